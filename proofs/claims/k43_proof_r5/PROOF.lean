import PyProof.Rows.All
import Wide.All
import OpenK.AllK
import Wide.FinOn
import Lean
import PyProof.EqAt
import PyProof.EqKinds
import PyProof.TupleCall
import PySem.Challenge.RW_keeplog_k43_whole_follower
set_option bootstrap.genMatcherCode false
set_option Elab.async false
set_option linter.all false
set_option maxRecDepth 100000
open PySem.W (Frag mg_of nsIn keepIn findIn mg_none_of hideAll kia_one fnOf emptyDict instObj)
namespace L2
open PySem PySem.Spec PyProof.Rows
noncomputable abbrev Key:=Sum Int Str
noncomputable def x5v:Key→Value→Bool
 | .inl k,v=>Value.isInt k v
 | .inr x,v=>Value.isStrOf x v
noncomputable def j8v (w:World):Key→Int
 | .inl k=>hashInt k
 | .inr x=>hashStr w x
theorem q2h:∀ {k:Key} {v:Value},x5v k v=true→(∃ i t,k=Sum.inl i∧v=Value.int i t)∨(∃ x t,k=Sum.inr x∧v=Value.str x t)
 | .inl i,v,h=>by
  obtain⟨t,e⟩:=Value.isInt_shape (k:=i) (v:=v) h
  exact .inl ⟨i,t,rfl,e⟩
 | .inr x,v,h=>by
  obtain⟨t,e⟩:=Value.isStrOf_shape (x:=x) (v:=v) h
  exact .inr ⟨x,t,rfl,e⟩
theorem z2f (i:Int) (t:Tok):x5v (.inl i) (.int i t)=true:=by simp [x5v,Value.isInt]
theorem z2q (x:Str) (t:Tok):x5v (.inr x) (.str x t)=true:=by simp [x5v,Value.isStrOf]
theorem j2m (a b:Int):decide ((Sum.inl a:Key)=Sum.inl b)=(a==b):=by
 by_cases e:a=b
 ·subst e; simp
 ·have h:¬ (Sum.inl a:Key)=Sum.inl b:=fun q=>e (Sum.inl.inj q)
  rw [decide_eq_false h]
  exact (beq_eq_false_iff_ne.mpr e).symm
theorem j3t (a b:Str):decide ((Sum.inr a:Key)=Sum.inr b)=decide (a=b):=by
 by_cases e:a=b
 ·subst e; simp
 ·have h:¬ (Sum.inr a:Key)=Sum.inr b:=fun q=>e (Sum.inr.inj q)
  rw [decide_eq_false h,decide_eq_false e]
theorem j3m (a:Int) (b:Str):decide ((Sum.inl a:Key)=Sum.inr b)=false:=decide_eq_false (fun q=>nomatch q)
theorem j2v (a:Str) (b:Int):decide ((Sum.inr a:Key)=Sum.inl b)=false:=decide_eq_false (fun q=>nomatch q)
noncomputable def q2x (prog:Program) (w:World):PySem.KeyKind prog w Key where
 is:=x5v
 hash:=j8v w
 inj:=fun v a b ha hb=>by
  rcases q2h ha with ⟨i,t,rfl,rfl⟩ | ⟨x,t,rfl,rfl⟩
  ·rcases q2h hb with ⟨j,u,rfl,e⟩ | ⟨y,u,rfl,e⟩
   ·injection e with e1 _; rw [e1]
   ·exact nomatch e
  ·rcases q2h hb with ⟨j,u,rfl,e⟩ | ⟨y,u,rfl,e⟩
   ·exact nomatch e
   ·injection e with e1 _; rw [e1]
 byValue:=fun k v h=>by
  rcases q2h h with ⟨i,t,rfl,rfl⟩ | ⟨x,t,rfl,rfl⟩ <;> rfl
 pyHash:=fun hv h=>by
  rcases q2h hv with ⟨i,t,rfl,rfl⟩ | ⟨x,t,rfl,rfl⟩
  ·exact wpAny_pyHash_int h
  ·exact wpAny_pyHash_str h
 eqBool:=fun hu hv h=>by
  rcases q2h hu with ⟨i,t,rfl,rfl⟩ | ⟨x,t,rfl,rfl⟩
  ·rcases q2h hv with ⟨j,u,rfl,rfl⟩ | ⟨y,u,rfl,rfl⟩
   ·rw [j2m] at h; exact wpAny_eqBool_int h
   ·rw [j3m] at h; exact SeqAt.EqAt.int_str i t y u _ _ _ _ h
  ·rcases q2h hv with ⟨j,u,rfl,rfl⟩ | ⟨y,u,rfl,rfl⟩
   ·rw [j2v] at h; exact SeqAt.EqAt.str_int x t j u _ _ _ _ h
   ·rw [j3t] at h; exact wpAny_eqBool_str h
 «strs»:=fun k x t v h=>by
  rcases q2h h with ⟨i,u,rfl,e⟩ | ⟨y,u,rfl,e⟩
  ·exact nomatch e
  ·injection e with e1 _
   subst e1
   cases v <;> rfl
theorem x6k (prog:Program) (w:World) (i:Int) (t:Tok):(q2x prog w).is (.inl i) (.int i t)=true:=z2f i t
theorem x6a (prog:Program) (w:World) (x:Str) (t:Tok):(q2x prog w).is (.inr x) (.str x t)=true:=z2q x t
inductive V where
 | non | bl (b:Bool) | int (i:Int) | str (x:Str) | byt (b:Array UInt8) | flt (b:UInt64) | ref (a:Addr) | ty (n:String)
 deriving DecidableEq
noncomputable def q3a:V→Value→Prop
 | .non,u=>u=Value.none
 | .bl b,u=>u=Value.bool b
 | .int i,u=>∃ t,u=Value.int i t
 | .str x,u=>∃ t,u=Value.str x t
 | .byt b,u=>∃ t,u=Value.bytes b t
 | .flt b,u=>∃ t,u=Value.float b t
 | .ref a,u=>u=Value.ref a
 | .ty n,u=>u=Value.type n
noncomputable abbrev q2i:List V→List Value→Prop:=Paired q3a
theorem q2i.length {xs:List V} {us:List Value} (r:q2i xs us):xs.length=us.length:=Paired.length r
theorem q2i.get:∀ {xs:List V} {us:List Value} {i:Nat} {x:V},q2i xs us→xs[i]? = some x→∃ u,us[i]? = some u∧q3a x u
 | _,_,_,_,.nil,e=>by simp at e
 | _,_,0,_,.cons r _,e=>by simp at e; subst e; exact⟨_,rfl,r⟩
 | _,_,i+1,x,.cons _ t,e=>by
  obtain⟨u,h1,h2⟩:=q2i.get (i:=i) (x:=x) t (by simpa using e)
  exact⟨u,by simpa using h1,h2⟩
theorem q2i.set {x:V} {u:Value} (r:q3a x u):∀ {xs:List V} {us:List Value} (i:Nat),q2i xs us→q2i (xs.set i x) (us.set i u)
 | _,_,_,.nil=>.nil
 | _,_,0,.cons _ t=>.cons r t
 | _,_,i+1,.cons q t=>.cons q (q2i.set r i t)
theorem q2i.append:∀ {xs ys:List V} {us ws:List Value},q2i xs us→q2i ys ws→q2i (xs++ys) (us++ws)
 | _,_,_,_,.nil,s=>s
 | _,_,_,_,.cons r t,s=>.cons r (q2i.append t s)
theorem q2i.take:∀ {xs:List V} {us:List Value} (n:Nat),q2i xs us→q2i (xs.take n) (us.take n)
 | _,_,0,_=>.nil
 | _,_,_+1,.nil=>.nil
 | _,_,n+1,.cons r t=>.cons r (q2i.take n t)
theorem q2i.drop:∀ {xs:List V} {us:List Value} (n:Nat),q2i xs us→q2i (xs.drop n) (us.drop n)
 | _,_,0,r=>r
 | _,_,_+1,.nil=>.nil
 | _,_,n+1,.cons _ t=>q2i.drop n t
noncomputable def x3x:Option V→Option Value→Prop
 | some v,some u=>q3a v u
 | none,none=>True
 | _,_=>False
noncomputable def KV {κ:Type}:List (κ × V)→List (κ × Value)→Prop:=Paired fun (p:κ × V) (q:κ × Value)=>p.1=q.1∧q3a p.2 q.2
noncomputable def kV:Key→V
 | .inl i=>.int i
 | .inr x=>.str x
inductive HO where
 | lst (xs:List V)
 | tup (xs:List V)
 | dK (kvs:List (Key × V)) | dT (kvs:List (List Key × V))
 | set (S:Int→Bool) (n:Nat)
 | ins (C dx:Addr) (fs:List (Str × V))
 | own (x:Addr)
 | xd (fs:List (Str × V))
 | met (f x:Addr)
 | rng (lo hi:Int)
 | frz (o:Obj) (u:HO)
 | tbl (ps:Array Value)
 | ext (φ:Heap→Prop)
noncomputable abbrev Hp:=Addr→Option HO
noncomputable def upd (H:Hp) (a:Addr) (o:HO):Hp:=fun b=>if b=a then some o else H b
theorem q0b {H:Hp} {a:Addr} {o:HO}:upd H a o a=some o:=by unfold upd; rw [if_pos rfl]
theorem q1c {H:Hp} {a b:Addr} {o:HO} (h:b≠a):upd H a o b=H b:=by unfold upd; rw [if_neg h]
theorem j5x {H:Hp} {a b:Addr} {o u:HO} (h:H a=some o) (h':H b=some u) (d:o≠u):a≠b:=by
 intro e; subst e; rw [h] at h'; exact d (Option.some.inj h')
theorem q1q {H:Hp} {a b:Addr} {o:HO} (h:H a=some o) (h':H b=none):a≠b:=by
 intro e; subst e; rw [h] at h'; cases h'
section
variable (P:Program) (w:World)
noncomputable def q3k (H:Hp) (h:Heap) (a:Addr):HO→Prop
 | .lst xs=>xs.length≤sizeLine∧∃ (its:List Value) (n:Nat),q2i xs its∧h.get? a=some { cls:=.type "list",data:=.seq its.toArray n }
 | .tup xs=>xs.length≤sizeLine∧∃ its:List Value,q2i xs its∧IsTup h a its.toArray
 | .dK kvs=>kvs.length≤sizeLine∧(a==sysModules)=false∧∃ vs,KV kvs vs∧h.DictOf (q2x P w) a vs
 | .dT kvs=>kvs.length≤sizeLine∧(a==sysModules)=false∧∃ xs:List (List Key × Addr × Value),
   Paired (fun (p:List Key × V) (q:List Key × Addr × Value)=>p.1=q.1∧H q.2.1=some (.tup (p.1.map kV))∧q3a p.2 q.2.2) kvs xs ∧
   ∃ o es ep,h.get? a=some o∧o.ExactDict∧o.data=.dict es ep∧es.toList=xs.map (entryOfKey (tupleKind (q2x P w)))∧(xs.map (·.1)).Nodup
 | .set S n=>h.SetOf (intKind P w) a S n
 | .ins C dx fs=>H dx=some (.own a)∧fs.length≤1000∧dx≠a∧h.get? a=some (instObj C dx) ∧
   ∃ mA,h.Ns1 dx mA∧(∀ f,x3x (fs.lookup f) (mA f))∧PySem.Within mA (fs.map (·.1))
 | .own _=>∃ o,h.get? a=some o
 | .xd fs=>∃ mA,h.Ns1 a mA∧∀ f,x3x (fs.lookup f) (mA f)
 | .rng lo hi=>∃ t u v,h.get? a=some { cls:=.type "range",data:=.fields #[.int lo t,.int hi u,.int 1 v] }
 | .frz o u=>h.get? a=some o∧q3k H h a u
 | .tbl ps=>h.get? a=some { cls:=.none,data:=.fields ps }
 | .met f x=>h.get? a=some (PySem.W.methodObj (.ref f) (.ref x))
 | .ext φ=>φ h∧(∃ o,h.get? a=some o)∧∀ h1 h2:Heap,φ h1→(∀ o,h1.get? a=some o→h2.get? a=some o)→φ h2
noncomputable def HOk (H:Hp) (h:Heap):Prop:=∀ a o,H a=some o→q3k P w H h a o
end
section
variable {P:Program} {w:World} {H H':Hp} {h h':Heap} {a:Addr} {o:HO}
theorem q3k.lt (x:q3k P w H h a o):a < h.objs.size:=by
 cases o with
 | lst xs=>obtain⟨_,_,_,_,e⟩:=x; exact Heap.lt_size e
 | tup xs=>obtain⟨_,_,_,p⟩:=x; exact p.lt
 | dK kvs=>obtain⟨_,_,_,_,o,_,_,e,_⟩:=x; exact Heap.lt_size e
 | dT kvs=>obtain⟨_,_,_,_,o,_,_,e,_⟩:=x; exact Heap.lt_size e
 | set S n=>obtain⟨o,_,_,_,e,_⟩:=x; exact Heap.lt_size e
 | ins C dx fs=>obtain⟨_,_,_,e,_⟩:=x; exact Heap.lt_size e
 | own y=>obtain⟨_,e⟩:=x; exact Heap.lt_size e
 | xd fs=>obtain⟨_,⟨_,_,_,e,_⟩,_⟩:=x; exact Heap.lt_size e
 | rng lo hi=>obtain⟨_,_,_,e⟩:=x; exact Heap.lt_size e
 | frz ob u=>obtain⟨e,_⟩:=x; exact Heap.lt_size e
 | tbl ps=>exact Heap.lt_size (show h.get? a=some _ from x)
 | met f y=>exact Heap.lt_size (show h.get? a=some _ from x)
 | ext φ=>obtain⟨_,⟨_,e⟩,_⟩:=x; exact Heap.lt_size e
theorem Paired.mapP {α β:Type} {F G:α→β→Prop}:∀ {l₁:List α} {l₂:List β},Paired F l₁ l₂→(∀ a b,F a b→G a b)→Paired G l₁ l₂
 | _,_,.nil,_=>.nil
 | _,_,.cons r t,f=>.cons (f _ _ r) (Paired.mapP t f)
theorem q3k.stay (x:q3k P w H h a o) (k:∀ b u,(b=a∨H b=some (.own a))→h.get? b=some u→h'.get? b=some u)
  (ho:∀ b,H b=some (.own a)→H' b=some (.own a)) (ht:∀ b xs,H b=some (.tup xs)→H' b=some (.tup xs)):q3k P w H' h' a o:=by
 induction o with
 | lst xs=>obtain⟨z,its,n,r,e⟩:=x; exact⟨z,its,n,r,k _ _ (.inl rfl) e⟩
 | tup xs=>obtain⟨z,its,r,ob,e,c⟩:=x; exact⟨z,its,r,ob,k _ _ (.inl rfl) e,c⟩
 | dK kvs=>obtain⟨z,y,vs,r,ob,es,ep,e,c⟩:=x; exact⟨z,y,vs,r,ob,es,ep,k _ _ (.inl rfl) e,c⟩
 | dT kvs =>
  obtain⟨z,y,xs,r,ob,es,ep,e,c⟩:=x
  exact⟨z,y,xs,Paired.mapP r fun p q z=>⟨z.1,ht _ _ z.2.1,z.2.2⟩,ob,es,ep,k _ _ (.inl rfl) e,c⟩
 | set S n=>obtain⟨ob,es,ep,t,e,c⟩:=x; exact⟨ob,es,ep,t,k _ _ (.inl rfl) e,c⟩
 | ins C dx fs =>
  obtain⟨d,z,ne,e,mA,⟨od,es,ep,e2,c⟩,r⟩:=x
  exact⟨ho _ d,z,ne,k _ _ (.inl rfl) e,mA,⟨od,es,ep,k _ _ (.inr d) e2,c⟩,r⟩
 | own y=>obtain⟨ob,e⟩:=x; exact⟨ob,k _ _ (.inl rfl) e⟩
 | xd fs=>obtain⟨mA,⟨od,es,ep,e,c⟩,r⟩:=x; exact⟨mA,⟨od,es,ep,k _ _ (.inl rfl) e,c⟩,r⟩
 | rng lo hi=>obtain⟨t,u,v,e⟩:=x; exact⟨t,u,v,k _ _ (.inl rfl) e⟩
 | frz ob u ih=>obtain⟨e,q⟩:=x; exact⟨k _ _ (.inl rfl) e,ih q⟩
 | tbl ps =>
  have e:h.get? a=some { cls:=.none,data:=.fields ps }:=x
  show h'.get? a=some { cls:=.none,data:=.fields ps }
  exact k a _ (.inl rfl) e
 | met f y =>
  have e:h.get? a=some (PySem.W.methodObj (.ref f) (.ref y)):=x
  show h'.get? a=some (PySem.W.methodObj (.ref f) (.ref y))
  exact k a _ (.inl rfl) e
 | ext φ=>obtain⟨p,⟨o,e⟩,st⟩:=x; exact⟨st _ _ p fun o q=>k _ _ (.inl rfl) q,⟨o,k _ _ (.inl rfl) e⟩,st⟩
theorem HOk.lt (x:HOk P w H h) (e:H a=some o):a < h.objs.size:=(x a o e).lt
theorem HOk.fresh (x:HOk P w H h) (e:h.objs.size≤a):H a=none:=by
 cases q:H a with
 | none=>rfl
 | some u=>exact absurd (Nat.lt_of_lt_of_le (x.lt q) e) (Nat.lt_irrefl _)
theorem HOk.kept (x:HOk P w H h) (k:∀ b u,h.get? b=some u→h'.get? b=some u):HOk P w H h':=fun a o e =>
 (x a o e).stay (fun b u _ q=>k b u q) (fun _ q=>q) fun _ _ q=>q
theorem HOk.laid (x:HOk P w H h) (k:∀ b u,h.get? b=some u→h'.get? b=some u) (hp:h.objs.size≤a) (new:q3k P w (upd H a o) h' a o):HOk P w (upd H a o) h':=fun b u e=>by
 have hn:=x.fresh hp
 by_cases hb:b=a
 ·subst hb; rw [q0b] at e; cases e; exact new
 ·rw [q1c hb] at e
  exact (x b u e).stay (fun c v _ q=>k c v q) (fun c q=>by rw [q1c (q1q q hn)]; exact q) fun c xs q=>by rw [q1c (q1q q hn)]; exact q
end
noncomputable def Rd (H:Hp) (a:Addr) (u:HO):Prop:=H a=some u∨∃ o,H a=some (.frz o u)
theorem Rd.ok {P:Program} {w:World} {H:Hp} {h:Heap} {a:Addr} {u:HO} (r:Rd H a u) (x:HOk P w H h):q3k P w H h a u:=by
 rcases r with r | ⟨o,r⟩
 ·exact x a u r
 ·obtain⟨_,q⟩:=x a _ r
  exact q
noncomputable def Mut:Option HO→Prop
 | some (.lst _)=>True
 | some (.dK _)=>True
 | some (.dT _)=>True
 | some (.set _ _)=>True
 | some (.ins _ _ _)=>True
 | some (.ext _)=>True
 | _=>False
section
variable {P:Program} {w:World} {H:Hp} {h h':Heap} {x e:Addr} {o':HO}
theorem HOk.write (ok:HOk P w H h) (mu:Mut (H x)) (he:e=x∨H e=some (.own x)) (k:∀ b u,b≠e→h.get? b=some u→h'.get? b=some u) (heo:∃ u,h'.get? e=some u)
  (new:q3k P w (upd H x o') h' x o'):HOk P w (upd H x o') h':=fun b u q=>by
 have nown:∀ c y,H c=some (.own y)→c≠x:=fun c y r z=>by subst z; rw [r] at mu; exact mu
 have ntup:∀ c xs,H c=some (.tup xs)→c≠x:=fun c xs r z=>by subst z; rw [r] at mu; exact mu
 by_cases hb:b=x
 ·subst hb; rw [q0b] at q; cases q; exact new
 ·rw [q1c hb] at q
  by_cases hbe:b=e
  ·have q':H b=some (.own x):=by
    rcases he with z | z
    ·exact absurd (hbe.trans z) hb
    ·rw [hbe]; exact z
   rw [q] at q'; cases q'
   obtain⟨v,hv⟩:=heo
   exact⟨v,by rw [hbe]; exact hv⟩
  ·refine (ok b u q).stay (fun c v hc r=>k c v ?_ r) (fun c r=>by rw [q1c (nown c b r)]; exact r) fun c xs r=>by rw [q1c (ntup c xs r)]; exact r
   rcases hc with rfl | hc
   ·exact hbe
   ·rintro rfl
    rcases he with z | z
    ·exact nown c b hc z
    ·rw [hc] at z; cases z; exact hb rfl
end
structure Un (fs ex:List Addr) (H H':Hp) (h h':Heap):Prop where
 keep:∀ b o,h.get? b=some o→H b=none→b∉fs→b∉ex→h'.get? b=some o
 slot:∀ b o,h.get? b=some o→H b=none→b∈fs→b∉ex→∃ sl,h'.get? b=some { o with slots:=sl }
 free:∀ b o,h.get? b=some o→H b=none→b∉ex→H' b=none
 there:∀ b o,h.get? b=some o→b∉ex→∃ o',h'.get? b=some o'
 tups:∀ b xs,H b=some (.tup xs)→H' b=some (.tup xs)
 frzs:∀ b o u,H b=some (.frz o u)→H' b=some (.frz o u)
 tbls:∀ b ps,H b=some (.tbl ps)→∃ more,H' b=some (.tbl (ps++more))
section
variable {fs fs' ex ex':List Addr} {H H1 H2:Hp} {h h1 h2 h':Heap} {a x e:Addr} {o:HO}
theorem Un.any (u:Un fs ex H H1 h h1) {b:Addr} {ob:Obj} (q:h.get? b=some ob) (n:H b=none) (hx:b∉ex):∃ sl,h1.get? b=some { ob with slots:=sl }:=by
 by_cases hb:b∈fs
 ·exact u.slot b ob q n hb hx
 ·exact⟨ob.slots,u.keep b ob q n hb hx⟩
theorem Un.kept (k:∀ b u,h.get? b=some u→h'.get? b=some u):Un fs ex H H h h' :=
 ⟨fun b ob q _ _ _=>k b ob q,fun b ob q _ _ _=>⟨ob.slots,k b ob q⟩,fun _ _ _ n _=>n,fun b ob q _=>⟨ob,k b ob q⟩,fun _ _ q=>q,fun _ _ _ q=>q,fun _ ps q=>⟨#[],by rw [q]; simp⟩⟩
theorem Un.refl:Un fs ex H H h h:=Un.kept fun _ _ q=>q
theorem Un.laid (k:∀ b u,h.get? b=some u→h'.get? b=some u) (hp:h.objs.size≤a) (hn:H a=none):Un fs ex H (upd H a o) h h' where
 keep:=fun b u q _ _ _=>k b u q
 slot:=fun b u q _ _ _=>⟨u.slots,k b u q⟩
 free:=fun b u q n _=>by rw [q1c (Nat.ne_of_lt (Nat.lt_of_lt_of_le (Heap.lt_size q) hp))]; exact n
 there:=fun b u q _=>⟨u,k b u q⟩
 tups:=fun b xs q=>by rw [q1c (q1q q hn)]; exact q
 frzs:=fun b u xs q=>by rw [q1c (q1q q hn)]; exact q
 tbls:=fun b ps q=>⟨#[],by rw [q1c (q1q q hn),q]; simp⟩
theorem Un.write (mu:Mut (H x)) (he:e=x∨H e=some (.own x)) (k:∀ b u,b≠e→h.get? b=some u→h'.get? b=some u) (heo:∃ u,h'.get? e=some u):Un fs ex H (upd H x o) h h':=by
 have hx:∀ b,H b=none→b≠x:=fun b n z=>by subst z; rw [n] at mu; exact mu
 have hb:∀ b,H b=none→b≠e:=fun b n z=>by
  subst z
  rcases he with r | r
  ·exact hx b n r
  ·rw [n] at r; cases r
 have hm:∀ b u,H b=some u→¬ Mut (some u)→b≠x:=fun b u q nm z=>by subst z; rw [q] at mu; exact nm mu
 refine⟨fun b u q n _ _=>k b u (hb b n) q,fun b u q n _ _=>⟨u.slots,k b u (hb b n) q⟩,fun b u q n _=>by rw [q1c (hx b n)]; exact n,fun b u q _=>?_,
  fun b xs q=>by rw [q1c (hm b _ q fun z=>z)]; exact q,fun b u xs q=>by rw [q1c (hm b _ q fun z=>z)]; exact q,fun b ps q=>⟨#[],by rw [q1c (hm b _ q fun z=>z),q]; simp⟩⟩
 by_cases hbe:b=e
 ·subst hbe; exact heo
 ·exact⟨u,k b u hbe q⟩
end
noncomputable def trk (h:Heap) (H:Hp):List Addr:=(List.range h.objs.size).filter fun a=>(H a).isSome
noncomputable def z4u (h:Heap) (H:Hp):Heap:=hideAll h (trk h H)
theorem z2l (h:Heap) (H:Hp):(z4u h H).objs.size=h.objs.size:=PySem.W.hideAll_size _ _
theorem z5i {h:Heap} {H:Hp} {b:Addr} {o:Obj} (e:h.get? b=some o) (n:H b=none):(z4u h H).get? b=some o :=
 PySem.W.hideAll_get _ e fun hm=>by
  have q:(H b).isSome=true:=(List.mem_filter.mp hm).2
  rw [n] at q; simp at q
theorem z8i {h:Heap} {H:Hp} {b:Addr} {o:Obj} (e:(z4u h H).get? b=some o):h.get? b=some o∧H b=none:=by
 have e':h.get? b=some o:=PySem.W.of_hideAll (trk h H) e
 refine⟨e',?_⟩
 cases q:H b with
 | none=>rfl
 | some x =>
  have hm:b∈trk h H:=List.mem_filter.mpr ⟨List.mem_range.mpr (Heap.lt_size e'),by simp [q]⟩
  have z:(z4u h H).get? b=none:=PySem.W.hideAll_none (trk h H) hm
  rw [z] at e; cases e
noncomputable def z8y (g h:Heap) (L:Addr):List (Addr × Obj):=(List.range h.objs.size).filterMap fun a=>if a=L∨(g.get? a).isSome=true then none else (h.get? a).map fun o=>(a,o)
noncomputable def q5g (g h:Heap) (L d:Addr):List (Addr × Obj):=(z8y g h L).filter fun p=>decide (p.1≠d)
structure Mod (K:Frag) (mg:Str→Option Value) (base:Heap):Prop where
 kin:K.In base
 glob:base.Ns mainGlobals mg
 blt:∃ mb,base.Ns builtinsNs mb∧∀ x:Str,x ≠ "__name__" → mb x=bootBuiltins x
 nolimit:base.NoLimit
structure Cx where
 prog:Program
 w:World
 K:Frag
 mg:Str→Option Value
 base:Heap
 A:Around
 N:List Str
 s₀:Shared
 H₀:Hp
 env:Env
 outer:List Env
 stack:List Env
 ex:List Addr
 fn:Str→Bool
 calm:Bool
 pn:List (Addr × Obj)
 xe:Value→Shared→Prop
noncomputable def frs (l:List Env):List Addr:=l.filterMap (·.frame)
noncomputable abbrev Cx.fs (X:Cx):List Addr:=frs X.outer
noncomputable def Vis (sc:Scope) (x:Str):Prop:=sc.names.lookup x=some .local∨sc.names.lookup x=some .cell∨sc.names.lookup x=some .free
noncomputable def Loc (sc:Scope) (x:Str):Prop:=sc.names.lookup x=some .local∨sc.names.lookup x=some .cell
noncomputable def j7x (env:Env) (h:Heap) (m:Str→Option Value) (x:Str) (u:Value):Prop :=
 (env.kindOf x=some .local∧m x=some u)∨((env.kindOf x=some .cell∨env.kindOf x=some .free)∧∃ c,env.cells.lookup x=some c∧h.IsCell c (some u))
structure Cx.Ok (X:Cx):Prop where
 mod:Mod X.K X.mg X.base
 kind:X.env.scope.kind=.function
 glob:X.env.globals=mainGlobals
 blt:X.env.builtins=builtinsNs
 above:X.s₀.heap.objs.size≤X.env.locals
 inj:∀ x y c,X.env.cells.lookup x=some c→X.env.cells.lookup y=some c→x=y
 has:∀ x,(X.env.kindOf x=some .cell∨X.env.kindOf x=some .free)→∃ c,X.env.cells.lookup x=some c
 cab:∀ x c,X.fn x=true→X.env.cells.lookup x=some c→X.s₀.heap.objs.size≤c
 hd:X.calm=true→X.A.handled=none
 frames:X.A.frames=some X.stack
 stk:X.stack=X.outer∨(X.stack=X.env::X.outer∧X.env.frame=some X.env.locals)
 exf:∀ b∈X.ex,b≠X.env.locals∧∀ x c,X.env.cells.lookup x=some c→c≠b
 bs:∀ b o,X.base.get? b=some o→X.s₀.heap.get? b=some o∧X.H₀ b=none
 bsz:X.base.objs.size≤X.s₀.heap.objs.size
 noex:∀ b o,X.base.get? b=some o→b∉X.ex
 exfs:∀ b∈X.ex,b∉X.fs
 funs:X.s₀.heap.FunFrames X.base X.outer
 frf:∀ b∈X.fs,X.H₀ b=none
structure Inv (X:Cx) (pins:List (Addr × Obj)) (σ:List (Option V)) (H:Hp) (s:Shared):Prop where
 ok:X.Ok
 os:s.os=X.s₀.os
 bare:AllBare s.gens
 base:Un X.fs X.ex X.H₀ H X.s₀.heap s.heap
 loc:∃ m,s.heap.Ns X.env.locals m∧∀ (i:Nat) (x:Str) (v:V),X.N[i]? = some x→σ[i]? = some (some v)→Vis X.env.scope x→∃ u,q3a v u∧j7x X.env s.heap m x u
 cell:∀ x c,X.env.cells.lookup x=some c→∃ v,s.heap.IsCell c v
 free:H X.env.locals=none
 freeC:∀ x c,X.env.cells.lookup x=some c→H c=none
 pin:∀ p∈X.pn++pins,s.heap.get? p.1=some p.2∧H p.1=none∧p.1≠X.env.locals∧p.1∉X.fs∧∀ v,p.2.data≠.cell v
 hok:HOk X.prog X.w H s.heap
 len:σ.length=X.N.length
section
variable {X:Cx} {pins:List (Addr × Obj)} {σ:List (Option V)} {H H':Hp} {s:Shared} {h':Heap}
theorem Cx.Ok.nofr (ok:X.Ok) {b:Addr} {o:Obj} (e:X.base.get? b=some o):b∉X.fs:=fun hb=>by
 have:=(ok.funs.mem hb).1
 rw [e] at this; cases this
theorem Inv.bs (I:Inv X pins σ H s):∀ b o,X.base.get? b=some o→s.heap.get? b=some o∧H b=none:=fun b o e =>
 ⟨I.base.keep b o (I.ok.bs b o e).1 (I.ok.bs b o e).2 (I.ok.nofr e) (I.ok.noex b o e),I.base.free b o (I.ok.bs b o e).1 (I.ok.bs b o e).2 (I.ok.noex b o e)⟩
theorem Inv.bk (I:Inv X pins σ H s):∀ b o,X.base.get? b=some o→s.heap.get? b=some o:=fun b o e=>(I.bs b o e).1
theorem Inv.mod (I:Inv X pins σ H s):Mod X.K X.mg X.base:=I.ok.mod
theorem Inv.kIn (I:Inv X pins σ H s):X.K.In s.heap:=I.ok.mod.kin.keeps I.bk
theorem Inv.lt (I:Inv X pins σ H s):X.env.locals < s.heap.objs.size:=let ⟨_,hn,_⟩:=I.loc; hn.lt
theorem Inv.sz (I:Inv X pins σ H s):X.s₀.heap.objs.size≤s.heap.objs.size:=Nat.le_trans I.ok.above (Nat.le_of_lt I.lt)
theorem Inv.nofs (I:Inv X pins σ H s) {a:Addr} (h:s.heap.objs.size≤a):a∉X.fs:=fun hb=>by
 obtain⟨_,o,ho,_⟩:=I.ok.funs.mem hb
 exact absurd (Nat.lt_of_lt_of_le (Heap.lt_size ho) (Nat.le_trans I.sz h)) (Nat.lt_irrefl _)
theorem Inv.cne (I:Inv X pins σ H s):∀ x c,X.env.cells.lookup x=some c→c≠X.env.locals:=fun x c e z=>by
 obtain⟨v,o,ho,hd⟩:=I.cell x c e
 obtain⟨m,⟨o',es,ep,ho',hd',_⟩,_⟩:=I.loc
 rw [z,ho'] at ho; cases ho; rw [hd'] at hd; cases hd
theorem Inv.funs (I:Inv X pins σ H s):s.heap.FunFrames X.base X.outer:=by
 have all:∀ (l:List Env),(∀ b∈frs l,b∈X.fs)→X.s₀.heap.FunFrames X.base l→s.heap.FunFrames X.base l:=by
  intro l
  induction l with
  | nil=>intro _ _; trivial
  | cons env r ih =>
   intro hs hl
   obtain⟨hk,⟨L,o,hf,hn,ho,hd⟩,hr⟩:=hl
   have hL:L∈X.fs:=hs L (by unfold frs; rw [List.filterMap_cons,hf]; exact List.mem_cons_self)
   obtain⟨sl,e⟩:=I.base.slot L o ho (I.ok.frf L hL) hL fun z=>I.ok.exfs L z hL
   exact⟨hk,⟨L,_,hf,hn,e,hd⟩,ih (fun b hb=>hs b (by unfold frs; rw [List.filterMap_cons,hf]; exact List.mem_cons_of_mem _ hb)) hr⟩
 exact all X.outer (fun _ hb=>hb) I.ok.funs
theorem Inv.stack (I:Inv X pins σ H s):s.heap.FunFrames X.base X.stack:=by
 rcases I.ok.stk with e | ⟨e,hf⟩
 ·rw [e]; exact I.funs
 ·rw [e]
  obtain⟨m,hn,_⟩:=I.loc
  refine .cons (by rw [I.ok.kind]; decide) hf hn ?_ I.funs
  exact Heap.get?_none_of_le (Nat.le_trans I.ok.bsz I.ok.above)
theorem Inv.stkSub (I:Inv X pins σ H s):∀ b∈frs X.stack,b∈X.env.locals::X.fs:=fun b hb=>by
 rcases I.ok.stk with e | ⟨e,hf⟩
 ·rw [e] at hb; exact List.mem_cons_of_mem _ hb
 ·rw [e] at hb
  unfold frs at hb
  rw [List.filterMap_cons,hf] at hb
  exact hb
theorem Inv.stkFree (I:Inv X pins σ H s):∀ b∈frs X.stack,H b=none:=fun b hb=>by
 rcases List.mem_cons.mp (I.stkSub b hb) with e | hb
 ·rw [e]; exact I.free
 ·obtain⟨_,o,ho,_⟩:=I.ok.funs.mem hb
  exact I.base.free b o ho (I.ok.frf b hb) fun z=>I.ok.exfs b z hb
theorem Inv.step {g':Array GenState} {t':Nat} {d':Drawn} {ch:List Addr} (I:Inv X pins σ H s)
  (hch:∀ b∈ch,(b∈X.ex∨X.s₀.heap.objs.size≤b)∧b≠X.env.locals∧(∀ x c,X.env.cells.lookup x=some c→c≠b)∧∀ p∈X.pn++pins,p.1≠b)
  (keep:∀ b o,b≠X.env.locals→b∉X.fs→b∉ch→s.heap.get? b=some o→H b=none→h'.get? b=some o)
  (slot:∀ b o,b≠X.env.locals→b∈X.fs→b∉ch→s.heap.get? b=some o→H b=none→∃ sl,h'.get? b=some { o with slots:=sl }) (free:∀ b o,b∉ch→s.heap.get? b=some o→H b=none→H' b=none)
  (there:∀ b o,b∉ch→s.heap.get? b=some o→∃ o',h'.get? b=some o')
  (tups:∀ b xs,H b=some (.tup xs)→H' b=some (.tup xs)) (frzs:∀ b o u,H b=some (.frz o u)→H' b=some (.frz o u)) (tbls:∀ b ps,H b=some (.tbl ps)→∃ more,H' b=some (.tbl (ps++more)))
  (ns:∀ m,s.heap.Ns X.env.locals m→h'.Ns X.env.locals m) (hok:HOk X.prog X.w H' h') (hg:AllBare g') :
  Inv X pins σ H' { s with heap:=h',gens:=g',drawn:=d',toks:=t' }:=by
 have neL:∀ b o,X.s₀.heap.get? b=some o→b≠X.env.locals:=fun b o e=>Nat.ne_of_lt (Nat.lt_of_lt_of_le (Heap.lt_size e) I.ok.above)
 have neC:∀ b o,X.s₀.heap.get? b=some o→b∉X.ex→b∉ch:=fun b o e hx hb=>by
  rcases (hch b hb).1 with z | z
  ·exact hx z
  ·exact absurd (Nat.lt_of_lt_of_le (Heap.lt_size e) z) (Nat.lt_irrefl _)
 have cellK:∀ x c,X.env.cells.lookup x=some c→∀ v,s.heap.IsCell c v→h'.IsCell c v:=fun x c e v ⟨o,ho,hd⟩=>by
  have nch:c∉ch:=fun z=>(hch c z).2.2.1 x c e rfl
  by_cases hc:c∈X.fs
  ·obtain⟨sl,q⟩:=slot c o (I.cne x c e) hc nch ho (I.freeC x c e)
   exact⟨_,q,hd⟩
  ·exact⟨o,keep c o (I.cne x c e) hc nch ho (I.freeC x c e),hd⟩
 refine⟨I.ok,I.os,hg,⟨fun b o e n hb hx=>?_,fun b o e n hb hx=>?_,fun b o e n hx=>?_,fun b o e hx=>?_,fun b xs e=>tups b xs (I.base.tups b xs e),fun b o xs e=>frzs b o xs (I.base.frzs b o xs e),fun b ps e=>?_⟩,?_,fun x c e=>?_,?_,fun x c e=>?_,fun p hp=>?_,hok,I.len⟩
 ·exact keep b o (neL b o e) hb (neC b o e hx) (I.base.keep b o e n hb hx) (I.base.free b o e n hx)
 ·obtain⟨sl,e1⟩:=I.base.slot b o e n hb hx
  obtain⟨sl',e2⟩:=slot b _ (neL b o e) hb (neC b o e hx) e1 (I.base.free b o e n hx)
  exact⟨sl',e2⟩
 ·obtain⟨o',e1⟩:=I.base.there b o e hx
  exact free b o' (neC b o e hx) e1 (I.base.free b o e n hx)
 ·obtain⟨o',e1⟩:=I.base.there b o e hx
  exact there b o' (neC b o e hx) e1
 ·obtain⟨m1,e1⟩:=I.base.tbls b ps e
  obtain⟨m2,e2⟩:=tbls b _ e1
  exact⟨m1++m2,by rw [e2,Array.append_assoc]⟩
 ·obtain⟨m,hn,hl⟩:=I.loc
  refine⟨m,ns m hn,fun i x v e1 e2 e3=>?_⟩
  obtain⟨u,r,l⟩:=hl i x v e1 e2 e3
  refine⟨u,r,?_⟩
  rcases l with l | ⟨k,c,e,z⟩
  ·exact .inl l
  ·exact .inr ⟨k,c,e,cellK x c e _ z⟩
 ·obtain⟨v,z⟩:=I.cell x c e
  exact⟨v,cellK x c e v z⟩
 ·obtain⟨m,⟨o,_,_,ho,_⟩,_⟩:=I.loc
  exact free _ o (fun z=>(hch _ z).2.1 rfl) ho I.free
 ·obtain⟨v,o,ho,hd⟩:=I.cell x c e
  exact free c o (fun z=>(hch c z).2.2.1 x c e rfl) ho (I.freeC x c e)
 ·obtain⟨e,n,ne,nf,d⟩:=I.pin p hp
  have nch:p.1∉ch:=fun z=>(hch p.1 z).2.2.2 p hp rfl
  exact⟨keep p.1 p.2 ne nf nch e n,free p.1 p.2 nch e n,ne,nf,d⟩
theorem Inv.un {t':Nat} (I:Inv X pins σ H s) (u:Un X.fs [] H H' s.heap h') (hok:HOk X.prog X.w H' h'):Inv X pins σ H' { s with heap:=h',toks:=t' }:=by
 obtain⟨m,⟨o,es,ep,ho,r⟩,_⟩:=id I.loc
 obtain⟨sl,hL⟩:=u.any ho I.free (by simp)
 exact I.step (g':=s.gens) (d':=s.drawn) (ch:=[]) (fun _ z=>nomatch z) (fun b o _ hb _ e n=>u.keep b o e n hb (by simp)) (fun b o _ hb _ e n=>u.slot b o e n hb (by simp)) (fun b o _ e n=>u.free b o e n (by simp)) (fun b o _ e=>u.there b o e (by simp)) u.tups u.frzs u.tbls (fun m' hm=>by
  obtain⟨o',es',ep',ho',r'⟩:=hm
  rw [ho] at ho'; cases ho'
  exact⟨_,es',ep',hL,r'⟩) hok I.bare
theorem Inv.call {g':Array GenState} {t':Nat} {d':Drawn} {ch:List Addr} (I:Inv X pins σ H s) (u:Un (frs X.stack) ch H H' s.heap h') (hok:HOk X.prog X.w H' h') (hg:AllBare g')
  (hch:∀ b∈ch,(b∈X.ex∨X.s₀.heap.objs.size≤b)∧b≠X.env.locals∧(∀ x c,X.env.cells.lookup x=some c→c≠b)∧∀ p∈X.pn++pins,p.1≠b) :
  Inv X pins σ H' { s with heap:=h',gens:=g',drawn:=d',toks:=t' }:=by
 obtain⟨m,⟨o,es,ep,ho,r⟩,_⟩:=id I.loc
 obtain⟨sl,hL⟩:=u.any ho I.free fun z=>(hch _ z).2.1 rfl
 exact I.step (ch:=ch) hch (fun b o hL hb hc e n=>u.keep b o e n (fun z=>(List.mem_cons.mp (I.stkSub b z)).elim hL hb) hc) (fun b o _ _ hc e n=>u.any e n hc) (fun b o hc e n=>u.free b o e n hc) (fun b o hc e=>u.there b o e hc) u.tups u.frzs u.tbls (fun m' hm=>by
  obtain⟨o',es',ep',ho',r'⟩:=hm
  rw [ho] at ho'; cases ho'
  exact⟨_,es',ep',hL,r'⟩) hok hg
theorem Inv.turned {t':Nat} {it:Addr} (I:Inv X pins σ H s) (k:∀ b o,b≠it→s.heap.get? b=some o→h'.get? b=some o) (hn:H it=none) (hL:it≠X.env.locals)
  (h1:it∈X.ex∨X.s₀.heap.objs.size≤it) (h2:∀ x c,X.env.cells.lookup x=some c→c≠it) (h3:∀ p∈X.pn++pins,p.1≠it):Inv X pins σ H { s with heap:=h',toks:=t' }:=by
 have nit:∀ b u,H b=some u→b≠it:=fun b u e z=>by rw [z,hn] at e; cases e
 refine I.step (g':=s.gens) (d':=s.drawn) (ch:=[it]) (fun b hb=>?_) (fun b o _ _ hc e _=>k b o (fun z=>hc (by simp [z])) e) (fun b o _ _ hc e _=>⟨o.slots,k b o (fun z=>hc (by simp [z])) e⟩) (fun _ _ _ _ n=>n)
  (fun b o hc e=>⟨o,k b o (fun z=>hc (by simp [z])) e⟩) (fun _ _ e=>e) (fun _ _ _ e=>e) (fun b ps e=>⟨#[],by rw [e]; simp⟩) (fun m hm=>?_) (fun b u e=>?_) I.bare
 ·have e:b=it:=by simpa using hb
  subst e
  exact⟨h1,hL,h2,h3⟩
 ·obtain⟨o,es,ep,ho,r⟩:=hm
  exact⟨o,es,ep,k _ o (Ne.symm hL) ho,r⟩
 ·refine (I.hok b u e).stay (fun c v hc q=>k c v ?_ q) (fun _ q=>q) fun _ _ q=>q
  rcases hc with z | z
  ·rw [z]; exact nit b u e
  ·exact nit c _ z
theorem Inv.tok (I:Inv X pins σ H s) (t:Nat):Inv X pins σ H { s with toks:=t }:=I.un (h':=s.heap) (t':=t) Un.refl I.hok
theorem Inv.kept {t':Nat} (I:Inv X pins σ H s) (k:∀ b u,s.heap.get? b=some u→h'.get? b=some u):Inv X pins σ H { s with heap:=h',toks:=t' }:=I.un (Un.kept k) (I.hok.kept k)
theorem Inv.laid {a:Addr} {o:HO} {t':Nat} (I:Inv X pins σ H s) (k:∀ b u,s.heap.get? b=some u→h'.get? b=some u) (hp:s.heap.objs.size≤a) (new:q3k X.prog X.w (upd H a o) h' a o) :
  Inv X pins σ (upd H a o) { s with heap:=h',toks:=t' }:=I.un (Un.laid k hp (I.hok.fresh hp)) (I.hok.laid k hp new)
theorem Inv.write {x e:Addr} {o:HO} {t':Nat} (I:Inv X pins σ H s) (mu:Mut (H x)) (he:e=x∨H e=some (.own x)) (k:∀ b u,b≠e→s.heap.get? b=some u→h'.get? b=some u) (heo:∃ u,h'.get? e=some u)
  (new:q3k X.prog X.w (upd H x o) h' x o):Inv X pins σ (upd H x o) { s with heap:=h',toks:=t' }:=I.un (Un.write mu he k heo) (I.hok.write mu he k heo new)
theorem Inv.pins_of {pins':List (Addr × Obj)} (I:Inv X pins σ H s) (h:∀ p∈pins',s.heap.get? p.1=some p.2∧H p.1=none∧p.1≠X.env.locals∧p.1∉X.fs∧∀ v,p.2.data≠.cell v):Inv X pins' σ H s :=
 ⟨I.ok,I.os,I.bare,I.base,I.loc,I.cell,I.free,I.freeC,fun p hp=>(List.mem_append.mp hp).elim (fun z=>I.pin p (List.mem_append_left _ z)) (h p),I.hok,I.len⟩
theorem x7z {N:List Str} (hN:N.Nodup) {i j:Nat} {x:Str} (a:N[i]? = some x) (b:N[j]? = some x):i=j:=by
 obtain⟨h1,e1⟩:=List.getElem?_eq_some_iff.mp a
 obtain⟨h2,e2⟩:=List.getElem?_eq_some_iff.mp b
 exact (List.getElem_inj hN).mp (e1.trans e2.symm)
theorem x5c {M:Model} {A:Around} {E:Value→Shared→Prop} {i:Nat} {x:Str} {v:V} {u:Value} {Q:Unit→Shared→Prop} (I:Inv X pins σ H s) (hN:X.N.Nodup) (hi:X.N[i]? = some x) (hx:Loc X.env.scope x) (r:q3a v u)
  (h:∀ s',Inv X pins (σ.set i (some v)) H s'→(∃ a,Heap.SameBut a s.heap s'.heap∧(a=X.env.locals∨X.env.cells.lookup x=some a))→Q () s') (hf:X.fn x=true∨X.env.scope.names.lookup x=some .local:=by first | exact .inl rfl | exact .inr rfl | assumption):wpAny M A (storeName X.env x u) Q E s:=by
 obtain⟨m,hn,hl⟩:=id I.loc
 have hcls:(X.env.scope.kind==.class || (X.env.scope.kind==.module && X.env.locals != X.env.globals))=false:=by rw [I.ok.kind]; rfl
 have hiσ:i < σ.length:=by rw [I.len]; exact (List.getElem?_eq_some_iff.mp hi).1
 have cne:=I.cne
 have tracked:∀ {a:Addr} {h':Heap},(∃ o,s.heap.get? a=some o∧H a=none)→Heap.SameBut a s.heap h'→HOk X.prog X.w H h':=fun {a h'} ha hs b ob e=>by
  obtain⟨_,_,hfree⟩:=ha
  refine (I.hok b ob e).stay (fun c w' hc q=>(hs.2 c ?_).trans q) (fun _ q=>q) fun _ _ q=>q
  rintro rfl
  rcases hc with rfl | hc
  ·rw [hfree] at e; cases e
  ·rw [hfree] at hc; cases hc
 rcases hx with hk | hk
 ·refine wpAny_storeName_local hk hn (fun h' hn' hs=>?_) hcls
  obtain⟨oL,_,_,hoL,_⟩:=id hn
  refine h _ ⟨I.ok,I.os,I.bare,⟨fun b o e n hb hx=>?_,fun b o e n hb hx=>?_,I.base.free,fun b o e hx=>?_,I.base.tups,I.base.frzs,I.base.tbls⟩,⟨_,hn',fun j y v' e1 e2 e3=>?_⟩,fun y c e=>?_,I.free,I.freeC,fun p hp=>?_,tracked ⟨oL,hoL,I.free⟩ hs,by simpa using I.len⟩ ⟨_,hs,.inl rfl⟩
  ·exact (hs.2 b (Nat.ne_of_lt (Nat.lt_of_lt_of_le (Heap.lt_size e) I.ok.above))).trans (I.base.keep b o e n hb hx)
  ·obtain⟨sl,e1⟩:=I.base.slot b o e n hb hx
   exact⟨sl,(hs.2 b (Nat.ne_of_lt (Nat.lt_of_lt_of_le (Heap.lt_size e) I.ok.above))).trans e1⟩
  ·obtain⟨o',e1⟩:=I.base.there b o e hx
   exact⟨o',(hs.2 b (Nat.ne_of_lt (Nat.lt_of_lt_of_le (Heap.lt_size e) I.ok.above))).trans e1⟩
  ·by_cases hj:j=i
   ·subst hj
    rw [hi] at e1; cases e1
    rw [List.getElem?_set_self hiσ] at e2
    cases e2
    exact⟨u,r,.inl ⟨hk,by simp⟩⟩
   ·rw [List.getElem?_set_ne (Ne.symm hj)] at e2
    obtain⟨u',r',q⟩:=hl j y v' e1 e2 e3
    refine⟨u',r',?_⟩
    rcases q with ⟨k,e⟩ | ⟨k,c,e,z⟩
    ·refine .inl ⟨k,?_⟩
     have:y≠x:=fun e=>hj (x7z hN e1 (e▸hi))
     simp [this,e]
    ·exact .inr ⟨k,c,e,z.sameBut hs (cne y c e)⟩
  ·obtain⟨w',z⟩:=I.cell y c e
   exact⟨w',z.sameBut hs (cne y c e)⟩
  ·obtain⟨e,n,ne,nf,d⟩:=I.pin p hp
   exact⟨(hs.2 p.1 ne).trans e,n,ne,nf,d⟩
 ·have hfn:X.fn x=true:=by
   rcases hf with z | z
   ·exact z
   ·rw [z] at hk; cases hk
  obtain⟨c,hc⟩:=I.ok.has x (.inl hk)
  obtain⟨w',z⟩:=I.cell x c hc
  refine wpAny_storeName_cell I.ok.kind hk hc z (fun h' hc' hs=>?_)
  obtain⟨oc,hoc,hocd⟩:=id z
  refine h { s with heap:=h' } ⟨I.ok,I.os,I.bare,⟨fun b o e n hb hx=>?_,fun b o e n hb hx=>?_,I.base.free,fun b o e hx=>?_,I.base.tups,I.base.frzs,I.base.tbls⟩,⟨m,hn.sameBut hs (Ne.symm (cne x c hc)),fun j y v' e1 e2 e3=>?_⟩,fun y c' e=>?_,I.free,I.freeC,fun p hp=>?_,tracked ⟨oc,hoc,I.freeC x c hc⟩ hs,by simpa using I.len⟩ ⟨c,hs,.inr hc⟩
  ·exact (hs.2 b (Nat.ne_of_lt (Nat.lt_of_lt_of_le (Heap.lt_size e) (I.ok.cab x c hfn hc)))).trans (I.base.keep b o e n hb hx)
  ·obtain⟨sl,e1⟩:=I.base.slot b o e n hb hx
   exact⟨sl,(hs.2 b (Nat.ne_of_lt (Nat.lt_of_lt_of_le (Heap.lt_size e) (I.ok.cab x c hfn hc)))).trans e1⟩
  ·obtain⟨o',e1⟩:=I.base.there b o e hx
   exact⟨o',(hs.2 b (Nat.ne_of_lt (Nat.lt_of_lt_of_le (Heap.lt_size e) (I.ok.cab x c hfn hc)))).trans e1⟩
  ·by_cases hj:j=i
   ·subst hj
    rw [hi] at e1; cases e1
    rw [List.getElem?_set_self hiσ] at e2
    cases e2
    exact⟨u,r,.inr ⟨.inl hk,c,hc,hc'⟩⟩
   ·rw [List.getElem?_set_ne (Ne.symm hj)] at e2
    obtain⟨u',r',q⟩:=hl j y v' e1 e2 e3
    refine⟨u',r',?_⟩
    rcases q with q | ⟨k,c',e,z'⟩
    ·exact .inl q
    ·refine .inr ⟨k,c',e,z'.sameBut hs ?_⟩
     rintro rfl
     exact hj (x7z hN e1 (I.ok.inj _ _ _ e hc▸hi))
  ·by_cases hcc:c'=c
   ·subst hcc; exact⟨_,hc'⟩
   ·obtain⟨w2,z2⟩:=I.cell y c' e
    exact⟨w2,z2.sameBut hs hcc⟩
  ·obtain⟨e,n,ne,nf,d⟩:=I.pin p hp
   refine⟨(hs.2 p.1 ?_).trans e,n,ne,nf,d⟩
   intro q
   rw [q,hoc] at e
   have q':oc=p.2:=Option.some.inj e
   exact d w' (by rw [← q']; exact hocd)
theorem x8c {M:Model} {A:Around} {E:Value→Shared→Prop} {i:Nat} {x:Str} {v:V} {u:Value} {Q:Unit→Shared→Prop} (I:Inv X pins σ H s) (hN:X.N.Nodup) (hi:X.N[i]? = some x) (hx:Loc X.env.scope x) (r:q3a v u)
  (h:∀ s',Inv X pins (σ.set i (some v)) H s'→Q () s') (hf:X.fn x=true∨X.env.scope.names.lookup x=some .local:=by first | exact .inl rfl | exact .inr rfl | assumption):wpAny M A (storeName X.env x u) Q E s :=
 x5c I hN hi hx r (fun s' I' _=>h s' I') hf
theorem Inv.call' {s':Shared} {ch:List Addr} (I:Inv X pins σ H s) (ho:s'.os=s.os) (u:Un (frs X.stack) ch H H' s.heap s'.heap) (hok:HOk X.prog X.w H' s'.heap) (hg:AllBare s'.gens)
  (hch:∀ b∈ch,(b∈X.ex∨X.s₀.heap.objs.size≤b)∧b≠X.env.locals∧(∀ x c,X.env.cells.lookup x=some c→c≠b)∧∀ p∈X.pn++pins,p.1≠b):Inv X pins σ H' s':=by
 obtain⟨h',g',d',t',o'⟩:=s'
 have e:o'=s.os:=ho
 subst e
 exact I.call (g':=g') (t':=t') (d':=d') u hok hg hch
end
noncomputable abbrev XK:=Value→Option Addr→Hp→Prop
noncomputable abbrev St:=List (Option V)
noncomputable abbrev VK:=V→Hp→Prop
noncomputable abbrev TE:=St→Hp→VK→Prop
noncomputable abbrev TT:=St→Hp→(Bool→Hp→Prop)→Prop
noncomputable abbrev TA:=St→Hp→(List V→Hp→Prop)→Prop
structure Ends where
 nx:St→Hp→Prop
 rt:VK
 bk:St→Hp→Prop:=fun _ _=>False
 ct:St→Hp→Prop:=fun _ _=>False
noncomputable abbrev TS:=Ends→St→Hp→Prop
noncomputable def EP (X:Cx) (pins:List (Addr × Obj)) (σ:St) (Q:VK) (u:Value) (s':Shared):Prop:=∃ v H',Inv X pins σ H' s'∧q3a v u∧Q v H'
noncomputable def TP (X:Cx) (pins:List (Addr × Obj)) (σ:St) (Q:Bool→Hp→Prop) (b:Bool) (s':Shared):Prop:=∃ H',Inv X pins σ H' s'∧Q b H'
noncomputable def AP (X:Cx) (pins:List (Addr × Obj)) (σ:St) (Q:List V→Hp→Prop) (us:List Value) (s':Shared):Prop:=∃ vs H',Inv X pins σ H' s'∧q2i vs us∧Q vs H'
noncomputable def SP (X:Cx) (pins:List (Addr × Obj)) (D:Ends) (f:Flow) (s':Shared):Prop :=
 match f with
 | .next=>∃ σ' H',Inv X pins σ' H' s'∧D.nx σ' H'
 | .brk=>∃ σ' H',Inv X pins σ' H' s'∧D.bk σ' H'
 | .cont=>∃ σ' H',Inv X pins σ' H' s'∧D.ct σ' H'
 | .ret u=>∃ v σ' H',Inv X pins σ' H' s'∧q3a v u∧D.rt v H'
noncomputable def PE (X:Cx) (e:Expr) (t:TE):Prop :=
 ∀ (pins:List (Addr × Obj)) (s:Shared) (σ:St) (H:Hp) (Q:VK),Inv X pins σ H s→t σ H Q→wpAny (model X.prog X.w) X.A (eval e X.env) (EP X pins σ Q) X.xe s
noncomputable def PT (X:Cx) (e:Expr) (t:TT):Prop :=
 ∀ (pins:List (Addr × Obj)) (s:Shared) (σ:St) (H:Hp) (Q:Bool→Hp→Prop),Inv X pins σ H s→t σ H Q→wpAny (model X.prog X.w) X.A (isTrue e X.env (eval e X.env)) (TP X pins σ Q) X.xe s
noncomputable def PW (X:Cx) (e:Expr) (t:TT):Prop :=
 ∀ (whole:Sem Value) (pins:List (Addr × Obj)) (s:Shared) (σ:St) (H:Hp) (Q:Bool→Hp→Prop),Inv X pins σ H s→t σ H Q→wpAny (model X.prog X.w) X.A (isTrue e X.env whole) (TP X pins σ Q) X.xe s
theorem PW.pt {X:Cx} {e:Expr} {t:TT} (h:PW X e t):PT X e t:=h _
noncomputable def PA (X:Cx) (es:List Expr) (t:TA):Prop :=
 ∀ (pos:Pos) (pins:List (Addr × Obj)) (s:Shared) (σ:St) (H:Hp) (Q:List V→Hp→Prop),Inv X pins σ H s→t σ H Q→wpAny (model X.prog X.w) X.A (spliced (backTo pos (starEach es X.env))) (AP X pins σ Q) X.xe s
noncomputable def PS (X:Cx) (st:Stmt) (t:TS):Prop :=
 ∀ (pins:List (Addr × Obj)) (s:Shared) (σ:St) (H:Hp) (D:Ends),Inv X pins σ H s→t D σ H→wpAny (model X.prog X.w) X.A (exec st X.env) (SP X pins D) X.xe s
noncomputable def PSs (X:Cx) (st:List Stmt) (t:TS):Prop :=
 ∀ (pins:List (Addr × Obj)) (s:Shared) (σ:St) (H:Hp) (D:Ends),Inv X pins σ H s→t D σ H→wpAny (model X.prog X.w) X.A (execs st X.env) (SP X pins D) X.xe s
theorem thn {α:Type} {t:Sem α} {Q Q':α→Shared→Prop} {M:Model} {A:Around} {E:Value→Shared→Prop} {s:Shared} (h:wpAny M A t Q E s) (hQ:∀ a s,Q a s→Q' a s):wpAny M A t Q' E s:=wpAny_mono h hQ fun _ _ x=>x
section
variable {X:Cx}
noncomputable def j7a (i:Nat):TE:=fun σ H Q=>∃ v,σ[i]? = some (some v)∧Q v H
noncomputable def tC (v:V):TE:=fun _ H Q=>Q v H
theorem j3o {i:Nat} {x:Str} {pos:Pos} (hN:X.N[i]? = some x) (hv:Vis X.env.scope x) (hd:(x==("__debug__" : Str))=false:=by decide) (hcd:(x==("__classdict__" : Str))=false:=by decide):PE X (.Name x pos) (j7a i):=by
 intro pins s σ H Q I h
 obtain⟨v,e,h⟩:=h
 obtain⟨m,hn,hl⟩:=I.loc
 obtain⟨u,r,l⟩:=hl i x v hN e hv
 have fin:EP X pins σ Q u s:=⟨v,H,I,r,h⟩
 rcases l with ⟨hk,hm⟩ | ⟨hk,c,hc,hcell⟩
 ·exact wpAny_Name (wpAny_loadName_local I.ok.kind hk hn hm fin) hd
 ·rcases hk with hk | hk
  ·exact wpAny_Name (wpAny_loadName_cell I.ok.kind hk hc hcell fin) hd
  ·exact wpAny_Name (wpAny_loadName_free I.ok.kind hk hc hcell fin hcd) hd
theorem q0c {i j pos}:PE X (.Constant (.int i) j pos) (tC (.int i)):=fun _ _ _ H _ I h=>wpAny_Constant_int ⟨.int i,H,I.tok _,⟨_,rfl⟩,h⟩
theorem q4v {b j pos}:PE X (.Constant (.bool b) j pos) (tC (.bl b)):=fun _ _ _ H _ I h=>Constant_bool ⟨.bl b,H,I,rfl,h⟩
theorem q8k {j pos}:PE X (.Constant .none j pos) (tC .non):=fun _ _ _ H _ I h=>Constant_none ⟨.non,H,I,rfl,h⟩
theorem q2k {x j pos}:PE X (.Constant (.str x) j pos) (tC (.str x)):=fun _ _ _ H _ I h=>Calls.Constant_str ⟨.str x,H,I.tok _,⟨_,rfl⟩,h⟩
noncomputable def Gl (X:Cx) (x:Str):Prop:=X.env.kindOf x=some .globalImplicit
theorem x2t {E:Value→Shared→Prop} {pins:List (Addr × Obj)} {s:Shared} {σ:St} {H:Hp} {x:Str} {u:Value} {pos:Pos} {Q:Value→Shared→Prop} (I:Inv X pins σ H s) (hg:Gl X x) (hm:X.mg x=some u) (h:Q u s)
  (hd:(x==("__debug__" : Str))=false:=by decide):wpAny (model X.prog X.w) X.A (eval (.Name x pos) X.env) Q E s :=
 Calls.Name_function_global I.ok.kind hg (Calls.loadGlobal_global (by rw [I.ok.glob]; exact I.mod.glob.keeps I.bk) hm h) hd
theorem x1y {E:Value→Shared→Prop} {pins:List (Addr × Obj)} {s:Shared} {σ:St} {H:Hp} {x:Str} {u:Value} {pos:Pos} {Q:Value→Shared→Prop} (I:Inv X pins σ H s) (hg:Gl X x) (hm:X.mg x=none) (hv:bootBuiltins x=some u) (h:Q u s)
  (hn:x ≠ "__name__" := by decide) (hd:(x==("__debug__" : Str))=false:=by decide):wpAny (model X.prog X.w) X.A (eval (.Name x pos) X.env) Q E s:=by
 obtain⟨mb,h1,h2⟩:=I.mod.blt
 exact Calls.Name_function_global I.ok.kind hg (Calls.loadGlobal_builtin (by rw [I.ok.glob]; exact I.mod.glob.keeps I.bk) hm (by rw [I.ok.blt]; exact h1.keeps I.bk) ((h2 x hn).trans hv) h) hd
theorem z7t {x:Str} {v:V} {u:Value} {pos:Pos} (hg:Gl X x) (hm:X.mg x=none) (hv:bootBuiltins x=some u) (r:q3a v u) (hn:x ≠ "__name__" := by decide) (hd:(x==("__debug__" : Str))=false:=by decide):PE X (.Name x pos) (tC v) :=
 fun _ _ _ H _ I h=>x1y I hg hm hv ⟨v,H,I,r,h⟩ hn hd
variable {a b:Expr} {ta tb:TE} {pos:Pos}
noncomputable def tB (t:TE):TT:=fun σ H Q=>t σ H fun x H1=>∃ c,x=.bl c∧Q c H1
theorem q3c {e:Expr} {t:TE} (h:PE X e t) (he:∀ whole,isTrue e X.env whole=(do let v←whole; standAt e.pos; holding [v] (truthy v)):=by intro _; rfl):PT X e (tB t):=by
 intro pins s σ H Q I hw
 refine isTrue_plain (thn (h pins s σ H _ I hw) fun v s1 ⟨x,H1,I1,r1,q1⟩=>?_) (he _)
 obtain⟨d,rfl,q⟩:=q1
 cases r1
 exact wpAny_truthy_bool ⟨H1,I1,q⟩
variable {tA tB':TT} {q5g:List Expr}
noncomputable def j9t (t u:TT):TT:=fun σ H Q=>t σ H fun c H1=>if c=true then u σ H1 Q else Q false H1
noncomputable def tOr (t u:TT):TT:=fun σ H Q=>t σ H fun c H1=>if c=true then Q true H1 else u σ H1 Q
noncomputable def j8y (t:TT):TT:=fun σ H Q=>t σ H fun c H1=>Q (!c) H1
theorem x2l (ha:PT X a tA):PW X (.BoolOp .And [a] pos) tA:=by
 intro wh pins s σ H Q I h
 refine isTrue_and (thn (ha pins s σ H Q I h) fun c s1 e=>?_)
 cases c with
 | true=>exact isTrue_and_nil e
 | false=>exact e
theorem q2s (ha:PT X a tA):PW X (.BoolOp .Or [a] pos) tA:=by
 intro wh pins s σ H Q I h
 refine isTrue_or (thn (ha pins s σ H Q I h) fun c s1 e=>?_)
 cases c with
 | false=>exact isTrue_or_nil e
 | true=>exact e
theorem x7y (ha:PT X a tA) (hb:PW X (.BoolOp .And (b::q5g) pos) tB'):PW X (.BoolOp .And (a::b::q5g) pos) (j9t tA tB'):=by
 intro wh pins s σ H Q I h
 refine isTrue_and (thn (ha pins s σ H _ I h) fun c s1 ⟨H1,I1,q1⟩=>?_)
 cases c with
 | true=>exact hb wh pins s1 σ H1 Q I1 q1
 | false=>exact⟨H1,I1,q1⟩
theorem q4d (ha:PT X a tA) (hb:PW X (.BoolOp .Or (b::q5g) pos) tB'):PW X (.BoolOp .Or (a::b::q5g) pos) (tOr tA tB'):=by
 intro wh pins s σ H Q I h
 refine isTrue_or (thn (ha pins s σ H _ I h) fun c s1 ⟨H1,I1,q1⟩=>?_)
 cases c with
 | true=>exact⟨H1,I1,q1⟩
 | false=>exact hb wh pins s1 σ H1 Q I1 q1
theorem q7e (ha:PT X a tA):PT X (.UnaryOp .Not a pos) (j8y tA):=by
 intro pins s σ H Q I h
 exact isTrue_not (ha pins s σ H (fun c H1=>Q (!c) H1) I h)
noncomputable def j5v (ta tb:TE):TE:=fun σ H Q=>ta σ H fun x H1=>∃ c,x=.bl c∧if c=true then tb σ H1 Q else Q (.bl false) H1
noncomputable def j8a (ta tb:TE):TE:=fun σ H Q=>ta σ H fun x H1=>∃ c,x=.bl c∧if c=true then Q (.bl true) H1 else tb σ H1 Q
theorem q8q {op} {t:TE} (h:PE X a t):PE X (.BoolOp op [a] pos) t:=fun pins s σ H Q I hw=>BoolOp_one (h pins s σ H Q I hw)
theorem q9m (ha:PE X a ta) (hb:PE X (.BoolOp .And (b::q5g) pos) tb):PE X (.BoolOp .And (a::b::q5g) pos) (j5v ta tb):=by
 intro pins s σ H Q I h
 refine BoolOp_and (thn (ha pins s σ H _ I h) fun v s1 ⟨x,H1,I1,r1,q1⟩=>?_)
 obtain⟨c,rfl,q1⟩:=q1
 cases r1
 refine wpAny_truthy_bool ?_
 cases c with
 | true=>exact hb pins s1 σ H1 Q I1 q1
 | false=>exact⟨.bl false,H1,I1,rfl,q1⟩
theorem j4k (ha:PE X a ta) (hb:PE X (.BoolOp .Or (b::q5g) pos) tb):PE X (.BoolOp .Or (a::b::q5g) pos) (j8a ta tb):=by
 intro pins s σ H Q I h
 refine BoolOp_or (thn (ha pins s σ H _ I h) fun v s1 ⟨x,H1,I1,r1,q1⟩=>?_)
 obtain⟨c,rfl,q1⟩:=q1
 cases r1
 refine wpAny_truthy_bool ?_
 cases c with
 | false=>exact hb pins s1 σ H1 Q I1 q1
 | true=>exact⟨.bl true,H1,I1,rfl,q1⟩
end
noncomputable def SqL (K:Frag) (H:Hp) (a:Addr) (xs:List V):Prop :=
 Rd H a (.lst xs) ∨
  ∃ (o:Obj) (its:Array Value) (n:Nat),K.lookup a=some o∧o.cls=.type "list" ∧ o.dict=none∧o.data=.seq its n∧its.size≤sizeLine∧q2i xs its.toList
noncomputable def SqT (K:Frag) (H:Hp) (a:Addr) (xs:List V):Prop :=
 Rd H a (.tup xs) ∨
  ∃ (o:Obj) (its:Array Value) (n:Nat),K.lookup a=some o∧o.cls=.type "tuple" ∧ o.data=.seq its n∧its.size≤sizeLine∧q2i xs its.toList
noncomputable def j9u:Value→Option V
 | .none=>some .non
 | .bool b=>some (.bl b)
 | .int i _=>some (.int i)
 | .str x _=>some (.str x)
 | .bytes b _=>some (.byt b)
 | .float b _=>some (.flt b)
 | .ref a=>some (.ref a)
 | .type n=>some (.ty n)
 | _=>none
theorem q3a.abs {x:V} {u:Value} (r:q3a x u):j9u u=some x:=by
 cases x with
 | non=>cases r; rfl
 | bl _=>cases r; rfl
 | int _=>obtain⟨t,rfl⟩:=r; rfl
 | str _=>obtain⟨t,rfl⟩:=r; rfl
 | byt _=>obtain⟨t,rfl⟩:=r; rfl
 | flt _=>obtain⟨t,rfl⟩:=r; rfl
 | ref _=>cases r; rfl
 | ty _=>cases r; rfl
theorem q3a.inj {x y:V} {u:Value} (r:q3a x u) (q:q3a y u):x=y:=Option.some.inj (r.abs.symm.trans q.abs)
theorem q2i.inj:∀ {xs ys:List V} {us:List Value},q2i xs us→q2i ys us→xs=ys
 | _,_,_,.nil,.nil=>rfl
 | _,_,_,.cons r t,.cons r' t'=>by rw [r.inj r',q2i.inj t t']
section
variable {X:Cx} {pins:List (Addr × Obj)} {σ:St} {H:Hp} {s:Shared} {a:Addr} {xs ys:List V}
theorem SqL.of {K:Frag} (h:H a=some (.lst xs)):SqL K H a xs:=.inl (.inl h)
theorem SqT.of {K:Frag} (h:H a=some (.tup xs)):SqT K H a xs:=.inl (.inl h)
theorem Inv.list (I:Inv X pins σ H s) (h:SqL X.K H a xs):∃ its:List Value,q2i xs its∧PlainL s.heap a its.toArray∧xs.length≤sizeLine:=by
 rcases h with h | ⟨o,its,n,hk,hc,hd,hs,hz,r⟩
 ·obtain⟨z,its,n,r,e⟩:=h.ok I.hok
  exact⟨its,r,⟨_,n,e,rfl,rfl,rfl⟩,z⟩
 ·refine⟨its.toList,r,⟨o,n,I.kIn a o hk,hc,hd,by simpa using hs⟩,?_⟩
  have e:=r.length
  simp only [Array.length_toList] at e
  omega
theorem Inv.tuple (I:Inv X pins σ H s) (h:SqT X.K H a xs):∃ its:List Value,q2i xs its∧IsTup s.heap a its.toArray∧xs.length≤sizeLine:=by
 rcases h with h | ⟨o,its,n,hk,hc,hs,hz,r⟩
 ·obtain⟨z,its,r,p⟩:=h.ok I.hok
  exact⟨its,r,p,z⟩
 ·refine⟨its.toList,r,⟨o,I.kIn a o hk,hc,n,by simpa using hs⟩,?_⟩
  have e:=r.length
  simp only [Array.length_toList] at e
  omega
theorem Inv.list_inj (I:Inv X pins σ H s) (h:SqL X.K H a xs) (h':SqL X.K H a ys):xs=ys:=by
 obtain⟨its,r,⟨o,n,e,_,_,d⟩,_⟩:=I.list h
 obtain⟨its',r',⟨o',n',e',_,_,d'⟩,_⟩:=I.list h'
 rw [e] at e'; cases e'
 rw [d] at d'
 injection d' with d1 _
 have:its=its':=by simpa using congrArg Array.toList d1
 subst this
 exact r.inj r'
theorem Inv.tuple_inj (I:Inv X pins σ H s) (h:SqT X.K H a xs) (h':SqT X.K H a ys):xs=ys:=by
 obtain⟨its,r,⟨o,e,_,n,d⟩,_⟩:=I.tuple h
 obtain⟨its',r',⟨o',e',_,n',d'⟩,_⟩:=I.tuple h'
 rw [e] at e'; cases e'
 rw [d] at d'
 injection d' with d1 _
 have:its=its':=by simpa using congrArg Array.toList d1
 subst this
 exact r.inj r'
end
noncomputable abbrev Cx.wish (X:Cx) (E:Value→Shared→Prop):Cx:={ X with xe:=E }
noncomputable abbrev Cx.nox (X:Cx):Cx:=X.wish fun _ _=>False
theorem Cx.Ok.wish {X:Cx} (ok:X.Ok) (E:Value→Shared→Prop):(X.wish E).Ok :=
 ⟨ok.mod,ok.kind,ok.glob,ok.blt,ok.above,ok.inj,ok.has,ok.cab,ok.hd,ok.frames,ok.stk,ok.exf,ok.bs,ok.bsz,ok.noex,ok.exfs,ok.funs,ok.frf⟩
theorem Cx.Ok.unwish {X:Cx} {E:Value→Shared→Prop} (ok:(X.wish E).Ok):X.Ok :=
 ⟨ok.mod,ok.kind,ok.glob,ok.blt,ok.above,ok.inj,ok.has,ok.cab,ok.hd,ok.frames,ok.stk,ok.exf,ok.bs,ok.bsz,ok.noex,ok.exfs,ok.funs,ok.frf⟩
section
variable {X:Cx} {pins:List (Addr × Obj)} {σ:St} {H:Hp} {s:Shared} {E:Value→Shared→Prop}
theorem Inv.wish (I:Inv X pins σ H s) (E:Value→Shared→Prop):Inv (X.wish E) pins σ H s:=⟨I.ok.wish E,I.os,I.bare,I.base,I.loc,I.cell,I.free,I.freeC,I.pin,I.hok,I.len⟩
theorem Inv.unwish (I:Inv (X.wish E) pins σ H s):Inv X pins σ H s:=⟨I.ok.unwish,I.os,I.bare,I.base,I.loc,I.cell,I.free,I.freeC,I.pin,I.hok,I.len⟩
theorem SP.unwish {D:Ends} {f:Flow} {s':Shared} (h:SP (X.wish E) pins D f s'):SP X pins D f s':=by
 cases f with
 | next=>obtain⟨σ',H',I,q⟩:=h; exact⟨σ',H',I.unwish,q⟩
 | brk=>obtain⟨σ',H',I,q⟩:=h; exact⟨σ',H',I.unwish,q⟩
 | cont=>obtain⟨σ',H',I,q⟩:=h; exact⟨σ',H',I.unwish,q⟩
 | ret u=>obtain⟨v,σ',H',I,r,q⟩:=h; exact⟨v,σ',H',I.unwish,r,q⟩
theorem PSs.nox {st:List Stmt} {t:TS} (h:PSs X.nox st t):PSs X st t:=fun pins s σ H D I hw =>
 wpAny_mono (h pins s σ H D (I.wish _) hw) (fun _ _ q=>q.unwish) fun _ _ z=>False.elim z
end
section
variable {X:Cx} {st:Stmt} {q5g:List Stmt} {t u:TS} {e:Expr} {te:TE} {pos:Pos}
noncomputable def j5l:TS:=fun D σ H=>D.nx σ H
noncomputable def j6d (t u:TS):TS:=fun D σ H=>t { D with nx:=u D } σ H
theorem q0u:PSs X [] j5l:=fun _ _ σ H _ I h=>wpAny_execs_nil ⟨σ,H,I,h⟩
theorem x8k (h1:PS X st t) (h2:PSs X q5g u):PSs X (st::q5g) (j6d t u):=by
 intro pins s σ H D I h
 refine wpAny_execs_cons (thn (h1 pins s σ H { D with nx:=u D } I h) fun f s1 q=>?_)
 cases f with
 | next =>
  obtain⟨σ',H',I',q⟩:=q
  exact h2 pins s1 σ' H' D I' q
 | ret v=>exact q
 | brk=>exact q
 | cont=>exact q
theorem z7x (h1:PS X st t):PSs X [st] t:=by
 intro pins s σ H D I h
 refine wpAny_execs_cons (thn (h1 pins s σ H D I h) fun f s1 q=>?_)
 cases f with
 | next=>exact wpAny_execs_nil q
 | ret v=>exact q
 | brk=>exact q
 | cont=>exact q
theorem Inv.quiet {pins:List (Addr × Obj)} {σ:St} {H:Hp} {s:Shared} (I:Inv X pins σ H s):interactive X.env=false:=by simp [interactive,I.ok.kind]
noncomputable def j4t (te:TE):TS:=fun D σ H=>te σ H fun _ H1=>D.nx σ H1
theorem q2g (he:PE X e te) (hs:swapsWith e none pos.line X.env=pure false:=by rfl):PS X (.Expr e pos) (j4t te):=by
 intro pins s σ H D I h
 exact wpAny_Expr_any (thn (he pins s σ H _ I h) fun v s1 ⟨x,H1,I1,r1,q1⟩=>⟨σ,H1,I1,q1⟩) I.quiet hs
noncomputable def j7d (te:TE):TS:=fun D σ H=>te σ H D.rt
theorem q0q (he:PE X e te):PS X (.Return (some e) pos) (j7d te):=by
 intro pins s σ H D I h
 exact wpAny_Return_some (thn (he pins s σ H _ I h) fun v s1 ⟨x,H1,I1,r1,q1⟩=>⟨x,σ,H1,I1,r1,q1⟩)
noncomputable def j4j:TS:=fun D _ H=>D.rt .non H
theorem z3i:PS X (.Return none pos) j4j:=fun _ _ σ H _ I h=>wpAny_Return_none ⟨.non,σ,H,I,rfl,h⟩
noncomputable def j7p (c:TT) (t u:TS):TS:=fun D σ H=>c σ H fun b H1=>if b=true then t D σ H1 else u D σ H1
theorem q1g {c:Expr} {a b:List Stmt} {tc:TT} (hc:PT X c tc) (ha:PSs X a t) (hb:PSs X b u):PS X (.If c a b pos) (j7p tc t u):=by
 intro pins s σ H D I h
 refine wpAny_If (thn (hc pins s σ H _ I h) fun d s1 ⟨H1,I1,q1⟩=>?_)
 cases d with
 | true=>exact ha pins s1 σ H1 D I1 q1
 | false=>exact hb pins s1 σ H1 D I1 q1
noncomputable def z6v:TS:=fun _ _ _=>False
theorem q9x:PS X st z6v:=fun _ _ _ _ _ _ h=>h.elim
theorem q3e {sts:List Stmt}:PSs X sts z6v:=fun _ _ _ _ _ _ h=>h.elim
end
noncomputable abbrev TG:=V→St→Hp→(St→Hp→Prop)→Prop
noncomputable abbrev TGs:=List V→St→Hp→(St→Hp→Prop)→Prop
noncomputable def PG (X:Cx) (target:Expr) (t:TG):Prop :=
 ∀ (pins:List (Addr × Obj)) (s:Shared) (σ:St) (H:Hp) (v:V) (u:Value) (Q:St→Hp→Prop),Inv X pins σ H s→q3a v u→t v σ H Q →
  wpAny (model X.prog X.w) X.A (assign target X.env u) (fun _ s'=>∃ σ' H',Inv X pins σ' H' s'∧Q σ' H') X.xe s
noncomputable def PGs (X:Cx) (ts:List Expr) (t:TGs):Prop :=
 ∀ (pins:List (Addr × Obj)) (s:Shared) (σ:St) (H:Hp) (vs:List V) (us:List Value) (Q:St→Hp→Prop),Inv X pins σ H s→q2i vs us→t vs σ H Q →
  wpAny (model X.prog X.w) X.A (assignInOrder ((assignEach ts X.env).map (·.2)) us) (fun _ s'=>∃ σ' H',Inv X pins σ' H' s'∧Q σ' H') X.xe s
noncomputable abbrev j5s:=V→V→V→Hp→(Hp→Prop)→Prop
noncomputable def j7g (X:Cx) (t:j5s):Prop :=
 ∀ (pins:List (Addr × Obj)) (s:Shared) (σ:St) (H:Hp) (o i v:V) (ov iv u:Value) (Q:Hp→Prop),Inv X pins σ H s→q3a o ov→q3a i iv→q3a v u→t o i v H Q →
  wpAny (model X.prog X.w) X.A (setItem ov iv u) (fun _ s'=>∃ H',Inv X pins σ H' s'∧Q H') X.xe s
section
variable {X:Cx} {pos:Pos}
noncomputable def q9s (i:Nat):TG:=fun v σ H Q=>Q (σ.set i (some v)) H
theorem q1u {i:Nat} {x:Str} (hN:X.N.Nodup) (hi:X.N[i]? = some x) (hx:Loc X.env.scope x) (hf:X.fn x=true∨X.env.scope.names.lookup x=some .local:=by first | exact .inl rfl | exact .inr rfl | assumption):PG X (.Name x pos) (q9s i):=by
 intro pins s σ H v u Q I r h
 exact wpAny_assign_Name (x8c I hN hi hx r (fun s' I'=>⟨_,H,I',h⟩) hf)
noncomputable def j9h:TGs:=fun vs σ H Q=>vs=[]∧Q σ H
noncomputable def j4q (t:TG) (u:TGs):TGs:=fun vs σ H Q=>∃ v r,vs=v::r∧t v σ H fun σ' H'=>u r σ' H' Q
theorem x6o:PGs X [] j9h:=by
 intro pins s σ H vs us Q I r h
 obtain⟨e,h⟩:=h
 subst e
 cases r
 exact assignInOrder_nil ⟨σ,H,I,h⟩
theorem q7a {e:Expr} {es:List Expr} {t:TG} {u:TGs} (h1:PG X e t) (h2:PGs X es u)
  (hs:(assignEach (e::es) X.env).map (·.2)=assign e X.env::(assignEach es X.env).map (·.2):=by rfl):PGs X (e::es) (j4q t u):=by
 intro pins s σ H vs us Q I r h
 obtain⟨v,vr,e1,h⟩:=h
 subst e1
 cases r with
 | cons r rr =>
  rw [hs]
  refine assignInOrder_cons (thn (h1 pins s σ H _ _ _ I r h) fun _ s1 ⟨σ1,H1,I1,q1⟩=>?_)
  exact h2 pins s1 σ1 H1 _ _ Q I1 rr q1
noncomputable def j7h (K:Frag) (n:Nat) (t:TGs):TG:=fun v σ H Q=>∃ a xs,v=.ref a∧SqT K H a xs∧xs.length=n∧t xs σ H Q
theorem z6t {es:List Expr} {k:Nat} {t:TGs} {n:Nat} (hc:X.calm=true) (h:PGs X es t)
  (hn:(assignEach es X.env).length=n:=by rfl) (hst:(assignEach es X.env).findIdx? (·.1)=none:=by rfl):PG X (.Tuple es k pos) (j7h X.K n t):=by
 intro pins s σ H v u Q I r hw
 obtain⟨a,xs,e1,hq,hl,hw⟩:=hw
 subst e1
 cases r
 obtain⟨its,rv,ht,hz⟩:=I.tuple hq
 refine assign_Tuple_tuple (I.ok.hd hc) ht (by simp [hn,← hl,rv.length]) hst fun h' hx=>?_
 have I1:Inv X pins σ H { s with heap:=h' }:=I.kept (t':=s.toks) fun b o e=>hx b o (Nat.ne_of_lt (Heap.lt_size e)) e
 exact h pins _ σ H xs _ Q I1 (by simpa using rv) hw
noncomputable def j8p (to ti:TE) (t:j5s):TG:=fun v σ H Q=>to σ H fun o H1=>ti σ H1 fun i H2=>t o i v H2 fun H3=>Q σ H3
theorem q3d {o i:Expr} {to ti:TE} {t:j5s} (ho:PE X o to) (hi:PE X i ti) (hs:j7g X t)
  (ha:∀ v,assign (.Subscript o i pos) X.env v=(do
   let ov←holding [v] (eval o X.env)
   let iv←holding [v,ov] (eval i X.env)
   standAt pos
   holding [v,ov,iv] (setItem ov iv v)
   release [v,ov,iv] []):=by intro _; rfl):PG X (.Subscript o i pos) (j8p to ti t):=by
 intro pins s σ H v u Q I r h
 rw [ha]
 refine wpAny_bind (wpAny_holding (thn (ho pins s σ H _ I h) fun ov s1 ⟨x,H1,I1,r1,q1⟩=>?_))
 refine wpAny_bind (wpAny_holding (thn (hi pins s1 σ H1 _ I1 q1) fun iv s2 ⟨y,H2,I2,r2,q2⟩=>?_))
 refine wpAny_bind (wpAny_standAt (wpAny_bind (wpAny_holding (thn (hs pins s2 σ H2 x y v ov iv u _ I2 r1 r2 r q2) fun _ s3 ⟨H3,I3,q3⟩=>?_))))
 exact wpAny_release ⟨σ,H3,I3,q3⟩
noncomputable def j3z (te:TE) (g:TG):TS:=fun D σ H=>te σ H fun x H1=>g x σ H1 D.nx
theorem q3b {tg e:Expr} {te:TE} {g:TG} (he:PE X e te) (hg:PG X tg g) (hs:swapsWithSole [tg] e pos.line X.env=pure false:=by rfl) (hw:swappedStores [tg] e X.env=pure none:=by rfl)
  (h1:(assignEach [tg] X.env).map (·.2)=[assign tg X.env]:=by rfl):PS X (.Assign [tg] e pos) (j3z te g):=by
 intro pins s σ H D I h
 refine wpAny_Assign_stores (thn (he pins s σ H _ I h) fun v s1 ⟨x,H1,I1,r1,q1⟩=>?_) hs hw
 rw [h1]
 exact thn (hg pins s1 σ H1 x v _ I1 r1 q1) fun _ s2 q=>q
theorem q0r {i:Nat} {x:Str} {e:Expr} {te:TE} {pos':Pos} (hN:X.N.Nodup) (hi:X.N[i]? = some x) (hx:Loc X.env.scope x) (he:PE X e te) (hs:swapsWith e (some (.Name x pos')) pos.line X.env=pure false:=by rfl) (hf:X.fn x=true∨X.env.scope.names.lookup x=some .local:=by first | exact .inl rfl | exact .inr rfl | assumption) :
  PS X (.Assign [.Name x pos'] e pos) (j3z te (q9s i)):=by
 intro pins s σ H D I h
 refine wpAny_Assign_Name (thn (he pins s σ H _ I h) fun v s1 ⟨y,H1,I1,r1,q1⟩=>?_) hs
 exact x8c I1 hN hi hx r1 (fun s2 I2=>⟨_,H1,I2,q1⟩) hf
end
section
variable {X:Cx} {pos:Pos}
end
structure It where
 go:Nat→Hp→Prop
 yld:Nat→Hp→V→Hp→Prop
 stop:Nat→Hp→Prop
noncomputable def z4f (X:Cx) (pins:List (Addr × Obj)) (H:Hp) (b:Addr):Prop :=
 H b=none∧b≠X.env.locals∧b∉X.fs∧(b∈X.ex∨X.s₀.heap.objs.size≤b)∧(∀ x c,X.env.cells.lookup x=some c→c≠b)∧∀ p∈X.pn++pins,p.1≠b
theorem Inv.fpOk {X:Cx} {pins:List (Addr × Obj)} {σ:St} {H H':Hp} {s:Shared} {b:Addr} (I:Inv X pins σ H s) (hb:s.heap.objs.size≤b) (hn:H' b=none):z4f X pins H' b:=by
 refine⟨hn,Nat.ne_of_gt (Nat.lt_of_lt_of_le I.lt hb),I.nofs hb,.inr (Nat.le_trans I.sz hb),fun x c e z=>?_,fun p hp z=>?_⟩
 ·obtain⟨v,q⟩:=I.cell x c e
  exact absurd (Nat.lt_of_lt_of_le q.lt (by rw [z]; exact hb)) (Nat.lt_irrefl _)
 ·exact absurd (Nat.lt_of_lt_of_le (Heap.lt_size (I.pin p hp).1) (by rw [z]; exact hb)) (Nat.lt_irrefl _)
structure Turn (P:Program) (w:World) (K:Frag) (tg:Expr) (J:It) (fp:List Addr) (it:Addr) (tn:Nat→Heap→Prop):Prop where
 mem:it∈fp
 obj:∀ i h,tn i h→∀ b∈fp,∃ o,h.get? b=some o∧∀ v,o.data≠.cell v
 keep:∀ i h h',tn i h→(∀ b∈fp,∀ o,h.get? b=some o→h'.get? b=some o)→tn i h'
 item:∀ (X:Cx),X.prog=P→X.w=w→X.K=K→X.calm=true→∀ (i:Nat) (pins:List (Addr × Obj)) (s:Shared) (σ:St) (H:Hp) (E:Value→Shared→Prop),Inv X pins σ H s→(∀ b∈fp,z4f X pins H b)→tn i s.heap→J.go i H →
  wpAny (model P w) X.A (pyNext (.ref it)) (fun r s1=>∃ u,r=some u ∧
   wpAny (model P w) X.A (letOwnedTupleGo tg (.ref it) u) (fun _ s2=>∃ x H',Inv X pins σ H' s2∧q3a x u∧J.yld i H x H'∧tn (i+1) s2.heap∧∀ b∈fp,H' b=none) E s1) E s
 done:∀ (X:Cx),X.prog=P→X.w=w→X.K=K→X.calm=true→∀ (i:Nat) (pins:List (Addr × Obj)) (s:Shared) (σ:St) (H:Hp) (E:Value→Shared→Prop),Inv X pins σ H s→(∀ b∈fp,z4f X pins H b)→tn i s.heap→J.stop i H →
  wpAny (model P w) X.A (pyNext (.ref it)) (fun r s1=>r=none∧Inv X pins σ H s1) E s
 self:∀ (A:Around) (i:Nat) (s:Shared) (Q:Value→Shared→Prop) (E:Value→Shared→Prop),tn i s.heap→Q (.ref it) s→wpAny (model P w) A (pyIter (.ref it)) Q E s
noncomputable abbrev TI:=St→Hp→(It→Hp→Prop)→Prop
noncomputable def PIE (X:Cx) (pins:List (Addr × Obj)) (σ:St) (tg:Expr) (R:It→Hp→Prop) (itv:Value) (s2:Shared):Prop :=
 ∃ (it:Addr) (fp:List Addr) (tn:Nat→Heap→Prop) (J:It) (H':Hp),itv=.ref it∧Inv X pins σ H' s2∧Turn X.prog X.w X.K tg J fp it tn∧tn 0 s2.heap∧(∀ b∈fp,z4f X pins H' b)∧R J H'
noncomputable def PI (X:Cx) (tg iter:Expr) (wi:TI):Prop :=
 ∀ (pins:List (Addr × Obj)) (s:Shared) (σ:St) (H:Hp) (R:It→Hp→Prop),Inv X pins σ H s→wi σ H R →
  wpAny (model X.prog X.w) X.A (eval iter X.env) (fun v s1=>wpAny (model X.prog X.w) X.A (pyIter v) (PIE X pins σ tg R) X.xe s1) X.xe s
theorem z8t {M:Model} {A:Around} {E:Value→Shared→Prop} {s:Shared} {tg:Expr} {it:Addr} {u:Value} {o:Obj} {n:String} {vs:Array Value} {Q:Unit→Shared→Prop} (ho:s.heap.get? it=some o) (hc:o.cls=.type n) (hd:o.data=.fields vs)
    (hn:["enumerate", "zip", "dict_itemiterator", "dict_reverseitemiterator", "odict_iterator", "itertools.zip_longest", "itertools.pairwise"].contains n=false) (hQ:Q () s):wpAny M A (letOwnedTupleGo tg (.ref it) u) Q E s:=by
  unfold letOwnedTupleGo
  cases tg <;> first
    | exact wpAny_pure hQ
    | (cases u <;> first
        | exact wpAny_pure hQ
        | (refine wpAny_bind (wpAny_load ho ?_)
           rw [hc,hd]
           show wpAny M A (if (["enumerate", "zip", "dict_itemiterator", "dict_reverseitemiterator", "odict_iterator", "itertools.zip_longest", "itertools.pairwise"].contains n && vs[0]? == some (rawInt _))=true then _ else _) Q E s
           rw [if_neg (by intro h; rw [hn,Bool.false_and] at h; cases h)]
           exact wpAny_pure hQ))
noncomputable def Itl (K:Frag) (a:Addr):It :=
 ⟨fun i H=>∃ xs x,SqL K H a xs∧xs[i]? = some x,fun i H x H'=>H'=H∧∀ xs,SqL K H a xs→xs[i]? = some x,fun i H=>∃ xs,SqL K H a xs∧xs.length≤i⟩
noncomputable def Itt (K:Frag) (a:Addr):It :=
 ⟨fun i H=>∃ xs x,SqT K H a xs∧xs[i]? = some x,fun i H x H'=>H'=H∧∀ xs,SqT K H a xs→xs[i]? = some x,fun i H=>∃ xs,SqT K H a xs∧xs.length≤i⟩
noncomputable def Itr (lo:Int) (n:Nat):It:=⟨fun i _=>i < n,fun i H x H'=>H'=H∧x=.int (lo+i),fun i _=>n≤i⟩
theorem z2e {P:Program} {w:World} {K:Frag} {tg:Expr} (a it:Addr):Turn P w K tg (Itl K a) [it] it (fun i h=>h.IsListIter it a i) where
 mem:=by simp
 obj:=fun i h st b hb=>by
  have e:b=it:=by simpa using hb
  subst e
  obtain⟨o,e,c,d⟩:=st
  exact⟨o,e,fun v z=>by rw [d] at z; cases z⟩
 keep:=fun i h h' st k=>st.at fun o e=>k it (by simp) o e
 item:=by
  intro X hP hw hK hc i pins s σ H E I hf st hg
  subst hP hw hK
  obtain⟨xs,x,hq,hx⟩:=hg
  obtain⟨its,rv,p,hz⟩:=I.list hq
  obtain⟨u,hu,ru⟩:=rv.get hx
  obtain⟨f0,f1,f2,f3,f4,f5⟩:=hf it (by simp)
  refine wpAny_pyNext_list_item st p.isList (x:=u) (by simpa using hu) fun h' st' sb=>?_
  have I1:Inv X pins σ H { s with heap:=h' }:=I.turned (t':=s.toks) (fun b o hb e=>(sb.2 b hb).trans e) f0 f1 f3 f4 f5
  obtain⟨o,e,c,d⟩:=id st'
  exact⟨u,rfl,z8t (s:={ s with heap:=h' }) e c d (by decide) ⟨x,H,I1,ru,⟨rfl,fun ys hy=>by rw [I.list_inj hy hq]; exact hx⟩,st',fun b hb=>(hf b hb).1⟩⟩
 done:=by
  intro X hP hw hK hc i pins s σ H E I hf st hg
  subst hP hw hK
  obtain⟨xs,hq,hx⟩:=hg
  obtain⟨its,rv,p,hz⟩:=I.list hq
  obtain⟨f0,f1,f2,f3,f4,f5⟩:=hf it (by simp)
  have hl:=rv.length
  exact wpAny_pyNext_list_end (I.ok.hd hc) st p.isList (by simp; omega) fun h' eb=>⟨rfl,I.turned (t':=s.toks) (fun b o hb e=>eb b o hb e) f0 f1 f3 f4 f5⟩
 self:=fun _ _ _ _ _ st h=>wpAny_pyIter_listiter st h
theorem x8y {P:Program} {w:World} {K:Frag} {tg:Expr} (a it:Addr):Turn P w K tg (Itt K a) [it] it (fun i h=>h.IsTupleIter it a i) where
 mem:=by simp
 obj:=fun i h st b hb=>by
  have e:b=it:=by simpa using hb
  subst e
  obtain⟨o,e,c,d⟩:=st
  exact⟨o,e,fun v z=>by rw [d] at z; cases z⟩
 keep:=fun i h h' st k=>st.at fun o e=>k it (by simp) o e
 item:=by
  intro X hP hw hK hc i pins s σ H E I hf st hg
  subst hP hw hK
  obtain⟨xs,x,hq,hx⟩:=hg
  obtain⟨its,rv,p,hz⟩:=I.tuple hq
  obtain⟨u,hu,ru⟩:=rv.get hx
  obtain⟨f0,f1,f2,f3,f4,f5⟩:=hf it (by simp)
  refine wpAny_pyNext_tuple_item st (show s.heap.IsTuple a its.toArray from p) (x:=u) (by simpa using hu) fun h' st' sb=>?_
  have I1:Inv X pins σ H { s with heap:=h' }:=I.turned (t':=s.toks) (fun b o hb e=>(sb.2 b hb).trans e) f0 f1 f3 f4 f5
  obtain⟨o,e,c,d⟩:=id st'
  exact⟨u,rfl,z8t (s:={ s with heap:=h' }) e c d (by decide) ⟨x,H,I1,ru,⟨rfl,fun ys hy=>by rw [I.tuple_inj hy hq]; exact hx⟩,st',fun b hb=>(hf b hb).1⟩⟩
 done:=by
  intro X hP hw hK hc i pins s σ H E I hf st hg
  subst hP hw hK
  obtain⟨xs,hq,hx⟩:=hg
  obtain⟨its,rv,p,hz⟩:=I.tuple hq
  obtain⟨f0,f1,f2,f3,f4,f5⟩:=hf it (by simp)
  have hl:=rv.length
  exact wpAny_pyNext_tuple_end (I.ok.hd hc) st (show s.heap.IsTuple a its.toArray from p) (by simp; omega) fun h' eb=>⟨rfl,I.turned (t':=s.toks) (fun b o hb e=>eb b o hb e) f0 f1 f3 f4 f5⟩
 self:=fun _ _ _ _ _ st h=>wpAny_pyIter_tupleiter st h
theorem x8x {P:Program} {w:World} {K:Frag} {tg:Expr} (it:Addr) (lo:Int) (n:Nat):Turn P w K tg (Itr lo n) [it] it (fun i h=>IsRangeIter h it (lo+(i:Nat)*1) ((n:Int) - (i:Nat)) 1) where
 mem:=by simp
 obj:=fun i h st b hb=>by
  have e:b=it:=by simpa using hb
  subst e
  exact⟨_,st,fun v z=>by
   have z':Data.fields _=Data.cell v:=z
   cases z'⟩
 keep:=fun i h h' st k=>k it (by simp) _ st
 item:=by
  intro X hP hw hK hc i pins s σ H E I hf st hg
  subst hP hw hK
  obtain⟨f0,f1,f2,f3,f4,f5⟩:=hf it (by simp)
  have W:=Walks.range (prog:=X.prog) (w:=X.w) (I.ok.hd hc) it lo 1 n
  refine W.item i s _ _ hg st fun v h' tk hv st' kk=>?_
  obtain⟨t,rfl⟩:=hv
  have I1:Inv X pins σ H { s with heap:=h',toks:=tk }:=I.turned (fun b o hb e=>kk b o (by simpa using hb) e) f0 f1 f3 f4 f5
  refine⟨_,rfl,z8t (s:={ s with heap:=h',toks:=tk }) (n := "range_iterator") st' rfl rfl (by decide) ⟨.int (lo+i),H,I1,⟨t,?_⟩,⟨rfl,rfl⟩,st',fun b hb=>(hf b hb).1⟩⟩
  rw [Int.mul_one]
 done:=by
  intro X hP hw hK hc i pins s σ H E I hf st hg
  subst hP hw hK
  obtain⟨f0,f1,f2,f3,f4,f5⟩:=hf it (by simp)
  exact wpAny_pyNext_range_end (I.ok.hd hc) st (by have:n≤i:=hg; omega) fun h' eb=>⟨rfl,I.turned (t':=s.toks) (fun b o hb e=>eb b o hb e) f0 f1 f3 f4 f5⟩
 self:=fun _ _ _ _ _ st h=>wpAny_pyIter_rangeiter st h
section
variable {X:Cx} {tg:Expr}
noncomputable def j5b (K:Frag) (tl:TE):TI:=fun σ H R=>tl σ H fun x H1=>∃ a,x=.ref a∧(∃ xs,SqL K H1 a xs)∧R (Itl K a) H1
noncomputable def j9q (K:Frag) (tl:TE):TI:=fun σ H R=>tl σ H fun x H1=>∃ a,x=.ref a∧(∃ xs,SqT K H1 a xs)∧R (Itt K a) H1
theorem q7r {l:Expr} {tl:TE} (hl:PE X l tl):PI X tg l (j5b X.K tl):=by
 intro pins s σ H R I h
 refine thn (hl pins s σ H _ I h) fun v s1 ⟨x,H1,I1,r1,q1⟩=>?_
 obtain⟨a,e,⟨xs,hq⟩,q⟩:=q1
 subst e
 cases r1
 obtain⟨its,rv,p,hz⟩:=I1.list hq
 refine wpAny_pyIter_list p.isList ?_
 refine⟨s1.heap.objs.size,[s1.heap.objs.size],_,_,H1,rfl,I1.kept (t':=s1.toks) fun b o e=>Heap.get?_push_of_some _ e,z2e a _,⟨_,Heap.get?_push_size _ rfl,rfl,rfl⟩,fun b hb=>?_,q⟩
 have e:b=s1.heap.objs.size:=by simpa using hb
 subst e
 exact I1.fpOk (Nat.le_refl _) (I1.hok.fresh (Nat.le_refl _))
theorem q9j {l:Expr} {tl:TE} (hl:PE X l tl):PI X tg l (j9q X.K tl):=by
 intro pins s σ H R I h
 refine thn (hl pins s σ H _ I h) fun v s1 ⟨x,H1,I1,r1,q1⟩=>?_
 obtain⟨a,e,⟨xs,hq⟩,q⟩:=q1
 subst e
 cases r1
 obtain⟨its,rv,p,hz⟩:=I1.tuple hq
 refine wpAny_pyIter_tuple (show s1.heap.IsTuple a its.toArray from p) ?_
 refine⟨s1.heap.objs.size,[s1.heap.objs.size],_,_,H1,rfl,I1.kept (t':=s1.toks) fun b o e=>Heap.get?_push_of_some _ e,x8y a _,⟨_,Heap.get?_push_size _ rfl,rfl,rfl⟩,fun b hb=>?_,q⟩
 have e:b=s1.heap.objs.size:=by simpa using hb
 subst e
 exact I1.fpOk (Nat.le_refl _) (I1.hok.fresh (Nat.le_refl _))
theorem x8i {pins:List (Addr × Obj)} {σ:St} {H:Hp} {s:Shared} {R:It→Hp→Prop} {E:Value→Shared→Prop} {lo hi:Int} {t u v:Tok} {tk:Nat} (I:Inv X pins σ H s) (h1 : -(2 ^ 62)≤lo) (h2:lo < 2 ^ 62) (h3 : -(2 ^ 62)≤hi) (h4:hi < 2 ^ 62)
  (q:R (Itr lo (hi - lo).toNat) H):wpAny (model X.prog X.w) X.A (pyIter (.ref s.heap.objs.size)) (PIE X pins σ tg R) E { s with heap:=s.heap.push { cls:=.type "range",data:=.fields #[.int lo t,.int hi u,.int 1 v] },toks:=tk }:=by
 refine wpAny_pyIter_range (IsRange.new ..) (small_one h1 h2 h3 h4) ?_
 have I1:Inv X pins σ H { s with heap:=s.heap.push { cls:=.type "range",data:=.fields #[.int lo t,.int hi u,.int 1 v] },toks:=tk }:=I.kept fun b o e=>Heap.get?_push_of_some _ e
 refine⟨(s.heap.push { cls:=.type "range",data:=.fields #[.int lo t,.int hi u,.int 1 v] }).objs.size,[(s.heap.push { cls:=.type "range",data:=.fields #[.int lo t,.int hi u,.int 1 v] }).objs.size],_,_,H,rfl,
  I1.kept (t':=tk) fun b o e=>Heap.get?_push_of_some _ e,x8x _ lo (hi - lo).toNat,?_,fun b hb=>?_,q⟩
 ·have e1:lo+((0:Nat):Int)*1=lo:=by simp
  have e2:(((hi - lo).toNat:Nat):Int) - ((0:Nat):Int)=Builtin.Range.rangeSize lo hi 1:=by rw [rangeSize_one]; split <;> omega
  show IsRangeIter _ _ (lo+((0:Nat):Int)*1) ((((hi - lo).toNat:Nat):Int) - ((0:Nat):Int)) 1
  rw [e1,e2]
  exact Heap.get?_push_size _ rfl
 ·have e:b=(s.heap.push { cls:=.type "range",data:=.fields #[.int lo t,.int hi u,.int 1 v] }).objs.size:=by simpa using hb
  subst e
  exact I1.fpOk (Nat.le_refl _) (I1.hok.fresh (Nat.le_refl _))
noncomputable def j6w (ta:TA):TI:=fun σ H R=>ta σ H fun vs H1=>∃ j:Int,vs=[.int j] ∧ -(2 ^ 62)≤j∧j < 2 ^ 62∧R (Itr 0 j.toNat) H1
noncomputable def j6q (ta:TA):TI:=fun σ H R=>ta σ H fun vs H1=>∃ i j:Int,vs=[.int i,.int j]∧(-(2 ^ 62)≤i∧i < 2 ^ 62 ∧ -(2 ^ 62)≤j∧j < 2 ^ 62)∧R (Itr i (j - i).toNat) H1
theorem x0t {a:Expr} {ta:TA} {p pos:Pos} (hg:Gl X "range") (hm:X.mg "range" = none) (ha:PA X [a] ta) (hs:starEach [a] X.env=[(false,eval a X.env)]:=by rfl):PI X tg (.Call (.Name "range" p) [a] [] pos) (j6w ta):=by
 intro pins s σ H R I h
 refine Call_ (x1y I hg hm boot_range (PyProof.Rows.callWith_type1 (thn (ha pos pins s σ H _ I h) fun us s1 ⟨vs,H1,I1,r1,q1⟩=>?_) hs rfl))
 obtain⟨j,e,q1,q2,q⟩:=q1
 subst e
 cases r1 with
 | cons r rr =>
  cases rr
  obtain⟨t,rfl⟩:=r
  exact call_range_1 (x8i I1 (by omega) (by omega) q1 q2 (by simpa using q))
theorem z2k {a b:Expr} {ta:TA} {p pos:Pos} (hg:Gl X "range") (hm:X.mg "range" = none) (ha:PA X [a,b] ta) (hs:starEach [a,b] X.env=[(false,eval a X.env),(false,eval b X.env)]:=by rfl) (hs2:starEach [b] X.env=[(false,eval b X.env)]:=by rfl) :
  PI X tg (.Call (.Name "range" p) [a,b] [] pos) (j6q ta):=by
 intro pins s σ H R I h
 refine Call_ (x1y I hg hm boot_range (PyProof.Rows.callWith_type1 (thn (ha pos pins s σ H _ I h) fun us s1 ⟨vs,H1,I1,r1,q1⟩=>?_) (by rw [hs,hs2]) (by rw [hs2]; rfl)))
 obtain⟨i,j,e,⟨q1,q2,q3,q4⟩,q⟩:=q1
 subst e
 cases r1 with
 | cons r rr =>
  cases rr with
  | cons r' rr =>
   cases rr
   obtain⟨t,rfl⟩:=r
   obtain⟨t',rfl⟩:=r'
   exact call_range_2 (x8i I1 q1 q2 q3 q4 q)
noncomputable def w0c (wi:TI) (g:TG) (tb:TS):TS:=fun D σ H=>wi σ H fun J H1=>∃ W:Nat→Nat→St→Hp→Prop,(∃ m,W 0 m σ H1)∧∀ i m σ H,W i m σ H →
 (J.stop i H∧D.nx σ H)∨(J.go i H∧∃ N:St→Hp→Prop,(∀ σ' H',N σ' H'→∃ m',m' < m∧W (i+1) m' σ' H')∧∀ x H',J.yld i H x H'→g x σ H' fun σ2 H2=>tb { D with nx:=N,ct:=N,bk:=D.nx } σ2 H2)
noncomputable def x4q (fp:List Addr) (h:Heap):List (Addr × Obj):=fp.filterMap fun b=>(h.get? b).map fun o=>(b,o)
theorem q7b {fp:List Addr} {h:Heap} {b:Addr} {o:Obj} (hb:b∈fp) (e:h.get? b=some o):(b,o)∈x4q fp h:=List.mem_filterMap.mpr ⟨b,hb,by rw [e]; rfl⟩
theorem z3a {fp:List Addr} {h:Heap} {p:Addr × Obj} (hp:p∈x4q fp h):p.1∈fp∧h.get? p.1=some p.2:=by
 obtain⟨b,hb,e⟩:=List.mem_filterMap.mp hp
 cases q:h.get? b with
 | none=>rw [q] at e; cases e
 | some o =>
  rw [q] at e
  have e':(b,o)=p:=Option.some.inj e
  subst e'
  exact⟨hb,q⟩
theorem Inv.pinned {pins:List (Addr × Obj)} {σ:St} {H:Hp} {s:Shared} {fp:List Addr} (I:Inv X pins σ H s) (hf:∀ b∈fp,z4f X pins H b) (ho:∀ b∈fp,∃ o,s.heap.get? b=some o∧∀ v,o.data≠.cell v):Inv X (pins++x4q fp s.heap) σ H s :=
 I.pins_of fun p hp=>(List.mem_append.mp hp).elim (fun z=>I.pin p (List.mem_append_right _ z)) fun z=>by
  obtain⟨hb,e⟩:=z3a z
  obtain⟨f0,f1,f2,_⟩:=hf p.1 hb
  obtain⟨o,e',d⟩:=ho p.1 hb
  rw [e] at e'; cases e'
  exact⟨e,f0,f1,f2,d⟩
theorem Inv.unpinned {pins pl:List (Addr × Obj)} {σ:St} {H:Hp} {s:Shared} (I:Inv X (pins++pl) σ H s):Inv X pins σ H s:=I.pins_of fun p hp=>I.pin p (List.mem_append_right _ (List.mem_append_left _ hp))
theorem q7d {iter:Expr} {body:List Stmt} {wi:TI} {g:TG} {tb:TS} {pos:Pos} (hp:PassesOwn (model X.prog X.w) X.A X.env X.xe) (hc:X.calm=true) (hi:PI X tg iter wi) (hg:PG X tg g) (hb:PSs X body tb)
  (hs:∀ x,foldedSetIterable iter X.env x=pure x:=by intro _; rfl):PS X (.For tg iter body [] pos) (w0c wi g tb):=by
 intro pins s σ H D I h
 refine wpAny_For (thn (hi pins s σ H _ I h) fun v s1 h1=>thn h1 fun itv s2 h2=>?_) hs
 obtain⟨it,fp,tn,J,H2,e,I2,T,st2,f2,W,⟨m0,w0⟩,turn⟩:=h2
 subst e
 have stat:∀ {H':Hp},(∀ b∈fp,H' b=none)→∀ b∈fp,z4f X pins H' b:=fun hn b hb=>⟨hn b hb,(f2 b hb).2⟩
 refine codeAny_forLoop_any (fun n s'=>∃ i σ' H',Inv X pins σ' H' s'∧tn i s'.heap∧(∀ b∈fp,H' b=none)∧W i n σ' H') ?_ m0 ⟨0,σ,H2,I2,st2,fun b hb=>(f2 b hb).1,w0⟩
 rintro n s3 ⟨i,σ3,H3,I3,st3,fr3,w3⟩
 rcases turn i n σ3 H3 w3 with ⟨stop,qn⟩ | ⟨go,N,hN,step⟩
 ·refine wpAny_passesOwn hp (thn (T.done X rfl rfl rfl hc i pins s3 σ3 H3 X.xe I3 (stat fr3) st3 stop) fun r s4 ⟨hr,I4⟩=>?_)
  subst hr
  exact wpAny_execs_nil ⟨σ3,H3,I4,qn⟩
 ·refine wpAny_passesOwn hp (thn (T.item X rfl rfl rfl hc i pins s3 σ3 H3 X.xe I3 (stat fr3) st3 go) fun r s4 ⟨u,hr,h4⟩=>?_)
  subst hr
  refine wpAny_passesOwn hp (thn h4 fun _ s5 ⟨x,H5,I5,r5,y5,st5,fr5⟩=>?_)
  have I5':=I5.pinned (stat fr5) (T.obj _ _ st5)
  refine wpAny_passesOwn hp (thn (hg _ s5 σ3 H5 x u _ I5' r5 (step x H5 y5)) fun _ s6 ⟨σ6,H6,I6,q6⟩=>?_)
  refine wpAny_passesOwn hp (thn (hb _ s6 σ6 H6 _ I6 q6) fun f s7 q7=>?_)
  have again:∀ {σ7:St} {H7:Hp},Inv X (pins++x4q fp s5.heap) σ7 H7 s7→N σ7 H7→∃ m,m < n∧∃ i σ' H',Inv X pins σ' H' s7∧tn i s7.heap∧(∀ b∈fp,H' b=none)∧W i m σ' H':=fun {σ7 H7} I7 n7=>by
   obtain⟨m',hm,w7⟩:=hN σ7 H7 n7
   refine⟨m',hm,i+1,σ7,H7,I7.unpinned,T.keep _ _ _ st5 fun b hb o e=>(I7.pin (b,o) (List.mem_append_right _ (List.mem_append_right _ (q7b hb e)))).1,fun b hb=>?_,w7⟩
   obtain⟨o,e,d⟩:=T.obj _ _ st5 b hb
   exact (I7.pin (b,o) (List.mem_append_right _ (List.mem_append_right _ (q7b hb e)))).2.1
  cases f with
  | next=>obtain⟨σ7,H7,I7,n7⟩:=q7; exact again I7 n7
  | cont=>obtain⟨σ7,H7,I7,n7⟩:=q7; exact again I7 n7
  | brk=>obtain⟨σ7,H7,I7,q7⟩:=q7; exact⟨σ7,H7,I7.unpinned,q7⟩
  | ret v=>obtain⟨x7,σ7,H7,I7,r7,q7⟩:=q7; exact⟨x7,σ7,H7,I7.unpinned,r7,q7⟩
end
theorem q9z {K:Frag} {a:Addr} {xs:List V} {g:TG} {tb:TS} {D:Ends} {σ:St} {H:Hp} (Pv:Nat→St→Hp→Prop) (h0:Pv 0 σ H) (hl:∀ i σ H,i≤xs.length→Pv i σ H→SqL K H a xs)
  (hs:∀ i x σ H,xs[i]? = some x→Pv i σ H→g x σ H fun σ2 H2=>tb { D with nx:=Pv (i+1),ct:=Pv (i+1),bk:=D.nx } σ2 H2) (hd:∀ σ H,Pv xs.length σ H→D.nx σ H) :
  ∃ W:Nat→Nat→St→Hp→Prop,(∃ m,W 0 m σ H)∧∀ i m σ H,W i m σ H →
   ((Itl K a).stop i H∧D.nx σ H)∨((Itl K a).go i H∧∃ N:St→Hp→Prop,(∀ σ' H',N σ' H'→∃ m',m' < m∧W (i+1) m' σ' H')∧∀ x H',(Itl K a).yld i H x H'→g x σ H' fun σ2 H2=>tb { D with nx:=N,ct:=N,bk:=D.nx } σ2 H2):=by
 refine⟨fun i m σ H=>m=xs.length - i∧i≤xs.length∧Pv i σ H,⟨xs.length,by simp,Nat.zero_le _,h0⟩,?_⟩
 rintro i m σ H ⟨rfl,hi,p⟩
 have q:=hl i σ H hi p
 by_cases hlt:i < xs.length
 ·refine .inr ⟨⟨xs,xs[i],q,by simp [hlt]⟩,Pv (i+1),fun σ' H' p'=>⟨xs.length - (i+1),by omega,rfl,hlt,p'⟩,fun x H' y=>?_⟩
  obtain⟨e,y⟩:=y
  subst e
  exact hs i x σ _ (y xs q) p
 ·have e:i=xs.length:=by omega
  subst e
  exact .inl ⟨⟨xs,q,Nat.le_refl _⟩,hd σ H p⟩
theorem x5z {K:Frag} {a:Addr} {xs:List V} {g:TG} {tb:TS} {D:Ends} {σ:St} {H:Hp} (Pv:Nat→St→Hp→Prop) (h0:Pv 0 σ H) (hl:∀ i σ H,i≤xs.length→Pv i σ H→SqT K H a xs)
  (hs:∀ i x σ H,xs[i]? = some x→Pv i σ H→g x σ H fun σ2 H2=>tb { D with nx:=Pv (i+1),ct:=Pv (i+1),bk:=D.nx } σ2 H2) (hd:∀ σ H,Pv xs.length σ H→D.nx σ H) :
  ∃ W:Nat→Nat→St→Hp→Prop,(∃ m,W 0 m σ H)∧∀ i m σ H,W i m σ H →
   ((Itt K a).stop i H∧D.nx σ H)∨((Itt K a).go i H∧∃ N:St→Hp→Prop,(∀ σ' H',N σ' H'→∃ m',m' < m∧W (i+1) m' σ' H')∧∀ x H',(Itt K a).yld i H x H'→g x σ H' fun σ2 H2=>tb { D with nx:=N,ct:=N,bk:=D.nx } σ2 H2):=by
 refine⟨fun i m σ H=>m=xs.length - i∧i≤xs.length∧Pv i σ H,⟨xs.length,by simp,Nat.zero_le _,h0⟩,?_⟩
 rintro i m σ H ⟨rfl,hi,p⟩
 have q:=hl i σ H hi p
 by_cases hlt:i < xs.length
 ·refine .inr ⟨⟨xs,xs[i],q,by simp [hlt]⟩,Pv (i+1),fun σ' H' p'=>⟨xs.length - (i+1),by omega,rfl,hlt,p'⟩,fun x H' y=>?_⟩
  obtain⟨e,y⟩:=y
  subst e
  exact hs i x σ _ (y xs q) p
 ·have e:i=xs.length:=by omega
  subst e
  exact .inl ⟨⟨xs,q,Nat.le_refl _⟩,hd σ H p⟩
theorem x4d {lo:Int} {n:Nat} {g:TG} {tb:TS} {D:Ends} {σ:St} {H:Hp} (Pv:Nat→St→Hp→Prop) (h0:Pv 0 σ H)
  (hs:∀ i σ H,i < n→Pv i σ H→g (.int (lo+i)) σ H fun σ2 H2=>tb { D with nx:=Pv (i+1),ct:=Pv (i+1),bk:=D.nx } σ2 H2) (hd:∀ σ H,Pv n σ H→D.nx σ H) :
  ∃ W:Nat→Nat→St→Hp→Prop,(∃ m,W 0 m σ H)∧∀ i m σ H,W i m σ H →
   ((Itr lo n).stop i H∧D.nx σ H)∨((Itr lo n).go i H∧∃ N:St→Hp→Prop,(∀ σ' H',N σ' H'→∃ m',m' < m∧W (i+1) m' σ' H')∧∀ x H',(Itr lo n).yld i H x H'→g x σ H' fun σ2 H2=>tb { D with nx:=N,ct:=N,bk:=D.nx } σ2 H2):=by
 refine⟨fun i m σ H=>m=n - i∧i≤n∧Pv i σ H,⟨n,by simp,Nat.zero_le _,h0⟩,?_⟩
 rintro i m σ H ⟨rfl,hi,p⟩
 by_cases hlt:i < n
 ·refine .inr ⟨hlt,Pv (i+1),fun σ' H' p'=>⟨n - (i+1),by omega,rfl,hlt,p'⟩,fun x H' y=>?_⟩
  obtain⟨e,y⟩:=y
  subst e y
  exact hs i σ _ hlt p
 ·have e:i=n:=by omega
  subst e
  exact .inl ⟨Nat.le_refl _,hd σ H p⟩
noncomputable abbrev R2:=V→V→Hp→VK→Prop
noncomputable def OpR (X:Cx) (f:Value→Value→Sem Value) (r:R2):Prop :=
 ∀ (pins:List (Addr × Obj)) (s:Shared) (σ:St) (H:Hp) (x y:V) (v u:Value) (Q:VK),Inv X pins σ H s→q3a x v→q3a y u→r x y H Q →
  wpAny (model X.prog X.w) X.A (f v u) (EP X pins σ Q) X.xe s
noncomputable def UnR (X:Cx) (f:Value→Sem Value) (r:V→Hp→VK→Prop):Prop :=
 ∀ (pins:List (Addr × Obj)) (s:Shared) (σ:St) (H:Hp) (x:V) (v:Value) (Q:VK),Inv X pins σ H s→q3a x v→r x H Q →
  wpAny (model X.prog X.w) X.A (f v) (EP X pins σ Q) X.xe s
noncomputable def x0r (X:Cx) (f:Value) (r:List V→Hp→VK→Prop):Prop :=
 ∀ (pins:List (Addr × Obj)) (s:Shared) (σ:St) (H:Hp) (xs:List V) (us:List Value) (Q:VK),Inv X pins σ H s→q2i xs us→r xs H Q →
  wpAny (model X.prog X.w) X.A (call f us) (EP X pins σ Q) X.xe s
noncomputable def tOp (r:R2) (ta tb:TE):TE:=fun σ H Q=>ta σ H fun x H1=>tb σ H1 fun y H2=>r x y H2 Q
noncomputable def tUn (r:V→Hp→VK→Prop) (ta:TE):TE:=fun σ H Q=>ta σ H fun x H1=>r x H1 Q
noncomputable def rI (C:Int→Int→Prop) (g:Int→Int→V):R2:=fun x y H Q=>∃ i j,x=.int i∧y=.int j∧C i j∧Q (g i j) H
noncomputable def rI0 (g:Int→Int→V):R2:=fun x y H Q=>∃ i j,x=.int i∧y=.int j∧Q (g i j) H
noncomputable def rU (g:Int→V):V→Hp→VK→Prop:=fun x H Q=>∃ i,x=.int i∧Q (g i) H
section
variable {X:Cx} {a b c:Expr} {ta tb tc:TE} {pos:Pos}
theorem j4x (ha:PE X a ta) (hb:PE X b tb) {pins:List (Addr × Obj)} {s:Shared} {σ:St} {H:Hp} {R:V→V→Hp→Prop} (I:Inv X pins σ H s)
  (h:ta σ H fun x H1=>tb σ H1 fun y H2=>R x y H2) {Q:Value→Shared→Prop} {f:Value→Value→Sem Value}
  (hf:∀ v u s2 x y H2,Inv X pins σ H2 s2→q3a x v→q3a y u→R x y H2→wpAny (model X.prog X.w) X.A (f v u) Q X.xe s2) :
  wpAny (model X.prog X.w) X.A (eval a X.env) (fun v s₁=>wpAny (model X.prog X.w) X.A (eval b X.env) (fun u s₂=>wpAny (model X.prog X.w) X.A (f v u) Q X.xe s₂) X.xe s₁) X.xe s:=by
 refine thn (ha pins s σ H _ I h) fun v s1 ⟨x,H1,I1,r1,q1⟩=>?_
 refine thn (hb pins s1 σ H1 _ I1 q1) fun u s2 ⟨y,H2,I2,r2,q2⟩=>?_
 exact hf v u s2 x y H2 I2 r1 r2 q2
theorem q0x {op:Operator} {r:R2} (ho:OpR X (binaryOp op) r) (ha:PE X a ta) (hb:PE X b tb):PE X (.BinOp a op b pos) (tOp r ta tb):=by
 intro pins s σ H Q I h
 exact wpAny_BinOp (j4x ha hb I h fun v u s2 x y H2 I2 rx ry q=>ho pins s2 σ H2 x y v u Q I2 rx ry q)
theorem z6f {op:UnaryOp} {r:V→Hp→VK→Prop} (ho:UnR X (unaryOp op) r) (ha:PE X a ta):PE X (.UnaryOp op a pos) (tUn r ta):=by
 intro pins s σ H Q I h
 exact UnaryOp_ (thn (ha pins s σ H _ I h) fun v s1 ⟨x,H1,I1,r1,q1⟩=>ho pins s1 σ H1 x v Q I1 r1 q1)
theorem opI {f:Value→Value→Sem Value} {C:Int→Int→Prop} {g:Int→Int→Int}
  (rule:∀ (i j:Int) (t u:Tok) (s:Shared) (Q:Value→Shared→Prop) (E:Value→Shared→Prop),C i j→Q (.int (g i j) s.toks) { s with toks:=s.toks+1 }→wpAny (model X.prog X.w) X.A (f (.int i t) (.int j u)) Q E s) :
  OpR X f (rI C fun i j=>.int (g i j)):=by
 intro pins s σ H x y v u Q I rx ry h
 obtain⟨i,j,rfl,rfl,hc,q⟩:=h
 obtain⟨t,rfl⟩:=rx
 obtain⟨t',rfl⟩:=ry
 exact rule i j t t' s _ _ hc ⟨.int (g i j),H,I.tok _,⟨_,rfl⟩,q⟩
theorem j7o {f:Value→Value→Sem Value} {g:Int→Int→Int}
  (rule:∀ (i j:Int) (t u:Tok) (s:Shared) (Q:Value→Shared→Prop) (E:Value→Shared→Prop),Q (.int (g i j) s.toks) { s with toks:=s.toks+1 }→wpAny (model X.prog X.w) X.A (f (.int i t) (.int j u)) Q E s) :
  OpR X f (rI0 fun i j=>.int (g i j)):=by
 intro pins s σ H x y v u Q I rx ry h
 obtain⟨i,j,rfl,rfl,q⟩:=h
 obtain⟨t,rfl⟩:=rx
 obtain⟨t',rfl⟩:=ry
 exact rule i j t t' s _ _ ⟨.int (g i j),H,I.tok _,⟨_,rfl⟩,q⟩
theorem j4f {f:Value→Value→Sem Value} {g:Int→Int→Bool}
  (rule:∀ (i j:Int) (t u:Tok) (s:Shared) (Q:Value→Shared→Prop) (E:Value→Shared→Prop),Q (.bool (g i j)) s→wpAny (model X.prog X.w) X.A (f (.int i t) (.int j u)) Q E s) :
  OpR X f (rI0 fun i j=>.bl (g i j)):=by
 intro pins s σ H x y v u Q I rx ry h
 obtain⟨i,j,rfl,rfl,q⟩:=h
 obtain⟨t,rfl⟩:=rx
 obtain⟨t',rfl⟩:=ry
 exact rule i j t t' s _ _ ⟨.bl (g i j),H,I,rfl,q⟩
noncomputable def j8c (i j:Int):Prop:=0 < j∧j < 1073741824
noncomputable def j9r (i j:Int):Prop:=0≤j∧j≤1000000∧i.natAbs < 2 ^ 64
noncomputable def j5a (i j:Int):Prop:=(-(2 ^ 64) < i∧i < 2 ^ 64)∨(-(2 ^ 64) < j∧j < 2 ^ 64)
theorem j5a.ok {i j:Int} (h:j5a i j):IntMulOk i j:=by
 rcases h with ⟨h1,h2⟩ | ⟨h1,h2⟩
 ·exact .of_left (intBits_le_64 h1 h2)
 ·exact .of_right (intBits_le_64 h1 h2)
theorem q1o:OpR X (binaryOp .Add) (rI0 fun i j=>.int (i+j)):=j7o fun _ _ _ _ _ _ _ q=>add_int q
theorem q2q:OpR X (binaryOp .Sub) (rI0 fun i j=>.int (i - j)):=j7o fun _ _ _ _ _ _ _ q=>sub_int q
theorem q6a:OpR X (binaryOp .Mult) (rI j5a fun i j=>.int (i*j)):=opI fun _ _ _ _ _ _ _ hc q=>mul_int q hc.ok
theorem q3j:OpR X (binaryOp .FloorDiv) (rI j8c fun i j=>.int (i / j)):=opI fun i j _ _ _ _ _ hc q=>by
 have h1:(0:Int) < j:=hc.1
 have h2:j < 1073741824:=hc.2
 exact floordiv_int (by omega) (by rw [Int.fdiv_eq_ediv_of_nonneg i (by omega)]; exact q) (.inl (PyProof.noPylong_small (by omega)))
theorem q2t:OpR X (binaryOp .Mod) (rI (fun _ j=>0 < j) fun i j=>.int (i % j)):=opI fun i j _ _ _ _ _ hc q=>by
 have h1:(0:Int) < j:=hc
 exact mod_int' (by omega) (by rw [Int.fmod_eq_emod_of_nonneg i (by omega)]; exact q)
theorem z7a:OpR X (binaryOp .Pow) (rI j9r fun i j=>.int (i ^ j.toNat)):=opI fun _ _ _ _ _ _ _ hc q=>pow_int_small hc.1 hc.2.1 hc.2.2 q
theorem unI {f:Value→Sem Value} {g:Int→Int}
  (rule:∀ (i:Int) (t:Tok) (s:Shared) (Q:Value→Shared→Prop) (E:Value→Shared→Prop),Q (.int (g i) s.toks) { s with toks:=s.toks+1 }→wpAny (model X.prog X.w) X.A (f (.int i t)) Q E s) :
  UnR X f (rU fun i=>.int (g i)):=by
 intro pins s σ H x v Q I rx h
 obtain⟨i,rfl,q⟩:=h
 obtain⟨t,rfl⟩:=rx
 exact rule i t s _ _ ⟨.int (g i),H,I.tok _,⟨_,rfl⟩,q⟩
theorem x8o:UnR X (unaryOp .USub) (rU fun i=>.int (-i)):=unI fun _ _ _ _ _ q=>neg_int q
end
noncomputable def j4a:V→V→Bool
 | .non,.non=>true | .non,.int _=>true | .int _,.non=>true | .non,.bl _=>true | .bl _,.non=>true | .non,.str _=>true | .str _,.non=>true
 | .int _,.int _=>true | .bl _,.bl _=>true | .str _,.str _=>true | .byt _,.byt _=>true
 | .int _,.str _=>true | .str _,.int _=>true | .bl _,.str _=>true | .str _,.bl _=>true
 | _,_=>false
noncomputable def rEq:R2:=fun x y H Q=>j4a x y=true∧Q (.bl (decide (x=y))) H
noncomputable def rNe:R2:=fun x y H Q=>j4a x y=true∧Q (.bl (!decide (x=y))) H
theorem x2u {i j:Int}:decide (V.int i=V.int j)=(i==j):=by
 rw [Bool.eq_iff_iff]
 simp
theorem z6x {i j:Bool}:decide (V.bl i=V.bl j)=(i==j):=by
 rw [Bool.eq_iff_iff]
 simp
theorem z3d {i j:Str}:decide (V.str i=V.str j)=(i==j):=by
 rw [Bool.eq_iff_iff]
 simp
theorem z3b {i j:Array UInt8}:decide (V.byt i=V.byt j)=(i.toList==j.toList):=by
 rw [Bool.eq_iff_iff]
 cases i
 cases j
 simp
section
variable {X:Cx} {a b c:Expr} {ta tb tc:TE} {pos:Pos}
theorem q2a {pins:List (Addr × Obj)} {σ:St} {H:Hp} {s:Shared} {Q:VK} {k k':Bool} (I:Inv X pins σ H s) (q:Q (.bl k) H) (e:k=k'):EP X pins σ Q (.bool k') s:=by
 subst e
 exact⟨.bl k,H,I,rfl,q⟩
theorem q2u:OpR X (compareOp .Eq) rEq:=by
 intro pins s σ H x y v u Q I rx ry h
 obtain⟨hs,q⟩:=h
 cases x with
 | non =>
  cases rx
  cases y with
  | non=>cases ry; exact PySem.EqNone.eq_none_none (q2a I q (by simp))
  | bl j=>cases ry; exact PySem.EqNone.eq_none_bool (q2a I q (by simp))
  | int j=>obtain⟨t',rfl⟩:=ry; exact PySem.EqNone.eq_none_int (q2a I q (by simp))
  | str j=>obtain⟨t',rfl⟩:=ry; exact PySem.EqNone.eq_none_str (q2a I q (by simp))
  | _=>exact absurd (show false=true from hs) Bool.false_ne_true
 | bl i =>
  cases rx
  cases y with
  | non=>cases ry; exact PySem.EqNone.eq_bool_none (q2a I q (by simp))
  | bl j=>cases ry; exact eq_bool (q2a I q z6x)
  | str j=>obtain⟨t',rfl⟩:=ry; exact PySem.EqMixed.eq_bool_str (q2a I q (by simp))
  | _=>exact absurd (show false=true from hs) Bool.false_ne_true
 | int i =>
  obtain⟨t,rfl⟩:=rx
  cases y with
  | non=>cases ry; exact PySem.EqNone.eq_int_none (q2a I q (by simp))
  | int j=>obtain⟨t',rfl⟩:=ry; exact eq_int (q2a I q x2u)
  | str j=>obtain⟨t',rfl⟩:=ry; exact PySem.EqMixed.eq_int_str (q2a I q (by simp))
  | _=>exact absurd (show false=true from hs) Bool.false_ne_true
 | str i =>
  obtain⟨t,rfl⟩:=rx
  cases y with
  | non=>cases ry; exact PySem.EqNone.eq_str_none (q2a I q (by simp))
  | bl j=>cases ry; exact PySem.EqMixed.eq_str_bool (q2a I q (by simp))
  | int j=>obtain⟨t',rfl⟩:=ry; exact PySem.EqMixed.eq_str_int (q2a I q (by simp))
  | str j=>obtain⟨t',rfl⟩:=ry; exact eq_str (q2a I q z3d)
  | _=>exact absurd (show false=true from hs) Bool.false_ne_true
 | byt i =>
  obtain⟨t,rfl⟩:=rx
  cases y with
  | byt j=>obtain⟨t',rfl⟩:=ry; exact PySem.W.eq_bytes (q2a I q z3b)
  | _=>exact absurd (show false=true from hs) Bool.false_ne_true
 | _=>cases y <;> exact absurd (show false=true from hs) Bool.false_ne_true
theorem q4y:OpR X (compareOp .NotEq) rNe:=by
 intro pins s σ H x y v u Q I rx ry h
 obtain⟨hs,q⟩:=h
 cases x with
 | non =>
  cases rx
  cases y with
  | non=>cases ry; exact PySem.EqNone.ne_none_none (q2a I q (by simp))
  | bl j=>cases ry; exact PySem.EqNone.ne_none_bool (q2a I q (by simp))
  | int j=>obtain⟨t',rfl⟩:=ry; exact PySem.EqNone.ne_none_int (q2a I q (by simp))
  | str j=>obtain⟨t',rfl⟩:=ry; exact PySem.EqNone.ne_none_str (q2a I q (by simp))
  | _=>exact absurd (show false=true from hs) Bool.false_ne_true
 | bl i =>
  cases rx
  cases y with
  | non=>cases ry; exact PySem.EqNone.ne_bool_none (q2a I q (by simp))
  | bl j=>cases ry; exact ne_bool (q2a I q (congrArg not z6x))
  | str j=>obtain⟨t',rfl⟩:=ry; exact PySem.EqMixed.ne_bool_str (q2a I q (by simp))
  | _=>exact absurd (show false=true from hs) Bool.false_ne_true
 | int i =>
  obtain⟨t,rfl⟩:=rx
  cases y with
  | non=>cases ry; exact PySem.EqNone.ne_int_none (q2a I q (by simp))
  | int j=>obtain⟨t',rfl⟩:=ry; exact ne_int (q2a I q (congrArg not x2u))
  | str j=>obtain⟨t',rfl⟩:=ry; exact PySem.EqMixed.ne_int_str (q2a I q (by simp))
  | _=>exact absurd (show false=true from hs) Bool.false_ne_true
 | str i =>
  obtain⟨t,rfl⟩:=rx
  cases y with
  | non=>cases ry; exact PySem.EqNone.ne_str_none (q2a I q (by simp))
  | bl j=>cases ry; exact PySem.EqMixed.ne_str_bool (q2a I q (by simp))
  | int j=>obtain⟨t',rfl⟩:=ry; exact PySem.EqMixed.ne_str_int (q2a I q (by simp))
  | str j=>obtain⟨t',rfl⟩:=ry; exact ne_str (q2a I q (congrArg not z3d))
  | _=>exact absurd (show false=true from hs) Bool.false_ne_true
 | byt i =>
  obtain⟨t,rfl⟩:=rx
  cases y with
  | byt j=>obtain⟨t',rfl⟩:=ry; exact PySem.W.ne_bytes (q2a I q (congrArg not z3b))
  | _=>exact absurd (show false=true from hs) Bool.false_ne_true
 | _=>cases y <;> exact absurd (show false=true from hs) Bool.false_ne_true
theorem x3g:OpR X (compareOp .Lt) (rI0 fun i j=>.bl (decide (i < j))):=j4f fun _ _ _ _ _ _ _ q=>lt_int q
theorem x3s:OpR X (compareOp .LtE) (rI0 fun i j=>.bl (decide (i≤j))):=j4f fun _ _ _ _ _ _ _ q=>le_int q
theorem q4g:OpR X (compareOp .Gt) (rI0 fun i j=>.bl (decide (j < i))):=j4f fun _ _ _ _ _ _ _ q=>gt_int q
theorem z4o:OpR X (compareOp .GtE) (rI0 fun i j=>.bl (decide (j≤i))):=j4f fun _ _ _ _ _ _ _ q=>ge_int q
theorem z3q:OpR X (compareOp .Lt) (fun x y H Q=>∃ i j,x=.str i∧y=.str j∧Q (.bl (decide (i.cps.toList < j.cps.toList))) H):=by
 intro pins s σ H x y v u Q I rx ry h
 obtain⟨i,j,rfl,rfl,q⟩:=h
 obtain⟨t,rfl⟩:=rx
 obtain⟨t',rfl⟩:=ry
 exact lt_str (q2a I q rfl)
theorem j0z:OpR X (compareOp .Is) (fun x y H Q=>y=.non∧Q (.bl (decide (x=.non))) H):=by
 intro pins s σ H x y v u Q I rx ry h
 obtain⟨rfl,q⟩:=h
 cases ry
 refine is_none_gen (q2a I q ?_)
 cases x <;> first
  | (cases rx; rfl)
  | (obtain⟨t,rfl⟩:=rx; rfl)
theorem q0o (b:Expr) {op:CmpOp} (h:op≠.In:=by decide) (h2:op≠.NotIn:=by decide):behindInMarks op b=false:=by
 have e1:(op==CmpOp.In)=false:=by cases op <;> first | rfl | exact absurd rfl h
 have e2:(op==CmpOp.NotIn)=false:=by cases op <;> first | rfl | exact absurd rfl h2
 cases b <;> simp [behindInMarks,e1,e2]
theorem q1v {op:CmpOp} {r:R2} (ho:OpR X (compareOp op) r) (ha:PE X a ta) (hb:PE X b tb) (hm:behindInMarks op b=false):PE X (.Compare a [op] [b] pos) (tOp r ta tb):=by
 intro pins s σ H Q I h
 exact wpAny_Compare1 (j4x ha hb I h fun v u s2 x y H2 I2 rx ry q=>ho pins s2 σ H2 x y v u Q I2 rx ry q) hm
noncomputable def j4o (t:TE):TT:=fun σ H Q=>t σ H fun x H'=>∃ k,x=.bl k∧Q k H'
theorem q0m {op:CmpOp} {r:R2} (ho:OpR X (compareOp op) r) (ha:PE X a ta) (hb:PE X b tb) (hm:behindInMarks op b=false):PT X (.Compare a [op] [b] pos) (j4o (tOp r ta tb)):=by
 intro pins s σ H Q I h
 refine wpAny_isTrue_Compare1 (thn (ha pins s σ H _ I h) fun v s1 ⟨x,H1,I1,r1,q1⟩=>thn (hb pins s1 σ H1 _ I1 q1) fun u s2 ⟨y,H2,I2,r2,q2⟩ =>
  thn (ho pins s2 σ H2 x y v u _ I2 r1 r2 q2) fun c s3 ⟨z,H3,I3,r3,k,e,q3⟩=>?_) hm
 subst e
 cases r3
 exact wpAny_truthy_bool ⟨H3,I3,q3⟩
theorem x5l:(sizeLine:Nat) < 2 ^ 63:=by rw [sizeLine_eq]; decide
theorem x4x {x:V} {us:List Value} (r:q2i [x] us):∃ u,us=[u]∧q3a x u:=by
 cases r with
 | cons r1 r2=>cases r2; exact⟨_,rfl,r1⟩
theorem z4w {x y:V} {us:List Value} (r:q2i [x,y] us):∃ u w',us=[u,w']∧q3a x u∧q3a y w':=by
 cases r with
 | cons r1 r2 =>
  cases r2 with
  | cons r3 r4=>cases r4; exact⟨_,_,rfl,r1,r3⟩
theorem q2c (hc:X.calm=true):x0r X (.builtin "max") (fun xs H Q=>∃ i j,xs=[.int i,.int j]∧Q (.int (if j > i then j else i)) H):=by
 intro pins s σ H xs us Q I r h
 obtain⟨i,j,rfl,q⟩:=h
 obtain⟨u,w',rfl,⟨t,rfl⟩,⟨t',rfl⟩⟩:=z4w r
 refine max_two_ints (I.ok.hd hc) fun h' tk k=>⟨_,H,I.kept k,?_,q⟩
 by_cases hj:j > i
 ·rw [if_pos hj,if_pos hj]; exact⟨_,rfl⟩
 ·rw [if_neg hj,if_neg hj]; exact⟨_,rfl⟩
theorem q4a (hc:X.calm=true):x0r X (.builtin "min") (fun xs H Q=>∃ i j,xs=[.int i,.int j]∧Q (.int (if j < i then j else i)) H):=by
 intro pins s σ H xs us Q I r h
 obtain⟨i,j,rfl,q⟩:=h
 obtain⟨u,w',rfl,⟨t,rfl⟩,⟨t',rfl⟩⟩:=z4w r
 refine min_two_ints (I.ok.hd hc) fun h' tk k=>⟨_,H,I.kept k,?_,q⟩
 by_cases hj:j < i
 ·rw [if_pos hj,if_pos hj]; exact⟨_,rfl⟩
 ·rw [if_neg hj,if_neg hj]; exact⟨_,rfl⟩
theorem q5c:x0r X (.type "int") (fun xs H Q=>(∃ i,xs=[.int i]∧Q (.int i) H)∨∃ k,xs=[.bl k]∧Q (.int (if k then 1 else 0)) H):=by
 intro pins s σ H xs us Q I r h
 rcases h with ⟨i,rfl,q⟩ | ⟨k,rfl,q⟩
 ·obtain⟨u,rfl,t,rfl⟩:=x4x r
  exact call_int_int ⟨.int i,H,I,⟨_,rfl⟩,q⟩
 ·obtain⟨u,rfl,r1⟩:=x4x r
  cases r1
  exact call_int_bool ⟨.int (if k then 1 else 0),H,I.tok _,⟨_,rfl⟩,q⟩
end
structure ObjM (h:Heap) (x dx C:Addr) (mA:Str→Option Value):Prop where
 obj:h.get? x=some (instObj C dx)
 ns:h.Ns1 dx mA
 ne:dx≠x
theorem z0n {h:Heap} {dx:Addr} {mA:Str→Option Value} (n:h.Ns1 dx mA):∃ od,h.get? dx=some od∧∀ name,PySem.W.lookIn name od=some (mA name):=by
 obtain⟨o,es,ep,ho,hd,hk,_,hm⟩:=n
 refine⟨o,ho,fun name=>?_⟩
 have e:=hm name
 unfold nsFind findBy at e
 rw [← Array.find?_toList] at e
 unfold PySem.W.lookIn
 rw [hd]
 dsimp only
 split
 ·rename_i y q
  rw [q] at e
  exact congrArg some e
 ·rename_i q
  rw [q] at e
  have a:es.toList.any (·.refKey)=false:=by
   rw [List.any_eq_false]
   intro y hy
   obtain⟨z,t,hkey⟩:=hk y (Array.mem_toList_iff.mp hy)
   simp [DictEntry.refKey,hkey]
  have a':¬ es.toList.any (·.refKey)=true:=by rw [a]; exact Bool.false_ne_true
  rw [if_neg a']
  exact congrArg some e
theorem ObjM.look {h:Heap} {x dx C:Addr} {mA:Str→Option Value} (I:ObjM h x dx C mA):∃ od,PySem.W.InstAt h x (instObj C dx) C (some od)∧∀ name,PySem.W.lookIn name od=some (mA name) :=
 let ⟨od,ho,hl⟩:=z0n I.ns
 ⟨od,⟨I.obj,rfl,rfl,ho⟩,hl⟩
section
variable {prog:Program} {w:World} {A:Around} {E:Value→Shared→Prop} {s:Shared} {K:Frag} {x dx C f:Addr} {mA:Str→Option Value} {name:Str} {v:Value}
theorem z8a {expr:Bool} {Q:Value→Shared→Prop} (X:K.In s.heap) (I:ObjM s.heap x dx C mA) (hg:PySem.W.plainGet K C name=true) (hh:PySem.W.hasDictIn K C=true)
  (ha:findIn K (.ref C) name=some none) (hv:mA name=some v) (hv':PySem.W.handedIn v=true) (h:Q v { s with toks:=s.toks+1 }) :
  wpAny (model prog w) A (getAttr (.ref x) name expr) Q E s:=by
 obtain⟨od,J,hl⟩:=I.look
 exact PySem.W.get_value X J (PySem.W.plainGet_of hg).1 (PySem.W.findObj_own hh ha rfl (by rw [hl,hv])) hv' h
theorem z5t {pl:Sem Bool} {Q:Value × List Value→Shared→Prop} (X:K.In s.heap) (I:ObjM s.heap x dx C mA) (hg:PySem.W.plainGet K C name=true)
  (hf:findIn K (.ref C) name=some (some (.ref f))) (ht:PySem.W.isFn K (.ref f)=true) (hv:mA name=none) (h:Q (.ref f,[.ref x]) s) :
  wpAny (model prog w) A (getMethod (.ref x) name pl) Q E s:=by
 obtain⟨od,J,hl⟩:=I.look
 exact PySem.W.method_fn X J (PySem.W.plainGet_of hg).1 (PySem.W.plainGet_of hg).2 hf (beq_iff_eq.mp ht) (by show (PySem.W.lookIn name od).map (·.isSome)=some false; rw [hl,hv]; rfl) h
theorem z9y {ns:List Str} {Q:Unit→Shared→Prop} (X:K.In s.heap) (I:ObjM s.heap x dx C mA)
  (hs:findIn K (.ref C) "__setattr__" = some (some (.builtin "object.__setattr__"))) (hp:PySem.W.plainOver K C=true) (ht:PySem.W.takerIn K C name=some none) (hh:PySem.W.hasDictIn K C=true)
  (hw:PySem.Within mA ns) (hsz:ns.length≤sizeLine)
  (h:∀ h',ObjM h' x dx C (fun y=>if y=name then some v else mA y)→Heap.SameBut dx s.heap h'→Q () { s with heap:=h',toks:=s.toks+2 }) :
  wpAny (model prog w) A (setAttr (.ref x) name v) Q E s:=by
 obtain⟨od,J,hl⟩:=I.look
 refine PySem.W.set_plain X J hs (PySem.W.osa_open (s:={ s with toks:=s.toks+1 }) (r:=none) X J hp ht fun b=>?_)
 obtain⟨cd,hc,hd'⟩:=PySem.W.any_some hh
 have hx:s.heap.get? x=some ⟨.ref C,some dx,.plain,#[]⟩:=I.obj
 refine wpAny_bind (wpAny_pure (wpAny_bind (wpAny_bind (wpAny_loadPart hx (wpAny_bind (PySem.W.Looks.here (s:={ s with toks:=s.toks+1 }) (PySem.W.looks_clsIn X hc) ?_))))))
 rw [hd']
 refine wpAny_pure (a:=some dx) (wpAny_bind (wpAny_pure (wpAny_bind ?_)))
 refine wpAny_nsSet1 (s:={ s with toks:=s.toks+1 }) I.ns fun h' hn2 hs2=>?_
 obtain⟨oD,esD,epD,hoD,hdD,hcD⟩:=hn2.count (PySem.Within.cons name v hw)
 refine wpAny_bind (wpAny_lookBehind hoD (by rw [hdD]; exact pastItsLine_dict (Nat.le_trans hcD (by rw [List.length_cons]; omega))) ?_)
 exact wpAny_pure (h _ ⟨(hs2.2 _ (Ne.symm I.ne)).trans I.obj,hn2,I.ne⟩ hs2)
theorem z4h {R:Result→Shared→Prop} {vs:List Value} {kw:List (Str × Value)} (X:K.In s.heap) (hm:PySem.W.makesIn K C=true)
  (hi:findIn K (.ref C) "__init__" = some (some (.ref f))) (hf:PySem.W.typeIn K (.ref f)=some (.type "function"))
  (h:codeAny (model prog w) (A.under (.builtin "type.__call__" ⟨.ref C::vs,kw⟩)) (.call (.ref f) ⟨.ref (s.heap.objs.size+1)::vs,kw⟩) (PySem.W.InitBack (s.heap.objs.size+1) R)
   { s with heap:=(s.heap.push emptyDict).push (instObj C s.heap.objs.size) }) :
  codeAny (model prog w) A (.call (.ref C) ⟨vs,kw⟩) R s:=by
 obtain⟨hh,g,d,t,os⟩:=s
 exact PySem.W.make_core (PySem.W.makes_of X hm) (PySem.W.looks_findIn X hi) (fun self=>PySem.W.bind_fn X self hf) (.inl rfl) h
end
noncomputable def q1t (f:Str) (v:V):List (Str × V)→List (Str × V)
 | []=>[(f,v)]
 | (g,x)::r=>if g=f then (g,v)::r else (g,x)::q1t f v r
theorem q5m (f g:Str) (v:V):∀ fs:List (Str × V),(q1t f v fs).lookup g=if g=f then some v else fs.lookup g
 | []=>by
  show List.lookup g [(f,v)]=_
  by_cases h:g=f
  ·have hb:(g==f)=true:=beq_iff_eq.mpr h
   simp only [List.lookup,hb,if_pos h]
  ·have hb:(g==f)=false:=beq_eq_false_iff_ne.mpr h
   simp only [List.lookup,hb,if_neg h]
 | (k,x)::r=>by
  have ih:=q5m f g v r
  rw [show q1t f v ((k,x)::r)=(if k=f then (k,v)::r else (k,x)::q1t f v r) from rfl]
  by_cases hk:k=f
  ·rw [if_pos hk]
   by_cases h:g=k
   ·have hb:(g==k)=true:=beq_iff_eq.mpr h
    simp only [List.lookup,hb,if_pos (h.trans hk)]
   ·have hb:(g==k)=false:=beq_eq_false_iff_ne.mpr h
    simp only [List.lookup,hb,if_neg (fun e:g=f=>h (e.trans hk.symm))]
  ·rw [if_neg hk]
   by_cases h:g=k
   ·have hb:(g==k)=true:=beq_iff_eq.mpr h
    simp only [List.lookup,hb,if_neg (fun e:g=f=>hk (h.symm.trans e))]
   ·have hb:(g==k)=false:=beq_eq_false_iff_ne.mpr h
    simp only [List.lookup,hb]
    exact ih
theorem x0y (f:Str) (v:V):∀ fs:List (Str × V),f∈(q1t f v fs).map (·.1)∧∀ g,g∈fs.map (·.1)→g∈(q1t f v fs).map (·.1)
 | []=>⟨by simp [q1t],fun g h=>by simp at h⟩
 | (k,x)::r=>by
  obtain⟨i1,i2⟩:=x0y f v r
  rw [show q1t f v ((k,x)::r)=(if k=f then (k,v)::r else (k,x)::q1t f v r) from rfl]
  by_cases hk:k=f
  ·rw [if_pos hk]
   subst hk
   exact⟨by simp,fun g h=>by simpa using h⟩
  ·rw [if_neg hk]
   refine⟨?_,fun g h=>?_⟩
   ·rw [List.map_cons]
    exact List.mem_cons_of_mem _ i1
   ·rw [List.map_cons] at h ⊢
    rcases List.mem_cons.mp h with e | e
    ·exact List.mem_cons.mpr (.inl e)
    ·exact List.mem_cons_of_mem _ (i2 g e)
theorem x0n (f:Str) (v:V):∀ fs:List (Str × V),(q1t f v fs).length≤fs.length+1
 | []=>by simp [q1t]
 | (k,x)::r=>by
  have ih:=x0n f v r
  rw [show q1t f v ((k,x)::r)=(if k=f then (k,v)::r else (k,x)::q1t f v r) from rfl]
  by_cases hk:k=f
  ·rw [if_pos hk,List.length_cons,List.length_cons]; omega
  ·rw [if_neg hk,List.length_cons,List.length_cons]; omega
theorem x3x.some_of {v:V} {o:Option Value} (r:x3x (some v) o):∃ u,o=some u∧q3a v u:=by
 cases o with
 | none=>exact (show False from r).elim
 | some u=>exact⟨u,rfl,r⟩
theorem x3x.none_of {o:Option Value} (r:x3x none o):o=none:=by
 cases o with
 | none=>rfl
 | some u=>exact (show False from r).elim
theorem z3r {v:V} {u:Value} (r:q3a v u):PySem.W.handedIn u=true:=by
 cases v with
 | non=>cases (show u=Value.none from r); rfl
 | bl b=>cases (show u=Value.bool b from r); rfl
 | int i=>obtain⟨t,e⟩:=(show ∃ t,u=Value.int i t from r); cases e; rfl
 | str x=>obtain⟨t,e⟩:=(show ∃ t,u=Value.str x t from r); cases e; rfl
 | byt b=>obtain⟨t,e⟩:=(show ∃ t,u=Value.bytes b t from r); cases e; rfl
 | flt b=>obtain⟨t,e⟩:=(show ∃ t,u=Value.float b t from r); cases e; rfl
 | ref a=>cases (show u=Value.ref a from r); rfl
 | ty n=>cases (show u=Value.type n from r); rfl
section
variable {P:Program} {w:World} {H H':Hp} {h h':Heap} {a C dx:Addr} {fs fs':List (Str × V)}
theorem x3l (hok:HOk P w H h) (e:H a=some (.ins C dx fs)):∃ mA,ObjM h a dx C mA∧(∀ f,x3x (fs.lookup f) (mA f))∧PySem.Within mA (fs.map (·.1))∧fs.length≤1000∧H dx=some (.own a):=by
 obtain⟨d,z,ne,ob,mA,n,r,q⟩:=(show q3k P w H h a (.ins C dx fs) from hok a _ e)
 exact⟨mA,⟨ob,n,ne⟩,r,q,z,d⟩
end
structure Cls (K:Frag) (C:Addr):Prop where
 pg:PySem.W.plainGet K C Str.empty=true
 hd:PySem.W.hasDictIn K C=true
 po:PySem.W.plainOver K C=true
 sa:findIn K (.ref C) "__setattr__" = some (some (.builtin "object.__setattr__"))
theorem Cls.get {K:Frag} {C:Addr} (c:Cls K C) (f:Str):PySem.W.plainGet K C f=true:=c.pg
noncomputable def q3i (K:Frag) (C:Addr) (f:Str):Prop:=findIn K (.ref C) f=some none
theorem q3i.taker {K:Frag} {C:Addr} {f:Str} (n:q3i K C f):PySem.W.takerIn K C f=some none:=by
 unfold PySem.W.takerIn
 rw [show findIn K (.ref C) f=some none from n]
 rfl
structure Meth (K:Frag) (C:Addr) (m:Str) (f:Addr):Prop where
 at_:findIn K (.ref C) m=some (some (.ref f))
 fn:PySem.W.isFn K (.ref f)=true
 kp:keepIn K (.ref f)=true
section
variable {X:Cx} {pins:List (Addr × Obj)} {σ:St} {H:Hp} {s:Shared} {a C dx:Addr} {fs:List (Str × V)} {f:Str} {v:V} {A:Around} {E:Value→Shared→Prop}
theorem x9q {b:Bool} {Q:Value→Shared→Prop} (I:Inv X pins σ H s) (e:H a=some (.ins C dx fs)) (c:Cls X.K C) (n:q3i X.K C f) (l:fs.lookup f=some v)
  (h:∀ u s',Inv X pins σ H s'→q3a v u→Q u s'):wpAny (model X.prog X.w) A (getAttr (.ref a) f b) Q E s:=by
 obtain⟨mA,O,r,_,_,_⟩:=x3l I.hok e
 obtain⟨u,hu,ru⟩:=x3x.some_of (v:=v) (o:=mA f) (by rw [← l]; exact r f)
 exact z8a I.kIn O (c.get f) c.hd n hu (z3r ru) (h u _ (I.tok _) ru)
theorem x1t {m:Str} {g:Addr} {pl:Sem Bool} {Q:Value × List Value→Shared→Prop} (I:Inv X pins σ H s) (e:H a=some (.ins C dx fs)) (c:Cls X.K C) (k:Meth X.K C m g) (l:fs.lookup m=none)
  (h:Q (.ref g,[.ref a]) s):wpAny (model X.prog X.w) A (getMethod (.ref a) m pl) Q E s:=by
 obtain⟨mA,O,r,_,_,_⟩:=x3l I.hok e
 have hn:mA m=none:=x3x.none_of (by rw [← l]; exact r m)
 exact z5t I.kIn O (c.get m) k.at_ k.fn hn h
theorem x9j {y:V} {u:Value} {Q:Unit→Shared→Prop} (I:Inv X pins σ H s) (e:H a=some (.ins C dx fs)) (c:Cls X.K C) (n:q3i X.K C f) (hl:fs.length < 1000) (ry:q3a y u)
  (h:∀ s',Inv X pins σ (upd H a (.ins C dx (q1t f y fs))) s'→Q () s'):wpAny (model X.prog X.w) A (setAttr (.ref a) f u) Q E s:=by
 obtain⟨mA,O,r,wi,_,ho⟩:=x3l I.hok e
 have hz:(fs.map (·.1)).length≤sizeLine:=by rw [List.length_map,sizeLine_eq]; omega
 refine z9y I.kIn O c.sa c.po n.taker c.hd wi hz fun h' O' sb=>h _ ?_
 have hd:∃ o,h'.get? dx=some o:=let ⟨o,_,_,e',_⟩:=O'.ns; ⟨o,e'⟩
 refine I.write (x:=a) (e:=dx) (by rw [e]; exact True.intro) (.inr ho) (fun b q hb z=>(sb.2 b hb).trans z) hd ?_
 refine⟨by rw [q1c O.ne]; exact ho,?_,O.ne,O'.obj,_,O'.ns,fun g=>?_,fun g hg=>?_⟩
 ·have:=x0n f y fs; omega
 ·show x3x ((q1t f y fs).lookup g) (if g=f then some u else mA g)
  rw [q5m]
  by_cases q:g=f
  ·rw [if_pos q,if_pos q]; exact ry
  ·rw [if_neg q,if_neg q]; exact r g
 ·by_cases q:g=f
  ·rw [q]; exact (x0y f y fs).1
  ·refine (x0y f y fs).2 g (wi g fun z=>hg ?_)
   show (if g=f then some u else mA g)=none
   rw [if_neg q]; exact z
theorem Inv.made (I:Inv X pins σ H s):Inv X pins σ (upd (upd H s.heap.objs.size (.own (s.heap.objs.size+1))) (s.heap.objs.size+1) (.ins C s.heap.objs.size []))
  { s with heap:=(s.heap.push emptyDict).push (instObj C s.heap.objs.size) }:=by
 have e1:(s.heap.push emptyDict).get? s.heap.objs.size=some emptyDict:=Heap.get?_push_size s.heap rfl
 have e2:((s.heap.push emptyDict).push (instObj C s.heap.objs.size)).get? (s.heap.objs.size+1)=some (instObj C s.heap.objs.size):=by
  have:=Heap.get?_push_size (s.heap.push emptyDict) (o:=instObj C s.heap.objs.size) rfl
  rwa [Heap.size_push] at this
 have e3:(s.heap.push emptyDict).Ns s.heap.objs.size (fun _=>none):=⟨emptyDict,#[],_,e1,rfl,(fun e he=>absurd he (by simp)),fun _=>rfl⟩
 have I1:=I.laid (a:=s.heap.objs.size) (o:=.own (s.heap.objs.size+1)) (h':=s.heap.push emptyDict) (t':=s.toks) (fun b u q=>Heap.get?_push_of_some _ q) (Nat.le_refl _) ⟨_,e1⟩
 refine I1.laid (a:=s.heap.objs.size+1) (o:=.ins C s.heap.objs.size []) (t':=s.toks) (fun b u q=>Heap.get?_push_of_some _ q) (Nat.le_of_eq (Heap.size_push _ _)) ?_
 have ne:s.heap.objs.size≠s.heap.objs.size+1:=Nat.ne_of_lt (Nat.lt_succ_self _)
 refine⟨by rw [q1c ne,q0b],Nat.zero_le _,ne,e2,fun _=>none,(Heap.Ns1.of_empty e3).at fun o q=>Heap.get?_push_of_some _ q,fun _=>True.intro,fun y hy=>absurd rfl hy⟩
theorem z8d {prog:Program} {w:World} {env:Env} {e:Expr} {f:Str} {pos:Pos} {s:Shared} {Q:Value→Shared→Prop} (hb:attributeBase e f env (eval e env)=eval e env)
  (h:wpAny (model prog w) A (eval e env) (fun o s₁=>wpAny (model prog w) A (getAttr o f true) Q E s₁) E s):wpAny (model prog w) A (eval (.Attribute e f pos) env) Q E s :=
 Attribute_any_ h (by rw [arm_eval_Attribute,hb])
end
noncomputable def j7q (K:Frag) (ta:TE) (f:Str):TE:=fun σ H Q=>ta σ H fun x H1=>∃ a C dx fs v,x=.ref a∧H1 a=some (.ins C dx fs)∧Cls K C∧q3i K C f∧fs.lookup f=some v∧Q v H1
noncomputable def j8r (K:Frag) (ta tv:TE) (f:Str):TS:=fun D σ H=>tv σ H fun y H1=>ta σ H1 fun x H2=>∃ a C dx fs,x=.ref a∧H2 a=some (.ins C dx fs)∧Cls K C∧q3i K C f∧fs.length < 1000 ∧
 D.nx σ (upd H2 a (.ins C dx (q1t f y fs)))
section
variable {X:Cx} {o e value:Expr} {f:Str} {pos pos' tpos:Pos} {ta tv:TE}
theorem q1e (he:PE X e ta) (hb:attributeBase e f X.env (eval e X.env)=eval e X.env):PE X (.Attribute e f pos) (j7q X.K ta f):=by
 intro pins s σ H Q I h
 refine z8d hb (thn (he pins s σ H _ I h) fun u s1 ⟨x,H1,I1,rx,a,C,dx,fs,v,ex,ea,c,n,l,q⟩=>?_)
 subst ex
 obtain rfl:u=Value.ref a:=rx
 exact x9q I1 ea c n l fun u' s2 I2 ru=>⟨v,H1,I2,ru,q⟩
theorem q2d (ha:PE X o ta) (hv:PE X value tv) (hs:swapsWith value (some (.Attribute o f pos')) pos.line X.env=pure false):PS X (.Assign [.Attribute o f pos'] value pos) (j8r X.K ta tv f):=by
 intro pins s σ H D I h
 refine plainObj_wpAny_Assign_Attribute (thn (hv pins s σ H _ I h) fun u s1 ⟨y,H1,I1,ry,q⟩=>thn (ha pins s1 σ H1 _ I1 q) fun ov s2 ⟨x,H2,I2,rx,a,C,dx,fs,ex,ea,c,n,l,q2⟩=>?_) hs
 subst ex
 obtain rfl:ov=Value.ref a:=rx
 exact x9j I2 ea c n l ry fun s3 I3=>⟨σ,_,I3,q2⟩
end
section
variable {X:Cx} {pins:List (Addr × Obj)} {σ:St} {H:Hp} {s:Shared} {A:Around} {E:Value→Shared→Prop} {Q:Value→Shared→Prop} {c:Value} {b:Bool}
inductive TyOf (K:Frag) (H:Hp):V→Value→Prop where
 | non:TyOf K H .non (.type "NoneType")
 | bl (x:Bool):TyOf K H (.bl x) (.type "bool")
 | int (i:Int):TyOf K H (.int i) (.type "int")
 | str (x:Str):TyOf K H (.str x) (.type "str")
 | flt (x:UInt64):TyOf K H (.flt x) (.type "float")
 | lst {a:Addr} {xs:List V} (e:H a=some (.lst xs)):TyOf K H (.ref a) (.type "list")
 | frz {a:Addr} {o:Obj} {xs:List V} (e:H a=some (.frz o (.lst xs))):TyOf K H (.ref a) (.type "list")
 | tup {a:Addr} {xs:List V} (e:H a=some (.tup xs)):TyOf K H (.ref a) (.type "tuple")
 | dK {a:Addr} {kvs:List (Key × V)} (e:H a=some (.dK kvs)):TyOf K H (.ref a) (.type "dict")
 | dT {a:Addr} {kvs:List (List Key × V)} (e:H a=some (.dT kvs)):TyOf K H (.ref a) (.type "dict")
 | ins {a C dx:Addr} {fs:List (Str × V)} (e:H a=some (.ins C dx fs)) (cl:Cls K C) (ha:findIn K (.ref C) "__class__" = some (some (.builtin "object.__class__")))
   (hn:PySem.W.specialIn K (.builtin "object.__class__") "__get__" = some (some (.builtin "getset_descriptor.__get__"))) (htk:PySem.W.takesIn K (.builtin "object.__class__")=some true)
   (hm:PySem.W.mroIn K C (.type "object")=some true):TyOf K H (.ref a) (.ref C)
theorem z1e {x:V} {u t:Value} (I:Inv X pins σ H s) (rx:q3a x u) (ty:TyOf X.K H x t) (e:PySem.W.kitOne X.K t c=some b) (h:∀ tk,Q (.bool b) { s with toks:=tk }) :
  wpAny (model X.prog X.w) A (call (.builtin "isinstance") [u,c]) Q E s:=by
 cases ty with
 | non=>cases (show u=Value.none from rx); exact kia_one PySem.W.kitx_none I.kIn True.intro e (fun z=>nomatch z) h
 | bl y=>cases (show u=Value.bool y from rx); exact kia_one PySem.W.kitx_bool I.kIn True.intro e (fun z=>nomatch z) h
 | int i=>obtain⟨t,q⟩:=(show ∃ t,u=Value.int i t from rx); cases q; exact kia_one PySem.W.kitx_int I.kIn True.intro e (fun z=>nomatch z) h
 | str y=>obtain⟨t,q⟩:=(show ∃ t,u=Value.str y t from rx); cases q; exact kia_one PySem.W.kitx_str I.kIn True.intro e (fun z=>nomatch z) h
 | flt y=>obtain⟨t,q⟩:=(show ∃ t,u=Value.float y t from rx); cases q; exact kia_one PySem.W.kitx_float I.kIn True.intro e (fun z=>nomatch z) h
 | @lst a xs ea =>
  cases (show u=Value.ref a from rx)
  obtain⟨_,_,n,_,h1⟩:=(show q3k X.prog X.w H s.heap a (.lst xs) from I.hok a _ ea)
  exact kia_one PySem.W.kitx_list I.kIn ⟨_,h1,rfl⟩ e (fun z=>nomatch z) h
 | @frz a ob xs ea =>
  cases (show u=Value.ref a from rx)
  obtain⟨_,_,_,n,_,h1⟩:=(show q3k X.prog X.w H s.heap a (.frz ob (.lst xs)) from I.hok a _ ea)
  exact kia_one PySem.W.kitx_list I.kIn ⟨_,h1,rfl⟩ e (fun z=>nomatch z) h
 | @tup a xs ea =>
  cases (show u=Value.ref a from rx)
  obtain⟨_,_,_,p⟩:=(show q3k X.prog X.w H s.heap a (.tup xs) from I.hok a _ ea)
  obtain⟨o,h1,h2,_⟩:=p
  exact kia_one PySem.W.kitx_tuple I.kIn ⟨o,h1,h2⟩ e (fun z=>nomatch z) h
 | @dK a kvs ea =>
  cases (show u=Value.ref a from rx)
  obtain⟨_,_,vs,_,p⟩:=(show q3k X.prog X.w H s.heap a (.dK kvs) from I.hok a _ ea)
  obtain⟨o,es,ep,h1,h2,_⟩:=p
  exact kia_one PySem.W.kitx_dict I.kIn ⟨o,h1,h2.1⟩ e (fun z=>nomatch z) h
 | @dT a kvs ea =>
  cases (show u=Value.ref a from rx)
  obtain⟨_,_,xs,_,o,es,ep,h1,h2,_⟩:=(show q3k X.prog X.w H s.heap a (.dT kvs) from I.hok a _ ea)
  exact kia_one PySem.W.kitx_dict I.kIn ⟨o,h1,h2.1⟩ e (fun z=>nomatch z) h
 | @ins a C dx fs ea cl ha hn htk hm =>
  cases (show u=Value.ref a from rx)
  obtain⟨mA,O,_⟩:=x3l I.hok ea
  obtain⟨od,J,_⟩:=O.look
  exact kia_one (PySem.W.kitx_own (cl.get _) cl.hd ha hn htk hm) I.kIn J e (fun z=>nomatch z) h
end
structure Room (k:Nat) (A:Around):Prop where
 hd:A.handled=none
 dp:A.depth+3*k+5 < recursionLimit
 un:A.units+16*k+200 < cLine
theorem Room.mono {j k:Nat} {A:Around} (r:Room k A) (h:j≤k):Room j A:=⟨r.hd,by have:=r.dp; omega,by have:=r.un; omega⟩
theorem Room.deeper {k:Nat} {A:Around} (r:Room (k+1) A) (env:Env):Room k (A.deeper env) :=
 ⟨r.hd,by have:=r.dp; show A.depth+1+3*k+5 < _; omega,by have:=r.un; show A.units+3+16*k+200 < _; omega⟩
theorem x9a {A:Around} {C:Addr} {us:List Value} {kw:List (Str × Value)}:(A.under (.builtin "type.__call__" ⟨.ref C::us,kw⟩)).depth=A.depth+1:=by
 first | rfl | simp [Around.under,Code.weight,Code.isCreation,Code.isGuard,Code.isCaller,Code.frames,Code.isFrame,guardIds]
theorem x9i {A:Around} {C:Addr} {us:List Value} {kw:List (Str × Value)}:(A.under (.builtin "type.__call__" ⟨.ref C::us,kw⟩)).units=A.units+1:=by
 first | rfl | simp [Around.under,Code.cUnits,Code.frames,Code.isFrame]
theorem Room.make {k:Nat} {A:Around} (r:Room (k+1) A) (C:Addr) (us:List Value) (kw:List (Str × Value)):Room k (A.under (.builtin "type.__call__" ⟨.ref C::us,kw⟩)) :=
 ⟨r.hd,by have:=r.dp; rw [x9a]; omega,by have:=r.un; rw [x9i]; omega⟩
theorem Room.depth {k:Nat} {A:Around} (r:Room k A):A.depth < recursionLimit:=by have:=r.dp; omega
theorem Room.units {k:Nat} {A:Around} (r:Room k A):A.units+64 < cLine:=by have:=r.un; omega
theorem Room.units0 {k:Nat} {A:Around} (r:Room k A):A.units < cLine:=by have:=r.un; omega
noncomputable def j4e:TA:=fun _ H Q=>Q [] H
noncomputable def q4h (ta:TE) (tr:TA):TA:=fun σ H Q=>ta σ H fun x H1=>tr σ H1 fun xs H2=>Q (x::xs) H2
section
variable {X:Cx} {e:Expr} {es:List Expr} {te:TE} {t:TA} {pos:Pos}
theorem q0e:PA X [] j4e:=fun _ _ _ _ H Q I h=>Calls.spliced_nil ⟨[],H,I,.nil,h⟩
theorem q1k (ha:PE X e te) (hr:PA X es t) (hs:starEach (e::es) X.env=(false,eval e X.env)::starEach es X.env:=by rfl):PA X (e::es) (q4h te t):=by
 intro pos pins s σ H Q I h
 rw [hs]
 show wpAny _ _ (spliced ((false,eval e X.env)::backTo pos (starEach es X.env))) _ _ s
 refine Calls.spliced_cons (thn (ha pins s σ H _ I h) fun u s1 ⟨x,H1,I1,r1,q1⟩=>?_)
 exact thn (hr pos pins s1 σ H1 _ I1 q1) fun us s2 ⟨xs,H2,I2,r2,q2⟩=>⟨x::xs,H2,I2,.cons r1 r2,q2⟩
noncomputable def j5w (t:TA):TE:=fun σ H Q=>t σ H fun xs H1=>xs.length≤sizeLine∧∀ p,H1 p=none→Q (.ref p) (upd H1 p (.tup xs))
noncomputable def j6f (t:TA):TE:=fun σ H Q=>t σ H fun xs H1=>xs.length≤sizeLine∧∀ p,H1 p=none→Q (.ref p) (upd H1 p (.lst xs))
theorem z6y {x1} (h:PA X es t):PE X (.Tuple es x1 pos) (j5w t):=by
 intro pins s σ H Q I hq
 refine wpAny_Tuple_spliced (thn (h pos pins s σ H _ I hq) fun us s1 ⟨xs,H1,I1,r,z,q⟩=>⟨by rw [← r.length]; exact z,?_⟩)
 have hf:H1 s1.heap.objs.size=none:=I1.hok.fresh (Nat.le_refl _)
 refine⟨.ref s1.heap.objs.size,upd H1 s1.heap.objs.size (.tup xs),I1.laid (t':=s1.toks) (fun b u e=>Heap.get?_push_of_some _ e) (Nat.le_refl _) ?_,rfl,q _ hf⟩
 exact⟨z,us,r,⟨_,Heap.get?_push_size _ rfl,rfl,_,rfl⟩⟩
theorem q4f (h:PA X es t):PE X (.List es pos) (j6f t):=by
 intro pins s σ H Q I hq
 refine wpAny_List_spliced (thn (h pos pins s σ H _ I hq) fun us s1 ⟨xs,H1,I1,r,z,q⟩=>⟨by rw [← r.length]; exact z,?_⟩)
 have hf:H1 s1.heap.objs.size=none:=I1.hok.fresh (Nat.le_refl _)
 refine⟨.ref s1.heap.objs.size,upd H1 s1.heap.objs.size (.lst xs),I1.laid (t':=s1.toks) (fun b u e=>Heap.get?_push_of_some _ e) (Nat.le_refl _) ?_,rfl,q _ hf⟩
 exact⟨z,us,0,r,Heap.get?_push_size _ rfl⟩
end
noncomputable abbrev Sp:=List V→Hp→VK→XK→Prop
noncomputable abbrev CXT:=List Env→Hp→Shared→XK→Value→Shared→Prop
structure Env0 (P:Program) (w:World) (K:Frag) (mg:Str→Option Value) (base:Heap) (A:Around) (outer:List Env) (s:Shared) (H:Hp):Prop where
 frames:A.frames=some outer
 mod:Mod K mg base
 bs:∀ b o,base.get? b=some o→s.heap.get? b=some o∧H b=none
 bsz:base.objs.size≤s.heap.objs.size
 funs:s.heap.FunFrames base outer
 frf:∀ b∈frs outer,H b=none
 hok:HOk P w H s.heap
 bare:AllBare s.gens
noncomputable def CE (outer:List Env) (P:Program) (w:World) (H:Hp) (s:Shared) (Q:VK) (u:Value) (s':Shared):Prop :=
 ∃ v H',s'.os=s.os∧AllBare s'.gens∧Un (frs outer) [] H H' s.heap s'.heap∧HOk P w H' s'.heap∧q3a v u∧Q v H'
noncomputable def CR (CX:CXT) (outer:List Env) (P:Program) (w:World) (H:Hp) (s:Shared) (Q:VK) (E:XK) (r:Result) (s':Shared):Prop :=
 match r with
 | .ok (.ret u)=>CE outer P w H s Q u s'
 | .ok _=>False
 | .error e=>CX outer H s E e s'
structure FnOk (P:Program) (w:World) (K:Frag) (mg:Str→Option Value) (base:Heap) (CX:CXT) (k:Nat) (f:Addr) (fd:FuncData) (ps:List Str) (sp:Sp):Prop where
 len:∀ vs H Q E,sp vs H Q E→vs.length=ps.length
 run:∀ (A:Around) (outer:List Env) (s:Shared) (H:Hp) (args:Args) (us:List Value) (vs:List V) (Q:VK) (E:XK),Room k A→Env0 P w K mg base A outer s H→BindsTo s fd args (ps.zip us)→q2i vs us→sp vs H Q E →
  codeAny (model P w) A (.call (.ref f) args) (CR CX outer P w H s Q E) s
theorem FnOk.imp {P:Program} {w:World} {K:Frag} {mg:Str→Option Value} {base:Heap} {CX:CXT} {k:Nat} {f:Addr} {fd:FuncData} {ps:List Str} {sp sp':Sp} (F:FnOk P w K mg base CX k f fd ps sp)
  (h:∀ vs H Q E,sp' vs H Q E→sp vs H Q E):FnOk P w K mg base CX k f fd ps sp' :=
 ⟨fun vs H Q E q=>F.len vs H Q E (h _ _ _ _ q),fun A outer s H args us vs Q E hr he hb hv hs=>F.run A outer s H args us vs Q E hr he hb hv (h _ _ _ _ hs)⟩
theorem Env0.make {P:Program} {w:World} {K:Frag} {mg:Str→Option Value} {base:Heap} {A:Around} {outer:List Env} {s:Shared} {H:Hp} (e:Env0 P w K mg base A outer s H) (C:Addr) (us:List Value) (kw:List (Str × Value)) :
  Env0 P w K mg base (A.under (.builtin "type.__call__" ⟨.ref C::us,kw⟩)) outer s H:=⟨by first | exact e.frames | (simpa [Around.under,Code.envs,Code.isFrame,pushEnvs] using e.frames),e.mod,e.bs,e.bsz,e.funs,e.frf,e.hok,e.bare⟩
section
variable {X:Cx} {pins:List (Addr × Obj)} {σ:St} {H:Hp} {s s':Shared}
theorem Inv.env0 (I:Inv X pins σ H s):Env0 X.prog X.w X.K X.mg X.base X.A X.stack s H :=
 ⟨I.ok.frames,I.ok.mod,I.bs,Nat.le_trans I.ok.bsz I.sz,I.stack,I.stkFree,I.hok,I.bare⟩
theorem Inv.after {Q:VK} {u:Value} (I:Inv X pins σ H s) (h:CE X.stack X.prog X.w H s Q u s'):EP X pins σ Q u s':=by
 obtain⟨v,H',os,bare,un,hok,r,q⟩:=h
 obtain⟨hh,g,d,t,os'⟩:=s'
 obtain rfl:os'=s.os:=os
 exact⟨v,H',I.call (h':=hh) (g':=g) (d':=d) (t':=t) (ch:=[]) un hok bare (fun b z=>absurd z (by simp)),r,q⟩
end
noncomputable def z5h (sp:Sp) (dvs:List V) (E:XK) (t:TA):TE:=fun σ H Q=>t σ H fun vs H1=>sp (vs++dvs) H1 Q E
noncomputable def j2q (C:Addr) (m:Str) (sp:Sp) (dvs:List V) (E:XK) (ta:TE) (t:TA):TE:=fun σ H Q=>ta σ H fun x H1=>∃ a dx fs,x=.ref a∧H1 a=some (.ins C dx fs)∧fs.lookup m=none ∧
 t σ H1 fun vs H2=>sp (x::(vs++dvs)) H2 Q E
noncomputable def j4w (C:Addr) (sp:Sp) (dvs:List V) (E:XK) (t:TA):TE:=fun σ H Q=>t σ H fun vs H1=>∀ x dx,H1 x=none→H1 dx=none→dx≠x →
 sp (.ref x::(vs++dvs)) (upd (upd H1 dx (.own x)) x (.ins C dx [])) (fun v H2=>v=.non∧Q (.ref x) H2) E
noncomputable def q3p (K:Frag) (fd:FuncData) (ps:List Str) (ds:List Value):Prop :=
 ∀ (s:Shared) (us:List Value),K.In s.heap→(us++ds).length=ps.length→BindsTo s fd ⟨us,[]⟩ (ps.zip (us++ds))
theorem q3p.all {K:Frag} {fd:FuncData} {ps:List Str} (h:∀ us:List Value,us.length=ps.length→bindArgs fd ⟨us,[]⟩=pure (ps.zip us)):q3p K fd ps []:=fun s us _ hl=>by
 rw [List.append_nil] at hl ⊢
 exact .of_eq (h us hl)
noncomputable def q6q (CX:CXT) (X:Cx) (E:XK):Prop:=∀ (pins:List (Addr × Obj)) (σ:St) (H:Hp) (s:Shared) (e:Value) (s':Shared),Inv X pins σ H s→CX X.stack H s E e s'→X.xe e s'
section
variable {X:Cx} {CX:CXT} {k:Nat} {f C:Addr} {fd:FuncData} {ps:List Str} {sp:Sp} {dvs:List V} {ds:List Value} {E:XK} {x m:Str} {p pos apos:Pos} {e o:Expr} {es:List Expr} {ta:TE} {t:TA}
theorem x8j {pins:List (Addr × Obj)} {σ:St} {H:Hp} {s:Shared} {Q:VK} {us:List Value} {vs:List V} (F:FnOk X.prog X.w X.K X.mg X.base CX k f fd ps sp) (hr:Room k X.A) (hb:q3p X.K fd ps ds) (hd:q2i dvs ds) (hx:q6q CX X E)
  (I:Inv X pins σ H s) (r:q2i vs us) (h:sp (vs++dvs) H Q E):wpAny (model X.prog X.w) X.A (call (.ref f) us) (EP X pins σ Q) X.xe s:=by
 have r2:q2i (vs++dvs) (us++ds):=r.append hd
 have hl:(us++ds).length=ps.length:=by rw [← r2.length]; exact F.len _ _ _ _ h
 refine wpAny_call (codeAny_mono (F.run X.A X.stack s H ⟨us,[]⟩ (us++ds) (vs++dvs) Q E hr I.env0 (hb s us I.kIn hl) r2 h) fun r s' hq=>?_)
 cases r with
 | error e=>exact hx pins σ H s e s' I hq
 | ok fl =>
  cases fl with
  | ret u=>exact I.after hq
  | next=>exact False.elim hq
  | brk=>exact False.elim hq
  | cont=>exact False.elim hq
theorem x1i (F:FnOk X.prog X.w X.K X.mg X.base CX k f fd ps sp) (hr:Room k X.A) (hg:Gl X x) (hm:X.mg x=some (.ref f)) (hk:keepIn X.K (.ref f)=true) (hb:q3p X.K fd ps ds) (hd:q2i dvs ds) (hx:q6q CX X E)
  (ha:PA X (e::es) t) (hdb:(x==("__debug__" : Str))=false:=by decide) (he:starEach (e::es) X.env=(false,eval e X.env)::starEach es X.env:=by rfl) (hpl:(backTo pos (starEach es X.env)).any (·.1)=false:=by rfl) :
  PE X (.Call (.Name x p) (e::es) [] pos) (z5h sp dvs E t):=by
 intro pins s σ H Q I h
 refine wpAny_Call_Name_kw (x2t I hg hm ?_ hdb)
 refine PySem.W.callWith_K (h₀:=X.base) I.ok.mod.kin hk (thn (ha pos pins s σ H _ I h) fun us s1 ⟨vs,H1,I1,r,q⟩=>⟨I1.kIn,?_⟩) he hpl
 exact x8j F hr hb hd hx I1 r q
theorem x8h (F:FnOk X.prog X.w X.K X.mg X.base CX k f fd ps sp) (hr:Room k X.A) (hg:Gl X x) (hm:X.mg x=some (.ref f)) (hk:keepIn X.K (.ref f)=true) (hb:q3p X.K fd ps ds) (hd:q2i dvs ds) (hx:q6q CX X E)
  (hdb:(x==("__debug__" : Str))=false:=by decide):PE X (.Call (.Name x p) [] [] pos) (z5h sp dvs E j4e):=by
 intro pins s σ H Q I h
 refine wpAny_Call_Name_kw (x2t I hg hm ?_ hdb)
 exact PySem.W.callWith_K0 I.kIn hk (x8j (us:=[]) F hr hb hd hx I .nil h)
theorem x2z {pl:Sem Bool} (he:PE X o ta) (c:Cls X.K C) (hm:Meth X.K C m f) (F:FnOk X.prog X.w X.K X.mg X.base CX k f fd ps sp) (hr:Room k X.A) (hb:q3p X.K fd ps ds) (hd:q2i dvs ds) (hx:q6q CX X E) (ha:PA X (e::es) t)
  (hst:starEach (e::es) X.env=(false,eval e X.env)::starEach es X.env:=by rfl) (hpl:(backTo pos (starEach es X.env)).any (·.1)=false:=by rfl)
  (ht:eval (.Call (.Attribute o m apos) (e::es) [] pos) X.env=(do
   let ov←eval o X.env
   standAt apos.atName
   let (f,first)←holding [ov] (getMethod ov m pl)
   callWith pos f first (backTo pos (starEach (e::es) X.env)) (backToKw pos (keywordEach [] X.env))):=by rfl) :
  PE X (.Call (.Attribute o m apos) (e::es) [] pos) (j2q C m sp dvs E ta t):=by
 intro pins s σ H Q I h
 refine PySem.W.methodCall_KW (pl:=pl) (thn (he pins s σ H _ I h) fun u s1 ⟨x,H1,I1,rx,a,dx,fs,ex,ea,l,q⟩=>?_) ht
 subst ex
 obtain rfl:u=Value.ref a:=rx
 refine x1t I1 ea c hm l ?_
 refine PySem.W.callWith_K (first:=[.ref a]) (h₀:=X.base) I.ok.mod.kin hm.kp (thn (ha pos pins s1 σ H1 _ I1 q) fun us s2 ⟨vs,H2,I2,r,q2⟩=>⟨I2.kIn,?_⟩) hst hpl
 exact x8j (us:=.ref a::us) (vs:=.ref a::vs) F hr hb hd hx I2 (.cons rfl r) q2
theorem q8o {pl:Sem Bool} (he:PE X o ta) (c:Cls X.K C) (hm:Meth X.K C m f) (F:FnOk X.prog X.w X.K X.mg X.base CX k f fd ps sp) (hr:Room k X.A) (hb:q3p X.K fd ps ds) (hd:q2i dvs ds) (hx:q6q CX X E)
  (ht:eval (.Call (.Attribute o m apos) [] [] pos) X.env=(do
   let ov←eval o X.env
   standAt apos.atName
   let (f,first)←holding [ov] (getMethod ov m pl)
   callWith pos f first (backTo pos (starEach [] X.env)) (backToKw pos (keywordEach [] X.env))):=by rfl) :
  PE X (.Call (.Attribute o m apos) [] [] pos) (j2q C m sp dvs E ta j4e):=by
 intro pins s σ H Q I h
 refine PySem.W.methodCall_KW (pl:=pl) (thn (he pins s σ H _ I h) fun u s1 ⟨x,H1,I1,rx,a,dx,fs,ex,ea,l,q⟩=>?_) ht
 subst ex
 obtain rfl:u=Value.ref a:=rx
 refine x1t I1 ea c hm l ?_
 exact PySem.W.callWith_K0 (first:=[.ref a]) I1.kIn hm.kp (x8j (us:=[.ref a]) (vs:=[.ref a]) F hr hb hd hx I1 (.cons rfl .nil) q)
structure Mk (K:Frag) (C f:Addr):Prop where
 makes:PySem.W.makesIn K C=true
 init:findIn K (.ref C) "__init__" = some (some (.ref f))
 fn:PySem.W.isFn K (.ref f)=true
 kp:keepIn K (.ref C)=true
theorem z5y {pins:List (Addr × Obj)} {σ:St} {H:Hp} {s:Shared} {Q:VK} {us:List Value} {vs:List V} (M:Mk X.K C f) (F:FnOk X.prog X.w X.K X.mg X.base CX k f fd ps sp) (hr:Room (k+1) X.A) (hb:q3p X.K fd ps ds) (hd:q2i dvs ds)
  (hx:q6q CX X E) (I:Inv X pins σ H s) (r:q2i vs us)
  (h:∀ x dx,H x=none→H dx=none→dx≠x→sp (.ref x::(vs++dvs)) (upd (upd H dx (.own x)) x (.ins C dx [])) (fun v H2=>v=.non∧Q (.ref x) H2) E) :
  wpAny (model X.prog X.w) X.A (call (.ref C) us) (EP X pins σ Q) X.xe s:=by
 have hq:=h (s.heap.objs.size+1) s.heap.objs.size (I.hok.fresh (Nat.le_succ _)) (I.hok.fresh (Nat.le_refl _)) (Nat.ne_of_lt (Nat.lt_succ_self _))
 have I2:=Inv.made (C:=C) I
 have r2:q2i (V.ref (s.heap.objs.size+1)::(vs++dvs)) (Value.ref (s.heap.objs.size+1)::(us++ds)):=.cons rfl (r.append hd)
 have hl:(Value.ref (s.heap.objs.size+1)::us++ds).length=ps.length:=by
  have e:=r2.length
  rw [F.len _ _ _ _ hq] at e
  exact e.symm
 refine wpAny_call (z4h (f:=f) I.kIn M.makes M.init (beq_iff_eq.mp M.fn) (codeAny_mono (F.run _ X.stack _ _ ⟨Value.ref (s.heap.objs.size+1)::us,[]⟩ (Value.ref (s.heap.objs.size+1)::(us++ds)) _ _ E (hr.make C us [])
  (I2.env0.make C us []) (hb _ (Value.ref (s.heap.objs.size+1)::us) I2.kIn hl) r2 hq) fun r s' hq'=>?_))
 cases r with
 | error e=>exact hx pins σ _ _ e s' I2 hq'
 | ok fl =>
  cases fl with
  | ret u =>
   obtain⟨v,H',I3,rv,ev,q3⟩:=I2.after hq'
   subst ev
   exact⟨rv,⟨V.ref (s.heap.objs.size+1),H',I3,rfl,q3⟩⟩
  | next=>exact False.elim hq'
  | brk=>exact False.elim hq'
  | cont=>exact False.elim hq'
theorem z7l (M:Mk X.K C f) (F:FnOk X.prog X.w X.K X.mg X.base CX k f fd ps sp) (hr:Room (k+1) X.A) (hg:Gl X x) (hm:X.mg x=some (.ref C)) (hb:q3p X.K fd ps ds) (hd:q2i dvs ds) (hx:q6q CX X E)
  (ha:PA X (e::es) t) (hdb:(x==("__debug__" : Str))=false:=by decide) (he:starEach (e::es) X.env=(false,eval e X.env)::starEach es X.env:=by rfl) (hpl:(backTo pos (starEach es X.env)).any (·.1)=false:=by rfl) :
  PE X (.Call (.Name x p) (e::es) [] pos) (j4w C sp dvs E t):=by
 intro pins s σ H Q I h
 refine wpAny_Call_Name_kw (x2t I hg hm ?_ hdb)
 refine PySem.W.callWith_K (h₀:=X.base) I.ok.mod.kin M.kp (thn (ha pos pins s σ H _ I h) fun us s1 ⟨vs,H1,I1,r,q⟩=>⟨I1.kIn,?_⟩) he hpl
 exact z5y M F hr hb hd hx I1 r q
end
section
variable {X:Cx} {CX:CXT} {k:Nat} {f C:Addr} {fd:FuncData} {ps ks:List Str} {sp:Sp} {E:XK} {x m:Str} {p pos apos kpos:Pos} {e o:Expr} {es:List Expr} {kws:List Keyword} {te ta:TE} {t tk:TA} {nm:Option Str}
variable {g:List Value→List Value→List Value} {gV:List V→List V→List V}
end
structure FnScope (N P:List Str) (sc:Scope):Prop where
 kind:sc.kind=.function
 co:sc.isCoroutine=false
 gen:sc.isGenerator=false
 nd:N.Nodup
 pre:N.take P.length=P
 par:∀ x∈P,sc.names.lookup x=some .local∨sc.names.lookup x=some .cell
 nofree:∀ y∈sc.names,y.2≠.free
theorem fSc {N P:List Str} {sc:Scope} (h1:sc.kind=.function:=by rfl) (h2:sc.isCoroutine=false:=by rfl) (h3:sc.isGenerator=false:=by rfl) (h4:N.Nodup:=by decide +kernel) (h5:N.take P.length=P:=by rfl) (h6:∀ x∈P,sc.names.lookup x=some .local∨sc.names.lookup x=some .cell:=by decide +kernel) (h7:∀ y∈sc.names,y.2≠.free:=by decide +kernel):FnScope N P sc:=⟨h1,h2,h3,h4,h5,h6,h7⟩
theorem x3y {kindOf:Str→Option NameKind} {x:Str}:∀ {binds:List (Str × Value)} {m:Str→Option Value},(∀ v,(x,v)∉binds)→bindL kindOf binds m x=m x
 | [],_,_=>rfl
 | (n,v)::r,m,h=>by
  unfold bindL
  rw [x3y fun w hw=>h w (List.mem_cons_of_mem _ hw)]
  split
  ·have:x≠n:=by rintro rfl; exact h v List.mem_cons_self
   simp [this]
  ·rfl
theorem x4b {kindOf:Str→Option NameKind} {x:Str}:∀ {binds:List (Str × Value)} {m:Str→Option Value},(∀ v,(x,v)∉binds)→bindC kindOf binds m x=m x
 | [],_,_=>rfl
 | (n,v)::r,m,h=>by
  unfold bindC
  rw [x4b fun w hw=>h w (List.mem_cons_of_mem _ hw)]
  split
  ·rfl
  ·have:x≠n:=by rintro rfl; exact h v List.mem_cons_self
   simp [this]
theorem x5f {kindOf:Str→Option NameKind} {x:Str} {v:Value}:∀ {P:List Str} {vs:List Value} {i:Nat} {m:Str→Option Value},P.Nodup→P[i]? = some x→vs[i]? = some v→kindOf x=some .local →
  bindL kindOf (P.zip vs) m x=some v
 | [],_,_,_,_,h,_,_=>by simp at h
 | _::_,[],_,_,_,_,h,_=>by simp at h
 | p::P,w::vs,0,m,nd,h1,h2,hk=>by
  simp at h1 h2; subst h1; subst h2
  show bindL kindOf ((p,w)::P.zip vs) m p=_
  unfold bindL
  rw [x3y fun v hv=>(List.nodup_cons.mp nd).1 (List.of_mem_zip hv).1,if_pos hk]
  simp
 | p::P,w::vs,i+1,m,nd,h1,h2,hk=>by
  show bindL kindOf ((p,w)::P.zip vs) m x=_
  unfold bindL
  exact x5f (i:=i) (List.nodup_cons.mp nd).2 (by simpa using h1) (by simpa using h2) hk
theorem x5e {kindOf:Str→Option NameKind} {x:Str} {v:Value}:∀ {P:List Str} {vs:List Value} {i:Nat} {m:Str→Option Value},P.Nodup→P[i]? = some x→vs[i]? = some v→kindOf x≠some .local →
  bindC kindOf (P.zip vs) m x=some v
 | [],_,_,_,_,h,_,_=>by simp at h
 | _::_,[],_,_,_,_,h,_=>by simp at h
 | p::P,w::vs,0,m,nd,h1,h2,hk=>by
  simp at h1 h2; subst h1; subst h2
  show bindC kindOf ((p,w)::P.zip vs) m p=_
  unfold bindC
  rw [x4b fun v hv=>(List.nodup_cons.mp nd).1 (List.of_mem_zip hv).1,if_neg hk]
  simp
 | p::P,w::vs,i+1,m,nd,h1,h2,hk=>by
  show bindC kindOf ((p,w)::P.zip vs) m x=_
  unfold bindC
  exact x5e (i:=i) (List.nodup_cons.mp nd).2 (by simpa using h1) (by simpa using h2) hk
noncomputable def x1o (N:List Str) (vs:List V):St:=vs.map some++List.replicate (N.length - vs.length) none
noncomputable def z0a (CX:CXT) (P:Program) (w:World) (K:Frag) (mg:Str→Option Value) (base:Heap) (N:List Str) (qual:Str) (scope:Scope) (f:Addr) (cd:Value) (A:Around) (outer:List Env) (s:Shared) (H:Hp) (E:XK):Cx where
 prog:=P
 w:=w
 K:=K
 mg:=mg
 base:=base
 A:=A.deeper (envOfC qual scope s.heap.objs.size f cd)
 N:=N
 s₀:=s
 H₀:=H
 env:=envOfC qual scope s.heap.objs.size f cd
 outer:=outer
 stack:=envOfC qual scope s.heap.objs.size f cd::outer
 ex:=[]
 calm:=true
 fn:=fun _=>true
 pn:=[]
 xe:=fun e s'=>wpAny (model P w) (A.deeper (envOfC qual scope s.heap.objs.size f cd)) (leaving (envOfC qual scope s.heap.objs.size f cd) e) (fun _ s''=>CX outer H s E e s'') (fun e' s''=>CX outer H s E e' s'') s'
theorem x7k {sc:Scope} {n:Nat} {x:Str} (h:sc.names.lookup x=some .cell):∃ c,(cellsFrom n sc.names []).lookup x=some c:=by
 have q:=PySem.W.cellsFrom_some sc.names n [] (.inl h)
 exact Option.isSome_iff_exists.mp q
theorem z0u {CX:CXT} {P:Program} {w:World} {K:Frag} {mg:Str→Option Value} {base:Heap} {N ps:List Str} {qual:Str} {scope:Scope} {f:Addr} {cd:Value} {A:Around} {outer:List Env} {s s1:Shared} {H:Hp} {E:XK} {us:List Value} {vs:List V}
  (S:FnScope N ps scope) (hd:A.handled=none) (e0:Env0 P w K mg base A outer s H) (hl:vs.length=ps.length) (r:q2i vs us)
  (x:InCallC s s.heap.objs.size (bindL (envOfC qual scope s.heap.objs.size f cd).kindOf (ps.zip us) fun _=>none) (cellsFrom (s.heap.objs.size+1) scope.names []) (bindC (envOfC qual scope s.heap.objs.size f cd).kindOf (ps.zip us) fun _=>none) s1) :
  Inv (z0a CX P w K mg base N qual scope f cd A outer s H E) [] (x1o N vs) H s1:=by
 have hpl:ps.length≤N.length:=by have:=congrArg List.length S.pre; rw [List.length_take] at this; omega
 obtain⟨h1,tk,rfl,hk⟩:=x.done
 have noA:∀ b:Addr,b∉(z0a CX P w K mg base N qual scope f cd A outer s H E).ex:=fun b z=>absurd (show b∈([]:List Addr) from z) (by simp)
 refine⟨⟨e0.mod,S.kind,rfl,rfl,Nat.le_refl _,fun y z c h1 h2=>?_,fun y hy=>?_,fun y c _ h=>?_,fun _=>hd,Around.frames_deeper e0.frames,.inr ⟨rfl,rfl⟩,fun b z=>absurd z (noA b),e0.bs,e0.bsz,fun b _ _=>noA b,fun b z=>absurd z (noA b),e0.funs,e0.frf⟩,
  rfl,e0.bare,Un.kept hk,⟨_,x.toInCall.ns,fun i y v h1 h2 h3=>?_⟩,fun y c h=>⟨_,x.cell y c h⟩,e0.hok.fresh (Nat.le_refl _),fun y c h=>?_,fun p hp=>absurd (show p∈([]:List (Addr × Obj)) from hp) (by simp),e0.hok.kept hk,?_⟩
 ·exact name_of_addr x.apart (PySem.mem_of_lookup h1) (PySem.mem_of_lookup h2)
 ·have hy:scope.names.lookup y=some .cell∨scope.names.lookup y=some .free:=hy
  rcases hy with hy | hy
  ·exact x7k hy
  ·exact absurd rfl (S.nofree _ (PySem.mem_of_lookup hy))
 ·exact Nat.le_of_lt (x.above y c (PySem.mem_of_lookup h))
 ·have hi:i < vs.length:=by
   unfold x1o at h2
   by_cases hi:i < vs.length
   ·exact hi
   ·rw [List.getElem?_append_right (by simpa using hi)] at h2
    rw [List.getElem?_replicate] at h2
    split at h2 <;> cases h2
  have ha:vs[i]? = some v:=by
   unfold x1o at h2
   rw [List.getElem?_append_left (by simpa using hi),List.getElem?_map] at h2
   cases e:vs[i]? with
   | none=>rw [e] at h2; cases h2
   | some a=>rw [e] at h2; cases h2; rfl
  obtain⟨u,hu,rv⟩:=r.get ha
  have hp:ps[i]? = some y:=by
   rw [← S.pre,List.getElem?_take_of_lt (by omega)]; exact h1
  have ndP:ps.Nodup:=by rw [← S.pre]; exact S.nd.sublist (List.take_sublist _ _)
  refine⟨u,rv,?_⟩
  rcases S.par y (List.mem_of_getElem? hp) with k | k
  ·exact .inl ⟨k,x5f ndP hp hu k⟩
  ·obtain⟨c,e⟩:=x7k (n:=s.heap.objs.size+1) k
   refine .inr ⟨.inl k,c,e,?_⟩
   have q:=x.cell y c e
   rw [x5e ndP hp hu (by show scope.names.lookup y≠_; rw [k]; decide)] at q
   exact q
 ·exact e0.hok.fresh (Nat.le_of_lt (x.above y c (PySem.mem_of_lookup h)))
 ·unfold x1o
  show _=N.length
  rw [List.length_append,List.length_map,List.length_replicate]
  omega
theorem j0u {CX:CXT} {P:Program} {w:World} {K:Frag} {mg:Str→Option Value} {base:Heap} {k:Nat} {f:Addr} {name qual:Str} {params:Arguments} {body:List Stmt} {scope:Scope} {dV kV doc pm cdv ct oc:Value} {an od:Option Addr}
  {osl:Array (Option Value)} {N ps:List Str} {sp:Sp} (lk:K.lookup f=some ⟨oc,od,.func (fnOf name qual params body scope dV kV doc pm an cdv ct),osl⟩) (hcd:PySem.W.codeIn K cdv qual=true) (S:FnScope N ps scope)
  (len:∀ vs H Q E,sp vs H Q E→vs.length=ps.length)
  (hbody:∀ (A:Around) (outer:List Env) (s:Shared) (H:Hp) (vs:List V) (Q:VK) (E:XK),Room k (A.deeper (envOfC qual scope s.heap.objs.size f cdv))→sp vs H Q E →
   ∃ t,PSs (z0a CX P w K mg base N qual scope f cdv A outer s H E) body t∧t { nx:=fun _ H'=>Q .non H',rt:=Q } (x1o N vs) H) :
  FnOk P w K mg base CX (k+1) f (fnOf name qual params body scope dV kV doc pm an cdv ct) ps sp:=by
 refine⟨len,fun A outer s H args us vs Q E hr e0 hb r hsp=>?_⟩
 have hl:=len _ _ _ _ hsp
 have KX:K.In s.heap:=e0.mod.kin.keeps fun b o e=>(e0.bs b o e).1
 have lim:s.heap.NoLimit:=e0.mod.nolimit.keeps fun b o e=>(e0.bs b o e).1
 have hkind:∀ y∈ps.zip us,scope.names.lookup y.1=some .local∨(scope.names.lookup y.1=some .cell∧((cellsFrom (s.heap.objs.size+1) scope.names []).lookup y.1).isSome=true):=fun⟨n,v⟩ hy=>by
  rcases S.par n (List.of_mem_zip hy).1 with q | q
  ·exact .inl q
  ·exact .inr ⟨q,PySem.W.cellsFrom_some _ _ _ (.inl q)⟩
 refine codeAny_call_function hr.depth (KX _ _ lk) rfl S.co S.gen rfl (PySem.W.codeRec_of KX hcd) (hb _ _ _ _ ?_)
 refine wpAny_newFunctionEnv_cells S.kind hkind fun env he s1 x=>?_
 subst he
 refine⟨lim.keeps x.toInCall.keep,codeAny_func ?_⟩
 obtain⟨t,ht,hq⟩:=hbody A outer s H vs Q E (hr.deeper _) hsp
 have I:Inv (z0a CX P w K mg base N qual scope f cdv A outer s H E) [] (x1o N vs) H s1:=z0u S hr.hd e0 hl r x
 refine wpAny_mono (ht [] s1 (x1o N vs) H _ I hq) (fun fl s' hs=>?_) fun e s' hs=>hs
 have fin:∀ {σ':St} {H':Hp} {v:V} {u:Value},Inv (z0a CX P w K mg base N qual scope f cdv A outer s H E) [] σ' H' s'→q3a v u→Q v H'→CE outer P w H s Q u s' :=
  fun {σ' H' v u} J rv q=>⟨v,H',J.os,J.bare,J.base,J.hok,rv,q⟩
 cases fl with
 | ret u =>
  obtain⟨v,σ',H',J,rv,q⟩:=hs
  exact fin J rv q
 | next =>
  obtain⟨σ',H',J,q⟩:=hs
  exact fin (v:=V.non) (u:=Value.none) J rfl q
 | brk =>
  obtain⟨_,_,_,q⟩:=hs
  exact False.elim q
 | cont =>
  obtain⟨_,_,_,q⟩:=hs
  exact False.elim q
section
variable {X:Cx} {x:Str} {p pos:Pos} {e:Expr} {es:List Expr} {t:TA} {id T:String} {r:List V→Hp→VK→Prop}
noncomputable def tCB (r:List V→Hp→VK→Prop) (t:TA):TE:=fun σ H Q=>t σ H fun vs H1=>r vs H1 Q
theorem q0l (hc:x0r X (.builtin id) r) (hg:Gl X x) (hm:X.mg x=none) (hv:bootBuiltins x=some (.builtin id)) (ha:PA X (e::es) t) (hn:x ≠ "__name__" := by decide) (hdb:(x==("__debug__" : Str))=false:=by decide)
  (he:starEach (e::es) X.env=(false,eval e X.env)::starEach es X.env:=by rfl) (hpl:(backTo pos (starEach es X.env)).any (·.1)=false:=by rfl):PE X (.Call (.Name x p) (e::es) [] pos) (tCB r t):=by
 intro pins s σ H Q I h
 refine wpAny_Call_Name_kw (x1y I hg hm hv ?_ hn hdb)
 exact PyProof.Rows.callWith_builtin1 (thn (ha pos pins s σ H _ I h) fun us s1 ⟨vs,H1,I1,r1,q1⟩=>hc pins s1 σ H1 vs us Q I1 r1 q1) he hpl
theorem q2n (hc:x0r X (.type T) r) (hg:Gl X x) (hm:X.mg x=none) (hv:bootBuiltins x=some (.type T)) (ha:PA X (e::es) t) (hn:x ≠ "__name__" := by decide) (hdb:(x==("__debug__" : Str))=false:=by decide)
  (he:starEach (e::es) X.env=(false,eval e X.env)::starEach es X.env:=by rfl) (hpl:(backTo pos (starEach es X.env)).any (·.1)=false:=by rfl):PE X (.Call (.Name x p) (e::es) [] pos) (tCB r t):=by
 intro pins s σ H Q I h
 refine wpAny_Call_Name_kw (x1y I hg hm hv ?_ hn hdb)
 exact PyProof.Rows.callWith_type1 (thn (ha pos pins s σ H _ I h) fun us s1 ⟨vs,H1,I1,r1,q1⟩=>hc pins s1 σ H1 vs us Q I1 r1 q1) he hpl
end
end L2
namespace HT
open PySem PyProof.Rows
section
open PySem.SeqAt
open PySem.AutoSeq1 (wpAny_loadPart')
open PySem.MeetsSeq PySem.MeetsSeq2 PySem.MeetsSeq3
end
section
variable {prog:Program} {w:World} {A:Around} {E:Value→Shared→Prop} {s:Shared}
theorem cat_tup {t b:Addr} {vs ws:List Value} {Q:Value→Shared→Prop} (ht:IsTup s.heap t vs.toArray) (hb:IsTup s.heap b ws.toArray) (hv:vs≠[])
  (h1:ws=[]→Q (.ref t) s) (h2:ws≠[]→Q (.ref s.heap.objs.size) { s with heap:=s.heap.push { cls:=.type "tuple",data:=.seq (vs++ws).toArray } })
  (hsz:vs.length+ws.length≤sizeLine):wpAny (model prog w) A (binaryOp .Add (.ref t) (.ref b)) Q E s:=by
 obtain⟨⟨cls,dd,data,sl⟩,ho,hc,n,hd⟩:=id ht
 obtain⟨⟨cls2,dd2,data2,sl2⟩,ho2,hc2,n2,hd2⟩:=id hb
 simp only at hc hd hc2 hd2
 subst hc hd hc2 hd2
 have e:vs.toArray++ws.toArray=(vs++ws).toArray:=by simp
 by_cases hw:ws=[]
 ·exact concat_meets ⟨_,ho,rfl⟩ ⟨_,ho2,rfl⟩ noFill_tuple_add seq_tuple_add PySem.F.slot_tuple_add PySem.F.entry_tuple_add (PySem.F.args_tuple_add_2 _ _)
   (tuple_addW1 t b vs.toArray ws.toArray n n2 dd dd2 sl sl2 (by simpa using hv) (by simp [hw])) ⟨ho,ho2,h1 hw⟩
 ·refine concat_meets ⟨_,ho,rfl⟩ ⟨_,ho2,rfl⟩ noFill_tuple_add seq_tuple_add PySem.F.slot_tuple_add PySem.F.entry_tuple_add (PySem.F.args_tuple_add_2 _ _)
   (tuple_addW2 t b vs.toArray ws.toArray n n2 dd dd2 sl sl2 (by simpa using hv) (by simpa using hw) (by rw [List.size_toArray,List.size_toArray]; exact hsz)) ⟨ho,ho2,?_⟩
  rw [e]
  exact h2 hw
noncomputable def sIx (n d:Nat):Option Int→Nat
 | none=>d
 | some v=>if v < 0 then (v+(n:Int)).toNat else min v.toNat n
theorem sIx_none (n d:Nat):sIx n d none=d:=rfl
theorem sIx_nat (n d k:Nat):sIx n d (some (k:Int))=min k n:=by
 show (if (k:Int) < 0 then ((k:Int)+(n:Int)).toNat else min (k:Int).toNat n)=min k n
 rw [if_neg (by omega),Int.toNat_natCast]
theorem j3d (n d:Nat) (hd:d≤n) (o:Option Int):sIx n d o≤n:=by
 cases o with
 | none=>exact hd
 | some v =>
  show (if v < 0 then (v+(n:Int)).toNat else min v.toNat n)≤n
  by_cases hv:v < 0
  ·rw [if_pos hv]; omega
  ·rw [if_neg hv]; exact Nat.min_le_right _ _
theorem z1c (v:Int) (n d:Nat):(if v < 0 then max (v+(n:Int)) 0 else min v (n:Int))=((sIx n d (some v):Nat):Int):=by
 show (if v < 0 then max (v+(n:Int)) 0 else min v (n:Int))=(((if v < 0 then (v+(n:Int)).toNat else min v.toNat n):Nat):Int)
 by_cases hv:v < 0
 ·simp only [if_pos hv]; omega
 ·simp only [if_neg hv]; omega
theorem x9t (lo hi:Option Int) (n:Nat):Builtin.Slice.sliceAdjust lo hi 1 (n:Int)=(((sIx n 0 lo:Nat):Int),((sIx n n hi:Nat):Int)):=by
 have h1:¬ ((1:Int) < 0):=by omega
 unfold Builtin.Slice.sliceAdjust
 simp only [h1,if_false]
 refine Prod.ext ?_ ?_
 ·cases lo with
  | none=>rfl
  | some v=>exact z1c v n 0
 ·cases hi with
  | none=>rfl
  | some v=>exact z1c v n n
theorem x9f (i j:Nat):Builtin.Slice.slicePlaces (i:Int) (j:Int) 1=j - i:=by
 unfold Builtin.Slice.slicePlaces
 have h1:(1:Int) > 0:=by omega
 simp only [h1,if_true,Int.ediv_one]
 split <;> omega
theorem x2f {v:Value} {o:Option Int} {Q:Option Int→Shared→Prop} (p:IsPart v o) (h:Q o s):wpAny (model prog w) A (Builtin.Slice.slicePartIndex v) Q E s:=by
 cases p with
 | none=>exact slicePart_none h
 | int i t=>exact slicePart_int h
theorem q6b {sl:Addr} {vl vu:Value} {lo hi:Option Int} {n:Nat} {Q:Int × Int × Nat→Shared→Prop} (hs:s.heap.IsSliceOf sl vl vu .none) (pl:IsPart vl lo) (pu:IsPart vu hi)
  (h:Q (((sIx n 0 lo:Nat):Int),1,sIx n n hi - sIx n 0 lo) s):wpAny (model prog w) A (Builtin.Slice.sliceApplied (.ref sl) (pure (n:Int))) Q E s:=by
 obtain⟨os,hos,hcs,hds⟩:=id hs
 unfold Builtin.Slice.sliceApplied Builtin.Slice.sliceFields
 refine wpAny_bind (wpAny_bind (wpAny_field hos hds (x:=vl) rfl (wpAny_bind (wpAny_field hos hds (x:=vu) rfl (wpAny_bind (wpAny_field hos hds (x:=.none) rfl (wpAny_pure ?_)))))))
 refine wpAny_bind (slicePart_none ?_)
 show wpAny _ _ (if ((1:Int)==0)=true then _ else _) _ _ s
 rw [if_neg (by decide)]
 refine wpAny_bind (x2f pl (wpAny_bind (x2f pu (wpAny_bind (wpAny_pure ?_)))))
 show wpAny _ _ (match Builtin.Slice.sliceAdjust lo hi 1 (n:Int) with | (lo,hi)=>pure (lo,(1:Int),Builtin.Slice.slicePlaces lo hi 1)) _ _ s
 rw [x9t lo hi n]
 show wpAny _ _ (pure (((sIx n 0 lo:Nat):Int),(1:Int),Builtin.Slice.slicePlaces ((sIx n 0 lo:Nat):Int) ((sIx n n hi:Nat):Int) 1)) _ _ s
 rw [x9f]
 exact wpAny_pure h
theorem z6g (xs:Array Value) (i k:Nat):((List.range k).filterMap fun (m:Nat)=>xs[((i:Int)+(m:Int)*1).toNat]?).toArray=((xs.toList.drop i).take k).toArray:=by
 have e:(fun (m:Nat)=>xs[((i:Int)+(m:Int)*1).toNat]?)=fun m=>xs[i+m]? := by
  funext m
  have:((i:Int)+(m:Int)*1).toNat=i+m:=by omega
  rw [this]
 rw [e]
 have:=pick_run xs i k
 rw [List.filterMap_map] at this
 have e2:((fun x=>xs[x]?) ∘ fun x=>i+x)=fun m=>xs[i+m]? := rfl
 rw [e2] at this
 rw [this]
theorem getItem_tuple_cut {t sl:Addr} {items:Array Value} {vl vu:Value} {lo hi:Option Int} {Q:Value→Shared→Prop} (ht:IsTup s.heap t items) (hs:s.heap.IsSliceOf sl vl vu .none) (pl:IsPart vl lo) (pu:IsPart vu hi)
  (hw:¬ (sIx items.size 0 lo=0∧sIx items.size items.size hi=items.size))
  (h:Q (.ref s.heap.objs.size) { s with heap:=s.heap.push { cls:=.type "tuple",data:=.seq ((items.toList.drop (sIx items.size 0 lo)).take (sIx items.size items.size hi - sIx items.size 0 lo)).toArray } })
  (hsz:items.size≤sizeLine):wpAny (model prog w) A (getItem (.ref t) (.ref sl)) Q E s:=by
 have htake:sizeOk (.seq ((items.toList.drop (sIx items.size 0 lo)).take (sIx items.size items.size hi - sIx items.size 0 lo)).toArray):=by
  show ((items.toList.drop (sIx items.size 0 lo)).take (sIx items.size items.size hi - sIx items.size 0 lo)).toArray.size≤sizeLine
  rw [List.size_toArray,List.length_take,List.length_drop,Array.length_toList]
  omega
 have hj:sIx items.size items.size hi≤items.size:=j3d _ _ (Nat.le_refl _) hi
 obtain⟨os,hos,hcs,hds⟩:=id hs
 have hTs:s.TypeIs (.ref sl) "slice" := ⟨os,hos,hcs⟩
 unfold getItem
 try with_reducible refine wpAny_holding ?_
 first | refine wpAny_bind (wpAny_pure ?_) | skip
 refine wpAny_bind (wpAny_sequenceKey ht.typeIs (by decide) ?_)
 refine wpAny_bind (wpAny_callSpecial?_slot (name:=Str.ofString "__getitem__") ht.typeIs PyProof.Rows.slot_tuple_getitem
  (wpAny_call_entry PyProof.Rows.slot_tuple_getitem ht.typeIs entry_tuple_getitem ?_ (args_tuple_getitem _ _)))
 show wpAny _ _ (Builtin.Tuple.tupleItemsOf (.ref t) >>= _) _ _ s
 refine wpAny_bind (tupleItemsOf_ ht ?_)
 refine wpAny_bind (wpAny_typeOf hTs ?_)
 rw [if_pos (by decide)]
 refine wpAny_bind (q6b hs pl pu ?_)
 have hno:¬ ((((sIx items.size 0 lo:Nat):Int)==0 && (1:Int)==1 && (sIx items.size items.size hi - sIx items.size 0 lo)==items.size)=true):=by
  intro q
  rw [Bool.and_eq_true,Bool.and_eq_true] at q
  have q1:((sIx items.size 0 lo:Nat):Int)=0:=eq_of_beq q.1.1
  have q2:sIx items.size items.size hi - sIx items.size 0 lo=items.size:=eq_of_beq q.2
  exact hw ⟨by omega,by omega⟩
 show wpAny _ _ (if (((sIx items.size 0 lo:Nat):Int)==0 && (1:Int)==1 && (sIx items.size items.size hi - sIx items.size 0 lo)==items.size)=true then _ else _) _ _ s
 rw [if_neg hno,z6g]
 first
  | exact wpAny_bind (m:=Builtin.Tuple.tupleExact _) (wpAny_newObj_type (wpAny_pure ⟨_,rfl,wpAny_pure h⟩) htake)
  | exact wpAny_bind (m:=Builtin.Tuple.tupleExact _) (wpAny_newObj_type (wpAny_bind (wpAny_pure (wpAny_pure ⟨_,rfl,wpAny_pure h⟩))) htake)
  | exact wpAny_bind (wpAny_bind (m:=Builtin.Tuple.tupleExact _) (wpAny_newObj_type (wpAny_pure (wpAny_pure ⟨_,rfl,wpAny_pure h⟩)) htake))
  | exact wpAny_bind (wpAny_bind (m:=Builtin.Tuple.tupleExact _) (wpAny_newObj_type (wpAny_pure ⟨_,rfl,wpAny_pure h⟩) htake))
end
end HT
namespace L2
open PySem PySem.Spec PyProof.Rows
noncomputable abbrev TO:=St→Hp→(Option Int→Hp→Prop)→Prop
noncomputable def PO (X:Cx) (e:Option Expr) (t:TO):Prop :=
 ∀ (pins:List (Addr × Obj)) (s:Shared) (σ:St) (H:Hp) (Q:Option Int→Hp→Prop),Inv X pins σ H s→t σ H Q →
  wpAny (model X.prog X.w) X.A (evalPart e X.env) (fun u s'=>∃ o H',Inv X pins σ H' s'∧IsPart u o∧Q o H') X.xe s
noncomputable def z7h:TO:=fun _ H Q=>Q none H
noncomputable def j6e (t:TE):TO:=fun σ H Q=>t σ H fun x H1=>∃ i,x=.int i∧Q (some i) H1
section
variable {X:Cx} {e:Expr} {te:TE} {lo hi:Option Expr} {tl th:TO} {pos p2:Pos}
theorem q3f:PO X none z7h:=by
 intro pins s σ H Q I h
 rw [evalPart_none]
 exact wpAny_pure ⟨none,H,I,.none,h⟩
theorem q2b (h:PE X e te):PO X (some e) (j6e te):=by
 intro pins s σ H Q I hw
 rw [evalPart_some]
 refine thn (h pins s σ H _ I hw) fun u s1 ⟨x,H1,I1,r1,q1⟩=>?_
 obtain⟨i,rfl,q⟩:=q1
 obtain⟨t,rfl⟩:=r1
 exact⟨some i,H1,I1,.int i t,q⟩
noncomputable def SlR (X:Cx) (r:V→Option Int→Option Int→Hp→VK→Prop):Prop :=
 ∀ (pins:List (Addr × Obj)) (s:Shared) (σ:St) (H:Hp) (x:V) (v vl vu:Value) (lo hi:Option Int) (sl:Addr) (Q:VK),Inv X pins σ H s→q3a x v→s.heap.IsSliceOf sl vl vu .none→IsPart vl lo→IsPart vu hi→r x lo hi H Q →
  ∃ T id,typeLookup (.type T) "__getitem__" = pure (some (.builtin id))∧s.TypeIs v T∧wpAny (model X.prog X.w) X.A (getItem v (.ref sl)) (EP X pins σ Q) X.xe s
noncomputable def tSl (r:V→Option Int→Option Int→Hp→VK→Prop) (te:TE) (tl th:TO):TE:=fun σ H Q=>te σ H fun x H1=>tl σ H1 fun l H2=>th σ H2 fun u H3=>r x l u H3 Q
theorem q1y {r:V→Option Int→Option Int→Hp→VK→Prop} (hr:SlR X r) (he:PE X e te) (hl:PO X lo tl) (hu:PO X hi th):PE X (.Subscript e (.Slice lo hi none p2) pos) (tSl r te tl th):=by
 intro pins s σ H Q I h
 refine Subscript_ (thn (he pins s σ H _ I h) fun v s1 ⟨x,H1,I1,r1,q1⟩=>?_)
 refine wpAny_Slice (thn (hl pins s1 σ H1 _ I1 q1) fun vl s2 ⟨l,H2,I2,pl,q2⟩=>thn (hu pins s2 σ H2 _ I2 q2) fun vu s3 ⟨u,H3,I3,pu,q3⟩=>?_)
 rw [evalPart_none]
 refine wpAny_pure ?_
 have I4:Inv X pins σ H3 { s3 with heap:=s3.heap.push { cls:=.type "slice",data:=.fields #[vl,vu,.none] } }:=I3.kept (t':=s3.toks) fun b ob q=>Heap.get?_push_of_some _ q
 obtain⟨T,id,hT,ht,hg⟩:=hr pins { s3 with heap:=s3.heap.push { cls:=.type "slice",data:=.fields #[vl,vu,.none] } } σ H3 x v vl vu l u s3.heap.objs.size Q I4 r1 (Heap.IsSliceOf.new ..) pl pu q3
 show wpAny (model X.prog X.w) X.A (subscriptTail e (.Slice lo hi none p2) v (.ref s3.heap.objs.size)) (EP X pins σ Q) X.xe { s3 with heap:=s3.heap.push { cls:=.type "slice",data:=.fields #[vl,vu,.none] } }
 exact tail_any (ops:=[.ref s3.heap.objs.size,v]) ht hT hg (by with_unfolding_all rfl)
noncomputable def x1x (xs:List V) (lo hi:Option Int):List V:=(xs.drop (HT.sIx xs.length 0 lo)).take (HT.sIx xs.length xs.length hi - HT.sIx xs.length 0 lo)
theorem x0j (xs:List V) (lo hi:Option Int):(x1x xs lo hi).length≤xs.length:=by
 unfold x1x
 rw [List.length_take,List.length_drop]
 omega
noncomputable def j8f (K:Frag):V→Option Int→Option Int→Hp→VK→Prop:=fun x lo hi H Q=>∃ a xs,x=.ref a∧SqT K H a xs ∧
 ¬ (HT.sIx xs.length 0 lo=0∧HT.sIx xs.length xs.length hi=xs.length)∧∀ p,H p=none→Q (.ref p) (upd H p (.tup (x1x xs lo hi)))
theorem j1s:SlR X (j8f X.K):=by
 intro pins s σ H x v vl vu lo hi sl Q I rx hs pl pu h
 obtain⟨a,xs,rfl,hx,hw,q⟩:=h
 cases rx
 obtain⟨its,r,ht,hz⟩:=I.tuple hx
 have hlen:its.toArray.size=xs.length:=by rw [List.size_toArray]; exact r.length.symm
 refine⟨"tuple",_,PyProof.Rows.slot_tuple_getitem.lookup,ht.typeIs,?_⟩
 refine HT.getItem_tuple_cut ht hs pl pu (by rw [hlen]; exact hw) ?_ (by rw [hlen]; exact hz)
 rw [hlen]
 refine⟨.ref s.heap.objs.size,_,I.laid (t':=s.toks) (o:=.tup (x1x xs lo hi)) (fun b ob q=>Heap.get?_push_of_some _ q) (Nat.le_refl _) ?_,rfl,q _ (I.hok.fresh (Nat.le_refl _))⟩
 exact⟨Nat.le_trans (x0j xs lo hi) hz,_,(r.drop (HT.sIx xs.length 0 lo)).take (HT.sIx xs.length xs.length hi - HT.sIx xs.length 0 lo),IsTup.new _ _⟩
noncomputable def j4l (K:Frag):R2:=fun x y H Q=>∃ a b xs ys,x=.ref a∧y=.ref b∧SqT K H a xs∧SqT K H b ys∧xs≠[]∧xs.length+ys.length≤sizeLine ∧
 (ys=[]→Q (.ref a) H)∧(ys≠[]→∀ p,H p=none→Q (.ref p) (upd H p (.tup (xs++ys))))
theorem q2i.nil_iff {xs:List V} {us:List Value} (r:q2i xs us):us=[]↔xs=[]:=by
 cases r with
 | nil=>simp
 | cons _ _=>simp
theorem z7w:OpR X (binaryOp .Add) (j4l X.K):=by
 intro pins s σ H x y v u Q I rx ry h
 obtain⟨a,b,xs,ys,rfl,rfl,ha,hb,hx,hz,q1,q2⟩:=h
 cases rx
 cases ry
 obtain⟨its,r1,p1,_⟩:=I.tuple ha
 obtain⟨its2,r2,p2,_⟩:=I.tuple hb
 refine HT.cat_tup p1 p2 (fun z=>hx (r1.nil_iff.mp z)) (fun z=>⟨.ref a,H,I,rfl,q1 (r2.nil_iff.mp z)⟩) (fun z=>?_) (by rw [← r1.length,← r2.length]; exact hz)
 refine⟨.ref s.heap.objs.size,_,I.laid (t':=s.toks) (o:=.tup (xs++ys)) (fun b ob q=>Heap.get?_push_of_some _ q) (Nat.le_refl _) ?_,rfl,q2 (fun w=>z (r2.nil_iff.mpr w)) _ (I.hok.fresh (Nat.le_refl _))⟩
 exact⟨by rw [List.length_append]; exact hz,_,r1.append r2,IsTup.new _ _⟩
end
noncomputable def ixN (n:Nat) (i:Int):Option Nat:=if 0≤i then (if i < n then some i.toNat else none) else if -(n:Int)≤i then some (i+n).toNat else none
noncomputable def atI {α:Type} (xs:List α) (i:Int):Option α:=(ixN xs.length i).bind fun j=>xs[j]?
theorem z0r {n:Nat} {i:Int} {j:Nat} (h:ixN n i=some j):seqIndex? i n=some j∧j < n ∧ -(n:Int)≤i∧i < n:=by
 unfold ixN at h
 by_cases h0:0≤i
 ·rw [if_pos h0] at h
  by_cases h1:i < n
  ·rw [if_pos h1] at h
   have e:i.toNat=j:=Option.some.inj h
   exact⟨by rw [seqIndex_of h0 h1,e],by omega,by omega,h1⟩
  ·rw [if_neg h1] at h; cases h
 ·rw [if_neg h0] at h
  by_cases h1 : -(n:Int)≤i
  ·rw [if_pos h1] at h
   have e:(i+n).toNat=j:=Option.some.inj h
   exact⟨by rw [seqIndex_neg (by omega) h1,e],by omega,h1,by omega⟩
  ·rw [if_neg h1] at h; cases h
theorem x6w {α:Type} {xs:List α} {i:Int} {v:α} (h:atI xs i=some v):∃ j,seqIndex? i xs.length=some j∧xs[j]? = some v∧j < xs.length ∧ -(xs.length:Int)≤i∧i < xs.length:=by
 unfold atI at h
 cases e:ixN xs.length i with
 | none=>rw [e] at h; cases h
 | some j =>
  rw [e] at h
  obtain⟨h1,h2,h3,h4⟩:=z0r e
  exact⟨j,h1,h,h2,h3,h4⟩
theorem q0a {α:Type} {xs:List α} {j:Nat} {v:α} (h:xs[j]? = some v):atI xs (j:Int)=some v:=by
 have hj:j < xs.length:=(List.getElem?_eq_some_iff.mp h).1
 have e:ixN xs.length (j:Int)=some j:=by
  unfold ixN
  rw [if_pos (by omega),if_pos (by omega)]; simp
 unfold atI; rw [e]; exact h
noncomputable def q6n (b:Expr):Prop:=∀ o i,subscripted b false o i=operate [o,i] (getItem o i)
noncomputable def IxR (X:Cx) (r:R2):Prop :=
 ∀ (value slice:Expr) (pins:List (Addr × Obj)) (s:Shared) (σ:St) (H:Hp) (x y:V) (v u:Value) (Q:VK),Inv X pins σ H s→q3a x v→q3a y u→r x y H Q →
  subscripted slice false v u=operate [v,u] (getItem v u)→wpAny (model X.prog X.w) X.A (subscriptTail value slice v u) (EP X pins σ Q) X.xe s
noncomputable def MtR (X:Cx) (id:String) (r:V→List V→Hp→VK→Prop):Prop :=
 ∀ (pins:List (Addr × Obj)) (s:Shared) (σ:St) (H:Hp) (x:V) (xs:List V) (v:Value) (us:List Value) (Q:VK),Inv X pins σ H s→q3a x v→q2i xs us→r x xs H Q →
  wpAny (model X.prog X.w) X.A (call (.builtin id) (v::us)) (EP X pins σ Q) X.xe s
section
variable {X:Cx} {a b:Expr} {ta tb:TE} {pos:Pos}
theorem q0f {r:R2} (hr:IxR X r) (ha:PE X a ta) (hb:PE X b tb) (hs:q6n b):PE X (.Subscript a b pos) (tOp r ta tb):=by
 intro pins s σ H Q I h
 exact Subscript_ (j4x ha hb I h fun v u s2 x y H2 I2 rx ry q=>hr a b pins s2 σ H2 x y v u Q I2 rx ry q (hs _ _))
noncomputable def j7j (K:Frag):R2:=fun x y H Q=>∃ p xs i v,x=.ref p∧y=.int i∧SqL K H p xs∧atI xs i=some v∧Q v H
noncomputable def j7v (K:Frag):R2:=fun x y H Q=>∃ p xs i v,x=.ref p∧y=.int i∧SqT K H p xs∧atI xs i=some v∧Q v H
noncomputable def w0g:R2:=fun x y H Q=>∃ z i c,x=.str z∧y=.int i∧z.length≤sizeLine∧atI z.cps.toList i=some c∧Q (.str ⟨#[c]⟩) H
theorem q0g:IxR X (j7j X.K):=by
 intro value slice pins s σ H x y v u Q I rx ry h hs
 obtain⟨p,xs,i,z,rfl,rfl,hq,he,q⟩:=h
 cases rx
 obtain⟨t,rfl⟩:=ry
 obtain⟨its,r,pl,hz⟩:=I.list hq
 obtain⟨j,h1,h2,h3,h4,h5⟩:=x6w he
 obtain⟨w,ew,rw'⟩:=r.get h2
 have hl:=r.length
 have hn:=x5l
 have fin:EP X pins σ Q w s:=⟨z,H,I,rw',q⟩
 by_cases h0:0≤i
 ·have hj:i.toNat=j:=by
   rw [seqIndex_of h0 h5] at h1
   exact Option.some.inj h1
  exact item_listR pl.isList h0 (by omega) (by rw [hj]; simpa using ew) fin hs
 ·have hj:(i+(its.toArray.size:Int)).toNat=j:=by
   rw [seqIndex_neg (by omega) h4] at h1
   rw [List.size_toArray,← hl]
   exact Option.some.inj h1
  exact subscriptTail_builtinR (x:=w) pl.isList.typeIs slot_list_getitem.lookup
   (wpAny_getItem_list_neg (Q:=fun r s'=>r=w∧EP X pins σ Q r s') pl.isList (by omega) (by rw [List.size_toArray] <;> omega) (by omega) (by rw [hj]; simpa using ew) ⟨rfl,fin⟩) hs
theorem q0i:IxR X (j7v X.K):=by
 intro value slice pins s σ H x y v u Q I rx ry h hs
 obtain⟨p,xs,i,z,rfl,rfl,hq,he,q⟩:=h
 cases rx
 obtain⟨t,rfl⟩:=ry
 obtain⟨its,r,pl,hz⟩:=I.tuple hq
 obtain⟨j,h1,h2,h3,h4,h5⟩:=x6w he
 obtain⟨w,ew,rw'⟩:=r.get h2
 have hl:=r.length
 have hn:=x5l
 have fin:EP X pins σ Q w s:=⟨z,H,I,rw',q⟩
 exact subscriptTail_builtinR (x:=w) pl.typeIs slot_tuple_getitem.lookup
  (getItem_tuple (j:=j) (Q:=fun r s'=>r=w∧EP X pins σ Q r s') pl (by omega) (by omega) (by rw [List.size_toArray,← hl]; exact h1) (by simpa using ew) ⟨rfl,fin⟩) hs
theorem z6z:IxR X w0g:=by
 intro value slice pins s σ H x y v u Q I rx ry h hs
 obtain⟨z,i,c,rfl,rfl,hz,he,q⟩:=h
 obtain⟨t,rfl⟩:=rx
 obtain⟨t',rfl⟩:=ry
 obtain⟨j,h1,h2,h3,h4,h5⟩:=x6w he
 have hl:z.cps.toList.length=z.length:=by simp [Str.length]
 rw [hl] at h1 h4 h5
 have hn:=x5l
 exact tail_any (typeIs_str s z t) slot_str_getitem.lookup (getItem_str (c:=c) (by
  have e1:decide (i < -(2 ^ 63:Int))=false:=decide_eq_false (by omega)
  have e2:decide (i≥2 ^ 63)=false:=decide_eq_false (by omega)
  rw [e1,e2,Bool.or_false]) (by rw [h1]; simpa using h2) ⟨.str ⟨#[c]⟩,H,I.tok _,⟨_,rfl⟩,q⟩) hs
theorem x9w (its:List Value) (n j:Nat) (u:Value):Obj.mapSeq (·.setIfInBounds j u) { cls:=.type "list",data:=.seq its.toArray n }={ cls:=.type "list",data:=.seq (its.set j u).toArray n }:=by
 simp [Obj.mapSeq]
theorem Inv.lst {pins:List (Addr × Obj)} {σ:St} {H:Hp} {s:Shared} {p:Addr} {xs:List V} (I:Inv X pins σ H s) (h:H p=some (.lst xs)) :
  ∃ (its:List Value) (n:Nat),q2i xs its∧s.heap.get? p=some { cls:=.type "list",data:=.seq its.toArray n }∧xs.length≤sizeLine:=by
 obtain⟨z,its,n,r,e⟩:=I.hok p _ h
 exact⟨its,n,r,e,z⟩
theorem Inv.lstUpd {pins:List (Addr × Obj)} {σ:St} {H:Hp} {s:Shared} {p:Addr} {xs ys:List V} {its its':List Value} {n n':Nat} {f:Obj→Obj} (I:Inv X pins σ H s) (h:H p=some (.lst xs))
  (ho:s.heap.get? p=some { cls:=.type "list",data:=.seq its.toArray n }) (hf:f { cls:=.type "list",data:=.seq its.toArray n }={ cls:=.type "list",data:=.seq its'.toArray n' }) (r:q2i ys its') (hz:ys.length≤sizeLine) (t:Nat) :
  Inv X pins σ (upd H p (.lst ys)) { s with heap:=s.heap.update p f,toks:=t }:=by
 have e:(s.heap.update p f).get? p=some { cls:=.type "list",data:=.seq its'.toArray n' }:=by
  rw [Heap.get?_update_self f ho (by rw [hf] <;> rfl),hf]
 refine I.write (x:=p) (e:=p) (by rw [h]; trivial) (.inl rfl) (fun b u hb q=>(Heap.get?_update_other _ _ (Ne.symm hb)).trans q) ⟨_,e⟩ ?_
 exact⟨hz,its',n',r,e⟩
noncomputable def j4m:V→V→V→Hp→(Hp→Prop)→Prop:=fun o i v H Q=>∃ p xs k j,o=.ref p∧i=.int k∧H p=some (.lst xs)∧ixN xs.length k=some j∧Q (upd H p (.lst (xs.set j v)))
theorem q1s:j7g X j4m:=by
 intro pins s σ H o i v ov iv u Q I ro ri rv h
 obtain⟨p,xs,k,j,rfl,rfl,hp,hj,q⟩:=h
 cases ro
 obtain⟨t,rfl⟩:=ri
 obtain⟨its,n,r,ho,hz⟩:=I.lst hp
 obtain⟨h1,h2,h3,h4⟩:=z0r hj
 have hl:=r.length
 have hn:=x5l
 have I':Inv X pins σ (upd H p (.lst (xs.set j v))) { s with heap:=s.heap.update p (Obj.mapSeq (·.setIfInBounds j u)) } :=
  I.lstUpd hp ho (x9w its n j u) (r.set rv j) (by rw [List.length_set]; exact hz) s.toks
 by_cases h0:0≤k
 ·have hk:k.toNat=j:=by
   rw [seqIndex_of h0 h4] at h1
   exact Option.some.inj h1
  exact PySem.W.ki_setAt ho h0 (by omega) (by rw [List.size_toArray,← hl]; exact h4) (by rw [hk]; exact⟨_,I',q⟩)
 ·have hk:(k+(its.toArray.size:Int)).toNat=j:=by
   rw [seqIndex_neg (by omega) h3] at h1
   rw [List.size_toArray,← hl]
   exact Option.some.inj h1
  exact PySem.W.ki_setBack ho (by omega) (by rw [List.size_toArray,← hl]; exact h3) (by omega) (by rw [hk]; exact⟨_,I',q⟩)
theorem x4a (lo hi:Option Int) (n:Nat):(sliceBounds lo hi none n).1=((HT.sIx n 0 lo:Nat):Int)∧(sliceBounds lo hi none n).2.1=((HT.sIx n n hi:Nat):Int)∧(sliceBounds lo hi none n).2.2=1:=by
 refine⟨?_,?_,rfl⟩
 ·cases lo with
  | none=>simp [sliceBounds,HT.sIx]
  | some i =>
   simp only [sliceBounds,HT.sIx,Option.getD_none,show (1:Int) > 0 by decide,if_true]
   by_cases h:i < 0
   ·simp only [h,if_true] <;> omega
   ·simp only [h,if_false] <;> omega
 ·cases hi with
  | none=>simp [sliceBounds,HT.sIx]
  | some i =>
   simp only [sliceBounds,HT.sIx,Option.getD_none,show (1:Int) > 0 by decide,if_true]
   by_cases h:i < 0
   ·simp only [h,if_true] <;> omega
   ·simp only [h,if_false] <;> omega
theorem x3m (its:List Value) (lo hi:Option Int):slicePick its.toArray lo hi none=((its.drop (HT.sIx its.length 0 lo)).take (HT.sIx its.length its.length hi - HT.sIx its.length 0 lo)).toArray:=by
 obtain⟨h1,h2,h3⟩:=x4a lo hi its.toArray.size
 unfold slicePick
 rw [h1,h2,h3]
 simp only [sliceRange_one,pick_run,List.size_toArray] <;> rfl
noncomputable def w0h (K:Frag):V→Option Int→Option Int→Hp→VK→Prop:=fun x lo hi H Q=>∃ a xs,x=.ref a∧SqL K H a xs∧∀ p,H p=none→Q (.ref p) (upd H p (.lst (x1x xs lo hi)))
theorem q4w:SlR X (w0h X.K):=by
 intro pins s σ H x v vl vu lo hi sl Q I rx hs pl pu h
 obtain⟨a,xs,rfl,hx,q⟩:=h
 cases rx
 obtain⟨its,r,ht,hz⟩:=I.list hx
 have hlen:=r.length
 refine⟨"list",_,slot_list_getitem.lookup,ht.isList.typeIs,?_⟩
 refine wpAny_getItem_list_slice ht.isList hs pl pu .none (by simp) ?_ (by rw [List.size_toArray] <;> omega)
 rw [x3m,← hlen]
 refine⟨.ref s.heap.objs.size,_,I.laid (t':=s.toks) (o:=.lst (x1x xs lo hi)) (fun b ob q=>Heap.get?_push_of_some _ q) (Nat.le_refl _) ?_,rfl,q _ (I.hok.fresh (Nat.le_refl _))⟩
 exact⟨Nat.le_trans (x0j xs lo hi) hz,_,0,(r.drop (HT.sIx xs.length 0 lo)).take (HT.sIx xs.length xs.length hi - HT.sIx xs.length 0 lo),Heap.get?_push_size _ rfl⟩
noncomputable def q4b:V→Bool
 | .non=>true
 | .bl _=>true
 | .int _=>true
 | .str _=>true
 | _=>false
noncomputable def eqV:V→V→Bool
 | .non,.non=>true
 | .bl a,.bl b=>a==b
 | .bl a,.int b=>(if a then 1 else 0)==b
 | .int a,.bl b=>a==(if b then 1 else 0)
 | .int a,.int b=>a==b
 | .str a,.str b=>a==b
 | _,_=>false
theorem x1w {A:Around} {s:Shared} {y x:V} {u v:Value} (ry:q3a y u) (rx:q3a x v) (fy:q4b y=true) (fx:q4b x=true):SeqAt.EqAt A s u v (eqV y x):=by
 cases y with
 | non =>
  cases ry
  cases x with
  | non=>cases rx; exact SeqAt.EqAt.same _
  | bl b=>cases rx; exact SeqAt.EqAt.none_bool b
  | int b=>obtain⟨t,rfl⟩:=rx; exact SeqAt.EqAt.none_int b t
  | str b=>obtain⟨t,rfl⟩:=rx; exact SeqAt.EqAt.none_str b t
  | _=>exact absurd (show false=true from fx) Bool.false_ne_true
 | bl a =>
  cases ry
  cases x with
  | non=>cases rx; exact SeqAt.EqAt.bool_none a
  | bl b=>cases rx; exact SeqAt.EqAt.bool_bool a b
  | int b=>obtain⟨t,rfl⟩:=rx; exact SeqAt.EqAt.bool_int a b t
  | str b=>obtain⟨t,rfl⟩:=rx; exact SeqAt.EqAt.bool_str a b t
  | _=>exact absurd (show false=true from fx) Bool.false_ne_true
 | int a =>
  obtain⟨t',rfl⟩:=ry
  cases x with
  | non=>cases rx; exact SeqAt.EqAt.int_none a t'
  | bl b=>cases rx; exact SeqAt.EqAt.int_bool a t' b
  | int b=>obtain⟨t,rfl⟩:=rx; exact SeqAt.EqAt.int_int a t' b t
  | str b=>obtain⟨t,rfl⟩:=rx; exact SeqAt.EqAt.int_str a t' b t
  | _=>exact absurd (show false=true from fx) Bool.false_ne_true
 | str a =>
  obtain⟨t',rfl⟩:=ry
  cases x with
  | non=>cases rx; exact SeqAt.EqAt.str_none a t'
  | bl b=>cases rx; exact SeqAt.EqAt.str_bool a t' b
  | int b=>obtain⟨t,rfl⟩:=rx; exact SeqAt.EqAt.str_int a t' b t
  | str b=>obtain⟨t,rfl⟩:=rx; exact SeqAt.EqAt.str_str a t' b t
  | _=>exact absurd (show false=true from fx) Bool.false_ne_true
 | _=>exact absurd (show false=true from fy) Bool.false_ne_true
noncomputable def eqU (x:V) (u:Value):Bool:=match u with
 | .none=>eqV .non x
 | .bool b=>eqV (.bl b) x
 | .int i _=>eqV (.int i) x
 | .str z _=>eqV (.str z) x
 | _=>false
theorem z6l {x y:V} {u:Value} (r:q3a y u) (f:q4b y=true):eqU x u=eqV y x:=by
 cases y with
 | non=>cases r; rfl
 | bl b=>cases r; rfl
 | int i=>obtain⟨t,rfl⟩:=r; rfl
 | str z=>obtain⟨t,rfl⟩:=r; rfl
 | _=>exact absurd (show false=true from f) Bool.false_ne_true
theorem x0q {x:V}:∀ {xs:List V} {us:List Value},q2i xs us→xs.all q4b=true→us.any (eqU x)=xs.any fun y=>eqV y x
 | _,_,.nil,_=>rfl
 | y::xs,u::us,.cons r t,f=>by
  rw [List.all_cons,Bool.and_eq_true] at f
  rw [List.any_cons,List.any_cons,z6l r f.1,x0q t f.2]
theorem q8a {A:Around} {s:Shared} {x:V} {v:Value} (rx:q3a x v) (fx:q4b x=true):∀ {xs:List V} {us:List Value},q2i xs us→xs.all q4b=true→∀ u∈us,SeqAt.EqAt A s u v (eqU x u)
 | _,_,.nil,_=>fun u hu=>by cases hu
 | y::xs,u::us,.cons r t,f=>fun u' hu=>by
  rw [List.all_cons,Bool.and_eq_true] at f
  rcases List.mem_cons.mp hu with rfl | hu
  ·rw [z6l r f.1]; exact x1w r rx f.1 fx
  ·exact q8a rx fx t f.2 u' hu
noncomputable def inV (x:V) (xs:List V):Bool:=xs.any fun y=>eqV y x
noncomputable def rIn (K:Frag) (neg:Bool):R2:=fun x y H Q=>∃ p xs,y=.ref p∧(SqL K H p xs∨SqT K H p xs)∧q4b x=true∧xs.all q4b=true∧Q (.bl (if neg then !inV x xs else inV x xs)) H
theorem z1z:OpR X (compareOp .In) (rIn X.K false):=by
 intro pins s σ H x y v u Q I rx ry h
 obtain⟨p,xs,rfl,hq,fx,fs,q⟩:=h
 cases ry
 rcases hq with hq | hq
 ·obtain⟨its,r,pl,hz⟩:=I.list hq
  refine SeqAt.in_listAt (eqU x) pl.isList (fun w hw=>q8a rx fx r fs w (by simpa using hw)) ⟨.bl _,H,I,rfl,?_⟩
  rw [show its.toArray.any (eqU x)=its.any (eqU x) by simp,x0q r fs]
  exact q
 ·obtain⟨its,r,pl,hz⟩:=I.tuple hq
  refine SeqAt.in_tupleAt (eqU x) pl (fun w hw=>q8a rx fx r fs w (by simpa using hw)) ⟨.bl _,H,I,rfl,?_⟩
  rw [show its.toArray.any (eqU x)=its.any (eqU x) by simp,x0q r fs]
  exact q
theorem q9i:OpR X (compareOp .NotIn) (rIn X.K true):=by
 intro pins s σ H x y v u Q I rx ry h
 obtain⟨p,xs,rfl,hq,fx,fs,q⟩:=h
 cases ry
 rcases hq with hq | hq
 ·obtain⟨its,r,pl,hz⟩:=I.list hq
  refine SeqAt.notIn_listAt (eqU x) pl.isList (fun w hw=>q8a rx fx r fs w (by simpa using hw)) ⟨.bl _,H,I,rfl,?_⟩
  rw [show its.toArray.any (eqU x)=its.any (eqU x) by simp,x0q r fs]
  exact q
 ·obtain⟨its,r,pl,hz⟩:=I.tuple hq
  refine SeqAt.notIn_tupleAt (eqU x) pl (fun w hw=>q8a rx fx r fs w (by simpa using hw)) ⟨.bl _,H,I,rfl,?_⟩
  rw [show its.toArray.any (eqU x)=its.any (eqU x) by simp,x0q r fs]
  exact q
theorem q0t:x0r X (.builtin "len") (fun xs H Q=>∃ p ys,xs=[.ref p]∧(SqL X.K H p ys∨SqT X.K H p ys)∧Q (.int ys.length) H):=by
 intro pins s σ H xs us Q I r h
 obtain⟨p,ys,rfl,hq,q⟩:=h
 obtain⟨u,rfl,rx⟩:=x4x r
 cases rx
 have hn:=x5l
 rcases hq with hq | hq
 ·obtain⟨its,r',pl,hz⟩:=I.list hq
  have hlen:=r'.length
  exact Calls.call_len_list pl.isList (by simp only [List.size_toArray] <;> omega) ⟨.int ys.length,H,I.tok _,⟨s.toks+1,by rw [List.size_toArray,hlen]⟩,q⟩
 ·obtain⟨its,r',pl,hz⟩:=I.tuple hq
  have hlen:=r'.length
  exact len_tuple pl (by simp only [List.size_toArray] <;> omega) ⟨.int ys.length,H,I.tok _,⟨s.toks+1,by rw [List.size_toArray,hlen]⟩,q⟩
theorem x4k:x0r X (.type "list") (fun xs H Q=>∃ p ys,xs=[.ref p]∧(SqL X.K H p ys∨SqT X.K H p ys)∧∀ l,H l=none→Q (.ref l) (upd H l (.lst ys))):=by
 intro pins s σ H xs us Q I r h
 obtain⟨p,ys,rfl,hq,q⟩:=h
 obtain⟨u,rfl,rx⟩:=x4x r
 cases rx
 have fin:∀ (its:List Value),q2i ys its→ys.length≤sizeLine→∀ (h':Heap) (c':Nat),(∀ b o',s.heap.get? b=some o'→h'.get? b=some o') →
   h'.get? s.heap.objs.size=some { cls:=.type "list",dict:=none,data:=.seq its.toArray c',slots:=#[] }→EP X pins σ Q (.ref s.heap.objs.size) { s with heap:=h' }:=fun its r' hz h' c' kp e =>
  ⟨.ref s.heap.objs.size,_,I.laid (t':=s.toks) kp (Nat.le_refl _) (show q3k X.prog X.w _ h' _ (.lst ys) from ⟨hz,its,c',r',e⟩),rfl,q _ (I.hok.fresh (Nat.le_refl _))⟩
 rcases hq with hq | hq
 ·obtain⟨its,r',pl,hz⟩:=I.list hq
  have hlen:=r'.length
  obtain⟨o,ho,hc,n,hd⟩:=pl.isList
  exact call_list_seq p (.inl rfl) ho hc hd (fun h' c' kp e=>fin its r' hz h' c' kp e) (by simp only [List.size_toArray] <;> omega)
 ·obtain⟨its,r',pl,hz⟩:=I.tuple hq
  have hlen:=r'.length
  obtain⟨o,ho,hc,n,hd⟩:=pl
  exact call_list_seq p (.inr rfl) ho hc hd (fun h' c' kp e=>fin its r' hz h' c' kp e) (by simp only [List.size_toArray] <;> omega)
theorem q3m:x0r X (.type "tuple") (fun xs H Q=>∃ p ys,xs=[.ref p]∧((SqL X.K H p ys∧∀ l,H l=none→Q (.ref l) (upd H l (.tup ys)))∨(SqT X.K H p ys∧Q (.ref p) H))):=by
 intro pins s σ H xs us Q I r h
 obtain⟨p,ys,rfl,h⟩:=h
 obtain⟨u,rfl,rx⟩:=x4x r
 cases rx
 rcases h with ⟨hq,q⟩ | ⟨hq,q⟩
 ·obtain⟨its,r',pl,hz⟩:=I.list hq
  have hlen:=r'.length
  refine call_tuple_list pl.isList (fun h' kp=>?_) (by simp only [List.size_toArray] <;> omega)
  have I1:Inv X pins σ H { s with heap:=h' }:=I.kept (t':=s.toks) kp
  have I2:Inv X pins σ (upd H h'.objs.size (.tup ys)) { s with heap:=h'.push { cls:=.type "tuple",data:=.seq its.toArray } } :=
   I1.laid (t':=s.toks) (fun b o e=>Heap.get?_push_of_some _ e) (Nat.le_refl _) (show q3k X.prog X.w _ _ _ (.tup ys) from ⟨hz,its,r',IsTup.new _ _⟩)
  exact⟨.ref h'.objs.size,_,I2,rfl,q _ (I1.hok.fresh (Nat.le_refl _))⟩
 ·obtain⟨its,r',pl,hz⟩:=I.tuple hq
  exact call_tuple_same pl ⟨.ref p,H,I,rfl,q⟩
noncomputable def tyV (K:Frag) (T:String) (x:V) (H:Hp):Prop:=match x with
 | .str _=>T = "str"
 | .int _=>T = "int"
 | .ref p=>(T = "list" ∧ ∃ xs,SqL K H p xs)∨(T = "tuple" ∧ ∃ o,K.lookup p=some o∧o.cls=.type "tuple" ∧ o.dict=none) ∨
   (T = "dict" ∧ ((∃ kvs,H p=some (.dK kvs))∨∃ kvs,H p=some (.dT kvs)))∨(T = "set" ∧ ∃ S n,H p=some (.set S n))
 | _=>False
theorem j1w {pins:List (Addr × Obj)} {σ:St} {H:Hp} {s:Shared} {T:String} {x:V} {v:Value} (I:Inv X pins σ H s) (r:q3a x v) (ty:tyV X.K T x H) :
  s.TypeIs v T∧∀ a,v=.ref a→∃ ob,s.heap.get? a=some ob∧ob.dict=none:=by
 cases x with
 | str z =>
  obtain⟨t,rfl⟩:=r
  cases (show T = "str" from ty)
  exact⟨typeIs_str s z t,fun _ e=>nomatch e⟩
 | int i =>
  obtain⟨t,rfl⟩:=r
  cases (show T = "int" from ty)
  exact⟨typeIs_int s i t,fun _ e=>nomatch e⟩
 | ref p =>
  cases r
  rcases ty with ⟨rfl,xs,hq⟩ | ⟨rfl,o,hk,hc,hd⟩ | ⟨rfl,hk⟩ | ⟨rfl,S,n,hk⟩
  ·obtain⟨its,_,pl,_⟩:=I.list hq
   refine⟨pl.isList.typeIs,fun a e=>?_⟩
   cases e
   obtain⟨o,n,e,c,hd,_⟩:=pl
   exact⟨o,e,hd⟩
  ·refine⟨⟨o,I.kIn p o hk,hc⟩,fun a e=>?_⟩
   cases e
   exact⟨o,I.kIn _ o hk,hd⟩
  ·have z:∃ o,s.heap.get? p=some o∧o.ExactDict:=by
    rcases hk with ⟨kvs,hk⟩ | ⟨kvs,hk⟩
    ·obtain⟨_,_,_,_,o,_,_,e,ex,_⟩:=I.hok p _ hk
     exact⟨o,e,ex⟩
    ·obtain⟨_,_,_,_,o,_,_,e,ex,_⟩:=I.hok p _ hk
     exact⟨o,e,ex⟩
   obtain⟨o,e,ex⟩:=z
   refine⟨⟨o,e,ex.1⟩,fun a e2=>?_⟩
   cases e2
   exact⟨o,e,ex.2.1⟩
  ·obtain⟨o,_,_,_,e,ex,_⟩:=I.hok p _ hk
   refine⟨⟨o,e,ex.1⟩,fun a e2=>?_⟩
   cases e2
   exact⟨o,e,ex.2.1⟩
 | _=>exact False.elim ty
noncomputable def tBM (K:Frag) (T:String) (r:V→List V→Hp→VK→Prop) (to:TE) (t:TA):TE:=fun σ H Q=>to σ H fun x H1=>tyV K T x H1∧t σ H1 fun xs H2=>r x xs H2 Q
variable {o e:Expr} {es:List Expr} {to:TE} {t:TA} {name:Str} {apos cpos:Pos} {T id:String} {r:V→List V→Hp→VK→Prop}
theorem z6j (pa:PlainAttrs T) (slot:Slot T name id) (hty:typeOf (.builtin id)=pure (.type "method_descriptor")) (hm:MtR X id r) (ho:PE X o to) (ha:PA X (e::es) t)
  (hbase:attributeBase o name X.env (eval o X.env)=eval o X.env:=by rfl)
  (hfew:((backTo cpos (starEach (e::es) X.env)).all (fun x => !x.1) && (backToKw cpos (keywordEach [] X.env)).all (fun x=>x.1.isSome)
   && decide ((e::es).length+([]:List Keyword).length+(if ([]:List Keyword).isEmpty then 0 else 1) < 30))=true:=by rfl)
  (hline:(apos.endLine==cpos.line)=true:=by rfl) (hs:starEach (e::es) X.env=(false,eval e X.env)::starEach es X.env:=by rfl) (hplain:(backTo cpos (starEach es X.env)).any (·.1)=false:=by rfl) :
  PE X (.Call (.Attribute o name apos) (e::es) [] cpos) (tBM X.K T r to t):=by
 intro pins s σ H Q I h
 refine wpAny_Call_method_late hbase hfew hline rfl (thn (ho pins s σ H _ I h) fun v s1 ⟨x,H1,I1,r1,ty,q1⟩=>?_)
 obtain⟨h1,h2⟩:=j1w I1 r1 ty
 refine⟨T,id,pa,slot,hty,h1,h2,?_⟩
 have hA:=ha cpos pins s1 σ H1 _ I1 q1
 rw [hs] at hA ⊢
 refine Calls.callWith_builtin (by show (false || (backTo cpos (starEach es X.env)).any (·.1))=false; rw [hplain] <;> rfl) (Calls.evalArgs_plain ?_)
 exact thn hA fun us s2 ⟨vs,H2,I2,r2,q2⟩=>hm pins s2 σ H2 x vs v us Q I2 r1 r2 q2
end
noncomputable def MtM (X:Cx) (id:String) (r:V→List V→Hp→VK→Prop):Prop :=
 ∀ (pins:List (Addr × Obj)) (s:Shared) (σ:St) (H:Hp) (x:V) (xs:List V) (v:Value) (us:List Value) (Q:VK),Inv X pins σ H s→q3a x v→q2i xs us→r x xs H Q →
  wpAny (model X.prog X.w) X.A (call (.builtin id) (v::us)) (EP X pins σ Q) X.xe s
theorem q2i.one:∀ {x:V} {us:List Value},q2i [x] us→∃ u,us=[u]∧q3a x u
 | _,_,.cons r .nil=>⟨_,rfl,r⟩
theorem q2i.rep {xs:List V} {us:List Value} (h:q2i xs us):∀ k:Nat,q2i (List.replicate k xs).flatten (List.replicate k us).flatten
 | 0=>.nil
 | k+1=>by
  rw [List.replicate_succ,List.replicate_succ,List.flatten_cons,List.flatten_cons]
  exact q2i.append h (q2i.rep h k)
theorem x4m (its:List Value):∀ (k:Nat) (acc:List Value),
  List.foldl (fun x1 x2=>x1++x2) acc.toArray (List.replicate k its.toArray)=(acc++(List.replicate k its).flatten).toArray
 | 0,acc=>by simp
 | k+1,acc=>by
  have e:acc.toArray++its.toArray=(acc++its).toArray:=by simp
  have e2:(acc++its)++(List.replicate k its).flatten=acc++(List.replicate (k+1) its).flatten:=by
   rw [List.replicate_succ,List.flatten_cons,List.append_assoc]
  rw [← e2,← x4m its k (acc++its),← e,List.replicate_succ,List.foldl_cons]
section
variable {X:Cx} {pins:List (Addr × Obj)} {σ:St} {H:Hp} {s:Shared} {l b:Addr} {xs ys zs:List V}
theorem Inv.lset {its its':List Value} {n:Nat} {f:Array Value→Array Value} {t':Nat} (I:Inv X pins σ H s) (hH:H l=some (.lst xs))
  (e:s.heap.get? l=some { cls:=.type "list",data:=.seq its.toArray n }) (hf:f its.toArray=its'.toArray) (hv:q2i ys its') (hz:ys.length≤sizeLine) :
  Inv X pins σ (upd H l (.lst ys)) { s with heap:=s.heap.update l (Obj.mapSeq f),toks:=t' }:=by
 have q:=PySem.IsL.update e f
 rw [hf] at q
 refine I.write (x:=l) (e:=l) (by rw [hH]; exact trivial) (.inl rfl) (fun b' u hb hu=>(Heap.get?_update_other s.heap (Obj.mapSeq f) (Ne.symm hb)).trans hu) ⟨_,q⟩ ?_
 exact⟨hz,its',_,hv,q⟩
theorem Inv.lnew {its:List Value} {t':Nat} (I:Inv X pins σ H s) (hv:q2i ys its) (hz:ys.length≤sizeLine) :
  Inv X pins σ (upd H s.heap.objs.size (.lst ys)) { s with heap:=s.heap.push { cls:=.type "list",data:=.seq its.toArray },toks:=t' } :=
 I.laid (fun _ _ q=>Heap.get?_push_of_some _ q) (Nat.le_refl _) ⟨hz,its,0,hv,Heap.get?_push_size _ rfl⟩
theorem Inv.fresh (I:Inv X pins σ H s):H s.heap.objs.size=none:=I.hok.fresh (Nat.le_refl _)
theorem Inv.lstM (I:Inv X pins σ H s) (hH:H l=some (.lst xs)):xs.length≤sizeLine∧∃ (its:List Value) (n:Nat),q2i xs its∧xs.length=its.length∧s.heap.get? l=some { cls:=.type "list",data:=.seq its.toArray n }:=by
 obtain⟨z,its,n,r,e⟩:=I.hok l _ hH
 exact⟨z,its,n,r,r.length,e⟩
end
section
variable {X:Cx}
noncomputable def z9w:V→List V→Hp→VK→Prop:=fun x vs H Q=>∃ l xs y,x=.ref l∧vs=[y]∧H l=some (.lst xs)∧xs.length < sizeLine∧Q .non (upd H l (.lst (xs++[y])))
theorem q8h:MtM X "list.append" z9w:=by
 intro pins s σ H x vs v us Q I rx rv h
 obtain⟨l,xs,y,rfl,rfl,hH,hz,q⟩:=h
 cases rx
 obtain⟨u,rfl,ru⟩:=rv.one
 obtain⟨z,its,n,r,hl,e⟩:=I.lstM hH
 refine call_meets F.slot_list_append ⟨_,e,rfl⟩ F.entry_list_append (F.args_list_append_2 _ _) (PySem.list_append l its.toArray n u (by rw [List.size_toArray]; omega)) ⟨e,?_⟩
 refine⟨.non,_,I.lset (its':=its++[u]) hH e (by simp) (r.append (.cons ru .nil)) ?_,rfl,q⟩
 rw [List.length_append,List.length_singleton]
 omega
noncomputable def j9m:R2:=fun x y H Q=>∃ l b xs zs,x=.ref l∧y=.ref b∧H l=some (.lst xs)∧H b=some (.lst zs)∧xs.length+zs.length≤sizeLine∧∀ p,H p=none→Q (.ref p) (upd H p (.lst (xs++zs)))
theorem x4w:OpR X (binaryOp .Add) j9m:=by
 intro pins s σ H x y v u Q I rx ry h
 obtain⟨l,b,xs,zs,rfl,rfl,hH,hB,hz,q⟩:=h
 cases rx
 cases ry
 obtain⟨z,its,n,r,hl,e⟩:=I.lstM hH
 obtain⟨z2,its2,n2,r2,hl2,e2⟩:=I.lstM hB
 refine PySem.P.add_list e e2 ?_ (by rw [List.size_toArray,List.size_toArray]; omega)
 have ea:its.toArray++its2.toArray=(its++its2).toArray:=by simp
 rw [ea]
 exact⟨.ref _,_,I.lnew (t':=s.toks) (r.append r2) (by rw [List.length_append]; omega),rfl,q _ I.fresh⟩
theorem z1g {α:Type} (xs:List α) (k:Nat):(List.replicate k xs).flatten.length=k*xs.length:=by
 induction k with
 | zero=>simp
 | succ k ih=>rw [List.replicate_succ,List.flatten_cons,List.length_append,ih,Nat.succ_mul,Nat.add_comm]
end
section
variable {prog:Program} {w:World} {A:Around} {E:Value→Shared→Prop} {s:Shared}
set_option maxRecDepth 100000 in
end
section
variable {X:Cx}
end
end L2
namespace Att
open PySem PySem.W PySem.Calls PyProof.Rows
theorem x0w {P:Params} {h:Heap}:∀ (ns:List Int) (vs:List Value),WellAll P h vs (ns.map WData.int)→IntsAre vs ns:=by
 intro ns
 induction ns with
 | nil =>
  intro vs w
  rw [List.map_nil] at w
  cases w
  exact .nil
 | cons n ns ih =>
  intro vs w
  rw [List.map_cons] at w
  cases w with
  | cons a b =>
   cases a
   exact .cons _ _ (ih _ b)
theorem z2c {l:OpenLaw} {n:Nat} (hn:l.most=some n) {P:Params} {h:Heap} {args:List WData} {vals:List Value}
  (hpre:l.row.toRowW.claim.pre args=true) (hwl:WellAll P h vals args) :
  ∃ a vs ns,vals=[Value.ref a]∧args=[WData.list (ns.map WData.int)]∧h.get? a=some { cls:=.type "list",data:=.seq vs.toArray }∧IntsAre vs ns∧ns.length≤n:=by
 have hsh:WShape.hasAll [] args [.list .int]=true:=(pre_splitW hpre).1
 have hc:l.pre.holds [] { args:=args }=true:=(pre_splitW hpre).2
 obtain⟨d,r,rfl,h1,h2⟩:=hasAllW_cons hsh
 obtain rfl:=hasAllW_nil h2
 obtain⟨xs,rfl,h3⟩:=hasW_list h1
 obtain⟨ns,rfl⟩:=items_int h3
 have hlen:ns.length≤n:=by
  unfold OpenLaw.pre at hc
  have h4:(WTm.not (.lt (.lit (.int (n:Int))) (.len (.arg 0)))).holds [] { args:=[.list (ns.map .int)] }=true:=by
   have h4:=(holds_andW hc).1
   rw [hn] at h4
   exact h4
  have h5:=condW_of h4 (w_not (w_lt w_lit (w_len_list (w_arg rfl))))
  rw [List.length_map] at h5
  refine Nat.le_of_not_lt fun q=>?_
  have q':(n:Int) < ((ns.length:Nat):Int):=by omega
  first
   | (rw [decide_eq_true q'] at h5; exact absurd h5 (by decide))
   | (simp at h5; omega)
 cases hwl with
 | cons w1 w2 =>
  cases w2
  cases w1 with
  | list ho hall=>exact⟨_,_,ns,rfl,rfl,ho,x0w ns _ hall,hlen⟩
theorem z3x (l:OpenLaw) (args:List WData):l.row.toRowW.claim.post args (.bool true) args=true :=
 postW_of (r:=l.row.toRowW) (X:=(true==true))
  (show WShape.has [] (.bool true) .bool=true by first | rfl | decide | simp [WShape.has,WShape.arms,WShape.armsAll])
  (show (WTm.eq .res (.lit (.bool true))).value [] { args:=args,res:=some (.bool true),after:=args }=some (.bool (true==true)) from w_eq_bool (w_res rfl) w_lit) rfl
theorem attach_call {l:OpenLaw} {n:Nat} {q:Program} {loose:List Str} {XP:(Str→Option Value)→Heap→Prop} {YP:World→Heap→Prop} {d:DefRec}
  (hn:l.most=some n) (hdf:d.params.defaults=[])
  (call:∀ (w:World) (s₀ s₁:Shared) (mg mb:Str→Option Value) (fa:Addr) (o:Obj) (pm cd doc:Value) (a:Addr) (vs:List Value) (ns:List Int),
   Ground q loose [] XP w s₀ mg mb s₁.heap→YP w s₁.heap →
   s₁.heap.get? fa=some o→o.data=.func (docDef d.name d.params d.body d.scope pm cd doc)→s₁.heap.CodeRec cd d.name→mg d.name=some (.ref fa) →
   s₁.heap.get? a=some { cls:=.type "list",data:=.seq vs.toArray }→IntsAre vs ns→ns.length≤n→s₁.gens=#[] →
   codeAny (model l.prog w) callerA (.call (.ref fa) ⟨[.ref a],[]⟩) (fun r s'=>r=.ok (.ret (.bool true))∧OldK s₁.heap s'.heap∧s'.os=s₁.os∧AllBare s'.gens) s₁) :
  WalkO q loose XP YP l.row.toRowW d [] (fun f vs=>PySem.call f vs):=by
 intro w s₀ s₁ mg mb G Y fa o pm cd doc dV kV ho hd hcd hD hmg hg args vals as hpre hlay hrd hwl hlo
 obtain rfl:dV=.none:=Dflts.none hD hdf
 obtain rfl:kV=.none:=Dflts.noKw hD
 obtain⟨a,vs,ns,rfl,rfl,hobj,hints,hlen⟩:=z2c hn hpre hwl
 refine enter_call (codeAny_mono (call w s₀ s₁ mg mb fa o pm cd doc a vs ns G Y ho (fd_plain hd) hcd hmg hobj hints hlen hg) fun r s' hq=>?_)
 obtain⟨rfl,h2,h3,h4⟩:=hq
 exact⟨.inl ⟨.bool true,.bool true,[],rfl,fun _=>rfl,.bool true,z3x l _,fun _=>⟨List.Pairwise.nil,fun _ hm=>(nomatch hm)⟩⟩,h2,h3,h4⟩
section
variable {prog:Program} {w:World} {A:Around} {E:Value→Shared→Prop} {s:Shared} {K:Frag}
noncomputable def j7n (h:Heap) (L d:Addr):List (Addr × Obj):=(List.range h.objs.size).filterMap fun a=>if a=L∨a=d then none else (h.get? a).map fun o=>(a,o)
end
end Att
namespace L2
open PySem PySem.Spec PyProof.Rows
theorem x4e:∀ {vs:List Value} {ns:List Int},IntsAre vs ns→q2i (ns.map V.int) vs
 | _,_,.nil=>.nil
 | _,_,.cons n t h=>.cons ⟨t,rfl⟩ (x4e h)
noncomputable def j5u (H:Hp):Prop:=∀ b,H b=none∨∃ o xs,H b=some (.frz o (.lst xs))
theorem z4g {P:Program} {w:World} {K:Frag} {mg mb:Str→Option Value} {CX:CXT} {k:Nat} {fa a:Addr} {fd:FuncData} {x:Str} {sp:Sp} {s₁:Shared} {vs:List Value} {ns:List Int}
  (KX:K.In s₁.heap) (hns:s₁.heap.Ns mainGlobals mg) (hb:s₁.heap.Ns builtinsNs mb) (hbb:∀ x:Str,x ≠ "__name__" → mb x=bootBuiltins x) (hlim:s₁.heap.NoLimit) (hg:s₁.gens=#[])
  (ha:s₁.heap.get? a=some { cls:=.type "list",data:=.seq vs.toArray }) (hi:IntsAre vs ns) (hl:ns.length≤sizeLine) (hr:Room k callerA)
  (F:∀ base:Heap,K.In base→base.Ns mainGlobals mg→FnOk P w K mg base CX k fa fd [x] sp) (hbind:∀ (s:Shared) (u:Value),BindsTo s fd ⟨[u],[]⟩ [(x,u)])
  (hsp:∀ H:Hp,j5u H→SqL K H a (ns.map V.int)→sp [.ref a] H (fun v _=>v=.bl true) fun _ _ _=>False)
  (hCX:∀ H e s',CX [] H s₁ (fun _ _ _=>False) e s'→False) :
  codeAny (model P w) callerA (.call (.ref fa) ⟨[.ref a],[]⟩) (fun r s'=>r=.ok (.ret (.bool true))∧OldK s₁.heap s'.heap∧s'.os=s₁.os∧AllBare s'.gens) s₁:=by
 have rv:=x4e hi
 have lenV:=hi.length
 have core:∀ H:Hp,j5u H→SqL K H a (ns.map V.int)→HOk P w H s₁.heap→(∀ b,H b≠none→b=a)→(H a≠none→K.lookup a=none) →
   codeAny (model P w) callerA (.call (.ref fa) ⟨[.ref a],[]⟩) (fun r s'=>r=.ok (.ret (.bool true))∧OldK s₁.heap s'.heap∧s'.os=s₁.os∧AllBare s'.gens) s₁:=by
  intro H hO hS hok hA hK
  have base_of:∀ {b:Addr} {o:Obj},s₁.heap.get? b=some o→H b=none→(z4u s₁.heap H).get? b=some o:=fun e n=>z5i e n
  have noA:∀ {b:Addr} {o:Obj} {es:Array DictEntry} {ep:Nat},s₁.heap.get? b=some o→o.data=.dict es ep→H b=none:=fun {b o es ep} e d=>by
   cases q:H b with
   | none=>rfl
   | some u =>
    have e':b=a:=hA b (by rw [q]; simp)
    subst e'
    rw [ha] at e; cases e
    have d':Data.seq vs.toArray _=Data.dict es ep:=d
    cases d'
  have nsK:∀ {b:Addr} {m:Str→Option Value},s₁.heap.Ns b m→(z4u s₁.heap H).Ns b m:=fun {b m} ⟨o,es,ep,e,d,r⟩=>⟨o,es,ep,base_of e (noA e d),d,r⟩
  have hKb:K.In (z4u s₁.heap H):=fun b o e=>base_of (KX b o e) (by
   cases q:H b with
   | none=>rfl
   | some u =>
    have e':b=a:=hA b (by rw [q]; simp)
    subst e'
    rw [hK (by rw [q]; simp)] at e; cases e)
  have hM:Mod K mg (z4u s₁.heap H):=⟨hKb,nsK hns,⟨mb,nsK hb,hbb⟩,let ⟨mc,h1,h2⟩:=hlim; ⟨mc,nsK h1,h2⟩⟩
  have e0:Env0 P w K mg (z4u s₁.heap H) callerA [] s₁ H:=⟨rfl,hM,fun b o e=>z8i e,Nat.le_of_eq (z2l _ _),trivial,fun b hb=>absurd (show b∈([]:List Addr) from hb) (by simp),hok,.of_eq hg⟩
  refine codeAny_mono ((F _ hKb (nsK hns)).run callerA [] s₁ H ⟨[.ref a],[]⟩ [.ref a] [.ref a] _ _ hr e0 (hbind s₁ (.ref a)) (.cons rfl .nil) (hsp H hO hS)) fun r s' h=>?_
  cases r with
  | error e=>exact (hCX H e s' h).elim
  | ok fl =>
   cases fl with
   | next=>exact False.elim h
   | brk=>exact False.elim h
   | cont=>exact False.elim h
   | ret u =>
    obtain⟨v,H',os,bare,un,hok',r',q⟩:=h
    have q':v=.bl true:=q
    subst q'
    obtain rfl:u=Value.bool true:=r'
    refine⟨rfl,OldK.of_keep fun b o e=>?_,os,bare⟩
    cases q:H b with
    | none=>exact un.keep b o e q (by intro z; exact absurd (show b∈([]:List Addr) from z) (by simp)) (by simp)
    | some u =>
     rcases hO b with z | ⟨ob,xs,z⟩
     ·rw [q] at z; cases z
     ·have z2:=un.frzs b ob _ z
      obtain⟨e1,_⟩:=hok b _ z
      obtain⟨e2,_⟩:=hok' b _ z2
      rw [e] at e1; cases e1
      exact e2
 cases hk:K.lookup a with
 | some o =>
  have e:=KX a o hk
  rw [ha] at e
  cases e
  refine core (fun _=>none) (fun _=>.inl rfl) (.inr ⟨_,vs.toArray,_,hk,rfl,rfl,rfl,by rw [List.size_toArray,lenV]; exact hl,by simpa using rv⟩) (fun b u z=>by have z':(none:Option HO)=some u:=z; cases z') (fun b z=>absurd rfl z) fun z=>absurd rfl z
 | none =>
  refine core (fun b=>if b=a then some (.frz { cls:=.type "list",data:=.seq vs.toArray } (.lst (ns.map V.int))) else none) (fun b=>?_) (.inl (.inr ⟨{ cls:=.type "list",data:=.seq vs.toArray },if_pos rfl⟩)) (fun b u z=>?_) (fun b z=>?_) fun _=>hk
  ·by_cases hb:b=a
   ·exact .inr ⟨_,_,if_pos hb⟩
   ·exact .inl (if_neg hb)
  ·by_cases hb:b=a
   ·have z':=(if_pos hb).symm.trans z
    cases z'
    subst hb
    exact⟨ha,by rw [List.length_map]; exact hl,vs,_,rv,ha⟩
   ·have z':=(if_neg hb).symm.trans z
    cases z'
  ·by_cases hb:b=a
   ·exact hb
   ·exact absurd (if_neg hb) z
noncomputable abbrev KOf {K:Frag} {h:Heap} (_:K.In h):Frag:=K
theorem z9g {l:PySem.W.OpenLaw} {n k:Nat} {q:Program} {loose:List Str} {XP:(Str→Option Value)→Heap→Prop} {YP:World→Heap→Prop} {d:DefRec} {K:Params→Frag} {CX:World→CXT} {sp:World→Sp} {x:Str}
  (hn:l.most=some n) (hn2:n≤sizeLine) (hdf:d.params.defaults=[]) (hr:Room k callerA)
  (hY:∀ (w:World) (h:Heap),YP w h→(K w.params).In h)
  (F:∀ (w:World) (mg:Str→Option Value) (fa:Addr) (h:Heap),(K w.params).In h→h.Ns mainGlobals mg→mg d.name=some (.ref fa) →
   ∃ fd:FuncData,(∀ (s:Shared) (u:Value),BindsTo s fd ⟨[u],[]⟩ [(x,u)]) ∧
    ∀ base:Heap,(K w.params).In base→base.Ns mainGlobals mg→FnOk l.prog w (K w.params) mg base (CX w) k fa fd [x] (sp w))
  (hsp:∀ (w:World) (H:Hp) (a:Addr) (ns:List Int),ns.length≤n→j5u H→SqL (K w.params) H a (ns.map V.int)→sp w [.ref a] H (fun v _=>v=.bl true) fun _ _ _=>False)
  (hCX:∀ (w:World) (H:Hp) (s:Shared) (e:Value) (s':Shared),CX w [] H s (fun _ _ _=>False) e s'→False) :
  PySem.W.WalkO q loose XP YP l.row.toRowW d [] (fun f vs=>PySem.call f vs):=by
 refine Att.attach_call hn hdf fun w s₀ s₁ mg mb fa o pm cd doc a vs ns G Y ho hd hcd hmg hobj hints hlen hg=>?_
 have KX:=hY w _ Y
 obtain⟨fd,hb,hF⟩:=F w mg fa _ KX G.T.g hmg
 exact z4g KX G.T.g G.T.b G.T.builtins G.T.nolimit hg hobj hints (Nat.le_trans hlen hn2) hr hF hb (fun H hO hS=>hsp w H a ns hlen hO hS) fun H e s'=>hCX w H s₁ e s'
noncomputable def x0v (s:Stmt) (j:Nat):Stmt:=match s with
 | .ClassDef _ _ _ body _ _ _ _ _ _ _=>body.getD j (.Pass ⟨0,0,0,0⟩)
 | _=>.Pass ⟨0,0,0,0⟩
noncomputable def q6l (s:Stmt):Arguments:=match s with
 | .FunctionDef _ a _ _ _ _ _ _ _ _=>a
 | _=>{ posonlyargs:=[],args:=[],vararg:=none,kwonlyargs:=[],kw_defaults:=[],kwarg:=none,defaults:=[] }
noncomputable def q4n (s:Stmt):List Stmt:=match s with
 | .FunctionDef _ _ b _ _ _ _ _ _ _=>b
 | _=>[]
noncomputable def q0h (s:Stmt):Scope:=match s with
 | .FunctionDef _ _ _ _ _ _ sc _ _ _=>sc
 | _=>{ kind:=.function,names:=[],isGenerator:=false,isCoroutine:=false }
noncomputable abbrev CX0:CXT:=fun _ _ _ _ _ _=>False
noncomputable abbrev E0:XK:=fun _ _ _=>False
theorem q7n {X:Cx}:q6q CX0 X E0:=fun _ _ _ _ _ _ _ h=>h.elim
structure Fun (K:Frag) (x qual:Str) (st:Stmt) (f:Addr) (fd:FuncData):Prop where
 ex:∃ (oc:Value) (od:Option Addr) (kV doc pm:Value) (an:Option Addr) (cdv ct:Value) (osl:Array (Option Value)),
  fd=fnOf x qual (q6l st) (q4n st) (q0h st) .none kV doc pm an cdv ct∧K.lookup f=some ⟨oc,od,.func fd,osl⟩∧PySem.W.codeIn K cdv qual=true
 kp:keepIn K (.ref f)=true
section
variable {P:Program} {w:World} {K:Frag} {mg:Str→Option Value} {base:Heap}
theorem Fun.ok {x qual:Str} {st:Stmt} {f:Addr} {fd:FuncData} {N ps:List Str} {k:Nat} {sp:Sp} (F:Fun K x qual st f fd) (S:FnScope N ps (q0h st)) (len:∀ vs H Q E,sp vs H Q E→vs.length=ps.length)
  (hbody:∀ (cdv:Value) (A:Around) (outer:List Env) (s:Shared) (H:Hp) (vs:List V) (Q:VK) (E:XK),Room k (A.deeper (envOfC qual (q0h st) s.heap.objs.size f cdv))→sp vs H Q E →
   ∃ t,PSs (z0a CX0 P w K mg base N qual (q0h st) f cdv A outer s H E).nox (q4n st) t∧t { nx:=fun _ H'=>Q .non H',rt:=Q } (x1o N vs) H):FnOk P w K mg base CX0 (k+1) f fd ps sp:=by
 obtain⟨oc,od,kV,doc,pm,an,cdv,ct,osl,rfl,lk,hcd⟩:=F.ex
 refine j0u lk hcd S len fun A outer s H vs Q E hr hsp=>?_
 obtain⟨t,h,q⟩:=hbody cdv A outer s H vs Q E hr hsp
 exact⟨t,h.nox,q⟩
theorem Fun.binds {x qual:Str} {st:Stmt} {f:Addr} {fd:FuncData} {ps:List Str} (F:Fun K x qual st f fd)
  (h:∀ (kV doc pm:Value) (an:Option Addr) (cdv ct:Value) (us:List Value),us.length=ps.length→bindArgs (fnOf x qual (q6l st) (q4n st) (q0h st) .none kV doc pm an cdv ct) ⟨us,[]⟩=pure (ps.zip us)):q3p K fd ps []:=by
 obtain⟨oc,od,kV,doc,pm,an,cdv,ct,osl,rfl,lk,hcd⟩:=F.ex
 exact .all (h kV doc pm an cdv ct)
theorem j3q {x qual:Str} {st:Stmt} {f:Addr} {oc:Value} {od an:Option Addr} {osl:Array (Option Value)} {kV doc pm cdv ct:Value} (l:K.lookup f=some ⟨oc,od,.func (fnOf x qual (q6l st) (q4n st) (q0h st) .none kV doc pm an cdv ct),osl⟩)
  (c:PySem.W.codeIn K cdv qual=true) (k:keepIn K (.ref f)=true):Fun K x qual st f (fnOf x qual (q6l st) (q4n st) (q0h st) .none kV doc pm an cdv ct):=⟨⟨oc,od,kV,doc,pm,an,cdv,ct,osl,rfl,l,c⟩,k⟩
end
theorem x4s {A:Around} {k:Nat} (hr:Room k A):A.units+1 < cLine:=Nat.lt_of_le_of_lt (Nat.add_le_add_left (by decide:1≤64) _) hr.units
section
variable {X:Cx}
theorem pv (i:Nat) {x:Str} {pos:Pos} (hN:X.N[i]? = some x:=by rfl) (hv:Vis X.env.scope x:=by first | exact Or.inl rfl | exact Or.inr (Or.inl rfl) | exact Or.inr (Or.inr rfl)) (hd:(x==("__debug__" : Str))=false:=by decide)
  (hcd:(x==("__classdict__" : Str))=false:=by decide):PE X (.Name x pos) (j7a i):=j3o hN hv hd hcd
end
theorem q2p {A B:Prop} (h:B):if false=true then A else B:=by
 rw [if_neg Bool.false_ne_true]
 exact h
theorem q2z {A B:Prop} (h:A):if true=true then A else B:=by
 rw [if_pos rfl]
 exact h
theorem q4r {c A B:Prop} [Decidable c] (h1:c→A) (h2:¬ c→B):if c then A else B:=by
 by_cases h:c
 ·rw [if_pos h]
  exact h1 h
 ·rw [if_neg h]
  exact h2 h
noncomputable def q1l (H H':Hp):Prop:=∀ b o,H b=some o→H' b=some o
theorem q1l.refl (H:Hp):q1l H H:=fun _ _ h=>h
theorem q1l.trans {H H1 H2:Hp} (a:q1l H H1) (b:q1l H1 H2):q1l H H2:=fun c o h=>b c o (a c o h)
end L2
set_option maxHeartbeats 4000000
namespace L2
open PySem PySem.Spec PyProof.Rows
noncomputable def clo (cells:List (Str × Addr)):List (Str × NameKind)→List (Str × Addr)→List (Str × Addr)
 | [],cs=>cs
 | p::r,cs=>clo cells r (if (p.2==NameKind.free)=true then (match cells.lookup p.1 with | some a=>(p.1,a)::cs | none=>cs) else cs)
theorem z8f {env:Env} {f:Str × NameKind→List (Str × Addr)→Sem (ForInStep (List (Str × Addr)))}
  (hf:∀ p cs,f p cs=if (p.2==NameKind.free)=true then (cellOf env p.1 >>= fun a=>pure (ForInStep.yield ((p.1,a)::cs))) else pure (ForInStep.yield cs)) :
  ∀ (names:List (Str × NameKind)) (cs:List (Str × Addr)),(∀ p∈names,p.2=.free→∃ a,env.cells.lookup p.1=some a) →
   (forIn names cs f:Sem (List (Str × Addr)))=pure (clo env.cells names cs):=by
 intro names
 induction names with
 | nil=>intro cs _; rfl
 | cons p r ih =>
  intro cs h
  have hr:=fun cs=>ih cs fun q hq=>h q (List.mem_cons_of_mem _ hq)
  rw [List.forIn_cons,hf]
  by_cases hk:p.2=.free
  ·obtain⟨a,ha⟩:=h p List.mem_cons_self hk
   have hb:(p.2==NameKind.free)=true:=by rw [hk]; rfl
   rw [if_pos hb]
   have hc:cellOf env p.1=pure a:=by unfold cellOf; rw [ha]
   rw [hc]
   show (forIn r ((p.1,a)::cs) f:Sem _)=_
   rw [hr,clo,if_pos hb,ha]
  ·have hb:¬ (p.2==NameKind.free)=true:=by simpa using hk
   rw [if_neg hb]
   show (forIn r cs f:Sem _)=_
   rw [hr,clo,if_neg hb]
theorem j0h {env:Env} {scope:Scope} (h:∀ p∈scope.names,p.2=.free→∃ a,env.cells.lookup p.1=some a):closureFor scope env=pure (clo env.cells scope.names []):=by
 simp only [closureFor]
 rw [z8f (env:=env) (fun p cs=>by obtain⟨n,k⟩:=p; cases hk:(k==NameKind.free) <;> simp [hk] <;> rfl) scope.names [] h]
 rfl
theorem x1b {cells:List (Str × Addr)} {x:Str} {c:Addr}:∀ (names:List (Str × NameKind)) (cs:List (Str × Addr)),(clo cells names cs).lookup x=some c→cells.lookup x=some c∨cs.lookup x=some c:=by
 intro names
 induction names with
 | nil=>intro cs h; exact .inr h
 | cons p r ih =>
  intro cs h
  rw [clo] at h
  rcases ih _ h with e | e
  ·exact .inl e
  ·split at e
   ·cases ha:cells.lookup p.1 with
    | none=>rw [ha] at e; exact .inr e
    | some a =>
     rw [ha] at e
     rw [List.lookup_cons] at e
     cases hx:x==p.1 with
     | true =>
      rw [hx] at e
      have:x=p.1:=by simpa using hx
      subst this
      left
      rw [ha]; exact e
     | false=>rw [hx] at e; exact .inr e
   ·exact .inr e
theorem z0d {cells:List (Str × Addr)} {x:Str} {a:Addr} (ha:cells.lookup x=some a):∀ (names:List (Str × NameKind)) (cs:List (Str × Addr)),
  ((x,NameKind.free)∈names∨cs.lookup x=some a)→(clo cells names cs).lookup x=some a:=by
 intro names
 induction names with
 | nil =>
   intro cs h; rcases h with h | h
   ·cases h
   ·exact h
 | cons p r ih =>
  intro cs h
  rw [clo]
  by_cases hr:(x,NameKind.free)∈r
  ·exact ih _ (.inl hr)
  ·refine ih _ (.inr ?_)
   by_cases hb:(p.2==NameKind.free)=true
   ·rw [if_pos hb]
    by_cases hx:x=p.1
    ·subst hx
     rw [ha]
     simp [List.lookup_cons]
    ·have h2:cs.lookup x=some a:=by
      rcases h with h | h
      ·rcases List.mem_cons.mp h with e | e
       ·exact absurd (congrArg Prod.fst e) hx
       ·exact absurd e hr
      ·exact h
     cases hc:cells.lookup p.1 with
     | none=>exact h2
     | some b =>
      have hx':(x==p.1)=false:=by simpa using hx
      simp [List.lookup_cons,hx',h2]
   ·rw [if_neg hb]
    rcases h with h | h
    ·rcases List.mem_cons.mp h with e | e
     ·exact absurd (by rw [← e]; rfl) hb
     ·exact absurd e hr
    ·exact h
theorem q6w {α β:Type} [BEq α] [LawfulBEq α] {x:α} {y:β}:∀ {l:List (α × β)},l.lookup x=some y→(x,y)∈l
 | [],h=>by cases h
 | p::r,h=>by
  rw [List.lookup_cons] at h
  cases hx:x==p.1 with
  | true =>
   rw [hx] at h
   have e:x=p.1:=by simpa using hx
   cases h
   rw [e]
   exact List.mem_cons_self
  | false=>rw [hx] at h; exact List.mem_cons_of_mem _ (q6w h)
theorem z7b {f:Str × NameKind→Str × NameKind} (hf:∀ p,f p=p∨(p.2=.free∧f p=(p.1,.cell))) {x:Str}:∀ {names:List (Str × NameKind)},(names.map f).lookup x=names.lookup x∨(names.lookup x=some .free∧(names.map f).lookup x=some .cell)
 | []=>.inl rfl
 | p::r=>by
  have ih:=@z7b f hf x r
  rw [List.map_cons]
  rcases hf p with e | ⟨e1,e2⟩
  ·rw [e,List.lookup_cons,List.lookup_cons]
   cases hx:x==p.1 with
   | true=>exact .inl rfl
   | false=>exact ih
  ·rw [e2,List.lookup_cons,List.lookup_cons]
   cases hx:x==p.1 with
   | true=>exact .inr ⟨congrArg some e1,rfl⟩
   | false=>exact ih
theorem j2w {env:Env} {x:Str} {names:List (Str × NameKind)} :
  ((names.map fun (n,k)=>if (k==NameKind.free && env.scope.kind==.function && env.kindOf n==some .cell) then (n,NameKind.cell) else (n,k)).lookup x=names.lookup x) ∨
  (names.lookup x=some .free∧(names.map fun (n,k)=>if (k==NameKind.free && env.scope.kind==.function && env.kindOf n==some .cell) then (n,NameKind.cell) else (n,k)).lookup x=some .cell):=by
 refine z7b (fun p=>?_)
 obtain⟨n,k⟩:=p
 by_cases hc:(k==NameKind.free && env.scope.kind==.function && env.kindOf n==some .cell)=true
 ·right
  have hk:k=.free:=by
   simp only [Bool.and_eq_true,beq_iff_eq] at hc
   exact hc.1.1
  exact⟨hk,by show (if _ then _ else _)=_; rw [if_pos hc]⟩
 ·left
  show (if _ then _ else _)=_
  rw [if_neg hc]
noncomputable def cxB (X:Cx) (NB:List Str) (scope:Scope) (cl:List (Str × Addr)) (C:Addr) (fp:List Addr) (s:Shared) (H:Hp):Cx where
 prog:=X.prog
 w:=X.w
 K:=X.K
 mg:=X.mg
 base:=X.base
 A:=X.A
 N:=NB
 s₀:=s
 H₀:=H
 env:=compEnvC scope cl C X.env
 outer:=X.stack
 stack:=X.stack
 ex:=fp
 fn:=fun _=>false
 calm:=X.calm
 pn:=[]
 xe:=fun _ _=>False
noncomputable def j0n (X:Cx) (ifs:List Expr) (t:TT):Prop :=
 ∀ (pins:List (Addr × Obj)) (s:Shared) (σ:St) (H:Hp) (Q:Bool→Hp→Prop),Inv X pins σ H s→t σ H Q →
  wpAny (model X.prog X.w) X.A (forIn ifs true fun c r=>if r=true then do let ok←isTrue c X.env (eval c X.env); pure (ForInStep.yield ok) else pure (ForInStep.yield r)) (TP X pins σ Q) X.xe s
noncomputable def w0l:TT:=fun _ H Q=>Q true H
theorem q5l {X:Cx}:j0n X [] w0l:=fun _ _ _ H _ I h=>wpAny_tests_nil ⟨H,I,h⟩
theorem q8l {X:Cx} {c:Expr} {t:TT} (h:PT X c t):j0n X [c] t:=fun pins s σ H Q I q=>wpAny_tests_one (h pins s σ H Q I q)
section
variable {prog:Program} {w:World} {A:Around} {R:Result→Shared→Prop} {s:Shared}
theorem z3n {elt target iter:Expr} {ifs:List Expr} {scope:Scope} {pos:Pos} {it acc:Value} {env:Env} (I:Nat→Shared→Prop)
  (turn:∀ n s,I n s→wpAny (model prog w) A (pyNext it) (fun r s1=>(r=none∧R (.ok .next) s1)∨∃ v,r=some v ∧
   wpAny (model prog w) A (letOwnedTupleGo target it v) (fun _ s2=>wpAny (model prog w) A (assign target env v) (fun _ s3 =>
    wpAny (model prog w) A (forIn ifs true fun c r=>if r=true then do let ok←isTrue c env (eval c env); pure (ForInStep.yield ok) else pure (ForInStep.yield r)) (fun ok s4 =>
     if ok=true then wpAny (model prog w) A (eval elt env) (fun x s5=>wpAny (model prog w) A (call (.builtin "list.append") [acc,x]) (fun _ s6=>∃ m,m < n∧I m s6) (fun _ _=>False) s5) (fun _ _=>False) s4
     else ∃ m,m < n∧I m s4) (fun _ _=>False) s3) (fun _ _=>False) s2) (fun _ _=>False) s1) (fun _ _=>False) s)
  (n:Nat) (h:I n s):codeAny (model prog w) A (.compLoop (.ListComp elt [⟨target,iter,ifs,0⟩] scope pos) 0 it acc env) R s:=by
 refine codeAny_loop rfl I (fun k s0 hk=>?_) n h
 show wpAny _ A (Sem.onRaise (compTurn (.ListComp elt [⟨target,iter,ifs,0⟩] scope pos) 0 it acc env) (fun x=>do noteFrame x env; theTreesLotGoes x)) _ _ s0
 refine wpAny_noted ?_
 rw [compTurn_list]
 refine wpAny_bind (wpAny_standAt (wpAny_bind (wpAny_mono (turn k s0 hk) (fun r s1 h1=>?_) fun _ _ z=>z.elim)))
 rcases h1 with ⟨rfl,h1⟩ | ⟨v,rfl,h1⟩
 ·exact wpAny_pure h1
 ·refine wpAny_bind (wpAny_mono h1 (fun _ s2 h2=>wpAny_bind (wpAny_mono h2 (fun _ s3 h3=>wpAny_bind (wpAny_mono h3 (fun ok s4 h4=>?_) fun _ _ z=>z.elim)) fun _ _ z=>z.elim)) fun _ _ z=>z.elim)
  cases ok with
  | false=>exact wpAny_pure ⟨rfl,h4⟩
  | true=>exact wpAny_bind (wpAny_bind (wpAny_mono h4 (fun x s5 h5=>wpAny_bind (wpAny_mono h5 (fun _ s6 h6=>wpAny_pure (wpAny_pure ⟨rfl,h6⟩)) fun _ _ z=>z.elim)) fun _ _ z=>z.elim))
end
theorem HOk.but {P:Program} {w:World} {H:Hp} {h h':Heap} {C:Addr} (x:HOk P w H h) (hC:H C=none) (k:∀ b o,b≠C→h.get? b=some o→h'.get? b=some o):HOk P w H h':=fun b u e=>by
 have nit:∀ c v,H c=some v→c≠C:=fun c v q z=>by rw [z,hC] at q; cases q
 refine (x b u e).stay (fun c v hc q=>k c v ?_ q) (fun _ q=>q) fun _ _ q=>q
 rcases hc with z | z
 ·rw [z]; exact nit b u e
 ·exact nit c _ z
noncomputable def x5i (frs:St) (g:TG) (tt:TT) (te:TE) (Q:VK) (J:It) (H1:Hp):Prop:=∀ D,H1 D=none →
 ∃ W:Nat→Nat→List V→St→Hp→Prop,(∃ m,W 0 m [] frs (upd H1 D (.lst []))) ∧
  ∀ i m ys σ' H',W i m ys σ' H'→H' D=some (.lst ys) →
   (J.stop i H'∧Q (.ref D) H') ∨
   (J.go i H'∧ys.length < sizeLine∧∀ x H2,J.yld i H' x H2→g x σ' H2 fun σ3 H3=>tt σ3 H3 fun b H4 =>
    if b=true then te σ3 H4 fun v H5=>H5 D=some (.lst ys)∧∃ m',m' < m∧W (i+1) m' (ys++[v]) σ3 (upd H5 D (.lst (ys++[v])))
    else H4 D=some (.lst ys)∧∃ m',m' < m∧W (i+1) m' ys σ3 H4)
noncomputable def z9i (n:Nat) (fr:List Nat) (wi:TI) (g:TG) (tt:TT) (te:TE):TE:=fun σ H Q=>wi σ H (x5i (List.replicate n none++fr.map fun k=>(σ[k]?).join) g tt te Q)
section
variable {X:Cx} {elt tg iter:Expr} {ifs:List Expr} {scope:Scope} {pos:Pos} {NB:List Str} {n:Nat} {fr:List Nat} {wi:TI} {g:TG} {tt:TT} {te:TE}
structure CompOk (X:Cx) (scope:Scope) (NB:List Str) (n:Nat) (fr:List Nat):Prop where
 kind:scope.kind=.function
 nocell:∀ y∈scope.names,y.2≠.cell
 names:∀ y∈scope.names,y.2=.local→scope.names.lookup y.1=some .local
 free:∀ y∈scope.names,y.2=.free→X.env.kindOf y.1=some .cell∨X.env.kindOf y.1=some .free
 len:NB.length=n+fr.length
 own:∀ (j k:Nat),fr[j]? = some k→∃ x,NB[n+j]? = some x∧X.N[k]? = some x∧scope.names.lookup x=some .free
theorem j3i {pins:List (Addr × Obj)} {σ:St} {H:Hp} {s:Shared} {fp:List Addr} {C:Addr} (O:CompOk X scope NB n fr) (I:Inv X pins σ H s) (hf:∀ b∈fp,z4f X pins H b) (hfl:∀ b∈fp,b < s.heap.objs.size) (hC:s.heap.objs.size≤C) :
  (cxB X NB scope (clo X.env.cells scope.names []) C fp s H).Ok where
 mod:=I.ok.mod
 kind:=O.kind
 glob:=I.ok.glob
 blt:=I.ok.blt
 above:=hC
 inj:=fun x y c h1 h2=>by
  have e1:=(x1b scope.names [] h1).resolve_right (by intro z; cases z)
  have e2:=(x1b scope.names [] h2).resolve_right (by intro z; cases z)
  exact I.ok.inj x y c e1 e2
 has:=fun x hx=>by
  have hx':(relabel scope X.env).names.lookup x=some .cell∨(relabel scope X.env).names.lookup x=some .free:=hx
  have hfree:scope.names.lookup x=some .free:=by
   have r:=@j2w X.env x scope.names
   rcases r with r | r
   ·have hx2:scope.names.lookup x=some .cell∨scope.names.lookup x=some .free:=by rw [← r]; exact hx'
    rcases hx2 with e | e
    ·exact absurd rfl (O.nocell _ (q6w e))
    ·exact e
   ·exact r.1
  have hm:=q6w hfree
  obtain⟨c,hc⟩:=I.ok.has x (O.free _ hm rfl)
  exact⟨c,z0d hc scope.names [] (.inl hm)⟩
 cab:=fun x c h=>nomatch h
 hd:=fun h=>I.ok.hd h
 frames:=I.ok.frames
 stk:=.inl rfl
 exf:=fun b hb=>⟨Nat.ne_of_lt (Nat.lt_of_lt_of_le (hfl b hb) hC),fun x c h=>by
  have e1:=(x1b scope.names [] h).resolve_right (by intro z; cases z)
  exact (hf b hb).2.2.2.2.1 x c e1⟩
 bs:=I.bs
 bsz:=Nat.le_trans I.ok.bsz I.sz
 noex:=fun b o e hb=>by
  rcases (hf b hb).2.2.2.1 with z | z
  ·exact I.ok.noex b o e z
  ·exact absurd (Nat.lt_of_lt_of_le (Heap.lt_size e) (Nat.le_trans I.ok.bsz z)) (Nat.lt_irrefl _)
 exfs:=fun b hb z=>by
  rcases List.mem_cons.mp (I.stkSub b z) with e | e
  ·exact (hf b hb).2.1 e
  ·exact (hf b hb).2.2.1 e
 funs:=I.stack
 frf:=I.stkFree
theorem Inv.but {pins:List (Addr × Obj)} {σ:St} {H:Hp} {s:Shared} {C:Addr} {h':Heap} (I:Inv X pins σ H s) (hC:X.s₀.heap.objs.size≤C) (hH:H C=none) (hL:C≠X.env.locals) (hcl:∀ x c,X.env.cells.lookup x=some c→c≠C) (hpn:∀ p∈X.pn++pins,p.1≠C) (sb:Heap.SameBut C s.heap h') :
  Inv X pins σ H { s with heap:=h' }:=by
 refine I.call' (s':={ s with heap:=h' }) (ch:=[C]) rfl ?_ (HOk.but I.hok hH fun b o hb e=>sb.extBut b o hb e) I.bare (fun b hb=>?_)
 ·have ne:∀ {b:Addr},b∉[C]→b≠C:=fun {b} h z=>h (by rw [z]; exact List.mem_cons_self)
  exact⟨fun b o e _ _ hx=>sb.extBut b o (ne hx) e,fun b o e _ _ hx=>⟨o.slots,sb.extBut b o (ne hx) e⟩,fun _ _ _ n _=>n,fun b o e hx=>⟨o,sb.extBut b o (ne hx) e⟩,fun _ _ q=>q,fun _ _ _ q=>q,fun _ ps q=>⟨#[],by rw [q]; simp⟩⟩
 ·have e:b=C:=by simpa using hb
  subst e
  exact⟨.inr hC,hL,hcl,hpn⟩
theorem x4n {use:Option (Value→Sem Unit)} {QQ:Value→Shared→Prop} {pins:List (Addr × Obj)} {s:Shared} {σ:St} {H:Hp} {Q:VK} {pos2:Pos} (O:CompOk X scope NB n fr) (hc:X.calm=true) (hi:PI X tg iter wi)
  (hg:∀ cl C fp s H,PG (cxB X NB scope cl C fp s H) tg g) (ht:∀ cl C fp s H,j0n (cxB X NB scope cl C fp s H) ifs tt) (he:∀ cl C fp s H,PE (cxB X NB scope cl C fp s H) elt te)
  (hs:∀ x,foldedSetIterable iter X.env x=pure x) (I:Inv X pins σ H s) (h:z9i n fr wi g tt te σ H Q)
  (fin0:∀ (D C:Addr) (H':Hp) (s':Shared) (m:Str→Option Value),s'.heap.Ns C m→Inv X pins σ H' s'→X.s₀.heap.objs.size≤C→H' C=none→C≠X.env.locals→(∀ x c,X.env.cells.lookup x=some c→c≠C)→(∀ p∈X.pn++pins,p.1≠C)→Q (.ref D) H' →
   compPost (model X.prog X.w) X.A X.xe use QQ (.ref D) C (.ok .next) s') :
  wpAny (model X.prog X.w) X.A (comprehension (.ListComp elt [⟨tg,iter,ifs,0⟩] scope pos) scope X.env pos2 (newList []) false (eval iter X.env) use) QQ X.xe s:=by
 have hcl:closureFor scope X.env=pure (clo X.env.cells scope.names []):=j0h fun p hp hk=>I.ok.has p.1 (O.free p hp hk)
 refine wpAny_comprehension_free (use:=use) rfl hs hcl O.kind O.names (thn (hi pins s σ H _ I h) fun v s1 h1=>thn h1 fun itv s2 h2=>?_)
 obtain⟨it,fp,tn,J,H2,e,I2,T,st2,f2,R⟩:=h2
 subst e
 have fpl:∀ b∈fp,b < s2.heap.objs.size:=fun b hb=>by
  obtain⟨o,ho,_⟩:=T.obj 0 _ st2 b hb
  exact Heap.lt_size ho
 refine wpAny_newObj_type (wpAny_newFunctionEnv O.nocell (fun y hy=>absurd hy (by simp)) (fun h1 ns1 sb1=>?_) O.kind)
 dsimp only at ns1 sb1 ⊢
 generalize hD2:s2.heap.push { cls:=.type "list",dict:=none,data:=.seq ([]:List Value).toArray }=hp2 at ns1 sb1 ⊢
 have zC:hp2.objs.size=s2.heap.objs.size+1:=by rw [← hD2,Heap.size_push]
 have kept:∀ b o,s2.heap.get? b=some o→h1.get? b=some o:=fun b o q=>by
  have lt:=Heap.lt_size q
  refine sb1.extBut b o (by rw [zC]; exact Nat.ne_of_lt (Nat.lt_succ_of_lt lt)) (Heap.get?_push_of_some _ ?_)
  rw [← hD2]
  exact Heap.get?_push_of_some _ q
 have gD:h1.get? s2.heap.objs.size=some { cls:=.type "list",data:=.seq ([]:List Value).toArray 0 }:=by
  refine sb1.extBut _ _ (by rw [zC]; exact Nat.ne_of_lt (Nat.lt_succ_self _)) (Heap.get?_push_of_some _ ?_)
  rw [← hD2]
  exact Heap.get?_push_size _ rfl
 generalize hD:s2.heap.objs.size=D at *
 have fD:H2 D=none:=I2.hok.fresh (Nat.le_of_eq hD)
 have fC:H2 hp2.objs.size=none:=I2.hok.fresh (by rw [hD,zC]; exact Nat.le_succ _)
 have nCD:hp2.objs.size≠D:=by rw [zC]; exact Nat.succ_ne_self _
 have hCle:s2.heap.objs.size≤hp2.objs.size:=by rw [hD,zC]; exact Nat.le_succ _
 have ok:=j3i (C:=hp2.objs.size) O I2 f2 (fun b hb=>by rw [hD]; exact fpl b hb) hCle
 obtain⟨W,⟨m0,w0⟩,turn⟩:=R D fD
 generalize hY:cxB X NB scope (clo X.env.cells scope.names []) hp2.objs.size fp s2 H2=Y at ok
 have eY:Y.env=compEnvC scope (clo X.env.cells scope.names []) hp2.objs.size X.env:=by rw [← hY]; rfl
 have I0:Inv Y [] (List.replicate n none++fr.map fun k=>(σ[k]?).join) (upd H2 D (.lst [])) { s2 with heap:=h1,toks:=s2.toks+([]:List (Str × Value)).length }:=by
  subst hY
  refine⟨ok,rfl,I2.bare,Un.laid kept (Nat.le_of_eq hD) fD,⟨_,ns1,fun i x v e1 e2 e3=>?_⟩,fun x c h=>?_,?_,fun x c h=>?_,fun p hp=>absurd (show p∈([]:List (Addr × Obj)) from hp) (by simp),?_,?_⟩
  ·have hin:n≤i:=by
    refine Nat.le_of_not_lt fun z=>?_
    rw [List.getElem?_append_left (by simpa using z),List.getElem?_replicate] at e2
    split at e2 <;> cases e2
   obtain⟨j,rfl⟩:=Nat.exists_eq_add_of_le hin
   rw [List.getElem?_append_right (by simp)] at e2
   simp only [List.length_replicate,Nat.add_sub_cancel_left,List.getElem?_map] at e2
   cases hk:fr[j]? with
   | none=>rw [hk] at e2; cases e2
   | some k =>
    rw [hk] at e2
    obtain⟨x',n1,n2,n3⟩:=O.own j k hk
    have e1':NB[n+j]? = some x:=e1
    rw [n1] at e1'
    cases e1'
    have e4:(σ[k]?).join=some v:=Option.some.inj e2
    have e5:σ[k]? = some (some v):=by
     cases q:σ[k]? with
     | none=>rw [q] at e4; cases e4
     | some z=>rw [q] at e4; exact congrArg some e4
    have hm:=q6w n3
    have kd:=O.free _ hm rfl
    obtain⟨m,hn,hl⟩:=I2.loc
    obtain⟨u,ru,lk⟩:=hl k x v n2 e5 (by rcases kd with z | z; exact .inr (.inl z); exact .inr (.inr z))
    refine⟨u,ru,.inr ⟨?_,?_⟩⟩
    ·show (relabel scope X.env).names.lookup x=some .cell∨(relabel scope X.env).names.lookup x=some .free
     rcases @j2w X.env x scope.names with r | r
     ·exact .inr (Eq.trans r n3)
     ·exact .inl r.2
    ·rcases lk with ⟨z,_⟩ | ⟨_,c,hc1,hc2⟩
     ·rcases kd with q | q <;> (rw [z] at q; cases q)
     ·refine⟨c,z0d hc1 scope.names [] (.inl hm),?_⟩
      obtain⟨o,ho,hd⟩:=hc2
      exact⟨o,kept c o ho,hd⟩
  ·have e1:=(x1b scope.names [] (show (clo X.env.cells scope.names []).lookup x=some c from h)).resolve_right (by intro z; cases z)
   obtain⟨v,o,ho,hd⟩:=I2.cell x c e1
   exact⟨v,o,kept c o ho,hd⟩
  ·show upd H2 D (.lst []) hp2.objs.size=none
   rw [q1c nCD]; exact fC
  ·have e1:=(x1b scope.names [] (show (clo X.env.cells scope.names []).lookup x=some c from h)).resolve_right (by intro z; cases z)
   obtain⟨v,o,ho,hd⟩:=I2.cell x c e1
   rw [q1c (by rw [← hD]; exact Nat.ne_of_lt (Heap.lt_size ho))]
   exact I2.freeC x c e1
  ·exact I2.hok.laid kept (Nat.le_of_eq hD) ⟨by simp,[],0,.nil,gD⟩
  ·show _=NB.length
   rw [O.len]; simp
 have fY:∀ {H':Hp},(∀ b∈fp,H' b=none)→∀ b∈fp,z4f Y [] H' b:=fun {H'} hn b hb=>by
  subst hY
  refine⟨hn b hb,(ok.exf b hb).1,ok.exfs b hb,.inl hb,fun x c z=>(ok.exf b hb).2 x c z,fun p hp=>absurd (show p∈([]:List (Addr × Obj)) from hp) (by simp)⟩
 have pY:Y.prog=X.prog∧Y.w=X.w∧Y.K=X.K∧Y.A=X.A∧Y.calm=true∧Y.xe=fun _ _=>False:=by subst hY; exact⟨rfl,rfl,rfl,rfl,hc,rfl⟩
 obtain⟨p1,p2,p3,p4,p5,p6⟩:=pY
 have fin:∀ {σ':St} {H':Hp} {s':Shared},Inv Y [] σ' H' s'→Q (.ref D) H'→compPost (model X.prog X.w) X.A X.xe use QQ (.ref D) hp2.objs.size (.ok .next) s':=fun {σ' H' s'} J' q=>by
  subst hY
  obtain⟨m,hn,_⟩:=J'.loc
  have fr':H' hp2.objs.size=none:=J'.free
  have neC:∀ b o,s2.heap.get? b=some o→b≠hp2.objs.size:=fun b o e=>Nat.ne_of_lt (Nat.lt_of_lt_of_le (Heap.lt_size e) hCle)
  have J:Inv X pins σ H' s':=I2.call' (s':=s') J'.os J'.base J'.hok J'.bare fun b hb=>by
   obtain⟨_,a2,_,a4,a5,a6⟩:=f2 b hb
   exact⟨a4,a2,a5,a6⟩
  refine fin0 D _ H' s' m hn J (Nat.le_trans I2.sz hCle) fr' (Ne.symm (Nat.ne_of_lt (Nat.lt_of_lt_of_le I2.lt hCle))) (fun x c e=>?_) (fun p hp=>?_) q
  ·obtain⟨v,o,ho,_⟩:=I2.cell x c e
   exact neC c o ho
  ·exact neC _ _ (I2.pin p hp).1
 have st0:tn 0 h1:=T.keep 0 _ _ st2 fun b hb o q=>kept b o q
 have fp0:∀ b∈fp,upd H2 D (.lst []) b=none:=fun b hb=>by
  rw [q1c (Nat.ne_of_lt (fpl b hb))]; exact (f2 b hb).1
 have loop:∀ s3:Shared,s3={ s2 with heap:=h1,toks:=s2.toks+([]:List (Str × Value)).length } →
   codeAny (model X.prog X.w) X.A (.compLoop (.ListComp elt [⟨tg,iter,ifs,0⟩] scope pos) 0 (.ref it) (.ref D) (compEnvC scope (clo X.env.cells scope.names []) hp2.objs.size X.env))
    (compPost (model X.prog X.w) X.A X.xe use QQ (.ref D) hp2.objs.size) s3:=by
  rintro s3 rfl
  refine z3n (fun k s'=>∃ i ys σ' H',Inv Y [] σ' H' s'∧tn i s'.heap∧(∀ b∈fp,H' b=none)∧H' D=some (.lst ys)∧W i k ys σ' H') ?_ m0 ⟨0,[],_,_,I0,st0,fp0,q0b,w0⟩
  rintro k s4 ⟨i,ys,σ4,H4,I4,t4,fr4,d4,w4⟩
  have hgY:PG Y tg g:=by subst hY; exact hg _ _ _ _ _
  have htY:j0n Y ifs tt:=by subst hY; exact ht _ _ _ _ _
  have heY:PE Y elt te:=by subst hY; exact he _ _ _ _ _
  rcases turn i k ys σ4 H4 w4 d4 with ⟨stop,q⟩ | ⟨go,hlen,step⟩
  ·have z:=T.done Y p1 p2 p3 p5 i [] s4 σ4 H4 (fun _ _=>False) I4 (fY fr4) t4 stop
   rw [p4] at z
   exact thn z fun r s5 ⟨hr,I5⟩=>.inl ⟨hr,fin I5 q⟩
  ·have z:=T.item Y p1 p2 p3 p5 i [] s4 σ4 H4 (fun _ _=>False) I4 (fY fr4) t4 go
   rw [p4] at z
   refine thn z fun r s5 ⟨u,hr,h5⟩=>.inr ⟨u,hr,thn h5 fun _ s6 ⟨x,H6,I6,r6,y6,t6,fr6⟩=>?_⟩
   have I6':=I6.pinned (fY fr6) (T.obj _ _ t6)
   have back:∀ {σ7:St} {H7:Hp} {s7:Shared},Inv Y ([]++x4q fp s6.heap) σ7 H7 s7→Inv Y [] σ7 H7 s7∧tn (i+1) s7.heap∧∀ b∈fp,H7 b=none:=fun {σ7 H7 s7} I7=>by
    refine⟨I7.unpinned,T.keep _ _ _ t6 fun b hb o e=>(I7.pin (b,o) (List.mem_append_right _ (List.mem_append_right _ (q7b hb e)))).1,fun b hb=>?_⟩
    obtain⟨o,e,_⟩:=T.obj _ _ t6 b hb
    exact (I7.pin (b,o) (List.mem_append_right _ (List.mem_append_right _ (q7b hb e)))).2.1
   have a7:=hgY _ s6 σ4 H6 x u _ I6' r6 (step x H6 y6)
   rw [p1,p2,p4,p6,eY] at a7
   refine thn a7 fun _ s7 ⟨σ7,H7,I7,q7⟩=>?_
   have a8:=htY _ s7 σ7 H7 _ I7 q7
   rw [p1,p2,p4,p6,eY] at a8
   refine thn a8 fun b s8 ⟨H8,I8,q8⟩=>?_
   cases b with
   | false =>
    obtain⟨d8,m',hm,w8⟩:=q8
    rw [if_neg Bool.false_ne_true]
    obtain⟨b1,b2,b3⟩:=back I8
    exact⟨m',hm,i+1,ys,σ7,H8,b1,b2,b3,d8,w8⟩
   | true =>
    rw [if_pos rfl]
    have a9:=heY _ s8 σ7 H8 _ I8 q8
    rw [p1,p2,p4,p6,eY] at a9
    refine thn a9 fun uv s9 ⟨v,H9,I9,r9,d9,m',hm,w9⟩=>?_
    have a10:=q8h (X:=Y) _ s9 σ7 H9 (.ref D) [v] (.ref D) [uv] (fun x H'=>H'=upd H9 D (.lst (ys++[v]))) I9 rfl (.cons r9 .nil) ⟨D,ys,v,rfl,rfl,d9,hlen,rfl⟩
    rw [p1,p2,p4,p6] at a10
    refine thn a10 fun _ s10 ⟨_,H10,I10,_,e10⟩=>?_
    subst e10
    obtain⟨b1,b2,b3⟩:=back I10
    exact⟨m',hm,i+1,_,σ7,_,b1,b2,b3,q0b,w9⟩
 refine codeAny_compStart_list (loop _ rfl) ?_
 exact T.self _ 0 _ _ _ st0 (loop _ rfl)
theorem q6r (O:CompOk X scope NB n fr) (hc:X.calm=true) (hi:PI X tg iter wi)
  (hg:∀ cl C fp s H,PG (cxB X NB scope cl C fp s H) tg g) (ht:∀ cl C fp s H,j0n (cxB X NB scope cl C fp s H) ifs tt) (he:∀ cl C fp s H,PE (cxB X NB scope cl C fp s H) elt te)
  (hs:∀ x,foldedSetIterable iter X.env x=pure x:=by intro _; rfl):PE X (.ListComp elt [⟨tg,iter,ifs,0⟩] scope pos) (z9i n fr wi g tt te):=by
 intro pins s σ H Q I h
 rw [eval_ListComp]
 exact x4n (QQ:=EP X pins σ Q) O hc hi hg ht he hs I h fun D C H' s' m hn J h1 h2 h3 h4 h5 q=>⟨m,hn,fun h' sb=>⟨.ref D,H',J.but h1 h2 h3 h4 h5 sb,rfl,q⟩⟩
theorem x2s {i:Nat} {x:Str} {py spos:Pos} (hN:X.N.Nodup) (hi1:X.N[i]? = some x) (hx:Loc X.env.scope x) (O:CompOk X scope NB n fr) (hc:X.calm=true) (hi:PI X tg iter wi)
  (hg:∀ cl C fp s H,PG (cxB X NB scope cl C fp s H) tg g) (ht:∀ cl C fp s H,j0n (cxB X NB scope cl C fp s H) ifs tt) (he:∀ cl C fp s H,PE (cxB X NB scope cl C fp s H) elt te)
  (hs:∀ x,foldedSetIterable iter X.env x=pure x:=by intro _; rfl) (hsw:swapsWith (.ListComp elt [⟨tg,iter,ifs,0⟩] scope pos) (some (.Name x py)) spos.line X.env=pure true:=by rfl)
  (hf:X.fn x=true∨X.env.scope.names.lookup x=some .local:=by first | exact .inl rfl | exact .inr rfl | assumption) :
  PS X (.Assign [.Name x py] (.ListComp elt [⟨tg,iter,ifs,0⟩] scope pos) spos) (j3z (z9i n fr wi g tt te) (q9s i)):=by
 intro pins s σ H D I h
 rw [exec_Assign_Name_used _ _ _ _ hsw]
 refine wpAny_bind (wpAny_standAt (wpAny_bind ?_))
 show wpAny _ X.A (do let _←comprehension (.ListComp elt [⟨tg,iter,ifs,0⟩] scope pos) scope X.env _ (newList []) false (eval iter X.env) (some (assign (.Name x py) X.env))) _ _ s
 refine wpAny_bind (wpAny_mono (x4n (QQ:=fun _ s'=>SP X pins D .next s') (use:=some (assign (.Name x py) X.env)) O hc hi hg ht he hs I h fun D1 C H' s' m hn J h1 h2 h3 h4 h5 q=>?_) (fun _ s' hq=>wpAny_pure (wpAny_pure hq)) fun _ _ e=>e)
 show wpAny _ X.A (assign (.Name x py) X.env (.ref D1)) _ _ _
 refine wpAny_assign_Name (x5c (v:=.ref D1) J hN hi1 hx rfl (fun s2 J2 ⟨a,sb,ha⟩=>?_) hf)
 refine⟨m,hn.sameBut sb ?_,fun h' sb2=>⟨_,H',J2.but h1 h2 h3 h4 h5 sb2,q⟩⟩
 rcases ha with e | e
 ·rw [e]; exact h3
 ·exact Ne.symm (h4 _ _ e)
end
noncomputable def Src (t:Bool) (h:Heap) (it l:Addr) (xs:Array Value) (k:Nat):Prop:=match t with
 | true=>h.IsTupleIter it l k∧h.IsTuple l xs
 | false=>h.IsListIter it l k∧h.IsList l xs
theorem Src.keep {t:Bool} {h h':Heap} {it l:Addr} {xs:Array Value} {k:Nat} (x:Src t h it l xs k) (a:∀ o,h.get? it=some o→h'.get? it=some o) (b:∀ o,h.get? l=some o→h'.get? l=some o):Src t h' it l xs k:=by
 cases t with
 | true=>obtain⟨⟨o,h1,r1⟩,⟨o2,h2,r2⟩⟩:=x; exact⟨⟨o,a o h1,r1⟩,⟨o2,b o2 h2,r2⟩⟩
 | false=>obtain⟨⟨o,h1,r1⟩,⟨o2,h2,r2⟩⟩:=x; exact⟨⟨o,a o h1,r1⟩,⟨o2,b o2 h2,r2⟩⟩
section
variable {prog:Program} {w:World} {A:Around} {E:Value→Shared→Prop} {st:Shared}
theorem z5n {it l:Addr} {i:Nat} {its:Array Value} {x:Value} {Q:Value→Shared→Prop} (hit:st.heap.IsTupleIter it l i) (hl:st.heap.IsTuple l its) (hx:its[i]? = some x)
  (hQ:∀ h',h'.IsTupleIter it l (i+1)→Heap.SameBut it st.heap h'→Q x { st with heap:=h' }):wpAny (model prog w) A (Builtin.SmallTypes.nextOf (.ref it)) Q E st:=by
 obtain⟨o,ho,hc,hd⟩:=id hit
 obtain⟨o2,ho2,_,n2,hd2⟩:=hl
 unfold Builtin.SmallTypes.nextOf
 refine wpAny_bind (wpAny_callSpecial?_slot (name:=Str.ofString "__next__") hit.typeIs F.slot_tuple_iterator_next (wpAny_call_entry F.slot_tuple_iterator_next hit.typeIs F.entry_tuple_iterator_next ?_ (F.args_tuple_iterator_next_1 _)))
 show wpAny _ A.in1 (field (.ref it) 0 >>= _) _ _ st
 refine wpAny_bind (wpAny_field ho hd (x:=.ref l) rfl ?_)
 show wpAny _ A.in1 (if (Value.ref l==Value.none)=true then _ else _) _ _ st
 rw [if_neg (fun z:(Value.ref l==Value.none)=true=>Bool.false_ne_true z)]
 show wpAny _ A.in1 (field (.ref it) 1 >>= _) _ _ st
 refine wpAny_bind (wpAny_field (x:=.int i 0) ho hd rfl ?_)
 show wpAny _ A.in1 (seqItems? (.ref l) >>= _) _ _ st
 refine wpAny_bind (wpAny_seqItems ho2 hd2 ?_)
 simp only [Int.toNat_natCast,hx]
 refine wpAny_bind (wpAny_setField ho hd (by simp) (wpAny_pure ⟨x,rfl,wpAny_pure (hQ _ ⟨_,Heap.get?_update_self _ ho (Obj.isFreed_of_fields (Obj.data_mapFields hd _)),(Obj.cls_mapFields ..).trans hc,?_⟩ (Heap.SameBut.update ..))⟩))
 rw [Obj.data_mapFields hd]; simp [rawInt]
theorem x5m {it l:Addr} {i:Nat} {its:Array Value} {Q:Value→Shared→Prop} (hh:A.handled=none) (hit:st.heap.IsTupleIter it l i) (hl:st.heap.IsTuple l its) (hx:its[i]? = none)
  (hE:∀ h' e,Heap.ExtBut it st.heap h'→(∃ o,h'.get? e=some o∧o.cls=.type "StopIteration")→E (.ref e) { st with heap:=h' }):wpAny (model prog w) A (Builtin.SmallTypes.nextOf (.ref it)) Q E st:=by
 obtain⟨o,ho,hc,hd⟩:=id hit
 obtain⟨o2,ho2,_,n2,hd2⟩:=hl
 unfold Builtin.SmallTypes.nextOf
 refine wpAny_bind (wpAny_callSpecial?_slot (name:=Str.ofString "__next__") hit.typeIs F.slot_tuple_iterator_next (wpAny_call_entry F.slot_tuple_iterator_next hit.typeIs F.entry_tuple_iterator_next ?_ (F.args_tuple_iterator_next_1 _)))
 show wpAny _ A.in1 (field (.ref it) 0 >>= _) _ _ st
 refine wpAny_bind (wpAny_field ho hd (x:=.ref l) rfl ?_)
 show wpAny _ A.in1 (if (Value.ref l==Value.none)=true then _ else _) _ _ st
 rw [if_neg (fun z:(Value.ref l==Value.none)=true=>Bool.false_ne_true z)]
 show wpAny _ A.in1 (field (.ref it) 1 >>= _) _ _ st
 refine wpAny_bind (wpAny_field (x:=.int i 0) ho hd rfl ?_)
 show wpAny _ A.in1 (seqItems? (.ref l) >>= _) _ _ st
 refine wpAny_bind (wpAny_seqItems ho2 hd2 ?_)
 simp only [Int.toNat_natCast,hx]
 refine wpAny_bind (wpAny_rule (wpAny_bind (wpAny_setField ho hd (by simp) (wpAny_bind ?_))))
 show wpAny _ A.in1 (newExc (.type "StopIteration") []) _ _ _
 simp only [newTuple,newExc]
 refine wpAny_bind (wpAny_newObj_type (wpAny_bind (m:=firstArgMember _ _) (wpAny_of_eq (a:=Value.none) (by first | rfl | (simp only [firstArgMember]; rfl)) (wpAny_newObj_type ?_ (by size_fits)))) (by size_fits))
 simp only [raiseNew]
 refine wpAny_bind (wpAny_handled ?_)
 first | rw [hh] | rw [show A.in1.handled=none from hh]
 exact wpAny_bind (wpAny_pure (wpAny_throw (hE _ _ (((Heap.SameBut.update ..).extBut.push _).push _) ⟨_,Heap.get?_push_size _ rfl,rfl⟩)))
theorem Src.draw {t:Bool} {it l:Addr} {i:Nat} {its:Array Value} {x:Value} {Q:Value→Shared→Prop} (S:Src t st.heap it l its i) (hne:l≠it) (hx:its[i]? = some x)
  (hQ:∀ h',Src t h' it l its (i+1)→Heap.SameBut it st.heap h'→Q x { st with heap:=h' }):wpAny (model prog w) A (Builtin.SmallTypes.nextOf (.ref it)) Q E st:=by
 cases t with
 | true=>exact z5n S.1 S.2 hx fun h' a b=>hQ h' ⟨a,S.2.extBut b.extBut hne⟩ b
 | false=>exact wpAny_nextOf_list_item S.1 S.2 hx fun h' a b=>hQ h' ⟨a,S.2.extBut b.extBut hne⟩ b
theorem Src.none {t:Bool} {it l:Addr} {i:Nat} {its:Array Value} {Q:Value→Shared→Prop} (hh:A.handled=none) (S:Src t st.heap it l its i) (hx:its[i]? = none)
  (hE:∀ h' e,Heap.ExtBut it st.heap h'→(∃ o,h'.get? e=some o∧o.cls=.type "StopIteration")→E (.ref e) { st with heap:=h' }):wpAny (model prog w) A (Builtin.SmallTypes.nextOf (.ref it)) Q E st:=by
 cases t with
 | true=>exact x5m hh S.1 S.2 hx hE
 | false=>exact wpAny_nextOf_list_end hh S.1 S.2 hx hE
structure Apart (z TI TO i1 i2 l1 l2:Addr):Prop where
 a:TI≠z∧TO≠z∧i1≠z∧i2≠z
 b:TI≠TO∧TI≠i1∧TI≠i2∧TO≠i1∧TO≠i2∧i1≠i2
 c:l1≠z∧l1≠TO∧l1≠i1∧l1≠i2
 d:l2≠z∧l2≠TO∧l2≠i1∧l2≠i2
theorem z4p {z TI TO i1 i2 l1 l2:Addr} {t1 t2:Bool} {k:Nat} {xs ys:Array Value} {x y a b:Value} {Q:Value→Shared→Prop} (D:Apart z TI TO i1 i2 l1 l2)
  (hz:IsZip st.heap z TI TO .none) (hTI:IsPair st.heap TI (.ref i1) (.ref i2)) (hTO:IsPair st.heap TO a b)
  (h1:Src t1 st.heap i1 l1 xs k) (h2:Src t2 st.heap i2 l2 ys k) (hx:xs[k]? = some x) (hy:ys[k]? = some y)
  (hQ:∀ h',IsZip h' z TI TO (rawInt st.heap.objs.size)→IsPair h' TO x y→Src t1 h' i1 l1 xs (k+1)→Src t2 h' i2 l2 ys (k+1)→IsPair h' st.heap.objs.size x y →
   (∀ c o,c≠z→c≠TO→c≠i1→c≠i2→st.heap.get? c=some o→h'.get? c=some o)→Q (.ref st.heap.objs.size) { st with heap:=h' }) :
  wpAny (model prog w) A (Builtin.«zip.__next__» ⟨[.ref z],[]⟩) (fun fin s'=>∃ v,fin=.done (.ret v)∧Q v s') E st:=by
 obtain⟨⟨d1,d2,d3,d4⟩,⟨d5,d6,d7,d8,d9,d10⟩,⟨d11,d12,d13,d14⟩,⟨d15,d16,d17,d18⟩⟩:=D
 show wpAny _ A (field (.ref z) 2 >>= _) _ _ st
 refine wpAny_bind (wpAny_field (x:=.bool false) hz rfl rfl ?_)
 show wpAny _ A (field (.ref z) 3 >>= _) _ _ st
 refine wpAny_bind (wpAny_field (x:=.ref TI) hz rfl rfl (wpAny_bind (wpAny_seqItems hTI rfl ?_)))
 show wpAny _ A (Builtin.SmallTypes.ownedTupleIsFree (.ref z) >>= _) _ _ st
 refine wpAny_bind ?_
 unfold Builtin.SmallTypes.ownedTupleIsFree
 refine wpAny_bind (wpAny_field (x:=.none) hz rfl rfl (wpAny_pure ?_))
 simp only [if_true]
 refine wpAny_bind (wpAny_rule (wpAny_bind (wpAny_field (x:=.ref TO) hz rfl rfl (wpAny_bind (wpAny_setField_rec hz (by simp) fun g1 z1 b1=>?_)))))
 replace z1:IsZip g1 z TI TO .ellipsis:=z1
 refine wpAny_bind ?_
 simp only [List.zipIdx_nil,List.zipIdx_cons,List.forIn_nil,List.forIn_cons]
 refine wpAny_bind (wpAny_bind (wpAny_onRaise ?_))
 show wpAny _ A (Builtin.SmallTypes.nextOf (.ref i1) >>= _) _ _ _
 have s1:Src t1 g1 i1 l1 xs k:=h1.keep (fun o e=>b1.extBut _ o d3 e) (fun o e=>b1.extBut _ o d11 e)
 refine wpAny_bind (Src.draw (st:={ st with heap:=g1 }) s1 d13 hx fun g2 s2 b2=>wpAny_pure ?_)
 have p2:IsPair g2 TO a b:=b2.extBut _ _ d8 (b1.extBut _ _ d2 hTO)
 refine wpAny_bind (wpAny_seqItems p2 rfl (wpAny_bind (wpAny_updateSeq_pair p2 fun g3 p3 b3=>?_)))
 replace p3:IsPair g3 TO x b:=p3
 refine wpAny_bind (wpAny_letGo (wpAny_pure ?_))
 refine wpAny_bind (wpAny_bind (wpAny_onRaise ?_))
 show wpAny _ A (Builtin.SmallTypes.nextOf (.ref i2) >>= _) _ _ _
 have s3:Src t2 g3 i2 l2 ys k:=h2.keep (fun o e=>b3.extBut _ o d9.symm (b2.extBut _ o d10.symm (b1.extBut _ o d4 e))) (fun o e=>b3.extBut _ o d16 (b2.extBut _ o d17 (b1.extBut _ o d15 e)))
 refine wpAny_bind (Src.draw (st:={ st with heap:=g3 }) s3 d18 hy fun g4 s4 b4=>wpAny_pure ?_)
 have p4:IsPair g4 TO x b:=b4.extBut _ _ d9 p3
 refine wpAny_bind (wpAny_seqItems p4 rfl (wpAny_bind (wpAny_updateSeq_pair p4 fun g5 p5 b5=>?_)))
 replace p5:IsPair g5 TO x y:=p5
 refine wpAny_bind (wpAny_letGo (wpAny_pure (wpAny_pure ?_)))
 refine wpAny_bind (wpAny_seqItems p5 rfl (wpAny_bind (wpAny_newTuple ?_)))
 have sz:g5.objs.size=st.heap.objs.size:=by rw [b5.1,b4.1,b3.1,b2.1,b1.1]
 have z5:IsZip g5 z TI TO .ellipsis:=b5.extBut _ _ d2.symm (b4.extBut _ _ d4.symm (b3.extBut _ _ d2.symm (b2.extBut _ _ d3.symm z1)))
 have kp:∀ c o,c≠z→c≠TO→c≠i1→c≠i2→st.heap.get? c=some o→g5.get? c=some o:=fun c o c1 c2 c3 c4 e=>b5.extBut _ _ c2 (b4.extBut _ _ c4 (b3.extBut _ _ c2 (b2.extBut _ _ c3 (b1.extBut _ _ c1 e))))
 have s5:Src t1 g5 i1 l1 xs (k+1):=s2.keep (fun o e=>b5.extBut _ o d8.symm (b4.extBut _ o d10 (b3.extBut _ o d8.symm e))) (fun o e=>b5.extBut _ o d12 (b4.extBut _ o d14 (b3.extBut _ o d12 e)))
 have r5:Src t2 g5 i2 l2 ys (k+1):=s4.keep (fun o e=>b5.extBut _ o d9.symm e) (fun o e=>b5.extBut _ o d16 e)
 have zlt:z < g5.objs.size:=Heap.lt_size z5
 show wpAny _ A (Builtin.SmallTypes.ownedTupleHandOut (.ref z) (.ref g5.objs.size) >>= _) _ _ _
 refine wpAny_bind ?_
 unfold Builtin.SmallTypes.ownedTupleHandOut
 have z6:IsZip (g5.push { cls:=.type "tuple",data:=.seq #[x,y] }) z TI TO .ellipsis:=Heap.get?_push_of_some _ z5
 refine wpAny_bind (wpAny_setField_rec z6 (by simp) fun g7 z7 b7=>?_)
 replace z7:IsZip g7 z TI TO (rawInt g5.objs.size):=z7
 refine wpAny_setField_rec z7 (by simp) fun g8 z8 b8=>?_
 replace z8:IsZip g8 z TI TO (rawInt g5.objs.size):=z8
 have up:∀ c o,c≠z→g5.get? c=some o→g8.get? c=some o:=fun c o c1 e=>b8.extBut _ _ c1 (b7.extBut _ _ c1 (Heap.get?_push_of_some _ e))
 have t8:IsPair g8 g5.objs.size x y:=b8.extBut _ _ (Nat.ne_of_gt zlt) (b7.extBut _ _ (Nat.ne_of_gt zlt) (Heap.get?_push_size _ rfl))
 rw [sz] at z8 t8
 refine wpAny_pure ⟨_,rfl,?_⟩
 show Q (.ref g5.objs.size) _
 rw [sz]
 exact hQ g8 z8 (up _ _ d2 p5) (s5.keep (fun o e=>up _ o d3 e) fun o e=>up _ o d11 e) (r5.keep (fun o e=>up _ o d4 e) fun o e=>up _ o d15 e) t8 fun c o c1 c2 c3 c4 e=>up c o c1 (kp c o c1 c2 c3 c4 e)
theorem j0a {z TI TO i1 i2 l1 l2:Addr} {t1 t2:Bool} {k:Nat} {xs ys:Array Value} {a b:Value} {Q:Fin→Shared→Prop} (hh:A.handled=none) (D:Apart z TI TO i1 i2 l1 l2)
  (hz:IsZip st.heap z TI TO .none) (hTI:IsPair st.heap TI (.ref i1) (.ref i2)) (hTO:IsPair st.heap TO a b)
  (h1:Src t1 st.heap i1 l1 xs k) (h2:Src t2 st.heap i2 l2 ys k) (hend:xs[k]? = none∨ys[k]? = none)
  (hE:∀ h' e,(∀ c o,c≠z→c≠TO→c≠i1→c≠i2→st.heap.get? c=some o→h'.get? c=some o)→(∃ o,h'.get? e=some o∧o.cls=.type "StopIteration")→E (.ref e) { st with heap:=h' }) :
  wpAny (model prog w) A (Builtin.«zip.__next__» ⟨[.ref z],[]⟩) Q E st:=by
 obtain⟨⟨d1,d2,d3,d4⟩,⟨d5,d6,d7,d8,d9,d10⟩,⟨d11,d12,d13,d14⟩,⟨d15,d16,d17,d18⟩⟩:=D
 show wpAny _ A (field (.ref z) 2 >>= _) _ _ st
 refine wpAny_bind (wpAny_field (x:=.bool false) hz rfl rfl ?_)
 show wpAny _ A (field (.ref z) 3 >>= _) _ _ st
 refine wpAny_bind (wpAny_field (x:=.ref TI) hz rfl rfl (wpAny_bind (wpAny_seqItems hTI rfl ?_)))
 show wpAny _ A (Builtin.SmallTypes.ownedTupleIsFree (.ref z) >>= _) _ _ st
 refine wpAny_bind ?_
 unfold Builtin.SmallTypes.ownedTupleIsFree
 refine wpAny_bind (wpAny_field (x:=.none) hz rfl rfl (wpAny_pure ?_))
 simp only [if_true]
 refine wpAny_bind (wpAny_rule (wpAny_bind (wpAny_field (x:=.ref TO) hz rfl rfl (wpAny_bind (wpAny_setField_rec hz (by simp) fun g1 z1 b1=>?_)))))
 replace z1:IsZip g1 z TI TO .ellipsis:=z1
 refine wpAny_bind ?_
 simp only [List.zipIdx_nil,List.zipIdx_cons,List.forIn_nil,List.forIn_cons]
 refine wpAny_bind (wpAny_bind (wpAny_onRaise ?_))
 show wpAny _ A (Builtin.SmallTypes.nextOf (.ref i1) >>= _) _ _ _
 have s1:Src t1 g1 i1 l1 xs k:=h1.keep (fun o e=>b1.extBut _ o d3 e) (fun o e=>b1.extBut _ o d11 e)
 cases hx:xs[k]? with
 | none =>
  refine wpAny_bind (Src.none (st:={ st with heap:=g1 }) hh s1 hx fun g2 e b2 he=>?_)
  obtain⟨oe,hoe,hce⟩:=he
  have z2:IsZip g2 z TI TO .ellipsis:=b2 _ _ d3.symm z1
  have ez:e≠z:=fun q=>by subst q; rw [z2] at hoe; cases hoe; simp at hce
  refine wpAny_setField_rec z2 (by simp) fun g3 _ b3=>hE g3 e (fun c o c1 _ c3 _ q=>b3.extBut _ _ c1 (b2 _ _ c3 (b1.extBut _ _ c1 q))) ⟨oe,b3.extBut _ _ ez hoe,hce⟩
 | some x =>
  have hy:ys[k]? = none:=by rcases hend with h | h; rw [hx] at h; cases h; exact h
  refine wpAny_bind (Src.draw (st:={ st with heap:=g1 }) s1 d13 hx fun g2 s2 b2=>wpAny_pure ?_)
  have p2:IsPair g2 TO a b:=b2.extBut _ _ d8 (b1.extBut _ _ d2 hTO)
  refine wpAny_bind (wpAny_seqItems p2 rfl (wpAny_bind (wpAny_updateSeq_pair p2 fun g3 p3 b3=>?_)))
  refine wpAny_bind (wpAny_letGo (wpAny_pure ?_))
  refine wpAny_bind (wpAny_bind (wpAny_onRaise ?_))
  show wpAny _ A (Builtin.SmallTypes.nextOf (.ref i2) >>= _) _ _ _
  have s3:Src t2 g3 i2 l2 ys k:=h2.keep (fun o e=>b3.extBut _ o d9.symm (b2.extBut _ o d10.symm (b1.extBut _ o d4 e))) (fun o e=>b3.extBut _ o d16 (b2.extBut _ o d17 (b1.extBut _ o d15 e)))
  refine wpAny_bind (Src.none (st:={ st with heap:=g3 }) hh s3 hy fun g4 e b4 he=>?_)
  obtain⟨oe,hoe,hce⟩:=he
  have z4:IsZip g4 z TI TO .ellipsis:=b4 _ _ d4.symm (b3.extBut _ _ d2.symm (b2.extBut _ _ d3.symm z1))
  have ez:e≠z:=fun q=>by subst q; rw [z4] at hoe; cases hoe; simp at hce
  refine wpAny_setField_rec z4 (by simp) fun g5 _ b5=>hE g5 e (fun c o c1 c2 c3 c4 q=>b5.extBut _ _ c1 (b4 _ _ c4 (b3.extBut _ _ c2 (b2.extBut _ _ c3 (b1.extBut _ _ c1 q))))) ⟨oe,b5.extBut _ _ ez hoe,hce⟩
end
section
noncomputable def SqK (t:Bool) (h:Heap) (l:Addr) (xs:Array Value):Prop:=match t with
 | true=>h.IsTuple l xs
 | false=>h.IsList l xs
noncomputable def z0e (t:Bool) (l:Addr):Obj:={ cls:=.type (if t then "tuple_iterator" else "list_iterator"),data:=.fields #[.ref l,.int 0 0] }
theorem SqK.push {t:Bool} {h:Heap} {l:Addr} {xs:Array Value} (x:SqK t h l xs) (o:Obj):SqK t (h.push o) l xs:=by
 cases t with
 | true=>exact Heap.IsTuple.push x o
 | false=>exact Heap.IsList.push x o
theorem Src.new {t:Bool} {h:Heap} {it l:Addr} {xs:Array Value} (e:h.get? it=some (z0e t l)) (q:SqK t h l xs):Src t h it l xs 0:=by
 cases t with
 | true=>exact⟨⟨_,e,rfl,rfl⟩,q⟩
 | false=>exact⟨⟨_,e,rfl,rfl⟩,q⟩
variable {prog:Program} {w:World} {A:Around} {E:Value→Shared→Prop} {st:Shared}
theorem z3j {t:Bool} {l:Addr} {its:Array Value} {Q:Value→Shared→Prop} (hl:SqK t st.heap l its) (hQ:Q (.ref st.heap.objs.size) { st with heap:=st.heap.push (z0e t l) }):wpAny (model prog w) A (pyIter (.ref l)) Q E st:=by
 cases t with
 | true=>exact wpAny_pyIter_tuple hl hQ
 | false=>exact wpAny_pyIter_list hl hQ
noncomputable abbrev zp1 (h:Heap) (t1:Bool) (l1:Addr):Heap:=h.push (z0e t1 l1)
noncomputable abbrev zp2 (h:Heap) (t1 t2:Bool) (l1 l2:Addr):Heap:=(zp1 h t1 l1).push (z0e t2 l2)
noncomputable abbrev zp3 (h:Heap) (t1 t2:Bool) (l1 l2:Addr):Heap:=(zp2 h t1 t2 l1 l2).push { cls:=.type "tuple",data:=.seq #[.ref h.objs.size,.ref (zp1 h t1 l1).objs.size] }
noncomputable abbrev zp4 (h:Heap) (t1 t2:Bool) (l1 l2:Addr):Heap:=(zp3 h t1 t2 l1 l2).push { cls:=.type "tuple",data:=.seq #[.none,.none] }
noncomputable abbrev zp5 (h:Heap) (t1 t2:Bool) (l1 l2:Addr):Heap:=(zp4 h t1 t2 l1 l2).push { cls:=.type "zip",data:=.fields #[.none,.bool false,.bool false,.ref (zp2 h t1 t2 l1 l2).objs.size,.ref (zp3 h t1 t2 l1 l2).objs.size] }
theorem x8z (t1 t2:Bool) (l1 l2:Addr) (xs ys:Array Value) :
  Meets (Builtin.«zip.__new__» ⟨[.type "zip",.ref l1,.ref l2],[]⟩) (fun _ R s=>SqK t1 s.heap l1 xs∧SqK t2 s.heap l2 ys∧R (.ok (.ret (.ref (zp4 s.heap t1 t2 l1 l2).objs.size))) { s with heap:=zp5 s.heap t1 t2 l1 l2 }) :=
 .of_wp fun prog w A R s h=>by
  obtain⟨hp,g,d,tk,os⟩:=s
  obtain⟨q1,q2,h⟩:=h
  have hsub:=sub_zip
  have r1:SqK t1 (Shared.heap ⟨hp,g,d,tk,os⟩) l1 xs:=q1
  have r2:SqK t2 (Shared.heap ⟨hp.push (z0e t1 l1),g,d,tk,os⟩) l2 ys:=q2.push _
  wp_walk using z3j r1,z3j r2
  exact⟨_,rfl,h⟩
theorem z2m {t1 t2:Bool} {l1 l2:Addr} {xs ys:Array Value} {Q:Value→Shared→Prop} (q1:SqK t1 st.heap l1 xs) (q2:SqK t2 st.heap l2 ys)
  (h:∀ h',IsZip h' (st.heap.objs.size+4) (st.heap.objs.size+2) (st.heap.objs.size+3) .none→IsPair h' (st.heap.objs.size+2) (.ref st.heap.objs.size) (.ref (st.heap.objs.size+1)) →
   IsPair h' (st.heap.objs.size+3) .none .none→Src t1 h' st.heap.objs.size l1 xs 0→Src t2 h' (st.heap.objs.size+1) l2 ys 0 →
   (∀ c o,st.heap.get? c=some o→h'.get? c=some o)→Q (.ref (st.heap.objs.size+4)) { st with heap:=h' }) :
  wpAny (model prog w) A (call (.type "zip") [.ref l1,.ref l2]) Q E st:=by
 refine callType_new F.called_zip (by decide) (F.typeCall_zip_2 _ _) (F.newCall_zip_2 _ _) (fun obj=>F.args_object_init_3 obj _ _) F.entry_zip_new (x8z t1 t2 l1 l2 xs ys) ⟨q1,q2,?_⟩
 have n1:(zp1 st.heap t1 l1).objs.size=st.heap.objs.size+1:=Heap.size_push ..
 have n2:(zp2 st.heap t1 t2 l1 l2).objs.size=st.heap.objs.size+2:=by rw [Heap.size_push,n1]
 have n3:(zp3 st.heap t1 t2 l1 l2).objs.size=st.heap.objs.size+3:=by rw [Heap.size_push,n2]
 have n4:(zp4 st.heap t1 t2 l1 l2).objs.size=st.heap.objs.size+4:=by rw [Heap.size_push,n3]
 have g5:(zp5 st.heap t1 t2 l1 l2).get? (zp4 st.heap t1 t2 l1 l2).objs.size=some _:=Heap.get?_push_size _ rfl
 have g4:(zp5 st.heap t1 t2 l1 l2).get? (zp3 st.heap t1 t2 l1 l2).objs.size=some _:=Heap.get?_push_of_some _ (Heap.get?_push_size _ rfl)
 have g3:(zp5 st.heap t1 t2 l1 l2).get? (zp2 st.heap t1 t2 l1 l2).objs.size=some _:=Heap.get?_push_of_some _ (Heap.get?_push_of_some _ (Heap.get?_push_size _ rfl))
 have g2:(zp5 st.heap t1 t2 l1 l2).get? (zp1 st.heap t1 l1).objs.size=some _:=Heap.get?_push_of_some _ (Heap.get?_push_of_some _ (Heap.get?_push_of_some _ (Heap.get?_push_size _ rfl)))
 have g1:(zp5 st.heap t1 t2 l1 l2).get? st.heap.objs.size=some _:=Heap.get?_push_of_some _ (Heap.get?_push_of_some _ (Heap.get?_push_of_some _ (Heap.get?_push_of_some _ (Heap.get?_push_size _ rfl))))
 show _∧_
 rw [n2,n3,n4] at g5
 rw [n1,n2] at g3
 rw [n3] at g4
 rw [n1] at g2
 rw [n4]
 exact⟨⟨_,g5,rfl⟩,h _ g5 g3 g4 (Src.new g1 ((((q1.push _).push _).push _).push _ |>.push _)) (Src.new g2 ((((q2.push _).push _).push _).push _ |>.push _)) fun c o x =>
  Heap.get?_push_of_some _ (Heap.get?_push_of_some _ (Heap.get?_push_of_some _ (Heap.get?_push_of_some _ (Heap.get?_push_of_some _ x))))⟩
end
noncomputable def SqB (t:Bool) (K:Frag) (H:Hp) (a:Addr) (xs:List V):Prop:=match t with
 | true=>SqT K H a xs
 | false=>SqL K H a xs
section
variable {X:Cx} {pins:List (Addr × Obj)} {σ:St} {H:Hp} {s:Shared}
theorem Inv.sq {t:Bool} {a:Addr} {xs:List V} (I:Inv X pins σ H s) (h:SqB t X.K H a xs):∃ its:List Value,q2i xs its∧SqK t s.heap a its.toArray∧xs.length≤sizeLine:=by
 cases t with
 | true=>obtain⟨its,r,p,z⟩:=I.tuple h; exact⟨its,r,p,z⟩
 | false=>obtain⟨its,r,p,z⟩:=I.list h; exact⟨its,r,p.isList,z⟩
theorem Inv.sq_inj {t:Bool} {a:Addr} {xs ys:List V} (I:Inv X pins σ H s) (h:SqB t X.K H a xs) (h':SqB t X.K H a ys):xs=ys:=by
 cases t with
 | true=>exact I.tuple_inj h h'
 | false=>exact I.list_inj h h'
theorem Inv.sq_ne {t:Bool} {a b:Addr} {xs:List V} (I:Inv X pins σ H s) (h:SqB t X.K H a xs) (f:z4f X pins H b):a≠b:=by
 intro z
 subst z
 obtain⟨f0,_,_,f3,_⟩:=f
 have nob:∀ o,X.base.get? a=some o→False:=fun o e=>by
  rcases f3 with q | q
  ·exact I.ok.noex a o e q
  ·exact absurd (Nat.lt_of_lt_of_le (Heap.lt_size e) (Nat.le_trans I.ok.bsz q)) (Nat.lt_irrefl _)
 cases t with
 | true =>
  rcases (show SqT X.K H a xs from h) with (q | ⟨o,q⟩) | q
  ·rw [f0] at q; cases q
  ·rw [f0] at q; cases q
  ·obtain⟨o,q⟩:=q
   first
    | exact nob _ (I.mod.kin a o q.1)
    | (obtain⟨_,_,q,_⟩:=q; exact nob _ (I.mod.kin a _ q))
    | (obtain⟨_,q,_⟩:=q; exact nob _ (I.mod.kin a _ q))
 | false =>
  rcases (show SqL X.K H a xs from h) with (q | ⟨o,q⟩) | q
  ·rw [f0] at q; cases q
  ·rw [f0] at q; cases q
  ·obtain⟨o,q⟩:=q
   first
    | exact nob _ (I.mod.kin a o q.1)
    | (obtain⟨_,_,q,_⟩:=q; exact nob _ (I.mod.kin a _ q))
    | (obtain⟨_,q,_⟩:=q; exact nob _ (I.mod.kin a _ q))
end
noncomputable def Itz (K:Frag) (t1 t2:Bool) (a b:Addr):It :=
 ⟨fun i H=>∃ xs ys x y,SqB t1 K H a xs∧SqB t2 K H b ys∧xs[i]? = some x∧ys[i]? = some y,
  fun i H v H'=>∃ p x y,v=.ref p∧H p=none∧H'=upd H p (.tup [x,y])∧(∀ xs,SqB t1 K H a xs→xs[i]? = some x)∧∀ ys,SqB t2 K H b ys→ys[i]? = some y,
  fun i H=>∃ xs ys,SqB t1 K H a xs∧SqB t2 K H b ys∧(xs.length≤i∨ys.length≤i)⟩
noncomputable def ItB (t:Bool) (h:Heap) (it l:Addr) (k:Nat):Prop:=match t with
 | true=>h.IsTupleIter it l k
 | false=>h.IsListIter it l k
theorem ItB.src {t:Bool} {h:Heap} {it l:Addr} {k:Nat} {xs:Array Value} (a:ItB t h it l k) (b:SqK t h l xs):Src t h it l xs k:=by cases t <;> exact⟨a,b⟩
theorem Src.it {t:Bool} {h:Heap} {it l:Addr} {k:Nat} {xs:Array Value} (a:Src t h it l xs k):ItB t h it l k:=by cases t <;> exact a.1
theorem ItB.ob {t:Bool} {h:Heap} {it l:Addr} {k:Nat} (a:ItB t h it l k):∃ o,h.get? it=some o∧∀ v,o.data≠.cell v:=by
 cases t <;> (obtain⟨o,e,_,d⟩:=a; exact⟨o,e,fun v z=>by rw [d] at z; cases z⟩)
theorem ItB.keep {t:Bool} {h h':Heap} {it l:Addr} {k:Nat} (a:ItB t h it l k) (e:∀ o,h.get? it=some o→h'.get? it=some o):ItB t h' it l k:=by
 cases t <;> (obtain⟨o,q,r⟩:=a; exact⟨o,e o q,r⟩)
theorem z6e {P:Program} {w:World} {K:Frag} {es:List Expr} {k0:Nat} {tp:Pos} {t1 t2:Bool} {a b z TI TO i1 i2:Addr}
  (D:(TI≠z∧TO≠z∧i1≠z∧i2≠z)∧TI≠TO∧TI≠i1∧TI≠i2∧TO≠i1∧TO≠i2∧i1≠i2) :
  Turn P w K (.Tuple es k0 tp) (Itz K t1 t2 a b) [z,TI,TO,i1,i2] z (fun i h=>IsZip h z TI TO .none∧IsPair h TI (.ref i1) (.ref i2)∧(∃ u v,IsPair h TO u v)∧ItB t1 h i1 a i∧ItB t2 h i2 b i) where
 mem:=by simp
 obj:=fun i h st c hc=>by
  obtain⟨h1,h2,⟨u,v,h3⟩,h4,h5⟩:=st
  simp only [List.mem_cons,List.not_mem_nil,or_false] at hc
  rcases hc with rfl | rfl | rfl | rfl | rfl
  ·exact⟨_,h1,fun v z=>by cases z⟩
  ·exact⟨_,h2,fun v z=>by cases z⟩
  ·exact⟨_,h3,fun v z=>by cases z⟩
  ·exact h4.ob
  ·exact h5.ob
 keep:=fun i h h' st k=>by
  obtain⟨h1,h2,⟨u,v,h3⟩,h4,h5⟩:=st
  exact⟨k z (by simp) _ h1,k TI (by simp) _ h2,⟨u,v,k TO (by simp) _ h3⟩,h4.keep fun o e=>k i1 (by simp) o e,h5.keep fun o e=>k i2 (by simp) o e⟩
 item:=by
  intro X hP hw hK hc i pins s σ H E I hf st hg
  subst hP hw hK
  obtain⟨h1,h2,⟨u,v,h3⟩,h4,h5⟩:=st
  obtain⟨xs,ys,x,y,q1,q2,hx,hy⟩:=hg
  obtain⟨its,r1,p1,_⟩:=I.sq q1
  obtain⟨jts,r2,p2,_⟩:=I.sq q2
  obtain⟨ux,ex,rx⟩:=r1.get hx
  obtain⟨uy,ey,ry⟩:=r2.get hy
  have fz:=hf z (by simp)
  have fTI:=hf TI (by simp)
  have fTO:=hf TO (by simp)
  have f1:=hf i1 (by simp)
  have f2:=hf i2 (by simp)
  have Dd:Apart z TI TO i1 i2 a b:=⟨D.1,D.2,⟨I.sq_ne q1 fz,I.sq_ne q1 fTO,I.sq_ne q1 f1,I.sq_ne q1 f2⟩,⟨I.sq_ne q2 fz,I.sq_ne q2 fTO,I.sq_ne q2 f1,I.sq_ne q2 f2⟩⟩
  have hT:s.TypeIs (.ref z) "zip" := ⟨_,h1,rfl⟩
  unfold pyNext
  refine wpAny_bind (wpAny_attempt (wpAny_callSpecial?_slot (name:=Str.ofString "__next__") hT F.slot_zip_next (wpAny_call_entry F.slot_zip_next hT F.entry_zip_next (z4p Dd h1 h2 h3 (h4.src p1) (h5.src p2) (by simpa using ex) (by simpa using ey) fun h' a1 a2 a3 a4 a5 a6=>wpAny_pure ?_) (F.args_zip_next_1 _))))
  refine⟨_,rfl,wpAny_letOwnedTupleGo_zip a1 fun h2' b1 b2=>?_⟩
  have lt:∀ {c o},s.heap.get? c=some o→s.heap.objs.size≠c:=fun e=>Nat.ne_of_gt (Heap.lt_size e)
  have nz:=lt h1
  have hk:∀ c o,c∉[z,TI,TO,i1,i2]→s.heap.get? c=some o→h2'.get? c=some o:=fun c o hcn e=>by
   simp only [List.mem_cons,List.not_mem_nil,or_false,not_or] at hcn
   exact b2.extBut c o hcn.1 (a6 c o hcn.1 hcn.2.2.1 hcn.2.2.2.1 hcn.2.2.2.2 e)
  have hTI':h2'.get? TI=s.heap.get? TI:=by
   rw [h2]
   exact b2.extBut _ _ D.1.1 (a6 TI _ D.1.1 D.2.1 D.2.2.1 D.2.2.2.1 h2)
  have I1:Inv X pins σ H { s with heap:=h2' }:=by
   refine I.step (g':=s.gens) (d':=s.drawn) (t':=s.toks) (ch:=[z,TI,TO,i1,i2]) (fun c hcm=>?_) (fun c o _ _ hcn e _=>hk c o hcn e) (fun c o _ _ hcn e _=>⟨o.slots,hk c o hcn e⟩) (fun _ _ _ _ n=>n)
    (fun c o hcn e=>⟨o,hk c o hcn e⟩) (fun _ _ e=>e) (fun _ _ _ e=>e) (fun c ps e=>⟨#[],by rw [e]; simp⟩) (fun m hm=>?_) (fun c u' e=>?_) I.bare
   ·obtain⟨_,g1,_,g3,g4,g5⟩:=hf c hcm
    exact⟨g3,g1,g4,g5⟩
   ·obtain⟨o,es',ep,ho,r⟩:=hm
    exact⟨o,es',ep,hk _ o (fun hm'=>(hf _ hm').2.1 rfl) ho,r⟩
   ·have nin:∀ c' u'',H c'=some u''→c'∉[z,TI,TO,i1,i2]:=fun c' u'' e' hm'=>by rw [(hf _ hm').1] at e'; cases e'
    refine (I.hok c u' e).stay (fun c' v' hc' q=>hk c' v' ?_ q) (fun _ q=>q) fun _ _ q=>q
    rcases hc' with rfl | hc'
    ·exact nin _ _ e
    ·exact nin _ _ hc'
  have hp:IsPair h2' s.heap.objs.size ux uy:=b2.extBut _ _ nz a5
  have fp0:H s.heap.objs.size=none:=I.hok.fresh (Nat.le_refl _)
  have nfp:s.heap.objs.size∉[z,TI,TO,i1,i2]:=fun hm=>by
   obtain⟨o,e,_⟩:∃ o,s.heap.get? s.heap.objs.size=some o∧True:=by
    simp only [List.mem_cons,List.not_mem_nil,or_false] at hm
    rcases hm with q | q | q | q | q
    ·exact⟨_,by rw [q]; exact h1,trivial⟩
    ·exact⟨_,by rw [q]; exact h2,trivial⟩
    ·exact⟨_,by rw [q]; exact h3,trivial⟩
    ·obtain⟨o,e,_⟩:=h4.ob; exact⟨o,by rw [q]; exact e,trivial⟩
    ·obtain⟨o,e,_⟩:=h5.ob; exact⟨o,by rw [q]; exact e,trivial⟩
   exact absurd (Heap.lt_size e) (Nat.lt_irrefl _)
  have I2:Inv X pins σ (upd H s.heap.objs.size (.tup [x,y])) { s with heap:=h2' }:=by
   refine I1.step (s:={ s with heap:=h2' }) (g':=s.gens) (d':=s.drawn) (t':=s.toks) (h':=h2') (ch:=[s.heap.objs.size]) (fun c hcm=>?_) (fun c o _ _ _ e _=>e) (fun c o _ _ _ e _=>⟨o.slots,e⟩) (fun c o hcn e n=>?_)
    (fun c o _ e=>⟨o,e⟩) (fun c xs' e=>?_) (fun c o u' e=>?_) (fun c ps e=>⟨#[],?_⟩) (fun m hm=>hm) (fun c u' e=>?_) I.bare
   ·have e:c=s.heap.objs.size:=by simpa using hcm
    subst e
    obtain⟨_,g1,_,g3,g4,g5⟩:=I.fpOk (Nat.le_refl _) fp0
    exact⟨g3,g1,g4,g5⟩
   ·rw [q1c (by simpa using hcn)]; exact n
   ·rw [q1c (q1q e fp0)]; exact e
   ·rw [q1c (q1q e fp0)]; exact e
   ·rw [q1c (q1q e fp0),e]; simp
   ·by_cases hcs:c=s.heap.objs.size
    ·subst hcs
     rw [q0b] at e
     cases e
     exact⟨by simp [sizeLine_eq],[ux,uy],.cons rx (.cons ry .nil),⟨_,hp,rfl,_,rfl⟩⟩
    ·rw [q1c hcs] at e
     exact (I1.hok c u' e).stay (fun _ _ _ q=>q) (fun c' q=>by rw [q1c (q1q q fp0)]; exact q) fun c' xs' q=>by rw [q1c (q1q q fp0)]; exact q
  refine⟨.ref s.heap.objs.size,_,I2,rfl,⟨s.heap.objs.size,x,y,rfl,fp0,rfl,fun xs' q'=>by rw [I.sq_inj q' q1]; exact hx,fun ys' q'=>by rw [I.sq_inj q' q2]; exact hy⟩,?_,fun c hcm=>?_⟩
  ·exact⟨b1,hTI'.trans h2,⟨ux,uy,b2.extBut _ _ D.1.2.1 a2⟩,(Src.it a3).keep fun o e=>b2.extBut _ o D.1.2.2.1 e,(Src.it a4).keep fun o e=>b2.extBut _ o D.1.2.2.2 e⟩
  ·rw [q1c (fun q=>nfp (by rw [← q]; exact hcm))]; exact (hf c hcm).1
 done:=by
  intro X hP hw hK hc i pins s σ H E I hf st hg
  subst hP hw hK
  obtain⟨h1,h2,⟨u,v,h3⟩,h4,h5⟩:=st
  obtain⟨xs,ys,q1,q2,he⟩:=hg
  obtain⟨its,r1,p1,_⟩:=I.sq q1
  obtain⟨jts,r2,p2,_⟩:=I.sq q2
  have Dd:Apart z TI TO i1 i2 a b:=⟨D.1,D.2,⟨I.sq_ne q1 (hf z (by simp)),I.sq_ne q1 (hf TO (by simp)),I.sq_ne q1 (hf i1 (by simp)),I.sq_ne q1 (hf i2 (by simp))⟩,⟨I.sq_ne q2 (hf z (by simp)),I.sq_ne q2 (hf TO (by simp)),I.sq_ne q2 (hf i1 (by simp)),I.sq_ne q2 (hf i2 (by simp))⟩⟩
  have l1:=r1.length
  have l2:=r2.length
  have hend:its.toArray[i]? = none∨jts.toArray[i]? = none:=by
   rcases he with e | e
   ·exact .inl (by simp; omega)
   ·exact .inr (by simp; omega)
  have hT:s.TypeIs (.ref z) "zip" := ⟨_,h1,rfl⟩
  unfold pyNext
  refine wpAny_bind (wpAny_attempt (wpAny_callSpecial?_slot (name:=Str.ofString "__next__") hT F.slot_zip_next (wpAny_call_entry F.slot_zip_next hT F.entry_zip_next (j0a (I.ok.hd hc) Dd h1 h2 h3 (h4.src p1) (h5.src p2) hend fun h' e kk hx=>?_) (F.args_zip_next_1 _))))
  obtain⟨o,ho,hcl⟩:=hx
  refine wpAny_bind (wpAny_isInstance (T := "StopIteration") (b:=true) ⟨o,ho,hcl⟩ isSubtype_stop (wpAny_pure ⟨rfl,?_⟩))
  have hk:∀ c o,c∉[z,TI,TO,i1,i2]→s.heap.get? c=some o→h'.get? c=some o:=fun c o hcn e=>by
   simp only [List.mem_cons,List.not_mem_nil,or_false,not_or] at hcn
   exact kk c o hcn.1 hcn.2.2.1 hcn.2.2.2.1 hcn.2.2.2.2 e
  refine I.step (g':=s.gens) (d':=s.drawn) (t':=s.toks) (ch:=[z,TI,TO,i1,i2]) (fun c hcm=>?_) (fun c o _ _ hcn e _=>hk c o hcn e) (fun c o _ _ hcn e _=>⟨o.slots,hk c o hcn e⟩) (fun _ _ _ _ n=>n)
   (fun c o hcn e=>⟨o,hk c o hcn e⟩) (fun _ _ e=>e) (fun _ _ _ e=>e) (fun c ps e=>⟨#[],by rw [e]; simp⟩) (fun m hm=>?_) (fun c u' e=>?_) I.bare
  ·obtain⟨_,g1,_,g3,g4,g5⟩:=hf c hcm
   exact⟨g3,g1,g4,g5⟩
  ·obtain⟨o,es',ep,ho,r⟩:=hm
   exact⟨o,es',ep,hk _ o (fun hm'=>(hf _ hm').2.1 rfl) ho,r⟩
  ·have nin:∀ c' u'',H c'=some u''→c'∉[z,TI,TO,i1,i2]:=fun c' u'' e' hm'=>by rw [(hf _ hm').1] at e'; cases e'
   refine (I.hok c u' e).stay (fun c' v' hc' q=>hk c' v' ?_ q) (fun _ q=>q) fun _ _ q=>q
   rcases hc' with rfl | hc'
   ·exact nin _ _ e
   ·exact nin _ _ hc'
 self:=fun _ _ _ _ _ st h=>wpAny_pyIter_zip st.1 h
noncomputable def j9i (K:Frag) (t1 t2:Bool) (ta:TA):TI:=fun σ H R=>ta σ H fun vs H1=>∃ a b xs ys,vs=[.ref a,.ref b]∧SqB t1 K H1 a xs∧SqB t2 K H1 b ys∧R (Itz K t1 t2 a b) H1
theorem z2g (n:Nat):(n+2≠n+4∧n+3≠n+4∧n≠n+4∧n+1≠n+4)∧n+2≠n+3∧n+2≠n∧n+2≠n+1∧n+3≠n∧n+3≠n+1∧n≠n+1:=by omega
theorem z2v (n x:Nat) (h:x=n+4∨x=n+2∨x=n+3∨x=n∨x=n+1):n≤x:=by omega
theorem z4x:bootBuiltins "zip" = some (.type "zip"):=by decide +kernel
theorem z0q {X:Cx} {es0:List Expr} {k0:Nat} {tp:Pos} {a b:Expr} {ta:TA} {p pos:Pos} {t1 t2:Bool} (hg:Gl X "zip") (hm:X.mg "zip" = none) (ha:PA X [a,b] ta)
  (hs:starEach [a,b] X.env=[(false,eval a X.env),(false,eval b X.env)]:=by rfl) (hs2:starEach [b] X.env=[(false,eval b X.env)]:=by rfl) :
  PI X (.Tuple es0 k0 tp) (.Call (.Name "zip" p) [a,b] [] pos) (j9i X.K t1 t2 ta):=by
 intro pins s σ H R I h
 refine Call_ (x1y I hg hm z4x (PyProof.Rows.callWith_type1 (thn (ha pos pins s σ H _ I h) fun us s1 ⟨vs,H1,I1,r1,q1⟩=>?_) (by rw [hs,hs2]) (by rw [hs2]; rfl)))
 obtain⟨c,d,xs,ys,e,q1,q2,q⟩:=q1
 subst e
 obtain⟨u,u',rfl,ru,ru'⟩:=z4w r1
 cases ru
 cases ru'
 obtain⟨its,_,p1,_⟩:=I1.sq q1
 obtain⟨jts,_,p2,_⟩:=I1.sq q2
 refine z2m p1 p2 fun h' a1 a2 a3 a4 a5 kk=>?_
 refine wpAny_pyIter_zip (s:={ s1 with heap:=h' }) a1 ?_
 have I2:Inv X pins σ H1 { s1 with heap:=h' }:=I1.kept (t':=s1.toks) kk
 refine⟨_,[s1.heap.objs.size+4,s1.heap.objs.size+2,s1.heap.objs.size+3,s1.heap.objs.size,s1.heap.objs.size+1],_,_,H1,rfl,I2,z6e (t1:=t1) (t2:=t2) (a:=c) (b:=d) (z2g _),
  ⟨a1,a2,⟨_,_,a3⟩,Src.it a4,Src.it a5⟩,fun x hx=>?_,q⟩
 have hge:s1.heap.objs.size≤x:=by
  simp only [List.mem_cons,List.not_mem_nil,or_false] at hx
  exact z2v _ _ hx
 exact I1.fpOk hge (I1.hok.fresh hge)
section
variable {X:Cx} {a b:Expr} {ta tb:TE} {pos:Pos}
theorem x8s (hc:X.calm=true):x0r X (.builtin "all") (fun xs H Q=>∃ p,∃ bs:List Bool,xs=[.ref p]∧SqL X.K H p (bs.map V.bl)∧Q (.bl (bs.all id)) H):=by
 intro pins s σ H xs us Q I r h
 obtain⟨p,bs,rfl,hq,q⟩:=h
 obtain⟨u,rfl,rx⟩:=x4x r
 cases rx
 obtain⟨its,rv,pl,hz⟩:=I.list hq
 have hl:=pl.isList
 have hlt:p < s.heap.objs.size:=by obtain⟨_,e,_⟩:=hl; exact Heap.lt_size e
 have hlen:bs.length=its.length:=by rw [← rv.length,List.length_map]
 refine call_all_walk (wpAny_pyIter_list hl ?_)
 refine⟨s.heap.objs.size,[s.heap.objs.size,p],[s.heap.objs.size],its.toArray.size,_,_,fun i=>(bs[i]?).getD true,rfl,Walks.list (A:=X.A.in1) (I.ok.hd hc) _ p (Nat.ne_of_lt hlt) its.toArray,
  ⟨⟨_,Heap.get?_push_size _ rfl,rfl,rfl⟩,hl.push _⟩,fun i v s' Q' E' hP hQ=>?_,fun h' tk hk=>?_⟩
 ·have hP':its[i]? = some v:=by simpa using hP
  have hi:i < bs.length:=by rw [hlen]; exact (List.getElem?_eq_some_iff.mp hP').1
  obtain⟨u',e',r'⟩:=rv.get (i:=i) (x:=V.bl bs[i]) (by simp [hi])
  rw [hP'] at e'
  cases e'
  cases r'
  have e2:(bs[i]?).getD true=bs[i]:=by simp [hi]
  have hQ2:Q' ((bs[i]?).getD true) s':=hQ
  rw [e2] at hQ2
  exact wpAny_truthy_bool hQ2
 ·have e:((List.range its.toArray.size).all fun i=>(bs[i]?).getD true)=bs.all id:=by
   rw [List.size_toArray,← hlen]
   rw [Bool.eq_iff_iff]
   simp only [List.all_eq_true,List.mem_range,id]
   constructor
   ·intro h x hx
    obtain⟨i,hi,rfl⟩:=List.mem_iff_getElem.mp hx
    have:=h i hi
    simpa [hi] using this
   ·intro h i hi
    have:=h bs[i] (List.getElem_mem hi)
    simpa [hi] using this
  rw [e]
  refine⟨.bl (bs.all id),H,I.kept (t':=tk) fun b x e=>?_,rfl,q⟩
  exact hk b x (fun hm=>by rw [List.mem_singleton.mp hm] at e; exact Nat.lt_irrefl _ (Heap.lt_size e)) (Heap.get?_push_of_some _ e)
noncomputable def j9d (K:Frag):List V→Hp→VK→Prop:=fun xs H Q=>∃ x c t k,xs=[x,.ty c]∧TyOf K H x t∧PySem.W.kitOne K t (.type c)=some k∧Q (.bl k) H
theorem q1x:x0r X (.builtin "isinstance") (j9d X.K):=by
 intro pins s σ H xs us Q I r h
 obtain⟨x,c,t,k,rfl,ty,e,q⟩:=h
 obtain⟨u,u',rfl,rx,rc⟩:=z4w r
 cases rc
 exact z1e I rx ty e fun tk=>⟨.bl k,H,I.tok tk,rfl,q⟩
noncomputable def x5r:List V→List V→Bool
 | [],[]=>true
 | x::xs,y::ys=>eqV x y && x5r xs ys
 | _,_=>false
theorem q9y:∀ {xs ys:List V},xs.length≠ys.length→x5r xs ys=false
 | [],[],h=>absurd rfl h
 | [],_::_,_=>rfl
 | _::_,[],_=>rfl
 | x::xs,y::ys,h=>by
  rw [x5r,q9y (fun e=>h (by simp [e])),Bool.and_false]
theorem q6u:∀ {xs ys:List V},xs.length=ys.length→(List.range xs.length).all (fun j=>eqV (xs.getD j .non) (ys.getD j .non))=x5r xs ys
 | [],[],_=>rfl
 | x::xs,y::ys,h=>by
  have h':xs.length=ys.length:=by simpa using h
  rw [x5r,← q6u h',List.length_cons,List.range_succ_eq_map,List.all_cons,List.all_map]
  rfl
theorem z6r (hu:X.A.units < cLine):OpR X (compareOp .Eq) (fun x y H Q=>∃ p q xs ys,x=.ref p∧y=.ref q∧SqL X.K H p xs∧SqL X.K H q ys∧xs.all q4b=true∧ys.all q4b=true∧Q (.bl (x5r xs ys)) H):=by
 intro pins s σ H x y v u Q I rx ry h
 obtain⟨p,q',xs,ys,rfl,rfl,h1,h2,f1,f2,q⟩:=h
 cases rx
 cases ry
 obtain⟨its,r1,pl1,_⟩:=I.list h1
 obtain⟨jts,r2,pl2,_⟩:=I.list h2
 by_cases hl:xs.length=ys.length
 ·refine SeqAt.eq_listAt (e:=fun j=>eqV (xs.getD j .non) (ys.getD j .non)) pl1.isList pl2.isList (by simp [← r1.length,← r2.length,hl]) hu (fun j g1 g2=>?_) ⟨.bl (x5r xs ys),H,I,?_,q⟩
  ·have j1:j < xs.length:=by rw [r1.length]; simpa using g1
   have j2:j < ys.length:=by rw [r2.length]; simpa using g2
   obtain⟨u1,e1,ru1⟩:=r1.get (i:=j) (x:=xs[j]) (by simp [j1])
   obtain⟨u2,e2,ru2⟩:=r2.get (i:=j) (x:=ys[j]) (by simp [j2])
   have z1:its.toArray[j]=u1:=by
    have:=(List.getElem?_eq_some_iff.mp e1).2
    simpa using this
   have z2:jts.toArray[j]=u2:=by
    have:=(List.getElem?_eq_some_iff.mp e2).2
    simpa using this
   rw [z1,z2]
   have w1:xs.getD j .non=xs[j]:=by simp [j1]
   have w2:ys.getD j .non=ys[j]:=by simp [j2]
   show SeqAt.EqAt _ _ _ _ (eqV (xs.getD j .non) (ys.getD j .non))
   rw [w1,w2]
   exact x1w ru1 ru2 (List.all_eq_true.mp f1 _ (List.getElem_mem j1)) (List.all_eq_true.mp f2 _ (List.getElem_mem j2))
  ·rw [List.size_toArray,← r1.length,q6u hl]; rfl
 ·refine SeqAt.eq_list_lengthsAt pl1.isList pl2.isList (by simp [← r1.length,← r2.length,hl]) hu ⟨.bl (x5r xs ys),H,I,?_,q⟩
  rw [q9y hl]; rfl
theorem j1e (hu:X.A.units < cLine):OpR X (compareOp .NotEq) (fun x y H Q=>∃ p q xs ys,x=.ref p∧y=.ref q∧SqL X.K H p xs∧SqL X.K H q ys∧xs.all q4b=true∧ys.all q4b=true∧Q (.bl (!x5r xs ys)) H):=by
 intro pins s σ H x y v u Q I rx ry h
 obtain⟨p,q',xs,ys,rfl,rfl,h1,h2,f1,f2,q⟩:=h
 cases rx
 cases ry
 obtain⟨its,r1,pl1,_⟩:=I.list h1
 obtain⟨jts,r2,pl2,_⟩:=I.list h2
 by_cases hl:xs.length=ys.length
 ·refine SeqAt.RcNeAt.lists (e:=fun j=>eqV (xs.getD j .non) (ys.getD j .non)) pl1.isList pl2.isList (by simp [← r1.length,← r2.length,hl]) hu (fun j g1 g2=>?_) _ _ _ _ ⟨.bl (!x5r xs ys),H,I,?_,q⟩
  ·have j1:j < xs.length:=by rw [r1.length]; simpa using g1
   have j2:j < ys.length:=by rw [r2.length]; simpa using g2
   obtain⟨u1,e1,ru1⟩:=r1.get (i:=j) (x:=xs[j]) (by simp [j1])
   obtain⟨u2,e2,ru2⟩:=r2.get (i:=j) (x:=ys[j]) (by simp [j2])
   have z1:its.toArray[j]=u1:=by
    have:=(List.getElem?_eq_some_iff.mp e1).2
    simpa using this
   have z2:jts.toArray[j]=u2:=by
    have:=(List.getElem?_eq_some_iff.mp e2).2
    simpa using this
   rw [z1,z2]
   have w1:xs.getD j .non=xs[j]:=by simp [j1]
   have w2:ys.getD j .non=ys[j]:=by simp [j2]
   show SeqAt.EqAt _ _ _ _ (eqV (xs.getD j .non) (ys.getD j .non))
   rw [w1,w2]
   exact x1w ru1 ru2 (List.all_eq_true.mp f1 _ (List.getElem_mem j1)) (List.all_eq_true.mp f2 _ (List.getElem_mem j2))
  ·rw [List.size_toArray,← r1.length,q6u hl]; rfl
 ·refine SeqAt.RcNeAt.lists_lengths pl1.isList pl2.isList (by simp [← r1.length,← r2.length,hl]) hu _ _ _ _ ⟨.bl (!x5r xs ys),H,I,?_,q⟩
  rw [q9y hl]; rfl
end
section
variable {prog:Program} {w:World} {A:Around} {E:Value→Shared→Prop} {s:Shared}
end
noncomputable def j4v:R2:=fun x y H Q=>∃ a b xs ys,x=.ref a∧y=.ref b∧H a=some (.tup xs)∧H b=some (.tup ys)∧xs.length+ys.length≤sizeLine∧∀ p H',H' p=some (.tup (xs++ys))→q1l H H'→Q (.ref p) H'
theorem j0d {X:Cx}:OpR X (binaryOp .Add) j4v:=by
 intro pins s σ H x y v u Q I rx ry h
 obtain⟨a,b,xs,ys,rfl,rfl,ha,hb,hz,q⟩:=h
 by_cases hx:xs=[]
 ·subst hx
  cases rx
  cases ry
  obtain⟨its,r1,p1,_⟩:=I.tuple (SqT.of ha)
  obtain⟨its2,r2,p2,_⟩:=I.tuple (SqT.of hb)
  have e1:its=[]:=r1.nil_iff.mpr rfl
  obtain⟨⟨cls,dd,data,sl⟩,ho,hc,n,hd⟩:=id p1
  obtain⟨⟨cls2,dd2,data2,sl2⟩,ho2,hc2,n2,hd2⟩:=id p2
  simp only at hc hd hc2 hd2
  subst hc hd hc2 hd2
  exact concat_meets ⟨_,ho,rfl⟩ ⟨_,ho2,rfl⟩ noFill_tuple_add seq_tuple_add PySem.F.slot_tuple_add PySem.F.entry_tuple_add (PySem.F.args_tuple_add_2 _ _)
   (tuple_addW0 a b its.toArray its2.toArray n n2 dd dd2 sl sl2 (by simp [e1])) ⟨ho,ho2,⟨.ref b,H,I,rfl,q b H (by simpa using hb) (q1l.refl _)⟩⟩
 ·refine z7w pins s σ H (.ref a) (.ref b) v u Q I rx ry ⟨a,b,xs,ys,rfl,rfl,SqT.of ha,SqT.of hb,hx,hz,fun e=>?_,fun _ p hp=>?_⟩
  ·subst e
   exact q a H (by simpa using ha) (q1l.refl _)
  ·exact q p _ q0b fun c o e=>by rw [q1c (q1q e hp)]; exact e
theorem PE.weak {X:Cx} {e:Expr} {t t':TE} (h:PE X e t) (w:∀ σ H Q,t' σ H Q→t σ H Q):PE X e t':=fun pins s σ H Q I q=>h pins s σ H Q I (w σ H Q q)
end L2
namespace Kp
open PySem PyProof.Rows
inductive D where
 | non | bl (b:Bool) | int (i:Int) | str (x:Str) | tup (xs:List D) | lst (xs:List D)
noncomputable def j7i:D→Bool
 | .int i=>decide (0≤i) && decide (i≤8)
 | _=>false
end Kp
namespace Kp
open PySem L2
mutual
inductive Is (B:Nat) (H:Hp):V→D→Prop
 | non:Is B H .non .non
 | bl (b:Bool):Is B H (.bl b) (.bl b)
 | int (i:Int):Is B H (.int i) (.int i)
 | str (x:Str) (h:x.length≤B):Is B H (.str x) (.str x)
 | tup {a:Addr} {vs:List V} {ds:List D} (e:H a=some (.tup vs)) (l:vs.length≤B) (r:IsL B H vs ds):Is B H (.ref a) (.tup ds)
 | lst {a:Addr} {vs:List V} {ds:List D} (e:H a=some (.lst vs)) (l:vs.length≤B) (r:IsL B H vs ds):Is B H (.ref a) (.lst ds)
inductive IsL (B:Nat) (H:Hp):List V→List D→Prop
 | nil:IsL B H [] []
 | cons {v:V} {d:D} {vs:List V} {ds:List D} (h:Is B H v d) (t:IsL B H vs ds):IsL B H (v::vs) (d::ds)
end
mutual
theorem Is.mono {B B':Nat} {H H':Hp} (hB:B≤B') (s:q1l H H'):∀ {v d},Is B H v d→Is B' H' v d
 | _,_,.non=>.non
 | _,_,.bl b=>.bl b
 | _,_,.int i=>.int i
 | _,_,.str x h=>.str x (Nat.le_trans h hB)
 | _,_,.tup e l r=>.tup (s _ _ e) (Nat.le_trans l hB) (IsL.mono hB s r)
 | _,_,.lst e l r=>.lst (s _ _ e) (Nat.le_trans l hB) (IsL.mono hB s r)
theorem IsL.mono {B B':Nat} {H H':Hp} (hB:B≤B') (s:q1l H H'):∀ {vs ds},IsL B H vs ds→IsL B' H' vs ds
 | _,_,.nil=>.nil
 | _,_,.cons h t=>.cons (Is.mono hB s h) (IsL.mono hB s t)
end
noncomputable def Th (B:Nat) (H:Hp) (v:V):Prop:=∃ d,Is B H v d
noncomputable def ThL (B:Nat) (H:Hp) (vs:List V):Prop:=∃ ds,IsL B H vs ds
theorem ThL.nil {B:Nat} {H:Hp}:ThL B H []:=⟨[],.nil⟩
theorem ThL.cons {B:Nat} {H:Hp} {v:V} {vs:List V} (h:Th B H v) (t:ThL B H vs):ThL B H (v::vs):=let ⟨d,q⟩:=h; let ⟨ds,r⟩:=t; ⟨d::ds,.cons q r⟩
theorem Th.tup {B:Nat} {H:Hp} {a:Addr} {vs:List V} (e:H a=some (.tup vs)) (l:vs.length≤B) (h:ThL B H vs):Th B H (.ref a):=let ⟨_,q⟩:=h; ⟨_,.tup e l q⟩
theorem Th.int {B:Nat} {H:Hp} (i:Int):Th B H (.int i):=⟨_,.int i⟩
theorem Th.bl {B:Nat} {H:Hp} (i:Bool):Th B H (.bl i):=⟨_,.bl i⟩
theorem Th.non {B:Nat} {H:Hp}:Th B H .non:=⟨_,.non⟩
theorem Th.str {B:Nat} {H:Hp} (x:Str) (h:x.length≤B):Th B H (.str x):=⟨_,.str x h⟩
theorem q0d {H:Hp} {p:Addr} {o:HO} (h:H p=none):q1l H (upd H p o):=fun b u e=>by rw [q1c (q1q e h)]; exact e
noncomputable def tyN:D→String
 | .non => "NoneType" | .bl _ => "bool" | .int _ => "int" | .str _ => "str" | .tup _ => "tuple" | .lst _ => "list"
noncomputable def isInt:D→Bool | .int _=>true | .bl _=>true | _=>false
noncomputable def z6w:D→Bool | .bl _=>true | _=>false
noncomputable def j5r:D→Bool | .str _=>true | _=>false
noncomputable def z9e:D→Bool | .tup _=>true | _=>false
theorem x0d (K:Frag):∀ d:D,PySem.W.kitOne K (.type (tyN d)) (.type "bool")=some (z6w d)
 | .non=>by with_unfolding_all rfl
 | .bl _=>by with_unfolding_all rfl
 | .int _=>by with_unfolding_all rfl
 | .str _=>by with_unfolding_all rfl
 | .tup _=>by with_unfolding_all rfl
 | .lst _=>by with_unfolding_all rfl
theorem z2j (K:Frag):∀ d:D,PySem.W.kitOne K (.type (tyN d)) (.type "str")=some (j5r d)
 | .non=>by with_unfolding_all rfl
 | .bl _=>by with_unfolding_all rfl
 | .int _=>by with_unfolding_all rfl
 | .str _=>by with_unfolding_all rfl
 | .tup _=>by with_unfolding_all rfl
 | .lst _=>by with_unfolding_all rfl
theorem q7o (K:Frag):∀ d:D,PySem.W.kitOne K (.type (tyN d)) (.type "tuple")=some (z9e d)
 | .non=>by with_unfolding_all rfl
 | .bl _=>by with_unfolding_all rfl
 | .int _=>by with_unfolding_all rfl
 | .str _=>by with_unfolding_all rfl
 | .tup _=>by with_unfolding_all rfl
 | .lst _=>by with_unfolding_all rfl
theorem q1z:bootBuiltins "isinstance" = some (.builtin "isinstance"):=by decide +kernel
theorem q6v:bootBuiltins "int" = some (.type "int"):=by decide +kernel
theorem x0o:bootBuiltins "bool" = some (.type "bool"):=by decide +kernel
theorem x8r:bootBuiltins "str" = some (.type "str"):=by decide +kernel
theorem q2f:bootBuiltins "tuple" = some (.type "tuple"):=by decide +kernel
theorem q3y:bootBuiltins "list" = some (.type "list"):=by decide +kernel
theorem x4o:bootBuiltins "all" = some (.builtin "all"):=by decide +kernel
theorem q5r {X:Cx} {x:Str} {n:String} {pos:Pos} (hg:Gl X x) (hm:X.mg x=none) (hv:bootBuiltins x=some (.type n)) (hn:x ≠ "__name__" := by decide) (hd:(x==("__debug__" : Str))=false:=by decide):PE X (.Name x pos) (tC (.ty n)):=z7t (v:=.ty n) hg hm hv rfl hn hd
section
variable {X:Cx} {K:Frag} {pos:Pos}
theorem z1b {es:List Expr} {k:Nat} {t:TGs} {n:Nat} (hK:X.K=K) (hc:X.calm=true) (h:PGs X es t) (hn:(assignEach es X.env).length=n:=by rfl) (hst:(assignEach es X.env).findIdx? (·.1)=none:=by rfl):PG X (.Tuple es k pos) (j7h K n t):=by
 subst hK
 exact z6t hc h hn hst
theorem q9u (hK:X.K=K):IxR X (j7j K):=by subst hK; exact q0g
end
noncomputable def q9c (outer scope:Scope):Bool:=scope.kind==.function && scope.names.all fun y=>y.2 != .cell && (y.2 != .local || scope.names.lookup y.1==some .local) && (y.2 != .free || outer.names.lookup y.1==some .cell)
theorem x3p {X:Cx} {outer scope:Scope} {NB:List Str} {n:Nat} {fr:List Nat} (hX:X.env.scope=outer) (h:q9c outer scope=true) (hl:NB.length=n+fr.length)
  (ho:∀ (j k:Nat),fr[j]? = some k→∃ x,NB[n+j]? = some x∧X.N[k]? = some x∧scope.names.lookup x=some .free):CompOk X scope NB n fr:=by
 unfold q9c at h
 rw [Bool.and_eq_true,List.all_eq_true] at h
 obtain⟨h1,h2⟩:=h
 refine⟨by simpa using h1,fun y hy=>?_,fun y hy hk=>?_,fun y hy hk=>?_,hl,ho⟩
 ·have:=h2 y hy
  simp only [Bool.and_eq_true,bne_iff_ne,ne_eq] at this
  exact this.1.1
 ·have:=h2 y hy
  simp only [Bool.and_eq_true,Bool.or_eq_true,bne_iff_ne,ne_eq,beq_iff_eq] at this
  exact this.1.2.resolve_left (fun z=>z hk)
 ·have:=h2 y hy
  simp only [Bool.and_eq_true,Bool.or_eq_true,bne_iff_ne,ne_eq,beq_iff_eq] at this
  refine .inl ?_
  show X.env.scope.names.lookup y.1=some .cell
  rw [hX]
  exact this.2.resolve_left (fun z=>z hk)
theorem z1x {X:Cx} {outer scope:Scope} {NB:List Str} {n:Nat} (hX:X.env.scope=outer) (h:q9c outer scope=true) (hl:NB.length=n+0):CompOk X scope NB n [] :=
 x3p hX h hl fun j k e=>by simp at e
theorem q7p {X:Cx} {outer scope:Scope} {NB:List Str} {n k0:Nat} {x:Str} (hX:X.env.scope=outer) (h:q9c outer scope=true) (hl:NB.length=n+1) (h1:NB[n]? = some x) (h2:X.N[k0]? = some x) (h3:scope.names.lookup x=some .free):CompOk X scope NB n [k0] :=
 x3p hX h hl fun j k e=>by
  cases j with
  | zero=>cases e; exact⟨x,h1,h2,h3⟩
  | succ j=>simp at e
theorem z8p {X:Cx} {outer scope:Scope} {NB:List Str} {n k0 k1:Nat} {x y:Str} (hX:X.env.scope=outer) (h:q9c outer scope=true) (hl:NB.length=n+2) (h1:NB[n]? = some x) (h2:X.N[k0]? = some x) (h3:scope.names.lookup x=some .free)
  (g1:NB[n+1]? = some y) (g2:X.N[k1]? = some y) (g3:scope.names.lookup y=some .free):CompOk X scope NB n [k0,k1] :=
 x3p hX h hl fun j k e=>by
  match j,e with
  | 0,e=>cases e; exact⟨x,h1,h2,h3⟩
  | 1,e=>cases e; exact⟨y,g1,g2,g3⟩
  | j+2,e=>simp at e
theorem q6e {J:It} {H1:Hp} {n k:Nat} {frs:St} {g:TG} {tt:TT} {te:TE} {Q:VK} (p:Nat→Bool) (f:Nat→V) (hn:n < sizeLine)
  (go:∀ i H,i < n→q1l H1 H→J.go i H) (stop:∀ H,q1l H1 H→J.stop n H)
  (turn:∀ i H t x H2 (R:St→Hp→Option V→Prop),i < n→q1l H1 H→t.length=k→J.yld i H x H2 →
   (∀ t' H',t'.length=k→q1l H H'→R (t'++frs) H' (if p i=true then some (f i) else none)) →
   g x (t++frs) H2 fun σ3 H3=>tt σ3 H3 fun b H4=>if b=true then te σ3 H4 fun v H5=>R σ3 H5 (some v) else R σ3 H4 none)
  (hq:∀ D H',q1l H1 H'→H1 D=none→H' D=some (.lst (((List.range n).filter p).map f))→Q (.ref D) H'):x5i (List.replicate k none++frs) g tt te Q J H1:=by
 intro D hD
 refine⟨fun i m ys σ H=>i≤n∧m=n - i∧ys=((List.range i).filter p).map f∧q1l H1 H∧∃ t,t.length=k∧σ=t++frs,⟨n,Nat.zero_le _,rfl,rfl,q0d hD,_,by simp,rfl⟩,?_⟩
 rintro i m ys σ H ⟨hi,rfl,rfl,s1,t,ht,rfl⟩ hd
 by_cases hlt:i < n
 ·right
  refine⟨go i H hlt s1,?_,fun x H2 y=>?_⟩
  ·refine Nat.lt_of_le_of_lt ?_ hn
   rw [List.length_map]
   exact Nat.le_trans (List.length_filter_le _ _) (by simpa using hi)
  ·have h:=turn i H t x H2 (fun σ3 H5 r=>match r with
    | some v=>H5 D=some (.lst (((List.range i).filter p).map f))∧∃ m',m' < n - i∧(i+1≤n∧m'=n - (i+1)∧((List.range i).filter p).map f++[v]=((List.range (i+1)).filter p).map f∧q1l H1 (upd H5 D (.lst (((List.range i).filter p).map f++[v])))∧∃ t,t.length=k∧σ3=t++frs)
    | none=>H5 D=some (.lst (((List.range i).filter p).map f))∧∃ m',m' < n - i∧(i+1≤n∧m'=n - (i+1)∧((List.range i).filter p).map f=((List.range (i+1)).filter p).map f∧q1l H1 H5∧∃ t,t.length=k∧σ3=t++frs)) hlt s1 ht y ?_
   ·exact h
   ·intro t' H' ht' s2
    cases hp:p i with
    | true =>
     rw [if_pos rfl]
     refine⟨s2 _ _ hd,n - (i+1),by omega,by omega,rfl,?_,fun b o e=>?_,t',ht',rfl⟩
     ·rw [List.range_succ,List.filter_append,List.map_append]
      simp [hp]
     ·rw [q1c (q1q e hD)]; exact s2 _ _ (s1 _ _ e)
    | false =>
     rw [if_neg Bool.false_ne_true]
     refine⟨s2 _ _ hd,n - (i+1),by omega,by omega,rfl,?_,s1.trans s2,t',ht',rfl⟩
     rw [List.range_succ,List.filter_append,List.map_append]
     simp [hp]
 ·have e:i=n:=by omega
  subst e
  exact .inl ⟨stop H s1,hq D H s1 hD hd⟩
structure Cal (P:Program) (w:World) (K:Frag) (mg:Str→Option Value) (base:Heap) (name:Str) (k:Nat) (ps:List Str) (sp:Sp):Prop where
 ex:∃ f fd,FnOk P w K mg base CX0 k f fd ps sp∧mg name=some (.ref f)∧keepIn K (.ref f)=true∧q3p K fd ps []
noncomputable def whole (d:D):Bool:=isInt d && !z6w d
section
variable {X:Cx} {es:List Expr} {te:TE} {t:TA} {pos:Pos}
theorem q0n {X:Cx} {x:Str} {k:Nat} {ps:List Str} {sp:Sp} {e:Expr} {es:List Expr} {t:TA} {p pos:Pos} (C:Cal X.prog X.w X.K X.mg X.base x k ps sp) (hr:Room k X.A) (ha:PA X (e::es) t) (hg:Gl X x:=by rfl) (hdb:(x==("__debug__" : Str))=false:=by decide) (he:starEach (e::es) X.env=(false,eval e X.env)::starEach es X.env:=by rfl) (hpl:(backTo pos (starEach es X.env)).any (·.1)=false:=by rfl) :
  PE X (.Call (.Name x p) (e::es) [] pos) (z5h sp [] E0 t):=let ⟨_,_,F,hm,hk,hb⟩:=C.ex; x1i F hr hg hm hk hb .nil q7n ha hdb he hpl
theorem x3w {c:Const} {k:Nat} (ha:PE X (.Constant c k pos) te) (hr:PA X es t):PA X (.Constant c k pos::es) (q4h te t):=q1k ha hr rfl
theorem q0z {x:Str} (ha:PE X (.Name x pos) te) (hr:PA X es t):PA X (.Name x pos::es) (q4h te t):=q1k ha hr rfl
theorem z4a {l:List Expr} {k:Nat} (ha:PE X (.Tuple l k pos) te) (hr:PA X es t):PA X (.Tuple l k pos::es) (q4h te t):=q1k ha hr rfl
theorem j0i {l:List Expr} (ha:PE X (.List l pos) te) (hr:PA X es t):PA X (.List l pos::es) (q4h te t):=q1k ha hr rfl
theorem j8b {o:UnaryOp} {a:Expr} (ha:PE X (.UnaryOp o a pos) te) (hr:PA X es t):PA X (.UnaryOp o a pos::es) (q4h te t):=q1k ha hr rfl
theorem q9d {o:Operator} {a b:Expr} (ha:PE X (.BinOp a o b pos) te) (hr:PA X es t):PA X (.BinOp a o b pos::es) (q4h te t):=q1k ha hr rfl
theorem q8r {f:Expr} {as:List Expr} {ks:List Keyword} (ha:PE X (.Call f as ks pos) te) (hr:PA X es t):PA X (.Call f as ks pos::es) (q4h te t):=q1k ha hr rfl
theorem q2r {a b:Expr} (ha:PE X (.Subscript a b pos) te) (hr:PA X es t):PA X (.Subscript a b pos::es) (q4h te t):=q1k ha hr rfl
theorem j0l {a:Expr} {o:List CmpOp} {b:List Expr} (ha:PE X (.Compare a o b pos) te) (hr:PA X es t):PA X (.Compare a o b pos::es) (q4h te t):=q1k ha hr rfl
end
theorem z9s {a b:Expr} {o:Operator} {pos:Pos}:q6n (.BinOp a o b pos):=fun _ _=>rfl
theorem j6g {x:Str} {pos:Pos}:q6n (.Name x pos):=fun _ _=>rfl
theorem q0w {c:Const} {k:Nat} {pos:Pos}:q6n (.Constant c k pos):=fun _ _=>rfl
theorem j9g {o:UnaryOp} {a:Expr} {pos:Pos}:q6n (.UnaryOp o a pos):=fun _ _=>rfl
theorem j7y {l:List Expr} {p:Pos} {t:Option Expr} {n:Nat} {env:Env}:swapsWith (.List l p) t n env=pure false:=rfl
structure QA (X:Cx) (es:List Expr) (t:TA):Prop where
 h:PA X es t
section
variable {X:Cx} {es l:List Expr} {t u:TA} {p p':Pos} {j:Nat}
theorem q0v:QA X [] j4e:=⟨q0e⟩
theorem q1a {i:Int} (r:QA X es t):QA X (.Constant (.int i) j p::es) (q4h (tC (.int i)) t):=⟨q1k q0c r.h rfl⟩
theorem z2u {i:Bool} (r:QA X es t):QA X (.Constant (.bool i) j p::es) (q4h (tC (.bl i)) t):=⟨q1k q4v r.h rfl⟩
theorem q1w {i:Str} (r:QA X es t):QA X (.Constant (.str i) j p::es) (q4h (tC (.str i)) t):=⟨q1k q2k r.h rfl⟩
theorem x7o (r:QA X es t):QA X (.Constant .none j p::es) (q4h (tC .non) t):=⟨q1k q8k r.h rfl⟩
theorem q4l (a:QA X l u) (r:QA X es t):QA X (.Tuple l j p::es) (q4h (j5w u) t):=⟨q1k (z6y a.h) r.h rfl⟩
theorem x8b (a:QA X l u) (r:QA X es t):QA X (.List l p::es) (q4h (j6f u) t):=⟨q1k (q4f a.h) r.h rfl⟩
end
structure QE (X:Cx) (e:Expr) (t:TE):Prop where
 h:PE X e t
structure QS (X:Cx) (st:Stmt) (t:TS):Prop where
 h:PS X st t
structure QB (X:Cx) (sts:List Stmt) (t:TS):Prop where
 h:PSs X sts t
section
variable {X:Cx} {es:List Expr} {t:TA} {p p' pos:Pos} {j:Nat}
theorem q3g (a:QA X es t):QE X (.List es p) (j6f t):=⟨q4f a.h⟩
theorem j1d {i:Nat} {x:Str} {e:Expr} {te:TE} (hN:X.N.Nodup) (hi:X.N[i]? = some x) (hx:Loc X.env.scope x) (he:QE X e te) (hs:swapsWith e (some (.Name x p')) pos.line X.env=pure false) (hf:X.fn x=true∨X.env.scope.names.lookup x=some .local:=by first | exact .inl rfl | exact .inr rfl | assumption) :
  QS X (.Assign [.Name x p'] e pos) (j3z te (q9s i)):=⟨q0r hN hi hx he.h hs hf⟩
theorem j3a {c:Expr} {a b:List Stmt} {tc:TT} {t u:TS} (hc:PT X c tc) (ha:QB X a t) (hb:PSs X b u):PS X (.If c a b pos) (j7p tc t u):=q1g hc ha.h hb
end
end Kp
namespace Kp
open PySem L2 PyProof.Rows
section
variable {P:Program} {w:World} {K:Frag} {mg:Str→Option Value} {base:Heap}
end
end Kp
namespace Kp
open PySem
noncomputable def one (p:D→Bool):List D→Bool
 | [a]=>p a
 | _=>false
noncomputable def two (p q:D→Bool):List D→Bool
 | [a,b]=>p a && q b
 | _=>false
end Kp
namespace K1
open PySem L2 Kp
noncomputable def top (i:Nat):Stmt:=PySem.Challenge.pw_keeplog_k43_whole_follower.main.body.getD i (.Pass ⟨0,0,0,0⟩)
noncomputable abbrev x6d:Stmt:=top 4
noncomputable abbrev q8m:Stmt:=top 5
noncomputable abbrev q3v:Stmt:=top 6
noncomputable abbrev q4p:Stmt:=top 7
noncomputable abbrev q5q:Stmt:=top 8
noncomputable abbrev x3t:Stmt:=top 9
noncomputable abbrev x3f:Stmt:=top 10
noncomputable abbrev q6p:Stmt:=top 13
noncomputable abbrev x3o:Stmt:=top 14
noncomputable abbrev x0k:Stmt:=top 15
noncomputable abbrev q6h:Stmt:=top 16
noncomputable abbrev x6x:Stmt:=top 18
noncomputable abbrev x0u:Stmt:=top 19
noncomputable abbrev q4o:Stmt:=top 20
noncomputable abbrev q7x:Stmt:=top 21
noncomputable abbrev q8v:Stmt:=top 22
noncomputable abbrev q6s:Stmt:=top 23
noncomputable abbrev z2x:Stmt:=top 24
noncomputable abbrev q7q:Stmt:=top 25
noncomputable abbrev x1h:Stmt:=top 27
noncomputable abbrev q8x:Stmt:=top 28
noncomputable abbrev z3l:Stmt:=top 31
noncomputable abbrev q4m:Stmt:=top 32
noncomputable abbrev q5u:Stmt:=top 33
noncomputable abbrev q5p:Stmt:=top 34
noncomputable abbrev q5t:Stmt:=top 35
noncomputable abbrev q7g:Stmt:=top 36
noncomputable abbrev q7w:Stmt:=top 37
noncomputable abbrev q7v:Stmt:=top 38
noncomputable abbrev x0a:Stmt:=top 40
noncomputable abbrev z1m:Stmt:=top 41
noncomputable abbrev q5k:Stmt:=top 42
noncomputable abbrev q8w:Stmt:=top 43
noncomputable abbrev q6t:Stmt:=top 49
noncomputable abbrev x1g:Stmt:=top 50
noncomputable abbrev q3o:Stmt:=x0v (top 52) 0
noncomputable abbrev q5o:Stmt:=x0v (top 52) 1
noncomputable abbrev q5y:Stmt:=x0v (top 52) 2
noncomputable abbrev q3s:Stmt:=x0v (top 52) 3
noncomputable abbrev q2l:Stmt:=x0v (top 52) 4
noncomputable abbrev q7h:Stmt:=top 53
noncomputable abbrev q7t:Stmt:=top 66
noncomputable abbrev q7u:Stmt:=top 67
noncomputable abbrev x0i:Stmt:=top 68
noncomputable abbrev q4i:Stmt:=top 70
noncomputable abbrev q3r:Stmt:=top 72
noncomputable abbrev x2n:Stmt:=top 73
noncomputable abbrev q8s:Stmt:=top 74
noncomputable abbrev q8u:Stmt:=top 75
noncomputable abbrev z7q:Stmt:=top 77
noncomputable abbrev z0k:Stmt:=top 78
noncomputable abbrev q6i:Stmt:=top 79
noncomputable abbrev x8d:Stmt:=top 80
noncomputable abbrev q7j:Stmt:=top 81
noncomputable abbrev q7k:Stmt:=top 82
noncomputable abbrev q3x:Stmt:=top 83
noncomputable abbrev x6s:Stmt:=top 84
noncomputable abbrev q6j:Stmt:=top 85
noncomputable abbrev q8y:Stmt:=top 86
noncomputable abbrev q7i:Stmt:=top 87
noncomputable abbrev q4t:Stmt:=top 88
noncomputable abbrev q2v:Stmt:=top 89
noncomputable abbrev q7s:Stmt:=top 90
noncomputable abbrev q6g:Stmt:=top 91
noncomputable abbrev q4k:Stmt:=top 92
noncomputable abbrev q5n:Stmt:=top 93
noncomputable abbrev q5w:Stmt:=top 94
noncomputable abbrev q5i:Stmt:=top 95
noncomputable abbrev q6m:Stmt:=top 96
noncomputable abbrev q5j:Stmt:=top 97
noncomputable abbrev q6f:Stmt:=top 98
noncomputable abbrev q5x:Stmt:=top 99
noncomputable abbrev z5c:Stmt:=top 100
end K1
namespace Kp
open PySem L2
theorem q1n {n:Nat} (h:n≤1000):n≤sizeLine:=by rw [sizeLine_eq]; omega
section
variable {X:Cx} {es l:List Expr} {te:TE} {t u:TA} {p p' pos:Pos} {j:Nat}
theorem q4c {x:Str} (ha:PE X (.Name x p) te) (r:QA X es t):QA X (.Name x p::es) (q4h te t):=⟨q0z ha r.h⟩
theorem q7c {f:Expr} {as:List Expr} {ks:List Keyword} (ha:PE X (.Call f as ks p) te) (r:QA X es t):QA X (.Call f as ks p::es) (q4h te t):=⟨q8r ha r.h⟩
theorem q5a {a b:Expr} (ha:PE X (.Subscript a b p) te) (r:QA X es t):QA X (.Subscript a b p::es) (q4h te t):=⟨q2r ha r.h⟩
theorem z6p {o:Operator} {a b:Expr} (ha:PE X (.BinOp a o b p) te) (r:QA X es t):QA X (.BinOp a o b p::es) (q4h te t):=⟨q9d ha r.h⟩
theorem q1d (a:QA X es t):QE X (.Tuple es j p) (j5w t):=⟨z6y a.h⟩
theorem x9s {a b:Expr} {ta tb:TE} {r:R2} (hx:IxR X r) (ha:QE X a ta) (hb:PE X b tb) (px:q6n b):QE X (.Subscript a b pos) (tOp r ta tb):=⟨q0f hx ha.h hb px⟩
end
section
variable {X:Cx} {es l:List Expr} {n m:Nat} {p p':Pos} {j:Nat}
end
section
variable {es l:List Expr} {te:TE} {t u:TA} {p p' pos:Pos} {j:Nat}
theorem j5n {X:Cx} {st:Stmt} {q5g:List Stmt} {t u:TS} (h1:QS X st t) (h2:PSs X q5g u):PSs X (st::q5g) (j6d t u):=x8k h1.h h2
theorem q0j {X:Cx} {st:Stmt} {q5g:List Stmt} {t u:TS} (h1:PS X st t) (h2:PSs X q5g u):PSs X (st::q5g) (j6d t u):=x8k h1 h2
theorem q0p {X:Cx} {st:Stmt} {t:TS} (h1:PS X st t):PSs X [st] t:=z7x h1
end
end Kp
namespace L2
open PySem PySem.Spec PyProof.Rows
section
variable {X:Cx}
theorem x4z:∀ {xs:List Str} {us:List Value},StrsAre us xs→q2i (xs.map V.str) us
 | [],_,h=>by cases h; exact .nil
 | x::xs,_,h=>by
  cases h with
  | cons _ _ t=>exact .cons ⟨_,rfl⟩ (x4z t)
end
end L2
namespace Kp
open PySem
end Kp
namespace Kp
open PySem L2
noncomputable def q2o (H H':Hp):Prop:=∀ b xs,H b=some (.tup xs)→H' b=some (.tup xs)
theorem q3w {t:St} (h:t.length=1):∃ t0,t=[t0]:=by
 match t,h with
 | [t0],_=>exact⟨t0,rfl⟩
end Kp
namespace L2
open PySem PySem.Spec PyProof.Rows
section
variable {κ:Type} [DecidableEq κ]
noncomputable def q9o (kvs:List (κ × V)) (k:κ):Option V:=(kvs.find? fun kv=>decide (kv.1=k)).map (·.2)
noncomputable def q7y (kvs:List (κ × V)) (k:κ) (v:V):List (κ × V) :=
 if (kvs.any fun kv=>decide (kv.1=k))=true then kvs.map (fun kv=>if kv.1=k then (kv.1,v) else kv) else kvs++[(k,v)]
theorem q3h {p:κ × V} {r:List (κ × V)} {k:κ} (e:p.1=k):q9o (p::r) k=some p.2:=by simp [q9o,List.find?_cons,e]
theorem q3n {p:κ × V} {r:List (κ × V)} {k:κ} (e:¬ p.1=k):q9o (p::r) k=q9o r k:=by simp [q9o,List.find?_cons,e]
theorem q8c (k:κ):∀ kvs:List (κ × V),(kvs.any fun kv=>decide (kv.1=k))=(q9o kvs k).isSome
 | []=>rfl
 | p::r=>by
  rw [List.any_cons]
  by_cases e:p.1=k
  ·simp only [q3h e,decide_eq_true e,Bool.true_or,Option.isSome_some]
  ·rw [q3n e,decide_eq_false e,Bool.false_or]; exact q8c k r
theorem x7n (k j:κ) (y:V):∀ kvs:List (κ × V),q9o (kvs.map fun kv=>if kv.1=k then (kv.1,y) else kv) j=(q9o kvs j).map fun x=>if j=k then y else x
 | []=>rfl
 | p::r=>by
  have ih:=x7n k j y r
  rw [List.map_cons]
  by_cases h:p.1=k
  ·rw [if_pos h]
   by_cases e:p.1=j
   ·rw [q3h (p:=(p.1,y)) e,q3h e,Option.map_some,if_pos (e.symm.trans h)]
   ·rw [q3n (p:=(p.1,y)) e,q3n e,ih]
  ·rw [if_neg h]
   by_cases e:p.1=j
   ·rw [q3h (p:=p) e,q3h e,Option.map_some,if_neg (fun z=>h (e.trans z))]
   ·rw [q3n (p:=p) e,q3n e,ih]
theorem x5h (k j:κ) (y:V):∀ kvs:List (κ × V),q9o kvs k=none→q9o (kvs++[(k,y)]) j=if j=k then some y else q9o kvs j
 | [],_=>by
  by_cases e:k=j
  ·rw [if_pos e.symm]; exact q3h (p:=(k,y)) e
  ·rw [if_neg (fun z=>e z.symm)]; exact q3n (p:=(k,y)) e
 | p::r,hn=>by
  rw [List.cons_append]
  have hk:¬ p.1=k:=fun z=>by rw [q3h z] at hn; cases hn
  rw [q3n hk] at hn
  have ih:=x5h k j y r hn
  by_cases e:p.1=j
  ·rw [q3h e,q3h e,if_neg (fun z=>hk (e.trans z))]
  ·rw [q3n e,q3n e,ih]
theorem x8a (kvs:List (κ × V)) (k j:κ) (y:V):q9o (q7y kvs k y) j=if j=k then some y else q9o kvs j:=by
 unfold q7y
 by_cases a:(kvs.any fun kv=>decide (kv.1=k))=true
 ·rw [if_pos a,x7n]
  rw [q8c] at a
  by_cases e:j=k
  ·obtain⟨x,hx⟩:=Option.isSome_iff_exists.mp a
   rw [if_pos e,e,hx,Option.map_some,if_pos rfl]
  ·rw [if_neg e]
   cases q9o kvs j with
   | none=>rfl
   | some x=>rw [Option.map_some,if_neg e]
 ·rw [if_neg a]
  refine x5h k j y kvs ?_
  rw [q8c] at a
  cases q:q9o kvs k with
  | none=>rfl
  | some x=>rw [q] at a; exact (a rfl).elim
theorem x0s (kvs:List (κ × V)) (k:κ) (v:V):(q7y kvs k v).length≤kvs.length+1:=by
 unfold q7y
 split
 ·rw [List.length_map]; omega
 ·rw [List.length_append,List.length_cons,List.length_nil]; omega
theorem x3x.isSome_eq {o:Option V} {u:Option Value} (r:x3x o u):o.isSome=u.isSome:=by
 cases o with
 | none=>cases u with
  | none=>rfl
  | some _=>exact (show False from r).elim
 | some _=>cases u with
  | none=>exact (show False from r).elim
  | some _=>rfl
theorem x3x.getD {o:Option V} {u:Option Value} {d:V} {d':Value} (r:x3x o u) (rd:q3a d d'):q3a (o.getD d) (u.getD d'):=by
 cases o with
 | none=>cases u with
  | none=>exact rd
  | some _=>exact (show False from r).elim
 | some _=>cases u with
  | none=>exact (show False from r).elim
  | some _=>exact r
theorem KV.val {kvs:List (κ × V)} {vs:List (κ × Value)} (r:KV kvs vs) (k:κ):x3x (q9o kvs k) (valueAt vs k):=by
 unfold KV at r
 induction r with
 | nil=>exact True.intro
 | @cons p q ps qs h t ih =>
  obtain⟨h1,h2⟩:=h
  by_cases e:p.1=k
  ·have e':q.1=k:=h1.symm.trans e
   have b:valueAt (q::qs) k=some q.2:=by simp [valueAt,List.find?_cons,e']
   rw [q3h e,b]; exact h2
  ·have e':¬ q.1=k:=fun z=>e (h1.trans z)
   have b:valueAt (q::qs) k=valueAt qs k:=by simp [valueAt,List.find?_cons,e']
   rw [q3n e,b]; exact ih
theorem KV.any {kvs:List (κ × V)} {vs:List (κ × Value)} (r:KV kvs vs) (k:κ):(kvs.any fun kv=>decide (kv.1=k))=vs.any fun kv=>decide (kv.1=k):=by
 unfold KV at r
 induction r with
 | nil=>rfl
 | cons h t ih=>rw [List.any_cons,List.any_cons,ih,h.1]
theorem KV.repl {kvs:List (κ × V)} {vs:List (κ × Value)} (r:KV kvs vs) (k:κ) {y:V} {u:Value} (ry:q3a y u) :
  KV (kvs.map fun kv=>if kv.1=k then (kv.1,y) else kv) (vs.map fun kv=>if kv.1=k then (kv.1,u) else kv):=by
 unfold KV at r ⊢
 induction r with
 | nil=>exact .nil
 | @cons p q ps qs h t ih =>
  rw [List.map_cons,List.map_cons]
  refine .cons ?_ ih
  obtain⟨h1,h2⟩:=h
  by_cases e:p.1=k
  ·rw [if_pos e,if_pos (h1.symm.trans e)]; exact⟨h1,ry⟩
  ·rw [if_neg e,if_neg (fun z=>e (h1.trans z))]; exact⟨h1,h2⟩
theorem KV.put {kvs:List (κ × V)} {vs:List (κ × Value)} (r:KV kvs vs) (k:κ) {y:V} {u:Value} (ry:q3a y u):KV (q7y kvs k y) (stored vs k u):=by
 unfold q7y stored
 rw [r.any k]
 by_cases e:(vs.any fun kv=>decide (kv.1=k))=true
 ·rw [if_pos e,if_pos e]; exact r.repl k ry
 ·rw [if_neg e,if_neg e]; exact Paired.snoc r ⟨rfl,ry⟩
theorem KV.keys {kvs:List (κ × V)} {vs:List (κ × Value)} (r:KV kvs vs):kvs.map (·.1)=vs.map (·.1):=by
 unfold KV at r
 induction r with
 | nil=>rfl
 | cons h t ih=>rw [List.map_cons,List.map_cons,ih,h.1]
theorem KV.length {kvs:List (κ × V)} {vs:List (κ × Value)} (r:KV kvs vs):kvs.length=vs.length:=Paired.length r
end
theorem z6a {P:Program} {w:World} {k:Key} {u:Value} (r:q3a (kV k) u):(q2x P w).is k u=true:=by
 cases k with
 | inl i=>obtain⟨t,e⟩:=(show ∃ t,u=Value.int i t from r); subst e; exact x6k P w i t
 | inr x=>obtain⟨t,e⟩:=(show ∃ t,u=Value.str x t from r); subst e; exact x6a P w x t
theorem x5b {P:Program} {w:World}:∀ {ks:List Key} {us:List Value},q2i (ks.map kV) us→ItemsAre (q2x P w) ks us
 | [],_,r=>by rw [List.map_nil] at r; cases r; exact .nil
 | k::ks,_,r=>by
  rw [List.map_cons] at r
  cases r with
  | cons h t=>exact .cons (z6a h) (x5b t)
noncomputable abbrev KT (H:Hp):List (List Key × V)→List (List Key × Addr × Value)→Prop:=Paired fun p q=>p.1=q.1∧H q.2.1=some (.tup (p.1.map kV))∧q3a p.2 q.2.2
theorem KT.val {H:Hp} {kvs:List (List Key × V)} {xs:List (List Key × Addr × Value)} (r:KT H kvs xs) (k:List Key):x3x (q9o kvs k) ((atKey xs k).map (·.2)):=by
 induction r with
 | nil=>exact True.intro
 | @cons p q ps qs h t ih =>
  obtain⟨h1,_,h2⟩:=h
  by_cases e:p.1=k
  ·have e':q.1=k:=h1.symm.trans e
   have b:atKey (q::qs) k=some q.2:=by simp [atKey,List.find?_cons,e']
   rw [q3h e,b]; exact h2
  ·have e':¬ q.1=k:=fun z=>e (h1.trans z)
   have b:atKey (q::qs) k=atKey qs k:=by simp [atKey,List.find?_cons,e']
   rw [q3n e,b]; exact ih
theorem KT.repl {H:Hp} {kvs:List (List Key × V)} {xs:List (List Key × Addr × Value)} (r:KT H kvs xs) (k:List Key) {y:V} {u:Value} (ry:q3a y u) :
  KT H (kvs.map fun kv=>if kv.1=k then (kv.1,y) else kv) (xs.map (putAt k u)):=by
 induction r with
 | nil=>exact .nil
 | @cons p q ps qs h t ih =>
  rw [List.map_cons,List.map_cons]
  refine .cons ?_ ih
  obtain⟨h1,h2,h3⟩:=h
  unfold putAt
  by_cases e:p.1=k
  ·rw [if_pos e,if_pos (h1.symm.trans e)]; exact⟨h1,h2,ry⟩
  ·rw [if_neg e,if_neg (fun z=>e (h1.trans z))]; exact⟨h1,h2,h3⟩
theorem KT.put {H:Hp} {kvs:List (List Key × V)} {xs:List (List Key × Addr × Value)} (r:KT H kvs xs) (k:List Key) {b:Addr} {y:V} {u:Value} (hb:H b=some (.tup (k.map kV))) (ry:q3a y u) :
  KT H (q7y kvs k y) (storedH xs k b u):=by
 have e:(kvs.any fun kv=>decide (kv.1=k))=(atKey xs k).isSome:=by
  rw [q8c,(r.val k).isSome_eq,Option.isSome_map]
 unfold q7y storedH
 rw [e]
 by_cases q:(atKey xs k).isSome=true
 ·rw [if_pos q,if_pos q]; exact r.repl k ry
 ·rw [if_neg q,if_neg q]; exact Paired.snoc r ⟨rfl,hb,ry⟩
theorem KT.keeps {H H':Hp} {kvs:List (List Key × V)} {xs:List (List Key × Addr × Value)} (r:KT H kvs xs) (ht:∀ b ys,H b=some (.tup ys)→H' b=some (.tup ys)):KT H' kvs xs :=
 Paired.mapP r fun _ _ z=>⟨z.1,ht _ _ z.2.1,z.2.2⟩
section
variable {P:Program} {w:World} {H:Hp} {h:Heap} {a:Addr}
theorem j1m {u:HO} (ok:HOk P w H h) (e:Rd H a u):q3k P w H h a u:=e.ok ok
theorem z1j {kvs:List (Key × V)} (ok:HOk P w H h) (e:Rd H a (.dK kvs)):kvs.length≤sizeLine∧(a==sysModules)=false∧∃ vs,KV kvs vs∧h.DictOf (q2x P w) a vs :=
 show q3k P w H h a (.dK kvs) from j1m ok e
theorem j1o {kvs:List (Key × V)} (ok:HOk P w H h) (e:H a=some (.dK kvs)):kvs.length≤sizeLine∧(a==sysModules)=false∧∃ vs,KV kvs vs∧h.DictOf (q2x P w) a vs:=z1j ok (.inl e)
theorem x7w {ks:List Key} (ok:HOk P w H h) (e:H a=some (.tup (ks.map kV))):(tupleKind (q2x P w)).is h ks a:=by
 obtain⟨_,its,r,o,h1,h2,n,h3⟩:=(show q3k P w H h a (.tup (ks.map kV)) from ok a _ e)
 exact⟨o,its.toArray,n,h1,h2,h3,by simpa using x5b r⟩
theorem z2d {kvs:List (List Key × V)} (ok:HOk P w H h) (e:Rd H a (.dT kvs)):kvs.length≤sizeLine∧(a==sysModules)=false ∧
  ∃ xs,KT H kvs xs∧h.DictOfH (tupleKind (q2x P w)) a xs:=by
 obtain⟨z,y,xs,r,o,es,ep,h1,h2,h3,h4,h5⟩:=(show q3k P w H h a (.dT kvs) from j1m ok e)
 refine⟨z,y,xs,r,o,es,ep,h1,h2,h3,h4,fun x hx=>?_,h5⟩
 have all:∀ {l:List (List Key × V)} {m:List (List Key × Addr × Value)},KT H l m→∀ x∈m,(tupleKind (q2x P w)).is h x.1 x.2.1:=by
  intro l m q
  induction q with
  | nil=>intro x hx; exact nomatch hx
  | @cons p q ps qs hq t ih =>
   intro x hx
   rcases List.mem_cons.mp hx with e | hx
   ·subst e
    exact x7w ok (by rw [← hq.1]; exact hq.2.1)
   ·exact ih x hx
 exact all r x hx
theorem j5q {kvs:List (List Key × V)} (ok:HOk P w H h) (e:H a=some (.dT kvs)):kvs.length≤sizeLine∧(a==sysModules)=false ∧
  ∃ xs,KT H kvs xs∧h.DictOfH (tupleKind (q2x P w)) a xs:=z2d ok (.inl e)
end
noncomputable def x8u (H:Hp) (a:Addr) (y:V) (r:Option V):Prop :=
 (∃ kvs k,Rd H a (.dK kvs)∧y=kV k∧r=q9o kvs k)∨∃ kvs k b,Rd H a (.dT kvs)∧y=.ref b∧H b=some (.tup (k.map kV))∧r=q9o kvs k
noncomputable def z7d (H:Hp) (a:Addr) (y v:V) (H':Hp):Prop :=
 (∃ kvs k,H a=some (.dK kvs)∧y=kV k∧kvs.length < sizeLine∧H'=upd H a (.dK (q7y kvs k v))) ∨
 ∃ kvs k b,H a=some (.dT kvs)∧y=.ref b∧H b=some (.tup (k.map kV))∧kvs.length < sizeLine∧H'=upd H a (.dT (q7y kvs k v))
theorem x8u.k {H:Hp} {a:Addr} {kvs:List (Key × V)} {k:Key} (e:H a=some (.dK kvs)):x8u H a (kV k) (q9o kvs k):=.inl ⟨kvs,k,.inl e,rfl,rfl⟩
theorem z7d.k {H:Hp} {a:Addr} {kvs:List (Key × V)} {k:Key} {v:V} (e:H a=some (.dK kvs)) (hl:kvs.length < sizeLine):z7d H a (kV k) v (upd H a (.dK (q7y kvs k v))):=.inl ⟨kvs,k,e,rfl,hl,rfl⟩
section
variable {X:Cx} {pins:List (Addr × Obj)} {σ:St} {H:Hp} {s:Shared} {a:Addr} {y v:V} {u r:Value} {o:Option V} {A:Around} {E:Value→Shared→Prop}
theorem Inv.big (I:Inv X pins σ H s):sysModules < s.heap.objs.size:=by
 have h:mainGlobals < s.heap.objs.size:=(I.mod.glob.keeps I.bk).lt
 exact Nat.lt_trans (by decide) h
theorem z1n {Q:Value→Shared→Prop} (hu:A.units+1 < cLine) (I:Inv X pins σ H s) (g:x8u H a y (some v)) (ry:q3a y u) (h:∀ w' s',Inv X pins σ H s'→q3a v w'→Q w' s') :
  wpAny (model X.prog X.w) A (getItem (.ref a) u) Q E s:=by
 rcases g with ⟨kvs,k,e,ey,l⟩ | ⟨kvs,k,b,e,ey,eb,l⟩
 ·subst ey
  obtain⟨z,hd,vs,rel,dd⟩:=z1j I.hok e
  obtain⟨w',hw,rw'⟩:=x3x.some_of (v:=v) (o:=valueAt vs k) (by rw [l]; exact rel.val k)
  exact wpAny_getItem_of (z6a ry) dd.mapOf hw (h w' _ (I.tok _) rw')
 ·subst ey
  cases (show u=Value.ref b from ry)
  obtain⟨z,hd,xs,rel,dd⟩:=z2d I.hok e
  obtain⟨w',hw,rw'⟩:=x3x.some_of (v:=v) (o:=(atKey xs k).map (·.2)) (by rw [l]; exact rel.val k)
  obtain⟨p,hp,hp2⟩:=Option.map_eq_some_iff.mp hw
  refine wpAny_getItem_heap (tupleKind_room_in1 hu) (x7w I.hok eb) dd hp ?_
  rw [hp2]
  exact h w' _ (I.tok _) rw'
theorem z3m {h':Heap} {t':Nat} {ob:HO} (I:Inv X pins σ H s) (mu:Mut (H a)) (hs:Heap.SameBut a s.heap h') (he:∃ q,h'.get? a=some q) (new:q3k X.prog X.w (upd H a ob) h' a ob) :
  Inv X pins σ (upd H a ob) { s with heap:=h',toks:=t' } :=
 I.write (x:=a) (e:=a) mu (.inl rfl) (fun b q hb z=>(hs.2 b hb).trans z) he new
theorem j1v {P:Program} {w:World} {H':Hp} {h':Heap} {kvs:List (Key × V)} {vs:List (Key × Value)} (z:kvs.length≤sizeLine) (hd:(a==sysModules)=false) (rel:KV kvs vs) (dd:h'.DictOf (q2x P w) a vs) :
  q3k P w H' h' a (.dK kvs):=⟨z,hd,vs,rel,dd⟩
theorem z1a {H':Hp} {Q:Unit→Shared→Prop} (hu:A.units+1 < cLine) (I:Inv X pins σ H s) (g:z7d H a y v H') (ry:q3a y u) (rv:q3a v r) (h:∀ s',Inv X pins σ H' s'→Q () s') :
  wpAny (model X.prog X.w) A (setItem (.ref a) u r) Q E s:=by
 rcases g with ⟨kvs,k,e,ey,l,eH⟩ | ⟨kvs,k,b,e,ey,eb,l,eH⟩
 ·subst ey eH
  obtain⟨z,hd,vs,rel,dd⟩:=j1o I.hok e
  have hz:vs.length≤sizeLine:=by rw [← rel.length]; exact z
  have hl:(q7y kvs k v).length≤sizeLine:=by have:=x0s kvs k v; omega
  refine wpAny_setItem_pairs (hsz:=hz) (z6a ry) dd fun h' dd' hs=>h _ ?_
  have he:∃ q,h'.get? a=some q:=let ⟨q,_,_,hq,_⟩:=dd'; ⟨q,hq⟩
  exact z3m I (by rw [e]; exact True.intro) hs he (j1v hl hd (rel.put k rv) dd')
 ·subst ey eH
  cases (show u=Value.ref b from ry)
  obtain⟨z,hd,xs,rel,dd⟩:=j5q I.hok e
  have hz:xs.length≤sizeLine:=by rw [← Paired.length rel]; exact z
  have hl:(q7y kvs k v).length≤sizeLine:=by have:=x0s kvs k v; omega
  refine wpAny_setItem_heap (hsz:=hz) (tupleKind_room_in1 hu) (x7w I.hok eb) dd fun h' dd' hs=>h _ ?_
  obtain⟨q,es,ep,hq,h2,h3,h4,_,h5⟩:=dd'
  refine z3m I (by rw [e]; exact True.intro) hs ⟨q,hq⟩ ⟨hl,hd,_,(rel.put k eb rv).keeps fun c ys ec=>?_,q,es,ep,hq,h2,h3,h4,h5⟩
  rw [q1c (j5x ec e (fun z=>nomatch z))]
  exact ec
end
section
variable {X:Cx} {pins:List (Addr × Obj)} {σ:St} {H:Hp} {s:Shared} {a:Addr} {kvs:List (Key × V)} {k:Key} {u:Value} {A:Around} {E:Value→Shared→Prop}
end
noncomputable def j7t (i:Expr):Prop:=∀ ov iv,subscripted i false ov iv=operate [ov,iv] (getItem ov iv)
theorem z9t {prog:Program} {w:World} {A:Around} {E:Value→Shared→Prop} {s:Shared} {env:Env} {value slice:Expr} {pos:Pos} {T id:String} {Q:Value→Shared→Prop}
  (hl:typeLookup (.type T) "__getitem__" = pure (some (.builtin id))) (hs:j7t slice)
  (h:wpAny (model prog w) A (eval value env) (fun o s₁=>wpAny (model prog w) A (eval slice env) (fun i s₂=>s₂.TypeIs o T∧wpAny (model prog w) A (getItem o i) Q E s₂) E s₁) E s) :
  wpAny (model prog w) A (eval (.Subscript value slice pos) env) Q E s:=by
 refine Subscript_ (wpAny_mono h (fun o s₁ h₁=>wpAny_mono h₁ (fun i s₂ h₂=>?_) fun _ _ x=>x) fun _ _ x=>x)
 obtain⟨hT,h₂⟩:=h₂
 unfold subscriptTail
 refine wpAny_bind ?_
 rw [getitemInPython_of_ne hT.not_modules]
 refine wpAny_bind (wpAny_specialOf hT hl ?_)
 have fin:wpAny (model prog w) A (subscripted slice false o i) (fun r s₃=>wpAny (model prog w) A (letTemporaryGo value o r >>= fun _=>pure r) Q E s₃) E s₂:=by
  rw [hs o i]
  exact wpAny_operating (wpAny_mono h₂ (fun r s₃ h₃=>wpAny_bind (wpAny_letTemporaryGo (wpAny_pure h₃))) fun _ _ x=>x)
 first
  | exact wpAny_pure (wpAny_bind fin)
  | exact wpAny_bind (wpAny_pure (wpAny_bind fin))
  | exact wpAny_bind fin
theorem x7b {X:Cx} {pins:List (Addr × Obj)} {σ:St} {H:Hp} {s:Shared} {a:Addr} {y:V} {o:Option V} (I:Inv X pins σ H s) (g:x8u H a y o):s.TypeIs (.ref a) "dict" := by
 rcases g with ⟨kvs,k,e,_,_⟩ | ⟨kvs,k,b,e,_,_,_⟩
 ·obtain⟨_,_,vs,_,dd⟩:=z1j I.hok e
  exact dd.typeIs
 ·obtain⟨_,_,xs,_,dd⟩:=z2d I.hok e
  exact dd.typeIs
noncomputable def j6u (td ty:TE):TE:=fun σ H Q=>td σ H fun x H1=>ty σ H1 fun y H2=>∃ a v,x=.ref a∧x8u H2 a y (some v)∧Q v H2
noncomputable def j6r (td ty tv:TE):TS:=fun D σ H=>tv σ H fun v H1=>td σ H1 fun x H2=>ty σ H2 fun y H3=>∃ a H4,x=.ref a∧z7d H3 a y v H4∧D.nx σ H4
section
variable {X:Cx} {o i e value:Expr} {pos pos' tpos:Pos} {td ty tv:TE}
theorem x6l (hu:X.A.units+1 < cLine) (ho:PE X o td) (hi:PE X i ty) (hs:j7t i):PE X (.Subscript o i pos) (j6u td ty):=by
 intro pins s σ H Q I h
 refine z9t PySem.F.slot_dict_getitem.lookup hs (thn (ho pins s σ H _ I h) fun u s1 ⟨x,H1,I1,rx,q1⟩=>thn (hi pins s1 σ H1 _ I1 q1) fun iv s2 ⟨y,H2,I2,ry,a,v,ex,g,q2⟩=>?_)
 subst ex
 obtain rfl:u=Value.ref a:=rx
 exact⟨x7b I2 g,z1n hu I2 g ry fun w' s3 I3 rw'=>⟨v,H2,I3,rw',q2⟩⟩
theorem x7g (hu:X.A.units+1 < cLine) (ho:PE X o td) (hi:PE X i ty) (hv:PE X value tv) (hs:swapsWith value (some (.Subscript o i pos')) pos.line X.env=pure false) :
  PS X (.Assign [.Subscript o i pos'] value pos) (j6r td ty tv):=by
 intro pins s σ H D I h
 refine wpAny_Assign_Subscript (thn (hv pins s σ H _ I h) fun r s1 ⟨v,H1,I1,rv,q1⟩=>thn (ho pins s1 σ H1 _ I1 q1) fun u s2 ⟨x,H2,I2,rx,q2⟩=>thn (hi pins s2 σ H2 _ I2 q2) fun iv s3 ⟨y,H3,I3,ry,a,H4,ex,g,q3⟩=>?_) hs
 subst ex
 obtain rfl:u=Value.ref a:=rx
 exact z1a hu I3 g ry rv fun s4 I4=>⟨σ,H4,I4,q3⟩
end
theorem z5s {P:Program} {w:World} {H:Hp} (h:Heap) (hb:sysModules < h.objs.size):q3k P w H (h.push { cls:=.type "dict",data:=.dict #[] }) h.objs.size (.dK []) :=
 ⟨Nat.zero_le _,beq_eq_false_iff_ne.mpr (Ne.symm (Nat.ne_of_lt hb)),[],.nil,Heap.DictOf.new h⟩
noncomputable def j2g:TE:=fun _ H Q=>∀ p,H p=none→Q (.ref p) (upd H p (.dK []))
section
variable {X:Cx} {pos:Pos}
theorem x8g:PE X (.Dict [] [] pos) j2g:=fun pins s σ H Q I h =>
 wpAny_Dict_empty ⟨.ref s.heap.objs.size,_,I.laid (a:=s.heap.objs.size) (o:=.dK []) (t':=s.toks) (fun _ _ q=>Heap.get?_push_of_some _ q) (Nat.le_refl _) (z5s s.heap I.big),rfl,h _ (I.hok.fresh (Nat.le_refl _))⟩
end
end L2
namespace Kp
open PySem L2 PySem.Spec PyProof.Rows
end Kp
namespace Kp
open PySem L2
mutual
inductive ThN (B:Nat) (H:Hp):V→Prop
 | non:ThN B H .non
 | bl (b:Bool):ThN B H (.bl b)
 | int (i:Int):ThN B H (.int i)
 | str (x:Str) (h:x.length≤B):ThN B H (.str x)
 | tup {a:Addr} {vs:List V} (e:H a=some (.tup vs)) (l:vs.length≤B) (r:ThNL B H vs):ThN B H (.ref a)
inductive ThNL (B:Nat) (H:Hp):List V→Prop
 | nil:ThNL B H []
 | cons {v:V} {vs:List V} (h:ThN B H v) (t:ThNL B H vs):ThNL B H (v::vs)
end
mutual
theorem ThN.sameT {B B':Nat} {H H':Hp} (hB:B≤B') (s:q2o H H'):∀ {v},ThN B H v→ThN B' H' v
 | _,.non=>.non
 | _,.bl b=>.bl b
 | _,.int i=>.int i
 | _,.str x h=>.str x (Nat.le_trans h hB)
 | _,.tup e l r=>.tup (s _ _ e) (Nat.le_trans l hB) (ThNL.sameT hB s r)
theorem ThNL.sameT {B B':Nat} {H H':Hp} (hB:B≤B') (s:q2o H H'):∀ {vs},ThNL B H vs→ThNL B' H' vs
 | _,.nil=>.nil
 | _,.cons h t=>.cons (ThN.sameT hB s h) (ThNL.sameT hB s t)
end
mutual
theorem ThN.th {B:Nat} {H:Hp}:∀ {v},ThN B H v→Th B H v
 | _,.non=>Th.non
 | _,.bl b=>Th.bl b
 | _,.int i=>Th.int i
 | _,.str x h=>Th.str x h
 | _,.tup e l r=>Th.tup e l (ThNL.th r)
theorem ThNL.th {B:Nat} {H:Hp}:∀ {vs},ThNL B H vs→ThL B H vs
 | _,.nil=>ThL.nil
 | _,.cons h t=>ThL.cons (ThN.th h) (ThNL.th t)
end
theorem q1j {H H':Hp} (s:q1l H H'):q2o H H':=fun b xs e=>s _ _ e
theorem ThN.mono {B B':Nat} {H H':Hp} {v:V} (h:ThN B H v) (hB:B≤B') (s:q1l H H'):ThN B' H' v:=ThN.sameT hB (q1j s) h
end Kp
namespace HT
open PySem PySem.Spec PyProof.Rows L2
section
variable {prog:Program} {w:World} {A:Around} {E:Value→Shared→Prop} {s:Shared}
theorem getItem_tuple_whole {t sl:Addr} {items:Array Value} {vl vu:Value} {lo hi:Option Int} {Q:Value→Shared→Prop} (ht:IsTup s.heap t items) (hs:s.heap.IsSliceOf sl vl vu .none) (pl:IsPart vl lo) (pu:IsPart vu hi)
  (hw:sIx items.size 0 lo=0∧sIx items.size items.size hi=items.size) (h:Q (.ref t) s):wpAny (model prog w) A (getItem (.ref t) (.ref sl)) Q E s:=by
 obtain⟨os,hos,hcs,hds⟩:=id hs
 have hTs:s.TypeIs (.ref sl) "slice" := ⟨os,hos,hcs⟩
 unfold getItem
 try with_reducible refine wpAny_holding ?_
 first | refine wpAny_bind (wpAny_pure ?_) | skip
 refine wpAny_bind (wpAny_sequenceKey ht.typeIs (by decide) ?_)
 refine wpAny_bind (wpAny_callSpecial?_slot (name:=Str.ofString "__getitem__") ht.typeIs PyProof.Rows.slot_tuple_getitem
  (wpAny_call_entry PyProof.Rows.slot_tuple_getitem ht.typeIs entry_tuple_getitem ?_ (args_tuple_getitem _ _)))
 show wpAny _ _ (Builtin.Tuple.tupleItemsOf (.ref t) >>= _) _ _ s
 refine wpAny_bind (tupleItemsOf_ ht ?_)
 refine wpAny_bind (wpAny_typeOf hTs ?_)
 rw [if_pos (by decide)]
 refine wpAny_bind (q6b hs pl pu ?_)
 have hyes:(((sIx items.size 0 lo:Nat):Int)==0 && (1:Int)==1 && (sIx items.size items.size hi - sIx items.size 0 lo)==items.size)=true:=by
  rw [hw.1,hw.2]; simp
 show wpAny _ _ (if (((sIx items.size 0 lo:Nat):Int)==0 && (1:Int)==1 && (sIx items.size items.size hi - sIx items.size 0 lo)==items.size)=true then _ else _) _ _ s
 rw [if_pos hyes]
 refine wpAny_bind (m:=Builtin.Tuple.tupleIsExact _) (wpAny_bind (wpAny_typeOf ht.typeIs (wpAny_pure ?_)))
 rw [if_pos (by decide)]
 refine wpAny_bind (wpAny_rule ?_)
 first
  | exact wpAny_bind (wpAny_pure (wpAny_pure ⟨_,rfl,wpAny_pure h⟩))
  | exact wpAny_pure ⟨_,rfl,wpAny_pure h⟩
  | exact wpAny_bind (wpAny_pure ⟨_,rfl,wpAny_pure h⟩)
end
end HT
namespace L2
open PySem PySem.Spec PyProof.Rows L2
theorem x9h {xs:List V} {lo hi:Option Int} (h1:HT.sIx xs.length 0 lo=0) (h2:HT.sIx xs.length xs.length hi=xs.length):x1x xs lo hi=xs:=by
 unfold x1x; rw [h1,h2]; simp
end L2
namespace Kp
open PySem L2 PySem.Spec PyProof.Rows
theorem q5h (n:Nat):((List.range n).all fun _=>true)=true:=by simp
theorem q2i.at {xs:List V} {us:List Value} (r:q2i xs us) {j:Nat} (h:j < us.toArray.size):∃ x,xs[j]? = some x∧q3a x us.toArray[j]:=by
 have h':j < us.length:=by simpa using h
 have hx:j < xs.length:=by rw [r.length]; exact h'
 obtain⟨u,e,rv⟩:=r.get (i:=j) (x:=xs[j]) (by simp [hx])
 have e2:us.toArray[j]=u:=by
  have:=(List.getElem?_eq_some_iff.mp e).2
  simpa using this
 exact⟨xs[j],by simp [hx],e2▸rv⟩
end Kp
namespace K1
open PySem L2 Kp
structure Txt (mg:Str→Option Value):Prop where
 isi:mg "isinstance" = none
 int:mg "int" = none
 bool:mg "bool" = none
 str:mg "str" = none
 tuple:mg "tuple" = none
 list:mg "list" = none
 all:mg "all" = none
 zip:mg "zip" = none
 len:mg "len" = none
 range:mg "range" = none
 max:mg "max" = none
 min:mg "min" = none
 sorted:mg "sorted" = none
 any:mg "any" = none
 sum:mg "sum" = none
section
variable {P:Program} {w:World} {K:Frag} {mg:Str→Option Value} {base:Heap}
theorem SqT.same {H H':Hp} {a:Addr} {xs:List V} (h:SqT K H a xs) (s:q1l H H'):SqT K H' a xs:=by
 rcases h with h | h
 ·exact .inl (h.elim (fun e=>.inl (s _ _ e)) fun⟨o,e⟩=>.inr ⟨o,s _ _ e⟩)
 ·exact .inr h
theorem SqL.same {H H':Hp} {a:Addr} {xs:List V} (h:SqL K H a xs) (s:q1l H H'):SqL K H' a xs:=by
 rcases h with h | h
 ·exact .inl (h.elim (fun e=>.inl (s _ _ e)) fun⟨o,e⟩=>.inr ⟨o,s _ _ e⟩)
 ·exact .inr h
theorem q2j (x:Int) {m:Int} (h:0 < m):0≤x % m∧x % m < m:=⟨Int.emod_nonneg _ (Int.ne_of_gt h),Int.emod_lt_of_pos _ h⟩
end
end K1
namespace L2
open PySem PySem.Spec PyProof.Rows
noncomputable def isInt (z:Int):Value→Bool
 | .int i _=>i==z
 | _=>false
section
variable {X:Cx}
variable {o e:Expr} {es:List Expr} {to:TE} {t:TA} {name:Str} {apos cpos:Pos} {id:String} {r:V→List V→Hp→VK→Prop}
end
section
variable {X:Cx}
theorem x2x:∀ {xs:List Int} {us:List Value},q2i (xs.map V.int) us→IntsAre us xs
 | [],_,h=>by cases h; exact .nil
 | x::xs,_,h=>by
  cases h with
  | cons r t=>obtain⟨tk,rfl⟩:=r; exact .cons _ _ (x2x t)
end
end L2
namespace K1
open PySem L2 Kp
theorem z1f {X:Cx} {K:Frag} (hK:X.K=K):OpR X (compareOp .NotIn) (rIn K true):=by subst hK; exact q9i
theorem q8j (l:List Int):(l.map V.int).all q4b=true:=by
 rw [List.all_eq_true]
 intro x hx
 obtain⟨c,_,rfl⟩:=List.mem_map.mp hx
 rfl
theorem z3o (x:Int):∀ l:List Int,inV (V.int x) (l.map V.int)=decide (x∈l)
 | []=>rfl
 | y::l=>by
  show (decide ((y:Int)=x) || inV (V.int x) (l.map V.int))=_
  rw [z3o x l,Bool.eq_iff_iff]
  simp only [Bool.or_eq_true,decide_eq_true_eq,List.mem_cons]
  exact⟨fun h=>h.imp Eq.symm id,fun h=>h.imp Eq.symm id⟩
theorem q2m:bootBuiltins "max" = some (.builtin "max"):=by decide +kernel
end K1
namespace L2
open PySem PySem.Spec PyProof.Rows
section
variable {X:Cx}
theorem z4z:∀ {xs ys:List V},((List.range (min xs.length ys.length)).all (fun j=>eqV (xs.getD j .non) (ys.getD j .non)) && xs.length==ys.length)=x5r xs ys:=fun {xs ys}=>by
 by_cases h:xs.length=ys.length
 ·rw [h,Nat.min_self,beq_self_eq_true,Bool.and_true,← h,q6u h]
 ·rw [q9y h]
  have:(xs.length==ys.length)=false:=by simpa using h
  rw [this,Bool.and_false]
theorem z8o {pins:List (Addr × Obj)} {σ:St} {H:Hp} {s:Shared} {xs ys:List V} {its jts:List Value} (A:Around) (r1:q2i xs its) (r2:q2i ys jts) (f1:xs.all q4b=true) (f2:ys.all q4b=true) (j:Nat) (g1:j < its.toArray.size) (g2:j < jts.toArray.size) :
  SeqAt.EqAt A s its.toArray[j] jts.toArray[j] (eqV (xs.getD j .non) (ys.getD j .non)):=by
 have j1:j < xs.length:=by rw [r1.length]; simpa using g1
 have j2:j < ys.length:=by rw [r2.length]; simpa using g2
 obtain⟨u1,e1,ru1⟩:=r1.get (i:=j) (x:=xs[j]) (by simp [j1])
 obtain⟨u2,e2,ru2⟩:=r2.get (i:=j) (x:=ys[j]) (by simp [j2])
 have z1:its.toArray[j]=u1:=by
  have:=(List.getElem?_eq_some_iff.mp e1).2
  simpa using this
 have z2:jts.toArray[j]=u2:=by
  have:=(List.getElem?_eq_some_iff.mp e2).2
  simpa using this
 rw [z1,z2]
 have w1:xs.getD j .non=xs[j]:=by simp [j1]
 have w2:ys.getD j .non=ys[j]:=by simp [j2]
 rw [w1,w2]
 exact x1w ru1 ru2 (List.all_eq_true.mp f1 _ (List.getElem_mem j1)) (List.all_eq_true.mp f2 _ (List.getElem_mem j2))
theorem z6m (hu:X.A.units < cLine):OpR X (compareOp .NotEq) (fun x y H Q=>∃ p q xs ys,x=.ref p∧y=.ref q∧SqT X.K H p xs∧SqT X.K H q ys∧xs.all q4b=true∧ys.all q4b=true∧Q (.bl (!x5r xs ys)) H):=by
 intro pins s σ H x y v u Q I rx ry h
 obtain⟨p,q',xs,ys,rfl,rfl,h1,h2,f1,f2,q⟩:=h
 cases rx
 cases ry
 obtain⟨its,r1,p1,_⟩:=I.tuple h1
 obtain⟨jts,r2,p2,_⟩:=I.tuple h2
 refine SeqAt.RcNeAt.tuples (e:=fun j=>eqV (xs.getD j .non) (ys.getD j .non)) (show s.heap.IsTuple p its.toArray from p1) (show s.heap.IsTuple q' jts.toArray from p2) hu (z8o (pins:=pins) (σ:=σ) (H:=H) _ r1 r2 f1 f2) X.prog X.w X.xe _ ⟨.bl (!x5r xs ys),H,I,?_,q⟩
 rw [List.size_toArray,List.size_toArray,← r1.length,← r2.length,z4z]; rfl
end
end L2
namespace K1
open PySem L2 Kp
theorem z1q (ms:List Int) (p:Int→Bool):(((List.range (ms.map V.int).length).filter fun i=>p (ms.getD i 0)).map fun i=>V.int (ms.getD i 0))=(ms.filter p).map V.int:=by
 have e0:ms=(List.range ms.length).map fun i=>ms.getD i 0:=by
  apply List.ext_getElem?
  intro i
  by_cases hi:i < ms.length
  ·simp [hi]
  ·rw [List.getElem?_eq_none (by omega),List.getElem?_eq_none (by simp; omega)]
 rw [List.length_map]
 conv=>rhs; rw [e0]
 rw [List.filter_map,List.map_map]
 rfl
theorem SqT.same' {K:Frag} {H H':Hp} {a:Addr} {xs:List V} (h:SqT K H a xs) (s:q1l H H'):SqT K H' a xs:=by
 rcases h with h | h
 ·exact .inl (h.elim (fun e=>.inl (s _ _ e)) fun⟨o,e⟩=>.inr ⟨o,s _ _ e⟩)
 ·exact .inr h
theorem x4v {K:Frag} {a:Addr} {ms:List Int} {H1:Hp} {frs:St} {g:TG} {tt:TT} {te:TE} {Q:VK} (hS:SqT K H1 a (ms.map V.int)) (hn:ms.length≤1000) (p:Int→Bool)
  (turn:∀ (i:Nat) (hi:i < ms.length) t H2 (R:St→Hp→Option V→Prop),q1l H1 H2→t.length=1→(∀ t' H',t'.length=1→q1l H2 H'→R (t'++frs) H' (if p ms[i]=true then some (.int ms[i]) else none)) →
   g (.int ms[i]) (t++frs) H2 fun σ3 H3=>tt σ3 H3 fun b H4=>if b=true then te σ3 H4 fun v H5=>R σ3 H5 (some v) else R σ3 H4 none)
  (hq:∀ D H',q1l H1 H'→H1 D=none→H' D=some (.lst ((ms.filter p).map V.int))→Q (.ref D) H'):x5i (List.replicate 1 none++frs) g tt te Q (Itt K a) H1:=by
 refine q6e (J:=Itt K a) (k:=1) (n:=(ms.map V.int).length) (fun i=>p (ms.getD i 0)) (fun i=>V.int (ms.getD i 0)) (by rw [List.length_map,sizeLine_eq]; omega) (fun i H3 hi s4=>⟨_,.int (ms.getD i 0),SqT.same' hS s4,?_⟩) (fun H3 s4=>⟨_,SqT.same' hS s4,Nat.le_refl _⟩) ?_ ?_
 ·rw [List.length_map] at hi
  simp [hi]
 ·intro i H3 t v H4 R hi s4 ht y hR
  obtain⟨rfl,hy⟩:=y
  have hi':i < ms.length:=by simpa using hi
  have hv:=hy _ (SqT.same' hS s4)
  rw [List.getElem?_map,List.getElem?_eq_getElem hi'] at hv
  cases hv
  have eg:ms.getD i 0=ms[i]:=by simp [hi']
  rw [eg] at hR
  exact turn i hi' t H4 R s4 ht hR
 ·intro D1 H3 s4 hD hd
  rw [z1q] at hd
  exact hq D1 H3 s4 hD hd
end K1
namespace Kp
open PySem L2 PySem.Spec PyProof.Rows
noncomputable abbrev Ord:=PyProof.Rows.KeyKind
section
variable {prog:Program} {w:World} {A:Around} {E:Value→Shared→Prop} {s:Shared} {a0:Array Keyed} {κ:Ord} {kd:SortKind} {st:SortSt}
end
end Kp
namespace Kp
open PySem L2 PySem.Spec PyProof.Rows
section
variable {prog:Program} {w:World} {A:Around} {E:Value→Shared→Prop} {s:Shared}
end
end Kp
namespace Kp
open PySem L2 PySem.Spec PyProof.Rows
section
variable {prog:Program} {w:World} {A:Around} {E:Value→Shared→Prop} {s:Shared}
end
end Kp
namespace Kp
open PySem L2 PySem.Spec PyProof.Rows
noncomputable def q1m (a b:Str):Prop:=a.cps.toList < b.cps.toList
section
variable {X:Cx}
end
end Kp
namespace Kp
open PySem L2 PySem.Spec PyProof.Rows
section
variable {X:Cx}
theorem q9f {P:Program} {w:World}:∀ {us:List Value} {ns:List Str},us.length=ns.length→(∀ (j:Nat) (u:Value),us[j]? = some u→∃ n,ns[j]? = some n∧(q2x P w).is (Sum.inr n) u=true)→StrsAre us ns
 | [],[],_,_=>.nil
 | [],_::_,h,_=>by simp at h
 | _::_,[],h,_=>by simp at h
 | u::us,n::ns,hl,h=>by
  obtain⟨m,e,hm⟩:=h 0 u rfl
  cases e
  rcases q2h (show x5v (Sum.inr n) u=true from hm) with ⟨i,t,a,_⟩ | ⟨x,t,a,rfl⟩
  ·cases a
  ·cases a
   refine .cons _ _ (q9f (P:=P) (w:=w) (by simpa using hl) fun j v hv=>h (j+1) v hv)
theorem z2y {vs:List Value} {ss:List Str} (hS:StrsAre vs ss) {xs:Array Keyed} (hp:xs.Perm (pairsOf vs)) (hs:SortedToK strKind xs (pairsOf vs).size):∃ ss',StrsAre (xs.map (·.2)).toList ss'∧ss'.Perm ss∧ss'.Pairwise fun a b=>¬ q1m b a:=by
 have hpl:xs.toList.Perm (vs.zip vs):=by rw [← pairsOf_toList]; exact Array.perm_iff_toList_perm.mp hp
 have hmem:∀ x∈xs.toList,x.1=x.2∧x.1∈vs:=fun x hx=>mem_zip_self (hpl.mem_iff.mp hx)
 have o2:(xs.map (·.2)).toList=xs.toList.map (·.1):=by rw [Array.toList_map]; exact List.map_congr_left fun x hx=>(hmem x hx).1.symm
 have hpm:((xs.toList.map (·.1)).map strOf).Perm ss:=by
  have h1:=(hpl.map (·.1)).map strOf
  rw [List.map_fst_zip (Nat.le_refl _),hS.strs] at h1
  exact h1
 refine⟨(xs.toList.map (·.1)).map strOf,?_,hpm,?_⟩
 ·rw [o2]
  exact strsAre_map _ fun v hv=>by
   obtain⟨x,hx,rfl⟩:=List.mem_map.mp hv
   exact hS.all _ (hmem x hx).2
 ·rw [List.pairwise_iff_getElem]
  intro i j hi hj hij
  have hi':i < xs.size:=by simpa using hi
  have hj':j < xs.size:=by simpa using hj
  have h1:=hs i j (Nat.le_of_lt hij) (by rw [← hp.size_eq]; exact hj')
  obtain⟨x,t,ex⟩:=hS.all _ (hmem xs[i] (by simp)).2
  obtain⟨y,u,ey⟩:=hS.all _ (hmem xs[j] (by simp)).2
  rw [KK_str hi' (x:=x) (t:=t) (q:=xs[i].2) (Prod.ext ex rfl),KK_str hj' (x:=y) (t:=u) (q:=xs[j].2) (Prod.ext ey rfl)] at h1
  have h2:¬ y.cps.toList < x.cps.toList:=of_decide_eq_false h1
  simp only [List.getElem_map,Array.getElem_toList]
  rw [show strOf xs[i].1=x by rw [ex]; rfl,show strOf xs[j].1=y by rw [ey]; rfl]
  exact h2
theorem q9g (hc:X.calm=true):x0r X (.builtin "sorted") (fun xs H Q=>∃ (p:Addr) (kvs:List (Key × V)) (ns:List Str),xs=[.ref p]∧H p=some (.dK kvs)∧kvs.map (·.1)=ns.map Sum.inr∧ns.length < 64 ∧
  ∀ l (ns':List Str),H l=none→ns'.Perm ns→ns'.Pairwise (fun a b=>¬ q1m b a)→Q (.ref l) (upd H l (.lst (ns'.map V.str)))):=by
 intro pins s σ H xs us Q I r h
 obtain⟨p,kvs,ns,rfl,hp,hks,h64,q⟩:=h
 obtain⟨u,rfl,rx⟩:=x4x r
 cases rx
 obtain⟨hz,hsm,vs,rel,dd⟩:=j1o I.hok hp
 obtain⟨ep,hat⟩:=dd.dictAt
 have hvl:vs.length=ns.length:=by
  have:=congrArg List.length hks
  rw [List.length_map,List.length_map,rel.length] at this
  exact this
 have hh:=I.ok.hd hc
 refine Calls.call_function_entry kind_sorted plain_sorted entry_sorted (args_sorted1 _) ?_
 unfold Builtin.«sorted»
 refine wpAny_bind (m:=checkCount "sorted" 1 1 _) (wpAny_pure ?_)
 refine wpAny_bind (PySem.W.kdu_collect (A:=X.A.in1) (PySem.W.kdl_dict (knd:=q2x X.prog X.w) (kvs:=vs) (ep:=ep) hsm) hh hat (by rw [hvl,sizeLine_eq]; omega) fun h' tk acc hk hacc=>?_)
 have hlen:acc.toList.length=ns.length:=by rw [Array.length_toList,hacc.1,hvl]
 have hS:StrsAre acc.toList ns:=q9f (P:=X.prog) (w:=X.w) hlen fun j v hv=>by
  obtain⟨k,x,e,hi⟩:=hacc.2 j v (by rw [← Array.getElem?_toList]; exact hv)
  have e2:=congrArg (fun l=>l[j]?) (rel.keys.symm.trans hks)
  simp only [List.getElem?_map,e] at e2
  cases en:ns[j]? with
  | none=>rw [en] at e2; cases e2
  | some n =>
   rw [en] at e2
   cases e2
   exact⟨n,rfl,hi⟩
 refine wpAny_bind (wpAny_newList ?_ (by rw [hlen,sizeLine_eq]; omega))
 have hoL:(h'.push (seqObj "list" acc.toList.toArray 0)).get? h'.objs.size=some (seqObj "list" acc.toList.toArray 0):=Heap.get?_push_size _ rfl
 refine wpAny_bind (wpAny_holding (wpAny_call_entry slot_list_sort ⟨_,hoL,rfl⟩ entry_list_sort (list_sort_treeK strKind_oneLt hoL hS.keysOf (fun v₁ v₂ q5g e=>keyKind_strs (by rw [← e]; exact hS)) (by omega) fun st' a1 a2=>⟨_,rfl,wpAny_pure ⟨_,rfl,?_⟩⟩) (args_list_sort _)))
 obtain⟨ss',b1,b2,b3⟩:=z2y hS a1 a2
 have I1:Inv X pins σ H { s with heap:=h',toks:=tk }:=I.kept hk
 have fr:H h'.objs.size=none:=I1.hok.fresh (Nat.le_refl _)
 obtain⟨e,he⟩:=sortedHeap_at (out:=(arrOf st').map (·.2)) hoL
 refine⟨.ref _,_,I1.laid (t':=tk) (o:=.lst (ss'.map V.str)) (fun b o hb=>?_) (Nat.le_refl _) ⟨?_,((arrOf st').map (·.2)).toList,e,x4z b1,by rw [Array.toArray_toList]; exact he⟩,rfl,q _ ss' fr b2 b3⟩
 ·have hb2:=Heap.lt_size hb
  rw [sortedHeap_old (Nat.ne_of_lt hb2) (by rw [size_push']; exact Nat.lt_succ_of_lt hb2),Heap.get?_push_ne _ _ _ (Nat.ne_of_lt hb2)]
  exact hb
 ·rw [List.length_map,b2.length_eq,sizeLine_eq]; omega
end
end Kp
namespace L2
open PySem PySem.Spec PyProof.Rows
noncomputable def j8z:V→Option Int→Option Int→Hp→VK→Prop:=fun x lo hi H Q=>∃ a xs,x=.ref a∧H a=some (.tup xs)∧∀ p H',H' p=some (.tup (x1x xs lo hi))→q1l H H'→Q (.ref p) H'
theorem q5z {X:Cx}:SlR X j8z:=by
 intro pins s σ H x v vl vu lo hi sl Q I rx hs pl pu h
 obtain⟨a,xs,rfl,hx,q⟩:=h
 by_cases hw:HT.sIx xs.length 0 lo=0∧HT.sIx xs.length xs.length hi=xs.length
 ·cases rx
  obtain⟨its,r,ht,hz⟩:=I.tuple (SqT.of hx)
  have hlen:its.toArray.size=xs.length:=by rw [List.size_toArray]; exact r.length.symm
  refine⟨"tuple",_,PyProof.Rows.slot_tuple_getitem.lookup,ht.typeIs,?_⟩
  refine HT.getItem_tuple_whole ht hs pl pu (by rw [hlen]; exact hw) ⟨.ref a,H,I,rfl,q a H (by rw [x9h hw.1 hw.2]; exact hx) (q1l.refl _)⟩
 ·exact j1s pins s σ H _ _ vl vu lo hi sl Q I rx hs pl pu ⟨a,xs,rfl,SqT.of hx,hw,fun p hp=>q p _ q0b (Kp.q0d hp)⟩
end L2
namespace K1
open PySem L2 Kp
theorem x7q {α:Type} (xs:List α) (k:Nat):xs.drop (min k xs.length)=xs.drop k:=by
 by_cases h:k≤xs.length
 ·rw [Nat.min_eq_left h]
 ·rw [Nat.min_eq_right (by omega),List.drop_length,List.drop_eq_nil_of_le (by omega)]
theorem z4r {α:Type} (xs:List α) (k:Nat):xs.take (min k xs.length)=xs.take k:=by
 by_cases h:k≤xs.length
 ·rw [Nat.min_eq_left h]
 ·rw [Nat.min_eq_right (by omega),List.take_length,List.take_of_length_le (by omega)]
theorem z2p (xs:List V) (k:Nat):x1x xs none (some (k:Int))=xs.take k:=by
 unfold x1x; rw [HT.sIx_nat,HT.sIx_none,List.drop_zero,Nat.sub_zero,z4r]
theorem q8f (xs:List V) (k:Nat):x1x xs (some (k:Int)) none=xs.drop k:=by
 unfold x1x; rw [HT.sIx_nat,HT.sIx_none,x7q]
 exact List.take_of_length_le (by rw [List.length_drop]; omega)
theorem q8i (xs:List V) (i j:Nat):x1x xs (some (i:Int)) (some (j:Int))=(xs.drop i).take (j - i):=by
 unfold x1x; rw [HT.sIx_nat,HT.sIx_nat,x7q]
 by_cases h:j≤xs.length
 ·rw [Nat.min_eq_left h]
  by_cases h2:i≤xs.length
  ·rw [Nat.min_eq_left h2]
  ·rw [Nat.min_eq_right (by omega),List.drop_eq_nil_of_le (by omega)]; simp
 ·rw [Nat.min_eq_right (by omega)]
  by_cases h2:i≤xs.length
  ·rw [Nat.min_eq_left h2,List.take_of_length_le (by rw [List.length_drop]; omega),List.take_of_length_le (by rw [List.length_drop]; omega)]
  ·rw [Nat.min_eq_right (by omega),List.drop_eq_nil_of_le (by omega)]; simp
inductive Ents (H:Hp):List V→List Int→Prop
 | nil:Ents H [] []
 | cons {p:Addr} {x:V} {t:Int} {vs:List V} {ts:List Int}:H p=some (.tup [.int t,x])→ThN 16 H x→Ents H vs ts→Ents H (.ref p::vs) (t::ts)
theorem Ents.same {H H':Hp} (s:q1l H H'):∀ {vs ts},Ents H vs ts→Ents H' vs ts
 | _,_,.nil=>.nil
 | _,_,.cons e t r=>.cons (s _ _ e) (t.mono (Nat.le_refl _) s) (Ents.same s r)
theorem Ents.length {H:Hp}:∀ {vs ts},Ents H vs ts→vs.length=ts.length
 | _,_,.nil=>rfl
 | _,_,.cons _ _ r=>by rw [List.length_cons,List.length_cons,Ents.length r]
theorem Ents.append {H:Hp}:∀ {vs ts us rs},Ents H vs ts→Ents H us rs→Ents H (vs++us) (ts++rs)
 | _,_,_,_,.nil,r=>r
 | _,_,_,_,.cons e t r,q=>.cons e t (Ents.append r q)
theorem Ents.get {H:Hp}:∀ {vs:List V} {ts:List Int} {i:Nat} (h:i < ts.length),Ents H vs ts→∃ p x,vs[i]? = some (.ref p)∧H p=some (.tup [.int ts[i],x])∧ThN 16 H x
 | _,_,_,h,.nil=>absurd h (Nat.not_lt_zero _)
 | _,_,0,_,.cons e t _=>⟨_,_,rfl,e,t⟩
 | _,_,i+1,h,.cons _ _ r=>Ents.get (i:=i) (by simpa using h) r
theorem Ents.take {H:Hp}:∀ {vs:List V} {ts:List Int} (n:Nat),Ents H vs ts→Ents H (vs.take n) (ts.take n)
 | _,_,0,_=>by rw [List.take_zero,List.take_zero]; exact .nil
 | _,_,_+1,.nil=>.nil
 | _,_,n+1,.cons e t r=>.cons e t (Ents.take n r)
theorem Ents.drop {H:Hp}:∀ {vs:List V} {ts:List Int} (n:Nat),Ents H vs ts→Ents H (vs.drop n) (ts.drop n)
 | _,_,0,r=>r
 | _,_,_+1,.nil=>.nil
 | _,_,n+1,.cons _ _ r=>Ents.drop n r
structure RowX (K:Frag) (H:Hp) (v:V) (b l:Int) (es:List V) (ts:List Int):Prop where
 ex:∃ rb c,v=.ref rb∧H rb=some (.tup [.int b,.int l,.ref c])∧H c=some (.tup es)
 ents:Ents H es ts
 few:ts.length≤900
theorem RowX.same {K:Frag} {H H':Hp} {v:V} {b l:Int} {es:List V} {ts:List Int} (r:RowX K H v b l es ts) (s:q1l H H'):RowX K H' v b l es ts :=
 let ⟨rb,c,e,h1,h2⟩:=r.ex
 ⟨⟨rb,c,e,s _ _ h1,s _ _ h2⟩,r.ents.same s,r.few⟩
noncomputable def j0k (K:Frag) (H:Hp) (v:V) (b l:Int) (ts:List Int):Prop:=∃ es,RowX K H v b l es ts
theorem z0c {p:Prop} [Decidable p] (h:¬ decide p=true):¬ p:=fun g=>h (decide_eq_true g)
theorem x6t {ts:List Int} {i:Nat} (h:i < ts.length):ts.getD i 0=ts[i]:=by simp [h]
noncomputable def z0b (l:Int) (ts:List Int):Int:=ts.getLastD l
noncomputable def q4e (b:Int) (ts:List Int):Int:=b+(ts.length:Int)
noncomputable def x7s (t p b l:Int) (ts:List Int):Bool:=decide (z0b l ts < t) || (decide (t=z0b l ts) && decide (q4e b ts≤p))
noncomputable def x6y (K:Frag):Sp:=fun vs H Q _=>∃ (v:V) (t p b l:Int) (ts:List Int),vs=[.int t,.int p,v]∧j0k K H v b l ts∧∀ H',q1l H H'→Q (.bl (x7s t p b l ts)) H'
noncomputable def q2y (b l:Int) (ts:List Int) (p:Int):Int:=if p=b then l else ts.getD (p - b - 1).toNat 0
noncomputable def q4z (b l:Int) (ts:List Int) (p t:Int):Bool:=decide (p < b) || (decide (p≤q4e b ts) && decide (q2y b l ts p=t))
theorem x2e (b l:Int) (ts:List Int):q2y b l ts (q4e b ts)=z0b l ts:=by
 unfold q2y q4e z0b
 rcases List.eq_nil_or_concat ts with rfl | ⟨r,x,rfl⟩
 ·simp
 ·have hl:(r.concat x).length=r.length+1:=by simp
  have e:(b+((r.concat x).length:Int) - b - 1).toNat=r.length:=by rw [hl]; omega
  rw [if_neg (by rw [hl]; omega),e]
  simp
noncomputable def q5v (K:Frag):Sp:=fun vs H Q _=>∃ (v:V) (b l:Int) (ts:List Int),vs=[v]∧j0k K H v b l ts∧Q (.int (q4e b ts)) H
noncomputable def x6e (K:Frag):Sp:=fun vs H Q _=>∃ (v:V) (b l:Int) (es:List V) (ts:List Int) (p:Int),vs=[v,.int p]∧RowX K H v b l es ts∧b < p∧p≤q4e b ts∧∀ e,es[(p - b - 1).toNat]? = some e→Q e H
noncomputable def q8p (K:Frag):Sp:=fun vs H Q _=>∃ (v:V) (b l:Int) (ts:List Int) (p:Int),vs=[v,.int p]∧j0k K H v b l ts∧b≤p∧p≤q4e b ts∧Q (.int (q2y b l ts p)) H
noncomputable def q9v (K:Frag):Sp:=fun vs H Q _=>∃ (v:V) (t p b l:Int) (ts:List Int),vs=[v,.int p,.int t]∧j0k K H v b l ts∧Q (.bl (q4z b l ts p t)) H
end K1
namespace Kp
open PySem L2 PySem.Spec PyProof.Rows
inductive Alike (K:Frag) (H:Hp):Nat→V→V→Prop
 | flat {n:Nat} {v:V} (h:q4b v=true):Alike K H n v v
 | ref {n:Nat} (a:Addr):Alike K H n (.ref a) (.ref a)
 | tup {n:Nat} {a b:Addr} {xs ys:List V} (h1:SqT K H a xs) (h2:SqT K H b ys) (hl:xs.length=ys.length) (h:∀ (i:Nat) (x y:V),xs[i]? = some x→ys[i]? = some y→Alike K H n x y):Alike K H (n+1) (.ref a) (.ref b)
theorem x3i {v:V} (h:q4b v=true):eqV v v=true:=by
 cases v with
 | bl b=>cases b <;> rfl
 | int i=>simp [eqV]
 | str x=>simp [eqV]
 | non=>rfl
 | _=>cases h
theorem x2w {X:Cx} {pins:List (Addr × Obj)} {σ:L2.St} {H:Hp} {s:Shared} (I:Inv X pins σ H s):∀ (n:Nat) (v u:V) (uv uu:Value) (A:Around),Alike X.K H n v u→q3a v uv→q3a u uu→A.units+n < cLine→SeqAt.EqAt A s uv uu true:=by
 intro n
 induction n with
 | zero =>
  intro v u uv uu A h rv ru hu
  cases h with
  | flat f =>
   have:=x1w (A:=A) (s:=s) rv ru f f
   rw [x3i f] at this
   exact this
  | ref a=>cases rv; cases ru; exact .same _
 | succ n ih =>
  intro v u uv uu A h rv ru hu
  cases h with
  | flat f =>
   have:=x1w (A:=A) (s:=s) rv ru f f
   rw [x3i f] at this
   exact this
  | ref a=>cases rv; cases ru; exact .same _
  | @tup _ a b xs ys h1 h2 hl h =>
   cases rv
   cases ru
   by_cases hab:a=b
   ·subst hab; exact .same _
   ·refine SeqAt.EqAt.of_refs hab ?_
    have hu0:A.units < cLine:=by omega
    obtain⟨its,q1,p1,_⟩:=I.tuple h1
    obtain⟨jts,q2,p2,_⟩:=I.tuple h2
    have hl2:its.toArray.size=jts.toArray.size:=by simp [← q1.length,← q2.length,hl]
    have z:=SeqAt.RcAt.tuples (e:=fun _=>true) (show s.heap.IsTuple a its.toArray from p1) (show s.heap.IsTuple b jts.toArray from p2) hu0 (fun j g1 g2=>by
     obtain⟨x,ex,rx⟩:=q2i.at q1 g1
     obtain⟨y,ey,ry⟩:=q2i.at q2 g2
     exact ih x y _ _ A.in1 (h j x y ex ey) rx ry (by show A.units+1+n < cLine; omega))
    rw [q5h,hl2,beq_self_eq_true] at z
    exact z
noncomputable def rAl (K:Frag) (c:Bool):R2:=fun x y H Q=>∃ p q xs ys n,x=.ref p∧y=.ref q∧SqT K H p xs∧SqT K H q ys∧xs.length=ys.length∧(∀ (i:Nat) (x y:V),xs[i]? = some x→ys[i]? = some y→Alike K H n x y)∧n≤90∧Q (.bl c) H
noncomputable def j9o (K:Frag) (c:Bool):R2:=fun x y H Q=>∃ p q xs ys n,x=.ref p∧y=.ref q∧SqL K H p xs∧SqL K H q ys∧xs.length=ys.length∧(∀ (i:Nat) (x y:V),xs[i]? = some x→ys[i]? = some y→Alike K H n x y)∧n≤90∧Q (.bl c) H
theorem j2l {X:Cx} (hu:X.A.units+100 < cLine):OpR X (compareOp .Eq) (rAl X.K true):=by
 intro pins s σ H x y v u Q I rx ry h
 obtain⟨p,q',xs,ys,n,rfl,rfl,h1,h2,hl,h,hn,q⟩:=h
 cases rx
 cases ry
 obtain⟨its,q1,p1,_⟩:=I.tuple h1
 obtain⟨jts,q2,p2,_⟩:=I.tuple h2
 have hl2:its.toArray.size=jts.toArray.size:=by simp [← q1.length,← q2.length,hl]
 refine SeqAt.eq_tupleAt (e:=fun _=>true) (show s.heap.IsTuple p its.toArray from p1) (show s.heap.IsTuple q' jts.toArray from p2) (by omega) (fun j g1 g2=>?_) ⟨.bl true,H,I,?_,q⟩
 ·obtain⟨x,ex,rx⟩:=q2i.at q1 g1
  obtain⟨y,ey,ry⟩:=q2i.at q2 g2
  exact x2w I n x y _ _ X.A.in1 (h j x y ex ey) rx ry (by show X.A.units+1+n < cLine; omega)
 ·rw [q5h,hl2,beq_self_eq_true]; rfl
theorem z7e {X:Cx} (hu:X.A.units+100 < cLine):OpR X (compareOp .NotEq) (rAl X.K false):=by
 intro pins s σ H x y v u Q I rx ry h
 obtain⟨p,q',xs,ys,n,rfl,rfl,h1,h2,hl,h,hn,q⟩:=h
 cases rx
 cases ry
 obtain⟨its,q1,p1,_⟩:=I.tuple h1
 obtain⟨jts,q2,p2,_⟩:=I.tuple h2
 have hl2:its.toArray.size=jts.toArray.size:=by simp [← q1.length,← q2.length,hl]
 refine SeqAt.RcNeAt.tuples (e:=fun _=>true) (show s.heap.IsTuple p its.toArray from p1) (show s.heap.IsTuple q' jts.toArray from p2) (by omega) (fun j g1 g2=>?_) X.prog X.w X.xe _ ⟨.bl false,H,I,?_,q⟩
 ·obtain⟨x,ex,rx⟩:=q2i.at q1 g1
  obtain⟨y,ey,ry⟩:=q2i.at q2 g2
  exact x2w I n x y _ _ X.A.in1 (h j x y ex ey) rx ry (by show X.A.units+1+n < cLine; omega)
 ·rw [q5h,hl2,beq_self_eq_true]; rfl
theorem z8g {X:Cx} (hu:X.A.units+100 < cLine):OpR X (compareOp .NotEq) (j9o X.K false):=by
 intro pins s σ H x y v u Q I rx ry h
 obtain⟨p,q',xs,ys,n,rfl,rfl,h1,h2,hl,h,hn,q⟩:=h
 cases rx
 cases ry
 obtain⟨its,q1,p1,_⟩:=I.list h1
 obtain⟨jts,q2,p2,_⟩:=I.list h2
 refine SeqAt.RcNeAt.lists (e:=fun _=>true) p1.isList p2.isList (by simp [← q1.length,← q2.length,hl]) (by omega) (fun j g1 g2=>?_) _ _ _ _ ⟨.bl false,H,I,?_,q⟩
 ·obtain⟨x,ex,rx⟩:=q2i.at q1 g1
  obtain⟨y,ey,ry⟩:=q2i.at q2 g2
  exact x2w I n x y _ _ X.A.in1 (h j x y ex ey) rx ry (by show X.A.units+1+n < cLine; omega)
 ·rw [q5h]; rfl
end Kp
namespace L2
open PySem
theorem Room.units100 {k:Nat} {A:Around} (r:Room k A):A.units+100 < cLine:=by have:=r.un; omega
end L2
set_option maxHeartbeats 1000000
namespace L2
open PySem PySem.Spec PyProof.Rows
section
variable {prog:Program} {w:World} {A:Around} {R:Result→Shared→Prop} {it:Addr} {fp wr:List Addr} {n:Nat} {Pv:Nat→Value→Prop} {St:Nat→Heap→Prop} {dv:Value}
end
section
variable {X:Cx}
end
theorem q4u:bootBuiltins "min" = some (.builtin "min"):=by decide +kernel
end L2
namespace K1
open PySem L2 Kp
theorem x2v {X:Cx} {K:Frag} (hK:X.K=K):IxR X (j7v K):=by subst hK; exact q0i
end K1
namespace Kp
open PySem L2
end Kp
set_option maxHeartbeats 4000000
namespace Kp
open PySem L2
theorem q7z {J:It} {H1:Hp} {n k:Nat} {frs:St} {g:TG} {tt:TT} {te:TE} {Q:VK} (R:Nat→Hp→V→Prop) (mono:∀ i H H' v,q2o H H'→R i H v→R i H' v) (hn:n < sizeLine)
  (go:∀ i H,i < n→q1l H1 H→J.go i H) (stop:∀ H,q1l H1 H→J.stop n H)
  (turn:∀ i H t x H2 (S:St→Hp→Option V→Prop),i < n→q1l H1 H→t.length=k→J.yld i H x H2 →
   (∀ t' H' v,t'.length=k→q1l H H'→R i H' v→S (t'++frs) H' (some v)) →
   g x (t++frs) H2 fun σ3 H3=>tt σ3 H3 fun b H4=>if b=true then te σ3 H4 fun v H5=>S σ3 H5 (some v) else S σ3 H4 none)
  (hq:∀ D H' ys,q1l H1 H'→H1 D=none→H' D=some (.lst ys)→ys.length=n→(∀ i v,ys[i]? = some v→R i H' v)→Q (.ref D) H'):x5i (List.replicate k none++frs) g tt te Q J H1:=by
 intro D hD
 refine⟨fun i m ys σ H=>i≤n∧m=n - i∧ys.length=i∧(∀ j v,ys[j]? = some v→R j H v)∧q1l H1 H∧∃ t,t.length=k∧σ=t++frs,⟨n,Nat.zero_le _,rfl,rfl,fun j v hv=>by simp at hv,q0d hD,_,by simp,rfl⟩,?_⟩
 rintro i m ys σ H ⟨hi,rfl,hl,hR,s1,t,ht,rfl⟩ hd
 by_cases hlt:i < n
 ·right
  refine⟨go i H hlt s1,by omega,fun x H2 y=>?_⟩
  have keep:∀ (H5:Hp) (zs:List V),H5 D=some (.lst ys)→q2o H5 (upd H5 D (.lst zs)):=fun H5 zs h5 b xs e=>by
   rw [q1c (fun q=>by rw [q,h5] at e; cases e)]; exact e
  have tup:∀ {H H':Hp},q1l H H'→q2o H H':=fun s b xs e=>s _ _ e
  refine turn i H t x H2 (fun σ3 H5 r=>match r with
   | some v=>H5 D=some (.lst ys)∧∃ m',m' < n - i∧(i+1≤n∧m'=n - (i+1)∧(ys++[v]).length=i+1∧(∀ j u,(ys++[v])[j]? = some u→R j (upd H5 D (.lst (ys++[v]))) u)∧q1l H1 (upd H5 D (.lst (ys++[v])))∧∃ t,t.length=k∧σ3=t++frs)
   | none=>H5 D=some (.lst ys)∧∃ m',m' < n - i∧(i+1≤n∧m'=n - (i+1)∧ys.length=i+1∧(∀ j u,ys[j]? = some u→R j H5 u)∧q1l H1 H5∧∃ t,t.length=k∧σ3=t++frs)) hlt s1 ht y ?_
  intro t' H' v ht' s2 rv
  have h5:=s2 _ _ hd
  refine⟨h5,n - (i+1),by omega,by omega,rfl,by rw [List.length_append,hl]; rfl,fun j u hu=>?_,fun b o e=>?_,t',ht',rfl⟩
  ·by_cases hj:j < ys.length
   ·rw [List.getElem?_append_left hj] at hu
    exact mono _ _ _ _ (keep H' _ h5) (mono _ _ _ _ (tup s2) (hR j u hu))
   ·rw [List.getElem?_append_right (by omega)] at hu
    have e0:j - ys.length=0:=by
     cases e:j - ys.length with
     | zero=>rfl
     | succ m=>rw [e] at hu; simp at hu
    rw [e0] at hu
    cases hu
    obtain rfl:j=i:=by omega
    exact mono _ _ _ _ (keep H' _ h5) rv
  ·rw [q1c (q1q e hD)]; exact s2 _ _ (s1 _ _ e)
 ·have e:i=n:=by omega
  subst e
  exact .inl ⟨stop H s1,hq D H ys s1 hD hd hl hR⟩
end Kp
namespace K1
open PySem L2 Kp
noncomputable abbrev Rw:=Str × List Int
theorem z7v {a b:Str} (h:a.cps.toList=b.cps.toList):a=b:=by
 obtain⟨⟨x⟩⟩:=a
 obtain⟨⟨y⟩⟩:=b
 simp only at h
 rw [h]
instance (a b:Str):Decidable (q1m a b):=inferInstanceAs (Decidable (a.cps.toList < b.cps.toList))
theorem q5s (a:Str):¬ q1m a a:=List.lt_irrefl _
theorem q9n {a b c:Str} (h:q1m a b) (h':q1m b c):q1m a c:=List.lt_trans h h'
theorem q9l {a b:Str} (h:q1m a b):¬ q1m b a:=fun h'=>q5s _ (q9n h h')
theorem x2c {a b:Str} (h:¬ q1m a b) (h':¬ q1m b a):a=b:=z7v (List.le_antisymm (List.not_lt.mp h') (List.not_lt.mp h))
theorem x0m {a b:Str} (h:q1m a b):a≠b:=fun e=>q5s _ (e▸h)
structure RwOk (W:List Str) (n:Nat) (rs:List Rw):Prop where
 up:rs.Pairwise fun a b=>q1m a.1 b.1
 inW:∀ r∈rs,r.1∈W
 sz:∀ r∈rs,r.2.length=n
theorem x0f:∀ (l W:List Str),l.Nodup→(∀ x∈l,x∈W)→l.length≤W.length
 | [],_,_,_=>Nat.zero_le _
 | x::l,W,hn,h=>by
  have hx:=h x List.mem_cons_self
  rw [List.nodup_cons] at hn
  have:=x0f l (W.erase x) hn.2 fun y hy=>(List.mem_erase_of_ne (fun e:y=x=>hn.1 (by rw [← e]; exact hy))).mpr (h y (List.mem_cons_of_mem _ hy))
  rw [List.length_erase_of_mem hx] at this
  have:=List.length_pos_of_mem hx
  rw [List.length_cons]
  omega
theorem RwOk.nodup {W:List Str} {n:Nat} {rs:List Rw} (h:RwOk W n rs):(rs.map (·.1)).Nodup:=by
 unfold List.Nodup
 rw [List.pairwise_map]
 exact h.up.imp fun h=>x0m h
theorem RwOk.len {W:List Str} {n:Nat} {rs:List Rw} (h:RwOk W n rs):rs.length≤W.length:=by
 have:=x0f _ W h.nodup fun x hx=>by
  obtain⟨r,hr,rfl⟩:=List.mem_map.mp hx
  exact h.inW r hr
 rwa [List.length_map] at this
noncomputable def q1t (rs:List Rw) (r:Rw):List Rw:=rs.filter (fun x=>decide (q1m x.1 r.1))++r::rs.filter fun x=>decide (q1m r.1 x.1)
theorem x6q {W:List Str} {n:Nat} {rs:List Rw} {r:Rw} (h:RwOk W n rs) (h1:r.1∈W) (h2:r.2.length=n):RwOk W n (q1t rs r):=by
 refine⟨?_,fun x hx=>?_,fun x hx=>?_⟩
 ·unfold q1t
  rw [List.pairwise_append,List.pairwise_cons]
  refine⟨h.up.filter _,⟨fun x hx=>?_,h.up.filter _⟩,fun x hx y hy=>?_⟩
  ·exact of_decide_eq_true (List.mem_filter.mp hx).2
  ·have hx2:q1m x.1 r.1:=of_decide_eq_true (List.mem_filter.mp hx).2
   rcases List.mem_cons.mp hy with rfl | hy
   ·exact hx2
   ·exact q9n hx2 (of_decide_eq_true (List.mem_filter.mp hy).2)
 all_goals
  unfold q1t at hx
  rcases List.mem_append.mp hx with hx | hx
  ·first | exact h.inW x (List.mem_filter.mp hx).1 | exact h.sz x (List.mem_filter.mp hx).1
  ·rcases List.mem_cons.mp hx with rfl | hx
   ·first | exact h1 | exact h2
   ·first | exact h.inW x (List.mem_filter.mp hx).1 | exact h.sz x (List.mem_filter.mp hx).1
theorem x4t:∀ (l m:List Rw),l.Perm m→l.Pairwise (fun a b=>q1m a.1 b.1)→m.Pairwise (fun a b=>q1m a.1 b.1)→l=m
 | [],m,hp,_,_=>hp.symm.eq_nil.symm
 | a::l,[],hp,_,_=>absurd hp.length_eq (by simp)
 | a::l,b::m,hp,h1,h2=>by
  rw [List.pairwise_cons] at h1 h2
  have hab:a=b:=by
   have ha:a∈b::m:=hp.mem_iff.mp List.mem_cons_self
   have hb:b∈a::l:=hp.mem_iff.mpr List.mem_cons_self
   rcases List.mem_cons.mp ha with e | ha
   ·exact e
   ·rcases List.mem_cons.mp hb with e | hb
    ·exact e.symm
    ·exact absurd (h2.1 a ha) (q9l (h1.1 b hb))
  subst hab
  rw [x4t l m hp.cons_inv h1.2 h2.2]
noncomputable def q9r (rs:List Rw) (n:Str):Int:=match rs.filter fun r=>decide (r.1=n) with
 | []=>0
 | r::_=>r.2.headD 0
inductive Deed | get (n:Str) | set (n:Str) (x:Int) | add (n:Str) (x:Int)
noncomputable def Deed.nm:Deed→Str
 | .get n=>n
 | .set n _=>n
 | .add n _=>n
noncomputable abbrev Sto:=List Rw × List Rw
noncomputable def q8b (S:Sto):Deed→Sto × Int
 | .get n=>(S,q9r S.1 n)
 | .add n x=>((q1t S.1 (n,[q9r S.1 n+x]),S.2),q9r S.1 n+x)
 | .set n x=>((q1t S.1 (n,[x]),S.2),q9r S.1 n)
structure StoOk (W C:List Str) (S:Sto):Prop where
 ns:RwOk W 1 S.1
 cs:RwOk C 2 S.2
 ge:∀ r∈S.2,1≤r.2.headD 0
theorem z5d {W C:List Str} {S:Sto} {d:Deed} (h:StoOk W C S) (hd:d.nm∈W):StoOk W C (q8b S d).1:=by
 cases d with
 | get n=>exact h
 | set n x=>exact⟨x6q h.ns hd rfl,h.cs,h.ge⟩
 | add n x=>exact⟨x6q h.ns hd rfl,h.cs,h.ge⟩
inductive Rws (H:Hp):List V→List Rw→Prop
 | nil:Rws H [] []
 | cons {p:Addr} {n:Str} {is:List Int} {vs:List V} {rs:List Rw}:H p=some (.tup (.str n::is.map V.int))→Rws H vs rs→Rws H (.ref p::vs) ((n,is)::rs)
theorem Rws.sameT {H H':Hp} (s:q2o H H'):∀ {vs rs},Rws H vs rs→Rws H' vs rs
 | _,_,.nil=>.nil
 | _,_,.cons e r=>.cons (s _ _ e) (Rws.sameT s r)
theorem Rws.same {H H':Hp} {vs:List V} {rs:List Rw} (h:Rws H vs rs) (s:q1l H H'):Rws H' vs rs:=h.sameT (q1j s)
theorem Rws.length {H:Hp}:∀ {vs rs},Rws H vs rs→vs.length=rs.length
 | _,_,.nil=>rfl
 | _,_,.cons _ r=>by rw [List.length_cons,List.length_cons,Rws.length r]
theorem Rws.get {H:Hp}:∀ {vs:List V} {rs:List Rw} {i:Nat} (h:i < rs.length),Rws H vs rs→∃ p,vs[i]? = some (.ref p)∧H p=some (.tup (.str (rs[i]).1::(rs[i]).2.map V.int))
 | _,_,_,h,.nil=>absurd h (Nat.not_lt_zero _)
 | _,_,0,_,.cons e _=>⟨_,rfl,e⟩
 | _,_,i+1,h,.cons _ r=>Rws.get (i:=i) (by simpa using h) r
theorem Rws.of_idx {H:Hp}:∀ {ys:List V} {rs:List Rw},ys.length=rs.length→(∀ (i:Nat) (v:V),ys[i]? = some v→∃ p n is,v=.ref p∧rs[i]? = some (n,is)∧H p=some (.tup (.str n::is.map V.int)))→Rws H ys rs
 | [],[],_,_=>.nil
 | [],_::_,h,_=>by simp at h
 | _::_,[],h,_=>by simp at h
 | y::ys,r::rs,hl,h=>by
  obtain⟨p,n,is,rfl,e,hp⟩:=h 0 y rfl
  cases e
  exact .cons hp (Rws.of_idx (by simpa using hl) fun i v hv=>h (i+1) v hv)
noncomputable def RwT (H:Hp) (a:Addr) (rs:List Rw):Prop:=∃ vs,H a=some (.tup vs)∧Rws H vs rs
theorem RwT.same {H H':Hp} {a:Addr} {rs:List Rw} (h:RwT H a rs) (s:q1l H H'):RwT H' a rs:=let ⟨vs,e,r⟩:=h; ⟨vs,s _ _ e,r.same s⟩
noncomputable def StV (H:Hp) (v:V) (S:Sto):Prop:=∃ s a c,v=.ref s∧H s=some (.tup [.ref a,.ref c])∧RwT H a S.1∧RwT H c S.2
theorem StV.same {H H':Hp} {v:V} {S:Sto} (h:StV H v S) (s:q1l H H'):StV H' v S:=let ⟨p,a,c,e,h1,h2,h3⟩:=h; ⟨p,a,c,e,s _ _ h1,h2.same s,h3.same s⟩
theorem RwT.alike {K:Frag} {H:Hp} {a c:Addr} {rs:List Rw} (h:RwT H a rs) (h':RwT H c rs):Alike K H 2 (.ref a) (.ref c):=by
 obtain⟨vs,e,r⟩:=h
 obtain⟨us,e',r'⟩:=h'
 refine .tup (SqT.of e) (SqT.of e') (by rw [r.length,r'.length]) fun i x y hx hy=>?_
 have hi:i < rs.length:=by rw [← r.length]; exact (List.getElem?_eq_some_iff.mp hx).1
 obtain⟨p,g,hp⟩:=r.get hi
 obtain⟨q,g',hq⟩:=r'.get hi
 rw [g] at hx
 rw [g'] at hy
 cases hx
 cases hy
 refine .tup (SqT.of hp) (SqT.of hq) rfl fun j x y hx hy=>?_
 rw [hx] at hy
 cases hy
 cases j with
 | zero=>cases hx; exact .flat rfl
 | succ j =>
  rw [List.getElem?_cons_succ,List.getElem?_map] at hx
  cases e2:(rs[i]).2[j]? with
  | none=>rw [e2] at hx; cases hx
  | some z=>rw [e2] at hx; cases hx; exact .flat rfl
noncomputable def x0h (H:Hp) (v:V):Deed→Prop
 | .get n=>∃ p,v=.ref p∧H p=some (.tup [.str "get",.str n])
 | .set n x=>∃ p,v=.ref p∧H p=some (.tup [.str "set",.str n,.int x])
 | .add n x=>∃ p,v=.ref p∧H p=some (.tup [.str "add",.str n,.int x])
theorem x0h.same {H H':Hp} {v:V} {d:Deed} (h:x0h H v d) (s:q1l H H'):x0h H' v d:=by
 cases d <;> (obtain⟨p,e,hp⟩:=h; exact⟨p,e,s _ _ hp⟩)
inductive What | opn | seats (ms:List Int) | wish (c:Str) (n:Int) (d:Deed)
noncomputable def q4x (H:Hp) (v:V):What→Prop
 | .opn=>∃ p,v=.ref p∧H p=some (.tup [.str "open"])
 | .seats ms=>∃ p q,v=.ref p∧H p=some (.tup [.str "seats",.ref q])∧H q=some (.tup (ms.map V.int))
 | .wish c n d=>∃ p u,v=.ref p∧H p=some (.tup [.str "wish",.str c,.int n,u])∧x0h H u d
theorem q4x.same {H H':Hp} {v:V} {x:What} (h:q4x H v x) (s:q1l H H'):q4x H' v x:=by
 cases x with
 | opn=>obtain⟨p,e,hp⟩:=h; exact⟨p,e,s _ _ hp⟩
 | seats ms=>obtain⟨p,q,e,hp,hq⟩:=h; exact⟨p,q,e,s _ _ hp,s _ _ hq⟩
 | wish c n d=>obtain⟨p,u,e,hp,hd⟩:=h; exact⟨p,u,e,s _ _ hp,hd.same s⟩
noncomputable def x3v (W C:List Str):What→Prop
 | .wish c n d=>c∈C∧1≤n∧d.nm∈W
 | .seats ms=>ms.length≤9
 | .opn=>True
noncomputable def q6o (rs:List Rw) (c:Str):Int × Int:=match rs.find? fun r=>decide (r.1=c) with
 | some r=>(r.2.headD 0,r.2.getD 1 0)
 | none=>(0,0)
noncomputable def q5e (S:Sto):What→Sto
 | .wish c n d=>if n≤(q6o S.2 c).1 then S else ((q8b S d).1.1,q1t S.2 (c,[n,(q8b S d).2]))
 | _=>S
theorem z4k (S:Sto) (d:Deed):(q8b S d).1.2=S.2:=by cases d <;> rfl
theorem z5l {rs:List Rw} {r x:Rw} (h:x∈q1t rs r):x∈rs∨x=r:=by
 unfold q1t at h
 rcases List.mem_append.mp h with h | h
 ·exact .inl (List.mem_filter.mp h).1
 ·rcases List.mem_cons.mp h with h | h
  ·exact .inr h
  ·exact .inl (List.mem_filter.mp h).1
theorem z0v {W C:List Str} {S:Sto} {x:What} (h:StoOk W C S) (hx:x3v W C x):StoOk W C (q5e S x):=by
 cases x with
 | opn=>exact h
 | seats ms=>exact h
 | wish c n d =>
  obtain⟨hc,hn,hd⟩:=hx
  unfold q5e
  by_cases e:n≤(q6o S.2 c).1
  ·simp only [e,if_true]; exact h
  ·simp only [e,if_false]
   refine⟨(z5d h hd).ns,x6q h.cs hc rfl,fun r hr=>?_⟩
   rcases z5l hr with hr | rfl
   ·exact h.ge r hr
   ·exact hn
theorem x2a {rs:List Rw} {c:Str} {i:Nat} (hi:i < rs.length) (e:(rs[i]).1=c) (hno:∀ j (hj:j < rs.length),j < i→(rs[j]).1≠c):rs.find? (fun r=>decide (r.1=c))=some rs[i]:=by
 rw [List.find?_eq_some_iff_getElem]
 exact⟨decide_eq_true e,i,hi,rfl,fun j hj=>by simpa using hno j (by omega) hj⟩
noncomputable def q3l (S:Sto) (xs:List What):Sto:=xs.foldl q5e S
theorem q8t {W C:List Str}:∀ {xs:List What} {S:Sto},StoOk W C S→(∀ x∈xs,x3v W C x)→StoOk W C (q3l S xs)
 | [],_,h,_=>h
 | x::xs,S,h,hx=>q8t (xs:=xs) (z0v h (hx x List.mem_cons_self)) fun y hy=>hx y (List.mem_cons_of_mem _ hy)
inductive EW (H:Hp):List V→List What→Prop
 | nil:EW H [] []
 | cons {p:Addr} {t:Int} {u:V} {x:What} {vs:List V} {xs:List What}:H p=some (.tup [.int t,u])→q4x H u x→EW H vs xs→EW H (.ref p::vs) (x::xs)
theorem EW.same {H H':Hp} (s:q1l H H'):∀ {vs xs},EW H vs xs→EW H' vs xs
 | _,_,.nil=>.nil
 | _,_,.cons e w r=>.cons (s _ _ e) (w.same s) (EW.same s r)
theorem EW.length {H:Hp}:∀ {vs xs},EW H vs xs→vs.length=xs.length
 | _,_,.nil=>rfl
 | _,_,.cons _ _ r=>by rw [List.length_cons,List.length_cons,EW.length r]
theorem EW.get {H:Hp}:∀ {vs:List V} {xs:List What} {i:Nat} (h:i < xs.length),EW H vs xs→∃ p t u,vs[i]? = some (.ref p)∧H p=some (.tup [.int t,u])∧q4x H u xs[i]
 | _,_,_,h,.nil=>absurd h (Nat.not_lt_zero _)
 | _,_,0,_,.cons e w _=>⟨_,_,_,rfl,e,w⟩
 | _,_,i+1,h,.cons _ _ r=>EW.get (i:=i) (by simpa using h) r
theorem x4r (S:Sto) (xs:List What) {i:Nat} (hi:i < xs.length):q3l S (xs.take (i+1))=q5e (q3l S (xs.take i)) xs[i]:=by
 unfold q3l
 rw [List.take_succ_eq_append_getElem hi,List.foldl_append]
 rfl
noncomputable abbrev En:=Int × What
inductive ET (H:Hp):List V→List En→Prop
 | nil:ET H [] []
 | cons {p:Addr} {t:Int} {u:V} {x:What} {vs:List V} {es:List En}:H p=some (.tup [.int t,u])→q4x H u x→ET H vs es→ET H (.ref p::vs) ((t,x)::es)
theorem ET.same {H H':Hp} (s:q1l H H'):∀ {vs es},ET H vs es→ET H' vs es
 | _,_,.nil=>.nil
 | _,_,.cons e w r=>.cons (s _ _ e) (w.same s) (ET.same s r)
theorem ET.length {H:Hp}:∀ {vs es},ET H vs es→vs.length=es.length
 | _,_,.nil=>rfl
 | _,_,.cons _ _ r=>by rw [List.length_cons,List.length_cons,ET.length r]
theorem ET.get {H:Hp}:∀ {vs:List V} {es:List En} {i:Nat} (h:i < es.length),ET H vs es→∃ p u,vs[i]? = some (.ref p)∧H p=some (.tup [.int (es[i]).1,u])∧q4x H u (es[i]).2
 | _,_,_,h,.nil=>absurd h (Nat.not_lt_zero _)
 | _,_,0,_,.cons e w _=>⟨_,_,rfl,e,w⟩
 | _,_,i+1,h,.cons _ _ r=>ET.get (i:=i) (by simpa using h) r
theorem ET.append {H:Hp}:∀ {vs es us fs},ET H vs es→ET H us fs→ET H (vs++us) (es++fs)
 | _,_,_,_,.nil,r=>r
 | _,_,_,_,.cons e w r,q=>.cons e w (ET.append r q)
theorem ET.take {H:Hp}:∀ {vs:List V} {es:List En} (n:Nat),ET H vs es→ET H (vs.take n) (es.take n)
 | _,_,0,_=>by rw [List.take_zero,List.take_zero]; exact .nil
 | _,_,_+1,.nil=>.nil
 | _,_,n+1,.cons e w r=>.cons e w (ET.take n r)
theorem ET.drop {H:Hp}:∀ {vs:List V} {es:List En} (n:Nat),ET H vs es→ET H (vs.drop n) (es.drop n)
 | _,_,0,r=>r
 | _,_,_+1,.nil=>.nil
 | _,_,n+1,.cons _ _ r=>ET.drop n r
theorem ET.ew {H:Hp}:∀ {vs es},ET H vs es→EW H vs (es.map (·.2))
 | _,_,.nil=>.nil
 | _,_,.cons e w r=>.cons e w (ET.ew r)
structure Pk where
 pl:Int
 tm:Int
 st:List Int
 so:Sto
noncomputable def PkV (H:Hp) (v:V) (P:Pk):Prop:=∃ p q u,v=.ref p∧H p=some (.tup [.int P.pl,.int P.tm,.ref q,u])∧H q=some (.tup (P.st.map V.int))∧StV H u P.so
theorem PkV.same {H H':Hp} {v:V} {P:Pk} (h:PkV H v P) (s:q1l H H'):PkV H' v P:=let ⟨p,q,u,e,h1,h2,h3⟩:=h; ⟨p,q,u,e,s _ _ h1,s _ _ h2,h3.same s⟩
noncomputable def RwP (H:Hp) (v:V) (b l:Int) (es:List En):Prop:=∃ r c us,v=.ref r∧H r=some (.tup [.int b,.int l,.ref c])∧H c=some (.tup us)∧ET H us es
theorem RwP.same {H H':Hp} {v:V} {b l:Int} {es:List En} (h:RwP H v b l es) (s:q1l H H'):RwP H' v b l es:=let ⟨p,q,u,e,h1,h2,h3⟩:=h; ⟨p,q,u,e,s _ _ h1,s _ _ h2,h3.same s⟩
noncomputable def q1h (t0:Int) (es:List En):Int:=es.foldl (fun _ e=>e.1) t0
noncomputable def x9g (s:List Int):What→List Int
 | .seats ms=>ms
 | _=>s
noncomputable def q1r (s0:List Int) (es:List En):List Int:=es.foldl (fun s e=>x9g s e.2) s0
noncomputable def x4c (P:Pk) (t0:Int) (es:List En) (pl:Int):Pk:=⟨pl,q1h t0 es,q1r P.st es,q3l P.so (es.map (·.2))⟩
theorem x2k (t0:Int) (es:List En) {i:Nat} (hi:i < es.length):q1h t0 (es.take (i+1))=(es[i]).1:=by
 unfold q1h
 rw [List.take_succ_eq_append_getElem hi,List.foldl_append]
 rfl
theorem x0p (s0:List Int) (es:List En) {i:Nat} (hi:i < es.length):q1r s0 (es.take (i+1))=x9g (q1r s0 (es.take i)) (es[i]).2:=by
 unfold q1r
 rw [List.take_succ_eq_append_getElem hi,List.foldl_append]
 rfl
theorem z2s {W C:List Str} {s:List Int} {x:What} (h:s.length≤9) (hx:x3v W C x):(x9g s x).length≤9:=by
 cases x with
 | seats ms=>exact hx
 | _=>exact h
theorem x1v {W C:List Str}:∀ {es:List En} {s:List Int},s.length≤9→(∀ e∈es,x3v W C e.2)→(q1r s es).length≤9
 | [],_,h,_=>h
 | e::es,s,h,hw=>x1v (es:=es) (z2s h (hw e List.mem_cons_self)) fun y hy=>hw y (List.mem_cons_of_mem _ hy)
theorem x4l (P:Pk) (t0:Int) (es:List En) {m n:Nat} (h:m≤n) (pl pl':Int):x4c (x4c P t0 (es.take m) pl) (q1h t0 (es.take m)) ((es.drop m).take (n - m)) pl'=x4c P t0 (es.take n) pl':=by
 have e:es.take n=es.take m++(es.drop m).take (n - m):=by
  obtain⟨d,rfl⟩:=Nat.exists_eq_add_of_le h
  rw [List.take_add,Nat.add_sub_cancel_left]
 unfold x4c
 rw [e]
 unfold q1h q1r q3l
 simp only [List.map_append,List.foldl_append]
theorem StV.alike {K:Frag} {H:Hp} {v u:V} {S:Sto} (h:StV H v S) (h':StV H u S):Alike K H 3 v u:=by
 obtain⟨sa,a,c,rfl,hs,ha,hc⟩:=h
 obtain⟨sb,a2,c2,rfl,hs2,ha2,hc2⟩:=h'
 refine .tup (SqT.of hs) (SqT.of hs2) rfl fun i x y e1 e2=>?_
 match i,e1,e2 with
 | 0,e1,e2=>cases e1; cases e2; exact ha.alike ha2
 | 1,e1,e2=>cases e1; cases e2; exact hc.alike hc2
theorem x2g {K:Frag} {H:Hp} {p q:Addr} {ms:List Int} {n:Nat} (h:H p=some (.tup (ms.map V.int))) (h':H q=some (.tup (ms.map V.int))):Alike K H (n+1) (.ref p) (.ref q):=by
 refine .tup (SqT.of h) (SqT.of h') rfl fun i x y e1 e2=>?_
 rw [e1] at e2
 cases e2
 obtain⟨z,_,rfl⟩:=List.mem_map.mp (List.mem_of_getElem? e1)
 exact .flat rfl
theorem PkV.eqs {K:Frag} {H:Hp} {v u:V} {P:Pk} (h:PkV H v P) (h':PkV H u P):∃ p q xs ys,v=.ref p∧u=.ref q∧SqT K H p xs∧SqT K H q ys∧xs.length=ys.length∧∀ (i:Nat) (x y:V),xs[i]? = some x→ys[i]? = some y→Alike K H 3 x y:=by
 obtain⟨p,q,a,rfl,h1,h2,h3⟩:=h
 obtain⟨p',q',a',rfl,h1',h2',h3'⟩:=h'
 refine⟨p,p',_,_,rfl,rfl,SqT.of h1,SqT.of h1',rfl,fun i x y e1 e2=>?_⟩
 match i,e1,e2 with
 | 0,e1,e2=>cases e1; cases e2; exact .flat rfl
 | 1,e1,e2=>cases e1; cases e2; exact .flat rfl
 | 2,e1,e2=>cases e1; cases e2; exact x2g h2 h2'
 | 3,e1,e2=>cases e1; cases e2; exact h3.alike h3'
noncomputable def x3u (K:Frag):Sp:=fun vs H Q _=>vs=[]∧∀ (v:V) (H':Hp),StV H' v ([],[])→q1l H H'→Q v H'
noncomputable def j5c:Sp:=fun vs H Q _=>∃ (q:Addr) (ms:List Int),vs=[.ref q]∧H q=some (.tup (ms.map V.int))∧∀ (r:V) (H':Hp),PkV H' r ⟨0,0,ms,([],[])⟩→q1l H H'→Q r H'
noncomputable def z3p:Sp:=fun vs H Q _=>vs=[]∧∀ (v:V) (H':Hp),RwP H' v 0 0 []→q1l H H'→Q v H'
noncomputable def q9k:Sp:=fun vs H Q _=>∃ (v:V) (b l:Int) (es:List En),vs=[v]∧RwP H v b l es∧Q (.int (b+(es.length:Int))) H
noncomputable def j5h:What→Bool
 | .seats _=>true
 | _=>false
noncomputable def x6j:Sp:=fun vs H Q _=>∃ (p:Addr) (t:Int) (u:V) (x:What),vs=[.ref p]∧H p=some (.tup [.int t,u])∧q4x H u x∧Q (.bl (j5h x)) H
noncomputable def q9t:Sp:=fun vs H Q _=>∃ (v:V) (q:Addr) (b l:Int) (es:List En) (ms:List Int),vs=[v,.ref q]∧RwP H v b l es∧H q=some (.tup (ms.map V.int))∧∀ q':Addr,H q'=some (.tup ((q1r ms es).map V.int))→Q (.ref q') H
theorem j5m:("open" : Str) ≠ "seats" := by decide +kernel
theorem j5k:("wish" : Str) ≠ "seats" := by decide +kernel
theorem j0p {a b:Str} (h:a≠b):¬ V.str a=V.str b:=fun e=>h (by injection e)
end K1
namespace L2
open PySem PySem.Spec PyProof.Rows
theorem q9p:fillsNumberSlot (.type "tuple") "mul" = pure false :=
 PySem.fillsNumberSlot_seq (id := "tuple.__mul__") (r:=some (.builtin "tuple.__rmul__")) F.slot_tuple_mul.lookup (by decide +kernel) F.slot_tuple_rmul.lookup (by decide +kernel)
theorem x5d:seqRepeat? (.type "tuple")=pure (some (.builtin "tuple.__mul__")):=by
 unfold seqRepeat?
 rw [PySem.seqSlot_of (T := "tuple") (name := "__mul__") (id := "tuple.__mul__") F.slot_tuple_mul.lookup (by decide +kernel),PySem.seqSlot_of (T := "tuple") (name := "__rmul__") (id := "tuple.__rmul__") F.slot_tuple_rmul.lookup (by decide +kernel)]
 rfl
theorem x1p (a:Int) (t:Tok) (l:Addr) (items:Array Value) (n:Nat) (dd:Option Addr) (sl:Array (Option Value)) :
  Meets (Builtin.«int.__rmul__» ⟨[.int a t,.ref l],[]⟩) (fun _ R s=>s.heap.get? l=some { cls:=.type "tuple",dict:=dd,data:=.seq items n,slots:=sl }∧R (.ok (.ret Value.notImplemented)) s) :=
 .of_wp fun prog w A R s h=>by obtain⟨hp,g,d,tk,os⟩:=s; obtain⟨hl,h⟩:=h; wp_walk; exact⟨_,rfl,h⟩
theorem x9o (l:Addr) (items:Array Value) (n:Nat) (dd:Option Addr) (sl:Array (Option Value)) (x:Int) (u:Tok) (hc0:¬(decide (x < -(2 ^ 63)) || decide (x≥2 ^ 63))=true) (hc1:¬(items.isEmpty || x==1)=true) (hc2:¬(decide (x≤0) || items.isEmpty)=true) (hc3:¬((items.size:Int)*x > (2 ^ 63 - 1) / 8)) (hc4:¬Builtin.Tuple.tupleTooMany ((items.size:Int)*x)=true) (hsz:((List.replicate x.toNat items).foldl (· ++ ·) #[]).size≤sizeLine) :
  Meets (Builtin.«tuple.__mul__» ⟨[.ref l,.int x u],[]⟩) (fun _ R s=>s.heap.get? l=some { cls:=.type "tuple",dict:=dd,data:=.seq items n,slots:=sl }∧R (.ok (.ret (Value.ref s.heap.objs.size))) { s with heap:=s.heap.push { cls:=Value.type "tuple",data:=Data.seq ((List.replicate x.toNat items).foldl (· ++ ·) #[]) },toks:=s.toks }) :=
 .of_wp fun prog w A R s h=>by
  obtain⟨hp,g,d,tk,os⟩:=s; obtain⟨hl,h⟩:=h; have f1:=AutoSeq1.idx_int
  wp_walk using wpAny_loadPart' hl
  refine wpAny_ite_false (decide_eq_false hc0) ?_
  wp_walk using wpAny_loadPart' hl
  refine wpAny_ite_false (decide_eq_false hc3) ?_
  wp_walk using wpAny_loadPart' hl
  exact⟨_,rfl,h⟩
noncomputable def j6l:R2:=fun x y H Q=>∃ a k xs,x=.ref a∧y=.int k∧H a=some (.tup xs)∧xs≠[]∧2≤k∧k < 1000∧xs.length≤1000∧∀ p,H p=none→Q (.ref p) (upd H p (.tup (List.replicate k.toNat xs).flatten))
theorem z2t {X:Cx}:OpR X (binaryOp .Mult) j6l:=by
 intro pins s σ H x y v u Q I rx ry h
 obtain⟨a,k,xs,rfl,rfl,hH,hne,h1,h2,hx,q⟩:=h
 cases rx
 obtain⟨t,rfl⟩:=ry
 obtain⟨its,r,p1,_⟩:=I.tuple (SqT.of hH)
 obtain⟨⟨cls,dd,data,sl⟩,ho,hc,n,hd⟩:=id p1
 simp only at hc hd
 subst hc hd
 have hl:=r.length
 have hpos:0 < its.length:=by rw [← hl]; exact List.length_pos_iff.mpr hne
 have hemp:its.toArray.isEmpty=false:=by cases its with
  | nil=>simp at hpos
  | cons _ _=>rfl
 have hk:((k.toNat:Nat):Int)=k:=Int.toNat_of_nonneg (by omega)
 have hnew:List.foldl (fun x1 x2=>x1++x2) #[] (List.replicate k.toNat its.toArray)=(List.replicate k.toNat its).flatten.toArray:=by
  have:=x4m its k.toNat []
  rw [List.nil_append] at this
  exact this
 have hlen:(List.replicate k.toNat xs).flatten.length≤1000000:=by
  rw [z1g]
  have hkn:k.toNat≤1000:=by omega
  exact Nat.le_trans (Nat.mul_le_mul hkn hx) (by decide)
 have hz:(List.replicate k.toNat xs).flatten.length≤sizeLine:=by rw [sizeLine_eq]; omega
 have hprod:((its.toArray.size:Int)*k)≤1000000:=by
  rw [z1g,hl] at hlen
  rw [List.size_toArray,← hk,Int.mul_comm]
  have e2:((k.toNat*its.length:Nat):Int)=(k.toNat:Int)*(its.length:Int):=Int.natCast_mul _ _
  rw [← e2]
  omega
 have hmany:¬ Builtin.Tuple.tupleTooMany ((its.toArray.size:Int)*k)=true:=fun g=>by
  have g2:(its.toArray.size:Int)*k > (sizeLine:Int):=of_decide_eq_true g
  rw [sizeLine_eq] at g2
  omega
 have hv:=r.rep k.toNat
 refine wpAny_binaryOp_repeat_ref (T := "tuple") (U := "int") (by decide) ⟨_,ho,rfl⟩ (fun s'=>typeIs_int s' k t) q9p F.fills_int_mul F.slot_int_rmul x5d F.slot_int_index.lookup
  (call_meets F.slot_int_rmul (typeIs_int s k t) F.entry_int_rmul (F.args_int_rmul_2 _ _) (x1p k t a its.toArray n dd sl)
   ⟨ho,rfl,⟨_,ho,rfl⟩,call_meets F.slot_tuple_mul ⟨_,ho,rfl⟩ F.entry_tuple_mul (F.args_tuple_mul_2 _ _) (x9o a its.toArray n dd sl k t (by simp; omega) (by simp [hemp]; omega) (by simp [hemp]; omega) (by omega) hmany (by rw [hnew,List.size_toArray,← hv.length]; exact hz)) ⟨ho,?_⟩⟩)
 rw [hnew]
 have hf:H s.heap.objs.size=none:=I.hok.fresh (Nat.le_refl _)
 refine⟨.ref s.heap.objs.size,upd H s.heap.objs.size (.tup (List.replicate k.toNat xs).flatten),I.laid (t':=s.toks) (fun b u e=>Heap.get?_push_of_some _ e) (Nat.le_refl _) ?_,rfl,q _ hf⟩
 exact⟨hz,_,hv,⟨_,Heap.get?_push_size _ rfl,rfl,_,rfl⟩⟩
end L2
namespace K1
open PySem L2 Kp
theorem q0s {f g:Str} {v:V} {fs:List (Str × V)} {x:Option V} (h:¬ g=f) (e:fs.lookup g=x):(L2.q1t f v fs).lookup g=x:=by rw [L2.q5m,if_neg h]; exact e
theorem q4s {f:Str} {v:V} {fs:List (Str × V)}:(L2.q1t f v fs).lookup f=some v:=by rw [L2.q5m,if_pos rfl]
noncomputable def kpN:List Str:=["number", "term", "voice", "pack", "row", "way", "voices", "head", "waits", "nexts", "held", "agreed", "store"]
structure FsOk (fs:List (Str × V)):Prop where
 nd:(fs.map (·.1)).Nodup
 inN:∀ x∈fs.map (·.1),x∈kpN
theorem x2r {f:Str} {v:V}:∀ {fs:List (Str × V)} {x:Str},x∈(L2.q1t f v fs).map (·.1)→x∈fs.map (·.1)∨x=f
 | [],x,h=>.inr (List.mem_singleton.mp h)
 | (g,y)::r,x,h=>by
  unfold L2.q1t at h
  by_cases e:g=f
  ·rw [if_pos e] at h
   exact .inl h
  ·rw [if_neg e,List.map_cons] at h
   rcases List.mem_cons.mp h with h | h
   ·exact .inl (List.mem_cons.mpr (.inl h))
   ·rcases x2r h with h | h
    ·exact .inl (List.mem_cons.mpr (.inr h))
    ·exact .inr h
theorem z6n {f:Str} {v:V}:∀ {fs:List (Str × V)},(fs.map (·.1)).Nodup→((L2.q1t f v fs).map (·.1)).Nodup
 | [],_=>List.nodup_cons.mpr ⟨List.not_mem_nil,List.nodup_nil⟩
 | (g,y)::r,h=>by
  unfold L2.q1t
  by_cases e:g=f
  ·rw [if_pos e]
   exact h
  ·rw [if_neg e,List.map_cons,List.nodup_cons]
   rw [List.map_cons,List.nodup_cons] at h
   refine⟨fun hm=>?_,z6n h.2⟩
   rcases x2r hm with hm | hm
   ·exact h.1 hm
   ·exact e hm
theorem FsOk.nil:FsOk []:=⟨List.nodup_nil,fun x h=>absurd h List.not_mem_nil⟩
theorem FsOk.put {f:Str} {v:V} {fs:List (Str × V)} (h:FsOk fs) (hf:f∈kpN):FsOk (L2.q1t f v fs):=⟨z6n h.nd,fun x hx=>by
 rcases x2r hx with hx | rfl
 ·exact h.inN x hx
 ·exact hf⟩
theorem FsOk.len {fs:List (Str × V)} (h:FsOk fs):fs.length < 1000:=by
 have:=x0f _ kpN h.nd h.inN
 rw [List.length_map] at this
 have e:kpN.length=13:=rfl
 omega
theorem z0x:∀ {fs:List (Str × V)} {g:Str},¬ g∈fs.map (·.1)→fs.lookup g=none
 | [],_,_=>rfl
 | (k,y)::r,g,h=>by
  rw [List.map_cons,List.mem_cons] at h
  have hb:(g==k)=false:=beq_eq_false_iff_ne.mpr fun e=>h (.inl e)
  simp only [List.lookup,hb]
  exact z0x fun hm=>h (.inr hm)
theorem FsOk.no {fs:List (Str × V)} {g:Str} (h:FsOk fs) (hg:¬ g∈kpN):fs.lookup g=none:=z0x fun hm=>hg (h.inN _ hm)
section
variable {P:Program} {w:World} {K:Frag} {mg:Str→Option Value} {base:Heap}
structure KpC (K:Frag) (C:Addr):Prop where
 cl:Cls K C
 n_number:q3i K C "number"
 n_term:q3i K C "term"
 n_voice:q3i K C "voice"
 n_head:q3i K C "head"
 n_way:q3i K C "way"
 n_pack:q3i K C "pack"
 n_row:q3i K C "row"
 n_store:q3i K C "store"
 n_nexts:q3i K C "nexts"
 n_held:q3i K C "held"
 n_agreed:q3i K C "agreed"
 n_voices:q3i K C "voices"
 n_waits:q3i K C "waits"
noncomputable def Off (a:Addr) (H H':Hp):Prop:=∀ b o,b≠a→H b=some o→H' b=some o
theorem Off.tups {a C dx:Addr} {fs:List (Str × V)} {H H':Hp} (o:Off a H H') (ha:H a=some (.ins C dx fs)):q2o H H':=fun b xs e=>o b _ (fun z=>by rw [z,ha] at e; cases e) e
noncomputable def vcV:Option Int→V
 | none=>.non
 | some i=>.int i
theorem Off.refl {a:Addr} {H:Hp}:Off a H H:=fun b o _ e=>e
theorem Off.trans {a:Addr} {H H' H2:Hp} (h:Off a H H') (h':Off a H' H2):Off a H H2:=fun b o n e=>h' b o n (h b o n e)
theorem q0k {a:Addr} {H:Hp} {o:HO}:Off a H (upd H a o):=fun b u n e=>by rw [q1c n]; exact e
theorem q1f {a:Addr} {H H':Hp} (s:q1l H H'):Off a H H':=fun b u _ e=>s _ _ e
theorem q4j {a p:Addr} {H:Hp} {o:HO} (hp:H p=none):Off a H (upd H p o):=q1f (q0d hp)
structure F2 (fs:List (Str × V)) (num:Int) (tm:Int) (vc:Option Int) (hd:Option Int) (way:Str) (ag:Int) (vp:V) (vr:V) (vst:V) (an:Addr) (ah:Addr) (av:Addr) (aw:Addr):Prop where
 number:fs.lookup ("number" : Str)=some (.int num)
 term:fs.lookup ("term" : Str)=some (.int tm)
 voice:fs.lookup ("voice" : Str)=some (vcV vc)
 head:fs.lookup ("head" : Str)=some (vcV hd)
 way:fs.lookup ("way" : Str)=some (.str way)
 pack:fs.lookup ("pack" : Str)=some (vp)
 row:fs.lookup ("row" : Str)=some (vr)
 store:fs.lookup ("store" : Str)=some (vst)
 nexts:fs.lookup ("nexts" : Str)=some (.ref an)
 held:fs.lookup ("held" : Str)=some (.ref ah)
 agreed:fs.lookup ("agreed" : Str)=some (.int ag)
 voices:fs.lookup ("voices" : Str)=some (.ref av)
 waits:fs.lookup ("waits" : Str)=some (.ref aw)
theorem F2.put_term {fs:List (Str × V)} {num:Int} {tm:Int} {vc:Option Int} {hd:Option Int} {way:Str} {ag:Int} {vp:V} {vr:V} {vst:V} {an:Addr} {ah:Addr} {av:Addr} {aw:Addr} (h:F2 fs num tm vc hd way ag vp vr vst an ah av aw) (x:Int):F2 (L2.q1t "term" (.int x) fs) num x vc hd way ag vp vr vst an ah av aw:=⟨q0s (by decide +kernel) h.number,q4s,q0s (by decide +kernel) h.voice,q0s (by decide +kernel) h.head,q0s (by decide +kernel) h.way,q0s (by decide +kernel) h.pack,q0s (by decide +kernel) h.row,q0s (by decide +kernel) h.store,q0s (by decide +kernel) h.nexts,q0s (by decide +kernel) h.held,q0s (by decide +kernel) h.agreed,q0s (by decide +kernel) h.voices,q0s (by decide +kernel) h.waits⟩
theorem F2.put_voice {fs:List (Str × V)} {num:Int} {tm:Int} {vc:Option Int} {hd:Option Int} {way:Str} {ag:Int} {vp:V} {vr:V} {vst:V} {an:Addr} {ah:Addr} {av:Addr} {aw:Addr} (h:F2 fs num tm vc hd way ag vp vr vst an ah av aw) (x:Option Int):F2 (L2.q1t "voice" (vcV x) fs) num tm x hd way ag vp vr vst an ah av aw:=⟨q0s (by decide +kernel) h.number,q0s (by decide +kernel) h.term,q4s,q0s (by decide +kernel) h.head,q0s (by decide +kernel) h.way,q0s (by decide +kernel) h.pack,q0s (by decide +kernel) h.row,q0s (by decide +kernel) h.store,q0s (by decide +kernel) h.nexts,q0s (by decide +kernel) h.held,q0s (by decide +kernel) h.agreed,q0s (by decide +kernel) h.voices,q0s (by decide +kernel) h.waits⟩
theorem F2.put_head {fs:List (Str × V)} {num:Int} {tm:Int} {vc:Option Int} {hd:Option Int} {way:Str} {ag:Int} {vp:V} {vr:V} {vst:V} {an:Addr} {ah:Addr} {av:Addr} {aw:Addr} (h:F2 fs num tm vc hd way ag vp vr vst an ah av aw) (x:Option Int):F2 (L2.q1t "head" (vcV x) fs) num tm vc x way ag vp vr vst an ah av aw:=⟨q0s (by decide +kernel) h.number,q0s (by decide +kernel) h.term,q0s (by decide +kernel) h.voice,q4s,q0s (by decide +kernel) h.way,q0s (by decide +kernel) h.pack,q0s (by decide +kernel) h.row,q0s (by decide +kernel) h.store,q0s (by decide +kernel) h.nexts,q0s (by decide +kernel) h.held,q0s (by decide +kernel) h.agreed,q0s (by decide +kernel) h.voices,q0s (by decide +kernel) h.waits⟩
theorem F2.put_way {fs:List (Str × V)} {num:Int} {tm:Int} {vc:Option Int} {hd:Option Int} {way:Str} {ag:Int} {vp:V} {vr:V} {vst:V} {an:Addr} {ah:Addr} {av:Addr} {aw:Addr} (h:F2 fs num tm vc hd way ag vp vr vst an ah av aw) (x:Str):F2 (L2.q1t "way" (.str x) fs) num tm vc hd x ag vp vr vst an ah av aw:=⟨q0s (by decide +kernel) h.number,q0s (by decide +kernel) h.term,q0s (by decide +kernel) h.voice,q0s (by decide +kernel) h.head,q4s,q0s (by decide +kernel) h.pack,q0s (by decide +kernel) h.row,q0s (by decide +kernel) h.store,q0s (by decide +kernel) h.nexts,q0s (by decide +kernel) h.held,q0s (by decide +kernel) h.agreed,q0s (by decide +kernel) h.voices,q0s (by decide +kernel) h.waits⟩
theorem F2.put_pack {fs:List (Str × V)} {num:Int} {tm:Int} {vc:Option Int} {hd:Option Int} {way:Str} {ag:Int} {vp:V} {vr:V} {vst:V} {an:Addr} {ah:Addr} {av:Addr} {aw:Addr} (h:F2 fs num tm vc hd way ag vp vr vst an ah av aw) (x:V):F2 (L2.q1t "pack" (x) fs) num tm vc hd way ag x vr vst an ah av aw:=⟨q0s (by decide +kernel) h.number,q0s (by decide +kernel) h.term,q0s (by decide +kernel) h.voice,q0s (by decide +kernel) h.head,q0s (by decide +kernel) h.way,q4s,q0s (by decide +kernel) h.row,q0s (by decide +kernel) h.store,q0s (by decide +kernel) h.nexts,q0s (by decide +kernel) h.held,q0s (by decide +kernel) h.agreed,q0s (by decide +kernel) h.voices,q0s (by decide +kernel) h.waits⟩
theorem F2.put_row {fs:List (Str × V)} {num:Int} {tm:Int} {vc:Option Int} {hd:Option Int} {way:Str} {ag:Int} {vp:V} {vr:V} {vst:V} {an:Addr} {ah:Addr} {av:Addr} {aw:Addr} (h:F2 fs num tm vc hd way ag vp vr vst an ah av aw) (x:V):F2 (L2.q1t "row" (x) fs) num tm vc hd way ag vp x vst an ah av aw:=⟨q0s (by decide +kernel) h.number,q0s (by decide +kernel) h.term,q0s (by decide +kernel) h.voice,q0s (by decide +kernel) h.head,q0s (by decide +kernel) h.way,q0s (by decide +kernel) h.pack,q4s,q0s (by decide +kernel) h.store,q0s (by decide +kernel) h.nexts,q0s (by decide +kernel) h.held,q0s (by decide +kernel) h.agreed,q0s (by decide +kernel) h.voices,q0s (by decide +kernel) h.waits⟩
theorem F2.put_store {fs:List (Str × V)} {num:Int} {tm:Int} {vc:Option Int} {hd:Option Int} {way:Str} {ag:Int} {vp:V} {vr:V} {vst:V} {an:Addr} {ah:Addr} {av:Addr} {aw:Addr} (h:F2 fs num tm vc hd way ag vp vr vst an ah av aw) (x:V):F2 (L2.q1t "store" (x) fs) num tm vc hd way ag vp vr x an ah av aw:=⟨q0s (by decide +kernel) h.number,q0s (by decide +kernel) h.term,q0s (by decide +kernel) h.voice,q0s (by decide +kernel) h.head,q0s (by decide +kernel) h.way,q0s (by decide +kernel) h.pack,q0s (by decide +kernel) h.row,q4s,q0s (by decide +kernel) h.nexts,q0s (by decide +kernel) h.held,q0s (by decide +kernel) h.agreed,q0s (by decide +kernel) h.voices,q0s (by decide +kernel) h.waits⟩
theorem F2.put_agreed {fs:List (Str × V)} {num:Int} {tm:Int} {vc:Option Int} {hd:Option Int} {way:Str} {ag:Int} {vp:V} {vr:V} {vst:V} {an:Addr} {ah:Addr} {av:Addr} {aw:Addr} (h:F2 fs num tm vc hd way ag vp vr vst an ah av aw) (x:Int):F2 (L2.q1t "agreed" (.int x) fs) num tm vc hd way x vp vr vst an ah av aw:=⟨q0s (by decide +kernel) h.number,q0s (by decide +kernel) h.term,q0s (by decide +kernel) h.voice,q0s (by decide +kernel) h.head,q0s (by decide +kernel) h.way,q0s (by decide +kernel) h.pack,q0s (by decide +kernel) h.row,q0s (by decide +kernel) h.store,q0s (by decide +kernel) h.nexts,q0s (by decide +kernel) h.held,q4s,q0s (by decide +kernel) h.voices,q0s (by decide +kernel) h.waits⟩
theorem F2.put_voices {fs:List (Str × V)} {num:Int} {tm:Int} {vc:Option Int} {hd:Option Int} {way:Str} {ag:Int} {vp:V} {vr:V} {vst:V} {an:Addr} {ah:Addr} {av:Addr} {aw:Addr} (h:F2 fs num tm vc hd way ag vp vr vst an ah av aw) (x:Addr):F2 (L2.q1t "voices" (.ref x) fs) num tm vc hd way ag vp vr vst an ah x aw:=⟨q0s (by decide +kernel) h.number,q0s (by decide +kernel) h.term,q0s (by decide +kernel) h.voice,q0s (by decide +kernel) h.head,q0s (by decide +kernel) h.way,q0s (by decide +kernel) h.pack,q0s (by decide +kernel) h.row,q0s (by decide +kernel) h.store,q0s (by decide +kernel) h.nexts,q0s (by decide +kernel) h.held,q0s (by decide +kernel) h.agreed,q4s,q0s (by decide +kernel) h.waits⟩
structure Kst where
 num:Int
 tm:Int
 vc:Option Int
 hd:Option Int
 way:Str
 ag:Int
 vs:List Int
 P:Pk
 b:Int
 l:Int
 es:List En
 S:Sto
 nx:Int
structure S2 (H:Hp) (k:Kst) (vp vr vst:V) (an ah av aw:Addr):Prop where
 pack:PkV H vp k.P
 row:RwP H vr k.b k.l k.es
 store:StV H vst k.S
 nexts:H an=some (.tup (List.replicate 9 (.int k.nx)))
 held:H ah=some (.tup (List.replicate 9 (.int 0)))
 voices:H av=some (.tup (k.vs.map V.int))
 waits:H aw=some (.tup [])
theorem RwT.sameT {H H':Hp} {a:Addr} {rs:List Rw} (h:RwT H a rs) (s:q2o H H'):RwT H' a rs:=by
 obtain⟨vs,e,r⟩:=h
 exact⟨vs,s _ _ e,r.sameT s⟩
theorem StV.offT {H H':Hp} {v:V} {S:Sto} (h:StV H v S) (s:q2o H H'):StV H' v S:=by
 obtain⟨s1,a1,c1,e1,g1,g2,g3⟩:=h
 exact⟨s1,a1,c1,e1,s _ _ g1,g2.sameT s,g3.sameT s⟩
theorem x0h.sameT {H H':Hp} {v:V} {d:Deed} (h:x0h H v d) (s:q2o H H'):x0h H' v d:=by
 cases d <;> (obtain⟨p,e,g⟩:=h; exact⟨p,e,s _ _ g⟩)
theorem q4x.sameT {H H':Hp} {v:V} {x:What} (h:q4x H v x) (s:q2o H H'):q4x H' v x:=by
 cases x with
 | opn=>obtain⟨p,e,g⟩:=h; exact⟨p,e,s _ _ g⟩
 | seats ms=>obtain⟨p,q,e,g,g2⟩:=h; exact⟨p,q,e,s _ _ g,s _ _ g2⟩
 | wish c n d=>obtain⟨p,u,e,g,g2⟩:=h; exact⟨p,u,e,s _ _ g,g2.sameT s⟩
theorem ET.sameT {H H':Hp} (s:q2o H H'):∀ {us:List V} {es:List En},ET H us es→ET H' us es
 | _,_,.nil=>.nil
 | _,_,.cons hp hu r=>.cons (s _ _ hp) (hu.sameT s) (r.sameT s)
theorem RwP.sameT {H H':Hp} {v:V} {b l:Int} {es:List En} (h:RwP H v b l es) (s:q2o H H'):RwP H' v b l es:=by
 obtain⟨r,c,us,e,h1,h2,h3⟩:=h
 exact⟨r,c,us,e,s _ _ h1,s _ _ h2,h3.sameT s⟩
theorem PkV.offT {H H':Hp} {v:V} {P:Pk} (h:PkV H v P) (s:q2o H H'):PkV H' v P:=by
 obtain⟨p,q,u,e,h1,h2,h3⟩:=h
 exact⟨p,q,u,e,s _ _ h1,s _ _ h2,h3.offT s⟩
theorem S2.sameT {H H':Hp} {k:Kst} {vp vr vst:V} {an ah av aw:Addr} (h:S2 H k vp vr vst an ah av aw) (s:q2o H H'):S2 H' k vp vr vst an ah av aw:=⟨h.pack.offT s,h.row.sameT s,h.store.offT s,s _ _ h.nexts,s _ _ h.held,s _ _ h.voices,s _ _ h.waits⟩
noncomputable def K2V (C:Addr) (H:Hp) (a:Addr) (k:Kst):Prop:=∃ (dx:Addr) (fs:List (Str × V)) (vp vr vst:V) (an ah av aw:Addr),H a=some (.ins C dx fs)∧F2 fs k.num k.tm k.vc k.hd k.way k.ag vp vr vst an ah av aw∧FsOk fs∧S2 H k vp vr vst an ah av aw
theorem K2V.frame {C:Addr} {H H':Hp} {a:Addr} {k:Kst} (h:K2V C H a k) (s:q2o H H') (ka:∀ o,H a=some o→H' a=some o):K2V C H' a k:=by
 obtain⟨dx,fs,vp,vr,vst,an,ah,av,aw,ha,f,ok,S⟩:=h
 exact⟨dx,fs,vp,vr,vst,an,ah,av,aw,ka _ ha,f,ok,S.sameT s⟩
theorem K2V.same {C:Addr} {H H':Hp} {a:Addr} {k:Kst} (h:K2V C H a k) (s:q1l H H'):K2V C H' a k:=h.frame (q1j s) fun o e=>s _ _ e
noncomputable def q3q (k:Kst) (t:Int):Kst:=if t > k.tm then { k with tm:=t,vc:=none,way := "plain",vs:=[],hd:=none } else k
noncomputable def j2y (k:Kst):Kst:={ k with way := "plain",vs:=[],hd:=none,nx:=k.b+(k.es.length:Int)+1,ag:=k.P.pl,S:=k.P.so }
structure Plain (C a dx:Addr) (fs fs':List (Str × V)) (av aw:Addr) (H H':Hp):Prop where
 at_:H' a=some (.ins C dx fs')
 ok:FsOk fs'
 way:fs'.lookup ("way" : Str)=some (.str "plain")
 voices:fs'.lookup ("voices" : Str)=some (.ref av)
 head:fs'.lookup ("head" : Str)=some .non
 waits:fs'.lookup ("waits" : Str)=some (.ref aw)
 hv:H' av=some (.tup [])
 hw:H' aw=some (.tup [])
 kept:∀ g:Str,¬ g∈(["way", "voices", "head", "waits"]:List Str)→fs'.lookup g=fs.lookup g
 off:Off a H H'
noncomputable def x2q (C:Addr):Sp:=fun vs H Q _=>∃ (a dx:Addr) (fs:List (Str × V)),vs=[.ref a]∧H a=some (.ins C dx fs)∧FsOk fs∧∀ (fs':List (Str × V)) (av aw:Addr) (H':Hp),Plain C a dx fs fs' av aw H H'→Q .non H'
theorem j8u:FnScope ["self"] ["self"] (q0h q3s):=fSc
theorem x6b {f:Addr} {fd:FuncData} {C:Addr} (Y:KpC K C) (F:Fun K "be_plain" "Keeper.be_plain" q3s f fd):FnOk P w K mg base CX0 1 f fd ["self"] (x2q C):=by
 refine F.ok j8u (by rintro _ _ _ _⟨_,_,_,rfl,_⟩; rfl) (fun _ A _ s H vs Q E hr h=>?_)
 obtain⟨a,dx,fs,rfl,ha,ok,q⟩:=h
 refine⟨_,@q0j _ _ _ _ _ (q2d (pv 0) (q2k) (by rfl))
  (@q0j _ _ _ _ _ (q2d (pv 0) (QE.h (q1d (q0v))) (by rfl))
  (@q0j _ _ _ _ _ (q2d (pv 0) (q8k) (by rfl))
  (@q0p _ _ _ (q2d (pv 0) (QE.h (q1d (q0v))) (by rfl))))),?_⟩
 have k1:FsOk (L2.q1t "way" (.str "plain") fs):=ok.put (by decide +kernel)
 refine⟨_,rfl,a,C,dx,fs,rfl,ha,Y.cl,Y.n_way,ok.len,?_⟩
 refine⟨q1n (by show 0≤1000; decide),fun av hav=>?_⟩
 have na:a≠av:=fun z=>by rw [← z,q0b] at hav; cases hav
 refine⟨_,rfl,a,C,dx,_,rfl,(by rw [q1c na]; exact q0b),Y.cl,Y.n_voices,k1.len,?_⟩
 have k2:=k1.put (f := "voices") (v:=.ref av) (by decide +kernel)
 refine⟨_,rfl,a,C,dx,_,rfl,q0b,Y.cl,Y.n_head,k2.len,?_⟩
 have k3:=k2.put (f := "head") (v:=.non) (by decide +kernel)
 refine⟨q1n (by show 0≤1000; decide),fun aw haw=>?_⟩
 have nw:a≠aw:=fun z=>by rw [← z,q0b] at haw; cases haw
 have o5:=q4j (a:=a) (o:=HO.tup []) haw
 refine⟨_,rfl,a,C,dx,_,rfl,(by rw [q1c nw]; exact q0b),Y.cl,Y.n_waits,k3.len,?_⟩
 have k4:=k3.put (f := "waits") (v:=.ref aw) (by decide +kernel)
 refine q _ av aw _ ⟨q0b,k4,q0s (by decide +kernel) (q0s (by decide +kernel) (q0s (by decide +kernel) (q4s))),q0s (by decide +kernel) (q0s (by decide +kernel) (q4s)),q0s (by decide +kernel) (q4s),q4s,?_,?_,fun g hg=>?_,?_⟩
 ·exact q0k _ _ na.symm (o5 _ _ na.symm (q0k _ _ na.symm (q0k _ _ na.symm q0b)))
 ·rw [q1c nw.symm]; exact q0b
 ·simp only [List.mem_cons,List.not_mem_nil,or_false,not_or] at hg
  obtain⟨g1,g2,g3,g4⟩:=hg
  exact q0s g4 (q0s g3 (q0s g2 (q0s g1 rfl)))
 ·exact q0k.trans ((q4j hav).trans (q0k.trans (q0k.trans (o5.trans q0k))))
structure Knp (C a dx:Addr) (fs fs':List (Str × V)) (tk tn:Addr) (z:Int) (H H':Hp):Prop where
 at_:H' a=some (.ins C dx fs')
 ok:FsOk fs'
 nexts:fs'.lookup ("nexts" : Str)=some (.ref tk)
 held:fs'.lookup ("held" : Str)=some (.ref tn)
 hn:H' tk=some (.tup (List.replicate 9 (V.int z)))
 hh:H' tn=some (.tup (List.replicate 9 (V.int 0)))
 kept:∀ g:Str,¬ g∈(["nexts", "held"]:List Str)→fs'.lookup g=fs.lookup g
 off:Off a H H'
noncomputable def j3h (C:Addr):Sp:=fun vs H Q _=>∃ (a dx:Addr) (fs:List (Str × V)) (vr:V) (b l:Int) (es:List En),vs=[.ref a]∧H a=some (.ins C dx fs)∧FsOk fs∧fs.lookup ("row" : Str)=some vr∧RwP H vr b l es∧∀ (fs':List (Str × V)) (tk tn:Addr) (H':Hp),Knp C a dx fs fs' tk tn (b+(es.length:Int)+1) H H'→Q .non H'
theorem j9y:FnScope ["self"] ["self"] (q0h q2l):=fSc
theorem j0w {f:Addr} {fd:FuncData} {C:Addr} (Y:KpC K C) (F:Fun K "know_no_places" "Keeper.know_no_places" q2l f fd) (CE:Cal P w K mg base "end_of" 1 ["row"] q9k):FnOk P w K mg base CX0 2 f fd ["self"] (j3h C):=by
 refine F.ok j9y (by rintro _ _ _ _⟨_,_,_,_,_,_,_,rfl,_⟩; rfl) (fun _ A _ s H vs Q E hr h=>?_)
 obtain⟨a,dx,fs,vr,b,l,es,rfl,ha,ok,lr,hrw,q⟩:=h
 refine⟨_,@q0j _ _ _ _ _ (q2d (pv 0) (q0x z2t (QE.h (q1d (z6p (q0x q1o (q0n CE hr (q1k (q1e (pv 0) (by rfl)) q0e)) (q0c)) q0v))) q0c) (by rfl))
  (@q0p _ _ _ (q2d (pv 0) (q0x z2t (QE.h (q1d (q1a q0v))) q0c) (by rfl))),?_⟩
 refine⟨_,rfl,a,C,dx,fs,vr,rfl,ha,Y.cl,Y.n_row,lr,vr,b,l,es,rfl,hrw,_,_,rfl,rfl,q1n (by show 1≤1000; decide),fun tj htj=>?_⟩
 refine⟨tj,9,[V.int (b+(es.length:Int)+1)],rfl,rfl,q0b,by simp,by first | decide | (show 1≤1000; decide),by first | decide | (show 1≤1000; decide),by first | decide | (show 1≤1000; decide),fun tk htk=>?_⟩
 have s2:=q0d (o:=HO.tup [V.int (b+(es.length:Int)+1)]) htj
 have s3:=q0d (o:=HO.tup (List.replicate (9:Int).toNat [V.int (b+(es.length:Int)+1)]).flatten) htk
 refine⟨_,rfl,a,C,dx,fs,rfl,(s2.trans s3) _ _ ha,Y.cl,Y.n_nexts,ok.len,?_⟩
 have na:tk≠a:=fun z=>by
  have:=s2 _ _ ha
  rw [← z] at this
  exact absurd (htk.symm.trans this) (by intro e; cases e)
 have k2:=ok.put (f := "nexts") (v:=.ref tk) (by decide +kernel)
 refine⟨q1n (by show 1≤1000; decide),fun tl htl=>?_⟩
 refine⟨tl,9,[V.int 0],rfl,rfl,q0b,by simp,by decide,by decide,by decide,fun tn htn=>?_⟩
 have s4:=q0d (o:=HO.tup [V.int 0]) htl
 have s5:=q0d (o:=HO.tup (List.replicate (9:Int).toNat [V.int 0]).flatten) htn
 have nb:tn≠a:=fun z=>by
  subst z
  exact absurd (htn.symm.trans (s4 tn _ q0b)) (by intro e; cases e)
 refine⟨_,rfl,a,C,dx,_,rfl,(s4.trans s5) _ _ q0b,Y.cl,Y.n_held,k2.len,?_⟩
 have k3:=k2.put (f := "held") (v:=.ref tn) (by decide +kernel)
 refine q _ tk tn _ ⟨q0b,k3,q0s (by decide +kernel) q4s,q4s,?_,?_,fun g hg=>?_,?_⟩
 ·exact q0k _ _ na ((s4.trans s5) _ _ (q0k _ _ na q0b))
 ·exact q0k _ _ nb q0b
 ·simp only [List.mem_cons,List.not_mem_nil,or_false,not_or] at hg
  exact q0s hg.2 (q0s hg.1 rfl)
 ·exact (q1f (s2.trans s3)).trans (q0k.trans ((q1f (s4.trans s5)).trans q0k))
theorem j2p {C a dx:Addr} {fs fs':List (Str × V)} {av' aw':Addr} {H H':Hp} {k:Kst} {vp vr vst:V} {an ah av aw:Addr} (ha:H a=some (.ins C dx fs)) (f:F2 fs k.num k.tm k.vc k.hd k.way k.ag vp vr vst an ah av aw) (S:S2 H k vp vr vst an ah av aw) (pl:Plain C a dx fs fs' av' aw' H H'):F2 fs' k.num k.tm k.vc none "plain" k.ag vp vr vst an ah av' aw'∧S2 H' { k with hd:=none,way := "plain",vs:=[] } vp vr vst an ah av' aw':=by
 have s:=pl.off.tups ha
 exact⟨⟨(pl.kept "number" (by decide +kernel)).trans f.number,(pl.kept "term" (by decide +kernel)).trans f.term,(pl.kept "voice" (by decide +kernel)).trans f.voice,pl.head,pl.way,(pl.kept "pack" (by decide +kernel)).trans f.pack,(pl.kept "row" (by decide +kernel)).trans f.row,(pl.kept "store" (by decide +kernel)).trans f.store,(pl.kept "nexts" (by decide +kernel)).trans f.nexts,(pl.kept "held" (by decide +kernel)).trans f.held,(pl.kept "agreed" (by decide +kernel)).trans f.agreed,pl.voices,pl.waits⟩,⟨S.pack.offT s,S.row.sameT s,S.store.offT s,s _ _ S.nexts,s _ _ S.held,pl.hv,pl.hw⟩⟩
noncomputable def z9b (C:Addr):Sp:=fun vs H Q _=>∃ (a dx:Addr) (fs:List (Str × V)) (num tm:Int) (vc:Option Int) (vp vr:V) (P0:Pk) (b l:Int) (es:List En),vs=[.ref a]∧H a=some (.ins C dx fs)∧FsOk fs∧fs.lookup ("number" : Str)=some (.int num)∧fs.lookup ("term" : Str)=some (.int tm)∧fs.lookup ("voice" : Str)=some (vcV vc)∧fs.lookup ("pack" : Str)=some vp∧fs.lookup ("row" : Str)=some vr∧PkV H vp P0∧RwP H vr b l es∧∀ H',K2V C H' a ⟨num,tm,vc,none, "plain",P0.pl,[],P0,b,l,es,P0.so,b+(es.length:Int)+1⟩→Off a H H'→Q .non H'
theorem j7z:FnScope ["self"] ["self"] (q0h q5o):=fSc
theorem j1i {f fB fN:Addr} {fd dB dN:FuncData} {C:Addr} (Y:KpC K C) (F:Fun K "wake" "Keeper.wake" q5o f fd) (MB:Meth K C "be_plain" fB) (FB:FnOk P w K mg base CX0 1 fB dB ["self"] (x2q C)) (bB:q3p K dB ["self"] []) (MN:Meth K C "know_no_places" fN) (FN:FnOk P w K mg base CX0 2 fN dN ["self"] (j3h C)) (bN:q3p K dN ["self"] []):FnOk P w K mg base CX0 3 f fd ["self"] (z9b C):=by
 refine F.ok j7z (by rintro _ _ _ _⟨_,_,_,_,_,_,_,_,_,_,_,_,rfl,_⟩; rfl) (fun _ A _ s H vs Q E hr h=>?_)
 obtain⟨a,dx,fs,num,tm,vc,vp,vr,P0,b,l,es,rfl,ha,ok,l1,l2,l3,l4,l5,hp,hrw,q⟩:=h
 have r1:=hr.mono (show 1≤2 by omega)
 refine⟨_,@q0j _ _ _ _ _ (q2g (q8o (pv 0) Y.cl MB FB r1 bB .nil q7n))
  (@q0j _ _ _ _ _ (q2g (q8o (pv 0) Y.cl MN FN hr bN .nil q7n))
  (@q0j _ _ _ _ _ (q2d (pv 0) (q0f q0i (q1e (pv 0) (by rfl)) q0c q0w) (by rfl))
  (@q0p _ _ _ (q2d (pv 0) (q0f q0i (q1e (pv 0) (by rfl)) q0c q0w) (by rfl))))),?_⟩
 refine⟨_,rfl,a,dx,fs,rfl,ha,ok.no (by decide +kernel),a,dx,fs,rfl,ha,ok,fun fs1 av aw H1 pl=>?_⟩
 have sT:=pl.off.tups ha
 have l5':=(pl.kept "row" (by decide +kernel)).trans l5
 have hrw1:=hrw.sameT sT
 refine⟨_,rfl,a,dx,fs1,rfl,pl.at_,pl.ok.no (by decide +kernel),a,dx,fs1,vr,b,l,es,rfl,pl.at_,pl.ok,l5',hrw1,fun fs2 tk tn H2 kn=>?_⟩
 have s2:=kn.off.tups pl.at_
 have hp2:=(hp.offT sT).offT s2
 have hp2':=hp2
 obtain⟨pp,pq,pu,rfl,hpp,hpq,hpu⟩:=hp2'
 have kp:∀ g:Str,¬ g∈(["way", "voices", "head", "waits"]:List Str)→¬ g∈(["nexts", "held"]:List Str)→∀ x,fs.lookup g=x→fs2.lookup g=x:=fun g g1 g2 x e=>(kn.kept g g2).trans ((pl.kept g g1).trans e)
 have l4b:=kp "pack" (by decide +kernel) (by decide +kernel) _ l4
 refine⟨_,rfl,a,C,dx,_,.ref pp,rfl,kn.at_,Y.cl,Y.n_pack,l4b,pp,_,_,.int P0.pl,rfl,rfl,SqT.of hpp,q0a (j:=0) rfl,_,rfl,a,C,dx,_,rfl,kn.at_,Y.cl,Y.n_agreed,kn.ok.len,?_⟩
 have k4:=kn.ok.put (f := "agreed") (v:=.int P0.pl) (by decide +kernel)
 have np:pp≠a:=fun z=>by rw [z,kn.at_] at hpp; cases hpp
 refine⟨_,rfl,a,C,dx,_,.ref pp,rfl,q0b,Y.cl,Y.n_pack,q0s (by decide +kernel) l4b,pp,_,_,pu,rfl,rfl,SqT.of (q0k _ _ np hpp),q0a (j:=3) rfl,_,rfl,a,C,dx,_,rfl,q0b,Y.cl,Y.n_store,k4.len,?_⟩
 have k5:=k4.put (f := "store") (v:=pu) (by decide +kernel)
 have oC:Off a H2 _:=(q0k (o:=HO.ins C dx (L2.q1t "agreed" (.int P0.pl) fs2))).trans (q0k (o:=HO.ins C dx (L2.q1t "store" pu (L2.q1t "agreed" (.int P0.pl) fs2))))
 have sC:=oC.tups kn.at_
 have hn2:=kn.hn
 refine q _ ⟨dx,_,.ref pp,vr,pu,tk,tn,av,aw,q0b,⟨q0s (by decide +kernel) (q0s (by decide +kernel) (kp "number" (by decide +kernel) (by decide +kernel) _ l1)),q0s (by decide +kernel) (q0s (by decide +kernel) (kp "term" (by decide +kernel) (by decide +kernel) _ l2)),q0s (by decide +kernel) (q0s (by decide +kernel) (kp "voice" (by decide +kernel) (by decide +kernel) _ l3)),q0s (by decide +kernel) (q0s (by decide +kernel) ((kn.kept "head" (by decide +kernel)).trans pl.head)),q0s (by decide +kernel) (q0s (by decide +kernel) ((kn.kept "way" (by decide +kernel)).trans pl.way)),q0s (by decide +kernel) (q0s (by decide +kernel) (l4b)),q0s (by decide +kernel) (q0s (by decide +kernel) (kp "row" (by decide +kernel) (by decide +kernel) _ l5)),q4s,q0s (by decide +kernel) (q0s (by decide +kernel) (kn.nexts)),q0s (by decide +kernel) (q0s (by decide +kernel) (kn.held)),q0s (by decide +kernel) q4s,q0s (by decide +kernel) (q0s (by decide +kernel) ((kn.kept "voices" (by decide +kernel)).trans pl.voices)),q0s (by decide +kernel) (q0s (by decide +kernel) ((kn.kept "waits" (by decide +kernel)).trans pl.waits))⟩,k5,⟨hp2.offT sC,(hrw1.sameT s2).sameT sC,hpu.offT sC,sC _ _ hn2,sC _ _ kn.hh,sC _ _ (s2 _ _ pl.hv),sC _ _ (s2 _ _ pl.hw)⟩⟩ (pl.off.trans (kn.off.trans oC))
noncomputable def j3n (C:Addr):Sp:=fun vs H Q _=>∃ (a:Addr) (k:Kst),vs=[.ref a]∧K2V C H a k∧∀ H',K2V C H' a (j2y k)→Off a H H'→Q .non H'
theorem j2t {f:Addr} {fd:FuncData} {C:Addr} (F:FnOk P w K mg base CX0 3 f fd ["self"] (z9b C)):FnOk P w K mg base CX0 3 f fd ["self"] (j3n C):=F.imp fun vs H Q E ⟨a,k,e,hk,q⟩=>by
 subst e
 obtain⟨dx,fs,vp,vr,vst,an,ah,av,aw,ha,f,ok,S⟩:=hk
 exact⟨a,dx,fs,k.num,k.tm,k.vc,vp,vr,k.P,k.b,k.l,k.es,rfl,ha,ok,f.number,f.term,f.voice,f.pack,f.row,S.pack,S.row,q⟩
noncomputable def x1c (C:Addr):Sp:=fun vs H Q _=>∃ (a:Addr) (t:Int) (k:Kst),vs=[.ref a,.int t]∧K2V C H a k∧∀ H',K2V C H' a (q3q k t)→Off a H H'→Q .non H'
theorem j9k:FnScope ["self", "term"] ["self", "term"] (q0h q5y):=fSc
theorem z5b {f fB:Addr} {fd dB:FuncData} {C:Addr} (Y:KpC K C) (F:Fun K "hear" "Keeper.hear" q5y f fd) (MB:Meth K C "be_plain" fB) (FB:FnOk P w K mg base CX0 1 fB dB ["self"] (x2q C)) (bB:q3p K dB ["self"] []):FnOk P w K mg base CX0 2 f fd ["self", "term"] (x1c C):=by
 refine F.ok j9k (by rintro _ _ _ _⟨_,_,_,rfl,_⟩; rfl) (fun _ A _ s H vs Q E hr h=>?_)
 obtain⟨a,t,k,rfl,hk,q⟩:=h
 refine⟨_,@q0p _ _ _ (q1g (q0m q4g (pv 1) (q1e (pv 0) (by rfl)) (q0o _)) (@q0j _ _ _ _ _ (q2d (pv 0) (pv 1) (by rfl))
  (@q0j _ _ _ _ _ (q2d (pv 0) (q8k) (by rfl))
  (@q0p _ _ _ (q2g (q8o (pv 0) Y.cl MB FB hr bB .nil q7n))))) q0u),?_⟩
 have hk':=hk
 obtain⟨dx,fs,vp,vr,vst,an,ah,av,aw,ha,f,ok,S⟩:=hk'
 refine⟨_,rfl,_,rfl,a,C,dx,fs,_,rfl,ha,Y.cl,Y.n_term,f.term,_,_,rfl,rfl,_,rfl,q4r (fun h=>?_) (fun h=>?_)⟩
 ·have e:t > k.tm:=of_decide_eq_true h
  unfold q3q at q
  rw [if_pos e] at q
  have k1:FsOk (L2.q1t "term" (.int t) fs):=ok.put (by decide +kernel)
  have k2:=k1.put (f := "voice") (v:=.non) (by decide +kernel)
  refine⟨_,rfl,_,rfl,a,C,dx,fs,rfl,ha,Y.cl,Y.n_term,ok.len,_,rfl,a,C,dx,_,rfl,q0b,Y.cl,Y.n_voice,k1.len,?_⟩
  refine⟨_,rfl,a,dx,_,rfl,q0b,k2.no (by decide +kernel),a,dx,_,rfl,q0b,k2,fun fs' av' aw' H' pl=>?_⟩
  have o2:Off a H _:=(q0k (o:=HO.ins C dx (L2.q1t "term" (.int t) fs))).trans (q0k (o:=HO.ins C dx (L2.q1t "voice" .non (L2.q1t "term" (.int t) fs))))
  have p2:=j2p (k:={ k with tm:=t,vc:=none }) q0b ((f.put_term t).put_voice none) (let z:=S.sameT (o2.tups ha); ⟨z.pack,z.row,z.store,z.nexts,z.held,z.voices,z.waits⟩) pl
  exact q H' ⟨dx,fs',_,_,_,_,_,av',aw',pl.at_,p2.1,pl.ok,p2.2⟩ (o2.trans pl.off)
 ·have e:¬ t > k.tm:=z0c h
  unfold q3q at q
  rw [if_neg e] at q
  exact q H hk Off.refl
noncomputable def j0b (C:Addr):Sp:=fun vs H Q _=>∃ (x q0 dx:Addr) (num:Int) (ms:List Int),vs=[.ref x,.int num,.ref q0]∧H x=some (.ins C dx [])∧H q0=some (.tup (ms.map V.int))∧∀ H',K2V C H' x ⟨num,0,none,none, "plain",0,[],⟨0,0,ms,([],[])⟩,0,0,[],([],[]),0+(([]:List En).length:Int)+1⟩→Off x H H'→Q .non H'
theorem j8k:FnScope ["self", "number", "seats"] ["self", "number", "seats"] (q0h q3o):=fSc
theorem z5v {f fW:Addr} {fd dW:FuncData} {C:Addr} (Y:KpC K C) (F:Fun K "__init__" "Keeper.__init__" q3o f fd) (MW:Meth K C "wake" fW) (FW:FnOk P w K mg base CX0 3 fW dW ["self"] (z9b C)) (bW:q3p K dW ["self"] []) (CF:Cal P w K mg base "first_pack" 2 ["seats"] j5c) (CR:Cal P w K mg base "begun" 1 [] z3p):FnOk P w K mg base CX0 4 f fd ["self", "number", "seats"] (j0b C):=by
 refine F.ok j8k (by rintro _ _ _ _⟨_,_,_,_,_,rfl,_⟩; rfl) (fun _ A _ s H vs Q E hr h=>?_)
 obtain⟨x,q0,dx,num,ms,rfl,hx,hq,q⟩:=h
 obtain⟨gR,dR,GR,mR,kR,bR⟩:=CR.ex
 have r1:=hr.mono (show 1≤3 by omega)
 have r2:=hr.mono (show 2≤3 by omega)
 refine⟨_,@q0j _ _ _ _ _ (q2d (pv 0) (pv 1) (by rfl))
  (@q0j _ _ _ _ _ (q2d (pv 0) (q0c) (by rfl))
  (@q0j _ _ _ _ _ (q2d (pv 0) (q8k) (by rfl))
  (@q0j _ _ _ _ _ (q2d (pv 0) (q0n CF r2 (q0z (pv 2) q0e)) (by rfl))
  (@q0j _ _ _ _ _ (q2d (pv 0) (x8h GR r1 (by rfl) mR kR bR .nil q7n) (by rfl))
  (@q0p _ _ _ (q2g (q8o (pv 0) Y.cl MW FW hr bW .nil q7n))))))),?_⟩
 have k0:=FsOk.nil
 have k1:=k0.put (f := "number") (v:=.int num) (by decide +kernel)
 have k2:=k1.put (f := "term") (v:=.int 0) (by decide +kernel)
 have k3:=k2.put (f := "voice") (v:=.non) (by decide +kernel)
 refine⟨_,rfl,_,rfl,x,C,dx,_,rfl,hx,Y.cl,Y.n_number,k0.len,?_⟩
 refine⟨_,rfl,x,C,dx,_,rfl,q0b,Y.cl,Y.n_term,k1.len,?_⟩
 refine⟨_,rfl,x,C,dx,_,rfl,q0b,Y.cl,Y.n_voice,k2.len,?_⟩
 have o3:Off x H _:=(q0k (o:=HO.ins C dx (L2.q1t "number" (.int num) []))).trans ((q0k (o:=HO.ins C dx (L2.q1t "term" (.int 0) (L2.q1t "number" (.int num) [])))).trans (q0k (o:=HO.ins C dx (L2.q1t "voice" .non (L2.q1t "term" (.int 0) (L2.q1t "number" (.int num) []))))))
 refine⟨_,rfl,q0,ms,rfl,(o3.tups hx) _ _ hq,fun vp H1 hp s1=>?_⟩
 have k4:=k3.put (f := "pack") (v:=vp) (by decide +kernel)
 refine⟨_,rfl,x,C,dx,_,rfl,s1 _ _ q0b,Y.cl,Y.n_pack,k3.len,?_⟩
 refine⟨rfl,fun vr H2 hrw s2=>?_⟩
 have k5:=k4.put (f := "row") (v:=vr) (by decide +kernel)
 refine⟨_,rfl,x,C,dx,_,rfl,s2 _ _ q0b,Y.cl,Y.n_row,k4.len,?_⟩
 have o5:Off x H1 _:=(q0k (o:=HO.ins C dx (L2.q1t "pack" vp (L2.q1t "voice" .non (L2.q1t "term" (.int 0) (L2.q1t "number" (.int num) [])))))).trans ((q1f s2).trans (q0k (o:=HO.ins C dx (L2.q1t "row" vr (L2.q1t "pack" vp (L2.q1t "voice" .non (L2.q1t "term" (.int 0) (L2.q1t "number" (.int num) []))))))))
 refine⟨_,rfl,x,dx,_,rfl,q0b,k5.no (by decide +kernel),x,dx,_,num,0,none,vp,vr,⟨0,0,ms,([],[])⟩,0,0,[],rfl,q0b,k5,q0s (by decide +kernel) (q0s (by decide +kernel) (q0s (by decide +kernel) (q0s (by decide +kernel) (q4s)))),q0s (by decide +kernel) (q0s (by decide +kernel) (q0s (by decide +kernel) (q4s))),q0s (by decide +kernel) (q0s (by decide +kernel) (q4s)),q0s (by decide +kernel) (q4s),q4s,hp.offT (o5.tups (s1 _ _ q0b)),hrw.sameT (q0k.tups (s2 _ _ q0b)),fun H' hk off=>q H' hk (o3.trans ((q1f s1).trans (o5.trans off)))⟩
end
noncomputable def x2h (ns ms:List Int):Nat:=(ns.filter fun n=>decide (n∈ms)).length
section
noncomputable def z1w (K:Frag):Sp:=fun vs H Q _=>∃ (a b:Addr) (ns ms:List Int),vs=[.ref a,.ref b]∧H a=some (.tup (ns.map V.int))∧SqT K H b (ms.map V.int)∧ns.Nodup∧ns.length≤1000∧ms.length≤1000∧∀ H',q1l H H'→Q (.bl (decide (ns.length < 2*x2h ns ms))) H'
end
section
variable {P:Program} {w:World} {K:Frag} {mg:Str→Option Value} {base:Heap}
theorem q9a {X:Cx} {o:Expr} {f:Str} {es:List Expr} {p:Pos} {te:TE} {t:TA} (ha:PE X (.Attribute o f p) te) (r:QA X es t):QA X (.Attribute o f p::es) (q4h te t):=⟨q1k ha r.h rfl⟩
theorem x6p {X:Cx} {K:Frag} {e:Expr} {f:Str} {pos:Pos} {ta:TE} (hK:X.K=K) (he:PE X e ta) (hb:attributeBase e f X.env (eval e X.env)=eval e X.env):PE X (.Attribute e f pos) (j7q K ta f):=by subst hK; exact q1e he hb
noncomputable def q3z (k:Kst):List Int:=q1r k.P.st k.es
noncomputable def WhB:What→Prop
 | .opn=>True
 | .seats ms=>ms.length≤16
 | .wish c _ d=>c.length≤16∧d.nm.length≤16
theorem z1y {B:Nat} {H:Hp}:∀ ms:List Int,ThNL B H (ms.map V.int)
 | []=>.nil
 | m::ms=>.cons (.int m) (z1y ms)
theorem q4x.th {H:Hp} {v:V} {x:What} (h:q4x H v x) (hb:WhB x):ThN 16 H v:=by
 cases x with
 | opn=>obtain⟨p,rfl,g⟩:=h; exact .tup g (by show 1≤16; decide) (.cons (.str _ (by decide +kernel)) .nil)
 | seats ms =>
  obtain⟨p,q,rfl,g,g2⟩:=h
  exact .tup g (by show 2≤16; decide) (.cons (.str _ (by decide +kernel)) (.cons (.tup g2 (by rw [List.length_map]; exact hb) (z1y ms)) .nil))
 | wish c n d =>
  obtain⟨p,u,rfl,g,g2⟩:=h
  have hd:ThN 16 H u:=by
   cases d with
   | get m=>obtain⟨q,rfl,g3⟩:=g2; exact .tup g3 (by show 2≤16; decide) (.cons (.str _ (by decide +kernel)) (.cons (.str _ hb.2) .nil))
   | set m x=>obtain⟨q,rfl,g3⟩:=g2; exact .tup g3 (by show 3≤16; decide) (.cons (.str _ (by decide +kernel)) (.cons (.str _ hb.2) (.cons (.int x) .nil)))
   | add m x=>obtain⟨q,rfl,g3⟩:=g2; exact .tup g3 (by show 3≤16; decide) (.cons (.str _ (by decide +kernel)) (.cons (.str _ hb.2) (.cons (.int x) .nil)))
  exact .tup g (by show 4≤16; decide) (.cons (.str _ (by decide +kernel)) (.cons (.str _ hb.1) (.cons (.int n) (.cons hd .nil))))
theorem ET.ents {H:Hp}:∀ {us:List V} {es:List En},ET H us es→(∀ e∈es,WhB e.2)→Ents H us (es.map (·.1))
 | _,_,.nil,_=>.nil
 | _,_,.cons hp hu r,hb=>.cons hp (hu.th (hb _ List.mem_cons_self)) (r.ents fun e he=>hb e (List.mem_cons_of_mem _ he))
theorem RwP.row {H:Hp} {v:V} {b l:Int} {es:List En} (h:RwP H v b l es) (hb:∀ e∈es,WhB e.2) (hl:es.length≤250):∃ us,ET H us es∧RowX K H v b l us (es.map (·.1)):=by
 obtain⟨r,c,us,e,h1,h2,h3⟩:=h
 exact⟨us,h3,⟨r,c,e,h1,h2⟩,h3.ents hb,by rw [List.length_map]; omega⟩
noncomputable def z4j (C:Addr):Sp:=fun vs H Q _=>∃ (a:Addr) (k:Kst),vs=[.ref a]∧K2V C H a k∧∀ q:Addr,H q=some (.tup ((q3z k).map V.int))→Q (.ref q) H
theorem j9v:FnScope ["keeper"] ["keeper"] (q0h q7h):=fSc
theorem j1b {f:Addr} {fd:FuncData} {C:Addr} (Y:KpC K C) (F:Fun K "seats_now" "seats_now" q7h f fd) (CS:Cal P w K mg base "seats_of" 2 ["row", "first"] q9t):FnOk P w K mg base CX0 3 f fd ["keeper"] (z4j C):=by
 refine F.ok j9v (by rintro _ _ _ _⟨_,_,rfl,_⟩; rfl) (fun _ A _ s H vs Q E hr h=>?_)
 obtain⟨a,k,rfl,hk,q⟩:=h
 refine⟨_,@q0p _ _ _ (q0q (q0n CS hr (q1k (q1e (pv 0) (by rfl)) (q2r (q0f q0i (q1e (pv 0) (by rfl)) q0c q0w) q0e)))),?_⟩
 obtain⟨dx,fs,vp,vr,vst,an,ah,av,aw,ha,f,ok,S⟩:=hk
 obtain⟨p,q0,u,rfl,hp1,hq0,_⟩:=S.pack
 exact⟨_,rfl,a,C,dx,fs,vr,rfl,ha,Y.cl,Y.n_row,f.row,_,rfl,a,C,dx,fs,_,rfl,ha,Y.cl,Y.n_pack,f.pack,p,_,_,.ref q0,rfl,rfl,SqT.of hp1,q0a (j:=2) rfl,vr,q0,k.b,k.l,k.es,k.P.st,rfl,S.row,hq0,fun q' hq'=>q q' hq'⟩
structure KpOk (k:Kst):Prop where
 up:(q3z k).Pairwise (· < ·)
 low:∀ m∈q3z k,0≤m∧m≤8
 some:q3z k≠[]
 num:0≤k.num∧k.num≤8
 tm:0≤k.tm
 es:k.es.length≤200
 wb:∀ e∈k.es,WhB e.2
 vs:k.vs.length≤20
 few:(q3z k).length≤9
noncomputable def z9j (k:Kst):Bool:=decide ((q3z k).length < 2*x2h (q3z k) k.vs)
noncomputable def z7r (C:Addr):Sp:=fun vs H Q _=>∃ (a:Addr) (k:Kst),vs=[.ref a]∧K2V C H a k∧KpOk k∧∀ H',q1l H H'→Q (.bl (z9j k)) H'
theorem j9f:FnScope ["keeper"] ["keeper"] (q0h q3r):=fSc
theorem j2o {f:Addr} {fd:FuncData} {C:Addr} (Y:KpC K C) (F:Fun K "has_most_voices" "has_most_voices" q3r f fd) (CS:Cal P w K mg base "seats_now" 3 ["keeper"] (z4j C)) (CM:Cal P w K mg base "most" 2 ["seats", "those"] (z1w K)):FnOk P w K mg base CX0 4 f fd ["keeper"] (z7r C):=by
 refine F.ok j9f (by rintro _ _ _ _⟨_,_,rfl,_⟩; rfl) (fun _ A _ s H vs Q E hr h=>?_)
 obtain⟨a,k,rfl,hk,ko,q⟩:=h
 have r2:=hr.mono (show 2≤3 by omega)
 refine⟨_,@q0p _ _ _ (q0q (q0n CM r2 (q8r (q0n CS hr (q0z (pv 0) q0e)) (q1k (q1e (pv 0) (by rfl)) q0e)))),?_⟩
 have hk':=hk
 obtain⟨dx,fs,vp,vr,vst,an,ah,av,aw,ha,f,ok,S⟩:=hk'
 refine⟨_,rfl,a,k,rfl,hk,fun q0 hq0=>?_⟩
 exact⟨_,rfl,a,C,dx,fs,_,rfl,ha,Y.cl,Y.n_voices,f.voices,q0,av,(q3z k),k.vs,rfl,hq0,SqT.of S.voices,ko.up.imp (fun h=>by omega),by have:=ko.few; omega,by have:=ko.vs; omega,fun H' s=>q H' s⟩
noncomputable def z0h (k:Kst):List Int:=(q3z k).filter fun m => !decide (m=k.num)
noncomputable def z8s (C:Addr):Sp:=fun vs H Q _=>∃ (a:Addr) (k:Kst),vs=[.ref a]∧K2V C H a k∧KpOk k∧∀ (l:Addr) (H':Hp),H' l=some (.lst ((z0h k).map V.int))→H l=none→q1l H H'→Q (.ref l) H'
theorem j8x:FnScope ["keeper"] ["keeper"] (q0h q4i):=fSc
theorem j2a {f:Addr} {fd:FuncData} {C:Addr} (Y:KpC K C) (F:Fun K "other_seats" "other_seats" q4i f fd) (CS:Cal P w K mg base "seats_now" 3 ["keeper"] (z4j C)):FnOk P w K mg base CX0 4 f fd ["keeper"] (z8s C):=by
 refine F.ok j8x (by rintro _ _ _ _⟨_,_,rfl,_⟩; rfl) (fun _ A _ s H vs Q E hr h=>?_)
 obtain⟨a,k,rfl,hk,ko,q⟩:=h
 refine⟨_,@q0p _ _ _ (q0q (q6r (NB:=["seat", "keeper"]) (n:=1) (fr:=[0]) (q7p (outer:=q0h q4i) (x := "keeper") (by rfl) (by decide +kernel) (by rfl) (by rfl) (by rfl) (by rfl)) (by rfl) (q9j (q0n CS hr (q0z (pv 0) q0e)))
   (fun _ _ _ _ _=>q1u (i:=0) (show (["seat", "keeper"]:List Str).Nodup by decide +kernel) (by rfl) (by exact Or.inl rfl)) (fun _ _ _ _ _=>q8l (q0m q4y (pv 0) (x6p (K:=K) (by rfl) (pv 1) (by rfl)) (q0o _))) (fun _ _ _ _ _=>pv 0))),?_⟩
 refine⟨_,rfl,a,k,rfl,hk,fun q0 hq0=>⟨q0,rfl,⟨_,SqT.of hq0⟩,x4v (K:=K) (ms:=(q3z k)) (SqT.of hq0) (by have:=ko.few; omega) (fun m => !decide (m=k.num)) ?_ ?_⟩⟩
 ·intro i hi t H4 R s4 ht hR
  obtain⟨t0,rfl⟩:=q3w ht
  have hR':=hR [some (.int (q3z k)[i])] H4 rfl (q1l.refl _)
  obtain⟨dx,fs,vp,vr,vst,an,ah,av,aw,ha,f,ok,S⟩:=hk.same s4
  refine⟨_,rfl,_,rfl,a,C,dx,fs,_,rfl,ha,Y.cl,Y.n_number,f.number,rfl,_,rfl,?_⟩
  by_cases hd:(q3z k)[i]=k.num
  ·rw [decide_eq_true hd] at hR'
   rw [decide_eq_true (congrArg V.int hd)]
   exact q2p hR'
  ·rw [decide_eq_false hd] at hR'
   rw [decide_eq_false (fun e:V.int (q3z k)[i]=V.int k.num=>hd (by injection e))]
   exact q2z ⟨_,rfl,hR'⟩
 ·intro D1 H3 s4 hD hd
  exact q D1 H3 hd hD s4
theorem w0f:FnScope ["row"] ["row"] (q0h q8m):=fSc
theorem z0l {f:Addr} {fd:FuncData} (F:Fun K "end_of" "end_of" q8m f fd) (T:Txt mg):FnOk P w K mg base CX0 1 f fd ["row"] (q5v K):=by
 refine F.ok w0f (by rintro _ _ _ _⟨_,_,_,_,rfl,_⟩; rfl) (fun _ A _ s H vs Q E hr h=>?_)
 obtain⟨v,b,l,ts,rfl,⟨es,⟨rb,c,rfl,hb,hc⟩,hen,hfew⟩,q⟩:=h
 replace hb:=SqT.of (K:=K) hb
 replace hc:=SqT.of (K:=K) hc
 refine⟨_,@q0p _ _ _ (q0q (q0x q1o (q0f q0i (pv 0) (q0c) q0w) (q0l q0t (by rfl) T.len PySem.boot_len (q2r (q0f q0i (pv 0) (q0c) q0w) q0e)))),?_⟩
 have hlen:=hen.length
 refine⟨_,rfl,rb,_,_,.int b,rfl,rfl,hb,q0a (j:=0) rfl,_,rfl,rb,_,_,.ref c,rfl,rfl,hb,q0a (j:=2) rfl,c,es,rfl,.inr hc,_,_,rfl,rfl,?_⟩
 have e:b+(es.length:Int)=q4e b ts:=by unfold q4e; rw [hlen]
 show Q (.int (b+(es.length:Int))) H
 rw [e]; exact q
theorem j7m:FnScope ["row", "place", "base"] ["row", "place"] (q0h q3v):=fSc
theorem x7d {f:Addr} {fd:FuncData} (F:Fun K "entry_at" "entry_at" q3v f fd) (CE:Cal P w K mg base "end_of" 1 ["row"] (q5v K)):FnOk P w K mg base CX0 2 f fd ["row", "place"] (x6e K):=by
 refine F.ok j7m (by rintro _ _ _ _⟨_,_,_,_,_,_,rfl,_⟩; rfl) (fun _ A _ s H vs Q E hr h=>?_)
 obtain⟨v,b,l,es,ts,p,rfl,hX,hlt,hle,q⟩:=h
 have hX':=hX
 obtain⟨⟨rb,c,rfl,hb,hc⟩,hen,hfew⟩:=hX'
 replace hb:=SqT.of (K:=K) hb
 replace hc:=SqT.of (K:=K) hc
 refine⟨_,@q0j _ _ _ _ _ (q0r (i:=2) j7m.nd (by rfl) (by exact Or.inl rfl) (q0f q0i (pv 0) (q0c) q0w))
  (@q0j _ _ _ _ _ (q1g (PW.pt (q4d (q0m x3s (pv 1) (pv 2) (q0o _)) (q2s (q0m q4g (pv 1) (q0n CE hr (q0z (pv 0) q0e)) (q0o _))))) (@q0p _ _ _ q9x) q0u)
  (@q0p _ _ _ (q0q (q0f q0i (q0f q0i (pv 0) (q0c) q0w) (q0x q2q (q0x q2q (pv 1) (pv 2)) (q0c)) z9s)))),?_⟩
 have hlen:=hen.length
 have hle':=hle
 unfold q4e at hle'
 obtain⟨j,ej⟩:=Int.eq_ofNat_of_zero_le (show 0≤p - b - 1 by omega)
 have hj:j < es.length:=by omega
 refine⟨_,rfl,rb,_,_,.int b,rfl,rfl,hb,q0a (j:=0) rfl,?_⟩
 refine⟨_,rfl,_,rfl,_,_,rfl,rfl,_,rfl,q4r (fun h=>absurd (of_decide_eq_true h) (by omega)) (fun _=>?_)⟩
 refine⟨_,rfl,_,rfl,_,b,l,ts,rfl,⟨es,hX⟩,_,_,rfl,rfl,_,rfl,q4r (fun h=>absurd (of_decide_eq_true h) (by omega)) (fun _=>?_)⟩
 refine⟨_,rfl,rb,_,_,.ref c,rfl,rfl,hb,q0a (j:=2) rfl,_,rfl,_,rfl,_,_,rfl,rfl,_,_,rfl,rfl,c,es,_,es[j],rfl,rfl,hc,?_,q es[j] ?_⟩
 ·show atI es (p - b - 1)=_
  rw [ej]; exact q0a (by simp [hj])
 ·rw [ej]; simp [hj]
theorem j7k:FnScope ["row", "place", "base"] ["row", "place"] (q0h q4p):=fSc
theorem x9y {f:Addr} {fd:FuncData} (F:Fun K "term_at" "term_at" q4p f fd) (CA:Cal P w K mg base "entry_at" 2 ["row", "place"] (x6e K)):FnOk P w K mg base CX0 3 f fd ["row", "place"] (q8p K):=by
 refine F.ok j7k (by rintro _ _ _ _⟨_,_,_,_,_,rfl,_⟩; rfl) (fun _ A _ s H vs Q E hr h=>?_)
 obtain⟨v,b,l,ts,p,rfl,⟨es,hX⟩,hlt,hle,q⟩:=h
 have hX':=hX
 obtain⟨⟨rb,c,rfl,hb,hc⟩,hen,hfew⟩:=hX'
 replace hb:=SqT.of (K:=K) hb
 replace hc:=SqT.of (K:=K) hc
 refine⟨_,@q0j _ _ _ _ _ (q0r (i:=2) j7k.nd (by rfl) (by exact Or.inl rfl) (q0f q0i (pv 0) (q0c) q0w))
  (@q0j _ _ _ _ _ (q1g (q0m q2u (pv 1) (pv 2) (q0o _)) (@q0p _ _ _ (q0q (q0f q0i (pv 0) (q0c) q0w))) q0u)
  (@q0p _ _ _ (q0q (q0f q0i (q0n CA hr (q0z (pv 0) (q0z (pv 1) q0e))) (q0c) q0w)))),?_⟩
 unfold q2y at q
 refine⟨_,rfl,rb,_,_,.int b,rfl,rfl,hb,q0a (j:=0) rfl,?_⟩
 refine⟨_,rfl,_,rfl,rfl,_,rfl,q4r (fun h=>?_) (fun h=>?_)⟩
 ·have e:p=b:=by have:=of_decide_eq_true h; simpa using this
  rw [if_pos e] at q
  exact⟨_,rfl,rb,_,_,.int l,rfl,rfl,hb,q0a (j:=1) rfl,q⟩
 ·have e:¬ p=b:=fun e=>h (by rw [e]; exact decide_eq_true rfl)
  rw [if_neg e] at q
  have hle':=hle
  unfold q4e at hle'
  have hj:(p - b - 1).toNat < ts.length:=by omega
  obtain⟨pe,x,hg,hpe,_⟩:=hen.get hj
  refine⟨_,rfl,_,rfl,_,b,l,es,ts,p,rfl,hX,by omega,hle,fun e he=>?_⟩
  rw [hg] at he
  cases he
  refine⟨pe,_,_,.int (ts[(p - b - 1).toNat]),rfl,rfl,SqT.of hpe,q0a (j:=0) rfl,?_⟩
  have eg:ts.getD (p - b - 1).toNat 0=ts[(p - b - 1).toNat]:=x6t hj
  rw [← eg]; exact q
theorem j9s:FnScope ["row", "place", "last"] ["row", "place", "last"] (q0h x3f):=fSc
theorem z0i {f:Addr} {fd:FuncData} (F:Fun K "agrees" "agrees" x3f f fd) (CE:Cal P w K mg base "end_of" 1 ["row"] (q5v K)) (CT:Cal P w K mg base "term_at" 3 ["row", "place"] (q8p K)):FnOk P w K mg base CX0 4 f fd ["row", "place", "last"] (q9v K):=by
 refine F.ok j9s (by rintro _ _ _ _⟨_,_,_,_,_,_,rfl,_⟩; rfl) (fun _ A _ s H vs Q E hr h=>?_)
 obtain⟨v,t,p,b,l,ts,rfl,⟨es,hX⟩,q⟩:=h
 have hR:j0k K H v b l ts:=⟨es,hX⟩
 obtain⟨⟨rb,c,rfl,hb,hc⟩,hen,hfew⟩:=hX
 replace hb:=SqT.of (K:=K) hb
 replace hc:=SqT.of (K:=K) hc
 have r1:=hr.mono (show 1≤3 by omega)
 refine⟨_,@q0j _ _ _ _ _ (q1g (q0m x3g (pv 1) (q0f q0i (pv 0) (q0c) q0w) (q0o _)) (@q0p _ _ _ (q0q q4v)) q0u)
  (@q0p _ _ _ (q0q (q9m (q1v x3s (pv 1) (q0n CE r1 (q0z (pv 0) q0e)) (q0o _)) (q8q (q1v q2u (q0n CT hr (q0z (pv 0) (q0z (pv 1) q0e))) (pv 2) (q0o _)))))),?_⟩
 unfold q4z at q
 refine⟨_,rfl,_,rfl,rb,_,_,.int b,rfl,rfl,hb,q0a (j:=0) rfl,_,_,rfl,rfl,_,rfl,q4r (fun h=>?_) (fun h=>?_)⟩
 ·rw [decide_eq_true (of_decide_eq_true h)] at q
  exact q
 ·have hnb:¬ p < b:=fun g=>h (decide_eq_true g)
  rw [decide_eq_false hnb] at q
  refine⟨_,rfl,_,rfl,_,b,l,ts,rfl,hR,_,_,rfl,rfl,_,rfl,q4r (fun h2=>?_) (fun h2=>?_)⟩
  ·have hle:p≤q4e b ts:=of_decide_eq_true h2
   rw [decide_eq_true hle] at q
   refine⟨_,rfl,_,rfl,_,b,l,ts,p,rfl,hR,by omega,hle,_,rfl,rfl,?_⟩
   have e:decide (V.int (q2y b l ts p)=V.int t)=(false || (true && decide (q2y b l ts p=t))):=by rw [Bool.eq_iff_iff]; simp
   show Q (.bl (decide (V.int (q2y b l ts p)=V.int t))) H
   rw [e]; exact q
  ·rw [decide_eq_false (fun g=>h2 (decide_eq_true g))] at q
   exact q
noncomputable def tsK (k:Kst):List Int:=k.es.map (·.1)
mutual
inductive IsT (H:Hp):V→D→Prop
 | non:IsT H .non .non
 | bl (b:Bool):IsT H (.bl b) (.bl b)
 | int (i:Int):IsT H (.int i) (.int i)
 | str (x:Str):IsT H (.str x) (.str x)
 | tup {a:Addr} {vs:List V} {ds:List D} (e:H a=some (.tup vs)) (r:IsTL H vs ds):IsT H (.ref a) (.tup ds)
inductive IsTL (H:Hp):List V→List D→Prop
 | nil:IsTL H [] []
 | cons {v:V} {d:D} {vs:List V} {ds:List D} (h:IsT H v d) (t:IsTL H vs ds):IsTL H (v::vs) (d::ds)
end
mutual
theorem IsT.sameT {H H':Hp} (s:q2o H H'):∀ {v d},IsT H v d→IsT H' v d
 | _,_,.non=>.non
 | _,_,.bl b=>.bl b
 | _,_,.int i=>.int i
 | _,_,.str x=>.str x
 | _,_,.tup e r=>.tup (s _ _ e) (IsTL.sameT s r)
theorem IsTL.sameT {H H':Hp} (s:q2o H H'):∀ {vs ds},IsTL H vs ds→IsTL H' vs ds
 | _,_,.nil=>.nil
 | _,_,.cons h t=>.cons (IsT.sameT s h) (IsTL.sameT s t)
end
theorem IsTL.append {H:Hp}:∀ {vs ds us es},IsTL H vs ds→IsTL H us es→IsTL H (vs++us) (ds++es)
 | _,_,_,_,.nil,r=>r
 | _,_,_,_,.cons h t,r=>.cons h (IsTL.append t r)
theorem IsTL.length {H:Hp}:∀ {vs ds},IsTL H vs ds→vs.length=ds.length
 | _,_,.nil=>rfl
 | _,_,.cons _ t=>by rw [List.length_cons,List.length_cons,IsTL.length t]
theorem x5p {H:Hp} {g:Int→D}:∀ {us:List V} {os:List Int},us.length=os.length→(∀ (i:Nat) v,us[i]? = some v→∃ m,os[i]? = some m∧IsT H v (g m))→IsTL H us (os.map g)
 | [],[],_,_=>.nil
 | u::us,o::os,e,h=>by
  obtain⟨m,em,hm⟩:=h 0 u rfl
  cases em
  exact .cons hm (x5p (by simpa using e) fun i v hv=>h (i+1) v hv)
noncomputable def x6h (k:Kst) (one t pl la:Int):Bool:=decide (t=k.tm) && (decide (k.vc=none) || decide (k.vc=some one)) && x7s la pl k.b k.l (tsK k)
noncomputable def z0y (C:Addr):Sp:=fun vs H Q _=>∃ (a p:Addr) (x:Str) (one other t pl la:Int) (k:Kst),vs=[.ref a,.ref p]∧K2V C H a k∧KpOk k∧H p=some (.tup [.str x,.int one,.int other,.int t,.int pl,.int la])∧∀ H',q1l H H'→Q (.bl (x6h k one t pl la)) H'
theorem j3j (vc:Option Int) (one:Int):inV (vcV vc) [V.non,V.int one]=(decide (vc=none) || decide (vc=some one)):=by
 cases vc with
 | none=>rfl
 | some v =>
  show (false || (decide (one=v) || false))=(decide (some v=none) || decide (some v=some one))
  by_cases h:one=v
  ·subst h; simp
  ·have h2:¬ some v=some one:=fun e=>h (by injection e with e; exact e.symm)
   rw [decide_eq_false h,decide_eq_false h2]; simp
theorem x7a (vc:Option Int):q4b (vcV vc)=true:=by cases vc <;> rfl
theorem j8w:FnScope ["keeper", "letter"] ["keeper", "letter"] (q0h q8s):=fSc
theorem z8c {f:Addr} {fd:FuncData} {C:Addr} (Y:KpC K C) (F:Fun K "may_give" "may_give" q8s f fd) (CN:Cal P w K mg base "as_new" 4 ["last", "place", "row"] (x6y K)):FnOk P w K mg base CX0 5 f fd ["keeper", "letter"] (z0y C):=by
 refine F.ok j8w (by rintro _ _ _ _⟨_,_,_,_,_,_,_,_,_,rfl,_⟩; rfl) (fun _ A _ s H vs Q E hr h=>?_)
 obtain⟨a,p,x,one,other,t,pl,la,k,rfl,hk,ko,hp,q⟩:=h
 refine⟨_,@q0j _ _ _ _ _ (q1g (PW.pt (q4d (q0m q4y (q0f q0i (pv 1) (q0c) q0w) (q1e (pv 0) (by rfl)) (q0o _)) (q2s (q0m q9i (q1e (pv 0) (by rfl)) (QE.h (q1d (x7o (q5a (q0f q0i (pv 1) (q0c) q0w) q0v)))) (by rfl))))) (@q0p _ _ _ (q0q q4v)) q0u)
  (@q0p _ _ _ (q0q (q0n CN hr (q2r (q0f q0i (pv 1) (q0c) q0w) (q2r (q0f q0i (pv 1) (q0c) q0w) (q1k (q1e (pv 0) (by rfl)) q0e)))))),?_⟩
 obtain⟨dx,fs,vp,vr,vst,an,ah,av,aw,ha,f,ok,S⟩:=hk
 obtain⟨us,hE,hR⟩:=S.row.row (K:=K) ko.wb (by have:=ko.es; omega)
 unfold x6h at q
 refine⟨_,rfl,p,_,_,.int t,rfl,rfl,SqT.of hp,q0a (j:=3) rfl,_,rfl,a,C,dx,fs,_,rfl,ha,Y.cl,Y.n_term,f.term,rfl,_,rfl,?_⟩
 by_cases ht:t=k.tm
 ·rw [decide_eq_true (congrArg V.int ht)]
  rw [decide_eq_true ht] at q
  refine q2p ⟨_,rfl,a,C,dx,fs,_,rfl,ha,Y.cl,Y.n_voice,f.voice,_,rfl,p,_,_,.int one,rfl,rfl,SqT.of hp,q0a (j:=1) rfl,q1n (by show 2≤1000; decide),fun tp htp=>?_⟩
  have s1:=q0d (o:=HO.tup [V.non,V.int one]) htp
  refine⟨tp,_,rfl,.inr (SqT.of q0b),x7a k.vc,rfl,_,rfl,?_⟩
  rw [if_pos rfl,j3j]
  cases hb:(decide (k.vc=none) || decide (k.vc=some one)) with
  | false =>
   rw [hb] at q
   exact q2z (q _ s1)
  | true =>
   rw [hb] at q
   exact q2p ⟨_,rfl,p,_,_,.int la,rfl,rfl,SqT.of (s1 _ _ hp),q0a (j:=5) rfl,_,rfl,p,_,_,.int pl,rfl,rfl,SqT.of (s1 _ _ hp),q0a (j:=4) rfl,_,rfl,a,C,dx,fs,_,rfl,(s1 _ _ ha),Y.cl,Y.n_row,f.row,_,la,pl,k.b,k.l,tsK k,rfl,⟨us,hR.same s1⟩,fun H' s2=>q H' (s1.trans s2)⟩
 ·rw [decide_eq_false (fun e:V.int t=V.int k.tm=>ht (by injection e))]
  rw [decide_eq_false ht] at q
  exact q2z (q2z (q H (q1l.refl _)))
noncomputable def j3y (k:Kst) (one t pl la:Int):Kst:=if x6h (q3q k t) one t pl la then { q3q k t with vc:=some one } else q3q k t
noncomputable def j3u (k:Kst) (one t pl la:Int):List D:=[.tup [.str "voice",.int (q3q k t).num,.int one,.int (q3q k t).tm,.bl (x6h (q3q k t) one t pl la)]]
theorem z1s {k:Kst} (h:KpOk k) {t:Int}:KpOk (q3q k t):=by
 unfold q3q
 by_cases e:t > k.tm
 ·rw [if_pos e]
  exact⟨h.up,h.low,h.some,h.num,by show 0≤t; have:=h.tm; omega,h.es,h.wb,Nat.zero_le _,h.few⟩
 ·rw [if_neg e]; exact h
noncomputable def z9m (C:Addr):Sp:=fun vs H Q _=>∃ (a p:Addr) (x:Str) (one other t pl la:Int) (k:Kst),vs=[.ref a,.ref p]∧K2V C H a k∧KpOk k∧H p=some (.tup [.str x,.int one,.int other,.int t,.int pl,.int la])∧∀ (l:Addr) (xs:List V) (H':Hp),H' l=some (.lst xs)→IsTL H' xs (j3u k one t pl la)→xs.length≤9→H l=none→K2V C H' a (j3y k one t pl la)→Off a H H'→Q (.ref l) H'
theorem j5z:FnScope ["keeper", "letter", "one", "given"] ["keeper", "letter"] (q0h q8u):=fSc
theorem j1x {f fH:Addr} {fd dH:FuncData} {C:Addr} (Y:KpC K C) (F:Fun K "take_ask" "take_ask" q8u f fd) (MH:Meth K C "hear" fH) (FH:FnOk P w K mg base CX0 2 fH dH ["self", "term"] (x1c C)) (bH:q3p K dH ["self", "term"] []) (CG:Cal P w K mg base "may_give" 5 ["keeper", "letter"] (z0y C)):FnOk P w K mg base CX0 6 f fd ["keeper", "letter"] (z9m C):=by
 refine F.ok j5z (by rintro _ _ _ _⟨_,_,_,_,_,_,_,_,_,rfl,_⟩; rfl) (fun _ A _ s H vs Q E hr h=>?_)
 obtain⟨a,p,x,one,other,t,pl,la,k,rfl,hk,ko,hp,q⟩:=h
 have r2:=hr.mono (show 2≤5 by omega)
 refine⟨_,@q0j _ _ _ _ _ (q0r (i:=2) j5z.nd (by rfl) (by exact Or.inl rfl) (q0f q0i (pv 1) (q0c) q0w))
  (@q0j _ _ _ _ _ (q2g (x2z (pv 0) Y.cl MH FH r2 bH .nil q7n (q2r (q0f q0i (pv 1) (q0c) q0w) q0e)))
  (@q0j _ _ _ _ _ (q0r (i:=3) j5z.nd (by rfl) (by exact Or.inl rfl) (q0n CG hr (q0z (pv 0) (q0z (pv 1) q0e))))
  (@q0j _ _ _ _ _ (q1g (q3c (pv 3)) (@q0p _ _ _ (q2d (pv 0) (pv 2) (by rfl))) q0u)
  (@q0p _ _ _ (q0q (q4f (z4a (QE.h (q1d (q1w (q9a (q1e (pv 0) (by rfl)) (q4c (pv 2) (q9a (q1e (pv 0) (by rfl)) (q4c (pv 3) q0v))))))) q0e))))))),?_⟩
 have hk':=hk
 obtain⟨dx0,fs0,vp0,vr0,vst0,an0,ah0,av0,aw0,ha0,f0,ok0,S0⟩:=hk'
 refine⟨_,rfl,p,_,_,.int one,rfl,rfl,SqT.of hp,q0a (j:=1) rfl,_,rfl,a,dx0,fs0,rfl,ha0,ok0.no (by decide +kernel),_,rfl,p,_,_,.int t,rfl,rfl,SqT.of hp,q0a (j:=3) rfl,a,t,k,rfl,hk,fun H1 hk1 o1=>?_⟩
 have hp1:=(o1.tups ha0) _ _ hp
 have kh:=z1s ko (t:=t)
 unfold j3y j3u at q
 generalize q3q k t=k1 at hk1 kh q
 refine⟨_,rfl,_,rfl,a,p,x,one,other,t,pl,la,k1,rfl,hk1,kh,hp1,fun H2 s2=>?_⟩
 have hk2:=hk1.same s2
 have o2:Off a H H2:=o1.trans (q1f s2)
 have nH:∀ l:Addr,H2 l=none→H l=none:=fun l hl=>by
  cases e:H l with
  | none=>rfl
  | some o =>
   by_cases hla:l=a
   ·obtain⟨dx4,fs4,_,_,_,_,_,_,_,ha4,_⟩:=hk2
    rw [hla,ha4] at hl; cases hl
   ·rw [o2 _ _ hla e] at hl; cases hl
 have hk2':=hk2
 obtain⟨dx,fs,vp,vr,vst,an,ah,av,aw,ha,f,ok,S⟩:=hk2'
 cases hb:x6h k1 one t pl la with
 | true =>
  rw [hb] at q
  refine⟨_,rfl,_,rfl,q2z ⟨_,rfl,_,rfl,a,C,dx,fs,rfl,ha,Y.cl,Y.n_voice,ok.len,?_⟩⟩
  have k3:=ok.put (f := "voice") (v:=.int one) (by decide +kernel)
  have f3:=f.put_voice (some one)
  have o3:Off a H2 _:=q0k (o:=HO.ins C dx (L2.q1t "voice" (.int one) fs))
  have hk3:K2V C (upd H2 a (.ins C dx (L2.q1t "voice" (.int one) fs))) a { k1 with vc:=some one }:=⟨dx,_,vp,vr,vst,an,ah,av,aw,q0b,f3,k3,(let z:=S.sameT (o3.tups ha); ⟨z.pack,z.row,z.store,z.nexts,z.held,z.voices,z.waits⟩)⟩
  refine⟨_,rfl,a,C,dx,_,_,rfl,q0b,Y.cl,Y.n_number,f3.number,_,rfl,_,rfl,a,C,dx,_,_,rfl,q0b,Y.cl,Y.n_term,f3.term,_,rfl,q1n (by show 5≤1000; decide),fun h hh=>⟨q1n (by show 1≤1000; decide),fun r hr1=>?_⟩⟩
  have s4:=q0d (o:=HO.tup [V.str "voice",V.int k1.num,V.int one,V.int k1.tm,V.bl true]) hh
  have s5:=q0d (o:=HO.lst [V.ref h]) hr1
  have s45:=s4.trans s5
  refine q r [.ref h] _ q0b (.cons (.tup (s5 _ _ q0b) (.cons (.str _) (.cons (.int _) (.cons (.int _) (.cons (.int _) (.cons (.bl _) .nil)))))) .nil) (by show 1≤9; decide) (nH r ?_) (hk3.same s45) ((o2.trans o3).trans (q1f s45))
  cases e:H2 r with
  | none=>rfl
  | some o =>
   by_cases hra:r=a
   ·rw [hra,s4 _ _ q0b] at hr1; cases hr1
   ·rw [s4 _ _ (o3 _ _ hra e)] at hr1; cases hr1
 | false =>
  rw [hb] at q
  refine⟨_,rfl,_,rfl,q2p ?_⟩
  refine⟨_,rfl,a,C,dx,fs,_,rfl,ha,Y.cl,Y.n_number,f.number,_,rfl,_,rfl,a,C,dx,fs,_,rfl,ha,Y.cl,Y.n_term,f.term,_,rfl,q1n (by show 5≤1000; decide),fun h hh=>⟨q1n (by show 1≤1000; decide),fun r hr1=>?_⟩⟩
  have s4:=q0d (o:=HO.tup [V.str "voice",V.int k1.num,V.int one,V.int k1.tm,V.bl false]) hh
  have s5:=q0d (o:=HO.lst [V.ref h]) hr1
  have s45:=s4.trans s5
  refine q r [.ref h] _ q0b (.cons (.tup (s5 _ _ q0b) (.cons (.str _) (.cons (.int _) (.cons (.int _) (.cons (.int _) (.cons (.bl _) .nil)))))) .nil) (by show 1≤9; decide) (nH r ?_) (hk2.same s45) (o2.trans (q1f s45))
  cases e:H2 r with
  | none=>rfl
  | some o=>rw [s4 _ _ e] at hr1; cases hr1
theorem z3z {X:Cx} {outer scope:Scope} {NB:List Str} {n k0 k1 k2:Nat} {x y z:Str} (hX:X.env.scope=outer) (h:q9c outer scope=true) (hl:NB.length=n+3) (h1:NB[n]? = some x) (h2:X.N[k0]? = some x) (h3:scope.names.lookup x=some .free)
  (g1:NB[n+1]? = some y) (g2:X.N[k1]? = some y) (g3:scope.names.lookup y=some .free) (i1:NB[n+2]? = some z) (i2:X.N[k2]? = some z) (i3:scope.names.lookup z=some .free):CompOk X scope NB n [k0,k1,k2] :=
 x3p hX h hl fun j k e=>by
  match j,e with
  | 0,e=>cases e; exact⟨x,h1,h2,h3⟩
  | 1,e=>cases e; exact⟨y,g1,g2,g3⟩
  | 2,e=>cases e; exact⟨z,i1,i2,i3⟩
  | j+3,e=>simp at e
noncomputable def stK (k:Kst):Kst:={ k with tm:=k.tm+1,vc:=some k.num,way := "standing",vs:=[k.num],hd:=none }
noncomputable def j1n (k:Kst):List D:=(z0h k).map fun o=>.tup [.str "ask",.int k.num,.int o,.int k.tm,.int (k.b+(k.es.length:Int)),.int (z0b k.l (tsK k))]
theorem j1l {k:Kst} (h:KpOk k):KpOk (stK k):=⟨h.up,h.low,h.some,h.num,by show 0≤k.tm+1; have:=h.tm; omega,h.es,h.wb,by show 1≤20; decide,h.few⟩
noncomputable def z7o (C:Addr):Sp:=fun vs H Q _=>∃ (a:Addr) (k:Kst),vs=[.ref a]∧K2V C H a k∧KpOk k∧z9j (stK k)=false∧∀ (l:Addr) (xs:List V) (H':Hp),H' l=some (.lst xs)→IsTL H' xs (j1n (stK k))→xs.length≤9→H l=none→K2V C H' a (stK k)→Off a H H'→Q (.ref l) H'
theorem j6z:FnScope ["keeper", "end", "last"] ["keeper"] (q0h x2n):=fSc
theorem j3c {f fH:Addr} {fd dH:FuncData} {C:Addr} (Y:KpC K C) (F:Fun K "stand" "stand" x2n f fd) (MH:Meth K C "hear" fH) (FH:FnOk P w K mg base CX0 2 fH dH ["self", "term"] (x1c C)) (bH:q3p K dH ["self", "term"] []) (CM:Cal P w K mg base "has_most_voices" 4 ["keeper"] (z7r C)) (CE:Cal P w K mg base "end_of" 1 ["row"] q9k) (CT:Cal P w K mg base "term_at" 3 ["row", "place"] (q8p K)) (CO:Cal P w K mg base "other_seats" 4 ["keeper"] (z8s C)):FnOk P w K mg base CX0 7 f fd ["keeper"] (z7o C):=by
 refine F.ok j6z (by rintro _ _ _ _⟨_,_,rfl,_⟩; rfl) (fun _ A _ s H vs Q E hr h=>?_)
 obtain⟨a,k,rfl,hk,ko,hb,q⟩:=h
 have r1:=hr.mono (show 1≤6 by omega)
 have r2:=hr.mono (show 2≤6 by omega)
 have r3:=hr.mono (show 3≤6 by omega)
 have r4:=hr.mono (show 4≤6 by omega)
 refine⟨_,@q0j _ _ _ _ _ (q2g (x2z (pv 0) Y.cl MH FH r2 bH .nil q7n (q9d (q0x q1o (q1e (pv 0) (by rfl)) (q0c)) q0e)))
  (@q0j _ _ _ _ _ (q2d (pv 0) (q1e (pv 0) (by rfl)) (by rfl))
  (@q0j _ _ _ _ _ (q2d (pv 0) (q2k) (by rfl))
  (@q0j _ _ _ _ _ (q2d (pv 0) (QE.h (q1d (q9a (q1e (pv 0) (by rfl)) q0v))) (by rfl))
  (@q0j _ _ _ _ _ (q1g (q3c (q0n CM r4 (q0z (pv 0) q0e))) q3e q0u)
  (@q0j _ _ _ _ _ (q0r (i:=1) j6z.nd (by rfl) (by exact Or.inr rfl) (q0n CE r1 (q1k (q1e (pv 0) (by rfl)) q0e)))
  (@q0j _ _ _ _ _ (q0r (i:=2) j6z.nd (by rfl) (by exact Or.inr rfl) (q0n CT r3 (q1k (q1e (pv 0) (by rfl)) (q0z (pv 1) q0e))))
  (@q0p _ _ _ (q0q (q6r (NB:=["other", "keeper", "end", "last"]) (n:=1) (fr:=[0,1,2]) (z3z (outer:=q0h x2n) (x := "keeper") (y := "end") (z := "last") (by rfl) (by decide +kernel) (by rfl) (by rfl) (by rfl) (by rfl) (by rfl) (by rfl) (by rfl) (by rfl) (by rfl) (by rfl)) (by rfl) (q7r (q0n CO r4 (q0z (pv 0) q0e)))
   (fun _ _ _ _ _=>q1u (i:=0) (show (["other", "keeper", "end", "last"]:List Str).Nodup by decide +kernel) (by rfl) (by exact Or.inl rfl)) (fun _ _ _ _ _=>q5l) (fun _ _ _ _ _=>QE.h (q1d (q1w (q9a (x6p (K:=K) (by rfl) (pv 1) (by rfl)) (q4c (pv 0) (q9a (x6p (K:=K) (by rfl) (pv 1) (by rfl)) (q4c (pv 2) (q4c (pv 3) q0v))))))))))))))))),?_⟩
 have hk':=hk
 obtain⟨dx0,fs0,vp0,vr0,vst0,an0,ah0,av0,aw0,ha0,f0,ok0,S0⟩:=hk'
 refine⟨_,rfl,a,dx0,fs0,rfl,ha0,ok0.no (by decide +kernel),_,rfl,a,C,dx0,fs0,_,rfl,ha0,Y.cl,Y.n_term,f0.term,_,_,rfl,rfl,a,k.tm+1,k,rfl,hk,fun H1 hk1 o1=>?_⟩
 unfold q3q at hk1
 rw [if_pos (by omega)] at hk1
 obtain⟨dx,fs,vp,vr,vst,an,ah,av,aw,ha,f,ok,S⟩:=hk1
 refine⟨_,rfl,a,C,dx,fs,_,rfl,ha,Y.cl,Y.n_number,f.number,_,rfl,a,C,dx,fs,rfl,ha,Y.cl,Y.n_voice,ok.len,?_⟩
 have k1:=ok.put (f := "voice") (v:=.int k.num) (by decide +kernel)
 have f1:=f.put_voice (some k.num)
 refine⟨_,rfl,a,C,dx,_,rfl,q0b,Y.cl,Y.n_way,k1.len,?_⟩
 have k2:=k1.put (f := "way") (v:=.str "standing") (by decide +kernel)
 have f2:=f1.put_way "standing"
 refine⟨_,rfl,a,C,dx,_,_,rfl,q0b,Y.cl,Y.n_number,f2.number,q1n (by show 1≤1000; decide),fun t3 ht3=>?_⟩
 have s3:=q0d (o:=HO.tup [V.int k.num]) ht3
 refine⟨_,rfl,a,C,dx,_,rfl,s3 _ _ q0b,Y.cl,Y.n_voices,k2.len,?_⟩
 have o2:Off a H1 _:=(q0k (o:=HO.ins C dx (L2.q1t "voice" (.int k.num) fs))).trans ((q0k (o:=HO.ins C dx (L2.q1t "way" (.str "standing") (L2.q1t "voice" (.int k.num) fs)))).trans ((q1f s3).trans (q0k (o:=HO.ins C dx (L2.q1t "voices" (.ref t3) (L2.q1t "way" (.str "standing") (L2.q1t "voice" (.int k.num) fs)))))))
 have sT:=o2.tups ha
 have n3:t3≠a:=fun z=>by rw [z,q0b] at ht3; cases ht3
 have hk4:K2V C _ a (stK k):=⟨dx,_,vp,vr,vst,an,ah,t3,aw,q0b,f2.put_voices t3,k2.put (by decide +kernel),⟨S.pack.offT sT,S.row.sameT sT,S.store.offT sT,sT _ _ S.nexts,sT _ _ S.held,by rw [q1c n3]; exact q0b,sT _ _ S.waits⟩⟩
 have o4:=o1.trans o2
 have kH:=j1l ko
 refine⟨_,rfl,a,stK k,rfl,hk4,kH,fun H5 s5=>⟨_,rfl,?_⟩⟩
 have nH:∀ l:Addr,H5 l=none→H l=none:=fun l hl=>by
  cases e:H l with
  | none=>rfl
  | some o =>
   by_cases hla:l=a
   ·obtain⟨dx4,fs4,_,_,_,_,_,_,_,ha4,_⟩:=hk4
    rw [hla,s5 _ _ ha4] at hl; cases hl
   ·rw [s5 _ _ (o4 _ _ hla e)] at hl; cases hl
 have hk5:=hk4.same s5
 have o5:=o4.trans (q1f s5)
 clear hk4 sT o2 o4 s3 ht3 n3
 rw [hb]
 have hk5':=hk5
 obtain⟨dx5,fs5,vp5,vr5,vst5,an5,ah5,av5,aw5,ha5,f5,ok5,S5⟩:=hk5'
 have hl5:(stK k).b+((stK k).es.length:Int)=q4e (stK k).b (tsK (stK k)):=by unfold q4e tsK; rw [List.length_map]
 obtain⟨us,hE,hR⟩:=S5.row.row (K:=K) kH.wb (by have:=kH.es; omega)
 refine q2p ⟨_,rfl,a,C,dx5,fs5,_,rfl,ha5,Y.cl,Y.n_row,f5.row,vr5,(stK k).b,(stK k).l,(stK k).es,rfl,S5.row,?_⟩
 rw [hl5]
 refine⟨_,rfl,a,C,dx5,fs5,_,rfl,ha5,Y.cl,Y.n_row,f5.row,_,rfl,vr5,(stK k).b,(stK k).l,tsK (stK k),_,rfl,⟨us,hR⟩,by unfold q4e; omega,Int.le_refl _,?_⟩
 rw [x2e]
 refine⟨_,rfl,a,stK k,rfl,hk5,kH,fun l0 H7 hl0 n7 s7=>?_⟩
 have h9:(z0h (stK k)).length≤9:=Nat.le_trans (List.length_filter_le ..) kH.few
 refine⟨l0,rfl,⟨_,SqL.of hl0⟩,q7z (J:=Itl K l0) (k:=1) (n:=(z0h (stK k)).length) (fun i H v=>∃ m,(z0h (stK k))[i]? = some m∧IsT H v (.tup [.str "ask",.int (stK k).num,.int m,.int (stK k).tm,.int ((stK k).b+((stK k).es.length:Int)),.int (z0b (stK k).l (tsK (stK k)))])) (fun i H H' v s ⟨m,e,h⟩=>⟨m,e,h.sameT s⟩) (by rw [sizeLine_eq]; omega) (fun i H3 hi s4=>?_) (fun H3 s4=>?_) ?_ ?_⟩
 ·exact⟨(z0h (stK k)).map V.int,.int (z0h (stK k))[i],SqL.of (s4 _ _ hl0),by simp [hi]⟩
 ·exact⟨(z0h (stK k)).map V.int,SqL.of (s4 _ _ hl0),by simp⟩
 ·intro i H3 t x H4 R hi s4 ht y hR
  obtain⟨t0,rfl⟩:=q3w ht
  obtain⟨rfl,hy⟩:=y
  have hv:=hy _ (SqL.of (s4 _ _ hl0))
  rw [List.getElem?_map,List.getElem?_eq_getElem hi] at hv
  cases hv
  have ha8:=s4 _ _ (s7 _ _ ha5)
  refine⟨_,rfl,a,C,dx5,fs5,_,rfl,ha8,Y.cl,Y.n_number,f5.number,_,rfl,_,rfl,a,C,dx5,fs5,_,rfl,ha8,Y.cl,Y.n_term,f5.term,_,rfl,_,rfl,q1n (by show 6≤1000; decide),fun p hp=>?_⟩
  refine hR [_] _ _ rfl (q0d hp) ⟨(z0h (stK k))[i],by simp [hi],.tup q0b (.cons (.str _) (.cons (.int _) (.cons (.int _) (.cons (.int _) (.cons ?_ (.cons (.int _) .nil))))))⟩
  rw [← hl5]
  exact .int _
 ·intro D6 H6 us6 s6 hD6 hd6 hus hy
  have hI:IsTL H6 us6 (j1n (stK k)):=by
   unfold j1n
   clear q hl0 hd6
   generalize z0h (stK k)=os at hus hy
   exact x5p hus hy
  exact q D6 us6 H6 hd6 hI (by rw [hus]; exact h9) (nH D6 (by
   cases e:H5 D6 with
   | none=>rfl
   | some o=>rw [s7 _ _ e] at hD6; cases hD6)) (hk5.same (s7.trans s6)) (o5.trans (q1f (s7.trans s6)))
noncomputable def q1i (k:Kst) (one t:Int):Kst:={ q3q k t with way := "plain",vs:=[],hd:=some one }
noncomputable def j4c (C:Addr):Sp:=fun vs H Q _=>∃ (a p:Addr) (x:Str) (one other t:Int) (q5g:List V) (k:Kst),vs=[.ref a,.ref p]∧K2V C H a k∧H p=some (.tup (.str x::.int one::.int other::.int t::q5g))∧k.way ≠ "head" ∧ (t < k.tm→∀ H',K2V C H' a k→Off a H H'→Q (.bl false) H')∧(k.tm≤t→∀ H',K2V C H' a (q1i k one t)→Off a H H'→Q (.bl true) H')
theorem j9z:FnScope ["keeper", "letter"] ["keeper", "letter"] (q0h q4m):=fSc
theorem j6n {f fH:Addr} {fd dH:FuncData} {C:Addr} (Y:KpC K C) (F:Fun K "took_for_head" "took_for_head" q4m f fd) (MH:Meth K C "hear" fH) (FH:FnOk P w K mg base CX0 2 fH dH ["self", "term"] (x1c C)) (bH:q3p K dH ["self", "term"] []):FnOk P w K mg base CX0 3 f fd ["keeper", "letter"] (j4c C):=by
 refine F.ok j9z (by rintro _ _ _ _⟨_,_,_,_,_,_,_,_,rfl,_⟩; rfl) (fun _ A _ s H vs Q E hr h=>?_)
 obtain⟨a,p,x,one,other,t,q5g,k,rfl,hk,hp,hw,q0,q1⟩:=h
 refine⟨_,@q0j _ _ _ _ _ (q2g (x2z (pv 0) Y.cl MH FH hr bH .nil q7n (q2r (q0f q0i (pv 1) (q0c) q0w) q0e)))
  (@q0j _ _ _ _ _ (q1g (PW.pt (q4d (q0m x3g (q0f q0i (pv 1) (q0c) q0w) (q1e (pv 0) (by rfl)) (q0o _)) (q2s (q0m q2u (q1e (pv 0) (by rfl)) q2k (q0o _))))) (@q0p _ _ _ (q0q q4v)) q0u)
  (@q0j _ _ _ _ _ (q2d (pv 0) q2k (by rfl))
  (@q0j _ _ _ _ _ (q2d (pv 0) (QE.h (q1d (q0v))) (by rfl))
  (@q0j _ _ _ _ _ (q2d (pv 0) (q0f q0i (pv 1) (q0c) q0w) (by rfl))
  (@q0p _ _ _ (q0q q4v)))))),?_⟩
 have hk':=hk
 obtain⟨dx0,fs0,vp0,vr0,vst0,an0,ah0,av0,aw0,ha0,f0,ok0,S0⟩:=hk'
 refine⟨_,rfl,a,dx0,fs0,rfl,ha0,ok0.no (by decide +kernel),_,rfl,p,_,_,.int t,rfl,rfl,SqT.of hp,q0a (j:=3) rfl,a,t,k,rfl,hk,fun H1 hk1 o1=>?_⟩
 have hp1:=(o1.tups ha0) _ _ hp
 have hk1':=hk1
 obtain⟨dx,fs,vp,vr,vst,an,ah,av,aw,ha,f,ok,S⟩:=hk1'
 refine⟨_,rfl,p,_,_,.int t,rfl,rfl,SqT.of hp1,q0a (j:=3) rfl,_,rfl,a,C,dx,fs,_,rfl,ha,Y.cl,Y.n_term,f.term,_,_,rfl,rfl,_,rfl,?_⟩
 by_cases ht:t < k.tm
 ·have e:q3q k t=k:=by unfold q3q; rw [if_neg (by omega)]
  rw [e] at hk1 ⊢
  rw [decide_eq_true ht]
  exact q2z (q2z (q0 ht H1 hk1 o1))
 have hge:¬ t < (q3q k t).tm:=by
  unfold q3q
  by_cases h:t > k.tm
  ·rw [if_pos h]; show ¬ t < t; omega
  ·rw [if_neg h]; omega
 have hwy:(q3q k t).way ≠ "head" := by
  unfold q3q
  by_cases h:t > k.tm
  ·rw [if_pos h]; show ("plain" : Str) ≠ "head"; decide +kernel
  ·rw [if_neg h]; exact hw
 rw [decide_eq_false hge]
 refine q2p ⟨_,rfl,a,C,dx,fs,_,rfl,ha,Y.cl,Y.n_way,f.way,rfl,_,rfl,?_⟩
 rw [decide_eq_false (fun z=>hwy (V.str.inj z))]
 refine q2p ⟨_,rfl,a,C,dx,fs,rfl,ha,Y.cl,Y.n_way,ok.len,?_⟩
 have k1:=ok.put (f := "way") (v:=.str "plain") (by decide +kernel)
 have f1:=f.put_way "plain"
 refine⟨q1n (by show 0≤1000; decide),fun av' hav=>?_⟩
 have na:a≠av':=fun z=>by rw [← z,q0b] at hav; cases hav
 refine⟨_,rfl,a,C,dx,_,rfl,(by rw [q1c na]; exact q0b),Y.cl,Y.n_voices,k1.len,?_⟩
 have k2:=k1.put (f := "voices") (v:=.ref av') (by decide +kernel)
 have f2:=f1.put_voices av'
 have o2:Off a H1 _:=(q0k (o:=HO.ins C dx (L2.q1t "way" (.str "plain") fs))).trans ((q4j (a:=a) (o:=HO.tup []) hav).trans (q0k (o:=HO.ins C dx (L2.q1t "voices" (.ref av') (L2.q1t "way" (.str "plain") fs)))))
 refine⟨_,rfl,p,_,_,.int one,rfl,rfl,SqT.of ((o2.tups ha) _ _ hp1),q0a (j:=1) rfl,_,rfl,a,C,dx,_,rfl,q0b,Y.cl,Y.n_head,k2.len,?_⟩
 have k3:=k2.put (f := "head") (v:=.int one) (by decide +kernel)
 have f3:=f2.put_head (some one)
 have o3:=o2.trans (q0k (o:=HO.ins C dx (L2.q1t "head" (.int one) (L2.q1t "voices" (.ref av') (L2.q1t "way" (.str "plain") fs)))))
 have z:=S.sameT (o3.tups ha)
 refine q1 (by omega) _ ⟨dx,_,vp,vr,vst,an,ah,av',aw,q0b,f3,k3,⟨z.pack,z.row,z.store,z.nexts,z.held,?_,z.waits⟩⟩ (o1.trans o3)
 rw [q1c na.symm,q1c na.symm,q0b]; rfl
noncomputable def q9e (k:Kst) (o:Int) (g:Bool) (pl:Int):D:=.tup [.str "held",.int k.num,.int o,.int k.tm,.bl g,.int pl]
noncomputable def j3s (C:Addr):Sp:=fun vs H Q _=>∃ (a:Addr) (k:Kst) (o pl:Int) (g:Bool),vs=[.ref a,.int o,.bl g,.int pl]∧K2V C H a k∧∀ (q:Addr) (H':Hp),IsT H' (.ref q) (q9e k o g pl)→H q=none→q1l H H'→Q (.ref q) H'
theorem j8j:FnScope ["keeper", "other", "good", "place"] ["keeper", "other", "good", "place"] (q0h q5u):=fSc
theorem j6i {f:Addr} {fd:FuncData} {C:Addr} (Y:KpC K C) (F:Fun K "held_letter" "held_letter" q5u f fd):FnOk P w K mg base CX0 1 f fd ["keeper", "other", "good", "place"] (j3s C):=by
 refine F.ok j8j (by rintro _ _ _ _⟨_,_,_,_,_,rfl,_⟩; rfl) (fun _ A _ s H vs Q E hr h=>?_)
 obtain⟨a,k,o,pl,g,rfl,hk,q⟩:=h
 refine⟨_,@q0p _ _ _ (q0q (QE.h (q1d (q1w (q9a (q1e (pv 0) (by rfl)) (q4c (pv 1) (q9a (q1e (pv 0) (by rfl)) (q4c (pv 2) (q4c (pv 3) q0v))))))))),?_⟩
 obtain⟨dx,fs,vp,vr,vst,an,ah,av,aw,ha,f,ok,S⟩:=hk
 refine⟨_,rfl,a,C,dx,fs,_,rfl,ha,Y.cl,Y.n_number,f.number,_,rfl,_,rfl,a,C,dx,fs,_,rfl,ha,Y.cl,Y.n_term,f.term,_,rfl,_,rfl,q1n (by show 6≤1000; decide),fun p hp=>?_⟩
 exact q p _ (.tup q0b (.cons (.str _) (.cons (.int _) (.cons (.int _) (.cons (.int _) (.cons (.bl _) (.cons (.int _) .nil))))))) hp (q0d hp)
noncomputable def j4b (C:Addr):Sp:=fun vs H Q _=>∃ (a p:Addr) (x:Str) (one other t:Int) (q5g:List V) (k:Kst),vs=[.ref a,.ref p]∧K2V C H a k∧H p=some (.tup (.str x::.int one::.int other::.int t::q5g))∧t < k.tm∧∀ (l:Addr) (xs:List V) (H':Hp),H' l=some (.lst xs)→IsTL H' xs [q9e k one false (k.b+(k.es.length:Int))]→H l=none→q1l H H'→Q (.ref l) H'
theorem j8q:FnScope ["keeper", "letter"] ["keeper", "letter"] (q0h q5p):=fSc
theorem j4z {f:Addr} {fd:FuncData} {C:Addr} (Y:KpC K C) (F:Fun K "turned_down" "turned_down" q5p f fd) (CH:Cal P w K mg base "held_letter" 1 ["keeper", "other", "good", "place"] (j3s C)) (CE:Cal P w K mg base "end_of" 1 ["row"] q9k):FnOk P w K mg base CX0 2 f fd ["keeper", "letter"] (j4b C):=by
 refine F.ok j8q (by rintro _ _ _ _⟨_,_,_,_,_,_,_,_,rfl,_⟩; rfl) (fun _ A _ s H vs Q E hr h=>?_)
 obtain⟨a,p,x,one,other,t,q5g,k,rfl,hk,hp,ht,q⟩:=h
 refine⟨_,@q0j _ _ _ _ _ (q1g (q0m x3g (q0f q0i (pv 1) (q0c) q0w) (q1e (pv 0) (by rfl)) (q0o _)) (@q0p _ _ _ (q0q (q4f (q8r (q0n CH hr (q0z (pv 0) (q2r (q0f q0i (pv 1) (q0c) q0w) (x3w q4v (q8r (q0n CE hr (q1k (q1e (pv 0) (by rfl)) q0e)) q0e))))) q0e)))) q0u)
  (@q0p _ _ _ (q0q (q4f q0e))),?_⟩
 have hk':=hk
 obtain⟨dx,fs,vp,vr,vst,an,ah,av,aw,ha,f,ok,S⟩:=hk'
 refine⟨_,rfl,p,_,_,.int t,rfl,rfl,SqT.of hp,q0a (j:=3) rfl,_,rfl,a,C,dx,fs,_,rfl,ha,Y.cl,Y.n_term,f.term,_,_,rfl,rfl,_,rfl,?_⟩
 rw [decide_eq_true ht]
 refine q2z ⟨_,rfl,_,rfl,p,_,_,.int one,rfl,rfl,SqT.of hp,q0a (j:=1) rfl,_,rfl,a,C,dx,fs,_,rfl,ha,Y.cl,Y.n_row,f.row,vr,k.b,k.l,k.es,rfl,S.row,a,k,one,_,false,rfl,hk,fun r H1 hr1 n1 s1=>⟨q1n (by show 1≤1000; decide),fun l hl=>?_⟩⟩
 have s2:=q0d (o:=HO.lst [V.ref r]) hl
 refine q l _ _ q0b (.cons (hr1.sameT (q1j s2)) .nil) ?_ (s1.trans s2)
 cases e:H l with
 | none=>rfl
 | some o=>rw [s1 _ _ e] at hl; cases hl
end
end K1
namespace L2
open PySem PySem.Spec PyProof.Rows
noncomputable def x1d (x:Addr) (c:Value) (h:Heap):Prop:=∃ o vs,h.get? x=some o∧o.data=.fields vs∧vs[2]? = some c
theorem x1d.upd {x a:Addr} {c:Value} {h:Heap} {f:Obj→Obj} (hf:∀ o vs,o.data=.fields vs→∃ us,(f o).data=.fields us∧us[2]? = vs[2]?) (hx:x1d x c h):x1d x c (h.update a f):=by
 obtain⟨o,vs,e1,e2,e3⟩:=hx
 by_cases z:a=x
 ·subst z
  obtain⟨us,d,e⟩:=hf o vs e2
  exact⟨f o,us,Heap.get?_update_self f e1 (Obj.isFreed_of_fields d),d,e.trans e3⟩
 ·exact⟨o,vs,(Heap.get?_update_other _ _ z).trans e1,e2,e3⟩
structure Kee {α:Type} (t:Sem α):Prop where
 out:∀ (M:Model) (Γ:PySem.Ctx) (R:α→Pos→Shared→Prop) (Y:Value→Pos→Shared→Prop) (p:Pos) (s:Shared) (x:Addr) (c:Value),x1d x c s.heap→Sem.wp M Γ t R Y p s→Sem.wp M Γ t (fun a p' s'=>R a p' s'∧x1d x c s'.heap) Y p s
namespace Kee
variable {α β:Type}
theorem ret (a:α):Kee (Pure.pure a:Sem α):=⟨fun _ _ _ _ _ _ _ _ hc h=>⟨h,hc⟩⟩
theorem stop (w:String):Kee (PySem.unsupported w:Sem α):=⟨fun _ _ _ _ _ _ _ _ _ h=>h.elim⟩
theorem seq {m:Sem α} {f:α→Sem β} (hm:Kee m) (hf:∀ a,Kee (f a)):Kee (m >>= f):=⟨fun M Γ R Y p s x c hc h=>by
 rw [Sem.wp_bind'] at h ⊢
 exact Sem.wp_mono M Γ m (fun a p' s' h'=>(hf a).out M Γ R Y p' s' x c h'.2 h'.1) (fun _ _ _ z=>z) p s (hm.out M Γ _ Y p s x c hc h)⟩
theorem cond {c:Prop} [Decidable c] {t u:Sem α} (ht:Kee t) (hu:Kee u):Kee (if c then t else u):=by split <;> assumption
theorem look (a:Addr):Kee (PySem.load a):=⟨fun _ _ _ _ _ _ _ _ hc h=>let ⟨o,e,q⟩:=h; ⟨o,e,q,hc⟩⟩
theorem chg (a:Addr) {f:Obj→Obj} (hf:∀ o vs,o.data=.fields vs→∃ us,(f o).data=.fields us∧us[2]? = vs[2]?):Kee (PySem.update a f):=⟨fun _ _ _ _ _ _ _ _ hc h=>⟨h.1,h.2,hc.upd hf⟩⟩
theorem stk:Kee PySem.stack:=⟨fun M Γ R Y p s x c hc h=>by
 unfold PySem.stack at h ⊢
 rw [Sem.wp_stack] at h ⊢
 exact⟨h,hc⟩⟩
theorem new (o:Obj):Kee (PySem.alloc o):=⟨fun _ _ _ _ _ _ _ _ hc h=>⟨h,let ⟨o1,vs,e1,e2,e3⟩:=hc; ⟨o1,vs,Heap.get?_push_of_some _ e1,e2,e3⟩⟩⟩
theorem fld (v:Value) (i:Nat):Kee (PySem.field v i):=⟨fun _ Γ R Y p s x c hc h=>by
 rw [wp_field_iff] at h ⊢
 obtain⟨a,o,vs,y,h1,h2,h3,h4,h5⟩:=h
 exact⟨a,o,vs,y,h1,h2,h3,h4,h5,hc⟩⟩
theorem put (v:Value) {i:Nat} (y:Value) (hi:i≠2):Kee (PySem.setField v i y):=⟨fun _ Γ R Y p s x c hc h=>by
 rw [wp_setField_iff] at h ⊢
 obtain⟨a,o,vs,h1,h2,h3,h4,h5⟩:=h
 refine⟨a,o,vs,h1,h2,h3,h4,h5,hc.upd fun o us d=>⟨_,Obj.data_mapFields d _,?_⟩⟩
 rw [Array.getElem?_setIfInBounds_ne hi]⟩
end Kee
theorem x9c (env:Env) (outer:List Env):Kee (behindIsImport env outer):=by
 unfold behindIsImport
 repeat' with_reducible first | assumption | exact Kee.ret _ | exact Kee.fld _ _ | apply Kee.cond | apply Kee.seq | intro _ | split
theorem x9u:Kee underTheClaimsCaller:=by
 unfold underTheClaimsCaller
 exact Kee.seq Kee.stk fun _=>Kee.ret _
theorem z5p (env:Env) (i:Bool) (l:List Env):Kee (keptBack env i l):=by
 have:=x9u
 cases l <;> unfold keptBack <;> repeat' with_reducible first | assumption | exact Kee.ret _ | apply Kee.cond | apply Kee.seq | intro _ | split
theorem x4i:∀ l:List Env,Kee (readyFrames l)
 | []=>Kee.ret _
 | env::outer=>by
  have ih:=x4i outer
  have h1:=x9c env outer
  have h2:=fun i=>z5p env i outer
  unfold readyFrames
  repeat' with_reducible first | assumption | exact h2 _ | exact Kee.ret _ | exact Kee.stop _ | exact Kee.look _ | exact Kee.chg _ (fun o vs d=>⟨vs,d,rfl⟩) | apply Kee.cond | apply Kee.seq | intro _ | split
theorem z3t (l:List Env):Kee (frameObject l):=by
 cases l with
 | nil=>exact Kee.ret _
 | cons env outer =>
  unfold frameObject
  exact Kee.seq (x4i (env::outer)) fun _=>Kee.ret _
theorem z6k:Kee frameEnvs:=by
 unfold frameEnvs
 exact Kee.seq Kee.stk fun _=>Kee.ret _
theorem x6c (env:Env):Kee (PySem.frameOf env):=by
 have h2:=z3t
 unfold PySem.frameOf
 refine Kee.seq z6k fun l=>Kee.seq (h2 _) fun o=>?_
 cases o with
 | some f=>exact Kee.ret _
 | none=>exact Kee.stop _
theorem z1h (f:Addr) (b:Bool):Kee (entryPlaceOf f b):=by
 unfold entryPlaceOf
 refine Kee.seq Kee.stk fun l=>?_
 split <;> exact Kee.ret _
theorem z3v (a b c d e:Value) (l:List Value):Kee (EntryCells.newEntry a b c d e l):=by
 unfold EntryCells.newEntry newFields newObj newObjAsIs
 repeat' with_reducible first | assumption | exact Kee.ret _ | exact Kee.stop _ | exact Kee.new _ | apply Kee.cond | apply Kee.seq | intro _ | split
theorem z6h (e:Value) (env:Env):Kee (noteFrame e env):=by
 have h1:=x6c env
 unfold noteFrame
 repeat' with_reducible first | assumption | exact z1h _ _ | exact z3v _ _ _ _ _ _ | exact Kee.ret _ | exact Kee.stop _ | exact Kee.fld _ _ | exact Kee.put _ _ (by decide) | apply Kee.cond | apply Kee.seq | intro _ | split
theorem x9z (e:Value) (f:Option Addr):Kee (setFlight e f):=by
 unfold setFlight
 repeat' with_reducible first | assumption | exact Kee.ret _ | exact Kee.fld _ _ | exact Kee.put _ _ (by decide) | apply Kee.cond | apply Kee.seq | intro _ | split
theorem x1f (env:Env) (e:Value):Kee (leaving env e):=Kee.seq (z6h e env) fun _=>x9z e none
theorem Kee.any {α:Type} {t:Sem α} (k:Kee t) {M:Model} {A:Around} {R:α→Shared→Prop} {Y:Value→Shared→Prop} {s:Shared} {x:Addr} {c:Value} (hc:x1d x c s.heap) (h:wpAny M A t R Y s):wpAny M A t (fun a s'=>R a s'∧x1d x c s'.heap) Y s:=fun Γ p hΓ=>k.out M Γ _ _ p s x c hc (h Γ p hΓ)
theorem Kee.opt {α:Type} {t:Sem α} (k:Kee t) {M:Model} {A:Around} {R:α→Shared→Prop} {Y:Value→Shared→Prop} {s:Shared} {x:Addr} {q:Prop} (hc:q→x1d x .none s.heap) (h:wpAny M A t R Y s):wpAny M A t (fun a s'=>R a s'∧(q→x1d x .none s'.heap)) Y s:=by
 by_cases z:q
 ·exact wpAny_mono (k.any (hc z) h) (fun _ _ y=>⟨y.1,fun _=>y.2⟩) fun _ _ y=>y
 ·exact wpAny_mono h (fun _ _ y=>⟨y,fun w=>absurd w z⟩) fun _ _ y=>y
end L2
namespace L2
open PySem PySem.Spec PyProof.Rows
noncomputable def CXe (P:Program) (w:World):CXT:=fun outer H s E e s'=>∃ (a:Addr) (cls a0:Value) (B:Heap) (H1:Hp) (c:Option Addr),e=.ref a∧s'.os=s.os∧AllBare s'.gens∧Heap.FlyingW B outer a cls a0 s'.heap ∧
 Un (frs outer) [] H H1 s.heap s'.heap∧(∀ b o,s.heap.get? b=some o→H b=none→b∉frs outer→B.get? b=some o)∧(∀ b o,s.heap.get? b=some o→b∉frs outer→∃ o',B.get? b=some o')∧HOk P w H1 B∧H1 a=none∧(c=none→x1d a .none s'.heap)∧E cls c H1
theorem q3k.there {P:Program} {w:World} {H:Hp} {h:Heap} {a:Addr} {o:HO} (x:q3k P w H h a o):∃ u,h.get? a=some u:=by
 cases o with
 | lst xs=>obtain⟨_,_,_,_,e⟩:=x; exact⟨_,e⟩
 | tup xs=>obtain⟨_,_,_,o,e,_⟩:=x; exact⟨_,e⟩
 | dK kvs=>obtain⟨_,_,_,_,o,_,_,e,_⟩:=x; exact⟨_,e⟩
 | dT kvs=>obtain⟨_,_,_,_,o,_,_,e,_⟩:=x; exact⟨_,e⟩
 | set S n=>obtain⟨o,_,_,_,e,_⟩:=x; exact⟨_,e⟩
 | ins C dx fs=>obtain⟨_,_,_,e,_⟩:=x; exact⟨_,e⟩
 | own y=>exact x
 | xd fs=>obtain⟨_,⟨_,_,_,e,_⟩,_⟩:=x; exact⟨_,e⟩
 | rng lo hi=>obtain⟨_,_,_,e⟩:=x; exact⟨_,e⟩
 | frz ob u=>obtain⟨e,_⟩:=x; exact⟨_,e⟩
 | tbl ps=>exact⟨_,x⟩
 | met f y=>exact⟨_,x⟩
 | ext φ=>obtain⟨_,e,_⟩:=x; exact e
theorem x8q {env:Env} {outer:List Env} {L:Addr} (hf:env.frame=some L):frs (env::outer)=L::frs outer:=by
 unfold frs; rw [List.filterMap_cons,hf]
section
variable {P:Program} {w:World} {K:Frag} {mg:Str→Option Value} {base:Heap} {N:List Str} {qual:Str} {scope:Scope} {f:Addr} {cd:Value} {A:Around} {outer:List Env} {s:Shared} {H:Hp} {E:XK}
theorem z9d:q6q (CXe P w) (z0a (CXe P w) P w K mg base N qual scope f cd A outer s H E) E:=by
 intro pins σ H2 s2 e s' I h
 obtain⟨a,cls,a0,B,H1,c,rfl,os,bare,fl,un,cov,cov2,hok,ha,hc,q⟩:=h
 have hf:(envOfC qual scope s.heap.objs.size f cd).frame=some s.heap.objs.size:=rfl
 have hfr:frs ((envOfC qual scope s.heap.objs.size f cd)::outer)=s.heap.objs.size::frs outer:=x8q hf
 have un':Un (frs ((envOfC qual scope s.heap.objs.size f cd)::outer)) [] H2 H1 s2.heap s'.heap:=un
 have cov':∀ b o,s2.heap.get? b=some o→H2 b=none→b∉frs ((envOfC qual scope s.heap.objs.size f cd)::outer)→B.get? b=some o:=cov
 have cov2':∀ b o,s2.heap.get? b=some o→b∉frs ((envOfC qual scope s.heap.objs.size f cd)::outer)→∃ o',B.get? b=some o':=cov2
 have fl':Heap.FlyingW B ((envOfC qual scope s.heap.objs.size f cd)::outer) a cls a0 s'.heap:=fl
 have bs:Un (frs outer) [] H H2 s.heap s2.heap:=I.base
 have ne:∀ {b:Addr} {o:Obj},s.heap.get? b=some o→b∉frs outer→b∉frs ((envOfC qual scope s.heap.objs.size f cd)::outer):=fun {b o} e hb z=>by
  rw [hfr] at z
  rcases List.mem_cons.mp z with z | z
  ·exact absurd (Heap.lt_size e) (by rw [z]; exact Nat.lt_irrefl _)
  ·exact hb z
 have inn:∀ {b:Addr},b∈frs outer→b∈frs ((envOfC qual scope s.heap.objs.size f cd)::outer):=fun {b} hb=>by rw [hfr]; exact List.mem_cons_of_mem _ hb
 have nx:∀ b:Addr,b∉([]:List Addr):=fun b z=>absurd z (by simp)
 show wpAny (model P w) (A.deeper (envOfC qual scope s.heap.objs.size f cd)) (leaving (envOfC qual scope s.heap.objs.size f cd) (.ref a)) _ _ s'
 refine wpAny_mono ((x1f _ _).opt hc (wpAny_leaves_onW (Q:=fun _ s3=>Heap.FlyingW B outer a cls a0 s3.heap∧s'.heap.UpToSlots s3.heap∧s3={ s' with heap:=s3.heap }) (I.ok.frames) hf fl' fun h' fl2 ups=>⟨fl2,ups,rfl⟩)) (fun _ s3 ⟨⟨fl2,ups,e3⟩,hc2⟩=>?_) fun _ _ z=>z
 obtain⟨h',rfl⟩:∃ h',s3={ s' with heap:=h' }:=⟨_,e3⟩
 have fmem:=fl'.2.2.1
 have covS:∀ b o,s.heap.get? b=some o→H b=none→b∉frs outer→B.get? b=some o:=fun b o e n hb=>cov' b o (bs.keep b o e n hb (nx b)) (bs.free b o e n (nx b)) (ne e hb)
 have cov2S:∀ b o,s.heap.get? b=some o→b∉frs outer→∃ o',B.get? b=some o':=fun b o e hb=>by
  obtain⟨o1,e1⟩:=bs.there b o e (nx b)
  exact cov2' b o1 e1 (ne e hb)
 refine⟨a,cls,a0,B,H1,c,rfl,os.trans I.os,bare,fl2,⟨fun b o e n hb _=>fl2.1 _ _ (covS b o e n hb),fun b o e n hb _=>?_,fun b o e n _=>?_,fun b o e _=>?_,fun b xs q=>un'.tups b xs (bs.tups b xs q),fun b o u q=>un'.frzs b o u (bs.frzs b o u q),fun b ps q=>?_⟩,covS,cov2S,hok,ha,hc2,q⟩
 ·obtain⟨sl1,e1⟩:=bs.slot b o e n hb (nx b)
  obtain⟨sl2,e2⟩:=un'.slot b _ e1 (bs.free b o e n (nx b)) (inn hb) (nx b)
  obtain⟨_,o3,e3,nf⟩:=fmem.mem (inn hb)
  rw [e2] at e3
  cases e3
  obtain⟨sl4,e4⟩:=ups b _ e2 nf
  exact⟨sl4,e4⟩
 ·obtain⟨o1,e1⟩:=bs.there b o e (nx b)
  exact un'.free b o1 e1 (bs.free b o e n (nx b)) (nx b)
 ·by_cases hb:b∈frs outer
  ·obtain⟨_,o3,e3,nf⟩:=fmem.mem (inn hb)
   obtain⟨sl4,e4⟩:=ups b _ e3 nf
   exact⟨_,e4⟩
  ·obtain⟨o',e'⟩:=cov2S b o e hb
   exact⟨o',fl2.1 _ _ e'⟩
 ·obtain⟨m1,q1⟩:=bs.tbls b ps q
  obtain⟨m2,q2⟩:=un'.tbls b _ q1
  exact⟨m1++m2,by rw [q2,Array.append_assoc]⟩
theorem j2z {pins:List (Addr × Obj)} {σ:St} {H1:Hp} {s1:Shared} {h2:Heap} {a:Addr} {cls:Value} {args:List Value}
  (I:Inv (z0a (CXe P w) P w K mg base N qual scope f cd A outer s H E) pins σ H1 s1) (hx:Heap.MadeExcOf s1.heap h2 a cls args) (q:E cls none H1) :
  (z0a (CXe P w) P w K mg base N qual scope f cd A outer s H E).xe (.ref a) { s1 with heap:=h2 }:=by
 have hf:(envOfC qual scope s.heap.objs.size f cd).frame=some s.heap.objs.size:=rfl
 have hfr:frs ((envOfC qual scope s.heap.objs.size f cd)::outer)=s.heap.objs.size::frs outer:=x8q hf
 have bs:Un (frs outer) [] H H1 s.heap s1.heap:=I.base
 have stk:s1.heap.FunFrames base ((envOfC qual scope s.heap.objs.size f cd)::outer):=I.stack
 have fre:∀ b∈frs ((envOfC qual scope s.heap.objs.size f cd)::outer),H1 b=none:=I.stkFree
 have ne:∀ {b:Addr} {o:Obj},s.heap.get? b=some o→b∉frs outer→b∉frs ((envOfC qual scope s.heap.objs.size f cd)::outer):=fun {b o} e hb z=>by
  rw [hfr] at z
  rcases List.mem_cons.mp z with z | z
  ·exact absurd (Heap.lt_size e) (by rw [z]; exact Nat.lt_irrefl _)
  ·exact hb z
 have inn:∀ {b:Addr},b∈frs outer→b∈frs ((envOfC qual scope s.heap.objs.size f cd)::outer):=fun {b} hb=>by rw [hfr]; exact List.mem_cons_of_mem _ hb
 have nx:∀ b:Addr,b∉([]:List Addr):=fun b z=>absurd z (by simp)
 have hin:∀ env∈((envOfC qual scope s.heap.objs.size f cd)::outer),∀ b,env.frame=some b→b∈frs ((envOfC qual scope s.heap.objs.size f cd)::outer):=fun env he b hb=>List.mem_filterMap.mpr ⟨env,he,hb⟩
 show wpAny (model P w) (A.deeper (envOfC qual scope s.heap.objs.size f cd)) (leaving (envOfC qual scope s.heap.objs.size f cd) (.ref a)) _ _ { s1 with heap:=h2 }
 have hcx:x1d a .none h2:=by
  obtain⟨t,he,_⟩:=hx.there
  exact⟨_,_,he,rfl,rfl⟩
 refine wpAny_mono ((x1f _ _).any (s:={ s1 with heap:=h2 }) hcx (wpAny_leaves_madeW (Q:=fun _ s3=>∃ t,Heap.FlyingW (hideAll s1.heap (frs ((envOfC qual scope s.heap.objs.size f cd)::outer))) outer a cls (.ref t) s3.heap∧h2.UpToSlots s3.heap∧s3={ s1 with heap:=s3.heap }) (base:=hideAll s1.heap (frs ((envOfC qual scope s.heap.objs.size f cd)::outer))) (h:=s1.heap) I.ok.frames hf (fun b o e=>PySem.W.of_hideAll _ e) (PySem.W.funFrames_hide stk hin) hx fun h' t fl _ _ ups=>⟨t,fl,ups,rfl⟩)) (fun _ s3 ⟨⟨t,fl,ups,e3⟩,hc2⟩=>?_) fun _ _ z=>z
 obtain⟨h',rfl⟩:∃ h',s3={ s1 with heap:=h' }:=⟨_,e3⟩
 have ups1:s1.heap.UpToSlots h':=(Heap.UpToSlots.of_keeps hx.keeps).trans ups
 have covS:∀ b o,s.heap.get? b=some o→H b=none→b∉frs outer→(hideAll s1.heap (frs ((envOfC qual scope s.heap.objs.size f cd)::outer))).get? b=some o:=fun b o e n hb=>PySem.W.hideAll_get _ (bs.keep b o e n hb (nx b)) (ne e hb)
 have cov2S:∀ b o,s.heap.get? b=some o→b∉frs outer→∃ o',(hideAll s1.heap (frs ((envOfC qual scope s.heap.objs.size f cd)::outer))).get? b=some o':=fun b o e hb=>by
  obtain⟨o1,e1⟩:=bs.there b o e (nx b)
  exact⟨o1,PySem.W.hideAll_get _ e1 (ne e hb)⟩
 have tr:∀ b o,H1 b=some o→b∉frs ((envOfC qual scope s.heap.objs.size f cd)::outer):=fun b o e z=>by rw [fre b z] at e; cases e
 have hok:HOk P w H1 (hideAll s1.heap (frs ((envOfC qual scope s.heap.objs.size f cd)::outer))):=fun b o e=>by
  refine (I.hok b o e).stay (fun c u hc g=>PySem.W.hideAll_get _ g ?_) (fun _ q=>q) fun _ _ q=>q
  rcases hc with rfl | hc
  ·exact tr _ _ e
  ·exact tr _ _ hc
 have ha:H1 a=none:=by
  cases e:H1 a with
  | none=>rfl
  | some o =>
   obtain⟨u,hu⟩:=(I.hok a o e).there
   rw [hx.new] at hu
   cases hu
 refine⟨a,cls,.ref t,_,H1,none,rfl,I.os,I.bare,fl,⟨fun b o e n hb _=>fl.1 _ _ (covS b o e n hb),fun b o e n hb _=>?_,bs.free,fun b o e _=>?_,bs.tups,bs.frzs,bs.tbls⟩,covS,cov2S,hok,ha,fun _=>hc2,q⟩
 ·obtain⟨sl1,e1⟩:=bs.slot b o e n hb (nx b)
  obtain⟨_,o3,e3,nf⟩:=stk.mem (inn hb)
  rw [e1] at e3
  cases e3
  obtain⟨sl4,e4⟩:=ups1 b _ e1 nf
  exact⟨sl4,e4⟩
 ·by_cases hb:b∈frs outer
  ·obtain⟨_,o3,e3,nf⟩:=stk.mem (inn hb)
   obtain⟨sl4,e4⟩:=ups1 b _ e3 nf
   exact⟨_,e4⟩
  ·obtain⟨o',e'⟩:=cov2S b o e hb
   exact⟨o',fl.1 _ _ e'⟩
end
theorem j2i {K:Frag} {h₀:Heap} {mg:Str→Option Value} {x:Str} {C:Addr} {bmB:List Value} {newId:String} (X:K.In h₀) (hm:mg x=some (.ref C)) (q:PySem.W.excIn K C bmB newId=true):OwnCls x C bmB newId mg h₀:=by
 refine⟨hm,?_⟩
 unfold PySem.W.excIn at q
 split at q
 ·rename_i dd cd sl ho
  split at q
  ·rename_i C' bm k0 k1 k2 k3 n k5 hm hs
   simp only [Bool.and_eq_true,beq_iff_eq,Bool.not_eq_true'] at q
   obtain⟨⟨⟨⟨⟨rfl,rfl⟩,hdel⟩,ht⟩,hok⟩,hni⟩:=q
   obtain⟨nm,bs,mro,ns,qn,hd,sn,sub,ab,col,del⟩:=cd
   dsimp only at hm hdel hok hni
   subst hm hdel
   have hsl:sl=#[k0,k1,k2,k3,some (.builtin n),k5]:=by
    obtain⟨l⟩:=sl
    simp only at hs
    rw [hs]
   subst hsl
   exact⟨bm,ns,nm,qn,bs,hd,sn,sub,ab,col,dd,k0,k1,k2,k3,k5,_,X _ _ ho,.of_isNs (PySem.W.isNs_of_in X hok),PySem.W.nsMap_none_of_in X hok hni,PySem.W.tail_of_in X ht⟩
  ·cases q
 ·cases q
abbrev j5p:List Value:=[.type "ValueError",.type "Exception",.type "BaseException",.type "object"]
noncomputable def z6u (X:Cx) (E:XK):Prop:=∀ (pins:List (Addr × Obj)) (σ:St) (H:Hp) (s:Shared) (h':Heap) (a:Addr) (cls:Value) (args:List Value),Inv X pins σ H s→Heap.MadeExcOf s.heap h' a cls args→E cls none H→X.xe (.ref a) { s with heap:=h' }
theorem x0l {P:Program} {w:World} {K:Frag} {mg:Str→Option Value} {base:Heap} {N:List Str} {qual:Str} {scope:Scope} {f:Addr} {cd:Value} {A:Around} {outer:List Env} {s:Shared} {H:Hp} {E:XK} :
  z6u (z0a (CXe P w) P w K mg base N qual scope f cd A outer s H E) E:=fun _ _ _ _ _ _ _ _ I hx q=>j2z I hx q
noncomputable def j2e (C:Addr) (E:XK) (ta:TA):TS:=fun _ σ H=>ta σ H fun vs H1=>vs.length≤1000∧E (.ref C) none H1
theorem x3c {X:Cx} {E:XK} {x:Str} {C:Addr} {np cpos pos:Pos} {e₀:Expr} {q5g:List Expr} {ta:TA} (R:z6u X E) (hc:X.calm=true) (hg:Gl X x) (hm:X.mg x=some (.ref C)) (q:PySem.W.excIn X.K C j5p "ValueError.__new__" = true) (ha:PA X (e₀::q5g) ta)
  (he:starEach (e₀::q5g) X.env=(false,eval e₀ X.env)::starEach q5g X.env:=by rfl) (hplain:(backTo cpos (starEach q5g X.env)).any (·.1)=false:=by rfl) (hd:(x==("__debug__" : Str))=false:=by decide) :
  PS X (.Raise (some (.Call (.Name x np) (e₀::q5g) [] cpos)) none pos) (j2e C E ta):=by
 intro pins s σ H D I h
 obtain⟨tl,N,nm,qn,bs,hdct,sn,sub,ab,col,dd,k0,k1,k2,k3,k5,mN,hC,hN,hni,T⟩:=(j2i (x:=x) I.ok.mod.kin hm q).obj
 refine wpAny_Raise_call_subT (C:=C) (nm:=nm) (q:=qn) (N:=N) (bs:=bs) (bm:=tl) (hdct:=hdct) (sn:=sn) (sub:=sub) (ab:=ab) (col:=col) (dd:=dd) (k0:=k0) (k1:=k1) (k2:=k2) (k3:=k3) (k5:=k5)
  PySem.F.excBase_ValueError (mN:=mN) (T.hasType PySem.F.excBase_ValueError.hasBase) (I.ok.hd hc) (by rw [he]; show (false || (backTo cpos (starEach q5g X.env)).any (·.1))=false; rw [hplain]; rfl) hni (x2t I hg hm ⟨rfl,?_⟩ hd)
 have h':=ha cpos pins s σ H _ I h
 rw [he] at h' ⊢
 refine Calls.evalArgs_plain (wpAny_mono h' (fun us s₂ ⟨vs,H1,I1,r,hl,qe⟩=>?_) fun _ _ y=>y)
 refine⟨rfl,?_,I1.bk _ _ hC,hN.keeps I1.bk,T.keeps I1.bk,fun h2 a hx=>R pins σ H1 s₂ h2 a (.ref C) us I1 hx qe⟩
 rw [← r.length]
 have:(1000:Nat)≤sizeLine:=by rw [sizeLine_eq]; decide
 exact Nat.le_trans hl this
theorem _root_.L2.Fun.okE {P:Program} {w:World} {K:Frag} {mg:Str→Option Value} {base:Heap} {x qual:Str} {st:Stmt} {f:Addr} {fd:FuncData} {N ps:List Str} {k:Nat} {sp:Sp} (F:Fun K x qual st f fd) (S:FnScope N ps (q0h st)) (len:∀ vs H Q E,sp vs H Q E→vs.length=ps.length)
  (hbody:∀ (cdv:Value) (A:Around) (outer:List Env) (s:Shared) (H:Hp) (vs:List V) (Q:VK) (E:XK),Room k (A.deeper (envOfC qual (q0h st) s.heap.objs.size f cdv))→sp vs H Q E →
   ∃ t,PSs (z0a (CXe P w) P w K mg base N qual (q0h st) f cdv A outer s H E) (q4n st) t∧t { nx:=fun _ H'=>Q .non H',rt:=Q } (x1o N vs) H):FnOk P w K mg base (CXe P w) (k+1) f fd ps sp:=by
 obtain⟨oc,od,kV,doc,pm,an,cdv,ct,osl,rfl,lk,hcd⟩:=F.ex
 exact j0u lk hcd S len fun A outer s H vs Q E hr hsp=>hbody cdv A outer s H vs Q E hr hsp
section
variable {X:Cx} {pins:List (Addr × Obj)} {σ:St} {H:Hp} {s:Shared}
end
section
variable {X:Cx} {k:Nat} {f C:Addr} {fd:FuncData} {ps:List Str} {sp:Sp} {x y n:Str} {i j:Nat} {p pos rp tp np hp py:Pos} {e:Expr} {es:List Expr} {t:TA} {b₀:Stmt} {suite:List Stmt} {ts:TS}
end
end L2
namespace L2
open PySem PySem.Spec PyProof.Rows PySem.W PySem.Builtin PySem.Builtin.ObjectAttr PySem.Builtin.Getset_descriptor
section
variable {prog:Program} {w:World} {A:Around} {E:Value→Shared→Prop} {s:Shared} {K:Frag} {x C:Addr} {R:Result→Shared→Prop} {h:Heap} {g:Array GenState} {d:Drawn} {t:Nat} {os:OsState} {o:Obj} {name:Str}
end
end L2
namespace L2
open PySem PySem.Spec PyProof.Rows
section
variable {P:Program} {w:World} {K:Frag} {mg:Str→Option Value} {base:Heap}
end
section
variable {X:Cx} {k:Nat} {f:Addr} {fd:FuncData} {ps:List Str} {sp:Sp} {x:Str} {p pos:Pos} {e:Expr} {es:List Expr} {t:TA}
end
end L2
namespace Kp
open PySem L2
structure CalE (P:Program) (w:World) (K:Frag) (mg:Str→Option Value) (base:Heap) (name:Str) (k:Nat) (ps:List Str) (sp:Sp):Prop where
 ex:∃ f fd,FnOk P w K mg base (CXe P w) k f fd ps sp∧mg name=some (.ref f)∧keepIn K (.ref f)=true∧q3p K fd ps []
end Kp
namespace K1
open PySem L2 Kp
noncomputable def z1t (K:Frag) (cP:Addr):Sp:=fun vs H Q E=>∃ (v:V) (b l:Int) (es:List V) (ts:List Int) (p:Int),vs=[v,.int p]∧RowX K H v b l es ts∧(b < p→p≤q4e b ts→∀ e,es[(p - b - 1).toNat]? = some e→Q e H)∧((p≤b∨q4e b ts < p)→E (.ref cP) none H)
noncomputable def x6u (K:Frag) (cP:Addr):Sp:=fun vs H Q E=>∃ (v:V) (b l:Int) (ts:List Int) (p:Int),vs=[v,.int p]∧j0k K H v b l ts∧(b≤p→p≤q4e b ts→Q (.int (q2y b l ts p)) H)∧((p < b∨q4e b ts < p)→E (.ref cP) none H)
structure ExP (K:Frag) (mg:Str→Option Value) (cP:Addr):Prop where
 mP:mg "NoPlace" = some (.ref cP)
 xP:PySem.W.excIn K cP j5p "ValueError.__new__" = true
section
variable {P:Program} {w:World} {K:Frag} {mg:Str→Option Value} {base:Heap}
theorem x6n {X:Cx} {x:Str} {k:Nat} {ps:List Str} {sp:Sp} {e:Expr} {es:List Expr} {t:TA} {p pos:Pos} {E:XK} (C:CalE X.prog X.w X.K X.mg X.base x k ps sp) (hr:Room k X.A) (hx:q6q (CXe X.prog X.w) X E) (ha:PA X (e::es) t) (hg:Gl X x:=by rfl) (hdb:(x==("__debug__" : Str))=false:=by decide) (he:starEach (e::es) X.env=(false,eval e X.env)::starEach es X.env:=by rfl) (hpl:(backTo pos (starEach es X.env)).any (·.1)=false:=by rfl) :
  PE X (.Call (.Name x p) (e::es) [] pos) (z5h sp [] E t):=let ⟨_,_,F,hm,hk,hb⟩:=C.ex; x1i F hr hg hm hk hb .nil hx ha hdb he hpl
theorem j1k:FnScope ["row", "place", "base"] ["row", "place"] (q0h q3v):=fSc
theorem x4g {f:Addr} {fd:FuncData} {cP:Addr} (Z:ExP K mg cP) (F:Fun K "entry_at" "entry_at" q3v f fd) (CE:Cal P w K mg base "end_of" 1 ["row"] (q5v K)):FnOk P w K mg base (CXe P w) 2 f fd ["row", "place"] (z1t K cP):=by
 refine F.okE j1k (by rintro _ _ _ _⟨_,_,_,_,_,_,rfl,_⟩; rfl) (fun _ A _ s H vs Q E hr h=>?_)
 obtain⟨v,b,l,es,ts,p,rfl,hX,q,qe⟩:=h
 have hX':=hX
 obtain⟨⟨rb,c,rfl,hb,hc⟩,hen,hfew⟩:=hX'
 replace hb:=SqT.of (K:=K) hb
 replace hc:=SqT.of (K:=K) hc
 refine⟨_,@q0j _ _ _ _ _ (q0r (i:=2) j1k.nd (by rfl) (by exact Or.inl rfl) (q0f q0i (pv 0) (q0c) q0w))
  (@q0j _ _ _ _ _ (q1g (PW.pt (q4d (q0m x3s (pv 1) (pv 2) (q0o _)) (q2s (q0m q4g (pv 1) (q0n CE hr (q0z (pv 0) q0e)) (q0o _))))) (@q0p _ _ _ (x3c x0l (by rfl) (by rfl) Z.mP Z.xP (x3w q2k q0e))) q0u)
  (@q0p _ _ _ (q0q (q0f q0i (q0f q0i (pv 0) (q0c) q0w) (q0x q2q (q0x q2q (pv 1) (pv 2)) (q0c)) z9s)))),?_⟩
 have at0:atI [V.int b,V.int l,V.ref c] 0=some (.int b):=q0a (j:=0) rfl
 have at1:atI [V.int b,V.int l,V.ref c] 1=some (.int l):=q0a (j:=1) rfl
 have at2:atI [V.int b,V.int l,V.ref c] 2=some (.ref c):=q0a (j:=2) rfl
 have hlen:=hen.length
 refine⟨_,rfl,rb,_,_,.int b,rfl,rfl,hb,at0,?_⟩
 refine⟨_,rfl,_,rfl,_,_,rfl,rfl,_,rfl,q4r (fun h=>q2z ⟨by decide,qe (.inl (of_decide_eq_true h))⟩) (fun h=>?_)⟩
 have g1:b < p:=by have:=z0c h; omega
 refine⟨_,rfl,_,rfl,_,b,l,ts,rfl,⟨es,hX⟩,_,_,rfl,rfl,_,rfl,q4r (fun h2=>⟨by decide,qe (.inr (of_decide_eq_true h2))⟩) (fun h2=>?_)⟩
 have g2:p≤q4e b ts:=by have:=z0c h2; omega
 have hle':=g2
 unfold q4e at hle'
 obtain⟨j,ej⟩:=Int.eq_ofNat_of_zero_le (show 0≤p - b - 1 by omega)
 have hj:j < es.length:=by omega
 refine⟨_,rfl,rb,_,_,.ref c,rfl,rfl,hb,at2,_,rfl,_,rfl,_,_,rfl,rfl,_,_,rfl,rfl,c,es,_,es[j],rfl,rfl,hc,?_,q g1 g2 es[j] ?_⟩
 ·show atI es (p - b - 1)=_
  rw [ej]; exact q0a (by simp [hj])
 ·rw [ej]; simp [hj]
theorem j1h:FnScope ["row", "place", "base"] ["row", "place"] (q0h q4p):=fSc
theorem x5w {f:Addr} {fd:FuncData} {cP:Addr} (F:Fun K "term_at" "term_at" q4p f fd) (CA:CalE P w K mg base "entry_at" 2 ["row", "place"] (z1t K cP)):FnOk P w K mg base (CXe P w) 3 f fd ["row", "place"] (x6u K cP):=by
 refine F.okE j1h (by rintro _ _ _ _⟨_,_,_,_,_,rfl,_⟩; rfl) (fun _ A _ s H vs Q E hr h=>?_)
 obtain⟨v,b,l,ts,p,rfl,⟨es,hX⟩,q,qe⟩:=h
 have hX':=hX
 obtain⟨⟨rb,c,rfl,hb,hc⟩,hen,hfew⟩:=hX'
 replace hb:=SqT.of (K:=K) hb
 replace hc:=SqT.of (K:=K) hc
 refine⟨_,@q0j _ _ _ _ _ (q0r (i:=2) j1h.nd (by rfl) (by exact Or.inl rfl) (q0f q0i (pv 0) (q0c) q0w))
  (@q0j _ _ _ _ _ (q1g (q0m q2u (pv 1) (pv 2) (q0o _)) (@q0p _ _ _ (q0q (q0f q0i (pv 0) (q0c) q0w))) q0u)
  (@q0p _ _ _ (q0q (q0f q0i (x6n CA hr z9d (q0z (pv 0) (q0z (pv 1) q0e))) (q0c) q0w)))),?_⟩
 have at0:atI [V.int b,V.int l,V.ref c] 0=some (.int b):=q0a (j:=0) rfl
 have at1:atI [V.int b,V.int l,V.ref c] 1=some (.int l):=q0a (j:=1) rfl
 have at2:atI [V.int b,V.int l,V.ref c] 2=some (.ref c):=q0a (j:=2) rfl
 unfold q2y at q
 refine⟨_,rfl,rb,_,_,.int b,rfl,rfl,hb,at0,?_⟩
 refine⟨_,rfl,_,rfl,rfl,_,rfl,q4r (fun h=>?_) (fun h=>?_)⟩
 ·have e:p=b:=by have:=of_decide_eq_true h; simpa using this
  rw [if_pos e] at q
  exact⟨_,rfl,rb,_,_,.int l,rfl,rfl,hb,at1,q (by omega) (by unfold q4e; omega)⟩
 ·have e:¬ p=b:=fun e=>h (by rw [e]; exact decide_eq_true rfl)
  rw [if_neg e] at q
  refine⟨_,rfl,_,rfl,_,b,l,es,ts,p,rfl,hX,fun g1 g2 e he=>?_,fun h2=>qe (by omega)⟩
  have hle':=g2
  unfold q4e at hle'
  have hj:(p - b - 1).toNat < ts.length:=by omega
  obtain⟨pe,x,hg,hpe,_⟩:=hen.get hj
  rw [hg] at he
  cases he
  refine⟨pe,_,_,.int (ts[(p - b - 1).toNat]),rfl,rfl,SqT.of hpe,q0a (j:=0) rfl,?_⟩
  have eg:ts.getD (p - b - 1).toNat 0=ts[(p - b - 1).toNat]:=x6t hj
  rw [← eg]; exact q (by omega) g2
noncomputable def z2b (K:Frag) (cP:Addr):Sp:=fun vs H Q E=>∃ (v:V) (b l:Int) (es:List V) (ts:List Int) (p m:Int),vs=[v,.int p,.int m]∧RowX K H v b l es ts∧0≤m∧(b≤p→p≤q4e b ts→∀ (r:Addr) (H':Hp),H' r=some (.tup ((es.drop (p - b).toNat).take m.toNat))→q1l H H'→Q (.ref r) H')∧((p < b∨q4e b ts < p)→E (.ref cP) none H)
theorem j5t:FnScope ["row", "place", "many", "base", "start"] ["row", "place", "many"] (q0h q5q):=fSc
theorem z0m {f:Addr} {fd:FuncData} {cP:Addr} (Z:ExP K mg cP) (F:Fun K "behind" "behind" q5q f fd) (T:Txt mg) (CE:Cal P w K mg base "end_of" 1 ["row"] (q5v K)):FnOk P w K mg base (CXe P w) 2 f fd ["row", "place", "many"] (z2b K cP):=by
 refine F.okE j5t (by rintro _ _ _ _⟨_,_,_,_,_,_,_,rfl,_⟩; rfl) (fun _ A _ s H vs Q E hr h=>?_)
 obtain⟨v,b,l,es,ts,p,m,rfl,hX,hm,q,qe⟩:=h
 have hX':=hX
 obtain⟨⟨rb,c,rfl,hb0,hc0⟩,hen,hfew⟩:=hX'
 have hb:=SqT.of (K:=K) hb0
 refine⟨_,@q0j _ _ _ _ _ (q0r (i:=3) j5t.nd (by rfl) (by exact Or.inl rfl) (q0f q0i (pv 0) (q0c) q0w))
  (@q0j _ _ _ _ _ (q1g (PW.pt (q4d (q0m x3g (pv 1) (pv 3) (q0o _)) (q2s (q0m q4g (pv 1) (q0n CE hr (q0z (pv 0) q0e)) (q0o _))))) (@q0p _ _ _ (x3c x0l (by rfl) (by rfl) Z.mP Z.xP (x3w q2k q0e))) q0u)
  (@q0j _ _ _ _ _ (q0r (i:=4) j5t.nd (by rfl) (by exact Or.inl rfl) (q0x q2q (pv 1) (pv 3)))
  (@q0p _ _ _ (q0q (q1y q5z (q0f q0i (pv 0) (q0c) q0w) (q2b (pv 4)) (q2b (q0l (q2c (by rfl)) (by rfl) T.max q2m (q0z (pv 4) (q9d (q0x q1o (pv 4) (pv 2)) q0e))))))))),?_⟩
 have at0:atI [V.int b,V.int l,V.ref c] 0=some (.int b):=q0a (j:=0) rfl
 have at1:atI [V.int b,V.int l,V.ref c] 1=some (.int l):=q0a (j:=1) rfl
 have at2:atI [V.int b,V.int l,V.ref c] 2=some (.ref c):=q0a (j:=2) rfl
 refine⟨_,rfl,rb,_,_,.int b,rfl,rfl,hb,at0,?_⟩
 refine⟨_,rfl,_,rfl,_,_,rfl,rfl,_,rfl,q4r (fun h=>q2z ⟨by decide,qe (.inl (of_decide_eq_true h))⟩) (fun h=>?_)⟩
 have g1:b≤p:=by have:=z0c h; omega
 refine⟨_,rfl,_,rfl,_,b,l,ts,rfl,⟨es,hX⟩,_,_,rfl,rfl,_,rfl,q4r (fun h2=>⟨by decide,qe (.inr (of_decide_eq_true h2))⟩) (fun h2=>?_)⟩
 have g2:p≤q4e b ts:=by have:=z0c h2; omega
 refine⟨_,rfl,_,rfl,_,_,rfl,rfl,?_⟩
 refine⟨_,rfl,rb,_,_,.ref c,rfl,rfl,hb,at2,_,rfl,_,rfl,_,rfl,_,rfl,_,rfl,_,_,rfl,rfl,_,_,rfl,_,rfl,c,es,rfl,hc0,fun r H1 hr1 s1=>q g1 g2 r H1 ?_ s1⟩
 rw [hr1]
 obtain⟨j,ej⟩:=Int.eq_ofNat_of_zero_le (show 0≤p - b by omega)
 obtain⟨k,ek⟩:=Int.eq_ofNat_of_zero_le hm
 have e2:(if p - b+m > p - b then p - b+m else p - b)=((j+k:Nat):Int):=by split <;> omega
 show some (HO.tup (x1x es (some (p - b)) (some (if p - b+m > p - b then p - b+m else p - b))))=_
 rw [e2,ej,ek,q8i,Int.toNat_natCast,Int.toNat_natCast,Nat.add_sub_cancel_left]
noncomputable def EN:XK:=fun _ _ _=>False
theorem j4p {X:Cx}:q6q (CXe P w) X EN:=fun _ _ _ _ _ _ _ h=>by
 obtain⟨_,_,_,_,_,_,_,_,_,_,_,_,_,_,_,_,q⟩:=h
 exact q.elim
noncomputable def x8l (K:Frag) (cP:Addr):Sp:=fun vs H Q E=>∃ (v:V) (b l:Int) (es:List V) (ts:List Int) (p:Int),vs=[v,.int p]∧RowX K H v b l es ts∧(b≤p→p≤q4e b ts→∀ (u:V) (H':Hp),RowX K H' u p (q2y b l ts p) (es.drop (p - b).toNat) (ts.drop (p - b).toNat)→q1l H H'→Q u H')∧((p < b∨q4e b ts < p)→E (.ref cP) none H)
theorem j8n:FnScope ["row", "place"] ["row", "place"] (q0h x0k):=fSc
theorem x1q {f:Addr} {fd:FuncData} {cP:Addr} (F:Fun K "cut_off" "cut_off" x0k f fd) (T:Txt mg) (CT:CalE P w K mg base "term_at" 3 ["row", "place"] (x6u K cP)) (CB:CalE P w K mg base "behind" 2 ["row", "place", "many"] (z2b K cP)):FnOk P w K mg base (CXe P w) 4 f fd ["row", "place"] (x8l K cP):=by
 refine F.okE j8n (by rintro _ _ _ _⟨_,_,_,_,_,_,rfl,_⟩; rfl) (fun _ A _ s H vs Q E hr h=>?_)
 obtain⟨v,b,l,es,ts,p,rfl,hX,q,qe⟩:=h
 have hX':=hX
 obtain⟨⟨rb,c,rfl,hb0,hc0⟩,hen,hfew⟩:=hX'
 have hb:=SqT.of (K:=K) hb0
 have hc:=SqT.of (K:=K) hc0
 have r2:=hr.mono (show 2≤3 by omega)
 refine⟨_,@q0p _ _ _ (q0q (QE.h (q1d (q4c (pv 1) (q7c (x6n CT hr z9d (q0z (pv 0) (q0z (pv 1) q0e))) (q7c (x6n CB r2 z9d (q0z (pv 0) (q0z (pv 1) (q8r (q0l q0t (by rfl) T.len PySem.boot_len (q2r (q0f q0i (pv 0) (q0c) q0w) q0e)) q0e)))) q0v)))))),?_⟩
 have at0:atI [V.int b,V.int l,V.ref c] 0=some (.int b):=q0a (j:=0) rfl
 have at1:atI [V.int b,V.int l,V.ref c] 1=some (.int l):=q0a (j:=1) rfl
 have at2:atI [V.int b,V.int l,V.ref c] 2=some (.ref c):=q0a (j:=2) rfl
 refine⟨_,rfl,_,rfl,_,rfl,_,b,l,ts,p,rfl,⟨es,hX⟩,fun g1 g2=>?_,qe⟩
 refine⟨_,rfl,_,rfl,_,rfl,rb,_,_,.ref c,rfl,rfl,hb,at2,c,es,rfl,.inr hc,_,b,l,es,ts,p,_,rfl,hX,by omega,fun _ _ r H1 hr1 s1=>⟨q1n (by show 3≤1000; decide),fun p2 hp2=>?_⟩,fun h=>absurd h (by omega)⟩
 have s2:=q0d (o:=HO.tup [V.int p,V.int (q2y b l ts p),V.ref r]) hp2
 have hr2:H1 r=some (.tup (es.drop (p - b).toNat)):=by
  rw [hr1,Int.toNat_natCast,List.take_of_length_le (by rw [List.length_drop]; omega)]
 refine q g1 g2 (.ref p2) _ ⟨⟨p2,r,rfl,q0b,s2 _ _ hr2⟩,(hen.same (s1.trans s2)).drop _,?_⟩ (s1.trans s2)
 rw [List.length_drop]; omega
noncomputable def z6s (K:Frag):Sp:=fun vs H Q _=>∃ (v:V) (b l:Int) (es:List V) (ts:List Int) (p t:Int),vs=[v,.int p,.int t]∧RowX K H v b l es ts∧(p≤b→Q v H)∧(b < p→p≤q4e b ts→q2y b l ts p=t→∀ (u:V) (H':Hp),RowX K H' u p t (es.drop (p - b).toNat) (ts.drop (p - b).toNat)→q1l H H'→Q u H') ∧
 (b < p→¬ (p≤q4e b ts∧q2y b l ts p=t)→∀ (u:V) (H':Hp),RowX K H' u p t [] []→q1l H H'→Q u H')
theorem j4y:FnScope ["row", "place", "last"] ["row", "place", "last"] (q0h q6h):=fSc
theorem x3b {f:Addr} {fd:FuncData} {cP:Addr} (F:Fun K "taken_over" "taken_over" q6h f fd) (CA:Cal P w K mg base "agrees" 4 ["row", "place", "last"] (q9v K)) (CC:CalE P w K mg base "cut_off" 4 ["row", "place"] (x8l K cP)):FnOk P w K mg base CX0 5 f fd ["row", "place", "last"] (z6s K):=by
 refine F.ok j4y (by rintro _ _ _ _⟨_,_,_,_,_,_,_,rfl,_⟩; rfl) (fun _ A _ s H vs Q E hr h=>?_)
 obtain⟨v,b,l,es,ts,p,t,rfl,hX,q1,q2,q3⟩:=h
 have hX':=hX
 obtain⟨⟨rb,c,rfl,hb0,hc0⟩,hen,hfew⟩:=hX'
 have hb:=SqT.of (K:=K) hb0
 have hc:=SqT.of (K:=K) hc0
 obtain⟨gC,dC,GC,mC,kC,bC⟩:=CC.ex
 refine⟨_,@q0j _ _ _ _ _ (q1g (q0m x3s (pv 1) (q0f q0i (pv 0) (q0c) q0w) (q0o _)) (@q0p _ _ _ (q0q (pv 0))) q0u)
  (@q0j _ _ _ _ _ (q1g (q3c (q0n CA hr (q0z (pv 0) (q0z (pv 1) (q0z (pv 2) q0e))))) (@q0p _ _ _ (q0q (x1i GC hr (by rfl) mC kC bC .nil j4p (q0z (pv 0) (q0z (pv 1) q0e))))) q0u)
  (@q0p _ _ _ (q0q (QE.h (q1d (q4c (pv 1) (q4c (pv 2) (q4l q0v q0v)))))))),?_⟩
 have at0:atI [V.int b,V.int l,V.ref c] 0=some (.int b):=q0a (j:=0) rfl
 have at1:atI [V.int b,V.int l,V.ref c] 1=some (.int l):=q0a (j:=1) rfl
 have at2:atI [V.int b,V.int l,V.ref c] 2=some (.ref c):=q0a (j:=2) rfl
 refine⟨_,rfl,_,rfl,rb,_,_,.int b,rfl,rfl,hb,at0,_,_,rfl,rfl,_,rfl,q4r (fun h=>⟨_,rfl,q1 (of_decide_eq_true h)⟩) (fun h=>?_)⟩
 have g1:b < p:=by have:=z0c h; omega
 refine⟨_,rfl,_,rfl,_,rfl,_,t,p,b,l,ts,rfl,⟨es,hX⟩,_,rfl,q4r (fun h2=>?_) (fun h2=>?_)⟩
 ·unfold q4z at h2
  simp only [Bool.or_eq_true,Bool.and_eq_true,decide_eq_true_eq] at h2
  have h3:p≤q4e b ts∧q2y b l ts p=t:=by
   rcases h2 with h2 | h2
   ·omega
   ·exact h2
  refine⟨_,rfl,_,rfl,_,b,l,es,ts,p,rfl,hX,fun _ _ u H' hu s'=>q2 g1 h3.1 h3.2 u H' (by rw [← h3.2]; exact hu) s',fun h=>absurd h (by omega)⟩
 ·have h3:¬ (p≤q4e b ts∧q2y b l ts p=t):=fun g=>h2 (by unfold q4z; simp [g.1,g.2])
  refine⟨_,rfl,_,rfl,q1n (by show 0≤1000; decide),fun p1 hp1=>⟨q1n (by show 3≤1000; decide),fun p2 hp2=>?_⟩⟩
  have s2:=q0d (o:=HO.tup [V.int p,V.int t,V.ref p1]) hp2
  exact q3 g1 h3 (.ref p2) _ ⟨⟨p2,p1,rfl,q0b,s2 _ _ q0b⟩,.nil,by simp⟩ ((q0d hp1).trans s2)
end
end K1
namespace L2
open PySem PySem.Spec PyProof.Rows
theorem z5w {K:Frag} {a b:Addr} {xs ys:List V} {g:TG} {tb:TS} {D:Ends} {σ:St} {H:Hp} (Pv:Nat→St→Hp→Prop) (h0:Pv 0 σ H) (hl:∀ i σ H,Pv i σ H→SqT K H a xs∧SqT K H b ys)
  (hs:∀ i x y p σ H,xs[i]? = some x→ys[i]? = some y→H p=none→Pv i σ H→g (.ref p) σ (upd H p (.tup [x,y])) fun σ2 H2=>tb { D with nx:=Pv (i+1),ct:=Pv (i+1),bk:=D.nx } σ2 H2)
  (hd:∀ i σ H,i≤xs.length→i≤ys.length→(xs.length≤i∨ys.length≤i)→Pv i σ H→D.nx σ H) :
  ∃ W:Nat→Nat→St→Hp→Prop,(∃ m,W 0 m σ H)∧∀ i m σ H,W i m σ H →
   ((Itz K true true a b).stop i H∧D.nx σ H)∨((Itz K true true a b).go i H∧∃ N:St→Hp→Prop,(∀ σ' H',N σ' H'→∃ m',m' < m∧W (i+1) m' σ' H')∧∀ x H',(Itz K true true a b).yld i H x H'→g x σ H' fun σ2 H2=>tb { D with nx:=N,ct:=N,bk:=D.nx } σ2 H2):=by
 refine⟨fun i m σ H=>m=xs.length - i∧i≤xs.length∧i≤ys.length∧Pv i σ H,⟨xs.length,by simp,Nat.zero_le _,Nat.zero_le _,h0⟩,?_⟩
 rintro i m σ H ⟨rfl,hi,hj,p⟩
 obtain⟨q1,q2⟩:=hl i σ H p
 by_cases hlt:i < xs.length∧i < ys.length
 ·refine .inr ⟨⟨xs,ys,xs[i],ys[i],q1,q2,by simp [hlt.1],by simp [hlt.2]⟩,Pv (i+1),fun σ' H' p'=>⟨xs.length - (i+1),by omega,rfl,hlt.1,hlt.2,p'⟩,fun x H' y=>?_⟩
  obtain⟨r,u,w,e,hr,e2,y1,y2⟩:=y
  subst e e2
  exact hs i u w r σ _ (y1 xs q1) (y2 ys q2) hr p
 ·exact .inl ⟨⟨xs,ys,q1,q2,by omega⟩,hd i σ H hi hj (by omega) p⟩
end L2
namespace K1
open PySem L2 Kp
noncomputable def q2w:List Int→List Int→Nat
 | x::xs,y::ys=>if x=y then q2w xs ys+1 else 0
 | _,_=>0
theorem x8m:∀ xs ys:List Int,q2w xs ys≤xs.length∧q2w xs ys≤ys.length
 | [],_=>by unfold q2w; simp
 | _::_,[]=>by unfold q2w; simp
 | x::xs,y::ys=>by
  have ih:=x8m xs ys
  unfold q2w
  simp only [List.length_cons]
  split <;> omega
theorem x8f:∀ {xs ys:List Int} {i:Nat},i < q2w xs ys→xs[i]? = ys[i]?
 | [],_,i,h=>by unfold q2w at h; omega
 | _::_,[],i,h=>by unfold q2w at h; omega
 | x::xs,y::ys,i,h=>by
  unfold q2w at h
  split at h
  ·rename_i e
   cases i with
   | zero=>simp [e]
   | succ i =>
    have:=x8f (xs:=xs) (ys:=ys) (i:=i) (by omega)
    simpa using this
  ·omega
theorem x7v:∀ {xs ys:List Int},q2w xs ys < xs.length→q2w xs ys < ys.length→xs[q2w xs ys]? ≠ ys[q2w xs ys]?
 | [],_,h,_=>by simp at h
 | _::_,[],_,h=>by simp at h
 | x::xs,y::ys,h1,h2=>by
  unfold q2w at h1 h2 ⊢
  split at h1
  ·rename_i e
   rw [if_pos e] at h2 ⊢
   simp only [List.length_cons] at h1 h2
   have:=x7v (xs:=xs) (ys:=ys) (by omega) (by omega)
   simpa using this
  ·rename_i e
   rw [if_neg e]
   simpa using e
noncomputable def z4b (b p:Int):Int:=if b > p then b else p
noncomputable def q6k (b p:Int):Nat:=(z4b b p - p).toNat
noncomputable def z3u (b p:Int):Nat:=(z4b b p - b).toNat
noncomputable def q6c (b p:Int) (ts us:List Int):Nat:=q2w (ts.drop (z3u b p)) (us.drop (q6k b p))
section
variable {P:Program} {w:World} {K:Frag} {mg:Str→Option Value} {base:Heap}
noncomputable def x5s:Sp:=fun vs H Q _=>∃ (a c:Addr) (es fs:List V) (ts us:List Int),vs=[.ref a,.ref c]∧H a=some (.tup es)∧H c=some (.tup fs)∧Ents H es ts∧Ents H fs us∧∀ H',q1l H H'→Q (.int (q2w ts us:Nat)) H'
theorem j1p:FnScope ["own", "others", "many", "entry", "other"] ["own", "others"] (q0h q6p):=fSc
theorem x2m {f:Addr} {fd:FuncData} (F:Fun K "same_ahead" "same_ahead" q6p f fd) (T:Txt mg):FnOk P w K mg base CX0 1 f fd ["own", "others"] x5s:=by
 refine F.ok j1p (by rintro _ _ _ _⟨_,_,_,_,_,_,rfl,_⟩; rfl) (fun _ A _ s H vs Q E hr h=>?_)
 obtain⟨a,c,es,fs,ts,us,rfl,ha,hc,hen,hfn,q⟩:=h
 refine⟨_,@q0j _ _ _ _ _ (q0r (i:=2) j1p.nd (by rfl) (by exact Or.inl rfl) (q0c))
  (@q0j _ _ _ _ _ (q7d PassesOwn.never (by rfl) (z0q (t1:=true) (t2:=true) (by rfl) T.zip (q0z (pv 0) (q0z (pv 1) q0e))) (z6t (n:=2) (by rfl) (q7a (q1u (i:=3) j1p.nd (by rfl) (by exact Or.inl rfl)) (q7a (q1u (i:=4) j1p.nd (by rfl) (by exact Or.inl rfl)) x6o))) (@q0j _ _ _ _ _ (q1g (q0m q4y (q0f q0i (pv 3) (q0c) q0w) (q0f q0i (pv 4) (q0c) q0w) (q0o _)) (@q0p _ _ _ (q0q (pv 2))) q0u)
  (@q0p _ _ _ (q0r (i:=2) j1p.nd (by rfl) (by exact Or.inl rfl) (q0x q1o (pv 2) (q0c))))))
  (@q0p _ _ _ (q0q (pv 2)))),?_⟩
 have l1:=hen.length
 have l2:=hfn.length
 obtain⟨le1,le2⟩:=x8m ts us
 refine⟨_,rfl,_,rfl,a,c,es,fs,rfl,SqT.of ha,SqT.of hc,z5w (K:=K) (a:=a) (b:=c) (xs:=es) (ys:=fs) (fun i σ H'=>∃ x3 x4:Option V,σ=[some (.ref a),some (.ref c),some (.int (i:Nat)),x3,x4]∧i≤q2w ts us∧q1l H H')
  ⟨none,none,rfl,Nat.zero_le _,q1l.refl _⟩ (fun i σ H' ⟨_,_,_,_,s1⟩=>⟨SqT.of (s1 _ _ ha),SqT.of (s1 _ _ hc)⟩) ?_ ?_⟩
 ·rintro i x y p σ H' hx hy hp ⟨x3,x4,rfl,hi,s1⟩
  have i1:i < ts.length:=by rw [← l1]; exact (List.getElem?_eq_some_iff.mp hx).1
  have i2:i < us.length:=by rw [← l2]; exact (List.getElem?_eq_some_iff.mp hy).1
  have s2:=q0d (o:=HO.tup [x,y]) hp
  obtain⟨pe,xe,ge,he,_⟩:=(hen.same (s1.trans s2)).get i1
  obtain⟨pf,xf,gf,hf,_⟩:=(hfn.same (s1.trans s2)).get i2
  rw [ge] at hx
  cases hx
  rw [gf] at hy
  cases hy
  refine⟨p,_,rfl,SqT.of q0b,rfl,_,_,rfl,_,_,rfl,rfl,?_⟩
  refine⟨_,rfl,pe,_,_,.int ts[i],rfl,rfl,SqT.of he,q0a (j:=0) rfl,_,rfl,pf,_,_,.int us[i],rfl,rfl,SqT.of hf,q0a (j:=0) rfl,rfl,_,rfl,q4r (fun h=>?_) (fun h=>?_)⟩
  ·have hne:ts[i]≠us[i]:=fun e=>by rw [e] at h; simp at h
   have hi2:i=q2w ts us:=by
    by_cases hlt:i < q2w ts us
    ·have:=x8f hlt
     rw [List.getElem?_eq_getElem i1,List.getElem?_eq_getElem i2] at this
     exact absurd (Option.some.inj this) hne
    ·omega
   refine⟨_,rfl,?_⟩
   rw [hi2]
   exact q _ (s1.trans s2)
  ·have heq:ts[i]=us[i]:=by
    by_cases e:ts[i]=us[i]
    ·exact e
    ·exact absurd (by simpa using e) h
   refine⟨_,rfl,_,_,rfl,rfl,_,_,rfl,?_,s1.trans s2⟩
   by_cases hlt:i < q2w ts us
   ·exact hlt
   ·have hi2:q2w ts us=i:=by omega
    have:=x7v (xs:=ts) (ys:=us) (by omega) (by omega)
    rw [hi2,List.getElem?_eq_getElem i1,List.getElem?_eq_getElem i2,heq] at this
    exact absurd rfl this
 ·rintro i σ H' g1 g2 hend ⟨x3,x4,rfl,hi,s1⟩
  have hi2:i=q2w ts us:=by omega
  refine⟨_,rfl,?_⟩
  rw [hi2]
  exact q _ s1
noncomputable def z7c (K:Frag) (cP:Addr):Sp:=fun vs H Q E=>∃ (v:V) (b l:Int) (es:List V) (ts:List Int) (p:Int) (fa:Addr) (fs:List V) (us:List Int),vs=[v,.int p,.ref fa]∧RowX K H v b l es ts∧ts.length≤250∧H fa=some (.tup fs)∧Ents H fs us∧us.length≤200 ∧
 (p≤q4e b ts→q6c b p ts us=(us.drop (q6k b p)).length→∀ H',q1l H H'→Q v H') ∧
 (p≤q4e b ts→q6c b p ts us≠(us.drop (q6k b p)).length→∀ (u:V) (H':Hp),RowX K H' u b l (es.take (z3u b p+q6c b p ts us)++fs.drop (q6k b p+q6c b p ts us)) (ts.take (z3u b p+q6c b p ts us)++us.drop (q6k b p+q6c b p ts us))→q1l H H'→Q u H') ∧
 (q4e b ts < p→E (.ref cP) none H)
theorem j0m:FnScope ["row", "place", "entries", "base", "start", "come", "own", "same"] ["row", "place", "entries"] (q0h x3o):=fSc
theorem z3c {f:Addr} {fd:FuncData} {cP:Addr} (Z:ExP K mg cP) (F:Fun K "filled" "filled" x3o f fd) (T:Txt mg) (CE:Cal P w K mg base "end_of" 1 ["row"] (q5v K)) (CS:Cal P w K mg base "same_ahead" 1 ["own", "others"] x5s):FnOk P w K mg base (CXe P w) 2 f fd ["row", "place", "entries"] (z7c K cP):=by
 refine F.okE j0m (by rintro _ _ _ _⟨_,_,_,_,_,_,_,_,_,rfl,_⟩; rfl) (fun _ A _ s H vs Q E hr h=>?_)
 obtain⟨v,b,l,es,ts,p,fa,fs,us,rfl,hX,hfw,hfa,hfn,hlu,q1,q2,qe⟩:=h
 have hX':=hX
 obtain⟨⟨rb,c,rfl,hb0,hc0⟩,hen,hfew⟩:=hX'
 have hb:=SqT.of (K:=K) hb0
 have hc:=SqT.of (K:=K) hc0
 refine⟨_,@q0j _ _ _ _ _ (q1g (q0m q4g (pv 1) (q0n CE hr (q0z (pv 0) q0e)) (q0o _)) (@q0p _ _ _ (x3c x0l (by rfl) (by rfl) Z.mP Z.xP (x3w q2k q0e))) q0u)
  (@q0j _ _ _ _ _ (q0r (i:=3) j0m.nd (by rfl) (by exact Or.inl rfl) (q0f q0i (pv 0) (q0c) q0w))
  (@q0j _ _ _ _ _ (q0r (i:=4) j0m.nd (by rfl) (by exact Or.inl rfl) (q0l (q2c (by rfl)) (by rfl) T.max q2m (q0z (pv 1) (q0z (pv 3) q0e))))
  (@q0j _ _ _ _ _ (q0r (i:=5) j0m.nd (by rfl) (by exact Or.inl rfl) (q1y q5z (pv 2) (q2b (q0x q2q (pv 4) (pv 1))) q3f))
  (@q0j _ _ _ _ _ (q0r (i:=6) j0m.nd (by rfl) (by exact Or.inl rfl) (q1y q5z (q0f q0i (pv 0) (q0c) q0w) (q2b (q0x q2q (pv 4) (pv 3))) q3f))
  (@q0j _ _ _ _ _ (q0r (i:=7) j0m.nd (by rfl) (by exact Or.inl rfl) (q0n CS hr (q0z (pv 6) (q0z (pv 5) q0e))))
  (@q0j _ _ _ _ _ (q1g (q0m q2u (pv 7) (q0l q0t (by rfl) T.len PySem.boot_len (q0z (pv 5) q0e)) (q0o _)) (@q0p _ _ _ (q0q (pv 0))) q0u)
  (@q0p _ _ _ (q0q (QE.h (q1d (q4c (pv 3) (q5a (q0f q0i (pv 0) (q0c) q0w) (z6p (q0x j0d (q1y q5z (q0f q0i (pv 0) (q0c) q0w) q3f (q2b (q0x q1o (q0x q2q (pv 4) (pv 3)) (pv 7)))) (q1y q5z (pv 5) (q2b (pv 7)) q3f)) q0v))))))))))))),?_⟩
 have at0:atI [V.int b,V.int l,V.ref c] 0=some (.int b):=q0a (j:=0) rfl
 have at1:atI [V.int b,V.int l,V.ref c] 1=some (.int l):=q0a (j:=1) rfl
 have at2:atI [V.int b,V.int l,V.ref c] 2=some (.ref c):=q0a (j:=2) rfl
 have l1:=hen.length
 have l2:=hfn.length
 refine⟨_,rfl,_,rfl,_,b,l,ts,rfl,⟨es,hX⟩,_,_,rfl,rfl,_,rfl,q4r (fun h=>⟨by decide,qe (of_decide_eq_true h)⟩) (fun h=>?_)⟩
 have g:p≤q4e b ts:=by have:=z0c h; omega
 have ge:p≤b+(ts.length:Int):=g
 replace q1:=q1 g
 replace q2:=q2 g
 refine⟨_,rfl,rb,_,_,.int b,rfl,rfl,hb,at0,?_⟩
 refine⟨_,rfl,_,rfl,_,_,rfl,?_⟩
 show q9s 4 (V.int (z4b b p)) _ _ _
 have hx:((q6k b p:Nat):Int)=z4b b p - p:=by unfold q6k z4b; split <;> omega
 have hy:((z3u b p:Nat):Int)=z4b b p - b:=by unfold z3u z4b; split <;> omega
 refine⟨_,rfl,_,rfl,_,rfl,_,_,rfl,rfl,_,rfl,fa,fs,rfl,hfa,fun ca H1 hca s1=>?_⟩
 rw [← hx,q8f] at hca
 refine⟨_,rfl,rb,_,_,.ref c,rfl,rfl,SqT.same hb s1,at2,_,rfl,_,rfl,_,_,rfl,rfl,_,rfl,c,es,rfl,s1 _ _ hc0,fun oa H2 hoa s2=>?_⟩
 rw [← hy,q8f] at hoa
 have s12:=s1.trans s2
 refine⟨_,rfl,_,rfl,oa,ca,_,_,ts.drop (z3u b p),us.drop (q6k b p),rfl,hoa,s2 _ _ hca,(hen.same s12).drop _,(hfn.same s12).drop _,fun H3 s3=>?_⟩
 have s13:=s12.trans s3
 show q9s 7 (V.int ((q6c b p ts us:Nat):Int)) _ _ _
 have hca3:H3 ca=some (.tup (fs.drop (q6k b p))):=s3 _ _ (s2 _ _ hca)
 refine⟨_,rfl,_,rfl,ca,_,rfl,.inr (SqT.of hca3),rfl,_,rfl,q4r (fun h2=>?_) (fun h2=>?_)⟩
 ·have e:q6c b p ts us=(us.drop (q6k b p)).length:=by
   have:=of_decide_eq_true h2
   simp only [V.int.injEq] at this
   rw [List.length_drop] at this ⊢
   omega
  exact⟨_,rfl,q1 e H3 s13⟩
 ·have e:q6c b p ts us≠(us.drop (q6k b p)).length:=fun e=>h2 (decide_eq_true (by rw [e,List.length_drop,List.length_drop,l2]))
  have hap:z4b b p - b+((q6c b p ts us:Nat):Int)=((z3u b p+q6c b p ts us:Nat):Int):=by omega
  refine⟨_,rfl,_,rfl,rb,_,_,.int l,rfl,rfl,SqT.same hb s13,at1,_,rfl,rb,_,_,.ref c,rfl,rfl,SqT.same hb s13,at2,_,rfl,_,rfl,_,_,rfl,rfl,_,rfl,_,_,rfl,rfl,_,rfl,c,es,rfl,s13 _ _ hc0,fun p4 H4 h4 s4=>?_⟩
  rw [hap,z2p] at h4
  refine⟨_,rfl,_,rfl,_,rfl,ca,_,rfl,s4 _ _ hca3,fun p5 H5 h5 s5=>?_⟩
  rw [q8f,List.drop_drop] at h5
  refine⟨p4,p5,_,_,rfl,rfl,s5 _ _ h4,h5,q1n ?_,fun p6 H6 h6 s6=>⟨q1n (by show 3≤1000; decide),fun p7 hp7=>?_⟩⟩
  ·show (es.take _).length+(fs.drop _).length≤1000
   rw [List.length_take,List.length_drop]; omega
  have s7:=q0d (o:=HO.tup [V.int b,V.int l,V.ref p6]) hp7
  have s47:=s4.trans (s5.trans (s6.trans s7))
  refine q2 e (.ref p7) _ ⟨⟨p7,p6,rfl,q0b,s7 _ _ h6⟩,(((hen.same s13).same s47).take _).append (((hfn.same s13).same s47).drop _),?_⟩ (s13.trans s47)
  rw [List.length_append,List.length_take,List.length_drop]; omega
noncomputable def z1r (K:Frag):Sp:=fun vs H Q _=>∃ (v:V) (b l:Int) (es:List V) (ts:List Int) (p m:Int),vs=[v,.int p,.int m]∧RowX K H v b l es ts∧0≤m∧b≤p∧p≤q4e b ts∧∀ (r:Addr) (H':Hp),H' r=some (.tup ((es.drop (p - b).toNat).take m.toNat))→q1l H H'→Q (.ref r) H'
theorem z8u:FnScope ["row", "place", "many", "base", "start"] ["row", "place", "many"] (q0h q5q):=fSc
theorem x9p {f:Addr} {fd:FuncData} (F:Fun K "behind" "behind" q5q f fd) (T:Txt mg) (CE:Cal P w K mg base "end_of" 1 ["row"] (q5v K)):FnOk P w K mg base CX0 2 f fd ["row", "place", "many"] (z1r K):=by
 refine F.ok z8u (by rintro _ _ _ _⟨_,_,_,_,_,_,_,rfl,_⟩; rfl) (fun _ A _ s H vs Q E hr h=>?_)
 obtain⟨v,b,l,es,ts,p,m,rfl,hX,hm,g1,g2,q⟩:=h
 have hX':=hX
 obtain⟨⟨rb,c,rfl,hb0,hc0⟩,hen,hfew⟩:=hX'
 have hb:=SqT.of (K:=K) hb0
 refine⟨_,@q0j _ _ _ _ _ (q0r (i:=3) z8u.nd (by rfl) (by exact Or.inl rfl) (q0f q0i (pv 0) (q0c) q0w))
  (@q0j _ _ _ _ _ (q1g (PW.pt (q4d (q0m x3g (pv 1) (pv 3) (q0o _)) (q2s (q0m q4g (pv 1) (q0n CE hr (q0z (pv 0) q0e)) (q0o _))))) (@q0p _ _ _ (q9x)) q0u)
  (@q0j _ _ _ _ _ (q0r (i:=4) z8u.nd (by rfl) (by exact Or.inl rfl) (q0x q2q (pv 1) (pv 3)))
  (@q0p _ _ _ (q0q (q1y q5z (q0f q0i (pv 0) (q0c) q0w) (q2b (pv 4)) (q2b (q0l (q2c (by rfl)) (by rfl) T.max q2m (q0z (pv 4) (q9d (q0x q1o (pv 4) (pv 2)) q0e))))))))),?_⟩
 have at0:atI [V.int b,V.int l,V.ref c] 0=some (.int b):=q0a (j:=0) rfl
 have at1:atI [V.int b,V.int l,V.ref c] 1=some (.int l):=q0a (j:=1) rfl
 have at2:atI [V.int b,V.int l,V.ref c] 2=some (.ref c):=q0a (j:=2) rfl
 refine⟨_,rfl,rb,_,_,.int b,rfl,rfl,hb,at0,?_⟩
 refine⟨_,rfl,_,rfl,_,_,rfl,rfl,_,rfl,q4r (fun h=>absurd (of_decide_eq_true h) (by omega)) (fun h=>?_)⟩
 refine⟨_,rfl,_,rfl,_,b,l,ts,rfl,⟨es,hX⟩,_,_,rfl,rfl,_,rfl,q4r (fun h2=>absurd (of_decide_eq_true h2) (by omega)) (fun h2=>?_)⟩
 refine⟨_,rfl,_,rfl,_,_,rfl,rfl,?_⟩
 refine⟨_,rfl,rb,_,_,.ref c,rfl,rfl,hb,at2,_,rfl,_,rfl,_,rfl,_,rfl,_,rfl,_,_,rfl,rfl,_,_,rfl,_,rfl,c,es,rfl,hc0,fun r H1 hr1 s1=>q r H1 ?_ s1⟩
 rw [hr1]
 obtain⟨j,ej⟩:=Int.eq_ofNat_of_zero_le (show 0≤p - b by omega)
 obtain⟨k,ek⟩:=Int.eq_ofNat_of_zero_le hm
 have e2:(if p - b+m > p - b then p - b+m else p - b)=((j+k:Nat):Int):=by split <;> omega
 show some (HO.tup (x1x es (some (p - b)) (some (if p - b+m > p - b then p - b+m else p - b))))=_
 rw [e2,ej,ek,q8i,Int.toNat_natCast,Int.toNat_natCast,Nat.add_sub_cancel_left]
end
end K1
namespace Kp
open PySem L2
section
variable {X:Cx} {es:List Expr} {xs:List V} {p:Pos} {j:Nat}
end
end Kp
namespace K1
open PySem L2 Kp
section
variable {P:Program} {w:World} {K:Frag} {mg:Str→Option Value} {base:Heap}
noncomputable def x9k (ns:List Int) (k:Int):Int:=ns.getD k.toNat 0
noncomputable def x6m (K:Frag):Sp:=fun vs H Q _=>∃ (a:Addr) (ns:List Int) (k:Int),vs=[.ref a,.int k]∧SqL K H a (ns.map V.int)∧0≤k∧Q (.int (x9k ns k)) H
theorem j9w:FnScope ["_law_script", "_law_k"] ["_law_script", "_law_k"] (q0h z7q):=fSc
theorem z4t {f:Addr} {fd:FuncData} (F:Fun K "_law_cell_at" "_law_cell_at" z7q f fd) (T:Txt mg):FnOk P w K mg base CX0 1 f fd ["_law_script", "_law_k"] (x6m K):=by
 refine F.ok j9w (by rintro _ _ _ _⟨_,_,_,rfl,_⟩; rfl) (fun _ A _ s H vs Q E hr h=>?_)
 obtain⟨a,ns,k,rfl,hS,h0,q⟩:=h
 obtain⟨j,rfl⟩:=Int.eq_ofNat_of_zero_le h0
 refine⟨_,@q0j _ _ _ _ _ (q1g (q0m x3g (pv 1) (q0l q0t (by rfl) T.len PySem.boot_len (q0z (pv 0) q0e)) (q0o _)) (@q0p _ _ _ (q0q (q0f q0g (pv 0) (pv 1) j6g))) q0u)
  (@q0p _ _ _ (q0q (q0c))),?_⟩
 unfold x9k at q
 rw [Int.toNat_natCast] at q
 refine⟨_,rfl,_,rfl,a,_,rfl,.inl hS,_,_,rfl,rfl,_,rfl,q4r (fun hlt=>?_) (fun hlt=>?_)⟩
 ·have hj:j < ns.length:=by have:=of_decide_eq_true hlt; rw [List.length_map] at this; omega
  rw [x6t hj] at q
  exact⟨_,rfl,_,rfl,a,_,_,.int ns[j],rfl,rfl,hS,q0a (by simp [hj]),q⟩
 ·have hj:ns.length≤j:=by have:=z0c hlt; rw [List.length_map] at this; omega
  rw [List.getD_eq_getElem?_getD,List.getElem?_eq_none hj] at q
  exact q
noncomputable def abc:Str := "abcdefghijklmnopqrstuvwxyz"
theorem z8m:abc.cps.toList.length=26:=by decide +kernel
theorem x7t (x y:Str):(x++y).length=x.length+y.length:=by
 show (x.cps++y.cps).size=_
 rw [Array.size_append]
 rfl
theorem z3s {α β:Type} (rs:List α) (d:α) (p:α→Bool) (f:α→β):(((List.range rs.length).filter fun i=>p (rs.getD i d)).map fun i=>f (rs.getD i d))=(rs.filter p).map f:=by
 have e0:rs=(List.range rs.length).map fun i=>rs.getD i d:=by
  apply List.ext_getElem?
  intro i
  by_cases hi:i < rs.length
  ·simp [hi]
  ·rw [List.getElem?_eq_none (by omega),List.getElem?_eq_none (by simp; omega)]
 conv=>rhs; rw [e0]
 rw [List.filter_map,List.map_map]
 rfl
noncomputable def dRw:Rw:=("",[])
noncomputable def z3e (K:Frag):Sp:=fun vs H Q _=>∃ (v:V) (S:Sto) (n:Str),vs=[v,.str n]∧StV H v S∧S.1.length≤900∧(∀ r∈S.1,r.2.length=1)∧∀ H',q1l H H'→Q (.int (q9r S.1 n)) H'
theorem z2z {H:Hp}:∀ (T:List (V × Rw)),(∀ t∈T,∃ p,t.1=.ref p∧H p=some (.tup (.str t.2.1::t.2.2.map V.int)))→Rws H (T.map (·.1)) (T.map (·.2))
 | [],_=>.nil
 | t::T,h=>by
  obtain⟨p,e,hp⟩:=h t List.mem_cons_self
  obtain⟨t1,n,is⟩:=t
  simp only at e hp
  subst e
  exact .cons hp (z2z T fun x hx=>h x (List.mem_cons_of_mem _ hx))
theorem Rws.zip {H:Hp}:∀ {vs:List V} {rs:List Rw},Rws H vs rs→∀ t∈vs.zip rs,∃ p,t.1=.ref p∧H p=some (.tup (.str t.2.1::t.2.2.map V.int))
 | _,_,.nil,t,ht=>absurd ht List.not_mem_nil
 | _,_,.cons e r,t,ht=>by
  rcases List.mem_cons.mp ht with rfl | ht
  ·exact⟨_,rfl,e⟩
  ·exact Rws.zip r t ht
theorem q9b (p:Rw→Bool):∀ {vs:List V} {rs:List Rw},vs.length=rs.length→(((vs.zip rs).filter fun t=>p t.2).map (·.2))=rs.filter p
 | [],[],_=>rfl
 | [],_::_,h=>by simp at h
 | _::_,[],h=>by simp at h
 | v::vs,r::rs,h=>by
  have ih:=q9b p (vs:=vs) (rs:=rs) (by simpa using h)
  rw [List.zip_cons_cons,List.filter_cons,List.filter_cons]
  cases e:p r with
  | true=>simp only [e,if_true]; rw [List.map_cons,ih]
  | false=>simp only [e,Bool.false_eq_true,if_false]; exact ih
noncomputable def x8p (K:Frag):Sp:=fun vs H Q _=>∃ (a p:Addr) (rs:List Rw) (n:Str) (is:List Int) (W:List Str) (k:Nat),vs=[.ref a,.ref p]∧RwT H a rs∧H p=some (.tup (.str n::is.map V.int))∧RwOk W k rs∧W.length≤60∧n∈W∧is.length=k∧∀ (b:Addr) (H':Hp),RwT H' b (q1t rs (n,is))→q1l H H'→Q (.ref b) H'
noncomputable def x5y (K:Frag):Sp:=fun vs H Q _=>∃ (v u:V) (S:Sto) (d:Deed) (W C:List Str),vs=[v,u]∧StV H v S∧StoOk W C S∧x0h H u d∧d.nm∈W∧W.length≤60∧∀ (r:V) (p:Addr) (H':Hp),H' p=some (.tup [r,.int (q8b S d).2])→StV H' r (q8b S d).1→q1l H H'→Q (.ref p) H'
theorem x7c:("set" : Str) ≠ "get" := by decide +kernel
theorem x5t:("add" : Str) ≠ "get" := by decide +kernel
theorem x6i:("set" : Str) ≠ "add" := by decide +kernel
theorem x1a {a b:Str} (h:a≠b):¬ V.str a=V.str b:=fun e=>h (by injection e)
noncomputable def z8h (K:Frag):Sp:=fun vs H Q _=>∃ (v u:V) (S:Sto) (x:What) (W C:List Str),vs=[v,u]∧StV H v S∧StoOk W C S∧q4x H u x∧x3v W C x∧W.length≤60∧C.length≤60∧∀ (r:V) (H':Hp),StV H' r (q5e S x)→q1l H H'→Q r H'
theorem x2p:("open" : Str) ≠ "wish" := by decide +kernel
theorem x1n:("seats" : Str) ≠ "wish" := by decide +kernel
noncomputable def z1d:Sp:=fun vs H Q _=>∃ (v:V) (S:Sto) (c:Str) (W C:List Str),vs=[v,.str c]∧StV H v S∧StoOk W C S∧C.length≤60∧∀ H',q1l H H'→Q (.int (q6o S.2 c).1) H'
noncomputable def x8n (K:Frag):Sp:=fun vs H Q _=>∃ (v:V) (p:Addr) (S:Sto) (us:List V) (xs:List What) (W C:List Str),vs=[v,.ref p]∧StV H v S∧StoOk W C S∧H p=some (.tup us)∧EW H us xs∧(∀ x∈xs,x3v W C x)∧W.length≤60∧C.length≤60∧∀ (r:V) (H':Hp),StV H' r (q3l S xs)→q1l H H'→Q r H'
noncomputable def w0i (K:Frag) (H:Hp) (vp vr:V) (P:Pk) (es:List En) (W C:List Str):Prop:=PkV H vp P∧StoOk W C P.so∧RwP H vr P.pl P.tm es∧(∀ e∈es,x3v W C e.2)∧es.length≤200∧W.length≤60∧C.length≤60∧0≤P.pl
noncomputable def j5i (K:Frag):Sp:=fun vs H Q _=>∃ (vp vr:V) (P:Pk) (es:List En) (W C:List Str) (n:Nat),vs=[vp,vr,.int (P.pl+n)]∧w0i K H vp vr P es W C∧n≤es.length∧∀ (r:V) (H':Hp),PkV H' r (x4c P P.tm (es.take n) (P.pl+n))→q1l H H'→Q r H'
theorem j4n:FnScope ["row"] ["row"] (q0h q8m):=fSc
theorem x9v {f:Addr} {fd:FuncData} (F:Fun K "end_of" "end_of" q8m f fd) (T:Txt mg):FnOk P w K mg base CX0 1 f fd ["row"] q9k:=by
 refine F.ok j4n (by rintro _ _ _ _⟨_,_,_,_,rfl,_⟩; rfl) (fun _ A _ s H vs Q E hr h=>?_)
 obtain⟨v,b,l,es,rfl,⟨rb,c,us,rfl,hb,hc,he⟩,q⟩:=h
 refine⟨_,@q0p _ _ _ (q0q (q0x q1o (q0f q0i (pv 0) (q0c) q0w) (q0l q0t (by rfl) T.len PySem.boot_len (q2r (q0f q0i (pv 0) (q0c) q0w) q0e)))),?_⟩
 refine⟨_,rfl,rb,_,_,.int b,rfl,rfl,SqT.of hb,q0a (j:=0) rfl,_,rfl,rb,_,_,.ref c,rfl,rfl,SqT.of hb,q0a (j:=2) rfl,c,us,rfl,.inr (SqT.of hc),_,_,rfl,rfl,?_⟩
 show Q (.int (b+(us.length:Int))) H
 rw [he.length]; exact q
theorem j8h:FnScope ["entry"] ["entry"] (q0h q5k):=fSc
theorem z5r {f:Addr} {fd:FuncData} (F:Fun K "holds_seats" "holds_seats" q5k f fd):FnOk P w K mg base CX0 1 f fd ["entry"] x6j:=by
 refine F.ok j8h (by rintro _ _ _ _⟨_,_,_,_,rfl,_⟩; rfl) (fun _ A _ s H vs Q E hr h=>?_)
 obtain⟨p,t,u,x,rfl,hp,hx,k⟩:=h
 refine⟨_,@q0p _ _ _ (q0q (q1v q2u (q0f q0i (q0f q0i (pv 0) (q0c) q0w) (q0c) q0w) q2k (q0o _))),?_⟩
 have a1:atI [V.int t,u] 1=some u:=q0a (j:=1) rfl
 cases x with
 | opn =>
  obtain⟨p2,rfl,h2⟩:=hx
  refine⟨_,rfl,p,_,_,_,rfl,rfl,SqT.of hp,a1,p2,_,_,.str "open",rfl,rfl,SqT.of h2,q0a (j:=0) rfl,rfl,?_⟩
  show Q (.bl (decide (V.str "open" = V.str "seats"))) H
  rw [decide_eq_false (j0p j5m)]; exact k
 | seats ms =>
  obtain⟨p2,q2,rfl,h2,_⟩:=hx
  refine⟨_,rfl,p,_,_,_,rfl,rfl,SqT.of hp,a1,p2,_,_,.str "seats",rfl,rfl,SqT.of h2,q0a (j:=0) rfl,rfl,?_⟩
  show Q (.bl (decide (V.str "seats" = V.str "seats"))) H
  rw [decide_eq_true rfl]; exact k
 | wish c n d =>
  obtain⟨p2,u2,rfl,h2,_⟩:=hx
  refine⟨_,rfl,p,_,_,_,rfl,rfl,SqT.of hp,a1,p2,_,_,.str "wish",rfl,rfl,SqT.of h2,q0a (j:=0) rfl,rfl,?_⟩
  show Q (.bl (decide (V.str "wish" = V.str "seats"))) H
  rw [decide_eq_false (j0p j5k)]; exact k
theorem z5e:FnScope ["row", "first", "seats", "entry"] ["row", "first"] (q0h q8w):=fSc
theorem x6f {f:Addr} {fd:FuncData} (F:Fun K "seats_of" "seats_of" q8w f fd) (CH:Cal P w K mg base "holds_seats" 1 ["entry"] x6j):FnOk P w K mg base CX0 2 f fd ["row", "first"] q9t:=by
 refine F.ok z5e (by rintro _ _ _ _⟨_,_,_,_,_,_,rfl,_⟩; rfl) (fun _ A _ s H vs Q E hr h=>?_)
 obtain⟨v,q0,b,l,es,ms,rfl,⟨rb,c,us,rfl,hb,hc,he⟩,hq0,k⟩:=h
 refine⟨_,@q0j _ _ _ _ _ (q0r (i:=2) z5e.nd (by rfl) (by exact Or.inl rfl) (pv 1))
  (@q0j _ _ _ _ _ (q7d PassesOwn.never (by rfl) (q9j (q0f q0i (pv 0) (q0c) q0w)) (q1u (i:=3) z5e.nd (by rfl) (by exact Or.inl rfl)) (@q0p _ _ _ (q1g (q3c (q0n CH hr (q0z (pv 3) q0e))) (@q0p _ _ _ (q0r (i:=2) z5e.nd (by rfl) (by exact Or.inl rfl) (q0f q0i (q0f q0i (pv 3) (q0c) q0w) (q0c) q0w))) q0u)))
  (@q0p _ _ _ (q0q (pv 2)))),?_⟩
 have hlen:=he.length
 refine⟨_,rfl,?_⟩
 refine⟨_,rfl,rb,_,_,.ref c,rfl,rfl,SqT.of hb,q0a (j:=2) rfl,c,rfl,⟨_,SqT.of hc⟩,x5z (K:=K) (a:=c) (xs:=us) (fun i σ H'=>∃ (qi:Addr) (t:Option V),σ=[some (.ref rb),some (.ref q0),some (.ref qi),t]∧H'=H∧H qi=some (.tup ((q1r ms (es.take i)).map V.int)))
  ⟨q0,none,rfl,rfl,by rw [List.take_zero]; exact hq0⟩ (fun i σ H' _ ⟨_,_,_,e,_⟩=>by rw [e]; exact SqT.of hc) ?_ ?_⟩
 ·rintro i x σ H' hx ⟨qi,t,rfl,rfl,hqi⟩
  have hi:i < es.length:=by rw [← hlen]; exact (List.getElem?_eq_some_iff.mp hx).1
  obtain⟨p,u,gv,hp,hu⟩:=he.get hi
  rw [gv] at hx
  cases hx
  have e0:=x0p ms es hi
  refine⟨_,rfl,p,_,u,(es[i]).2,rfl,hp,hu,_,rfl,?_⟩
  cases ho:(es[i]).2 with
  | opn =>
   rw [ho] at e0
   refine q2p ⟨qi,some (.ref p),rfl,rfl,?_⟩
   rw [e0]; exact hqi
  | wish c n d =>
   rw [ho] at e0
   refine q2p ⟨qi,some (.ref p),rfl,rfl,?_⟩
   rw [e0]; exact hqi
  | seats ns =>
   rw [ho] at e0 hu
   obtain⟨p2,q2,rfl,h2,hq2⟩:=hu
   refine q2z ⟨_,rfl,p,_,_,.ref p2,rfl,rfl,SqT.of hp,q0a (j:=1) rfl,p2,_,_,.ref q2,rfl,rfl,SqT.of h2,q0a (j:=1) rfl,q2,some (.ref p),rfl,rfl,?_⟩
   rw [e0]; exact hq2
 ·rintro σ H' ⟨qi,t,rfl,rfl,hqi⟩
  rw [List.take_of_length_le (by omega)] at hqi
  exact⟨_,rfl,k qi hqi⟩
noncomputable def z2h:Sp:=fun vs H Q _=>∃ (v:V) (b l:Int) (es:List En) (n:Nat),vs=[v,.int b,.int n]∧RwP H v b l es∧n≤es.length∧∀ (r:Addr) (us:List V) (H':Hp),H' r=some (.tup us)→ET H' us (es.take n)→q1l H H'→Q (.ref r) H'
theorem z8n:FnScope ["row", "place", "many", "base", "start"] ["row", "place", "many"] (q0h q5q):=fSc
theorem x9b {f:Addr} {fd:FuncData} (F:Fun K "behind" "behind" q5q f fd) (T:Txt mg) (CE:Cal P w K mg base "end_of" 1 ["row"] q9k):FnOk P w K mg base CX0 2 f fd ["row", "place", "many"] z2h:=by
 refine F.ok z8n (by rintro _ _ _ _⟨_,_,_,_,_,rfl,_⟩; rfl) (fun _ A _ s H vs Q E hr h=>?_)
 obtain⟨v,b,l,es,n,rfl,hX,hn,q⟩:=h
 have hX':=hX
 obtain⟨rb,c,us,rfl,hb0,hc0,he⟩:=hX'
 have hb:=SqT.of (K:=K) hb0
 refine⟨_,@q0j _ _ _ _ _ (q0r (i:=3) z8n.nd (by rfl) (by exact Or.inl rfl) (q0f q0i (pv 0) (q0c) q0w))
  (@q0j _ _ _ _ _ (q1g (PW.pt (q4d (q0m x3g (pv 1) (pv 3) (q0o _)) (q2s (q0m q4g (pv 1) (q0n CE hr (q0z (pv 0) q0e)) (q0o _))))) (@q0p _ _ _ q9x) q0u)
  (@q0j _ _ _ _ _ (q0r (i:=4) z8n.nd (by rfl) (by exact Or.inl rfl) (q0x q2q (pv 1) (pv 3)))
  (@q0p _ _ _ (q0q (q1y q5z (q0f q0i (pv 0) (q0c) q0w) (q2b (pv 4)) (q2b (q0l (q2c (by rfl)) (by rfl) T.max q2m (q0z (pv 4) (q9d (q0x q1o (pv 4) (pv 2)) q0e))))))))),?_⟩
 refine⟨_,rfl,rb,_,_,.int b,rfl,rfl,hb,q0a (j:=0) rfl,?_⟩
 refine⟨_,rfl,_,rfl,_,_,rfl,rfl,_,rfl,q4r (fun h=>absurd (of_decide_eq_true h) (by omega)) (fun _=>?_)⟩
 refine⟨_,rfl,_,rfl,_,b,l,es,rfl,hX,_,_,rfl,rfl,_,rfl,q4r (fun h=>absurd (of_decide_eq_true h) (by omega)) (fun _=>?_)⟩
 refine⟨_,rfl,_,rfl,_,_,rfl,rfl,?_⟩
 refine⟨_,rfl,rb,_,_,.ref c,rfl,rfl,hb,q0a (j:=2) rfl,_,rfl,_,rfl,_,rfl,_,rfl,_,rfl,_,_,rfl,rfl,_,_,rfl,_,rfl,c,us,rfl,hc0,fun r H1 hr1 s1=>q r (us.take n) H1 ?_ ((he.take n).same s1) s1⟩
 rw [hr1]
 have e1:b - b=((0:Nat):Int):=by omega
 have e2:(if b - b+(n:Int) > b - b then b - b+(n:Int) else b - b)=((n:Nat):Int):=by split <;> omega
 show some (HO.tup (x1x us (some (b - b)) (some (if b - b+(n:Int) > b - b then b - b+(n:Int) else b - b))))=_
 rw [e2,e1,q8i]
 rfl
noncomputable def z0s:Sp:=fun vs H Q _=>∃ (v:V) (b l:Int) (es:List En) (p:Int) (m:Nat) (hm:m < es.length),vs=[v,.int p]∧p=b+1+(m:Int)∧RwP H v b l es∧∀ (p0:Addr) (u:V),H p0=some (.tup [.int (es[m]).1,u])→Q (.ref p0) H
noncomputable def x7e:Sp:=fun vs H Q _=>∃ (v:V) (b l:Int) (es:List En) (n:Nat),vs=[v,.int (b+(n:Int))]∧RwP H v b l es∧n≤es.length∧Q (.int (q1h l (es.take n))) H
theorem j1y:FnScope ["row", "place", "base"] ["row", "place"] (q0h q3v):=fSc
theorem x5a {f:Addr} {fd:FuncData} (F:Fun K "entry_at" "entry_at" q3v f fd) (CE:Cal P w K mg base "end_of" 1 ["row"] q9k):FnOk P w K mg base CX0 2 f fd ["row", "place"] z0s:=by
 refine F.ok j1y (by rintro _ _ _ _⟨_,_,_,_,_,_,_,rfl,_⟩; rfl) (fun _ A _ s H vs Q E hr h=>?_)
 obtain⟨v,b,l,es,p,m,hm,rfl,ep,hX,q⟩:=h
 have hX':=hX
 obtain⟨rb,c,us,rfl,hb,hc,he⟩:=hX'
 refine⟨_,@q0j _ _ _ _ _ (q0r (i:=2) j1y.nd (by rfl) (by exact Or.inl rfl) (q0f q0i (pv 0) (q0c) q0w))
  (@q0j _ _ _ _ _ (q1g (PW.pt (q4d (q0m x3s (pv 1) (pv 2) (q0o _)) (q2s (q0m q4g (pv 1) (q0n CE hr (q0z (pv 0) q0e)) (q0o _))))) (@q0p _ _ _ q9x) q0u)
  (@q0p _ _ _ (q0q (q0f q0i (q0f q0i (pv 0) (q0c) q0w) (q0x q2q (q0x q2q (pv 1) (pv 2)) (q0c)) z9s)))),?_⟩
 have hlen:=he.length
 obtain⟨p0,u,g,hp0,_⟩:=he.get hm
 refine⟨_,rfl,rb,_,_,.int b,rfl,rfl,SqT.of hb,q0a (j:=0) rfl,?_⟩
 refine⟨_,rfl,_,rfl,_,_,rfl,rfl,_,rfl,q4r (fun h=>absurd (of_decide_eq_true h) (by omega)) (fun _=>?_)⟩
 refine⟨_,rfl,_,rfl,_,b,l,es,rfl,hX,_,_,rfl,rfl,_,rfl,q4r (fun h=>absurd (of_decide_eq_true h) (by omega)) (fun _=>?_)⟩
 refine⟨_,rfl,rb,_,_,.ref c,rfl,rfl,SqT.of hb,q0a (j:=2) rfl,_,rfl,_,rfl,_,_,rfl,rfl,_,_,rfl,rfl,c,us,_,.ref p0,rfl,rfl,SqT.of hc,?_,q p0 u hp0⟩
 show atI us (p - b - 1)=_
 rw [show p - b - 1=(m:Int) by omega]; exact q0a g
theorem j2b:FnScope ["row", "place", "base"] ["row", "place"] (q0h q4p):=fSc
theorem x6z {f:Addr} {fd:FuncData} (F:Fun K "term_at" "term_at" q4p f fd) (CA:Cal P w K mg base "entry_at" 2 ["row", "place"] z0s):FnOk P w K mg base CX0 3 f fd ["row", "place"] x7e:=by
 refine F.ok j2b (by rintro _ _ _ _⟨_,_,_,_,_,rfl,_⟩; rfl) (fun _ A _ s H vs Q E hr h=>?_)
 obtain⟨v,b,l,es,n,rfl,hX,hn,q⟩:=h
 have hX':=hX
 obtain⟨rb,c,us,rfl,hb,hc,he⟩:=hX'
 refine⟨_,@q0j _ _ _ _ _ (q0r (i:=2) j2b.nd (by rfl) (by exact Or.inl rfl) (q0f q0i (pv 0) (q0c) q0w))
  (@q0j _ _ _ _ _ (q1g (q0m q2u (pv 1) (pv 2) (q0o _)) (@q0p _ _ _ (q0q (q0f q0i (pv 0) (q0c) q0w))) q0u)
  (@q0p _ _ _ (q0q (q0f q0i (q0n CA hr (q0z (pv 0) (q0z (pv 1) q0e))) (q0c) q0w)))),?_⟩
 refine⟨_,rfl,rb,_,_,.int b,rfl,rfl,SqT.of hb,q0a (j:=0) rfl,?_⟩
 refine⟨_,rfl,_,rfl,rfl,_,rfl,q4r (fun h=>?_) (fun h=>?_)⟩
 ·have e:b+(n:Int)=b:=by have:=of_decide_eq_true h; simpa using this
  have e0:n=0:=by omega
  subst e0
  rw [List.take_zero] at q
  exact⟨_,rfl,rb,_,_,.int l,rfl,rfl,SqT.of hb,q0a (j:=1) rfl,q⟩
 ·have e:¬ n=0:=fun e=>h (decide_eq_true (by rw [e]; simp))
  obtain⟨m,rfl⟩:∃ m,n=m+1:=⟨n - 1,by omega⟩
  have hm:m < es.length:=by omega
  rw [x2k l es hm] at q
  exact⟨_,rfl,_,rfl,.ref rb,b,l,es,_,m,hm,rfl,by omega,hX,fun p0 u hp0=>⟨p0,_,_,.int (es[m]).1,rfl,rfl,SqT.of hp0,q0a (j:=0) rfl,q⟩⟩
theorem z0j:FnScope ["pack", "row", "place", "last", "base", "entries", "seats"] ["pack", "row", "place"] (q0h x1g):=fSc
theorem x6g {f:Addr} {fd:FuncData} (F:Fun K "pack_at" "pack_at" x1g f fd) (CT:Cal P w K mg base "term_at" 3 ["row", "place"] x7e) (CB:Cal P w K mg base "behind" 2 ["row", "place", "many"] z2h) (CS:Cal P w K mg base "seats_of" 2 ["row", "first"] q9t) (CR:Cal P w K mg base "replayed" 6 ["store", "entries"] (x8n K)):FnOk P w K mg base CX0 7 f fd ["pack", "row", "place"] (j5i K):=by
 refine F.ok z0j (by rintro _ _ _ _⟨_,_,_,_,_,_,_,rfl,_⟩; rfl) (fun _ A _ s H vs Q E hr h=>?_)
 obtain⟨vp,vr,G,es,W,C,n,rfl,hPR,hn,q⟩:=h
 obtain⟨hpk,hso,hrw,hwh,hle,hW,hC,hpl0⟩:=hPR
 obtain⟨p,qa,u,rfl,hp,hq,hu⟩:=hpk
 have hrw':=hrw
 obtain⟨r,c,us,rfl,hr0,hc0,he⟩:=hrw'
 have rT:=hr.mono (show 3≤6 by omega)
 have rB:=hr.mono (show 2≤6 by omega)
 refine⟨_,@q0j _ _ _ _ _ (q0r (i:=3) z0j.nd (by rfl) (by exact Or.inl rfl) (q0n CT rT (q0z (pv 1) (q0z (pv 2) q0e))))
  (@q0j _ _ _ _ _ (q0r (i:=4) z0j.nd (by rfl) (by exact Or.inl rfl) (q0f q0i (pv 1) (q0c) q0w))
  (@q0j _ _ _ _ _ (q0r (i:=5) z0j.nd (by rfl) (by exact Or.inl rfl) (q0n CB rB (q0z (pv 1) (q0z (pv 4) (q9d (q0x q2q (pv 2) (pv 4)) q0e)))))
  (@q0j _ _ _ _ _ (q0r (i:=6) z0j.nd (by rfl) (by exact Or.inl rfl) (q0n CS rB (z4a (QE.h (q1d (q4c (pv 4) (q5a (q0f q0i (pv 1) (q0c) q0w) (q4c (pv 5) q0v))))) (q2r (q0f q0i (pv 0) (q0c) q0w) q0e))))
  (@q0p _ _ _ (q0q (QE.h (q1d (q4c (pv 2) (q4c (pv 3) (q4c (pv 6) (q7c (q0n CR hr (q2r (q0f q0i (pv 0) (q0c) q0w) (q0z (pv 5) q0e))) q0v))))))))))),?_⟩
 refine⟨_,rfl,_,rfl,.ref r,G.pl,G.tm,es,n,rfl,hrw,hn,?_⟩
 refine⟨_,rfl,r,_,_,.int G.pl,rfl,rfl,SqT.of hr0,q0a (j:=0) rfl,?_⟩
 have e1:G.pl+(n:Int) - G.pl=(n:Int):=by omega
 refine⟨_,rfl,_,rfl,_,rfl,_,rfl,_,_,rfl,rfl,.ref r,G.pl,G.tm,es,n,?_,hrw,hn,fun r2 us2 H1 hr2 he2 s1=>?_⟩
 ·show [V.ref r,V.int G.pl,V.int (G.pl+(n:Int) - G.pl)]=_
  rw [e1]
 refine⟨_,rfl,_,rfl,r,_,_,.int G.tm,rfl,rfl,SqT.of (s1 _ _ hr0),q0a (j:=1) rfl,_,rfl,q1n (by show 3≤1000; decide),fun t3 ht3=>?_⟩
 have s2:=q0d (o:=HO.tup [V.int G.pl,V.int G.tm,V.ref r2]) ht3
 have s12:=s1.trans s2
 refine⟨_,rfl,p,_,_,.ref qa,rfl,rfl,SqT.of (s12 _ _ hp),q0a (j:=2) rfl,.ref t3,qa,G.pl,G.tm,es.take n,G.st,rfl,⟨t3,r2,us2,rfl,q0b,s2 _ _ hr2,he2.same s2⟩,s12 _ _ hq,fun q' hq'=>?_⟩
 refine⟨_,rfl,_,rfl,_,rfl,_,rfl,p,_,_,u,rfl,rfl,SqT.of (s12 _ _ hp),q0a (j:=3) rfl,_,rfl,u,r2,G.so,us2,(es.take n).map (·.2),W,C,rfl,hu.same s12,hso,s2 _ _ hr2,(he2.same s2).ew,fun x hx=>?_,hW,hC,fun r5 H5 hr5 s5=>⟨q1n (by show 4≤1000; decide),fun p5 hp5=>?_⟩⟩
 ·obtain⟨e,hm,rfl⟩:=List.mem_map.mp hx
  exact hwh e (List.mem_of_mem_take hm)
 have s6:=q0d (o:=HO.tup [V.int (G.pl+(n:Int)),V.int (q1h G.tm (es.take n)),V.ref q',r5]) hp5
 exact q (.ref p5) _ ⟨p5,q',r5,rfl,q0b,s6 _ _ (s5 _ _ hq'),hr5.same s6⟩ (s12.trans (s5.trans s6))
end
end K1
namespace L2
open PySem PySem.Spec PyProof.Rows
theorem z3h {X:Cx}:OpR X (compareOp .Gt) (fun x y H Q=>∃ i j,x=.str i∧y=.str j∧Q (.bl (decide (j.cps.toList < i.cps.toList))) H):=by
 intro pins s σ H x y v u Q I rx ry h
 obtain⟨i,j,rfl,rfl,q⟩:=h
 obtain⟨t,rfl⟩:=rx
 obtain⟨t',rfl⟩:=ry
 exact PySem.P.gt_str ⟨.bl _,H,I,rfl,q⟩
end L2
namespace K1
open PySem L2 Kp
section
variable {P:Program} {w:World} {K:Frag} {mg:Str→Option Value} {base:Heap}
noncomputable def x2y:Sp:=fun vs H Q _=>∃ (a:Addr) (rs:List Rw) (n:Str),vs=[.ref a,.str n]∧RwT H a rs∧(∀ (p:Addr) (r:Rw),rs.find? (fun r=>decide (r.1=n))=some r→H p=some (.tup (.str r.1::r.2.map V.int))→Q (.ref p) H)∧(rs.find? (fun r=>decide (r.1=n))=none→Q .non H)
theorem z9z {rs:List Rw} {c:Str} {i:Nat} (hi:i < rs.length) (e:(rs[i]).1=c) (hno:∀ j (hj:j < rs.length),j < i→(rs[j]).1≠c):rs.find? (fun r=>decide (r.1=c))=some rs[i]:=by
 rw [List.find?_eq_some_iff_getElem]
 exact⟨decide_eq_true e,i,hi,rfl,fun j hj=>by simpa using hno j (by omega) hj⟩
theorem z8l {rs:List Rw} {c:Str} (hno:∀ j (hj:j < rs.length),(rs[j]).1≠c):rs.find? (fun r=>decide (r.1=c))=none:=by
 rw [List.find?_eq_none]
 intro r hr
 obtain⟨j,hj,rfl⟩:=List.getElem_of_mem hr
 simpa using hno j hj
theorem j7c:FnScope ["parts", "name", "part"] ["parts", "name"] (q0h x0u):=fSc
theorem x9e {f:Addr} {fd:FuncData} (F:Fun K "part_of" "part_of" x0u f fd):FnOk P w K mg base CX0 1 f fd ["parts", "name"] x2y:=by
 refine F.ok j7c (by rintro _ _ _ _⟨_,_,_,rfl,_⟩; rfl) (fun _ A _ s H vs Q E hr h=>?_)
 obtain⟨a,rs,n,rfl,⟨vs,ha,R⟩,q1,q2⟩:=h
 refine⟨_,@q0j _ _ _ _ _ (q7d PassesOwn.never (by rfl) (q9j (pv 0)) (q1u (i:=2) j7c.nd (by rfl) (by exact Or.inl rfl)) (@q0p _ _ _ (q1g (q0m q2u (q0f q0i (pv 2) (q0c) q0w) (pv 1) (q0o _)) (@q0p _ _ _ (q0q (pv 2))) q0u)))
  (@q0p _ _ _ (q0q (q8k))),?_⟩
 refine⟨_,rfl,a,rfl,⟨_,SqT.of ha⟩,x5z (K:=K) (a:=a) (xs:=vs) (fun i σ H'=>∃ t:Option V,σ=[some (.ref a),some (.str n),t]∧H'=H∧∀ j (hj:j < rs.length),j < i→(rs[j]).1≠n)
  ⟨none,rfl,rfl,fun j _ h=>absurd h (Nat.not_lt_zero _)⟩ (fun i σ H' _ ⟨_,_,e,_⟩=>by rw [e]; exact SqT.of ha) ?_ ?_⟩
 ·rintro i x σ H' hx ⟨t,rfl,rfl,hno⟩
  have hi:i < rs.length:=by rw [← R.length]; exact (List.getElem?_eq_some_iff.mp hx).1
  obtain⟨p,g,hp⟩:=R.get hi
  rw [g] at hx
  cases hx
  refine⟨_,rfl,p,_,_,.str (rs[i]).1,rfl,rfl,SqT.of hp,q0a (j:=0) rfl,_,rfl,rfl,_,rfl,q4r (fun h=>?_) (fun h=>?_)⟩
  ·have e:(rs[i]).1=n:=by have:=of_decide_eq_true h; injection this
   exact⟨_,rfl,q1 p rs[i] (z9z hi e hno) hp⟩
  ·have e:(rs[i]).1≠n:=fun e=>h (decide_eq_true (by rw [e]))
   exact⟨_,rfl,rfl,fun j hj hji=>by
    by_cases hje:j=i
    ·subst hje; exact e
    ·exact hno j hj (by omega)⟩
 ·rintro σ H' ⟨t,rfl,rfl,hno⟩
  exact q2 (z8l fun j hj=>hno j hj (by rw [R.length]; exact hj))
theorem z6q {vs:List V} {rs:List Rw} {i:Nat} {v:V} (g:vs[i]? = some v) (hi:i < rs.length):(vs.zip rs).getD i (.non,dRw)=(v,rs[i]):=by
 have:(vs.zip rs)[i]? = some (v,rs[i]):=by rw [List.getElem?_zip_eq_some]; exact⟨g,by simp [hi]⟩
 rw [List.getD_eq_getElem?_getD,this]; rfl
theorem j4i:FnScope ["parts", "part", "name", "ahead", "later"] ["parts", "part"] (q0h q4o):=fSc
theorem x4p {f:Addr} {fd:FuncData} (F:Fun K "with_part" "with_part" q4o f fd) (T:Txt mg):FnOk P w K mg base CX0 1 f fd ["parts", "part"] (x8p K):=by
 refine F.ok j4i (by rintro _ _ _ _⟨_,_,_,_,_,_,_,rfl,_⟩; rfl) (fun _ A _ s H vs Q E hr h=>?_)
 obtain⟨a,p,rs,n,is,W,k,rfl,⟨vs,ha,R⟩,hp,ok,hW,hn,hk,q⟩:=h
 refine⟨_,@q0j _ _ _ _ _ (q0r (i:=2) j4i.nd (by rfl) (by exact Or.inr rfl) (q0f q0i (pv 1) (q0c) q0w))
  (@q0j _ _ _ _ _ (x2s (i:=3) j4i.nd (by rfl) (by exact Or.inl rfl) (NB:=["own", "name"]) (n:=1) (fr:=[2]) (q7p (outer:=q0h q4o) (x := "name") (by rfl) (by decide +kernel) (by rfl) (by rfl) (by rfl) (by rfl)) (by rfl) (q9j (pv 0))
   (fun _ _ _ _ _=>q1u (i:=0) (show (["own", "name"]:List Str).Nodup by decide +kernel) (by rfl) (by exact Or.inl rfl)) (fun _ _ _ _ _=>q8l (q0m z3q (q0f (x2v (K:=K) (by rfl)) (pv 0) (q0c) q0w) (pv 1) (q0o _))) (fun _ _ _ _ _=>pv 0))
  (@q0j _ _ _ _ _ (x2s (i:=4) j4i.nd (by rfl) (by exact Or.inl rfl) (NB:=["own", "name"]) (n:=1) (fr:=[2]) (q7p (outer:=q0h q4o) (x := "name") (by rfl) (by decide +kernel) (by rfl) (by rfl) (by rfl) (by rfl)) (by rfl) (q9j (pv 0))
   (fun _ _ _ _ _=>q1u (i:=0) (show (["own", "name"]:List Str).Nodup by decide +kernel) (by rfl) (by exact Or.inl rfl)) (fun _ _ _ _ _=>q8l (q0m z3h (q0f (x2v (K:=K) (by rfl)) (pv 0) (q0c) q0w) (pv 1) (q0o _))) (fun _ _ _ _ _=>pv 0))
  (@q0p _ _ _ (q0q (q2n q3m (by rfl) T.tuple q2f (q9d (q0x x4w (q0x x4w (pv 3) (q4f (q0z (pv 1) q0e))) (pv 4)) q0e)))))),?_⟩
 have hl:=R.length
 have hlen:=ok.len
 have hz:rs.length=(vs.zip rs).length:=by rw [List.length_zip,hl,Nat.min_self]
 refine⟨_,rfl,p,_,_,.str n,rfl,rfl,SqT.of hp,q0a (j:=0) rfl,?_⟩
 refine⟨_,rfl,a,rfl,⟨_,SqT.of ha⟩,q6e (J:=Itt K a) (k:=1) (n:=rs.length) (fun i=>decide (q1m ((vs.zip rs).getD i (.non,dRw)).2.1 n)) (fun i=>((vs.zip rs).getD i (.non,dRw)).1) (by rw [sizeLine_eq]; omega) (fun i H3 hi s4=>?_) (fun H3 s4=>⟨_,SqT.of (s4 _ _ ha),by omega⟩) ?_ ?_⟩
 ·obtain⟨po,g,_⟩:=R.get hi
  exact⟨vs,_,SqT.of (s4 _ _ ha),g⟩
 ·intro i H3 t x H4 U hi s4 ht y hU
  obtain⟨t0,rfl⟩:=q3w ht
  obtain⟨rfl,hy⟩:=y
  obtain⟨po,g,hpo⟩:=R.get hi
  have hv:=hy _ (SqT.of (s4 _ _ ha))
  rw [g] at hv
  cases hv
  rw [z6q g hi] at hU
  have fin:=hU [some (.ref po)] H4 rfl (q1l.refl _)
  refine⟨_,rfl,po,_,_,.str (rs[i]).1,rfl,rfl,SqT.of (s4 _ _ hpo),q0a (j:=0) rfl,_,rfl,_,_,rfl,rfl,_,rfl,q4r (fun h=>?_) (fun h=>?_)⟩
  ·rw [decide_eq_true (show q1m (rs[i]).1 n from of_decide_eq_true h),if_pos rfl] at fin
   exact⟨_,rfl,fin⟩
  ·rw [decide_eq_false (fun e:q1m (rs[i]).1 n=>h (decide_eq_true (show (rs[i]).1.cps.toList < n.cps.toList from e))),if_neg Bool.false_ne_true] at fin
   exact fin
 ·intro D1 H1 s1 hD1 hd1
  rw [hz,z3s (vs.zip rs) (.non,dRw) (fun t=>decide (q1m t.2.1 n)) (fun t=>t.1)] at hd1
  refine⟨_,rfl,a,rfl,⟨_,SqT.of (s1 _ _ ha)⟩,q6e (J:=Itt K a) (k:=1) (n:=rs.length) (fun i=>decide (q1m n ((vs.zip rs).getD i (.non,dRw)).2.1)) (fun i=>((vs.zip rs).getD i (.non,dRw)).1) (by rw [sizeLine_eq]; omega) (fun i H3 hi s4=>?_) (fun H3 s4=>⟨_,SqT.of (s4 _ _ (s1 _ _ ha)),by omega⟩) ?_ ?_⟩
  ·obtain⟨po,g,_⟩:=R.get hi
   exact⟨vs,_,SqT.of (s4 _ _ (s1 _ _ ha)),g⟩
  ·intro i H3 t x H4 U hi s4 ht y hU
   obtain⟨t0,rfl⟩:=q3w ht
   obtain⟨rfl,hy⟩:=y
   obtain⟨po,g,hpo⟩:=R.get hi
   have hv:=hy _ (SqT.of (s4 _ _ (s1 _ _ ha)))
   rw [g] at hv
   cases hv
   rw [z6q g hi] at hU
   have fin:=hU [some (.ref po)] H4 rfl (q1l.refl _)
   refine⟨_,rfl,po,_,_,.str (rs[i]).1,rfl,rfl,SqT.of (s4 _ _ (s1 _ _ hpo)),q0a (j:=0) rfl,_,rfl,_,_,rfl,rfl,_,rfl,q4r (fun h=>?_) (fun h=>?_)⟩
   ·rw [decide_eq_true (show q1m n (rs[i]).1 from of_decide_eq_true h),if_pos rfl] at fin
    exact⟨_,rfl,fin⟩
   ·rw [decide_eq_false (fun e:q1m n (rs[i]).1=>h (decide_eq_true (show n.cps.toList < (rs[i]).1.cps.toList from e))),if_neg Bool.false_ne_true] at fin
    exact fin
  ·intro D2 H2 s2 hD2 hd2
   rw [hz,z3s (vs.zip rs) (.non,dRw) (fun t=>decide (q1m n t.2.1)) (fun t=>t.1)] at hd2
   obtain⟨X1,e1⟩:∃ X1,X1=(vs.zip rs).filter fun t=>decide (q1m t.2.1 n):=⟨_,rfl⟩
   obtain⟨X2,e2⟩:∃ X2,X2=(vs.zip rs).filter fun t=>decide (q1m n t.2.1):=⟨_,rfl⟩
   have l1:X1.length≤rs.length:=by rw [e1,hz]; exact List.length_filter_le _ _
   have l2:X2.length≤rs.length:=by rw [e2,hz]; exact List.length_filter_le _ _
   rw [← e1] at hd1
   rw [← e2] at hd2
   refine⟨_,rfl,_,rfl,q1n (by show 1≤1000; decide),fun b1 hb1=>?_⟩
   have s3:=q0d (o:=HO.lst [V.ref p]) hb1
   refine⟨D1,b1,_,_,rfl,rfl,s3 _ _ (s2 _ _ hd1),q0b,by rw [sizeLine_eq,List.length_map]; show _+1≤_; omega,fun b2 hb2=>?_⟩
   have s4:=q0d (o:=HO.lst (X1.map (fun t=>t.1)++[V.ref p])) hb2
   refine⟨_,rfl,b2,D2,_,_,rfl,rfl,q0b,s4 _ _ (s3 _ _ hd2),by rw [sizeLine_eq,List.length_append,List.length_map,List.length_map]; show _+1+_≤_; omega,fun b3 hb3=>?_⟩
   have s5:=q0d (o:=HO.lst (X1.map (fun t=>t.1)++[V.ref p]++X2.map (fun t=>t.1))) hb3
   refine⟨b3,_,rfl,.inl ⟨SqL.of q0b,fun b hb=>?_⟩⟩
   have s6:=q0d (o:=HO.tup (X1.map (fun t=>t.1)++[V.ref p]++X2.map (fun t=>t.1))) hb
   have sA:=s1.trans (s2.trans (s3.trans (s4.trans (s5.trans s6))))
   have hR:=z2z (X1++[(.ref p,(n,is))]++X2) fun t ht=>by
    have hm:(∃ p,t.1=.ref p∧H p=some (.tup (.str t.2.1::t.2.2.map V.int))):=by
     rcases List.mem_append.mp ht with ht | ht
     ·rcases List.mem_append.mp ht with ht | ht
      ·rw [e1] at ht; exact R.zip t (List.mem_filter.mp ht).1
      ·rw [List.mem_singleton.mp ht]; exact⟨p,rfl,hp⟩
     ·rw [e2] at ht; exact R.zip t (List.mem_filter.mp ht).1
    obtain⟨pt,e,hpt⟩:=hm
    exact⟨pt,e,sA _ _ hpt⟩
   have f1:X1.map (fun t=>t.2)=rs.filter (fun r=>decide (q1m r.1 n)):=by rw [e1]; exact q9b (fun r=>decide (q1m r.1 n)) hl
   have f2:X2.map (fun t=>t.2)=rs.filter (fun r=>decide (q1m n r.1)):=by rw [e2]; exact q9b (fun r=>decide (q1m n r.1)) hl
   have f3:(X1++[(V.ref p,(n,is))]++X2).map (fun t=>t.2)=q1t rs (n,is):=by
    rw [List.map_append,List.map_append,f1,f2,List.append_assoc]; rfl
   have f4:(X1++[(V.ref p,(n,is))]++X2).map (fun t=>t.1)=X1.map (fun t=>t.1)++[V.ref p]++X2.map (fun t=>t.1):=by
    rw [List.map_append,List.map_append]; rfl
   rw [f3,f4] at hR
   exact q b _ ⟨_,q0b,hR⟩ sA
noncomputable def j0j (rs:List Rw) (n:Str):Int:=match rs.find? fun r=>decide (r.1=n) with
 | some r=>r.2.headD 0
 | none=>0
theorem z6c (rs:List Rw) (n:Str):q9r rs n=j0j rs n:=by
 unfold q9r j0j
 rw [← List.head?_filter]
 cases rs.filter fun r=>decide (r.1=n) with
 | nil=>rfl
 | cons r l=>rfl
noncomputable def x3k:Sp:=fun vs H Q _=>∃ (a:Addr) (rs:List Rw) (n:Str),vs=[.ref a,.str n]∧RwT H a rs∧(∀ r∈rs,1≤r.2.length)∧Q (.int (j0j rs n)) H
theorem j7e:FnScope ["parts", "name", "part"] ["parts", "name"] (q0h q7x):=fSc
theorem x4f {f:Addr} {fd:FuncData} (F:Fun K "number_at" "number_at" q7x f fd) (CP:Cal P w K mg base "part_of" 1 ["parts", "name"] x2y):FnOk P w K mg base CX0 2 f fd ["parts", "name"] x3k:=by
 refine F.ok j7e (by rintro _ _ _ _⟨_,_,_,rfl,_⟩; rfl) (fun _ A _ s H vs Q E hr h=>?_)
 obtain⟨a,rs,n,rfl,hT,sz,q⟩:=h
 refine⟨_,@q0j _ _ _ _ _ (q0r (i:=2) j7e.nd (by rfl) (by exact Or.inl rfl) (q0n CP hr (q0z (pv 0) (q0z (pv 1) q0e))))
  (@q0j _ _ _ _ _ (q1g (q0m j0z (pv 2) q8k (q0o _)) (@q0p _ _ _ (q0q q0c)) q0u)
  (@q0p _ _ _ (q0q (q0f q0i (pv 2) (q0c) q0w)))),?_⟩
 unfold j0j at q
 refine⟨_,rfl,_,rfl,a,rs,n,rfl,hT,fun p r hf hp=>?_,fun hf=>?_⟩
 ·rw [hf] at q
  have hz:=sz r (List.mem_of_find?_eq_some hf)
  obtain⟨z,zs,ez⟩:∃ z zs,r.2=z::zs:=by
   cases e:r.2 with
   | nil=>rw [e] at hz; exact absurd hz (by decide)
   | cons z zs=>exact⟨z,zs,rfl⟩
  simp only [ez] at q hp
  refine⟨_,rfl,rfl,_,rfl,?_⟩
  rw [decide_eq_false (fun e:V.ref p=V.non=>by cases e)]
  exact q2p ⟨_,rfl,p,_,_,.int z,rfl,rfl,SqT.of hp,q0a (j:=1) rfl,q⟩
 ·rw [hf] at q
  refine⟨_,rfl,rfl,_,rfl,?_⟩
  rw [decide_eq_true rfl]
  exact q2z q
theorem w0b:FnScope ["store", "name"] ["store", "name"] (q0h q8v):=fSc
theorem x5x {f:Addr} {fd:FuncData} (F:Fun K "value_of" "value_of" q8v f fd) (CN:Cal P w K mg base "number_at" 2 ["parts", "name"] x3k):FnOk P w K mg base CX0 3 f fd ["store", "name"] (z3e K):=by
 refine F.ok w0b (by rintro _ _ _ _⟨_,_,_,rfl,_⟩; rfl) (fun _ A _ s H vs Q E hr h=>?_)
 obtain⟨v,S,n,rfl,⟨sa,a,c,rfl,hs,hT,_⟩,hlen,sz,q⟩:=h
 refine⟨_,@q0p _ _ _ (q0q (q0n CN hr (q2r (q0f q0i (pv 0) (q0c) q0w) (q0z (pv 1) q0e)))),?_⟩
 have fin:=q H (q1l.refl _)
 rw [z6c] at fin
 exact⟨_,rfl,sa,_,_,.ref a,rfl,rfl,SqT.of hs,q0a (j:=0) rfl,_,rfl,a,S.1,n,rfl,hT,fun r hr=>by rw [sz r hr]; exact Nat.le_refl 1,fin⟩
noncomputable def x7f (K:Frag):Sp:=fun vs H Q _=>∃ (v:V) (S:Sto) (n:Str) (x:Int) (W:List Str),vs=[v,.str n,.int x]∧StV H v S∧RwOk W 1 S.1∧n∈W∧W.length≤60∧∀ (r:V) (H':Hp),StV H' r (q1t S.1 (n,[x]),S.2)→q1l H H'→Q r H'
theorem j8i:FnScope ["store", "name", "value"] ["store", "name", "value"] (q0h q6s):=fSc
theorem x3a {f:Addr} {fd:FuncData} (F:Fun K "with_value" "with_value" q6s f fd) (CW:Cal P w K mg base "with_part" 1 ["parts", "part"] (x8p K)):FnOk P w K mg base CX0 2 f fd ["store", "name", "value"] (x7f K):=by
 refine F.ok j8i (by rintro _ _ _ _⟨_,_,_,_,_,rfl,_⟩; rfl) (fun _ A _ s H vs Q E hr h=>?_)
 obtain⟨v,S,n,x,W,rfl,⟨sa,a,c,rfl,hs,hT,hC⟩,ok,hn,hW,q⟩:=h
 refine⟨_,@q0p _ _ _ (q0q (QE.h (q1d (q7c (q0n CW hr (q2r (q0f q0i (pv 0) (q0c) q0w) (z4a (QE.h (q1d (q4c (pv 1) (q4c (pv 2) q0v)))) q0e))) (q5a (q0f q0i (pv 0) (q0c) q0w) q0v))))),?_⟩
 refine⟨_,rfl,sa,_,_,.ref a,rfl,rfl,SqT.of hs,q0a (j:=0) rfl,_,rfl,_,rfl,q1n (by show 2≤1000; decide),fun p1 hp1=>?_⟩
 have s1:=q0d (o:=HO.tup [V.str n,V.int x]) hp1
 refine⟨a,p1,S.1,n,[x],W,1,rfl,hT.same s1,q0b,ok,hW,hn,rfl,fun b H2 hb s2=>?_⟩
 have s12:=s1.trans s2
 refine⟨_,rfl,sa,_,_,.ref c,rfl,rfl,SqT.of (s12 _ _ hs),q0a (j:=1) rfl,q1n (by show 2≤1000; decide),fun p2 hp2=>?_⟩
 have s3:=q0d (o:=HO.tup [V.ref b,V.ref c]) hp2
 exact q (.ref p2) _ ⟨p2,b,c,rfl,q0b,hb.same s3,hC.same (s12.trans s3)⟩ (s12.trans s3)
theorem j4g:FnScope ["store", "deed", "name", "ahead", "together"] ["store", "deed"] (q0h z2x):=fSc
theorem j0g {f:Addr} {fd:FuncData} (F:Fun K "done" "done" z2x f fd) (CV:Cal P w K mg base "value_of" 3 ["store", "name"] (z3e K)) (CU:Cal P w K mg base "with_value" 2 ["store", "name", "value"] (x7f K)):FnOk P w K mg base CX0 4 f fd ["store", "deed"] (x5y K):=by
 refine F.ok j4g (by rintro _ _ _ _⟨_,_,_,_,_,_,rfl,_⟩; rfl) (fun _ A _ s H vs Q E hr h=>?_)
 obtain⟨v,u,S,d,W,C,rfl,hv,ok,hd,hn,hW,q⟩:=h
 have r2:=hr.mono (show 2≤3 by omega)
 refine⟨_,@q0j _ _ _ _ _ (q0r (i:=2) j4g.nd (by rfl) (by exact Or.inl rfl) (q0f q0i (pv 1) (q0c) q0w))
  (@q0j _ _ _ _ _ (q0r (i:=3) j4g.nd (by rfl) (by exact Or.inl rfl) (q0n CV hr (q0z (pv 0) (q0z (pv 2) q0e))))
  (@q0j _ _ _ _ _ (q1g (q0m q2u (q0f q0i (pv 1) (q0c) q0w) (q2k) (q0o _)) (@q0p _ _ _ (q0q (QE.h (q1d (q4c (pv 0) (q4c (pv 3) q0v)))))) q0u)
  (@q0j _ _ _ _ _ (q1g (q0m q2u (q0f q0i (pv 1) (q0c) q0w) (q2k) (q0o _)) (@q0p _ _ _ (q0q (QE.h (q1d (q7c (q0n CU r2 (q0z (pv 0) (q0z (pv 2) (q2r (q0f q0i (pv 1) (q0c) q0w) q0e)))) (q4c (pv 3) q0v)))))) q0u)
  (@q0j _ _ _ _ _ (q0r (i:=4) j4g.nd (by rfl) (by exact Or.inl rfl) (q0x q1o (pv 3) (q0f q0i (pv 1) (q0c) q0w)))
  (@q0p _ _ _ (q0q (QE.h (q1d (q7c (q0n CU r2 (q0z (pv 0) (q0z (pv 2) (q0z (pv 4) q0e)))) (q4c (pv 4) q0v)))))))))),?_⟩
 have hlen:=ok.ns.len
 cases d with
 | get n =>
  obtain⟨p,rfl,hp⟩:=hd
  refine⟨_,rfl,p,_,_,.str n,rfl,rfl,SqT.of hp,q0a (j:=1) rfl,?_⟩
  refine⟨_,rfl,_,rfl,_,S,n,rfl,hv,by omega,ok.ns.sz,fun H1 s1=>?_⟩
  refine⟨_,rfl,p,_,_,.str "get",rfl,rfl,SqT.of (s1 _ _ hp),q0a (j:=0) rfl,rfl,_,rfl,?_⟩
  rw [decide_eq_true rfl]
  refine q2z ⟨_,rfl,_,rfl,q1n (by show 2≤1000; decide),fun p2 hp2=>?_⟩
  have s2:=q0d (o:=HO.tup [v,V.int (q9r S.1 n)]) hp2
  exact q v p2 _ q0b (hv.same (s1.trans s2)) (s1.trans s2)
 | set n x =>
  obtain⟨p,rfl,hp⟩:=hd
  refine⟨_,rfl,p,_,_,.str n,rfl,rfl,SqT.of hp,q0a (j:=1) rfl,?_⟩
  refine⟨_,rfl,_,rfl,_,S,n,rfl,hv,by omega,ok.ns.sz,fun H1 s1=>?_⟩
  refine⟨_,rfl,p,_,_,.str "set",rfl,rfl,SqT.of (s1 _ _ hp),q0a (j:=0) rfl,rfl,_,rfl,?_⟩
  rw [decide_eq_false (x1a x7c)]
  refine q2p ⟨_,rfl,p,_,_,.str "set",rfl,rfl,SqT.of (s1 _ _ hp),q0a (j:=0) rfl,rfl,_,rfl,?_⟩
  rw [decide_eq_true rfl]
  refine q2z ⟨_,rfl,_,rfl,_,rfl,p,_,_,.int x,rfl,rfl,SqT.of (s1 _ _ hp),q0a (j:=2) rfl,v,S,n,x,W,rfl,hv.same s1,ok.ns,hn,hW,fun r H2 hr2 s2=>⟨_,rfl,q1n (by show 2≤1000; decide),fun p2 hp2=>?_⟩⟩
  have s3:=q0d (o:=HO.tup [r,V.int (q9r S.1 n)]) hp2
  exact q r p2 _ q0b (hr2.same s3) (s1.trans (s2.trans s3))
 | add n x =>
  obtain⟨p,rfl,hp⟩:=hd
  refine⟨_,rfl,p,_,_,.str n,rfl,rfl,SqT.of hp,q0a (j:=1) rfl,?_⟩
  refine⟨_,rfl,_,rfl,_,S,n,rfl,hv,by omega,ok.ns.sz,fun H1 s1=>?_⟩
  refine⟨_,rfl,p,_,_,.str "add",rfl,rfl,SqT.of (s1 _ _ hp),q0a (j:=0) rfl,rfl,_,rfl,?_⟩
  rw [decide_eq_false (x1a x5t)]
  refine q2p ⟨_,rfl,p,_,_,.str "add",rfl,rfl,SqT.of (s1 _ _ hp),q0a (j:=0) rfl,rfl,_,rfl,?_⟩
  rw [decide_eq_false (x1a x6i.symm)]
  refine q2p ⟨_,rfl,_,rfl,p,_,_,.int x,rfl,rfl,SqT.of (s1 _ _ hp),q0a (j:=2) rfl,_,_,rfl,rfl,?_⟩
  refine⟨_,rfl,_,rfl,_,rfl,v,S,n,_,W,rfl,hv.same s1,ok.ns,hn,hW,fun r H2 hr2 s2=>⟨_,rfl,q1n (by show 2≤1000; decide),fun p2 hp2=>?_⟩⟩
  have s3:=q0d (o:=HO.tup [r,V.int (q9r S.1 n+x)]) hp2
  exact q r p2 _ q0b (hr2.same s3) (s1.trans (s2.trans s3))
theorem w0d:FnScope ["store", "caller"] ["store", "caller"] (q0h q7q):=fSc
theorem x4h {f:Addr} {fd:FuncData} (F:Fun K "number_of" "number_of" q7q f fd) (CN:Cal P w K mg base "number_at" 2 ["parts", "name"] x3k):FnOk P w K mg base CX0 3 f fd ["store", "caller"] z1d:=by
 refine F.ok w0d (by rintro _ _ _ _⟨_,_,_,_,_,rfl,_⟩; rfl) (fun _ A _ s H vs Q E hr h=>?_)
 obtain⟨v,S,c,W,C,rfl,⟨sa,a,ca,rfl,hs,hT,hC⟩,ok,hlen,q⟩:=h
 refine⟨_,@q0p _ _ _ (q0q (q0n CN hr (q2r (q0f q0i (pv 0) (q0c) q0w) (q0z (pv 1) q0e)))),?_⟩
 have fin:=q H (q1l.refl _)
 have e:(q6o S.2 c).1=j0j S.2 c:=by
  unfold q6o j0j
  cases S.2.find? fun r=>decide (r.1=c) with
  | none=>rfl
  | some r=>rfl
 rw [e] at fin
 exact⟨_,rfl,sa,_,_,.ref ca,rfl,rfl,SqT.of hs,q0a (j:=1) rfl,_,rfl,ca,S.2,c,rfl,hC,fun r hr=>by rw [ok.cs.sz r hr]; decide,fin⟩
theorem j7s:FnScope ["store", "what", "pair"] ["store", "what"] (q0h x1h):=fSc
theorem x9n {f:Addr} {fd:FuncData} (F:Fun K "applied" "applied" x1h f fd) (CN:Cal P w K mg base "number_of" 3 ["store", "caller"] z1d) (CD:Cal P w K mg base "done" 4 ["store", "deed"] (x5y K)) (CW:Cal P w K mg base "with_part" 1 ["parts", "part"] (x8p K)):FnOk P w K mg base CX0 5 f fd ["store", "what"] (z8h K):=by
 refine F.ok j7s (by rintro _ _ _ _⟨_,_,_,_,_,_,rfl,_⟩; rfl) (fun _ A _ s H vs Q E hr h=>?_)
 obtain⟨v,u,S,x,W,C,rfl,hv,ok,hx,hok,hW,hC,q⟩:=h
 have r1:=hr.mono (show 1≤4 by omega)
 have r3:=hr.mono (show 3≤4 by omega)
 refine⟨_,@q0j _ _ _ _ _ (q1g (PW.pt (q4d (q0m q4y (q0f q0i (pv 1) (q0c) q0w) q2k (q0o _)) (q2s (q0m x3s (q0f q0i (pv 1) (q0c) q0w) (q0n CN r3 (q0z (pv 0) (q2r (q0f q0i (pv 1) (q0c) q0w) q0e))) (q0o _))))) (@q0p _ _ _ (q0q (pv 0))) q0u)
  (@q0j _ _ _ _ _ (q0r (i:=2) j7s.nd (by rfl) (by exact Or.inl rfl) (q0n CD hr (q0z (pv 0) (q2r (q0f q0i (pv 1) (q0c) q0w) q0e))))
  (@q0p _ _ _ (q0q (QE.h (q1d (q5a (q0f q0i (q0f q0i (pv 2) (q0c) q0w) (q0c) q0w) (q7c (q0n CW r1 (q2r (q0f q0i (q0f q0i (pv 2) (q0c) q0w) (q0c) q0w) (z4a (QE.h (q1d (q5a (q0f q0i (pv 1) (q0c) q0w) (q5a (q0f q0i (pv 1) (q0c) q0w) (q5a (q0f q0i (pv 2) (q0c) q0w) q0v))))) q0e))) q0v))))))),?_⟩
 cases x with
 | opn =>
  obtain⟨p,rfl,hp⟩:=hx
  refine⟨_,rfl,p,_,_,.str "open",rfl,rfl,SqT.of hp,q0a (j:=0) rfl,rfl,_,rfl,?_⟩
  rw [decide_eq_false (x1a x2p)]
  exact q2z (q2z ⟨_,rfl,q _ H hv (q1l.refl _)⟩)
 | seats ms =>
  obtain⟨p,p2,rfl,hp,_⟩:=hx
  refine⟨_,rfl,p,_,_,.str "seats",rfl,rfl,SqT.of hp,q0a (j:=0) rfl,rfl,_,rfl,?_⟩
  rw [decide_eq_false (x1a x1n)]
  exact q2z (q2z ⟨_,rfl,q _ H hv (q1l.refl _)⟩)
 | wish c n d =>
  obtain⟨p,du,rfl,hp,hd⟩:=hx
  obtain⟨hcC,hn,hnW⟩:=hok
  unfold q5e at q
  refine⟨_,rfl,p,_,_,.str "wish",rfl,rfl,SqT.of hp,q0a (j:=0) rfl,rfl,_,rfl,?_⟩
  rw [decide_eq_true rfl]
  refine q2p ⟨_,rfl,p,_,_,.int n,rfl,rfl,SqT.of hp,q0a (j:=2) rfl,_,rfl,_,rfl,p,_,_,.str c,rfl,rfl,SqT.of hp,q0a (j:=1) rfl,v,S,c,W,C,rfl,hv,ok,hC,fun H1 s1=>?_⟩
  refine⟨_,_,rfl,rfl,_,rfl,q4r (fun h=>?_) (fun h=>?_)⟩
  ·have e:n≤(q6o S.2 c).1:=of_decide_eq_true h
   simp only [e,if_true] at q
   exact⟨_,rfl,q _ H1 (hv.same s1) s1⟩
  ·have e:¬ n≤(q6o S.2 c).1:=z0c h
   simp only [e,if_false] at q
   refine⟨_,rfl,_,rfl,p,_,_,du,rfl,rfl,SqT.of (s1 _ _ hp),q0a (j:=3) rfl,_,_,S,d,W,C,rfl,hv.same s1,ok,hd.same s1,hnW,hW,fun r pr H2 hpr hr2 s2=>?_⟩
   obtain⟨sb,a2,c2,rfl,hs2,ha2,hc2⟩:=hr2
   rw [z4k] at hc2
   have s12:=s1.trans s2
   refine⟨_,rfl,pr,_,_,.ref sb,rfl,rfl,SqT.of hpr,q0a (j:=0) rfl,sb,_,_,.ref a2,rfl,rfl,SqT.of hs2,q0a (j:=0) rfl,?_⟩
   refine⟨_,rfl,pr,_,_,.ref sb,rfl,rfl,SqT.of hpr,q0a (j:=0) rfl,sb,_,_,.ref c2,rfl,rfl,SqT.of hs2,q0a (j:=1) rfl,_,rfl,p,_,_,.str c,rfl,rfl,SqT.of (s12 _ _ hp),q0a (j:=1) rfl,_,rfl,p,_,_,.int n,rfl,rfl,SqT.of (s12 _ _ hp),q0a (j:=2) rfl,_,rfl,pr,_,_,.int (q8b S d).2,rfl,rfl,SqT.of hpr,q0a (j:=1) rfl,q1n (by show 3≤1000; decide),fun p3 hp3=>?_⟩
   have s3:=q0d (o:=HO.tup [V.str c,V.int n,V.int (q8b S d).2]) hp3
   refine⟨c2,p3,S.2,c,[n,(q8b S d).2],C,2,rfl,hc2.same s3,q0b,ok.cs,hC,hcC,rfl,fun b H4 hb s4=>⟨q1n (by show 2≤1000; decide),fun p5 hp5=>?_⟩⟩
   have s5:=q0d (o:=HO.tup [V.ref a2,V.ref b]) hp5
   exact q (.ref p5) _ ⟨p5,a2,b,rfl,q0b,ha2.same (s3.trans (s4.trans s5)),hb.same s5⟩ (s12.trans (s3.trans (s4.trans s5)))
theorem j5g:FnScope ["store", "entries", "entry"] ["store", "entries"] (q0h q8x):=fSc
theorem x5u {f:Addr} {fd:FuncData} (F:Fun K "replayed" "replayed" q8x f fd) (CP:Cal P w K mg base "applied" 5 ["store", "what"] (z8h K)):FnOk P w K mg base CX0 6 f fd ["store", "entries"] (x8n K):=by
 refine F.ok j5g (by rintro _ _ _ _⟨_,_,_,_,_,_,_,rfl,_⟩; rfl) (fun _ A _ s H vs Q E hr h=>?_)
 obtain⟨v,p,S,us,xs,W,C,rfl,hv,ok,hp,he,hw,hW,hC,q⟩:=h
 refine⟨_,@q0j _ _ _ _ _ (q7d PassesOwn.never (by rfl) (q9j (pv 1)) (q1u (i:=2) j5g.nd (by rfl) (by exact Or.inl rfl)) (@q0p _ _ _ (q0r (i:=0) j5g.nd (by rfl) (by exact Or.inl rfl) (q0n CP hr (q0z (pv 0) (q2r (q0f q0i (pv 2) (q0c) q0w) q0e))))))
  (@q0p _ _ _ (q0q (pv 0))),?_⟩
 have hl:=he.length
 refine⟨_,rfl,p,rfl,⟨_,SqT.of hp⟩,x5z (K:=K) (a:=p) (xs:=us) (fun i σ H'=>∃ (v':V) (t2:Option V),σ=[some v',some (.ref p),t2]∧StV H' v' (q3l S (xs.take i))∧q1l H H')
  ⟨v,none,rfl,by rw [List.take_zero]; exact hv,q1l.refl _⟩ (fun i σ H' _ ⟨_,_,_,_,s1⟩=>SqT.of (s1 _ _ hp)) ?_ ?_⟩
 ·rintro i x σ H' hx ⟨v',t2,rfl,hv',s1⟩
  have hi:i < xs.length:=by rw [← hl]; exact (List.getElem?_eq_some_iff.mp hx).1
  obtain⟨p1,t1,u1,g1,hp1,hu1⟩:=(he.same s1).get hi
  rw [g1] at hx
  cases hx
  refine⟨_,rfl,_,rfl,p1,_,_,u1,rfl,rfl,SqT.of hp1,q0a (j:=1) rfl,v',u1,_,xs[i],W,C,rfl,hv',q8t ok fun y hy=>hw y (List.mem_of_mem_take hy),hu1,hw _ (List.getElem_mem hi),hW,hC,fun r H2 hr2 s2=>?_⟩
  rw [← x4r S xs hi] at hr2
  exact⟨r,_,rfl,hr2,s1.trans s2⟩
 ·rintro σ H' ⟨v',t2,rfl,hv',s1⟩
  rw [List.take_of_length_le (by omega)] at hv'
  exact⟨_,rfl,q v' H' hv' s1⟩
end
structure Hd4 where
 tm:Int
 log:List En
 c:Nat
noncomputable def x1l (L M:List En):Prop:=∀ (k:Nat) (e e':En),L[k]? = some e→M[k]? = some e'→e.1=e'.1→L.take (k+1)=M.take (k+1)
theorem x1l.symm {L M:List En} (h:x1l L M):x1l M L:=fun k e e' h1 h2 h3=>(h k e' e h2 h1 h3.symm).symm
theorem x1l.refl (L:List En):x1l L L:=fun k e e' h1 h2 _=>rfl
theorem x7h {L M:List En} (h:L <+: M) {k:Nat} (hk:k≤L.length):L.take k=M.take k:=by
 obtain⟨r,rfl⟩:=h
 rw [List.take_append_of_le_length hk]
theorem x1l.pre {L L' M:List En} (h:x1l L M) (hp:L' <+: L):x1l L' M:=fun k e e' h1 h2 h3=>by
 have hk:=(List.getElem?_eq_some_iff.mp h1).1
 rw [x7h hp (by omega)]
 refine h k e e' ?_ h2 h3
 obtain⟨r,rfl⟩:=hp
 rw [List.getElem?_append_left hk]; exact h1
theorem x1l.new {L M r:List En} {n:Nat} {t:Int} (h:x1l L M) (hM:∀ e∈M,e.1 < t) (hr:∀ e∈r,e.1=t):x1l (L.take n++r) M:=fun k e e' h1 h2 h3=>by
 by_cases hk:k < (L.take n).length
 ·rw [List.getElem?_append_left hk] at h1
  have hk':=hk
  rw [List.length_take] at hk'
  rw [List.take_append_of_le_length (by omega),List.take_take,Nat.min_eq_left (by omega)]
  refine h k e e' ?_ h2 h3
  rw [List.getElem?_take_of_lt (by omega)] at h1
  exact h1
 ·rw [List.getElem?_append_right (by omega)] at h1
  have z1:=hr e (List.mem_of_getElem? h1)
  have z2:=hM e' (List.mem_of_getElem? h2)
  omega
structure Wld (ws:List Hd4):Prop where
 inc:ws.Pairwise fun a b=>a.tm < b.tm
 cl:∀ h∈ws,h.c≤h.log.length
 tl:∀ h∈ws,∀ e∈h.log,e.1≤h.tm
 lm:ws.Pairwise fun a b=>x1l a.log b.log
 cm:ws.Pairwise fun a b=>a.c≤b.c∧b.log.take a.c=a.log.take a.c
theorem Wld.snoc {ws:List Hd4} {h:Hd4} (W:Wld ws) (i:∀ a∈ws,a.tm < h.tm) (c:h.c≤h.log.length) (t:∀ e∈h.log,e.1≤h.tm) (l:∀ a∈ws,x1l a.log h.log) (m:∀ a∈ws,a.c≤h.c∧h.log.take a.c=a.log.take a.c):Wld (ws++[h]):=by
 have one:∀ {P:Hd4→Hd4→Prop},ws.Pairwise P→(∀ a∈ws,P a h)→(ws++[h]).Pairwise P:=fun hp ha=>List.pairwise_append.mpr ⟨hp,by simp,fun a ha' b hb=>by rw [List.mem_singleton.mp hb]; exact ha a ha'⟩
 refine⟨one W.inc i,fun a ha=>?_,fun a ha=>?_,one W.lm l,one W.cm m⟩
 ·rcases List.mem_append.mp ha with z | z
  ·exact W.cl a z
  ·rw [List.mem_singleton.mp z]; exact c
 ·rcases List.mem_append.mp ha with z | z
  ·exact W.tl a z
  ·rw [List.mem_singleton.mp z]; exact t
theorem Wld.cut {ws:List Hd4} {h:Hd4} (W:Wld (ws++[h])):Wld ws∧(∀ a∈ws,a.tm < h.tm)∧(∀ a∈ws,x1l a.log h.log)∧∀ a∈ws,a.c≤h.c∧h.log.take a.c=a.log.take a.c:=by
 have i:=List.pairwise_append.mp W.inc
 have l:=List.pairwise_append.mp W.lm
 have m:=List.pairwise_append.mp W.cm
 exact⟨⟨i.1,fun a ha=>W.cl a (List.mem_append_left _ ha),fun a ha=>W.tl a (List.mem_append_left _ ha),l.1,m.1⟩,fun a ha=>i.2.2 a ha h (by simp),fun a ha=>l.2.2 a ha h (by simp),fun a ha=>m.2.2 a ha h (by simp)⟩
theorem Wld.grow {ws:List Hd4} {h:Hd4} (W:Wld (ws++[h])) {r:List En} (hr:∀ e∈r,e.1=h.tm):Wld (ws++[{ h with log:=h.log++r }]):=by
 obtain⟨W0,i,l,m⟩:=W.cut
 have ch:=W.cl h (by simp)
 refine W0.snoc i (by show h.c≤(h.log++r).length; rw [List.length_append]; omega) (fun e he=>?_) (fun a ha=>?_) (fun a ha=>?_)
 ·rcases List.mem_append.mp he with z | z
  ·exact W.tl h (by simp) e z
  ·exact Int.le_of_eq (hr e z)
 ·have:=x1l.new (n:=h.log.length) (r:=r) (t:=h.tm) (l a ha).symm (fun e he=>by have:=W0.tl a ha e he; have:=i a ha; omega) hr
  rw [List.take_length] at this
  exact this.symm
 ·refine⟨(m a ha).1,?_⟩
  show (h.log++r).take a.c=_
  rw [List.take_append_of_le_length (by have:=(m a ha).1; omega)]
  exact (m a ha).2
theorem Wld.agree {ws:List Hd4} {h:Hd4} (W:Wld (ws++[h])) {c:Nat} (h1:h.c≤c) (h2:c≤h.log.length):Wld (ws++[{ h with c:=c }]):=by
 obtain⟨W0,i,l,m⟩:=W.cut
 exact W0.snoc i h2 (W.tl h (by simp)) l fun a ha=>⟨Nat.le_trans (m a ha).1 h1,(m a ha).2⟩
theorem Wld.next {ws:List Hd4} {h:Hd4} (W:Wld (ws++[h])) {t:Int} {n:Nat} {r:List En} (ht:h.tm < t) (hn:h.c≤n) (hr:∀ e∈r,e.1=t):Wld ((ws++[h])++[⟨t,h.log.take n++r,h.c⟩]):=by
 obtain⟨W0,i,l,m⟩:=W.cut
 have ch:=W.cl h (by simp)
 have lt:∀ a∈ws++[h],a.tm≤h.tm:=fun a ha=>by
  rcases List.mem_append.mp ha with z | z
  ·have:=i a z; omega
  ·rw [List.mem_singleton.mp z]; omega
 have tk:∀ k,k≤h.c→(h.log.take n++r).take k=h.log.take k:=fun k hk=>by
  rw [List.take_append_of_le_length (by rw [List.length_take]; omega),List.take_take,Nat.min_eq_left (by omega)]
 refine W.snoc (fun a ha=>by have:=lt a ha; show a.tm < t; omega) (by show h.c≤(h.log.take n++r).length; rw [List.length_append,List.length_take]; omega) (fun e he=>?_) (fun a ha=>?_) (fun a ha=>?_)
 ·rcases List.mem_append.mp he with z | z
  ·have:=W.tl h (by simp) e (List.mem_of_mem_take z); show e.1≤t; omega
  ·exact Int.le_of_eq (hr e z)
 ·refine (x1l.new (t:=t) (L:=h.log) (M:=a.log) ?_ (fun e he=>by have:=W.tl a ha e he; have:=lt a ha; omega) hr).symm
  rcases List.mem_append.mp ha with z | z
  ·exact (l a z).symm
  ·rw [List.mem_singleton.mp z]; exact x1l.refl _
 ·rcases List.mem_append.mp ha with z | z
  ·exact⟨(m a z).1,by show (h.log.take n++r).take a.c=_; rw [tk _ (m a z).1]; exact (m a z).2⟩
  ·rw [List.mem_singleton.mp z]; exact⟨Nat.le_refl _,tk _ (Nat.le_refl _)⟩
theorem Wld.lmat {ws:List Hd4} (W:Wld ws) {a b:Hd4} (ha:a∈ws) (hb:b∈ws):x1l a.log b.log:=by
 obtain⟨i,hi,rfl⟩:=List.mem_iff_getElem.mp ha
 obtain⟨j,hj,rfl⟩:=List.mem_iff_getElem.mp hb
 rcases Nat.lt_trichotomy i j with z | z | z
 ·exact List.pairwise_iff_getElem.mp W.lm i j hi hj z
 ·subst z; exact x1l.refl _
 ·exact (List.pairwise_iff_getElem.mp W.lm j i hj hi z).symm
theorem Wld.later {ws:List Hd4} (W:Wld ws) {a b:Hd4} (ha:a∈ws) (hb:b∈ws) (h:a.tm≤b.tm) {k:Nat} (hk:k≤a.c):b.log.take k=a.log.take k:=by
 obtain⟨i,hi,rfl⟩:=List.mem_iff_getElem.mp ha
 obtain⟨j,hj,rfl⟩:=List.mem_iff_getElem.mp hb
 rcases Nat.lt_trichotomy i j with z | z | z
 ·have:=(List.pairwise_iff_getElem.mp W.cm i j hi hj z).2
  have e:=congrArg (List.take k) this
  rwa [List.take_take,List.take_take,Nat.min_eq_left hk] at e
 ·subst z; rfl
 ·have:=List.pairwise_iff_getElem.mp W.inc j i hj hi z
  omega
noncomputable def x1k (L:List En) (p:Nat) (e:En):Bool:=match L[p]? with
 | some x=>decide (x.1≠e.1)
 | none=>true
noncomputable def q2e (b:Nat) (L:List En):Nat→List En→List En
 | _,[]=>L
 | p,e::r=>if b≤p∧x1k L p e=true then L.take p++e::r else q2e b L (p+1) r
theorem z3f {M:List En} {e:En} {r:List En} {p:Nat} (h:e::r=(M.drop p).take (r.length+1)) (hp:p+(r.length+1)≤M.length):M[p]? = some e∧r=(M.drop (p+1)).take r.length:=by
 have hlt:p < M.length:=by omega
 rw [List.drop_eq_getElem_cons hlt,List.take_succ_cons] at h
 obtain⟨e1,e2⟩:=List.cons.inj h
 exact⟨by rw [e1]; exact List.getElem?_eq_getElem hlt,e2⟩
theorem q5b {L M:List En} {a k:Nat} (h:L.take a=M.take a) (hk:k≤a):L.take k=M.take k:=by
 have e:=congrArg (List.take k) h
 rwa [List.take_take,List.take_take,Nat.min_eq_left hk] at e
theorem z5g {L M:List En} {a k:Nat} (h:L.take a=M.take a) (hk:k < a):L[k]? = M[k]? := by
 have e:=congrArg (·[k]?) h
 simpa [List.getElem?_take_of_lt hk] using e
structure FillG (L M L':List En) (a e:Nat):Prop where
 is:L'=L∨L'=M.take e
 le:e≤L'.length
 tk:L'.take e=M.take e
 al:a≤L'.length
 at_:L'.take a=L.take a
theorem z1i {L M:List En} {a b:Nat} (lm:x1l L M) (ha:L.take a=M.take a) (hal:a≤L.length) (hba:b≤a):∀ (es:List En) (p:Nat),es=(M.drop p).take es.length→p+es.length≤M.length→(p < b∨(p≤L.length∧L.take p=M.take p))→FillG L M (q2e b L p es) a (p+es.length)
 | [],p,_,_,h=>by
  refine⟨.inl rfl,?_,?_,hal,rfl⟩
  ·show p+0≤L.length
   rcases h with h | h <;> omega
  ·show L.take (p+0)=_
   rcases h with h | h
   ·exact q5b ha (by simp; omega)
   ·exact h.2
 | e::r,p,he,hp,h=>by
  rw [List.length_cons] at he hp
  obtain⟨hM,hr⟩:=z3f he hp
  have ep:p+(e::r).length=p+1+r.length:=by rw [List.length_cons]; omega
  rw [ep]
  unfold q2e
  by_cases hc:b≤p∧x1k L p e=true
  ·rw [if_pos hc]
   obtain⟨hpl,htk⟩:p≤L.length∧L.take p=M.take p:=by
    rcases h with h | h
    ·omega
    ·exact h
   have hpa:a≤p:=by
    rcases Nat.lt_or_ge p a with z | z
    ·have:=z5g ha z
     have ho:=hc.2
     unfold x1k at ho
     rw [this,hM] at ho
     exact absurd rfl (of_decide_eq_true ho)
    ·exact z
   have hL:L.take p++e::r=M.take (p+1+r.length):=by
    rw [htk,he,← List.take_add,show p+(r.length+1)=p+1+r.length by omega]
   rw [hL]
   have hml:(M.take (p+1+r.length)).length=p+1+r.length:=by rw [List.length_take]; omega
   refine⟨.inr rfl,by omega,by rw [List.take_take,Nat.min_self],by omega,?_⟩
   rw [List.take_take,Nat.min_eq_left (by omega)]
   exact ha.symm
  ·rw [if_neg hc]
   refine z1i lm ha hal hba r (p+1) hr (by omega) ?_
   by_cases hb:p+1 < b
   ·exact .inl hb
   refine .inr ?_
   by_cases hpb:p < b
   ·exact⟨by omega,q5b ha (by omega)⟩
   have ho:x1k L p e=false:=by
    cases z:x1k L p e with
    | false=>rfl
    | true=>exact absurd ⟨by omega,z⟩ hc
   unfold x1k at ho
   cases hx:L[p]? with
   | none=>rw [hx] at ho; cases ho
   | some x =>
    rw [hx] at ho
    have hxe:x.1=e.1:=by
     have:=of_decide_eq_false ho
     exact Classical.not_not.mp this
    exact⟨(List.getElem?_eq_some_iff.mp hx).1,lm p x e hx hM hxe⟩
structure Own4 (ws:List Hd4) (t:Int) (L:List En) (b a:Nat):Prop where
 pre:L=[]∨∃ h∈ws,L <+: h.log
 ba:b≤a
 al:a≤L.length
 ag:a=0∨∃ h∈ws,h.tm≤t∧a≤h.c∧L.take a=h.log.take a
theorem Own4.later {ws:List Hd4} {t t':Int} {L:List En} {b a:Nat} (o:Own4 ws t L b a) (h:t≤t'):Own4 ws t' L b a:=⟨o.pre,o.ba,o.al,o.ag.imp id fun⟨g,hg,h1,h2,h3⟩=>⟨g,hg,by omega,h2,h3⟩⟩
theorem Own4.lmat {ws:List Hd4} {t:Int} {L:List En} {b a:Nat} (o:Own4 ws t L b a) (W:Wld ws) {h:Hd4} (hh:h∈ws):x1l L h.log:=by
 rcases o.pre with rfl | ⟨g,hg,hp⟩
 ·intro k e e' h1; cases h1
 ·exact (W.lmat hg hh).pre hp
theorem Own4.head {ws:List Hd4} {t:Int} {L:List En} {b a:Nat} (o:Own4 ws t L b a) (W:Wld ws) {h:Hd4} (hh:h∈ws) (ht:t≤h.tm):L.take a=h.log.take a:=by
 rcases o.ag with rfl | ⟨g,hg,h1,h2,h3⟩
 ·rw [List.take_zero,List.take_zero]
 ·rw [h3]; exact (W.later hg hh (by omega) h2).symm
theorem Own4.hand {ws:List Hd4} {t:Int} {L:List En} {b a:Nat} (o:Own4 ws t L b a) (W:Wld ws) {h:Hd4} (hh:h∈ws) (ht:t≤h.tm) {p g:Nat} {es:List En} (he:es=(h.log.drop p).take es.length) (hp:p+es.length≤h.log.length) (hs:p < b∨(p≤L.length∧L.take p=h.log.take p)) (hg:g≤h.c) :
  Own4 ws h.tm (q2e b L p es) b (max a (min g (p+es.length)))∧(q2e b L p es).take a=L.take a∧FillG L h.log (q2e b L p es) a (p+es.length):=by
 have G:=z1i (o.lmat W hh) (o.head W hh ht) o.al o.ba es p he hp hs
 refine⟨⟨?_,by have:=o.ba; omega,?_,?_⟩,G.at_,G⟩
 ·rcases G.is with e | e
  ·rw [e]; exact o.pre
  ·rw [e]; exact .inr ⟨h,hh,List.take_prefix _ _⟩
 ·have:=G.al; have:=G.le; omega
 ·rcases Nat.lt_or_ge a (min g (p+es.length)) with z | z
  ·refine .inr ⟨h,hh,Int.le_refl _,by omega,?_⟩
   exact q5b G.tk (by omega)
  ·rw [Nat.max_eq_left z]
   rcases o.ag with r | ⟨k,hk,h1,h2,h3⟩
   ·exact .inl r
   ·exact .inr ⟨k,hk,by omega,h2,by rw [G.at_]; exact h3⟩
theorem Own4.pack {ws:List Hd4} {t:Int} {L:List En} {b a:Nat} (o:Own4 ws t L b a) (W:Wld ws) {h:Hd4} (hh:h∈ws) {p:Nat} (hp:p≤h.c) (hpa:a < p) (e:(∃ x y,L[p - 1]? = some x∧h.log[p - 1]? = some y∧x.1=y.1)∨True) :
  (∀ x y,L[p - 1]? = some x→h.log[p - 1]? = some y→x.1=y.1→Own4 ws h.tm L p p∧L.take p=h.log.take p)∧Own4 ws h.tm (h.log.take p) p p:=by
 have hl:=W.cl h hh
 refine⟨fun x y hx hy hxy=>?_,⟨.inr ⟨h,hh,List.take_prefix _ _⟩,Nat.le_refl _,by rw [List.length_take]; omega,.inr ⟨h,hh,Int.le_refl _,hp,by rw [List.take_take,Nat.min_self]⟩⟩⟩
 have htk:=o.lmat W hh (p - 1) x y hx hy hxy
 rw [Nat.sub_add_cancel (by omega)] at htk
 have hx':=(List.getElem?_eq_some_iff.mp hx).1
 exact⟨⟨o.pre,Nat.le_refl _,by omega,.inr ⟨h,hh,Int.le_refl _,hp,htk⟩⟩,htk⟩
theorem Own4.mono {ws ws':List Hd4} {t:Int} {L:List En} {b a:Nat} (o:Own4 ws t L b a) (hw:∀ h∈ws,∃ h'∈ws',h'.tm=h.tm∧h.log <+: h'.log∧h.c≤h'.c) (hc:∀ h∈ws,h.c≤h.log.length):Own4 ws' t L b a:=by
 refine⟨?_,o.ba,o.al,?_⟩
 ·rcases o.pre with r | ⟨h,hh,hp⟩
  ·exact .inl r
  ·obtain⟨h',hh',_,hp',_⟩:=hw h hh
   exact .inr ⟨h',hh',hp.trans hp'⟩
 ·rcases o.ag with r | ⟨h,hh,h1,h2,h3⟩
  ·exact .inl r
  ·obtain⟨h',hh',e1,hp',h4⟩:=hw h hh
   exact .inr ⟨h',hh',by omega,by omega,by rw [h3]; exact x7h hp' (by have:=hc h hh; omega)⟩
theorem x2i {b:Nat} {L:List En}:∀ (es:List En) (p:Nat),p≤b→q2e b L p es=q2e b L b (es.drop (b - p))
 | [],p,_=>by rw [List.drop_nil]; rfl
 | e::r,p,h=>by
  rcases Nat.lt_or_ge p b with z | z
  ·rw [show b - p=(b - (p+1))+1 by omega,List.drop_succ_cons,← x2i r (p+1) (by omega)]
   show (if b≤p∧x1k L p e=true then L.take p++e::r else q2e b L (p+1) r)=_
   rw [if_neg (fun h=>by omega)]
  ·have:p=b:=by omega
   subst this
   rw [Nat.sub_self,List.drop_zero]
theorem x2j {b:Nat} {L:List En}:∀ (es:List En) (p:Nat),b≤p→q2e b L p es=if q2w ((L.drop p).map (·.1)) (es.map (·.1))=es.length then L else L.take (p+q2w ((L.drop p).map (·.1)) (es.map (·.1)))++es.drop (q2w ((L.drop p).map (·.1)) (es.map (·.1)))
 | [],p,_=>by
  have:q2w ((L.drop p).map (·.1)) (([]:List En).map (·.1))=0:=by
   cases (L.drop p).map (·.1) <;> rfl
  rw [this]; rfl
 | e::r,p,h=>by
  show (if b≤p∧x1k L p e=true then L.take p++e::r else q2e b L (p+1) r)=_
  cases hx:L[p]? with
  | none =>
   have hd:L.drop p=[]:=List.drop_eq_nil_of_le (by have:=List.getElem?_eq_none_iff.mp hx; omega)
   rw [hd]
   have ho:x1k L p e=true:=by unfold x1k; rw [hx]
   rw [if_pos ⟨h,ho⟩]
   show _=if 0=r.length+1 then L else L.take (p+0)++e::r
   rw [if_neg (by omega),Nat.add_zero]
  | some x =>
   obtain⟨hp,rfl⟩:=List.getElem?_eq_some_iff.mp hx
   rw [List.drop_eq_getElem_cons hp,List.map_cons,List.map_cons]
   by_cases hxe:(L[p]).1=e.1
   ·have ho:x1k L p e=false:=by unfold x1k; rw [hx]; exact decide_eq_false (fun z=>z hxe)
    rw [if_neg (fun z=>by rw [ho] at z; exact absurd z.2 Bool.false_ne_true),x2j r (p+1) (by omega)]
    have hs:q2w ((L[p]).1::(L.drop (p+1)).map (·.1)) (e.1::r.map (·.1))=q2w ((L.drop (p+1)).map (·.1)) (r.map (·.1))+1:=by
     show (if (L[p]).1=e.1 then _ else 0)=_
     rw [if_pos hxe]
    rw [hs,List.length_cons,List.drop_succ_cons]
    by_cases hc:q2w ((L.drop (p+1)).map (·.1)) (r.map (·.1))=r.length
    ·rw [if_pos hc,if_pos (by omega)]
    ·rw [if_neg hc,if_neg (by omega),show p+1+q2w ((L.drop (p+1)).map (·.1)) (r.map (·.1))=p+(q2w ((L.drop (p+1)).map (·.1)) (r.map (·.1))+1) by omega]
   ·have ho:x1k L p e=true:=by unfold x1k; rw [hx]; exact decide_eq_true hxe
    rw [if_pos ⟨h,ho⟩]
    have hs:q2w ((L[p]).1::(L.drop (p+1)).map (·.1)) (e.1::r.map (·.1))=0:=by
     show (if (L[p]).1=e.1 then _ else 0)=_
     rw [if_neg hxe]
    rw [hs,if_neg (by rw [List.length_cons]; omega)]
    rfl
theorem z5f {b p:Nat} {L es:List En} (hb:b≤L.length):(q2e b L p es).drop b=if q6c (b:Int) (p:Int) ((L.drop b).map (·.1)) (es.map (·.1))=((es.map (·.1)).drop (q6k (b:Int) (p:Int))).length then L.drop b else (L.drop b).take (z3u (b:Int) (p:Int)+q6c (b:Int) (p:Int) ((L.drop b).map (·.1)) (es.map (·.1)))++es.drop (q6k (b:Int) (p:Int)+q6c (b:Int) (p:Int) ((L.drop b).map (·.1)) (es.map (·.1))):=by
 have hst:z4b (b:Int) (p:Int)=((max p b:Nat):Int):=by unfold z4b; split <;> omega
 have hc:q6k (b:Int) (p:Int)=max p b - p:=by unfold q6k; rw [hst]; omega
 have ho:z3u (b:Int) (p:Int)=max p b - b:=by unfold z3u; rw [hst]; omega
 unfold q6c
 rw [hc,ho,← List.map_drop,← List.map_drop,List.drop_drop,List.length_map]
 have hm:b+(max p b - b)=max p b:=by omega
 rw [hm]
 have hf:q2e b L p es=q2e b L (max p b) (es.drop (max p b - p)):=by
  rcases Nat.lt_or_ge p b with z | z
  ·rw [Nat.max_eq_right (by omega)]; exact x2i es p (by omega)
  ·rw [Nat.max_eq_left z,Nat.sub_self,List.drop_zero]
 rw [hf,x2j _ _ (by omega)]
 by_cases hz:q2w ((L.drop (max p b)).map (·.1)) ((es.drop (max p b - p)).map (·.1))=(es.drop (max p b - p)).length
 ·rw [if_pos hz,if_pos hz]
 ·rw [if_neg hz,if_neg hz]
  generalize q2w ((L.drop (max p b)).map (·.1)) ((es.drop (max p b - p)).map (·.1))=n
  rw [List.drop_append_of_le_length (by rw [List.length_take]; omega),List.drop_take,List.drop_drop,show max p b+n - b=max p b - b+n by omega]
section
variable {P:Program} {w:World} {K:Frag} {mg:Str→Option Value} {base:Heap}
structure KpW (W C:List Str) (k:Kst):Prop where
 es:∀ e∈k.es,x3v W C e.2
 so:StoOk W C k.S
 po:StoOk W C k.P.so
 w:W.length≤60
 c:C.length≤60
noncomputable def q5f (k:Kst) (pl:Int):Kst:=if pl > k.ag then { k with S:=q3l k.S (((k.es.drop (k.ag - k.b).toNat).take (pl - k.ag).toNat).map (·.2)),ag:=pl } else k
noncomputable def j5o (C:Addr):Sp:=fun vs H Q _=>∃ (a:Addr) (pl:Int) (k:Kst) (W Cs:List Str),vs=[.ref a,.int pl]∧K2V C H a k∧KpOk k∧KpW W Cs k∧k.b≤k.ag∧k.ag≤k.b+(k.es.length:Int)∧pl≤k.b+(k.es.length:Int)∧∀ H',K2V C H' a (q5f k pl)→Off a H H'→Q .non H'
theorem j7b:FnScope ["keeper", "place", "entries"] ["keeper", "place"] (q0h q5t):=fSc
theorem j6h {f:Addr} {fd:FuncData} {C:Addr} (Y:KpC K C) (F:Fun K "know_agreed" "know_agreed" q5t f fd) (CB:Cal P w K mg base "behind" 2 ["row", "place", "many"] (z1r K)) (CR:Cal P w K mg base "replayed" 6 ["store", "entries"] (x8n K)):FnOk P w K mg base CX0 7 f fd ["keeper", "place"] (j5o C):=by
 refine F.ok j7b (by rintro _ _ _ _⟨_,_,_,_,_,rfl,_⟩; rfl) (fun _ A _ s H vs Q E hr h=>?_)
 obtain⟨a,pl,k,W,Cs,rfl,hk,ko,kw,hba,hae,hpe,q⟩:=h
 have r2:=hr.mono (show 2≤6 by decide)
 refine⟨_,@q0p _ _ _ (q1g (q0m q4g (pv 1) (q1e (pv 0) (by rfl)) (q0o _))
  (@q0j _ _ _ _ _ (q0r (i:=2) j7b.nd (by rfl) (by exact Or.inl rfl) (q0n CB r2 (q1k (q1e (pv 0) (by rfl)) (q1k (q1e (pv 0) (by rfl)) (q9d (q0x q2q (pv 1) (q1e (pv 0) (by rfl))) q0e)))))
  (@q0j _ _ _ _ _ (q2d (pv 0) (q0n CR hr (q1k (q1e (pv 0) (by rfl)) (q0z (pv 2) q0e))) (by rfl))
  (@q0p _ _ _ (q2d (pv 0) (pv 1) (by rfl))))) q0u),?_⟩
 have hk':=hk
 obtain⟨dx,fs,vp,vr,vst,an,ah,av,aw,ha,f,ok,S⟩:=hk'
 refine⟨_,rfl,_,rfl,a,C,dx,fs,_,rfl,ha,Y.cl,Y.n_agreed,f.agreed,_,_,rfl,rfl,_,rfl,q4r (fun h=>?_) (fun h=>?_)⟩
 ·have hgt:pl > k.ag:=of_decide_eq_true h
  unfold q5f at q
  rw [if_pos hgt] at q
  obtain⟨us,hE,hR⟩:=S.row.row (K:=K) ko.wb (by have:=ko.es; omega)
  refine⟨_,rfl,a,C,dx,fs,_,rfl,ha,Y.cl,Y.n_row,f.row,_,rfl,a,C,dx,fs,_,rfl,ha,Y.cl,Y.n_agreed,f.agreed,_,rfl,_,rfl,a,C,dx,fs,_,rfl,ha,Y.cl,Y.n_agreed,f.agreed,_,_,rfl,rfl,?_⟩
  refine⟨vr,k.b,k.l,us,_,k.ag,pl - k.ag,rfl,hR,by omega,hba,by unfold q4e; rw [List.length_map]; exact hae,fun r H1 hr1 s1=>?_⟩
  have hE1:=(((hE.drop (k.ag - k.b).toNat).take (pl - k.ag).toNat).same s1).ew
  refine⟨_,rfl,a,C,dx,fs,_,rfl,s1 _ _ ha,Y.cl,Y.n_store,f.store,_,rfl,vst,r,k.S,_,_,W,Cs,rfl,S.store.offT (q1j s1),kw.so,hr1,hE1,fun x hx=>?_,kw.w,kw.c,fun vs2 H2 hS2 s2=>?_⟩
  ·obtain⟨e,he,rfl⟩:=List.mem_map.mp hx
   exact kw.es e (List.mem_of_mem_drop (List.mem_of_mem_take he))
  have s12:=s1.trans s2
  have ha2:=s12 _ _ ha
  refine⟨_,rfl,a,C,dx,fs,rfl,ha2,Y.cl,Y.n_store,ok.len,?_⟩
  have k1:=ok.put (f := "store") (v:=vs2) (by decide +kernel)
  have f1:=f.put_store vs2
  refine⟨_,rfl,_,rfl,a,C,dx,_,rfl,q0b,Y.cl,Y.n_agreed,k1.len,?_⟩
  have k2:=k1.put (f := "agreed") (v:=.int pl) (by decide +kernel)
  have f2:=f1.put_agreed pl
  have o2:Off a H2 _:=(q0k (o:=HO.ins C dx (L2.q1t "store" vs2 fs))).trans (q0k (o:=HO.ins C dx (L2.q1t "agreed" (.int pl) (L2.q1t "store" vs2 fs))))
  have sT:=o2.tups ha2
  have z:=S.sameT (fun b xs e=>sT b xs ((q1j s12) b xs e))
  exact q _ ⟨dx,_,vp,vr,vs2,an,ah,av,aw,q0b,f2,k2,⟨z.pack,z.row,hS2.offT sT,z.nexts,z.held,z.voices,z.waits⟩⟩ ((q1f s12).trans o2)
 ·have hle:¬ pl > k.ag:=z0c h
  unfold q5f at q
  rw [if_neg hle] at q
  exact q H hk Off.refl
end
theorem FnOk.calm {P:Program} {w:World} {K:Frag} {mg:Str→Option Value} {base:Heap} {k:Nat} {f:Addr} {fd:FuncData} {ps:List Str} {sp sp':Sp} (F:FnOk P w K mg base (CXe P w) k f fd ps sp) (h:∀ vs H Q E,sp' vs H Q E→sp vs H Q fun _ _ _=>False):FnOk P w K mg base CX0 k f fd ps sp' :=
 ⟨fun vs H Q E hh=>F.len _ _ _ _ (h _ _ _ _ hh),fun A outer s H args us vs Q E hr he hb hv hq=>codeAny_mono (F.run A outer s H args us vs Q _ hr he hb hv (h _ _ _ _ hq)) fun r s' hc=>by
  cases r with
  | ok fl=>cases fl <;> exact hc
  | error e =>
   obtain⟨_,_,_,_,_,_,_,_,_,_,_,_,_,_,_,_,hE⟩:=hc
   exact hE.elim⟩
section
variable {P:Program} {w:World} {K:Frag} {mg:Str→Option Value} {base:Heap}
noncomputable def x5o (b pl:Int) (es fs:List En):List En:=if q6c b pl (es.map (·.1)) (fs.map (·.1))=((fs.map (·.1)).drop (q6k b pl)).length then es else es.take (z3u b pl+q6c b pl (es.map (·.1)) (fs.map (·.1)))++fs.drop (q6k b pl+q6c b pl (es.map (·.1)) (fs.map (·.1)))
noncomputable def z3g:Sp:=fun vs H Q _=>∃ (v:V) (b l:Int) (es:List En) (p:Int) (fa:Addr) (fs:List V) (gs:List En),vs=[v,.int p,.ref fa]∧RwP H v b l es∧(∀ e∈es,WhB e.2)∧es.length≤200∧H fa=some (.tup fs)∧ET H fs gs∧(∀ e∈gs,WhB e.2)∧gs.length≤100∧p≤b+(es.length:Int)∧∀ (u:V) (H':Hp),RwP H' u b l (x5o b p es gs)→q1l H H'→Q u H'
theorem j8m {cP:Addr} {vs:List V} {H:Hp} {Q:VK} {E:XK} (h:z3g vs H Q E):z7c K cP vs H Q fun _ _ _=>False:=by
 obtain⟨v,b,l,es,p,fa,fs,gs,rfl,hr,hb,hl,hfa,hE,hgb,hgl,hp,q⟩:=h
 obtain⟨us,hus,hR⟩:=hr.row (K:=K) hb (by omega)
 have hep:p≤q4e b (es.map (·.1)):=by unfold q4e; rw [List.length_map]; exact hp
 refine⟨v,b,l,us,es.map (·.1),p,fa,fs,gs.map (·.1),rfl,hR,by rw [List.length_map]; omega,hfa,hE.ents hgb,by rw [List.length_map]; omega,fun _ hz H' s=>?_,fun _ hz u H' hu s=>?_,fun h=>absurd h (by omega)⟩
 ·refine q v H' ?_ s
  unfold x5o
  rw [if_pos hz]
  exact hr.same s
 ·refine q u H' ?_ s
  unfold x5o
  rw [if_neg hz]
  obtain⟨⟨rb,c,e,h1,h2⟩,_,_⟩:=hu
  exact⟨rb,c,_,e,h1,h2,((hus.same s).take _).append ((hE.same s).drop _)⟩
theorem Off.none {a l:Addr} {H H1:Hp} {u:HO} (o:Off a H H1) (h1:H1 a=some u) (h:H1 l=.none):H l=.none:=by
 cases e:H l with
 | none=>rfl
 | some v =>
  by_cases z:l=a
  ·rw [z,h1] at h; cases h
  ·rw [o _ _ z e] at h; cases h
theorem z9c {k:Kst} {pl:Int}:(q5f k pl).b=k.b∧(q5f k pl).l=k.l∧(q5f k pl).es=k.es∧(q5f k pl).num=k.num∧(q5f k pl).tm=k.tm:=by
 unfold q5f
 by_cases h:pl > k.ag
 ·rw [if_pos h]; exact⟨rfl,rfl,rfl,rfl,rfl⟩
 ·rw [if_neg h]; exact⟨rfl,rfl,rfl,rfl,rfl⟩
noncomputable def x1e (k:Kst) (one t pl:Int) (gs:List En):Kst:={ q1i k one t with es:=x5o k.b pl k.es gs }
theorem x7u {k:Kst} {one t:Int}:(q1i k one t).b=k.b∧(q1i k one t).l=k.l∧(q1i k one t).es=k.es∧(q1i k one t).ag=k.ag∧(q1i k one t).S=k.S∧(q1i k one t).P=k.P∧(q1i k one t).num=k.num:=by
 unfold q1i q3q
 by_cases h:t > k.tm
 ·rw [if_pos h]; exact⟨rfl,rfl,rfl,rfl,rfl,rfl,rfl⟩
 ·rw [if_neg h]; exact⟨rfl,rfl,rfl,rfl,rfl,rfl,rfl⟩
noncomputable def j6a (C:Addr):Sp:=fun vs H Q _=>∃ (a p e:Addr) (x:Str) (one other t pl la g:Int) (fs:List V) (gs:List En) (k:Kst) (W Cs:List Str),vs=[.ref a,.ref p]∧K2V C H a k∧KpOk k∧KpW W Cs k∧k.way ≠ "head" ∧ H p=some (.tup [.str x,.int one,.int other,.int t,.int pl,.int la,.ref e,.int g])∧H e=some (.tup fs)∧ET H fs gs∧(∀ e∈gs,WhB e.2∧x3v W Cs e.2)∧gs.length≤100∧k.b≤k.ag ∧
 (t < k.tm→∀ (l:Addr) (xs:List V) (H':Hp),H' l=some (.lst xs)→IsTL H' xs [q9e k one false (k.b+(k.es.length:Int))]→H l=none→K2V C H' a k→Off a H H'→Q (.ref l) H') ∧
 (k.tm≤t→q4z k.b k.l (tsK k) pl la=false→∀ (l:Addr) (xs:List V) (H':Hp),H' l=some (.lst xs)→IsTL H' xs [q9e (q1i k one t) one false (if k.b+(k.es.length:Int) < pl - 1 then k.b+(k.es.length:Int) else pl - 1)]→H l=none→K2V C H' a (q1i k one t)→Off a H H'→Q (.ref l) H') ∧
 (k.tm≤t→q4z k.b k.l (tsK k) pl la=true→KpOk (x1e k one t pl gs)∧k.ag≤k.b+((x1e k one t pl gs).es.length:Int)∧(if pl+(gs.length:Int) < g then pl+(gs.length:Int) else g)≤k.b+((x1e k one t pl gs).es.length:Int)∧∀ (l:Addr) (xs:List V) (H':Hp),H' l=some (.lst xs)→IsTL H' xs [q9e (q1i k one t) one true (if k.b > pl+(gs.length:Int) then k.b else pl+(gs.length:Int))]→H l=none→K2V C H' a (q5f (x1e k one t pl gs) (if pl+(gs.length:Int) < g then pl+(gs.length:Int) else g))→Off a H H'→Q (.ref l) H')
theorem j2j:FnScope ["keeper", "letter", "one", "place", "entries", "end"] ["keeper", "letter"] (q0h q7g):=fSc
theorem j6p {f:Addr} {fd:FuncData} {C:Addr} (Y:KpC K C) (F:Fun K "take_hand" "take_hand" q7g f fd) (T:Txt mg) (CF:Cal P w K mg base "took_for_head" 3 ["keeper", "letter"] (j4c C)) (CD:Cal P w K mg base "turned_down" 2 ["keeper", "letter"] (j4b C)) (CA:Cal P w K mg base "agrees" 4 ["row", "place", "last"] (q9v K)) (CH:Cal P w K mg base "held_letter" 1 ["keeper", "other", "good", "place"] (j3s C)) (CE:Cal P w K mg base "end_of" 1 ["row"] q9k) (CL:Cal P w K mg base "filled" 2 ["row", "place", "entries"] z3g) (CK:Cal P w K mg base "know_agreed" 7 ["keeper", "place"] (j5o C)):FnOk P w K mg base CX0 8 f fd ["keeper", "letter"] (j6a C):=by
 refine F.ok j2j (by rintro _ _ _ _⟨_,_,_,_,_,_,_,_,_,_,_,_,_,_,_,rfl,_⟩; rfl) (fun _ A _ s H vs Q E hr h=>?_)
 obtain⟨a,p,e,x,one,other,t,pl,la,g,fs,gs,k,W,Cs,rfl,hk,ko,kw,hw,hp,he,hE,hg,hgl,hba,q0,q1,q2⟩:=h
 have r1:=hr.mono (show 1≤7 by decide)
 have r2:=hr.mono (show 2≤7 by decide)
 have r3:=hr.mono (show 3≤7 by decide)
 have r4:=hr.mono (show 4≤7 by decide)
 refine⟨_,@q0j _ _ _ _ _ (q1g (q7e (q3c (q0n CF r3 (q0z (pv 0) (q0z (pv 1) q0e))))) (@q0p _ _ _ (q0q (q0n CD r2 (q0z (pv 0) (q0z (pv 1) q0e))))) q0u)
  (@q0j _ _ _ _ _ (q0r (i:=2) j2j.nd (by rfl) (by exact Or.inl rfl) (q0f q0i (pv 1) (q0c) q0w))
  (@q0j _ _ _ _ _ (q0r (i:=3) j2j.nd (by rfl) (by exact Or.inl rfl) (q0f q0i (pv 1) (q0c) q0w))
  (@q0j _ _ _ _ _ (q0r (i:=4) j2j.nd (by rfl) (by exact Or.inl rfl) (q0f q0i (pv 1) (q0c) q0w))
  (@q0j _ _ _ _ _ (q1g (q7e (q3c (q0n CA r4 (q1k (q1e (pv 0) (by rfl)) (q0z (pv 3) (q2r (q0f q0i (pv 1) (q0c) q0w) q0e)))))) (@q0p _ _ _ (q0q (q4f (q8r (q0n CH r1 (q0z (pv 0) (q0z (pv 2) (x3w q4v (q8r (q0l (q4a (by rfl)) (by rfl) T.min q4u (q9d (q0x q2q (pv 3) q0c) (q8r (q0n CE r1 (q1k (q1e (pv 0) (by rfl)) q0e)) q0e))) q0e))))) q0e)))) q0u)
  (@q0j _ _ _ _ _ (q2d (pv 0) (q0n CL r2 (q1k (q1e (pv 0) (by rfl)) (q0z (pv 3) (q0z (pv 4) q0e)))) (by rfl))
  (@q0j _ _ _ _ _ (q0r (i:=5) j2j.nd (by rfl) (by exact Or.inl rfl) (q0x q1o (pv 3) (q0l q0t (by rfl) T.len PySem.boot_len (q0z (pv 4) q0e))))
  (@q0j _ _ _ _ _ (q2g (q0n CK hr (q0z (pv 0) (q8r (q0l (q4a (by rfl)) (by rfl) T.min q4u (q2r (q0f q0i (pv 1) (q0c) q0w) (q0z (pv 5) q0e))) q0e))))
  (@q0p _ _ _ (q0q (q4f (q8r (q0n CH r1 (q0z (pv 0) (q0z (pv 2) (x3w q4v (q8r (q0l (q2c (by rfl)) (by rfl) T.max q2m (q0z (pv 5) (q2r (q0f q0i (q1e (pv 0) (by rfl)) q0c q0w) q0e))) q0e))))) q0e))))))))))),?_⟩
 have hk':=hk
 obtain⟨dx0,fs0,vp0,vr0,vst0,an0,ah0,av0,aw0,ha0,f0,ok0,S0⟩:=hk'
 obtain⟨eb,el,ee,eg,eS,eP,en⟩:=x7u (k:=k) (one:=one) (t:=t)
 refine⟨_,rfl,_,rfl,a,p,x,one,other,t,_,k,rfl,hk,hp,hw,fun ht H1 hk1 o1=>⟨_,rfl,?_⟩,fun ht H1 hk1 o1=>⟨_,rfl,?_⟩⟩
 ·have hp1:=(o1.tups ha0) _ _ hp
  have hk1':=hk1
  obtain⟨dx,fs1,vp,vr,vst,an,ah,av,aw,ha,f,ok,S⟩:=hk1'
  exact q2z ⟨_,rfl,_,rfl,a,p,x,one,other,t,_,k,rfl,hk1,hp1,ht,fun l xs H2 hl hI n2 s2=>q0 ht l xs H2 hl hI (o1.none ha n2) (hk1.same s2) (o1.trans (q1f s2))⟩
 have hp1:=(o1.tups ha0) _ _ hp
 have he1:=(o1.tups ha0) _ _ he
 have hE1:=hE.sameT (o1.tups ha0)
 have q1:=q1 ht
 have q2:=q2 ht
 have hk1':=hk1
 obtain⟨dx,fs1,vp,vr,vst,an,ah,av,aw,ha,f,ok,S⟩:=hk1'
 have hrow:=S.row
 rw [eb,el,ee] at hrow
 obtain⟨us,hus,hR⟩:=hrow.row (K:=K) ko.wb (by have:=ko.es; omega)
 refine q2p ⟨_,rfl,p,_,_,.int one,rfl,rfl,SqT.of hp1,q0a (j:=1) rfl,_,rfl,p,_,_,.int pl,rfl,rfl,SqT.of hp1,q0a (j:=4) rfl,_,rfl,p,_,_,.ref e,rfl,rfl,SqT.of hp1,q0a (j:=6) rfl,?_⟩
 refine⟨_,rfl,a,C,dx,fs1,_,rfl,ha,Y.cl,Y.n_row,f.row,_,rfl,_,rfl,p,_,_,.int la,rfl,rfl,SqT.of hp1,q0a (j:=5) rfl,vr,la,pl,k.b,k.l,tsK k,rfl,⟨us,hR⟩,_,rfl,?_⟩
 cases hag:q4z k.b k.l (tsK k) pl la with
 | false =>
  have q1:=q1 hag
  refine q2z ⟨_,rfl,_,rfl,_,rfl,_,_,rfl,rfl,_,rfl,a,C,dx,fs1,_,rfl,ha,Y.cl,Y.n_row,f.row,vr,k.b,k.l,k.es,rfl,hrow,_,_,rfl,a,q1i k one t,one,_,false,rfl,hk1,fun r H2 hr2 n2 s2=>⟨q1n (by show 1≤1000; decide),fun l hl=>?_⟩⟩
  have s3:=q0d (o:=HO.lst [V.ref r]) hl
  have s23:=s2.trans s3
  refine q1 l _ _ q0b (.cons (hr2.sameT (q1j s3)) .nil) (o1.none ha ?_) (hk1.same s23) (o1.trans (q1f s23))
  cases ez:H1 l with
  | none=>rfl
  | some o=>rw [s2 _ _ ez] at hl; cases hl
 | true =>
  obtain⟨ko2,hae,hpe,q2⟩:=q2 hag
  have hple:pl≤k.b+(k.es.length:Int):=by
   unfold q4z at hag
   rw [Bool.or_eq_true,Bool.and_eq_true,decide_eq_true_eq,decide_eq_true_eq] at hag
   rcases hag with z | z
   ·omega
   ·have:=z.1; unfold q4e tsK at this; rw [List.length_map] at this; exact this
  refine q2p ⟨_,rfl,a,C,dx,fs1,_,rfl,ha,Y.cl,Y.n_row,f.row,_,rfl,_,rfl,vr,k.b,k.l,k.es,pl,e,fs,gs,rfl,hrow,ko.wb,ko.es,he1,hE1,fun e he=>(hg e he).1,hgl,hple,fun u H2 hu s2=>?_⟩
  have ha2:=s2 _ _ ha
  refine⟨_,rfl,a,C,dx,fs1,rfl,ha2,Y.cl,Y.n_row,ok.len,?_⟩
  have k2:=ok.put (f := "row") (v:=u) (by decide +kernel)
  have f2:=f.put_row u
  have o2:Off a H2 _:=q0k (o:=HO.ins C dx (L2.q1t "row" u fs1))
  have sT2:=o2.tups ha2
  have z2:=S.sameT (fun b xs e=>sT2 b xs ((q1j s2) b xs e))
  have hk2:K2V C (upd H2 a (.ins C dx (L2.q1t "row" u fs1))) a (x1e k one t pl gs):=⟨dx,_,vp,u,vst,an,ah,av,aw,q0b,f2,k2,⟨z2.pack,(by
   show RwP _ u (q1i k one t).b (q1i k one t).l (x5o k.b pl k.es gs)
   rw [eb,el]
   exact hu.sameT sT2),z2.store,z2.nexts,z2.held,z2.voices,z2.waits⟩⟩
  have oA:=o1.trans ((q1f s2).trans o2)
  have he2:=(oA.tups ha0) _ _ he
  have hp2:=(oA.tups ha0) _ _ hp
  have hfl:=hE.length
  refine⟨_,rfl,_,rfl,e,_,rfl,.inr (SqT.of he2),_,_,rfl,rfl,?_⟩
  rw [hfl]
  have kw2:KpW W Cs (x1e k one t pl gs):=⟨fun e he=>?_,by show StoOk W Cs (q1i k one t).S; rw [eS]; exact kw.so,by show StoOk W Cs (q1i k one t).P.so; rw [eP]; exact kw.po,kw.w,kw.c⟩
  rotate_left
  ·have he':e∈x5o k.b pl k.es gs:=he
   unfold x5o at he'
   split at he'
   ·exact kw.es e he'
   ·rcases List.mem_append.mp he' with z | z
    ·exact kw.es e (List.mem_of_mem_take z)
    ·exact (hg e (List.mem_of_mem_drop z)).2
  refine⟨_,rfl,_,rfl,p,_,_,.int g,rfl,rfl,SqT.of hp2,q0a (j:=7) rfl,_,rfl,_,_,rfl,a,_,x1e k one t pl gs,W,Cs,rfl,hk2,ko2,kw2,by show (q1i k one t).b≤(q1i k one t).ag; rw [eb,eg]; exact hba,by show (q1i k one t).ag≤(q1i k one t).b+_; rw [eb,eg]; exact hae,by show _≤(q1i k one t).b+_; rw [eb]; exact hpe,fun H3 hk3 o3=>?_⟩
  have hk3':=hk3
  obtain⟨dx3,fs3,vp3,vr3,vst3,an3,ah3,av3,aw3,ha3,f3,ok3,S3⟩:=hk3'
  obtain⟨zb,zl,zes,zn,zt⟩:=z9c (k:=x1e k one t pl gs) (pl:=if pl+(gs.length:Int) < g then pl+(gs.length:Int) else g)
  obtain⟨rb,cc,us3,rfl,hrb,hcc,hE3⟩:=S3.row
  have eb3:(q5f (x1e k one t pl gs) (if pl+(gs.length:Int) < g then pl+(gs.length:Int) else g)).b=k.b:=zb.trans eb
  rw [eb3] at hrb
  refine⟨_,rfl,_,rfl,_,rfl,_,rfl,a,C,dx3,fs3,_,rfl,ha3,Y.cl,Y.n_row,f3.row,rb,_,_,.int k.b,rfl,rfl,SqT.of hrb,q0a (j:=0) rfl,_,_,rfl,a,_,one,_,true,rfl,hk3,fun r H4 hr4 n4 s4=>⟨q1n (by show 1≤1000; decide),fun l hl=>?_⟩⟩
  have s5:=q0d (o:=HO.lst [V.ref r]) hl
  have s45:=s4.trans s5
  have oB:=oA.trans o3
  refine q2 l _ _ q0b (.cons ?_ .nil) (oB.none ha3 ?_) (hk3.same s45) (oB.trans (q1f s45))
  ·have:=hr4.sameT (q1j s5)
   unfold q9e at this ⊢
   rw [zn,zt] at this
   exact this
  ·cases ez:H3 l with
   | none=>rfl
   | some o=>rw [s4 _ _ ez] at hl; cases hl
noncomputable def x6r (b l:Int) (es:List En) (p t:Int):List En:=if p≤q4e b (es.map (·.1))∧q2y b l (es.map (·.1)) p=t then es.drop (p - b).toNat else []
noncomputable def z0f:Sp:=fun vs H Q _=>∃ (v:V) (b l:Int) (es:List En) (p t:Int),vs=[v,.int p,.int t]∧RwP H v b l es∧(∀ e∈es,WhB e.2)∧es.length≤200∧b < p∧∀ (u:V) (H':Hp),RwP H' u p t (x6r b l es p t)→q1l H H'→Q u H'
theorem j8t {vs:List V} {H:Hp} {Q:VK} {E:XK} (h:z0f vs H Q E):z6s K vs H Q E:=by
 obtain⟨v,b,l,es,p,t,rfl,hr,hb,hl,hlt,q⟩:=h
 obtain⟨us,hus,hR⟩:=hr.row (K:=K) hb (by omega)
 refine⟨v,b,l,us,_,p,t,rfl,hR,fun h=>absurd h (by omega),fun _ h1 h2 u H' hu s=>q u H' ?_ s,fun _ hn u H' hu s=>q u H' ?_ s⟩
 ·unfold x6r
  rw [if_pos ⟨h1,h2⟩]
  obtain⟨⟨rb,c,e,g1,g2⟩,_,_⟩:=hu
  exact⟨rb,c,_,e,g1,g2,(hus.same s).drop _⟩
 ·unfold x6r
  rw [if_neg hn]
  obtain⟨⟨rb,c,e,g1,g2⟩,_,_⟩:=hu
  exact⟨rb,c,_,e,g1,g2,.nil⟩
noncomputable def z0z (k:Kst) (G:Pk):Kst:={ k with P:=G,b:=G.pl,l:=G.tm,es:=x6r k.b k.l k.es G.pl G.tm,ag:=G.pl,S:=G.so }
noncomputable def j4s (C:Addr):Sp:=fun vs H Q _=>∃ (a:Addr) (v:V) (G:Pk) (k:Kst),vs=[.ref a,v]∧K2V C H a k∧KpOk k∧PkV H v G∧k.b < G.pl∧∀ H',K2V C H' a (z0z k G)→Off a H H'→Q .non H'
theorem j9e:FnScope ["keeper", "pack"] ["keeper", "pack"] (q0h q7w):=fSc
theorem j6k {f:Addr} {fd:FuncData} {C:Addr} (Y:KpC K C) (F:Fun K "take_over" "take_over" q7w f fd) (CT:Cal P w K mg base "taken_over" 5 ["row", "place", "last"] z0f):FnOk P w K mg base CX0 6 f fd ["keeper", "pack"] (j4s C):=by
 refine F.ok j9e (by rintro _ _ _ _⟨_,_,_,_,rfl,_⟩; rfl) (fun _ A _ s H vs Q E hr h=>?_)
 obtain⟨a,v,G,k,rfl,hk,ko,hG,hlt,q⟩:=h
 refine⟨_,@q0j _ _ _ _ _ (q2d (pv 0) (q0n CT hr (q1k (q1e (pv 0) (by rfl)) (q2r (q0f q0i (pv 1) q0c q0w) (q2r (q0f q0i (pv 1) q0c q0w) q0e)))) (by rfl))
  (@q0j _ _ _ _ _ (q2d (pv 0) (pv 1) (by rfl))
  (@q0j _ _ _ _ _ (q2d (pv 0) (q0f q0i (pv 1) q0c q0w) (by rfl))
  (@q0p _ _ _ (q2d (pv 0) (q0f q0i (pv 1) q0c q0w) (by rfl))))),?_⟩
 have hk':=hk
 obtain⟨dx,fs,vp,vr,vst,an,ah,av,aw,ha,f,ok,S⟩:=hk'
 have hG':=hG
 obtain⟨pp,pq,pu,rfl,hpp,hpq,hpu⟩:=hG'
 refine⟨_,rfl,a,C,dx,fs,_,rfl,ha,Y.cl,Y.n_row,f.row,_,rfl,pp,_,_,.int G.pl,rfl,rfl,SqT.of hpp,q0a (j:=0) rfl,_,rfl,pp,_,_,.int G.tm,rfl,rfl,SqT.of hpp,q0a (j:=1) rfl,vr,k.b,k.l,k.es,G.pl,G.tm,rfl,S.row,ko.wb,ko.es,hlt,fun u H1 hu s1=>?_⟩
 have ha1:=s1 _ _ ha
 have np:pp≠a:=fun z=>by rw [z,ha] at hpp; cases hpp
 have hpp1:=s1 _ _ hpp
 refine⟨_,rfl,a,C,dx,fs,rfl,ha1,Y.cl,Y.n_row,ok.len,?_⟩
 have k1:=ok.put (f := "row") (v:=u) (by decide +kernel)
 have f1:=f.put_row u
 refine⟨_,rfl,_,rfl,a,C,dx,_,rfl,q0b,Y.cl,Y.n_pack,k1.len,?_⟩
 have k2:=k1.put (f := "pack") (v:=.ref pp) (by decide +kernel)
 have f2:=f1.put_pack (.ref pp)
 refine⟨_,rfl,pp,_,_,.int G.pl,rfl,rfl,SqT.of (q0k _ _ np (q0k _ _ np hpp1)),q0a (j:=0) rfl,_,rfl,a,C,dx,_,rfl,q0b,Y.cl,Y.n_agreed,k2.len,?_⟩
 have k3:=k2.put (f := "agreed") (v:=.int G.pl) (by decide +kernel)
 have f3:=f2.put_agreed G.pl
 refine⟨_,rfl,pp,_,_,pu,rfl,rfl,SqT.of (q0k _ _ np (q0k _ _ np (q0k _ _ np hpp1))),q0a (j:=3) rfl,_,rfl,a,C,dx,_,rfl,q0b,Y.cl,Y.n_store,k3.len,?_⟩
 have k4:=k3.put (f := "store") (v:=pu) (by decide +kernel)
 have f4:=f3.put_store pu
 have o4:Off a H1 _:=(q0k (o:=HO.ins C dx (L2.q1t "row" u fs))).trans ((q0k (o:=HO.ins C dx (L2.q1t "pack" (.ref pp) (L2.q1t "row" u fs)))).trans ((q0k (o:=HO.ins C dx (L2.q1t "agreed" (.int G.pl) (L2.q1t "pack" (.ref pp) (L2.q1t "row" u fs))))).trans (q0k (o:=HO.ins C dx (L2.q1t "store" pu (L2.q1t "agreed" (.int G.pl) (L2.q1t "pack" (.ref pp) (L2.q1t "row" u fs))))))))
 have sT:=o4.tups ha1
 have sA:q2o H _:=fun b xs e=>sT b xs ((q1j s1) b xs e)
 have z:=S.sameT sA
 exact q _ ⟨dx,_,.ref pp,u,pu,an,ah,av,aw,q0b,f4,k4,⟨hG.offT sA,hu.sameT sT,hpu.offT sA,z.nexts,z.held,z.voices,z.waits⟩⟩ ((q1f s1).trans o4)
noncomputable def j5d (C:Addr):Sp:=fun vs H Q _=>∃ (a p:Addr) (v:V) (x:Str) (one other t:Int) (G:Pk) (k:Kst),vs=[.ref a,.ref p]∧K2V C H a k∧KpOk k∧k.way ≠ "head" ∧ H p=some (.tup [.str x,.int one,.int other,.int t,v])∧PkV H v G∧k.b≤k.ag ∧
 (t < k.tm→∀ (l:Addr) (xs:List V) (H':Hp),H' l=some (.lst xs)→IsTL H' xs [q9e k one false (k.b+(k.es.length:Int))]→H l=none→K2V C H' a k→Off a H H'→Q (.ref l) H') ∧
 (k.tm≤t→∀ (l:Addr) (xs:List V) (H':Hp),H' l=some (.lst xs)→IsTL H' xs [q9e (q1i k one t) one true G.pl]→H l=none→K2V C H' a (if G.pl > k.ag then z0z (q1i k one t) G else q1i k one t)→Off a H H'→Q (.ref l) H')
theorem j7f:FnScope ["keeper", "letter", "pack"] ["keeper", "letter"] (q0h q7v):=fSc
theorem z1v {k:Kst} (h:KpOk k) {one t:Int}:KpOk (q1i k one t):=by
 have z:=z1s h (t:=t)
 unfold q1i
 exact⟨z.up,z.low,z.some,z.num,z.tm,z.es,z.wb,Nat.zero_le _,z.few⟩
theorem j6o {f:Addr} {fd:FuncData} {C:Addr} (Y:KpC K C) (F:Fun K "take_pack" "take_pack" q7v f fd) (CF:Cal P w K mg base "took_for_head" 3 ["keeper", "letter"] (j4c C)) (CD:Cal P w K mg base "turned_down" 2 ["keeper", "letter"] (j4b C)) (CO:Cal P w K mg base "take_over" 6 ["keeper", "pack"] (j4s C)) (CH:Cal P w K mg base "held_letter" 1 ["keeper", "other", "good", "place"] (j3s C)):FnOk P w K mg base CX0 7 f fd ["keeper", "letter"] (j5d C):=by
 refine F.ok j7f (by rintro _ _ _ _⟨_,_,_,_,_,_,_,_,_,rfl,_⟩; rfl) (fun _ A _ s H vs Q E hr h=>?_)
 obtain⟨a,p,v,x,one,other,t,G,k,rfl,hk,ko,hw,hp,hG,hba,q0,q1⟩:=h
 have r1:=hr.mono (show 1≤6 by decide)
 have r2:=hr.mono (show 2≤6 by decide)
 have r3:=hr.mono (show 3≤6 by decide)
 refine⟨_,@q0j _ _ _ _ _ (q1g (q7e (q3c (q0n CF r3 (q0z (pv 0) (q0z (pv 1) q0e))))) (@q0p _ _ _ (q0q (q0n CD r2 (q0z (pv 0) (q0z (pv 1) q0e))))) q0u)
  (@q0j _ _ _ _ _ (q0r (i:=2) j7f.nd (by rfl) (by exact Or.inl rfl) (q0f q0i (pv 1) (q0c) q0w))
  (@q0j _ _ _ _ _ (q1g (q0m q4g (q0f q0i (pv 2) q0c q0w) (q1e (pv 0) (by rfl)) (q0o _)) (@q0p _ _ _ (q2g (q0n CO hr (q0z (pv 0) (q0z (pv 2) q0e))))) q0u)
  (@q0p _ _ _ (q0q (q4f (q8r (q0n CH r1 (q0z (pv 0) (q2r (q0f q0i (pv 1) (q0c) q0w) (x3w q4v (q2r (q0f q0i (pv 2) (q0c) q0w) q0e))))) q0e)))))),?_⟩
 have hk':=hk
 obtain⟨dx0,fs0,vp0,vr0,vst0,an0,ah0,av0,aw0,ha0,f0,ok0,S0⟩:=hk'
 obtain⟨eb,el,ee,eg,eS,eP,en⟩:=x7u (k:=k) (one:=one) (t:=t)
 refine⟨_,rfl,_,rfl,a,p,x,one,other,t,_,k,rfl,hk,hp,hw,fun ht H1 hk1 o1=>⟨_,rfl,?_⟩,fun ht H1 hk1 o1=>⟨_,rfl,?_⟩⟩
 ·have hp1:=(o1.tups ha0) _ _ hp
  have hk1':=hk1
  obtain⟨dx,fs1,vp,vr,vst,an,ah,av,aw,ha,f,ok,S⟩:=hk1'
  exact q2z ⟨_,rfl,_,rfl,a,p,x,one,other,t,_,k,rfl,hk1,hp1,ht,fun l xs H2 hl hI n2 s2=>q0 ht l xs H2 hl hI (o1.none ha n2) (hk1.same s2) (o1.trans (q1f s2))⟩
 have q1:=q1 ht
 have hG':=hG
 obtain⟨pp,pq,pu,rfl,hpp,hpq,hpu⟩:=hG'
 have hp1:=(o1.tups ha0) _ _ hp
 have hpp1:=(o1.tups ha0) _ _ hpp
 have hG1:=hG.offT (o1.tups ha0)
 have hk1':=hk1
 obtain⟨dx,fs1,vp,vr,vst,an,ah,av,aw,ha,f,ok,S⟩:=hk1'
 have eag:fs1.lookup ("agreed" : Str)=some (.int k.ag):=by rw [← eg]; exact f.agreed
 have fin:∀ (k2:Kst) (H2:Hp),K2V C H2 a k2→k2.num=(q1i k one t).num→k2.tm=(q1i k one t).tm→Off a H1 H2→k2=(if G.pl > k.ag then z0z (q1i k one t) G else q1i k one t)→∃ v,some (V.ref a)=some v∧∃ v1,some (V.ref p)=some v1∧True:=fun _ _ _ _ _ _ _=>⟨_,rfl,_,rfl,trivial⟩
 clear fin
 refine q2p ⟨_,rfl,p,_,_,.ref pp,rfl,rfl,SqT.of hp1,q0a (j:=4) rfl,?_⟩
 refine⟨_,rfl,pp,_,_,.int G.pl,rfl,rfl,SqT.of hpp1,q0a (j:=0) rfl,_,rfl,a,C,dx,fs1,_,rfl,ha,Y.cl,Y.n_agreed,eag,_,_,rfl,rfl,_,rfl,q4r (fun h=>?_) (fun h=>?_)⟩
 ·have hgt:G.pl > k.ag:=of_decide_eq_true h
  rw [if_pos hgt] at q1
  refine⟨_,rfl,_,rfl,a,.ref pp,G,q1i k one t,rfl,hk1,z1v ko,hG1,by rw [eb]; omega,fun H2 hk2 o2=>?_⟩
  have oA:=o1.trans o2
  have hp2:=(oA.tups ha0) _ _ hp
  have hpp2:=(oA.tups ha0) _ _ hpp
  have hk2':=hk2
  obtain⟨dx2,fs2,_,_,_,_,_,_,_,ha2,_⟩:=hk2'
  refine⟨_,rfl,_,rfl,p,_,_,.int one,rfl,rfl,SqT.of hp2,q0a (j:=1) rfl,_,rfl,pp,_,_,.int G.pl,rfl,rfl,SqT.of hpp2,q0a (j:=0) rfl,a,_,one,G.pl,true,rfl,hk2,fun r H4 hr4 n4 s4=>⟨q1n (by show 1≤1000; decide),fun l hl=>?_⟩⟩
  have s5:=q0d (o:=HO.lst [V.ref r]) hl
  have s45:=s4.trans s5
  refine q1 l _ _ q0b (.cons (hr4.sameT (q1j s5)) .nil) (oA.none ha2 ?_) (hk2.same s45) (oA.trans (q1f s45))
  cases ez:H2 l with
  | none=>rfl
  | some o=>rw [s4 _ _ ez] at hl; cases hl
 ·have hle:¬ G.pl > k.ag:=z0c h
  rw [if_neg hle] at q1
  refine⟨_,rfl,_,rfl,p,_,_,.int one,rfl,rfl,SqT.of hp1,q0a (j:=1) rfl,_,rfl,pp,_,_,.int G.pl,rfl,rfl,SqT.of hpp1,q0a (j:=0) rfl,a,_,one,G.pl,true,rfl,hk1,fun r H4 hr4 n4 s4=>⟨q1n (by show 1≤1000; decide),fun l hl=>?_⟩⟩
  have s5:=q0d (o:=HO.lst [V.ref r]) hl
  have s45:=s4.trans s5
  refine q1 l _ _ q0b (.cons (hr4.sameT (q1j s5)) .nil) (o1.none ha ?_) (hk1.same s45) (o1.trans (q1f s45))
  cases ez:H1 l with
  | none=>rfl
  | some o=>rw [s4 _ _ ez] at hl; cases hl
noncomputable def z1u:Sp:=fun vs H Q _=>∃ (v:V) (b l:Int) (es:List En) (n:Nat),vs=[v,.int (b+(n:Int))]∧RwP H v b l es∧(∀ e∈es,WhB e.2)∧es.length≤200∧n≤es.length∧∀ (u:V) (H':Hp),RwP H' u (b+(n:Int)) (q2y b l (es.map (·.1)) (b+(n:Int))) (es.drop n)→q1l H H'→Q u H'
theorem w0k {cP:Addr} {vs:List V} {H:Hp} {Q:VK} {E:XK} (h:z1u vs H Q E):x8l K cP vs H Q fun _ _ _=>False:=by
 obtain⟨v,b,l,es,n,rfl,hr,hb,hl,hn,q⟩:=h
 obtain⟨us,hus,hR⟩:=hr.row (K:=K) hb (by omega)
 have he:q4e b (es.map (·.1))=b+(es.length:Int):=by unfold q4e; rw [List.length_map]
 refine⟨v,b,l,us,_,_,rfl,hR,fun _ _ u H' hu s=>q u H' ?_ s,fun h=>by rw [he] at h; omega⟩
 obtain⟨⟨rb,c,e,g1,g2⟩,_,_⟩:=hu
 rw [show (b+(n:Int) - b).toNat=n by omega] at g2
 exact⟨rb,c,_,e,g1,g2,(hus.same s).drop _⟩
noncomputable def j0e (k:Kst) (n:Nat):Kst:={ k with P:=x4c k.P k.P.tm (k.es.take n) (k.P.pl+(n:Int)),b:=k.b+(n:Int),l:=q2y k.b k.l (tsK k) (k.b+(n:Int)),es:=k.es.drop n }
noncomputable def j6x (C:Addr):Sp:=fun vs H Q _=>∃ (a:Addr) (pl:Int) (k:Kst) (W Cs:List Str),vs=[.ref a,.int pl]∧K2V C H a k∧KpOk k∧KpW W Cs k∧k.P.pl=k.b∧k.P.tm=k.l∧0≤k.b∧k.ag≤k.b+(k.es.length:Int)∧((pl≤k.b∨k.ag < pl)→∀ H',K2V C H' a k→Off a H H'→Q (.bl false) H')∧(∀ n:Nat,1≤n→pl=k.b+(n:Int)→pl≤k.ag→∀ H',K2V C H' a (j0e k n)→Off a H H'→Q (.bl true) H')
theorem j8e:FnScope ["keeper", "place"] ["keeper", "place"] (q0h x0i):=fSc
theorem j5y {f:Addr} {fd:FuncData} {C:Addr} (Y:KpC K C) (F:Fun K "pack_up" "pack_up" x0i f fd) (CP:Cal P w K mg base "pack_at" 7 ["pack", "row", "place"] (j5i K)) (CC:Cal P w K mg base "cut_off" 4 ["row", "place"] z1u):FnOk P w K mg base CX0 8 f fd ["keeper", "place"] (j6x C):=by
 refine F.ok j8e (by rintro _ _ _ _⟨_,_,_,_,_,rfl,_⟩; rfl) (fun _ A _ s H vs Q E hr h=>?_)
 obtain⟨a,pl,k,W,Cs,rfl,hk,ko,kw,epl,etm,hb0,hae,q0,q1⟩:=h
 have r4:=hr.mono (show 4≤7 by decide)
 refine⟨_,@q0j _ _ _ _ _ (q1g (PW.pt (q4d (q0m x3s (pv 1) (q0f q0i (q1e (pv 0) (by rfl)) q0c q0w) (q0o _)) (q2s (q0m q4g (pv 1) (q1e (pv 0) (by rfl)) (q0o _))))) (@q0p _ _ _ (q0q q4v)) q0u)
  (@q0j _ _ _ _ _ (q2d (pv 0) (q0n CP hr (q1k (q1e (pv 0) (by rfl)) (q1k (q1e (pv 0) (by rfl)) (q0z (pv 1) q0e)))) (by rfl))
  (@q0j _ _ _ _ _ (q2d (pv 0) (q0n CC r4 (q1k (q1e (pv 0) (by rfl)) (q0z (pv 1) q0e))) (by rfl))
  (@q0p _ _ _ (q0q q4v)))),?_⟩
 have hk':=hk
 obtain⟨dx,fs,vp,vr,vst,an,ah,av,aw,ha,f,ok,S⟩:=hk'
 have hrow:=S.row
 obtain⟨rb,cc,us,rfl,hrb,hcc,hus⟩:=id hrow
 refine⟨_,rfl,_,rfl,a,C,dx,fs,_,rfl,ha,Y.cl,Y.n_row,f.row,rb,_,_,.int k.b,rfl,rfl,SqT.of hrb,q0a (j:=0) rfl,_,_,rfl,rfl,_,rfl,?_⟩
 by_cases h1:pl≤k.b
 ·rw [decide_eq_true h1]
  exact q2z (q2z (q0 (.inl h1) H hk Off.refl))
 rw [decide_eq_false h1]
 refine q2p ⟨_,rfl,_,rfl,a,C,dx,fs,_,rfl,ha,Y.cl,Y.n_agreed,f.agreed,_,_,rfl,rfl,_,rfl,?_⟩
 by_cases h2:k.ag < pl
 ·rw [decide_eq_true h2]
  exact q2z (q0 (.inr h2) H hk Off.refl)
 rw [decide_eq_false h2]
 obtain⟨n,hn⟩:∃ n:Nat,pl=k.b+(n:Int):=⟨(pl - k.b).toNat,by omega⟩
 have hn1:1≤n:=by omega
 have hnl:n≤k.es.length:=by omega
 have q1:=q1 n hn1 hn (by omega)
 have hrow':RwP H (.ref rb) k.P.pl k.P.tm k.es:=by rw [epl,etm]; exact hrow
 refine q2p ⟨_,rfl,a,C,dx,fs,_,rfl,ha,Y.cl,Y.n_pack,f.pack,_,rfl,a,C,dx,fs,_,rfl,ha,Y.cl,Y.n_row,f.row,_,rfl,vp,.ref rb,k.P,k.es,W,Cs,n,(by rw [hn,epl]; rfl),⟨S.pack,kw.po,hrow',kw.es,ko.es,kw.w,kw.c,by rw [epl]; exact hb0⟩,hnl,fun u H1 hu s1=>?_⟩
 have ha1:=s1 _ _ ha
 refine⟨_,rfl,a,C,dx,fs,rfl,ha1,Y.cl,Y.n_pack,ok.len,?_⟩
 have k1:=ok.put (f := "pack") (v:=u) (by decide +kernel)
 have f1:=f.put_pack u
 have o1:Off a H1 _:=q0k (o:=HO.ins C dx (L2.q1t "pack" u fs))
 have sT1:=o1.tups ha1
 have sA1:q2o H _:=fun b xs e=>sT1 b xs ((q1j s1) b xs e)
 refine⟨_,rfl,a,C,dx,_,_,rfl,q0b,Y.cl,Y.n_row,f1.row,_,rfl,.ref rb,k.b,k.l,k.es,n,(by rw [hn]; rfl),hrow.sameT sA1,ko.wb,ko.es,hnl,fun u2 H2 hu2 s2=>?_⟩
 have ha2:=s2 _ _ q0b
 refine⟨_,rfl,a,C,dx,_,rfl,ha2,Y.cl,Y.n_row,k1.len,?_⟩
 have k2:=k1.put (f := "row") (v:=u2) (by decide +kernel)
 have f2:=f1.put_row u2
 have o2:Off a H2 _:=q0k (o:=HO.ins C dx (L2.q1t "row" u2 (L2.q1t "pack" u fs)))
 have sT2:=o2.tups ha2
 have sA2:q2o H _:=fun b xs e=>sT2 b xs ((q1j s2) b xs (sA1 b xs e))
 have z:=S.sameT sA2
 exact q1 _ ⟨dx,_,u,u2,vst,an,ah,av,aw,q0b,f2,k2,⟨hu.offT (fun b xs e=>sT2 b xs ((q1j s2) b xs (sT1 b xs e))),hu2.sameT sT2,z.store,z.nexts,z.held,z.voices,z.waits⟩⟩ ((q1f s1).trans (o1.trans ((q1f s2).trans o2)))
noncomputable def j6v (C:Addr):Sp:=fun vs H Q _=>∃ (a p:Addr) (x:Str) (one other t:Int) (q5g:List V) (k:Kst),vs=[.ref a,.ref p]∧K2V C H a k∧k.way ≠ "head" ∧ H p=some (.tup (.str x::.int one::.int other::.int t::q5g))∧∀ (l:Addr) (H':Hp),H' l=some (.lst [])→H l=none→K2V C H' a (q3q k t)→Off a H H'→Q (.ref l) H'
theorem j7l:FnScope ["keeper", "letter", "other"] ["keeper", "letter"] (q0h q7t):=fSc
theorem j5f {f fH:Addr} {fd dH:FuncData} {C:Addr} (Y:KpC K C) (F:Fun K "take_held" "take_held" q7t f fd) (MH:Meth K C "hear" fH) (FH:FnOk P w K mg base CX0 2 fH dH ["self", "term"] (x1c C)) (bH:q3p K dH ["self", "term"] []):FnOk P w K mg base CX0 3 f fd ["keeper", "letter"] (j6v C):=by
 refine F.ok j7l (by rintro _ _ _ _⟨_,_,_,_,_,_,_,_,rfl,_⟩; rfl) (fun _ A _ s H vs Q E hr h=>?_)
 obtain⟨a,p,x,one,other,t,q5g,k,rfl,hk,hw,hp,q⟩:=h
 refine⟨_,@q0j _ _ _ _ _ (q0r (i:=2) j7l.nd (by rfl) (by exact Or.inl rfl) (q0f q0i (pv 1) (q0c) q0w))
  (@q0j _ _ _ _ _ (q2g (x2z (pv 0) Y.cl MH FH hr bH .nil q7n (q2r (q0f q0i (pv 1) (q0c) q0w) q0e)))
  (@q0j _ _ _ _ _ (q1g (PW.pt (q4d (q0m q4y (q1e (pv 0) (by rfl)) q2k (q0o _)) (q2s (q0m q4y (q0f q0i (pv 1) (q0c) q0w) (q1e (pv 0) (by rfl)) (q0o _))))) (@q0p _ _ _ (q0q (q4f q0e))) q0u)
  q3e)),?_⟩
 have hk':=hk
 obtain⟨dx0,fs0,vp0,vr0,vst0,an0,ah0,av0,aw0,ha0,f0,ok0,S0⟩:=hk'
 refine⟨_,rfl,p,_,_,.int one,rfl,rfl,SqT.of hp,q0a (j:=1) rfl,_,rfl,a,dx0,fs0,rfl,ha0,ok0.no (by decide +kernel),_,rfl,p,_,_,.int t,rfl,rfl,SqT.of hp,q0a (j:=3) rfl,a,t,k,rfl,hk,fun H1 hk1 o1=>?_⟩
 have hwy:(q3q k t).way ≠ "head" := by
  unfold q3q
  by_cases h:t > k.tm
  ·rw [if_pos h]; show ("plain" : Str) ≠ "head"; decide +kernel
  ·rw [if_neg h]; exact hw
 have hk1':=hk1
 obtain⟨dx,fs,vp,vr,vst,an,ah,av,aw,ha,f,ok,S⟩:=hk1'
 refine⟨_,rfl,a,C,dx,fs,_,rfl,ha,Y.cl,Y.n_way,f.way,rfl,_,rfl,?_⟩
 rw [decide_eq_false (fun z=>hwy (V.str.inj z))]
 refine q2z (q2z ⟨q1n (by show 0≤1000; decide),fun l hl=>?_⟩)
 exact q l _ q0b (o1.none ha hl) (hk1.same (q0d hl)) (o1.trans (q4j hl))
noncomputable def z7s (C:Addr):Sp:=fun vs H Q _=>∃ (a:Addr) (o:Int) (k:Kst),vs=[.ref a,.int o]∧K2V C H a k∧k.way ≠ "head" ∧ ∀ (l:Addr) (H':Hp),H' l=some (.lst [])→H l=none→q1l H H'→Q (.ref l) H'
theorem j4u:FnScope ["keeper", "other", "following", "place", "last", "entries"] ["keeper", "other"] (q0h z3l):=fSc
theorem j3p {f:Addr} {fd:FuncData} {C:Addr} (Y:KpC K C) (F:Fun K "beat" "beat" z3l f fd):FnOk P w K mg base CX0 1 f fd ["keeper", "other"] (z7s C):=by
 refine F.ok j4u (by rintro _ _ _ _⟨_,_,_,rfl,_⟩; rfl) (fun _ A _ s H vs Q E hr h=>?_)
 obtain⟨a,o,k,rfl,hk,hw,q⟩:=h
 refine⟨_,@q0j _ _ _ _ _ (q1g (q0m q4y (q1e (pv 0) (by rfl)) q2k (q0o _)) (@q0p _ _ _ (q0q (q4f q0e))) q0u) q3e,?_⟩
 obtain⟨dx,fs,vp,vr,vst,an,ah,av,aw,ha,f,ok,S⟩:=hk
 refine⟨_,rfl,a,C,dx,fs,_,rfl,ha,Y.cl,Y.n_way,f.way,rfl,_,rfl,?_⟩
 rw [decide_eq_false (fun z=>hw (V.str.inj z))]
 exact q2z ⟨q1n (by show 0≤1000; decide),fun l hl=>q l _ q0b hl (q0d hl)⟩
noncomputable def hdD:Option Int→D
 | none=>.non
 | some i=>.int i
theorem z6o {H:Hp} (o:Option Int):IsT H (vcV o) (hdD o):=by cases o with
 | none=>exact .non
 | some i=>exact .int i
noncomputable def z9u (C:Addr):Sp:=fun vs H Q _=>∃ (a p:Addr) (x c:Str) (other n:Int) (u:V) (k:Kst),vs=[.ref a,.ref p]∧K2V C H a k∧k.way ≠ "head" ∧ H p=some (.tup [.str x,.str c,.int other,.int n,u])∧∀ (l:Addr) (xs:List V) (H':Hp),H' l=some (.lst xs)→IsTL H' xs [.tup [.str "away",.int k.num,.str c,.int n,hdD k.hd]]→H l=none→q1l H H'→Q (.ref l) H'
theorem j0f:FnScope ["keeper", "letter", "caller", "number", "known"] ["keeper", "letter"] (q0h q7u):=fSc
theorem j2x {f:Addr} {fd:FuncData} {C:Addr} (Y:KpC K C) (F:Fun K "take_wish" "take_wish" q7u f fd):FnOk P w K mg base CX0 1 f fd ["keeper", "letter"] (z9u C):=by
 refine F.ok j0f (by rintro _ _ _ _⟨_,_,_,_,_,_,_,_,rfl,_⟩; rfl) (fun _ A _ s H vs Q E hr h=>?_)
 obtain⟨a,p,x,c,other,n,u,k,rfl,hk,hw,hp,q⟩:=h
 refine⟨_,@q0j _ _ _ _ _ (q0r (i:=2) j0f.nd (by rfl) (by exact Or.inl rfl) (q0f q0i (pv 1) (q0c) q0w))
  (@q0j _ _ _ _ _ (q0r (i:=3) j0f.nd (by rfl) (by exact Or.inl rfl) (q0f q0i (pv 1) (q0c) q0w))
  (@q0j _ _ _ _ _ (q1g (q0m q4y (q1e (pv 0) (by rfl)) q2k (q0o _)) (@q0p _ _ _ (q0q (q4f (z4a (QE.h (q1d (q1w (q9a (q1e (pv 0) (by rfl)) (q4c (pv 2) (q4c (pv 3) (q9a (q1e (pv 0) (by rfl)) q0v))))))) q0e)))) q0u) q3e)),?_⟩
 obtain⟨dx,fs,vp,vr,vst,an,ah,av,aw,ha,f,ok,S⟩:=hk
 refine⟨_,rfl,p,_,_,.str c,rfl,rfl,SqT.of hp,q0a (j:=1) rfl,_,rfl,p,_,_,.int n,rfl,rfl,SqT.of hp,q0a (j:=3) rfl,_,rfl,a,C,dx,fs,_,rfl,ha,Y.cl,Y.n_way,f.way,rfl,_,rfl,?_⟩
 rw [decide_eq_false (fun z=>hw (V.str.inj z))]
 refine q2z ⟨_,rfl,a,C,dx,fs,_,rfl,ha,Y.cl,Y.n_number,f.number,_,rfl,_,rfl,_,rfl,a,C,dx,fs,_,rfl,ha,Y.cl,Y.n_head,f.head,q1n (by show 5≤1000; decide),fun r hr1=>⟨q1n (by show 1≤1000; decide),fun l hl=>?_⟩⟩
 have s1:=q0d (o:=HO.tup [V.str "away",V.int k.num,V.str c,V.int n,vcV k.hd]) hr1
 have s2:=q0d (o:=HO.lst [V.ref r]) hl
 refine q l _ _ q0b (.cons (.tup (s2 _ _ q0b) (.cons (.str _) (.cons (.int _) (.cons (.str _) (.cons (.int _) (.cons (z6o k.hd) .nil)))))) .nil) ?_ (s1.trans s2)
 cases ez:H l with
 | none=>rfl
 | some o=>rw [s1 _ _ ez] at hl; cases hl
end
structure Os where
 t:Int
 L:List En
 b:Int
 a:Int
 hd:Option Int
 way:Str
 vc:Option Int
structure OsV (H:Hp) (lo l7:Addr) (s:Os) (l1:Addr) (us:List V):Prop where
 at_:H lo=some (.lst [.int s.t,.ref l1,.int s.b,.int s.a,vcV s.hd,.str s.way,vcV s.vc,.ref l7])
 r:H l1=some (.lst us)
 e:ET H us s.L
 n1:l1≠lo
 n7:l7≠lo
 n17:l1≠l7
 al:∃ ps,H l7=some (.lst ps)
noncomputable def OsO (H:Hp) (lo l7:Addr) (s:Os):Prop:=∃ l1 us,OsV H lo l7 s l1 us
theorem OsO.frame {H H':Hp} {lo l7:Addr} {s:Os} (h:OsO H lo l7 s) (st:q2o H H') (sl:∀ b xs,H b=some (.lst xs)→H' b=some (.lst xs)):OsO H' lo l7 s:=by
 obtain⟨l1,us,h⟩:=h
 exact⟨l1,us,sl _ _ h.at_,sl _ _ h.r,h.e.sameT st,h.n1,h.n7,h.n17,h.al.imp fun ps e=>sl _ _ e⟩
theorem OsO.same {H H':Hp} {lo l7:Addr} {s:Os} (h:OsO H lo l7 s) (st:q1l H H'):OsO H' lo l7 s:=h.frame (q1j st) fun b xs e=>st _ _ e
theorem OsO.off {H H':Hp} {lo l7 a C dx:Addr} {fs:List (Str × V)} {s:Os} (h:OsO H lo l7 s) (o:Off a H H') (ha:H a=some (.ins C dx fs)):OsO H' lo l7 s:=h.frame (o.tups ha) fun b xs e=>o b _ (fun z=>by rw [z,ha] at e; cases e) e
theorem Off.tupsL {a:Addr} {xs:List V} {H H':Hp} (o:Off a H H') (ha:H a=some (.lst xs)):q2o H H':=fun b ys e=>o b _ (fun z=>by rw [z,ha] at e; cases e) e
theorem OsV.put {H H':Hp} {lo l7 l1:Addr} {s s':Os} {us:List V} (h:OsV H lo l7 s l1 us) (o:Off lo H H') (hl:H' lo=some (.lst [.int s'.t,.ref l1,.int s'.b,.int s'.a,vcV s'.hd,.str s'.way,vcV s'.vc,.ref l7])) (eL:s'.L=s.L):OsV H' lo l7 s' l1 us :=
 ⟨hl,o _ _ h.n1 h.r,by rw [eL]; exact h.e.sameT (o.tupsL h.at_),h.n1,h.n7,h.n17,h.al.imp fun ps e=>o _ _ h.n7 e⟩
noncomputable def q1b (s:Os) (t:Int):Os:=if t > s.t then { s with t:=t,hd:=none,way := "plain",vc:=none } else s
noncomputable def q0y (s:Os) (one t:Int):Os:=if t=(q1b s t).t then { q1b s t with hd:=some one,way := "plain" } else q1b s t
section
variable {P:Program} {w:World} {K:Frag} {mg:Str→Option Value} {base:Heap}
noncomputable def z1k:Sp:=fun vs H Q _=>∃ (lo l7:Addr) (t:Int) (s:Os),vs=[.ref lo,.int t]∧OsO H lo l7 s∧∀ H',OsO H' lo l7 (q1b s t)→Off lo H H'→Q .non H'
theorem j4r:FnScope ["_law_own", "_law_term"] ["_law_own", "_law_term"] (q0h q6g):=fSc
theorem j2r {f:Addr} {fd:FuncData} (F:Fun K "_law_heard" "_law_heard" q6g f fd):FnOk P w K mg base CX0 1 f fd ["_law_own", "_law_term"] z1k:=by
 refine F.ok j4r (by rintro _ _ _ _⟨_,_,_,_,rfl,_⟩; rfl) (fun _ A _ s H vs Q E hr h=>?_)
 obtain⟨lo,l7,t,s0,rfl,⟨l1,us,O⟩,q⟩:=h
 refine⟨_,@q0p _ _ _ (q1g (q0m q4g (pv 1) (q0f q0g (pv 0) q0c q0w) (q0o _)) (@q0j _ _ _ _ _ (q3b (pv 1) (q3d (pv 0) q0c q1s))
  (@q0j _ _ _ _ _ (q3b (q8k) (q3d (pv 0) q0c q1s))
  (@q0j _ _ _ _ _ (q3b (q2k) (q3d (pv 0) q0c q1s))
  (@q0p _ _ _ (q3b (q8k) (q3d (pv 0) q0c q1s)))))) q0u),?_⟩
 unfold q1b at q
 refine⟨_,rfl,_,rfl,lo,_,_,.int s0.t,rfl,rfl,SqL.of O.at_,q0a (j:=0) rfl,_,_,rfl,rfl,_,rfl,q4r (fun h=>?_) (fun h=>?_)⟩
 ·have e:t > s0.t:=of_decide_eq_true h
  rw [if_pos e] at q
  refine⟨_,rfl,_,rfl,lo,_,_,0,rfl,rfl,O.at_,rfl,?_⟩
  refine⟨_,rfl,lo,_,_,4,rfl,rfl,q0b,rfl,?_⟩
  refine⟨_,rfl,lo,_,_,5,rfl,rfl,q0b,rfl,?_⟩
  refine⟨_,rfl,lo,_,_,6,rfl,rfl,q0b,rfl,?_⟩
  refine q _ ⟨l1,us,O.put ?_ q0b rfl⟩ ?_
  ·exact q0k.trans (q0k.trans (q0k.trans q0k))
  ·exact q0k.trans (q0k.trans (q0k.trans q0k))
 ·have e:¬ t > s0.t:=z0c h
  rw [if_neg e] at q
  exact q H ⟨l1,us,O⟩ Off.refl
noncomputable def z4m:Sp:=fun vs H Q _=>∃ (lo l7 p:Addr) (x:Str) (one other t:Int) (q5g:List V) (s:Os),vs=[.ref lo,.ref p]∧OsO H lo l7 s∧H p=some (.tup (.str x::.int one::.int other::.int t::q5g))∧∀ H',OsO H' lo l7 (q0y s one t)→Off lo H H'→Q (.bl (decide (s.t≤t))) H'
theorem x0e {s:Os} {t:Int}:(t=(q1b s t).t)↔s.t≤t:=by
 unfold q1b
 by_cases h:t > s.t
 ·rw [if_pos h]; exact⟨fun _=>by omega,fun _=>rfl⟩
 ·rw [if_neg h]; exact⟨fun e=>by omega,fun e=>by omega⟩
theorem j5e:FnScope ["_law_own", "_law_letter"] ["_law_own", "_law_letter"] (q0h q4k):=fSc
theorem j3l {f:Addr} {fd:FuncData} (F:Fun K "_law_followed" "_law_followed" q4k f fd) (CH:Cal P w K mg base "_law_heard" 1 ["_law_own", "_law_term"] z1k):FnOk P w K mg base CX0 2 f fd ["_law_own", "_law_letter"] z4m:=by
 refine F.ok j5e (by rintro _ _ _ _⟨_,_,_,_,_,_,_,_,_,rfl,_⟩; rfl) (fun _ A _ s H vs Q E hr h=>?_)
 obtain⟨lo,l7,p,x,one,other,t,q5g,s0,rfl,hO,hp,q⟩:=h
 refine⟨_,@q0j _ _ _ _ _ (q2g (q0n CH hr (q0z (pv 0) (q2r (q0f q0i (pv 1) q0c q0w) q0e))))
  (@q0j _ _ _ _ _ (q1g (q0m q2u (q0f q0i (pv 1) q0c q0w) (q0f q0g (pv 0) q0c q0w) (q0o _)) (@q0j _ _ _ _ _ (q3b (q0f q0i (pv 1) q0c q0w) (q3d (pv 0) q0c q1s))
   (@q0p _ _ _ (q3b (q2k) (q3d (pv 0) q0c q1s)))) q0u)
  (@q0p _ _ _ (q0q (q1v q2u (q0f q0i (pv 1) q0c q0w) (q0f q0g (pv 0) q0c q0w) (q0o _))))),?_⟩
 obtain⟨l1',us',O'⟩:=id hO
 refine⟨_,rfl,_,rfl,p,_,_,.int t,rfl,rfl,SqT.of hp,q0a (j:=3) rfl,lo,l7,t,s0,rfl,hO,fun H1 hO1 o1=>?_⟩
 have hp1:=(o1.tupsL O'.at_) _ _ hp
 obtain⟨l1,us,O⟩:=hO1
 unfold q0y at q
 refine⟨_,rfl,p,_,_,.int t,rfl,rfl,SqT.of hp1,q0a (j:=3) rfl,_,rfl,lo,_,_,.int (q1b s0 t).t,rfl,rfl,SqL.of O.at_,q0a (j:=0) rfl,rfl,_,rfl,?_⟩
 by_cases ht:t=(q1b s0 t).t
 ·rw [decide_eq_true (congrArg V.int ht)]
  rw [if_pos ht,decide_eq_true (x0e.mp ht)] at q
  refine q2z ⟨_,rfl,p,_,_,.int one,rfl,rfl,SqT.of hp1,q0a (j:=1) rfl,_,rfl,lo,_,_,4,rfl,rfl,O.at_,rfl,?_⟩
  refine⟨_,rfl,lo,_,_,5,rfl,rfl,q0b,rfl,?_⟩
  have np:p≠lo:=fun z=>by rw [z,O.at_] at hp1; cases hp1
  have hp2:=fun o1 o2=>q0k (a:=lo) (o:=o2) _ _ np (q0k (a:=lo) (o:=o1) _ _ np hp1)
  refine⟨_,rfl,p,_,_,.int t,rfl,rfl,SqT.of (hp2 _ _),q0a (j:=3) rfl,_,rfl,lo,_,_,.int (q1b s0 t).t,rfl,rfl,SqL.of q0b,q0a (j:=0) rfl,rfl,?_⟩
  rw [decide_eq_true (congrArg V.int ht)]
  refine q _ ⟨l1,us,O.put ?_ q0b rfl⟩ ?_
  ·exact q0k.trans q0k
  ·exact o1.trans (q0k.trans q0k)
 ·rw [decide_eq_false (fun z=>ht (V.int.inj z))]
  rw [if_neg ht,decide_eq_false (fun z=>ht (x0e.mpr z))] at q
  refine q2p ⟨_,rfl,p,_,_,.int t,rfl,rfl,SqT.of hp1,q0a (j:=3) rfl,_,rfl,lo,_,_,.int (q1b s0 t).t,rfl,rfl,SqL.of O.at_,q0a (j:=0) rfl,rfl,?_⟩
  rw [decide_eq_false (fun z=>ht (V.int.inj z))]
  exact q _ ⟨l1,us,O⟩ o1
noncomputable def q9h (K:Frag):Sp:=fun vs H Q _=>∃ (l:Addr) (us:List V) (es:List En),vs=[.ref l]∧SqL K H l us∧ET H us es∧Q (.int (q1h 0 es)) H
theorem j2k:FnScope ["_law_entries"] ["_law_entries"] (q0h q8y):=fSc
theorem x5j (t:Int) (es:List En) (e:En):q1h t (es++[e])=e.1:=by unfold q1h; rw [List.foldl_append]; rfl
theorem z9a {f:Addr} {fd:FuncData} (F:Fun K "_law_end" "_law_end" q8y f fd) (T:Txt mg):FnOk P w K mg base CX0 1 f fd ["_law_entries"] (q9h K):=by
 refine F.ok j2k (by rintro _ _ _ _⟨_,_,_,rfl,_⟩; rfl) (fun _ A _ s H vs Q E hr h=>?_)
 obtain⟨l,us,es,rfl,hl,hE,q⟩:=h
 refine⟨_,@q0j _ _ _ _ _ (q1g (q0m q4g (q0l q0t (by rfl) T.len PySem.boot_len (q0z (pv 0) q0e)) q0c (q0o _)) (@q0p _ _ _ (q0q (q0f q0i (q0f q0g (pv 0) (z6f x8o q0c) (fun _ _=>rfl)) q0c q0w))) q0u)
  (@q0p _ _ _ (q0q q0c)),?_⟩
 have hlen:=hE.length
 refine⟨_,rfl,l,us,rfl,.inl hl,_,_,rfl,rfl,_,rfl,?_⟩
 rcases List.eq_nil_or_concat es with rfl | ⟨es',e,rfl⟩
 ·rw [decide_eq_false (show ¬ (0:Int) < (us.length:Int) by rw [hlen]; decide)]
  exact q2p q
 ·rw [List.concat_eq_append] at hE hlen q
  rw [List.length_append,List.length_singleton] at hlen
  rw [decide_eq_true (show (0:Int) < (us.length:Int) by omega)]
  rw [x5j] at q
  obtain⟨pe,u,hu,hpe,_⟩:=hE.get (i:=es'.length) (by rw [List.length_append,List.length_singleton]; omega)
  rw [List.getElem_append_right (Nat.le_refl _)] at hpe
  simp only [Nat.sub_self,List.getElem_cons_zero] at hpe
  have hat:atI us (-1)=some (.ref pe):=by
   unfold atI ixN
   rw [if_neg (by decide),if_pos (by omega)]
   show us[(-1+(us.length:Int)).toNat]? = _
   rw [show (-1+(us.length:Int)).toNat=es'.length by omega]
   exact hu
  exact q2z ⟨_,rfl,_,rfl,l,us,_,.ref pe,rfl,rfl,hl,hat,pe,_,_,.int e.1,rfl,rfl,SqT.of hpe,q0a (j:=0) rfl,q⟩
end
end K1
namespace Kp
open PySem L2 PySem.Spec PyProof.Rows
section
variable {X:Cx}
end
end Kp
namespace Kp
open PySem L2
end Kp
namespace Kp
open PySem L2 PySem.Spec PyProof.Rows
section
variable {X:Cx}
theorem z9r:MtR X "str.join" (fun x xs H Q=>∃ z p,∃ ys:List Str,x=.str z∧xs=[.ref p]∧SqL X.K H p (ys.map V.str)∧JoinOk z ys=true∧Q (.str (Str.join z ys)) H):=by
 intro pins s σ H x xs v us Q I rx rv h
 obtain⟨z,p,ys,rfl,rfl,hq,hok,q⟩:=h
 obtain⟨t,rfl⟩:=rx
 obtain⟨u,rfl,rx⟩:=x4x rv
 cases rx
 obtain⟨its,rv,pl,hz⟩:=I.list hq
 have hl:=pl.isList
 have hv:∃ l:List (Str × Tok),strValues l=its∧l.map (·.1)=ys:=by
  clear hl pl hq hz hok q
  generalize hw:ys.map V.str=ws at rv
  induction rv generalizing ys with
  | nil=>exact⟨[],rfl,(List.map_eq_nil_iff.mp hw).symm⟩
  | cons r1 t1 ih =>
   cases ys with
   | nil=>cases hw
   | cons y ys =>
    cases hw
    obtain⟨k,rfl⟩:=r1
    obtain⟨l,e1,e2⟩:=ih ys rfl
    exact⟨(y,k)::l,by rw [← e1]; rfl,by rw [← e2]; rfl⟩
 obtain⟨l,e1,e2⟩:=hv
 rw [← e1] at hl
 refine SC.join hl e2 hok fun t' k=>⟨.str (Str.join z ys),H,I.tok _,?_,q⟩
 show ∃ t,_=_
 exact⟨t',by rw [show Txt.join z ys=Str.join z ys from StrLaws.glued_eq_join z ys]⟩
end
end Kp
namespace K1
open PySem L2 Kp
theorem q7f (xs:List V) (n:Nat):x1x xs none (some (n:Int))=xs.take n:=z2p xs n
theorem x3d (xs:List V) (n:Nat):x1x xs (some (n:Int)) none=xs.drop n:=q8f xs n
section
variable {P:Program} {w:World} {K:Frag} {mg:Str→Option Value} {base:Heap}
noncomputable def z9k:Sp:=fun vs H Q _=>∃ (lo l7 e:Addr) (pl b:Nat) (fs:List V) (gs:List En) (s:Os),vs=[.ref lo,.int pl,.ref e]∧OsO H lo l7 s∧s.b=(b:Int)∧H e=some (.tup fs)∧ET H fs gs∧s.L.length≤300∧gs.length≤100∧pl≤1000∧∀ H',OsO H' lo l7 { s with L:=q2e b s.L pl gs }→Off lo H H'→Q .non H'
theorem z7f:FnScope ["_law_own", "_law_place", "_law_entries", "_law_k", "_law_at"] ["_law_own", "_law_place", "_law_entries"] (q0h q5n):=fSc
theorem j3r {f:Addr} {fd:FuncData} (F:Fun K "_law_filled" "_law_filled" q5n f fd) (T:Txt mg):FnOk P w K mg base CX0 1 f fd ["_law_own", "_law_place", "_law_entries"] z9k:=by
 refine F.ok z7f (by rintro _ _ _ _⟨_,_,_,_,_,_,_,_,rfl,_⟩; rfl) (fun _ A _ s H vs Q E hr h=>?_)
 obtain⟨lo,l7,e,pl,b,fs,gs,s0,rfl,⟨l1,us,O⟩,hb,he,hE,hL,hg,hpl,q⟩:=h
 refine⟨_,@q0p _ _ _ (q7d PassesOwn.never (by rfl) (x0t (by rfl) T.range (q8r (q0l q0t (by rfl) T.len PySem.boot_len (q0z (pv 2) q0e)) q0e)) (q1u (i:=3) z7f.nd (by rfl) (by exact Or.inl rfl))
  (@q0j _ _ _ _ _ (q0r (i:=4) z7f.nd (by rfl) (by exact Or.inl rfl) (q0x q1o (pv 1) (pv 3)))
  (@q0p _ _ _ (q1g (PW.pt (x7y (q0m z4o (pv 4) (q0f q0g (pv 0) q0c q0w) (q0o _)) (x2l (PW.pt (q4d (q0m z4o (pv 4) (q0l q0t (by rfl) T.len PySem.boot_len (q2r (q0f q0g (pv 0) q0c q0w) q0e)) (q0o _)) (q2s (q0m q4y (q0f q0i (q0f q0g (q0f q0g (pv 0) q0c q0w) (pv 4) j6g) q0c q0w) (q0f q0i (q0f q0i (pv 2) (pv 3) j6g) q0c q0w) (q0o _))))))))
   (@q0j _ _ _ _ _ (q3b (q0x x4w (q1y q4w (q0f q0g (pv 0) q0c q0w) q3f (q2b (pv 4))) (q2n x4k (by rfl) T.list q3y (q2r (q1y q5z (pv 2) (q2b (pv 3)) q3f) q0e))) (q3d (pv 0) q0c q1s)) (@q0p _ _ _ z3i)) q0u)))),?_⟩
 have hfl:=hE.length
 have hul:=O.e.length
 refine⟨_,rfl,e,_,rfl,.inr (SqT.of he),_,rfl,by omega,by omega,x4d (lo:=0) (n:=((fs.length:Int)).toNat) (fun i σ H'=>∃ t u,σ=[some (.ref lo),some (.int pl),some (.ref e),t,u]∧H'=H∧q2e b s0.L pl gs=q2e b s0.L (pl+i) (gs.drop i)) ⟨none,none,rfl,rfl,rfl⟩ ?_ ?_⟩
 ·rintro i σ H' hi ⟨t,u,rfl,rfl,hF⟩
  have hi':i < gs.length:=by omega
  refine⟨_,rfl,_,rfl,_,_,rfl,rfl,?_⟩
  obtain⟨pe,ue,hue,hpe,_⟩:=hE.get hi'
  rw [List.drop_eq_getElem_cons hi'] at hF
  refine⟨_,rfl,_,rfl,lo,_,_,.int s0.b,rfl,rfl,SqL.of O.at_,q0a (j:=2) rfl,_,_,rfl,rfl,_,rfl,?_⟩
  have nx:¬ (b≤pl+i∧x1k s0.L (pl+i) gs[i]=true)→q2e b s0.L pl gs=q2e b s0.L (pl+(i+1)) (gs.drop (i+1)):=fun h=>by
   rw [hF]
   show (if _ then _ else _)=_
   rw [if_neg h]
   rfl
  have eat:(pl:Int)+(0+(i:Int))=((pl+i:Nat):Int):=by omega
  have go:b≤pl+i→x1k s0.L (pl+i) gs[i]=true→∀ H2,OsO H2 lo l7 { s0 with L:=s0.L.take (pl+i)++gs.drop i }→Off lo H' H2→Q .non H2:=fun h1 h2 H2 hO o=>by
   refine q H2 ?_ o
   rw [hF]
   show OsO H2 lo l7 { s0 with L:=if b≤pl+i∧x1k s0.L (pl+i) gs[i]=true then s0.L.take (pl+i)++gs[i]::gs.drop (i+1) else _ }
   rw [if_pos ⟨h1,h2⟩,← List.drop_eq_getElem_cons hi']
   exact hO
  by_cases h1:b≤pl+i
  ·rw [decide_eq_true (show s0.b≤(pl:Int)+(0+(i:Int)) by omega)]
   refine q2z ⟨_,rfl,_,rfl,lo,_,_,.ref l1,rfl,rfl,SqL.of O.at_,q0a (j:=1) rfl,l1,_,rfl,.inl (SqL.of O.r),_,_,rfl,rfl,_,rfl,?_⟩
   by_cases h2:us.length≤pl+i
   ·rw [decide_eq_true (show (us.length:Int)≤(pl:Int)+(0+(i:Int)) by omega)]
    have hoff:x1k s0.L (pl+i) gs[i]=true:=by unfold x1k; rw [List.getElem?_eq_none (by omega)]
    refine q2z (q2z ⟨_,rfl,lo,_,_,.ref l1,rfl,rfl,SqL.of O.at_,q0a (j:=1) rfl,_,rfl,_,rfl,l1,_,rfl,SqL.of O.r,fun p1 hp1=>?_⟩)
    rw [eat,q7f]
    have s1:=q0d (o:=HO.lst (us.take (pl+i))) hp1
    refine⟨_,rfl,_,rfl,_,rfl,e,_,rfl,s1 _ _ he,fun p2 H2 hp2 s2=>?_⟩
    rw [show (0:Int)+(i:Int)=((i:Nat):Int) by omega,x3d] at hp2
    refine⟨p2,_,rfl,.inr (SqT.of hp2),fun p3 hp3=>?_⟩
    have s3:=q0d (o:=HO.lst (fs.drop i)) hp3
    refine⟨p1,p3,_,_,rfl,rfl,s3 _ _ (s2 _ _ q0b),q0b,?_,fun p4 hp4=>?_⟩
    ·rw [List.length_take,List.length_drop,sizeLine_eq]; omega
    have s4:=q0d (o:=HO.lst (us.take (pl+i)++fs.drop i)) hp4
    have sA:=((s1.trans s2).trans s3).trans s4
    refine⟨_,rfl,lo,_,_,1,rfl,rfl,sA _ _ O.at_,rfl,?_⟩
    have n4:p4≠lo:=fun z=>by
     have:=((s1.trans s2).trans s3) _ _ O.at_
     rw [← z,hp4] at this; cases this
    have n47:p4≠l7:=fun z=>by
     obtain⟨ps,hps⟩:=O.al
     have:=((s1.trans s2).trans s3) _ _ hps
     rw [← z,hp4] at this; cases this
    refine go h1 hoff _ ⟨p4,us.take (pl+i)++fs.drop i,⟨q0b,?_,?_,n4,O.n7,n47,?_⟩⟩ ?_
    ·exact q0k _ _ n4 q0b
    ·exact (((O.e.take _).append (hE.drop _)).same sA).sameT (Off.tupsL q0k (sA _ _ O.at_))
    ·exact O.al.imp fun ps h=>q0k _ _ O.n7 (sA _ _ h)
    ·exact (q1f sA).trans q0k
   ·rw [decide_eq_false (show ¬ (us.length:Int)≤(pl:Int)+(0+(i:Int)) by omega)]
    have hl':pl+i < s0.L.length:=by omega
    obtain⟨px,ux,hux,hpx,_⟩:=O.e.get hl'
    have hatL:atI us ((pl:Int)+(0+(i:Int)))=some (.ref px):=by rw [eat]; exact q0a hux
    have hatE:atI fs ((0:Int)+(i:Int))=some (.ref pe):=by rw [show (0:Int)+(i:Int)=((i:Nat):Int) by omega]; exact q0a hue
    have hoffe:x1k s0.L (pl+i) gs[i]=decide ((s0.L[pl+i]).1≠(gs[i]).1):=by unfold x1k; rw [List.getElem?_eq_getElem hl']
    refine q2p ⟨_,rfl,lo,_,_,.ref l1,rfl,rfl,SqL.of O.at_,q0a (j:=1) rfl,_,rfl,l1,_,_,.ref px,rfl,rfl,SqL.of O.r,hatL,px,_,_,.int (s0.L[pl+i]).1,rfl,rfl,SqT.of hpx,q0a (j:=0) rfl,_,rfl,_,rfl,e,_,_,.ref pe,rfl,rfl,SqT.of he,hatE,pe,_,_,.int (gs[i]).1,rfl,rfl,SqT.of hpe,q0a (j:=0) rfl,rfl,_,rfl,?_⟩
    by_cases hne:(s0.L[pl+i]).1=(gs[i]).1
    ·rw [decide_eq_true (congrArg V.int hne)]
     refine q2p ⟨_,_,rfl,rfl,nx (fun z=>?_)⟩
     rw [hoffe] at z
     exact of_decide_eq_true z.2 hne
    rw [decide_eq_false (fun z=>hne (V.int.inj z))]
    have hoff:x1k s0.L (pl+i) gs[i]=true:=by rw [hoffe]; exact decide_eq_true hne
    refine q2z ⟨_,rfl,lo,_,_,.ref l1,rfl,rfl,SqL.of O.at_,q0a (j:=1) rfl,_,rfl,_,rfl,l1,_,rfl,SqL.of O.r,fun p1 hp1=>?_⟩
    rw [eat,q7f]
    have s1:=q0d (o:=HO.lst (us.take (pl+i))) hp1
    refine⟨_,rfl,_,rfl,_,rfl,e,_,rfl,s1 _ _ he,fun p2 H2 hp2 s2=>?_⟩
    rw [show (0:Int)+(i:Int)=((i:Nat):Int) by omega,x3d] at hp2
    refine⟨p2,_,rfl,.inr (SqT.of hp2),fun p3 hp3=>?_⟩
    have s3:=q0d (o:=HO.lst (fs.drop i)) hp3
    refine⟨p1,p3,_,_,rfl,rfl,s3 _ _ (s2 _ _ q0b),q0b,?_,fun p4 hp4=>?_⟩
    ·rw [List.length_take,List.length_drop,sizeLine_eq]; omega
    have s4:=q0d (o:=HO.lst (us.take (pl+i)++fs.drop i)) hp4
    have sA:=((s1.trans s2).trans s3).trans s4
    refine⟨_,rfl,lo,_,_,1,rfl,rfl,sA _ _ O.at_,rfl,?_⟩
    have n4:p4≠lo:=fun z=>by
     have:=((s1.trans s2).trans s3) _ _ O.at_
     rw [← z,hp4] at this; cases this
    have n47:p4≠l7:=fun z=>by
     obtain⟨ps,hps⟩:=O.al
     have:=((s1.trans s2).trans s3) _ _ hps
     rw [← z,hp4] at this; cases this
    refine go h1 hoff _ ⟨p4,us.take (pl+i)++fs.drop i,⟨q0b,?_,?_,n4,O.n7,n47,?_⟩⟩ ?_
    ·exact q0k _ _ n4 q0b
    ·exact (((O.e.take _).append (hE.drop _)).same sA).sameT (Off.tupsL q0k (sA _ _ O.at_))
    ·exact O.al.imp fun ps h=>q0k _ _ O.n7 (sA _ _ h)
    ·exact (q1f sA).trans q0k
  ·rw [decide_eq_false (show ¬ s0.b≤(pl:Int)+(0+(i:Int)) by omega)]
   exact q2p (q2p ⟨_,_,rfl,rfl,nx (fun z=>h1 z.1)⟩)
 ·rintro σ H' ⟨t,u,rfl,rfl,hF⟩
  rw [show ((fs.length:Int)).toNat=gs.length by omega,List.drop_length] at hF
  refine q _ ?_ Off.refl
  rw [hF]
  exact⟨l1,us,O⟩
end
noncomputable def x0x (t one:Int) (g:Bool) (pl:Int):D:=.tup [.str "held",.int 4,.int one,.int t,.bl g,.int pl]
theorem x4y {s:Os} {one t:Int} (h:t < s.t):q0y s one t=s:=by
 unfold q0y
 have e:q1b s t=s:=by unfold q1b; rw [if_neg (by omega)]
 rw [e,if_neg (by omega)]
theorem q6x {s:Os} {one t:Int}:(q0y s one t).L=s.L∧(q0y s one t).b=s.b∧(q0y s one t).a=s.a:=by
 unfold q0y q1b
 by_cases h:t > s.t
 ·rw [if_pos h,if_pos rfl]; exact⟨rfl,rfl,rfl⟩
 ·rw [if_neg h]; by_cases h2:t=s.t
  ·rw [if_pos h2]; exact⟨rfl,rfl,rfl⟩
  ·rw [if_neg h2]; exact⟨rfl,rfl,rfl⟩
noncomputable def x2d (s:Os) (b pl:Nat) (la:Int):Bool:=decide (b≤pl) && (decide (s.L.length < pl) || !decide (q1h 0 (s.L.take pl)=la))
section
variable {P:Program} {w:World} {K:Frag} {mg:Str→Option Value} {base:Heap}
noncomputable def z7i:Sp:=fun vs H Q _=>∃ (lo l7 p e:Addr) (x:Str) (one other t la g:Int) (pl b:Nat) (fs:List V) (gs:List En) (s:Os),vs=[.ref lo,.ref p]∧OsO H lo l7 s∧s.b=(b:Int)∧H p=some (.tup [.str x,.int one,.int other,.int t,.int pl,.int la,.ref e,.int g])∧H e=some (.tup fs)∧ET H fs gs∧s.L.length≤300∧gs.length≤100∧pl≤1000 ∧
 (t < s.t→∀ (q:Addr) (H':Hp),IsT H' (.ref q) (x0x s.t one false (s.L.length:Int))→OsO H' lo l7 s→Off lo H H'→Q (.ref q) H') ∧
 (s.t≤t→x2d s b pl la=true→∀ (q:Addr) (H':Hp),IsT H' (.ref q) (x0x (q0y s one t).t one false (if (s.L.length:Int) < (pl:Int) - 1 then (s.L.length:Int) else (pl:Int) - 1))→OsO H' lo l7 (q0y s one t)→Off lo H H'→Q (.ref q) H') ∧
 (s.t≤t→x2d s b pl la=false→∀ (q:Addr) (H':Hp),IsT H' (.ref q) (x0x (q0y s one t).t one true (if s.b > (pl:Int)+(gs.length:Int) then s.b else (pl:Int)+(gs.length:Int)))→OsO H' lo l7 { q0y s one t with L:=q2e b s.L pl gs,a:=if (if (pl:Int)+(gs.length:Int) < g then (pl:Int)+(gs.length:Int) else g) > s.a then (if (pl:Int)+(gs.length:Int) < g then (pl:Int)+(gs.length:Int) else g) else s.a }→Off lo H H'→Q (.ref q) H')
theorem z9o:FnScope ["_law_own", "_law_letter", "_law_place", "_law_end_here"] ["_law_own", "_law_letter"] (q0h q5w):=fSc
theorem j1a {f:Addr} {fd:FuncData} (F:Fun K "_law_handed" "_law_handed" q5w f fd) (T:Txt mg) (CF:Cal P w K mg base "_law_followed" 2 ["_law_own", "_law_letter"] z4m) (CE:Cal P w K mg base "_law_end" 1 ["_law_entries"] (q9h K)) (CL:Cal P w K mg base "_law_filled" 1 ["_law_own", "_law_place", "_law_entries"] z9k):FnOk P w K mg base CX0 3 f fd ["_law_own", "_law_letter"] z7i:=by
 refine F.ok z9o (by rintro _ _ _ _⟨_,_,_,_,_,_,_,_,_,_,_,_,_,_,_,rfl,_⟩; rfl) (fun _ A _ s H vs Q E hr h=>?_)
 obtain⟨lo,l7,p,e,x,one,other,t,la,g,pl,b,fs,gs,s0,rfl,hO,hb,hp,he,hE,hL,hg,hpl,q0,q1,q2⟩:=h
 have r1:=hr.mono (show 1≤2 by decide)
 refine⟨_,@q0j _ _ _ _ _ (q1g (q7e (q3c (q0n CF hr (q0z (pv 0) (q0z (pv 1) q0e))))) (@q0p _ _ _ (q0q (QE.h (q1d (q1w (q1a (q5a (q0f q0i (pv 1) q0c q0w) (q5a (q0f q0g (pv 0) q0c q0w) (z2u (q7c (q0l q0t (by rfl) T.len PySem.boot_len (q2r (q0f q0g (pv 0) q0c q0w) q0e)) q0v)))))))))) q0u)
  (@q0j _ _ _ _ _ (q0r (i:=2) z9o.nd (by rfl) (by exact Or.inl rfl) (q0f q0i (pv 1) q0c q0w))
  (@q0j _ _ _ _ _ (q1g (PW.pt (x7y (q0m z4o (pv 2) (q0f q0g (pv 0) q0c q0w) (q0o _)) (x2l (PW.pt (q4d (q0m q4g (pv 2) (q0l q0t (by rfl) T.len PySem.boot_len (q2r (q0f q0g (pv 0) q0c q0w) q0e)) (q0o _)) (q2s (q0m q4y (q0n CE r1 (q2r (q1y q4w (q0f q0g (pv 0) q0c q0w) q3f (q2b (pv 2))) q0e)) (q0f q0i (pv 1) q0c q0w) (q0o _)))))))) (@q0p _ _ _ (q0q (QE.h (q1d (q1w (q1a (q5a (q0f q0i (pv 1) q0c q0w) (q5a (q0f q0g (pv 0) q0c q0w) (z2u (q7c (q0l (q4a (by rfl)) (by rfl) T.min q4u (q9d (q0x q2q (pv 2) q0c) (q8r (q0l q0t (by rfl) T.len PySem.boot_len (q2r (q0f q0g (pv 0) q0c q0w) q0e)) q0e))) q0v)))))))))) q0u)
  (@q0j _ _ _ _ _ (q2g (q0n CL r1 (q0z (pv 0) (q0z (pv 2) (q2r (q0f q0i (pv 1) q0c q0w) q0e)))))
  (@q0j _ _ _ _ _ (q0r (i:=3) z9o.nd (by rfl) (by exact Or.inl rfl) (q0x q1o (pv 2) (q0l q0t (by rfl) T.len PySem.boot_len (q2r (q0f q0i (pv 1) q0c q0w) q0e))))
  (@q0j _ _ _ _ _ (q3b (q0l (q2c (by rfl)) (by rfl) T.max q2m (q2r (q0f q0g (pv 0) q0c q0w) (q8r (q0l (q4a (by rfl)) (by rfl) T.min q4u (q2r (q0f q0i (pv 1) q0c q0w) (q0z (pv 3) q0e))) q0e))) (q3d (pv 0) q0c q1s))
  (@q0p _ _ _ (q0q (QE.h (q1d (q1w (q1a (q5a (q0f q0i (pv 1) q0c q0w) (q5a (q0f q0g (pv 0) q0c q0w) (z2u (q7c (q0l (q2c (by rfl)) (by rfl) T.max q2m (q0z (pv 3) (q2r (q0f q0g (pv 0) q0c q0w) q0e))) q0v))))))))))))))),?_⟩
 obtain⟨eL,eb,ea⟩:=q6x (s:=s0) (one:=one) (t:=t)
 obtain⟨l0,us0,O0⟩:=id hO
 refine⟨_,rfl,_,rfl,lo,l7,p,x,one,other,t,_,s0,rfl,hO,hp,fun H1 hO1 o1=>⟨_,rfl,?_⟩⟩
 have hp1:=(o1.tupsL O0.at_) _ _ hp
 have he1:=(o1.tupsL O0.at_) _ _ he
 have hE1:=hE.sameT (o1.tupsL O0.at_)
 obtain⟨l1,us,O⟩:=id hO1
 have hul:=O.e.length
 rw [eL] at hul
 have fl:(fs.length:Int)=(gs.length:Int):=by rw [hE.length]
 by_cases ht:s0.t≤t
 ·rw [decide_eq_true ht]
  have q1:=q1 ht
  have q2:=q2 ht
  have hb1:(q0y s0 one t).b=(b:Int):=eb.trans hb
  have hat:=O.at_
  rw [hb1] at hat
  refine q2p ⟨_,rfl,p,_,_,.int pl,rfl,rfl,SqT.of hp1,q0a (j:=4) rfl,?_⟩
  have yes:x2d s0 b pl la=true→∀ H2,q1l H1 H2→∃ v,some (V.ref p)=some v∧True:=fun _ _ _=>⟨_,rfl,trivial⟩
  clear yes
  refine⟨_,rfl,_,rfl,lo,_,_,.int (b:Int),rfl,rfl,SqL.of hat,q0a (j:=2) rfl,_,_,rfl,rfl,_,rfl,?_⟩
  by_cases h1:b≤pl
  ·rw [decide_eq_true (show (b:Int)≤(pl:Int) by omega)]
   refine q2z ⟨_,rfl,_,rfl,lo,_,_,.ref l1,rfl,rfl,SqL.of hat,q0a (j:=1) rfl,l1,_,rfl,.inl (SqL.of O.r),_,_,rfl,rfl,_,rfl,?_⟩
   by_cases h2:s0.L.length < pl
   ·rw [decide_eq_true (show (us.length:Int) < (pl:Int) by omega)]
    have hoff:x2d s0 b pl la=true:=by unfold x2d; rw [decide_eq_true h1,decide_eq_true h2]; rfl
    refine q2z (q2z ⟨_,rfl,p,_,_,.int one,rfl,rfl,SqT.of hp1,q0a (j:=1) rfl,_,rfl,lo,_,_,.int (q0y s0 one t).t,rfl,rfl,SqL.of O.at_,q0a (j:=0) rfl,_,rfl,_,_,rfl,rfl,_,rfl,lo,_,_,.ref l1,rfl,rfl,SqL.of O.at_,q0a (j:=1) rfl,l1,_,rfl,.inl (SqL.of O.r),_,_,rfl,q1n (by show 6≤1000; decide),fun q hq=>?_⟩)
    refine q1 hoff q _ (.tup q0b (.cons (.str _) (.cons (.int _) (.cons (.int _) (.cons (.int _) (.cons (.bl _) (.cons ?_ .nil))))))) (hO1.same (q1l.trans (q1l.refl _) (q0d hq))) (o1.trans (q1f (q1l.trans (q1l.refl _) (q0d hq))))
    rw [hul]
    exact .int _
   ·rw [decide_eq_false (show ¬ (us.length:Int) < (pl:Int) by omega)]
    refine q2p ⟨_,rfl,lo,_,_,.ref l1,rfl,rfl,SqL.of O.at_,q0a (j:=1) rfl,_,rfl,_,rfl,l1,_,rfl,SqL.of O.r,fun p1 hp1'=>?_⟩
    rw [q7f]
    have s2:=q0d (o:=HO.lst (us.take pl)) hp1'
    have hE2:ET (upd H1 p1 (HO.lst (us.take pl))) (us.take pl) (s0.L.take pl):=by
     have:=(O.e.take pl).same s2
     rw [eL] at this
     exact this
    refine⟨p1,_,_,rfl,SqL.of q0b,hE2,_,rfl,p,_,_,.int la,rfl,rfl,SqT.of (s2 _ _ hp1),q0a (j:=5) rfl,rfl,_,rfl,?_⟩
    by_cases h3:q1h 0 (s0.L.take pl)=la
    ·rw [decide_eq_true (congrArg V.int h3)]
     have hoff:x2d s0 b pl la=false:=by unfold x2d; rw [decide_eq_true h1,decide_eq_false h2,decide_eq_true h3]; rfl
     refine q2p ⟨_,rfl,_,rfl,_,rfl,p,_,_,.ref e,rfl,rfl,SqT.of (s2 _ _ hp1),q0a (j:=6) rfl,lo,l7,e,pl,b,fs,gs,q0y s0 one t,rfl,hO1.same s2,hb1,(s2 _ _ he1),(hE1.same s2),by rw [eL]; exact hL,hg,hpl,fun H3 hO3 o3=>?_⟩
     obtain⟨l3,us3,O3⟩:=id hO3
     have hp3:=(o3.tupsL (s2 _ _ O.at_)) _ _ (s2 _ _ hp1)
     have he3:=(o3.tupsL (s2 _ _ O.at_)) _ _ (s2 _ _ he1)
     refine⟨_,rfl,_,rfl,p,_,_,.ref e,rfl,rfl,SqT.of hp3,q0a (j:=6) rfl,e,_,rfl,.inr (SqT.of he3),_,_,rfl,rfl,?_⟩
     rw [fl]
     refine⟨_,rfl,lo,_,_,.int (q0y s0 one t).a,rfl,rfl,SqL.of O3.at_,q0a (j:=3) rfl,_,rfl,p,_,_,.int g,rfl,rfl,SqT.of hp3,q0a (j:=7) rfl,_,rfl,_,_,rfl,_,_,rfl,_,rfl,lo,_,_,3,rfl,rfl,O3.at_,rfl,?_⟩
     have np:p≠lo:=fun z=>by rw [z,O3.at_] at hp3; cases hp3
     have hp4:=fun o1=>q0k (a:=lo) (o:=o1) _ _ np hp3
     refine⟨_,rfl,p,_,_,.int one,rfl,rfl,SqT.of (hp4 _),q0a (j:=1) rfl,_,rfl,lo,_,_,.int (q0y s0 one t).t,rfl,rfl,SqL.of q0b,q0a (j:=0) rfl,_,rfl,_,rfl,lo,_,_,.int (q0y s0 one t).b,rfl,rfl,SqL.of q0b,q0a (j:=2) rfl,_,_,rfl,q1n (by show 6≤1000; decide),fun q hq=>?_⟩
     refine q2 hoff q _ (.tup q0b (.cons (.str _) (.cons (.int _) (.cons (.int _) (.cons (.int _) (.cons (.bl _) (.cons ?_ .nil))))))) (OsO.same ⟨l3,us3,O3.put q0k ?_ ?_⟩ (q0d hq)) ?_
     ·rw [eb]; exact .int _
     ·rw [ea]; exact q0b
     ·show q2e b s0.L pl gs=q2e b (q0y s0 one t).L pl gs
      rw [eL]
     ·exact o1.trans ((q1f s2).trans (o3.trans (q0k.trans (q4j hq))))
    ·rw [decide_eq_false (fun z=>h3 (V.int.inj z))]
     have hoff:x2d s0 b pl la=true:=by unfold x2d; rw [decide_eq_true h1,decide_eq_false h2,decide_eq_false h3]; rfl
     refine q2z ⟨_,rfl,p,_,_,.int one,rfl,rfl,SqT.of (s2 _ _ hp1),q0a (j:=1) rfl,_,rfl,lo,_,_,.int (q0y s0 one t).t,rfl,rfl,SqL.of (s2 _ _ O.at_),q0a (j:=0) rfl,_,rfl,_,_,rfl,rfl,_,rfl,lo,_,_,.ref l1,rfl,rfl,SqL.of (s2 _ _ O.at_),q0a (j:=1) rfl,l1,_,rfl,.inl (SqL.of (s2 _ _ O.r)),_,_,rfl,q1n (by show 6≤1000; decide),fun q hq=>?_⟩
     refine q1 hoff q _ (.tup q0b (.cons (.str _) (.cons (.int _) (.cons (.int _) (.cons (.int _) (.cons (.bl _) (.cons ?_ .nil))))))) (hO1.same (q1l.trans s2 (q0d hq))) (o1.trans (q1f (q1l.trans s2 (q0d hq))))
     rw [hul]
     exact .int _
  ·rw [decide_eq_false (show ¬ (b:Int)≤(pl:Int) by omega)]
   have hoff:x2d s0 b pl la=false:=by unfold x2d; rw [decide_eq_false h1]; rfl
   refine q2p (q2p ⟨_,rfl,_,rfl,_,rfl,p,_,_,.ref e,rfl,rfl,SqT.of hp1,q0a (j:=6) rfl,lo,l7,e,pl,b,fs,gs,q0y s0 one t,rfl,hO1.same (q1l.refl _),hb1,he1,hE1,by rw [eL]; exact hL,hg,hpl,fun H3 hO3 o3=>?_⟩)
   obtain⟨l3,us3,O3⟩:=id hO3
   have hp3:=(o3.tupsL O.at_) _ _ hp1
   have he3:=(o3.tupsL O.at_) _ _ he1
   refine⟨_,rfl,_,rfl,p,_,_,.ref e,rfl,rfl,SqT.of hp3,q0a (j:=6) rfl,e,_,rfl,.inr (SqT.of he3),_,_,rfl,rfl,?_⟩
   rw [fl]
   refine⟨_,rfl,lo,_,_,.int (q0y s0 one t).a,rfl,rfl,SqL.of O3.at_,q0a (j:=3) rfl,_,rfl,p,_,_,.int g,rfl,rfl,SqT.of hp3,q0a (j:=7) rfl,_,rfl,_,_,rfl,_,_,rfl,_,rfl,lo,_,_,3,rfl,rfl,O3.at_,rfl,?_⟩
   have np:p≠lo:=fun z=>by rw [z,O3.at_] at hp3; cases hp3
   have hp4:=fun o1=>q0k (a:=lo) (o:=o1) _ _ np hp3
   refine⟨_,rfl,p,_,_,.int one,rfl,rfl,SqT.of (hp4 _),q0a (j:=1) rfl,_,rfl,lo,_,_,.int (q0y s0 one t).t,rfl,rfl,SqL.of q0b,q0a (j:=0) rfl,_,rfl,_,rfl,lo,_,_,.int (q0y s0 one t).b,rfl,rfl,SqL.of q0b,q0a (j:=2) rfl,_,_,rfl,q1n (by show 6≤1000; decide),fun q hq=>?_⟩
   refine q2 hoff q _ (.tup q0b (.cons (.str _) (.cons (.int _) (.cons (.int _) (.cons (.int _) (.cons (.bl _) (.cons ?_ .nil))))))) (OsO.same ⟨l3,us3,O3.put q0k ?_ ?_⟩ (q0d hq)) ?_
   ·rw [eb]; exact .int _
   ·rw [ea]; exact q0b
   ·show q2e b s0.L pl gs=q2e b (q0y s0 one t).L pl gs
    rw [eL]
   ·exact o1.trans ((q1f (q1l.refl _)).trans (o3.trans (q0k.trans (q4j hq))))
 ·rw [decide_eq_false ht]
  have q0:=q0 (by omega)
  rw [x4y (by omega)] at O hO1
  refine q2z ⟨_,rfl,p,_,_,.int one,rfl,rfl,SqT.of hp1,q0a (j:=1) rfl,_,rfl,lo,_,_,.int s0.t,rfl,rfl,SqL.of O.at_,q0a (j:=0) rfl,_,rfl,lo,_,_,.ref l1,rfl,rfl,SqL.of O.at_,q0a (j:=1) rfl,l1,_,rfl,.inl (SqL.of O.r),q1n (by show 6≤1000; decide),fun q hq=>?_⟩
  refine q0 q _ (.tup q0b (.cons (.str _) (.cons (.int _) (.cons (.int _) (.cons (.int _) (.cons (.bl _) (.cons ?_ .nil))))))) (hO1.same (q0d hq)) (o1.trans (q4j hq))
  rw [hul]
  exact .int _
end
noncomputable def q6d (L M:List En) (pl:Nat) (tm:Int):List En:=match L[pl - 1]? with
 | some x=>if x.1=tm then L else M.take pl
 | none=>M.take pl
section
variable {P:Program} {w:World} {K:Frag} {mg:Str→Option Value} {base:Heap}
noncomputable def j9p (lo l7 p pp:Addr) (one tm:Int) (pl:Nat) (q5g rest2:List V) (M:List En) (le:Addr):TS:=fun D σ H=>∃ (s:Os) (x:Str) (other t:Int) (ws:List V),σ=[some (.ref lo),some (.ref p),some (.ref le),some (.int pl)]∧OsO H lo l7 s∧H p=some (.tup (.str x::.int one::.int other::.int t::.ref pp::q5g))∧H pp=some (.tup (.int pl::.int tm::rest2))∧H le=some (.lst ws)∧ET H ws M∧1≤pl∧(pl:Int) > s.a∧∀ H',OsO H' lo l7 { s with L:=q6d s.L M pl tm }→Off lo H H'→D.nx [some (.ref lo),some (.ref p),some (.ref le),some (.int pl)] H'
noncomputable def z8k:Sp:=fun vs H Q _=>∃ (lo l7 p pp le:Addr) (x:Str) (one other t tm:Int) (pl:Nat) (rest2 ws:List V) (M:List En) (s:Os),vs=[.ref lo,.ref p,.ref le]∧OsO H lo l7 s∧H p=some (.tup [.str x,.int one,.int other,.int t,.ref pp])∧H pp=some (.tup (.int pl::.int tm::rest2))∧H le=some (.lst ws)∧le≠lo∧ET H ws M∧1≤pl ∧
 (t < s.t→∀ (q:Addr) (H':Hp),IsT H' (.ref q) (x0x s.t one false (s.L.length:Int))→OsO H' lo l7 s→Off lo H H'→Q (.ref q) H') ∧
 (s.t≤t→∀ (q:Addr) (H':Hp),IsT H' (.ref q) (x0x (q0y s one t).t one true (pl:Int))→OsO H' lo l7 (if (pl:Int) > s.a then { q0y s one t with L:=q6d s.L M pl tm,b:=pl,a:=pl } else q0y s one t)→Off lo H H'→Q (.ref q) H')
theorem j3g:FnScope ["_law_own", "_law_letter", "_law_entries", "_law_place"] ["_law_own", "_law_letter", "_law_entries"] (q0h q5i):=fSc
theorem PS.weakP {X:Cx} {st:Stmt} {t t':TS} (h:PS X st t) (w:∀ D σ H,t' D σ H→t D σ H):PS X st t':=fun pins s σ H D I q=>h pins s σ H D I (w D σ H q)
theorem j0x {f:Addr} {fd:FuncData} (F:Fun K "_law_packed" "_law_packed" q5i f fd) (T:Txt mg) (CF:Cal P w K mg base "_law_followed" 2 ["_law_own", "_law_letter"] z4m):FnOk P w K mg base CX0 3 f fd ["_law_own", "_law_letter", "_law_entries"] z8k:=by
 refine F.ok j3g (by rintro _ _ _ _⟨_,_,_,_,_,_,_,_,_,_,_,_,_,_,_,rfl,_⟩; rfl) (fun _ A _ s H vs Q E hr h=>?_)
 obtain⟨lo,l7,p,pp,le,x,one,other,t,tm,pl,rest2,ws,M,s0,rfl,hO,hp,hpp,hle,nle,hM,hp1,q0,q1⟩:=h
 refine⟨_,@q0j _ _ _ _ _ (q0r (i:=3) j3g.nd (by rfl) (by exact Or.inl rfl) (q0f q0i (q0f q0i (pv 1) q0c q0w) q0c q0w))
  (@q0j _ _ _ _ _ (q1g (q7e (q3c (q0n CF hr (q0z (pv 0) (q0z (pv 1) q0e))))) (@q0p _ _ _ (q0q (QE.h (q1d (q1w (q1a (q5a (q0f q0i (pv 1) q0c q0w) (q5a (q0f q0g (pv 0) q0c q0w) (z2u (q7c (q0l q0t (by rfl) T.len PySem.boot_len (q2r (q0f q0g (pv 0) q0c q0w) q0e)) q0v)))))))))) q0u)
  (@q0j _ _ _ _ _ (q1g (q0m q4g (pv 3) (q0f q0g (pv 0) q0c q0w) (q0o _))
   (@q0j _ _ _ _ _ (PS.weakP (t':=j9p lo l7 p pp one tm pl [] rest2 M le) (q1g (PW.pt (q4d (q0m q4g (pv 3) (q0l q0t (by rfl) T.len PySem.boot_len (q2r (q0f q0g (pv 0) q0c q0w) q0e)) (q0o _)) (q2s (q0m q4y (q0f q0i (q0f q0g (q0f q0g (pv 0) q0c q0w) (q0x q2q (pv 3) q0c) z9s) q0c q0w) (q0f q0i (q0f q0i (pv 1) q0c q0w) q0c q0w) (q0o _))))) (@q0p _ _ _ (q3b (q1y q4w (pv 2) q3f (q2b (pv 3))) (q3d (pv 0) q0c q1s))) q0u) ?w1)
   (@q0j _ _ _ _ _ (q3b (pv 3) (q3d (pv 0) q0c q1s))
   (@q0p _ _ _ (q3b (pv 3) (q3d (pv 0) q0c q1s))))) q0u)
  (@q0p _ _ _ (q0q (QE.h (q1d (q1w (q1a (q5a (q0f q0i (pv 1) q0c q0w) (q5a (q0f q0g (pv 0) q0c q0w) (z2u (q4c (pv 3) q0v)))))))))))),?_⟩
 case w1 =>
  rintro D σ H ⟨s,x,other,t,ws,rfl,⟨l1,us,O⟩,hp,hpp,hle,hM,hpl,_,q⟩
  have hul:=O.e.length
  have put:q6d s.L M pl tm=M.take pl→∀ p1,H p1=none→D.nx [some (.ref lo),some (.ref p),some (.ref le),some (.int pl)] (upd (upd H p1 (HO.lst (ws.take pl))) lo (HO.lst [.int s.t,.ref p1,.int s.b,.int s.a,vcV s.hd,.str s.way,vcV s.vc,.ref l7])):=fun e p1 hp1=>by
   have s1:=q0d (o:=HO.lst (ws.take pl)) hp1
   have n1:p1≠lo:=fun z=>by rw [z,O.at_] at hp1; cases hp1
   have n17:p1≠l7:=fun z=>by obtain⟨ps,h⟩:=O.al; rw [z,h] at hp1; cases hp1
   refine q _ ⟨p1,ws.take pl,⟨q0b,q0k _ _ n1 q0b,?_,n1,O.n7,n17,?_⟩⟩ ((q4j hp1).trans q0k)
   ·show ET _ _ (q6d s.L M pl tm)
    rw [e]
    exact ((hM.take pl).same s1).sameT (Off.tupsL q0k (s1 _ _ O.at_))
   ·exact O.al.imp fun ps h=>q0k _ _ O.n7 (s1 _ _ h)
  refine⟨_,rfl,_,rfl,lo,_,_,.ref l1,rfl,rfl,SqL.of O.at_,q0a (j:=1) rfl,l1,_,rfl,.inl (SqL.of O.r),_,_,rfl,rfl,_,rfl,?_⟩
  by_cases h1:us.length < pl
  ·rw [decide_eq_true (show (us.length:Int) < (pl:Int) by omega)]
   refine q2z (q2z ⟨_,rfl,_,rfl,_,rfl,le,_,rfl,SqL.of hle,fun p1 hp1=>?_⟩)
   rw [q7f]
   refine⟨_,rfl,lo,_,_,1,rfl,rfl,(q0d hp1) _ _ O.at_,rfl,put ?_ p1 hp1⟩
   unfold q6d
   rw [List.getElem?_eq_none (by omega)]
  rw [decide_eq_false (show ¬ (us.length:Int) < (pl:Int) by omega)]
  have hl':pl - 1 < s.L.length:=by omega
  obtain⟨px,ux,hux,hpx,_⟩:=O.e.get hl'
  have hat:atI us ((pl:Int) - 1)=some (.ref px):=by rw [show (pl:Int) - 1=((pl - 1:Nat):Int) by omega]; exact q0a hux
  have hpk:q6d s.L M pl tm=if (s.L[pl - 1]).1=tm then s.L else M.take pl:=by unfold q6d; rw [List.getElem?_eq_getElem hl']
  refine q2p ⟨_,rfl,lo,_,_,.ref l1,rfl,rfl,SqL.of O.at_,q0a (j:=1) rfl,_,rfl,_,_,rfl,rfl,l1,_,_,.ref px,rfl,rfl,SqL.of O.r,hat,px,_,_,.int (s.L[pl - 1]).1,rfl,rfl,SqT.of hpx,q0a (j:=0) rfl,_,rfl,p,_,_,.ref pp,rfl,rfl,SqT.of hp,q0a (j:=4) rfl,pp,_,_,.int tm,rfl,rfl,SqT.of hpp,q0a (j:=1) rfl,rfl,_,rfl,?_⟩
  by_cases h2:(s.L[pl - 1]).1=tm
  ·rw [decide_eq_true (congrArg V.int h2)]
   rw [if_pos h2] at hpk
   rw [hpk] at q
   exact q2p (q H ⟨l1,us,O⟩ Off.refl)
  ·rw [decide_eq_false (fun z=>h2 (V.int.inj z))]
   rw [if_neg h2] at hpk
   refine q2z ⟨_,rfl,_,rfl,_,rfl,le,_,rfl,SqL.of hle,fun p1 hp1=>?_⟩
   rw [q7f]
   exact⟨_,rfl,lo,_,_,1,rfl,rfl,(q0d hp1) _ _ O.at_,rfl,put hpk p1 hp1⟩
 obtain⟨eL,eb,ea⟩:=q6x (s:=s0) (one:=one) (t:=t)
 obtain⟨l0,us0,O0⟩:=id hO
 refine⟨_,rfl,p,_,_,.ref pp,rfl,rfl,SqT.of hp,q0a (j:=4) rfl,pp,_,_,.int pl,rfl,rfl,SqT.of hpp,q0a (j:=0) rfl,?_⟩
 refine⟨_,rfl,_,rfl,lo,l7,p,x,one,other,t,_,s0,rfl,hO,hp,fun H1 hO1 o1=>⟨_,rfl,?_⟩⟩
 have hp1':=(o1.tupsL O0.at_) _ _ hp
 have hpp1:=(o1.tupsL O0.at_) _ _ hpp
 have hle1:=o1 _ _ nle hle
 have hM1:=hM.sameT (o1.tupsL O0.at_)
 obtain⟨l1,us,O⟩:=id hO1
 have hul:=O.e.length
 rw [eL] at hul
 by_cases ht:s0.t≤t
 ·rw [decide_eq_true ht]
  have q1:=q1 ht
  refine q2p ⟨_,rfl,_,rfl,lo,_,_,.int (q0y s0 one t).a,rfl,rfl,SqL.of O.at_,q0a (j:=3) rfl,_,_,rfl,rfl,_,rfl,?_⟩
  rw [ea]
  by_cases h1:(pl:Int) > s0.a
  ·rw [decide_eq_true (show s0.a < (pl:Int) from h1)]
   rw [if_pos h1] at q1
   refine q2z ⟨q0y s0 one t,x,other,t,ws,rfl,hO1,hp1',hpp1,hle1,hM1,hp1,by rw [ea]; exact h1,fun H2 hO2 o2=>?_⟩
   rw [eL] at hO2
   obtain⟨l2,us2,O2⟩:=hO2
   have hp2:=(o2.tupsL O.at_) _ _ hp1'
   have np:p≠lo:=fun z=>by rw [z,O2.at_] at hp2; cases hp2
   refine⟨_,rfl,_,rfl,lo,_,_,2,rfl,rfl,O2.at_,rfl,_,rfl,_,rfl,lo,_,_,3,rfl,rfl,q0b,rfl,?_⟩
   have hp4:=fun oa ob=>q0k (a:=lo) (o:=ob) _ _ np (q0k (a:=lo) (o:=oa) _ _ np hp2)
   refine⟨_,rfl,p,_,_,.int one,rfl,rfl,SqT.of (hp4 _ _),q0a (j:=1) rfl,_,rfl,lo,_,_,.int (q0y s0 one t).t,rfl,rfl,SqL.of q0b,q0a (j:=0) rfl,_,rfl,q1n (by show 6≤1000; decide),fun q hq=>?_⟩
   refine q1 q _ (.tup q0b (.cons (.str _) (.cons (.int _) (.cons (.int _) (.cons (.int _) (.cons (.bl _) (.cons (.int _) .nil))))))) (OsO.same ⟨l2,us2,O2.put (q0k.trans q0k) q0b rfl⟩ (q0d hq)) ?_
   exact o1.trans (o2.trans (q0k.trans (q0k.trans (q4j hq))))
  ·rw [decide_eq_false (show ¬ s0.a < (pl:Int) from h1)]
   rw [if_neg h1] at q1
   refine q2p ⟨_,rfl,p,_,_,.int one,rfl,rfl,SqT.of hp1',q0a (j:=1) rfl,_,rfl,lo,_,_,.int (q0y s0 one t).t,rfl,rfl,SqL.of O.at_,q0a (j:=0) rfl,_,rfl,q1n (by show 6≤1000; decide),fun q hq=>?_⟩
   exact q1 q _ (.tup q0b (.cons (.str _) (.cons (.int _) (.cons (.int _) (.cons (.int _) (.cons (.bl _) (.cons (.int _) .nil))))))) (hO1.same (q0d hq)) (o1.trans (q4j hq))
 ·rw [decide_eq_false ht]
  have q0:=q0 (by omega)
  rw [x4y (by omega)] at O hO1
  refine q2z ⟨_,rfl,p,_,_,.int one,rfl,rfl,SqT.of hp1',q0a (j:=1) rfl,_,rfl,lo,_,_,.int s0.t,rfl,rfl,SqL.of O.at_,q0a (j:=0) rfl,_,rfl,lo,_,_,.ref l1,rfl,rfl,SqL.of O.at_,q0a (j:=1) rfl,l1,_,rfl,.inl (SqL.of O.r),q1n (by show 6≤1000; decide),fun q hq=>?_⟩
  refine q0 q _ (.tup q0b (.cons (.str _) (.cons (.int _) (.cons (.int _) (.cons (.int _) (.cons (.bl _) (.cons ?_ .nil))))))) (hO1.same (q0d hq)) (o1.trans (q4j hq))
  rw [hul]
  exact .int _
noncomputable def z5q (K:Frag):Sp:=fun vs H Q _=>∃ (l q:Addr) (us:List V) (es:List En) (ms:List Int),vs=[.ref l,.ref q]∧SqL K H l us∧ET H us es∧H q=some (.tup (ms.map V.int))∧∀ q':Addr,H q'=some (.tup ((q1r ms es).map V.int))→Q (.ref q') H
theorem z8q:FnScope ["_law_entries", "_law_first", "_law_entry_here"] ["_law_entries", "_law_first"] (q0h x6s):=fSc
theorem j1f {f:Addr} {fd:FuncData} (F:Fun K "_law_seats" "_law_seats" x6s f fd):FnOk P w K mg base CX0 1 f fd ["_law_entries", "_law_first"] (z5q K):=by
 refine F.ok z8q (by rintro _ _ _ _⟨_,_,_,_,_,rfl,_⟩; rfl) (fun _ A _ s H vs Q E hr h=>?_)
 obtain⟨l,q,us,es,ms,rfl,hl,hE,hq,k⟩:=h
 refine⟨_,@q0j _ _ _ _ _ (q7d PassesOwn.never (by rfl) (q7r (pv 0)) (q1u (i:=2) z8q.nd (by rfl) (by exact Or.inl rfl))
   (@q0p _ _ _ (q1g (q0m q2u (q0f q0i (q0f q0i (pv 2) q0c q0w) q0c q0w) q2k (q0o _)) (@q0p _ _ _ (q0r (i:=1) z8q.nd (by rfl) (by exact Or.inl rfl) (q0f q0i (q0f q0i (pv 2) q0c q0w) q0c q0w))) q0u)))
  (@q0p _ _ _ (q0q (pv 1))),?_⟩
 have hlen:=hE.length
 refine⟨_,rfl,l,rfl,⟨_,hl⟩,q9z (xs:=us) (fun i σ H'=>∃ (q':Addr) (t:Option V),σ=[some (.ref l),some (.ref q'),t]∧H'=H∧H q'=some (.tup ((q1r ms (es.take i)).map V.int))) ⟨q,none,rfl,rfl,hq⟩ ?_ ?_ ?_⟩
 ·rintro i σ H' _ ⟨q',t,rfl,rfl,_⟩
  exact hl
 ·rintro i x σ H' hx ⟨q',t,rfl,rfl,hq'⟩
  have hi:i < es.length:=by rw [← hlen]; exact (List.getElem?_eq_some_iff.mp hx).1
  obtain⟨pe,u,hu,hpe,hw⟩:=hE.get hi
  rw [hx] at hu
  cases hu
  have hs:q1r ms (es.take (i+1))=x9g (q1r ms (es.take i)) (es[i]).2:=x0p _ _ hi
  have no:∀ (pu:Addr) (w:Str) (r:List V),u=.ref pu→H' pu=some (.tup (.str w::r))→w ≠ "seats" → x9g (q1r ms (es.take i)) (es[i]).2=q1r ms (es.take i)→True:=fun _ _ _ _ _ _ _=>trivial
  clear no
  cases hx2:(es[i]).2 with
  | opn =>
   rw [hx2] at hw hs
   obtain⟨pu,rfl,hpu⟩:=hw
   refine⟨_,rfl,pe,_,_,.ref pu,rfl,rfl,SqT.of hpe,q0a (j:=1) rfl,pu,_,_,.str "open",rfl,rfl,SqT.of hpu,q0a (j:=0) rfl,rfl,_,rfl,?_⟩
   rw [decide_eq_false (fun z=>absurd (V.str.inj z) (by decide +kernel))]
   exact q2p ⟨q',_,rfl,rfl,by rw [hs]; exact hq'⟩
  | seats ms2 =>
   rw [hx2] at hw hs
   obtain⟨pu,q2,rfl,hpu,hq2⟩:=hw
   refine⟨_,rfl,pe,_,_,.ref pu,rfl,rfl,SqT.of hpe,q0a (j:=1) rfl,pu,_,_,.str "seats",rfl,rfl,SqT.of hpu,q0a (j:=0) rfl,rfl,_,rfl,?_⟩
   rw [decide_eq_true (show V.str ("seats" : Str)=V.str "seats" from rfl)]
   exact q2z ⟨_,rfl,pe,_,_,.ref pu,rfl,rfl,SqT.of hpe,q0a (j:=1) rfl,pu,_,_,.ref q2,rfl,rfl,SqT.of hpu,q0a (j:=1) rfl,q2,_,rfl,rfl,by rw [hs]; exact hq2⟩
  | wish c n d =>
   rw [hx2] at hw hs
   obtain⟨pu,u2,rfl,hpu,_⟩:=hw
   refine⟨_,rfl,pe,_,_,.ref pu,rfl,rfl,SqT.of hpe,q0a (j:=1) rfl,pu,_,_,.str "wish",rfl,rfl,SqT.of hpu,q0a (j:=0) rfl,rfl,_,rfl,?_⟩
   rw [decide_eq_false (fun z=>absurd (V.str.inj z) (by decide +kernel))]
   exact q2p ⟨q',_,rfl,rfl,by rw [hs]; exact hq'⟩
 ·rintro σ H' ⟨q',t,rfl,rfl,hq'⟩
  rw [hlen,List.take_length] at hq'
  exact⟨_,rfl,k q' hq'⟩
end
end K1
namespace Kp
open PySem PySem.Spec PyProof.Rows
noncomputable def x1m:List Int→List Int→Bool
 | x::xs,y::ys=>if x=y then x1m xs ys else decide (y≤x)
 | _,_=>true
section
open PySem.SeqAt
open PySem.AutoSeq1 (wpAny_loadPart')
open PySem.MeetsSeq PySem.MeetsSeq2 PySem.MeetsSeq3
theorem z8x (A:Around) (s:Shared) (a:Int) (t:Tok) (c:Int) (u:Tok) (prog:Program) (w:World) (E:Value→Shared→Prop) (Q:Value→Shared→Prop) (h:Q (.bool (decide (c≤a))) s) :
  wpAny (model prog w) A (richCompare .GtE (.int a t) (.int c u)) Q E s:=(PyProof.Rows.ge_int h:wpAny (model prog w) A (compareOp .GtE (.int a t) (.int c u)) Q E s)
theorem z2o {vs:List Value} {ns:List Int} (h:IntsAre vs ns) {i:Nat} (hi:i < vs.length):∃ t,∃ hn:i < ns.length,vs[i]=.int ns[i] t:=by
 have hn:i < ns.length:=by rw [← h.length]; exact hi
 obtain⟨t,e⟩:=h.int_at i vs[i] (List.getElem?_eq_getElem hi)
 exact⟨t,hn,by rw [e]; simp [hn]⟩
theorem z4q (l b:Addr) (items items2:Array Value) (n n2:Nat) (dd dd2:Option Addr) (sl sl2:Array (Option Value)) (ns ms:List Int) (hi:IntsAre items.toList ns) (hj:IntsAre items2.toList ms) (hsz:items.size=items2.size) (k:Nat) :
  ∀ i:Nat,items.size - i=k→Meets (Builtin.«list.__eq__.loop» ⟨[.ref l,.ref b,rawInt i,rawInt 5],[]⟩)
   (fun A R s=>s.heap.get? l=some ⟨.type "list",dd,.seq items n,sl⟩∧s.heap.get? b=some ⟨.type "list",dd2,.seq items2 n2,sl2⟩∧R (.ok (.ret (.bool (x1m (ns.drop i) (ms.drop i))))) s):=by
 have z1:items.size=ns.length:=by rw [← hi.length]; simp
 have z2:items2.size=ms.length:=by rw [← hj.length]; simp
 induction k with
 | zero =>
  intro i hk prog w A R s ⟨hl,hb,h⟩
  obtain⟨hp,g,d,tk,os⟩:=s
  wp_walk using wpAny_loadPart' hl,wpAny_loadPart' hb
  have i1:items[((i:Nat):Int).toNat]? = none:=by simp; omega
  have i2:items2[((i:Nat):Int).toNat]? = none:=by simp; omega
  rw [i1,i2]
  wp_walk using wpAny_loadPart' hl,wpAny_loadPart' hb
  rw [List.drop_eq_nil_of_le (by omega)] at h
  have e:x1m [] (ms.drop i)=true:=rfl
  rw [e] at h
  show R (.ok (.ret (.bool (decide (items.size≥items2.size))))) _
  rw [decide_eq_true (by omega)]
  exact h
 | succ k ih =>
  intro i hk prog w A R s ⟨hl,hb,h⟩
  obtain⟨hp,g,d,tk,os⟩:=s
  wp_walk using wpAny_loadPart' hl,wpAny_loadPart' hb
  have g1:i < items.toList.length:=by simp; omega
  have g2:i < items2.toList.length:=by simp; omega
  obtain⟨t,hn,e1⟩:=z2o hi g1
  obtain⟨u,hm,e2⟩:=z2o hj g2
  have i1:items[((i:Nat):Int).toNat]? = some (.int ns[i] t):=by rw [← e1]; simp
  have i2:items2[((i:Nat):Int).toNat]? = some (.int ms[i] u):=by rw [← e2]; simp
  have hc:((i:Int)+1)=((i+1:Nat):Int):=by push_cast; rfl
  rw [List.drop_eq_getElem_cons hn,List.drop_eq_getElem_cons hm] at h
  have el:x1m (ns[i]::ns.drop (i+1)) (ms[i]::ms.drop (i+1))=if ns[i]=ms[i] then x1m (ns.drop (i+1)) (ms.drop (i+1)) else decide (ms[i]≤ns[i]):=rfl
  rw [el] at h
  rw [i1,i2]
  refine wpAny_bind (SeqAt.EqAt.int_int ns[i] t ms[i] u prog w _ _ ?_)
  by_cases he:ns[i]=ms[i]
  ·rw [if_pos he] at h
   rw [show (ns[i]==ms[i])=true by simp [he]]
   wp_walk
   rw [hc]
   refine⟨plainId_quiet plain_eq_loop _,codeAny_builtin entry_eq_loop ?_⟩
   rw [Around.under_plainId plain_eq_loop _]
   exact ih (i+1) (by omega) prog w A R _ ⟨hl,hb,h⟩
  ·rw [if_neg he] at h
   rw [show (ns[i]==ms[i])=false by simp [he]]
   have hr:=z8x A.in1 ⟨hp,g,d,tk,os⟩ ns[i] t ms[i] u prog w
   wp_walk using wpAny_loadPart' hl,wpAny_loadPart' hb
   rw [i1,i2]
   wp_walk using hr
   exact h
theorem z6d (l b:Addr) (items items2:Array Value) (n n2:Nat) (dd dd2:Option Addr) (sl sl2:Array (Option Value)) (ns ms:List Int) (hi:IntsAre items.toList ns) (hj:IntsAre items2.toList ms) (hsz:items.size=items2.size):Meets (Builtin.«list.__ge__» ⟨[.ref l,.ref b],[]⟩)
   (fun A R s=>s.heap.get? l=some ⟨.type "list",dd,.seq items n,sl⟩∧s.heap.get? b=some ⟨.type "list",dd2,.seq items2 n2,sl2⟩∧R (.ok (.ret (.bool (x1m ns ms)))) s):=by
 intro prog w A R s ⟨hl,hb,h⟩
 obtain⟨hp,g,d,tk,os⟩:=s
 have f3:=AutoSeq1.sub_list_list
 wp_walk using wpAny_loadPart' hl,wpAny_loadPart' hb
 refine⟨plainId_quiet plain_eq_loop _,codeAny_builtin entry_eq_loop ?_⟩
 rw [Around.under_plainId plain_eq_loop _]
 exact z4q l b items items2 n n2 dd dd2 sl sl2 ns ms hi hj hsz _ 0 rfl prog w A R _ ⟨hl,hb,h⟩
end
end Kp
namespace L2
open PySem PySem.Spec PyProof.Rows
theorem j1c {X:Cx} (hu:X.A.units < cLine):OpR X (compareOp .GtE) (fun x y H Q=>∃ (p q:Addr) (ns ms:List Int),x=.ref p∧y=.ref q∧SqL X.K H p (ns.map V.int)∧SqL X.K H q (ms.map V.int)∧ns.length=ms.length∧Q (.bl (Kp.x1m ns ms)) H):=by
 intro pins s σ H x y v u Q I rx ry h
 obtain⟨p,q',ns,ms,rfl,rfl,h1,h2,hl,q⟩:=h
 cases rx
 cases ry
 obtain⟨its,r1,p1,_⟩:=I.list h1
 obtain⟨jts,r2,p2,_⟩:=I.list h2
 have i1:=x2x r1
 have i2:=x2x r2
 obtain⟨⟨c1,d1,dt1,s1⟩,ho1,hc1,n1,hd1⟩:=p1.isList
 obtain⟨⟨c2,d2,dt2,s2⟩,ho2,hc2,n2,hd2⟩:=p2.isList
 simp only at hc1 hd1 hc2 hd2
 subst hc1 hd1 hc2 hd2
 refine richCompare_meets_room (op:=.GtE) ⟨_,ho1,rfl⟩ ⟨_,ho2,rfl⟩ PySem.F.slot_list_ge PySem.F.entry_list_ge (PySem.F.args_list_ge_2 _ _) (Kp.z6d p q' its.toArray jts.toArray n1 n2 d1 d2 s1 s2 ns ms (by simpa using i1) (by simpa using i2) ?_) ⟨ho1,ho2,?_⟩ hu
 ·have:=i1.length
  have:=i2.length
  simp only [List.size_toArray]
  omega
 ·exact⟨(fun x=>nomatch x),⟨.bl (Kp.x1m ns ms),H,I,rfl,q⟩⟩
end L2
namespace K1
open PySem L2 Kp
noncomputable def g1O (s:Os) (one t:Int):Bool:=decide (t=s.t) && (decide (s.vc=none) || decide (s.vc=some one))
noncomputable def x5n (s:Os) (one t pl la:Int):Bool:=g1O s one t && Kp.x1m [la,pl] [q1h 0 s.L,(s.L.length:Int)]
noncomputable def j0o (s:Os) (one t pl la:Int):Os:=if x5n (q1b s t) one t pl la=true then { q1b s t with vc:=some one } else q1b s t
noncomputable def j6y (t one:Int) (g:Bool):D:=.tup [.str "voice",.int 4,.int one,.int t,.bl g]
section
variable {P:Program} {w:World} {K:Frag} {mg:Str→Option Value} {base:Heap}
noncomputable def z7m:Sp:=fun vs H Q _=>∃ (lo l7 p:Addr) (x:Str) (one other t pl la:Int) (s:Os),vs=[.ref lo,.ref p]∧OsO H lo l7 s∧H p=some (.tup [.str x,.int one,.int other,.int t,.int pl,.int la])∧∀ (l:Addr) (xs:List V) (H':Hp),H' l=some (.lst xs)→H l=none→IsTL H' xs [j6y (q1b s t).t one (x5n (q1b s t) one t pl la)]→OsO H' lo l7 (j0o s one t pl la)→Off lo H H'→Q (.ref l) H'
noncomputable def j8o:TS:=fun D σ H=>∃ (lo l7 p:Addr) (x:Str) (one other t pl la:Int) (s:Os) (b:Bool),σ=[some (.ref lo),some (.ref p),some (.bl b)]∧OsO H lo l7 s∧H p=some (.tup [.str x,.int one,.int other,.int t,.int pl,.int la])∧∀ (l:Addr) (xs:List V) (H':Hp),H' l=some (.lst xs)→H l=none→IsTL H' xs [j6y s.t one b]→OsO H' lo l7 (if b=true then { s with vc:=some one } else s)→Off lo H H'→D.rt (.ref l) H'
noncomputable def w0a:TS:=fun D σ H=>∃ (lo l7 p:Addr) (x:Str) (one other t pl la:Int) (s:Os),σ=[some (.ref lo),some (.ref p),some (.bl (g1O s one t))]∧OsO H lo l7 s∧H p=some (.tup [.str x,.int one,.int other,.int t,.int pl,.int la])∧∀ H',q1l H H'→D.nx [some (.ref lo),some (.ref p),some (.bl (x5n s one t pl la))] H'
theorem z7j:FnScope ["_law_own", "_law_letter", "_law_given"] ["_law_own", "_law_letter"] (q0h q6f):=fSc
theorem PSs.weakP {X:Cx} {sts:List Stmt} {t t':TS} (h:PSs X sts t) (w:∀ D σ H,t' D σ H→t D σ H):PSs X sts t':=fun pins s σ H D I q=>h pins s σ H D I (w D σ H q)
theorem j2n {f:Addr} {fd:FuncData} (F:Fun K "_law_asked" "_law_asked" q6f f fd) (T:Txt mg) (CH:Cal P w K mg base "_law_heard" 1 ["_law_own", "_law_term"] z1k) (CE:Cal P w K mg base "_law_end" 1 ["_law_entries"] (q9h K)):FnOk P w K mg base CX0 2 f fd ["_law_own", "_law_letter"] z7m:=by
 refine F.ok z7j (by rintro _ _ _ _⟨_,_,_,_,_,_,_,_,_,_,rfl,_⟩; rfl) (fun _ A _ s H vs Q E hr h=>?_)
 obtain⟨lo,l7,p,x,one,other,t,pl,la,s0,rfl,hO,hp,q⟩:=h
 refine⟨_,@q0j _ _ _ _ _ (q2g (q0n CH hr (q0z (pv 0) (q2r (q0f q0i (pv 1) q0c q0w) q0e))))
  (@q0j _ _ _ _ _ (q0r (i:=2) z7j.nd (by rfl) (by exact Or.inl rfl) (q9m (q1v q2u (q0f q0i (pv 1) q0c q0w) (q0f q0g (pv 0) q0c q0w) (q0o _)) (q8q (q1v z1z (q0f q0g (pv 0) q0c q0w) (QE.h (q1d (x7o (q5a (q0f q0i (pv 1) q0c q0w) q0v)))) rfl))))
  (@q0j _ _ _ _ _ (PS.weakP (t':=w0a) (q0r (i:=2) z7j.nd (by rfl) (by exact Or.inl rfl) (q9m (pv 2) (q8q (q1v (j1c hr.units0) (QE.h (q3g (q5a (q0f q0i (pv 1) q0c q0w) (q5a (q0f q0i (pv 1) q0c q0w) q0v)))) (QE.h (q3g (q7c (q0n CE hr (q2r (q0f q0g (pv 0) q0c q0w) q0e)) (q7c (q0l q0t (by rfl) T.len PySem.boot_len (q2r (q0f q0g (pv 0) q0c q0w) q0e)) q0v)))) (q0o _))))) ?w3)
  (PSs.weakP (t':=j8o) (@q0j _ _ _ _ _ (q1g (q3c (pv 2)) (@q0p _ _ _ (q3b (q0f q0i (pv 1) q0c q0w) (q3d (pv 0) q0c q1s))) q0u)
  (@q0p _ _ _ (q0q (q4f (z4a (QE.h (q1d (q1w (q1a (q5a (q0f q0i (pv 1) q0c q0w) (q5a (q0f q0g (pv 0) q0c q0w) (q4c (pv 2) q0v))))))) q0e))))) ?w4))),?_⟩
 case w3 =>
  rintro D σ H ⟨lo,l7,p,x,one,other,t,pl,la,s,rfl,⟨l1,us,O⟩,hp,q⟩
  unfold x5n at q
  refine⟨_,rfl,_,rfl,?_⟩
  cases hb:g1O s one t with
  | false=>rw [hb] at q; exact q2p (q H (q1l.refl _))
  | true =>
   rw [hb] at q
   refine q2z ⟨_,rfl,p,_,_,.int la,rfl,rfl,SqT.of hp,q0a (j:=5) rfl,_,rfl,p,_,_,.int pl,rfl,rfl,SqT.of hp,q0a (j:=4) rfl,q1n (by show 2≤1000; decide),fun p1 hp1=>?_⟩
   have s1:=q0d (o:=HO.lst [V.int la,V.int pl]) hp1
   refine⟨_,rfl,lo,_,_,.ref l1,rfl,rfl,SqL.of (s1 _ _ O.at_),q0a (j:=1) rfl,l1,us,s.L,rfl,SqL.of (s1 _ _ O.r),O.e.same s1,_,rfl,lo,_,_,.ref l1,rfl,rfl,SqL.of (s1 _ _ O.at_),q0a (j:=1) rfl,l1,_,rfl,.inl (SqL.of (s1 _ _ O.r)),q1n (by show 2≤1000; decide),fun p2 hp2=>?_⟩
   have s2:=q0d (o:=HO.lst [V.int (q1h 0 s.L),V.int (us.length:Int)]) hp2
   refine⟨p1,p2,[la,pl],[q1h 0 s.L,(us.length:Int)],rfl,rfl,SqL.of (s2 _ _ q0b),SqL.of q0b,rfl,?_⟩
   rw [O.e.length] at s2 ⊢
   exact q _ (s1.trans s2)
 case w4 =>
  rintro D σ H ⟨lo,l7,p,x,one,other,t,pl,la,s,b,rfl,⟨l1,us,O⟩,hp,q⟩
  refine⟨_,rfl,_,rfl,?_⟩
  cases b with
  | true =>
   have np:p≠lo:=fun z=>by rw [z,O.at_] at hp; cases hp
   refine q2z ⟨_,rfl,p,_,_,.int one,rfl,rfl,SqT.of hp,q0a (j:=1) rfl,_,rfl,lo,_,_,6,rfl,rfl,O.at_,rfl,?_⟩
   refine⟨_,rfl,p,_,_,.int one,rfl,rfl,SqT.of (q0k _ _ np hp),q0a (j:=1) rfl,_,rfl,lo,_,_,.int s.t,rfl,rfl,SqL.of q0b,q0a (j:=0) rfl,_,rfl,q1n (by show 5≤1000; decide),fun r hr1=>⟨q1n (by show 1≤1000; decide),fun l hl=>?_⟩⟩
   have s1:=q0d (o:=HO.tup [V.str "voice",V.int 4,V.int one,V.int s.t,V.bl true]) hr1
   have s2:=q0d (o:=HO.lst [V.ref r]) hl
   have nl:H l=none:=by
    cases ez:H l with
    | none=>rfl
    | some o =>
     by_cases z:l=lo
     ·rw [z,s1 _ _ q0b] at hl; cases hl
     ·rw [s1 _ _ (q0k _ _ z ez)] at hl; cases hl
   exact q l _ _ q0b nl (.cons (.tup (s2 _ _ q0b) (.cons (.str _) (.cons (.int _) (.cons (.int _) (.cons (.int _) (.cons (.bl _) .nil)))))) .nil) (OsO.same ⟨l1,us,O.put (s':={ s with vc:=some one }) q0k q0b rfl⟩ (s1.trans s2)) (q0k.trans (q1f (s1.trans s2)))
  | false =>
   refine q2p ⟨_,rfl,p,_,_,.int one,rfl,rfl,SqT.of hp,q0a (j:=1) rfl,_,rfl,lo,_,_,.int s.t,rfl,rfl,SqL.of O.at_,q0a (j:=0) rfl,_,rfl,q1n (by show 5≤1000; decide),fun r hr1=>⟨q1n (by show 1≤1000; decide),fun l hl=>?_⟩⟩
   have s1:=q0d (o:=HO.tup [V.str "voice",V.int 4,V.int one,V.int s.t,V.bl false]) hr1
   have s2:=q0d (o:=HO.lst [V.ref r]) hl
   refine q l _ _ q0b ?_ (.cons (.tup (s2 _ _ q0b) (.cons (.str _) (.cons (.int _) (.cons (.int _) (.cons (.int _) (.cons (.bl _) .nil)))))) .nil) (OsO.same ⟨l1,us,O⟩ (s1.trans s2)) (q1f (s1.trans s2))
   cases ez:H l with
   | none=>rfl
   | some o=>rw [s1 _ _ ez] at hl; cases hl
 obtain⟨l0,us0,O0⟩:=id hO
 refine⟨_,rfl,_,rfl,p,_,_,.int t,rfl,rfl,SqT.of hp,q0a (j:=3) rfl,lo,l7,t,s0,rfl,hO,fun H1 hO1 o1=>?_⟩
 have hp1:=(o1.tupsL O0.at_) _ _ hp
 unfold j0o at q
 generalize q1b s0 t=s1 at hO1 q
 obtain⟨l1,us,O⟩:=id hO1
 have nn:∀ {H2:Hp} {l:Addr},q1l H1 H2→H2 l=none→H l=none:=fun {H2 l} ss hl=>o1.none O.at_ (by
  cases ez:H1 l with
  | none=>rfl
  | some o=>rw [ss _ _ ez] at hl; cases hl)
 have fin:∀ (b:Bool) (H2:Hp),b=g1O s1 one t→q1l H1 H2→∃ (lo' l7' p':Addr),True:=fun _ _ _ _=>⟨lo,l7,p,trivial⟩
 clear fin
 refine⟨_,rfl,p,_,_,.int t,rfl,rfl,SqT.of hp1,q0a (j:=3) rfl,_,rfl,lo,_,_,.int s1.t,rfl,rfl,SqL.of O.at_,q0a (j:=0) rfl,rfl,_,rfl,?_⟩
 by_cases h1:t=s1.t
 ·rw [decide_eq_true (congrArg V.int h1)]
  refine q2z ⟨_,rfl,lo,_,_,vcV s1.vc,rfl,rfl,SqL.of O.at_,q0a (j:=6) rfl,_,rfl,p,_,_,.int one,rfl,rfl,SqT.of hp1,q0a (j:=1) rfl,q1n (by show 2≤1000; decide),fun tp htp=>?_⟩
  have s2:=q0d (o:=HO.tup [V.non,V.int one]) htp
  refine⟨tp,_,rfl,.inr (SqT.of q0b),x7a s1.vc,rfl,?_⟩
  have eb:inV (vcV s1.vc) [V.non,V.int one]=g1O s1 one t:=by rw [j3j]; unfold g1O; rw [decide_eq_true h1,Bool.true_and]
  exact⟨lo,l7,p,x,one,other,t,pl,la,s1,by rw [← eb]; rfl,hO1.same s2,s2 _ _ hp1,fun H3 s3=>⟨lo,l7,p,x,one,other,t,pl,la,s1,_,rfl,hO1.same (s2.trans s3),(s2.trans s3) _ _ hp1,fun l xs H4 hl n4 hI hO4 o4=>q l xs H4 hl (nn (s2.trans s3) n4) hI hO4 (o1.trans ((q1f (s2.trans s3)).trans o4))⟩⟩
 ·rw [decide_eq_false (fun z=>h1 (V.int.inj z))]
  have eb:false=g1O s1 one t:=by unfold g1O; rw [decide_eq_false h1]; rfl
  exact q2p ⟨lo,l7,p,x,one,other,t,pl,la,s1,by rw [← eb]; rfl,hO1,hp1,fun H3 s3=>⟨lo,l7,p,x,one,other,t,pl,la,s1,_,rfl,hO1.same s3,s3 _ _ hp1,fun l xs H4 hl n4 hI hO4 o4=>q l xs H4 hl (nn s3 n4) hI hO4 (o1.trans ((q1f s3).trans o4))⟩⟩
end
end K1
namespace L2
open PySem PySem.Spec PyProof.Rows
structure M2 (X:Cx) (o:Expr) (m:Str) (apos:Pos) (e f:Expr) (cpos:Pos):Prop where
 base:attributeBase o m X.env (eval o X.env)=eval o X.env
 few:((backTo cpos (starEach [e,f] X.env)).all (fun x => !x.1) && (backToKw cpos (keywordEach [] X.env)).all (fun x=>x.1.isSome)
  && decide (([e,f]:List Expr).length+([]:List Keyword).length+(if ([]:List Keyword).isEmpty then 0 else 1) < 30))=true
 line:(apos.endLine==cpos.line)=true
 trees:backTo cpos (starEach [e,f] X.env)=[(false,eval e X.env),(false,eval f X.env)]
noncomputable def IsD (H:Hp) (a:Addr):Prop:=(∃ kvs,Rd H a (.dK kvs))∨∃ kvs,Rd H a (.dT kvs)
theorem j1z {X:Cx} {pins:List (Addr × Obj)} {σ:St} {H:Hp} {s:Shared} {a:Addr} (I:Inv X pins σ H s) (d:IsD H a) :
  s.TypeIs (.ref a) "dict" ∧ (∀ b,Value.ref a=.ref b→∃ ob,s.heap.get? b=some ob∧ob.dict=none)∧(a==sysModules)=false:=by
 rcases d with ⟨kvs,e⟩ | ⟨kvs,e⟩
 ·obtain⟨_,hd,vs,_,dd⟩:=z1j I.hok e
  refine⟨dd.typeIs,fun b q=>?_,hd⟩
  cases q
  obtain⟨ob,_,_,h1,h2,_⟩:=dd
  exact⟨ob,h1,h2.2.1⟩
 ·obtain⟨_,hd,xs,_,dd⟩:=z2d I.hok e
  refine⟨dd.typeIs,fun b q=>?_,hd⟩
  cases q
  obtain⟨ob,_,_,h1,h2,_⟩:=dd
  exact⟨ob,h1,h2.2.1⟩
section
variable {X:Cx} {pins:List (Addr × Obj)} {σ:St} {H:Hp} {s:Shared} {a:Addr} {y d:V} {u r:Value} {o:Option V} {A:Around} {E:Value→Shared→Prop}
theorem j2h {Q:Value→Shared→Prop} (hu:A.units+1 < cLine) (I:Inv X pins σ H s) (g:x8u H a y o) (ry:q3a y u) (rd:q3a d r) (h:∀ w' s',Inv X pins σ H s'→q3a (o.getD d) w'→Q w' s') :
  wpAny (model X.prog X.w) A (call (.builtin "dict.get") [.ref a,u,r]) Q E s:=by
 rcases g with ⟨kvs,k,e,ey,l⟩ | ⟨kvs,k,b,e,ey,eb,l⟩
 ·subst ey
  obtain⟨z,hd,vs,rel,dd⟩:=z1j I.hok e
  refine call_meetsIn PySem.F.slot_dict_get dd.typeIs PySem.F.entry_dict_get (PySem.F.args_dict_get_3 _ _ _) (meets_dict_get_default (q2x X.prog X.w) a (z6a ry) hd r) ⟨_,dd.mapOf,h _ _ (I.tok _) ?_⟩
  rw [l]
  exact (rel.val k).getD rd
 ·subst ey
  cases (show u=Value.ref b from ry)
  obtain⟨z,hd,xs,rel,dd⟩:=z2d I.hok e
  refine call_meetsIn PySem.F.slot_dict_get dd.typeIs PySem.F.entry_dict_get (PySem.F.args_dict_get_3 _ _ _) (meetsH_dict_get_default (tupleKind (q2x X.prog X.w)) a b hd r) ⟨tupleKind_room_in1 hu,k,xs,x7w I.hok eb,dd,h _ _ (I.tok _) ?_⟩
  rw [l]
  exact (rel.val k).getD rd
end
noncomputable def j1r (td ty tx:TE):TE:=fun σ H Q=>td σ H fun x H1=>∃ a,x=.ref a∧IsD H1 a∧ty σ H1 fun y H2=>tx σ H2 fun z H3=>∃ o,x8u H3 a y o∧Q (o.getD z) H3
section
variable {X:Cx} {o e f:Expr} {apos cpos:Pos} {td ty tx:TE}
theorem x7l (hu:X.A.units+1 < cLine) (ho:PE X o td) (he:PE X e ty) (hf:PE X f tx) (m:M2 X o "get" apos e f cpos):PE X (.Call (.Attribute o "get" apos) [e,f] [] cpos) (j1r td ty tx):=by
 intro pins s σ H Q I h
 refine wpAny_Call_method m.base m.few m.line PySem.F.plainAttrs_dict PySem.F.slot_dict_get PySem.F.type_dict_get (thn (ho pins s σ H _ I h) fun u s1 ⟨x,H1,I1,rx,a,ex,d,q1⟩=>?_)
 subst ex
 obtain rfl:u=Value.ref a:=rx
 obtain⟨t1,t2,_⟩:=j1z I1 d
 refine⟨t1,t2,?_⟩
 rw [m.trees]
 refine Calls.callWith_builtin rfl (Calls.evalArgs_plain (Calls.spliced_cons (thn (he pins s1 σ H1 _ I1 q1) fun iv s2 ⟨y,H2,I2,ry,q2⟩ =>
  Calls.spliced_cons (thn (hf pins s2 σ H2 _ I2 q2) fun fv s3 ⟨z,H3,I3,rz,ov,g,q3⟩=>Calls.spliced_nil ?_))))
 exact j2h hu I3 g ry rz fun w' s4 I4 rw'=>⟨_,H3,I4,rw',q3⟩
end
end L2
namespace K1
open PySem L2 Kp
theorem q9w {α:Type} {p q:α→Bool} {c:Bool}:∀ {l:List α},(∀ r∈l,q r=true→p r=c)→(l.filter p).find? q=if c=true then l.find? q else none
 | [],_=>by cases c <;> rfl
 | r::l,h=>by
  have ih:=q9w (l:=l) fun x hx=>h x (List.mem_cons_of_mem _ hx)
  have hr:=h r List.mem_cons_self
  cases hq:q r with
  | true =>
   rw [List.filter_cons,hr hq]
   cases c with
   | true=>rw [if_pos rfl,List.find?_cons,hq,if_pos rfl,List.find?_cons,hq]
   | false=>rw [if_neg Bool.false_ne_true,ih,if_neg Bool.false_ne_true,if_neg Bool.false_ne_true]
  | false =>
   rw [List.filter_cons,List.find?_cons,hq]
   cases hp:p r with
   | true=>rw [if_pos rfl,List.find?_cons,hq]; exact ih
   | false=>rw [if_neg Bool.false_ne_true]; exact ih
theorem x5g (rs:List Rw) (n:Str) (is:List Int) (x:Str):(q1t rs (n,is)).find? (fun r=>decide (r.1=x))=if n=x then some (n,is) else rs.find? (fun r=>decide (r.1=x)):=by
 unfold q1t
 rw [List.find?_append,List.find?_cons]
 by_cases e:n=x
 ·subst e
  rw [if_pos rfl]
  have h1:(rs.filter fun r=>decide (q1m r.1 (n,is).1)).find? (fun r=>decide (r.1=n))=none:=by
   rw [q9w (c:=false) fun r _ hq=>by rw [of_decide_eq_true hq]; exact decide_eq_false (q5s _)]
   rfl
  rw [h1]
  show (match decide (n=n) with | true=>some (n,is) | false=>_)=_
  rw [decide_eq_true rfl]
 ·rw [if_neg e]
  show ((rs.filter fun r=>decide (q1m r.1 n)).find? fun r=>decide (r.1=x)).or (match decide (n=x) with | true=>some (n,is) | false=>(rs.filter fun r=>decide (q1m n r.1)).find? fun r=>decide (r.1=x))=_
  rw [decide_eq_false e]
  rw [q9w (c:=decide (q1m x n)) fun r _ hq=>by rw [of_decide_eq_true hq],q9w (c:=decide (q1m n x)) fun r _ hq=>by rw [of_decide_eq_true hq]]
  by_cases b1:q1m x n
  ·rw [decide_eq_true b1,if_pos rfl,decide_eq_false (q9l b1),if_neg Bool.false_ne_true]
   cases rs.find? fun r=>decide (r.1=x) <;> rfl
  ·rw [decide_eq_false b1,if_neg Bool.false_ne_true]
   by_cases b2:q1m n x
   ·rw [decide_eq_true b2,if_pos rfl]; rfl
   ·exact absurd (x2c b2 b1) e
theorem z0p (rs:List Rw) (n:Str):q9r rs n=match rs.find? fun r=>decide (r.1=n) with
  | some r=>r.2.headD 0
  | none=>0:=by
 unfold q9r
 rw [← List.head?_filter]
 cases rs.filter fun r=>decide (r.1=n) <;> rfl
structure DRw (R:V→List Int→Prop) (kvs:List (Key × V)) (rs:List Rw):Prop where
 ks:∀ kv∈kvs,∃ x,kv.1=Sum.inr x
 nd:(kvs.map (·.1)).Nodup
 s:∀ x r,rs.find? (fun r=>decide (r.1=x))=some r→∃ v,q9o kvs (Sum.inr x)=some v∧R v r.2
 n:∀ x,rs.find? (fun r=>decide (r.1=x))=none→q9o kvs (Sum.inr x)=none
theorem DRw.nil {R:V→List Int→Prop}:DRw R [] []:=⟨fun _ h=>absurd h List.not_mem_nil,List.nodup_nil,fun x r h=>by simp at h,fun _ _=>rfl⟩
theorem DRw.mono {R R':V→List Int→Prop} {kvs:List (Key × V)} {rs:List Rw} (h:DRw R kvs rs) (m:∀ v is,R v is→R' v is):DRw R' kvs rs:=⟨h.ks,h.nd,fun x r e=>let ⟨v,h1,h2⟩:=h.s x r e; ⟨v,h1,m _ _ h2⟩,h.n⟩
theorem x7j {kvs:List (Key × V)} {k:Key} (v:V) (hm:k∈kvs.map (·.1)):(q7y kvs k v).map (·.1)=kvs.map (·.1):=by
 have h:(kvs.any fun kv=>decide (kv.1=k))=true:=by
  obtain⟨x,hx,e⟩:=List.mem_map.mp hm
  exact List.any_eq_true.mpr ⟨x,hx,decide_eq_true e⟩
 unfold q7y
 rw [if_pos h,List.map_map]
 apply List.map_congr_left
 intro x hx
 by_cases e:x.1=k
 ·simp [e]
 ·simp [e]
theorem x8t {kvs:List (Key × V)} {k:Key} (v:V) (hm:¬ k∈kvs.map (·.1)):(q7y kvs k v).map (·.1)=kvs.map (·.1)++[k]:=by
 have h:¬ (kvs.any fun kv=>decide (kv.1=k))=true:=fun h=>hm (by
  obtain⟨x,hx,e⟩:=List.any_eq_true.mp h
  exact List.mem_map.mpr ⟨x,hx,of_decide_eq_true e⟩)
 unfold q7y
 rw [if_neg h,List.map_append]
 rfl
theorem DRw.put {R:V→List Int→Prop} {kvs:List (Key × V)} {rs:List Rw} (h:DRw R kvs rs) {n:Str} {is:List Int} {v:V} (hv:R v is):DRw R (q7y kvs (Sum.inr n) v) (q1t rs (n,is)):=by
 have mem:∀ k∈(q7y kvs (Sum.inr n) v).map (·.1),∃ x,k=Sum.inr x:=fun k hk=>by
  by_cases hm:(Sum.inr n:Key)∈kvs.map (·.1)
  ·rw [x7j v hm] at hk
   obtain⟨kv,h1,rfl⟩:=List.mem_map.mp hk
   exact h.ks kv h1
  ·rw [x8t v hm] at hk
   rcases List.mem_append.mp hk with hk | hk
   ·obtain⟨kv,h1,rfl⟩:=List.mem_map.mp hk
    exact h.ks kv h1
   ·exact⟨n,List.mem_singleton.mp hk⟩
 refine⟨fun kv hk=>mem _ (List.mem_map.mpr ⟨kv,hk,rfl⟩),?_,fun x r hr=>?_,fun x hr=>?_⟩
 ·by_cases hm:(Sum.inr n:Key)∈kvs.map (·.1)
  ·rw [x7j v hm]; exact h.nd
  ·rw [x8t v hm,List.nodup_append]
   refine⟨h.nd,List.nodup_cons.mpr ⟨List.not_mem_nil,List.nodup_nil⟩,fun a ha b hb e=>hm ?_⟩
   rw [← List.mem_singleton.mp hb,← e]
   exact ha
 ·rw [x5g] at hr
  rw [x8a]
  by_cases e:n=x
  ·rw [if_pos e] at hr
   cases hr
   rw [if_pos (by rw [e])]
   exact⟨v,rfl,hv⟩
  ·rw [if_neg e] at hr
   rw [if_neg (fun z=>e (Sum.inr.inj z).symm)]
   exact h.s x r hr
 ·rw [x5g] at hr
  rw [x8a]
  by_cases e:n=x
  ·rw [if_pos e] at hr; cases hr
  ·rw [if_neg e] at hr
   rw [if_neg (fun z=>e (Sum.inr.inj z).symm)]
   exact h.n x hr
theorem x1z:∀ {kvs:List (Key × V)},(∀ kv∈kvs,∃ x,kv.1=Sum.inr x)→∃ ns:List Str,kvs.map (·.1)=ns.map Sum.inr
 | [],_=>⟨[],rfl⟩
 | kv::kvs,h=>by
  obtain⟨x,e⟩:=h kv List.mem_cons_self
  obtain⟨ns,e2⟩:=x1z (kvs:=kvs) fun k hk=>h k (List.mem_cons_of_mem _ hk)
  exact⟨x::ns,by rw [List.map_cons,List.map_cons,e,e2]⟩
theorem x4u:∀ {ns:List Str},(ns.map (Sum.inr:Str→Key)).Nodup→ns.Nodup
 | [],_=>List.nodup_nil
 | x::ns,h=>by
  rw [List.map_cons,List.nodup_cons] at h
  exact List.nodup_cons.mpr ⟨fun m=>h.1 (List.mem_map.mpr ⟨x,m,rfl⟩),x4u h.2⟩
theorem z7g {kvs:List (Key × V)} {k:Key}:(q9o kvs k).isSome=true↔k∈kvs.map (·.1):=by
 rw [← q8c,List.any_eq_true]
 constructor
 ·rintro⟨x,hx,e⟩
  exact List.mem_map.mpr ⟨x,hx,of_decide_eq_true e⟩
 ·intro hm
  obtain⟨x,hx,e⟩:=List.mem_map.mp hm
  exact⟨x,hx,decide_eq_true e⟩
theorem z0t:∀ {l:List Str},l.Pairwise (fun a b=>¬ q1m b a)→l.Nodup→l.Pairwise q1m
 | [],_,_=>.nil
 | x::l,h,n=>by
  rw [List.pairwise_cons] at h ⊢
  rw [List.nodup_cons] at n
  refine⟨fun y hy=>?_,z0t h.2 n.2⟩
  by_cases e:q1m x y
  ·exact e
  ·exact absurd (x2c e (h.1 y hy)) (fun e=>n.1 (by rw [e]; exact hy))
theorem DRw.sorted {R:V→List Int→Prop} {W:List Str} {m:Nat} {kvs:List (Key × V)} {rs:List Rw} (h:DRw R kvs rs) (ok:RwOk W m rs):∃ ns:List Str,kvs.map (·.1)=ns.map Sum.inr∧ns.length=rs.length∧∀ ns':List Str,ns'.Perm ns→ns'.Pairwise (fun a b=>¬ q1m b a)→ns'=rs.map (·.1):=by
 obtain⟨ns,e⟩:=x1z h.ks
 have hn:ns.Nodup:=x4u (by rw [← e]; exact h.nd)
 have mem:∀ x,x∈ns↔x∈rs.map (·.1):=fun x=>by
  have h1:x∈ns↔(Sum.inr x:Key)∈kvs.map (·.1):=by
   rw [e]
   exact⟨fun hx=>List.mem_map.mpr ⟨x,hx,rfl⟩,fun hx=>by
    obtain⟨y,hy,z⟩:=List.mem_map.mp hx
    rw [← Sum.inr.inj z]; exact hy⟩
  rw [h1,← z7g]
  cases hf:rs.find? fun r=>decide (r.1=x) with
  | none =>
   rw [h.n x hf]
   refine⟨fun z=>absurd z Bool.false_ne_true,fun z=>?_⟩
   obtain⟨r,hr,rfl⟩:=List.mem_map.mp z
   have:=List.find?_eq_none.mp hf r hr
   simp at this
  | some r =>
   obtain⟨v,hv,_⟩:=h.s x r hf
   rw [hv]
   refine⟨fun _=>List.mem_map.mpr ⟨r,List.mem_of_find?_eq_some hf,?_⟩,fun _=>rfl⟩
   have:=List.find?_some hf
   exact of_decide_eq_true this
 have hp:ns.Perm (rs.map (·.1)):=(List.perm_ext_iff_of_nodup hn ok.nodup).mpr mem
 refine⟨ns,e,by rw [hp.length_eq,List.length_map],fun ns' p' up=>?_⟩
 have hn':ns'.Nodup:=p'.nodup_iff.mpr hn
 have u1:=z0t up hn'
 have hp':=p'.trans hp
 have:=x4t (ns'.map fun x=>(x,[])) ((rs.map (·.1)).map fun x=>(x,[])) (hp'.map _) (by rw [List.pairwise_map]; exact u1) (by rw [List.pairwise_map,List.pairwise_map]; exact ok.up)
 have e2:=congrArg (List.map (·.1)) this
 have idm:∀ l:List Str,(l.map fun x=>((x,[]):Rw)).map (·.1)=l:=fun l=>by
  rw [List.map_map]
  exact List.map_id' l
 rw [idm,idm] at e2
 exact e2
noncomputable def R1 (v:V) (is:List Int):Prop:=is.map V.int=[v]
noncomputable def R2 (H:Hp) (v:V) (is:List Int):Prop:=∃ (p:Addr) (a b:Int),v=.ref p∧is=[a,b]∧H p=some (.tup [.int a,.int b])
theorem R2.sameT {H H':Hp} {v:V} {is:List Int} (h:R2 H v is) (s:q2o H H'):R2 H' v is:=let ⟨p,a,b,e1,e2,hp⟩:=h; ⟨p,a,b,e1,e2,s _ _ hp⟩
section
variable {P:Program} {w:World} {K:Frag} {mg:Str→Option Value} {base:Heap}
noncomputable def z8e:Sp:=fun vs H Q _=>∃ (d1 d2:Addr) (u:V) (k1 k2:List (Key × V)) (S:Sto) (x:What) (W C:List Str),vs=[.ref d1,.ref d2,u]∧H d1=some (.dK k1)∧H d2=some (.dK k2)∧d1≠d2∧DRw R1 k1 S.1∧DRw (R2 H) k2 S.2∧StoOk W C S∧q4x H u x∧x3v W C x∧W.length≤30∧C.length≤30 ∧
 ∀ (H':Hp) (k1' k2':List (Key × V)),H' d1=some (.dK k1')→H' d2=some (.dK k2')→DRw R1 k1' (q5e S x).1→DRw (R2 H') k2' (q5e S x).2→(∀ b o,b≠d1→b≠d2→H b=some o→H' b=some o)→Q .non H'
theorem z2n:FnScope ["_law_names", "_law_callers", "_law_what_here", "_law_deed", "_law_ahead", "_law_answer"] ["_law_names", "_law_callers", "_law_what_here"] (q0h q7k):=fSc
theorem DRw.len {R:V→List Int→Prop} {W:List Str} {m:Nat} {kvs:List (Key × V)} {rs:List Rw} (h:DRw R kvs rs) (ok:RwOk W m rs):kvs.length≤W.length:=by
 obtain⟨ns,e,l,_⟩:=h.sorted ok
 have e2:=congrArg List.length e
 rw [List.length_map,List.length_map] at e2
 have:=ok.len
 omega
theorem DRw.getN {k1:List (Key × V)} {W:List Str} {rs:List Rw} (h:DRw R1 k1 rs) (ok:RwOk W 1 rs) (n:Str):(q9o k1 (Sum.inr n)).getD (.int 0)=.int (q9r rs n):=by
 rw [z0p]
 cases hf:rs.find? fun r=>decide (r.1=n) with
 | none=>rw [h.n n hf]; rfl
 | some r =>
  obtain⟨v,hv,hR⟩:=h.s n r hf
  rw [hv]
  have hl:=ok.sz r (List.mem_of_find?_eq_some hf)
  obtain⟨a,ha⟩:=List.length_eq_one_iff.mp hl
  have hR':r.2.map V.int=[v]:=hR
  show v=V.int (r.2.headD 0)
  rw [ha] at hR' ⊢
  exact (List.cons.inj hR').1.symm
theorem DRw.getC {H:Hp} {k2:List (Key × V)} {rs:List Rw} {t0:Addr} (h:DRw (R2 H) k2 rs) (h0:H t0=some (.tup [.int 0,.int 0])) (c:Str):∃ (p:Addr) (b:Int),(q9o k2 (Sum.inr c)).getD (.ref t0)=.ref p∧H p=some (.tup [.int (q6o rs c).1,.int b]):=by
 unfold q6o
 cases hf:rs.find? fun r=>decide (r.1=c) with
 | none=>rw [h.n c hf]; exact⟨t0,0,rfl,h0⟩
 | some r =>
  obtain⟨v,hv,p,a,b,rfl,hi,hp⟩:=h.s c r hf
  rw [hv]
  refine⟨p,b,rfl,?_⟩
  show H p=some (.tup [.int (r.2.headD 0),.int b])
  rw [hi]
  exact hp
theorem j2s {f:Addr} {fd:FuncData} (F:Fun K "_law_done" "_law_done" q7k f fd):FnOk P w K mg base CX0 1 f fd ["_law_names", "_law_callers", "_law_what_here"] z8e:=by
 refine F.ok z2n (by rintro _ _ _ _⟨_,_,_,_,_,_,_,_,_,rfl,_⟩; rfl) (fun _ A _ s H vs Q E hr h=>?_)
 obtain⟨d1,d2,u,k1,k2,S,x,W,C,rfl,h1,h2,hne,D1,D2,sok,hw,wok,hW,hC,q⟩:=h
 refine⟨_,@q0j _ _ _ _ _ (q1g (PW.pt (q4d (q0m q4y (q0f q0i (pv 2) q0c q0w) q2k (q0o _)) (q2s (q0m x3s (q0f q0i (pv 2) q0c q0w) (q0f q0i (x7l (x4s hr) (pv 1) (q0f q0i (pv 2) q0c q0w) (QE.h (q1d (q1a (q1a q0v)))) ⟨rfl,rfl,rfl,rfl⟩) q0c q0w) (q0o _))))) (@q0p _ _ _ z3i) q0u)
  (@q0j _ _ _ _ _ (q0r (i:=3) z2n.nd (by rfl) (by exact Or.inl rfl) (q0f q0i (pv 2) q0c q0w))
  (@q0j _ _ _ _ _ (q0r (i:=4) z2n.nd (by rfl) (by exact Or.inl rfl) (x7l (x4s hr) (pv 0) (q0f q0i (pv 3) q0c q0w) q0c ⟨rfl,rfl,rfl,rfl⟩))
  (@q0j _ _ _ _ _ (q0r (i:=5) z2n.nd (by rfl) (by exact Or.inl rfl) (pv 4))
  (@q0j _ _ _ _ _ (q1g (q0m q2u (q0f q0i (pv 3) q0c q0w) q2k (q0o _)) (@q0p _ _ _ (x7g (x4s hr) (pv 0) (q0f q0i (pv 3) q0c q0w) (q0f q0i (pv 3) q0c q0w) (by rfl))) q0u)
  (@q0j _ _ _ _ _ (q1g (q0m q2u (q0f q0i (pv 3) q0c q0w) q2k (q0o _)) (@q0j _ _ _ _ _ (q0r (i:=5) z2n.nd (by rfl) (by exact Or.inl rfl) (q0x q1o (pv 4) (q0f q0i (pv 3) q0c q0w))) (@q0p _ _ _ (x7g (x4s hr) (pv 0) (q0f q0i (pv 3) q0c q0w) (pv 5) (by rfl)))) q0u)
  (@q0p _ _ _ (x7g (x4s hr) (pv 1) (q0f q0i (pv 2) q0c q0w) (QE.h (q1d (q5a (q0f q0i (pv 2) q0c q0w) (q4c (pv 5) q0v)))) (by rfl)))))))),?_⟩
 cases x with
 | opn =>
  obtain⟨pu,rfl,hpu⟩:=hw
  refine⟨_,rfl,pu,_,_,.str "open",rfl,rfl,SqT.of hpu,q0a (j:=0) rfl,rfl,_,rfl,?_⟩
  rw [decide_eq_false (fun z=>absurd (V.str.inj z) (by decide +kernel))]
  exact q2z (q2z (q H k1 k2 h1 h2 D1 D2 fun b o _ _ e=>e))
 | seats ms =>
  obtain⟨pu,q2,rfl,hpu,_⟩:=hw
  refine⟨_,rfl,pu,_,_,.str "seats",rfl,rfl,SqT.of hpu,q0a (j:=0) rfl,rfl,_,rfl,?_⟩
  rw [decide_eq_false (fun z=>absurd (V.str.inj z) (by decide +kernel))]
  exact q2z (q2z (q H k1 k2 h1 h2 D1 D2 fun b o _ _ e=>e))
 | wish c n d =>
  obtain⟨pu,u2,rfl,hpu,hd⟩:=hw
  refine⟨_,rfl,pu,_,_,.str "wish",rfl,rfl,SqT.of hpu,q0a (j:=0) rfl,rfl,_,rfl,?_⟩
  rw [decide_eq_true (show V.str ("wish" : Str)=V.str "wish" from rfl)]
  refine q2p ⟨_,rfl,pu,_,_,.int n,rfl,rfl,SqT.of hpu,q0a (j:=2) rfl,_,rfl,d2,rfl,.inl ⟨_,.inl h2⟩,_,rfl,pu,_,_,.str c,rfl,rfl,SqT.of hpu,q0a (j:=1) rfl,q1n (by show 2≤1000; decide),fun t0 ht0=>?_⟩
  have s0:=q0d (o:=HO.tup [V.int 0,V.int 0]) ht0
  have D20:DRw (R2 (upd H t0 (.tup [V.int 0,V.int 0]))) k2 S.2:=D2.mono fun v is z=>z.sameT (q1j s0)
  obtain⟨pc,bc,epc,hpc⟩:=D20.getC q0b c
  generalize upd H t0 (.tup [V.int 0,V.int 0])=H0 at s0 D20 hpc
  refine⟨_,x8u.k (k:=Sum.inr c) (s0 _ _ h2),?_⟩
  rw [epc]
  refine⟨pc,_,_,.int (q6o S.2 c).1,rfl,rfl,SqT.of hpc,q0a (j:=0) rfl,_,_,rfl,rfl,_,rfl,?_⟩
  by_cases hle:n≤(q6o S.2 c).1
  ·rw [decide_eq_true hle]
   refine q2z (q H0 k1 k2 (s0 _ _ h1) (s0 _ _ h2) ?_ ?_ fun b o _ _ e=>s0 _ _ e)
   ·unfold q5e; simp only [hle,if_true]; exact D1
   ·unfold q5e; simp only [hle,if_true]; exact D20
  rw [decide_eq_false hle]
  have q:∀ (H':Hp) (k1' k2':List (Key × V)),H' d1=some (.dK k1')→H' d2=some (.dK k2')→DRw R1 k1' (q8b S d).1.1→DRw (R2 H') k2' (q1t S.2 (c,[n,(q8b S d).2]))→(∀ b o,b≠d1→b≠d2→H b=some o→H' b=some o)→Q .non H':=fun H' k1' k2' a1 a2 a3 a4 a5=>q H' k1' k2' a1 a2 (by unfold q5e; simp only [hle,if_false]; exact a3) (by unfold q5e; simp only [hle,if_false]; exact a4) a5
  have hpu0:=s0 _ _ hpu
  have h10:=s0 _ _ h1
  have h20:=s0 _ _ h2
  have l1:=D1.len sok.ns
  have l2:=D2.len sok.cs
  have hz1:k1.length < sizeLine:=by rw [sizeLine_eq]; omega
  have hz2:k2.length < sizeLine:=by rw [sizeLine_eq]; omega
  refine q2p ⟨_,rfl,pu,_,_,u2,rfl,rfl,SqT.of hpu0,q0a (j:=3) rfl,?_⟩
  have fin:∀ (z:Int) (k1':List (Key × V)) (H1:Hp),z=(q8b S d).2→H1 d1=some (.dK k1')→H1 d2=some (.dK k2)→DRw R1 k1' (q8b S d).1.1→(∀ b o,b≠d1→H0 b=some o→H1 b=some o)→sizeLine=sizeLine→∀ p,H1 p=none→∃ H4,z7d (upd H1 p (.tup [V.int n,V.int z])) d2 (.str c) (.ref p) H4∧Q .non H4:=fun z k1' H1 ez g1 g2 gD keep _ p hp=>by
   have sp:=q0d (o:=HO.tup [V.int n,V.int z]) hp
   refine⟨_,z7d.k (k:=Sum.inr c) (sp _ _ g2) hz2,?_⟩
   have np2:p≠d2:=fun e=>by rw [e,g2] at hp; cases hp
   have kt:q2o H0 (upd (upd H1 p (.tup [V.int n,V.int z])) d2 (.dK (q7y k2 (Sum.inr c) (.ref p)))):=fun b xs e=>by
    have nb1:b≠d1:=fun z=>by rw [z,h10] at e; cases e
    have nb2:b≠d2:=fun z=>by rw [z,h20] at e; cases e
    rw [q1c nb2]
    exact sp _ _ (keep _ _ nb1 e)
   refine q _ k1' _ (by rw [q1c hne]; exact sp _ _ g1) q0b gD ?_ fun b o n1 n2 e=>by rw [q1c n2]; exact sp _ _ (keep _ _ n1 (s0 _ _ e))
   refine (D20.mono fun v is zz=>zz.sameT kt).put ⟨p,n,(q8b S d).2,rfl,rfl,?_⟩
   rw [q1c np2,q0b,ez]
  cases d with
  | get x =>
   obtain⟨pd,rfl,hpd⟩:=hd
   have hpd0:=s0 _ _ hpd
   refine⟨_,rfl,d1,rfl,.inl ⟨_,.inl h10⟩,_,rfl,pd,_,_,.str x,rfl,rfl,SqT.of hpd0,q0a (j:=1) rfl,_,x8u.k (k:=Sum.inr x) h10,?_⟩
   rw [D1.getN sok.ns]
   refine⟨_,rfl,_,rfl,pd,_,_,.str "get",rfl,rfl,SqT.of hpd0,q0a (j:=0) rfl,rfl,_,rfl,?_⟩
   rw [decide_eq_false (fun z=>absurd (V.str.inj z) (by decide +kernel))]
   refine q2p ⟨_,rfl,pd,_,_,.str "get",rfl,rfl,SqT.of hpd0,q0a (j:=0) rfl,rfl,_,rfl,?_⟩
   rw [decide_eq_false (fun z=>absurd (V.str.inj z) (by decide +kernel))]
   refine q2p ⟨_,rfl,pu,_,_,.int n,rfl,rfl,SqT.of hpu0,q0a (j:=2) rfl,_,rfl,q1n (by show 2≤1000; decide),fun p hp=>?_⟩
   have sp:=q0d (o:=HO.tup [V.int n,V.int (q9r S.1 x)]) hp
   obtain⟨H4,g4,g5⟩:=fin (q9r S.1 x) k1 H0 rfl h10 h20 D1 (fun b o _ e=>e) rfl p hp
   exact⟨_,rfl,_,rfl,pu,_,_,.str c,rfl,rfl,SqT.of (sp _ _ hpu0),q0a (j:=1) rfl,d2,H4,rfl,g4,g5⟩
  | set x y =>
   obtain⟨pd,rfl,hpd⟩:=hd
   have hpd0:=s0 _ _ hpd
   refine⟨_,rfl,d1,rfl,.inl ⟨_,.inl h10⟩,_,rfl,pd,_,_,.str x,rfl,rfl,SqT.of hpd0,q0a (j:=1) rfl,_,x8u.k (k:=Sum.inr x) h10,?_⟩
   rw [D1.getN sok.ns]
   refine⟨_,rfl,_,rfl,pd,_,_,.str "set",rfl,rfl,SqT.of hpd0,q0a (j:=0) rfl,rfl,_,rfl,?_⟩
   rw [decide_eq_true (show V.str ("set" : Str)=V.str "set" from rfl)]
   refine q2z ⟨_,rfl,pd,_,_,.int y,rfl,rfl,SqT.of hpd0,q0a (j:=2) rfl,_,rfl,_,rfl,pd,_,_,.str x,rfl,rfl,SqT.of hpd0,q0a (j:=1) rfl,d1,_,rfl,z7d.k (k:=Sum.inr x) h10 hz1,?_⟩
   have kp:∀ b o,b≠d1→H0 b=some o→upd H0 d1 (.dK (q7y k1 (Sum.inr x) (.int y))) b=some o:=fun b o nb e=>by rw [q1c nb]; exact e
   have npd:pd≠d1:=fun z=>by rw [z,h10] at hpd0; cases hpd0
   have npu:pu≠d1:=fun z=>by rw [z,h10] at hpu0; cases hpu0
   have gD:DRw R1 (q7y k1 (Sum.inr x) (.int y)) (q1t S.1 (x,[y])):=D1.put rfl
   have g1:upd H0 d1 (.dK (q7y k1 (Sum.inr x) (.int y))) d1=some (.dK (q7y k1 (Sum.inr x) (.int y))):=q0b
   generalize upd H0 d1 (.dK (q7y k1 (Sum.inr x) (.int y)))=H1 at kp g1
   refine⟨_,rfl,pd,_,_,.str "set",rfl,rfl,SqT.of (kp _ _ npd hpd0),q0a (j:=0) rfl,rfl,_,rfl,?_⟩
   rw [decide_eq_false (fun z=>absurd (V.str.inj z) (by decide +kernel))]
   refine q2p ⟨_,rfl,pu,_,_,.int n,rfl,rfl,SqT.of (kp _ _ npu hpu0),q0a (j:=2) rfl,_,rfl,q1n (by show 2≤1000; decide),fun p hp=>?_⟩
   have sp:=q0d (o:=HO.tup [V.int n,V.int (q9r S.1 x)]) hp
   obtain⟨H4,g4,g5⟩:=fin (q9r S.1 x) _ H1 rfl g1 (kp _ _ hne.symm h20) gD kp rfl p hp
   exact⟨_,rfl,_,rfl,pu,_,_,.str c,rfl,rfl,SqT.of (sp _ _ (kp _ _ npu hpu0)),q0a (j:=1) rfl,d2,H4,rfl,g4,g5⟩
  | add x y =>
   obtain⟨pd,rfl,hpd⟩:=hd
   have hpd0:=s0 _ _ hpd
   refine⟨_,rfl,d1,rfl,.inl ⟨_,.inl h10⟩,_,rfl,pd,_,_,.str x,rfl,rfl,SqT.of hpd0,q0a (j:=1) rfl,_,x8u.k (k:=Sum.inr x) h10,?_⟩
   rw [D1.getN sok.ns]
   refine⟨_,rfl,_,rfl,pd,_,_,.str "add",rfl,rfl,SqT.of hpd0,q0a (j:=0) rfl,rfl,_,rfl,?_⟩
   rw [decide_eq_false (fun z=>absurd (V.str.inj z) (by decide +kernel))]
   refine q2p ⟨_,rfl,pd,_,_,.str "add",rfl,rfl,SqT.of hpd0,q0a (j:=0) rfl,rfl,_,rfl,?_⟩
   rw [decide_eq_true (show V.str ("add" : Str)=V.str "add" from rfl)]
   refine q2z ⟨_,rfl,_,rfl,pd,_,_,.int y,rfl,rfl,SqT.of hpd0,q0a (j:=2) rfl,_,_,rfl,rfl,?_⟩
   refine⟨_,rfl,_,rfl,_,rfl,pd,_,_,.str x,rfl,rfl,SqT.of hpd0,q0a (j:=1) rfl,d1,_,rfl,z7d.k (k:=Sum.inr x) h10 hz1,?_⟩
   have kp:∀ b o,b≠d1→H0 b=some o→upd H0 d1 (.dK (q7y k1 (Sum.inr x) (.int (q9r S.1 x+y)))) b=some o:=fun b o nb e=>by rw [q1c nb]; exact e
   have npu:pu≠d1:=fun z=>by rw [z,h10] at hpu0; cases hpu0
   have gD:DRw R1 (q7y k1 (Sum.inr x) (.int (q9r S.1 x+y))) (q1t S.1 (x,[q9r S.1 x+y])):=D1.put rfl
   have g1:upd H0 d1 (.dK (q7y k1 (Sum.inr x) (.int (q9r S.1 x+y)))) d1=some (.dK (q7y k1 (Sum.inr x) (.int (q9r S.1 x+y)))):=q0b
   generalize upd H0 d1 (.dK (q7y k1 (Sum.inr x) (.int (q9r S.1 x+y))))=H1 at kp g1
   refine⟨_,rfl,pu,_,_,.int n,rfl,rfl,SqT.of (kp _ _ npu hpu0),q0a (j:=2) rfl,_,rfl,q1n (by show 2≤1000; decide),fun p hp=>?_⟩
   have sp:=q0d (o:=HO.tup [V.int n,V.int (q9r S.1 x+y)]) hp
   obtain⟨H4,g4,g5⟩:=fin (q9r S.1 x+y) _ H1 rfl g1 (kp _ _ hne.symm h20) gD kp rfl p hp
   exact⟨_,rfl,_,rfl,pu,_,_,.str c,rfl,rfl,SqT.of (sp _ _ (kp _ _ npu hpu0)),q0a (j:=1) rfl,d2,H4,rfl,g4,g5⟩
theorem none_of {H H':Hp} {b:Addr} (s:q1l H H') (h:H' b=none):H b=none:=by
 cases e:H b with
 | none=>rfl
 | some o=>rw [s _ _ e] at h; cases h
noncomputable def x1r (es:List En):Sto:=q3l ([],[]) (es.map (·.2))
theorem x3h {W C:List Str} {es:List En} (h:∀ e∈es,x3v W C e.2):StoOk W C (x1r es):=q8t ⟨⟨.nil,fun _ h=>absurd h List.not_mem_nil,fun _ h=>absurd h List.not_mem_nil⟩,⟨.nil,fun _ h=>absurd h List.not_mem_nil,fun _ h=>absurd h List.not_mem_nil⟩,fun _ h=>absurd h List.not_mem_nil⟩ fun x hx=>by
 obtain⟨e,he,rfl⟩:=List.mem_map.mp hx
 exact h e he
theorem z2w (es:List En) {i:Nat} (hi:i < es.length):x1r (es.take (i+1))=q5e (x1r (es.take i)) (es[i]).2:=by
 unfold x1r q3l
 rw [List.take_succ_eq_append_getElem hi,List.map_append,List.foldl_append]
 rfl
noncomputable def x8e (K:Frag):Sp:=fun vs H Q _=>∃ (l:Addr) (us:List V) (es:List En) (W C:List Str),vs=[.ref l]∧SqL K H l us∧ET H us es∧(∀ e∈es,x3v W C e.2)∧W.length≤30∧C.length≤30∧∀ (v:V) (H':Hp),StV H' v (x1r es)→q1l H H'→Q v H'
theorem z0g:FnScope ["_law_entries", "_law_names", "_law_callers", "_law_entry_here", "_law_left"] ["_law_entries"] (q0h q3x):=fSc
theorem z9q {f:Addr} {fd:FuncData} (F:Fun K "_law_store" "_law_store" q3x f fd) (T:Txt mg) (CD:Cal P w K mg base "_law_done" 1 ["_law_names", "_law_callers", "_law_what_here"] z8e):FnOk P w K mg base CX0 2 f fd ["_law_entries"] (x8e K):=by
 refine F.ok z0g (by rintro _ _ _ _⟨_,_,_,_,_,rfl,_⟩; rfl) (fun _ A _ s H vs Q E hr h=>?_)
 obtain⟨l,us,es,W,C,rfl,hl,hE,hwok,hW,hC,q⟩:=h
 refine⟨_,@q0j _ _ _ _ _ (q0r (i:=1) z0g.nd (by rfl) (by exact Or.inr rfl) (x8g))
  (@q0j _ _ _ _ _ (q0r (i:=2) z0g.nd (by rfl) (by exact Or.inr rfl) (x8g))
  (@q0j _ _ _ _ _ (q7d PassesOwn.never (by rfl) (q7r (pv 0)) (q1u (i:=3) z0g.nd (by rfl) (by exact Or.inl rfl)) (@q0p _ _ _ (q2g (q0n CD hr (q0z (pv 1) (q0z (pv 2) (q2r (q0f q0i (pv 3) q0c q0w) q0e)))))))
  (@q0j _ _ _ _ _ (q0r (i:=4) z0g.nd (by rfl) (by exact Or.inl rfl) (q2n q3m (by rfl) T.tuple q2f (q1k (q6r (NB:=["_law_name_here", "_law_names"]) (n:=1) (fr:=[1]) (q7p (outer:=q0h q3x) (x := "_law_names") (by rfl) (by decide +kernel) (by rfl) (by rfl) (by rfl) (by rfl)) (by rfl) (q7r (q0l (q9g (by rfl)) (by rfl) T.sorted PyProof.Rows.boot_sorted (q0z (pv 1) q0e)))
   (fun _ _ _ _ _=>q1u (i:=0) (show (["_law_name_here", "_law_names"]:List Str).Nodup by decide +kernel) (by rfl) (by exact Or.inl rfl)) (fun _ _ _ _ _=>q5l) (fun _ _ _ _ _=>QE.h (q1d (q4c (pv 0) (q5a (x6l (x4s hr) (pv 1) (pv 0) (fun _ _=>rfl)) q0v))))) q0e)))
  (@q0p _ _ _ (q0q (QE.h (q1d (q4c (pv 4) (q7c (q2n q3m (by rfl) T.tuple q2f (q1k (q6r (NB:=["_law_name_here", "_law_callers"]) (n:=1) (fr:=[2]) (q7p (outer:=q0h q3x) (x := "_law_callers") (by rfl) (by decide +kernel) (by rfl) (by rfl) (by rfl) (by rfl)) (by rfl) (q7r (q0l (q9g (by rfl)) (by rfl) T.sorted PyProof.Rows.boot_sorted (q0z (pv 2) q0e)))
   (fun _ _ _ _ _=>q1u (i:=0) (show (["_law_name_here", "_law_callers"]:List Str).Nodup by decide +kernel) (by rfl) (by exact Or.inl rfl)) (fun _ _ _ _ _=>q5l) (fun _ _ _ _ _=>QE.h (q1d (q4c (pv 0) (q5a (q0f (x2v (K:=K) (by rfl)) (x6l (x4s hr) (pv 1) (pv 0) (fun _ _=>rfl)) q0c q0w) (q5a (q0f (x2v (K:=K) (by rfl)) (x6l (x4s hr) (pv 1) (pv 0) (fun _ _=>rfl)) q0c q0w) q0v)))))) q0e)) q0v))))))))),?_⟩
 refine fun d1 hd1=>fun d2 hd2=>?_
 have s1:=q0d (o:=HO.dK []) hd1
 have s2:=q0d (o:=HO.dK []) hd2
 have n2:H d2=none:=none_of s1 hd2
 have hne:d1≠d2:=fun e=>by rw [← e,q0b] at hd2; cases hd2
 have hlen:=hE.length
 have ok0:∀ i,StoOk W C (x1r (es.take i)):=fun i=>x3h fun e he=>hwok e (List.mem_of_mem_take he)
 refine⟨_,rfl,l,rfl,⟨_,SqL.same hl (s1.trans s2)⟩,q9z (xs:=us) (fun i σ H'=>∃ (k1 k2:List (Key × V)) (t:Option V),σ=[some (.ref l),some (.ref d1),some (.ref d2),t,none]∧H' d1=some (.dK k1)∧H' d2=some (.dK k2)∧DRw R1 k1 (x1r (es.take i)).1∧DRw (R2 H') k2 (x1r (es.take i)).2∧q1l H H')
  ⟨[],[],none,rfl,s2 _ _ q0b,q0b,DRw.nil,DRw.nil,s1.trans s2⟩ ?_ ?_ ?_⟩
 ·rintro i σ H' _ ⟨k1,k2,t,rfl,h1,h2,D1,D2,sH⟩
  exact SqL.same hl sH
 ·rintro i x σ H' hx ⟨k1,k2,t,rfl,h1,h2,D1,D2,sH⟩
  have hi:i < es.length:=by rw [← hlen]; exact (List.getElem?_eq_some_iff.mp hx).1
  obtain⟨pe,u,hu,hpe,hw⟩:=hE.get hi
  rw [hx] at hu
  cases hu
  refine⟨_,rfl,_,rfl,_,rfl,pe,_,_,u,rfl,rfl,SqT.of (sH _ _ hpe),q0a (j:=1) rfl,?_⟩
  refine⟨d1,d2,u,k1,k2,x1r (es.take i),(es[i]).2,W,C,rfl,h1,h2,hne,D1,D2,ok0 i,hw.same sH,hwok _ (List.getElem_mem hi),hW,hC,fun H2 k1' k2' g1 g2 gD1 gD2 keep=>?_⟩
  rw [← z2w es hi] at gD1 gD2
  exact⟨k1',k2',_,rfl,g1,g2,gD1,gD2,fun b o e=>keep b o (fun z=>by rw [z,hd1] at e; cases e) (fun z=>by rw [z,n2] at e; cases e) (sH _ _ e)⟩
 ·rintro σ H' ⟨k1,k2,t,rfl,h1,h2,D1,D2,sH⟩
  rw [hlen,List.take_length] at D1 D2
  have ok:=x3h hwok
  generalize hS:x1r es=S at D1 D2 ok q
  obtain⟨m1,e1,c1,u1⟩:=D1.sorted ok.ns
  obtain⟨m2,e2,c2,u2⟩:=D2.sorted ok.cs
  have z1:=ok.ns.len
  have z2:=ok.cs.len
  refine⟨_,rfl,d1,k1,m1,rfl,h1,e1,by omega,fun l1 p1 hl1 hp1 hu1=>?_⟩
  have ep1:=u1 p1 hp1 hu1
  subst ep1
  have sl:=q0d (o:=HO.lst ((S.1.map (·.1)).map V.str)) hl1
  refine⟨l1,rfl,⟨_,SqL.of q0b⟩,q7z (J:=Itl K l1) (k:=1) (n:=S.1.length) (fun i H v=>∃ (p:Addr) (n:Str) (is:List Int),v=.ref p∧S.1[i]? = some (n,is)∧H p=some (.tup (.str n::is.map V.int))) (fun i H H' v s ⟨p,x,is,e,hx,hp⟩=>⟨p,x,is,e,hx,s _ _ hp⟩) (by rw [sizeLine_eq]; omega) (fun i H3 hi s4=>?_) (fun H3 s4=>?_) ?_ ?_⟩
  ·exact⟨(S.1.map (·.1)).map V.str,.str (S.1[i]).1,SqL.of (s4 _ _ q0b),by simp [hi]⟩
  ·exact⟨(S.1.map (·.1)).map V.str,SqL.of (s4 _ _ q0b),by simp⟩
  ·intro i H3 t x H4 R hi s4 ht y hR
   obtain⟨t0,rfl⟩:=q3w ht
   obtain⟨rfl,hy⟩:=y
   have hv:=hy _ (SqL.of (s4 _ _ q0b))
   rw [List.getElem?_map,List.getElem?_map,List.getElem?_eq_getElem hi] at hv
   cases hv
   have hf:S.1.find? (fun r=>decide (r.1=(S.1[i]).1))=some S.1[i]:=x2a hi rfl fun j hj hji e=>x0m (List.pairwise_iff_getElem.mp ok.ns.up j i hj hi hji) e
   obtain⟨v,hv,hR1⟩:=D1.s _ _ hf
   refine⟨_,rfl,_,rfl,_,rfl,d1,v,rfl,?_,q1n (by show 2≤1000; decide),fun p hp=>hR [_] _ _ rfl (q0d hp) ⟨p,(S.1[i]).1,(S.1[i]).2,rfl,by simp [hi],?_⟩⟩
   ·rw [← hv]
    exact x8u.k (k:=Sum.inr (S.1[i]).1) (s4 _ _ (sl _ _ h1))
   ·rw [show (S.1[i]).2.map V.int=[v] from hR1]
    exact q0b
  ·intro D3 H3 ys s3 hD3 hd3 hly hys
   refine⟨D3,ys,rfl,.inl ⟨SqL.of hd3,fun t1 ht1=>?_⟩⟩
   have st1:=q0d (o:=HO.tup ys) ht1
   have T1:RwT (upd H3 t1 (.tup ys)) t1 S.1:=⟨ys,q0b,(Rws.of_idx hly hys).same st1⟩
   have sA:q1l H' (upd H3 t1 (.tup ys)):=sl.trans (s3.trans st1)
   generalize upd H3 t1 (.tup ys)=H5 at T1 sA
   have D25:DRw (R2 H5) k2 S.2:=D2.mono fun v is z=>z.sameT (q1j sA)
   refine⟨_,rfl,_,rfl,d2,k2,m2,rfl,sA _ _ h2,e2,by omega,fun l2 p2 hl2 hp2 hu2=>?_⟩
   have ep2:=u2 p2 hp2 hu2
   subst ep2
   have sl2:=q0d (o:=HO.lst ((S.2.map (·.1)).map V.str)) hl2
   refine⟨l2,rfl,⟨_,SqL.of q0b⟩,q7z (J:=Itl K l2) (k:=1) (n:=S.2.length) (fun i H v=>∃ (p:Addr) (n:Str) (is:List Int),v=.ref p∧S.2[i]? = some (n,is)∧H p=some (.tup (.str n::is.map V.int))) (fun i H H' v s ⟨p,x,is,e,hx,hp⟩=>⟨p,x,is,e,hx,s _ _ hp⟩) (by rw [sizeLine_eq]; omega) (fun i H3 hi s4=>?_) (fun H3 s4=>?_) ?_ ?_⟩
   ·exact⟨(S.2.map (·.1)).map V.str,.str (S.2[i]).1,SqL.of (s4 _ _ q0b),by simp [hi]⟩
   ·exact⟨(S.2.map (·.1)).map V.str,SqL.of (s4 _ _ q0b),by simp⟩
   ·intro i H6 t x H7 R hi s4 ht y hR
    obtain⟨t0,rfl⟩:=q3w ht
    obtain⟨rfl,hy⟩:=y
    have hv:=hy _ (SqL.of (s4 _ _ q0b))
    rw [List.getElem?_map,List.getElem?_map,List.getElem?_eq_getElem hi] at hv
    cases hv
    have hf:S.2.find? (fun r=>decide (r.1=(S.2[i]).1))=some S.2[i]:=x2a hi rfl fun j hj hji e=>x0m (List.pairwise_iff_getElem.mp ok.cs.up j i hj hi hji) e
    obtain⟨v,hv,pp,a,b,rfl,hi2,hpp⟩:=D25.s _ _ hf
    have s7:=sl2.trans s4
    have dg:x8u H7 d2 (.str (S.2[i]).1) (some (.ref pp)):=by
     rw [← hv]
     exact x8u.k (k:=Sum.inr (S.2[i]).1) (s7 _ _ (sA _ _ h2))
    refine⟨_,rfl,_,rfl,_,rfl,d2,.ref pp,rfl,dg,pp,_,_,.int a,rfl,rfl,SqT.of (s7 _ _ hpp),q0a (j:=0) rfl,_,rfl,_,rfl,d2,.ref pp,rfl,dg,pp,_,_,.int b,rfl,rfl,SqT.of (s7 _ _ hpp),q0a (j:=1) rfl,q1n (by show 3≤1000; decide),fun p hp=>hR [_] _ _ rfl (q0d hp) ⟨p,(S.2[i]).1,(S.2[i]).2,rfl,by simp [hi],?_⟩⟩
    rw [hi2]
    exact q0b
   ·intro D6 H6 ys2 s6 hD6 hd6 hly2 hys2
    refine⟨D6,ys2,rfl,.inl ⟨SqL.of hd6,fun t2 ht2=>⟨q1n (by show 2≤1000; decide),fun st hst=>?_⟩⟩⟩
    have st2:=q0d (o:=HO.tup ys2) ht2
    have sst:=q0d (o:=HO.tup [V.ref t1,V.ref t2]) hst
    have sB:=sl2.trans (s6.trans (st2.trans sst))
    exact q (.ref st) _ ⟨st,t1,t2,rfl,q0b,T1.same sB,⟨ys2,sst _ _ q0b,(Rws.of_idx hly2 hys2).same (st2.trans sst)⟩⟩ (sH.trans (sA.trans sB))
end
noncomputable def s5:List Int:=[0,1,2,3,4]
noncomputable def pk0 (es:List En) (pl:Int):Pk:=x4c ⟨0,0,s5,([],[])⟩ 0 es pl
section
variable {P:Program} {w:World} {K:Frag} {mg:Str→Option Value} {base:Heap}
noncomputable def z5k (K:Frag):Sp:=fun vs H Q _=>∃ (l:Addr) (pl:Nat) (us:List V) (es:List En) (W C:List Str),vs=[.ref l,.int pl]∧SqL K H l us∧ET H us es∧(∀ e∈es,x3v W C e.2)∧W.length≤30∧C.length≤30∧∀ (v:V) (H':Hp),PkV H' v (pk0 (es.take pl) pl)→q1l H H'→Q v H'
theorem j0v:FnScope ["_law_entries", "_law_place", "_law_part"] ["_law_entries", "_law_place"] (q0h q7i):=fSc
theorem j1t {f:Addr} {fd:FuncData} (F:Fun K "_law_pack" "_law_pack" q7i f fd) (CE:Cal P w K mg base "_law_end" 1 ["_law_entries"] (q9h K)) (CS:Cal P w K mg base "_law_seats" 1 ["_law_entries", "_law_first"] (z5q K)) (CT:Cal P w K mg base "_law_store" 2 ["_law_entries"] (x8e K)):FnOk P w K mg base CX0 3 f fd ["_law_entries", "_law_place"] (z5k K):=by
 refine F.ok j0v (by rintro _ _ _ _⟨_,_,_,_,_,_,rfl,_⟩; rfl) (fun _ A _ s H vs Q E hr h=>?_)
 obtain⟨l,pl,us,es,W,C,rfl,hl,hE,hwok,hW,hC,q⟩:=h
 have r1:=hr.mono (show 1≤2 by decide)
 refine⟨_,@q0j _ _ _ _ _ (q0r (i:=2) j0v.nd (by rfl) (by exact Or.inl rfl) (q1y q4w (pv 0) q3f (q2b (pv 1))))
  (@q0p _ _ _ (q0q (QE.h (q1d (q4c (pv 1) (q7c (q0n CE r1 (q0z (pv 2) q0e)) (q7c (q0n CS r1 (q0z (pv 2) (z4a (QE.h (q1d (q1a (q1a (q1a (q1a (q1a q0v))))))) q0e))) (q7c (q0n CT hr (q0z (pv 2) q0e)) q0v)))))))),?_⟩
 refine⟨_,rfl,_,rfl,_,rfl,l,_,rfl,hl,fun p1 hp1=>?_⟩
 rw [q7f]
 have s1:=q0d (o:=HO.lst (us.take pl)) hp1
 have hE1:=(hE.take pl).same s1
 have g1:upd H p1 (.lst (us.take pl)) p1=some (.lst (us.take pl)):=q0b
 generalize upd H p1 (.lst (us.take pl))=H1 at s1 hE1 g1
 refine⟨_,rfl,_,rfl,p1,_,_,rfl,SqL.of g1,hE1,_,rfl,q1n (by show 5≤1000; decide),fun p2 hp2=>?_⟩
 have s2:=q0d (o:=HO.tup [V.int 0,V.int 1,V.int 2,V.int 3,V.int 4]) hp2
 refine⟨p1,p2,_,_,s5,rfl,SqL.of (s2 _ _ g1),hE1.same s2,q0b,fun q' hq'=>?_⟩
 generalize upd H1 p2 (.tup [V.int 0,V.int 1,V.int 2,V.int 3,V.int 4])=H2 at s2 hq'
 refine⟨_,rfl,p1,_,_,W,C,rfl,SqL.of (s2 _ _ g1),hE1.same s2,fun e he=>hwok e (List.mem_of_mem_take he),hW,hC,fun v H3 hv s3=>⟨q1n (by show 4≤1000; decide),fun p hp=>?_⟩⟩
 have s4:=q0d (o:=HO.tup [V.int pl,V.int (q1h 0 (es.take pl)),V.ref q',v]) hp
 exact q (.ref p) _ ⟨p,q',v,rfl,q0b,s4 _ _ (s3 _ _ hq'),hv.same s4⟩ (s1.trans (s2.trans (s3.trans s4)))
end
noncomputable def j3x (ns:List Int) (k:Int):Int:=(x9k ns k+7919*k)*48271 % 2147483647
noncomputable def q7m (ns:List Int) (k:Int):Int:=(j3x ns k*j3x ns k+7*j3x ns k+k) % 2147483629
theorem j0c (ns:List Int) (k:Int):0≤q7m ns k∧q7m ns k < 2147483629:=q2j _ (by decide)
noncomputable def sgn (i:Int):Str:=⟨#[abc.cps.toList.getD (i % 26).toNat 0]⟩
noncomputable def six:List Str:=["open", "wish", "seats", "set", "add", "get"]
noncomputable def z8j (m which:Int):Str:=Str.join "" (((List.range (1+m % 8).toNat).map fun (k:Nat)=>sgn (m / 64+5*(k:Int))).set (m / 8 % (1+m % 8)).toNat (sgn (m / 64+5*(m / 8 % (1+m % 8))+which)))
noncomputable def q3u (m which:Int):Str:=if (decide (m % 8=7) && decide (m / 8 % 2=0))=true then six.getD ((m / 16+which) % 6).toNat "open" else
 z8j m which
noncomputable def q8d (ns:List Int):List Str:=[q3u (q7m ns 1) 0,q3u (q7m ns 1) 1,q3u (q7m ns 1) 2]
theorem x7p (ns:List Int) {i:Int} (h0:0≤i) (h3:i < 3):q3u (q7m ns 1) i∈q8d ns:=by
 have:i=0∨i=1∨i=2:=by omega
 rcases this with rfl | rfl | rfl <;> simp [q8d]
theorem z3y {α:Type} {xs:List α} {i:Int} {d:α} (h0:0≤i) (h1:i < (xs.length:Int)):atI xs i=some (xs.getD i.toNat d):=by
 obtain⟨j,rfl⟩:=Int.eq_ofNat_of_zero_le h0
 have hj:j < xs.length:=by omega
 rw [Int.toNat_natCast]
 exact q0a (by rw [List.getD_eq_getElem?_getD,List.getElem?_eq_getElem hj]; rfl)
theorem z7p {n j:Nat} (h:j < n):ixN n (j:Int)=some j:=by
 unfold ixN
 rw [if_pos (by omega),if_pos (by omega),Int.toNat_natCast]
section
variable {P:Program} {w:World} {K:Frag} {mg:Str→Option Value} {base:Heap}
noncomputable def x7i (K:Frag):Sp:=fun vs H Q _=>∃ (a:Addr) (ns:List Int) (k:Int),vs=[.ref a,.int k]∧SqL K H a (ns.map V.int)∧0≤k∧Q (.int (q7m ns k)) H
theorem j0t:FnScope ["_law_script", "_law_k", "_law_number"] ["_law_script", "_law_k"] (q0h z0k):=fSc
theorem z7y {f:Addr} {fd:FuncData} (F:Fun K "_law_mixed" "_law_mixed" z0k f fd) (CC:Cal P w K mg base "_law_cell_at" 1 ["_law_script", "_law_k"] (x6m K)):FnOk P w K mg base CX0 2 f fd ["_law_script", "_law_k"] (x7i K):=by
 refine F.ok j0t (by rintro _ _ _ _⟨_,_,_,rfl,_⟩; rfl) (fun _ A _ s H vs Q E hr h=>?_)
 obtain⟨a,ns,k,rfl,hS,h0,q⟩:=h
 refine⟨_,@q0j _ _ _ _ _ (q0r (i:=2) j0t.nd (by rfl) (by exact Or.inl rfl) (q0x q2t (q0x q6a (q0x q1o (q0n CC hr (q0z (pv 0) (q0z (pv 1) q0e))) (q0x q6a (q0c) (pv 1))) (q0c)) (q0c)))
  (@q0p _ _ _ (q0q (q0x q2t (q0x q1o (q0x q1o (q0x q6a (pv 2) (pv 2)) (q0x q6a (q0c) (pv 2))) (pv 1)) (q0c)))),?_⟩
 refine⟨_,rfl,_,rfl,a,ns,k,rfl,hS,h0,_,rfl,_,_,rfl,rfl,.inl ⟨by decide,by decide⟩,_,_,rfl,rfl,_,_,rfl,rfl,.inr ⟨by decide,by decide⟩,_,_,rfl,rfl,(by show (0:Int) < 2147483647; decide),?_⟩
 have b:=q2j ((x9k ns k+7919*k)*48271) (m:=2147483647) (by decide)
 unfold q7m j3x at q
 show q9s 2 (V.int ((x9k ns k+7919*k)*48271 % 2147483647)) _ _ _
 generalize (x9k ns k+7919*k)*48271 % 2147483647=n at b q
 exact⟨_,rfl,_,rfl,_,_,rfl,rfl,.inl ⟨by omega,by omega⟩,_,rfl,_,_,rfl,rfl,.inl ⟨by decide,by decide⟩,_,_,rfl,rfl,_,rfl,_,_,rfl,rfl,_,_,rfl,rfl,(by show (0:Int) < 2147483629; decide),q⟩
noncomputable def x7m:Sp:=fun vs H Q _=>∃ (n:Int) (l:Addr) (ss:List Int),vs=[.int n,.ref l]∧H l=some (.lst (ss.map V.int))∧ss.length≤100∧(∀ s∈ss,0 < s∧s < 1073741824)∧∀ (r:Addr) (ds:List Int) (H':Hp),H' r=some (.lst (ds.map V.int))→ds.length=ss.length→(∀ (i:Nat) (s d:Int),ss[i]? = some s→ds[i]? = some d→0≤d∧d < s)→q1l H H'→Q (.ref r) H'
theorem j4d:FnScope ["_law_number", "_law_sizes", "_law_some", "_law_size"] ["_law_number", "_law_sizes"] (q0h q6i):=fSc
theorem z9h {f:Addr} {fd:FuncData} (F:Fun K "_law_drawn" "_law_drawn" q6i f fd):FnOk P w K mg base CX0 1 f fd ["_law_number", "_law_sizes"] x7m:=by
 refine F.ok j4d (by rintro _ _ _ _⟨_,_,_,rfl,_⟩; rfl) (fun _ A _ s H vs Q E hr h=>?_)
 obtain⟨n,l,ss,rfl,hl,hln,hpos,q⟩:=h
 refine⟨_,@q0j _ _ _ _ _ (q0r (i:=2) j4d.nd (by rfl) (by exact Or.inl rfl) (q4f q0e))
  (@q0j _ _ _ _ _ (q7d PassesOwn.never (by rfl) (q7r (pv 1)) (q1u (i:=3) j4d.nd (by rfl) (by exact Or.inl rfl)) (@q0j _ _ _ _ _ (q2g (z6j PySem.F.plainAttrs_list PySem.F.slot_list_append PySem.F.type_list_append q8h (pv 2) (q9d (q0x q2t (pv 0) (pv 3)) q0e)))
  (@q0p _ _ _ (q0r (i:=0) j4d.nd (by rfl) (by exact Or.inl rfl) (q0x q3j (pv 0) (pv 3))))))
  (@q0p _ _ _ (q0q (pv 2)))),?_⟩
 refine⟨q1n (by show 0≤1000; decide),fun r hr0=>?_⟩
 have s0:=q0d (o:=HO.lst []) hr0
 have nlr:l≠r:=fun z=>by rw [z,hr0] at hl; cases hl
 refine⟨_,rfl,l,rfl,⟨_,SqL.of (s0 _ _ hl)⟩,q9z (K:=K) (a:=l) (xs:=ss.map V.int) (fun i σ H'=>∃ (m:Int) (ds:List Int) (t:Option V),σ=[some (.int m),some (.ref l),some (.ref r),t]∧H' r=some (.lst (ds.map V.int))∧ds.length=i∧(∀ (i:Nat) (s d:Int),ss[i]? = some s→ds[i]? = some d→0≤d∧d < s)∧q1l H H')
  ⟨n,[],none,rfl,q0b,rfl,fun i s d _ h=>by simp at h,s0⟩ (fun i σ H' _ ⟨_,_,_,_,_,_,_,s1⟩=>SqL.of (s1 _ _ hl)) ?_ ?_⟩
 ·rintro i x σ H' hx ⟨m,ds,t,rfl,hr1,hd,hb,s1⟩
  have hi:i < ss.length:=by have:=(List.getElem?_eq_some_iff.mp hx).1; rwa [List.length_map] at this
  rw [List.getElem?_map,List.getElem?_eq_getElem hi] at hx
  cases hx
  have hp:=hpos _ (List.getElem_mem hi)
  refine⟨_,rfl,.inl ⟨rfl,_,SqL.of hr1⟩,_,rfl,_,rfl,_,_,rfl,rfl,hp.1,r,_,_,rfl,rfl,hr1,by rw [List.length_map,sizeLine_eq]; omega,?_⟩
  refine⟨_,rfl,_,rfl,_,_,rfl,rfl,hp,?_⟩
  have bm:=q2j m hp.1
  refine⟨_,ds++[m % ss[i]],_,rfl,by rw [List.map_append]; exact q0b,by rw [List.length_append,hd]; rfl,fun j s d h1 h2=>?_,fun b o e=>by rw [q1c (fun z=>by rw [z,hr0] at e; cases e)]; exact s1 _ _ e⟩
  by_cases hj:j < ds.length
  ·rw [List.getElem?_append_left hj] at h2
   exact hb j s d h1 h2
  ·rw [List.getElem?_append_right (by omega)] at h2
   have e0:j - ds.length=0:=by
    cases e:j - ds.length with
    | zero=>rfl
    | succ k=>rw [e] at h2; simp at h2
   rw [e0] at h2
   obtain rfl:j=i:=by omega
   rw [List.getElem?_eq_getElem hi] at h1
   cases h1
   cases h2
   exact bm
 ·rintro σ H' ⟨m,ds,t,rfl,hr1,hd,hb,s1⟩
  rw [List.length_map] at hd
  exact⟨_,rfl,q r ds H' hr1 hd hb s1⟩
noncomputable def z5u (K:Frag):Sp:=fun vs H Q _=>∃ (a:Addr) (ns:List Int) (k:Int),vs=[.ref a,.int k]∧SqL K H a (ns.map V.int)∧0≤k∧∀ H',q1l H H'→Q (.str (q3u (q7m ns 1) k)) H'
theorem x6v:FnScope ["_law_script", "_law_which", "_law_letters", "_law_number", "_law_some", "_law_size", "_law_at"] ["_law_script", "_law_which"] (q0h x8d):=fSc
theorem z4y {ws:List Str} (h:∀ x∈ws,x.length≤1) (hl:ws.length≤8):JoinOk "" ws=true:=by
 unfold JoinOk
 rw [StrLaws.joinFits (B:=1) h (by
  have e1:("" : Str).length=0:=rfl
  rw [e1,← Nat.mul_add]
  exact Nat.le_trans (Nat.mul_le_mul_right _ hl) (by decide))]
 rfl
noncomputable def j7u:TS:=fun D σ H=>∃ (a:Addr) (m k:Int),σ=[some (.ref a),some (.int k),some (.str abc),some (.int m),none,none,none]∧0≤m∧0≤k∧∀ H',q1l H H'→D.rt (.str (z8j m k)) H'
theorem j1u {f:Addr} {fd:FuncData} (F:Fun K "_law_name" "_law_name" x8d f fd) (T:Txt mg) (CM:Cal P w K mg base "_law_mixed" 2 ["_law_script", "_law_k"] (x7i K)):FnOk P w K mg base CX0 3 f fd ["_law_script", "_law_which"] (z5u K):=by
 refine F.ok x6v (by rintro _ _ _ _⟨_,_,_,rfl,_⟩; rfl) (fun _ A _ s H vs Q E hr h=>?_)
 obtain⟨a,ns,k,rfl,hS,h0,q⟩:=h
 refine⟨_,@q0j _ _ _ _ _ (q0r (i:=2) x6v.nd (by rfl) (by exact Or.inr rfl) q2k)
  (@q0j _ _ _ _ _ (q0r (i:=3) x6v.nd (by rfl) (by exact Or.inr rfl) (q0n CM hr (q0z (pv 0) (x3w q0c q0e))))
  (@q0j _ _ _ _ _ (q1g (PW.pt (x7y (q0m q2u (q0x q2t (pv 3) q0c) q0c (q0o _)) (x2l (q0m q2u (q0x q2t (q0x q3j (pv 3) q0c) q0c) q0c (q0o _)))))
   (@q0j _ _ _ _ _ (q0r (i:=4) x6v.nd (by rfl) (by exact Or.inl rfl) (QE.h (q3g (q1w (q1w (q1w (q1w (q1w (q1w q0v))))))))) (@q0p _ _ _ (q0q (q0f q0g (pv 4) (q0x q2t (q0x q1o (q0x q3j (pv 3) q0c) (pv 1)) q0c) (fun _ _=>rfl))))) q0u)
  (PSs.weakP (t':=j7u) (@q0j _ _ _ _ _ (q0r (i:=5) x6v.nd (by rfl) (by exact Or.inl rfl) (q0x q1o q0c (q0x q2t (pv 3) q0c)))
  (@q0j _ _ _ _ _ (x2s (i:=4) x6v.nd (by rfl) (by exact Or.inl rfl) (NB:=["_law_k", "_law_letters", "_law_number"]) (n:=1) (fr:=[2,3]) (z8p (outer:=q0h x8d) (x := "_law_letters") (y := "_law_number") (by rfl) (by decide +kernel) (by rfl) (by rfl) (by rfl) (by rfl) (by rfl) (by rfl) (by rfl)) (by rfl)
    (x0t (by rfl) T.range (q0z (pv 5) q0e)) (fun _ _ _ _ _=>q1u (i:=0) (show (["_law_k", "_law_letters", "_law_number"]:List Str).Nodup by decide +kernel) (by rfl) (by exact Or.inl rfl)) (fun _ _ _ _ _=>q5l)
    (fun _ _ _ _ _=>q0f z6z (pv 1) (q0x q2t (q0x q1o (q0x q3j (pv 2) q0c) (q0x q6a q0c (pv 0))) q0c) (fun _ _=>rfl)))
  (@q0j _ _ _ _ _ (q0r (i:=6) x6v.nd (by rfl) (by exact Or.inl rfl) (q0x q2t (q0x q3j (pv 3) q0c) (pv 5)))
  (@q0j _ _ _ _ _ (q3b (q0f z6z (pv 2) (q0x q2t (q0x q1o (q0x q1o (q0x q3j (pv 3) q0c) (q0x q6a q0c (pv 6))) (pv 1)) q0c) (fun _ _=>rfl)) (q3d (pv 4) (pv 6) q1s))
  (@q0p _ _ _ (q0q (z6j PySem.F.plainAttrs_str PySem.F.slot_str_join PySem.F.type_str_join z9r q2k (q0z (pv 4) q0e)))))))) ?w1))),?_⟩
 have la:abc.length=26:=by decide +kernel
 have lz:abc.length≤sizeLine:=by rw [la,sizeLine_eq]; decide
 have at26:∀ i:Int,atI abc.cps.toList (i % 26)=some (abc.cps.toList.getD (i % 26).toNat 0):=fun i=>by
  obtain⟨e0,e1⟩:=q2j i (m:=26) (by decide)
  exact z3y e0 (by rw [z8m]; exact e1)
 case w1 =>
  clear q
  rintro D σ H ⟨a,m,k,rfl,m0,h0,q⟩
  obtain⟨z0,z1⟩:=q2j m (m:=8) (by decide)
  have hs:(0:Int) < 1+m % 8:=by omega
  obtain⟨a0,a1⟩:=q2j (m / 8) hs
  refine⟨_,rfl,_,_,rfl,rfl,(by show (0:Int) < 8; decide),_,_,rfl,rfl,?_⟩
  refine⟨_,rfl,_,rfl,by omega,by omega,q7z (J:=Itr 0 (1+m % 8).toNat) (k:=1) (n:=(1+m % 8).toNat) (fun i _ v=>v=.str (sgn (m / 64+5*(i:Int)))) (fun i H H' v _ h=>h) (by rw [sizeLine_eq]; omega) (fun i H3 hi s4=>hi) (fun H3 s4=>Nat.le_refl _) ?_ ?_⟩
  ·intro i H3 t x H4 R hi s4 ht y hR
   obtain⟨t0,rfl⟩:=q3w ht
   obtain⟨rfl,rfl⟩:=y
   refine⟨_,rfl,_,rfl,_,_,rfl,rfl,⟨by decide,by decide⟩,_,rfl,_,_,rfl,rfl,.inl ⟨by decide,by decide⟩,_,_,rfl,rfl,_,_,rfl,rfl,(by show (0:Int) < 26; decide),_,_,_,rfl,rfl,lz,at26 _,hR [_] _ _ rfl (q1l.refl _) ?_⟩
   rw [show (0:Int)+(i:Int)=(i:Int) by omega]
   rfl
  ·intro D3 H3 ys s3 hD3 hd3 hly hys
   have eys:ys=((List.range (1+m % 8).toNat).map fun (k:Nat)=>sgn (m / 64+5*(k:Int))).map V.str:=by
    apply List.ext_getElem?
    intro i
    rw [List.getElem?_map,List.getElem?_map]
    by_cases hi:i < (1+m % 8).toNat
    ·rw [List.getElem?_eq_getElem (by omega),hys i ys[i] (List.getElem?_eq_getElem _),List.getElem?_range hi]
     rfl
    ·rw [List.getElem?_eq_none (by omega),List.getElem?_eq_none (by rw [List.length_range]; omega)]
     rfl
   refine⟨_,rfl,_,_,rfl,rfl,⟨by decide,by decide⟩,_,rfl,_,_,rfl,rfl,hs,?_⟩
   have hj:(m / 8 % (1+m % 8)).toNat < ys.length:=by omega
   refine⟨_,rfl,_,rfl,_,_,rfl,rfl,⟨by decide,by decide⟩,_,rfl,_,_,rfl,rfl,.inl ⟨by decide,by decide⟩,_,_,rfl,rfl,_,rfl,_,_,rfl,rfl,_,_,rfl,rfl,(by show (0:Int) < 26; decide),_,_,_,rfl,rfl,lz,at26 _,_,rfl,_,rfl,D3,_,_,(m / 8 % (1+m % 8)).toNat,rfl,rfl,hd3,?_,?_⟩
   ·have:=z7p hj
    rw [Int.toNat_of_nonneg a0] at this
    exact this
   ·refine⟨rfl,_,rfl, "",D3,((List.range (1+m % 8).toNat).map fun (k:Nat)=>sgn (m / 64+5*(k:Int))).set (m / 8 % (1+m % 8)).toNat (sgn (m / 64+5*(m / 8 % (1+m % 8))+k)),rfl,rfl,SqL.of (by rw [q0b,eys,List.map_set]; rfl),z4y (fun x hx=>?_) (by rw [List.length_set,List.length_map,List.length_range]; omega),q _ fun b o e=>by rw [q1c (fun z=>by rw [z,hD3] at e; cases e)]; exact s3 _ _ e⟩
    rcases List.mem_or_eq_of_mem_set hx with hx | rfl
    ·obtain⟨i,_,rfl⟩:=List.mem_map.mp hx
     exact Nat.le_refl 1
    ·exact Nat.le_refl 1
 refine⟨_,rfl,a,ns,1,rfl,hS,by decide,?_⟩
 obtain⟨m0,m1⟩:=j0c ns 1
 generalize q7m ns 1=m at m0 m1 q
 refine⟨_,rfl,_,_,rfl,rfl,(by show (0:Int) < 8; decide),rfl,_,rfl,?_⟩
 unfold q3u at q
 obtain⟨z0,z1⟩:=q2j m (m:=8) (by decide)
 by_cases hc:(decide (m % 8=7) && decide (m / 8 % 2=0))=true
 ·rw [if_pos hc] at q
  rw [Bool.and_eq_true,decide_eq_true_eq,decide_eq_true_eq] at hc
  rw [decide_eq_true (congrArg V.int hc.1)]
  refine q2z ⟨_,rfl,_,_,rfl,rfl,⟨by decide,by decide⟩,_,_,rfl,rfl,(by show (0:Int) < 2; decide),rfl,_,rfl,?_⟩
  rw [decide_eq_true (congrArg V.int hc.2)]
  refine q2z ⟨q1n (by show 6≤1000; decide),fun p hp=>?_⟩
  obtain⟨e0,e1⟩:=q2j (m / 16+k) (m:=6) (by decide)
  refine⟨_,rfl,_,rfl,_,_,rfl,rfl,⟨by decide,by decide⟩,_,rfl,_,_,rfl,rfl,_,_,rfl,rfl,(by show (0:Int) < 6; decide),p,_,_,.str (six.getD ((m / 16+k) % 6).toNat "open"),rfl,rfl,SqL.of q0b,?_,q _ (q0d hp)⟩
  show atI (six.map V.str) ((m / 16+k) % 6)=_
  rw [z3y (xs:=six.map V.str) (d:=.str "open") e0 (by simpa [six] using e1)]
  rw [List.getD_eq_getElem?_getD,List.getElem?_map,List.getD_eq_getElem?_getD]
  cases six[((m / 16+k) % 6).toNat]? <;> rfl
 ·rw [if_neg hc] at q
  have go:∀ D:Ends,D.rt=Q→j7u D [some (.ref a),some (.int k),some (.str abc),some (.int m),none,none,none] H:=fun D e=>⟨a,m,k,rfl,m0,h0,by rw [e]; exact q⟩
  by_cases h1:m % 8=7
  ·have h2:¬ m / 8 % 2=0:=fun z=>hc (by rw [decide_eq_true h1,decide_eq_true z]; rfl)
   rw [decide_eq_true (congrArg V.int h1)]
   refine q2z ⟨_,rfl,_,_,rfl,rfl,⟨by decide,by decide⟩,_,_,rfl,rfl,(by show (0:Int) < 2; decide),rfl,_,rfl,?_⟩
   rw [decide_eq_false (fun z=>h2 (V.int.inj z))]
   exact q2p (go _ rfl)
  ·rw [decide_eq_false (fun z=>h1 (V.int.inj z))]
   exact q2p (q2p (go _ rfl))
end
noncomputable def fiv:List (List Int):=[[0],[0,2],[1,2,3],[0,1,2,3,8]]
noncomputable def j0r:What→Prop
 | .seats ms=>ms∈fiv
 | _=>True
section
variable {P:Program} {w:World} {K:Frag} {mg:Str→Option Value} {base:Heap}
theorem j6c {a b:Expr} {pos:Pos}:q6n (.Subscript a b pos):=fun _ _=>rfl
theorem j1q {X:Cx} {e:Expr} {te:TE} {pos:Pos} (h:QE X e te):QB X [.Return (some e) pos] (j7d te):=⟨@q0p _ _ _ (q0q h.h)⟩
theorem z7n {X:Cx} {es:List Expr} {te:TE} {t:TA} {p:Pos} {a b:Expr} (ha:QE X (.Subscript a b p) te) (r:QA X es t):QA X (.Subscript a b p::es) (q4h te t):=⟨q2r ha.h r.h⟩
theorem j9c {X:Cx} {es:List Expr} {te:TE} {t:TA} {p:Pos} {o:UnaryOp} {a:Expr} (ha:PE X (.UnaryOp o a p) te) (r:QA X es t):QA X (.UnaryOp o a p::es) (q4h te t):=⟨j8b ha r.h⟩
noncomputable def tS4 (l1 l2 l3 l4:List Int):TE:=fun σ H Q=>∀ (p1 p2 p3 p4 p5:Addr) (H':Hp),H' p1=some (.tup (l1.map V.int))→H' p2=some (.tup (l2.map V.int))→H' p3=some (.tup (l3.map V.int))→H' p4=some (.tup (l4.map V.int))→H' p5=some (.tup [.ref p1,.ref p2,.ref p3,.ref p4])→q1l H H'→Q (.ref p5) H'
theorem QE.weakE {X:Cx} {e:Expr} {t t':TE} (h:QE X e t) (w:∀ σ H Q,t' σ H Q→t σ H Q):QE X e t':=⟨PE.weak h.h w⟩
theorem j6j {X:Cx} {i1 i2 i3 i4 i5 i6 i7 i8 i9 i10 i11:Int} {j1 j2 j3 j4 j5 j6 j7 j8 j9 j10 j11 k1 k2 k3 k4 k5:Nat} {p1 p2 p3 p4 p5 p6 p7 p8 p9 p10 p11 q1 q2 q3 q4 q5:Pos} :
  QE X (.Tuple [.Tuple [.Constant (.int i1) j1 p1] k1 q1,.Tuple [.Constant (.int i2) j2 p2,.Constant (.int i3) j3 p3] k2 q2,.Tuple [.Constant (.int i4) j4 p4,.Constant (.int i5) j5 p5,.Constant (.int i6) j6 p6] k3 q3,.Tuple [.Constant (.int i7) j7 p7,.Constant (.int i8) j8 p8,.Constant (.int i9) j9 p9,.Constant (.int i10) j10 p10,.Constant (.int i11) j11 p11] k4 q4] k5 q5)
   (tS4 [i1] [i2,i3] [i4,i5,i6] [i7,i8,i9,i10,i11]):=by
 refine QE.weakE (q1d (q4l (q1a q0v) (q4l (q1a (q1a q0v)) (q4l (q1a (q1a (q1a q0v))) (q4l (q1a (q1a (q1a (q1a (q1a q0v))))) q0v))))) (fun σ H Q q=>?_)
 refine⟨q1n (by show 1≤1000; decide),fun p1 hp1=>⟨q1n (by show 2≤1000; decide),fun p2 hp2=>⟨q1n (by show 3≤1000; decide),fun p3 hp3=>⟨q1n (by show 5≤1000; decide),fun p4 hp4=>⟨q1n (by show 4≤1000; decide),fun p5 hp5=>?_⟩⟩⟩⟩⟩
 have t1:=q0d (o:=HO.tup [V.int i1]) hp1
 have t2:=q0d (o:=HO.tup [V.int i2,V.int i3]) hp2
 have t3:=q0d (o:=HO.tup [V.int i4,V.int i5,V.int i6]) hp3
 have t4:=q0d (o:=HO.tup [V.int i7,V.int i8,V.int i9,V.int i10,V.int i11]) hp4
 have t5:=q0d (o:=HO.tup [V.ref p1,V.ref p2,V.ref p3,V.ref p4]) hp5
 exact q p1 p2 p3 p4 p5 _ (t5 _ _ (t4 _ _ (t3 _ _ (t2 _ _ q0b)))) (t5 _ _ (t4 _ _ (t3 _ _ q0b))) (t5 _ _ (t4 _ _ q0b)) (t5 _ _ q0b) q0b (t1.trans (t2.trans (t3.trans (t4.trans t5))))
noncomputable def z8w (K:Frag):Sp:=fun vs H Q _=>∃ (a:Addr) (ns:List Int) (n:Int),vs=[.ref a,.int n]∧SqL K H a (ns.map V.int)∧∀ (v:V) (x:What) (H':Hp),q4x H' v x→x3v (q8d ns) (q8d ns) x→j0r x→q1l H H'→Q v H'
theorem z5j:FnScope ["_law_script", "_law_number", "_law_some", "_law_deed"] ["_law_script", "_law_number"] (q0h q7j):=fSc
theorem j0y {f:Addr} {fd:FuncData} (F:Fun K "_law_what" "_law_what" q7j f fd) (CD:Cal P w K mg base "_law_drawn" 1 ["_law_number", "_law_sizes"] x7m) (CN:Cal P w K mg base "_law_name" 3 ["_law_script", "_law_which"] (z5u K)):FnOk P w K mg base CX0 4 f fd ["_law_script", "_law_number"] (z8w K):=by
 refine F.ok z5j (by rintro _ _ _ _⟨_,_,_,rfl,_⟩; rfl) (fun _ A _ s H vs Q E hr h=>?_)
 obtain⟨a,ns,n,rfl,hS,q⟩:=h
 have r1:=hr.mono (show 1≤3 by decide)
 refine⟨_,@q0j _ _ _ _ _ (q0r (i:=2) z5j.nd (by rfl) (by exact Or.inl rfl) (q0n CD r1 (q0z (pv 1) (j0i (QE.h (q3g (q1a (q1a (q1a (q1a (q1a (q1a q0v)))))))) q0e))))
  (@q0j _ _ _ _ _ (q1g (q0m q2u (q0f q0g (pv 2) q0c q0w) q0c (q0o _)) (@q0p _ _ _ (q0q (QE.h (q1d (q1w q0v))))) q0u)
  (@q0j _ _ _ _ _ (j3a (q0m q2u (q0f q0g (pv 2) q0c q0w) q0c (q0o _)) (j1q (q1d (q1w (z7n (x9s q0i j6j (q0f q0g (pv 2) q0c q0w) j6c) q0v)))) q0u)
  (@q0j _ _ _ _ _ (q0r (i:=3) z5j.nd (by rfl) (by exact Or.inl rfl) (QE.h (q1d (z7n ((x9s q0g (q3g (q1w (q1w (q1w q0v)))) (q0f q0g (pv 2) q0c q0w) j6c)) (q7c (q0n CN hr (q0z (pv 0) (q2r (q0f q0g (pv 2) q0c q0w) q0e))) (z7n ((x9s q0g (q3g (j9c (z6f x8o (q0f q0g (pv 2) q0c q0w)) (q5a (q0f q0g (pv 2) q0c q0w) (z6p (q0x z7a q0c q0c) q0v)))) (q0f q0g (pv 2) q0c q0w) j6c)) q0v))))))
  (@q0j _ _ _ _ _ (q1g (q0m q2u (q0f q0g (pv 2) q0c q0w) q0c (q0o _)) (@q0p _ _ _ (q0r (i:=3) z5j.nd (by rfl) (by exact Or.inl rfl) (q1y q5z (pv 3) q3f (q2b q0c)))) q0u)
  (@q0p _ _ _ (q0q (QE.h (q1d (q1w (q7c (q0n CN hr (q0z (pv 0) (q2r (q0f q0g (pv 2) q0c q0w) q0e))) (z6p (q0x q1o q0c (q0f q0g (pv 2) q0c q0w)) (q4c (pv 3) q0v)))))))))))),?_⟩
 refine⟨_,rfl,q1n (by show 6≤1000; decide),fun ls hls=>?_⟩
 have s0:=q0d (o:=HO.lst [V.int 9,V.int 3,V.int 3,V.int 4,V.int 3,V.int 40]) hls
 refine⟨n,ls,[9,3,3,4,3,40],rfl,q0b,by decide,by decide,fun r ds H1 hr1 hlen hb s1=>?_⟩
 generalize upd H ls (HO.lst [V.int 9,V.int 3,V.int 3,V.int 4,V.int 3,V.int 40])=H0 at s0 s1
 have sA:=s0.trans s1
 obtain⟨d0,d1,d2,d3,d4,d5,rfl⟩:∃ d0 d1 d2 d3 d4 d5,ds=[d0,d1,d2,d3,d4,d5]:=by
  match ds,hlen with
  | [d0,d1,d2,d3,d4,d5],_=>exact⟨_,_,_,_,_,_,rfl⟩
 have b1:=hb 1 3 d1 rfl rfl
 have b2:=hb 2 3 d2 rfl rfl
 have b3:=hb 3 4 d3 rfl rfl
 have b4:=hb 4 3 d4 rfl rfl
 clear hb hlen
 have hS1:=SqL.same hS sA
 refine⟨_,rfl,r,_,_,.int d0,rfl,rfl,SqL.of hr1,q0a (j:=0) rfl,rfl,_,rfl,q4r (fun _=>?_) (fun _=>?_)⟩
 ·refine⟨q1n (by show 1≤1000; decide),fun p hp=>q (.ref p) .opn _ ⟨p,rfl,q0b⟩ trivial trivial (sA.trans (q0d hp))⟩
 refine⟨_,rfl,r,_,_,.int d0,rfl,rfl,SqL.of hr1,q0a (j:=0) rfl,rfl,_,rfl,q4r (fun _=>?_) (fun _=>?_)⟩
 ·refine fun p1 p2 p3 p4 p5 H2 g1 g2 g3 g4 g5 tA=>?_
  have pick:∃ (pq:Addr) (ms:List Int),atI [V.ref p1,V.ref p2,V.ref p3,V.ref p4] d3=some (.ref pq)∧H2 pq=some (.tup (ms.map V.int))∧ms∈fiv∧ms.length≤9:=by
   have:d3=0∨d3=1∨d3=2∨d3=3:=by omega
   rcases this with rfl | rfl | rfl | rfl
   ·exact⟨p1,[0],rfl,g1,by decide,by decide⟩
   ·exact⟨p2,[0,2],rfl,g2,by decide,by decide⟩
   ·exact⟨p3,[1,2,3],rfl,g3,by decide,by decide⟩
   ·exact⟨p4,[0,1,2,3,8],rfl,g4,by decide,by decide⟩
  obtain⟨pq,ms,hat,hpq,hms,hml⟩:=pick
  refine⟨_,rfl,r,_,_,.int d3,rfl,rfl,SqL.of (tA _ _ hr1),q0a (j:=3) rfl,p5,_,_,.ref pq,rfl,rfl,SqT.of g5,hat,q1n (by show 2≤1000; decide),fun p hp=>?_⟩
  exact q (.ref p) (.seats ms) _ ⟨p,pq,rfl,q0b,q0d hp _ _ hpq⟩ hml hms (sA.trans (tA.trans (q0d hp)))
 ·refine⟨q1n (by show 3≤1000; decide),fun lw hlw=>?_⟩
  have t1:=q0d (o:=HO.lst [V.str "set",V.str "add",V.str "get"]) hlw
  have glw:upd H1 lw (HO.lst [V.str "set",V.str "add",V.str "get"]) lw=some (HO.lst [V.str "set",V.str "add",V.str "get"]):=q0b
  generalize upd H1 lw (HO.lst [V.str "set",V.str "add",V.str "get"])=H2 at t1 glw
  have word:∃ x:Str,atI [V.str "set",V.str "add",V.str "get"] d4=some (.str x)∧((d4=0∧x = "set")∨(d4=1∧x = "add")∨(d4=2∧x = "get")):=by
   have:d4=0∨d4=1∨d4=2:=by omega
   rcases this with rfl | rfl | rfl
   ·exact⟨"set",rfl,.inl ⟨rfl,rfl⟩⟩
   ·exact⟨"add",rfl,.inr (.inl ⟨rfl,rfl⟩)⟩
   ·exact⟨"get",rfl,.inr (.inr ⟨rfl,rfl⟩)⟩
  obtain⟨x,hx,hxd⟩:=word
  have hr2:=t1 _ _ hr1
  refine⟨_,rfl,r,_,_,.int d4,rfl,rfl,SqL.of hr2,q0a (j:=4) rfl,lw,_,_,.str x,rfl,rfl,SqL.of glw,hx,?_⟩
  refine⟨_,rfl,_,rfl,r,_,_,.int d1,rfl,rfl,SqL.of hr2,q0a (j:=1) rfl,a,ns,d1,rfl,SqL.same hS1 t1,b1.1,fun H3 t3=>?_⟩
  have hr3:=t3 _ _ hr2
  refine⟨_,rfl,r,_,_,.int d5,rfl,rfl,SqL.of hr3,q0a (j:=5) rfl,_,rfl,_,rfl,r,_,_,.int d5,rfl,rfl,SqL.of hr3,q0a (j:=5) rfl,_,_,rfl,rfl,⟨by decide,by decide,by decide⟩,q1n (by show 3≤1000; decide),fun lv hlv=>?_⟩
  have t4:=q0d (o:=HO.lst [V.int (-d5),V.int d5,V.int ((10:Int) ^ (20:Int).toNat)]) hlv
  have val:∃ z:Int,atI [V.int (-d5),V.int d5,V.int ((10:Int) ^ (20:Int).toNat)] d2=some (.int z):=by
   have:d2=0∨d2=1∨d2=2:=by omega
   rcases this with rfl | rfl | rfl
   ·exact⟨_,rfl⟩
   ·exact⟨_,rfl⟩
   ·exact⟨_,rfl⟩
  obtain⟨z,hz⟩:=val
  refine⟨_,rfl,r,_,_,.int d2,rfl,rfl,SqL.of (t4 _ _ hr3),q0a (j:=2) rfl,lv,_,_,.int z,rfl,rfl,SqL.of q0b,hz,q1n (by show 3≤1000; decide),fun pd hpd=>?_⟩
  generalize upd H3 lv (HO.lst [V.int (-d5),V.int d5,V.int ((10:Int) ^ (20:Int).toNat)])=H4 at t4 hpd
  have t5:=q0d (o:=HO.tup [V.str x,V.str (q3u (q7m ns 1) d1),V.int z]) hpd
  have gpd:upd H4 pd (HO.tup [V.str x,V.str (q3u (q7m ns 1) d1),V.int z]) pd=some (HO.tup [V.str x,V.str (q3u (q7m ns 1) d1),V.int z]):=q0b
  generalize upd H4 pd (HO.tup [V.str x,V.str (q3u (q7m ns 1) d1),V.int z])=H5 at t5 gpd
  have tA:=t1.trans (t3.trans (t4.trans t5))
  have hr5:=tA _ _ hr1
  refine⟨_,rfl,r,_,_,.int d4,rfl,rfl,SqL.of hr5,q0a (j:=4) rfl,rfl,_,rfl,?_⟩
  have fin:∀ (d:Deed) (u:Addr) (H6:Hp),x0h H6 (.ref u) d→d.nm=q3u (q7m ns 1) d1→q1l H5 H6→∀ H7,q1l H6 H7→∀ p,H7 p=none→Q (.ref p) (upd H7 p (.tup [V.str "wish",V.str (q3u (q7m ns 1) d2),V.int (1+d3),V.ref u])):=fun d u H6 hd hn t6 H7 t7 p hp=>by
   have tp:=q0d (o:=HO.tup [V.str "wish",V.str (q3u (q7m ns 1) d2),V.int (1+d3),V.ref u]) hp
   exact q (.ref p) (.wish (q3u (q7m ns 1) d2) (1+d3) d) _ ⟨p,.ref u,rfl,q0b,(hd.same t7).same tp⟩ ⟨x7p ns b2.1 b2.2,by omega,by rw [hn]; exact x7p ns b1.1 b1.2⟩ trivial (sA.trans (tA.trans (t6.trans (t7.trans tp))))
  by_cases h42:d4=2
  ·rw [decide_eq_true (congrArg V.int h42)]
   refine q2z ⟨_,rfl,_,rfl,pd,_,rfl,gpd,fun pc H6 hpc t6=>?_⟩
   have ex:x = "get" := by
    rcases hxd with h | h | h
    ·omega
    ·omega
    ·exact h.2
   subst ex
   refine⟨_,rfl,_,rfl,r,_,_,.int d2,rfl,rfl,SqL.of (t6 _ _ hr5),q0a (j:=2) rfl,a,ns,d2,rfl,SqL.same hS1 (tA.trans t6),b2.1,fun H7 t7=>?_⟩
   refine⟨_,rfl,r,_,_,.int d3,rfl,rfl,SqL.of (t7 _ _ (t6 _ _ hr5)),q0a (j:=3) rfl,_,_,rfl,rfl,_,rfl,q1n (by show 4≤1000; decide),fun p hp=>?_⟩
   exact fin (.get (q3u (q7m ns 1) d1)) pc H6 ⟨pc,rfl,hpc⟩ rfl t6 H7 t7 p hp
  ·rw [decide_eq_false (fun z=>h42 (V.int.inj z))]
   refine q2p ⟨_,rfl,_,rfl,r,_,_,.int d2,rfl,rfl,SqL.of hr5,q0a (j:=2) rfl,a,ns,d2,rfl,SqL.same hS1 tA,b2.1,fun H7 t7=>?_⟩
   refine⟨_,rfl,r,_,_,.int d3,rfl,rfl,SqL.of (t7 _ _ hr5),q0a (j:=3) rfl,_,_,rfl,rfl,_,rfl,q1n (by show 4≤1000; decide),fun p hp=>?_⟩
   rcases hxd with ⟨_,rfl⟩ | ⟨_,rfl⟩ | h
   ·exact fin (.set (q3u (q7m ns 1) d1) z) pd H5 ⟨pd,rfl,gpd⟩ rfl (q1l.refl _) H7 t7 p hp
   ·exact fin (.add (q3u (q7m ns 1) d1) z) pd H5 ⟨pd,rfl,gpd⟩ rfl (q1l.refl _) H7 t7 p hp
   ·exact absurd h.1 h42
noncomputable def z9l (K:Frag):Sp:=fun vs H Q _=>∃ (a:Addr) (ns:List Int) (t n:Int),vs=[.ref a,.int t,.int n]∧SqL K H a (ns.map V.int)∧∀ (p:Addr) (v:V) (x:What) (H':Hp),H' p=some (.tup [.int t,v])→q4x H' v x→x3v (q8d ns) (q8d ns) x→j0r x→q1l H H'→Q (.ref p) H'
theorem j6m:FnScope ["_law_script", "_law_term", "_law_number"] ["_law_script", "_law_term", "_law_number"] (q0h q6j):=fSc
theorem j3e {f:Addr} {fd:FuncData} (F:Fun K "_law_entry" "_law_entry" q6j f fd) (CW:Cal P w K mg base "_law_what" 4 ["_law_script", "_law_number"] (z8w K)):FnOk P w K mg base CX0 5 f fd ["_law_script", "_law_term", "_law_number"] (z9l K):=by
 refine F.ok j6m (by rintro _ _ _ _⟨_,_,_,_,rfl,_⟩; rfl) (fun _ A _ s H vs Q E hr h=>?_)
 obtain⟨a,ns,t,n,rfl,hS,q⟩:=h
 refine⟨_,@q0p _ _ _ (q0q (QE.h (q1d (q4c (pv 1) (q7c (q0n CW hr (q0z (pv 0) (q0z (pv 2) q0e))) q0v))))),?_⟩
 refine⟨_,rfl,_,rfl,_,rfl,a,ns,n,rfl,hS,fun v x H1 hv hw hs s1=>⟨q1n (by show 2≤1000; decide),fun p hp=>?_⟩⟩
 exact q p v x _ q0b (hv.same (q0d hp)) hw hs (s1.trans (q0d hp))
end
structure WO (H:Hp) (lw:Addr) (av as:List Addr) (ws:List Hd4):Prop where
 at_:H lw=some (.lst (as.map V.ref))
 len:as.length=ws.length
 nd:as.Nodup
 nw:lw∉as
 aw:lw∉av
 aa:∀ a∈as,a∉av
 hd:∀ (i:Nat) (a:Addr) (h:Hd4),as[i]? = some a→ws[i]? = some h→∃ l us,H a=some (.lst [.int h.tm,.ref l,.int (h.c:Int)])∧H l=some (.lst us)∧ET H us h.log∧l≠lw∧l∉as∧l∉av
theorem WO.frame {H H':Hp} {lw:Addr} {av as:List Addr} {ws:List Hd4} (h:WO H lw av as ws) (st:q2o H H') (sl:∀ b xs,b∉av→H b=some (.lst xs)→H' b=some (.lst xs)):WO H' lw av as ws :=
 ⟨sl _ _ h.aw h.at_,h.len,h.nd,h.nw,h.aw,h.aa,fun i a g h1 h2=>by
  obtain⟨l,us,e1,e2,e3,n1,n2,n3⟩:=h.hd i a g h1 h2
  exact⟨l,us,sl _ _ (h.aa a (List.mem_of_getElem? h1)) e1,sl _ _ n3 e2,e3.sameT st,n1,n2,n3⟩⟩
theorem WO.has {H:Hp} {lw:Addr} {av as:List Addr} {ws:List Hd4} (O:WO H lw av as ws):∀ b∈as,∃ xs,H b=some (.lst xs):=fun b hb=>by
 obtain⟨i,hi,rfl⟩:=List.mem_iff_getElem.mp hb
 have hi2:i < ws.length:=by rw [← O.len]; exact hi
 obtain⟨l1,us1,e1,_⟩:=O.hd i as[i] ws[i] (List.getElem?_eq_getElem hi) (List.getElem?_eq_getElem hi2)
 exact⟨_,e1⟩
noncomputable def z2a (W:List Str) (e:En):Prop:=x3v W W e.2∧j0r e.2
structure WsOk (W:List Str) (n:Nat) (ws:List Hd4):Prop where
 wld:Wld ws
 en:∀ h∈ws,∀ e∈h.log,z2a W e
 few:∀ h∈ws,h.log.length≤n
 pos:∀ h∈ws,1≤h.tm
 some:ws≠[]
 cnt:ws.length≤n
noncomputable def j4h (ws ws':List Hd4):Prop:=∀ h∈ws,∃ h'∈ws',h'.tm=h.tm∧h.log <+: h'.log∧h.c≤h'.c
theorem j0s {H:Hp} {W:List Str} {t:Int}:∀ {ys:List V},(∀ v∈ys,∃ p u x,v=.ref p∧H p=some (.tup [.int t,u])∧q4x H u x∧x3v W W x∧j0r x)→∃ r:List En,ET H ys r∧∀ e∈r,e.1=t∧z2a W e
 | [],_=>⟨[],.nil,fun e h=>absurd h List.not_mem_nil⟩
 | v::ys,h=>by
  obtain⟨p,u,x,rfl,hp,hx,hw,hs⟩:=h v List.mem_cons_self
  obtain⟨r,h1,h2⟩:=j0s (ys:=ys) fun v hv=>h v (List.mem_cons_of_mem _ hv)
  refine⟨(t,x)::r,.cons hp hx h1,fun e he=>?_⟩
  rcases List.mem_cons.mp he with rfl | he
  ·exact⟨rfl,hw,hs⟩
  ·exact h2 e he
theorem WO.putLast {H H':Hp} {lw:Addr} {av as0:List Addr} {a l:Addr} {ws:List Hd4} {h h':Hd4} {us:List V} (O:WO H lw av (as0++[a]) (ws++[h])) (ha:H' a=some (.lst [.int h'.tm,.ref l,.int (h'.c:Int)])) (hl:H' l=some (.lst us)) (hE:ET H' us h'.log) (n1:l≠lw) (n2:l∉as0++[a]) (n3:l∉av) (keep:∀ b o,b≠a→H b=some o→H' b=some o):WO H' lw av (as0++[a]) (ws++[h']):=by
 have lenS:as0.length=ws.length:=by have:=O.len; rw [List.length_append,List.length_append,List.length_singleton,List.length_singleton] at this; omega
 have nwa:lw≠a:=fun z=>O.nw (by rw [z]; simp)
 obtain⟨l0,us0,e0,_⟩:=O.hd as0.length a h (by simp) (by rw [lenS]; simp)
 have st:q2o H H':=fun b xs e=>keep b _ (fun z=>by rw [z,e0] at e; cases e) e
 refine⟨keep _ _ nwa O.at_,by rw [List.length_append,List.length_append,lenS]; rfl,O.nd,O.nw,O.aw,O.aa,fun i b g h1 h2=>?_⟩
 by_cases hi:i < as0.length
 ·have h1':=h1
  have h2':=h2
  rw [List.getElem?_append_left hi] at h1
  rw [List.getElem?_append_left (by omega)] at h2
  obtain⟨l1,us1,e1,e2,e3,m1,m2,m3⟩:=O.hd i b g h1' (by rw [List.getElem?_append_left (by omega)]; exact h2)
  have nb:b≠a:=fun z=>by
   have nd:=O.nd
   rw [List.nodup_append] at nd
   exact nd.2.2 b (List.mem_of_getElem? h1) a (by simp) z
  have nl:l1≠a:=fun z=>m2 (by rw [z]; simp)
  exact⟨l1,us1,keep _ _ nb e1,keep _ _ nl e2,e3.sameT st,m1,m2,m3⟩
 ·have hi2:i=as0.length:=by
   have:=(List.getElem?_eq_some_iff.mp h1).1
   rw [List.length_append,List.length_singleton] at this
   omega
  subst hi2
  rw [List.getElem?_append_right (Nat.le_refl _),Nat.sub_self] at h1
  rw [List.getElem?_append_right (by omega),lenS,Nat.sub_self] at h2
  cases h1
  cases h2
  exact⟨l,us,ha,hl,hE,n1,n2,n3⟩
theorem WO.push {H H':Hp} {lw:Addr} {av as:List Addr} {a l:Addr} {ws:List Hd4} {h':Hd4} {us:List V} (O:WO H lw av as ws) (hw:H' lw=some (.lst ((as++[a]).map V.ref))) (ha:H' a=some (.lst [.int h'.tm,.ref l,.int (h'.c:Int)])) (hl:H' l=some (.lst us)) (hE:ET H' us h'.log) (na:H a=none) (nl:H l=none) (nal:l≠a) (hav:∀ b∈av,∃ o,H b=some o) (keep:∀ b o,b≠lw→H b=some o→H' b=some o):WO H' lw av (as++[a]) (ws++[h']):=by
 have old:∀ {b:Addr} {o:HO} {x:Addr},H b=some o→H x=none→b≠x:=fun {b o x} e n z=>by rw [z,n] at e; cases e
 have has:∀ b∈as,∃ o,H b=some o:=fun b hb=>by
  obtain⟨i,hi,rfl⟩:=List.mem_iff_getElem.mp hb
  have hi2:i < ws.length:=by rw [← O.len]; exact hi
  obtain⟨l1,us1,e1,_⟩:=O.hd i as[i] ws[i] (List.getElem?_eq_getElem hi) (List.getElem?_eq_getElem hi2)
  exact⟨_,e1⟩
 have naas:a∉as:=fun hb=>by obtain⟨o,e⟩:=has a hb; rw [na] at e; cases e
 have st:q2o H H':=fun b xs e=>keep b _ (fun z=>by rw [z,O.at_] at e; cases e) e
 refine⟨hw,by rw [List.length_append,List.length_append,O.len]; rfl,?_,fun hb=>?_,O.aw,fun b hb hv=>?_,fun i b g h1 h2=>?_⟩
 ·rw [List.nodup_append]
  exact⟨O.nd,List.nodup_cons.mpr ⟨List.not_mem_nil,List.nodup_nil⟩,fun x hx y hy z=>naas (by rw [← List.mem_singleton.mp hy,← z]; exact hx)⟩
 ·rcases List.mem_append.mp hb with hb | hb
  ·exact O.nw hb
  ·exact old O.at_ na (List.mem_singleton.mp hb)
 ·rcases List.mem_append.mp hb with hb | hb
  ·exact O.aa b hb hv
  ·obtain⟨o,e⟩:=hav b hv
   rw [List.mem_singleton.mp hb,na] at e
   cases e
 ·by_cases hi:i < as.length
  ·rw [List.getElem?_append_left hi] at h1
   rw [List.getElem?_append_left (by rw [← O.len]; exact hi)] at h2
   obtain⟨l1,us1,e1,e2,e3,m1,m2,m3⟩:=O.hd i b g h1 h2
   have nb:b≠lw:=fun z=>O.nw (by rw [← z]; exact List.mem_of_getElem? h1)
   refine⟨l1,us1,keep _ _ nb e1,keep _ _ m1 e2,e3.sameT st,m1,fun hb=>?_,m3⟩
   rcases List.mem_append.mp hb with hb | hb
   ·exact m2 hb
   ·exact old e2 na (List.mem_singleton.mp hb)
  ·have hi2:i=as.length:=by
    have:=(List.getElem?_eq_some_iff.mp h1).1
    rw [List.length_append,List.length_singleton] at this
    omega
   subst hi2
   rw [List.getElem?_append_right (Nat.le_refl _),Nat.sub_self] at h1
   rw [O.len,List.getElem?_append_right (Nat.le_refl _),Nat.sub_self] at h2
   cases h1
   cases h2
   refine⟨l,us,ha,hl,hE,fun z=>old O.at_ nl z.symm,fun hb=>?_,fun hb=>?_⟩
   ·rcases List.mem_append.mp hb with hb | hb
    ·obtain⟨o,e⟩:=has l hb
     rw [nl] at e; cases e
    ·exact nal (List.mem_singleton.mp hb)
   ·obtain⟨o,e⟩:=hav l hb
    rw [nl] at e; cases e
theorem WsOk.putLast {W:List Str} {n:Nat} {ws:List Hd4} {h h':Hd4} (k:WsOk W n (ws++[h])) (wl:Wld (ws++[h'])) (en:∀ e∈h'.log,z2a W e) (few:h'.log.length≤n+3) (e:h'.tm=h.tm):WsOk W (n+3) (ws++[h']):=by
 refine⟨wl,fun g hg=>?_,fun g hg=>?_,fun g hg=>?_,by simp,by have:=k.cnt; rw [List.length_append] at this ⊢; exact Nat.le_trans this (by omega)⟩ <;> rcases List.mem_append.mp hg with hg | hg
 ·exact k.en g (List.mem_append_left _ hg)
 ·rw [List.mem_singleton.mp hg]; exact en
 ·have:=k.few g (List.mem_append_left _ hg); omega
 ·rw [List.mem_singleton.mp hg]; exact few
 ·exact k.pos g (List.mem_append_left _ hg)
 ·rw [List.mem_singleton.mp hg,e]; exact k.pos h (by simp)
theorem x3z {ws:List Hd4} {h h':Hd4} (e:h'.tm=h.tm) (p:h.log <+: h'.log) (c:h.c≤h'.c):j4h (ws++[h]) (ws++[h']):=fun g hg=>by
 rcases List.mem_append.mp hg with hg | hg
 ·exact⟨g,List.mem_append_left _ hg,rfl,List.prefix_refl _,Nat.le_refl _⟩
 ·rw [List.mem_singleton.mp hg]; exact⟨h',by simp,e,p,c⟩
theorem z4c {as0:List Addr} {a:Addr}:atI ((as0++[a]).map V.ref) (-1)=some (.ref a):=by
 unfold atI ixN
 rw [if_neg (by decide),if_pos (by rw [List.length_map,List.length_append,List.length_singleton]; omega)]
 show ((as0++[a]).map V.ref)[(-1+(((as0++[a]).map V.ref).length:Int)).toNat]? = _
 rw [List.length_map,List.length_append,List.length_singleton,show (-1+((as0.length+1:Nat):Int)).toNat=as0.length by omega]
 simp
theorem z1l {α:Type} {l:List α} (h:l≠[]):∃ l0 x,l=l0++[x]:=by
 rcases List.eq_nil_or_concat l with rfl | ⟨l0,x,rfl⟩
 ·exact absurd rfl h
 ·exact⟨l0,x,List.concat_eq_append⟩
section
variable {P:Program} {w:World} {K:Frag} {mg:Str→Option Value} {base:Heap}
noncomputable def z8v (K:Frag):Sp:=fun vs H Q _=>∃ (sc lw ld:Addr) (ns:List Int) (d0 d1 d2 d3 n t:Int) (av as:List Addr) (ws:List Hd4) (N:Nat),vs=[.ref sc,.ref lw,.ref ld,.int n,.int t]∧SqL K H sc (ns.map V.int)∧H ld=some (.lst [.int d0,.int d1,.int d2,.int d3])∧0≤d1∧WO H lw av as ws∧WsOk (q8d ns) N ws∧N≤400∧(∀ b∈av,∃ o,H b=some o) ∧
 ∀ (H':Hp) (as':List Addr) (ws':List Hd4),WO H' lw av as' ws'→WsOk (q8d ns) (N+3) ws'→j4h ws ws'→(∀ b o,b≠lw→b∉as→H b=some o→H' b=some o)→(∀ a∈as',a∈as∨H a=none)→Q .non H'
theorem z5m:FnScope ["_law_script", "_law_world_here", "_law_some", "_law_number", "_law_term", "_law_head", "_law_kept_here", "_law_new"] ["_law_script", "_law_world_here", "_law_some", "_law_number", "_law_term"] (q0h q4t):=fSc
theorem j2u {f:Addr} {fd:FuncData} (F:Fun K "_law_world" "_law_world" q4t f fd) (T:Txt mg) (CE:Cal P w K mg base "_law_entry" 5 ["_law_script", "_law_term", "_law_number"] (z9l K)):FnOk P w K mg base CX0 6 f fd ["_law_script", "_law_world_here", "_law_some", "_law_number", "_law_term"] (z8v K):=by
 refine F.ok z5m (by rintro _ _ _ _⟨_,_,_,_,_,_,_,_,_,_,_,_,_,_,rfl,_⟩; rfl) (fun _ A _ s H vs Q E hr h=>?_)
 obtain⟨sc,lw,ld,ns,d0,d1,d2,d3,n,t,av,as,ws,N,rfl,hS,hld,hd1,O,ok,hN,hav,q⟩:=h
 refine⟨_,@q0j _ _ _ _ _ (q0r (i:=5) z5m.nd (by rfl) (by exact Or.inr rfl) (q0f q0g (pv 1) (z6f x8o q0c) j9g))
  (@q0p _ _ _ (q1g (q0m x3g (q0f q0g (pv 2) q0c q0w) q0c (q0o _))
   (@q0p _ _ _ (q3b (q0x x4w (q0f q0g (pv 5) q0c q0w) (q6r (NB:=["_law_turn", "_law_script", "_law_head", "_law_number"]) (n:=1) (fr:=[0,5,3]) (z3z (outer:=q0h q4t) (x := "_law_script") (y := "_law_head") (z := "_law_number") (by rfl) (by decide +kernel) (by rfl) (by rfl) (by rfl) (by rfl) (by rfl) (by rfl) (by rfl) (by rfl) (by rfl) (by rfl)) (by rfl)
     (x0t (by rfl) T.range (q9d (q0x q1o q0c (q0x q2t (q0f q0g (pv 2) q0c q0w) q0c)) q0e)) (fun _ _ _ _ _=>q1u (i:=0) (show (["_law_turn", "_law_script", "_law_head", "_law_number"]:List Str).Nodup by decide +kernel) (by rfl) (by exact Or.inl rfl)) (fun _ _ _ _ _=>q5l)
     (fun _ _ _ _ _=>q0n CE hr (q0z (pv 1) (q2r (q0f (q9u (K:=K) (by rfl)) (pv 2) q0c q0w) (q9d (q0x q1o (q0x q3j (pv 3) q0c) (pv 0)) q0e)))))) (q3d (pv 5) q0c q1s)))
   (@q0p _ _ _ (q1g (q0m q2u (q0f q0g (pv 2) q0c q0w) q0c (q0o _))
    (@q0j _ _ _ _ _ (q0r (i:=6) z5m.nd (by rfl) (by exact Or.inl rfl) (q1y q4w (q0f q0g (pv 5) q0c q0w) q3f (q2b (q0l (q2c (by rfl)) (by rfl) T.max q2m (q2r (q0f q0g (pv 5) q0c q0w) (q9d (q0x q2q (q0l q0t (by rfl) T.len PySem.boot_len (q2r (q0f q0g (pv 5) q0c q0w) q0e)) (q0x q2t (q0f q0g (pv 2) q0c q0w) q0c)) q0e))))))
    (@q0j _ _ _ _ _ (q0r (i:=7) z5m.nd (by rfl) (by exact Or.inl rfl) (q0l (q2c (by rfl)) (by rfl) T.max q2m (q9d (q0x q1o (q0f q0g (pv 5) q0c q0w) q0c) (q9d (q0x q1o (pv 4) (q0x q2t (q0x q3j (q0f q0g (pv 2) q0c q0w) q0c) q0c)) q0e))))
    (@q0p _ _ _ (q2g (z6j PySem.F.plainAttrs_list PySem.F.slot_list_append PySem.F.type_list_append q8h (pv 1) (j0i (QE.h (q3g (q4c (pv 7) (z6p (q0x x4w (pv 6) (QE.h (q3g (q4l (q4c (pv 7) (q4l (q1w q0v) q0v)) q0v)))) (q5a (q0f q0g (pv 5) q0c q0w) q0v))))) q0e))))))
    (@q0p _ _ _ (q3b (q0l (q4a (by rfl)) (by rfl) T.min q4u (q8r (q0l q0t (by rfl) T.len PySem.boot_len (q2r (q0f q0g (pv 5) q0c q0w) q0e)) (q9d (q0x q1o (q0x q1o (q0f q0g (pv 5) q0c q0w) q0c) (q0x q2t (q0f q0g (pv 2) q0c q0w) q0c)) q0e))) (q3d (pv 5) q0c q1s))))))),?_⟩
 obtain⟨ws0,h,rfl⟩:=z1l ok.some
 obtain⟨as0,a,rfl⟩:=z1l (l:=as) (fun z=>by have:=O.len; rw [z,List.length_append,List.length_singleton] at this; simp at this)
 have lenS:as0.length=ws0.length:=by have:=O.len; rw [List.length_append,List.length_append,List.length_singleton,List.length_singleton] at this; omega
 obtain⟨l,us,ha,hl,hE,n1,n2,n3⟩:=O.hd as0.length a h (by simp) (by rw [lenS]; simp)
 have hmem:h∈ws0++[h]:=by simp
 have hle:=hE.length
 have hfew:=ok.few h hmem
 refine⟨_,rfl,_,rfl,lw,_,_,.ref a,rfl,rfl,SqL.of O.at_,z4c,?_⟩
 refine⟨_,rfl,ld,_,_,.int d0,rfl,rfl,SqL.of hld,q0a (j:=0) rfl,_,_,rfl,rfl,_,rfl,q4r (fun _=>?_) (fun _=>?_)⟩
 ·
  refine⟨_,rfl,a,_,_,.ref l,rfl,rfl,SqL.of ha,q0a (j:=1) rfl,_,rfl,ld,_,_,.int d1,rfl,rfl,SqL.of hld,q0a (j:=1) rfl,_,_,rfl,rfl,(by show (0:Int) < 3; decide),_,_,rfl,rfl,_,rfl,?_⟩
  obtain⟨z0,z1⟩:=q2j d1 (m:=3) (by decide)
  refine⟨by omega,by omega,q7z (J:=Itr 0 (1+d1 % 3).toNat) (k:=1) (n:=(1+d1 % 3).toNat) (fun i H v=>∃ p u x,v=.ref p∧H p=some (.tup [.int h.tm,u])∧q4x H u x∧x3v (q8d ns) (q8d ns) x∧j0r x) (fun i H H' v s ⟨p,u,x,e,hp,hx,hw,hs⟩=>⟨p,u,x,e,s _ _ hp,hx.sameT s,hw,hs⟩) (by rw [sizeLine_eq]; omega) (fun i H3 hi s4=>hi) (fun H3 s4=>Nat.le_refl _) ?_ ?_⟩
  ·intro i H3 tt x H4 R hi s4 ht y hR
   obtain⟨t0,rfl⟩:=q3w ht
   obtain⟨rfl,rfl⟩:=y
   exact⟨_,rfl,_,rfl,a,_,_,.int h.tm,rfl,rfl,SqL.of (s4 _ _ ha),q0a (j:=0) rfl,_,rfl,_,_,rfl,rfl,⟨by decide,by decide⟩,_,rfl,_,_,rfl,rfl,sc,ns,h.tm,_,rfl,SqL.same hS s4,fun p v x H5 hp hv hw hs s5=>hR [_] _ _ rfl s5 ⟨p,v,x,rfl,hp,hv,hw,hs⟩⟩
  ·intro D3 H3 ys s3 hD3 hd3 hly hys
   obtain⟨r,hr1,hr2⟩:=j0s (ys:=ys) (W:=q8d ns) (t:=h.tm) fun v hv=>by
    obtain⟨i,hi,rfl⟩:=List.mem_iff_getElem.mp hv
    exact hys i _ (List.getElem?_eq_getElem hi)
   have hrl:=hr1.length
   refine⟨l,D3,us,ys,rfl,rfl,s3 _ _ hl,hd3,?_,fun p hp=>?_⟩
   ·rw [hle,hly,sizeLine_eq]; omega
   have s4:=q0d (o:=HO.lst (us++ys)) hp
   have sA:=s3.trans s4
   refine⟨_,rfl,a,_,_,1,rfl,rfl,sA _ _ ha,rfl,?_⟩
   have np:H p=none:=none_of s3 hp
   have npa:p≠a:=fun z=>by rw [z,ha] at np; cases np
   have kp:∀ b o,b≠a→H b=some o→upd (upd H3 p (.lst (us++ys))) a (.lst ([V.int h.tm,V.ref l,V.int (h.c:Int)].set 1 (V.ref p))) b=some o:=fun b o nb e=>by rw [q1c nb]; exact sA _ _ e
   have st:q2o H3 (upd (upd H3 p (.lst (us++ys))) a (.lst ([V.int h.tm,V.ref l,V.int (h.c:Int)].set 1 (V.ref p)))):=fun b xs e=>by
    rw [q1c (fun z=>by rw [z,s3 _ _ ha] at e; cases e)]; exact s4 _ _ e
   refine q _ (as0++[a]) (ws0++[{ h with log:=h.log++r }]) (O.putLast (l:=p) (us:=us++ys) q0b ?_ ?_ ?_ ?_ ?_ kp) (ok.putLast (ok.wld.grow fun e he=>(hr2 e he).1) (fun e he=>?_) ?_ rfl) (x3z rfl (List.prefix_append _ _) (Nat.le_refl _)) (fun b o _ nb e=>kp b o (fun z=>nb (by rw [z]; simp)) e) fun b hb=>.inl hb
   ·rw [q1c npa]; exact q0b
   ·exact ((hE.sameT (q1j s3)).append hr1).sameT st
   ·intro z; rw [z,O.at_] at np; cases np
   ·intro hb
    obtain⟨xs,e1⟩:=O.has p hb
    rw [np] at e1; cases e1
   ·intro hb
    obtain⟨o,e⟩:=hav p hb
    rw [np] at e; cases e
   ·rcases List.mem_append.mp he with he | he
    ·exact ok.en h hmem e he
    ·exact (hr2 e he).2
   ·show (h.log++r).length≤N+3
    rw [List.length_append]; omega
 refine⟨_,rfl,ld,_,_,.int d0,rfl,rfl,SqL.of hld,q0a (j:=0) rfl,rfl,_,rfl,q4r (fun _=>?_) (fun _=>?_)⟩
 ·
  obtain⟨z0,z1⟩:=q2j d1 (m:=4) (by decide)
  have hcl:=ok.wld.cl h hmem
  refine⟨_,rfl,a,_,_,.ref l,rfl,rfl,SqL.of ha,q0a (j:=1) rfl,_,rfl,a,_,_,.int (h.c:Int),rfl,rfl,SqL.of ha,q0a (j:=2) rfl,_,rfl,a,_,_,.ref l,rfl,rfl,SqL.of ha,q0a (j:=1) rfl,l,_,rfl,.inl (SqL.of hl),_,rfl,ld,_,_,.int d1,rfl,rfl,SqL.of hld,q0a (j:=1) rfl,_,_,rfl,rfl,(by show (0:Int) < 4; decide),_,_,rfl,rfl,_,_,rfl,?_⟩
  obtain⟨m,em,hm⟩:∃ m:Nat,(if (us.length:Int) - d1 % 4 > (h.c:Int) then (us.length:Int) - d1 % 4 else (h.c:Int))=(m:Int)∧h.c≤m:=by
   by_cases hc:(us.length:Int) - d1 % 4 > (h.c:Int)
   ·rw [if_pos hc]; exact⟨((us.length:Int) - d1 % 4).toNat,by omega,by omega⟩
   ·rw [if_neg hc]; exact⟨h.c,rfl,Nat.le_refl _⟩
  rw [em]
  refine⟨_,rfl,l,_,rfl,SqL.of hl,fun p1 hp1=>?_⟩
  rw [q7f]
  have s1:=q0d (o:=HO.lst (us.take m)) hp1
  have g1:upd H p1 (HO.lst (us.take m)) p1=some (HO.lst (us.take m)):=q0b
  generalize upd H p1 (HO.lst (us.take m))=H1 at s1 g1
  refine⟨_,rfl,a,_,_,.int h.tm,rfl,rfl,SqL.of (s1 _ _ ha),q0a (j:=0) rfl,_,_,rfl,rfl,_,rfl,_,rfl,ld,_,_,.int d1,rfl,rfl,SqL.of (s1 _ _ hld),q0a (j:=1) rfl,_,_,rfl,rfl,⟨by decide,by decide⟩,_,_,rfl,rfl,(by show (0:Int) < 2; decide),_,_,rfl,rfl,_,_,rfl,?_⟩
  have hnw:h.tm < (if t+d1 / 4 % 2 > h.tm+1 then t+d1 / 4 % 2 else h.tm+1):=by split <;> omega
  generalize (if t+d1 / 4 % 2 > h.tm+1 then t+d1 / 4 % 2 else h.tm+1)=nw at hnw
  refine⟨_,rfl,.inl ⟨rfl,_,SqL.of (s1 _ _ O.at_)⟩,_,rfl,_,rfl,_,rfl,q1n (by show 1≤1000; decide),fun p2 hp2=>⟨q1n (by show 2≤1000; decide),fun p3 hp3=>⟨q1n (by show 1≤1000; decide),fun p4 hp4=>?_⟩⟩⟩
  have s2:=q0d (o:=HO.tup [V.str "open"]) hp2
  have s3:=q0d (o:=HO.tup [V.int nw,V.ref p2]) hp3
  have s4:=q0d (o:=HO.lst [V.ref p3]) hp4
  have g2:=s4 _ _ (s3 _ _ (q0b (a:=p2) (o:=HO.tup [V.str "open"]) (H:=H1)))
  have g3:=s4 _ _ (q0b (a:=p3) (o:=HO.tup [V.int nw,V.ref p2]))
  have s14:=s1.trans (s2.trans (s3.trans s4))
  have g4:upd (upd (upd H1 p2 (.tup [V.str "open"])) p3 (.tup [V.int nw,V.ref p2])) p4 (.lst [V.ref p3]) p4=some (.lst [V.ref p3]):=q0b
  have g14:=s4 _ _ (s3 _ _ (s2 _ _ g1))
  generalize upd (upd (upd H1 p2 (.tup [V.str "open"])) p3 (.tup [V.int nw,V.ref p2])) p4 (.lst [V.ref p3])=H4 at g2 g3 g4 g14 s14
  refine⟨p1,p4,_,_,rfl,rfl,g14,g4,?_,fun p5 hp5=>?_⟩
  ·rw [List.length_take,sizeLine_eq,hle]; show min m h.log.length+1≤16777216; omega
  have s5:=q0d (o:=HO.lst (us.take m++[V.ref p3])) hp5
  refine⟨_,rfl,a,_,_,.int (h.c:Int),rfl,rfl,SqL.of (s5 _ _ (s14 _ _ ha)),q0a (j:=2) rfl,q1n (by show 3≤1000; decide),fun p6 hp6=>?_⟩
  have s6:=q0d (o:=HO.lst [V.int nw,V.ref p5,V.int (h.c:Int)]) hp6
  have g5:=s6 _ _ (q0b (a:=p5) (o:=HO.lst (us.take m++[V.ref p3])) (H:=H4))
  have g6:upd (upd H4 p5 (.lst (us.take m++[V.ref p3]))) p6 (.lst [V.int nw,V.ref p5,V.int (h.c:Int)]) p6=some (.lst [V.int nw,V.ref p5,V.int (h.c:Int)]):=q0b
  have s46:=s5.trans s6
  have np5:H p5=none:=none_of s14 hp5
  have np6:H p6=none:=none_of (s14.trans s5) hp6
  have n56:p5≠p6:=fun z=>by rw [← z,q0b] at hp6; cases hp6
  generalize upd (upd H4 p5 (.lst (us.take m++[V.ref p3]))) p6 (.lst [V.int nw,V.ref p5,V.int (h.c:Int)])=H6 at g5 g6 s46
  have sA:=s14.trans s46
  have ha6:=sA _ _ O.at_
  have hcnt:=ok.cnt
  rw [← O.len] at hcnt
  refine⟨lw,_,_,rfl,rfl,ha6,by rw [List.length_map,sizeLine_eq]; omega,?_⟩
  have n5w:p5≠lw:=fun z=>by rw [z,O.at_] at np5; cases np5
  have n6w:p6≠lw:=fun z=>by rw [z,O.at_] at np6; cases np6
  have kp:∀ b o,b≠lw→H b=some o→upd H6 lw (.lst (((as0++[a]).map V.ref)++[V.ref p6])) b=some o:=fun b o nb e=>by rw [q1c nb]; exact sA _ _ e
  have st4:q2o H4 (upd H6 lw (.lst (((as0++[a]).map V.ref)++[V.ref p6]))):=fun b xs e=>by
   rw [q1c (fun z=>by rw [z,s14 _ _ O.at_] at e; cases e)]; exact s46 _ _ e
  have hE6:ET (upd H6 lw (.lst (((as0++[a]).map V.ref)++[V.ref p6]))) (us.take m++[V.ref p3]) (h.log.take m++[(nw,What.opn)]):=ET.sameT st4 (((hE.take m).same s14).append (.cons g3 ⟨p2,rfl,g2⟩ .nil))
  refine q _ ((as0++[a])++[p6]) ((ws0++[h])++[⟨nw,h.log.take m++[(nw,What.opn)],h.c⟩]) (O.push (l:=p5) (us:=us.take m++[V.ref p3]) ?_ (by rw [q1c n6w]; exact g6) (by rw [q1c n5w]; exact g5) hE6 np6 np5 n56 hav kp) ⟨ok.wld.next hnw hm fun e he=>by rw [List.mem_singleton.mp he],fun g hg=>?_,fun g hg=>?_,fun g hg=>?_,by simp,?_⟩ (fun g hg=>⟨g,List.mem_append_left _ hg,rfl,List.prefix_refl _,Nat.le_refl _⟩) (fun b o nb _ e=>kp b o nb e) fun b hb=>?_
  ·rw [List.map_append (l₁:=as0++[a])]; exact q0b
  ·rcases List.mem_append.mp hg with hg | hg
   ·exact ok.en g hg
   ·rw [List.mem_singleton.mp hg]
    intro e he
    rcases List.mem_append.mp he with he | he
    ·exact ok.en h hmem e (List.mem_of_mem_take he)
    ·rw [List.mem_singleton.mp he]; exact⟨trivial,trivial⟩
  ·rcases List.mem_append.mp hg with hg | hg
   ·have:=ok.few g hg; omega
   ·rw [List.mem_singleton.mp hg]
    show (h.log.take m++[(nw,What.opn)]).length≤N+3
    rw [List.length_append,List.length_take,List.length_singleton]; omega
  ·rcases List.mem_append.mp hg with hg | hg
   ·exact ok.pos g hg
   ·rw [List.mem_singleton.mp hg]
    have:=ok.pos h hmem
    show 1≤nw
    omega
  ·have:=ok.cnt
   rw [List.length_append (as:=ws0++[h]),List.length_singleton]; omega
  ·rcases List.mem_append.mp hb with hb | hb
   ·exact .inl hb
   ·rw [List.mem_singleton.mp hb]; exact .inr np6
 ·
  obtain⟨z0,z1⟩:=q2j d1 (m:=4) (by decide)
  have hcl:=ok.wld.cl h hmem
  refine⟨_,rfl,a,_,_,.ref l,rfl,rfl,SqL.of ha,q0a (j:=1) rfl,l,_,rfl,.inl (SqL.of hl),_,rfl,a,_,_,.int (h.c:Int),rfl,rfl,SqL.of ha,q0a (j:=2) rfl,_,_,rfl,rfl,_,rfl,ld,_,_,.int d1,rfl,rfl,SqL.of hld,q0a (j:=1) rfl,_,_,rfl,rfl,(by show (0:Int) < 4; decide),_,_,rfl,rfl,_,_,rfl,?_⟩
  obtain⟨c,ec,hc1,hc2⟩:∃ c:Nat,(if (h.c:Int)+1+d1 % 4 < (us.length:Int) then (h.c:Int)+1+d1 % 4 else (us.length:Int))=(c:Int)∧h.c≤c∧c≤h.log.length:=by
   by_cases hc:(h.c:Int)+1+d1 % 4 < (us.length:Int)
   ·rw [if_pos hc]; exact⟨((h.c:Int)+1+d1 % 4).toNat,by omega,by omega,by omega⟩
   ·rw [if_neg hc]; exact⟨us.length,rfl,by omega,by omega⟩
  rw [ec]
  refine⟨_,rfl,a,_,_,2,rfl,rfl,ha,rfl,?_⟩
  have nla:l≠a:=fun z=>n2 (by rw [z]; simp)
  have kp:∀ b o,b≠a→H b=some o→upd H a (.lst ([V.int h.tm,V.ref l,V.int (h.c:Int)].set 2 (V.int (c:Int)))) b=some o:=fun b o nb e=>by rw [q1c nb]; exact e
  refine q _ (as0++[a]) (ws0++[{ h with c:=c }]) (O.putLast (l:=l) (us:=us) q0b (kp _ _ nla hl) (hE.sameT fun b xs e=>kp _ _ (fun z=>by rw [z,ha] at e; cases e) e) n1 n2 n3 kp) (ok.putLast (ok.wld.agree hc1 hc2) (ok.en h hmem) ?_ rfl) (x3z rfl (List.prefix_refl _) hc1) (fun b o _ nb e=>kp b o (fun z=>nb (by rw [z]; simp)) e) fun b hb=>.inl hb
  show h.log.length≤N+3
  omega
noncomputable def ThA (H:Hp) (v:V) (d:D):Prop:=IsT H v d∨∃ a vs ds,v=.ref a∧d=.lst ds∧H a=some (.lst vs)∧IsTL H vs ds
noncomputable def z9x:D→Bool | .lst _=>true | _=>false
theorem q6y (K:Frag):∀ d:D,PySem.W.kitOne K (.type (tyN d)) (.type "list")=some (z9x d)
 | .non=>by with_unfolding_all rfl
 | .bl _=>by with_unfolding_all rfl
 | .int _=>by with_unfolding_all rfl
 | .str _=>by with_unfolding_all rfl
 | .tup _=>by with_unfolding_all rfl
 | .lst _=>by with_unfolding_all rfl
theorem ThA.ty {H:Hp} {K:Frag} {v:V} {d:D} (h:ThA H v d):TyOf K H v (.type (tyN d)):=by
 rcases h with h | ⟨a,vs,ds,rfl,rfl,e,_⟩
 ·cases h with
  | non=>exact .non
  | bl b=>exact .bl b
  | int i=>exact .int i
  | str x=>exact .str x
  | tup e _=>exact .tup e
 ·exact .lst e
noncomputable def x7x:Nat→D→Prop
 | _,.non=>True
 | _,.bl _=>True
 | _,.int _=>True
 | _,.str _=>True
 | 0,.tup _=>False
 | 0,.lst _=>False
 | n+1,.tup ds=>ds.length≤1000∧∀ x∈ds,x7x n x
 | n+1,.lst ds=>ds.length≤1000∧∀ x∈ds,x7x n x
theorem ThA.tup {H:Hp} {v:V} {ds:List D} (h:ThA H v (.tup ds)):∃ a vs,v=.ref a∧H a=some (.tup vs)∧IsTL H vs ds:=by
 rcases h with h | ⟨a,vs,ds',_,e,_⟩
 ·cases h with
  | tup e r=>exact⟨_,_,rfl,e,r⟩
 ·cases e
theorem ThA.lst {H:Hp} {v:V} {ds:List D} (h:ThA H v (.lst ds)):∃ a vs,v=.ref a∧H a=some (.lst vs)∧IsTL H vs ds:=by
 rcases h with h | ⟨a,vs,ds',e1,e,h1,h2⟩
 ·cases h
 ·cases e
  exact⟨a,vs,e1,h1,h2⟩
theorem IsTL.at {H:Hp}:∀ {vs:List V} {ds:List D} {i:Nat} {v:V},IsTL H vs ds→vs[i]? = some v→∃ d,ds[i]? = some d∧IsT H v d
 | _,_,0,v,.cons h _,e=>by cases e; exact⟨_,rfl,h⟩
 | _,_,i+1,v,.cons _ t,e=>IsTL.at (i:=i) t e
 | _,_,i,v,.nil,e=>by simp at e
noncomputable def z8b (n:Nat):Sp:=fun vs H Q _=>∃ (v u:V) (d:D),vs=[v,u]∧ThA H v d∧ThA H u d∧x7x n d∧∀ H',q1l H H'→Q (.bl true) H'
theorem j7r:FnScope ["_law_found", "_law_due"] ["_law_found", "_law_due"] (q0h q2v):=fSc
theorem q5h (n:Nat):((List.range n).map fun _=>true).all id=true:=by
 rw [List.all_map,List.all_eq_true]
 intro x _
 rfl
theorem z9v {H:Hp} {v u:V} {d:D} (h:ThA H v d) (h':ThA H u d) (t:z9e d=false) (l:z9x d=false):v=u∧j4a v v=true:=by
 rcases h with h | ⟨a,vs,ds,_,e,_⟩
 ·rcases h' with h' | ⟨a,vs,ds,_,e,_⟩
  ·cases h with
   | non=>cases h'; exact⟨rfl,rfl⟩
   | bl b=>cases h'; exact⟨rfl,rfl⟩
   | int i=>cases h'; exact⟨rfl,rfl⟩
   | str x=>cases h'; exact⟨rfl,rfl⟩
   | tup=>cases t
  ·rw [e] at l; cases l
 ·rw [e] at l; cases l
theorem q8e {f:Addr} {cdv:Value} {A:Around} {outer:List Env} {s:Shared} {H:Hp} {Q:VK} {E:XK} {v u:V} {d:D} (T:Txt mg) (hv:ThA H v d) (hu:ThA H u d) (t1:z9e d=false) (t2:z9x d=false) (q:∀ H',q1l H H'→Q (.bl true) H') :
  ∃ t,PSs (z0a CX0 P w K mg base ["_law_found", "_law_due"] "_law_alike" (q0h q2v) f cdv A outer s H E).nox (q4n q2v) t∧t { nx:=fun x H'=>Q V.non H',rt:=Q } (L2.x1o ["_law_found", "_law_due"] [v,u]) H:=by
 obtain⟨e,sc⟩:=z9v hv hu t1 t2
 refine⟨_,@q0j _ _ _ _ _ (q1g (PW.pt (q4d (q3c (q0l q1x (by rfl) T.isi q1z (q0z (pv 1) (q0z (q5r (by rfl) T.tuple q2f) q0e)))) (q2s (q3c (q0l q1x (by rfl) T.isi q1z (q0z (pv 1) (q0z (q5r (by rfl) T.list q3y) q0e))))))) q3e q0u)
  (@q0j _ _ _ _ _ (q1g (PW.pt (q4d (q0m q4y (q0l q1x (by rfl) T.isi q1z (q0z (pv 1) (q0z (q5r (by rfl) T.bool x0o) q0e))) (q0l q1x (by rfl) T.isi q1z (q0z (pv 0) (q0z (q5r (by rfl) T.bool x0o) q0e))) (q0o _)) (q2s (q0m q4y (q0l q1x (by rfl) T.isi q1z (q0z (pv 1) (q0z (q5r (by rfl) T.str x8r) q0e))) (q0l q1x (by rfl) T.isi q1z (q0z (pv 0) (q0z (q5r (by rfl) T.str x8r) q0e))) (q0o _))))) q3e q0u)
  (@q0p _ _ _ (q0q (q1v q2u (pv 0) (pv 1) (q0o _))))),?_⟩
 refine⟨_,rfl,_,_,_,_,rfl,hu.ty,q7o K d,_,rfl,?_⟩
 rw [t1]
 refine q2p ⟨_,rfl,_,_,_,_,rfl,hu.ty,q6y K d,_,rfl,?_⟩
 rw [t2]
 refine q2p ⟨_,rfl,_,_,_,_,rfl,hu.ty,x0d K d,_,rfl,_,_,_,_,rfl,hv.ty,x0d K d,rfl,_,rfl,?_⟩
 rw [decide_eq_true rfl]
 refine q2p ⟨_,rfl,_,_,_,_,rfl,hu.ty,z2j K d,_,rfl,_,_,_,_,rfl,hv.ty,z2j K d,rfl,_,rfl,?_⟩
 rw [decide_eq_true rfl]
 refine q2p ⟨_,rfl,_,rfl,?_,?_⟩
 ·rw [← e]; exact sc
 ·rw [decide_eq_true e]
  exact q H (q1l.refl _)
theorem j2d {f:Addr} {fd:FuncData} (F:Fun K "_law_alike" "_law_alike" q2v f fd) (T:Txt mg) (hm:mg "_law_alike" = some (.ref f)) (b:q3p K fd ["_law_found", "_law_due"] []) (n:Nat):FnOk P w K mg base CX0 (n+1) f fd ["_law_found", "_law_due"] (z8b n):=by
 induction n with
 | zero =>
  refine F.ok j7r (by rintro _ _ _ _⟨_,_,_,rfl,_⟩; rfl) (fun _ A _ s H vs Q E hr h=>?_)
  obtain⟨v,u,d,rfl,hv,hu,hw,q⟩:=h
  cases d with
  | tup ds=>exact hw.elim
  | lst ds=>exact hw.elim
  | _=>exact q8e T hv hu rfl rfl q
 | succ n G =>
  refine F.ok j7r (by rintro _ _ _ _⟨_,_,_,rfl,_⟩; rfl) (fun _ A _ s H vs Q E hr h=>?_)
  obtain⟨v,u,d,rfl,hv,hu,hw,q⟩:=h
  cases d with
  | non=>exact q8e T hv hu rfl rfl q
  | bl _=>exact q8e T hv hu rfl rfl q
  | int _=>exact q8e T hv hu rfl rfl q
  | str _=>exact q8e T hv hu rfl rfl q
  | tup ds =>
   obtain⟨a1,xs,rfl,h1,l1⟩:=ThA.tup hv
   obtain⟨a2,ys,rfl,h2,l2⟩:=ThA.tup hu
   have hw0:ds.length≤1000∧∀ x∈ds,x7x n x:=hw
   have e1:=l1.length
   have e2:=l2.length
   refine⟨_,@q0j _ _ _ _ _ (q1g (PW.pt (q4d (q3c (q0l q1x (by rfl) T.isi q1z (q0z (pv 1) (q0z (q5r (by rfl) T.tuple q2f) q0e)))) (q2s (q3c (q0l q1x (by rfl) T.isi q1z (q0z (pv 1) (q0z (q5r (by rfl) T.list q3y) q0e))))))) (@q0j _ _ _ _ _ (q1g (PW.pt (q4d (q0m q4y (q0l q1x (by rfl) T.isi q1z (q0z (pv 1) (q0z (q5r (by rfl) T.tuple q2f) q0e))) (q0l q1x (by rfl) T.isi q1z (q0z (pv 0) (q0z (q5r (by rfl) T.tuple q2f) q0e))) (q0o _)) (q2s (q0m q4y (q0l q1x (by rfl) T.isi q1z (q0z (pv 1) (q0z (q5r (by rfl) T.list q3y) q0e))) (q0l q1x (by rfl) T.isi q1z (q0z (pv 0) (q0z (q5r (by rfl) T.list q3y) q0e))) (q0o _))))) q3e q0u)
  (@q0p _ _ _ (q0q (q9m (q1v q2u (q0l q0t (by rfl) T.len PySem.boot_len (q0z (pv 0) q0e)) (q0l q0t (by rfl) T.len PySem.boot_len (q0z (pv 1) q0e)) (q0o _)) (q8q (q0l (x8s (by rfl)) (by rfl) T.all x4o (q1k (q6r (NB:=["_law_one", "_law_other"]) (n:=2) (fr:=[]) (z1x (outer:=q0h q2v) (by rfl) (by decide +kernel) (by rfl)) (by rfl) (z0q (t1:=true) (t2:=true) (by rfl) T.zip (q0z (pv 0) (q0z (pv 1) q0e)))
   (fun _ _ _ _ _=>z1b (K:=K) (n:=2) (by rfl) (by rfl) (q7a (q1u (i:=0) (show (["_law_one", "_law_other"]:List Str).Nodup by decide +kernel) (by rfl) (by exact Or.inl rfl)) (q7a (q1u (i:=1) (show (["_law_one", "_law_other"]:List Str).Nodup by decide +kernel) (by rfl) (by exact Or.inl rfl)) x6o))) (fun _ _ _ _ _=>q5l) (fun _ _ _ _ _=>x1i G hr (by rfl) hm F.kp b .nil q7n (q0z (pv 0) (q0z (pv 1) q0e)))) q0e))))))) q0u) q3e,?_⟩
   refine⟨_,rfl,_,_,_,_,rfl,hu.ty,q7o K _,_,rfl,?_⟩
   refine q2z (q2z ?_)
   refine⟨_,rfl,_,_,_,_,rfl,hu.ty,q7o K _,_,rfl,_,_,_,_,rfl,hv.ty,q7o K _,rfl,_,rfl,?_⟩
   rw [decide_eq_true rfl]
   refine q2p ⟨_,rfl,_,_,_,_,rfl,hu.ty,q6y K _,_,rfl,_,_,_,_,rfl,hv.ty,q6y K _,rfl,_,rfl,?_⟩
   rw [decide_eq_true rfl]
   refine q2p ⟨_,rfl,a1,xs,rfl,.inr (SqT.of h1),_,rfl,a2,ys,rfl,.inr (SqT.of h2),rfl,_,rfl,?_⟩
   rw [x2u,show ((xs.length:Int)==(ys.length:Int))=true by rw [e1,e2]; simp]
   refine q2z ⟨_,rfl,_,rfl,a1,a2,xs,ys,rfl,SqT.of h1,SqT.of h2,q6e (J:=Itz K true true a1 a2) (k:=2) (n:=xs.length) (fun _=>true) (fun i=>.bl true) (by rw [sizeLine_eq]; omega) ?_ ?_ ?_ ?_⟩
   ·intro i H2 hi s1
    have hi2:i < ys.length:=by omega
    exact⟨xs,ys,xs[i],ys[i],SqT.of (s1 _ _ h1),SqT.of (s1 _ _ h2),List.getElem?_eq_getElem hi,List.getElem?_eq_getElem hi2⟩
   ·intro H2 s1
    exact⟨xs,ys,SqT.of (s1 _ _ h1),SqT.of (s1 _ _ h2),.inl (Nat.le_refl _)⟩
   ·intro i H2 t v H3 R hi s1 ht y hR
    obtain⟨q',x,y,rfl,hq,rfl,g1,g2⟩:=y
    have g1':=g1 _ (SqT.of (s1 _ _ h1))
    have g2':=g2 _ (SqT.of (s1 _ _ h2))
    obtain⟨d1,ed1,i1⟩:=l1.at g1'
    obtain⟨d2,ed2,i2⟩:=l2.at g2'
    rw [ed1] at ed2
    cases ed2
    have ht':∃ t0 t1,t=[t0,t1]:=by
     match t,ht with
     | [t0,t1],_=>exact⟨t0,t1,rfl⟩
    obtain⟨t0,t1,rfl⟩:=ht'
    have sp:=q0d (o:=HO.tup [x,y]) hq
    have sA:=q1j (s1.trans sp)
    refine⟨q',_,rfl,SqT.of q0b,rfl,_,_,rfl,_,_,rfl,rfl,⟨_,rfl,_,rfl,x,y,d1,rfl,.inl (i1.sameT sA),.inl (i2.sameT sA),hw0.2 _ (List.mem_of_getElem? ed1),fun H' s2=>?_⟩⟩
    exact hR [some x,some y] H' rfl (sp.trans s2)
   ·intro D1 H' s1 hD hd
    refine⟨D1,(List.range xs.length).map fun _=>true,rfl,SqL.of ?_,?_⟩
    ·rw [hd,List.filter_eq_self.mpr (fun _ _=>rfl),List.map_map]
     rfl
    ·rw [q5h]
     exact q H' s1
  | lst ds =>
   obtain⟨a1,xs,rfl,h1,l1⟩:=ThA.lst hv
   obtain⟨a2,ys,rfl,h2,l2⟩:=ThA.lst hu
   have hw0:ds.length≤1000∧∀ x∈ds,x7x n x:=hw
   have e1:=l1.length
   have e2:=l2.length
   refine⟨_,@q0j _ _ _ _ _ (q1g (PW.pt (q4d (q3c (q0l q1x (by rfl) T.isi q1z (q0z (pv 1) (q0z (q5r (by rfl) T.tuple q2f) q0e)))) (q2s (q3c (q0l q1x (by rfl) T.isi q1z (q0z (pv 1) (q0z (q5r (by rfl) T.list q3y) q0e))))))) (@q0j _ _ _ _ _ (q1g (PW.pt (q4d (q0m q4y (q0l q1x (by rfl) T.isi q1z (q0z (pv 1) (q0z (q5r (by rfl) T.tuple q2f) q0e))) (q0l q1x (by rfl) T.isi q1z (q0z (pv 0) (q0z (q5r (by rfl) T.tuple q2f) q0e))) (q0o _)) (q2s (q0m q4y (q0l q1x (by rfl) T.isi q1z (q0z (pv 1) (q0z (q5r (by rfl) T.list q3y) q0e))) (q0l q1x (by rfl) T.isi q1z (q0z (pv 0) (q0z (q5r (by rfl) T.list q3y) q0e))) (q0o _))))) q3e q0u)
  (@q0p _ _ _ (q0q (q9m (q1v q2u (q0l q0t (by rfl) T.len PySem.boot_len (q0z (pv 0) q0e)) (q0l q0t (by rfl) T.len PySem.boot_len (q0z (pv 1) q0e)) (q0o _)) (q8q (q0l (x8s (by rfl)) (by rfl) T.all x4o (q1k (q6r (NB:=["_law_one", "_law_other"]) (n:=2) (fr:=[]) (z1x (outer:=q0h q2v) (by rfl) (by decide +kernel) (by rfl)) (by rfl) (z0q (t1:=false) (t2:=false) (by rfl) T.zip (q0z (pv 0) (q0z (pv 1) q0e)))
   (fun _ _ _ _ _=>z1b (K:=K) (n:=2) (by rfl) (by rfl) (q7a (q1u (i:=0) (show (["_law_one", "_law_other"]:List Str).Nodup by decide +kernel) (by rfl) (by exact Or.inl rfl)) (q7a (q1u (i:=1) (show (["_law_one", "_law_other"]:List Str).Nodup by decide +kernel) (by rfl) (by exact Or.inl rfl)) x6o))) (fun _ _ _ _ _=>q5l) (fun _ _ _ _ _=>x1i G hr (by rfl) hm F.kp b .nil q7n (q0z (pv 0) (q0z (pv 1) q0e)))) q0e))))))) q0u) q3e,?_⟩
   refine⟨_,rfl,_,_,_,_,rfl,hu.ty,q7o K _,_,rfl,?_⟩
   refine q2p ⟨_,rfl,_,_,_,_,rfl,hu.ty,q6y K _,_,rfl,q2z ?_⟩
   refine⟨_,rfl,_,_,_,_,rfl,hu.ty,q7o K _,_,rfl,_,_,_,_,rfl,hv.ty,q7o K _,rfl,_,rfl,?_⟩
   rw [decide_eq_true rfl]
   refine q2p ⟨_,rfl,_,_,_,_,rfl,hu.ty,q6y K _,_,rfl,_,_,_,_,rfl,hv.ty,q6y K _,rfl,_,rfl,?_⟩
   rw [decide_eq_true rfl]
   refine q2p ⟨_,rfl,a1,xs,rfl,.inl (SqL.of h1),_,rfl,a2,ys,rfl,.inl (SqL.of h2),rfl,_,rfl,?_⟩
   rw [x2u,show ((xs.length:Int)==(ys.length:Int))=true by rw [e1,e2]; simp]
   refine q2z ⟨_,rfl,_,rfl,a1,a2,xs,ys,rfl,SqL.of h1,SqL.of h2,q6e (J:=Itz K false false a1 a2) (k:=2) (n:=xs.length) (fun _=>true) (fun i=>.bl true) (by rw [sizeLine_eq]; omega) ?_ ?_ ?_ ?_⟩
   ·intro i H2 hi s1
    have hi2:i < ys.length:=by omega
    exact⟨xs,ys,xs[i],ys[i],SqL.of (s1 _ _ h1),SqL.of (s1 _ _ h2),List.getElem?_eq_getElem hi,List.getElem?_eq_getElem hi2⟩
   ·intro H2 s1
    exact⟨xs,ys,SqL.of (s1 _ _ h1),SqL.of (s1 _ _ h2),.inl (Nat.le_refl _)⟩
   ·intro i H2 t v H3 R hi s1 ht y hR
    obtain⟨q',x,y,rfl,hq,rfl,g1,g2⟩:=y
    have g1':=g1 _ (SqL.of (s1 _ _ h1))
    have g2':=g2 _ (SqL.of (s1 _ _ h2))
    obtain⟨d1,ed1,i1⟩:=l1.at g1'
    obtain⟨d2,ed2,i2⟩:=l2.at g2'
    rw [ed1] at ed2
    cases ed2
    have ht':∃ t0 t1,t=[t0,t1]:=by
     match t,ht with
     | [t0,t1],_=>exact⟨t0,t1,rfl⟩
    obtain⟨t0,t1,rfl⟩:=ht'
    have sp:=q0d (o:=HO.tup [x,y]) hq
    have sA:=q1j (s1.trans sp)
    refine⟨q',_,rfl,SqT.of q0b,rfl,_,_,rfl,_,_,rfl,rfl,⟨_,rfl,_,rfl,x,y,d1,rfl,.inl (i1.sameT sA),.inl (i2.sameT sA),hw0.2 _ (List.mem_of_getElem? ed1),fun H' s2=>?_⟩⟩
    exact hR [some x,some y] H' rfl (sp.trans s2)
   ·intro D1 H' s1 hD hd
    refine⟨D1,(List.range xs.length).map fun _=>true,rfl,SqL.of ?_,?_⟩
    ·rw [hd,List.filter_eq_self.mpr (fun _ _=>rfl),List.map_map]
     rfl
    ·rw [q5h]
     exact q H' s1
mutual
theorem IsT.alike {K:Frag} {H:Hp}:∀ (n:Nat) {d:D} {v u:V},x7x n d→IsT H v d→IsT H u d→Alike K H n v u
 | n,_,_,_,_,.non,h=>by cases h; exact .flat rfl
 | n,_,_,_,_,.bl b,h=>by cases h; exact .flat rfl
 | n,_,_,_,_,.int i,h=>by cases h; exact .flat rfl
 | n,_,_,_,_,.str x,h=>by cases h; exact .flat rfl
 | 0,_,_,_,w,.tup _ _,_=>w.elim
 | n+1,_,_,_,w,.tup e r,h=>by
  cases h with
  | tup e' r'=>exact .tup (SqT.of e) (SqT.of e') (r.length.trans r'.length.symm) (IsTL.alike n w.2 r r')
theorem IsTL.alike {K:Frag} {H:Hp}:∀ (n:Nat) {ds:List D} {vs us:List V},(∀ d∈ds,x7x n d)→IsTL H vs ds→IsTL H us ds→∀ (i:Nat) (x y:V),vs[i]? = some x→us[i]? = some y→Alike K H n x y
 | n,_,_,_,_,.nil,_,i,x,y,e,_=>by simp at e
 | n,_,_,_,w,.cons h t,h',i,x,y,e1,e2=>by
  cases h' with
  | cons g r =>
   cases i with
   | zero=>cases e1; cases e2; exact IsT.alike n (w _ List.mem_cons_self) h g
   | succ i=>exact IsTL.alike n (fun d hd=>w d (List.mem_cons_of_mem _ hd)) t r i x y e1 e2
end
noncomputable def x9x:Sp:=fun vs H Q _=>∃ (lo l7 f u:Addr) (s:Os) (ps xs ys:List V) (ds:List D),vs=[.ref lo,.ref f,.ref u]∧OsO H lo l7 s∧H l7=some (.lst ps)∧ps.length≤1000∧H f=some (.lst xs)∧H u=some (.lst ys)∧IsTL H xs ds∧IsTL H ys ds∧(∀ d∈ds,x7x 5 d)∧ds.length≤1000∧∀ (pl:Addr) (H':Hp),H' l7=some (.lst (ps++[.ref pl]))→H' pl=some (.lst [.ref f,.ref u])→H pl=none→Off l7 H H'→Q (.bl true) H'
theorem j6t:FnScope ["_law_own", "_law_found", "_law_due"] ["_law_own", "_law_found", "_law_due"] (q0h q7s):=fSc
theorem j2f {f:Addr} {fd:FuncData} (F:Fun K "_law_kept" "_law_kept" q7s f fd) (CA:Cal P w K mg base "_law_alike" 7 ["_law_found", "_law_due"] (z8b 6)):FnOk P w K mg base CX0 8 f fd ["_law_own", "_law_found", "_law_due"] x9x:=by
 refine F.ok j6t (by rintro _ _ _ _⟨_,_,_,_,_,_,_,_,_,rfl,_⟩; rfl) (fun _ A _ s H vs Q E hr h=>?_)
 obtain⟨lo,l7,f1,u1,s0,ps,xs,ys,ds,rfl,hO,h7,hps,hf,hu,if_,iu,hw,hd,q⟩:=h
 refine⟨_,@q0j _ _ _ _ _ (q1g (q7e (q3c (q0n CA hr (q0z (pv 1) (q0z (pv 2) q0e))))) (@q0p _ _ _ (q0q q4v)) q0u)
  (@q0j _ _ _ _ _ (q2g (z6j PySem.F.plainAttrs_list PySem.F.slot_list_append PySem.F.type_list_append q8h (q0f q0g (pv 0) q0c q0w) (q1k (QE.h (q3g (q4c (pv 1) (q4c (pv 2) q0v)))) q0e)))
  (@q0p _ _ _ (q0q q4v))),?_⟩
 refine⟨_,rfl,_,rfl,.ref f1,.ref u1,.lst ds,rfl,.inr ⟨f1,xs,ds,rfl,rfl,hf,if_⟩,.inr ⟨u1,ys,ds,rfl,rfl,hu,iu⟩,⟨hd,hw⟩,fun H1 s1=>⟨_,rfl,q2p ?_⟩⟩
 obtain⟨l1,us,O⟩:=hO.same s1
 refine⟨_,rfl,lo,_,_,.ref l7,rfl,rfl,SqL.of O.at_,q0a (j:=7) rfl,.inl ⟨rfl,_,SqL.of (s1 _ _ h7)⟩,_,rfl,_,rfl,q1n (by show 2≤1000; decide),fun pl hpl=>?_⟩
 have s2:=q0d (o:=HO.lst [V.ref f1,V.ref u1]) hpl
 have s12:=s1.trans s2
 have npl:pl≠l7:=fun z=>by rw [z,s1 _ _ h7] at hpl; cases hpl
 refine⟨l7,ps,_,rfl,rfl,s12 _ _ h7,by rw [sizeLine_eq]; omega,?_⟩
 refine q pl _ q0b (by rw [q1c npl]; exact q0b) (none_of s1 hpl) ((q1f s12).trans q0k)
end
theorem x5k:∀ {ws:List Str},(∀ x∈ws,x.length≤1)→(Str.join "" ws).length≤ws.length
 | [],_=>Nat.le_refl 0
 | [x],h=>h x (by simp)
 | x::y::r,h=>by
  show (x ++ "" ++ Str.join "" (y::r)).length≤_
  rw [x7t,x7t]
  have h1:=h x (by simp)
  have h2:=x5k (ws:=y::r) fun z hz=>h z (List.mem_cons_of_mem _ hz)
  have h3:("" : Str).length=0:=rfl
  rw [List.length_cons] at h2 ⊢
  rw [List.length_cons]
  omega
theorem z0w (m k:Int):(q3u m k).length≤16:=by
 unfold q3u
 split
 ·rw [List.getD_eq_getElem?_getD]
  cases h:six[((m / 16+k) % 6).toNat]? with
  | none=>show ("open" : Str).length≤16; decide +kernel
  | some x =>
   have:=List.mem_of_getElem? h
   have all:∀ x∈six,x.length≤16:=by decide +kernel
   exact all x this
 ·unfold z8j
  have z:=q2j m (m:=8) (by decide)
  refine Nat.le_trans (x5k fun x hx=>?_) (by rw [List.length_set,List.length_map,List.length_range]; omega)
  rcases List.mem_or_eq_of_mem_set hx with hx | rfl
  ·obtain⟨i,_,rfl⟩:=List.mem_map.mp hx
   exact Nat.le_refl 1
  ·exact Nat.le_refl 1
theorem z5o (ns:List Int):∀ x∈q8d ns,x.length≤16:=fun x hx=>by
 simp only [q8d,List.mem_cons,List.not_mem_nil,or_false] at hx
 rcases hx with rfl | rfl | rfl <;> exact z0w _ _
noncomputable def x7r (W:List Str):Prop:=W.length≤30∧∀ x∈W,x.length≤16
theorem q4q (ns:List Int):x7r (q8d ns):=⟨by show 3≤30; decide,z5o ns⟩
theorem z2a.whb {W:List Str} {e:En} (h:z2a W e) (hW:x7r W):WhB e.2:=by
 obtain⟨h1,h2⟩:=h
 cases hx:e.2 with
 | opn=>trivial
 | seats ms =>
  rw [hx] at h1
  exact Nat.le_trans h1 (by decide)
 | wish c n d =>
  rw [hx] at h1
  exact⟨hW.2 _ h1.1,hW.2 _ h1.2.2⟩
theorem z2r (t:Int) (A B:List En):q1h (q1h t A) B=q1h t (A++B):=by unfold q1h; rw [List.foldl_append]
theorem z2i (t:Int) (es:List En):z0b t (es.map (·.1))=q1h t es:=by
 rcases List.eq_nil_or_concat es with rfl | ⟨r,x,rfl⟩
 ·rfl
 ·rw [List.concat_eq_append,x5j,List.map_append]
  unfold z0b
  rw [List.getLastD_eq_getLast?]
  simp
theorem x9d (s:List Int) (A B:List En):q1r (q1r s A) B=q1r s (A++B):=by unfold q1r; rw [List.foldl_append]
theorem z5x (A B:List En):q3l (x1r A) (B.map (·.2))=x1r (A++B):=by unfold x1r q3l; rw [List.map_append,List.foldl_append]
theorem x3j {W:List Str}:∀ {es:List En} {s:List Int},s∈s5::fiv→(∀ e∈es,z2a W e)→q1r s es∈s5::fiv
 | [],_,h,_=>h
 | e::es,s,h,hw=>by
  refine x3j (es:=es) (s:=x9g s e.2) ?_ fun x hx=>hw x (List.mem_cons_of_mem _ hx)
  have:=(hw e List.mem_cons_self).2
  cases hx:e.2 with
  | seats ms=>rw [hx] at this; exact List.mem_cons_of_mem _ this
  | opn=>exact h
  | wish c n d=>exact h
theorem q6z {L:List En} {p:Nat} (h1:1≤p) (hp:p≤L.length):q1h 0 (L.take p)=(L[p - 1]).1:=by
 have:=x2k 0 L (i:=p - 1) (by omega)
 rwa [Nat.sub_add_cancel h1] at this
theorem x0b {L:List En} {b p:Nat} (hb:b≤p) (hp:p≤L.length):q2y (b:Int) (q1h 0 (L.take b)) ((L.drop b).map (·.1)) (p:Int)=q1h 0 (L.take p):=by
 unfold q2y
 by_cases e:p=b
 ·subst e; rw [if_pos rfl]
 ·rw [if_neg (by omega),show ((p:Int) - (b:Int) - 1).toNat=p - b - 1 by omega,q6z (by omega) hp,List.getD_eq_getElem?_getD,List.getElem?_map,List.getElem?_drop,show b+(p - b - 1)=p - 1 by omega,List.getElem?_eq_getElem (by omega)]
  rfl
noncomputable def q1p (s:Os) (b a:Nat) (nx:Int):Kst:=⟨4,s.t,s.vc,s.hd,s.way,(a:Int),if s.way = "standing" then [4] else [],pk0 (s.L.take b) b,(b:Int),q1h 0 (s.L.take b),s.L.drop b,x1r (s.L.take a),nx⟩
structure AI (ws:List Hd4) (s:Os) (b a:Nat):Prop where
 hb:s.b=(b:Int)
 ha:s.a=(a:Int)
 own:Own4 ws s.t s.L b a
 t0:0≤s.t
 way:s.way = "plain" ∨ s.way = "standing"
theorem AI.en {W:List Str} {n:Nat} {ws:List Hd4} {s:Os} {b a:Nat} (h:AI ws s b a) (ok:WsOk W n ws):(∀ e∈s.L,z2a W e)∧s.L.length≤n:=by
 rcases h.own.pre with e | ⟨g,hg,hp⟩
 ·rw [e]; exact⟨fun e he=>absurd he List.not_mem_nil,Nat.zero_le _⟩
 ·exact⟨fun e he=>ok.en g hg e (hp.subset he),Nat.le_trans hp.length_le (ok.few g hg)⟩
theorem x0g (s:Os) (b a:Nat) (nx:Int):q3z (q1p s b a nx)=q1r s5 s.L:=by
 show q1r (q1r s5 (s.L.take b)) (s.L.drop b)=_
 rw [x9d,List.take_append_drop]
theorem x2b {W:List Str} {s:Os} {b a:Nat} {nx:Int} (hen:∀ e∈s.L,z2a W e) (hl:s.L.length≤200) (h0:0≤s.t) (hW:x7r W):KpOk (q1p s b a nx):=by
 have hs:q3z (q1p s b a nx)∈s5::fiv:=by rw [x0g]; exact x3j (by simp) hen
 generalize hx:q3z (q1p s b a nx)=x at hs
 have f1:∀ x∈s5::fiv,x.Pairwise (· < ·):=by decide
 have f2:∀ x∈s5::fiv,∀ m∈x,0≤m∧m≤8:=by decide
 have f3:∀ x∈s5::fiv,x≠[]:=by decide
 have f4:∀ x∈s5::fiv,x.length≤9:=by decide
 refine⟨by rw [hx]; exact f1 x hs,by rw [hx]; exact f2 x hs,by rw [hx]; exact f3 x hs,⟨by show (0:Int)≤4; decide,by show (4:Int)≤8; decide⟩,h0,?_,fun e he=>(hen e (List.mem_of_mem_drop he)).whb hW,?_,by rw [hx]; exact f4 x hs⟩
 ·show (s.L.drop b).length≤200
  rw [List.length_drop]; omega
 ·show (if s.way = "standing" then [(4:Int)] else []).length≤20
  split <;> decide
theorem j3k {W:List Str} {s:Os} {b a:Nat} {nx:Int} (hen:∀ e∈s.L,z2a W e) (hW:x7r W):KpW W W (q1p s b a nx) :=
 ⟨fun e he=>(hen e (List.mem_of_mem_drop he)).1,x3h fun e he=>(hen e (List.mem_of_mem_take he)).1,x3h fun e he=>(hen e (List.mem_of_mem_take he)).1,by have:=hW.1; omega,by have:=hW.1; omega⟩
theorem z4d {W:List Str} {s:Os} {b a:Nat} {nx:Int} (hen:∀ e∈s.L,z2a W e):z9j (stK (q1p s b a nx))=false:=by
 have hs:q3z (q1p s b a nx)∈s5::fiv:=by rw [x0g]; exact x3j (by simp) hen
 have f:∀ x∈s5::fiv,decide (x.length < 2*x2h x [4])=false:=by decide
 exact f _ hs
theorem x0c (s:Os) (b a:Nat) (nx t:Int):q3q (q1p s b a nx) t=q1p (q1b s t) b a nx:=by
 unfold q3q q1b
 by_cases h:t > s.t
 ·rw [if_pos h,if_pos (show t > (q1p s b a nx).tm from h)]
  rfl
 ·rw [if_neg h,if_neg (show ¬ t > (q1p s b a nx).tm from h)]
theorem q3t {s:Os} {b a:Nat} {nx one t:Int} (h:s.t≤t):q1i (q1p s b a nx) one t=q1p (q0y s one t) b a nx:=by
 unfold q1i q0y
 rw [if_pos (x0e.mpr h),x0c]
 rfl
theorem q7l {s:Os} {b a:Nat} {nx:Int} (hb:b≤s.L.length):(q1p s b a nx).b+((q1p s b a nx).es.length:Int)=(s.L.length:Int):=by
 show (b:Int)+((s.L.drop b).length:Int)=_
 rw [List.length_drop]; omega
theorem x8v (s:Os) (b a:Nat) (nx:Int):z0b (q1p s b a nx).l (tsK (q1p s b a nx))=q1h 0 s.L:=by
 show z0b (q1h 0 (s.L.take b)) ((s.L.drop b).map (·.1))=_
 rw [z2i,z2r,List.take_append_drop]
noncomputable def z7u (s:Os):Os:={ s with a:=s.b,hd:=none,way := "plain" }
theorem z5z (s:Os) (b a:Nat) (nx:Int):j2y (q1p s b a nx)=q1p (z7u s) b b ((b:Int)+((s.L.drop b).length:Int)+1):=rfl
noncomputable def q8g (s:Os):Os:={ q1b s (s.t+1) with way := "standing",vc:=some 4 }
theorem q8n (s:Os):q8g s={ s with t:=s.t+1,hd:=none,way := "standing",vc:=some 4 }:=by
 unfold q8g q1b
 rw [if_pos (by omega)]
theorem x5q (s:Os) (b a:Nat) (nx:Int):stK (q1p s b a nx)=q1p (q8g s) b a nx:=by
 rw [q8n]
 rfl
theorem z4i (la pl e n:Int):x1m [la,pl] [e,n]=(decide (e < la) || (decide (la=e) && decide (n≤pl))):=by
 show (if la=e then (if pl=n then true else decide (n≤pl)) else decide (e≤la))=_
 by_cases h:la=e
 ·subst h
  rw [if_pos rfl,decide_eq_false (Int.lt_irrefl _),decide_eq_true rfl,Bool.false_or,Bool.true_and]
  by_cases h2:pl=n
  ·subst h2; rw [if_pos rfl,decide_eq_true (Int.le_refl _)]
  ·rw [if_neg h2]
 ·rw [if_neg h,decide_eq_false h,Bool.false_and,Bool.or_false]
  exact decide_eq_decide.mpr (by omega)
theorem x8w {s:Os} {b a:Nat} {nx one t pl la:Int} (hb:b≤s.L.length):x6h (q1p s b a nx) one t pl la=x5n s one t pl la:=by
 unfold x6h x5n g1O x7s
 rw [x8v,z4i]
 have:q4e (q1p s b a nx).b (tsK (q1p s b a nx))=(s.L.length:Int):=by
  unfold q4e tsK
  rw [List.length_map]
  exact q7l hb
 rw [this]
 rfl
theorem z1p (s:Os) (t:Int):(q1b s t).L=s.L∧(q1b s t).b=s.b∧(q1b s t).a=s.a:=by
 unfold q1b
 split <;> exact⟨rfl,rfl,rfl⟩
theorem z7k {s:Os} {b a:Nat} {nx one t pl la:Int} (hb:b≤s.L.length):j3y (q1p s b a nx) one t pl la=q1p (j0o s one t pl la) b a nx:=by
 unfold j3y j0o
 rw [x0c,x8w (by rw [(z1p s t).1]; exact hb)]
 cases x5n (q1b s t) one t pl la <;> rfl
theorem x1u {s:Os} {b a pl:Nat} {nx la:Int} (hb:b≤s.L.length):q4z (q1p s b a nx).b (q1p s b a nx).l (tsK (q1p s b a nx)) (pl:Int) la = !x2d s b pl la:=by
 have e:q4e (q1p s b a nx).b (tsK (q1p s b a nx))=(s.L.length:Int):=by
  unfold q4e tsK
  rw [List.length_map]
  exact q7l hb
 unfold q4z x2d
 rw [e]
 show (decide ((pl:Int) < (b:Int)) || (decide ((pl:Int)≤(s.L.length:Int)) && decide (q2y (b:Int) (q1h 0 (s.L.take b)) ((s.L.drop b).map (·.1)) (pl:Int)=la)))=_
 by_cases h1:b≤pl
 ·rw [decide_eq_false (show ¬ (pl:Int) < (b:Int) by omega),decide_eq_true h1,Bool.false_or,Bool.true_and]
  by_cases h2:pl≤s.L.length
  ·rw [decide_eq_true (show (pl:Int)≤(s.L.length:Int) by omega),decide_eq_false (show ¬ s.L.length < pl by omega),Bool.true_and,Bool.false_or,Bool.not_not,x0b h1 h2]
  ·rw [decide_eq_false (show ¬ (pl:Int)≤(s.L.length:Int) by omega),decide_eq_true (show s.L.length < pl by omega)]
   rfl
 ·rw [decide_eq_true (show (pl:Int) < (b:Int) by omega),decide_eq_false h1]
  rfl
theorem z6i {s:Os} {b a pl:Nat} {nx one t:Int} {gs:List En} (hb:b≤s.L.length) (hba:b≤a) (ht:s.t≤t) (hk:(q2e b s.L pl gs).take a=s.L.take a):x1e (q1p s b a nx) one t (pl:Int) gs=q1p { q0y s one t with L:=q2e b s.L pl gs } b a nx:=by
 have hkb:(q2e b s.L pl gs).take b=s.L.take b:=q5b hk hba
 unfold x1e
 rw [q3t ht]
 have e1:x5o (q1p s b a nx).b (pl:Int) (q1p s b a nx).es gs=(q2e b s.L pl gs).drop b:=(z5f hb).symm
 rw [e1]
 unfold q1p
 show Kst.mk 4 _ _ _ _ (a:Int) _ (pk0 ((q0y s one t).L.take b) b) (b:Int) (q1h 0 ((q0y s one t).L.take b)) _ (x1r ((q0y s one t).L.take a)) nx=Kst.mk 4 _ _ _ _ (a:Int) _ (pk0 ((q2e b s.L pl gs).take b) b) (b:Int) (q1h 0 ((q2e b s.L pl gs).take b)) _ (x1r ((q2e b s.L pl gs).take a)) nx
 rw [q6x.1,hk,hkb]
theorem z1o {s:Os} {b a g:Nat} {nx:Int} (hba:b≤a) (hg:g≤s.L.length):q5f (q1p s b a nx) (g:Int)=q1p s b (max a g) nx:=by
 unfold q5f
 by_cases h:g > a
 ·rw [if_pos (show (g:Int) > (q1p s b a nx).ag by show (g:Int) > (a:Int); omega),Nat.max_eq_right (by omega)]
  show Kst.mk 4 _ _ _ _ (g:Int) _ _ _ _ _ (q3l (x1r (s.L.take a)) ((((s.L.drop b).drop ((a:Int) - (b:Int)).toNat).take ((g:Int) - (a:Int)).toNat).map (·.2))) nx=Kst.mk 4 _ _ _ _ (g:Int) _ _ _ _ _ (x1r (s.L.take g)) nx
  have e:s.L.take a++((s.L.drop b).drop ((a:Int) - (b:Int)).toNat).take ((g:Int) - (a:Int)).toNat=s.L.take g:=by
   rw [List.drop_drop,show b+((a:Int) - (b:Int)).toNat=a by omega,show ((g:Int) - (a:Int)).toNat=g - a by omega,← List.take_add,show a+(g - a)=g by omega]
  rw [z5x,e]
  rfl
 ·rw [if_neg (show ¬ (g:Int) > (q1p s b a nx).ag by show ¬ (g:Int) > (a:Int); omega),Nat.max_eq_left (by omega)]
theorem x0z {L M:List En} {pl:Nat} {tm:Int} (h1:1≤pl):(∃ x,L[pl - 1]? = some x∧x.1=tm∧q6d L M pl tm=L)∨(q6d L M pl tm=M.take pl∧∀ x,L[pl - 1]? = some x→x.1≠tm):=by
 unfold q6d
 cases h:L[pl - 1]? with
 | none=>exact .inr ⟨rfl,fun x e=>by cases e⟩
 | some x =>
  by_cases e:x.1=tm
  ·exact .inl ⟨x,rfl,e,if_pos e⟩
  ·exact .inr ⟨if_neg e,fun y hy=>by cases hy; exact e⟩
theorem z4v {s:Os} {b a pl:Nat} {nx one t:Int} {M:List En} (hb:b≤s.L.length) (hba:b≤a) (hap:a < pl) (hM:pl≤M.length) (ht:s.t≤t) (hk:(q6d s.L M pl (q1h 0 (M.take pl))).take pl=M.take pl):z0z (q1i (q1p s b a nx) one t) (pk0 (M.take pl) pl)=q1p { q0y s one t with L:=q6d s.L M pl (q1h 0 (M.take pl)),b:=pl,a:=pl } pl pl nx:=by
 rw [q3t ht]
 unfold z0z
 have eo:x6r (q1p (q0y s one t) b a nx).b (q1p (q0y s one t) b a nx).l (q1p (q0y s one t) b a nx).es (pk0 (M.take pl) pl).pl (pk0 (M.take pl) pl).tm=(q6d s.L M pl (q1h 0 (M.take pl))).drop pl:=by
  show x6r (b:Int) (q1h 0 ((q0y s one t).L.take b)) ((q0y s one t).L.drop b) (pl:Int) (q1h 0 (M.take pl))=_
  rw [q6x.1]
  unfold x6r
  have ee:q4e (b:Int) ((s.L.drop b).map (·.1))=(s.L.length:Int):=by
   unfold q4e
   rw [List.length_map,List.length_drop]; omega
  rw [ee]
  rcases x0z (L:=s.L) (M:=M) (pl:=pl) (tm:=q1h 0 (M.take pl)) (by omega) with ⟨x,hx,hxt,e⟩ | ⟨e,hno⟩
  ·have hl:=(List.getElem?_eq_some_iff.mp hx).1
   have hx2:s.L[pl - 1]=x:=(List.getElem?_eq_some_iff.mp hx).2
   rw [e,if_pos ⟨by omega,by rw [x0b (by omega) (by omega),q6z (by omega) (by omega),hx2,hxt]⟩,List.drop_drop,show b+((pl:Int) - (b:Int)).toNat=pl by omega]
  ·have en:(M.take pl).drop pl=[]:=List.drop_eq_nil_of_le (by rw [List.length_take]; omega)
   rw [e,en]
   refine if_neg fun z=>?_
   have hl:pl≤s.L.length:=by omega
   have z2:=z.2
   rw [x0b (by omega) hl,q6z (by omega) hl] at z2
   exact hno _ (List.getElem?_eq_getElem (by omega)) z2
 rw [eo]
 show Kst.mk 4 _ _ _ _ (pl:Int) _ (pk0 (M.take pl) pl) (pl:Int) (q1h 0 (M.take pl)) _ (x1r (M.take pl)) nx=Kst.mk 4 _ _ _ _ (pl:Int) _ (pk0 ((q6d s.L M pl (q1h 0 (M.take pl))).take pl) pl) (pl:Int) (q1h 0 ((q6d s.L M pl (q1h 0 (M.take pl))).take pl)) _ (x1r ((q6d s.L M pl (q1h 0 (M.take pl))).take pl)) nx
 rw [hk]
 rfl
theorem z4e {s:Os} {b a n:Nat} {nx:Int} (hn:b+n≤s.L.length):j0e (q1p s b a nx) n=q1p { s with b:=((b+n:Nat):Int) } (b+n) a nx:=by
 unfold j0e
 have e1:x4c (q1p s b a nx).P (q1p s b a nx).P.tm ((q1p s b a nx).es.take n) ((q1p s b a nx).P.pl+(n:Int))=pk0 (s.L.take (b+n)) ((b+n:Nat):Int):=by
  have:=x4l ⟨0,0,s5,([],[])⟩ 0 s.L (m:=b) (n:=b+n) (by omega) (b:Int) ((b:Int)+(n:Int))
  rw [Nat.add_sub_cancel_left] at this
  exact this
 have e2:q2y (q1p s b a nx).b (q1p s b a nx).l (tsK (q1p s b a nx)) ((q1p s b a nx).b+(n:Int))=q1h 0 (s.L.take (b+n)):=x0b (L:=s.L) (b:=b) (p:=b+n) (by omega) hn
 rw [e1,e2]
 show Kst.mk 4 _ _ _ _ (a:Int) _ _ ((b:Int)+(n:Int)) _ ((s.L.drop b).drop n) _ nx=Kst.mk 4 _ _ _ _ (a:Int) _ _ ((b+n:Nat):Int) _ (s.L.drop (b+n)) _ nx
 rw [List.drop_drop]
 rfl
theorem AI.mono {ws ws':List Hd4} {s:Os} {b a:Nat} (h:AI ws s b a) (g:j4h ws ws') (hc:∀ x∈ws,x.c≤x.log.length):AI ws' s b a:=⟨h.hb,h.ha,h.own.mono g hc,h.t0,h.way⟩
theorem AI.heard {ws:List Hd4} {s:Os} {b a:Nat} (h:AI ws s b a) (t:Int):AI ws (q1b s t) b a:=by
 unfold q1b
 by_cases e:t > s.t
 ·rw [if_pos e]; exact⟨h.hb,h.ha,h.own.later (Int.le_of_lt e),by have:=h.t0; show 0≤t; omega,.inl rfl⟩
 ·rw [if_neg e]; exact h
theorem x3r {s:Os} {one t:Int} (h:s.t≤t):(q0y s one t).t=t∧(q0y s one t).way = "plain" := by
 unfold q0y
 rw [if_pos (x0e.mpr h)]
 exact⟨(x0e.mpr h).symm,rfl⟩
theorem AI.follow {ws:List Hd4} {s:Os} {b a:Nat} {one t:Int} (h:AI ws s b a) (ht:s.t≤t):AI ws (q0y s one t) b a:=by
 obtain⟨e1,e2,e3⟩:=q6x (s:=s) (one:=one) (t:=t)
 obtain⟨f1,f2⟩:=x3r (one:=one) ht
 exact⟨e2.trans h.hb,e3.trans h.ha,by rw [e1,f1]; exact h.own.later ht,by rw [f1]; have:=h.t0; omega,.inl f2⟩
theorem AI.wake {ws:List Hd4} {s:Os} {b a:Nat} (h:AI ws s b a):AI ws (z7u s) b b :=
 ⟨h.hb,h.hb,⟨h.own.pre,Nat.le_refl _,Nat.le_trans h.own.ba h.own.al,h.own.ag.elim (fun z=>.inl (by have:=h.own.ba; omega)) fun⟨g,hg,h1,h2,h3⟩=>.inr ⟨g,hg,h1,Nat.le_trans h.own.ba h2,q5b h3 h.own.ba⟩⟩,h.t0,.inl rfl⟩
theorem AI.stand {ws:List Hd4} {s:Os} {b a:Nat} (h:AI ws s b a):AI ws (q8g s) b a:=by
 rw [q8n]
 exact⟨h.hb,h.ha,h.own.later (by show s.t≤s.t+1; omega),by have:=h.t0; show 0≤s.t+1; omega,.inr rfl⟩
theorem AI.ask {ws:List Hd4} {s:Os} {b a:Nat} (h:AI ws s b a) (one t pl la:Int):AI ws (j0o s one t pl la) b a:=by
 have g:=h.heard t
 unfold j0o
 split
 ·exact⟨g.hb,g.ha,g.own,g.t0,g.way⟩
 ·exact g
theorem AI.packup {ws:List Hd4} {s:Os} {b a n:Nat} (h:AI ws s b a) (hn:b+n≤a):AI ws { s with b:=((b+n:Nat):Int) } (b+n) a :=
 ⟨rfl,h.ha,⟨h.own.pre,hn,h.own.al,h.own.ag⟩,h.t0,h.way⟩
theorem z3k {ws:List Hd4} {s:Os} {b a pl:Nat} {h:Hd4} (H:AI ws s b a) (W:Wld ws) (hh:h∈ws) (hp:pl≤h.log.length) (hno:x2d s b pl (q1h 0 (h.log.take pl))=false):pl < b∨(pl≤s.L.length∧s.L.take pl=h.log.take pl):=by
 unfold x2d at hno
 by_cases hb:pl < b
 ·exact .inl hb
 rw [decide_eq_true (show b≤pl by omega),Bool.true_and,Bool.or_eq_false_iff] at hno
 have hl:pl≤s.L.length:=by have:=of_decide_eq_false hno.1; omega
 have he:q1h 0 (s.L.take pl)=q1h 0 (h.log.take pl):=by
  have:=hno.2
  cases hd:decide (q1h 0 (s.L.take pl)=q1h 0 (h.log.take pl)) with
  | true=>exact of_decide_eq_true hd
  | false=>rw [hd] at this; cases this
 refine .inr ⟨hl,?_⟩
 by_cases h0:pl=0
 ·subst h0; rw [List.take_zero,List.take_zero]
 ·rw [q6z (by omega) hl,q6z (by omega) hp] at he
  have:=H.own.lmat W hh (pl - 1) _ _ (List.getElem?_eq_getElem (by omega)) (List.getElem?_eq_getElem (by omega)) he
  rwa [Nat.sub_add_cancel (by omega)] at this
theorem AI.hand {ws:List Hd4} {s:Os} {b a pl g:Nat} {h:Hd4} {one:Int} {gs:List En} (H:AI ws s b a) (W:Wld ws) (hh:h∈ws) (ht:s.t≤h.tm) (he:gs=(h.log.drop pl).take gs.length) (hp:pl+gs.length≤h.log.length) (hg:g≤h.c) (hno:x2d s b pl (q1h 0 (h.log.take pl))=false) (x:Int) (hx:x=((max a (min g (pl+gs.length)):Nat):Int)) :
  AI ws { q0y s one h.tm with L:=q2e b s.L pl gs,a:=x } b (max a (min g (pl+gs.length)))∧(q2e b s.L pl gs).take a=s.L.take a∧pl+gs.length≤(q2e b s.L pl gs).length∧a≤(q2e b s.L pl gs).length:=by
 obtain⟨o,tk,G⟩:=H.own.hand W hh ht he hp (z3k H W hh (by omega) hno) hg
 obtain⟨f1,f2⟩:=x3r (one:=one) ht
 obtain⟨e1,e2,e3⟩:=q6x (s:=s) (one:=one) (t:=h.tm)
 refine⟨⟨e2.trans H.hb,hx,?_,?_,.inl f2⟩,tk,G.le,G.al⟩
 ·show Own4 ws (q0y s one h.tm).t _ b _
  rw [f1]; exact o
 ·show 0≤(q0y s one h.tm).t
  rw [f1]; have:=H.t0; omega
theorem AI.pack {ws:List Hd4} {s:Os} {b a pl:Nat} {h:Hd4} {one:Int} (H:AI ws s b a) (W:Wld ws) (hh:h∈ws) (ht:s.t≤h.tm) (hp:pl≤h.c) (hap:a < pl) :
  AI ws { q0y s one h.tm with L:=q6d s.L h.log pl (q1h 0 (h.log.take pl)),b:=(pl:Int),a:=(pl:Int) } pl pl∧(q6d s.L h.log pl (q1h 0 (h.log.take pl))).take pl=h.log.take pl:=by
 have hcl:=W.cl h hh
 obtain⟨o1,o2⟩:=H.own.pack W hh hp hap (.inr trivial)
 obtain⟨f1,f2⟩:=x3r (one:=one) ht
 have t0:0≤(q0y s one h.tm).t:=by rw [f1]; have:=H.t0; omega
 rcases x0z (L:=s.L) (M:=h.log) (pl:=pl) (tm:=q1h 0 (h.log.take pl)) (by omega) with ⟨x,hx,hxt,e⟩ | ⟨e,hno⟩
 ·rw [q6z (by omega) (by omega)] at hxt
  obtain⟨q1,q2⟩:=o1 x _ hx (List.getElem?_eq_getElem (by omega)) hxt
  rw [e]
  refine⟨⟨rfl,rfl,?_,t0,.inl f2⟩,q2⟩
  show Own4 ws (q0y s one h.tm).t _ pl pl
  rw [f1]; exact q1
 ·rw [e]
  refine⟨⟨rfl,rfl,?_,t0,.inl f2⟩,by rw [List.take_take,Nat.min_self]⟩
  show Own4 ws (q0y s one h.tm).t _ pl pl
  rw [f1]; exact o2
structure Fx where
 C:Addr
 sc:Addr
 a:Addr
 lo:Addr
 l7:Addr
 lw:Addr
 H0:Hp
 ns:List Int
noncomputable def z4l (mu:List Addr) (H:Hp) (v:V):Prop:=∃ (pl f u:Addr) (xs ys:List V) (ds:List D),v=.ref pl∧H pl=some (.lst [.ref f,.ref u])∧H f=some (.lst xs)∧H u=some (.lst ys)∧IsTL H xs ds∧IsTL H ys ds∧(∀ d∈ds,x7x 5 d)∧ds.length≤1000∧pl∉mu∧f∉mu∧u∉mu
theorem z4l.frame {mu:List Addr} {H H':Hp} {v:V} (h:z4l mu H v) (s:q2o H H') (sl:∀ b xs,b∉mu→H b=some (.lst xs)→H' b=some (.lst xs)):z4l mu H' v:=by
 obtain⟨pl,f,u,xs,ys,ds,e,h1,h2,h3,h4,h5,h6,h7,n1,n2,n3⟩:=h
 exact⟨pl,f,u,xs,ys,ds,e,sl _ _ n1 h1,sl _ _ n2 h2,sl _ _ n3 h3,h4.sameT s,h5.sameT s,h6,h7,n1,n2,n3⟩
structure LI (F:Fx) (n:Nat) (H:Hp) (s:Os) (b c:Nat) (nx:Int) (as:List Addr) (ws:List Hd4) (ps:List V):Prop where
 kv:K2V F.C H F.a (q1p s b c nx)
 own:OsO H F.lo F.l7 s
 ai:AI ws s b c
 wo:WO H F.lw [F.lo,F.l7] as ws
 wok:WsOk (q8d F.ns) (3*n+1) ws
 h7:H F.l7=some (.lst ps)
 few:ps.length≤n
 all:∀ v∈ps,z4l (F.lo::F.l7::F.lw::as) H v
 same:q1l F.H0 H
 na:F.H0 F.a=none
 no:F.H0 F.lo=none
 n7:F.H0 F.l7=none
 nw:F.H0 F.lw=none
 nh:∀ x∈as,F.H0 x=none
noncomputable def LX (F:Fx) (n:Nat) (H:Hp):Prop:=∃ s b c nx as ws ps,LI F n H s b c nx as ws ps
theorem K2V.at {C:Addr} {H:Hp} {a:Addr} {k:Kst} (h:K2V C H a k):∃ dx fs,H a=some (.ins C dx fs):=by
 obtain⟨dx,fs,_,_,_,_,_,_,_,ha,_⟩:=h
 exact⟨dx,fs,ha⟩
theorem OsO.at {H:Hp} {lo l7:Addr} {s:Os} (h:OsO H lo l7 s):(∃ xs,H lo=some (.lst xs))∧l7≠lo:=by
 obtain⟨_,_,O⟩:=h
 exact⟨⟨_,O.at_⟩,O.n7⟩
theorem WsOk.up {W:List Str} {n m:Nat} {ws:List Hd4} (h:WsOk W n ws) (hm:n≤m):WsOk W m ws:=⟨h.wld,h.en,fun g hg=>Nat.le_trans (h.few g hg) hm,h.pos,h.some,Nat.le_trans h.cnt hm⟩
section
variable {F:Fx} {n:Nat} {H:Hp} {s:Os} {b c:Nat} {nx:Int} {as:List Addr} {ws:List Hd4} {ps:List V}
theorem LI.la (L:LI F n H s b c nx as ws ps) {x:Addr} {xs:List V} (e:H x=some (.lst xs)):x≠F.a:=fun z=>by
 obtain⟨dx,fs,ha⟩:=L.kv.at
 rw [z,ha] at e; cases e
theorem LI.ta (L:LI F n H s b c nx as ws ps) {x:Addr} {xs:List V} (e:H x=some (.tup xs)):x≠F.a∧x≠F.lo∧x≠F.l7∧x≠F.lw∧x∉as:=by
 obtain⟨dx,fs,ha⟩:=L.kv.at
 obtain⟨⟨ys,hlo⟩,_⟩:=L.own.at
 refine⟨fun z=>?_,fun z=>?_,fun z=>?_,fun z=>?_,fun z=>?_⟩
 ·rw [z,ha] at e; cases e
 ·rw [z,hlo] at e; cases e
 ·rw [z,L.h7] at e; cases e
 ·rw [z,L.wo.at_] at e; cases e
 ·obtain⟨zs,hz⟩:=L.wo.has x z
  rw [hz] at e; cases e
theorem LI.nd (L:LI F n H s b c nx as ws ps):F.l7≠F.lo∧F.lw≠F.lo∧F.lw≠F.l7:=⟨L.own.at.2,fun z=>L.wo.aw (by rw [z]; simp),fun z=>L.wo.aw (by rw [z]; simp)⟩
theorem LI.both (L:LI F n H s b c nx as ws ps) {H2:Hp} {s':Os} {b' c':Nat} {nx':Int} {m:Nat} (k2:K2V F.C H2 F.a (q1p s' b' c' nx')) (O2:OsO H2 F.lo F.l7 s') (fr:∀ x o,x≠F.a→x≠F.lo→H x=some o→H2 x=some o) (ai:AI ws s' b' c') (hm:n≤m):LI F m H2 s' b' c' nx' as ws ps:=by
 obtain⟨n1,n2,n3⟩:=L.nd
 have st:q2o H H2:=fun x xs e=>fr x _ (L.ta e).1 (L.ta e).2.1 e
 have sl:∀ x xs,x≠F.lo→H x=some (.lst xs)→H2 x=some (.lst xs):=fun x xs h e=>fr x _ (L.la e) h e
 exact⟨k2,O2,ai,L.wo.frame st fun x xs hx e=>sl x xs (fun z=>hx (by rw [z]; simp)) e,L.wok.up (by omega),sl _ _ n1 L.h7,Nat.le_trans L.few hm,fun v hv=>(L.all v hv).frame st fun x xs hx e=>sl x xs (fun z=>hx (by rw [z]; simp)) e,fun x o e=>fr x o (fun z=>by rw [z,L.na] at e; cases e) (fun z=>by rw [z,L.no] at e; cases e) (L.same _ _ e),L.na,L.no,L.n7,L.nw,L.nh⟩
theorem LI.same' (L:LI F n H s b c nx as ws ps) {H2:Hp} (st:q1l H H2):LI F n H2 s b c nx as ws ps:=L.both (L.kv.same st) (L.own.same st) (fun x o _ _ e=>st _ _ e) L.ai (Nat.le_refl _)
theorem LI.keep (L:LI F n H s b c nx as ws ps) {H3:Hp} {pl f u:Addr} {xs ys:List V} {ds:List D} (hf:H f=some (.lst xs)) (hu:H u=some (.lst ys)) (i1:IsTL H xs ds) (i2:IsTL H ys ds) (hw:∀ d∈ds,x7x 5 d) (hd:ds.length≤1000) (nf:f∉F.lo::F.l7::F.lw::as) (nu:u∉F.lo::F.l7::F.lw::as)
  (hk:H3 F.l7=some (.lst (ps++[.ref pl]))) (hpl:H3 pl=some (.lst [.ref f,.ref u])) (np:H pl=none) (o:Off F.l7 H H3) (hps:ps.length+1≤n):LI F n H3 s b c nx as ws (ps++[.ref pl]):=by
 obtain⟨n1,n2,n3⟩:=L.nd
 have t:q2o H H3:=fun x xs e=>o x _ (L.ta e).2.2.1 e
 obtain⟨l1,us,O⟩:=L.own
 have npl:pl∉F.lo::F.l7::F.lw::as:=fun z=>by
  rcases List.mem_cons.mp z with z | z
  ·rw [z,O.at_] at np; cases np
  rcases List.mem_cons.mp z with z | z
  ·rw [z,L.h7] at np; cases np
  rcases List.mem_cons.mp z with z | z
  ·rw [z,L.wo.at_] at np; cases np
  ·obtain⟨zs,hz⟩:=L.wo.has pl z
   rw [np] at hz; cases hz
 have n7a:F.l7≠F.a:=L.la L.h7
 refine⟨L.kv.frame t fun x e=>o _ _ n7a.symm e,⟨l1,us,o _ _ n1.symm O.at_,o _ _ O.n17 O.r,O.e.sameT t,O.n1,O.n7,O.n17,⟨_,hk⟩⟩,L.ai,L.wo.frame t fun x xs hx e=>o _ _ (fun z=>hx (by rw [z]; simp)) e,L.wok,hk,by rw [List.length_append]; exact hps,fun v hv=>?_,fun x y e=>o x y (fun z=>by rw [z,L.n7] at e; cases e) (L.same _ _ e),L.na,L.no,L.n7,L.nw,L.nh⟩
 rcases List.mem_append.mp hv with hv | hv
 ·exact (L.all v hv).frame t fun x xs hx e=>o _ _ (fun z=>hx (by rw [z]; simp)) e
 ·rw [List.mem_singleton.mp hv]
  exact⟨pl,f,u,xs,ys,ds,rfl,hpl,o _ _ (fun z=>nf (by rw [z]; simp)) hf,o _ _ (fun z=>nu (by rw [z]; simp)) hu,i1.sameT t,i2.sameT t,hw,hd,npl,nf,nu⟩
theorem LI.world (L:LI F n H s b c nx as ws ps) {H2:Hp} {as':List Addr} {ws':List Hd4} (wo:WO H2 F.lw [F.lo,F.l7] as' ws') (wok:WsOk (q8d F.ns) (3*n+1+3) ws') (g:j4h ws ws') (fr:∀ x o,x≠F.lw→x∉as→H x=some o→H2 x=some o) (nw:∀ x∈as',x∈as∨H x=none):LI F (n+1) H2 s b c nx as' ws' ps:=by
 obtain⟨n1,n2,n3⟩:=L.nd
 have st:q2o H H2:=fun x xs e=>fr x _ (L.ta e).2.2.2.1 (L.ta e).2.2.2.2 e
 obtain⟨l1,us,O⟩:=L.own
 have n17:F.lo∉as∧F.l7∉as:=⟨fun z=>L.wo.aa _ z (by simp),fun z=>L.wo.aa _ z (by simp)⟩
 have ka:F.a≠F.lw∧F.a∉as:=⟨(L.la L.wo.at_).symm,fun z=>by
  obtain⟨zs,hz⟩:=L.wo.has _ z
  exact L.la hz rfl⟩
 have hl1:l1≠F.lw:=fun z=>by
  have e1:=O.r
  rw [z,L.wo.at_] at e1
  cases e1
  cases has:as with
  | nil =>
   have:=L.wo.len
   rw [has] at this
   exact L.wok.some (List.length_eq_zero_iff.mp this.symm)
  | cons x r =>
   have hE:=O.e
   rw [has] at hE
   obtain⟨zs,hz⟩:=L.wo.has x (by rw [has]; simp)
   cases hL:s.L with
   | nil=>rw [hL] at hE; cases hE
   | cons y r2 =>
    rw [hL] at hE
    cases hE with
    | cons hp _ _=>rw [hz] at hp; cases hp
 have hl1a:l1∉as:=fun z=>by
  obtain⟨i,hi,e⟩:=List.mem_iff_getElem.mp z
  have hi2:i < ws.length:=by rw [← L.wo.len]; exact hi
  obtain⟨l2,us2,e2,_⟩:=L.wo.hd i l1 ws[i] (by rw [← e]; exact List.getElem?_eq_getElem hi) (List.getElem?_eq_getElem hi2)
  have e1:=O.r
  rw [e2] at e1
  cases e1
  have hE:=O.e
  cases hE
 have keepP:∀ x,(∃ xs,H x=some (.lst xs))→x∉F.lo::F.l7::F.lw::as→x∉F.lo::F.l7::F.lw::as':=fun x ⟨xs,e⟩ hx hx'=>by
  rcases List.mem_cons.mp hx' with z | hx'
  ·exact hx (by rw [z]; simp)
  rcases List.mem_cons.mp hx' with z | hx'
  ·exact hx (by rw [z]; simp)
  rcases List.mem_cons.mp hx' with z | hx'
  ·exact hx (by rw [z]; simp)
  rcases nw x hx' with z | z
  ·exact hx (List.mem_cons_of_mem _ (List.mem_cons_of_mem _ (List.mem_cons_of_mem _ z)))
  ·rw [z] at e; cases e
 refine⟨L.kv.frame st fun o e=>fr _ _ ka.1 ka.2 e,⟨l1,us,fr _ _ n2.symm n17.1 O.at_,fr _ _ hl1 hl1a O.r,O.e.sameT st,O.n1,O.n7,O.n17,⟨ps,fr _ _ n3.symm n17.2 L.h7⟩⟩,L.ai.mono g L.wok.wld.cl,wo,wok.up (by omega),fr _ _ n3.symm n17.2 L.h7,Nat.le_succ_of_le L.few,fun v hv=>?_,fun x o e=>fr x o (fun z=>by rw [z,L.nw] at e; cases e) (fun z=>by rw [L.nh x z] at e; cases e) (L.same _ _ e),L.na,L.no,L.n7,L.nw,fun x hx=>?_⟩
 ·obtain⟨pl,f,u,xs,ys,ds,e,h1,h2,h3,h4,h5,h6,h7,m1,m2,m3⟩:=L.all v hv
  have out:∀ x,x∉F.lo::F.l7::F.lw::as→x≠F.lw∧x∉as:=fun x hx=>⟨fun z=>hx (by rw [z]; simp),fun z=>hx (List.mem_cons_of_mem _ (List.mem_cons_of_mem _ (List.mem_cons_of_mem _ z)))⟩
  exact⟨pl,f,u,xs,ys,ds,e,fr _ _ (out _ m1).1 (out _ m1).2 h1,fr _ _ (out _ m2).1 (out _ m2).2 h2,fr _ _ (out _ m3).1 (out _ m3).2 h3,h4.sameT st,h5.sameT st,h6,h7,keepP _ ⟨_,h1⟩ m1,keepP _ ⟨_,h2⟩ m2,keepP _ ⟨_,h3⟩ m3⟩
 ·rcases nw x hx with z | z
  ·exact L.nh x z
  ·cases e:F.H0 x with
   | none=>rfl
   | some o=>rw [L.same _ _ e] at z; cases z
theorem LI.fresh (L:LI F n H s b c nx as ws ps) {x:Addr} (h:H x=none):x∉F.lo::F.l7::F.lw::as:=fun z=>by
 obtain⟨⟨ys,hlo⟩,_⟩:=L.own.at
 rcases List.mem_cons.mp z with z | z
 ·rw [z,hlo] at h; cases h
 rcases List.mem_cons.mp z with z | z
 ·rw [z,L.h7] at h; cases h
 rcases List.mem_cons.mp z with z | z
 ·rw [z,L.wo.at_] at h; cases h
 ·obtain⟨zs,hz⟩:=L.wo.has x z
  rw [h] at hz; cases hz
end
section
variable {P:Program} {w:World} {K:Frag} {mg:Str→Option Value} {base:Heap}
theorem q5d {H:Hp} {p q:Addr} {xs ys:List V} {n:Nat} (h:H p=some (.tup xs)) (h':H q=some (.tup ys)) (hl:xs.length=ys.length) (a:∀ (i:Nat) (x y:V),xs[i]? = some x→ys[i]? = some y→Alike K H n x y):Alike K H (n+1) (.ref p) (.ref q):=.tup (SqT.of h) (SqT.of h') hl a
theorem x1s {H:Hp} {n:Nat} {xs:List V} (hf:xs.all q4b=true):∀ (i:Nat) (x y:V),xs[i]? = some x→xs[i]? = some y→Alike K H n x y:=fun i x y h1 h2=>by
 rw [h1] at h2
 cases h2
 exact .flat (List.all_eq_true.mp hf x (List.mem_of_getElem? h1))
theorem x9m {H:Hp} {v u:V} {d:Deed} {n:Nat} (h:x0h H v d) (h':x0h H u d):Alike K H (n+1) v u:=by
 cases d <;> (obtain⟨p,rfl,hp⟩:=h; obtain⟨q,rfl,hq⟩:=h'; exact q5d hp hq rfl (x1s rfl))
theorem x9r {H:Hp} {v u:V} {x:What} {n:Nat} (h:q4x H v x) (h':q4x H u x):Alike K H (n+2) v u:=by
 cases x with
 | opn =>
  obtain⟨p,rfl,hp⟩:=h
  obtain⟨q,rfl,hq⟩:=h'
  exact q5d hp hq rfl (x1s rfl)
 | seats ms =>
  obtain⟨p,a,rfl,hp,ha⟩:=h
  obtain⟨q,c,rfl,hq,hc⟩:=h'
  refine q5d hp hq rfl fun i x y e1 e2=>?_
  match i,e1,e2 with
  | 0,e1,e2=>cases e1; cases e2; exact .flat rfl
  | 1,e1,e2=>cases e1; cases e2; exact x2g ha hc
  | i+2,e1,_=>simp at e1
 | wish cc m d =>
  obtain⟨p,a,rfl,hp,ha⟩:=h
  obtain⟨q,c,rfl,hq,hc⟩:=h'
  refine q5d hp hq rfl fun i x y e1 e2=>?_
  match i,e1,e2 with
  | 0,e1,e2=>cases e1; cases e2; exact .flat rfl
  | 1,e1,e2=>cases e1; cases e2; exact .flat rfl
  | 2,e1,e2=>cases e1; cases e2; exact .flat rfl
  | 3,e1,e2=>cases e1; cases e2; exact x9m ha hc
  | i+4,e1,_=>simp at e1
theorem z4n {H:Hp} {us vs:List V} {es:List En} {n:Nat} (h:ET H us es) (h':ET H vs es):∀ (i:Nat) (x y:V),us[i]? = some x→vs[i]? = some y→Alike K H (n+3) x y:=fun i x y e1 e2=>by
 have hi:i < es.length:=by rw [← h.length]; exact (List.getElem?_eq_some_iff.mp e1).1
 obtain⟨p,u,g1,g2,g3⟩:=h.get hi
 obtain⟨q,v,k1,k2,k3⟩:=h'.get hi
 rw [g1] at e1
 rw [k1] at e2
 cases e1
 cases e2
 refine q5d g2 k2 rfl fun i x y e1 e2=>?_
 match i,e1,e2 with
 | 0,e1,e2=>cases e1; cases e2; exact .flat rfl
 | 1,e1,e2=>cases e1; cases e2; exact x9r g3 k3
 | i+2,e1,_=>simp at e1
theorem z8r (o:Option Int):j4a (vcV o) (vcV o)=true:=by cases o <;> rfl
theorem x3q:∀ {xs:List V},xs.all q4b=true→x5r xs xs=true
 | [],_=>rfl
 | x::xs,h=>by
  have h':q4b x=true∧xs.all q4b=true:=Bool.and_eq_true_iff.mp (by rw [← List.all_cons]; exact h)
  show (eqV x x && x5r xs xs)=true
  rw [x3i h'.1,x3q h'.2]
  rfl
theorem j9x {f:Expr} {as:List Expr} {ks:List Keyword} {pos:Pos}:q6n (.Call f as ks pos):=fun _ _=>rfl
noncomputable def z9n (C:Addr):Sp:=fun vs H Q _=>∃ (G:Fx) (n:Nat) (s:Os) (b c:Nat) (nx:Int) (as:List Addr) (ws:List Hd4) (ps:List V),G.C=C∧vs=[.ref G.a,.ref G.lo]∧LI G n H s b c nx as ws ps∧n≤62∧∀ H',q1l H H'→Q (.bl true) H'
noncomputable def j3w (C:Addr):TS:=fun D σ H=>∃ (G:Fx) (n:Nat) (s:Os) (b c:Nat) (nx:Int) (as:List Addr) (ws:List Hd4) (ps:List V),G.C=C∧σ=[some (.ref G.a),some (.ref G.lo),some (.int (q1h 0 (s.L.take b)))]∧LI G n H s b c nx as ws ps∧n≤62∧∀ H',q1l H H'→D.rt (.bl true) H'
theorem j1g:FnScope ["_law_keeper", "_law_own", "_law_last"] ["_law_keeper", "_law_own"] (q0h q5j):=fSc
theorem j2c {f:Addr} {fd:FuncData} {C:Addr} (Y:KpC K C) (F:Fun K "_law_stands" "_law_stands" q5j f fd) (T:Txt mg) (CE:Cal P w K mg base "_law_end" 1 ["_law_entries"] (q9h K)) (CP:Cal P w K mg base "_law_pack" 3 ["_law_entries", "_law_place"] (z5k K)) (CT:Cal P w K mg base "_law_store" 2 ["_law_entries"] (x8e K)):FnOk P w K mg base CX0 4 f fd ["_law_keeper", "_law_own"] (z9n C):=by
 refine F.ok j1g (by rintro _ _ _ _⟨_,_,_,_,_,_,_,_,_,_,rfl,_⟩; rfl) (fun _ A _ s H vs Q E hr h=>?_)
 obtain⟨G,n,s0,b,c,nx,as,ws,ps,rfl,rfl,L,hn,q⟩:=h
 have r1:=hr.mono (show 1≤3 by decide)
 have r2:=hr.mono (show 2≤3 by decide)
 refine⟨_,@q0j _ _ _ _ _ (q0r (i:=2) j1g.nd (by rfl) (by exact Or.inl rfl) (q0n CE r1 (q2r (q1y q4w (q0f q0g (pv 1) q0c q0w) q3f (q2b (q0f q0g (pv 1) q0c q0w))) q0e)))
  (PSs.weakP (t':=j3w G.C) (@q0j _ _ _ _ _ (q1g (q0m (j1e hr.units0) (QE.h (q3g (q9a (q1e (pv 0) (by rfl)) (q9a (q1e (pv 0) (by rfl)) (q9a (q1e (pv 0) (by rfl)) (q9a (q1e (pv 0) (by rfl)) q0v)))))) (QE.h (q3g (q5a (q0f q0g (pv 1) q0c q0w) (q5a (q0f q0g (pv 1) q0c q0w) (q5a (q0f q0g (pv 1) q0c q0w) (q5a (q0f q0g (pv 1) q0c q0w) q0v)))))) (q0o _)) (@q0p _ _ _ (q0q q4v)) q0u)
  (PSs.weakP (t':=j3w G.C) (@q0j _ _ _ _ _ (q1g (PW.pt (q4d (q0m q4y (q1e (pv 0) (by rfl)) (q0f q0g (pv 1) q0c q0w) (q0o _)) (q4d (q0m (z6m hr.units0) (q1e (pv 0) (by rfl)) (QE.h (x9s q0i (q1d (q4l q0v (q4l (q1a q0v) q0v))) (q2n q5c (by rfl) T.int q6v (j0l (q1v q2u (q0f q0g (pv 1) q0c q0w) q2k (q0o _)) q0e)) j9x)) (q0o _)) (q2s (q0m (z6m hr.units0) (q1e (pv 0) (by rfl)) (QE.h (q1d q0v)) (q0o _)))))) (@q0p _ _ _ (q0q q4v)) q0u)
  (PSs.weakP (t':=j3w G.C) (@q0j _ _ _ _ _ (q1g (PW.pt (q4d (q0m (z7e hr.units100) (q1e (pv 0) (by rfl)) (QE.h (q1d (q5a (q0f q0g (pv 1) q0c q0w) (q4c (pv 2) (q7c (q2n q3m (by rfl) T.tuple q2f (q2r (q1y q4w (q0f q0g (pv 1) q0c q0w) (q2b (q0f q0g (pv 1) q0c q0w)) q3f) q0e)) q0v))))) (q0o _)) (q2s (q0m (z7e hr.units100) (q1e (pv 0) (by rfl)) (q0n CP hr (q2r (q0f q0g (pv 1) q0c q0w) (q2r (q0f q0g (pv 1) q0c q0w) q0e))) (q0o _))))) (@q0p _ _ _ (q0q q4v)) q0u)
  (PSs.weakP (t':=j3w G.C) (@q0p _ _ _ (q0q (q1v (j2l hr.units100) (q1e (pv 0) (by rfl)) (q0n CT r2 (q2r (q1y q4w (q0f q0g (pv 1) q0c q0w) q3f (q2b (q0f q0g (pv 1) q0c q0w))) q0e)) (q0o _)))) ?w5)) ?w4)) ?w3)) ?w2),?_⟩
 case w2 =>
  clear L q
  rintro D σ H ⟨G',n,s0,b,c,nx,as,ws,ps,hC,rfl,L,hn,q⟩
  obtain⟨dx,fs,vp,vr,vst,an,ah,av,aw,ha,f,ok,S⟩:=L.kv
  obtain⟨l1,us,O⟩:=L.own
  have hat:=O.at_
  rw [L.ai.hb,L.ai.ha] at hat
  rw [hC] at ha
  have f:F2 fs 4 s0.t s0.vc s0.hd s0.way (c:Int) vp vr vst an ah av aw:=f
  refine⟨_,rfl,G'.a,G.C,dx,fs,_,rfl,ha,Y.cl,Y.n_term,f.term,_,rfl,G'.a,G.C,dx,fs,_,rfl,ha,Y.cl,Y.n_way,f.way,_,rfl,G'.a,G.C,dx,fs,_,rfl,ha,Y.cl,Y.n_head,f.head,_,rfl,G'.a,G.C,dx,fs,_,rfl,ha,Y.cl,Y.n_agreed,f.agreed,q1n (by show 4≤1000; decide),fun k1 hk1=>?_⟩
  have t1:=q0d (o:=HO.lst [V.int s0.t,V.str s0.way,vcV s0.hd,V.int (c:Int)]) hk1
  have O1:=t1 _ _ hat
  refine⟨_,rfl,G'.lo,_,_,.int s0.t,rfl,rfl,SqL.of O1,q0a (j:=0) rfl,_,rfl,G'.lo,_,_,.str s0.way,rfl,rfl,SqL.of O1,q0a (j:=5) rfl,_,rfl,G'.lo,_,_,vcV s0.hd,rfl,rfl,SqL.of O1,q0a (j:=4) rfl,_,rfl,G'.lo,_,_,.int (c:Int),rfl,rfl,SqL.of O1,q0a (j:=3) rfl,q1n (by show 4≤1000; decide),fun k2 hk2=>?_⟩
  have t2:=q0d (o:=HO.lst [V.int s0.t,V.str s0.way,vcV s0.hd,V.int (c:Int)]) hk2
  have fl:([V.int s0.t,V.str s0.way,vcV s0.hd,V.int (c:Int)]:List V).all q4b=true:=by
   rw [List.all_eq_true]
   intro x hx
   simp only [List.mem_cons,List.not_mem_nil,or_false] at hx
   rcases hx with rfl | rfl | rfl | rfl
   ·rfl
   ·rfl
   ·exact x7a _
   ·rfl
  refine⟨k1,k2,_,_,rfl,rfl,SqL.of (t2 _ _ q0b),SqL.of q0b,fl,fl,_,rfl,?_⟩
  rw [x3q fl]
  have t12:=t1.trans t2
  exact q2p ⟨G',n,s0,b,c,nx,as,ws,ps,hC,rfl,L.same' t12,hn,fun H' st=>q H' (t12.trans st)⟩
 case w3 =>
  clear L q
  rintro D σ H ⟨G',n,s0,b,c,nx,as,ws,ps,hC,rfl,L,hn,q⟩
  obtain⟨dx,fs,vp,vr,vst,an,ah,av,aw,ha,f,ok,S⟩:=L.kv
  obtain⟨l1,us,O⟩:=L.own
  have hat:=O.at_
  rw [hC] at ha
  have f:F2 fs 4 s0.t s0.vc s0.hd s0.way (c:Int) vp vr vst an ah av aw:=f
  refine⟨_,rfl,G'.a,G.C,dx,fs,_,rfl,ha,Y.cl,Y.n_voice,f.voice,_,rfl,G'.lo,_,_,vcV s0.vc,rfl,rfl,SqL.of hat,q0a (j:=6) rfl,z8r _,_,rfl,?_⟩
  rw [decide_eq_true (show vcV s0.vc=vcV s0.vc from rfl)]
  refine q2p ⟨_,rfl,G'.a,G.C,dx,fs,_,rfl,ha,Y.cl,Y.n_voices,f.voices,q1n (by show 0≤1000; decide),fun e0 he0=>⟨q1n (by show 1≤1000; decide),fun e1 he1=>⟨q1n (by show 2≤1000; decide),fun e2 he2=>?_⟩⟩⟩
  have t0:=q0d (o:=HO.tup []) he0
  have t1:=q0d (o:=HO.tup [V.int 4]) he1
  have t2:=q0d (o:=HO.tup [V.ref e0,V.ref e1]) he2
  have g0:=t2 _ _ (t1 _ _ (q0b (a:=e0) (o:=HO.tup []) (H:=H)))
  have g1:=t2 _ _ (q0b (a:=e1) (o:=HO.tup [V.int 4]) (H:=upd H e0 (.tup [])))
  have g2:upd (upd (upd H e0 (.tup [])) e1 (.tup [V.int 4])) e2 (.tup [V.ref e0,V.ref e1]) e2=some (.tup [V.ref e0,V.ref e1]):=q0b
  have tA:=t0.trans (t1.trans t2)
  generalize upd (upd (upd H e0 (.tup [])) e1 (.tup [V.int 4])) e2 (.tup [V.ref e0,V.ref e1])=H1 at g0 g1 g2 tA
  refine⟨_,rfl,G'.lo,_,_,.str s0.way,rfl,rfl,SqL.of (tA _ _ hat),q0a (j:=5) rfl,rfl,.inr ⟨_,rfl,?_⟩⟩
  have hv:=S.voices
  have pick:∃ e:Addr,atI [V.ref e0,V.ref e1] (if decide (V.str s0.way=V.str "standing")=true then 1 else 0)=some (.ref e)∧H1 e=some (.tup ((q1p s0 b c nx).vs.map V.int)):=by
   show ∃ e:Addr,_∧H1 e=some (.tup ((if s0.way = "standing" then [(4:Int)] else []).map V.int))
   by_cases hw:s0.way = "standing"
   ·rw [decide_eq_true (congrArg V.str hw),if_pos rfl,if_pos hw]
    exact⟨e1,rfl,g1⟩
   ·rw [decide_eq_false (fun z=>hw (V.str.inj z)),if_neg Bool.false_ne_true,if_neg hw]
    exact⟨e0,rfl,g0⟩
  obtain⟨e,hat2,hpe⟩:=pick
  refine⟨e2,_,_,.ref e,rfl,rfl,SqT.of g2,hat2,av,e,_,_,rfl,rfl,SqT.of (tA _ _ hv),SqT.of hpe,q8j _,q8j _,_,rfl,?_⟩
  rw [x3q (q8j _)]
  refine q2p ⟨_,rfl,G'.a,G.C,dx,fs,_,rfl,tA _ _ ha,Y.cl,Y.n_waits,f.waits,q1n (by show 0≤1000; decide),fun e3 he3=>?_⟩
  have t3:=q0d (o:=HO.tup []) he3
  refine⟨aw,e3,[],[],rfl,rfl,SqT.of (t3 _ _ (tA _ _ S.waits)),SqT.of q0b,rfl,rfl,_,rfl,?_⟩
  exact q2p ⟨G',n,s0,b,c,nx,as,ws,ps,hC,rfl,L.same' (tA.trans t3),hn,fun H' st=>q H' ((tA.trans t3).trans st)⟩
 case w4 =>
  clear L q
  rintro D σ H ⟨G',n,s0,b,c,nx,as,ws,ps,hC,rfl,L,hn,q⟩
  obtain⟨hen,hlen⟩:=L.ai.en L.wok
  obtain⟨dx,fs,vp,vr,vst,an,ah,av,aw,ha,f,ok,S⟩:=L.kv
  obtain⟨l1,us,O⟩:=L.own
  have hat:=O.at_
  rw [L.ai.hb,L.ai.ha] at hat
  rw [hC] at ha
  have f:F2 fs 4 s0.t s0.vc s0.hd s0.way (c:Int) vp vr vst an ah av aw:=f
  have hul:=O.e.length
  refine⟨_,rfl,G'.a,G.C,dx,fs,_,rfl,ha,Y.cl,Y.n_row,f.row,_,rfl,G'.lo,_,_,.int (b:Int),rfl,rfl,SqL.of hat,q0a (j:=2) rfl,_,rfl,_,rfl,G'.lo,_,_,.ref l1,rfl,rfl,SqL.of hat,q0a (j:=1) rfl,_,rfl,G'.lo,_,_,.int (b:Int),rfl,rfl,SqL.of hat,q0a (j:=2) rfl,_,rfl,l1,_,rfl,SqL.of O.r,fun p1 hp1=>?_⟩
  rw [x3d]
  have t1:=q0d (o:=HO.lst (us.drop b)) hp1
  refine⟨p1,_,rfl,.inl ⟨SqL.of q0b,fun p2 hp2=>?_⟩⟩
  have t2:=q0d (o:=HO.tup (us.drop b)) hp2
  refine⟨q1n (by show 3≤1000; decide),fun p3 hp3=>?_⟩
  have t3:=q0d (o:=HO.tup [V.int (b:Int),V.int (q1h 0 (s0.L.take b)),V.ref p2]) hp3
  have tA:=t1.trans (t2.trans t3)
  have g2:=t3 _ _ (q0b (a:=p2) (o:=HO.tup (us.drop b)) (H:=upd H p1 (.lst (us.drop b))))
  have g3:upd (upd (upd H p1 (.lst (us.drop b))) p2 (.tup (us.drop b))) p3 (.tup [V.int (b:Int),V.int (q1h 0 (s0.L.take b)),V.ref p2]) p3=some (.tup [V.int (b:Int),V.int (q1h 0 (s0.L.take b)),V.ref p2]):=q0b
  generalize upd (upd (upd H p1 (.lst (us.drop b))) p2 (.tup (us.drop b))) p3 (.tup [V.int (b:Int),V.int (q1h 0 (s0.L.take b)),V.ref p2])=H1 at g2 g3 tA
  obtain⟨r,cc,ru,rfl,hr1,hr2,hr3⟩:=S.row
  have i1:ET H1 ru (s0.L.drop b):=hr3.same tA
  have i2:=(O.e.drop b).same tA
  refine⟨r,p3,_,_,4,rfl,rfl,SqT.of (tA _ _ hr1),SqT.of g3,rfl,fun i x y e1 e2=>?_,by decide,_,rfl,q2p ?_⟩
  ·match i,e1,e2 with
   | 0,e1,e2=>cases e1; cases e2; exact .flat rfl
   | 1,e1,e2=>cases e1; cases e2; exact .flat rfl
   | 2,e1,e2=>cases e1; cases e2; exact q5d (tA _ _ hr2) g2 (i1.length.trans i2.length.symm) (z4n (n:=0) i1 i2)
   | i+3,e1,_=>simp at e1
  refine⟨_,rfl,G'.a,G.C,dx,fs,_,rfl,tA _ _ ha,Y.cl,Y.n_pack,f.pack,_,rfl,G'.lo,_,_,.ref l1,rfl,rfl,SqL.of (tA _ _ hat),q0a (j:=1) rfl,_,rfl,G'.lo,_,_,.int (b:Int),rfl,rfl,SqL.of (tA _ _ hat),q0a (j:=2) rfl,l1,b,us,s0.L,q8d G'.ns,q8d G'.ns,rfl,SqL.of (tA _ _ O.r),O.e.same tA,fun e he=>(hen e he).1,(q4q _).1,(q4q _).1,fun v H2 hv t4=>?_⟩
  have tB:=tA.trans t4
  obtain⟨p,q1,xs,ys,e1,e2,z1,z2,z3,z4⟩:=PkV.eqs (K:=K) (S.pack.same tB) hv
  refine⟨p,q1,xs,ys,3,e1,e2,z1,z2,z3,z4,by decide,_,rfl,q2p ?_⟩
  exact⟨G',n,s0,b,c,nx,as,ws,ps,hC,rfl,L.same' tB,hn,fun H' st=>q H' (tB.trans st)⟩
 case w5 =>
  clear L q
  rintro D σ H ⟨G',n,s0,b,c,nx,as,ws,ps,hC,rfl,L,hn,q⟩
  obtain⟨hen,hlen⟩:=L.ai.en L.wok
  obtain⟨dx,fs,vp,vr,vst,an,ah,av,aw,ha,f,ok,S⟩:=L.kv
  obtain⟨l1,us,O⟩:=L.own
  have hat:=O.at_
  rw [L.ai.hb,L.ai.ha] at hat
  rw [hC] at ha
  have f:F2 fs 4 s0.t s0.vc s0.hd s0.way (c:Int) vp vr vst an ah av aw:=f
  refine⟨_,rfl,G'.a,G.C,dx,fs,_,rfl,ha,Y.cl,Y.n_store,f.store,_,rfl,G'.lo,_,_,.ref l1,rfl,rfl,SqL.of hat,q0a (j:=1) rfl,_,rfl,G'.lo,_,_,.int (c:Int),rfl,rfl,SqL.of hat,q0a (j:=3) rfl,_,rfl,l1,_,rfl,SqL.of O.r,fun p1 hp1=>?_⟩
  rw [q7f]
  have t1:=q0d (o:=HO.lst (us.take c)) hp1
  refine⟨p1,_,s0.L.take c,q8d G'.ns,q8d G'.ns,rfl,SqL.of q0b,(O.e.take c).same t1,fun e he=>(hen e (List.mem_of_mem_take he)).1,(q4q _).1,(q4q _).1,fun v H2 hv t2=>?_⟩
  have tB:=t1.trans t2
  obtain⟨sa,a1,c1,rfl,h1,h2,h3⟩:=S.store.same tB
  obtain⟨sb,a2,c2,rfl,h1',h2',h3'⟩:=hv
  refine⟨sa,sb,_,_,2,rfl,rfl,SqT.of h1,SqT.of h1',rfl,fun i x y e1 e2=>?_,by decide,q _ tB⟩
  match i,e1,e2 with
  | 0,e1,e2=>cases e1; cases e2; exact h2.alike h2'
  | 1,e1,e2=>cases e1; cases e2; exact h3.alike h3'
  | i+2,e1,_=>simp at e1
 obtain⟨l1,us,O⟩:=L.own
 have hat:=O.at_
 rw [L.ai.hb,L.ai.ha] at hat
 refine⟨_,rfl,G.lo,_,_,.ref l1,rfl,rfl,SqL.of hat,q0a (j:=1) rfl,_,rfl,G.lo,_,_,.int (b:Int),rfl,rfl,SqL.of hat,q0a (j:=2) rfl,_,rfl,l1,_,rfl,SqL.of O.r,fun p1 hp1=>?_⟩
 rw [q7f]
 have t1:=q0d (o:=HO.lst (us.take b)) hp1
 refine⟨p1,_,s0.L.take b,rfl,SqL.of q0b,(O.e.take b).same t1,?_⟩
 exact⟨G,n,s0,b,c,nx,as,ws,ps,rfl,rfl,L.same' t1,hn,fun H' st=>q H' (t1.trans st)⟩
theorem q8z (t one:Int) (g:Bool) (pl:Int):x7x 5 (x0x t one g pl):=⟨by show 6≤1000; decide,fun x hx=>by
 simp only [List.mem_cons,List.not_mem_nil,or_false] at hx
 rcases hx with rfl | rfl | rfl | rfl | rfl | rfl <;> trivial⟩
theorem LI.close {F:Fx} {n:Nat} {H H1 H2 H3:Hp} {s s':Os} {b c b' c':Nat} {nx nx':Int} {as:List Addr} {ws:List Hd4} {ps:List V} (L:LI F n H s b c nx as ws ps) (hn:n≤61) {l p:Addr} {xs ys:List V} {ds:List D} (h1:H1 l=some (.lst xs)) (i1:IsTL H1 xs ds) (nl:H l=none) (k1:K2V F.C H1 F.a (q1p s' b' c' nx')) (o1:Off F.a H H1) (O2:OsO H2 F.lo F.l7 s') (o2:Off F.lo H1 H2) (ai:AI ws s' b' c') (s3:q1l H2 H3) (np:H2 p=none) (hp:H3 p=some (.lst ys)) (i2:IsTL H3 ys ds) (hw:∀ d∈ds,x7x 5 d) (hd:ds.length≤1000) {Q:VK} {E:XK} (q:∀ H',LX F (n+1) H'→Q (.bl true) H'):x9x [.ref F.lo,.ref l,.ref p] H3 Q E:=by
 obtain⟨⟨zs,hlo⟩,n71⟩:=L.own.at
 have nla:F.lo≠F.a:=L.la hlo
 have hlo1:=o1 _ _ nla hlo
 have t2:=o2.tupsL hlo1
 have k2:K2V F.C H2 F.a (q1p s' b' c' nx'):=k1.frame t2 fun o e=>o2 _ _ nla.symm e
 have nl1:l≠F.lo:=fun z=>by rw [z,hlo] at nl; cases nl
 have fr:∀ x o,x≠F.a→x≠F.lo→H x=some o→H2 x=some o:=fun x o n1 n2 e=>o2 _ _ n2 (o1 _ _ n1 e)
 have L2:LI F (n+1) H2 s' b' c' nx' as ws ps:=L.both k2 O2 fr ai (Nat.le_succ _)
 have L3:=L2.same' s3
 have hl3:=s3 _ _ (o2 _ _ nl1 h1)
 have i13:=(i1.sameT t2).sameT (q1j s3)
 refine⟨F.lo,F.l7,l,p,s',ps,xs,ys,ds,rfl,L3.own,L3.h7,by have:=L.few; omega,hl3,hp,i13,i2,hw,hd,fun pl H' g1 g2 g3 g4=>?_⟩
 exact q H' ⟨s',b',c',nx',as,ws,_,L3.keep hl3 hp i13 i2 hw hd (L.fresh nl) (L2.fresh np) g1 g2 g3 g4 (Nat.succ_le_succ L.few)⟩
theorem z7z {as:List Addr} {x y:Int} (h0:0≤x) (hy:0≤y) (h:x*y+1≤(as.length:Int)):∃ (i:Nat) (a:Addr),as[i]? = some a∧atI (as.map V.ref) (-1 - x*y)=some (.ref a):=by
 have hxy:0≤x*y:=Int.mul_nonneg h0 hy
 generalize x*y=z at hxy h
 have hi:((as.length:Int) - 1 - z).toNat < as.length:=by omega
 refine⟨((as.length:Int) - 1 - z).toNat,as[((as.length:Int) - 1 - z).toNat],List.getElem?_eq_getElem hi,?_⟩
 unfold atI ixN
 rw [if_neg (by omega),List.length_map,if_pos (by omega)]
 show (as.map V.ref)[(-1 - z+(as.length:Int)).toNat]? = _
 rw [show -1 - z+(as.length:Int)=(as.length:Int) - 1 - z by omega,List.getElem?_map,List.getElem?_eq_getElem hi]
 rfl
noncomputable def z8z (C:Addr):Sp:=fun vs H Q _=>∃ (G:Fx) (n:Nat) (s:Os) (b c:Nat) (nx:Int) (as:List Addr) (ws:List Hd4) (ps:List V) (ld:Addr) (d0 d1 d2 d3 m:Int),G.C=C∧vs=[.ref G.a,.ref G.lo,.ref G.lw,.ref ld,.int m]∧LI G n H s b c nx as ws ps∧n≤61∧H ld=some (.lst [.int d0,.int d1,.int d2,.int d3])∧∀ H',LX G (n+1) H'→Q (.bl true) H'
noncomputable def TaC (C:Addr) (rt:VK) (H:Hp) (σ3 σ4:Option V) (σ:St):Prop:=∃ (G:Fx) (n:Nat) (s:Os) (b c:Nat) (nx:Int) (as:List Addr) (ws:List Hd4) (ps:List V) (ld:Addr) (d0 d1 d2 d3 m one:Int) (i:Nat) (ah:Addr) (h:Hd4),G.C=C∧σ=[some (.ref G.a),some (.ref G.lo),some (.ref G.lw),some (.ref ld),some (.int m),some (.ref ah),some (.int one),σ3,none,σ4]∧LI G n H s b c nx as ws ps∧n≤61∧H ld=some (.lst [.int d0,.int d1,.int d2,.int d3])∧as[i]? = some ah∧ws[i]? = some h∧∀ H',LX G (n+1) H'→rt (.bl true) H'
noncomputable def j9j (C:Addr):TS:=fun D σ H=>TaC C D.rt H none none σ∧∃ (ah:Addr) (u v:V) (c:Nat),σ[5]? = some (some (.ref ah))∧H ah=some (.lst [u,v,.int (c:Int)])∧0 < c
noncomputable def j8l (C:Addr):TS:=fun D σ H=>TaC C D.rt H none none σ
noncomputable def j9l (C:Addr):TS:=fun D σ H=>∃ (pl:Nat),TaC C D.rt H (some (.int (pl:Int))) none σ∧∃ (ah l:Addr) (u v:V) (us:List V),σ[5]? = some (some (.ref ah))∧H ah=some (.lst [u,.ref l,v])∧H l=some (.lst us)∧pl≤us.length
theorem x3n:FnScope ["_law_keeper", "_law_own", "_law_world_here", "_law_some", "_law_number", "_law_head", "_law_one", "_law_place", "_law_letter", "_law_entries"] ["_law_keeper", "_law_own", "_law_world_here", "_law_some", "_law_number"] (q0h q6m):=fSc
theorem j1j {f:Addr} {fd:FuncData} {C:Addr} (Y:KpC K C) (F:Fun K "_law_taken" "_law_taken" q6m f fd) (T:Txt mg) (CE:Cal P w K mg base "_law_end" 1 ["_law_entries"] (q9h K)) (CP:Cal P w K mg base "_law_pack" 3 ["_law_entries", "_law_place"] (z5k K)) (CK:Cal P w K mg base "_law_kept" 8 ["_law_own", "_law_found", "_law_due"] x9x) (CH:Cal P w K mg base "_law_handed" 3 ["_law_own", "_law_letter"] z7i) (CA:Cal P w K mg base "_law_packed" 3 ["_law_own", "_law_letter", "_law_entries"] z8k) (CTp:Cal P w K mg base "take_pack" 7 ["keeper", "letter"] (j5d C)) (CTh:Cal P w K mg base "take_hand" 8 ["keeper", "letter"] (j6a C)):FnOk P w K mg base CX0 9 f fd ["_law_keeper", "_law_own", "_law_world_here", "_law_some", "_law_number"] (z8z C):=by
 refine F.ok x3n (by rintro _ _ _ _⟨_,_,_,_,_,_,_,_,_,_,_,_,_,_,_,_,rfl,_⟩; rfl) (fun _ A _ s H vs Q E hr h=>?_)
 obtain⟨G,n,s0,b,c,nx,as,ws,ps,ld,d0,d1,d2,d3,m,rfl,rfl,L,hn,hld,q⟩:=h
 have r1:=hr.mono (show 1≤8 by decide)
 have r3:=hr.mono (show 3≤8 by decide)
 have r7:=hr.mono (show 7≤8 by decide)
 refine⟨_,@q0j _ _ _ _ _ (q0r (i:=5) x3n.nd (by rfl) (by exact Or.inl rfl) (q0f q0g (pv 2) (q0x q2q (z6f x8o q0c) (q0x q6a (q0x q2t (q0f q0g (pv 3) q0c q0w) (q0l (q4a (by rfl)) (by rfl) T.min q4u (x3w q0c (q8r (q0l q0t (by rfl) T.len PySem.boot_len (q0z (pv 2) q0e)) q0e)))) (q2n q5c (by rfl) T.int q6v (j0l (q1v q2u (q0f q0g (pv 3) q0c q0w) q0c (q0o _)) q0e)))) z9s))
  (@q0j _ _ _ _ _ (q0r (i:=6) x3n.nd (by rfl) (by exact Or.inl rfl) (QE.h (x9s q0g (q3g (q1a (q1a (q1a (q1a (q1a q0v)))))) (q0x q2t (q0f q0g (pv 5) q0c q0w) q0c) z9s)))
  (@q0j _ _ _ _ _ (q1g (PW.pt (x7y (q0m q2u (q0f q0g (pv 3) q0c q0w) q0c (q0o _)) (x2l (q0m q4g (q0f q0g (pv 5) q0c q0w) q0c (q0o _)))))
   (PSs.weakP (t':=j9j G.C) (@q0j _ _ _ _ _ (q0r (i:=7) x3n.nd (by rfl) (by exact Or.inl rfl) (q0x q1o q0c (q0x q2t (pv 4) (q0f q0g (pv 5) q0c q0w))))
   (@q0j _ _ _ _ _ (q0r (i:=8) x3n.nd (by rfl) (by exact Or.inl rfl) (QE.h (q1d (q1w (q4c (pv 6) (q1a (q5a (q0f q0g (pv 5) q0c q0w) (q7c (q0n CP r3 (q2r (q0f q0g (pv 5) q0c q0w) (q0z (pv 7) q0e))) q0v))))))))
   (@q0p _ _ _ (q0q (q0n CK hr (q0z (pv 1) (q8r (q0n CTp r7 (q0z (pv 0) (q0z (pv 8) q0e))) (j0i (QE.h (q3g (q7c (q0n CA r3 (q0z (pv 1) (q0z (pv 8) (q2r (q0f q0g (pv 5) q0c q0w) q0e)))) q0v))) q0e)))))))) ?wP) q0u)
  (PSs.weakP (t':=j8l G.C) (@q0j _ _ _ _ _ (q0r (i:=7) x3n.nd (by rfl) (by exact Or.inl rfl) (q0l (q2c (by rfl)) (by rfl) T.max q2m (x3w q0c (q9d (q0x q2q (q0l q0t (by rfl) T.len PySem.boot_len (q2r (q0f q0g (pv 5) q0c q0w) q0e)) (q0x q2t (pv 4) q0c)) q0e))))
  (@q0j _ _ _ _ _ (q1g (q0m q2u (q0f q0g (pv 3) q0c q0w) q0c (q0o _)) (@q0p _ _ _ (q0r (i:=7) x3n.nd (by rfl) (by exact Or.inl rfl) (q0l (q4a (by rfl)) (by rfl) T.min q4u (q8r (q0l q0t (by rfl) T.len PySem.boot_len (q2r (q0f q0g (pv 5) q0c q0w) q0e)) (q8r (q0l q0t (by rfl) T.len PySem.boot_len (q2r (q0f q0g (pv 1) q0c q0w) q0e)) q0e))))) q0u)
  (PSs.weakP (t':=j9l G.C) (@q0j _ _ _ _ _ (q0r (i:=9) x3n.nd (by rfl) (by exact Or.inl rfl) (q2n q3m (by rfl) T.tuple q2f (q2r (q1y q4w (q0f q0g (pv 5) q0c q0w) (q2b (pv 7)) (q2b (q0x q1o (pv 7) (q0x q2t (q0x q3j (pv 4) q0c) q0c)))) q0e)))
  (@q0j _ _ _ _ _ (q0r (i:=8) x3n.nd (by rfl) (by exact Or.inl rfl) (QE.h (q1d (q1w (q4c (pv 6) (q1a (q5a (q0f q0g (pv 5) q0c q0w) (q4c (pv 7) (q7c (q0n CE r1 (q2r (q1y q4w (q0f q0g (pv 5) q0c q0w) q3f (q2b (pv 7))) q0e)) (q4c (pv 9) (q7c (q0l (q2c (by rfl)) (by rfl) T.max q2m (x3w q0c (q9d (q0x q2q (q0f q0g (pv 5) q0c q0w) (q0x q2t (q0x q3j (pv 4) q0c) q0c)) q0e))) q0v)))))))))))
  (@q0p _ _ _ (q0q (q0n CK hr (q0z (pv 1) (q8r (q0n CTh hr (q0z (pv 0) (q0z (pv 8) q0e))) (j0i (QE.h (q3g (q7c (q0n CH r3 (q0z (pv 1) (q0z (pv 8) q0e))) q0v))) q0e)))))))) ?wL))) ?wH))),?_⟩
 case wP =>
  clear L q hn hld
  rintro D σ H ⟨⟨G',n,s0,b,c,nx,as,ws,ps,ld,d0,d1,d2,d3,m,one,i,ah,h,hC,rfl,L,hn,hld,hi,hh,q⟩,ah',u',v',cc,e5,hah',hcc⟩
  cases e5
  obtain⟨l,us,hah,hl,hE,n1,n2,n3⟩:=L.wo.hd i ah h hi hh
  have hc0:0 < h.c:=by
   rw [hah] at hah'
   cases hah'
   exact hcc
  have hmem:h∈ws:=List.mem_of_getElem? hh
  have nlo:l≠G'.lo:=fun z=>n3 (by rw [z]; simp)
  obtain⟨z0,z1⟩:=q2j m (m:=(h.c:Int)) (by omega)
  refine⟨_,rfl,_,rfl,ah,_,_,.int (h.c:Int),rfl,rfl,SqL.of hah,q0a (j:=2) rfl,_,_,rfl,rfl,(by show (0:Int) < (h.c:Int); omega),_,_,rfl,rfl,?_⟩
  obtain⟨pl,epl,hp1,hpc⟩:∃ pl:Nat,1+m % (h.c:Int)=(pl:Int)∧1≤pl∧pl≤h.c:=⟨(1+m % (h.c:Int)).toNat,by omega,by omega,by omega⟩
  show q9s 7 (V.int (1+m % (h.c:Int))) _ _ _
  rw [epl]
  obtain⟨hen,hlen⟩:=L.ai.en L.wok
  have hlc:=L.wok.wld.cl h hmem
  refine⟨_,rfl,_,rfl,ah,_,_,.int h.tm,rfl,rfl,SqL.of hah,q0a (j:=0) rfl,_,rfl,ah,_,_,.ref l,rfl,rfl,SqL.of hah,q0a (j:=1) rfl,_,rfl,l,pl,us,h.log,q8d G'.ns,q8d G'.ns,rfl,SqL.of hl,hE,fun e he=>(L.wok.en h hmem e he).1,(q4q _).1,(q4q _).1,fun v H1 hv t1=>⟨q1n (by show 5≤1000; decide),fun p hp=>?_⟩⟩
  have t2:=q0d (o:=HO.tup [V.str "pack",V.int one,V.int 4,V.int h.tm,v]) hp
  have gp:upd H1 p (.tup [V.str "pack",V.int one,V.int 4,V.int h.tm,v]) p=some (.tup [V.str "pack",V.int one,V.int 4,V.int h.tm,v]):=q0b
  have hv2:=hv.same t2
  have tA:=t1.trans t2
  generalize upd H1 p (.tup [V.str "pack",V.int one,V.int 4,V.int h.tm,v])=H2 at gp hv2 tA
  have L2:=L.same' tA
  have hah2:=tA _ _ hah
  have hl2:=tA _ _ hl
  have hE2:=hE.same tA
  obtain⟨dx,fs,ha2⟩:=L2.kv.at
  have hb:b≤s0.L.length:=Nat.le_trans L.ai.own.ba L.ai.own.al
  have kok:KpOk (q1p s0 b c nx):=x2b hen (by omega) L.ai.t0 (q4q _)
  have kw:(q1p s0 b c nx).way ≠ "head" := by
   show s0.way ≠ "head"
   rcases L.ai.way with e | e <;> rw [e] <;> decide +kernel
  have kba:(q1p s0 b c nx).b≤(q1p s0 b c nx).ag:=by
   show (b:Int)≤(c:Int)
   have:=L.ai.own.ba
   omega
  obtain⟨pp,qq,uu,rfl,hpp,_,_⟩:=id hv2
  have hpp:H2 pp=some (.tup (.int (pl:Int)::.int (q1h 0 (h.log.take pl))::[.ref qq,uu])):=hpp
  have kv2:=L2.kv
  rw [hC] at kv2
  refine⟨_,rfl,_,rfl,_,rfl,G'.a,p,.ref pp, "pack",one,4,h.tm,pk0 (h.log.take pl) pl,q1p s0 b c nx,rfl,kv2,kok,kw,gp,hv2,kba,fun ht l1 xs H3 h1 i1 nl k1 o1=>?_,fun ht l1 xs H3 h1 i1 nl k1 o1=>?_⟩
  ·have ht:h.tm < s0.t:=ht
   have T3:=o1.tups ha2
   rw [← hC] at k1
   rw [show q9e (q1p s0 b c nx) one false ((q1p s0 b c nx).b+((q1p s0 b c nx).es.length:Int))=x0x s0.t one false (s0.L.length:Int) by rw [q7l hb]; rfl] at i1
   refine⟨_,rfl,_,rfl,_,rfl,ah,_,_,.ref l,rfl,rfl,SqL.of (o1 _ _ (L2.la hah2) hah2),q0a (j:=1) rfl,G'.lo,G'.l7,p,pp,l, "pack",one,4,h.tm,_,pl,_,us,h.log,s0,rfl,L2.own.off o1 ha2,T3 _ _ gp,T3 _ _ hpp,o1 _ _ (L2.la hl2) hl2,nlo,hE2.sameT T3,hp1,fun _ q0 H4 iq O4 o4=>?_,fun ht2=>absurd ht2 (by omega)⟩
   refine⟨q1n (by show 1≤1000; decide),fun pd hpd=>?_⟩
   exact L2.close (E:=E) hn h1 i1 nl k1 o1 O4 o4 L2.ai (q0d hpd) hpd q0b (.cons (iq.sameT (q1j (q0d hpd))) .nil) (fun d hd=>by rw [List.mem_singleton.mp hd]; exact q8z _ _ _ _) (by show 1≤1000; decide) q
  ·have ht:s0.t≤h.tm:=ht
   have T3:=o1.tups ha2
   rw [← hC] at k1
   rw [show q9e (q1i (q1p s0 b c nx) one h.tm) one true (pk0 (h.log.take pl) pl).pl=x0x (q0y s0 one h.tm).t one true (pl:Int) by rw [q3t ht]; rfl] at i1
   refine⟨_,rfl,_,rfl,_,rfl,ah,_,_,.ref l,rfl,rfl,SqL.of (o1 _ _ (L2.la hah2) hah2),q0a (j:=1) rfl,G'.lo,G'.l7,p,pp,l, "pack",one,4,h.tm,_,pl,_,us,h.log,s0,rfl,L2.own.off o1 ha2,T3 _ _ gp,T3 _ _ hpp,o1 _ _ (L2.la hl2) hl2,nlo,hE2.sameT T3,hp1,fun ht2=>absurd ht2 (by omega),fun _ q0 H4 iq O4 o4=>?_⟩
   refine⟨q1n (by show 1≤1000; decide),fun pd hpd=>?_⟩
   have iq2:=iq.sameT (q1j (q0d (o:=HO.lst [V.ref q0]) hpd))
   by_cases hpa:c < pl
   ·rw [if_pos (show (pk0 (h.log.take pl) pl).pl > (q1p s0 b c nx).ag by show (pl:Int) > (c:Int); omega)] at k1
    rw [if_pos (show (pl:Int) > s0.a by rw [L.ai.ha]; omega)] at O4
    obtain⟨ai',hk⟩:=L2.ai.pack (one:=one) L.wok.wld hmem ht hpc hpa
    rw [z4v hb L.ai.own.ba hpa (by omega) ht hk] at k1
    exact L2.close (E:=E) hn h1 i1 nl k1 o1 O4 o4 ai' (q0d hpd) hpd q0b (.cons iq2 .nil) (fun d hd=>by rw [List.mem_singleton.mp hd]; exact q8z _ _ _ _) (by show 1≤1000; decide) q
   ·rw [if_neg (show ¬ (pk0 (h.log.take pl) pl).pl > (q1p s0 b c nx).ag by show ¬ (pl:Int) > (c:Int); omega),q3t ht] at k1
    rw [if_neg (show ¬ (pl:Int) > s0.a by rw [L.ai.ha]; omega)] at O4
    exact L2.close (E:=E) hn h1 i1 nl k1 o1 O4 o4 (L2.ai.follow ht) (q0d hpd) hpd q0b (.cons iq2 .nil) (fun d hd=>by rw [List.mem_singleton.mp hd]; exact q8z _ _ _ _) (by show 1≤1000; decide) q
 case wH =>
  clear L q hn hld
  rintro D σ H ⟨G',n,s0,b,c,nx,as,ws,ps,ld,d0,d1,d2,d3,m,one,i,ah,h,hC,rfl,L,hn,hld,hi,hh,q⟩
  obtain⟨l,us,hah,hl,hE,n1,n2,n3⟩:=L.wo.hd i ah h hi hh
  obtain⟨l1,us1,O⟩:=L.own
  obtain⟨z0,z1⟩:=q2j m (m:=7) (by decide)
  refine⟨_,rfl,ah,_,_,.ref l,rfl,rfl,SqL.of hah,q0a (j:=1) rfl,l,_,rfl,.inl (SqL.of hl),_,rfl,_,_,rfl,rfl,(by show (0:Int) < 7; decide),_,_,rfl,rfl,_,_,rfl,?_⟩
  obtain⟨pl,epl,hpl⟩:∃ pl:Nat,(if (us.length:Int) - m % 7 > 0 then (us.length:Int) - m % 7 else 0)=(pl:Int)∧pl≤us.length:=by
   by_cases hc:(us.length:Int) - m % 7 > 0
   ·rw [if_pos hc]; exact⟨((us.length:Int) - m % 7).toNat,by omega,by omega⟩
   ·rw [if_neg hc]; exact⟨0,rfl,Nat.zero_le _⟩
  rw [epl]
  refine⟨_,rfl,ld,_,_,.int d3,rfl,rfl,SqL.of hld,q0a (j:=3) rfl,rfl,_,rfl,q4r (fun _=>?_) (fun _=>?_)⟩
  ·refine⟨_,rfl,ah,_,_,.ref l,rfl,rfl,SqL.of hah,q0a (j:=1) rfl,l,_,rfl,.inl (SqL.of hl),_,rfl,G'.lo,_,_,.ref l1,rfl,rfl,SqL.of O.at_,q0a (j:=1) rfl,l1,_,rfl,.inl (SqL.of O.r),_,_,rfl,?_⟩
   obtain⟨pk,epk,hpk⟩:∃ pl:Nat,(if (us1.length:Int) < (us.length:Int) then (us1.length:Int) else (us.length:Int))=(pl:Int)∧pl≤us.length:=by
    by_cases hc:(us1.length:Int) < (us.length:Int)
    ·rw [if_pos hc]; exact⟨us1.length,rfl,by omega⟩
    ·rw [if_neg hc]; exact⟨us.length,rfl,Nat.le_refl _⟩
   rw [epk]
   exact⟨pk,⟨G',n,s0,b,c,nx,as,ws,ps,ld,d0,d1,d2,d3,m,one,i,ah,h,hC,rfl,L,hn,hld,hi,hh,q⟩,ah,l,_,_,us,rfl,hah,hl,hpk⟩
  ·exact⟨pl,⟨G',n,s0,b,c,nx,as,ws,ps,ld,d0,d1,d2,d3,m,one,i,ah,h,hC,rfl,L,hn,hld,hi,hh,q⟩,ah,l,_,_,us,rfl,hah,hl,hpl⟩
 case wL =>
  clear L q hn hld
  rintro D σ H ⟨pl,⟨G',n,s0,b,c,nx,as,ws,ps,ld,d0,d1,d2,d3,m,one,i,ah,h,hC,rfl,L,hn,hld,hi,hh,q⟩,ah',l',u',v',us',e5,hah',hl',hpl⟩
  cases e5
  obtain⟨l,us,hah,hl,hE,n1,n2,n3⟩:=L.wo.hd i ah h hi hh
  have el:l'=l:=by rw [hah] at hah'; cases hah'; rfl
  rw [el,hl] at hl'
  have eu:us'=us:=by cases hl'; rfl
  rw [eu] at hpl
  have hul:=hE.length
  have hmem:h∈ws:=List.mem_of_getElem? hh
  obtain⟨hen,hlen⟩:=L.ai.en L.wok
  have hlc:=L.wok.wld.cl h hmem
  have hfew:=L.wok.few h hmem
  obtain⟨z0,z1⟩:=q2j (m / 7) (m:=6) (by decide)
  obtain⟨y0,y1⟩:=q2j (m / 42) (m:=3) (by decide)
  refine⟨_,rfl,ah,_,_,.ref l,rfl,rfl,SqL.of hah,q0a (j:=1) rfl,_,rfl,_,rfl,_,rfl,_,rfl,_,_,rfl,rfl,⟨by decide,by decide⟩,_,_,rfl,rfl,(by show (0:Int) < 6; decide),_,_,rfl,rfl,_,rfl,l,_,rfl,SqL.of hl,fun p1 hp1=>?_⟩
  obtain⟨k,ek,hk6⟩:∃ k:Nat,m / 7 % 6=(k:Int)∧k < 6:=⟨(m / 7 % 6).toNat,by omega,by omega⟩
  rw [ek,show (pl:Int)+(k:Int)=((pl+k:Nat):Int) by omega,q8i,Nat.add_sub_cancel_left]
  have t1:=q0d (o:=HO.lst ((us.drop pl).take k)) hp1
  refine⟨p1,_,rfl,.inl ⟨SqL.of q0b,fun e he=>?_⟩⟩
  have t2:=q0d (o:=HO.tup ((us.drop pl).take k)) he
  have tA:=t1.trans t2
  have ge:upd (upd H p1 (.lst ((us.drop pl).take k))) e (.tup ((us.drop pl).take k)) e=some (.tup ((us.drop pl).take k)):=q0b
  generalize upd (upd H p1 (.lst ((us.drop pl).take k))) e (.tup ((us.drop pl).take k))=H1 at tA ge
  have hah1:=tA _ _ hah
  have hl1:=tA _ _ hl
  refine⟨_,rfl,_,rfl,ah,_,_,.int h.tm,rfl,rfl,SqL.of hah1,q0a (j:=0) rfl,_,rfl,_,rfl,ah,_,_,.ref l,rfl,rfl,SqL.of hah1,q0a (j:=1) rfl,_,rfl,_,rfl,l,_,rfl,SqL.of hl1,fun p3 hp3=>?_⟩
  rw [q7f]
  have t3:=q0d (o:=HO.lst (us.take pl)) hp3
  have tB:=tA.trans t3
  refine⟨p3,_,h.log.take pl,rfl,SqL.of q0b,(hE.take pl).same tB,_,rfl,_,rfl,ah,_,_,.int (h.c:Int),rfl,rfl,SqL.of (tB _ _ hah),q0a (j:=2) rfl,_,rfl,_,_,rfl,rfl,⟨by decide,by decide⟩,_,_,rfl,rfl,(by show (0:Int) < 3; decide),_,_,rfl,rfl,_,_,rfl,?_⟩
  obtain⟨g,eg,hg⟩:∃ g:Nat,(if (h.c:Int) - m / 42 % 3 > 0 then (h.c:Int) - m / 42 % 3 else 0)=(g:Int)∧g≤h.c:=by
   by_cases hc:(h.c:Int) - m / 42 % 3 > 0
   ·rw [if_pos hc]; exact⟨((h.c:Int) - m / 42 % 3).toNat,by omega,by omega⟩
   ·rw [if_neg hc]; exact⟨0,rfl,Nat.zero_le _⟩
  rw [eg]
  refine⟨q1n (by show 8≤1000; decide),fun p hp=>?_⟩
  have t4:=q0d (o:=HO.tup [V.str "hand",V.int one,V.int 4,V.int h.tm,V.int (pl:Int),V.int (q1h 0 (h.log.take pl)),V.ref e,V.int (g:Int)]) hp
  have gp:upd (upd H1 p3 (.lst (us.take pl))) p (.tup [V.str "hand",V.int one,V.int 4,V.int h.tm,V.int (pl:Int),V.int (q1h 0 (h.log.take pl)),V.ref e,V.int (g:Int)]) p=some (.tup [V.str "hand",V.int one,V.int 4,V.int h.tm,V.int (pl:Int),V.int (q1h 0 (h.log.take pl)),V.ref e,V.int (g:Int)]):=q0b
  have tC:=tB.trans t4
  have ge2:=t4 _ _ (t3 _ _ ge)
  generalize upd (upd H1 p3 (.lst (us.take pl))) p (.tup [V.str "hand",V.int one,V.int 4,V.int h.tm,V.int (pl:Int),V.int (q1h 0 (h.log.take pl)),V.ref e,V.int (g:Int)])=H2 at gp tC ge2
  have L2:=L.same' tC
  have hE2:=hE.same tC
  obtain⟨dx,fs,ha2⟩:=L2.kv.at
  have hb:b≤s0.L.length:=Nat.le_trans L.ai.own.ba L.ai.own.al
  have kok:KpOk (q1p s0 b c nx):=x2b hen (by omega) L.ai.t0 (q4q _)
  have kw:(q1p s0 b c nx).way ≠ "head" := by
   show s0.way ≠ "head"
   rcases L.ai.way with e | e <;> rw [e] <;> decide +kernel
  have kba:(q1p s0 b c nx).b≤(q1p s0 b c nx).ag:=by
   show (b:Int)≤(c:Int)
   have:=L.ai.own.ba
   omega
  have kv2:=L2.kv
  rw [hC] at kv2
  have hG:ET H2 ((us.drop pl).take k) ((h.log.drop pl).take k):=(hE2.drop pl).take k
  have hgl:((h.log.drop pl).take k).length≤k:=by rw [List.length_take]; omega
  have hgw:∀ x∈(h.log.drop pl).take k,z2a (q8d G'.ns) x:=fun x hx=>L.wok.en h hmem x (List.mem_of_mem_drop (List.mem_of_mem_take hx))
  have he1:(h.log.drop pl).take k=(h.log.drop pl).take ((h.log.drop pl).take k).length:=by
   rw [List.length_take]
   by_cases z:k≤(h.log.drop pl).length
   ·rw [Nat.min_eq_left z]
   ·rw [Nat.min_eq_right (by omega),List.take_of_length_le (by omega),List.take_of_length_le (Nat.le_refl _)]
  have he2:pl+((h.log.drop pl).take k).length≤h.log.length:=by
   rw [List.length_take,List.length_drop]; omega
  generalize hgs:(h.log.drop pl).take k=gs at hG hgl hgw he1 he2
  have edg:∀ (x:Kst),True:=fun _=>trivial
  clear edg
  refine⟨_,rfl,_,rfl,_,rfl,G'.a,p,e, "hand",one,4,h.tm,pl,q1h 0 (h.log.take pl),g,_,gs,q1p s0 b c nx,q8d G'.ns,q8d G'.ns,rfl,kv2,kok,j3k hen (q4q _),kw,gp,ge2,hG,fun x hx=>⟨(hgw x hx).whb (q4q _),(hgw x hx).1⟩,by omega,kba,fun ht l1 xs H3 h1 i1 nl k1 o1=>?_,fun ht hag l1 xs H3 h1 i1 nl k1 o1=>?_,fun ht hag=>?_⟩
  ·have ht:h.tm < s0.t:=ht
   have T3:=o1.tups ha2
   rw [← hC] at k1
   rw [show q9e (q1p s0 b c nx) one false ((q1p s0 b c nx).b+((q1p s0 b c nx).es.length:Int))=x0x s0.t one false (s0.L.length:Int) by rw [q7l hb]; rfl] at i1
   refine⟨_,rfl,_,rfl,G'.lo,G'.l7,p,e, "hand",one,4,h.tm,q1h 0 (h.log.take pl),g,pl,b,_,gs,s0,rfl,L2.own.off o1 ha2,L.ai.hb,T3 _ _ gp,T3 _ _ ge2,hG.sameT T3,by omega,by omega,by omega,fun _ q0 H4 iq O4 o4=>?_,fun ht2=>absurd ht2 (by omega),fun ht2=>absurd ht2 (by omega)⟩
   refine⟨q1n (by show 1≤1000; decide),fun pd hpd=>?_⟩
   exact L2.close (E:=E) hn h1 i1 nl k1 o1 O4 o4 L2.ai (q0d hpd) hpd q0b (.cons (iq.sameT (q1j (q0d hpd))) .nil) (fun d hd=>by rw [List.mem_singleton.mp hd]; exact q8z _ _ _ _) (by show 1≤1000; decide) q
  ·have ht:s0.t≤h.tm:=ht
   rw [x1u hb] at hag
   have hoff:x2d s0 b pl (q1h 0 (h.log.take pl))=true:=by
    cases hz:x2d s0 b pl (q1h 0 (h.log.take pl)) with
    | true=>rfl
    | false=>rw [hz] at hag; cases hag
   have T3:=o1.tups ha2
   rw [← hC] at k1
   rw [q3t ht] at k1
   rw [show q9e (q1i (q1p s0 b c nx) one h.tm) one false (if (q1p s0 b c nx).b+((q1p s0 b c nx).es.length:Int) < (pl:Int) - 1 then (q1p s0 b c nx).b+((q1p s0 b c nx).es.length:Int) else (pl:Int) - 1)=x0x (q0y s0 one h.tm).t one false (if (s0.L.length:Int) < (pl:Int) - 1 then (s0.L.length:Int) else (pl:Int) - 1) by rw [q3t ht,q7l hb]; rfl] at i1
   refine⟨_,rfl,_,rfl,G'.lo,G'.l7,p,e, "hand",one,4,h.tm,q1h 0 (h.log.take pl),g,pl,b,_,gs,s0,rfl,L2.own.off o1 ha2,L.ai.hb,T3 _ _ gp,T3 _ _ ge2,hG.sameT T3,by omega,by omega,by omega,fun ht2=>absurd ht2 (by omega),fun _ _ q0 H4 iq O4 o4=>?_,fun _ ho=>by rw [hoff] at ho; cases ho⟩
   refine⟨q1n (by show 1≤1000; decide),fun pd hpd=>?_⟩
   exact L2.close (E:=E) hn h1 i1 nl k1 o1 O4 o4 (L2.ai.follow ht) (q0d hpd) hpd q0b (.cons (iq.sameT (q1j (q0d hpd))) .nil) (fun d hd=>by rw [List.mem_singleton.mp hd]; exact q8z _ _ _ _) (by show 1≤1000; decide) q
  ·have ht:s0.t≤h.tm:=ht
   rw [x1u hb] at hag
   have hoff:x2d s0 b pl (q1h 0 (h.log.take pl))=false:=by
    cases hz:x2d s0 b pl (q1h 0 (h.log.take pl)) with
    | false=>rfl
    | true=>rw [hz] at hag; cases hag
   have hmn:(if (pl:Int)+(gs.length:Int) < (g:Int) then (pl:Int)+(gs.length:Int) else (g:Int))=((min g (pl+gs.length):Nat):Int):=by split <;> omega
   have hxx:(if (if (pl:Int)+(gs.length:Int) < (g:Int) then (pl:Int)+(gs.length:Int) else (g:Int)) > s0.a then (if (pl:Int)+(gs.length:Int) < (g:Int) then (pl:Int)+(gs.length:Int) else (g:Int)) else s0.a)=((max c (min g (pl+gs.length)):Nat):Int):=by rw [hmn,L.ai.ha]; split <;> omega
   obtain⟨ai',htk,hle1,hle2⟩:=L2.ai.hand (one:=one) L.wok.wld hmem ht he1 he2 hg hoff _ hxx
   rw [z6i hb L.ai.own.ba ht htk,hmn]
   obtain⟨hen',hlen'⟩:=ai'.en L.wok
   have hlen':(q2e b s0.L pl gs).length≤3*n+1:=hlen'
   have t0':0≤(q0y s0 one h.tm).t:=ai'.t0
   have dl:((q2e b s0.L pl gs).drop b).length=(q2e b s0.L pl gs).length - b:=List.length_drop
   have hbl:b≤(q2e b s0.L pl gs).length:=Nat.le_trans L.ai.own.ba hle2
   refine⟨x2b (s:={ q0y s0 one h.tm with L:=q2e b s0.L pl gs }) hen' (by show (q2e b s0.L pl gs).length≤200; omega) t0' (q4q _),?_,?_,fun l1 xs H3 h1 i1 nl k1 o1=>?_⟩
   ·show (c:Int)≤(b:Int)+(((q2e b s0.L pl gs).drop b).length:Int)
    omega
   ·show ((min g (pl+gs.length):Nat):Int)≤(b:Int)+(((q2e b s0.L pl gs).drop b).length:Int)
    omega
   rw [z1o (s:={ q0y s0 one h.tm with L:=q2e b s0.L pl gs }) L.ai.own.ba (by show min g (pl+gs.length)≤(q2e b s0.L pl gs).length; omega)] at k1
   have T3:=o1.tups ha2
   rw [← hC] at k1
   rw [show q9e (q1i (q1p s0 b c nx) one h.tm) one true (if (q1p s0 b c nx).b > (pl:Int)+(gs.length:Int) then (q1p s0 b c nx).b else (pl:Int)+(gs.length:Int))=x0x (q0y s0 one h.tm).t one true (if s0.b > (pl:Int)+(gs.length:Int) then s0.b else (pl:Int)+(gs.length:Int)) by rw [q3t ht,L.ai.hb]; rfl] at i1
   refine⟨_,rfl,_,rfl,G'.lo,G'.l7,p,e, "hand",one,4,h.tm,q1h 0 (h.log.take pl),g,pl,b,_,gs,s0,rfl,L2.own.off o1 ha2,L.ai.hb,T3 _ _ gp,T3 _ _ ge2,hG.sameT T3,by omega,by omega,by omega,fun ht2=>absurd ht2 (by omega),fun _ ho=>absurd ho (by rw [hoff]; exact Bool.false_ne_true),fun _ _ q0 H4 iq O4 o4=>?_⟩
   refine⟨q1n (by show 1≤1000; decide),fun pd hpd=>?_⟩
   exact L2.close (E:=E) hn h1 i1 nl (by exact k1) o1 O4 o4 ai' (q0d hpd) hpd q0b (.cons (iq.sameT (q1j (q0d hpd))) .nil) (fun d hd=>by rw [List.mem_singleton.mp hd]; exact q8z _ _ _ _) (by show 1≤1000; decide) q
 have has:1≤as.length:=by
  rw [L.wo.len]
  exact List.length_pos_iff.mpr L.wok.some
 have hmin:(0:Int) < (if (as.length:Int) < 3 then (as.length:Int) else 3):=by split <;> omega
 have hminl:(if (as.length:Int) < 3 then (as.length:Int) else 3)≤(as.length:Int):=by split <;> omega
 obtain⟨z0,z1⟩:=q2j d2 hmin
 refine⟨_,rfl,_,rfl,_,rfl,ld,_,_,.int d2,rfl,rfl,SqL.of hld,q0a (j:=2) rfl,_,rfl,G.lw,_,rfl,.inl (SqL.of L.wo.at_),_,_,rfl,_,_,rfl,rfl,(by rw [List.length_map]; exact hmin),_,rfl,ld,_,_,.int d3,rfl,rfl,SqL.of hld,q0a (j:=3) rfl,rfl,.inr ⟨_,rfl,?_⟩⟩
 rw [List.length_map]
 have hyv:(0:Int)≤(if decide (V.int d3=V.int 0)=true then (1:Int) else 0)∧(if decide (V.int d3=V.int 0)=true then (1:Int) else 0)≤1:=by split <;> decide
 generalize (if decide (V.int d3=V.int 0)=true then (1:Int) else 0)=yv at hyv
 have hxy:d2 % (if (as.length:Int) < 3 then (as.length:Int) else 3)*yv+1≤(as.length:Int):=by
  generalize d2 % (if (as.length:Int) < 3 then (as.length:Int) else 3)=xv at z0 z1
  rcases (show yv=0∨yv=1 by omega) with rfl | rfl
  ·rw [Int.mul_zero]; omega
  ·rw [Int.mul_one]; omega
 obtain⟨i,ah,hi,hat⟩:=z7z z0 hyv.1 hxy
 refine⟨_,_,rfl,rfl,.inr ⟨by omega,by omega⟩,_,_,rfl,rfl,G.lw,_,_,.ref ah,rfl,rfl,SqL.of L.wo.at_,hat,?_⟩
 have hi2:i < ws.length:=by rw [← L.wo.len]; exact (List.getElem?_eq_some_iff.mp hi).1
 obtain⟨l,us,hah,hl,hE,n1,n2,n3⟩:=L.wo.hd i ah ws[i] hi (List.getElem?_eq_getElem hi2)
 refine⟨q1n (by show 5≤1000; decide),fun p hp=>?_⟩
 have t1:=q0d (o:=HO.lst [V.int 0,V.int 1,V.int 2,V.int 3,V.int 8]) hp
 obtain⟨y0,y1⟩:=q2j (ws[i]).tm (m:=5) (by decide)
 obtain⟨one,hone⟩:∃ one:Int,atI [V.int 0,V.int 1,V.int 2,V.int 3,V.int 8] ((ws[i]).tm % 5)=some (.int one):=by
  generalize (ws[i]).tm % 5=r at y0 y1
  rcases (show r=0∨r=1∨r=2∨r=3∨r=4 by omega) with rfl | rfl | rfl | rfl | rfl <;> exact⟨_,rfl⟩
 refine⟨_,rfl,ah,_,_,.int (ws[i]).tm,rfl,rfl,SqL.of (t1 _ _ hah),q0a (j:=0) rfl,_,_,rfl,rfl,(by show (0:Int) < 5; decide),p,_,_,.int one,rfl,rfl,SqL.of q0b,hone,?_⟩
 generalize upd H p (.lst [V.int 0,V.int 1,V.int 2,V.int 3,V.int 8])=H1 at t1
 have hld1:=t1 _ _ hld
 have tac:TaC G.C Q H1 none none [some (.ref G.a),some (.ref G.lo),some (.ref G.lw),some (.ref ld),some (.int m),some (.ref ah),some (.int one),none,none,none]:=⟨G,n,s0,b,c,nx,as,ws,ps,ld,d0,d1,d2,d3,m,one,i,ah,ws[i],rfl,rfl,L.same' t1,hn,hld1,hi,List.getElem?_eq_getElem hi2,q⟩
 refine⟨_,rfl,ld,_,_,.int d0,rfl,rfl,SqL.of hld1,q0a (j:=0) rfl,rfl,_,rfl,q4r (fun _=>?_) (fun _=>q2p tac)⟩
 refine⟨_,rfl,ah,_,_,.int ((ws[i]).c:Int),rfl,rfl,SqL.of (t1 _ _ hah),q0a (j:=2) rfl,_,_,rfl,rfl,_,rfl,q4r (fun hc=>?_) (fun _=>tac)⟩
 exact⟨tac,ah,_,_,(ws[i]).c,rfl,t1 _ _ hah,by have:=of_decide_eq_true hc; omega⟩
end
end K1
namespace Kp
open PySem L2
theorem z6b {J:It} {H1:Hp} {n k:Nat} {frs:St} {g:TG} {tt:TT} {te:TE} {Q:VK} (W:Nat→List V→Hp→Prop) (hn:n < sizeLine) (mono:∀ i ys H H',q2o H H'→W i ys H→W i ys H') (w0:W 0 [] H1) (wl:∀ i ys H,W i ys H→ys.length≤i)
  (go:∀ i H,i < n→q1l H1 H→J.go i H) (stop:∀ H,q1l H1 H→J.stop n H)
  (turn:∀ i ys H t x H2 (S:St→Hp→Option V→Prop),i < n→q1l H1 H→W i ys H→t.length=k→J.yld i H x H2 →
   (∀ t' H' v,t'.length=k→q1l H H'→W (i+1) (ys++[v]) H'→S (t'++frs) H' (some v))→(∀ t' H',t'.length=k→q1l H H'→W (i+1) ys H'→S (t'++frs) H' none) →
   g x (t++frs) H2 fun σ3 H3=>tt σ3 H3 fun b H4=>if b=true then te σ3 H4 fun v H5=>S σ3 H5 (some v) else S σ3 H4 none)
  (hq:∀ D H' ys,q1l H1 H'→H1 D=none→H' D=some (.lst ys)→W n ys H'→Q (.ref D) H'):x5i (List.replicate k none++frs) g tt te Q J H1:=by
 intro D hD
 have tup:∀ {H H':Hp},q1l H H'→q2o H H':=fun s b xs e=>s _ _ e
 refine⟨fun i m ys σ H=>i≤n∧m=n - i∧W i ys H∧q1l H1 H∧∃ t,t.length=k∧σ=t++frs,⟨n,Nat.zero_le _,rfl,mono _ _ _ _ (tup (q0d hD)) w0,q0d hD,_,by simp,rfl⟩,?_⟩
 rintro i m ys σ H ⟨hi,rfl,hW,s1,t,ht,rfl⟩ hd
 have hl:=wl _ _ _ hW
 by_cases hlt:i < n
 ·right
  refine⟨go i H hlt s1,by omega,fun x H2 y=>?_⟩
  have keep:∀ (H5:Hp) (zs:List V),H5 D=some (.lst ys)→q2o H5 (upd H5 D (.lst zs)):=fun H5 zs h5 b xs e=>by
   rw [q1c (fun q=>by rw [q,h5] at e; cases e)]; exact e
  refine turn i ys H t x H2 (fun σ3 H5 r=>match r with
   | some v=>H5 D=some (.lst ys)∧∃ m',m' < n - i∧(i+1≤n∧m'=n - (i+1)∧W (i+1) (ys++[v]) (upd H5 D (.lst (ys++[v])))∧q1l H1 (upd H5 D (.lst (ys++[v])))∧∃ t,t.length=k∧σ3=t++frs)
   | none=>H5 D=some (.lst ys)∧∃ m',m' < n - i∧(i+1≤n∧m'=n - (i+1)∧W (i+1) ys H5∧q1l H1 H5∧∃ t,t.length=k∧σ3=t++frs)) hlt s1 hW ht y ?_ ?_
  ·intro t' H' v ht' s2 w2
   have h5:=s2 _ _ hd
   refine⟨h5,n - (i+1),by omega,by omega,rfl,mono _ _ _ _ (keep H' _ h5) w2,fun b o e=>?_,t',ht',rfl⟩
   rw [q1c (q1q e hD)]; exact s2 _ _ (s1 _ _ e)
  ·intro t' H' ht' s2 w2
   exact⟨s2 _ _ hd,n - (i+1),by omega,by omega,rfl,w2,s1.trans s2,t',ht',rfl⟩
 ·have e:i=n:=by omega
  subst e
  exact .inl ⟨stop H s1,hq D H ys s1 hD hd hW⟩
end Kp
namespace K1
open PySem L2 Kp
section
variable {P:Program} {w:World} {K:Frag} {mg:Str→Option Value} {base:Heap}
theorem w0j {X:Cx} {es:List Expr} {te:TE} {t:TA} {p:Pos} {a:Expr} {o:List CmpOp} {b:List Expr} (ha:PE X (.Compare a o b p) te) (r:QA X es t):QA X (.Compare a o b p::es) (q4h te t):=⟨j0l ha r.h⟩
theorem LI.fin {F:Fx} {n:Nat} {H H3:Hp} {s s':Os} {b c b' c':Nat} {nx nx':Int} {as:List Addr} {ws:List Hd4} {ps:List V} (L:LI F n H s b c nx as ws ps) (hn:n≤61) (O3:OsO H3 F.lo F.l7 s') (k3:K2V F.C H3 F.a (q1p s' b' c' nx')) (fr:∀ x o,x≠F.a→x≠F.lo→H x=some o→H3 x=some o) (ai:AI ws s' b' c') {l p:Addr} {xs ys:List V} {ds:List D} (hl:H3 l=some (.lst xs)) (hp:H3 p=some (.lst ys)) (i1:IsTL H3 xs ds) (i2:IsTL H3 ys ds) (nl:H l=none) (np:H p=none) (hw:∀ d∈ds,x7x 5 d) (hd:ds.length≤1000) {Q:VK} {E:XK} (q:∀ H',LX F (n+1) H'→Q (.bl true) H'):x9x [.ref F.lo,.ref l,.ref p] H3 Q E:=by
 have L3:LI F (n+1) H3 s' b' c' nx' as ws ps:=L.both k3 O3 fr ai (Nat.le_succ _)
 refine⟨F.lo,F.l7,l,p,s',ps,xs,ys,ds,rfl,L3.own,L3.h7,by have:=L.few; omega,hl,hp,i1,i2,hw,hd,fun pl H' g1 g2 g3 g4=>?_⟩
 exact q H' ⟨s',b',c',nx',as,ws,_,L3.keep hl hp i1 i2 hw hd (L.fresh nl) (L.fresh np) g1 g2 g3 g4 (Nat.succ_le_succ L.few)⟩
noncomputable def z9f (K:Frag) (C:Addr):Sp:=fun vs H Q _=>∃ (G:Fx) (n:Nat) (s:Os) (b c:Nat) (nx:Int) (as:List Addr) (ws:List Hd4) (ps:List V) (ld:Addr) (d0 d1 d2 d3 m:Int),G.C=C∧vs=[.ref G.sc,.ref G.a,.ref G.lo,.ref ld,.int m]∧LI G n H s b c nx as ws ps∧n≤61∧H ld=some (.lst [.int d0,.int d1,.int d2,.int d3])∧0≤d1∧0≤d2∧0≤d3∧SqL K G.H0 G.sc (G.ns.map V.int)∧∀ H',LX G (n+1) H'→Q (.bl true) H'
noncomputable def ElC (K:Frag) (C:Addr) (one:Option V):TS:=fun D σ H=>∃ (G:Fx) (n:Nat) (s:Os) (b c:Nat) (nx:Int) (as:List Addr) (ws:List Hd4) (ps:List V) (ld:Addr) (d0 d1 d2 d3 m:Int),G.C=C∧σ=[some (.ref G.sc),some (.ref G.a),some (.ref G.lo),some (.ref ld),some (.int m),none,none,none,none,none,one,none,none,none]∧LI G n H s b c nx as ws ps∧n≤61∧H ld=some (.lst [.int d0,.int d1,.int d2,.int d3])∧0≤d1∧0≤d2∧0≤d3∧SqL K G.H0 G.sc (G.ns.map V.int)∧∀ H',LX G (n+1) H'→D.rt (.bl true) H'
noncomputable def j5j (K:Frag) (C:Addr):TS:=fun D σ H=>∃ one:Int,ElC K C (some (.int one)) D σ H
theorem x1j:FnScope ["_law_script", "_law_keeper", "_law_own", "_law_some", "_law_number", "_law_deed", "_law_found", "_law_seats_here", "_law_new", "_law_due", "_law_one", "_law_last", "_law_place", "_law_letter"] ["_law_script", "_law_keeper", "_law_own", "_law_some", "_law_number"] (q0h q5x):=fSc
theorem j0q {f:Addr} {fd:FuncData} {C:Addr} (Y:KpC K C) (F:Fun K "_law_else" "_law_else" q5x f fd) (T:Txt mg) (CN:Cal P w K mg base "_law_name" 3 ["_law_script", "_law_which"] (z5u K)) (CE:Cal P w K mg base "_law_end" 1 ["_law_entries"] (q9h K)) (CS:Cal P w K mg base "_law_seats" 1 ["_law_entries", "_law_first"] (z5q K)) (CHe:Cal P w K mg base "_law_heard" 1 ["_law_own", "_law_term"] z1k) (CK:Cal P w K mg base "_law_kept" 8 ["_law_own", "_law_found", "_law_due"] x9x) (CA:Cal P w K mg base "_law_asked" 2 ["_law_own", "_law_letter"] z7m)
  (CTw:Cal P w K mg base "take_wish" 1 ["keeper", "letter"] (z9u C)) (CSt:Cal P w K mg base "stand" 7 ["keeper"] (z7o C)) (CTk:Cal P w K mg base "take_ask" 6 ["keeper", "letter"] (z9m C)) (CTl:Cal P w K mg base "take_held" 3 ["keeper", "letter"] (j6v C)) (CBt:Cal P w K mg base "beat" 1 ["keeper", "other"] (z7s C)):FnOk P w K mg base CX0 9 f fd ["_law_script", "_law_keeper", "_law_own", "_law_some", "_law_number"] (z9f K C):=by
 refine F.ok x1j (by rintro _ _ _ _⟨_,_,_,_,_,_,_,_,_,_,_,_,_,_,_,_,rfl,_⟩; rfl) (fun _ A _ s H vs Q E hr h=>?_)
 obtain⟨G,n,s0,b,c,nx,as,ws,ps,ld,d0,d1,d2,d3,m,rfl,rfl,L,hn,hld,hd1,hd2,hd3,hsc,q⟩:=h
 have r1:=hr.mono (show 1≤8 by decide)
 have r2:=hr.mono (show 2≤8 by decide)
 have r3:=hr.mono (show 3≤8 by decide)
 have r6:=hr.mono (show 6≤8 by decide)
 have r7:=hr.mono (show 7≤8 by decide)
 refine⟨_,@q0j _ _ _ _ _ (q1g (q0m q2u (q0f q0g (pv 3) q0c q0w) q0c (q0o _))
   (PSs.weakP (t':=ElC K G.C none) (@q0j _ _ _ _ _ (q0r (i:=5) x1j.nd (by rfl) (by exact Or.inl rfl) (QE.h (q1d (q1w (q7c (q0n CN r3 (q0z (pv 0) (q2r (q0f q0g (pv 3) q0c q0w) q0e))) q0v)))))
   (@q0j _ _ _ _ _ (q0r (i:=6) x1j.nd (by rfl) (by exact Or.inl rfl) (q0n CTw r1 (q0z (pv 1) (z4a (QE.h (q1d (q1w (q7c (q0n CN r3 (q0z (pv 0) (q2r (q0f q0g (pv 3) q0c q0w) q0e))) (q1a (z6p (q0x q1o q0c (q0f q0g (pv 3) q0c q0w)) (q4c (pv 5) q0v))))))) q0e))))
   (@q0p _ _ _ (q0q (q0n CK hr (q0z (pv 2) (q0z (pv 6) (j0i (QE.h (q3g (q4l (q1w (q1a (q7c (q0n CN r3 (q0z (pv 0) (q2r (q0f q0g (pv 3) q0c q0w) q0e))) (z6p (q0x q1o q0c (q0f q0g (pv 3) q0c q0w)) (q5a (q0f q0g (pv 2) q0c q0w) q0v))))) q0v))) q0e)))))))) ?wW) q0u)
  (@q0j _ _ _ _ _ (q1g (q0m q2u (q0f q0g (pv 3) q0c q0w) q0c (q0o _))
   (PSs.weakP (t':=ElC K G.C none) (@q0j _ _ _ _ _ (q2g (q0n CHe r1 (q0z (pv 2) (q9d (q0x q1o (q0f q0g (pv 2) q0c q0w) q0c) q0e))))
   (@q0j _ _ _ _ _ (q3b q2k (q3d (pv 2) q0c q1s))
   (@q0j _ _ _ _ _ (q3b q0c (q3d (pv 2) q0c q1s))
   (@q0j _ _ _ _ _ (q0r (i:=7) x1j.nd (by rfl) (by exact Or.inl rfl) (q0n CS r1 (q2r (q0f q0g (pv 2) q0c q0w) (z4a (QE.h (q1d (q1a (q1a (q1a (q1a (q1a q0v))))))) q0e))))
   (@q0j _ _ _ _ _ (q0r (i:=8) x1j.nd (by rfl) (by exact Or.inr rfl) (QE.h (q3g (q5a (q0f q0g (pv 2) q0c q0w) (q7c (q0l q0t (by rfl) T.len PySem.boot_len (q2r (q0f q0g (pv 2) q0c q0w) q0e)) (q7c (q0n CE r1 (q2r (q0f q0g (pv 2) q0c q0w) q0e)) q0v))))))
   (@q0j _ _ _ _ _ (x2s (i:=9) x1j.nd (by rfl) (by exact Or.inl rfl) (NB:=["_law_other", "_law_new"]) (n:=1) (fr:=[8]) (q7p (outer:=q0h q5x) (x := "_law_new") (by rfl) (by decide +kernel) (by rfl) (by rfl) (by rfl) (by rfl)) (by rfl) (q9j (pv 7))
    (fun _ _ _ _ _=>q1u (i:=0) (show (["_law_other", "_law_new"]:List Str).Nodup by decide +kernel) (by rfl) (by exact Or.inl rfl)) (fun _ _ _ _ _=>q8l (q0m q4y (pv 0) q0c (q0o _)))
    (fun _ _ _ _ _=>QE.h (q1d (q1w (q1a (q4c (pv 0) (q5a (q0f (q9u (K:=K) (by rfl)) (pv 1) q0c q0w) (q5a (q0f (q9u (K:=K) (by rfl)) (pv 1) q0c q0w) (q5a (q0f (q9u (K:=K) (by rfl)) (pv 1) q0c q0w) q0v)))))))))
   (@q0p _ _ _ (q0q (q0n CK hr (q0z (pv 2) (q8r (q0n CSt r7 (q0z (pv 1) q0e)) (q0z (pv 9) q0e))))))))))))  ?wS) q0u)
  (@q0j _ _ _ _ _ (q0r (i:=10) x1j.nd (by rfl) (by exact Or.inl rfl) (QE.h (x9s q0g (q3g (q1a (q1a (q1a (q1a (q1a q0v)))))) (q0x q2t (pv 4) q0c) z9s)))
  (@q0j _ _ _ _ _ (q1g (q0m q2u (q0f q0g (pv 3) q0c q0w) q0c (q0o _))
   (PSs.weakP (t':=j5j K G.C) (@q0j _ _ _ _ _ (q0r (i:=11) x1j.nd (by rfl) (by exact Or.inl rfl) (q0l (q2c (by rfl)) (by rfl) T.max q2m (x3w q0c (q9d (q0x q2q (q0x q1o (q0n CE r1 (q2r (q0f q0g (pv 2) q0c q0w) q0e)) (q0f q0g (pv 3) q0c q0w)) q0c) q0e))))
   (@q0j _ _ _ _ _ (q0r (i:=12) x1j.nd (by rfl) (by exact Or.inl rfl) (q0x q6a (q0x q1o (q0l q0t (by rfl) T.len PySem.boot_len (q2r (q0f q0g (pv 2) q0c q0w) q0e)) (q0x q2t (q0f q0g (pv 3) q0c q0w) q0c)) (q2n q5c (by rfl) T.int q6v (j0l (q1v q4g (pv 11) q0c (q0o _)) q0e))))
   (@q0j _ _ _ _ _ (q0r (i:=13) x1j.nd (by rfl) (by exact Or.inl rfl) (QE.h (q1d (q1w (q4c (pv 10) (q1a (q7c (q0l (q2c (by rfl)) (by rfl) T.max q2m (x3w q0c (q9d (q0x q2q (q0x q1o (q0f q0g (pv 2) q0c q0w) (q0f q0g (pv 3) q0c q0w)) q0c) q0e))) (q4c (pv 12) (z6p (q0x q6a (pv 11) (q2n q5c (by rfl) T.int q6v (j0l (q1v q4g (pv 12) q0c (q0o _)) q0e))) q0v)))))))))
   (@q0p _ _ _ (q0q (q0n CK hr (q0z (pv 2) (q8r (q0n CTk r6 (q0z (pv 1) (q0z (pv 13) q0e))) (q8r (q0n CA r2 (q0z (pv 2) (q0z (pv 13) q0e))) q0e))))))))) ?wA) q0u)
  (PSs.weakP (t':=j5j K G.C) (@q0j _ _ _ _ _ (q2g (q0n CHe r1 (q0z (pv 2) (q8r (q0l (q2c (by rfl)) (by rfl) T.max q2m (x3w q0c (q9d (q0x q2q (q0x q1o (q0f q0g (pv 2) q0c q0w) (q0f q0g (pv 3) q0c q0w)) q0c) q0e))) q0e))))
  (@q0j _ _ _ _ _ (q0r (i:=13) x1j.nd (by rfl) (by exact Or.inl rfl) (QE.h (q1d (q1w (q4c (pv 10) (q1a (q5a (q0f q0g (pv 2) q0c q0w) (w0j (q1v q4g (q0f q0g (pv 3) q0c q0w) q0c (q0o _)) (q1a q0v)))))))))
  (@q0p _ _ _ (q0q (q9m (q1v (z6r hr.units0) (q0n CTl r3 (q0z (pv 1) (q0z (pv 13) q0e))) (q4f q0e) (q0o _)) (q8q (q1v (z6r hr.units0) (q0n CBt r1 (q0z (pv 1) (q0z (pv 10) q0e))) (q4f q0e) (q0o _)))))))) ?wH)))),?_⟩
 case wW =>
  clear L q hn hld hd1 hd2 hd3 hsc
  rintro D σ H ⟨G',n,s0,b,c,nx,as,ws,ps,ld,d0,d1,d2,d3,m,hC,rfl,L,hn,hld,hd1,hd2,hd3,hsc,q⟩
  have hS:=SqL.same hsc L.same
  refine⟨_,rfl,_,rfl,ld,_,_,.int d2,rfl,rfl,SqL.of hld,q0a (j:=2) rfl,G'.sc,G'.ns,d2,rfl,hS,hd2,fun H1 t1=>⟨q1n (by show 2≤1000; decide),fun p1 hp1=>?_⟩⟩
  have t2:=q0d (o:=HO.tup [V.str "get",V.str (q3u (q7m G'.ns 1) d2)]) hp1
  generalize upd H1 p1 (.tup [V.str "get",V.str (q3u (q7m G'.ns 1) d2)])=H2 at t2
  have tA:=t1.trans t2
  refine⟨_,rfl,_,rfl,_,rfl,ld,_,_,.int d3,rfl,rfl,SqL.of (tA _ _ hld),q0a (j:=3) rfl,G'.sc,G'.ns,d3,rfl,SqL.same hS tA,hd3,fun H3 t3=>?_⟩
  have tB:=tA.trans t3
  refine⟨_,rfl,ld,_,_,.int d1,rfl,rfl,SqL.of (tB _ _ hld),q0a (j:=1) rfl,_,_,rfl,rfl,_,rfl,q1n (by show 5≤1000; decide),fun p hp=>?_⟩
  have t4:=q0d (o:=HO.tup [V.str "wish",V.str (q3u (q7m G'.ns 1) d3),V.int 4,V.int (1+d1),V.ref p1]) hp
  have gp:upd H3 p (.tup [V.str "wish",V.str (q3u (q7m G'.ns 1) d3),V.int 4,V.int (1+d1),V.ref p1]) p=some (.tup [V.str "wish",V.str (q3u (q7m G'.ns 1) d3),V.int 4,V.int (1+d1),V.ref p1]):=q0b
  have tC:=tB.trans t4
  generalize upd H3 p (.tup [V.str "wish",V.str (q3u (q7m G'.ns 1) d3),V.int 4,V.int (1+d1),V.ref p1])=H4 at gp tC
  have L4:=L.same' tC
  have kv4:=L4.kv
  rw [hC] at kv4
  have kw:(q1p s0 b c nx).way ≠ "head" := by
   show s0.way ≠ "head"
   rcases L.ai.way with e | e <;> rw [e] <;> decide +kernel
  refine⟨G'.a,p, "wish",q3u (q7m G'.ns 1) d3,4,1+d1,.ref p1,q1p s0 b c nx,rfl,kv4,kw,gp,fun l xs H5 hl i1 nl t5=>?_⟩
  have tD:=tC.trans t5
  refine⟨_,rfl,_,rfl,_,rfl,_,rfl,ld,_,_,.int d3,rfl,rfl,SqL.of (tD _ _ hld),q0a (j:=3) rfl,G'.sc,G'.ns,d3,rfl,SqL.same hS tD,hd3,fun H6 t6=>?_⟩
  have tE:=tD.trans t6
  obtain⟨l1,us,O⟩:=L.own
  refine⟨_,rfl,ld,_,_,.int d1,rfl,rfl,SqL.of (tE _ _ hld),q0a (j:=1) rfl,_,_,rfl,rfl,_,rfl,G'.lo,_,_,vcV s0.hd,rfl,rfl,SqL.of (tE _ _ O.at_),q0a (j:=4) rfl,q1n (by show 5≤1000; decide),fun p7 hp7=>⟨q1n (by show 1≤1000; decide),fun p8 hp8=>?_⟩⟩
  have t7:=q0d (o:=HO.tup [V.str "away",V.int 4,V.str (q3u (q7m G'.ns 1) d3),V.int (1+d1),vcV s0.hd]) hp7
  have t8:=q0d (o:=HO.lst [V.ref p7]) hp8
  have t58:=t6.trans (t7.trans t8)
  have tF:=t5.trans t58
  refine L4.fin (E:=E) hn (L4.own.same tF) (L4.kv.same tF) (fun x o _ _ e=>tF _ _ e) L4.ai (t58 _ _ hl) q0b (i1.sameT (q1j t58)) (.cons (.tup (t8 _ _ q0b) (.cons (.str _) (.cons (.int _) (.cons (.str _) (.cons (.int _) (.cons (z6o _) .nil)))))) .nil) nl (none_of (t5.trans (t6.trans t7)) hp8) (fun d hd=>?_) (by show 1≤1000; decide) q
  rw [List.mem_singleton.mp hd]
  refine⟨by show 5≤1000; decide,fun x hx=>?_⟩
  simp only [List.mem_cons,List.not_mem_nil,or_false] at hx
  rcases hx with rfl | rfl | rfl | rfl | rfl
  ·trivial
  ·trivial
  ·trivial
  ·trivial
  ·show x7x 4 (hdD s0.hd)
   cases s0.hd <;> trivial
 case wS =>
  clear L q hn hld hd1 hd2 hd3 hsc
  rintro DD σ H ⟨G',n,s0,b,c,nx,as,ws,ps,ld,d0,d1,d2,d3,m,hC,rfl,L,hn,hld,hd1,hd2,hd3,hsc,q⟩
  obtain⟨l0,us0,O0⟩:=id L.own
  obtain⟨hen,hlen⟩:=L.ai.en L.wok
  have hb:b≤s0.L.length:=Nat.le_trans L.ai.own.ba L.ai.own.al
  refine⟨_,rfl,_,rfl,G'.lo,_,_,.int s0.t,rfl,rfl,SqL.of O0.at_,q0a (j:=0) rfl,_,_,rfl,rfl,G'.lo,G'.l7,s0.t+1,s0,rfl,L.own,fun H1 O1 o1=>?_⟩
  obtain⟨l1,us,O⟩:=O1
  refine⟨_,rfl,G'.lo,_,_,5,rfl,rfl,O.at_,rfl,?_⟩
  refine⟨_,rfl,G'.lo,_,_,6,rfl,rfl,q0b,rfl,?_⟩
  have o2:Off G'.lo H1 (upd (upd H1 G'.lo (.lst ([V.int (q1b s0 (s0.t+1)).t,V.ref l1,V.int (q1b s0 (s0.t+1)).b,V.int (q1b s0 (s0.t+1)).a,vcV (q1b s0 (s0.t+1)).hd,V.str (q1b s0 (s0.t+1)).way,vcV (q1b s0 (s0.t+1)).vc,V.ref G'.l7].set 5 (V.str "standing")))) G'.lo (.lst (([V.int (q1b s0 (s0.t+1)).t,V.ref l1,V.int (q1b s0 (s0.t+1)).b,V.int (q1b s0 (s0.t+1)).a,vcV (q1b s0 (s0.t+1)).hd,V.str (q1b s0 (s0.t+1)).way,vcV (q1b s0 (s0.t+1)).vc,V.ref G'.l7].set 5 (V.str "standing")).set 6 (V.int 4)))):=q0k.trans q0k
  have O2:OsV _ G'.lo G'.l7 (q8g s0) l1 us:=O.put o2 q0b rfl
  generalize (upd (upd H1 G'.lo (.lst ([V.int (q1b s0 (s0.t+1)).t,V.ref l1,V.int (q1b s0 (s0.t+1)).b,V.int (q1b s0 (s0.t+1)).a,vcV (q1b s0 (s0.t+1)).hd,V.str (q1b s0 (s0.t+1)).way,vcV (q1b s0 (s0.t+1)).vc,V.ref G'.l7].set 5 (V.str "standing")))) G'.lo (.lst (([V.int (q1b s0 (s0.t+1)).t,V.ref l1,V.int (q1b s0 (s0.t+1)).b,V.int (q1b s0 (s0.t+1)).a,vcV (q1b s0 (s0.t+1)).hd,V.str (q1b s0 (s0.t+1)).way,vcV (q1b s0 (s0.t+1)).vc,V.ref G'.l7].set 5 (V.str "standing")).set 6 (V.int 4))))=H2 at o2 O2
  have oA:=o1.trans o2
  have eL:(q8g s0).L=s0.L:=by rw [q8n]
  have et:(q8g s0).t=s0.t+1:=by rw [q8n]
  have hE2:=O2.e
  rw [eL] at hE2
  have hat:=O2.at_
  rw [et] at hat
  refine⟨_,rfl,G'.lo,_,_,.ref l1,rfl,rfl,SqL.of hat,q0a (j:=1) rfl,q1n (by show 5≤1000; decide),fun p2 hp2=>?_⟩
  have t2:=q0d (o:=HO.tup [V.int 0,V.int 1,V.int 2,V.int 3,V.int 4]) hp2
  refine⟨l1,p2,us,s0.L,s5,rfl,SqL.of (t2 _ _ O2.r),hE2.same t2,q0b,fun q' hq'=>?_⟩
  generalize upd H2 p2 (.tup [V.int 0,V.int 1,V.int 2,V.int 3,V.int 4])=H3 at t2 hq'
  have hul:=hE2.length
  refine⟨_,rfl,G'.lo,_,_,.int (s0.t+1),rfl,rfl,SqL.of (t2 _ _ hat),q0a (j:=0) rfl,_,rfl,G'.lo,_,_,.ref l1,rfl,rfl,SqL.of (t2 _ _ hat),q0a (j:=1) rfl,l1,us,rfl,.inl (SqL.of (t2 _ _ O2.r)),_,rfl,G'.lo,_,_,.ref l1,rfl,rfl,SqL.of (t2 _ _ hat),q0a (j:=1) rfl,l1,us,s0.L,rfl,SqL.of (t2 _ _ O2.r),hE2.same t2,q1n (by show 3≤1000; decide),fun p3 hp3=>?_⟩
  rw [hul]
  have t3:=q0d (o:=HO.lst [V.int (s0.t+1),V.int (s0.L.length:Int),V.int (q1h 0 s0.L)]) hp3
  have g3:upd H3 p3 (.lst [V.int (s0.t+1),V.int (s0.L.length:Int),V.int (q1h 0 s0.L)]) p3=some (.lst [V.int (s0.t+1),V.int (s0.L.length:Int),V.int (q1h 0 s0.L)]):=q0b
  generalize upd H3 p3 (.lst [V.int (s0.t+1),V.int (s0.L.length:Int),V.int (q1h 0 s0.L)])=H4 at t3 g3
  have hq4:=t3 _ _ hq'
  have hsz:(q1r s5 s0.L).length≤9:=x1v (W:=q8d G'.ns) (C:=q8d G'.ns) (by decide) fun e he=>(hen e he).1
  refine⟨_,rfl,q',rfl,⟨_,SqT.of hq4⟩,z6b (J:=Itt K q') (k:=1) (n:=(q1r s5 s0.L).length) (fun i ys H=>IsTL H ys ((((q1r s5 s0.L).take i).filter fun m => !decide (m=4)).map fun o=>.tup [.str "ask",.int 4,.int o,.int (s0.t+1),.int (s0.L.length:Int),.int (q1h 0 s0.L)])) (by rw [sizeLine_eq]; omega) (fun i ys H H' st h=>h.sameT st) (.nil) (fun i ys H h=>?_) (fun i H5 hi s4=>?_) (fun H5 s4=>?_) ?_ ?_⟩
  ·rw [h.length,List.length_map]
   exact Nat.le_trans (List.length_filter_le _ _) (List.length_take_le _ _)
  ·exact⟨(q1r s5 s0.L).map V.int,.int (q1r s5 s0.L)[i],SqT.of (s4 _ _ hq4),by simp [hi]⟩
  ·exact⟨(q1r s5 s0.L).map V.int,SqT.of (s4 _ _ hq4),by simp⟩
  ·intro i ys H5 t x H6 R hi s4 hW ht y hR1 hR2
   obtain⟨t0,rfl⟩:=q3w ht
   obtain⟨rfl,hy⟩:=y
   have hv:=hy _ (SqT.of (s4 _ _ hq4))
   rw [List.getElem?_map,List.getElem?_eq_getElem hi] at hv
   cases hv
   have g35:=s4 _ _ g3
   refine⟨_,rfl,rfl,_,rfl,?_⟩
   by_cases h4:(q1r s5 s0.L)[i]=4
   ·rw [decide_eq_true (congrArg V.int h4)]
    refine q2p (hR2 [_] _ rfl (q1l.refl _) ?_)
    rw [List.take_succ_eq_append_getElem hi,List.filter_append]
    have:[(q1r s5 s0.L)[i]].filter (fun m => !decide (m=4))=[]:=by rw [List.filter_cons,decide_eq_true h4]; rfl
    rw [this,List.append_nil]
    exact hW
   ·rw [decide_eq_false (fun z=>h4 (V.int.inj z))]
    refine q2z ⟨_,rfl,_,rfl,p3,_,_,.int (s0.t+1),rfl,rfl,SqL.of g35,q0a (j:=0) rfl,_,rfl,p3,_,_,.int (s0.L.length:Int),rfl,rfl,SqL.of g35,q0a (j:=1) rfl,_,rfl,p3,_,_,.int (q1h 0 s0.L),rfl,rfl,SqL.of g35,q0a (j:=2) rfl,q1n (by show 6≤1000; decide),fun p6 hp6=>?_⟩
    have t6:=q0d (o:=HO.tup [V.str "ask",V.int 4,V.int (q1r s5 s0.L)[i],V.int (s0.t+1),V.int (s0.L.length:Int),V.int (q1h 0 s0.L)]) hp6
    refine hR1 [_] _ _ rfl t6 ?_
    rw [List.take_succ_eq_append_getElem hi,List.filter_append]
    have:[(q1r s5 s0.L)[i]].filter (fun m => !decide (m=4))=[(q1r s5 s0.L)[i]]:=by rw [List.filter_cons,decide_eq_false h4]; rfl
    rw [this,List.map_append]
    exact (hW.sameT (q1j t6)).append (.cons (.tup q0b (.cons (.str _) (.cons (.int _) (.cons (.int _) (.cons (.int _) (.cons (.int _) (.cons (.int _) .nil))))))) .nil)
  ·intro D5 H5 ys s5' hD5 hd5 hW
   rw [List.take_length] at hW
   have tA:=t2.trans (t3.trans s5')
   have nla:G'.lo≠G'.a:=L.la O0.at_
   have kv2:K2V G'.C H2 G'.a (q1p s0 b c nx):=L.kv.frame (oA.tupsL O0.at_) fun o e=>oA _ _ nla.symm e
   have kv5:=kv2.same tA
   have kv5':=kv5
   rw [hC] at kv5'
   have kok:KpOk (q1p s0 b c nx):=x2b hen (by omega) L.ai.t0 (q4q _)
   refine⟨_,rfl,_,rfl,G'.a,q1p s0 b c nx,rfl,kv5',kok,z4d hen,fun l xs H7 hl i1 _ nl k7 o7=>?_⟩
   have ek:j1n (stK (q1p s0 b c nx))=(((q1r s5 s0.L).filter fun m => !decide (m=4)).map fun o=>.tup [.str "ask",.int 4,.int o,.int (s0.t+1),.int (s0.L.length:Int),.int (q1h 0 s0.L)]):=by
    unfold j1n z0h
    rw [x5q,q7l (by rw [eL]; exact hb),x8v,x0g,eL]
    show ((q1r s5 s0.L).filter fun m => !decide (m=4)).map (fun o=>D.tup [.str "ask",.int 4,.int o,.int (q8g s0).t,.int (s0.L.length:Int),.int (q1h 0 s0.L)])=_
    rw [et]
   rw [ek] at i1
   rw [x5q,← hC] at k7
   obtain⟨dx,fs,ha5⟩:=kv5.at
   have T7:=o7.tups ha5
   have O7:OsO H7 G'.lo G'.l7 (q8g s0):=(OsO.same ⟨l1,us,O2⟩ tA).off o7 ha5
   have nD:H D5=none:=by
    have n4:=hD5
    have n2':H2 D5=none:=none_of (t2.trans t3) n4
    exact oA.none O2.at_ n2'
   have nL:H l=none:=oA.none O2.at_ (none_of tA nl)
   have nDa:D5≠G'.a:=fun z=>by
    rw [z,ha5] at hd5; cases hd5
   refine⟨_,rfl,L.fin (E:=E) hn O7 k7 (fun x o n1 n2 e=>o7 _ _ n1 (tA _ _ (oA _ _ n2 e))) L.ai.stand hl (o7 _ _ nDa hd5) i1 (hW.sameT T7) nL nD (fun d hd=>?_) ?_ q⟩
   ·obtain⟨o,_,rfl⟩:=List.mem_map.mp hd
    refine⟨by show 6≤1000; decide,fun x hx=>?_⟩
    simp only [List.mem_cons,List.not_mem_nil,or_false] at hx
    rcases hx with rfl | rfl | rfl | rfl | rfl | rfl <;> trivial
   ·rw [List.length_map]
    exact Nat.le_trans (List.length_filter_le _ _) (by omega)
 case wA =>
  clear L q hn hld hd1 hd2 hd3 hsc
  rintro D σ H ⟨one,G',n,s0,b,c,nx,as,ws,ps,ld,d0,d1,d2,d3,m,hC,rfl,L,hn,hld,hd1,hd2,hd3,hsc,q⟩
  obtain⟨l1,us,O⟩:=id L.own
  obtain⟨hen,hlen⟩:=L.ai.en L.wok
  have hb:b≤s0.L.length:=Nat.le_trans L.ai.own.ba L.ai.own.al
  refine⟨_,rfl,G'.lo,_,_,.ref l1,rfl,rfl,SqL.of O.at_,q0a (j:=1) rfl,l1,us,s0.L,rfl,SqL.of O.r,O.e,_,rfl,ld,_,_,.int d2,rfl,rfl,SqL.of hld,q0a (j:=2) rfl,_,_,rfl,rfl,_,_,rfl,rfl,_,_,rfl,?_⟩
  generalize (if q1h 0 s0.L+d2 - 1 > 0 then q1h 0 s0.L+d2 - 1 else 0)=la0
  refine⟨_,rfl,G'.lo,_,_,.ref l1,rfl,rfl,SqL.of O.at_,q0a (j:=1) rfl,l1,us,rfl,.inl (SqL.of O.r),_,rfl,ld,_,_,.int d1,rfl,rfl,SqL.of hld,q0a (j:=1) rfl,_,_,rfl,rfl,(by show (0:Int) < 3; decide),_,_,rfl,rfl,_,rfl,_,_,rfl,rfl,.inr ⟨_,rfl,_,_,rfl,rfl,.inr ?_,?_⟩⟩
  ·constructor <;> split <;> decide
  show q9s 12 (V.int (((us.length:Int)+d1 % 3)*(if decide (0 < la0)=true then (1:Int) else 0))) _ _ _
  generalize ((us.length:Int)+d1 % 3)*(if decide (0 < la0)=true then (1:Int) else 0)=pl
  refine⟨_,rfl,_,rfl,G'.lo,_,_,.int s0.t,rfl,rfl,SqL.of O.at_,q0a (j:=0) rfl,_,rfl,ld,_,_,.int d3,rfl,rfl,SqL.of hld,q0a (j:=3) rfl,_,_,rfl,rfl,_,_,rfl,rfl,_,_,rfl,_,rfl,_,rfl,_,rfl,_,_,rfl,rfl,.inr ⟨_,rfl,_,_,rfl,rfl,.inr ?_,q1n (by show 6≤1000; decide),fun p hp=>?_⟩⟩
  ·constructor <;> split <;> decide
  dsimp only
  generalize la0*(if decide (0 < pl)=true then (1:Int) else 0)=la
  generalize (if s0.t+d3 - 1 > 1 then s0.t+d3 - 1 else 1)=tt
  have t1:=q0d (o:=HO.tup [V.str "ask",V.int one,V.int 4,V.int tt,V.int pl,V.int la]) hp
  have gp:upd H p (.tup [V.str "ask",V.int one,V.int 4,V.int tt,V.int pl,V.int la]) p=some (.tup [V.str "ask",V.int one,V.int 4,V.int tt,V.int pl,V.int la]):=q0b
  generalize upd H p (.tup [V.str "ask",V.int one,V.int 4,V.int tt,V.int pl,V.int la])=H1 at t1 gp
  have L1:=L.same' t1
  have kv1:=L1.kv
  rw [hC] at kv1
  have kok:KpOk (q1p s0 b c nx):=x2b hen (by omega) L.ai.t0 (q4q _)
  obtain⟨dx,fs,ha1⟩:=L1.kv.at
  refine⟨_,rfl,_,rfl,_,rfl,G'.a,p, "ask",one,4,tt,pl,la,q1p s0 b c nx,rfl,kv1,kok,gp,fun l xs H2 hl i1 _ nl k2 o2=>?_⟩
  have T2:=o2.tups ha1
  rw [z7k hb,← hC] at k2
  have ev:j3u (q1p s0 b c nx) one tt pl la=[j6y (q1b s0 tt).t one (x5n (q1b s0 tt) one tt pl la)]:=by
   unfold j3u
   rw [x0c,x8w (by rw [(z1p s0 tt).1]; exact hb)]
   rfl
  rw [ev] at i1
  have O2:=L1.own.off o2 ha1
  refine⟨_,rfl,_,rfl,G'.lo,G'.l7,p, "ask",one,4,tt,pl,la,s0,rfl,O2,T2 _ _ gp,fun l3 xs3 H3 hl3 nl3 i3 O3 o3=>?_⟩
  obtain⟨⟨zs,hlo2⟩,_⟩:=O2.at
  have nlo:l≠G'.lo:=fun z=>by
   rw [z] at nl
   obtain⟨⟨ys,e⟩,_⟩:=L1.own.at
   rw [e] at nl; cases nl
  have nla:G'.lo≠G'.a:=fun z=>by
   obtain⟨⟨ys,e⟩,_⟩:=L1.own.at
   exact L1.la e z
  have T3:=o3.tupsL hlo2
  obtain⟨dx2,fs2,ha2⟩:=k2.at
  refine L1.fin (E:=E) hn O3 (k2.frame T3 fun o e=>o3 _ _ nla.symm e) (fun x o n1 n2 e=>o3 _ _ n2 (o2 _ _ n1 e)) (L1.ai.ask one tt pl la) (o3 _ _ nlo hl) hl3 (i1.sameT T3) i3 nl (o2.none ha2 nl3) (fun d hd=>?_) (by show 1≤1000; decide) q
  rw [List.mem_singleton.mp hd]
  refine⟨by show 5≤1000; decide,fun x hx=>?_⟩
  simp only [List.mem_cons,List.not_mem_nil,or_false] at hx
  rcases hx with rfl | rfl | rfl | rfl | rfl <;> trivial
 case wH =>
  clear L q hn hld hd1 hd2 hd3 hsc
  rintro D σ H ⟨one,G',n,s0,b,c,nx,as,ws,ps,ld,d0,d1,d2,d3,m,hC,rfl,L,hn,hld,hd1,hd2,hd3,hsc,q⟩
  obtain⟨l1,us,O⟩:=id L.own
  refine⟨_,rfl,_,rfl,G'.lo,_,_,.int s0.t,rfl,rfl,SqL.of O.at_,q0a (j:=0) rfl,_,rfl,ld,_,_,.int d2,rfl,rfl,SqL.of hld,q0a (j:=2) rfl,_,_,rfl,rfl,_,_,rfl,rfl,_,_,rfl,G'.lo,G'.l7,_,s0,rfl,L.own,fun H1 O1 o1=>?_⟩
  generalize (if s0.t+d2 - 1 > 1 then s0.t+d2 - 1 else 1)=tt at O1
  obtain⟨l2,us2,O2⟩:=id O1
  have hne:ld≠G'.lo:=fun z=>by rw [z,O.at_] at hld; cases hld
  have hld1:=o1 _ _ hne hld
  have nla:G'.lo≠G'.a:=L.la O.at_
  refine⟨_,rfl,_,rfl,G'.lo,_,_,.int (q1b s0 tt).t,rfl,rfl,SqL.of O2.at_,q0a (j:=0) rfl,_,rfl,ld,_,_,.int d3,rfl,rfl,SqL.of hld1,q0a (j:=3) rfl,_,_,rfl,rfl,q1n (by show 6≤1000; decide),fun p hp=>?_⟩
  have t2:=q0d (o:=HO.tup [V.str "held",V.int one,V.int 4,V.int (q1b s0 tt).t,V.bl (decide (1 < d3)),V.int 1]) hp
  have gp:upd H1 p (.tup [V.str "held",V.int one,V.int 4,V.int (q1b s0 tt).t,V.bl (decide (1 < d3)),V.int 1]) p=some (.tup [V.str "held",V.int one,V.int 4,V.int (q1b s0 tt).t,V.bl (decide (1 < d3)),V.int 1]):=q0b
  generalize upd H1 p (.tup [V.str "held",V.int one,V.int 4,V.int (q1b s0 tt).t,V.bl (decide (1 < d3)),V.int 1])=H2 at t2 gp
  have kv2:K2V G'.C H2 G'.a (q1p s0 b c nx):=(L.kv.frame (o1.tupsL O.at_) fun o e=>o1 _ _ nla.symm e).same t2
  have kv2':=kv2
  rw [hC] at kv2'
  have kw:(q1p s0 b c nx).way ≠ "head" := by
   show s0.way ≠ "head"
   rcases L.ai.way with e | e <;> rw [e] <;> decide +kernel
  refine⟨_,rfl,_,rfl,G'.a,p, "held",one,4,(q1b s0 tt).t,_,q1p s0 b c nx,rfl,kv2',kw,gp,fun l3 H3 h3 n3 k3 o3=>?_⟩
  have ek:q3q (q1p s0 b c nx) (q1b s0 tt).t=q1p (q1b s0 tt) b c nx:=by
   rw [x0c]
   congr 1
   unfold q1b
   by_cases h:tt > s0.t
   ·rw [if_pos h]
    show (if tt > s0.t then _ else _)=_
    rw [if_pos h]
   ·rw [if_neg h,if_neg (Int.lt_irrefl _)]
  rw [ek] at k3
  refine⟨q1n (by show 0≤1000; decide),fun p4 hp4=>?_⟩
  have t4:=q0d (o:=HO.lst []) hp4
  refine⟨l3,p4,[],[],rfl,rfl,SqL.of (t4 _ _ h3),SqL.of q0b,rfl,rfl,_,rfl,q2z ?_⟩
  have kw2:(q1p (q1b s0 tt) b c nx).way ≠ "head" := by
   show (q1b s0 tt).way ≠ "head"
   rcases (L.ai.heard tt).way with e | e <;> rw [e] <;> decide +kernel
  refine⟨_,rfl,_,rfl,G'.a,one,q1p (q1b s0 tt) b c nx,rfl,k3.same t4,kw2,fun l5 H5 h5 n5 t5=>?_⟩
  refine⟨q1n (by show 0≤1000; decide),fun p6 hp6=>?_⟩
  have t6:=q0d (o:=HO.lst []) hp6
  refine⟨l5,p6,[],[],rfl,rfl,SqL.of (t6 _ _ h5),SqL.of q0b,rfl,rfl,?_⟩
  have tZ:=t4.trans (t5.trans t6)
  obtain⟨dx,fs,ha2⟩:=kv2.at
  rw [← hC] at k3
  exact q _ ⟨q1b s0 tt,b,c,nx,as,ws,ps,L.both (k3.same tZ) (((O1.same t2).off o3 ha2).same tZ) (fun x o n1 n2 e=>tZ _ _ (o3 _ _ n1 (t2 _ _ (o1 _ _ n2 e)))) (L.ai.heard tt) (Nat.le_succ _)⟩
 have go:∀ D:Ends,D.rt=Q→ElC K G.C none D [some (.ref G.sc),some (.ref G.a),some (.ref G.lo),some (.ref ld),some (.int m),none,none,none,none,none,none,none,none,none] H:=fun D e=>⟨G,n,s0,b,c,nx,as,ws,ps,ld,d0,d1,d2,d3,m,rfl,rfl,L,hn,hld,hd1,hd2,hd3,hsc,by rw [e]; exact q⟩
 refine⟨_,rfl,ld,_,_,.int d0,rfl,rfl,SqL.of hld,q0a (j:=0) rfl,rfl,_,rfl,q4r (fun _=>go _ rfl) (fun _=>?_)⟩
 refine⟨_,rfl,ld,_,_,.int d0,rfl,rfl,SqL.of hld,q0a (j:=0) rfl,rfl,_,rfl,q4r (fun _=>go _ rfl) (fun _=>?_)⟩
 refine⟨q1n (by show 5≤1000; decide),fun p hp=>?_⟩
 have t1:=q0d (o:=HO.lst [V.int 0,V.int 1,V.int 2,V.int 3,V.int 8]) hp
 obtain⟨y0,y1⟩:=q2j m (m:=5) (by decide)
 obtain⟨one,hone⟩:∃ one:Int,atI [V.int 0,V.int 1,V.int 2,V.int 3,V.int 8] (m % 5)=some (.int one):=by
  generalize m % 5=r at y0 y1
  rcases (show r=0∨r=1∨r=2∨r=3∨r=4 by omega) with rfl | rfl | rfl | rfl | rfl <;> exact⟨_,rfl⟩
 refine⟨_,rfl,_,_,rfl,rfl,(by show (0:Int) < 5; decide),p,_,_,.int one,rfl,rfl,SqL.of q0b,hone,?_⟩
 generalize upd H p (.lst [V.int 0,V.int 1,V.int 2,V.int 3,V.int 8])=H1 at t1
 have go2:∀ D:Ends,D.rt=Q→j5j K G.C D [some (.ref G.sc),some (.ref G.a),some (.ref G.lo),some (.ref ld),some (.int m),none,none,none,none,none,some (.int one),none,none,none] H1:=fun D e=>⟨one,G,n,s0,b,c,nx,as,ws,ps,ld,d0,d1,d2,d3,m,rfl,rfl,L.same' t1,hn,t1 _ _ hld,hd1,hd2,hd3,hsc,by rw [e]; exact q⟩
 exact⟨_,rfl,ld,_,_,.int d0,rfl,rfl,SqL.of (t1 _ _ hld),q0a (j:=0) rfl,rfl,_,rfl,q4r (fun _=>go2 _ rfl) (fun _=>go2 _ rfl)⟩
noncomputable def st0:Os:=⟨0,[],0,0,none, "plain",none⟩
theorem j8d (nx:Int):q1p st0 0 0 nx=⟨4,0,none,none, "plain",0,[],⟨0,0,s5,([],[])⟩,0,0,[],([],[]),nx⟩:=by
 unfold q1p
 rw [if_neg (show ¬ st0.way = "standing" by decide +kernel)]
 rfl
noncomputable def z5a (K:Frag):Sp:=fun vs H Q _=>∃ (a:Addr) (ns:List Int),vs=[.ref a]∧SqL K H a (ns.map V.int)∧ns.length≤63∧∀ H',Q (.bl true) H'
noncomputable def j8g (K:Frag) (C:Addr):TS:=fun D σ H=>∃ (G:Fx) (s2:Option V),G.C=C∧σ=[some (.ref G.sc),some (.ref G.a),s2,some (.ref G.lw),some (.ref G.lo),none,none,none,none,none,none,none]∧LX G 0 H∧SqL K G.H0 G.sc (G.ns.map V.int)∧G.ns.length≤63∧∀ H',D.rt (.bl true) H'
noncomputable def j9b (C:Addr):TS:=fun D σ H=>∃ (G:Fx) (n:Nat) (s2 s5 s6 s7 s8 s9 s10:Option V),G.C=C∧σ=[some (.ref G.sc),some (.ref G.a),s2,some (.ref G.lw),some (.ref G.lo),s5,s6,s7,s8,s9,s10,none]∧n≤62∧LX G n H∧∀ H',D.rt (.bl true) H'
noncomputable def j6s (K:Frag) (C:Addr):TS:=fun D σ H=>∃ (G:Fx) (n:Nat) (s:Os) (b c:Nat) (nx:Int) (as:List Addr) (ws:List Hd4) (ps:List V) (ld:Addr) (d0 d1 d2 d3 m:Int) (s2 s5 s8 s9 s10 s11:Option V),G.C=C∧σ=[some (.ref G.sc),some (.ref G.a),s2,some (.ref G.lw),some (.ref G.lo),s5,some (.int m),some (.ref ld),s8,s9,s10,s11]∧LI G n H s b c nx as ws ps∧n≤61∧H ld=some (.lst [.int d0,.int d1,.int d2,.int d3])∧0≤d1∧0≤d2∧0≤d3∧SqL K G.H0 G.sc (G.ns.map V.int)∧∀ (s8 s9 s10:Option V) (H':Hp),LX G (n+1) H'→D.nx [some (.ref G.sc),some (.ref G.a),s2,some (.ref G.lw),some (.ref G.lo),s5,some (.int m),some (.ref ld),s8,s9,s10,s11] H'
noncomputable def j9a (C:Addr):TS:=fun D σ H=>∃ (G:Fx) (n:Nat) (s:Os) (b c:Nat) (nx:Int) (as:List Addr) (ws:List Hd4) (ps:List V) (pl:Nat) (s2 s5 s6 s7 s10 s11:Option V),G.C=C∧σ=[some (.ref G.sc),some (.ref G.a),s2,some (.ref G.lw),some (.ref G.lo),s5,s6,s7,some (.int (pl:Int)),some (.bl (decide (b < pl∧pl≤c))),s10,s11]∧LI G n H s b c nx as ws ps∧n≤61∧∀ (s10:Option V) (H':Hp),LX G (n+1) H'→D.nx [some (.ref G.sc),some (.ref G.a),s2,some (.ref G.lw),some (.ref G.lo),s5,s6,s7,some (.int (pl:Int)),some (.bl (decide (b < pl∧pl≤c))),s10,s11] H'
theorem q9q:FnScope ["_law_script", "_law_keeper", "_law_first", "_law_world_here", "_law_own", "_law_at", "_law_number", "_law_some", "_law_place", "_law_due", "_law_told", "_law_pair"] ["_law_script"] (q0h z5c):=fSc
theorem j3f {f fI fW:Addr} {fd dI dW:FuncData} {C:Addr} {pa pb:Str} (Y:KpC K C) (F:Fun K "law" "law" z5c f fd) (T:Txt mg) (glK:mg "Keeper" = some (.ref C)) (MI:Mk K C fI) (FI:FnOk P w K mg base CX0 4 fI dI ["self",pa,pb] (j0b C)) (bI:q3p K dI ["self",pa,pb] []) (MW:Meth K C "wake" fW) (FW:FnOk P w K mg base CX0 3 fW dW ["self"] (j3n C)) (bW:q3p K dW ["self"] [])
  (CX:Cal P w K mg base "_law_mixed" 2 ["_law_script", "_law_k"] (x7i K)) (CD:Cal P w K mg base "_law_drawn" 1 ["_law_number", "_law_sizes"] x7m) (CW:Cal P w K mg base "_law_world" 6 ["_law_script", "_law_world_here", "_law_some", "_law_number", "_law_term"] (z8v K)) (CL:Cal P w K mg base "_law_else" 9 ["_law_script", "_law_keeper", "_law_own", "_law_some", "_law_number"] (z9f K C)) (CT:Cal P w K mg base "_law_taken" 9 ["_law_keeper", "_law_own", "_law_world_here", "_law_some", "_law_number"] (z8z C)) (CU:Cal P w K mg base "pack_up" 8 ["keeper", "place"] (j6x C)) (CN:Cal P w K mg base "_law_stands" 4 ["_law_keeper", "_law_own"] (z9n C)):FnOk P w K mg base CX0 10 f fd ["_law_script"] (z5a K):=by
 refine F.ok q9q (by rintro _ _ _ _⟨_,_,rfl,_⟩; rfl) (fun _ A _ s H vs Q E hr h=>?_)
 obtain⟨sc,ns,rfl,hS,hlen,q⟩:=h
 have r1:=hr.mono (show 1≤9 by omega)
 have r2:=hr.mono (show 2≤9 by omega)
 have r4:=hr.mono (show 4≤9 by omega)
 have r6:=hr.mono (show 6≤9 by omega)
 have r8:=hr.mono (show 8≤9 by omega)
 have rI:=hr.mono (show 4+1≤9 by omega)
 have rW:=hr.mono (show 3≤9 by omega)
 refine⟨_,@q0j _ _ _ _ _ (q0r (i:=1) q9q.nd (by rfl) (by exact Or.inl rfl) (z7l MI FI rI (by rfl) glK bI .nil q7n (x3w q0c (z4a (QE.h (q1d (q1a (q1a (q1a (q1a (q1a q0v))))))) q0e))))
  (@q0j _ _ _ _ _ (q0r (i:=2) q9q.nd (by rfl) (by exact Or.inl rfl) (q0x q1o q0c (q0x q6a (q0x z7a q0c q0c) (q2n q5c (by rfl) T.int q6v (j0l (q1v q2u (q0x q2t (q0n CX r2 (q0z (pv 0) (x3w q0c q0e))) q0c) q0c (q0o _)) q0e)))))
  (@q0j _ _ _ _ _ (q0r (i:=3) q9q.nd (by rfl) (by exact Or.inl rfl) (QE.h (q3g (x8b (q4c (pv 2) (x8b (q4l (q4c (pv 2) (q4l (q1w q0v) q0v)) q0v) (q1a q0v))) q0v))))
  (@j5n _ _ _ _ _ (j1d (i:=4) q9q.nd (by rfl) (by exact Or.inl rfl) (q3g (q1a (x8b q0v (q1a (q1a (x7o (q1w (x7o (x8b q0v q0v))))))))) j7y)
  (PSs.weakP (t':=j8g K C) (@q0j _ _ _ _ _ (q7d PassesOwn.never (by rfl) (z2k (by rfl) T.range (x3w q0c (q8r (q0l (q4a (by rfl)) (by rfl) T.min q4u (q8r (q0l q0t (by rfl) T.len PySem.boot_len (q0z (pv 0) q0e)) (x3w q0c q0e))) q0e))) (q1u (i:=5) q9q.nd (by rfl) (by exact Or.inl rfl))
   (@q0j _ _ _ _ _ (q0r (i:=6) q9q.nd (by rfl) (by exact Or.inl rfl) (q0n CX r2 (q0z (pv 0) (q0z (pv 5) q0e))))
   (@q0j _ _ _ _ _ (q0r (i:=7) q9q.nd (by rfl) (by exact Or.inl rfl) (q0n CD r1 (q0z (pv 6) (j0i (QE.h (q3g (q1a (q1a (q1a (q1a q0v)))))) q0e))))
   (@q0j _ _ _ _ _ (PS.weakP (t':=j6s K C) (q1g (q0m x3g (q0f q0g (pv 7) q0c q0w) q0c (q0o _))
    (@q0p _ _ _ (q2g (q0n CW r6 (q0z (pv 0) (q0z (pv 3) (q0z (pv 7) (q9d (q0x q3j (pv 6) q0c) (q2r (q0f q0g (pv 4) q0c q0w) q0e))))))))
    (@q0p _ _ _ (q1g (q0m q4g (q0f q0g (pv 7) q0c q0w) q0c (q0o _))
     (@q0p _ _ _ (q1g (q7e (q3c (q0n CL hr (q0z (pv 0) (q0z (pv 1) (q0z (pv 4) (q0z (pv 7) (q9d (q0x q3j (pv 6) q0c) q0e)))))))) (@q0p _ _ _ (q0q q4v)) q0u))
     (@q0p _ _ _ (q1g (q0m q2u (q0f q0g (pv 7) q0c q0w) q0c (q0o _))
      (@q0j _ _ _ _ _ (q2g (q8o (pv 1) Y.cl MW FW rW bW .nil q7n))
      (@q0j _ _ _ _ _ (q3b (q0f q0g (pv 4) q0c q0w) (q3d (pv 4) q0c q1s))
      (@q0j _ _ _ _ _ (q3b q8k (q3d (pv 4) q0c q1s))
      (@q0p _ _ _ (q3b q2k (q3d (pv 4) q0c q1s))))))
      (@q0p _ _ _ (q1g (q0m q2u (q0f q0g (pv 7) q0c q0w) q0c (q0o _))
       (@q0j _ _ _ _ _ (q0r (i:=8) q9q.nd (by rfl) (by exact Or.inl rfl) (q0x q2t (q0x q3j (pv 6) q0c) (q0x q1o (q0l q0t (by rfl) T.len PySem.boot_len (q2r (q0f q0g (pv 4) q0c q0w) q0e)) q0c)))
       (@q0j _ _ _ _ _ (q0r (i:=9) q9q.nd (by rfl) (by exact Or.inl rfl) (q9m (q1v q4g (pv 8) (q0f q0g (pv 4) q0c q0w) (q0o _)) (q8q (q1v x3s (pv 8) (q0f q0g (pv 4) q0c q0w) (q0o _)))))
       (PSs.weakP (t':=j9a C) (@q0j _ _ _ _ _ (q0r (i:=10) q9q.nd (by rfl) (by exact Or.inl rfl) (q0n CU r8 (q0z (pv 1) (q0z (pv 8) q0e))))
       (@q0j _ _ _ _ _ (q1g (PW.pt (q4d (q7e (q3c (q0l q1x (by rfl) T.isi q1z (q0z (pv 10) (q0z (q5r (by rfl) T.bool x0o) q0e))))) (q2s (q0m q4y (pv 10) (pv 9) (q0o _))))) (@q0p _ _ _ (q0q q4v)) q0u)
       (@q0p _ _ _ (q3b (q0l (q2c (by rfl)) (by rfl) T.max q2m (q2r (q0f q0g (pv 4) q0c q0w) (q9d (q0x q6a (pv 8) (q2n q5c (by rfl) T.int q6v (q0z (pv 9) q0e))) q0e))) (q3d (pv 4) q0c q1s))))) ?wp)))
       (@q0p _ _ _ (q1g (q7e (q3c (q0n CT hr (q0z (pv 1) (q0z (pv 4) (q0z (pv 3) (q0z (pv 7) (q9d (q0x q3j (pv 6) q0c) q0e)))))))) (@q0p _ _ _ (q0q q4v)) q0u))))))))) ?wc)
   (@q0p _ _ _ (q1g (q7e (q3c (q0n CN r4 (q0z (pv 1) (q0z (pv 4) q0e))))) (@q0p _ _ _ (q0q q4v)) q0u))))))
  (PSs.weakP (t':=j9b C) (@q0j _ _ _ _ _ (q7d PassesOwn.never (by rfl) (q7r (q0f q0g (pv 4) q0c q0w)) (q1u (i:=11) q9q.nd (by rfl) (by exact Or.inl rfl)) (@q0p _ _ _ (q1g (q0m (z8g hr.units100) (q0f q0g (pv 11) q0c q0w) (q0f q0g (pv 11) q0c q0w) (q0o _)) (@q0p _ _ _ (q0q q4v)) q0u)))
  (@q0p _ _ _ (q0q (q0n CN r4 (q0z (pv 1) (q0z (pv 4) q0e)))))) ?we)) ?wm)))),?_⟩
 case wp =>
  clear hS hlen q
  rintro D σ H ⟨G,n,s0,b,c,nx,as,ws,ps,pl,s2,s5,s6,s7,s10,s11,hC,rfl,L,hn,q⟩
  obtain⟨hen,hlen⟩:=L.ai.en L.wok
  have hb:b≤s0.L.length:=Nat.le_trans L.ai.own.ba L.ai.own.al
  have kok:KpOk (q1p s0 b c nx):=x2b hen (by omega) L.ai.t0 (q4q _)
  obtain⟨dx,fs,ha⟩:=L.kv.at
  have kv:=L.kv
  rw [hC] at kv
  have hend:(q1p s0 b c nx).ag≤(q1p s0 b c nx).b+((q1p s0 b c nx).es.length:Int):=by
   rw [q7l hb]
   show (c:Int)≤(s0.L.length:Int)
   have:=L.ai.own.al
   omega
  refine⟨_,rfl,_,rfl,G.a,pl,q1p s0 b c nx,q8d G.ns,q8d G.ns,rfl,kv,kok,j3k hen (q4q _),rfl,rfl,by show (0:Int)≤(b:Int); omega,hend,fun hno H1 k1 o1=>?_,fun k hk1 hpk hpc H1 k1 o1=>?_⟩
  ·have hno:¬ (b < pl∧pl≤c):=by
    have hno:(pl:Int)≤(b:Int)∨(c:Int) < (pl:Int):=hno
    omega
   rw [decide_eq_false hno] at q ⊢
   rw [← hC] at k1
   obtain⟨l1,us,O⟩:=L.own.off o1 ha
   refine⟨_,rfl,_,_,_,_,rfl,.bl _,x0d K (.bl false),_,rfl,q2p ⟨_,rfl,_,rfl,rfl,_,rfl,?_⟩⟩
   rw [decide_eq_true rfl]
   refine q2p ⟨_,rfl,G.lo,_,_,.int s0.b,rfl,rfl,SqL.of O.at_,q0a (j:=2) rfl,_,rfl,_,rfl,.inr ⟨_,rfl,_,_,rfl,rfl,.inr ⟨by decide,by decide⟩,_,_,rfl,_,rfl,G.lo,_,_,2,rfl,rfl,O.at_,rfl,?_⟩⟩
   refine q _ _ ⟨s0,b,c,nx,as,ws,ps,L.both (k1.frame (Off.tupsL q0k O.at_) fun o e=>q0k _ _ (fun z=>by
    obtain⟨dx2,fs2,h2⟩:=k1.at
    rw [z,O.at_] at h2; cases h2) e) ⟨l1,us,O.put q0k ?_ rfl⟩ (fun x o n1 n2 e=>q0k _ _ n2 (o1 _ _ n1 e)) L.ai (Nat.le_succ _)⟩
   rw [q0b]
   have e1:(if (pl:Int)*(if false=true then (1:Int) else 0) > s0.b then (pl:Int)*(if false=true then (1:Int) else 0) else s0.b)=s0.b:=by
    rw [if_neg Bool.false_ne_true,Int.mul_zero,L.ai.hb,if_neg (by omega)]
   show some (HO.lst [V.int s0.t,V.ref l1,V.int (if (pl:Int)*(if false=true then (1:Int) else 0) > s0.b then (pl:Int)*(if false=true then (1:Int) else 0) else s0.b),V.int s0.a,vcV s0.hd,V.str s0.way,vcV s0.vc,V.ref G.l7])=_
   rw [e1]
  ·have hpk:(pl:Int)=(b:Int)+(k:Int):=hpk
   have hpc:(pl:Int)≤(c:Int):=hpc
   have hyes:b < pl∧pl≤c:=by omega
   obtain rfl:pl=b+k:=by omega
   rw [decide_eq_true hyes] at q ⊢
   have hcl:=L.ai.own.al
   rw [z4e (by omega),← hC] at k1
   obtain⟨l1,us,O⟩:=L.own.off o1 ha
   refine⟨_,rfl,_,_,_,_,rfl,.bl _,x0d K (.bl true),_,rfl,q2p ⟨_,rfl,_,rfl,rfl,_,rfl,?_⟩⟩
   rw [decide_eq_true rfl]
   refine q2p ⟨_,rfl,G.lo,_,_,.int s0.b,rfl,rfl,SqL.of O.at_,q0a (j:=2) rfl,_,rfl,_,rfl,.inr ⟨_,rfl,_,_,rfl,rfl,.inr ⟨by decide,by decide⟩,_,_,rfl,_,rfl,G.lo,_,_,2,rfl,rfl,O.at_,rfl,?_⟩⟩
   refine q _ _ ⟨{ s0 with b:=((b+k:Nat):Int) },b+k,c,nx,as,ws,ps,L.both (k1.frame (Off.tupsL q0k O.at_) fun o e=>q0k _ _ (fun z=>by
    obtain⟨dx2,fs2,h2⟩:=k1.at
    rw [z,O.at_] at h2; cases h2) e) ⟨l1,us,O.put q0k ?_ rfl⟩ (fun x o n1 n2 e=>q0k _ _ n2 (o1 _ _ n1 e)) (L.ai.packup hyes.2) (Nat.le_succ _)⟩
   rw [q0b]
   have e1:(if ((b+k:Nat):Int)*(if true=true then (1:Int) else 0) > s0.b then ((b+k:Nat):Int)*(if true=true then (1:Int) else 0) else s0.b)=((b+k:Nat):Int):=by
    rw [if_pos (show true=true from rfl),Int.mul_one,L.ai.hb,if_pos (by omega)]
   show some (HO.lst [V.int s0.t,V.ref l1,V.int (if ((b+k:Nat):Int)*(if true=true then (1:Int) else 0) > s0.b then ((b+k:Nat):Int)*(if true=true then (1:Int) else 0) else s0.b),V.int s0.a,vcV s0.hd,V.str s0.way,vcV s0.vc,V.ref G.l7])=_
   rw [e1]
 case wc =>
  clear hS hlen q
  rintro D σ H ⟨G,n,s0,b,c,nx,as,ws,ps,ld,d0,d1,d2,d3,m,s2,s5,s8,s9,s10,s11,hC,rfl,L,hn,hld,hd1,hd2,hd3,hsc,q⟩
  obtain⟨l1,us,O⟩:=id L.own
  refine⟨_,rfl,ld,_,_,.int d0,rfl,rfl,SqL.of hld,q0a (j:=0) rfl,_,_,rfl,rfl,_,rfl,q4r (fun _=>?_) (fun _=>?_)⟩
  ·refine⟨_,rfl,_,rfl,_,rfl,_,rfl,_,_,rfl,rfl,⟨by decide,by decide⟩,_,rfl,G.lo,_,_,.int s0.t,rfl,rfl,SqL.of O.at_,q0a (j:=0) rfl,G.sc,G.lw,ld,G.ns,d0,d1,d2,d3,_,s0.t,[G.lo,G.l7],as,ws,3*n+1,rfl,SqL.same hsc L.same,hld,hd1,L.wo,L.wok,by omega,fun x hx=>?_,fun H' as' ws' wo wok g fr nw=>q _ _ _ H' ⟨_,_,_,_,_,_,_,L.world wo wok g fr nw⟩⟩
   simp only [List.mem_cons,List.not_mem_nil,or_false] at hx
   rcases hx with rfl | rfl
   ·exact⟨_,O.at_⟩
   ·exact⟨_,L.h7⟩
  refine⟨_,rfl,ld,_,_,.int d0,rfl,rfl,SqL.of hld,q0a (j:=0) rfl,_,_,rfl,rfl,_,rfl,q4r (fun _=>?_) (fun _=>?_)⟩
  ·exact⟨_,rfl,_,rfl,_,rfl,_,rfl,_,rfl,_,_,rfl,rfl,⟨by decide,by decide⟩,G,n,s0,b,c,nx,as,ws,ps,ld,d0,d1,d2,d3,_,hC,rfl,L,hn,hld,hd1,hd2,hd3,hsc,fun H' LX'=>⟨_,rfl,q2p (q _ _ _ H' LX')⟩⟩
  refine⟨_,rfl,ld,_,_,.int d0,rfl,rfl,SqL.of hld,q0a (j:=0) rfl,rfl,_,rfl,q4r (fun _=>?_) (fun _=>?_)⟩
  ·obtain⟨dx,fs,vp,vr,vst,an,ah,av,aw,ha,ff,ok,S⟩:=id L.kv
   rw [hC] at ha
   have kv:=L.kv
   rw [hC] at kv
   refine⟨_,rfl,G.a,dx,fs,rfl,ha,ok.no (by decide +kernel),G.a,q1p s0 b c nx,rfl,kv,fun H1 k1 o1=>?_⟩
   obtain⟨l2,us2,O2⟩:=L.own.off o1 ha
   refine⟨_,rfl,G.lo,_,_,.int s0.b,rfl,rfl,SqL.of O2.at_,q0a (j:=2) rfl,_,rfl,G.lo,_,_,3,rfl,rfl,O2.at_,rfl,?_⟩
   refine⟨_,rfl,G.lo,_,_,4,rfl,rfl,q0b,rfl,?_⟩
   refine⟨_,rfl,G.lo,_,_,5,rfl,rfl,q0b,rfl,?_⟩
   rw [z5z,← hC] at k1
   have nla:G.lo≠G.a:=L.la O.at_
   refine q _ _ _ _ ⟨z7u s0,b,b,_,as,ws,ps,L.both (k1.frame (Off.tupsL (q0k.trans (q0k.trans q0k)) O2.at_) fun o e=>?_) ⟨l2,us2,O2.put ?_ q0b rfl⟩ (fun x o n1 n2 e=>?_) L.ai.wake (Nat.le_succ _)⟩
   ·exact q0k _ _ nla.symm (q0k _ _ nla.symm (q0k _ _ nla.symm e))
   ·exact q0k.trans (q0k.trans q0k)
   ·exact q0k _ _ n2 (q0k _ _ n2 (q0k _ _ n2 (o1 _ _ n1 e)))
  refine⟨_,rfl,ld,_,_,.int d0,rfl,rfl,SqL.of hld,q0a (j:=0) rfl,rfl,_,rfl,q4r (fun _=>?_) (fun _=>?_)⟩
  ·refine⟨_,rfl,_,_,rfl,rfl,⟨by decide,by decide⟩,_,rfl,G.lo,_,_,.ref l1,rfl,rfl,SqL.of O.at_,q0a (j:=1) rfl,l1,us,rfl,.inl (SqL.of O.r),_,_,rfl,rfl,_,_,rfl,rfl,(by show (0:Int) < (us.length:Int)+3; omega),?_⟩
   obtain⟨z0,z1⟩:=q2j (m / 2592) (m:=(us.length:Int)+3) (by omega)
   obtain⟨pl,epl⟩:∃ pl:Nat,m / 2592 % ((us.length:Int)+3)=(pl:Int):=⟨(m / 2592 % ((us.length:Int)+3)).toNat,by omega⟩
   show q9s 8 (V.int (m / 2592 % ((us.length:Int)+3))) _ _ _
   rw [epl]
   have hat:=O.at_
   rw [L.ai.hb,L.ai.ha] at hat
   refine⟨_,rfl,_,rfl,G.lo,_,_,.int (b:Int),rfl,rfl,SqL.of hat,q0a (j:=2) rfl,_,_,rfl,rfl,_,rfl,?_⟩
   by_cases h1:b < pl
   ·rw [decide_eq_true (show (b:Int) < (pl:Int) by omega)]
    refine q2z ⟨_,rfl,_,rfl,G.lo,_,_,.int (c:Int),rfl,rfl,SqL.of hat,q0a (j:=3) rfl,_,_,rfl,rfl,?_⟩
    have e:decide ((pl:Int)≤(c:Int))=decide (b < pl∧pl≤c):=decide_eq_decide.mpr (by omega)
    show q9s 9 (V.bl (decide ((pl:Int)≤(c:Int)))) _ _ _
    rw [e]
    exact⟨G,n,s0,b,c,nx,as,ws,ps,pl,_,_,_,_,_,_,hC,rfl,L,hn,fun s10 H' LX'=>q _ _ _ H' LX'⟩
   ·rw [decide_eq_false (show ¬ (b:Int) < (pl:Int) by omega)]
    have e:false=decide (b < pl∧pl≤c):=(decide_eq_false (fun z=>h1 z.1)).symm
    refine q2p ?_
    rw [e]
    exact⟨G,n,s0,b,c,nx,as,ws,ps,pl,_,_,_,_,_,_,hC,rfl,L,hn,fun s10 H' LX'=>q _ _ _ H' LX'⟩
  ·exact⟨_,rfl,_,rfl,_,rfl,_,rfl,_,rfl,_,_,rfl,rfl,⟨by decide,by decide⟩,G,n,s0,b,c,nx,as,ws,ps,ld,d0,d1,d2,d3,_,hC,rfl,L,hn,hld,fun H' LX'=>⟨_,rfl,q2p (q _ _ _ H' LX')⟩⟩
 case we =>
  clear hS hlen q
  rintro D σ H ⟨G,n,s2,s5,s6,s7,s8,s9,s10,hC,rfl,hn,⟨s0,b,c,nx,as,ws,ps,L⟩,q⟩
  obtain⟨l1,us,O⟩:=id L.own
  refine⟨_,rfl,G.lo,_,_,.ref G.l7,rfl,rfl,SqL.of O.at_,q0a (j:=7) rfl,G.l7,rfl,⟨_,SqL.of L.h7⟩,q9z (K:=K) (a:=G.l7) (xs:=ps) (fun i σ H'=>∃ s11,σ=[some (.ref G.sc),some (.ref G.a),s2,some (.ref G.lw),some (.ref G.lo),s5,s6,s7,s8,s9,s10,s11]∧q1l H H') ⟨none,rfl,q1l.refl _⟩ (fun i σ H' _ ⟨_,_,s⟩=>SqL.of (s _ _ L.h7)) ?_ ?_⟩
  ·rintro i x σ H' hx ⟨s11,rfl,s⟩
   obtain⟨pl,f1,u1,xs,ys,ds,rfl,h1,h2,h3,h4,h5,h6,_⟩:=L.all x (List.mem_of_getElem? hx)
   have h4':=h4.sameT (q1j s)
   have h5':=h5.sameT (q1j s)
   exact⟨_,rfl,pl,_,_,.ref f1,rfl,rfl,SqL.of (s _ _ h1),q0a (j:=0) rfl,_,rfl,pl,_,_,.ref u1,rfl,rfl,SqL.of (s _ _ h1),q0a (j:=1) rfl,f1,u1,xs,ys,5,rfl,rfl,SqL.of (s _ _ h2),SqL.of (s _ _ h3),h4'.length.trans h5'.length.symm,IsTL.alike 5 h6 h4' h5',by decide,_,rfl,q2p ⟨_,rfl,s⟩⟩
  ·rintro σ H' ⟨s11,rfl,s⟩
   exact⟨_,rfl,_,rfl,G,n,s0,b,c,nx,as,ws,ps,hC,rfl,L.same' s,hn,fun H2 _=>q H2⟩
 case wm =>
  clear hS hlen q
  rintro D σ H ⟨G,s2,hC,rfl,⟨s0,b,c,nx,as,ws,ps,L⟩,hS,hlen,q⟩
  refine⟨_,rfl,G.sc,_,rfl,.inl (SqL.same hS L.same),_,_,rfl,_,_,rfl,⟨by decide,by decide,by rw [List.length_map]; split <;> omega,by rw [List.length_map]; split <;> omega⟩,?_⟩
  rw [List.length_map]
  have hmn:(if (64:Int) < (G.ns.length:Int) then (64:Int) else (G.ns.length:Int))=(G.ns.length:Int):=if_neg (by omega)
  rw [hmn]
  refine x4d (n:=_) (fun i σ H'=>∃ (s5 s6 s7 s8 s9 s10:Option V),σ=[some (.ref G.sc),some (.ref G.a),s2,some (.ref G.lw),some (.ref G.lo),s5,s6,s7,s8,s9,s10,none]∧i≤61∧LX G i H') ⟨_,_,_,_,_,_,rfl,by omega,s0,b,c,nx,as,ws,ps,L⟩ ?_ ?_
  ·rintro i σ He hi ⟨s5,s6,s7,s8,s9,s10,rfl,hi61,s1,b1,c1,nx1,as1,ws1,ps1,Le⟩
   refine⟨_,rfl,_,rfl,G.sc,G.ns,_,rfl,SqL.same hS Le.same,by omega,?_⟩
   refine⟨_,rfl,q1n (by show 4≤1000; decide),fun l hl'=>?_⟩
   have sl:=q0d (o:=HO.lst (([18,12,3,4]:List Int).map V.int)) hl'
   refine⟨_,l,[18,12,3,4],rfl,q0b,by decide,by decide,fun rs ds Hf hrs hds hb sf=>?_⟩
   have Lf:=Le.same' (sl.trans sf)
   obtain⟨d0,d1,d2,d3,rfl⟩:∃ d0 d1 d2 d3,ds=[d0,d1,d2,d3]:=by
    match ds,hds with
    | [d0,d1,d2,d3],_=>exact⟨_,_,_,_,rfl⟩
   refine⟨G,i,s1,b1,c1,nx1,as1,ws1,ps1,rs,d0,d1,d2,d3,_,_,_,_,_,_,_,hC,rfl,Lf,by omega,hrs,(hb 1 12 d1 rfl rfl).1,(hb 2 3 d2 rfl rfl).1,(hb 3 4 d3 rfl rfl).1,hS,fun s8 s9 s10 Hg ⟨s3,b3,c3,nx3,as3,ws3,ps3,Lg⟩=>?_⟩
   exact⟨_,rfl,_,rfl,G,i+1,s3,b3,c3,nx3,as3,ws3,ps3,hC,rfl,Lg,by omega,fun Hh sh=>⟨_,rfl,q2p ⟨_,_,_,_,_,_,rfl,by omega,s3,b3,c3,nx3,as3,ws3,ps3,Lg.same' sh⟩⟩⟩
  ·rintro σ He ⟨s5,s6,s7,s8,s9,s10,rfl,hi61,Le⟩
   exact⟨G,_,_,_,_,_,_,_,_,hC,rfl,by omega,Le,q⟩
 refine⟨q1n (by show 5≤1000; decide),fun sp hsp=>fun a dx ha hdx hne=>?_⟩
 have u1:=q0d (o:=HO.tup (s5.map V.int)) hsp
 have g1:upd H sp (.tup (s5.map V.int)) sp=some (.tup (s5.map V.int)):=q0b
 have na:H a=none:=none_of u1 ha
 generalize hH1:upd H sp (.tup (s5.map V.int))=H1 at u1 g1
 have ha:H1 a=none:=by rw [← hH1]; exact ha
 have hdx:H1 dx=none:=by rw [← hH1]; exact hdx
 have gM:q1l H1 (upd (upd H1 dx (.own a)) a (.ins C dx [])):=(q0d hdx).trans (q0d (by rw [q1c (fun z=>hne z.symm)]; exact ha))
 have fin:j0b C [.ref a,.int 4,.ref sp] (upd (upd H1 dx (.own a)) a (.ins C dx [])) (fun v H2=>v=.non∧∀ (Hz:Hp),True) E∨True:=.inr trivial
 clear fin
 have hgo:upd (upd (upd H sp (.tup (s5.map V.int))) dx (.own a)) a (.ins C dx [])=upd (upd H1 dx (.own a)) a (.ins C dx []):=by rw [hH1]
 refine⟨a,sp,dx,4,s5,rfl,q0b,?_,fun Hd hk od=>⟨rfl,?_⟩⟩
 ·show upd (upd (upd H sp (.tup (s5.map V.int))) dx (.own a)) a (.ins C dx []) sp=_
  rw [hgo]; exact gM _ _ g1
 have od:Off a (upd (upd H1 dx (.own a)) a (.ins C dx [])) Hd:=by rw [← hgo]; exact od
 have sD:q1l H Hd:=fun x o e=>od x o (fun z=>by rw [z,na] at e; cases e) (gM _ _ (u1 _ _ e))
 have hk:K2V C Hd a (q1p st0 0 0 (0+(([]:List En).length:Int)+1)):=by rw [j8d]; exact hk
 clear hgo gM hH1 od
 refine⟨_,_,rfl,rfl,⟨by decide,by decide,by decide⟩,_,rfl,sc,ns,0,rfl,SqL.same hS sD,by decide,_,_,rfl,rfl,(by show (0:Int) < 3; decide),rfl,.inr ⟨_,rfl,_,_,rfl,rfl,.inr ⟨by split <;> decide,by split <;> decide⟩,_,_,rfl,rfl,?_⟩⟩
 obtain⟨fst,efst,hfst⟩:∃ z:Int,1+(10:Int) ^ (25:Int).toNat*(if decide (V.int (q7m ns 0 % 3)=V.int 0)=true then (1:Int) else 0)=z∧1≤z:=by
  refine⟨_,rfl,?_⟩
  split
  ·rw [Int.mul_one]
   have:(0:Int)≤10 ^ (25:Int).toNat:=by decide +kernel
   omega
  ·rw [Int.mul_zero]; decide
 show q9s 2 (V.int (1+(10:Int) ^ (25:Int).toNat*(if decide (V.int (q7m ns 0 % 3)=V.int 0)=true then (1:Int) else 0))) _ _ _
 rw [efst]
 refine⟨_,rfl,_,rfl,q1n (by show 1≤1000; decide),fun p1 hp1=>⟨q1n (by show 2≤1000; decide),fun p2 hp2=>⟨q1n (by show 1≤1000; decide),fun p3 hp3=>⟨q1n (by show 3≤1000; decide),fun p4 hp4=>⟨q1n (by show 1≤1000; decide),fun lw hlw=>?_⟩⟩⟩⟩⟩
 have v1:=q0d (o:=HO.tup [V.str "open"]) hp1
 have v2:=q0d (o:=HO.tup [V.int fst,V.ref p1]) hp2
 have v3:=q0d (o:=HO.lst [V.ref p2]) hp3
 have v4:=q0d (o:=HO.lst [V.int fst,V.ref p3,V.int 0]) hp4
 have v5:=q0d (o:=HO.lst [V.ref p4]) hlw
 have w1:=v5 _ _ (v4 _ _ (v3 _ _ (v2 _ _ (q0b (a:=p1) (o:=HO.tup [V.str "open"]) (H:=Hd)))))
 have w2:=v5 _ _ (v4 _ _ (v3 _ _ (q0b (a:=p2) (o:=HO.tup [V.int fst,V.ref p1]) (H:=upd Hd p1 (.tup [V.str "open"])))))
 have w3:=v5 _ _ (v4 _ _ (q0b (a:=p3) (o:=HO.lst [V.ref p2]) (H:=upd (upd Hd p1 (.tup [V.str "open"])) p2 (.tup [V.int fst,V.ref p1]))))
 have w4:=v5 _ _ (q0b (a:=p4) (o:=HO.lst [V.int fst,V.ref p3,V.int 0]) (H:=upd (upd (upd Hd p1 (.tup [V.str "open"])) p2 (.tup [V.int fst,V.ref p1])) p3 (.lst [V.ref p2])))
 have w5:upd (upd (upd (upd (upd Hd p1 (.tup [V.str "open"])) p2 (.tup [V.int fst,V.ref p1])) p3 (.lst [V.ref p2])) p4 (.lst [V.int fst,V.ref p3,V.int 0])) lw (.lst [V.ref p4]) lw=some (.lst [V.ref p4]):=q0b
 have vA:=v1.trans (v2.trans (v3.trans (v4.trans v5)))
 have nlw:H lw=none:=none_of (sD.trans (v1.trans (v2.trans (v3.trans v4)))) hlw
 have np4:H p4=none:=none_of (sD.trans (v1.trans (v2.trans v3))) hp4
 have n34:p3≠p4:=fun z=>by rw [← z,q0b] at hp4; cases hp4
 have n3w:p3≠lw:=fun z=>by rw [← z,v4 _ _ q0b] at hlw; cases hlw
 have n4w:p4≠lw:=fun z=>by rw [← z,q0b] at hlw; cases hlw
 generalize upd (upd (upd (upd (upd Hd p1 (.tup [V.str "open"])) p2 (.tup [V.int fst,V.ref p1])) p3 (.lst [V.ref p2])) p4 (.lst [V.int fst,V.ref p3,V.int 0])) lw (.lst [V.ref p4])=He at w1 w2 w3 w4 w5 vA
 have sE:=sD.trans vA
 refine⟨q1n (by show 0≤1000; decide),fun l1 hl1=>⟨q1n (by show 0≤1000; decide),fun l7 hl7=>⟨q1n (by show 8≤1000; decide),fun lo hlo=>?_⟩⟩⟩
 have x1:=q0d (o:=HO.lst []) hl1
 have x2:=q0d (o:=HO.lst []) hl7
 have x3:=q0d (o:=HO.lst [V.int 0,V.ref l1,V.int 0,V.int 0,V.non,V.str "plain",V.non,V.ref l7]) hlo
 have y1:=x3 _ _ (x2 _ _ (q0b (a:=l1) (o:=HO.lst []) (H:=He)))
 have y2:=x3 _ _ (q0b (a:=l7) (o:=HO.lst []) (H:=upd He l1 (.lst [])))
 have y3:upd (upd (upd He l1 (.lst [])) l7 (.lst [])) lo (.lst [V.int 0,V.ref l1,V.int 0,V.int 0,V.non,V.str "plain",V.non,V.ref l7]) lo=some (.lst [V.int 0,V.ref l1,V.int 0,V.int 0,V.non,V.str "plain",V.non,V.ref l7]):=q0b
 have xA:=x1.trans (x2.trans x3)
 have nl7:He l7=none:=none_of x1 hl7
 have nlo:He lo=none:=none_of (x1.trans x2) hlo
 have n17:l1≠l7:=fun z=>by rw [← z,q0b] at hl7; cases hl7
 have n1o:l1≠lo:=fun z=>by rw [← z,x2 _ _ q0b] at hlo; cases hlo
 have n7o:l7≠lo:=fun z=>by rw [← z,q0b] at hlo; cases hlo
 generalize upd (upd (upd He l1 (.lst [])) l7 (.lst [])) lo (.lst [V.int 0,V.ref l1,V.int 0,V.int 0,V.non,V.str "plain",V.non,V.ref l7])=Hf at y1 y2 y3 xA
 have old:∀ {x:Addr} {o:HO} {z:Addr},He x=some o→He z=none→x≠z:=fun {x o z} e n q=>by rw [q,n] at e; cases e
 refine⟨⟨C,sc,a,lo,l7,lw,H,ns⟩,_,rfl,rfl,⟨st0,0,0,0+(([]:List En).length:Int)+1,[p4],[⟨fst,[(fst,What.opn)],0⟩],[],?_⟩,hS,hlen,q⟩
 have wl1:Wld [⟨fst,[(fst,What.opn)],0⟩]:=⟨List.pairwise_singleton ..,fun h hh=>by rw [List.mem_singleton.mp hh]; exact Nat.zero_le _,fun h hh e he=>by
  rw [List.mem_singleton.mp hh] at he ⊢
  rw [List.mem_singleton.mp he]
  exact Int.le_refl _,List.pairwise_singleton ..,List.pairwise_singleton ..⟩
 have both:∀ z:Addr,He z=none→z∉[p4]:=fun z hz hm=>by rw [List.mem_singleton.mp hm,w4] at hz; cases hz
 refine⟨(hk.same vA).same xA,⟨l1,[],y3,y1,.nil,n1o,n7o,n17,⟨_,y2⟩⟩,⟨rfl,rfl,⟨.inl rfl,Nat.le_refl _,Nat.le_refl _,.inl rfl⟩,Int.le_refl _,.inl rfl⟩,⟨xA _ _ w5,rfl,List.nodup_cons.mpr ⟨List.not_mem_nil,List.nodup_nil⟩,fun hm=>n4w (List.mem_singleton.mp hm).symm,fun hm=>?_,fun x hx hm=>?_,fun i x g h1 h2=>?_⟩,⟨wl1,fun h hh e he=>?_,fun h hh=>?_,fun h hh=>?_,by simp,by show 1≤3*0+1; decide⟩,y2,Nat.le_refl _,fun v hv=>absurd hv List.not_mem_nil,sE.trans xA,na,none_of sE nlo,none_of sE nl7,nlw,fun x hx=>by rw [List.mem_singleton.mp hx]; exact np4⟩
 ·simp only [List.mem_cons,List.not_mem_nil,or_false] at hm
  rcases hm with hm | hm
  ·exact old w5 nlo hm
  ·exact old w5 nl7 hm
 ·rw [List.mem_singleton.mp hx] at hm
  simp only [List.mem_cons,List.not_mem_nil,or_false] at hm
  rcases hm with hm | hm
  ·exact old w4 nlo hm
  ·exact old w4 nl7 hm
 ·match i,h1,h2 with
  | 0,h1,h2 =>
   cases h1
   cases h2
   refine⟨p3,[V.ref p2],xA _ _ w4,xA _ _ w3,.cons (xA _ _ w2) ⟨p1,rfl,xA _ _ w1⟩ .nil,n3w,fun hm=>n34 (List.mem_singleton.mp hm),fun hm=>?_⟩
   simp only [List.mem_cons,List.not_mem_nil,or_false] at hm
   rcases hm with hm | hm
   ·exact old w3 nlo hm
   ·exact old w3 nl7 hm
  | i+1,h1,_=>simp at h1
 ·rw [List.mem_singleton.mp hh] at he
  rw [List.mem_singleton.mp he]
  exact⟨trivial,trivial⟩
 ·rw [List.mem_singleton.mp hh]
  exact Nat.le_refl _
 ·rw [List.mem_singleton.mp hh]
  exact hfst
noncomputable def x3e (K:Frag):Sp:=fun vs H Q _=>∃ (a b:Addr) (ns ms:List Int),vs=[.ref a,.ref b]∧SqT K H a (ns.map V.int)∧SqT K H b (ms.map V.int)∧ns.length≤1000∧∀ (c:Addr) (H':Hp),H' c=some (.lst ((ns.filter fun n => !decide (n∈ms)).map V.int))→q1l H H'→Q (.ref c) H'
theorem w0e:FnScope ["numbers", "others"] ["numbers", "others"] (q0h x0a):=fSc
theorem z3w {f:Addr} {fd:FuncData} (F:Fun K "unlike" "unlike" x0a f fd):FnOk P w K mg base CX0 1 f fd ["numbers", "others"] (x3e K):=by
 refine F.ok w0e (by rintro _ _ _ _⟨_,_,_,_,rfl,_⟩; rfl) (fun _ A _ s H vs Q E hr h=>?_)
 obtain⟨a,b,ns,ms,rfl,hS,hT,hlen,q⟩:=h
 refine⟨_,@q0p _ _ _ (q0q (q6r (NB:=["number", "others"]) (n:=1) (fr:=[1]) (q7p (outer:=q0h x0a) (x := "others") (by rfl) (by decide +kernel) (by rfl) (by rfl) (by rfl) (by rfl)) (by rfl) (q9j (pv 0))
   (fun _ _ _ _ _=>q1u (i:=0) (show (["number", "others"]:List Str).Nodup by decide +kernel) (by rfl) (by exact Or.inl rfl)) (fun _ _ _ _ _=>q8l (q0m (z1f (K:=K) (by rfl)) (pv 0) (pv 1) (by rfl))) (fun _ _ _ _ _=>pv 0))),?_⟩
 refine⟨_,rfl,a,rfl,⟨_,hS⟩,x4v (K:=K) (ms:=ns) hS (by omega) (fun n => !decide (n∈ms)) ?_ ?_⟩
 ·intro i hi t H4 R s4 ht hR
  obtain⟨t0,rfl⟩:=q3w ht
  have hR':=hR [some (.int ns[i])] H4 rfl (q1l.refl _)
  refine⟨_,rfl,_,rfl,b,_,rfl,.inr (SqT.same hT s4),rfl,q8j _,_,rfl,?_⟩
  show if (!inV (V.int ns[i]) (ms.map V.int))=true then _ else _
  rw [z3o]
  cases hd:decide (ns[i]∈ms) with
  | true=>rw [hd] at hR'; exact q2p hR'
  | false=>rw [hd] at hR'; exact q2z ⟨_,rfl,hR'⟩
 ·intro D1 H3 s4 hD hd
  exact q D1 H3 hd s4
theorem x4j (ms:List Int):∀ ns:List Int,(ns.filter fun n => !decide (n∈ms)).length+x2h ns ms=ns.length
 | []=>rfl
 | n::ns=>by
  have ih:=x4j ms ns
  unfold x2h at ih ⊢
  by_cases hn:n∈ms
  ·rw [List.filter_cons_of_neg (by simpa using hn),List.filter_cons_of_pos (by simpa using hn),List.length_cons,List.length_cons]; omega
  ·rw [List.filter_cons_of_pos (by simpa using hn),List.filter_cons_of_neg (by simpa using hn),List.length_cons,List.length_cons]; omega
theorem j3b:FnScope ["seats", "those", "among"] ["seats", "those"] (q0h z1m):=fSc
theorem z9p {f:Addr} {fd:FuncData} (F:Fun K "most" "most" z1m f fd) (T:Txt mg) (CU:Cal P w K mg base "unlike" 1 ["numbers", "others"] (x3e K)):FnOk P w K mg base CX0 2 f fd ["seats", "those"] (z1w K):=by
 refine F.ok j3b (by rintro _ _ _ _⟨_,_,_,_,rfl,_⟩; rfl) (fun _ A _ s H vs Q E hr h=>?_)
 obtain⟨a,b,ns,ms,rfl,ha,hb,hnd,hln,hlm,q⟩:=h
 refine⟨_,@q0j _ _ _ _ _ (q0r (i:=2) j3b.nd (by rfl) (by exact Or.inl rfl) (q0x q2q (q0l q0t (by rfl) T.len PySem.boot_len (q0z (pv 0) q0e)) (q0l q0t (by rfl) T.len PySem.boot_len (q8r (q0n CU hr (q0z (pv 0) (q0z (pv 1) q0e))) q0e))))
  (@q0p _ _ _ (q0q (q1v q4g (q0x q6a q0c (pv 2)) (q0l q0t (by rfl) T.len PySem.boot_len (q0z (pv 0) q0e)) (q0o _)))),?_⟩
 refine⟨_,rfl,a,_,rfl,.inr (SqT.of ha),_,rfl,_,rfl,a,b,ns,ms,rfl,SqT.of ha,hb,hln,fun c H1 hc s1=>⟨c,_,rfl,.inl (SqL.of hc),_,_,rfl,rfl,?_⟩⟩
 refine⟨_,rfl,_,_,rfl,rfl,.inl ⟨by decide,by decide⟩,_,rfl,a,_,rfl,.inr (SqT.of (s1 _ _ ha)),_,_,rfl,rfl,?_⟩
 have e:decide (((ns.map V.int).length:Int) < 2*(((ns.map V.int).length:Int) - (((ns.filter fun n => !decide (n∈ms)).map V.int).length:Int)))=decide (ns.length < 2*x2h ns ms):=by
  have:=x4j ms ns
  rw [List.length_map,List.length_map,Bool.eq_iff_iff]; simp only [decide_eq_true_eq]; omega
 have:=q H1 s1
 rw [← e] at this
 exact this
theorem j6b:FnScope ["last", "place", "row", "end", "term"] ["last", "place", "row"] (q0h x3t):=fSc
theorem x9l {f:Addr} {fd:FuncData} (F:Fun K "as_new" "as_new" x3t f fd) (CE:Cal P w K mg base "end_of" 1 ["row"] (q5v K)) (CT:Cal P w K mg base "term_at" 3 ["row", "place"] (q8p K)):FnOk P w K mg base CX0 4 f fd ["last", "place", "row"] (x6y K):=by
 refine F.ok j6b (by rintro _ _ _ _⟨_,_,_,_,_,_,rfl,_⟩; rfl) (fun _ A _ s H vs Q E hr h=>?_)
 obtain⟨v,t,p,b,l,ts,rfl,hR,q⟩:=h
 have r1:=hr.mono (show 1≤3 by omega)
 refine⟨_,@q0j _ _ _ _ _ (q0r (i:=3) j6b.nd (by rfl) (by exact Or.inl rfl) (q0n CE r1 (q0z (pv 2) q0e)))
  (@q0j _ _ _ _ _ (q0r (i:=4) j6b.nd (by rfl) (by exact Or.inl rfl) (q0n CT hr (q0z (pv 2) (q0z (pv 3) q0e))))
  (@q0p _ _ _ (q0q (j4k (q1v q4g (pv 0) (pv 4) (q0o _)) (q8q (q9m (q1v q2u (pv 0) (pv 4) (q0o _)) (q8q (q1v z4o (pv 1) (pv 3) (q0o _))))))))),?_⟩
 refine⟨_,rfl,v,b,l,ts,rfl,hR,?_⟩
 refine⟨_,rfl,_,rfl,v,b,l,ts,_,rfl,hR,(by unfold q4e; omega),Int.le_refl _,?_⟩
 rw [x2e]
 have fin:=q H (q1l.refl _)
 unfold x7s at fin
 refine⟨_,rfl,_,rfl,_,_,rfl,rfl,_,rfl,q4r (fun hc=>?_) (fun hc=>?_)⟩
 ·rw [decide_eq_true (of_decide_eq_true hc)] at fin
  exact fin
 ·rw [decide_eq_false (fun h=>hc (decide_eq_true h))] at fin
  refine⟨_,rfl,_,rfl,rfl,_,rfl,q4r (fun hc2=>?_) (fun hc2=>?_)⟩
  ·have e2:t=z0b l ts:=by
    have:=of_decide_eq_true hc2
    simpa using this
   rw [decide_eq_true e2] at fin
   exact⟨_,rfl,_,rfl,_,_,rfl,rfl,fin⟩
  ·have e2:¬ t=z0b l ts:=fun e=>hc2 (decide_eq_true (by rw [e]))
   rw [decide_eq_false e2] at fin
   exact fin
theorem j8s:FnScope [] [] (q0h x6x):=fSc
theorem z4s {f:Addr} {fd:FuncData} (F:Fun K "fresh" "fresh" x6x f fd):FnOk P w K mg base CX0 1 f fd [] (x3u K):=by
 refine F.ok j8s (by rintro _ _ _ _⟨rfl,_⟩; rfl) (fun _ A _ s H vs Q E hr h=>?_)
 obtain⟨rfl,q⟩:=h
 refine⟨_,@q0p _ _ _ (q0q (QE.h (q1d (q4l q0v (q4l q0v q0v))))),?_⟩
 refine⟨q1n (by show 0≤1000; decide),fun e1 he1=>⟨q1n (by show 0≤1000; decide),fun e2 he2=>⟨q1n (by show 2≤1000; decide),fun e3 he3=>?_⟩⟩⟩
 have t1:=q0d (o:=HO.tup []) he1
 have t2:=q0d (o:=HO.tup []) he2
 have t3:=q0d (o:=HO.tup [V.ref e1,V.ref e2]) he3
 exact q (.ref e3) _ ⟨e3,e1,e2,rfl,q0b,⟨[],t3 _ _ (t2 _ _ q0b),.nil⟩,⟨[],t3 _ _ q0b,.nil⟩⟩ (t1.trans (t2.trans t3))
theorem j9n:FnScope ["seats"] ["seats"] (q0h q6t):=fSc
theorem x2o {f:Addr} {fd:FuncData} (F:Fun K "first_pack" "first_pack" q6t f fd) (CH:Cal P w K mg base "fresh" 1 [] (x3u K)):FnOk P w K mg base CX0 2 f fd ["seats"] j5c:=by
 refine F.ok j9n (by rintro _ _ _ _⟨_,_,rfl,_⟩; rfl) (fun _ A _ s H vs Q E hr h=>?_)
 obtain⟨q0,ms,rfl,hq,k⟩:=h
 obtain⟨gH,dH,GH,mH,kH,bH⟩:=CH.ex
 refine⟨_,@q0p _ _ _ (q0q (QE.h (q1d (q1a (q1a (q4c (pv 0) (q7c (x8h GH hr (by rfl) mH kH bH .nil q7n) q0v))))))),?_⟩
 refine⟨_,rfl,rfl,fun vf H1 hf s1=>⟨q1n (by show 4≤1000; decide),fun p hp=>?_⟩⟩
 have s2:=q0d (o:=HO.tup [V.int 0,V.int 0,V.ref q0,vf]) hp
 exact k (.ref p) _ ⟨p,q0,vf,rfl,q0b,s2 _ _ (s1 _ _ hq),hf.same s2⟩ (s1.trans s2)
theorem j7w:FnScope [] [] (q0h x6d):=fSc
theorem z0o {f:Addr} {fd:FuncData} (F:Fun K "begun" "begun" x6d f fd):FnOk P w K mg base CX0 1 f fd [] z3p:=by
 refine F.ok j7w (by rintro _ _ _ _⟨rfl,_⟩; rfl) (fun _ A _ s H vs Q E hr h=>?_)
 obtain⟨rfl,q⟩:=h
 refine⟨_,@q0p _ _ _ (q0q (QE.h (q1d (q1a (q1a (q4l q0v q0v)))))),?_⟩
 refine⟨q1n (by show 0≤1000; decide),fun e1 he1=>⟨q1n (by show 3≤1000; decide),fun e2 he2=>?_⟩⟩
 have t1:=q0d (o:=HO.tup []) he1
 have t2:=q0d (o:=HO.tup [V.int 0,V.int 0,V.ref e1]) he2
 exact q (.ref e2) _ ⟨e2,e1,[],rfl,q0b,t2 _ _ q0b,.nil⟩ (t1.trans t2)
end
theorem cal {P:Program} {w:World} {K:Frag} {mg:Str→Option Value} {base:Heap} {x:Str} {st:Stmt} {f:Addr} {fd:FuncData} {ps:List Str} {k:Nat} {sp:Sp} (F:Fun K x x st f fd) (hm:mg x=some (.ref f)) (b:q3p K fd ps []) (ok:FnOk P w K mg base CX0 k f fd ps sp):Cal P w K mg base x k ps sp:=⟨f,fd,ok,hm,F.kp,b⟩
theorem j3v {P:Program} {w:World} {K:Frag} {mg:Str→Option Value} {base:Heap} {x:Str} {st:Stmt} {f:Addr} {fd:FuncData} {ps:List Str} {k:Nat} {sp:Sp} (F:Fun K x x st f fd) (hm:mg x=some (.ref f)) (b:q3p K fd ps []) (ok:FnOk P w K mg base (CXe P w) k f fd ps sp):CalE P w K mg base x k ps sp:=⟨f,fd,ok,hm,F.kp,b⟩
structure DF (K:Frag) (n:Str) (st:Stmt) (f:Addr):Prop where
 a:nsIn K mainGlobals n=some (some (.ref f))
 F:∃ fd,Fun K n n st f fd
theorem bd {K:Frag} {x:Str} {st:Stmt} {f:Addr} {fd:FuncData} (p:Str) (F:Fun K x x st f fd) (h:∀ (kV doc pm:Value) (an:Option Addr) (cdv ct u:Value),bindArgs (fnOf x x (q6l st) (q4n st) (q0h st) .none kV doc pm an cdv ct) ⟨[u],[]⟩=pure ([p].zip [u])):q3p K fd [p] []:=F.binds fun _ _ _ _ _ _ us hl=>match us,hl with | [_],_=>h _ _ _ _ _ _ _
theorem bd2 {K:Frag} {x:Str} {st:Stmt} {f:Addr} {fd:FuncData} (p r:Str) (F:Fun K x x st f fd) (h:∀ (kV doc pm:Value) (an:Option Addr) (cdv ct u v:Value),bindArgs (fnOf x x (q6l st) (q4n st) (q0h st) .none kV doc pm an cdv ct) ⟨[u,v],[]⟩=pure ([p,r].zip [u,v])):q3p K fd [p,r] []:=F.binds fun _ _ _ _ _ _ us hl=>match us,hl with | [_,_],_=>h _ _ _ _ _ _ _ _
structure DMt (K:Frag) (C:Addr) (n q:Str) (st:Stmt) (g:Addr):Prop where
 a:findIn K (.ref C) n=some (some (.ref g))
 i:PySem.W.isFn K (.ref g)=true
 F:∃ fd,Fun K n q st g fd
theorem all_mk {l:PySem.W.OpenLaw} {w:World} {K:Frag} {h:Heap} {mg:Str→Option Value} {fa f0 f1 f2 f3 f4 f5 f6 f8 f9 f10 f11 f12 f13 f14 f15 f16 f17 f18 f19 f21 f22 f23 f24 f25 f26 f27 f28 f29 f30 f31 f32 f33 f34 f38 f39 f40 f52 f53 f54 f55 f57 f58 f59 f60 f61 f62 f63 f64 f65 f66 f67 f68 f69 f70 f71 f72 f73 f74 f75 f76 f77 f78 f79 f80 f81 f82 f83 f84:Addr} (X:K.In h) (G:h.Ns mainGlobals mg) (hfa:mg "law" = some (.ref fa))
(d0:DF K "begun" x6d f0)(d1:DF K "end_of" q8m f1)(d2:DF K "entry_at" q3v f2)(d3:DF K "term_at" q4p f3)(d4:DF K "behind" q5q f4)(d5:DF K "as_new" x3t f5)(d6:DF K "agrees" x3f f6)(d8:DF K "same_ahead" q6p f8)(d9:DF K "filled" x3o f9)(d10:DF K "cut_off" x0k f10)(d11:DF K "taken_over" q6h f11)(d12:DF K "fresh" x6x f12)(d13:DF K "part_of" x0u f13)(d14:DF K "with_part" q4o f14)(d15:DF K "number_at" q7x f15)(d16:DF K "value_of" q8v f16)(d17:DF K "with_value" q6s f17)(d18:DF K "done" z2x f18)(d19:DF K "number_of" q7q f19)(d21:DF K "applied" x1h f21)(d22:DF K "replayed" q8x f22)(d23:DF K "beat" z3l f23)(d24:DF K "took_for_head" q4m f24)(d25:DF K "held_letter" q5u f25)(d26:DF K "turned_down" q5p f26)(d27:DF K "know_agreed" q5t f27)(d28:DF K "take_hand" q7g f28)(d29:DF K "take_over" q7w f29)(d30:DF K "take_pack" q7v f30)(d31:DF K "unlike" x0a f31)(d32:DF K "most" z1m f32)(d33:DF K "holds_seats" q5k f33)(d34:DF K "seats_of" q8w f34)(d38:DF K "first_pack" q6t f38)(d39:DF K "pack_at" x1g f39)(d40:DF K "seats_now" q7h f40)(d52:DF K "take_held" q7t f52)(d53:DF K "take_wish" q7u f53)(d54:DF K "pack_up" x0i f54)(d55:DF K "other_seats" q4i f55)(d57:DF K "has_most_voices" q3r f57)(d58:DF K "stand" x2n f58)(d59:DF K "may_give" q8s f59)(d60:DF K "take_ask" q8u f60)(d61:DF K "_law_cell_at" z7q f61)(d62:DF K "_law_mixed" z0k f62)(d63:DF K "_law_drawn" q6i f63)(d64:DF K "_law_name" x8d f64)(d65:DF K "_law_what" q7j f65)(d66:DF K "_law_done" q7k f66)(d67:DF K "_law_store" q3x f67)(d68:DF K "_law_seats" x6s f68)(d69:DF K "_law_entry" q6j f69)(d70:DF K "_law_end" q8y f70)(d71:DF K "_law_pack" q7i f71)(d72:DF K "_law_world" q4t f72)(d73:DF K "_law_alike" q2v f73)(d74:DF K "_law_kept" q7s f74)(d75:DF K "_law_heard" q6g f75)(d76:DF K "_law_followed" q4k f76)(d77:DF K "_law_filled" q5n f77)(d78:DF K "_law_handed" q5w f78)(d79:DF K "_law_packed" q5i f79)(d80:DF K "_law_taken" q6m f80)(d81:DF K "_law_stands" q5j f81)(d82:DF K "_law_asked" q6f f82)(d83:DF K "_law_else" q5x f83)
  {odL anL:Option Addr} {slL:Array (Option Value)} {ocL kVL dcL pmL cdL ctL:Value} (aL:nsIn K mainGlobals "law" = some (some (.ref f84))) (lL:K.lookup f84=some ⟨ocL,odL,.func (fnOf "law" "law" (q6l z5c) (q4n z5c) (q0h z5c) .none kVL dcL pmL anL cdL ctL),slL⟩) (cL':PySem.W.codeIn K cdL "law" = true) (kL:keepIn K (.ref f84)=true)
  {cP:Addr} (ncP:nsIn K mainGlobals "NoPlace" = some (some (.ref cP))) (xP:PySem.W.excIn K cP j5p "ValueError.__new__" = true)
  {C0 g0 g1 g2 g3 g4:Addr} (aC:nsIn K mainGlobals "Keeper" = some (some (.ref C0)))
  (w0:DMt K C0 "__init__" "Keeper.__init__" q3o g0)
  (w1:DMt K C0 "wake" "Keeper.wake" q5o g1)
  (w2:DMt K C0 "hear" "Keeper.hear" q5y g2)
  (w3:DMt K C0 "be_plain" "Keeper.be_plain" q3s g3)
  (w4:DMt K C0 "know_no_places" "Keeper.know_no_places" q2l g4)
  (pg:PySem.W.plainGet K C0 Str.empty=true) (hd:PySem.W.hasDictIn K C0=true) (po:PySem.W.plainOver K C0=true) (sa:findIn K (.ref C0) "__setattr__" = some (some (.builtin "object.__setattr__"))) (mk:PySem.W.makesIn K C0=true) (kc:keepIn K (.ref C0)=true) (n_number:findIn K (.ref C0) "number" = some none) (n_term:findIn K (.ref C0) "term" = some none) (n_voice:findIn K (.ref C0) "voice" = some none) (n_head:findIn K (.ref C0) "head" = some none) (n_way:findIn K (.ref C0) "way" = some none) (n_pack:findIn K (.ref C0) "pack" = some none) (n_row:findIn K (.ref C0) "row" = some none) (n_store:findIn K (.ref C0) "store" = some none) (n_nexts:findIn K (.ref C0) "nexts" = some none) (n_held:findIn K (.ref C0) "held" = some none) (n_agreed:findIn K (.ref C0) "agreed" = some none) (n_voices:findIn K (.ref C0) "voices" = some none) (n_waits:findIn K (.ref C0) "waits" = some none)
  (z0:nsIn K mainGlobals "isinstance" = some none) (z1:nsIn K mainGlobals "int" = some none) (z2:nsIn K mainGlobals "bool" = some none) (z3:nsIn K mainGlobals "str" = some none) (z4:nsIn K mainGlobals "tuple" = some none) (z5:nsIn K mainGlobals "list" = some none) (z6:nsIn K mainGlobals "all" = some none) (z7:nsIn K mainGlobals "zip" = some none) (z8:nsIn K mainGlobals "len" = some none) (z9:nsIn K mainGlobals "range" = some none) (z10:nsIn K mainGlobals "max" = some none) (z11:nsIn K mainGlobals "min" = some none) (z12:nsIn K mainGlobals "sorted" = some none) (z13:nsIn K mainGlobals "any" = some none) (z14:nsIn K mainGlobals "sum" = some none) :
  ∃ fd:FuncData,(∀ (s:Shared) (v:Value),BindsTo s fd ⟨[v],[]⟩ [("_law_script",v)])∧∀ base:Heap,K.In base→base.Ns mainGlobals mg→FnOk l.prog w K mg base CX0 10 fa fd ["_law_script"] (z5a K):=by
 have e:=hfa.symm.trans (mg_of X G aL)
 cases e
 have T:Txt mg:=⟨mg_none_of X G z0,mg_none_of X G z1,mg_none_of X G z2,mg_none_of X G z3,mg_none_of X G z4,mg_none_of X G z5,mg_none_of X G z6,mg_none_of X G z7,mg_none_of X G z8,mg_none_of X G z9,mg_none_of X G z10,mg_none_of X G z11,mg_none_of X G z12,mg_none_of X G z13,mg_none_of X G z14⟩
 obtain⟨_,F0⟩:=d0.F
 have m0:=mg_of X G d0.a
 have b0:=F0.binds (ps:=[]) fun _ _ _ _ _ _ us hl=>match us,hl with | [],_=>rfl
 obtain⟨_,F1⟩:=d1.F
 have m1:=mg_of X G d1.a
 have b1:=bd "row" F1 fun _ _ _ _ _ _ _=>rfl
 obtain⟨_,F2⟩:=d2.F
 have m2:=mg_of X G d2.a
 have b2:=bd2 "row" "place" F2 fun _ _ _ _ _ _ _ _=>rfl
 obtain⟨_,F3⟩:=d3.F
 have m3:=mg_of X G d3.a
 have b3:=bd2 "row" "place" F3 fun _ _ _ _ _ _ _ _=>rfl
 obtain⟨_,F4⟩:=d4.F
 have m4:=mg_of X G d4.a
 have b4:=F4.binds (ps:=["row", "place", "many"]) fun _ _ _ _ _ _ us hl=>match us,hl with | [_,_,_],_=>rfl
 obtain⟨_,F5⟩:=d5.F
 have m5:=mg_of X G d5.a
 have b5:=F5.binds (ps:=["last", "place", "row"]) fun _ _ _ _ _ _ us hl=>match us,hl with | [_,_,_],_=>rfl
 obtain⟨_,F6⟩:=d6.F
 have m6:=mg_of X G d6.a
 have b6:=F6.binds (ps:=["row", "place", "last"]) fun _ _ _ _ _ _ us hl=>match us,hl with | [_,_,_],_=>rfl
 obtain⟨_,F8⟩:=d8.F
 have m8:=mg_of X G d8.a
 have b8:=bd2 "own" "others" F8 fun _ _ _ _ _ _ _ _=>rfl
 obtain⟨_,F9⟩:=d9.F
 have m9:=mg_of X G d9.a
 have b9:=F9.binds (ps:=["row", "place", "entries"]) fun _ _ _ _ _ _ us hl=>match us,hl with | [_,_,_],_=>rfl
 obtain⟨_,F10⟩:=d10.F
 have m10:=mg_of X G d10.a
 have b10:=bd2 "row" "place" F10 fun _ _ _ _ _ _ _ _=>rfl
 obtain⟨_,F11⟩:=d11.F
 have m11:=mg_of X G d11.a
 have b11:=F11.binds (ps:=["row", "place", "last"]) fun _ _ _ _ _ _ us hl=>match us,hl with | [_,_,_],_=>rfl
 obtain⟨_,F12⟩:=d12.F
 have m12:=mg_of X G d12.a
 have b12:=F12.binds (ps:=[]) fun _ _ _ _ _ _ us hl=>match us,hl with | [],_=>rfl
 obtain⟨_,F13⟩:=d13.F
 have m13:=mg_of X G d13.a
 have b13:=bd2 "parts" "name" F13 fun _ _ _ _ _ _ _ _=>rfl
 obtain⟨_,F14⟩:=d14.F
 have m14:=mg_of X G d14.a
 have b14:=bd2 "parts" "part" F14 fun _ _ _ _ _ _ _ _=>rfl
 obtain⟨_,F15⟩:=d15.F
 have m15:=mg_of X G d15.a
 have b15:=bd2 "parts" "name" F15 fun _ _ _ _ _ _ _ _=>rfl
 obtain⟨_,F16⟩:=d16.F
 have m16:=mg_of X G d16.a
 have b16:=bd2 "store" "name" F16 fun _ _ _ _ _ _ _ _=>rfl
 obtain⟨_,F17⟩:=d17.F
 have m17:=mg_of X G d17.a
 have b17:=F17.binds (ps:=["store", "name", "value"]) fun _ _ _ _ _ _ us hl=>match us,hl with | [_,_,_],_=>rfl
 obtain⟨_,F18⟩:=d18.F
 have m18:=mg_of X G d18.a
 have b18:=bd2 "store" "deed" F18 fun _ _ _ _ _ _ _ _=>rfl
 obtain⟨_,F19⟩:=d19.F
 have m19:=mg_of X G d19.a
 have b19:=bd2 "store" "caller" F19 fun _ _ _ _ _ _ _ _=>rfl
 obtain⟨_,F21⟩:=d21.F
 have m21:=mg_of X G d21.a
 have b21:=bd2 "store" "what" F21 fun _ _ _ _ _ _ _ _=>rfl
 obtain⟨_,F22⟩:=d22.F
 have m22:=mg_of X G d22.a
 have b22:=bd2 "store" "entries" F22 fun _ _ _ _ _ _ _ _=>rfl
 obtain⟨_,F23⟩:=d23.F
 have m23:=mg_of X G d23.a
 have b23:=bd2 "keeper" "other" F23 fun _ _ _ _ _ _ _ _=>rfl
 obtain⟨_,F24⟩:=d24.F
 have m24:=mg_of X G d24.a
 have b24:=bd2 "keeper" "letter" F24 fun _ _ _ _ _ _ _ _=>rfl
 obtain⟨_,F25⟩:=d25.F
 have m25:=mg_of X G d25.a
 have b25:=F25.binds (ps:=["keeper", "other", "good", "place"]) fun _ _ _ _ _ _ us hl=>match us,hl with | [_,_,_,_],_=>rfl
 obtain⟨_,F26⟩:=d26.F
 have m26:=mg_of X G d26.a
 have b26:=bd2 "keeper" "letter" F26 fun _ _ _ _ _ _ _ _=>rfl
 obtain⟨_,F27⟩:=d27.F
 have m27:=mg_of X G d27.a
 have b27:=bd2 "keeper" "place" F27 fun _ _ _ _ _ _ _ _=>rfl
 obtain⟨_,F28⟩:=d28.F
 have m28:=mg_of X G d28.a
 have b28:=bd2 "keeper" "letter" F28 fun _ _ _ _ _ _ _ _=>rfl
 obtain⟨_,F29⟩:=d29.F
 have m29:=mg_of X G d29.a
 have b29:=bd2 "keeper" "pack" F29 fun _ _ _ _ _ _ _ _=>rfl
 obtain⟨_,F30⟩:=d30.F
 have m30:=mg_of X G d30.a
 have b30:=bd2 "keeper" "letter" F30 fun _ _ _ _ _ _ _ _=>rfl
 obtain⟨_,F31⟩:=d31.F
 have m31:=mg_of X G d31.a
 have b31:=bd2 "numbers" "others" F31 fun _ _ _ _ _ _ _ _=>rfl
 obtain⟨_,F32⟩:=d32.F
 have m32:=mg_of X G d32.a
 have b32:=bd2 "seats" "those" F32 fun _ _ _ _ _ _ _ _=>rfl
 obtain⟨_,F33⟩:=d33.F
 have m33:=mg_of X G d33.a
 have b33:=bd "entry" F33 fun _ _ _ _ _ _ _=>rfl
 obtain⟨_,F34⟩:=d34.F
 have m34:=mg_of X G d34.a
 have b34:=bd2 "row" "first" F34 fun _ _ _ _ _ _ _ _=>rfl
 obtain⟨_,F38⟩:=d38.F
 have m38:=mg_of X G d38.a
 have b38:=bd "seats" F38 fun _ _ _ _ _ _ _=>rfl
 obtain⟨_,F39⟩:=d39.F
 have m39:=mg_of X G d39.a
 have b39:=F39.binds (ps:=["pack", "row", "place"]) fun _ _ _ _ _ _ us hl=>match us,hl with | [_,_,_],_=>rfl
 obtain⟨_,F40⟩:=d40.F
 have m40:=mg_of X G d40.a
 have b40:=bd "keeper" F40 fun _ _ _ _ _ _ _=>rfl
 obtain⟨_,F52⟩:=d52.F
 have m52:=mg_of X G d52.a
 have b52:=bd2 "keeper" "letter" F52 fun _ _ _ _ _ _ _ _=>rfl
 obtain⟨_,F53⟩:=d53.F
 have m53:=mg_of X G d53.a
 have b53:=bd2 "keeper" "letter" F53 fun _ _ _ _ _ _ _ _=>rfl
 obtain⟨_,F54⟩:=d54.F
 have m54:=mg_of X G d54.a
 have b54:=bd2 "keeper" "place" F54 fun _ _ _ _ _ _ _ _=>rfl
 obtain⟨_,F55⟩:=d55.F
 have m55:=mg_of X G d55.a
 have b55:=bd "keeper" F55 fun _ _ _ _ _ _ _=>rfl
 obtain⟨_,F57⟩:=d57.F
 have m57:=mg_of X G d57.a
 have b57:=bd "keeper" F57 fun _ _ _ _ _ _ _=>rfl
 obtain⟨_,F58⟩:=d58.F
 have m58:=mg_of X G d58.a
 have b58:=bd "keeper" F58 fun _ _ _ _ _ _ _=>rfl
 obtain⟨_,F59⟩:=d59.F
 have m59:=mg_of X G d59.a
 have b59:=bd2 "keeper" "letter" F59 fun _ _ _ _ _ _ _ _=>rfl
 obtain⟨_,F60⟩:=d60.F
 have m60:=mg_of X G d60.a
 have b60:=bd2 "keeper" "letter" F60 fun _ _ _ _ _ _ _ _=>rfl
 obtain⟨_,F61⟩:=d61.F
 have m61:=mg_of X G d61.a
 have b61:=bd2 "_law_script" "_law_k" F61 fun _ _ _ _ _ _ _ _=>rfl
 obtain⟨_,F62⟩:=d62.F
 have m62:=mg_of X G d62.a
 have b62:=bd2 "_law_script" "_law_k" F62 fun _ _ _ _ _ _ _ _=>rfl
 obtain⟨_,F63⟩:=d63.F
 have m63:=mg_of X G d63.a
 have b63:=bd2 "_law_number" "_law_sizes" F63 fun _ _ _ _ _ _ _ _=>rfl
 obtain⟨_,F64⟩:=d64.F
 have m64:=mg_of X G d64.a
 have b64:=bd2 "_law_script" "_law_which" F64 fun _ _ _ _ _ _ _ _=>rfl
 obtain⟨_,F65⟩:=d65.F
 have m65:=mg_of X G d65.a
 have b65:=bd2 "_law_script" "_law_number" F65 fun _ _ _ _ _ _ _ _=>rfl
 obtain⟨_,F66⟩:=d66.F
 have m66:=mg_of X G d66.a
 have b66:=F66.binds (ps:=["_law_names", "_law_callers", "_law_what_here"]) fun _ _ _ _ _ _ us hl=>match us,hl with | [_,_,_],_=>rfl
 obtain⟨_,F67⟩:=d67.F
 have m67:=mg_of X G d67.a
 have b67:=bd "_law_entries" F67 fun _ _ _ _ _ _ _=>rfl
 obtain⟨_,F68⟩:=d68.F
 have m68:=mg_of X G d68.a
 have b68:=bd2 "_law_entries" "_law_first" F68 fun _ _ _ _ _ _ _ _=>rfl
 obtain⟨_,F69⟩:=d69.F
 have m69:=mg_of X G d69.a
 have b69:=F69.binds (ps:=["_law_script", "_law_term", "_law_number"]) fun _ _ _ _ _ _ us hl=>match us,hl with | [_,_,_],_=>rfl
 obtain⟨_,F70⟩:=d70.F
 have m70:=mg_of X G d70.a
 have b70:=bd "_law_entries" F70 fun _ _ _ _ _ _ _=>rfl
 obtain⟨_,F71⟩:=d71.F
 have m71:=mg_of X G d71.a
 have b71:=bd2 "_law_entries" "_law_place" F71 fun _ _ _ _ _ _ _ _=>rfl
 obtain⟨_,F72⟩:=d72.F
 have m72:=mg_of X G d72.a
 have b72:=F72.binds (ps:=["_law_script", "_law_world_here", "_law_some", "_law_number", "_law_term"]) fun _ _ _ _ _ _ us hl=>match us,hl with | [_,_,_,_,_],_=>rfl
 obtain⟨_,F73⟩:=d73.F
 have m73:=mg_of X G d73.a
 have b73:=bd2 "_law_found" "_law_due" F73 fun _ _ _ _ _ _ _ _=>rfl
 obtain⟨_,F74⟩:=d74.F
 have m74:=mg_of X G d74.a
 have b74:=F74.binds (ps:=["_law_own", "_law_found", "_law_due"]) fun _ _ _ _ _ _ us hl=>match us,hl with | [_,_,_],_=>rfl
 obtain⟨_,F75⟩:=d75.F
 have m75:=mg_of X G d75.a
 have b75:=bd2 "_law_own" "_law_term" F75 fun _ _ _ _ _ _ _ _=>rfl
 obtain⟨_,F76⟩:=d76.F
 have m76:=mg_of X G d76.a
 have b76:=bd2 "_law_own" "_law_letter" F76 fun _ _ _ _ _ _ _ _=>rfl
 obtain⟨_,F77⟩:=d77.F
 have m77:=mg_of X G d77.a
 have b77:=F77.binds (ps:=["_law_own", "_law_place", "_law_entries"]) fun _ _ _ _ _ _ us hl=>match us,hl with | [_,_,_],_=>rfl
 obtain⟨_,F78⟩:=d78.F
 have m78:=mg_of X G d78.a
 have b78:=bd2 "_law_own" "_law_letter" F78 fun _ _ _ _ _ _ _ _=>rfl
 obtain⟨_,F79⟩:=d79.F
 have m79:=mg_of X G d79.a
 have b79:=F79.binds (ps:=["_law_own", "_law_letter", "_law_entries"]) fun _ _ _ _ _ _ us hl=>match us,hl with | [_,_,_],_=>rfl
 obtain⟨_,F80⟩:=d80.F
 have m80:=mg_of X G d80.a
 have b80:=F80.binds (ps:=["_law_keeper", "_law_own", "_law_world_here", "_law_some", "_law_number"]) fun _ _ _ _ _ _ us hl=>match us,hl with | [_,_,_,_,_],_=>rfl
 obtain⟨_,F81⟩:=d81.F
 have m81:=mg_of X G d81.a
 have b81:=bd2 "_law_keeper" "_law_own" F81 fun _ _ _ _ _ _ _ _=>rfl
 obtain⟨_,F82⟩:=d82.F
 have m82:=mg_of X G d82.a
 have b82:=bd2 "_law_own" "_law_letter" F82 fun _ _ _ _ _ _ _ _=>rfl
 obtain⟨_,F83⟩:=d83.F
 have m83:=mg_of X G d83.a
 have b83:=F83.binds (ps:=["_law_script", "_law_keeper", "_law_own", "_law_some", "_law_number"]) fun _ _ _ _ _ _ us hl=>match us,hl with | [_,_,_,_,_],_=>rfl
 have F84:=j3q (st:=z5c) lL cL' kL
 have Z:ExP K mg cP:=⟨mg_of X G ncP,xP⟩
 have Y0:KpC K C0:=⟨⟨pg,hd,po,sa⟩,n_number,n_term,n_voice,n_head,n_way,n_pack,n_row,n_store,n_nexts,n_held,n_agreed,n_voices,n_waits⟩
 have mC0:=mg_of X G aC
 obtain⟨_,G0⟩:=w0.F
 have gb0:=G0.binds (ps:=["self", "number", "seats"]) fun _ _ _ _ _ _ us hl=>match us,hl with | [_,_,_],_=>rfl
 obtain⟨_,G1⟩:=w1.F
 have gb1:=G1.binds (ps:=["self"]) fun _ _ _ _ _ _ us hl=>match us,hl with | [_],_=>rfl
 obtain⟨_,G2⟩:=w2.F
 have gb2:=G2.binds (ps:=["self", "term"]) fun _ _ _ _ _ _ us hl=>match us,hl with | [_,_],_=>rfl
 obtain⟨_,G3⟩:=w3.F
 have gb3:=G3.binds (ps:=["self"]) fun _ _ _ _ _ _ us hl=>match us,hl with | [_],_=>rfl
 obtain⟨_,G4⟩:=w4.F
 have gb4:=G4.binds (ps:=["self"]) fun _ _ _ _ _ _ us hl=>match us,hl with | [_],_=>rfl
 refine⟨fnOf "law" "law" (q6l z5c) (q4n z5c) (q0h z5c) .none kVL dcL pmL anL cdL ctL,fun s v=>.of_eq rfl,fun base _ _=>?_⟩
 have CEo:Cal l.prog w K mg base "end_of" 1 ["row"] (q5v K):=cal F1 m1 b1 (z0l F1 T)
 have CEa:Cal l.prog w K mg base "entry_at" 2 ["row", "place"] (x6e K):=cal F2 m2 b2 (x7d F2 CEo)
 have CTa:Cal l.prog w K mg base "term_at" 3 ["row", "place"] (q8p K):=cal F3 m3 b3 (x9y F3 CEa)
 have CEp:Cal l.prog w K mg base "end_of" 1 ["row"] (q9k):=cal F1 m1 b1 (x9v F1 T)
 have CHs:Cal l.prog w K mg base "holds_seats" 1 ["entry"] (x6j):=cal F33 m33 b33 (z5r F33)
 have CSf:Cal l.prog w K mg base "seats_of" 2 ["row", "first"] (q9t):=cal F34 m34 b34 (x6f F34 CHs)
 have CU:Cal l.prog w K mg base "unlike" 1 ["numbers", "others"] (x3e K):=cal F31 m31 b31 (z3w F31)
 have CM:Cal l.prog w K mg base "most" 2 ["seats", "those"] (z1w K):=cal F32 m32 b32 (z9p F32 T CU)
 have CAn:Cal l.prog w K mg base "as_new" 4 ["last", "place", "row"] (x6y K):=cal F5 m5 b5 (x9l F5 CEo CTa)
 have CAg:Cal l.prog w K mg base "agrees" 4 ["row", "place", "last"] (q9v K):=cal F6 m6 b6 (z0i F6 CEo CTa)
 have CFr:Cal l.prog w K mg base "fresh" 1 [] (x3u K):=cal F12 m12 b12 (z4s F12)
 have CFp:Cal l.prog w K mg base "first_pack" 2 ["seats"] (j5c):=cal F38 m38 b38 (x2o F38 CFr)
 have CBg:Cal l.prog w K mg base "begun" 1 [] (z3p):=cal F0 m0 b0 (z0o F0)
 have OB:=x6b (P:=l.prog) (w:=w) (mg:=mg) (base:=base) Y0 G3
 have ON:=j0w (P:=l.prog) (w:=w) (base:=base) Y0 G4 CEp
 have OW:=j1i (P:=l.prog) (w:=w) (mg:=mg) (base:=base) Y0 G1 ⟨w3.a,w3.i,G3.kp⟩ OB gb3 ⟨w4.a,w4.i,G4.kp⟩ ON gb4
 have OH:=z5b (P:=l.prog) (w:=w) (mg:=mg) (base:=base) Y0 G2 ⟨w3.a,w3.i,G3.kp⟩ OB gb3
 have OI:=z5v (P:=l.prog) (w:=w) (base:=base) Y0 G0 ⟨w1.a,w1.i,G1.kp⟩ OW gb1 CFp CBg
 have CPo:Cal l.prog w K mg base "part_of" 1 ["parts", "name"] (x2y):=cal F13 m13 b13 (x9e F13)
 have CWp:Cal l.prog w K mg base "with_part" 1 ["parts", "part"] (x8p K):=cal F14 m14 b14 (x4p F14 T)
 have CNa:Cal l.prog w K mg base "number_at" 2 ["parts", "name"] (x3k):=cal F15 m15 b15 (x4f F15 CPo)
 have CVo:Cal l.prog w K mg base "value_of" 3 ["store", "name"] (z3e K):=cal F16 m16 b16 (x5x F16 CNa)
 have CWv:Cal l.prog w K mg base "with_value" 2 ["store", "name", "value"] (x7f K):=cal F17 m17 b17 (x3a F17 CWp)
 have CDo:Cal l.prog w K mg base "done" 4 ["store", "deed"] (x5y K):=cal F18 m18 b18 (j0g F18 CVo CWv)
 have CNo:Cal l.prog w K mg base "number_of" 3 ["store", "caller"] (z1d):=cal F19 m19 b19 (x4h F19 CNa)
 have CAp:Cal l.prog w K mg base "applied" 5 ["store", "what"] (z8h K):=cal F21 m21 b21 (x9n F21 CNo CDo CWp)
 have CRp:Cal l.prog w K mg base "replayed" 6 ["store", "entries"] (x8n K):=cal F22 m22 b22 (x5u F22 CAp)
 have CBn:Cal l.prog w K mg base "behind" 2 ["row", "place", "many"] (z1r K):=cal F4 m4 b4 (x9p F4 T CEo)
 have CBp:Cal l.prog w K mg base "behind" 2 ["row", "place", "many"] (z2h):=cal F4 m4 b4 (x9b F4 T CEp)
 have CBe:CalE l.prog w K mg base "behind" 2 ["row", "place", "many"] (z2b K cP):=j3v F4 m4 b4 (z0m Z F4 T CEo)
 have CEe:CalE l.prog w K mg base "entry_at" 2 ["row", "place"] (z1t K cP):=j3v F2 m2 b2 (x4g Z F2 CEo)
 have CTe:CalE l.prog w K mg base "term_at" 3 ["row", "place"] (x6u K cP):=j3v F3 m3 b3 (x5w F3 CEe)
 have CEq:Cal l.prog w K mg base "entry_at" 2 ["row", "place"] (z0s):=cal F2 m2 b2 (x5a F2 CEp)
 have CTq:Cal l.prog w K mg base "term_at" 3 ["row", "place"] (x7e):=cal F3 m3 b3 (x6z F3 CEq)
 have CPk:Cal l.prog w K mg base "pack_at" 7 ["pack", "row", "place"] (j5i K):=cal F39 m39 b39 (x6g F39 CTq CBp CSf CRp)
 have CCe:CalE l.prog w K mg base "cut_off" 4 ["row", "place"] (x8l K cP):=j3v F10 m10 b10 (x1q F10 T CTe CBe)
 have CC0:Cal l.prog w K mg base "cut_off" 4 ["row", "place"] (z1u):=cal F10 m10 b10 (FnOk.calm (x1q F10 T CTe CBe) fun _ _ _ _ h=>w0k h)
 have CT0:Cal l.prog w K mg base "taken_over" 5 ["row", "place", "last"] (z0f):=cal F11 m11 b11 ((x3b F11 CAg CCe).imp fun _ _ _ _ h=>j8t h)
 have CSa:Cal l.prog w K mg base "same_ahead" 1 ["own", "others"] (x5s):=cal F8 m8 b8 (x2m F8 T)
 have CF0:Cal l.prog w K mg base "filled" 2 ["row", "place", "entries"] (z3g):=cal F9 m9 b9 (FnOk.calm (z3c Z F9 T CEo CSa) fun _ _ _ _ h=>j8m h)
 have CSn:Cal l.prog w K mg base "seats_now" 3 ["keeper"] (z4j C0):=cal F40 m40 b40 (j1b Y0 F40 CSf)
 have CHm:Cal l.prog w K mg base "has_most_voices" 4 ["keeper"] (z7r C0):=cal F57 m57 b57 (j2o Y0 F57 CSn CM)
 have COt:Cal l.prog w K mg base "other_seats" 4 ["keeper"] (z8s C0):=cal F55 m55 b55 (j2a Y0 F55 CSn)
 have CSt:Cal l.prog w K mg base "stand" 7 ["keeper"] (z7o C0):=cal F58 m58 b58 (j3c Y0 F58 ⟨w2.a,w2.i,G2.kp⟩ OH gb2 CHm CEp CTa COt)
 have CMy:Cal l.prog w K mg base "may_give" 5 ["keeper", "letter"] (z0y C0):=cal F59 m59 b59 (z8c Y0 F59 CAn)
 have CTk:Cal l.prog w K mg base "take_ask" 6 ["keeper", "letter"] (z9m C0):=cal F60 m60 b60 (j1x Y0 F60 ⟨w2.a,w2.i,G2.kp⟩ OH gb2 CMy)
 have CTf:Cal l.prog w K mg base "took_for_head" 3 ["keeper", "letter"] (j4c C0):=cal F24 m24 b24 (j6n Y0 F24 ⟨w2.a,w2.i,G2.kp⟩ OH gb2)
 have CHl:Cal l.prog w K mg base "held_letter" 1 ["keeper", "other", "good", "place"] (j3s C0):=cal F25 m25 b25 (j6i Y0 F25)
 have CTd:Cal l.prog w K mg base "turned_down" 2 ["keeper", "letter"] (j4b C0):=cal F26 m26 b26 (j4z Y0 F26 CHl CEp)
 have CKa:Cal l.prog w K mg base "know_agreed" 7 ["keeper", "place"] (j5o C0):=cal F27 m27 b27 (j6h Y0 F27 CBn CRp)
 have CTh:Cal l.prog w K mg base "take_hand" 8 ["keeper", "letter"] (j6a C0):=cal F28 m28 b28 (j6p Y0 F28 T CTf CTd CAg CHl CEp CF0 CKa)
 have CTo:Cal l.prog w K mg base "take_over" 6 ["keeper", "pack"] (j4s C0):=cal F29 m29 b29 (j6k Y0 F29 CT0)
 have CTp:Cal l.prog w K mg base "take_pack" 7 ["keeper", "letter"] (j5d C0):=cal F30 m30 b30 (j6o Y0 F30 CTf CTd CTo CHl)
 have CPu:Cal l.prog w K mg base "pack_up" 8 ["keeper", "place"] (j6x C0):=cal F54 m54 b54 (j5y Y0 F54 CPk CC0)
 have CTl:Cal l.prog w K mg base "take_held" 3 ["keeper", "letter"] (j6v C0):=cal F52 m52 b52 (j5f Y0 F52 ⟨w2.a,w2.i,G2.kp⟩ OH gb2)
 have CBt:Cal l.prog w K mg base "beat" 1 ["keeper", "other"] (z7s C0):=cal F23 m23 b23 (j3p Y0 F23)
 have CTw:Cal l.prog w K mg base "take_wish" 1 ["keeper", "letter"] (z9u C0):=cal F53 m53 b53 (j2x Y0 F53)
 have LC:Cal l.prog w K mg base "_law_cell_at" 1 ["_law_script", "_law_k"] (x6m K):=cal F61 m61 b61 (z4t F61 T)
 have LX:Cal l.prog w K mg base "_law_mixed" 2 ["_law_script", "_law_k"] (x7i K):=cal F62 m62 b62 (z7y F62 LC)
 have LD:Cal l.prog w K mg base "_law_drawn" 1 ["_law_number", "_law_sizes"] (x7m):=cal F63 m63 b63 (z9h F63)
 have LN:Cal l.prog w K mg base "_law_name" 3 ["_law_script", "_law_which"] (z5u K):=cal F64 m64 b64 (j1u F64 T LX)
 have LW:Cal l.prog w K mg base "_law_what" 4 ["_law_script", "_law_number"] (z8w K):=cal F65 m65 b65 (j0y F65 LD LN)
 have LO:Cal l.prog w K mg base "_law_done" 1 ["_law_names", "_law_callers", "_law_what_here"] (z8e):=cal F66 m66 b66 (j2s F66)
 have LS:Cal l.prog w K mg base "_law_store" 2 ["_law_entries"] (x8e K):=cal F67 m67 b67 (z9q F67 T LO)
 have LT:Cal l.prog w K mg base "_law_seats" 1 ["_law_entries", "_law_first"] (z5q K):=cal F68 m68 b68 (j1f F68)
 have LE:Cal l.prog w K mg base "_law_entry" 5 ["_law_script", "_law_term", "_law_number"] (z9l K):=cal F69 m69 b69 (j3e F69 LW)
 have LF:Cal l.prog w K mg base "_law_end" 1 ["_law_entries"] (q9h K):=cal F70 m70 b70 (z9a F70 T)
 have LP:Cal l.prog w K mg base "_law_pack" 3 ["_law_entries", "_law_place"] (z5k K):=cal F71 m71 b71 (j1t F71 LF LT LS)
 have LR:Cal l.prog w K mg base "_law_world" 6 ["_law_script", "_law_world_here", "_law_some", "_law_number", "_law_term"] (z8v K):=cal F72 m72 b72 (j2u F72 T LE)
 have LA:Cal l.prog w K mg base "_law_alike" 7 ["_law_found", "_law_due"] (z8b 6):=cal F73 m73 b73 (j2d F73 T m73 b73 6)
 have LK:Cal l.prog w K mg base "_law_kept" 8 ["_law_own", "_law_found", "_law_due"] (x9x):=cal F74 m74 b74 (j2f F74 LA)
 have LH:Cal l.prog w K mg base "_law_heard" 1 ["_law_own", "_law_term"] (z1k):=cal F75 m75 b75 (j2r F75)
 have LJ:Cal l.prog w K mg base "_law_followed" 2 ["_law_own", "_law_letter"] (z4m):=cal F76 m76 b76 (j3l F76 LH)
 have LI:Cal l.prog w K mg base "_law_filled" 1 ["_law_own", "_law_place", "_law_entries"] (z9k):=cal F77 m77 b77 (j3r F77 T)
 have LM:Cal l.prog w K mg base "_law_handed" 3 ["_law_own", "_law_letter"] (z7i):=cal F78 m78 b78 (j1a F78 T LJ LF LI)
 have LQ:Cal l.prog w K mg base "_law_packed" 3 ["_law_own", "_law_letter", "_law_entries"] (z8k):=cal F79 m79 b79 (j0x F79 T LJ)
 have LU:Cal l.prog w K mg base "_law_taken" 9 ["_law_keeper", "_law_own", "_law_world_here", "_law_some", "_law_number"] (z8z C0):=cal F80 m80 b80 (j1j Y0 F80 T LF LP LK LM LQ CTp CTh)
 have LV:Cal l.prog w K mg base "_law_stands" 4 ["_law_keeper", "_law_own"] (z9n C0):=cal F81 m81 b81 (j2c Y0 F81 T LF LP LS)
 have LY:Cal l.prog w K mg base "_law_asked" 2 ["_law_own", "_law_letter"] (z7m):=cal F82 m82 b82 (j2n F82 T LH LF)
 have LZ:Cal l.prog w K mg base "_law_else" 9 ["_law_script", "_law_keeper", "_law_own", "_law_some", "_law_number"] (z9f K C0):=cal F83 m83 b83 (j0q Y0 F83 T LN LF LT LH LK LY CTw CSt CTk CTl CBt)
 exact j3f Y0 F84 T mC0 ⟨mk,w0.a,w0.i,kc⟩ OI gb0 ⟨w1.a,w1.i,G1.kp⟩ (j2t OW) gb1 LX LD LR LZ LU CPu LV
theorem walk {l:PySem.W.OpenLaw} {q:Program} {loose:List Str} {XP:(Str→Option Value)→Heap→Prop} {YP:World→Heap→Prop} {d:DefRec} {K:Params→Frag} (hn:l.most=some 63) (hdf:d.params.defaults=[])
  (hY:∀ (w:World) (h:Heap),YP w h→(K w.params).In h)
  (F:∀ (w:World) (mg:Str→Option Value) (fa:Addr) (h:Heap),(K w.params).In h→h.Ns mainGlobals mg→mg d.name=some (.ref fa) →
   ∃ fd:FuncData,(∀ (s:Shared) (u:Value),BindsTo s fd ⟨[u],[]⟩ [("_law_script",u)])∧∀ base:Heap,(K w.params).In base→base.Ns mainGlobals mg→FnOk l.prog w (K w.params) mg base CX0 10 fa fd ["_law_script"] (z5a (K w.params))) :
  PySem.W.WalkO q loose XP YP l.row.toRowW d [] (fun f vs=>PySem.call f vs) :=
 L2.z9g (n:=63) (k:=10) (x := "_law_script") (CX:=fun _=>CX0) (sp:=fun w=>z5a (K w.params)) hn (by decide) hdf ⟨rfl,by decide,by decide⟩ hY F (fun _ _ a ns hl _ hS=>⟨a,ns,rfl,hS,hl,fun _=>rfl⟩) fun _ _ _ _ _ z=>z
end K1
namespace PySem.W.Fast
theorem tw10162896786068248777:True:=⟨⟩
theorem tw3621080704358358680:True:=⟨⟩
theorem tw2942145368375297921:True:=⟨⟩
theorem tw11786312220256322395:True:=⟨⟩
theorem tw13074042543889421839:True:=⟨⟩
theorem tw4183665492937918204:True:=⟨⟩
theorem tw1601725689184016189:True:=⟨⟩
theorem tw284493830052445729:True:=⟨⟩
theorem tw11582023231335248813:True:=⟨⟩
theorem tw17743599621371425605:True:=⟨⟩
theorem tw7862032370007473104:True:=⟨⟩
theorem tw11096309132120999885:True:=⟨⟩
theorem tw4961820351939922578:True:=⟨⟩
theorem tw11474559009431269011:True:=⟨⟩
theorem tw3084183195361353716:True:=⟨⟩
theorem tw9805679664927170774:True:=⟨⟩
theorem tw4356142650245735372:True:=⟨⟩
theorem tw4415149249525907660:True:=⟨⟩
theorem tw16609316098226490224:True:=⟨⟩
theorem tw522498091409298864:True:=⟨⟩
theorem tw12733051100484285009:True:=⟨⟩
theorem tw3141582956309126026:True:=⟨⟩
theorem tw10960803607902428107:True:=⟨⟩
theorem tw9939064161375723962:True:=⟨⟩
theorem tw13067003969498646567:True:=⟨⟩
theorem tw8805066401158016179:True:=⟨⟩
theorem tw18390387784870461526:True:=⟨⟩
theorem tw934698055239208400:True:=⟨⟩
theorem tw11621947161620660336:True:=⟨⟩
theorem tw2490239954800941198:True:=⟨⟩
theorem tw15189780898325112193:True:=⟨⟩
theorem tw13616436492426557802:True:=⟨⟩
theorem tw10831252373727547589:True:=⟨⟩
theorem tw6993489921999643677:True:=⟨⟩
theorem tw15577538717579596549:True:=⟨⟩
theorem tw11093850808870060621:True:=⟨⟩
theorem tw3482578988301337841:True:=⟨⟩
theorem tw6792762330195210655:True:=⟨⟩
theorem tw11733766600390512842:True:=⟨⟩
theorem tw955822333241118001:True:=⟨⟩
theorem tw486067635408867808:True:=⟨⟩
theorem tw1731537201473479282:True:=⟨⟩
theorem tw14123756366142494960:True:=⟨⟩
theorem tw12145298620473538365:True:=⟨⟩
theorem tw5632302389875311145:True:=⟨⟩
theorem tw12299921838088804689:True:=⟨⟩
theorem tw469682630197711798:True:=⟨⟩
theorem tw7658871850601901233:True:=⟨⟩
theorem tw13420951006628866079:True:=⟨⟩
theorem tw6489132786611022509:True:=⟨⟩
theorem tw15890971148206879754:True:=⟨⟩
theorem tw3058899883454641388:True:=⟨⟩
theorem tw1042981863477363452:True:=⟨⟩
theorem tw17542823141562983444:True:=⟨⟩
theorem tw15348040180263151682:True:=⟨⟩
theorem tw3639873913899900164:True:=⟨⟩
theorem tw1638797003684511235:True:=⟨⟩
theorem tw15838646575060109477:True:=⟨⟩
theorem tw15784002954768260685:True:=⟨⟩
theorem tw5811638626605046855:True:=⟨⟩
theorem tw8004000446821378700:True:=⟨⟩
theorem tw14418996435836842342:True:=⟨⟩
theorem tw9315405529324941621:True:=⟨⟩
theorem tw6359074350572843821:True:=⟨⟩
theorem tw194273060315281825:True:=⟨⟩
theorem tw11355969895434789520:True:=⟨⟩
theorem tw12986643213269831324:True:=⟨⟩
theorem tw13821451588827325290:True:=⟨⟩
theorem tw12380208271999901814:True:=⟨⟩
theorem tw14390236006353360317:True:=⟨⟩
theorem tw4181771454314196391:True:=⟨⟩
theorem tw7680985910830600784:True:=⟨⟩
theorem tw10719693286117867214:True:=⟨⟩
theorem tw13837551638644345084:True:=⟨⟩
theorem tw11556192636714189979:True:=⟨⟩
theorem tw14493136563168751980:True:=⟨⟩
theorem tw16789939666990888075:True:=⟨⟩
theorem tw2759203559064056810:True:=⟨⟩
theorem tw716929850110010773:True:=⟨⟩
theorem tw6220317968629876577:True:=⟨⟩
theorem tw14770528838318893934:True:=⟨⟩
theorem tw1774043233843708978:True:=⟨⟩
theorem tw15083499949295720301:True:=⟨⟩
theorem tw10637968905773067515:True:=⟨⟩
theorem tw6756341692495569939:True:=⟨⟩
theorem tw11143873116818324166:True:=⟨⟩
theorem tw985258317457963233:True:=⟨⟩
theorem tw11904614486310866851:True:=⟨⟩
theorem tw2314026355176452543:True:=⟨⟩
theorem tw8358109978737991701:True:=⟨⟩
theorem tw13636129246621705664:True:=⟨⟩
theorem tw13711795591802055801:True:=⟨⟩
theorem tw8672430039348616616:True:=⟨⟩
theorem tw9631230737693860769:True:=⟨⟩
theorem tw13053675308270432239:True:=⟨⟩
theorem tw14286463348491913022:True:=⟨⟩
theorem tw2868735087754153617:True:=⟨⟩
theorem tw8695063527276804663:True:=⟨⟩
theorem tw1451490749895266474:True:=⟨⟩
theorem tw700369475052154131:True:=⟨⟩
theorem tw18301794736057448231:True:=⟨⟩
theorem tw7314087784936911812:True:=⟨⟩
theorem tw11147815601458501134:True:=⟨⟩
theorem tw16700028828722342300:True:=⟨⟩
theorem tw9816742151933230615:True:=⟨⟩
theorem tw2721084522609250259:True:=⟨⟩
theorem tw13779205644368329858:True:=⟨⟩
theorem tw6154672509533452142:True:=⟨⟩
theorem tw884083296708093918:True:=⟨⟩
theorem tw10211624080246810102:True:=⟨⟩
theorem tw16056719527414327131:True:=⟨⟩
theorem tw2708229651159458124:True:=⟨⟩
theorem tw1582233953015132908:True:=⟨⟩
theorem tw805163751884656463:True:=⟨⟩
theorem tw14243810802653262925:True:=⟨⟩
theorem tw16342875360733868769:True:=⟨⟩
theorem tw3821131902871881181:True:=⟨⟩
theorem tw14242549318451383316:True:=⟨⟩
theorem tw16415131666771948600:True:=⟨⟩
theorem tw6146853987686178417:True:=⟨⟩
theorem tw6915383006619917149:True:=⟨⟩
theorem tw13372126796934519296:True:=⟨⟩
theorem tw7107708645261064224:True:=⟨⟩
theorem tw12501494198553807043:True:=⟨⟩
theorem tw14167555576461018487:True:=⟨⟩
theorem tw13887004828291921989:True:=⟨⟩
theorem tw9579355939099983720:True:=⟨⟩
theorem tw7529210833124571096:True:=⟨⟩
theorem tw2867463884606754303:True:=⟨⟩
theorem tw6310030611910546385:True:=⟨⟩
theorem tw15794950172804931933:True:=⟨⟩
theorem tw1908953020396967413:True:=⟨⟩
theorem tw4700906597511704435:True:=⟨⟩
theorem tw13720039410822295112:True:=⟨⟩
theorem tw1731552195359202534:True:=⟨⟩
theorem tw17034456263173291931:True:=⟨⟩
theorem tw14553529554300084119:True:=⟨⟩
theorem tw1743445873008959306:True:=⟨⟩
theorem tw9236553854489178037:True:=⟨⟩
theorem tw4607454303756475838:True:=⟨⟩
theorem tw10779129415518668892:True:=⟨⟩
theorem tw10488580997645241520:True:=⟨⟩
theorem tw5327252933432075060:True:=⟨⟩
theorem tw10672877725003443257:True:=⟨⟩
theorem tw9411509328913687922:True:=⟨⟩
theorem tw13133135328906641379:True:=⟨⟩
theorem tw12065582907889745094:True:=⟨⟩
theorem tw1421958653503738561:True:=⟨⟩
theorem tw9202351325570873587:True:=⟨⟩
theorem tw8339058675755149720:True:=⟨⟩
theorem tw16763255305577330299:True:=⟨⟩
theorem tw5092495703283354118:True:=⟨⟩
theorem tw7177034235284069399:True:=⟨⟩
theorem tw2190374857721531888:True:=⟨⟩
theorem tw3672882194516798270:True:=⟨⟩
theorem tw15280072811954507751:True:=⟨⟩
theorem tw8345732962312211850:True:=⟨⟩
theorem tw15850235539723111812:True:=⟨⟩
theorem tw7032435510624932575:True:=⟨⟩
theorem tw9354511578566071496:True:=⟨⟩
theorem tw6102606991366086790:True:=⟨⟩
theorem tw18213143517169440034:True:=⟨⟩
theorem tw16016927589675024855:True:=⟨⟩
theorem tw13067224200631688079:True:=⟨⟩
theorem tw6216225517272607849:True:=⟨⟩
theorem tw8778986163756286721:True:=⟨⟩
theorem tw16963840963684090864:True:=⟨⟩
theorem tw1845483962718550457:True:=⟨⟩
theorem tw4388046345539154462:True:=⟨⟩
theorem tw13928930783541596219:True:=⟨⟩
theorem tw5141643131333119087:True:=⟨⟩
theorem tw2683033050346319499:True:=⟨⟩
theorem tw17114463279394732240:True:=⟨⟩
theorem tw4827062425020157885:True:=⟨⟩
theorem tw11604754443936250449:True:=⟨⟩
theorem tw5103122418645063601:True:=⟨⟩
theorem tw15287003658594779177:True:=⟨⟩
theorem tw6331892287878222930:True:=⟨⟩
theorem tw4440662553840824249:True:=⟨⟩
theorem tw3524464645276338738:True:=⟨⟩
theorem tw17784657114378444849:True:=⟨⟩
theorem tw3220376726447544935:True:=⟨⟩
theorem tw1128317476754692336:True:=⟨⟩
theorem tw9245121624912807441:True:=⟨⟩
theorem tw4010620378220585863:True:=⟨⟩
theorem tw12634829579203853422:True:=⟨⟩
theorem tw16154108814355111652:True:=⟨⟩
theorem tw12964454849464605461:True:=⟨⟩
theorem tw8594918702681855763:True:=⟨⟩
theorem tw3187445951935465750:True:=⟨⟩
theorem tw8342748503558595131:True:=⟨⟩
theorem tw11945679798767058164:True:=⟨⟩
theorem tw4749568794334793430:True:=⟨⟩
theorem tw1719736248182893220:True:=⟨⟩
theorem tw4197177829462226596:True:=⟨⟩
theorem tw11593694025729632396:True:=⟨⟩
theorem tw10105025943323047432:True:=⟨⟩
theorem tw18404942499764938566:True:=⟨⟩
theorem tw11128295960109962213:True:=⟨⟩
theorem tw16018186930717320249:True:=⟨⟩
theorem tw375878436998107942:True:=⟨⟩
theorem tw18092758090596398700:True:=⟨⟩
theorem tw15830947287788154538:True:=⟨⟩
theorem tw3372492930553488031:True:=⟨⟩
theorem tw10744265016487708425:True:=⟨⟩
theorem tw7021547769148505635:True:=⟨⟩
theorem tw2718613943542604403:True:=⟨⟩
theorem tw2253533174513183636:True:=⟨⟩
theorem tw11649836180360114014:True:=⟨⟩
theorem tw16526911423108457288:True:=⟨⟩
theorem tw12586623671345854557:True:=⟨⟩
theorem tw13723839498493316232:True:=⟨⟩
theorem tw5449596825036705679:True:=⟨⟩
theorem tw13285134636899678886:True:=⟨⟩
theorem tw7531039774849468812:True:=⟨⟩
theorem tw11074633064376157442:True:=⟨⟩
theorem tw17788401935683918012:True:=⟨⟩
theorem tw1119409070182590977:True:=⟨⟩
theorem tw7848134920664176813:True:=⟨⟩
theorem tw449024166393025143:True:=⟨⟩
theorem tw13492607867742383801:True:=⟨⟩
theorem tw3909939575185282756:True:=⟨⟩
theorem tw17426686438974540018:True:=⟨⟩
theorem tw3142208152931094429:True:=⟨⟩
theorem tw15148997262793318674:True:=⟨⟩
theorem tw14108215581539041549:True:=⟨⟩
theorem tw1660031062956613124:True:=⟨⟩
theorem tw4862875977326555831:True:=⟨⟩
theorem tw17354100291352163536:True:=⟨⟩
theorem tw8251675056944699620:True:=⟨⟩
theorem tw674882020772828316:True:=⟨⟩
theorem tw916666994734950318:True:=⟨⟩
theorem tw14683234998436456709:True:=⟨⟩
theorem tw1919120503596000690:True:=⟨⟩
theorem tw16981883255576909912:True:=⟨⟩
theorem tw2722528560792322211:True:=⟨⟩
theorem tw4035004439585931294:True:=⟨⟩
theorem tw10172609736588869460:True:=⟨⟩
theorem tw9442835454309807137:True:=⟨⟩
theorem tw9850539477585328047:True:=⟨⟩
theorem tw114852301541413145:True:=⟨⟩
theorem tw15814376025677459070:True:=⟨⟩
theorem tw18075900051268012793:True:=⟨⟩
theorem tw18331002085370755002:True:=⟨⟩
theorem tw1231009529956395071:True:=⟨⟩
theorem tw3387897904425464753:True:=⟨⟩
theorem tw17323773325251553201:True:=⟨⟩
theorem tw4528863430513859989:True:=⟨⟩
theorem tw8108097920851730174:True:=⟨⟩
theorem tw11684892568394298387:True:=⟨⟩
theorem tw17811473158190836958:True:=⟨⟩
theorem tw2487496796410092953:True:=⟨⟩
theorem tw13155331578955979756:True:=⟨⟩
theorem tw4925819433830515631:True:=⟨⟩
theorem tw15851944509994737323:True:=⟨⟩
theorem tw1424053360106633440:True:=⟨⟩
theorem tw13528811328618475720:True:=⟨⟩
theorem tw15814824009148998215:True:=⟨⟩
theorem tw2962196787347252141:True:=⟨⟩
theorem tw1592772142982028123:True:=⟨⟩
theorem tw4756423958627681406:True:=⟨⟩
theorem tw8492105651766944510:True:=⟨⟩
theorem tw13288234851971125589:True:=⟨⟩
theorem tw6911513118870571877:True:=⟨⟩
theorem tw9851684616493661070:True:=⟨⟩
theorem tw3159277409894915643:True:=⟨⟩
theorem tw7150011052841026301:True:=⟨⟩
theorem tw2912770168979215356:True:=⟨⟩
theorem tw14185865619624348577:True:=⟨⟩
theorem tw5714029126685139300:True:=⟨⟩
theorem tw4413189457196657449:True:=⟨⟩
theorem tw2197818461408215317:True:=⟨⟩
theorem tw9132730373809180944:True:=⟨⟩
theorem tw4713601236940294283:True:=⟨⟩
theorem tw17344724454075743894:True:=⟨⟩
theorem tw14543743721526961271:True:=⟨⟩
theorem tw5792360721778485928:True:=⟨⟩
theorem tw5507858748517769248:True:=⟨⟩
theorem tw16629928931433404478:True:=⟨⟩
theorem tw12299628648274437225:True:=⟨⟩
theorem tw6344975636151288178:True:=⟨⟩
theorem tw17357800873915503979:True:=⟨⟩
theorem tw12741954410920952387:True:=⟨⟩
theorem tw2795953839395059784:True:=⟨⟩
theorem tw10601237517695163921:True:=⟨⟩
theorem tw12335554575768845164:True:=⟨⟩
theorem tw14574278664327417528:True:=⟨⟩
theorem tw7206268533620444345:True:=⟨⟩
theorem tw14092437604013532517:True:=⟨⟩
theorem tw17283593995142431467:True:=⟨⟩
theorem tw1153924499536685708:True:=⟨⟩
theorem tw14773310256414813830:True:=⟨⟩
theorem tw4641333893785151726:True:=⟨⟩
theorem tw3075965753956691045:True:=⟨⟩
theorem tw15321392789851648628:True:=⟨⟩
theorem tw9876348236005895907:True:=⟨⟩
theorem tw2229471646187668467:True:=⟨⟩
theorem tw6461760882967435935:True:=⟨⟩
theorem tw4302612696582827739:True:=⟨⟩
theorem tw9786073156539142551:True:=⟨⟩
theorem tw12298893871061765726:True:=⟨⟩
theorem tw16253861425124257945:True:=⟨⟩
theorem tw15433284192998198654:True:=⟨⟩
theorem tw6341340021254502209:True:=⟨⟩
theorem tw16291867460329578403:True:=⟨⟩
theorem tw8215324564032028853:True:=⟨⟩
theorem tw9339272396945349154:True:=⟨⟩
theorem tw10760116526143643550:True:=⟨⟩
theorem tw3953108781417726284:True:=⟨⟩
theorem tw16366148592566816313:True:=⟨⟩
theorem tw1835767175815712084:True:=⟨⟩
theorem tw16020207361091327960:True:=⟨⟩
theorem tw9237282130053153938:True:=⟨⟩
theorem tw416375688645026868:True:=⟨⟩
theorem tw15519779434503598578:True:=⟨⟩
theorem tw6594669864086852146:True:=⟨⟩
theorem tw14013957912565337762:True:=⟨⟩
theorem tw1470104512817374296:True:=⟨⟩
theorem tw9159816399583054769:True:=⟨⟩
theorem tw2368058141279551725:True:=⟨⟩
theorem tw2937773749698215624:True:=⟨⟩
theorem tw15840530100462147330:True:=⟨⟩
theorem tw1817688096954144401:True:=⟨⟩
theorem tw14775084185404425564:True:=⟨⟩
theorem tw9138496650493122286:True:=⟨⟩
theorem tw10643758470988632735:True:=⟨⟩
theorem tw9252327357549721805:True:=⟨⟩
theorem tw10451133944429975211:True:=⟨⟩
theorem tw8822413315988541420:True:=⟨⟩
theorem tw14735218960588218198:True:=⟨⟩
theorem tw7359922118661260773:True:=⟨⟩
theorem tw8811180071886381845:True:=⟨⟩
theorem tw10197580550529412223:True:=⟨⟩
theorem tw11064706367900080803:True:=⟨⟩
theorem tw6962532168677916294:True:=⟨⟩
theorem tw15327734452981813134:True:=⟨⟩
theorem tw9234269514223731160:True:=⟨⟩
theorem tw11700630496836072583:True:=⟨⟩
theorem tw10481537227675075601:True:=⟨⟩
theorem tw13071695269870835613:True:=⟨⟩
theorem tw7367863306141518337:True:=⟨⟩
theorem tw17665805236003511203:True:=⟨⟩
theorem tw17812788701954917897:True:=⟨⟩
theorem tw3498102398048283961:True:=⟨⟩
theorem tw5555899571488113221:True:=⟨⟩
theorem tw17785712158178784525:True:=⟨⟩
theorem tw13668173012302175770:True:=⟨⟩
theorem tw12643011534190139424:True:=⟨⟩
theorem tw14418337403494899266:True:=⟨⟩
theorem tw10091500825495310311:True:=⟨⟩
theorem tw15243250587214578155:True:=⟨⟩
theorem tw11564440474779542880:True:=⟨⟩
theorem tw13923832680117503980:True:=⟨⟩
theorem tw574430737746177015:True:=⟨⟩
theorem tw1880516986143147035:True:=⟨⟩
theorem tw7475068199490681817:True:=⟨⟩
theorem tw8989607115728675291:True:=⟨⟩
theorem tw14953132560461931795:True:=⟨⟩
theorem tw6411221906755213334:True:=⟨⟩
theorem tw6163805655871059674:True:=⟨⟩
theorem tw8797252453394300120:True:=⟨⟩
theorem tw317985704298534388:True:=⟨⟩
theorem tw2612956933571711429:True:=⟨⟩
theorem tw6713720304904535500:True:=⟨⟩
theorem tw6476559456149236179:True:=⟨⟩
theorem tw10190179909151458372:True:=⟨⟩
theorem tw7626703885934254460:True:=⟨⟩
theorem tw6844172446487163847:True:=⟨⟩
theorem tw6877698036786530705:True:=⟨⟩
theorem tw1761870613826292809:True:=⟨⟩
theorem tw16351621353441163736:True:=⟨⟩
theorem tw10849884324363022408:True:=⟨⟩
theorem tw13232826194922063149:True:=⟨⟩
theorem tw17216846769079013698:True:=⟨⟩
theorem tw12218267292743265164:True:=⟨⟩
theorem tw11026279888854842927:True:=⟨⟩
theorem tw2503371798803580481:True:=⟨⟩
theorem tw584571387752135041:True:=⟨⟩
theorem tw13601471847320343847:True:=⟨⟩
theorem tw6693201241246912004:True:=⟨⟩
theorem tw10786321140138330432:True:=⟨⟩
theorem tw7398489709734780693:True:=⟨⟩
theorem tw11388370785349672043:True:=⟨⟩
theorem tw14370498113157836255:True:=⟨⟩
theorem tw3722103445331628354:True:=⟨⟩
theorem tw2933180385384426842:True:=⟨⟩
theorem tw16135315097713148012:True:=⟨⟩
theorem tw12947855330426232330:True:=⟨⟩
theorem tw5796608308872897779:True:=⟨⟩
theorem tw1856198927947073919:True:=⟨⟩
theorem tw11815601943380272945:True:=⟨⟩
theorem tw7023738232243422978:True:=⟨⟩
theorem tw13984911820733916739:True:=⟨⟩
theorem tw12622247174373335167:True:=⟨⟩
theorem tw17760735418068763151:True:=⟨⟩
theorem tw3629257100090996737:True:=⟨⟩
theorem tw1934993616405792215:True:=⟨⟩
theorem tw17129473273406111461:True:=⟨⟩
theorem tw4664522907530407481:True:=⟨⟩
theorem tw2064778922480050100:True:=⟨⟩
theorem tw15849286197357292315:True:=⟨⟩
theorem tw9690873458494925095:True:=⟨⟩
theorem tw15664081761835884065:True:=⟨⟩
theorem tw14751134539424644514:True:=⟨⟩
theorem tw6456930038862533676:True:=⟨⟩
theorem tw17048317314107559564:True:=⟨⟩
theorem tw5766771413822764421:True:=⟨⟩
theorem tw3728324892593119963:True:=⟨⟩
theorem tw14153317310915262739:True:=⟨⟩
theorem tw11236617667437858139:True:=⟨⟩
theorem tw8134013426402461434:True:=⟨⟩
theorem tw15675735943771939185:True:=⟨⟩
theorem tw17426787572422749752:True:=⟨⟩
theorem tw2718672453998001703:True:=⟨⟩
theorem tw12092639373677265059:True:=⟨⟩
theorem tw687960665256671565:True:=⟨⟩
theorem tw14315840861932089116:True:=⟨⟩
theorem tw10110270046044885831:True:=⟨⟩
theorem tw12479821807724643506:True:=⟨⟩
theorem tw7315931857229337948:True:=⟨⟩
theorem tw6637777140322049100:True:=⟨⟩
theorem tw2614776318993031006:True:=⟨⟩
theorem tw12363114837599406489:True:=⟨⟩
theorem tw5343680418757777848:True:=⟨⟩
theorem tw13665142155146366852:True:=⟨⟩
theorem tw17582407290807797629:True:=⟨⟩
theorem tw14084108825071947454:True:=⟨⟩
theorem tw13063671826892037575:True:=⟨⟩
theorem tw5542552646431524355:True:=⟨⟩
theorem tw12529966981393979168:True:=⟨⟩
theorem tw11456555943891104589:True:=⟨⟩
theorem tw7262662139168623550:True:=⟨⟩
theorem tw5611267244353987309:True:=⟨⟩
theorem tw7553543293644967670:True:=⟨⟩
theorem tw15774892966256214052:True:=⟨⟩
theorem tw6330024448730777885:True:=⟨⟩
theorem tw1775684763225116095:True:=⟨⟩
theorem tw10129972042945160633:True:=⟨⟩
theorem tw18384234932934077302:True:=⟨⟩
theorem tw1077834382166273837:True:=⟨⟩
theorem tw10005508477023878523:True:=⟨⟩
theorem tw4374486851052722522:True:=⟨⟩
theorem tw4878982093836570785:True:=⟨⟩
theorem tw18431266332191654153:True:=⟨⟩
theorem tw15481952459793263709:True:=⟨⟩
theorem tw6001731864418554224:True:=⟨⟩
theorem tw3891098094800184593:True:=⟨⟩
theorem tw2085785642247560730:True:=⟨⟩
theorem tw933210739408870698:True:=⟨⟩
theorem tw6793796831393973643:True:=⟨⟩
theorem tw15887033503713065074:True:=⟨⟩
theorem tw6376174563147918704:True:=⟨⟩
theorem tw11880614206013826377:True:=⟨⟩
theorem tw7725947276710047426:True:=⟨⟩
theorem tw3639426075859303284:True:=⟨⟩
theorem tw9893029020258993311:True:=⟨⟩
theorem tw17716345853759686104:True:=⟨⟩
theorem tw15363707445509765048:True:=⟨⟩
theorem tw1383433456019820155:True:=⟨⟩
theorem tw8972877730291343882:True:=⟨⟩
theorem tw9889838095725800474:True:=⟨⟩
theorem tw11870132624928019083:True:=⟨⟩
theorem tw14058315501449561577:True:=⟨⟩
theorem tw17541396200190312842:True:=⟨⟩
theorem tw8213423151940412451:True:=⟨⟩
theorem tw6039344937186309606:True:=⟨⟩
theorem tw15606721363339409250:True:=⟨⟩
theorem tw17931451160642100477:True:=⟨⟩
theorem tw4256975197911902011:True:=⟨⟩
theorem tw10235192461230679647:True:=⟨⟩
theorem tw2747523903872759607:True:=⟨⟩
theorem tw3996435808486198338:True:=⟨⟩
theorem tw12974784443291137586:True:=⟨⟩
theorem tw16536405505136587183:True:=⟨⟩
theorem tw12050669273969129539:True:=⟨⟩
theorem tw8955605457510686873:True:=⟨⟩
theorem tw15313386962011819383:True:=⟨⟩
theorem tw5445570534799537219:True:=⟨⟩
theorem tw10672696410726874593:True:=⟨⟩
theorem tw12580225199763289093:True:=⟨⟩
theorem tw15209599731218404530:True:=⟨⟩
theorem tw16452916530156240:True:=⟨⟩
theorem tw18059759755225343294:True:=⟨⟩
theorem tw9473189551581457979:True:=⟨⟩
theorem tw7783774402921010284:True:=⟨⟩
theorem tw14787823282903391496:True:=⟨⟩
theorem tw16446704735180152815:True:=⟨⟩
theorem tw8930762659607825655:True:=⟨⟩
theorem tw4685877155615960751:True:=⟨⟩
theorem tw5630660281173475585:True:=⟨⟩
theorem tw10869830175176368735:True:=⟨⟩
theorem tw12730431474743042237:True:=⟨⟩
theorem tw11501681125998839722:True:=⟨⟩
theorem tw17787128953043643469:True:=⟨⟩
theorem tw10491486149540482015:True:=⟨⟩
theorem tw4870719375149945336:True:=⟨⟩
theorem tw4915736965805687548:True:=⟨⟩
theorem tw8373731254007595154:True:=⟨⟩
theorem tw14054434839068300594:True:=⟨⟩
theorem tw5436643693681627089:True:=⟨⟩
theorem tw1805660015949991012:True:=⟨⟩
theorem tw76383745853586173:True:=⟨⟩
theorem tw6429733785586329112:True:=⟨⟩
theorem tw342874084330688973:True:=⟨⟩
theorem tw13775759517965117767:True:=⟨⟩
theorem tw1647769813712308834:True:=⟨⟩
theorem tw7115411760788362316:True:=⟨⟩
theorem tw17088576235941734723:True:=⟨⟩
theorem tw7345084006273131186:True:=⟨⟩
theorem tw14841652004144820448:True:=⟨⟩
theorem tw3507089285186458835:True:=⟨⟩
theorem tw6758847838324774016:True:=⟨⟩
theorem tw17806094264361870983:True:=⟨⟩
theorem tw14264403880737364695:True:=⟨⟩
theorem tw17765687629735112014:True:=⟨⟩
theorem tw2595635339649589440:True:=⟨⟩
theorem tw14685726161863599477:True:=⟨⟩
theorem tw5423522987195717932:True:=⟨⟩
theorem tw10498494360193056661:True:=⟨⟩
theorem tw10815707816292077360:True:=⟨⟩
theorem tw877528979961243820:True:=⟨⟩
theorem tw5624559530819185885:True:=⟨⟩
theorem tw16272733150521916832:True:=⟨⟩
theorem tw1106622771919860253:True:=⟨⟩
theorem tw17177589694011039124:True:=⟨⟩
theorem tw3916366914660140769:True:=⟨⟩
theorem tw16404485978014017607:True:=⟨⟩
theorem tw8825286842342732066:True:=⟨⟩
theorem tw5367108743017052070:True:=⟨⟩
theorem tw8052670678051318731:True:=⟨⟩
theorem tw8775070567930235700:True:=⟨⟩
theorem tw16364657088263154336:True:=⟨⟩
theorem tw5629615185653832374:True:=⟨⟩
theorem tw14138689326227142546:True:=⟨⟩
theorem tw11845506803554113293:True:=⟨⟩
theorem tw9876383403416431315:True:=⟨⟩
theorem tw15813918616613453349:True:=⟨⟩
theorem tw17456761449362848083:True:=⟨⟩
theorem tw2160286937726754259:True:=⟨⟩
theorem tw9572862243962422679:True:=⟨⟩
theorem tw11759046465916464605:True:=⟨⟩
theorem tw4490989299569433216:True:=⟨⟩
theorem tw5301842698848006295:True:=⟨⟩
theorem tw18058219454260888084:True:=⟨⟩
theorem tw2360521277276101976:True:=⟨⟩
theorem tw14509223625012044584:True:=⟨⟩
theorem tw9485905338493945477:True:=⟨⟩
theorem tw17476374765288477941:True:=⟨⟩
theorem tw4176545535531889143:True:=⟨⟩
theorem tw17500242371049838965:True:=⟨⟩
theorem tw1831724526808702962:True:=⟨⟩
theorem tw10154877088944732252:True:=⟨⟩
theorem tw16888894026951130985:True:=⟨⟩
theorem tw136286719815771715:True:=⟨⟩
theorem tw6838126969936204864:True:=⟨⟩
theorem tw7039921463613496868:True:=⟨⟩
theorem tw16280914302789497850:True:=⟨⟩
theorem tw18096163921271846880:True:=⟨⟩
theorem tw6716742298348858784:True:=⟨⟩
theorem tw2101724421341116693:True:=⟨⟩
theorem tw12496233762679207087:True:=⟨⟩
theorem tw1885027667387553633:True:=⟨⟩
theorem tw16366823427317175294:True:=⟨⟩
theorem tw9073457002425327181:True:=⟨⟩
theorem tw13090101458284017937:True:=⟨⟩
theorem tw2439495921597829424:True:=⟨⟩
theorem tw5066095790563203076:True:=⟨⟩
theorem tw18111699557426618998:True:=⟨⟩
theorem tw917073506815221732:True:=⟨⟩
theorem tw4955075060172611294:True:=⟨⟩
theorem tw9654972158821180412:True:=⟨⟩
theorem tw12816933778170301253:True:=⟨⟩
theorem tw4071193048226163428:True:=⟨⟩
theorem tw5949340852368142346:True:=⟨⟩
theorem tw8632137767080163875:True:=⟨⟩
theorem tw16396553158898980289:True:=⟨⟩
theorem tw15190832793059638126:True:=⟨⟩
theorem tw4277567881280443005:True:=⟨⟩
theorem tw15396981163496938488:True:=⟨⟩
theorem tw14472612955483918360:True:=⟨⟩
theorem tw14327226781898256634:True:=⟨⟩
theorem tw5475919482011203340:True:=⟨⟩
theorem tw12108989305829231763:True:=⟨⟩
theorem tw668032369569094430:True:=⟨⟩
theorem tw9709269967802819674:True:=⟨⟩
theorem tw15027032237553362420:True:=⟨⟩
theorem tw3280715301698493922:True:=⟨⟩
theorem tw5388804658029934410:True:=⟨⟩
theorem tw5284497786784149691:True:=⟨⟩
theorem tw15756838694291681701:True:=⟨⟩
theorem tw13506986517430979274:True:=⟨⟩
theorem tw5560176039864914101:True:=⟨⟩
theorem tw5020650557275858340:True:=⟨⟩
theorem tw71448775266515238:True:=⟨⟩
end PySem.W.Fast
open PySem PySem.W PyProof.Rows
set_option maxRecDepth 100000 in
set_option maxHeartbeats 0 in
theorem PySem.Challenge.cw_keeplog_k43_whole_follower_holds : PySem.Challenge.rw_keeplog_k43_whole_follower.Holds := by
 w_on; o_law; k_head; (case hw=>w_witness2)
 k_fill
 refine K1.walk (l:=PySem.Challenge.rw_keeplog_k43_whole_follower) rfl rfl (fun w h Y=>PySem.W.kIn_of Y) ?F
 case F =>
  intro w mg fa h KX G hmg
  refine' K1.all_mk KX G hmg ?d0 ?d1 ?d2 ?d3 ?d4 ?d5 ?d6 ?d8 ?d9 ?d10 ?d11 ?d12 ?d13 ?d14 ?d15 ?d16 ?d17 ?d18 ?d19 ?d21 ?d22 ?d23 ?d24 ?d25 ?d26 ?d27 ?d28 ?d29 ?d30 ?d31 ?d32 ?d33 ?d34 ?d38 ?d39 ?d40 ?d52 ?d53 ?d54 ?d55 ?d57 ?d58 ?d59 ?d60 ?d61 ?d62 ?d63 ?d64 ?d65 ?d66 ?d67 ?d68 ?d69 ?d70 ?d71 ?d72 ?d73 ?d74 ?d75 ?d76 ?d77 ?d78 ?d79 ?d80 ?d81 ?d82 ?d83 ?aL ?lL ?cL' ?kL ?ncP ?xP ?aC ?w0 ?w1 ?w2 ?w3 ?w4 ?pg ?hd ?po ?sa ?mk ?kc ?n_number ?n_term ?n_voice ?n_head ?n_way ?n_pack ?n_row ?n_store ?n_nexts ?n_held ?n_agreed ?n_voices ?n_waits ?z0 ?z1 ?z2 ?z3 ?z4 ?z5 ?z6 ?z7 ?z8 ?z9 ?z10 ?z11 ?z12 ?z13 ?z14
  (case d0 | d1 | d2 | d3 | d4 | d5 | d6 | d8 | d9 | d10 | d11 | d12 | d13 | d14 | d15 | d16 | d17 | d18 | d19 | d21 | d22 | d23 | d24 | d25 | d26 | d27 | d28 | d29 | d30 | d31 | d32 | d33 | d34 | d38 | d39 | d40 | d52 | d53 | d54 | d55 | d57 | d58 | d59 | d60 | d61 | d62 | d63 | d64 | d65 | d66 | d67 | d68 | d69 | d70 | d71 | d72 | d73 | d74 | d75 | d76 | d77 | d78 | d79 | d80 | d81 | d82 | d83=>exact⟨by k_is,_,⟨_,_,_,_,_,_,_,_,_,rfl,by k_is,by k_is⟩,by k_is⟩)
  (case aL=>k_is)
  (case lL=>k_is)
  (case cL'=>k_is)
  (case kL=>k_is)
  (case ncP=>k_is)
  (case xP=>k_exc)
  (case aC=>k_is)
  (case pg=>k_is)
  (case hd=>k_is)
  (case po=>k_is)
  (case sa=>k_is)
  (case mk=>k_is)
  (case kc=>k_is)
  (case n_number=>k_is)
  (case n_term=>k_is)
  (case n_voice=>k_is)
  (case n_head=>k_is)
  (case n_way=>k_is)
  (case n_pack=>k_is)
  (case n_row=>k_is)
  (case n_store=>k_is)
  (case n_nexts=>k_is)
  (case n_held=>k_is)
  (case n_agreed=>k_is)
  (case n_voices=>k_is)
  (case n_waits=>k_is)
  (case z0=>k_is)
  (case z1=>k_is)
  (case z2=>k_is)
  (case z3=>k_is)
  (case z4=>k_is)
  (case z5=>k_is)
  (case z6=>k_is)
  (case z7=>k_is)
  (case z8=>k_is)
  (case z9=>k_is)
  (case z10=>k_is)
  (case z11=>k_is)
  (case z12=>k_is)
  (case z13=>k_is)
  (case z14=>k_is)
  (case w0 | w1 | w2 | w3 | w4=>exact⟨by k_is,by k_is,_,⟨_,_,_,_,_,_,_,_,_,rfl,by k_is,by k_is⟩,by k_is⟩)
