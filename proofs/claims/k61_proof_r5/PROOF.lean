import PyProof.Rows.All
import Wide.All
import OpenK.AllK
import Wide.FinOn
import Lean
import PyProof.EqAt
import PyProof.EqKinds
import PyProof.TupleCall
import PySem.Challenge.RW_keeplog_k61_whole_schedules_read
set_option bootstrap.genMatcherCode false
set_option Elab.async false
set_option linter.all false
set_option maxRecDepth 100000
open PySem.W (Frag mg_of nsIn keepIn findIn mg_none_of hideAll kia_one fnOf emptyDict instObj)
namespace L2
open PySem PySem.Spec PyProof.Rows
noncomputable abbrev Key:=Sum Int Str
noncomputable def j3z:Key→Value→Bool
 | .inl k,v=>Value.isInt k v
 | .inr x,v=>Value.isStrOf x v
noncomputable def j9k (w:World):Key→Int
 | .inl k=>hashInt k
 | .inr x=>hashStr w x
theorem q2s:∀ {k:Key} {v:Value},j3z k v=true→(∃ i t,k=Sum.inl i∧v=Value.int i t)∨(∃ x t,k=Sum.inr x∧v=Value.str x t)
 | .inl i,v,h=>by
  obtain⟨t,e⟩:=Value.isInt_shape (k:=i) (v:=v) h
  exact .inl ⟨i,t,rfl,e⟩
 | .inr x,v,h=>by
  obtain⟨t,e⟩:=Value.isStrOf_shape (x:=x) (v:=v) h
  exact .inr ⟨x,t,rfl,e⟩
theorem j4d (a b:Int):decide ((Sum.inl a:Key)=Sum.inl b)=(a==b):=by
 by_cases e:a=b
 ·subst e; simp
 ·have h:¬ (Sum.inl a:Key)=Sum.inl b:=fun q=>e (Sum.inl.inj q)
  rw [decide_eq_false h]
  exact (beq_eq_false_iff_ne.mpr e).symm
theorem j3d (a b:Str):decide ((Sum.inr a:Key)=Sum.inr b)=decide (a=b):=by
 by_cases e:a=b
 ·subst e; simp
 ·have h:¬ (Sum.inr a:Key)=Sum.inr b:=fun q=>e (Sum.inr.inj q)
  rw [decide_eq_false h,decide_eq_false e]
theorem j4q (a:Int) (b:Str):decide ((Sum.inl a:Key)=Sum.inr b)=false:=decide_eq_false (fun q=>nomatch q)
theorem j4c (a:Str) (b:Int):decide ((Sum.inr a:Key)=Sum.inl b)=false:=decide_eq_false (fun q=>nomatch q)
noncomputable def z5n (prog:Program) (w:World):PySem.KeyKind prog w Key where
 is:=j3z
 hash:=j9k w
 inj:=fun v a b ha hb=>by
  rcases q2s ha with ⟨i,t,rfl,rfl⟩ | ⟨x,t,rfl,rfl⟩
  ·rcases q2s hb with ⟨j,u,rfl,e⟩ | ⟨y,u,rfl,e⟩
   ·injection e with e1 _; rw [e1]
   ·exact nomatch e
  ·rcases q2s hb with ⟨j,u,rfl,e⟩ | ⟨y,u,rfl,e⟩
   ·exact nomatch e
   ·injection e with e1 _; rw [e1]
 byValue:=fun k v h=>by
  rcases q2s h with ⟨i,t,rfl,rfl⟩ | ⟨x,t,rfl,rfl⟩ <;> rfl
 pyHash:=fun hv h=>by
  rcases q2s hv with ⟨i,t,rfl,rfl⟩ | ⟨x,t,rfl,rfl⟩
  ·exact wpAny_pyHash_int h
  ·exact wpAny_pyHash_str h
 eqBool:=fun hu hv h=>by
  rcases q2s hu with ⟨i,t,rfl,rfl⟩ | ⟨x,t,rfl,rfl⟩
  ·rcases q2s hv with ⟨j,u,rfl,rfl⟩ | ⟨y,u,rfl,rfl⟩
   ·rw [j4d] at h; exact wpAny_eqBool_int h
   ·rw [j4q] at h; exact SeqAt.EqAt.int_str i t y u _ _ _ _ h
  ·rcases q2s hv with ⟨j,u,rfl,rfl⟩ | ⟨y,u,rfl,rfl⟩
   ·rw [j4c] at h; exact SeqAt.EqAt.str_int x t j u _ _ _ _ h
   ·rw [j3d] at h; exact wpAny_eqBool_str h
 «strs»:=fun k x t v h=>by
  rcases q2s h with ⟨i,u,rfl,e⟩ | ⟨y,u,rfl,e⟩
  ·exact nomatch e
  ·injection e with e1 _
   subst e1
   cases v <;> rfl
inductive V where
 | non | bl (b:Bool) | int (i:Int) | str (x:Str) | byt (b:Array UInt8) | flt (b:UInt64) | ref (a:Addr) | ty (n:String)
 deriving DecidableEq
noncomputable def q3z:V→Value→Prop
 | .non,u=>u=Value.none
 | .bl b,u=>u=Value.bool b
 | .int i,u=>∃ t,u=Value.int i t
 | .str x,u=>∃ t,u=Value.str x t
 | .byt b,u=>∃ t,u=Value.bytes b t
 | .flt b,u=>∃ t,u=Value.float b t
 | .ref a,u=>u=Value.ref a
 | .ty n,u=>u=Value.type n
noncomputable abbrev q2x:List V→List Value→Prop:=Paired q3z
theorem q2x.length {xs:List V} {us:List Value} (r:q2x xs us):xs.length=us.length:=Paired.length r
theorem q2x.get:∀ {xs:List V} {us:List Value} {i:Nat} {x:V},q2x xs us→xs[i]? = some x→∃ u,us[i]? = some u∧q3z x u
 | _,_,_,_,.nil,e=>by simp at e
 | _,_,0,_,.cons r _,e=>by simp at e; subst e; exact⟨_,rfl,r⟩
 | _,_,i+1,x,.cons _ t,e=>by
  obtain⟨u,h1,h2⟩:=q2x.get (i:=i) (x:=x) t (by simpa using e)
  exact⟨u,by simpa using h1,h2⟩
theorem q2x.append:∀ {xs ys:List V} {us ws:List Value},q2x xs us→q2x ys ws→q2x (xs++ys) (us++ws)
 | _,_,_,_,.nil,s=>s
 | _,_,_,_,.cons r t,s=>.cons r (q2x.append t s)
theorem q2x.take:∀ {xs:List V} {us:List Value} (n:Nat),q2x xs us→q2x (xs.take n) (us.take n)
 | _,_,0,_=>.nil
 | _,_,_+1,.nil=>.nil
 | _,_,n+1,.cons r t=>.cons r (q2x.take n t)
theorem q2x.drop:∀ {xs:List V} {us:List Value} (n:Nat),q2x xs us→q2x (xs.drop n) (us.drop n)
 | _,_,0,r=>r
 | _,_,_+1,.nil=>.nil
 | _,_,n+1,.cons _ t=>q2x.drop n t
noncomputable def z5u:Option V→Option Value→Prop
 | some v,some u=>q3z v u
 | none,none=>True
 | _,_=>False
noncomputable def KV {κ:Type}:List (κ × V)→List (κ × Value)→Prop:=Paired fun (p:κ × V) (q:κ × Value)=>p.1=q.1∧q3z p.2 q.2
noncomputable def kV:Key→V
 | .inl i=>.int i
 | .inr x=>.str x
inductive HO where
 | lst (xs:List V)
 | tup (xs:List V)
 | dK (kvs:List (Key × V)) | dT (kvs:List (List Key × V))
 | set (S:Int→Bool) (n:Nat)
 | ins (C dx:Addr) (fs:List (Str × V))
 | own (x:Addr)
 | xd (fs:List (Str × V))
 | met (f x:Addr)
 | rng (lo hi:Int)
 | frz (o:Obj) (u:HO)
 | tbl (ps:Array Value)
 | ext (φ:Heap→Prop)
noncomputable abbrev Hp:=Addr→Option HO
noncomputable def upd (H:Hp) (a:Addr) (o:HO):Hp:=fun b=>if b=a then some o else H b
theorem q0c {H:Hp} {a:Addr} {o:HO}:upd H a o a=some o:=by unfold upd; rw [if_pos rfl]
theorem q0r {H:Hp} {a b:Addr} {o:HO} (h:b≠a):upd H a o b=H b:=by unfold upd; rw [if_neg h]
theorem q2c {H:Hp} {a b:Addr} {o:HO} (h:H a=some o) (h':H b=none):a≠b:=by
 intro e; subst e; rw [h] at h'; cases h'
section
variable (P:Program) (w:World)
noncomputable def q4n (H:Hp) (h:Heap) (a:Addr):HO→Prop
 | .lst xs=>xs.length≤sizeLine∧∃ (its:List Value) (n:Nat),q2x xs its∧h.get? a=some { cls:=.type "list",data:=.seq its.toArray n }
 | .tup xs=>xs.length≤sizeLine∧∃ its:List Value,q2x xs its∧IsTup h a its.toArray
 | .dK kvs=>kvs.length≤sizeLine∧(a==sysModules)=false∧∃ vs,KV kvs vs∧h.DictOf (z5n P w) a vs
 | .dT kvs=>kvs.length≤sizeLine∧(a==sysModules)=false∧∃ xs:List (List Key × Addr × Value),
   Paired (fun (p:List Key × V) (q:List Key × Addr × Value)=>p.1=q.1∧H q.2.1=some (.tup (p.1.map kV))∧q3z p.2 q.2.2) kvs xs ∧
   ∃ o es ep,h.get? a=some o∧o.ExactDict∧o.data=.dict es ep∧es.toList=xs.map (entryOfKey (tupleKind (z5n P w)))∧(xs.map (·.1)).Nodup
 | .set S n=>h.SetOf (intKind P w) a S n
 | .ins C dx fs=>H dx=some (.own a)∧fs.length≤1000∧dx≠a∧h.get? a=some (instObj C dx) ∧
   ∃ mA,h.Ns1 dx mA∧(∀ f,z5u (fs.lookup f) (mA f))∧PySem.Within mA (fs.map (·.1))
 | .own _=>∃ o,h.get? a=some o
 | .xd fs=>∃ mA,h.Ns1 a mA∧∀ f,z5u (fs.lookup f) (mA f)
 | .rng lo hi=>∃ t u v,h.get? a=some { cls:=.type "range",data:=.fields #[.int lo t,.int hi u,.int 1 v] }
 | .frz o u=>h.get? a=some o∧q4n H h a u
 | .tbl ps=>h.get? a=some { cls:=.none,data:=.fields ps }
 | .met f x=>h.get? a=some (PySem.W.methodObj (.ref f) (.ref x))
 | .ext φ=>φ h∧(∃ o,h.get? a=some o)∧∀ h1 h2:Heap,φ h1→(∀ o,h1.get? a=some o→h2.get? a=some o)→φ h2
noncomputable def HOk (H:Hp) (h:Heap):Prop:=∀ a o,H a=some o→q4n P w H h a o
end
section
variable {P:Program} {w:World} {H H':Hp} {h h':Heap} {a:Addr} {o:HO}
theorem q4n.lt (x:q4n P w H h a o):a < h.objs.size:=by
 cases o with
 | lst xs=>obtain⟨_,_,_,_,e⟩:=x; exact Heap.lt_size e
 | tup xs=>obtain⟨_,_,_,p⟩:=x; exact p.lt
 | dK kvs=>obtain⟨_,_,_,_,o,_,_,e,_⟩:=x; exact Heap.lt_size e
 | dT kvs=>obtain⟨_,_,_,_,o,_,_,e,_⟩:=x; exact Heap.lt_size e
 | set S n=>obtain⟨o,_,_,_,e,_⟩:=x; exact Heap.lt_size e
 | ins C dx fs=>obtain⟨_,_,_,e,_⟩:=x; exact Heap.lt_size e
 | own y=>obtain⟨_,e⟩:=x; exact Heap.lt_size e
 | xd fs=>obtain⟨_,⟨_,_,_,e,_⟩,_⟩:=x; exact Heap.lt_size e
 | rng lo hi=>obtain⟨_,_,_,e⟩:=x; exact Heap.lt_size e
 | frz ob u=>obtain⟨e,_⟩:=x; exact Heap.lt_size e
 | tbl ps=>exact Heap.lt_size (show h.get? a=some _ from x)
 | met f y=>exact Heap.lt_size (show h.get? a=some _ from x)
 | ext φ=>obtain⟨_,⟨_,e⟩,_⟩:=x; exact Heap.lt_size e
theorem Paired.mapP {α β:Type} {F G:α→β→Prop}:∀ {l₁:List α} {l₂:List β},Paired F l₁ l₂→(∀ a b,F a b→G a b)→Paired G l₁ l₂
 | _,_,.nil,_=>.nil
 | _,_,.cons r t,f=>.cons (f _ _ r) (Paired.mapP t f)
theorem q4n.stay (x:q4n P w H h a o) (k:∀ b u,(b=a∨H b=some (.own a))→h.get? b=some u→h'.get? b=some u)
  (ho:∀ b,H b=some (.own a)→H' b=some (.own a)) (ht:∀ b xs,H b=some (.tup xs)→H' b=some (.tup xs)):q4n P w H' h' a o:=by
 induction o with
 | lst xs=>obtain⟨z,its,n,r,e⟩:=x; exact⟨z,its,n,r,k _ _ (.inl rfl) e⟩
 | tup xs=>obtain⟨z,its,r,ob,e,c⟩:=x; exact⟨z,its,r,ob,k _ _ (.inl rfl) e,c⟩
 | dK kvs=>obtain⟨z,y,vs,r,ob,es,ep,e,c⟩:=x; exact⟨z,y,vs,r,ob,es,ep,k _ _ (.inl rfl) e,c⟩
 | dT kvs =>
  obtain⟨z,y,xs,r,ob,es,ep,e,c⟩:=x
  exact⟨z,y,xs,Paired.mapP r fun p q z=>⟨z.1,ht _ _ z.2.1,z.2.2⟩,ob,es,ep,k _ _ (.inl rfl) e,c⟩
 | set S n=>obtain⟨ob,es,ep,t,e,c⟩:=x; exact⟨ob,es,ep,t,k _ _ (.inl rfl) e,c⟩
 | ins C dx fs =>
  obtain⟨d,z,ne,e,mA,⟨od,es,ep,e2,c⟩,r⟩:=x
  exact⟨ho _ d,z,ne,k _ _ (.inl rfl) e,mA,⟨od,es,ep,k _ _ (.inr d) e2,c⟩,r⟩
 | own y=>obtain⟨ob,e⟩:=x; exact⟨ob,k _ _ (.inl rfl) e⟩
 | xd fs=>obtain⟨mA,⟨od,es,ep,e,c⟩,r⟩:=x; exact⟨mA,⟨od,es,ep,k _ _ (.inl rfl) e,c⟩,r⟩
 | rng lo hi=>obtain⟨t,u,v,e⟩:=x; exact⟨t,u,v,k _ _ (.inl rfl) e⟩
 | frz ob u ih=>obtain⟨e,q⟩:=x; exact⟨k _ _ (.inl rfl) e,ih q⟩
 | tbl ps =>
  have e:h.get? a=some { cls:=.none,data:=.fields ps }:=x
  show h'.get? a=some { cls:=.none,data:=.fields ps }
  exact k a _ (.inl rfl) e
 | met f y =>
  have e:h.get? a=some (PySem.W.methodObj (.ref f) (.ref y)):=x
  show h'.get? a=some (PySem.W.methodObj (.ref f) (.ref y))
  exact k a _ (.inl rfl) e
 | ext φ=>obtain⟨p,⟨o,e⟩,st⟩:=x; exact⟨st _ _ p fun o q=>k _ _ (.inl rfl) q,⟨o,k _ _ (.inl rfl) e⟩,st⟩
theorem HOk.lt (x:HOk P w H h) (e:H a=some o):a < h.objs.size:=(x a o e).lt
theorem HOk.fresh (x:HOk P w H h) (e:h.objs.size≤a):H a=none:=by
 cases q:H a with
 | none=>rfl
 | some u=>exact absurd (Nat.lt_of_lt_of_le (x.lt q) e) (Nat.lt_irrefl _)
theorem HOk.kept (x:HOk P w H h) (k:∀ b u,h.get? b=some u→h'.get? b=some u):HOk P w H h':=fun a o e =>
 (x a o e).stay (fun b u _ q=>k b u q) (fun _ q=>q) fun _ _ q=>q
theorem HOk.laid (x:HOk P w H h) (k:∀ b u,h.get? b=some u→h'.get? b=some u) (hp:h.objs.size≤a) (new:q4n P w (upd H a o) h' a o):HOk P w (upd H a o) h':=fun b u e=>by
 have hn:=x.fresh hp
 by_cases hb:b=a
 ·subst hb; rw [q0c] at e; cases e; exact new
 ·rw [q0r hb] at e
  exact (x b u e).stay (fun c v _ q=>k c v q) (fun c q=>by rw [q0r (q2c q hn)]; exact q) fun c xs q=>by rw [q0r (q2c q hn)]; exact q
end
noncomputable def Rd (H:Hp) (a:Addr) (u:HO):Prop:=H a=some u∨∃ o,H a=some (.frz o u)
theorem Rd.ok {P:Program} {w:World} {H:Hp} {h:Heap} {a:Addr} {u:HO} (r:Rd H a u) (x:HOk P w H h):q4n P w H h a u:=by
 rcases r with r | ⟨o,r⟩
 ·exact x a u r
 ·obtain⟨_,q⟩:=x a _ r
  exact q
noncomputable def Mut:Option HO→Prop
 | some (.lst _)=>True
 | some (.dK _)=>True
 | some (.dT _)=>True
 | some (.set _ _)=>True
 | some (.ins _ _ _)=>True
 | some (.ext _)=>True
 | _=>False
section
variable {P:Program} {w:World} {H:Hp} {h h':Heap} {x e:Addr} {o':HO}
theorem HOk.write (ok:HOk P w H h) (mu:Mut (H x)) (he:e=x∨H e=some (.own x)) (k:∀ b u,b≠e→h.get? b=some u→h'.get? b=some u) (heo:∃ u,h'.get? e=some u)
  (new:q4n P w (upd H x o') h' x o'):HOk P w (upd H x o') h':=fun b u q=>by
 have nown:∀ c y,H c=some (.own y)→c≠x:=fun c y r z=>by subst z; rw [r] at mu; exact mu
 have ntup:∀ c xs,H c=some (.tup xs)→c≠x:=fun c xs r z=>by subst z; rw [r] at mu; exact mu
 by_cases hb:b=x
 ·subst hb; rw [q0c] at q; cases q; exact new
 ·rw [q0r hb] at q
  by_cases hbe:b=e
  ·have q':H b=some (.own x):=by
    rcases he with z | z
    ·exact absurd (hbe.trans z) hb
    ·rw [hbe]; exact z
   rw [q] at q'; cases q'
   obtain⟨v,hv⟩:=heo
   exact⟨v,by rw [hbe]; exact hv⟩
  ·refine (ok b u q).stay (fun c v hc r=>k c v ?_ r) (fun c r=>by rw [q0r (nown c b r)]; exact r) fun c xs r=>by rw [q0r (ntup c xs r)]; exact r
   rcases hc with rfl | hc
   ·exact hbe
   ·rintro rfl
    rcases he with z | z
    ·exact nown c b hc z
    ·rw [hc] at z; cases z; exact hb rfl
end
structure Un (fs ex:List Addr) (H H':Hp) (h h':Heap):Prop where
 keep:∀ b o,h.get? b=some o→H b=none→b∉fs→b∉ex→h'.get? b=some o
 slot:∀ b o,h.get? b=some o→H b=none→b∈fs→b∉ex→∃ sl,h'.get? b=some { o with slots:=sl }
 free:∀ b o,h.get? b=some o→H b=none→b∉ex→H' b=none
 there:∀ b o,h.get? b=some o→b∉ex→∃ o',h'.get? b=some o'
 tups:∀ b xs,H b=some (.tup xs)→H' b=some (.tup xs)
 frzs:∀ b o u,H b=some (.frz o u)→H' b=some (.frz o u)
 tbls:∀ b ps,H b=some (.tbl ps)→∃ more,H' b=some (.tbl (ps++more))
section
variable {fs fs' ex ex':List Addr} {H H1 H2:Hp} {h h1 h2 h':Heap} {a x e:Addr} {o:HO}
theorem Un.any (u:Un fs ex H H1 h h1) {b:Addr} {ob:Obj} (q:h.get? b=some ob) (n:H b=none) (hx:b∉ex):∃ sl,h1.get? b=some { ob with slots:=sl }:=by
 by_cases hb:b∈fs
 ·exact u.slot b ob q n hb hx
 ·exact⟨ob.slots,u.keep b ob q n hb hx⟩
theorem Un.trans (a:Un fs ex H H1 h h1) (b:Un fs ex H1 H2 h1 h2):Un fs ex H H2 h h2 where
 keep:=fun c ob q n hc hx=>b.keep c ob (a.keep c ob q n hc hx) (a.free c ob q n hx) hc hx
 slot:=fun c ob q n hc hx=>by
  obtain⟨sl,e1⟩:=a.slot c ob q n hc hx
  obtain⟨sl',e2⟩:=b.slot c _ e1 (a.free c ob q n hx) hc hx
  exact⟨sl',e2⟩
 free:=fun c ob q n hx=>by
  obtain⟨o',e1⟩:=a.there c ob q hx
  exact b.free c o' e1 (a.free c ob q n hx) hx
 there:=fun c ob q hx=>by
  obtain⟨o',e1⟩:=a.there c ob q hx
  exact b.there c o' e1 hx
 tups:=fun c xs q=>b.tups c xs (a.tups c xs q)
 frzs:=fun c ob xs q=>b.frzs c ob xs (a.frzs c ob xs q)
 tbls:=fun c ps q=>by
  obtain⟨m1,e1⟩:=a.tbls c ps q
  obtain⟨m2,e2⟩:=b.tbls c _ e1
  exact⟨m1++m2,by rw [e2,Array.append_assoc]⟩
theorem Un.kept (k:∀ b u,h.get? b=some u→h'.get? b=some u):Un fs ex H H h h' :=
 ⟨fun b ob q _ _ _=>k b ob q,fun b ob q _ _ _=>⟨ob.slots,k b ob q⟩,fun _ _ _ n _=>n,fun b ob q _=>⟨ob,k b ob q⟩,fun _ _ q=>q,fun _ _ _ q=>q,fun _ ps q=>⟨#[],by rw [q]; simp⟩⟩
theorem Un.refl:Un fs ex H H h h:=Un.kept fun _ _ q=>q
theorem Un.laid (k:∀ b u,h.get? b=some u→h'.get? b=some u) (hp:h.objs.size≤a) (hn:H a=none):Un fs ex H (upd H a o) h h' where
 keep:=fun b u q _ _ _=>k b u q
 slot:=fun b u q _ _ _=>⟨u.slots,k b u q⟩
 free:=fun b u q n _=>by rw [q0r (Nat.ne_of_lt (Nat.lt_of_lt_of_le (Heap.lt_size q) hp))]; exact n
 there:=fun b u q _=>⟨u,k b u q⟩
 tups:=fun b xs q=>by rw [q0r (q2c q hn)]; exact q
 frzs:=fun b u xs q=>by rw [q0r (q2c q hn)]; exact q
 tbls:=fun b ps q=>⟨#[],by rw [q0r (q2c q hn),q]; simp⟩
theorem Un.write (mu:Mut (H x)) (he:e=x∨H e=some (.own x)) (k:∀ b u,b≠e→h.get? b=some u→h'.get? b=some u) (heo:∃ u,h'.get? e=some u):Un fs ex H (upd H x o) h h':=by
 have hx:∀ b,H b=none→b≠x:=fun b n z=>by subst z; rw [n] at mu; exact mu
 have hb:∀ b,H b=none→b≠e:=fun b n z=>by
  subst z
  rcases he with r | r
  ·exact hx b n r
  ·rw [n] at r; cases r
 have hm:∀ b u,H b=some u→¬ Mut (some u)→b≠x:=fun b u q nm z=>by subst z; rw [q] at mu; exact nm mu
 refine⟨fun b u q n _ _=>k b u (hb b n) q,fun b u q n _ _=>⟨u.slots,k b u (hb b n) q⟩,fun b u q n _=>by rw [q0r (hx b n)]; exact n,fun b u q _=>?_,
  fun b xs q=>by rw [q0r (hm b _ q fun z=>z)]; exact q,fun b u xs q=>by rw [q0r (hm b _ q fun z=>z)]; exact q,fun b ps q=>⟨#[],by rw [q0r (hm b _ q fun z=>z),q]; simp⟩⟩
 by_cases hbe:b=e
 ·subst hbe; exact heo
 ·exact⟨u,k b u hbe q⟩
end
noncomputable def trk (h:Heap) (H:Hp):List Addr:=(List.range h.objs.size).filter fun a=>(H a).isSome
noncomputable def z6s (h:Heap) (H:Hp):Heap:=hideAll h (trk h H)
theorem z2y (h:Heap) (H:Hp):(z6s h H).objs.size=h.objs.size:=PySem.W.hideAll_size _ _
theorem z7x {h:Heap} {H:Hp} {b:Addr} {o:Obj} (e:h.get? b=some o) (n:H b=none):(z6s h H).get? b=some o :=
 PySem.W.hideAll_get _ e fun hm=>by
  have q:(H b).isSome=true:=(List.mem_filter.mp hm).2
  rw [n] at q; simp at q
theorem j0j {h:Heap} {H:Hp} {b:Addr} {o:Obj} (e:(z6s h H).get? b=some o):h.get? b=some o∧H b=none:=by
 have e':h.get? b=some o:=PySem.W.of_hideAll (trk h H) e
 refine⟨e',?_⟩
 cases q:H b with
 | none=>rfl
 | some x =>
  have hm:b∈trk h H:=List.mem_filter.mpr ⟨List.mem_range.mpr (Heap.lt_size e'),by simp [q]⟩
  have z:(z6s h H).get? b=none:=PySem.W.hideAll_none (trk h H) hm
  rw [z] at e; cases e
noncomputable def j1j (g h:Heap) (L:Addr):List (Addr × Obj):=(List.range h.objs.size).filterMap fun a=>if a=L∨(g.get? a).isSome=true then none else (h.get? a).map fun o=>(a,o)
noncomputable def rest (g h:Heap) (L d:Addr):List (Addr × Obj):=(j1j g h L).filter fun p=>decide (p.1≠d)
structure Mod (K:Frag) (mg:Str→Option Value) (base:Heap):Prop where
 kin:K.In base
 glob:base.Ns mainGlobals mg
 blt:∃ mb,base.Ns builtinsNs mb∧∀ x:Str,x ≠ "__name__" → mb x=bootBuiltins x
 nolimit:base.NoLimit
structure Cx where
 prog:Program
 w:World
 K:Frag
 mg:Str→Option Value
 base:Heap
 A:Around
 N:List Str
 s₀:Shared
 H₀:Hp
 env:Env
 outer:List Env
 stack:List Env
 ex:List Addr
 fn:Str→Bool
 calm:Bool
 pn:List (Addr × Obj)
 xe:Value→Shared→Prop
noncomputable def frs (l:List Env):List Addr:=l.filterMap (·.frame)
noncomputable abbrev Cx.fs (X:Cx):List Addr:=frs X.outer
noncomputable def Vis (sc:Scope) (x:Str):Prop:=sc.names.lookup x=some .local∨sc.names.lookup x=some .cell∨sc.names.lookup x=some .free
noncomputable def Loc (sc:Scope) (x:Str):Prop:=sc.names.lookup x=some .local∨sc.names.lookup x=some .cell
noncomputable def j8m (env:Env) (h:Heap) (m:Str→Option Value) (x:Str) (u:Value):Prop :=
 (env.kindOf x=some .local∧m x=some u)∨((env.kindOf x=some .cell∨env.kindOf x=some .free)∧∃ c,env.cells.lookup x=some c∧h.IsCell c (some u))
structure Cx.Ok (X:Cx):Prop where
 mod:Mod X.K X.mg X.base
 kind:X.env.scope.kind=.function
 glob:X.env.globals=mainGlobals
 blt:X.env.builtins=builtinsNs
 above:X.s₀.heap.objs.size≤X.env.locals
 inj:∀ x y c,X.env.cells.lookup x=some c→X.env.cells.lookup y=some c→x=y
 has:∀ x,(X.env.kindOf x=some .cell∨X.env.kindOf x=some .free)→∃ c,X.env.cells.lookup x=some c
 cab:∀ x c,X.fn x=true→X.env.cells.lookup x=some c→X.s₀.heap.objs.size≤c
 hd:X.calm=true→X.A.handled=none
 frames:X.A.frames=some X.stack
 stk:X.stack=X.outer∨(X.stack=X.env::X.outer∧X.env.frame=some X.env.locals)
 exf:∀ b∈X.ex,b≠X.env.locals∧∀ x c,X.env.cells.lookup x=some c→c≠b
 bs:∀ b o,X.base.get? b=some o→X.s₀.heap.get? b=some o∧X.H₀ b=none
 bsz:X.base.objs.size≤X.s₀.heap.objs.size
 noex:∀ b o,X.base.get? b=some o→b∉X.ex
 exfs:∀ b∈X.ex,b∉X.fs
 funs:X.s₀.heap.FunFrames X.base X.outer
 frf:∀ b∈X.fs,X.H₀ b=none
structure Inv (X:Cx) (pins:List (Addr × Obj)) (σ:List (Option V)) (H:Hp) (s:Shared):Prop where
 ok:X.Ok
 os:s.os=X.s₀.os
 bare:AllBare s.gens
 base:Un X.fs X.ex X.H₀ H X.s₀.heap s.heap
 loc:∃ m,s.heap.Ns X.env.locals m∧∀ (i:Nat) (x:Str) (v:V),X.N[i]? = some x→σ[i]? = some (some v)→Vis X.env.scope x→∃ u,q3z v u∧j8m X.env s.heap m x u
 cell:∀ x c,X.env.cells.lookup x=some c→∃ v,s.heap.IsCell c v
 free:H X.env.locals=none
 freeC:∀ x c,X.env.cells.lookup x=some c→H c=none
 pin:∀ p∈X.pn++pins,s.heap.get? p.1=some p.2∧H p.1=none∧p.1≠X.env.locals∧p.1∉X.fs∧∀ v,p.2.data≠.cell v
 hok:HOk X.prog X.w H s.heap
 len:σ.length=X.N.length
section
variable {X:Cx} {pins:List (Addr × Obj)} {σ:List (Option V)} {H H':Hp} {s:Shared} {h':Heap}
theorem Cx.Ok.nofr (ok:X.Ok) {b:Addr} {o:Obj} (e:X.base.get? b=some o):b∉X.fs:=fun hb=>by
 have:=(ok.funs.mem hb).1
 rw [e] at this; cases this
theorem Inv.bs (I:Inv X pins σ H s):∀ b o,X.base.get? b=some o→s.heap.get? b=some o∧H b=none:=fun b o e =>
 ⟨I.base.keep b o (I.ok.bs b o e).1 (I.ok.bs b o e).2 (I.ok.nofr e) (I.ok.noex b o e),I.base.free b o (I.ok.bs b o e).1 (I.ok.bs b o e).2 (I.ok.noex b o e)⟩
theorem Inv.bk (I:Inv X pins σ H s):∀ b o,X.base.get? b=some o→s.heap.get? b=some o:=fun b o e=>(I.bs b o e).1
theorem Inv.mod (I:Inv X pins σ H s):Mod X.K X.mg X.base:=I.ok.mod
theorem Inv.kIn (I:Inv X pins σ H s):X.K.In s.heap:=I.ok.mod.kin.keeps I.bk
theorem Inv.lt (I:Inv X pins σ H s):X.env.locals < s.heap.objs.size:=let ⟨_,hn,_⟩:=I.loc; hn.lt
theorem Inv.sz (I:Inv X pins σ H s):X.s₀.heap.objs.size≤s.heap.objs.size:=Nat.le_trans I.ok.above (Nat.le_of_lt I.lt)
theorem Inv.nofs (I:Inv X pins σ H s) {a:Addr} (h:s.heap.objs.size≤a):a∉X.fs:=fun hb=>by
 obtain⟨_,o,ho,_⟩:=I.ok.funs.mem hb
 exact absurd (Nat.lt_of_lt_of_le (Heap.lt_size ho) (Nat.le_trans I.sz h)) (Nat.lt_irrefl _)
theorem Inv.cne (I:Inv X pins σ H s):∀ x c,X.env.cells.lookup x=some c→c≠X.env.locals:=fun x c e z=>by
 obtain⟨v,o,ho,hd⟩:=I.cell x c e
 obtain⟨m,⟨o',es,ep,ho',hd',_⟩,_⟩:=I.loc
 rw [z,ho'] at ho; cases ho; rw [hd'] at hd; cases hd
theorem Inv.funs (I:Inv X pins σ H s):s.heap.FunFrames X.base X.outer:=by
 have all:∀ (l:List Env),(∀ b∈frs l,b∈X.fs)→X.s₀.heap.FunFrames X.base l→s.heap.FunFrames X.base l:=by
  intro l
  induction l with
  | nil=>intro _ _; trivial
  | cons env r ih =>
   intro hs hl
   obtain⟨hk,⟨L,o,hf,hn,ho,hd⟩,hr⟩:=hl
   have hL:L∈X.fs:=hs L (by unfold frs; rw [List.filterMap_cons,hf]; exact List.mem_cons_self)
   obtain⟨sl,e⟩:=I.base.slot L o ho (I.ok.frf L hL) hL fun z=>I.ok.exfs L z hL
   exact⟨hk,⟨L,_,hf,hn,e,hd⟩,ih (fun b hb=>hs b (by unfold frs; rw [List.filterMap_cons,hf]; exact List.mem_cons_of_mem _ hb)) hr⟩
 exact all X.outer (fun _ hb=>hb) I.ok.funs
theorem Inv.stack (I:Inv X pins σ H s):s.heap.FunFrames X.base X.stack:=by
 rcases I.ok.stk with e | ⟨e,hf⟩
 ·rw [e]; exact I.funs
 ·rw [e]
  obtain⟨m,hn,_⟩:=I.loc
  refine .cons (by rw [I.ok.kind]; decide) hf hn ?_ I.funs
  exact Heap.get?_none_of_le (Nat.le_trans I.ok.bsz I.ok.above)
theorem Inv.stkSub (I:Inv X pins σ H s):∀ b∈frs X.stack,b∈X.env.locals::X.fs:=fun b hb=>by
 rcases I.ok.stk with e | ⟨e,hf⟩
 ·rw [e] at hb; exact List.mem_cons_of_mem _ hb
 ·rw [e] at hb
  unfold frs at hb
  rw [List.filterMap_cons,hf] at hb
  exact hb
theorem Inv.stkFree (I:Inv X pins σ H s):∀ b∈frs X.stack,H b=none:=fun b hb=>by
 rcases List.mem_cons.mp (I.stkSub b hb) with e | hb
 ·rw [e]; exact I.free
 ·obtain⟨_,o,ho,_⟩:=I.ok.funs.mem hb
  exact I.base.free b o ho (I.ok.frf b hb) fun z=>I.ok.exfs b z hb
theorem Inv.step {g':Array GenState} {t':Nat} {d':Drawn} {ch:List Addr} (I:Inv X pins σ H s)
  (hch:∀ b∈ch,(b∈X.ex∨X.s₀.heap.objs.size≤b)∧b≠X.env.locals∧(∀ x c,X.env.cells.lookup x=some c→c≠b)∧∀ p∈X.pn++pins,p.1≠b)
  (keep:∀ b o,b≠X.env.locals→b∉X.fs→b∉ch→s.heap.get? b=some o→H b=none→h'.get? b=some o)
  (slot:∀ b o,b≠X.env.locals→b∈X.fs→b∉ch→s.heap.get? b=some o→H b=none→∃ sl,h'.get? b=some { o with slots:=sl }) (free:∀ b o,b∉ch→s.heap.get? b=some o→H b=none→H' b=none)
  (there:∀ b o,b∉ch→s.heap.get? b=some o→∃ o',h'.get? b=some o')
  (tups:∀ b xs,H b=some (.tup xs)→H' b=some (.tup xs)) (frzs:∀ b o u,H b=some (.frz o u)→H' b=some (.frz o u)) (tbls:∀ b ps,H b=some (.tbl ps)→∃ more,H' b=some (.tbl (ps++more)))
  (ns:∀ m,s.heap.Ns X.env.locals m→h'.Ns X.env.locals m) (hok:HOk X.prog X.w H' h') (hg:AllBare g') :
  Inv X pins σ H' { s with heap:=h',gens:=g',drawn:=d',toks:=t' }:=by
 have neL:∀ b o,X.s₀.heap.get? b=some o→b≠X.env.locals:=fun b o e=>Nat.ne_of_lt (Nat.lt_of_lt_of_le (Heap.lt_size e) I.ok.above)
 have neC:∀ b o,X.s₀.heap.get? b=some o→b∉X.ex→b∉ch:=fun b o e hx hb=>by
  rcases (hch b hb).1 with z | z
  ·exact hx z
  ·exact absurd (Nat.lt_of_lt_of_le (Heap.lt_size e) z) (Nat.lt_irrefl _)
 have cellK:∀ x c,X.env.cells.lookup x=some c→∀ v,s.heap.IsCell c v→h'.IsCell c v:=fun x c e v ⟨o,ho,hd⟩=>by
  have nch:c∉ch:=fun z=>(hch c z).2.2.1 x c e rfl
  by_cases hc:c∈X.fs
  ·obtain⟨sl,q⟩:=slot c o (I.cne x c e) hc nch ho (I.freeC x c e)
   exact⟨_,q,hd⟩
  ·exact⟨o,keep c o (I.cne x c e) hc nch ho (I.freeC x c e),hd⟩
 refine⟨I.ok,I.os,hg,⟨fun b o e n hb hx=>?_,fun b o e n hb hx=>?_,fun b o e n hx=>?_,fun b o e hx=>?_,fun b xs e=>tups b xs (I.base.tups b xs e),fun b o xs e=>frzs b o xs (I.base.frzs b o xs e),fun b ps e=>?_⟩,?_,fun x c e=>?_,?_,fun x c e=>?_,fun p hp=>?_,hok,I.len⟩
 ·exact keep b o (neL b o e) hb (neC b o e hx) (I.base.keep b o e n hb hx) (I.base.free b o e n hx)
 ·obtain⟨sl,e1⟩:=I.base.slot b o e n hb hx
  obtain⟨sl',e2⟩:=slot b _ (neL b o e) hb (neC b o e hx) e1 (I.base.free b o e n hx)
  exact⟨sl',e2⟩
 ·obtain⟨o',e1⟩:=I.base.there b o e hx
  exact free b o' (neC b o e hx) e1 (I.base.free b o e n hx)
 ·obtain⟨o',e1⟩:=I.base.there b o e hx
  exact there b o' (neC b o e hx) e1
 ·obtain⟨m1,e1⟩:=I.base.tbls b ps e
  obtain⟨m2,e2⟩:=tbls b _ e1
  exact⟨m1++m2,by rw [e2,Array.append_assoc]⟩
 ·obtain⟨m,hn,hl⟩:=I.loc
  refine⟨m,ns m hn,fun i x v e1 e2 e3=>?_⟩
  obtain⟨u,r,l⟩:=hl i x v e1 e2 e3
  refine⟨u,r,?_⟩
  rcases l with l | ⟨k,c,e,z⟩
  ·exact .inl l
  ·exact .inr ⟨k,c,e,cellK x c e _ z⟩
 ·obtain⟨v,z⟩:=I.cell x c e
  exact⟨v,cellK x c e v z⟩
 ·obtain⟨m,⟨o,_,_,ho,_⟩,_⟩:=I.loc
  exact free _ o (fun z=>(hch _ z).2.1 rfl) ho I.free
 ·obtain⟨v,o,ho,hd⟩:=I.cell x c e
  exact free c o (fun z=>(hch c z).2.2.1 x c e rfl) ho (I.freeC x c e)
 ·obtain⟨e,n,ne,nf,d⟩:=I.pin p hp
  have nch:p.1∉ch:=fun z=>(hch p.1 z).2.2.2 p hp rfl
  exact⟨keep p.1 p.2 ne nf nch e n,free p.1 p.2 nch e n,ne,nf,d⟩
theorem Inv.un {t':Nat} (I:Inv X pins σ H s) (u:Un X.fs [] H H' s.heap h') (hok:HOk X.prog X.w H' h'):Inv X pins σ H' { s with heap:=h',toks:=t' }:=by
 obtain⟨m,⟨o,es,ep,ho,r⟩,_⟩:=id I.loc
 obtain⟨sl,hL⟩:=u.any ho I.free (by simp)
 exact I.step (g':=s.gens) (d':=s.drawn) (ch:=[]) (fun _ z=>nomatch z) (fun b o _ hb _ e n=>u.keep b o e n hb (by simp)) (fun b o _ hb _ e n=>u.slot b o e n hb (by simp)) (fun b o _ e n=>u.free b o e n (by simp)) (fun b o _ e=>u.there b o e (by simp)) u.tups u.frzs u.tbls (fun m' hm=>by
  obtain⟨o',es',ep',ho',r'⟩:=hm
  rw [ho] at ho'; cases ho'
  exact⟨_,es',ep',hL,r'⟩) hok I.bare
theorem Inv.call {g':Array GenState} {t':Nat} {d':Drawn} {ch:List Addr} (I:Inv X pins σ H s) (u:Un (frs X.stack) ch H H' s.heap h') (hok:HOk X.prog X.w H' h') (hg:AllBare g')
  (hch:∀ b∈ch,(b∈X.ex∨X.s₀.heap.objs.size≤b)∧b≠X.env.locals∧(∀ x c,X.env.cells.lookup x=some c→c≠b)∧∀ p∈X.pn++pins,p.1≠b) :
  Inv X pins σ H' { s with heap:=h',gens:=g',drawn:=d',toks:=t' }:=by
 obtain⟨m,⟨o,es,ep,ho,r⟩,_⟩:=id I.loc
 obtain⟨sl,hL⟩:=u.any ho I.free fun z=>(hch _ z).2.1 rfl
 exact I.step (ch:=ch) hch (fun b o hL hb hc e n=>u.keep b o e n (fun z=>(List.mem_cons.mp (I.stkSub b z)).elim hL hb) hc) (fun b o _ _ hc e n=>u.any e n hc) (fun b o hc e n=>u.free b o e n hc) (fun b o hc e=>u.there b o e hc) u.tups u.frzs u.tbls (fun m' hm=>by
  obtain⟨o',es',ep',ho',r'⟩:=hm
  rw [ho] at ho'; cases ho'
  exact⟨_,es',ep',hL,r'⟩) hok hg
theorem Inv.turned {t':Nat} {it:Addr} (I:Inv X pins σ H s) (k:∀ b o,b≠it→s.heap.get? b=some o→h'.get? b=some o) (hn:H it=none) (hL:it≠X.env.locals)
  (h1:it∈X.ex∨X.s₀.heap.objs.size≤it) (h2:∀ x c,X.env.cells.lookup x=some c→c≠it) (h3:∀ p∈X.pn++pins,p.1≠it):Inv X pins σ H { s with heap:=h',toks:=t' }:=by
 have nit:∀ b u,H b=some u→b≠it:=fun b u e z=>by rw [z,hn] at e; cases e
 refine I.step (g':=s.gens) (d':=s.drawn) (ch:=[it]) (fun b hb=>?_) (fun b o _ _ hc e _=>k b o (fun z=>hc (by simp [z])) e) (fun b o _ _ hc e _=>⟨o.slots,k b o (fun z=>hc (by simp [z])) e⟩) (fun _ _ _ _ n=>n)
  (fun b o hc e=>⟨o,k b o (fun z=>hc (by simp [z])) e⟩) (fun _ _ e=>e) (fun _ _ _ e=>e) (fun b ps e=>⟨#[],by rw [e]; simp⟩) (fun m hm=>?_) (fun b u e=>?_) I.bare
 ·have e:b=it:=by simpa using hb
  subst e
  exact⟨h1,hL,h2,h3⟩
 ·obtain⟨o,es,ep,ho,r⟩:=hm
  exact⟨o,es,ep,k _ o (Ne.symm hL) ho,r⟩
 ·refine (I.hok b u e).stay (fun c v hc q=>k c v ?_ q) (fun _ q=>q) fun _ _ q=>q
  rcases hc with z | z
  ·rw [z]; exact nit b u e
  ·exact nit c _ z
theorem Inv.tok (I:Inv X pins σ H s) (t:Nat):Inv X pins σ H { s with toks:=t }:=I.un (h':=s.heap) (t':=t) Un.refl I.hok
theorem Inv.kept {t':Nat} (I:Inv X pins σ H s) (k:∀ b u,s.heap.get? b=some u→h'.get? b=some u):Inv X pins σ H { s with heap:=h',toks:=t' }:=I.un (Un.kept k) (I.hok.kept k)
theorem Inv.laid {a:Addr} {o:HO} {t':Nat} (I:Inv X pins σ H s) (k:∀ b u,s.heap.get? b=some u→h'.get? b=some u) (hp:s.heap.objs.size≤a) (new:q4n X.prog X.w (upd H a o) h' a o) :
  Inv X pins σ (upd H a o) { s with heap:=h',toks:=t' }:=I.un (Un.laid k hp (I.hok.fresh hp)) (I.hok.laid k hp new)
theorem Inv.write {x e:Addr} {o:HO} {t':Nat} (I:Inv X pins σ H s) (mu:Mut (H x)) (he:e=x∨H e=some (.own x)) (k:∀ b u,b≠e→s.heap.get? b=some u→h'.get? b=some u) (heo:∃ u,h'.get? e=some u)
  (new:q4n X.prog X.w (upd H x o) h' x o):Inv X pins σ (upd H x o) { s with heap:=h',toks:=t' }:=I.un (Un.write mu he k heo) (I.hok.write mu he k heo new)
theorem Inv.pins_of {pins':List (Addr × Obj)} (I:Inv X pins σ H s) (h:∀ p∈pins',s.heap.get? p.1=some p.2∧H p.1=none∧p.1≠X.env.locals∧p.1∉X.fs∧∀ v,p.2.data≠.cell v):Inv X pins' σ H s :=
 ⟨I.ok,I.os,I.bare,I.base,I.loc,I.cell,I.free,I.freeC,fun p hp=>(List.mem_append.mp hp).elim (fun z=>I.pin p (List.mem_append_left _ z)) (h p),I.hok,I.len⟩
theorem x9a {N:List Str} (hN:N.Nodup) {i j:Nat} {x:Str} (a:N[i]? = some x) (b:N[j]? = some x):i=j:=by
 obtain⟨h1,e1⟩:=List.getElem?_eq_some_iff.mp a
 obtain⟨h2,e2⟩:=List.getElem?_eq_some_iff.mp b
 exact (List.getElem_inj hN).mp (e1.trans e2.symm)
theorem z5h {M:Model} {A:Around} {E:Value→Shared→Prop} {i:Nat} {x:Str} {v:V} {u:Value} {Q:Unit→Shared→Prop} (I:Inv X pins σ H s) (hN:X.N.Nodup) (hi:X.N[i]? = some x) (hx:Loc X.env.scope x) (r:q3z v u)
  (h:∀ s',Inv X pins (σ.set i (some v)) H s'→(∃ a,Heap.SameBut a s.heap s'.heap∧(a=X.env.locals∨X.env.cells.lookup x=some a))→Q () s') (hf:X.fn x=true∨X.env.scope.names.lookup x=some .local:=by first | exact .inl rfl | exact .inr rfl | assumption):wpAny M A (storeName X.env x u) Q E s:=by
 obtain⟨m,hn,hl⟩:=id I.loc
 have hcls:(X.env.scope.kind==.class || (X.env.scope.kind==.module && X.env.locals != X.env.globals))=false:=by rw [I.ok.kind]; rfl
 have hiσ:i < σ.length:=by rw [I.len]; exact (List.getElem?_eq_some_iff.mp hi).1
 have cne:=I.cne
 have tracked:∀ {a:Addr} {h':Heap},(∃ o,s.heap.get? a=some o∧H a=none)→Heap.SameBut a s.heap h'→HOk X.prog X.w H h':=fun {a h'} ha hs b ob e=>by
  obtain⟨_,_,hfree⟩:=ha
  refine (I.hok b ob e).stay (fun c w' hc q=>(hs.2 c ?_).trans q) (fun _ q=>q) fun _ _ q=>q
  rintro rfl
  rcases hc with rfl | hc
  ·rw [hfree] at e; cases e
  ·rw [hfree] at hc; cases hc
 rcases hx with hk | hk
 ·refine wpAny_storeName_local hk hn (fun h' hn' hs=>?_) hcls
  obtain⟨oL,_,_,hoL,_⟩:=id hn
  refine h _ ⟨I.ok,I.os,I.bare,⟨fun b o e n hb hx=>?_,fun b o e n hb hx=>?_,I.base.free,fun b o e hx=>?_,I.base.tups,I.base.frzs,I.base.tbls⟩,⟨_,hn',fun j y v' e1 e2 e3=>?_⟩,fun y c e=>?_,I.free,I.freeC,fun p hp=>?_,tracked ⟨oL,hoL,I.free⟩ hs,by simpa using I.len⟩ ⟨_,hs,.inl rfl⟩
  ·exact (hs.2 b (Nat.ne_of_lt (Nat.lt_of_lt_of_le (Heap.lt_size e) I.ok.above))).trans (I.base.keep b o e n hb hx)
  ·obtain⟨sl,e1⟩:=I.base.slot b o e n hb hx
   exact⟨sl,(hs.2 b (Nat.ne_of_lt (Nat.lt_of_lt_of_le (Heap.lt_size e) I.ok.above))).trans e1⟩
  ·obtain⟨o',e1⟩:=I.base.there b o e hx
   exact⟨o',(hs.2 b (Nat.ne_of_lt (Nat.lt_of_lt_of_le (Heap.lt_size e) I.ok.above))).trans e1⟩
  ·by_cases hj:j=i
   ·subst hj
    rw [hi] at e1; cases e1
    rw [List.getElem?_set_self hiσ] at e2
    cases e2
    exact⟨u,r,.inl ⟨hk,by simp⟩⟩
   ·rw [List.getElem?_set_ne (Ne.symm hj)] at e2
    obtain⟨u',r',q⟩:=hl j y v' e1 e2 e3
    refine⟨u',r',?_⟩
    rcases q with ⟨k,e⟩ | ⟨k,c,e,z⟩
    ·refine .inl ⟨k,?_⟩
     have:y≠x:=fun e=>hj (x9a hN e1 (e▸hi))
     simp [this,e]
    ·exact .inr ⟨k,c,e,z.sameBut hs (cne y c e)⟩
  ·obtain⟨w',z⟩:=I.cell y c e
   exact⟨w',z.sameBut hs (cne y c e)⟩
  ·obtain⟨e,n,ne,nf,d⟩:=I.pin p hp
   exact⟨(hs.2 p.1 ne).trans e,n,ne,nf,d⟩
 ·have hfn:X.fn x=true:=by
   rcases hf with z | z
   ·exact z
   ·rw [z] at hk; cases hk
  obtain⟨c,hc⟩:=I.ok.has x (.inl hk)
  obtain⟨w',z⟩:=I.cell x c hc
  refine wpAny_storeName_cell I.ok.kind hk hc z (fun h' hc' hs=>?_)
  obtain⟨oc,hoc,hocd⟩:=id z
  refine h { s with heap:=h' } ⟨I.ok,I.os,I.bare,⟨fun b o e n hb hx=>?_,fun b o e n hb hx=>?_,I.base.free,fun b o e hx=>?_,I.base.tups,I.base.frzs,I.base.tbls⟩,⟨m,hn.sameBut hs (Ne.symm (cne x c hc)),fun j y v' e1 e2 e3=>?_⟩,fun y c' e=>?_,I.free,I.freeC,fun p hp=>?_,tracked ⟨oc,hoc,I.freeC x c hc⟩ hs,by simpa using I.len⟩ ⟨c,hs,.inr hc⟩
  ·exact (hs.2 b (Nat.ne_of_lt (Nat.lt_of_lt_of_le (Heap.lt_size e) (I.ok.cab x c hfn hc)))).trans (I.base.keep b o e n hb hx)
  ·obtain⟨sl,e1⟩:=I.base.slot b o e n hb hx
   exact⟨sl,(hs.2 b (Nat.ne_of_lt (Nat.lt_of_lt_of_le (Heap.lt_size e) (I.ok.cab x c hfn hc)))).trans e1⟩
  ·obtain⟨o',e1⟩:=I.base.there b o e hx
   exact⟨o',(hs.2 b (Nat.ne_of_lt (Nat.lt_of_lt_of_le (Heap.lt_size e) (I.ok.cab x c hfn hc)))).trans e1⟩
  ·by_cases hj:j=i
   ·subst hj
    rw [hi] at e1; cases e1
    rw [List.getElem?_set_self hiσ] at e2
    cases e2
    exact⟨u,r,.inr ⟨.inl hk,c,hc,hc'⟩⟩
   ·rw [List.getElem?_set_ne (Ne.symm hj)] at e2
    obtain⟨u',r',q⟩:=hl j y v' e1 e2 e3
    refine⟨u',r',?_⟩
    rcases q with q | ⟨k,c',e,z'⟩
    ·exact .inl q
    ·refine .inr ⟨k,c',e,z'.sameBut hs ?_⟩
     rintro rfl
     exact hj (x9a hN e1 (I.ok.inj _ _ _ e hc▸hi))
  ·by_cases hcc:c'=c
   ·subst hcc; exact⟨_,hc'⟩
   ·obtain⟨w2,z2⟩:=I.cell y c' e
    exact⟨w2,z2.sameBut hs hcc⟩
  ·obtain⟨e,n,ne,nf,d⟩:=I.pin p hp
   refine⟨(hs.2 p.1 ?_).trans e,n,ne,nf,d⟩
   intro q
   rw [q,hoc] at e
   have q':oc=p.2:=Option.some.inj e
   exact d w' (by rw [← q']; exact hocd)
theorem q9m {M:Model} {A:Around} {E:Value→Shared→Prop} {i:Nat} {x:Str} {v:V} {u:Value} {Q:Unit→Shared→Prop} (I:Inv X pins σ H s) (hN:X.N.Nodup) (hi:X.N[i]? = some x) (hx:Loc X.env.scope x) (r:q3z v u)
  (h:∀ s',Inv X pins (σ.set i (some v)) H s'→Q () s') (hf:X.fn x=true∨X.env.scope.names.lookup x=some .local:=by first | exact .inl rfl | exact .inr rfl | assumption):wpAny M A (storeName X.env x u) Q E s :=
 z5h I hN hi hx r (fun s' I' _=>h s' I') hf
theorem Inv.call' {s':Shared} {ch:List Addr} (I:Inv X pins σ H s) (ho:s'.os=s.os) (u:Un (frs X.stack) ch H H' s.heap s'.heap) (hok:HOk X.prog X.w H' s'.heap) (hg:AllBare s'.gens)
  (hch:∀ b∈ch,(b∈X.ex∨X.s₀.heap.objs.size≤b)∧b≠X.env.locals∧(∀ x c,X.env.cells.lookup x=some c→c≠b)∧∀ p∈X.pn++pins,p.1≠b):Inv X pins σ H' s':=by
 obtain⟨h',g',d',t',o'⟩:=s'
 have e:o'=s.os:=ho
 subst e
 exact I.call (g':=g') (t':=t') (d':=d') u hok hg hch
end
noncomputable abbrev XK:=Value→Option Addr→Hp→Prop
noncomputable abbrev St:=List (Option V)
noncomputable abbrev VK:=V→Hp→Prop
noncomputable abbrev TE:=St→Hp→VK→Prop
noncomputable abbrev TT:=St→Hp→(Bool→Hp→Prop)→Prop
noncomputable abbrev TA:=St→Hp→(List V→Hp→Prop)→Prop
structure Ends where
 nx:St→Hp→Prop
 rt:VK
 bk:St→Hp→Prop:=fun _ _=>False
 ct:St→Hp→Prop:=fun _ _=>False
noncomputable abbrev TS:=Ends→St→Hp→Prop
noncomputable def EP (X:Cx) (pins:List (Addr × Obj)) (σ:St) (Q:VK) (u:Value) (s':Shared):Prop:=∃ v H',Inv X pins σ H' s'∧q3z v u∧Q v H'
noncomputable def TP (X:Cx) (pins:List (Addr × Obj)) (σ:St) (Q:Bool→Hp→Prop) (b:Bool) (s':Shared):Prop:=∃ H',Inv X pins σ H' s'∧Q b H'
noncomputable def AP (X:Cx) (pins:List (Addr × Obj)) (σ:St) (Q:List V→Hp→Prop) (us:List Value) (s':Shared):Prop:=∃ vs H',Inv X pins σ H' s'∧q2x vs us∧Q vs H'
noncomputable def SP (X:Cx) (pins:List (Addr × Obj)) (D:Ends) (f:Flow) (s':Shared):Prop :=
 match f with
 | .next=>∃ σ' H',Inv X pins σ' H' s'∧D.nx σ' H'
 | .brk=>∃ σ' H',Inv X pins σ' H' s'∧D.bk σ' H'
 | .cont=>∃ σ' H',Inv X pins σ' H' s'∧D.ct σ' H'
 | .ret u=>∃ v σ' H',Inv X pins σ' H' s'∧q3z v u∧D.rt v H'
noncomputable def PE (X:Cx) (e:Expr) (t:TE):Prop :=
 ∀ (pins:List (Addr × Obj)) (s:Shared) (σ:St) (H:Hp) (Q:VK),Inv X pins σ H s→t σ H Q→wpAny (model X.prog X.w) X.A (eval e X.env) (EP X pins σ Q) X.xe s
noncomputable def PT (X:Cx) (e:Expr) (t:TT):Prop :=
 ∀ (pins:List (Addr × Obj)) (s:Shared) (σ:St) (H:Hp) (Q:Bool→Hp→Prop),Inv X pins σ H s→t σ H Q→wpAny (model X.prog X.w) X.A (isTrue e X.env (eval e X.env)) (TP X pins σ Q) X.xe s
noncomputable def PW (X:Cx) (e:Expr) (t:TT):Prop :=
 ∀ (whole:Sem Value) (pins:List (Addr × Obj)) (s:Shared) (σ:St) (H:Hp) (Q:Bool→Hp→Prop),Inv X pins σ H s→t σ H Q→wpAny (model X.prog X.w) X.A (isTrue e X.env whole) (TP X pins σ Q) X.xe s
theorem PW.pt {X:Cx} {e:Expr} {t:TT} (h:PW X e t):PT X e t:=h _
noncomputable def PA (X:Cx) (es:List Expr) (t:TA):Prop :=
 ∀ (pos:Pos) (pins:List (Addr × Obj)) (s:Shared) (σ:St) (H:Hp) (Q:List V→Hp→Prop),Inv X pins σ H s→t σ H Q→wpAny (model X.prog X.w) X.A (spliced (backTo pos (starEach es X.env))) (AP X pins σ Q) X.xe s
noncomputable def PS (X:Cx) (st:Stmt) (t:TS):Prop :=
 ∀ (pins:List (Addr × Obj)) (s:Shared) (σ:St) (H:Hp) (D:Ends),Inv X pins σ H s→t D σ H→wpAny (model X.prog X.w) X.A (exec st X.env) (SP X pins D) X.xe s
noncomputable def PSs (X:Cx) (st:List Stmt) (t:TS):Prop :=
 ∀ (pins:List (Addr × Obj)) (s:Shared) (σ:St) (H:Hp) (D:Ends),Inv X pins σ H s→t D σ H→wpAny (model X.prog X.w) X.A (execs st X.env) (SP X pins D) X.xe s
theorem thn {α:Type} {t:Sem α} {Q Q':α→Shared→Prop} {M:Model} {A:Around} {E:Value→Shared→Prop} {s:Shared} (h:wpAny M A t Q E s) (hQ:∀ a s,Q a s→Q' a s):wpAny M A t Q' E s:=wpAny_mono h hQ fun _ _ x=>x
section
variable {X:Cx}
noncomputable def j7i (i:Nat):TE:=fun σ H Q=>∃ v,σ[i]? = some (some v)∧Q v H
noncomputable def tC (v:V):TE:=fun _ H Q=>Q v H
theorem j1x {i:Nat} {x:Str} {pos:Pos} (hN:X.N[i]? = some x) (hv:Vis X.env.scope x) (hd:(x==("__debug__" : Str))=false:=by decide) (hcd:(x==("__classdict__" : Str))=false:=by decide):PE X (.Name x pos) (j7i i):=by
 intro pins s σ H Q I h
 obtain⟨v,e,h⟩:=h
 obtain⟨m,hn,hl⟩:=I.loc
 obtain⟨u,r,l⟩:=hl i x v hN e hv
 have fin:EP X pins σ Q u s:=⟨v,H,I,r,h⟩
 rcases l with ⟨hk,hm⟩ | ⟨hk,c,hc,hcell⟩
 ·exact wpAny_Name (wpAny_loadName_local I.ok.kind hk hn hm fin) hd
 ·rcases hk with hk | hk
  ·exact wpAny_Name (wpAny_loadName_cell I.ok.kind hk hc hcell fin) hd
  ·exact wpAny_Name (wpAny_loadName_free I.ok.kind hk hc hcell fin hcd) hd
theorem q0b {i j pos}:PE X (.Constant (.int i) j pos) (tC (.int i)):=fun _ _ _ H _ I h=>wpAny_Constant_int ⟨.int i,H,I.tok _,⟨_,rfl⟩,h⟩
theorem x7c {b j pos}:PE X (.Constant (.bool b) j pos) (tC (.bl b)):=fun _ _ _ H _ I h=>Constant_bool ⟨.bl b,H,I,rfl,h⟩
theorem q1t {j pos}:PE X (.Constant .none j pos) (tC .non):=fun _ _ _ H _ I h=>Constant_none ⟨.non,H,I,rfl,h⟩
theorem q0q {x j pos}:PE X (.Constant (.str x) j pos) (tC (.str x)):=fun _ _ _ H _ I h=>Calls.Constant_str ⟨.str x,H,I.tok _,⟨_,rfl⟩,h⟩
noncomputable def Gl (X:Cx) (x:Str):Prop:=X.env.kindOf x=some .globalImplicit
theorem q5m {E:Value→Shared→Prop} {pins:List (Addr × Obj)} {s:Shared} {σ:St} {H:Hp} {x:Str} {u:Value} {pos:Pos} {Q:Value→Shared→Prop} (I:Inv X pins σ H s) (hg:Gl X x) (hm:X.mg x=some u) (h:Q u s)
  (hd:(x==("__debug__" : Str))=false:=by decide):wpAny (model X.prog X.w) X.A (eval (.Name x pos) X.env) Q E s :=
 Calls.Name_function_global I.ok.kind hg (Calls.loadGlobal_global (by rw [I.ok.glob]; exact I.mod.glob.keeps I.bk) hm h) hd
theorem x7d {E:Value→Shared→Prop} {pins:List (Addr × Obj)} {s:Shared} {σ:St} {H:Hp} {x:Str} {u:Value} {pos:Pos} {Q:Value→Shared→Prop} (I:Inv X pins σ H s) (hg:Gl X x) (hm:X.mg x=none) (hv:bootBuiltins x=some u) (h:Q u s)
  (hn:x ≠ "__name__" := by decide) (hd:(x==("__debug__" : Str))=false:=by decide):wpAny (model X.prog X.w) X.A (eval (.Name x pos) X.env) Q E s:=by
 obtain⟨mb,h1,h2⟩:=I.mod.blt
 exact Calls.Name_function_global I.ok.kind hg (Calls.loadGlobal_builtin (by rw [I.ok.glob]; exact I.mod.glob.keeps I.bk) hm (by rw [I.ok.blt]; exact h1.keeps I.bk) ((h2 x hn).trans hv) h) hd
theorem z5j {x:Str} {v:V} {u:Value} {pos:Pos} (hg:Gl X x) (hm:X.mg x=some u) (r:q3z v u) (hd:(x==("__debug__" : Str))=false:=by decide):PE X (.Name x pos) (tC v) :=
 fun _ _ _ H _ I h=>q5m I hg hm ⟨v,H,I,r,h⟩ hd
theorem z9o {x:Str} {v:V} {u:Value} {pos:Pos} (hg:Gl X x) (hm:X.mg x=none) (hv:bootBuiltins x=some u) (r:q3z v u) (hn:x ≠ "__name__" := by decide) (hd:(x==("__debug__" : Str))=false:=by decide):PE X (.Name x pos) (tC v) :=
 fun _ _ _ H _ I h=>x7d I hg hm hv ⟨v,H,I,r,h⟩ hn hd
variable {a b:Expr} {ta tb:TE} {pos:Pos}
noncomputable def tB (t:TE):TT:=fun σ H Q=>t σ H fun x H1=>∃ c,x=.bl c∧Q c H1
theorem q3h {e:Expr} {t:TE} (h:PE X e t) (he:∀ whole,isTrue e X.env whole=(do let v←whole; standAt e.pos; holding [v] (truthy v)):=by intro _; rfl):PT X e (tB t):=by
 intro pins s σ H Q I hw
 refine isTrue_plain (thn (h pins s σ H _ I hw) fun v s1 ⟨x,H1,I1,r1,q1⟩=>?_) (he _)
 obtain⟨d,rfl,q⟩:=q1
 cases r1
 exact wpAny_truthy_bool ⟨H1,I1,q⟩
variable {tA tB':TT} {rest:List Expr}
noncomputable def j7y (t u:TT):TT:=fun σ H Q=>t σ H fun c H1=>if c=true then u σ H1 Q else Q false H1
noncomputable def tOr (t u:TT):TT:=fun σ H Q=>t σ H fun c H1=>if c=true then Q true H1 else u σ H1 Q
noncomputable def j9e (t:TT):TT:=fun σ H Q=>t σ H fun c H1=>Q (!c) H1
theorem q4w (ha:PT X a tA):PW X (.BoolOp .And [a] pos) tA:=by
 intro wh pins s σ H Q I h
 refine isTrue_and (thn (ha pins s σ H Q I h) fun c s1 e=>?_)
 cases c with
 | true=>exact isTrue_and_nil e
 | false=>exact e
theorem q5b (ha:PT X a tA):PW X (.BoolOp .Or [a] pos) tA:=by
 intro wh pins s σ H Q I h
 refine isTrue_or (thn (ha pins s σ H Q I h) fun c s1 e=>?_)
 cases c with
 | false=>exact isTrue_or_nil e
 | true=>exact e
theorem q4x (ha:PT X a tA) (hb:PW X (.BoolOp .And (b::rest) pos) tB'):PW X (.BoolOp .And (a::b::rest) pos) (j7y tA tB'):=by
 intro wh pins s σ H Q I h
 refine isTrue_and (thn (ha pins s σ H _ I h) fun c s1 ⟨H1,I1,q1⟩=>?_)
 cases c with
 | true=>exact hb wh pins s1 σ H1 Q I1 q1
 | false=>exact⟨H1,I1,q1⟩
theorem q5j (ha:PT X a tA) (hb:PW X (.BoolOp .Or (b::rest) pos) tB'):PW X (.BoolOp .Or (a::b::rest) pos) (tOr tA tB'):=by
 intro wh pins s σ H Q I h
 refine isTrue_or (thn (ha pins s σ H _ I h) fun c s1 ⟨H1,I1,q1⟩=>?_)
 cases c with
 | true=>exact⟨H1,I1,q1⟩
 | false=>exact hb wh pins s1 σ H1 Q I1 q1
theorem q4e (ha:PT X a tA):PT X (.UnaryOp .Not a pos) (j9e tA):=by
 intro pins s σ H Q I h
 exact isTrue_not (ha pins s σ H (fun c H1=>Q (!c) H1) I h)
noncomputable def j6h (ta tb:TE):TE:=fun σ H Q=>ta σ H fun x H1=>∃ c,x=.bl c∧if c=true then tb σ H1 Q else Q (.bl false) H1
noncomputable def j9a (ta tb:TE):TE:=fun σ H Q=>ta σ H fun x H1=>∃ c,x=.bl c∧if c=true then Q (.bl true) H1 else tb σ H1 Q
noncomputable def j5v (ta:TE):TE:=fun σ H Q=>ta σ H fun x H1=>∃ c,x=.bl c∧Q (.bl (!c)) H1
theorem q4q {op} {t:TE} (h:PE X a t):PE X (.BoolOp op [a] pos) t:=fun pins s σ H Q I hw=>BoolOp_one (h pins s σ H Q I hw)
theorem q3x (ha:PE X a ta) (hb:PE X (.BoolOp .And (b::rest) pos) tb):PE X (.BoolOp .And (a::b::rest) pos) (j6h ta tb):=by
 intro pins s σ H Q I h
 refine BoolOp_and (thn (ha pins s σ H _ I h) fun v s1 ⟨x,H1,I1,r1,q1⟩=>?_)
 obtain⟨c,rfl,q1⟩:=q1
 cases r1
 refine wpAny_truthy_bool ?_
 cases c with
 | true=>exact hb pins s1 σ H1 Q I1 q1
 | false=>exact⟨.bl false,H1,I1,rfl,q1⟩
theorem j6m (ha:PE X a ta) (hb:PE X (.BoolOp .Or (b::rest) pos) tb):PE X (.BoolOp .Or (a::b::rest) pos) (j9a ta tb):=by
 intro pins s σ H Q I h
 refine BoolOp_or (thn (ha pins s σ H _ I h) fun v s1 ⟨x,H1,I1,r1,q1⟩=>?_)
 obtain⟨c,rfl,q1⟩:=q1
 cases r1
 refine wpAny_truthy_bool ?_
 cases c with
 | false=>exact hb pins s1 σ H1 Q I1 q1
 | true=>exact⟨.bl true,H1,I1,rfl,q1⟩
theorem x9u (ha:PE X a ta):PE X (.UnaryOp .Not a pos) (j5v ta):=by
 intro pins s σ H Q I h
 refine UnaryOp_ (thn (ha pins s σ H _ I h) fun v s1 ⟨x,H1,I1,r1,q1⟩=>?_)
 obtain⟨c,rfl,q1⟩:=q1
 cases r1
 exact not_of (wpAny_truthy_bool ⟨.bl (!c),H1,I1,rfl,q1⟩)
noncomputable def tIf (t:TT) (ta tb:TE):TE:=fun σ H Q=>t σ H fun c H1=>if c=true then ta σ H1 Q else tb σ H1 Q
theorem z6h {c:Expr} (hc:PT X c tA) (ha:PE X a ta) (hb:PE X b tb):PE X (.IfExp c a b pos) (tIf tA ta tb):=by
 intro pins s σ H Q I h
 refine wpAny_IfExp (thn (hc pins s σ H _ I h) fun d s1 ⟨H1,I1,q1⟩=>?_)
 cases d with
 | true=>exact ha pins s1 σ H1 Q I1 q1
 | false=>exact hb pins s1 σ H1 Q I1 q1
end
noncomputable def SqL (K:Frag) (H:Hp) (a:Addr) (xs:List V):Prop :=
 Rd H a (.lst xs) ∨
  ∃ (o:Obj) (its:Array Value) (n:Nat),K.lookup a=some o∧o.cls=.type "list" ∧ o.dict=none∧o.data=.seq its n∧its.size≤sizeLine∧q2x xs its.toList
noncomputable def SqT (K:Frag) (H:Hp) (a:Addr) (xs:List V):Prop :=
 Rd H a (.tup xs) ∨
  ∃ (o:Obj) (its:Array Value) (n:Nat),K.lookup a=some o∧o.cls=.type "tuple" ∧ o.data=.seq its n∧its.size≤sizeLine∧q2x xs its.toList
noncomputable def j8e:Value→Option V
 | .none=>some .non
 | .bool b=>some (.bl b)
 | .int i _=>some (.int i)
 | .str x _=>some (.str x)
 | .bytes b _=>some (.byt b)
 | .float b _=>some (.flt b)
 | .ref a=>some (.ref a)
 | .type n=>some (.ty n)
 | _=>none
theorem q3z.abs {x:V} {u:Value} (r:q3z x u):j8e u=some x:=by
 cases x with
 | non=>cases r; rfl
 | bl _=>cases r; rfl
 | int _=>obtain⟨t,rfl⟩:=r; rfl
 | str _=>obtain⟨t,rfl⟩:=r; rfl
 | byt _=>obtain⟨t,rfl⟩:=r; rfl
 | flt _=>obtain⟨t,rfl⟩:=r; rfl
 | ref _=>cases r; rfl
 | ty _=>cases r; rfl
theorem q3z.inj {x y:V} {u:Value} (r:q3z x u) (q:q3z y u):x=y:=Option.some.inj (r.abs.symm.trans q.abs)
theorem q2x.inj:∀ {xs ys:List V} {us:List Value},q2x xs us→q2x ys us→xs=ys
 | _,_,_,.nil,.nil=>rfl
 | _,_,_,.cons r t,.cons r' t'=>by rw [r.inj r',q2x.inj t t']
section
variable {X:Cx} {pins:List (Addr × Obj)} {σ:St} {H:Hp} {s:Shared} {a:Addr} {xs ys:List V}
theorem SqL.of {K:Frag} (h:H a=some (.lst xs)):SqL K H a xs:=.inl (.inl h)
theorem SqT.of {K:Frag} (h:H a=some (.tup xs)):SqT K H a xs:=.inl (.inl h)
theorem Inv.list (I:Inv X pins σ H s) (h:SqL X.K H a xs):∃ its:List Value,q2x xs its∧PlainL s.heap a its.toArray∧xs.length≤sizeLine:=by
 rcases h with h | ⟨o,its,n,hk,hc,hd,hs,hz,r⟩
 ·obtain⟨z,its,n,r,e⟩:=h.ok I.hok
  exact⟨its,r,⟨_,n,e,rfl,rfl,rfl⟩,z⟩
 ·refine⟨its.toList,r,⟨o,n,I.kIn a o hk,hc,hd,by simpa using hs⟩,?_⟩
  have e:=r.length
  simp only [Array.length_toList] at e
  omega
theorem Inv.tuple (I:Inv X pins σ H s) (h:SqT X.K H a xs):∃ its:List Value,q2x xs its∧IsTup s.heap a its.toArray∧xs.length≤sizeLine:=by
 rcases h with h | ⟨o,its,n,hk,hc,hs,hz,r⟩
 ·obtain⟨z,its,r,p⟩:=h.ok I.hok
  exact⟨its,r,p,z⟩
 ·refine⟨its.toList,r,⟨o,I.kIn a o hk,hc,n,by simpa using hs⟩,?_⟩
  have e:=r.length
  simp only [Array.length_toList] at e
  omega
theorem Inv.list_inj (I:Inv X pins σ H s) (h:SqL X.K H a xs) (h':SqL X.K H a ys):xs=ys:=by
 obtain⟨its,r,⟨o,n,e,_,_,d⟩,_⟩:=I.list h
 obtain⟨its',r',⟨o',n',e',_,_,d'⟩,_⟩:=I.list h'
 rw [e] at e'; cases e'
 rw [d] at d'
 injection d' with d1 _
 have:its=its':=by simpa using congrArg Array.toList d1
 subst this
 exact r.inj r'
theorem Inv.tuple_inj (I:Inv X pins σ H s) (h:SqT X.K H a xs) (h':SqT X.K H a ys):xs=ys:=by
 obtain⟨its,r,⟨o,e,_,n,d⟩,_⟩:=I.tuple h
 obtain⟨its',r',⟨o',e',_,n',d'⟩,_⟩:=I.tuple h'
 rw [e] at e'; cases e'
 rw [d] at d'
 injection d' with d1 _
 have:its=its':=by simpa using congrArg Array.toList d1
 subst this
 exact r.inj r'
end
noncomputable abbrev Cx.wish (X:Cx) (E:Value→Shared→Prop):Cx:={ X with xe:=E }
noncomputable abbrev Cx.nox (X:Cx):Cx:=X.wish fun _ _=>False
theorem Cx.Ok.wish {X:Cx} (ok:X.Ok) (E:Value→Shared→Prop):(X.wish E).Ok :=
 ⟨ok.mod,ok.kind,ok.glob,ok.blt,ok.above,ok.inj,ok.has,ok.cab,ok.hd,ok.frames,ok.stk,ok.exf,ok.bs,ok.bsz,ok.noex,ok.exfs,ok.funs,ok.frf⟩
theorem Cx.Ok.unwish {X:Cx} {E:Value→Shared→Prop} (ok:(X.wish E).Ok):X.Ok :=
 ⟨ok.mod,ok.kind,ok.glob,ok.blt,ok.above,ok.inj,ok.has,ok.cab,ok.hd,ok.frames,ok.stk,ok.exf,ok.bs,ok.bsz,ok.noex,ok.exfs,ok.funs,ok.frf⟩
section
variable {X:Cx} {pins:List (Addr × Obj)} {σ:St} {H:Hp} {s:Shared} {E:Value→Shared→Prop}
theorem Inv.wish (I:Inv X pins σ H s) (E:Value→Shared→Prop):Inv (X.wish E) pins σ H s:=⟨I.ok.wish E,I.os,I.bare,I.base,I.loc,I.cell,I.free,I.freeC,I.pin,I.hok,I.len⟩
theorem Inv.unwish (I:Inv (X.wish E) pins σ H s):Inv X pins σ H s:=⟨I.ok.unwish,I.os,I.bare,I.base,I.loc,I.cell,I.free,I.freeC,I.pin,I.hok,I.len⟩
theorem SP.unwish {D:Ends} {f:Flow} {s':Shared} (h:SP (X.wish E) pins D f s'):SP X pins D f s':=by
 cases f with
 | next=>obtain⟨σ',H',I,q⟩:=h; exact⟨σ',H',I.unwish,q⟩
 | brk=>obtain⟨σ',H',I,q⟩:=h; exact⟨σ',H',I.unwish,q⟩
 | cont=>obtain⟨σ',H',I,q⟩:=h; exact⟨σ',H',I.unwish,q⟩
 | ret u=>obtain⟨v,σ',H',I,r,q⟩:=h; exact⟨v,σ',H',I.unwish,r,q⟩
theorem PSs.nox {st:List Stmt} {t:TS} (h:PSs X.nox st t):PSs X st t:=fun pins s σ H D I hw =>
 wpAny_mono (h pins s σ H D (I.wish _) hw) (fun _ _ q=>q.unwish) fun _ _ z=>False.elim z
end
section
variable {X:Cx} {st:Stmt} {rest:List Stmt} {t u:TS} {e:Expr} {te:TE} {pos:Pos}
noncomputable def j5p:TS:=fun D σ H=>D.nx σ H
noncomputable def j5l (t u:TS):TS:=fun D σ H=>t { D with nx:=u D } σ H
theorem q0h:PSs X [] j5p:=fun _ _ σ H _ I h=>wpAny_execs_nil ⟨σ,H,I,h⟩
theorem x0t (h1:PS X st t) (h2:PSs X rest u):PSs X (st::rest) (j5l t u):=by
 intro pins s σ H D I h
 refine wpAny_execs_cons (thn (h1 pins s σ H { D with nx:=u D } I h) fun f s1 q=>?_)
 cases f with
 | next =>
  obtain⟨σ',H',I',q⟩:=q
  exact h2 pins s1 σ' H' D I' q
 | ret v=>exact q
 | brk=>exact q
 | cont=>exact q
theorem q3l (h1:PS X st t):PSs X [st] t:=by
 intro pins s σ H D I h
 refine wpAny_execs_cons (thn (h1 pins s σ H D I h) fun f s1 q=>?_)
 cases f with
 | next=>exact wpAny_execs_nil q
 | ret v=>exact q
 | brk=>exact q
 | cont=>exact q
theorem Inv.quiet {pins:List (Addr × Obj)} {σ:St} {H:Hp} {s:Shared} (I:Inv X pins σ H s):interactive X.env=false:=by simp [interactive,I.ok.kind]
noncomputable def j5u (te:TE):TS:=fun D σ H=>te σ H fun _ H1=>D.nx σ H1
theorem x0f (he:PE X e te) (hs:swapsWith e none pos.line X.env=pure false:=by rfl):PS X (.Expr e pos) (j5u te):=by
 intro pins s σ H D I h
 exact wpAny_Expr_any (thn (he pins s σ H _ I h) fun v s1 ⟨x,H1,I1,r1,q1⟩=>⟨σ,H1,I1,q1⟩) I.quiet hs
noncomputable def j9j (te:TE):TS:=fun D σ H=>te σ H D.rt
theorem q0g (he:PE X e te):PS X (.Return (some e) pos) (j9j te):=by
 intro pins s σ H D I h
 exact wpAny_Return_some (thn (he pins s σ H _ I h) fun v s1 ⟨x,H1,I1,r1,q1⟩=>⟨x,σ,H1,I1,r1,q1⟩)
noncomputable def j7t (c:TT) (t u:TS):TS:=fun D σ H=>c σ H fun b H1=>if b=true then t D σ H1 else u D σ H1
theorem q1e {c:Expr} {a b:List Stmt} {tc:TT} (hc:PT X c tc) (ha:PSs X a t) (hb:PSs X b u):PS X (.If c a b pos) (j7t tc t u):=by
 intro pins s σ H D I h
 refine wpAny_If (thn (hc pins s σ H _ I h) fun d s1 ⟨H1,I1,q1⟩=>?_)
 cases d with
 | true=>exact ha pins s1 σ H1 D I1 q1
 | false=>exact hb pins s1 σ H1 D I1 q1
noncomputable def j4o:TS:=fun _ _ _=>False
theorem q4u {sts:List Stmt}:PSs X sts j4o:=fun _ _ _ _ _ _ h=>h.elim
end
noncomputable abbrev TG:=V→St→Hp→(St→Hp→Prop)→Prop
noncomputable abbrev TGs:=List V→St→Hp→(St→Hp→Prop)→Prop
noncomputable def PG (X:Cx) (target:Expr) (t:TG):Prop :=
 ∀ (pins:List (Addr × Obj)) (s:Shared) (σ:St) (H:Hp) (v:V) (u:Value) (Q:St→Hp→Prop),Inv X pins σ H s→q3z v u→t v σ H Q →
  wpAny (model X.prog X.w) X.A (assign target X.env u) (fun _ s'=>∃ σ' H',Inv X pins σ' H' s'∧Q σ' H') X.xe s
noncomputable def PGs (X:Cx) (ts:List Expr) (t:TGs):Prop :=
 ∀ (pins:List (Addr × Obj)) (s:Shared) (σ:St) (H:Hp) (vs:List V) (us:List Value) (Q:St→Hp→Prop),Inv X pins σ H s→q2x vs us→t vs σ H Q →
  wpAny (model X.prog X.w) X.A (assignInOrder ((assignEach ts X.env).map (·.2)) us) (fun _ s'=>∃ σ' H',Inv X pins σ' H' s'∧Q σ' H') X.xe s
section
variable {X:Cx} {pos:Pos}
noncomputable def j0e (i:Nat):TG:=fun v σ H Q=>Q (σ.set i (some v)) H
theorem q1x {i:Nat} {x:Str} (hN:X.N.Nodup) (hi:X.N[i]? = some x) (hx:Loc X.env.scope x) (hf:X.fn x=true∨X.env.scope.names.lookup x=some .local:=by first | exact .inl rfl | exact .inr rfl | assumption):PG X (.Name x pos) (j0e i):=by
 intro pins s σ H v u Q I r h
 exact wpAny_assign_Name (q9m I hN hi hx r (fun s' I'=>⟨_,H,I',h⟩) hf)
noncomputable def j8g:TGs:=fun vs σ H Q=>vs=[]∧Q σ H
noncomputable def j5i (t:TG) (u:TGs):TGs:=fun vs σ H Q=>∃ v r,vs=v::r∧t v σ H fun σ' H'=>u r σ' H' Q
theorem x7t:PGs X [] j8g:=by
 intro pins s σ H vs us Q I r h
 obtain⟨e,h⟩:=h
 subst e
 cases r
 exact assignInOrder_nil ⟨σ,H,I,h⟩
theorem q7g {e:Expr} {es:List Expr} {t:TG} {u:TGs} (h1:PG X e t) (h2:PGs X es u)
  (hs:(assignEach (e::es) X.env).map (·.2)=assign e X.env::(assignEach es X.env).map (·.2):=by rfl):PGs X (e::es) (j5i t u):=by
 intro pins s σ H vs us Q I r h
 obtain⟨v,vr,e1,h⟩:=h
 subst e1
 cases r with
 | cons r rr =>
  rw [hs]
  refine assignInOrder_cons (thn (h1 pins s σ H _ _ _ I r h) fun _ s1 ⟨σ1,H1,I1,q1⟩=>?_)
  exact h2 pins s1 σ1 H1 _ _ Q I1 rr q1
noncomputable def j7d (K:Frag) (n:Nat) (t:TGs):TG:=fun v σ H Q=>∃ a xs,v=.ref a∧SqT K H a xs∧xs.length=n∧t xs σ H Q
theorem j2q {es:List Expr} {k:Nat} {t:TGs} {n:Nat} (hc:X.calm=true) (h:PGs X es t)
  (hn:(assignEach es X.env).length=n:=by rfl) (hst:(assignEach es X.env).findIdx? (·.1)=none:=by rfl):PG X (.Tuple es k pos) (j7d X.K n t):=by
 intro pins s σ H v u Q I r hw
 obtain⟨a,xs,e1,hq,hl,hw⟩:=hw
 subst e1
 cases r
 obtain⟨its,rv,ht,hz⟩:=I.tuple hq
 refine assign_Tuple_tuple (I.ok.hd hc) ht (by simp [hn,← hl,rv.length]) hst fun h' hx=>?_
 have I1:Inv X pins σ H { s with heap:=h' }:=I.kept (t':=s.toks) fun b o e=>hx b o (Nat.ne_of_lt (Heap.lt_size e)) e
 exact h pins _ σ H xs _ Q I1 (by simpa using rv) hw
noncomputable def j7n (te:TE) (g:TG):TS:=fun D σ H=>te σ H fun x H1=>g x σ H1 D.nx
theorem q0y {i:Nat} {x:Str} {e:Expr} {te:TE} {pos':Pos} (hN:X.N.Nodup) (hi:X.N[i]? = some x) (hx:Loc X.env.scope x) (he:PE X e te) (hs:swapsWith e (some (.Name x pos')) pos.line X.env=pure false:=by rfl) (hf:X.fn x=true∨X.env.scope.names.lookup x=some .local:=by first | exact .inl rfl | exact .inr rfl | assumption) :
  PS X (.Assign [.Name x pos'] e pos) (j7n te (j0e i)):=by
 intro pins s σ H D I h
 refine wpAny_Assign_Name (thn (he pins s σ H _ I h) fun v s1 ⟨y,H1,I1,r1,q1⟩=>?_) hs
 exact q9m I1 hN hi hx r1 (fun s2 I2=>⟨_,H1,I2,q1⟩) hf
end
section
variable {X:Cx} {pos:Pos}
noncomputable def j1u (c:TT) (tb:TS):TS:=fun D σ H=>∃ W:Nat→St→Hp→Prop,(∃ m,W m σ H)∧∀ m σ H,W m σ H →
 c σ H fun b H1=>if b=true then ∃ N:St→Hp→Prop,(∀ σ' H',N σ' H'→∃ m',m' < m∧W m' σ' H')∧tb { D with nx:=N,ct:=N,bk:=D.nx } σ H1 else D.nx σ H1
theorem x9f {c:Expr} {body:List Stmt} {tc:TT} {tb:TS} (hp:PassesOwn (model X.prog X.w) X.A X.env X.xe) (hc:PT X c tc) (hb:PSs X body tb):PS X (.While c body [] pos) (j1u tc tb):=by
 intro pins s σ H D I h
 obtain⟨W,⟨m0,w0⟩,turn⟩:=h
 refine wpAny_While (codeAny_whileLoop (fun n s'=>∃ σ' H',Inv X pins σ' H' s'∧W n σ' H') ?_ m0 ⟨σ,H,I,w0⟩)
 rintro n s1 ⟨σ1,H1,I1,w1⟩
 refine wpAny_passesOwn hp (thn (hc pins s1 σ1 H1 _ I1 (turn n σ1 H1 w1)) fun b s2 ⟨H2,I2,q2⟩=>?_)
 cases b with
 | true =>
  obtain⟨N,hN,q2⟩:=q2
  rw [if_pos rfl]
  refine wpAny_passesOwn hp (thn (hb pins s2 σ1 H2 _ I2 q2) fun f s3 q3=>?_)
  cases f with
  | next =>
   obtain⟨σ3,H3,I3,n3⟩:=q3
   obtain⟨m',hm,w3⟩:=hN σ3 H3 n3
   exact⟨m',hm,σ3,H3,I3,w3⟩
  | cont =>
   obtain⟨σ3,H3,I3,n3⟩:=q3
   obtain⟨m',hm,w3⟩:=hN σ3 H3 n3
   exact⟨m',hm,σ3,H3,I3,w3⟩
  | brk=>exact q3
  | ret v=>exact q3
 | false =>
  rw [if_neg Bool.false_ne_true]
  exact wpAny_execs_nil ⟨σ1,H2,I2,q2⟩
end
structure It where
 go:Nat→Hp→Prop
 yld:Nat→Hp→V→Hp→Prop
 stop:Nat→Hp→Prop
noncomputable def z1v (X:Cx) (pins:List (Addr × Obj)) (H:Hp) (b:Addr):Prop :=
 H b=none∧b≠X.env.locals∧b∉X.fs∧(b∈X.ex∨X.s₀.heap.objs.size≤b)∧(∀ x c,X.env.cells.lookup x=some c→c≠b)∧∀ p∈X.pn++pins,p.1≠b
theorem Inv.fpOk {X:Cx} {pins:List (Addr × Obj)} {σ:St} {H H':Hp} {s:Shared} {b:Addr} (I:Inv X pins σ H s) (hb:s.heap.objs.size≤b) (hn:H' b=none):z1v X pins H' b:=by
 refine⟨hn,Nat.ne_of_gt (Nat.lt_of_lt_of_le I.lt hb),I.nofs hb,.inr (Nat.le_trans I.sz hb),fun x c e z=>?_,fun p hp z=>?_⟩
 ·obtain⟨v,q⟩:=I.cell x c e
  exact absurd (Nat.lt_of_lt_of_le q.lt (by rw [z]; exact hb)) (Nat.lt_irrefl _)
 ·exact absurd (Nat.lt_of_lt_of_le (Heap.lt_size (I.pin p hp).1) (by rw [z]; exact hb)) (Nat.lt_irrefl _)
structure Turn (P:Program) (w:World) (K:Frag) (tg:Expr) (J:It) (fp:List Addr) (it:Addr) (tn:Nat→Heap→Prop):Prop where
 mem:it∈fp
 obj:∀ i h,tn i h→∀ b∈fp,∃ o,h.get? b=some o∧∀ v,o.data≠.cell v
 keep:∀ i h h',tn i h→(∀ b∈fp,∀ o,h.get? b=some o→h'.get? b=some o)→tn i h'
 item:∀ (X:Cx),X.prog=P→X.w=w→X.K=K→X.calm=true→∀ (i:Nat) (pins:List (Addr × Obj)) (s:Shared) (σ:St) (H:Hp) (E:Value→Shared→Prop),Inv X pins σ H s→(∀ b∈fp,z1v X pins H b)→tn i s.heap→J.go i H →
  wpAny (model P w) X.A (pyNext (.ref it)) (fun r s1=>∃ u,r=some u ∧
   wpAny (model P w) X.A (letOwnedTupleGo tg (.ref it) u) (fun _ s2=>∃ x H',Inv X pins σ H' s2∧q3z x u∧J.yld i H x H'∧tn (i+1) s2.heap∧∀ b∈fp,H' b=none) E s1) E s
 done:∀ (X:Cx),X.prog=P→X.w=w→X.K=K→X.calm=true→∀ (i:Nat) (pins:List (Addr × Obj)) (s:Shared) (σ:St) (H:Hp) (E:Value→Shared→Prop),Inv X pins σ H s→(∀ b∈fp,z1v X pins H b)→tn i s.heap→J.stop i H →
  wpAny (model P w) X.A (pyNext (.ref it)) (fun r s1=>r=none∧Inv X pins σ H s1) E s
 self:∀ (A:Around) (i:Nat) (s:Shared) (Q:Value→Shared→Prop) (E:Value→Shared→Prop),tn i s.heap→Q (.ref it) s→wpAny (model P w) A (pyIter (.ref it)) Q E s
noncomputable abbrev TI:=St→Hp→(It→Hp→Prop)→Prop
noncomputable def PIE (X:Cx) (pins:List (Addr × Obj)) (σ:St) (tg:Expr) (R:It→Hp→Prop) (itv:Value) (s2:Shared):Prop :=
 ∃ (it:Addr) (fp:List Addr) (tn:Nat→Heap→Prop) (J:It) (H':Hp),itv=.ref it∧Inv X pins σ H' s2∧Turn X.prog X.w X.K tg J fp it tn∧tn 0 s2.heap∧(∀ b∈fp,z1v X pins H' b)∧R J H'
noncomputable def PI (X:Cx) (tg iter:Expr) (wi:TI):Prop :=
 ∀ (pins:List (Addr × Obj)) (s:Shared) (σ:St) (H:Hp) (R:It→Hp→Prop),Inv X pins σ H s→wi σ H R →
  wpAny (model X.prog X.w) X.A (eval iter X.env) (fun v s1=>wpAny (model X.prog X.w) X.A (pyIter v) (PIE X pins σ tg R) X.xe s1) X.xe s
theorem j1k {M:Model} {A:Around} {E:Value→Shared→Prop} {s:Shared} {tg:Expr} {it:Addr} {u:Value} {o:Obj} {n:String} {vs:Array Value} {Q:Unit→Shared→Prop} (ho:s.heap.get? it=some o) (hc:o.cls=.type n) (hd:o.data=.fields vs)
    (hn:["enumerate", "zip", "dict_itemiterator", "dict_reverseitemiterator", "odict_iterator", "itertools.zip_longest", "itertools.pairwise"].contains n=false) (hQ:Q () s):wpAny M A (letOwnedTupleGo tg (.ref it) u) Q E s:=by
  unfold letOwnedTupleGo
  cases tg <;> first
    | exact wpAny_pure hQ
    | (cases u <;> first
        | exact wpAny_pure hQ
        | (refine wpAny_bind (wpAny_load ho ?_)
           rw [hc,hd]
           show wpAny M A (if (["enumerate", "zip", "dict_itemiterator", "dict_reverseitemiterator", "odict_iterator", "itertools.zip_longest", "itertools.pairwise"].contains n && vs[0]? == some (rawInt _))=true then _ else _) Q E s
           rw [if_neg (by intro h; rw [hn,Bool.false_and] at h; cases h)]
           exact wpAny_pure hQ))
noncomputable def Itl (K:Frag) (a:Addr):It :=
 ⟨fun i H=>∃ xs x,SqL K H a xs∧xs[i]? = some x,fun i H x H'=>H'=H∧∀ xs,SqL K H a xs→xs[i]? = some x,fun i H=>∃ xs,SqL K H a xs∧xs.length≤i⟩
noncomputable def Itt (K:Frag) (a:Addr):It :=
 ⟨fun i H=>∃ xs x,SqT K H a xs∧xs[i]? = some x,fun i H x H'=>H'=H∧∀ xs,SqT K H a xs→xs[i]? = some x,fun i H=>∃ xs,SqT K H a xs∧xs.length≤i⟩
noncomputable def Itr (lo:Int) (n:Nat):It:=⟨fun i _=>i < n,fun i H x H'=>H'=H∧x=.int (lo+i),fun i _=>n≤i⟩
theorem z2v {P:Program} {w:World} {K:Frag} {tg:Expr} (a it:Addr):Turn P w K tg (Itl K a) [it] it (fun i h=>h.IsListIter it a i) where
 mem:=by simp
 obj:=fun i h st b hb=>by
  have e:b=it:=by simpa using hb
  subst e
  obtain⟨o,e,c,d⟩:=st
  exact⟨o,e,fun v z=>by rw [d] at z; cases z⟩
 keep:=fun i h h' st k=>st.at fun o e=>k it (by simp) o e
 item:=by
  intro X hP hw hK hc i pins s σ H E I hf st hg
  subst hP hw hK
  obtain⟨xs,x,hq,hx⟩:=hg
  obtain⟨its,rv,p,hz⟩:=I.list hq
  obtain⟨u,hu,ru⟩:=rv.get hx
  obtain⟨f0,f1,f2,f3,f4,f5⟩:=hf it (by simp)
  refine wpAny_pyNext_list_item st p.isList (x:=u) (by simpa using hu) fun h' st' sb=>?_
  have I1:Inv X pins σ H { s with heap:=h' }:=I.turned (t':=s.toks) (fun b o hb e=>(sb.2 b hb).trans e) f0 f1 f3 f4 f5
  obtain⟨o,e,c,d⟩:=id st'
  exact⟨u,rfl,j1k (s:={ s with heap:=h' }) e c d (by decide) ⟨x,H,I1,ru,⟨rfl,fun ys hy=>by rw [I.list_inj hy hq]; exact hx⟩,st',fun b hb=>(hf b hb).1⟩⟩
 done:=by
  intro X hP hw hK hc i pins s σ H E I hf st hg
  subst hP hw hK
  obtain⟨xs,hq,hx⟩:=hg
  obtain⟨its,rv,p,hz⟩:=I.list hq
  obtain⟨f0,f1,f2,f3,f4,f5⟩:=hf it (by simp)
  have hl:=rv.length
  exact wpAny_pyNext_list_end (I.ok.hd hc) st p.isList (by simp; omega) fun h' eb=>⟨rfl,I.turned (t':=s.toks) (fun b o hb e=>eb b o hb e) f0 f1 f3 f4 f5⟩
 self:=fun _ _ _ _ _ st h=>wpAny_pyIter_listiter st h
theorem z0j {P:Program} {w:World} {K:Frag} {tg:Expr} (a it:Addr):Turn P w K tg (Itt K a) [it] it (fun i h=>h.IsTupleIter it a i) where
 mem:=by simp
 obj:=fun i h st b hb=>by
  have e:b=it:=by simpa using hb
  subst e
  obtain⟨o,e,c,d⟩:=st
  exact⟨o,e,fun v z=>by rw [d] at z; cases z⟩
 keep:=fun i h h' st k=>st.at fun o e=>k it (by simp) o e
 item:=by
  intro X hP hw hK hc i pins s σ H E I hf st hg
  subst hP hw hK
  obtain⟨xs,x,hq,hx⟩:=hg
  obtain⟨its,rv,p,hz⟩:=I.tuple hq
  obtain⟨u,hu,ru⟩:=rv.get hx
  obtain⟨f0,f1,f2,f3,f4,f5⟩:=hf it (by simp)
  refine wpAny_pyNext_tuple_item st (show s.heap.IsTuple a its.toArray from p) (x:=u) (by simpa using hu) fun h' st' sb=>?_
  have I1:Inv X pins σ H { s with heap:=h' }:=I.turned (t':=s.toks) (fun b o hb e=>(sb.2 b hb).trans e) f0 f1 f3 f4 f5
  obtain⟨o,e,c,d⟩:=id st'
  exact⟨u,rfl,j1k (s:={ s with heap:=h' }) e c d (by decide) ⟨x,H,I1,ru,⟨rfl,fun ys hy=>by rw [I.tuple_inj hy hq]; exact hx⟩,st',fun b hb=>(hf b hb).1⟩⟩
 done:=by
  intro X hP hw hK hc i pins s σ H E I hf st hg
  subst hP hw hK
  obtain⟨xs,hq,hx⟩:=hg
  obtain⟨its,rv,p,hz⟩:=I.tuple hq
  obtain⟨f0,f1,f2,f3,f4,f5⟩:=hf it (by simp)
  have hl:=rv.length
  exact wpAny_pyNext_tuple_end (I.ok.hd hc) st (show s.heap.IsTuple a its.toArray from p) (by simp; omega) fun h' eb=>⟨rfl,I.turned (t':=s.toks) (fun b o hb e=>eb b o hb e) f0 f1 f3 f4 f5⟩
 self:=fun _ _ _ _ _ st h=>wpAny_pyIter_tupleiter st h
theorem z0n {P:Program} {w:World} {K:Frag} {tg:Expr} (it:Addr) (lo:Int) (n:Nat):Turn P w K tg (Itr lo n) [it] it (fun i h=>IsRangeIter h it (lo+(i:Nat)*1) ((n:Int) - (i:Nat)) 1) where
 mem:=by simp
 obj:=fun i h st b hb=>by
  have e:b=it:=by simpa using hb
  subst e
  exact⟨_,st,fun v z=>by
   have z':Data.fields _=Data.cell v:=z
   cases z'⟩
 keep:=fun i h h' st k=>k it (by simp) _ st
 item:=by
  intro X hP hw hK hc i pins s σ H E I hf st hg
  subst hP hw hK
  obtain⟨f0,f1,f2,f3,f4,f5⟩:=hf it (by simp)
  have W:=Walks.range (prog:=X.prog) (w:=X.w) (I.ok.hd hc) it lo 1 n
  refine W.item i s _ _ hg st fun v h' tk hv st' kk=>?_
  obtain⟨t,rfl⟩:=hv
  have I1:Inv X pins σ H { s with heap:=h',toks:=tk }:=I.turned (fun b o hb e=>kk b o (by simpa using hb) e) f0 f1 f3 f4 f5
  refine⟨_,rfl,j1k (s:={ s with heap:=h',toks:=tk }) (n := "range_iterator") st' rfl rfl (by decide) ⟨.int (lo+i),H,I1,⟨t,?_⟩,⟨rfl,rfl⟩,st',fun b hb=>(hf b hb).1⟩⟩
  rw [Int.mul_one]
 done:=by
  intro X hP hw hK hc i pins s σ H E I hf st hg
  subst hP hw hK
  obtain⟨f0,f1,f2,f3,f4,f5⟩:=hf it (by simp)
  exact wpAny_pyNext_range_end (I.ok.hd hc) st (by have:n≤i:=hg; omega) fun h' eb=>⟨rfl,I.turned (t':=s.toks) (fun b o hb e=>eb b o hb e) f0 f1 f3 f4 f5⟩
 self:=fun _ _ _ _ _ st h=>wpAny_pyIter_rangeiter st h
section
variable {X:Cx} {tg:Expr}
noncomputable def j6j (K:Frag) (tl:TE):TI:=fun σ H R=>tl σ H fun x H1=>∃ a,x=.ref a∧(∃ xs,SqL K H1 a xs)∧R (Itl K a) H1
noncomputable def j8p (K:Frag) (tl:TE):TI:=fun σ H R=>tl σ H fun x H1=>∃ a,x=.ref a∧(∃ xs,SqT K H1 a xs)∧R (Itt K a) H1
theorem x1y {l:Expr} {tl:TE} (hl:PE X l tl):PI X tg l (j6j X.K tl):=by
 intro pins s σ H R I h
 refine thn (hl pins s σ H _ I h) fun v s1 ⟨x,H1,I1,r1,q1⟩=>?_
 obtain⟨a,e,⟨xs,hq⟩,q⟩:=q1
 subst e
 cases r1
 obtain⟨its,rv,p,hz⟩:=I1.list hq
 refine wpAny_pyIter_list p.isList ?_
 refine⟨s1.heap.objs.size,[s1.heap.objs.size],_,_,H1,rfl,I1.kept (t':=s1.toks) fun b o e=>Heap.get?_push_of_some _ e,z2v a _,⟨_,Heap.get?_push_size _ rfl,rfl,rfl⟩,fun b hb=>?_,q⟩
 have e:b=s1.heap.objs.size:=by simpa using hb
 subst e
 exact I1.fpOk (Nat.le_refl _) (I1.hok.fresh (Nat.le_refl _))
theorem x2n {l:Expr} {tl:TE} (hl:PE X l tl):PI X tg l (j8p X.K tl):=by
 intro pins s σ H R I h
 refine thn (hl pins s σ H _ I h) fun v s1 ⟨x,H1,I1,r1,q1⟩=>?_
 obtain⟨a,e,⟨xs,hq⟩,q⟩:=q1
 subst e
 cases r1
 obtain⟨its,rv,p,hz⟩:=I1.tuple hq
 refine wpAny_pyIter_tuple (show s1.heap.IsTuple a its.toArray from p) ?_
 refine⟨s1.heap.objs.size,[s1.heap.objs.size],_,_,H1,rfl,I1.kept (t':=s1.toks) fun b o e=>Heap.get?_push_of_some _ e,z0j a _,⟨_,Heap.get?_push_size _ rfl,rfl,rfl⟩,fun b hb=>?_,q⟩
 have e:b=s1.heap.objs.size:=by simpa using hb
 subst e
 exact I1.fpOk (Nat.le_refl _) (I1.hok.fresh (Nat.le_refl _))
theorem z5y {pins:List (Addr × Obj)} {σ:St} {H:Hp} {s:Shared} {R:It→Hp→Prop} {E:Value→Shared→Prop} {lo hi:Int} {t u v:Tok} {tk:Nat} (I:Inv X pins σ H s) (h1 : -(2 ^ 62)≤lo) (h2:lo < 2 ^ 62) (h3 : -(2 ^ 62)≤hi) (h4:hi < 2 ^ 62)
  (q:R (Itr lo (hi - lo).toNat) H):wpAny (model X.prog X.w) X.A (pyIter (.ref s.heap.objs.size)) (PIE X pins σ tg R) E { s with heap:=s.heap.push { cls:=.type "range",data:=.fields #[.int lo t,.int hi u,.int 1 v] },toks:=tk }:=by
 refine wpAny_pyIter_range (IsRange.new ..) (small_one h1 h2 h3 h4) ?_
 have I1:Inv X pins σ H { s with heap:=s.heap.push { cls:=.type "range",data:=.fields #[.int lo t,.int hi u,.int 1 v] },toks:=tk }:=I.kept fun b o e=>Heap.get?_push_of_some _ e
 refine⟨(s.heap.push { cls:=.type "range",data:=.fields #[.int lo t,.int hi u,.int 1 v] }).objs.size,[(s.heap.push { cls:=.type "range",data:=.fields #[.int lo t,.int hi u,.int 1 v] }).objs.size],_,_,H,rfl,
  I1.kept (t':=tk) fun b o e=>Heap.get?_push_of_some _ e,z0n _ lo (hi - lo).toNat,?_,fun b hb=>?_,q⟩
 ·have e1:lo+((0:Nat):Int)*1=lo:=by simp
  have e2:(((hi - lo).toNat:Nat):Int) - ((0:Nat):Int)=Builtin.Range.rangeSize lo hi 1:=by rw [rangeSize_one]; split <;> omega
  show IsRangeIter _ _ (lo+((0:Nat):Int)*1) ((((hi - lo).toNat:Nat):Int) - ((0:Nat):Int)) 1
  rw [e1,e2]
  exact Heap.get?_push_size _ rfl
 ·have e:b=(s.heap.push { cls:=.type "range",data:=.fields #[.int lo t,.int hi u,.int 1 v] }).objs.size:=by simpa using hb
  subst e
  exact I1.fpOk (Nat.le_refl _) (I1.hok.fresh (Nat.le_refl _))
noncomputable def j6p (ta:TA):TI:=fun σ H R=>ta σ H fun vs H1=>∃ j:Int,vs=[.int j] ∧ -(2 ^ 62)≤j∧j < 2 ^ 62∧R (Itr 0 j.toNat) H1
theorem x1s {a:Expr} {ta:TA} {p pos:Pos} (hg:Gl X "range") (hm:X.mg "range" = none) (ha:PA X [a] ta) (hs:starEach [a] X.env=[(false,eval a X.env)]:=by rfl):PI X tg (.Call (.Name "range" p) [a] [] pos) (j6p ta):=by
 intro pins s σ H R I h
 refine Call_ (x7d I hg hm boot_range (PyProof.Rows.callWith_type1 (thn (ha pos pins s σ H _ I h) fun us s1 ⟨vs,H1,I1,r1,q1⟩=>?_) hs rfl))
 obtain⟨j,e,q1,q2,q⟩:=q1
 subst e
 cases r1 with
 | cons r rr =>
  cases rr
  obtain⟨t,rfl⟩:=r
  exact call_range_1 (z5y I1 (by omega) (by omega) q1 q2 (by simpa using q))
noncomputable def j7r (wi:TI) (g:TG) (tb:TS):TS:=fun D σ H=>wi σ H fun J H1=>∃ W:Nat→Nat→St→Hp→Prop,(∃ m,W 0 m σ H1)∧∀ i m σ H,W i m σ H →
 (J.stop i H∧D.nx σ H)∨(J.go i H∧∃ N:St→Hp→Prop,(∀ σ' H',N σ' H'→∃ m',m' < m∧W (i+1) m' σ' H')∧∀ x H',J.yld i H x H'→g x σ H' fun σ2 H2=>tb { D with nx:=N,ct:=N,bk:=D.nx } σ2 H2)
noncomputable def x3o (fp:List Addr) (h:Heap):List (Addr × Obj):=fp.filterMap fun b=>(h.get? b).map fun o=>(b,o)
theorem q4l {fp:List Addr} {h:Heap} {b:Addr} {o:Obj} (hb:b∈fp) (e:h.get? b=some o):(b,o)∈x3o fp h:=List.mem_filterMap.mpr ⟨b,hb,by rw [e]; rfl⟩
theorem z3r {fp:List Addr} {h:Heap} {p:Addr × Obj} (hp:p∈x3o fp h):p.1∈fp∧h.get? p.1=some p.2:=by
 obtain⟨b,hb,e⟩:=List.mem_filterMap.mp hp
 cases q:h.get? b with
 | none=>rw [q] at e; cases e
 | some o =>
  rw [q] at e
  have e':(b,o)=p:=Option.some.inj e
  subst e'
  exact⟨hb,q⟩
theorem Inv.pinned {pins:List (Addr × Obj)} {σ:St} {H:Hp} {s:Shared} {fp:List Addr} (I:Inv X pins σ H s) (hf:∀ b∈fp,z1v X pins H b) (ho:∀ b∈fp,∃ o,s.heap.get? b=some o∧∀ v,o.data≠.cell v):Inv X (pins++x3o fp s.heap) σ H s :=
 I.pins_of fun p hp=>(List.mem_append.mp hp).elim (fun z=>I.pin p (List.mem_append_right _ z)) fun z=>by
  obtain⟨hb,e⟩:=z3r z
  obtain⟨f0,f1,f2,_⟩:=hf p.1 hb
  obtain⟨o,e',d⟩:=ho p.1 hb
  rw [e] at e'; cases e'
  exact⟨e,f0,f1,f2,d⟩
theorem Inv.unpinned {pins pl:List (Addr × Obj)} {σ:St} {H:Hp} {s:Shared} (I:Inv X (pins++pl) σ H s):Inv X pins σ H s:=I.pins_of fun p hp=>I.pin p (List.mem_append_right _ (List.mem_append_left _ hp))
theorem q7x {iter:Expr} {body:List Stmt} {wi:TI} {g:TG} {tb:TS} {pos:Pos} (hp:PassesOwn (model X.prog X.w) X.A X.env X.xe) (hc:X.calm=true) (hi:PI X tg iter wi) (hg:PG X tg g) (hb:PSs X body tb)
  (hs:∀ x,foldedSetIterable iter X.env x=pure x:=by intro _; rfl):PS X (.For tg iter body [] pos) (j7r wi g tb):=by
 intro pins s σ H D I h
 refine wpAny_For (thn (hi pins s σ H _ I h) fun v s1 h1=>thn h1 fun itv s2 h2=>?_) hs
 obtain⟨it,fp,tn,J,H2,e,I2,T,st2,f2,W,⟨m0,w0⟩,turn⟩:=h2
 subst e
 have stat:∀ {H':Hp},(∀ b∈fp,H' b=none)→∀ b∈fp,z1v X pins H' b:=fun hn b hb=>⟨hn b hb,(f2 b hb).2⟩
 refine codeAny_forLoop_any (fun n s'=>∃ i σ' H',Inv X pins σ' H' s'∧tn i s'.heap∧(∀ b∈fp,H' b=none)∧W i n σ' H') ?_ m0 ⟨0,σ,H2,I2,st2,fun b hb=>(f2 b hb).1,w0⟩
 rintro n s3 ⟨i,σ3,H3,I3,st3,fr3,w3⟩
 rcases turn i n σ3 H3 w3 with ⟨stop,qn⟩ | ⟨go,N,hN,step⟩
 ·refine wpAny_passesOwn hp (thn (T.done X rfl rfl rfl hc i pins s3 σ3 H3 X.xe I3 (stat fr3) st3 stop) fun r s4 ⟨hr,I4⟩=>?_)
  subst hr
  exact wpAny_execs_nil ⟨σ3,H3,I4,qn⟩
 ·refine wpAny_passesOwn hp (thn (T.item X rfl rfl rfl hc i pins s3 σ3 H3 X.xe I3 (stat fr3) st3 go) fun r s4 ⟨u,hr,h4⟩=>?_)
  subst hr
  refine wpAny_passesOwn hp (thn h4 fun _ s5 ⟨x,H5,I5,r5,y5,st5,fr5⟩=>?_)
  have I5':=I5.pinned (stat fr5) (T.obj _ _ st5)
  refine wpAny_passesOwn hp (thn (hg _ s5 σ3 H5 x u _ I5' r5 (step x H5 y5)) fun _ s6 ⟨σ6,H6,I6,q6⟩=>?_)
  refine wpAny_passesOwn hp (thn (hb _ s6 σ6 H6 _ I6 q6) fun f s7 q7=>?_)
  have again:∀ {σ7:St} {H7:Hp},Inv X (pins++x3o fp s5.heap) σ7 H7 s7→N σ7 H7→∃ m,m < n∧∃ i σ' H',Inv X pins σ' H' s7∧tn i s7.heap∧(∀ b∈fp,H' b=none)∧W i m σ' H':=fun {σ7 H7} I7 n7=>by
   obtain⟨m',hm,w7⟩:=hN σ7 H7 n7
   refine⟨m',hm,i+1,σ7,H7,I7.unpinned,T.keep _ _ _ st5 fun b hb o e=>(I7.pin (b,o) (List.mem_append_right _ (List.mem_append_right _ (q4l hb e)))).1,fun b hb=>?_,w7⟩
   obtain⟨o,e,d⟩:=T.obj _ _ st5 b hb
   exact (I7.pin (b,o) (List.mem_append_right _ (List.mem_append_right _ (q4l hb e)))).2.1
  cases f with
  | next=>obtain⟨σ7,H7,I7,n7⟩:=q7; exact again I7 n7
  | cont=>obtain⟨σ7,H7,I7,n7⟩:=q7; exact again I7 n7
  | brk=>obtain⟨σ7,H7,I7,q7⟩:=q7; exact⟨σ7,H7,I7.unpinned,q7⟩
  | ret v=>obtain⟨x7,σ7,H7,I7,r7,q7⟩:=q7; exact⟨x7,σ7,H7,I7.unpinned,r7,q7⟩
end
theorem x4n {K:Frag} {a:Addr} {xs:List V} {g:TG} {tb:TS} {D:Ends} {σ:St} {H:Hp} (Pv:Nat→St→Hp→Prop) (h0:Pv 0 σ H) (hl:∀ i σ H,i≤xs.length→Pv i σ H→SqL K H a xs)
  (hs:∀ i x σ H,xs[i]? = some x→Pv i σ H→g x σ H fun σ2 H2=>tb { D with nx:=Pv (i+1),ct:=Pv (i+1),bk:=D.nx } σ2 H2) (hd:∀ σ H,Pv xs.length σ H→D.nx σ H) :
  ∃ W:Nat→Nat→St→Hp→Prop,(∃ m,W 0 m σ H)∧∀ i m σ H,W i m σ H →
   ((Itl K a).stop i H∧D.nx σ H)∨((Itl K a).go i H∧∃ N:St→Hp→Prop,(∀ σ' H',N σ' H'→∃ m',m' < m∧W (i+1) m' σ' H')∧∀ x H',(Itl K a).yld i H x H'→g x σ H' fun σ2 H2=>tb { D with nx:=N,ct:=N,bk:=D.nx } σ2 H2):=by
 refine⟨fun i m σ H=>m=xs.length - i∧i≤xs.length∧Pv i σ H,⟨xs.length,by simp,Nat.zero_le _,h0⟩,?_⟩
 rintro i m σ H ⟨rfl,hi,p⟩
 have q:=hl i σ H hi p
 by_cases hlt:i < xs.length
 ·refine .inr ⟨⟨xs,xs[i],q,by simp [hlt]⟩,Pv (i+1),fun σ' H' p'=>⟨xs.length - (i+1),by omega,rfl,hlt,p'⟩,fun x H' y=>?_⟩
  obtain⟨e,y⟩:=y
  subst e
  exact hs i x σ _ (y xs q) p
 ·have e:i=xs.length:=by omega
  subst e
  exact .inl ⟨⟨xs,q,Nat.le_refl _⟩,hd σ H p⟩
theorem z5t {K:Frag} {a:Addr} {xs:List V} {g:TG} {tb:TS} {D:Ends} {σ:St} {H:Hp} (Pv:Nat→St→Hp→Prop) (h0:Pv 0 σ H) (hl:∀ i σ H,i≤xs.length→Pv i σ H→SqT K H a xs)
  (hs:∀ i x σ H,xs[i]? = some x→Pv i σ H→g x σ H fun σ2 H2=>tb { D with nx:=Pv (i+1),ct:=Pv (i+1),bk:=D.nx } σ2 H2) (hd:∀ σ H,Pv xs.length σ H→D.nx σ H) :
  ∃ W:Nat→Nat→St→Hp→Prop,(∃ m,W 0 m σ H)∧∀ i m σ H,W i m σ H →
   ((Itt K a).stop i H∧D.nx σ H)∨((Itt K a).go i H∧∃ N:St→Hp→Prop,(∀ σ' H',N σ' H'→∃ m',m' < m∧W (i+1) m' σ' H')∧∀ x H',(Itt K a).yld i H x H'→g x σ H' fun σ2 H2=>tb { D with nx:=N,ct:=N,bk:=D.nx } σ2 H2):=by
 refine⟨fun i m σ H=>m=xs.length - i∧i≤xs.length∧Pv i σ H,⟨xs.length,by simp,Nat.zero_le _,h0⟩,?_⟩
 rintro i m σ H ⟨rfl,hi,p⟩
 have q:=hl i σ H hi p
 by_cases hlt:i < xs.length
 ·refine .inr ⟨⟨xs,xs[i],q,by simp [hlt]⟩,Pv (i+1),fun σ' H' p'=>⟨xs.length - (i+1),by omega,rfl,hlt,p'⟩,fun x H' y=>?_⟩
  obtain⟨e,y⟩:=y
  subst e
  exact hs i x σ _ (y xs q) p
 ·have e:i=xs.length:=by omega
  subst e
  exact .inl ⟨⟨xs,q,Nat.le_refl _⟩,hd σ H p⟩
theorem x2i {lo:Int} {n:Nat} {g:TG} {tb:TS} {D:Ends} {σ:St} {H:Hp} (Pv:Nat→St→Hp→Prop) (h0:Pv 0 σ H)
  (hs:∀ i σ H,i < n→Pv i σ H→g (.int (lo+i)) σ H fun σ2 H2=>tb { D with nx:=Pv (i+1),ct:=Pv (i+1),bk:=D.nx } σ2 H2) (hd:∀ σ H,Pv n σ H→D.nx σ H) :
  ∃ W:Nat→Nat→St→Hp→Prop,(∃ m,W 0 m σ H)∧∀ i m σ H,W i m σ H →
   ((Itr lo n).stop i H∧D.nx σ H)∨((Itr lo n).go i H∧∃ N:St→Hp→Prop,(∀ σ' H',N σ' H'→∃ m',m' < m∧W (i+1) m' σ' H')∧∀ x H',(Itr lo n).yld i H x H'→g x σ H' fun σ2 H2=>tb { D with nx:=N,ct:=N,bk:=D.nx } σ2 H2):=by
 refine⟨fun i m σ H=>m=n - i∧i≤n∧Pv i σ H,⟨n,by simp,Nat.zero_le _,h0⟩,?_⟩
 rintro i m σ H ⟨rfl,hi,p⟩
 by_cases hlt:i < n
 ·refine .inr ⟨hlt,Pv (i+1),fun σ' H' p'=>⟨n - (i+1),by omega,rfl,hlt,p'⟩,fun x H' y=>?_⟩
  obtain⟨e,y⟩:=y
  subst e y
  exact hs i σ _ hlt p
 ·have e:i=n:=by omega
  subst e
  exact .inl ⟨Nat.le_refl _,hd σ H p⟩
noncomputable abbrev R2:=V→V→Hp→VK→Prop
noncomputable def OpR (X:Cx) (f:Value→Value→Sem Value) (r:R2):Prop :=
 ∀ (pins:List (Addr × Obj)) (s:Shared) (σ:St) (H:Hp) (x y:V) (v u:Value) (Q:VK),Inv X pins σ H s→q3z x v→q3z y u→r x y H Q →
  wpAny (model X.prog X.w) X.A (f v u) (EP X pins σ Q) X.xe s
noncomputable def UnR (X:Cx) (f:Value→Sem Value) (r:V→Hp→VK→Prop):Prop :=
 ∀ (pins:List (Addr × Obj)) (s:Shared) (σ:St) (H:Hp) (x:V) (v:Value) (Q:VK),Inv X pins σ H s→q3z x v→r x H Q →
  wpAny (model X.prog X.w) X.A (f v) (EP X pins σ Q) X.xe s
noncomputable def x0l (X:Cx) (f:Value) (r:List V→Hp→VK→Prop):Prop :=
 ∀ (pins:List (Addr × Obj)) (s:Shared) (σ:St) (H:Hp) (xs:List V) (us:List Value) (Q:VK),Inv X pins σ H s→q2x xs us→r xs H Q →
  wpAny (model X.prog X.w) X.A (call f us) (EP X pins σ Q) X.xe s
noncomputable def tOp (r:R2) (ta tb:TE):TE:=fun σ H Q=>ta σ H fun x H1=>tb σ H1 fun y H2=>r x y H2 Q
noncomputable def tUn (r:V→Hp→VK→Prop) (ta:TE):TE:=fun σ H Q=>ta σ H fun x H1=>r x H1 Q
noncomputable def rI (C:Int→Int→Prop) (g:Int→Int→V):R2:=fun x y H Q=>∃ i j,x=.int i∧y=.int j∧C i j∧Q (g i j) H
noncomputable def rI0 (g:Int→Int→V):R2:=fun x y H Q=>∃ i j,x=.int i∧y=.int j∧Q (g i j) H
noncomputable def rU (g:Int→V):V→Hp→VK→Prop:=fun x H Q=>∃ i,x=.int i∧Q (g i) H
section
variable {X:Cx} {a b c:Expr} {ta tb tc:TE} {pos:Pos}
theorem j6f (ha:PE X a ta) (hb:PE X b tb) {pins:List (Addr × Obj)} {s:Shared} {σ:St} {H:Hp} {R:V→V→Hp→Prop} (I:Inv X pins σ H s)
  (h:ta σ H fun x H1=>tb σ H1 fun y H2=>R x y H2) {Q:Value→Shared→Prop} {f:Value→Value→Sem Value}
  (hf:∀ v u s2 x y H2,Inv X pins σ H2 s2→q3z x v→q3z y u→R x y H2→wpAny (model X.prog X.w) X.A (f v u) Q X.xe s2) :
  wpAny (model X.prog X.w) X.A (eval a X.env) (fun v s₁=>wpAny (model X.prog X.w) X.A (eval b X.env) (fun u s₂=>wpAny (model X.prog X.w) X.A (f v u) Q X.xe s₂) X.xe s₁) X.xe s:=by
 refine thn (ha pins s σ H _ I h) fun v s1 ⟨x,H1,I1,r1,q1⟩=>?_
 refine thn (hb pins s1 σ H1 _ I1 q1) fun u s2 ⟨y,H2,I2,r2,q2⟩=>?_
 exact hf v u s2 x y H2 I2 r1 r2 q2
theorem q0p {op:Operator} {r:R2} (ho:OpR X (binaryOp op) r) (ha:PE X a ta) (hb:PE X b tb):PE X (.BinOp a op b pos) (tOp r ta tb):=by
 intro pins s σ H Q I h
 exact wpAny_BinOp (j6f ha hb I h fun v u s2 x y H2 I2 rx ry q=>ho pins s2 σ H2 x y v u Q I2 rx ry q)
theorem j0g {op:UnaryOp} {r:V→Hp→VK→Prop} (ho:UnR X (unaryOp op) r) (ha:PE X a ta):PE X (.UnaryOp op a pos) (tUn r ta):=by
 intro pins s σ H Q I h
 exact UnaryOp_ (thn (ha pins s σ H _ I h) fun v s1 ⟨x,H1,I1,r1,q1⟩=>ho pins s1 σ H1 x v Q I1 r1 q1)
theorem opI {f:Value→Value→Sem Value} {C:Int→Int→Prop} {g:Int→Int→Int}
  (rule:∀ (i j:Int) (t u:Tok) (s:Shared) (Q:Value→Shared→Prop) (E:Value→Shared→Prop),C i j→Q (.int (g i j) s.toks) { s with toks:=s.toks+1 }→wpAny (model X.prog X.w) X.A (f (.int i t) (.int j u)) Q E s) :
  OpR X f (rI C fun i j=>.int (g i j)):=by
 intro pins s σ H x y v u Q I rx ry h
 obtain⟨i,j,rfl,rfl,hc,q⟩:=h
 obtain⟨t,rfl⟩:=rx
 obtain⟨t',rfl⟩:=ry
 exact rule i j t t' s _ _ hc ⟨.int (g i j),H,I.tok _,⟨_,rfl⟩,q⟩
theorem j7c {f:Value→Value→Sem Value} {g:Int→Int→Int}
  (rule:∀ (i j:Int) (t u:Tok) (s:Shared) (Q:Value→Shared→Prop) (E:Value→Shared→Prop),Q (.int (g i j) s.toks) { s with toks:=s.toks+1 }→wpAny (model X.prog X.w) X.A (f (.int i t) (.int j u)) Q E s) :
  OpR X f (rI0 fun i j=>.int (g i j)):=by
 intro pins s σ H x y v u Q I rx ry h
 obtain⟨i,j,rfl,rfl,q⟩:=h
 obtain⟨t,rfl⟩:=rx
 obtain⟨t',rfl⟩:=ry
 exact rule i j t t' s _ _ ⟨.int (g i j),H,I.tok _,⟨_,rfl⟩,q⟩
theorem j4r {f:Value→Value→Sem Value} {g:Int→Int→Bool}
  (rule:∀ (i j:Int) (t u:Tok) (s:Shared) (Q:Value→Shared→Prop) (E:Value→Shared→Prop),Q (.bool (g i j)) s→wpAny (model X.prog X.w) X.A (f (.int i t) (.int j u)) Q E s) :
  OpR X f (rI0 fun i j=>.bl (g i j)):=by
 intro pins s σ H x y v u Q I rx ry h
 obtain⟨i,j,rfl,rfl,q⟩:=h
 obtain⟨t,rfl⟩:=rx
 obtain⟨t',rfl⟩:=ry
 exact rule i j t t' s _ _ ⟨.bl (g i j),H,I,rfl,q⟩
noncomputable def j7w (i j:Int):Prop:=0 < j∧j < 1073741824
noncomputable def j9h (i j:Int):Prop:=0≤j∧j≤1000000∧i.natAbs < 2 ^ 64
noncomputable def j5w (i j:Int):Prop:=(-(2 ^ 64) < i∧i < 2 ^ 64)∨(-(2 ^ 64) < j∧j < 2 ^ 64)
theorem j5w.ok {i j:Int} (h:j5w i j):IntMulOk i j:=by
 rcases h with ⟨h1,h2⟩ | ⟨h1,h2⟩
 ·exact .of_left (intBits_le_64 h1 h2)
 ·exact .of_right (intBits_le_64 h1 h2)
theorem q4f:OpR X (binaryOp .Add) (rI0 fun i j=>.int (i+j)):=j7c fun _ _ _ _ _ _ _ q=>add_int q
theorem q8a:OpR X (binaryOp .Sub) (rI0 fun i j=>.int (i - j)):=j7c fun _ _ _ _ _ _ _ q=>sub_int q
theorem x3a:OpR X (binaryOp .Mult) (rI j5w fun i j=>.int (i*j)):=opI fun _ _ _ _ _ _ _ hc q=>mul_int q hc.ok
theorem q2e:OpR X (binaryOp .FloorDiv) (rI j7w fun i j=>.int (i / j)):=opI fun i j _ _ _ _ _ hc q=>by
 have h1:(0:Int) < j:=hc.1
 have h2:j < 1073741824:=hc.2
 exact floordiv_int (by omega) (by rw [Int.fdiv_eq_ediv_of_nonneg i (by omega)]; exact q) (.inl (PyProof.noPylong_small (by omega)))
theorem q1u:OpR X (binaryOp .Mod) (rI (fun _ j=>0 < j) fun i j=>.int (i % j)):=opI fun i j _ _ _ _ _ hc q=>by
 have h1:(0:Int) < j:=hc
 exact mod_int' (by omega) (by rw [Int.fmod_eq_emod_of_nonneg i (by omega)]; exact q)
theorem x5x:OpR X (binaryOp .Pow) (rI j9h fun i j=>.int (i ^ j.toNat)):=opI fun _ _ _ _ _ _ _ hc q=>pow_int_small hc.1 hc.2.1 hc.2.2 q
theorem unI {f:Value→Sem Value} {g:Int→Int}
  (rule:∀ (i:Int) (t:Tok) (s:Shared) (Q:Value→Shared→Prop) (E:Value→Shared→Prop),Q (.int (g i) s.toks) { s with toks:=s.toks+1 }→wpAny (model X.prog X.w) X.A (f (.int i t)) Q E s) :
  UnR X f (rU fun i=>.int (g i)):=by
 intro pins s σ H x v Q I rx h
 obtain⟨i,rfl,q⟩:=h
 obtain⟨t,rfl⟩:=rx
 exact rule i t s _ _ ⟨.int (g i),H,I.tok _,⟨_,rfl⟩,q⟩
theorem z3f:UnR X (unaryOp .USub) (rU fun i=>.int (-i)):=unI fun _ _ _ _ _ q=>neg_int q
end
noncomputable def j7k:V→V→Bool
 | .non,.non=>true | .non,.int _=>true | .int _,.non=>true | .non,.bl _=>true | .bl _,.non=>true | .non,.str _=>true | .str _,.non=>true
 | .int _,.int _=>true | .bl _,.bl _=>true | .str _,.str _=>true | .byt _,.byt _=>true
 | .int _,.str _=>true | .str _,.int _=>true | .bl _,.str _=>true | .str _,.bl _=>true
 | _,_=>false
noncomputable def rEq:R2:=fun x y H Q=>j7k x y=true∧Q (.bl (decide (x=y))) H
noncomputable def rNe:R2:=fun x y H Q=>j7k x y=true∧Q (.bl (!decide (x=y))) H
theorem z3y {i j:Int}:decide (V.int i=V.int j)=(i==j):=by
 rw [Bool.eq_iff_iff]
 simp
theorem z8v {i j:Bool}:decide (V.bl i=V.bl j)=(i==j):=by
 rw [Bool.eq_iff_iff]
 simp
theorem z4u {i j:Str}:decide (V.str i=V.str j)=(i==j):=by
 rw [Bool.eq_iff_iff]
 simp
theorem z5a {i j:Array UInt8}:decide (V.byt i=V.byt j)=(i.toList==j.toList):=by
 rw [Bool.eq_iff_iff]
 cases i
 cases j
 simp
section
variable {X:Cx} {a b c:Expr} {ta tb tc:TE} {pos:Pos}
theorem q1y {pins:List (Addr × Obj)} {σ:St} {H:Hp} {s:Shared} {Q:VK} {k k':Bool} (I:Inv X pins σ H s) (q:Q (.bl k) H) (e:k=k'):EP X pins σ Q (.bool k') s:=by
 subst e
 exact⟨.bl k,H,I,rfl,q⟩
theorem q1s:OpR X (compareOp .Eq) rEq:=by
 intro pins s σ H x y v u Q I rx ry h
 obtain⟨hs,q⟩:=h
 cases x with
 | non =>
  cases rx
  cases y with
  | non=>cases ry; exact PySem.EqNone.eq_none_none (q1y I q (by simp))
  | bl j=>cases ry; exact PySem.EqNone.eq_none_bool (q1y I q (by simp))
  | int j=>obtain⟨t',rfl⟩:=ry; exact PySem.EqNone.eq_none_int (q1y I q (by simp))
  | str j=>obtain⟨t',rfl⟩:=ry; exact PySem.EqNone.eq_none_str (q1y I q (by simp))
  | _=>exact absurd (show false=true from hs) Bool.false_ne_true
 | bl i =>
  cases rx
  cases y with
  | non=>cases ry; exact PySem.EqNone.eq_bool_none (q1y I q (by simp))
  | bl j=>cases ry; exact eq_bool (q1y I q z8v)
  | str j=>obtain⟨t',rfl⟩:=ry; exact PySem.EqMixed.eq_bool_str (q1y I q (by simp))
  | _=>exact absurd (show false=true from hs) Bool.false_ne_true
 | int i =>
  obtain⟨t,rfl⟩:=rx
  cases y with
  | non=>cases ry; exact PySem.EqNone.eq_int_none (q1y I q (by simp))
  | int j=>obtain⟨t',rfl⟩:=ry; exact eq_int (q1y I q z3y)
  | str j=>obtain⟨t',rfl⟩:=ry; exact PySem.EqMixed.eq_int_str (q1y I q (by simp))
  | _=>exact absurd (show false=true from hs) Bool.false_ne_true
 | str i =>
  obtain⟨t,rfl⟩:=rx
  cases y with
  | non=>cases ry; exact PySem.EqNone.eq_str_none (q1y I q (by simp))
  | bl j=>cases ry; exact PySem.EqMixed.eq_str_bool (q1y I q (by simp))
  | int j=>obtain⟨t',rfl⟩:=ry; exact PySem.EqMixed.eq_str_int (q1y I q (by simp))
  | str j=>obtain⟨t',rfl⟩:=ry; exact eq_str (q1y I q z4u)
  | _=>exact absurd (show false=true from hs) Bool.false_ne_true
 | byt i =>
  obtain⟨t,rfl⟩:=rx
  cases y with
  | byt j=>obtain⟨t',rfl⟩:=ry; exact PySem.W.eq_bytes (q1y I q z5a)
  | _=>exact absurd (show false=true from hs) Bool.false_ne_true
 | _=>cases y <;> exact absurd (show false=true from hs) Bool.false_ne_true
theorem x5t:OpR X (compareOp .NotEq) rNe:=by
 intro pins s σ H x y v u Q I rx ry h
 obtain⟨hs,q⟩:=h
 cases x with
 | non =>
  cases rx
  cases y with
  | non=>cases ry; exact PySem.EqNone.ne_none_none (q1y I q (by simp))
  | bl j=>cases ry; exact PySem.EqNone.ne_none_bool (q1y I q (by simp))
  | int j=>obtain⟨t',rfl⟩:=ry; exact PySem.EqNone.ne_none_int (q1y I q (by simp))
  | str j=>obtain⟨t',rfl⟩:=ry; exact PySem.EqNone.ne_none_str (q1y I q (by simp))
  | _=>exact absurd (show false=true from hs) Bool.false_ne_true
 | bl i =>
  cases rx
  cases y with
  | non=>cases ry; exact PySem.EqNone.ne_bool_none (q1y I q (by simp))
  | bl j=>cases ry; exact ne_bool (q1y I q (congrArg not z8v))
  | str j=>obtain⟨t',rfl⟩:=ry; exact PySem.EqMixed.ne_bool_str (q1y I q (by simp))
  | _=>exact absurd (show false=true from hs) Bool.false_ne_true
 | int i =>
  obtain⟨t,rfl⟩:=rx
  cases y with
  | non=>cases ry; exact PySem.EqNone.ne_int_none (q1y I q (by simp))
  | int j=>obtain⟨t',rfl⟩:=ry; exact ne_int (q1y I q (congrArg not z3y))
  | str j=>obtain⟨t',rfl⟩:=ry; exact PySem.EqMixed.ne_int_str (q1y I q (by simp))
  | _=>exact absurd (show false=true from hs) Bool.false_ne_true
 | str i =>
  obtain⟨t,rfl⟩:=rx
  cases y with
  | non=>cases ry; exact PySem.EqNone.ne_str_none (q1y I q (by simp))
  | bl j=>cases ry; exact PySem.EqMixed.ne_str_bool (q1y I q (by simp))
  | int j=>obtain⟨t',rfl⟩:=ry; exact PySem.EqMixed.ne_str_int (q1y I q (by simp))
  | str j=>obtain⟨t',rfl⟩:=ry; exact ne_str (q1y I q (congrArg not z4u))
  | _=>exact absurd (show false=true from hs) Bool.false_ne_true
 | byt i =>
  obtain⟨t,rfl⟩:=rx
  cases y with
  | byt j=>obtain⟨t',rfl⟩:=ry; exact PySem.W.ne_bytes (q1y I q (congrArg not z5a))
  | _=>exact absurd (show false=true from hs) Bool.false_ne_true
 | _=>cases y <;> exact absurd (show false=true from hs) Bool.false_ne_true
theorem x2p:OpR X (compareOp .Lt) (rI0 fun i j=>.bl (decide (i < j))):=j4r fun _ _ _ _ _ _ _ q=>lt_int q
theorem x0n:OpR X (compareOp .LtE) (rI0 fun i j=>.bl (decide (i≤j))):=j4r fun _ _ _ _ _ _ _ q=>le_int q
theorem z0i:OpR X (compareOp .Gt) (rI0 fun i j=>.bl (decide (j < i))):=j4r fun _ _ _ _ _ _ _ q=>gt_int q
theorem j1w:OpR X (compareOp .GtE) (rI0 fun i j=>.bl (decide (j≤i))):=j4r fun _ _ _ _ _ _ _ q=>ge_int q
theorem q6s:OpR X (compareOp .Is) (fun x y H Q=>y=.non∧Q (.bl (decide (x=.non))) H):=by
 intro pins s σ H x y v u Q I rx ry h
 obtain⟨rfl,q⟩:=h
 cases ry
 refine is_none_gen (q1y I q ?_)
 cases x <;> first
  | (cases rx; rfl)
  | (obtain⟨t,rfl⟩:=rx; rfl)
theorem q9z:OpR X (compareOp .IsNot) (fun x y H Q=>y=.non∧Q (.bl (!decide (x=.non))) H):=by
 intro pins s σ H x y v u Q I rx ry h
 obtain⟨rfl,q⟩:=h
 cases ry
 refine isnot_none_gen (q1y I q ?_)
 cases x <;> first
  | (cases rx; rfl)
  | (obtain⟨t,rfl⟩:=rx; rfl)
theorem x0k:OpR X (compareOp .NotIn) (fun x y H Q=>∃ i j,x=.str i∧y=.str j∧Q (.bl (!(!(Builtin.Str.occurrences j i 0 j.length 1).isEmpty))) H):=by
 intro pins s σ H x y v u Q I rx ry h
 obtain⟨i,j,rfl,rfl,q⟩:=h
 obtain⟨t,rfl⟩:=rx
 obtain⟨t',rfl⟩:=ry
 exact notIn_str (q1y I q rfl)
theorem q0i (b:Expr) {op:CmpOp} (h:op≠.In:=by decide) (h2:op≠.NotIn:=by decide):behindInMarks op b=false:=by
 have e1:(op==CmpOp.In)=false:=by cases op <;> first | rfl | exact absurd rfl h
 have e2:(op==CmpOp.NotIn)=false:=by cases op <;> first | rfl | exact absurd rfl h2
 cases b <;> simp [behindInMarks,e1,e2]
theorem q5k {op:CmpOp} {r:R2} (ho:OpR X (compareOp op) r) (ha:PE X a ta) (hb:PE X b tb) (hm:behindInMarks op b=false):PE X (.Compare a [op] [b] pos) (tOp r ta tb):=by
 intro pins s σ H Q I h
 exact wpAny_Compare1 (j6f ha hb I h fun v u s2 x y H2 I2 rx ry q=>ho pins s2 σ H2 x y v u Q I2 rx ry q) hm
noncomputable def j4e (t:TE):TT:=fun σ H Q=>t σ H fun x H'=>∃ k,x=.bl k∧Q k H'
theorem q0f {op:CmpOp} {r:R2} (ho:OpR X (compareOp op) r) (ha:PE X a ta) (hb:PE X b tb) (hm:behindInMarks op b=false):PT X (.Compare a [op] [b] pos) (j4e (tOp r ta tb)):=by
 intro pins s σ H Q I h
 refine wpAny_isTrue_Compare1 (thn (ha pins s σ H _ I h) fun v s1 ⟨x,H1,I1,r1,q1⟩=>thn (hb pins s1 σ H1 _ I1 q1) fun u s2 ⟨y,H2,I2,r2,q2⟩ =>
  thn (ho pins s2 σ H2 x y v u _ I2 r1 r2 q2) fun c s3 ⟨z,H3,I3,r3,k,e,q3⟩=>?_) hm
 subst e
 cases r3
 exact wpAny_truthy_bool ⟨H3,I3,q3⟩
noncomputable def z8y (r r':R2) (ta tb tc:TE):TE:=fun σ H Q=>ta σ H fun x H1=>tb σ H1 fun y H2=>r x y H2 fun z H3=>∃ k,z=.bl k ∧
 (if k=true then tc σ H3 fun w' H4=>r' y w' H4 Q else Q (.bl false) H3)
theorem q7o {op op':CmpOp} {r r':R2} (ho:OpR X (compareOp op) r) (ho':OpR X (compareOp op') r') (ha:PE X a ta) (hb:PE X b tb) (hc:PE X c tc)
  (hm:lastMarks [op,op'] [b,c]=false:=by with_unfolding_all rfl):PE X (.Compare a [op,op'] [b,c] pos) (z8y r r' ta tb tc):=by
 intro pins s σ H Q I h
 refine Compare_chain (thn (ha pins s σ H _ I h) fun v s1 ⟨x,H1,I1,r1,q1⟩=>chain_link (thn (hb pins s1 σ H1 _ I1 q1) fun u s2 ⟨y,H2,I2,r2,q2⟩ =>
  thn (ho pins s2 σ H2 x y v u _ I2 r1 r2 q2) fun d s3 ⟨z,H3,I3,r3,k,e,q3⟩=>?_)) hm
 subst e
 cases r3
 refine wpAny_truthy_bool ?_
 cases k with
 | false=>exact ite_ff ⟨.bl false,H3,I3,rfl,q3⟩
 | true=>exact ite_tt (chain_last (thn (hc pins s3 σ H3 _ I3 q3) fun w' s4 ⟨z',H4,I4,r4,q4⟩=>ho' pins s4 σ H4 y z' u w' Q I4 r2 r4 q4))
theorem z7m {op op':CmpOp} {r r':R2} (ho:OpR X (compareOp op) r) (ho':OpR X (compareOp op') r') (ha:PE X a ta) (hb:PE X b tb) (hc:PE X c tc)
  (hm:lastMarks [op,op'] [b,c]=false:=by with_unfolding_all rfl):PT X (.Compare a [op,op'] [b,c] pos) (j4e (z8y r r' ta tb tc)):=by
 intro pins s σ H Q I h
 refine isTrue_chain (thn (ha pins s σ H _ I h) fun v s1 ⟨x,H1,I1,r1,q1⟩=>test_link (thn (hb pins s1 σ H1 _ I1 q1) fun u s2 ⟨y,H2,I2,r2,q2⟩ =>
  thn (ho pins s2 σ H2 x y v u _ I2 r1 r2 q2) fun d s3 ⟨z,H3,I3,r3,k,e,q3⟩=>?_)) hm
 subst e
 cases r3
 refine wpAny_truthy_bool ?_
 cases k with
 | false =>
  obtain⟨k',e',q'⟩:=q3
  cases e'
  exact ite_ff ⟨H3,I3,q'⟩
 | true =>
  refine ite_tt (test_last (thn (hc pins s3 σ H3 _ I3 q3) fun w' s4 ⟨z',H4,I4,r4,q4⟩=>thn (ho' pins s4 σ H4 y z' u w' _ I4 r2 r4 q4) fun d' s5 ⟨z2,H5,I5,r5,k2,e2,q5⟩=>?_))
  subst e2
  cases r5
  exact wpAny_truthy_bool ⟨H5,I5,q5⟩
theorem x6r:(sizeLine:Nat) < 2 ^ 63:=by rw [sizeLine_eq]; decide
theorem q0z:OpR X (binaryOp .Add) (fun x y H Q=>∃ i j,x=.str i∧y=.str j∧i.length+j.length≤sizeLine∧Q (.str (i++j)) H):=by
 intro pins s σ H x y v u Q I rx ry h
 obtain⟨i,j,rfl,rfl,hz,q⟩:=h
 obtain⟨t,rfl⟩:=rx
 obtain⟨t',rfl⟩:=ry
 exact add_str (fun t' tk=>⟨.str (i++j),H,I.tok _,⟨_,rfl⟩,q⟩) hz
theorem x0q {x:V} {us:List Value} (r:q2x [x] us):∃ u,us=[u]∧q3z x u:=by
 cases r with
 | cons r1 r2=>cases r2; exact⟨_,rfl,r1⟩
theorem z5m {x y:V} {us:List Value} (r:q2x [x,y] us):∃ u w',us=[u,w']∧q3z x u∧q3z y w':=by
 cases r with
 | cons r1 r2 =>
  cases r2 with
  | cons r3 r4=>cases r4; exact⟨_,_,rfl,r1,r3⟩
theorem q5c:x0l X (.type "str") (fun xs H Q=>∃ i,xs=[.int i]∧i.natAbs.log2 < 1920∧Q (.str (toString i)) H):=by
 intro pins s σ H xs us Q I r h
 obtain⟨i,rfl,hz,q⟩:=h
 obtain⟨u,rfl,t,rfl⟩:=x0q r
 exact PySem.P.str_of_int hz ⟨.str _,H,I.tok _,⟨_,rfl⟩,q⟩
end
structure ObjM (h:Heap) (x dx C:Addr) (mA:Str→Option Value):Prop where
 obj:h.get? x=some (instObj C dx)
 ns:h.Ns1 dx mA
 ne:dx≠x
theorem z5f {h:Heap} {dx:Addr} {mA:Str→Option Value} (n:h.Ns1 dx mA):∃ od,h.get? dx=some od∧∀ name,PySem.W.lookIn name od=some (mA name):=by
 obtain⟨o,es,ep,ho,hd,hk,_,hm⟩:=n
 refine⟨o,ho,fun name=>?_⟩
 have e:=hm name
 unfold nsFind findBy at e
 rw [← Array.find?_toList] at e
 unfold PySem.W.lookIn
 rw [hd]
 dsimp only
 split
 ·rename_i y q
  rw [q] at e
  exact congrArg some e
 ·rename_i q
  rw [q] at e
  have a:es.toList.any (·.refKey)=false:=by
   rw [List.any_eq_false]
   intro y hy
   obtain⟨z,t,hkey⟩:=hk y (Array.mem_toList_iff.mp hy)
   simp [DictEntry.refKey,hkey]
  have a':¬ es.toList.any (·.refKey)=true:=by rw [a]; exact Bool.false_ne_true
  rw [if_neg a']
  exact congrArg some e
theorem ObjM.look {h:Heap} {x dx C:Addr} {mA:Str→Option Value} (I:ObjM h x dx C mA):∃ od,PySem.W.InstAt h x (instObj C dx) C (some od)∧∀ name,PySem.W.lookIn name od=some (mA name) :=
 let ⟨od,ho,hl⟩:=z5f I.ns
 ⟨od,⟨I.obj,rfl,rfl,ho⟩,hl⟩
section
variable {prog:Program} {w:World} {A:Around} {E:Value→Shared→Prop} {s:Shared} {K:Frag} {x dx C f:Addr} {mA:Str→Option Value} {name:Str} {v:Value}
theorem j0s {expr:Bool} {Q:Value→Shared→Prop} (X:K.In s.heap) (I:ObjM s.heap x dx C mA) (hg:PySem.W.plainGet K C name=true) (hh:PySem.W.hasDictIn K C=true)
  (ha:findIn K (.ref C) name=some none) (hv:mA name=some v) (hv':PySem.W.handedIn v=true) (h:Q v { s with toks:=s.toks+1 }) :
  wpAny (model prog w) A (getAttr (.ref x) name expr) Q E s:=by
 obtain⟨od,J,hl⟩:=I.look
 exact PySem.W.get_value X J (PySem.W.plainGet_of hg).1 (PySem.W.findObj_own hh ha rfl (by rw [hl,hv])) hv' h
theorem z8g {pl:Sem Bool} {Q:Value × List Value→Shared→Prop} (X:K.In s.heap) (I:ObjM s.heap x dx C mA) (hg:PySem.W.plainGet K C name=true)
  (hf:findIn K (.ref C) name=some (some (.ref f))) (ht:PySem.W.isFn K (.ref f)=true) (hv:mA name=none) (h:Q (.ref f,[.ref x]) s) :
  wpAny (model prog w) A (getMethod (.ref x) name pl) Q E s:=by
 obtain⟨od,J,hl⟩:=I.look
 exact PySem.W.method_fn X J (PySem.W.plainGet_of hg).1 (PySem.W.plainGet_of hg).2 hf (beq_iff_eq.mp ht) (by show (PySem.W.lookIn name od).map (·.isSome)=some false; rw [hl,hv]; rfl) h
theorem j0f {ns:List Str} {Q:Unit→Shared→Prop} (X:K.In s.heap) (I:ObjM s.heap x dx C mA)
  (hs:findIn K (.ref C) "__setattr__" = some (some (.builtin "object.__setattr__"))) (hp:PySem.W.plainOver K C=true) (ht:PySem.W.takerIn K C name=some none) (hh:PySem.W.hasDictIn K C=true)
  (hw:PySem.Within mA ns) (hsz:ns.length≤sizeLine)
  (h:∀ h',ObjM h' x dx C (fun y=>if y=name then some v else mA y)→Heap.SameBut dx s.heap h'→Q () { s with heap:=h',toks:=s.toks+2 }) :
  wpAny (model prog w) A (setAttr (.ref x) name v) Q E s:=by
 obtain⟨od,J,hl⟩:=I.look
 refine PySem.W.set_plain X J hs (PySem.W.osa_open (s:={ s with toks:=s.toks+1 }) (r:=none) X J hp ht fun b=>?_)
 obtain⟨cd,hc,hd'⟩:=PySem.W.any_some hh
 have hx:s.heap.get? x=some ⟨.ref C,some dx,.plain,#[]⟩:=I.obj
 refine wpAny_bind (wpAny_pure (wpAny_bind (wpAny_bind (wpAny_loadPart hx (wpAny_bind (PySem.W.Looks.here (s:={ s with toks:=s.toks+1 }) (PySem.W.looks_clsIn X hc) ?_))))))
 rw [hd']
 refine wpAny_pure (a:=some dx) (wpAny_bind (wpAny_pure (wpAny_bind ?_)))
 refine wpAny_nsSet1 (s:={ s with toks:=s.toks+1 }) I.ns fun h' hn2 hs2=>?_
 obtain⟨oD,esD,epD,hoD,hdD,hcD⟩:=hn2.count (PySem.Within.cons name v hw)
 refine wpAny_bind (wpAny_lookBehind hoD (by rw [hdD]; exact pastItsLine_dict (Nat.le_trans hcD (by rw [List.length_cons]; omega))) ?_)
 exact wpAny_pure (h _ ⟨(hs2.2 _ (Ne.symm I.ne)).trans I.obj,hn2,I.ne⟩ hs2)
theorem z6c {R:Result→Shared→Prop} {vs:List Value} {kw:List (Str × Value)} (X:K.In s.heap) (hm:PySem.W.makesIn K C=true)
  (hi:findIn K (.ref C) "__init__" = some (some (.ref f))) (hf:PySem.W.typeIn K (.ref f)=some (.type "function"))
  (h:codeAny (model prog w) (A.under (.builtin "type.__call__" ⟨.ref C::vs,kw⟩)) (.call (.ref f) ⟨.ref (s.heap.objs.size+1)::vs,kw⟩) (PySem.W.InitBack (s.heap.objs.size+1) R)
   { s with heap:=(s.heap.push emptyDict).push (instObj C s.heap.objs.size) }) :
  codeAny (model prog w) A (.call (.ref C) ⟨vs,kw⟩) R s:=by
 obtain⟨hh,g,d,t,os⟩:=s
 exact PySem.W.make_core (PySem.W.makes_of X hm) (PySem.W.looks_findIn X hi) (fun self=>PySem.W.bind_fn X self hf) (.inl rfl) h
end
noncomputable def x7j (f:Str) (v:V):List (Str × V)→List (Str × V)
 | []=>[(f,v)]
 | (g,x)::r=>if g=f then (g,v)::r else (g,x)::x7j f v r
theorem x1p (f g:Str) (v:V):∀ fs:List (Str × V),(x7j f v fs).lookup g=if g=f then some v else fs.lookup g
 | []=>by
  show List.lookup g [(f,v)]=_
  by_cases h:g=f
  ·have hb:(g==f)=true:=beq_iff_eq.mpr h
   simp only [List.lookup,hb,if_pos h]
  ·have hb:(g==f)=false:=beq_eq_false_iff_ne.mpr h
   simp only [List.lookup,hb,if_neg h]
 | (k,x)::r=>by
  have ih:=x1p f g v r
  rw [show x7j f v ((k,x)::r)=(if k=f then (k,v)::r else (k,x)::x7j f v r) from rfl]
  by_cases hk:k=f
  ·rw [if_pos hk]
   by_cases h:g=k
   ·have hb:(g==k)=true:=beq_iff_eq.mpr h
    simp only [List.lookup,hb,if_pos (h.trans hk)]
   ·have hb:(g==k)=false:=beq_eq_false_iff_ne.mpr h
    simp only [List.lookup,hb,if_neg (fun e:g=f=>h (e.trans hk.symm))]
  ·rw [if_neg hk]
   by_cases h:g=k
   ·have hb:(g==k)=true:=beq_iff_eq.mpr h
    simp only [List.lookup,hb,if_neg (fun e:g=f=>hk (h.symm.trans e))]
   ·have hb:(g==k)=false:=beq_eq_false_iff_ne.mpr h
    simp only [List.lookup,hb]
    exact ih
theorem x1z (f:Str) (v:V):∀ fs:List (Str × V),f∈(x7j f v fs).map (·.1)∧∀ g,g∈fs.map (·.1)→g∈(x7j f v fs).map (·.1)
 | []=>⟨by simp [x7j],fun g h=>by simp at h⟩
 | (k,x)::r=>by
  obtain⟨i1,i2⟩:=x1z f v r
  rw [show x7j f v ((k,x)::r)=(if k=f then (k,v)::r else (k,x)::x7j f v r) from rfl]
  by_cases hk:k=f
  ·rw [if_pos hk]
   subst hk
   exact⟨by simp,fun g h=>by simpa using h⟩
  ·rw [if_neg hk]
   refine⟨?_,fun g h=>?_⟩
   ·rw [List.map_cons]
    exact List.mem_cons_of_mem _ i1
   ·rw [List.map_cons] at h ⊢
    rcases List.mem_cons.mp h with e | e
    ·exact List.mem_cons.mpr (.inl e)
    ·exact List.mem_cons_of_mem _ (i2 g e)
theorem x2f (f:Str) (v:V):∀ fs:List (Str × V),(x7j f v fs).length≤fs.length+1
 | []=>by simp [x7j]
 | (k,x)::r=>by
  have ih:=x2f f v r
  rw [show x7j f v ((k,x)::r)=(if k=f then (k,v)::r else (k,x)::x7j f v r) from rfl]
  by_cases hk:k=f
  ·rw [if_pos hk,List.length_cons,List.length_cons]; omega
  ·rw [if_neg hk,List.length_cons,List.length_cons]; omega
theorem z5u.some_of {v:V} {o:Option Value} (r:z5u (some v) o):∃ u,o=some u∧q3z v u:=by
 cases o with
 | none=>exact (show False from r).elim
 | some u=>exact⟨u,rfl,r⟩
theorem z5u.none_of {o:Option Value} (r:z5u none o):o=none:=by
 cases o with
 | none=>rfl
 | some u=>exact (show False from r).elim
theorem z5p {v:V} {u:Value} (r:q3z v u):PySem.W.handedIn u=true:=by
 cases v with
 | non=>cases (show u=Value.none from r); rfl
 | bl b=>cases (show u=Value.bool b from r); rfl
 | int i=>obtain⟨t,e⟩:=(show ∃ t,u=Value.int i t from r); cases e; rfl
 | str x=>obtain⟨t,e⟩:=(show ∃ t,u=Value.str x t from r); cases e; rfl
 | byt b=>obtain⟨t,e⟩:=(show ∃ t,u=Value.bytes b t from r); cases e; rfl
 | flt b=>obtain⟨t,e⟩:=(show ∃ t,u=Value.float b t from r); cases e; rfl
 | ref a=>cases (show u=Value.ref a from r); rfl
 | ty n=>cases (show u=Value.type n from r); rfl
section
variable {P:Program} {w:World} {H H':Hp} {h h':Heap} {a C dx:Addr} {fs fs':List (Str × V)}
theorem x5l (hok:HOk P w H h) (e:H a=some (.ins C dx fs)):∃ mA,ObjM h a dx C mA∧(∀ f,z5u (fs.lookup f) (mA f))∧PySem.Within mA (fs.map (·.1))∧fs.length≤1000∧H dx=some (.own a):=by
 obtain⟨d,z,ne,ob,mA,n,r,q⟩:=(show q4n P w H h a (.ins C dx fs) from hok a _ e)
 exact⟨mA,⟨ob,n,ne⟩,r,q,z,d⟩
end
structure Cls (K:Frag) (C:Addr):Prop where
 pg:PySem.W.plainGet K C Str.empty=true
 hd:PySem.W.hasDictIn K C=true
 po:PySem.W.plainOver K C=true
 sa:findIn K (.ref C) "__setattr__" = some (some (.builtin "object.__setattr__"))
theorem Cls.get {K:Frag} {C:Addr} (c:Cls K C) (f:Str):PySem.W.plainGet K C f=true:=c.pg
noncomputable def x0i (K:Frag) (C:Addr) (f:Str):Prop:=findIn K (.ref C) f=some none
theorem x0i.taker {K:Frag} {C:Addr} {f:Str} (n:x0i K C f):PySem.W.takerIn K C f=some none:=by
 unfold PySem.W.takerIn
 rw [show findIn K (.ref C) f=some none from n]
 rfl
structure Meth (K:Frag) (C:Addr) (m:Str) (f:Addr):Prop where
 at_:findIn K (.ref C) m=some (some (.ref f))
 fn:PySem.W.isFn K (.ref f)=true
 kp:keepIn K (.ref f)=true
section
variable {X:Cx} {pins:List (Addr × Obj)} {σ:St} {H:Hp} {s:Shared} {a C dx:Addr} {fs:List (Str × V)} {f:Str} {v:V} {A:Around} {E:Value→Shared→Prop}
theorem z0y {b:Bool} {Q:Value→Shared→Prop} (I:Inv X pins σ H s) (e:H a=some (.ins C dx fs)) (c:Cls X.K C) (n:x0i X.K C f) (l:fs.lookup f=some v)
  (h:∀ u s',Inv X pins σ H s'→q3z v u→Q u s'):wpAny (model X.prog X.w) A (getAttr (.ref a) f b) Q E s:=by
 obtain⟨mA,O,r,_,_,_⟩:=x5l I.hok e
 obtain⟨u,hu,ru⟩:=z5u.some_of (v:=v) (o:=mA f) (by rw [← l]; exact r f)
 exact j0s I.kIn O (c.get f) c.hd n hu (z5p ru) (h u _ (I.tok _) ru)
theorem z1f {m:Str} {g:Addr} {pl:Sem Bool} {Q:Value × List Value→Shared→Prop} (I:Inv X pins σ H s) (e:H a=some (.ins C dx fs)) (c:Cls X.K C) (k:Meth X.K C m g) (l:fs.lookup m=none)
  (h:Q (.ref g,[.ref a]) s):wpAny (model X.prog X.w) A (getMethod (.ref a) m pl) Q E s:=by
 obtain⟨mA,O,r,_,_,_⟩:=x5l I.hok e
 have hn:mA m=none:=z5u.none_of (by rw [← l]; exact r m)
 exact z8g I.kIn O (c.get m) k.at_ k.fn hn h
theorem z1g {y:V} {u:Value} {Q:Unit→Shared→Prop} (I:Inv X pins σ H s) (e:H a=some (.ins C dx fs)) (c:Cls X.K C) (n:x0i X.K C f) (hl:fs.length < 1000) (ry:q3z y u)
  (h:∀ s',Inv X pins σ (upd H a (.ins C dx (x7j f y fs))) s'→Q () s'):wpAny (model X.prog X.w) A (setAttr (.ref a) f u) Q E s:=by
 obtain⟨mA,O,r,wi,_,ho⟩:=x5l I.hok e
 have hz:(fs.map (·.1)).length≤sizeLine:=by rw [List.length_map,sizeLine_eq]; omega
 refine j0f I.kIn O c.sa c.po n.taker c.hd wi hz fun h' O' sb=>h _ ?_
 have hd:∃ o,h'.get? dx=some o:=let ⟨o,_,_,e',_⟩:=O'.ns; ⟨o,e'⟩
 refine I.write (x:=a) (e:=dx) (by rw [e]; exact True.intro) (.inr ho) (fun b q hb z=>(sb.2 b hb).trans z) hd ?_
 refine⟨by rw [q0r O.ne]; exact ho,?_,O.ne,O'.obj,_,O'.ns,fun g=>?_,fun g hg=>?_⟩
 ·have:=x2f f y fs; omega
 ·show z5u ((x7j f y fs).lookup g) (if g=f then some u else mA g)
  rw [x1p]
  by_cases q:g=f
  ·rw [if_pos q,if_pos q]; exact ry
  ·rw [if_neg q,if_neg q]; exact r g
 ·by_cases q:g=f
  ·rw [q]; exact (x1z f y fs).1
  ·refine (x1z f y fs).2 g (wi g fun z=>hg ?_)
   show (if g=f then some u else mA g)=none
   rw [if_neg q]; exact z
theorem Inv.made (I:Inv X pins σ H s):Inv X pins σ (upd (upd H s.heap.objs.size (.own (s.heap.objs.size+1))) (s.heap.objs.size+1) (.ins C s.heap.objs.size []))
  { s with heap:=(s.heap.push emptyDict).push (instObj C s.heap.objs.size) }:=by
 have e1:(s.heap.push emptyDict).get? s.heap.objs.size=some emptyDict:=Heap.get?_push_size s.heap rfl
 have e2:((s.heap.push emptyDict).push (instObj C s.heap.objs.size)).get? (s.heap.objs.size+1)=some (instObj C s.heap.objs.size):=by
  have:=Heap.get?_push_size (s.heap.push emptyDict) (o:=instObj C s.heap.objs.size) rfl
  rwa [Heap.size_push] at this
 have e3:(s.heap.push emptyDict).Ns s.heap.objs.size (fun _=>none):=⟨emptyDict,#[],_,e1,rfl,(fun e he=>absurd he (by simp)),fun _=>rfl⟩
 have I1:=I.laid (a:=s.heap.objs.size) (o:=.own (s.heap.objs.size+1)) (h':=s.heap.push emptyDict) (t':=s.toks) (fun b u q=>Heap.get?_push_of_some _ q) (Nat.le_refl _) ⟨_,e1⟩
 refine I1.laid (a:=s.heap.objs.size+1) (o:=.ins C s.heap.objs.size []) (t':=s.toks) (fun b u q=>Heap.get?_push_of_some _ q) (Nat.le_of_eq (Heap.size_push _ _)) ?_
 have ne:s.heap.objs.size≠s.heap.objs.size+1:=Nat.ne_of_lt (Nat.lt_succ_self _)
 refine⟨by rw [q0r ne,q0c],Nat.zero_le _,ne,e2,fun _=>none,(Heap.Ns1.of_empty e3).at fun o q=>Heap.get?_push_of_some _ q,fun _=>True.intro,fun y hy=>absurd rfl hy⟩
theorem j1f {prog:Program} {w:World} {env:Env} {e:Expr} {f:Str} {pos:Pos} {s:Shared} {Q:Value→Shared→Prop} (hb:attributeBase e f env (eval e env)=eval e env)
  (h:wpAny (model prog w) A (eval e env) (fun o s₁=>wpAny (model prog w) A (getAttr o f true) Q E s₁) E s):wpAny (model prog w) A (eval (.Attribute e f pos) env) Q E s :=
 Attribute_any_ h (by rw [arm_eval_Attribute,hb])
end
noncomputable def j8s (K:Frag) (ta:TE) (f:Str):TE:=fun σ H Q=>ta σ H fun x H1=>∃ a C dx fs v,x=.ref a∧H1 a=some (.ins C dx fs)∧Cls K C∧x0i K C f∧fs.lookup f=some v∧Q v H1
noncomputable def j7u (K:Frag) (ta tv:TE) (f:Str):TS:=fun D σ H=>tv σ H fun y H1=>ta σ H1 fun x H2=>∃ a C dx fs,x=.ref a∧H2 a=some (.ins C dx fs)∧Cls K C∧x0i K C f∧fs.length < 1000 ∧
 D.nx σ (upd H2 a (.ins C dx (x7j f y fs)))
section
variable {X:Cx} {o e value:Expr} {f:Str} {pos pos' tpos:Pos} {ta tv:TE}
theorem x0h (he:PE X e ta) (hb:attributeBase e f X.env (eval e X.env)=eval e X.env):PE X (.Attribute e f pos) (j8s X.K ta f):=by
 intro pins s σ H Q I h
 refine j1f hb (thn (he pins s σ H _ I h) fun u s1 ⟨x,H1,I1,rx,a,C,dx,fs,v,ex,ea,c,n,l,q⟩=>?_)
 subst ex
 obtain rfl:u=Value.ref a:=rx
 exact z0y I1 ea c n l fun u' s2 I2 ru=>⟨v,H1,I2,ru,q⟩
theorem z0b (ha:PE X o ta) (hv:PE X value tv) (hs:swapsWith value (some (.Attribute o f pos')) pos.line X.env=pure false):PS X (.Assign [.Attribute o f pos'] value pos) (j7u X.K ta tv f):=by
 intro pins s σ H D I h
 refine plainObj_wpAny_Assign_Attribute (thn (hv pins s σ H _ I h) fun u s1 ⟨y,H1,I1,ry,q⟩=>thn (ha pins s1 σ H1 _ I1 q) fun ov s2 ⟨x,H2,I2,rx,a,C,dx,fs,ex,ea,c,n,l,q2⟩=>?_) hs
 subst ex
 obtain rfl:ov=Value.ref a:=rx
 exact z1g I2 ea c n l ry fun s3 I3=>⟨σ,_,I3,q2⟩
end
section
variable {X:Cx} {pins:List (Addr × Obj)} {σ:St} {H:Hp} {s:Shared} {A:Around} {E:Value→Shared→Prop} {Q:Value→Shared→Prop} {c:Value} {b:Bool}
inductive TyOf (K:Frag) (H:Hp):V→Value→Prop where
 | non:TyOf K H .non (.type "NoneType")
 | bl (x:Bool):TyOf K H (.bl x) (.type "bool")
 | int (i:Int):TyOf K H (.int i) (.type "int")
 | str (x:Str):TyOf K H (.str x) (.type "str")
 | flt (x:UInt64):TyOf K H (.flt x) (.type "float")
 | lst {a:Addr} {xs:List V} (e:H a=some (.lst xs)):TyOf K H (.ref a) (.type "list")
 | frz {a:Addr} {o:Obj} {xs:List V} (e:H a=some (.frz o (.lst xs))):TyOf K H (.ref a) (.type "list")
 | tup {a:Addr} {xs:List V} (e:H a=some (.tup xs)):TyOf K H (.ref a) (.type "tuple")
 | dK {a:Addr} {kvs:List (Key × V)} (e:H a=some (.dK kvs)):TyOf K H (.ref a) (.type "dict")
 | dT {a:Addr} {kvs:List (List Key × V)} (e:H a=some (.dT kvs)):TyOf K H (.ref a) (.type "dict")
 | ins {a C dx:Addr} {fs:List (Str × V)} (e:H a=some (.ins C dx fs)) (cl:Cls K C) (ha:findIn K (.ref C) "__class__" = some (some (.builtin "object.__class__")))
   (hn:PySem.W.specialIn K (.builtin "object.__class__") "__get__" = some (some (.builtin "getset_descriptor.__get__"))) (htk:PySem.W.takesIn K (.builtin "object.__class__")=some true)
   (hm:PySem.W.mroIn K C (.type "object")=some true):TyOf K H (.ref a) (.ref C)
theorem z5o {x:V} {u t:Value} (I:Inv X pins σ H s) (rx:q3z x u) (ty:TyOf X.K H x t) (e:PySem.W.kitOne X.K t c=some b) (h:∀ tk,Q (.bool b) { s with toks:=tk }) :
  wpAny (model X.prog X.w) A (call (.builtin "isinstance") [u,c]) Q E s:=by
 cases ty with
 | non=>cases (show u=Value.none from rx); exact kia_one PySem.W.kitx_none I.kIn True.intro e (fun z=>nomatch z) h
 | bl y=>cases (show u=Value.bool y from rx); exact kia_one PySem.W.kitx_bool I.kIn True.intro e (fun z=>nomatch z) h
 | int i=>obtain⟨t,q⟩:=(show ∃ t,u=Value.int i t from rx); cases q; exact kia_one PySem.W.kitx_int I.kIn True.intro e (fun z=>nomatch z) h
 | str y=>obtain⟨t,q⟩:=(show ∃ t,u=Value.str y t from rx); cases q; exact kia_one PySem.W.kitx_str I.kIn True.intro e (fun z=>nomatch z) h
 | flt y=>obtain⟨t,q⟩:=(show ∃ t,u=Value.float y t from rx); cases q; exact kia_one PySem.W.kitx_float I.kIn True.intro e (fun z=>nomatch z) h
 | @lst a xs ea =>
  cases (show u=Value.ref a from rx)
  obtain⟨_,_,n,_,h1⟩:=(show q4n X.prog X.w H s.heap a (.lst xs) from I.hok a _ ea)
  exact kia_one PySem.W.kitx_list I.kIn ⟨_,h1,rfl⟩ e (fun z=>nomatch z) h
 | @frz a ob xs ea =>
  cases (show u=Value.ref a from rx)
  obtain⟨_,_,_,n,_,h1⟩:=(show q4n X.prog X.w H s.heap a (.frz ob (.lst xs)) from I.hok a _ ea)
  exact kia_one PySem.W.kitx_list I.kIn ⟨_,h1,rfl⟩ e (fun z=>nomatch z) h
 | @tup a xs ea =>
  cases (show u=Value.ref a from rx)
  obtain⟨_,_,_,p⟩:=(show q4n X.prog X.w H s.heap a (.tup xs) from I.hok a _ ea)
  obtain⟨o,h1,h2,_⟩:=p
  exact kia_one PySem.W.kitx_tuple I.kIn ⟨o,h1,h2⟩ e (fun z=>nomatch z) h
 | @dK a kvs ea =>
  cases (show u=Value.ref a from rx)
  obtain⟨_,_,vs,_,p⟩:=(show q4n X.prog X.w H s.heap a (.dK kvs) from I.hok a _ ea)
  obtain⟨o,es,ep,h1,h2,_⟩:=p
  exact kia_one PySem.W.kitx_dict I.kIn ⟨o,h1,h2.1⟩ e (fun z=>nomatch z) h
 | @dT a kvs ea =>
  cases (show u=Value.ref a from rx)
  obtain⟨_,_,xs,_,o,es,ep,h1,h2,_⟩:=(show q4n X.prog X.w H s.heap a (.dT kvs) from I.hok a _ ea)
  exact kia_one PySem.W.kitx_dict I.kIn ⟨o,h1,h2.1⟩ e (fun z=>nomatch z) h
 | @ins a C dx fs ea cl ha hn htk hm =>
  cases (show u=Value.ref a from rx)
  obtain⟨mA,O,_⟩:=x5l I.hok ea
  obtain⟨od,J,_⟩:=O.look
  exact kia_one (PySem.W.kitx_own (cl.get _) cl.hd ha hn htk hm) I.kIn J e (fun z=>nomatch z) h
end
structure Room (k:Nat) (A:Around):Prop where
 hd:A.handled=none
 dp:A.depth+3*k+5 < recursionLimit
 un:A.units+16*k+200 < cLine
theorem Room.mono {j k:Nat} {A:Around} (r:Room k A) (h:j≤k):Room j A:=⟨r.hd,by have:=r.dp; omega,by have:=r.un; omega⟩
theorem Room.deeper {k:Nat} {A:Around} (r:Room (k+1) A) (env:Env):Room k (A.deeper env) :=
 ⟨r.hd,by have:=r.dp; show A.depth+1+3*k+5 < _; omega,by have:=r.un; show A.units+3+16*k+200 < _; omega⟩
theorem z1i {A:Around} {C:Addr} {us:List Value} {kw:List (Str × Value)}:(A.under (.builtin "type.__call__" ⟨.ref C::us,kw⟩)).depth=A.depth+1:=by
 first | rfl | simp [Around.under,Code.weight,Code.isCreation,Code.isGuard,Code.isCaller,Code.frames,Code.isFrame,guardIds]
theorem z0z {A:Around} {C:Addr} {us:List Value} {kw:List (Str × Value)}:(A.under (.builtin "type.__call__" ⟨.ref C::us,kw⟩)).units=A.units+1:=by
 first | rfl | simp [Around.under,Code.cUnits,Code.frames,Code.isFrame]
theorem Room.make {k:Nat} {A:Around} (r:Room (k+1) A) (C:Addr) (us:List Value) (kw:List (Str × Value)):Room k (A.under (.builtin "type.__call__" ⟨.ref C::us,kw⟩)) :=
 ⟨r.hd,by have:=r.dp; rw [z1i]; omega,by have:=r.un; rw [z0z]; omega⟩
theorem Room.depth {k:Nat} {A:Around} (r:Room k A):A.depth < recursionLimit:=by have:=r.dp; omega
noncomputable def j6c:TA:=fun _ H Q=>Q [] H
noncomputable def x2m (ta:TE) (tr:TA):TA:=fun σ H Q=>ta σ H fun x H1=>tr σ H1 fun xs H2=>Q (x::xs) H2
section
variable {X:Cx} {e:Expr} {es:List Expr} {te:TE} {t:TA} {pos:Pos}
theorem q0a:PA X [] j6c:=fun _ _ _ _ H Q I h=>Calls.spliced_nil ⟨[],H,I,.nil,h⟩
theorem q0o (ha:PE X e te) (hr:PA X es t) (hs:starEach (e::es) X.env=(false,eval e X.env)::starEach es X.env:=by rfl):PA X (e::es) (x2m te t):=by
 intro pos pins s σ H Q I h
 rw [hs]
 show wpAny _ _ (spliced ((false,eval e X.env)::backTo pos (starEach es X.env))) _ _ s
 refine Calls.spliced_cons (thn (ha pins s σ H _ I h) fun u s1 ⟨x,H1,I1,r1,q1⟩=>?_)
 exact thn (hr pos pins s1 σ H1 _ I1 q1) fun us s2 ⟨xs,H2,I2,r2,q2⟩=>⟨x::xs,H2,I2,.cons r1 r2,q2⟩
noncomputable def j7a (t:TA):TE:=fun σ H Q=>t σ H fun xs H1=>xs.length≤sizeLine∧∀ p,H1 p=none→Q (.ref p) (upd H1 p (.tup xs))
noncomputable def j7f (t:TA):TE:=fun σ H Q=>t σ H fun xs H1=>xs.length≤sizeLine∧∀ p,H1 p=none→Q (.ref p) (upd H1 p (.lst xs))
theorem q2g {x1} (h:PA X es t):PE X (.Tuple es x1 pos) (j7a t):=by
 intro pins s σ H Q I hq
 refine wpAny_Tuple_spliced (thn (h pos pins s σ H _ I hq) fun us s1 ⟨xs,H1,I1,r,z,q⟩=>⟨by rw [← r.length]; exact z,?_⟩)
 have hf:H1 s1.heap.objs.size=none:=I1.hok.fresh (Nat.le_refl _)
 refine⟨.ref s1.heap.objs.size,upd H1 s1.heap.objs.size (.tup xs),I1.laid (t':=s1.toks) (fun b u e=>Heap.get?_push_of_some _ e) (Nat.le_refl _) ?_,rfl,q _ hf⟩
 exact⟨z,us,r,⟨_,Heap.get?_push_size _ rfl,rfl,_,rfl⟩⟩
theorem q8w (h:PA X es t):PE X (.List es pos) (j7f t):=by
 intro pins s σ H Q I hq
 refine wpAny_List_spliced (thn (h pos pins s σ H _ I hq) fun us s1 ⟨xs,H1,I1,r,z,q⟩=>⟨by rw [← r.length]; exact z,?_⟩)
 have hf:H1 s1.heap.objs.size=none:=I1.hok.fresh (Nat.le_refl _)
 refine⟨.ref s1.heap.objs.size,upd H1 s1.heap.objs.size (.lst xs),I1.laid (t':=s1.toks) (fun b u e=>Heap.get?_push_of_some _ e) (Nat.le_refl _) ?_,rfl,q _ hf⟩
 exact⟨z,us,0,r,Heap.get?_push_size _ rfl⟩
end
noncomputable abbrev Sp:=List V→Hp→VK→XK→Prop
noncomputable abbrev CXT:=List Env→Hp→Shared→XK→Value→Shared→Prop
structure Env0 (P:Program) (w:World) (K:Frag) (mg:Str→Option Value) (base:Heap) (A:Around) (outer:List Env) (s:Shared) (H:Hp):Prop where
 frames:A.frames=some outer
 mod:Mod K mg base
 bs:∀ b o,base.get? b=some o→s.heap.get? b=some o∧H b=none
 bsz:base.objs.size≤s.heap.objs.size
 funs:s.heap.FunFrames base outer
 frf:∀ b∈frs outer,H b=none
 hok:HOk P w H s.heap
 bare:AllBare s.gens
noncomputable def CE (outer:List Env) (P:Program) (w:World) (H:Hp) (s:Shared) (Q:VK) (u:Value) (s':Shared):Prop :=
 ∃ v H',s'.os=s.os∧AllBare s'.gens∧Un (frs outer) [] H H' s.heap s'.heap∧HOk P w H' s'.heap∧q3z v u∧Q v H'
noncomputable def CR (CX:CXT) (outer:List Env) (P:Program) (w:World) (H:Hp) (s:Shared) (Q:VK) (E:XK) (r:Result) (s':Shared):Prop :=
 match r with
 | .ok (.ret u)=>CE outer P w H s Q u s'
 | .ok _=>False
 | .error e=>CX outer H s E e s'
structure FnOk (P:Program) (w:World) (K:Frag) (mg:Str→Option Value) (base:Heap) (CX:CXT) (k:Nat) (f:Addr) (fd:FuncData) (ps:List Str) (sp:Sp):Prop where
 len:∀ vs H Q E,sp vs H Q E→vs.length=ps.length
 run:∀ (A:Around) (outer:List Env) (s:Shared) (H:Hp) (args:Args) (us:List Value) (vs:List V) (Q:VK) (E:XK),Room k A→Env0 P w K mg base A outer s H→BindsTo s fd args (ps.zip us)→q2x vs us→sp vs H Q E →
  codeAny (model P w) A (.call (.ref f) args) (CR CX outer P w H s Q E) s
theorem FnOk.mono {P:Program} {w:World} {K:Frag} {mg:Str→Option Value} {base:Heap} {CX:CXT} {j k:Nat} {f:Addr} {fd:FuncData} {ps:List Str} {sp:Sp} (F:FnOk P w K mg base CX j f fd ps sp) (h:j≤k) :
  FnOk P w K mg base CX k f fd ps sp:=⟨F.len,fun A outer s H args us vs Q E hr=>F.run A outer s H args us vs Q E (hr.mono h)⟩
theorem Env0.make {P:Program} {w:World} {K:Frag} {mg:Str→Option Value} {base:Heap} {A:Around} {outer:List Env} {s:Shared} {H:Hp} (e:Env0 P w K mg base A outer s H) (C:Addr) (us:List Value) (kw:List (Str × Value)) :
  Env0 P w K mg base (A.under (.builtin "type.__call__" ⟨.ref C::us,kw⟩)) outer s H:=⟨by first | exact e.frames | (simpa [Around.under,Code.envs,Code.isFrame,pushEnvs] using e.frames),e.mod,e.bs,e.bsz,e.funs,e.frf,e.hok,e.bare⟩
section
variable {X:Cx} {pins:List (Addr × Obj)} {σ:St} {H:Hp} {s s':Shared}
theorem Inv.env0 (I:Inv X pins σ H s):Env0 X.prog X.w X.K X.mg X.base X.A X.stack s H :=
 ⟨I.ok.frames,I.ok.mod,I.bs,Nat.le_trans I.ok.bsz I.sz,I.stack,I.stkFree,I.hok,I.bare⟩
theorem Inv.after {Q:VK} {u:Value} (I:Inv X pins σ H s) (h:CE X.stack X.prog X.w H s Q u s'):EP X pins σ Q u s':=by
 obtain⟨v,H',os,bare,un,hok,r,q⟩:=h
 obtain⟨hh,g,d,t,os'⟩:=s'
 obtain rfl:os'=s.os:=os
 exact⟨v,H',I.call (h':=hh) (g':=g) (d':=d) (t':=t) (ch:=[]) un hok bare (fun b z=>absurd z (by simp)),r,q⟩
end
noncomputable def z9t (sp:Sp) (dvs:List V) (E:XK) (t:TA):TE:=fun σ H Q=>t σ H fun vs H1=>sp (vs++dvs) H1 Q E
noncomputable def j5s (C:Addr) (m:Str) (sp:Sp) (dvs:List V) (E:XK) (ta:TE) (t:TA):TE:=fun σ H Q=>ta σ H fun x H1=>∃ a dx fs,x=.ref a∧H1 a=some (.ins C dx fs)∧fs.lookup m=none ∧
 t σ H1 fun vs H2=>sp (x::(vs++dvs)) H2 Q E
noncomputable def j5c (C:Addr) (sp:Sp) (dvs:List V) (E:XK) (t:TA):TE:=fun σ H Q=>t σ H fun vs H1=>∀ x dx,H1 x=none→H1 dx=none→dx≠x →
 sp (.ref x::(vs++dvs)) (upd (upd H1 dx (.own x)) x (.ins C dx [])) (fun v H2=>v=.non∧Q (.ref x) H2) E
noncomputable def q2i (K:Frag) (fd:FuncData) (ps:List Str) (ds:List Value):Prop :=
 ∀ (s:Shared) (us:List Value),K.In s.heap→(us++ds).length=ps.length→BindsTo s fd ⟨us,[]⟩ (ps.zip (us++ds))
theorem q2i.all {K:Frag} {fd:FuncData} {ps:List Str} (h:∀ us:List Value,us.length=ps.length→bindArgs fd ⟨us,[]⟩=pure (ps.zip us)):q2i K fd ps []:=fun s us _ hl=>by
 rw [List.append_nil] at hl ⊢
 exact .of_eq (h us hl)
noncomputable def q6a (CX:CXT) (X:Cx) (E:XK):Prop:=∀ (pins:List (Addr × Obj)) (σ:St) (H:Hp) (s:Shared) (e:Value) (s':Shared),Inv X pins σ H s→CX X.stack H s E e s'→X.xe e s'
section
variable {X:Cx} {CX:CXT} {k:Nat} {f C:Addr} {fd:FuncData} {ps:List Str} {sp:Sp} {dvs:List V} {ds:List Value} {E:XK} {x m:Str} {p pos apos:Pos} {e o:Expr} {es:List Expr} {ta:TE} {t:TA}
theorem x3i {pins:List (Addr × Obj)} {σ:St} {H:Hp} {s:Shared} {Q:VK} {us:List Value} {vs:List V} (F:FnOk X.prog X.w X.K X.mg X.base CX k f fd ps sp) (hr:Room k X.A) (hb:q2i X.K fd ps ds) (hd:q2x dvs ds) (hx:q6a CX X E)
  (I:Inv X pins σ H s) (r:q2x vs us) (h:sp (vs++dvs) H Q E):wpAny (model X.prog X.w) X.A (call (.ref f) us) (EP X pins σ Q) X.xe s:=by
 have r2:q2x (vs++dvs) (us++ds):=r.append hd
 have hl:(us++ds).length=ps.length:=by rw [← r2.length]; exact F.len _ _ _ _ h
 refine wpAny_call (codeAny_mono (F.run X.A X.stack s H ⟨us,[]⟩ (us++ds) (vs++dvs) Q E hr I.env0 (hb s us I.kIn hl) r2 h) fun r s' hq=>?_)
 cases r with
 | error e=>exact hx pins σ H s e s' I hq
 | ok fl =>
  cases fl with
  | ret u=>exact I.after hq
  | next=>exact False.elim hq
  | brk=>exact False.elim hq
  | cont=>exact False.elim hq
theorem q9n (F:FnOk X.prog X.w X.K X.mg X.base CX k f fd ps sp) (hr:Room k X.A) (hg:Gl X x) (hm:X.mg x=some (.ref f)) (hk:keepIn X.K (.ref f)=true) (hb:q2i X.K fd ps ds) (hd:q2x dvs ds) (hx:q6a CX X E)
  (ha:PA X (e::es) t) (hdb:(x==("__debug__" : Str))=false:=by decide) (he:starEach (e::es) X.env=(false,eval e X.env)::starEach es X.env:=by rfl) (hpl:(backTo pos (starEach es X.env)).any (·.1)=false:=by rfl) :
  PE X (.Call (.Name x p) (e::es) [] pos) (z9t sp dvs E t):=by
 intro pins s σ H Q I h
 refine wpAny_Call_Name_kw (q5m I hg hm ?_ hdb)
 refine PySem.W.callWith_K (h₀:=X.base) I.ok.mod.kin hk (thn (ha pos pins s σ H _ I h) fun us s1 ⟨vs,H1,I1,r,q⟩=>⟨I1.kIn,?_⟩) he hpl
 exact x3i F hr hb hd hx I1 r q
theorem q2o {pl:Sem Bool} (he:PE X o ta) (c:Cls X.K C) (hm:Meth X.K C m f) (F:FnOk X.prog X.w X.K X.mg X.base CX k f fd ps sp) (hr:Room k X.A) (hb:q2i X.K fd ps ds) (hd:q2x dvs ds) (hx:q6a CX X E)
  (ht:eval (.Call (.Attribute o m apos) [] [] pos) X.env=(do
   let ov←eval o X.env
   standAt apos.atName
   let (f,first)←holding [ov] (getMethod ov m pl)
   callWith pos f first (backTo pos (starEach [] X.env)) (backToKw pos (keywordEach [] X.env))):=by rfl) :
  PE X (.Call (.Attribute o m apos) [] [] pos) (j5s C m sp dvs E ta j6c):=by
 intro pins s σ H Q I h
 refine PySem.W.methodCall_KW (pl:=pl) (thn (he pins s σ H _ I h) fun u s1 ⟨x,H1,I1,rx,a,dx,fs,ex,ea,l,q⟩=>?_) ht
 subst ex
 obtain rfl:u=Value.ref a:=rx
 refine z1f I1 ea c hm l ?_
 exact PySem.W.callWith_K0 (first:=[.ref a]) I1.kIn hm.kp (x3i (us:=[.ref a]) (vs:=[.ref a]) F hr hb hd hx I1 (.cons rfl .nil) q)
structure Mk (K:Frag) (C f:Addr):Prop where
 makes:PySem.W.makesIn K C=true
 init:findIn K (.ref C) "__init__" = some (some (.ref f))
 fn:PySem.W.isFn K (.ref f)=true
 kp:keepIn K (.ref C)=true
theorem z8a {pins:List (Addr × Obj)} {σ:St} {H:Hp} {s:Shared} {Q:VK} {us:List Value} {vs:List V} (M:Mk X.K C f) (F:FnOk X.prog X.w X.K X.mg X.base CX k f fd ps sp) (hr:Room (k+1) X.A) (hb:q2i X.K fd ps ds) (hd:q2x dvs ds)
  (hx:q6a CX X E) (I:Inv X pins σ H s) (r:q2x vs us)
  (h:∀ x dx,H x=none→H dx=none→dx≠x→sp (.ref x::(vs++dvs)) (upd (upd H dx (.own x)) x (.ins C dx [])) (fun v H2=>v=.non∧Q (.ref x) H2) E) :
  wpAny (model X.prog X.w) X.A (call (.ref C) us) (EP X pins σ Q) X.xe s:=by
 have hq:=h (s.heap.objs.size+1) s.heap.objs.size (I.hok.fresh (Nat.le_succ _)) (I.hok.fresh (Nat.le_refl _)) (Nat.ne_of_lt (Nat.lt_succ_self _))
 have I2:=Inv.made (C:=C) I
 have r2:q2x (V.ref (s.heap.objs.size+1)::(vs++dvs)) (Value.ref (s.heap.objs.size+1)::(us++ds)):=.cons rfl (r.append hd)
 have hl:(Value.ref (s.heap.objs.size+1)::us++ds).length=ps.length:=by
  have e:=r2.length
  rw [F.len _ _ _ _ hq] at e
  exact e.symm
 refine wpAny_call (z6c (f:=f) I.kIn M.makes M.init (beq_iff_eq.mp M.fn) (codeAny_mono (F.run _ X.stack _ _ ⟨Value.ref (s.heap.objs.size+1)::us,[]⟩ (Value.ref (s.heap.objs.size+1)::(us++ds)) _ _ E (hr.make C us [])
  (I2.env0.make C us []) (hb _ (Value.ref (s.heap.objs.size+1)::us) I2.kIn hl) r2 hq) fun r s' hq'=>?_))
 cases r with
 | error e=>exact hx pins σ _ _ e s' I2 hq'
 | ok fl =>
  cases fl with
  | ret u =>
   obtain⟨v,H',I3,rv,ev,q3⟩:=I2.after hq'
   subst ev
   exact⟨rv,⟨V.ref (s.heap.objs.size+1),H',I3,rfl,q3⟩⟩
  | next=>exact False.elim hq'
  | brk=>exact False.elim hq'
  | cont=>exact False.elim hq'
theorem x5h (M:Mk X.K C f) (F:FnOk X.prog X.w X.K X.mg X.base CX k f fd ps sp) (hr:Room (k+1) X.A) (hg:Gl X x) (hm:X.mg x=some (.ref C)) (hb:q2i X.K fd ps ds) (hd:q2x dvs ds) (hx:q6a CX X E)
  (ha:PA X (e::es) t) (hdb:(x==("__debug__" : Str))=false:=by decide) (he:starEach (e::es) X.env=(false,eval e X.env)::starEach es X.env:=by rfl) (hpl:(backTo pos (starEach es X.env)).any (·.1)=false:=by rfl) :
  PE X (.Call (.Name x p) (e::es) [] pos) (j5c C sp dvs E t):=by
 intro pins s σ H Q I h
 refine wpAny_Call_Name_kw (q5m I hg hm ?_ hdb)
 refine PySem.W.callWith_K (h₀:=X.base) I.ok.mod.kin M.kp (thn (ha pos pins s σ H _ I h) fun us s1 ⟨vs,H1,I1,r,q⟩=>⟨I1.kIn,?_⟩) he hpl
 exact z8a M F hr hb hd hx I1 r q
end
section
variable {X:Cx} {CX:CXT} {k:Nat} {f C:Addr} {fd:FuncData} {ps ks:List Str} {sp:Sp} {E:XK} {x m:Str} {p pos apos kpos:Pos} {e o:Expr} {es:List Expr} {kws:List Keyword} {te ta:TE} {t tk:TA} {nm:Option Str}
variable {g:List Value→List Value→List Value} {gV:List V→List V→List V}
end
structure FnScope (N P:List Str) (sc:Scope):Prop where
 kind:sc.kind=.function
 co:sc.isCoroutine=false
 gen:sc.isGenerator=false
 nd:N.Nodup
 pre:N.take P.length=P
 par:∀ x∈P,sc.names.lookup x=some .local∨sc.names.lookup x=some .cell
 nofree:∀ y∈sc.names,y.2≠.free
theorem fSc {N P:List Str} {sc:Scope} (h1:sc.kind=.function:=by rfl) (h2:sc.isCoroutine=false:=by rfl) (h3:sc.isGenerator=false:=by rfl) (h4:N.Nodup:=by decide +kernel) (h5:N.take P.length=P:=by rfl) (h6:∀ x∈P,sc.names.lookup x=some .local∨sc.names.lookup x=some .cell:=by decide +kernel) (h7:∀ y∈sc.names,y.2≠.free:=by decide +kernel):FnScope N P sc:=⟨h1,h2,h3,h4,h5,h6,h7⟩
theorem x5o {kindOf:Str→Option NameKind} {x:Str}:∀ {binds:List (Str × Value)} {m:Str→Option Value},(∀ v,(x,v)∉binds)→bindL kindOf binds m x=m x
 | [],_,_=>rfl
 | (n,v)::r,m,h=>by
  unfold bindL
  rw [x5o fun w hw=>h w (List.mem_cons_of_mem _ hw)]
  split
  ·have:x≠n:=by rintro rfl; exact h v List.mem_cons_self
   simp [this]
  ·rfl
theorem x5u {kindOf:Str→Option NameKind} {x:Str}:∀ {binds:List (Str × Value)} {m:Str→Option Value},(∀ v,(x,v)∉binds)→bindC kindOf binds m x=m x
 | [],_,_=>rfl
 | (n,v)::r,m,h=>by
  unfold bindC
  rw [x5u fun w hw=>h w (List.mem_cons_of_mem _ hw)]
  split
  ·rfl
  ·have:x≠n:=by rintro rfl; exact h v List.mem_cons_self
   simp [this]
theorem x6y {kindOf:Str→Option NameKind} {x:Str} {v:Value}:∀ {P:List Str} {vs:List Value} {i:Nat} {m:Str→Option Value},P.Nodup→P[i]? = some x→vs[i]? = some v→kindOf x=some .local →
  bindL kindOf (P.zip vs) m x=some v
 | [],_,_,_,_,h,_,_=>by simp at h
 | _::_,[],_,_,_,_,h,_=>by simp at h
 | p::P,w::vs,0,m,nd,h1,h2,hk=>by
  simp at h1 h2; subst h1; subst h2
  show bindL kindOf ((p,w)::P.zip vs) m p=_
  unfold bindL
  rw [x5o fun v hv=>(List.nodup_cons.mp nd).1 (List.of_mem_zip hv).1,if_pos hk]
  simp
 | p::P,w::vs,i+1,m,nd,h1,h2,hk=>by
  show bindL kindOf ((p,w)::P.zip vs) m x=_
  unfold bindL
  exact x6y (i:=i) (List.nodup_cons.mp nd).2 (by simpa using h1) (by simpa using h2) hk
theorem x6f {kindOf:Str→Option NameKind} {x:Str} {v:Value}:∀ {P:List Str} {vs:List Value} {i:Nat} {m:Str→Option Value},P.Nodup→P[i]? = some x→vs[i]? = some v→kindOf x≠some .local →
  bindC kindOf (P.zip vs) m x=some v
 | [],_,_,_,_,h,_,_=>by simp at h
 | _::_,[],_,_,_,_,h,_=>by simp at h
 | p::P,w::vs,0,m,nd,h1,h2,hk=>by
  simp at h1 h2; subst h1; subst h2
  show bindC kindOf ((p,w)::P.zip vs) m p=_
  unfold bindC
  rw [x5u fun v hv=>(List.nodup_cons.mp nd).1 (List.of_mem_zip hv).1,if_neg hk]
  simp
 | p::P,w::vs,i+1,m,nd,h1,h2,hk=>by
  show bindC kindOf ((p,w)::P.zip vs) m x=_
  unfold bindC
  exact x6f (i:=i) (List.nodup_cons.mp nd).2 (by simpa using h1) (by simpa using h2) hk
noncomputable def x4b (N:List Str) (vs:List V):St:=vs.map some++List.replicate (N.length - vs.length) none
noncomputable def x3b (CX:CXT) (P:Program) (w:World) (K:Frag) (mg:Str→Option Value) (base:Heap) (N:List Str) (qual:Str) (scope:Scope) (f:Addr) (cd:Value) (A:Around) (outer:List Env) (s:Shared) (H:Hp) (E:XK):Cx where
 prog:=P
 w:=w
 K:=K
 mg:=mg
 base:=base
 A:=A.deeper (envOfC qual scope s.heap.objs.size f cd)
 N:=N
 s₀:=s
 H₀:=H
 env:=envOfC qual scope s.heap.objs.size f cd
 outer:=outer
 stack:=envOfC qual scope s.heap.objs.size f cd::outer
 ex:=[]
 calm:=true
 fn:=fun _=>true
 pn:=[]
 xe:=fun e s'=>wpAny (model P w) (A.deeper (envOfC qual scope s.heap.objs.size f cd)) (leaving (envOfC qual scope s.heap.objs.size f cd) e) (fun _ s''=>CX outer H s E e s'') (fun e' s''=>CX outer H s E e' s'') s'
theorem x9h {sc:Scope} {n:Nat} {x:Str} (h:sc.names.lookup x=some .cell):∃ c,(cellsFrom n sc.names []).lookup x=some c:=by
 have q:=PySem.W.cellsFrom_some sc.names n [] (.inl h)
 exact Option.isSome_iff_exists.mp q
theorem z4o {CX:CXT} {P:Program} {w:World} {K:Frag} {mg:Str→Option Value} {base:Heap} {N ps:List Str} {qual:Str} {scope:Scope} {f:Addr} {cd:Value} {A:Around} {outer:List Env} {s s1:Shared} {H:Hp} {E:XK} {us:List Value} {vs:List V}
  (S:FnScope N ps scope) (hd:A.handled=none) (e0:Env0 P w K mg base A outer s H) (hl:vs.length=ps.length) (r:q2x vs us)
  (x:InCallC s s.heap.objs.size (bindL (envOfC qual scope s.heap.objs.size f cd).kindOf (ps.zip us) fun _=>none) (cellsFrom (s.heap.objs.size+1) scope.names []) (bindC (envOfC qual scope s.heap.objs.size f cd).kindOf (ps.zip us) fun _=>none) s1) :
  Inv (x3b CX P w K mg base N qual scope f cd A outer s H E) [] (x4b N vs) H s1:=by
 have hpl:ps.length≤N.length:=by have:=congrArg List.length S.pre; rw [List.length_take] at this; omega
 obtain⟨h1,tk,rfl,hk⟩:=x.done
 have noA:∀ b:Addr,b∉(x3b CX P w K mg base N qual scope f cd A outer s H E).ex:=fun b z=>absurd (show b∈([]:List Addr) from z) (by simp)
 refine⟨⟨e0.mod,S.kind,rfl,rfl,Nat.le_refl _,fun y z c h1 h2=>?_,fun y hy=>?_,fun y c _ h=>?_,fun _=>hd,Around.frames_deeper e0.frames,.inr ⟨rfl,rfl⟩,fun b z=>absurd z (noA b),e0.bs,e0.bsz,fun b _ _=>noA b,fun b z=>absurd z (noA b),e0.funs,e0.frf⟩,
  rfl,e0.bare,Un.kept hk,⟨_,x.toInCall.ns,fun i y v h1 h2 h3=>?_⟩,fun y c h=>⟨_,x.cell y c h⟩,e0.hok.fresh (Nat.le_refl _),fun y c h=>?_,fun p hp=>absurd (show p∈([]:List (Addr × Obj)) from hp) (by simp),e0.hok.kept hk,?_⟩
 ·exact name_of_addr x.apart (PySem.mem_of_lookup h1) (PySem.mem_of_lookup h2)
 ·have hy:scope.names.lookup y=some .cell∨scope.names.lookup y=some .free:=hy
  rcases hy with hy | hy
  ·exact x9h hy
  ·exact absurd rfl (S.nofree _ (PySem.mem_of_lookup hy))
 ·exact Nat.le_of_lt (x.above y c (PySem.mem_of_lookup h))
 ·have hi:i < vs.length:=by
   unfold x4b at h2
   by_cases hi:i < vs.length
   ·exact hi
   ·rw [List.getElem?_append_right (by simpa using hi)] at h2
    rw [List.getElem?_replicate] at h2
    split at h2 <;> cases h2
  have ha:vs[i]? = some v:=by
   unfold x4b at h2
   rw [List.getElem?_append_left (by simpa using hi),List.getElem?_map] at h2
   cases e:vs[i]? with
   | none=>rw [e] at h2; cases h2
   | some a=>rw [e] at h2; cases h2; rfl
  obtain⟨u,hu,rv⟩:=r.get ha
  have hp:ps[i]? = some y:=by
   rw [← S.pre,List.getElem?_take_of_lt (by omega)]; exact h1
  have ndP:ps.Nodup:=by rw [← S.pre]; exact S.nd.sublist (List.take_sublist _ _)
  refine⟨u,rv,?_⟩
  rcases S.par y (List.mem_of_getElem? hp) with k | k
  ·exact .inl ⟨k,x6y ndP hp hu k⟩
  ·obtain⟨c,e⟩:=x9h (n:=s.heap.objs.size+1) k
   refine .inr ⟨.inl k,c,e,?_⟩
   have q:=x.cell y c e
   rw [x6f ndP hp hu (by show scope.names.lookup y≠_; rw [k]; decide)] at q
   exact q
 ·exact e0.hok.fresh (Nat.le_of_lt (x.above y c (PySem.mem_of_lookup h)))
 ·unfold x4b
  show _=N.length
  rw [List.length_append,List.length_map,List.length_replicate]
  omega
theorem j3e {CX:CXT} {P:Program} {w:World} {K:Frag} {mg:Str→Option Value} {base:Heap} {k:Nat} {f:Addr} {name qual:Str} {params:Arguments} {body:List Stmt} {scope:Scope} {dV kV doc pm cdv ct oc:Value} {an od:Option Addr}
  {osl:Array (Option Value)} {N ps:List Str} {sp:Sp} (lk:K.lookup f=some ⟨oc,od,.func (fnOf name qual params body scope dV kV doc pm an cdv ct),osl⟩) (hcd:PySem.W.codeIn K cdv qual=true) (S:FnScope N ps scope)
  (len:∀ vs H Q E,sp vs H Q E→vs.length=ps.length)
  (hbody:∀ (A:Around) (outer:List Env) (s:Shared) (H:Hp) (vs:List V) (Q:VK) (E:XK),Room k (A.deeper (envOfC qual scope s.heap.objs.size f cdv))→sp vs H Q E →
   ∃ t,PSs (x3b CX P w K mg base N qual scope f cdv A outer s H E) body t∧t { nx:=fun _ H'=>Q .non H',rt:=Q } (x4b N vs) H) :
  FnOk P w K mg base CX (k+1) f (fnOf name qual params body scope dV kV doc pm an cdv ct) ps sp:=by
 refine⟨len,fun A outer s H args us vs Q E hr e0 hb r hsp=>?_⟩
 have hl:=len _ _ _ _ hsp
 have KX:K.In s.heap:=e0.mod.kin.keeps fun b o e=>(e0.bs b o e).1
 have lim:s.heap.NoLimit:=e0.mod.nolimit.keeps fun b o e=>(e0.bs b o e).1
 have hkind:∀ y∈ps.zip us,scope.names.lookup y.1=some .local∨(scope.names.lookup y.1=some .cell∧((cellsFrom (s.heap.objs.size+1) scope.names []).lookup y.1).isSome=true):=fun⟨n,v⟩ hy=>by
  rcases S.par n (List.of_mem_zip hy).1 with q | q
  ·exact .inl q
  ·exact .inr ⟨q,PySem.W.cellsFrom_some _ _ _ (.inl q)⟩
 refine codeAny_call_function hr.depth (KX _ _ lk) rfl S.co S.gen rfl (PySem.W.codeRec_of KX hcd) (hb _ _ _ _ ?_)
 refine wpAny_newFunctionEnv_cells S.kind hkind fun env he s1 x=>?_
 subst he
 refine⟨lim.keeps x.toInCall.keep,codeAny_func ?_⟩
 obtain⟨t,ht,hq⟩:=hbody A outer s H vs Q E (hr.deeper _) hsp
 have I:Inv (x3b CX P w K mg base N qual scope f cdv A outer s H E) [] (x4b N vs) H s1:=z4o S hr.hd e0 hl r x
 refine wpAny_mono (ht [] s1 (x4b N vs) H _ I hq) (fun fl s' hs=>?_) fun e s' hs=>hs
 have fin:∀ {σ':St} {H':Hp} {v:V} {u:Value},Inv (x3b CX P w K mg base N qual scope f cdv A outer s H E) [] σ' H' s'→q3z v u→Q v H'→CE outer P w H s Q u s' :=
  fun {σ' H' v u} J rv q=>⟨v,H',J.os,J.bare,J.base,J.hok,rv,q⟩
 cases fl with
 | ret u =>
  obtain⟨v,σ',H',J,rv,q⟩:=hs
  exact fin J rv q
 | next =>
  obtain⟨σ',H',J,q⟩:=hs
  exact fin (v:=V.non) (u:=Value.none) J rfl q
 | brk =>
  obtain⟨_,_,_,q⟩:=hs
  exact False.elim q
 | cont =>
  obtain⟨_,_,_,q⟩:=hs
  exact False.elim q
section
variable {X:Cx} {x:Str} {p pos:Pos} {e:Expr} {es:List Expr} {t:TA} {id T:String} {r:List V→Hp→VK→Prop}
noncomputable def tCB (r:List V→Hp→VK→Prop) (t:TA):TE:=fun σ H Q=>t σ H fun vs H1=>r vs H1 Q
theorem q0n (hc:x0l X (.builtin id) r) (hg:Gl X x) (hm:X.mg x=none) (hv:bootBuiltins x=some (.builtin id)) (ha:PA X (e::es) t) (hn:x ≠ "__name__" := by decide) (hdb:(x==("__debug__" : Str))=false:=by decide)
  (he:starEach (e::es) X.env=(false,eval e X.env)::starEach es X.env:=by rfl) (hpl:(backTo pos (starEach es X.env)).any (·.1)=false:=by rfl):PE X (.Call (.Name x p) (e::es) [] pos) (tCB r t):=by
 intro pins s σ H Q I h
 refine wpAny_Call_Name_kw (x7d I hg hm hv ?_ hn hdb)
 exact PyProof.Rows.callWith_builtin1 (thn (ha pos pins s σ H _ I h) fun us s1 ⟨vs,H1,I1,r1,q1⟩=>hc pins s1 σ H1 vs us Q I1 r1 q1) he hpl
theorem q1q (hc:x0l X (.type T) r) (hg:Gl X x) (hm:X.mg x=none) (hv:bootBuiltins x=some (.type T)) (ha:PA X (e::es) t) (hn:x ≠ "__name__" := by decide) (hdb:(x==("__debug__" : Str))=false:=by decide)
  (he:starEach (e::es) X.env=(false,eval e X.env)::starEach es X.env:=by rfl) (hpl:(backTo pos (starEach es X.env)).any (·.1)=false:=by rfl):PE X (.Call (.Name x p) (e::es) [] pos) (tCB r t):=by
 intro pins s σ H Q I h
 refine wpAny_Call_Name_kw (x7d I hg hm hv ?_ hn hdb)
 exact PyProof.Rows.callWith_type1 (thn (ha pos pins s σ H _ I h) fun us s1 ⟨vs,H1,I1,r1,q1⟩=>hc pins s1 σ H1 vs us Q I1 r1 q1) he hpl
end
end L2
namespace HT
open PySem PyProof.Rows
section
open PySem.SeqAt
open PySem.AutoSeq1 (wpAny_loadPart')
open PySem.MeetsSeq PySem.MeetsSeq2 PySem.MeetsSeq3
end
section
variable {prog:Program} {w:World} {A:Around} {E:Value→Shared→Prop} {s:Shared}
theorem cat_tup {t b:Addr} {vs ws:List Value} {Q:Value→Shared→Prop} (ht:IsTup s.heap t vs.toArray) (hb:IsTup s.heap b ws.toArray) (hv:vs≠[])
  (h1:ws=[]→Q (.ref t) s) (h2:ws≠[]→Q (.ref s.heap.objs.size) { s with heap:=s.heap.push { cls:=.type "tuple",data:=.seq (vs++ws).toArray } })
  (hsz:vs.length+ws.length≤sizeLine):wpAny (model prog w) A (binaryOp .Add (.ref t) (.ref b)) Q E s:=by
 obtain⟨⟨cls,dd,data,sl⟩,ho,hc,n,hd⟩:=id ht
 obtain⟨⟨cls2,dd2,data2,sl2⟩,ho2,hc2,n2,hd2⟩:=id hb
 simp only at hc hd hc2 hd2
 subst hc hd hc2 hd2
 have e:vs.toArray++ws.toArray=(vs++ws).toArray:=by simp
 by_cases hw:ws=[]
 ·exact concat_meets ⟨_,ho,rfl⟩ ⟨_,ho2,rfl⟩ noFill_tuple_add seq_tuple_add PySem.F.slot_tuple_add PySem.F.entry_tuple_add (PySem.F.args_tuple_add_2 _ _)
   (tuple_addW1 t b vs.toArray ws.toArray n n2 dd dd2 sl sl2 (by simpa using hv) (by simp [hw])) ⟨ho,ho2,h1 hw⟩
 ·refine concat_meets ⟨_,ho,rfl⟩ ⟨_,ho2,rfl⟩ noFill_tuple_add seq_tuple_add PySem.F.slot_tuple_add PySem.F.entry_tuple_add (PySem.F.args_tuple_add_2 _ _)
   (tuple_addW2 t b vs.toArray ws.toArray n n2 dd dd2 sl sl2 (by simpa using hv) (by simpa using hw) (by rw [List.size_toArray,List.size_toArray]; exact hsz)) ⟨ho,ho2,?_⟩
  rw [e]
  exact h2 hw
noncomputable def sIx (n d:Nat):Option Int→Nat
 | none=>d
 | some v=>if v < 0 then (v+(n:Int)).toNat else min v.toNat n
theorem sIx_none (n d:Nat):sIx n d none=d:=rfl
theorem sIx_nat (n d k:Nat):sIx n d (some (k:Int))=min k n:=by
 show (if (k:Int) < 0 then ((k:Int)+(n:Int)).toNat else min (k:Int).toNat n)=min k n
 rw [if_neg (by omega),Int.toNat_natCast]
theorem j4g (n d:Nat) (hd:d≤n) (o:Option Int):sIx n d o≤n:=by
 cases o with
 | none=>exact hd
 | some v =>
  show (if v < 0 then (v+(n:Int)).toNat else min v.toNat n)≤n
  by_cases hv:v < 0
  ·rw [if_pos hv]; omega
  ·rw [if_neg hv]; exact Nat.min_le_right _ _
theorem z2g (v:Int) (n d:Nat):(if v < 0 then max (v+(n:Int)) 0 else min v (n:Int))=((sIx n d (some v):Nat):Int):=by
 show (if v < 0 then max (v+(n:Int)) 0 else min v (n:Int))=(((if v < 0 then (v+(n:Int)).toNat else min v.toNat n):Nat):Int)
 by_cases hv:v < 0
 ·simp only [if_pos hv]; omega
 ·simp only [if_neg hv]; omega
theorem z0x (lo hi:Option Int) (n:Nat):Builtin.Slice.sliceAdjust lo hi 1 (n:Int)=(((sIx n 0 lo:Nat):Int),((sIx n n hi:Nat):Int)):=by
 have h1:¬ ((1:Int) < 0):=by omega
 unfold Builtin.Slice.sliceAdjust
 simp only [h1,if_false]
 refine Prod.ext ?_ ?_
 ·cases lo with
  | none=>rfl
  | some v=>exact z2g v n 0
 ·cases hi with
  | none=>rfl
  | some v=>exact z2g v n n
theorem z1h (i j:Nat):Builtin.Slice.slicePlaces (i:Int) (j:Int) 1=j - i:=by
 unfold Builtin.Slice.slicePlaces
 have h1:(1:Int) > 0:=by omega
 simp only [h1,if_true,Int.ediv_one]
 split <;> omega
theorem x3k {v:Value} {o:Option Int} {Q:Option Int→Shared→Prop} (p:IsPart v o) (h:Q o s):wpAny (model prog w) A (Builtin.Slice.slicePartIndex v) Q E s:=by
 cases p with
 | none=>exact slicePart_none h
 | int i t=>exact slicePart_int h
theorem q6p {sl:Addr} {vl vu:Value} {lo hi:Option Int} {n:Nat} {Q:Int × Int × Nat→Shared→Prop} (hs:s.heap.IsSliceOf sl vl vu .none) (pl:IsPart vl lo) (pu:IsPart vu hi)
  (h:Q (((sIx n 0 lo:Nat):Int),1,sIx n n hi - sIx n 0 lo) s):wpAny (model prog w) A (Builtin.Slice.sliceApplied (.ref sl) (pure (n:Int))) Q E s:=by
 obtain⟨os,hos,hcs,hds⟩:=id hs
 unfold Builtin.Slice.sliceApplied Builtin.Slice.sliceFields
 refine wpAny_bind (wpAny_bind (wpAny_field hos hds (x:=vl) rfl (wpAny_bind (wpAny_field hos hds (x:=vu) rfl (wpAny_bind (wpAny_field hos hds (x:=.none) rfl (wpAny_pure ?_)))))))
 refine wpAny_bind (slicePart_none ?_)
 show wpAny _ _ (if ((1:Int)==0)=true then _ else _) _ _ s
 rw [if_neg (by decide)]
 refine wpAny_bind (x3k pl (wpAny_bind (x3k pu (wpAny_bind (wpAny_pure ?_)))))
 show wpAny _ _ (match Builtin.Slice.sliceAdjust lo hi 1 (n:Int) with | (lo,hi)=>pure (lo,(1:Int),Builtin.Slice.slicePlaces lo hi 1)) _ _ s
 rw [z0x lo hi n]
 show wpAny _ _ (pure (((sIx n 0 lo:Nat):Int),(1:Int),Builtin.Slice.slicePlaces ((sIx n 0 lo:Nat):Int) ((sIx n n hi:Nat):Int) 1)) _ _ s
 rw [z1h]
 exact wpAny_pure h
theorem z7u (xs:Array Value) (i k:Nat):((List.range k).filterMap fun (m:Nat)=>xs[((i:Int)+(m:Int)*1).toNat]?).toArray=((xs.toList.drop i).take k).toArray:=by
 have e:(fun (m:Nat)=>xs[((i:Int)+(m:Int)*1).toNat]?)=fun m=>xs[i+m]? := by
  funext m
  have:((i:Int)+(m:Int)*1).toNat=i+m:=by omega
  rw [this]
 rw [e]
 have:=pick_run xs i k
 rw [List.filterMap_map] at this
 have e2:((fun x=>xs[x]?) ∘ fun x=>i+x)=fun m=>xs[i+m]? := rfl
 rw [e2] at this
 rw [this]
theorem getItem_tuple_cut {t sl:Addr} {items:Array Value} {vl vu:Value} {lo hi:Option Int} {Q:Value→Shared→Prop} (ht:IsTup s.heap t items) (hs:s.heap.IsSliceOf sl vl vu .none) (pl:IsPart vl lo) (pu:IsPart vu hi)
  (hw:¬ (sIx items.size 0 lo=0∧sIx items.size items.size hi=items.size))
  (h:Q (.ref s.heap.objs.size) { s with heap:=s.heap.push { cls:=.type "tuple",data:=.seq ((items.toList.drop (sIx items.size 0 lo)).take (sIx items.size items.size hi - sIx items.size 0 lo)).toArray } })
  (hsz:items.size≤sizeLine):wpAny (model prog w) A (getItem (.ref t) (.ref sl)) Q E s:=by
 have htake:sizeOk (.seq ((items.toList.drop (sIx items.size 0 lo)).take (sIx items.size items.size hi - sIx items.size 0 lo)).toArray):=by
  show ((items.toList.drop (sIx items.size 0 lo)).take (sIx items.size items.size hi - sIx items.size 0 lo)).toArray.size≤sizeLine
  rw [List.size_toArray,List.length_take,List.length_drop,Array.length_toList]
  omega
 have hj:sIx items.size items.size hi≤items.size:=j4g _ _ (Nat.le_refl _) hi
 obtain⟨os,hos,hcs,hds⟩:=id hs
 have hTs:s.TypeIs (.ref sl) "slice" := ⟨os,hos,hcs⟩
 unfold getItem
 try with_reducible refine wpAny_holding ?_
 first | refine wpAny_bind (wpAny_pure ?_) | skip
 refine wpAny_bind (wpAny_sequenceKey ht.typeIs (by decide) ?_)
 refine wpAny_bind (wpAny_callSpecial?_slot (name:=Str.ofString "__getitem__") ht.typeIs PyProof.Rows.slot_tuple_getitem
  (wpAny_call_entry PyProof.Rows.slot_tuple_getitem ht.typeIs entry_tuple_getitem ?_ (args_tuple_getitem _ _)))
 show wpAny _ _ (Builtin.Tuple.tupleItemsOf (.ref t) >>= _) _ _ s
 refine wpAny_bind (tupleItemsOf_ ht ?_)
 refine wpAny_bind (wpAny_typeOf hTs ?_)
 rw [if_pos (by decide)]
 refine wpAny_bind (q6p hs pl pu ?_)
 have hno:¬ ((((sIx items.size 0 lo:Nat):Int)==0 && (1:Int)==1 && (sIx items.size items.size hi - sIx items.size 0 lo)==items.size)=true):=by
  intro q
  rw [Bool.and_eq_true,Bool.and_eq_true] at q
  have q1:((sIx items.size 0 lo:Nat):Int)=0:=eq_of_beq q.1.1
  have q2:sIx items.size items.size hi - sIx items.size 0 lo=items.size:=eq_of_beq q.2
  exact hw ⟨by omega,by omega⟩
 show wpAny _ _ (if (((sIx items.size 0 lo:Nat):Int)==0 && (1:Int)==1 && (sIx items.size items.size hi - sIx items.size 0 lo)==items.size)=true then _ else _) _ _ s
 rw [if_neg hno,z7u]
 first
  | exact wpAny_bind (m:=Builtin.Tuple.tupleExact _) (wpAny_newObj_type (wpAny_pure ⟨_,rfl,wpAny_pure h⟩) htake)
  | exact wpAny_bind (m:=Builtin.Tuple.tupleExact _) (wpAny_newObj_type (wpAny_bind (wpAny_pure (wpAny_pure ⟨_,rfl,wpAny_pure h⟩))) htake)
  | exact wpAny_bind (wpAny_bind (m:=Builtin.Tuple.tupleExact _) (wpAny_newObj_type (wpAny_pure (wpAny_pure ⟨_,rfl,wpAny_pure h⟩)) htake))
  | exact wpAny_bind (wpAny_bind (m:=Builtin.Tuple.tupleExact _) (wpAny_newObj_type (wpAny_pure ⟨_,rfl,wpAny_pure h⟩) htake))
end
end HT
namespace L2
open PySem PySem.Spec PyProof.Rows
noncomputable abbrev TO:=St→Hp→(Option Int→Hp→Prop)→Prop
noncomputable def PO (X:Cx) (e:Option Expr) (t:TO):Prop :=
 ∀ (pins:List (Addr × Obj)) (s:Shared) (σ:St) (H:Hp) (Q:Option Int→Hp→Prop),Inv X pins σ H s→t σ H Q →
  wpAny (model X.prog X.w) X.A (evalPart e X.env) (fun u s'=>∃ o H',Inv X pins σ H' s'∧IsPart u o∧Q o H') X.xe s
noncomputable def j0b:TO:=fun _ H Q=>Q none H
noncomputable def j6r (t:TE):TO:=fun σ H Q=>t σ H fun x H1=>∃ i,x=.int i∧Q (some i) H1
section
variable {X:Cx} {e:Expr} {te:TE} {lo hi:Option Expr} {tl th:TO} {pos p2:Pos}
theorem q1p:PO X none j0b:=by
 intro pins s σ H Q I h
 rw [evalPart_none]
 exact wpAny_pure ⟨none,H,I,.none,h⟩
theorem q1m (h:PE X e te):PO X (some e) (j6r te):=by
 intro pins s σ H Q I hw
 rw [evalPart_some]
 refine thn (h pins s σ H _ I hw) fun u s1 ⟨x,H1,I1,r1,q1⟩=>?_
 obtain⟨i,rfl,q⟩:=q1
 obtain⟨t,rfl⟩:=r1
 exact⟨some i,H1,I1,.int i t,q⟩
noncomputable def SlR (X:Cx) (r:V→Option Int→Option Int→Hp→VK→Prop):Prop :=
 ∀ (pins:List (Addr × Obj)) (s:Shared) (σ:St) (H:Hp) (x:V) (v vl vu:Value) (lo hi:Option Int) (sl:Addr) (Q:VK),Inv X pins σ H s→q3z x v→s.heap.IsSliceOf sl vl vu .none→IsPart vl lo→IsPart vu hi→r x lo hi H Q →
  ∃ T id,typeLookup (.type T) "__getitem__" = pure (some (.builtin id))∧s.TypeIs v T∧wpAny (model X.prog X.w) X.A (getItem v (.ref sl)) (EP X pins σ Q) X.xe s
noncomputable def tSl (r:V→Option Int→Option Int→Hp→VK→Prop) (te:TE) (tl th:TO):TE:=fun σ H Q=>te σ H fun x H1=>tl σ H1 fun l H2=>th σ H2 fun u H3=>r x l u H3 Q
theorem q1g {r:V→Option Int→Option Int→Hp→VK→Prop} (hr:SlR X r) (he:PE X e te) (hl:PO X lo tl) (hu:PO X hi th):PE X (.Subscript e (.Slice lo hi none p2) pos) (tSl r te tl th):=by
 intro pins s σ H Q I h
 refine Subscript_ (thn (he pins s σ H _ I h) fun v s1 ⟨x,H1,I1,r1,q1⟩=>?_)
 refine wpAny_Slice (thn (hl pins s1 σ H1 _ I1 q1) fun vl s2 ⟨l,H2,I2,pl,q2⟩=>thn (hu pins s2 σ H2 _ I2 q2) fun vu s3 ⟨u,H3,I3,pu,q3⟩=>?_)
 rw [evalPart_none]
 refine wpAny_pure ?_
 have I4:Inv X pins σ H3 { s3 with heap:=s3.heap.push { cls:=.type "slice",data:=.fields #[vl,vu,.none] } }:=I3.kept (t':=s3.toks) fun b ob q=>Heap.get?_push_of_some _ q
 obtain⟨T,id,hT,ht,hg⟩:=hr pins { s3 with heap:=s3.heap.push { cls:=.type "slice",data:=.fields #[vl,vu,.none] } } σ H3 x v vl vu l u s3.heap.objs.size Q I4 r1 (Heap.IsSliceOf.new ..) pl pu q3
 show wpAny (model X.prog X.w) X.A (subscriptTail e (.Slice lo hi none p2) v (.ref s3.heap.objs.size)) (EP X pins σ Q) X.xe { s3 with heap:=s3.heap.push { cls:=.type "slice",data:=.fields #[vl,vu,.none] } }
 exact tail_any (ops:=[.ref s3.heap.objs.size,v]) ht hT hg (by with_unfolding_all rfl)
noncomputable def q8c (xs:List V) (lo hi:Option Int):List V:=(xs.drop (HT.sIx xs.length 0 lo)).take (HT.sIx xs.length xs.length hi - HT.sIx xs.length 0 lo)
theorem x1m (xs:List V) (lo hi:Option Int):(q8c xs lo hi).length≤xs.length:=by
 unfold q8c
 rw [List.length_take,List.length_drop]
 omega
noncomputable def j8k (K:Frag):V→Option Int→Option Int→Hp→VK→Prop:=fun x lo hi H Q=>∃ a xs,x=.ref a∧SqT K H a xs ∧
 ¬ (HT.sIx xs.length 0 lo=0∧HT.sIx xs.length xs.length hi=xs.length)∧∀ p,H p=none→Q (.ref p) (upd H p (.tup (q8c xs lo hi)))
theorem x3j:SlR X (j8k X.K):=by
 intro pins s σ H x v vl vu lo hi sl Q I rx hs pl pu h
 obtain⟨a,xs,rfl,hx,hw,q⟩:=h
 cases rx
 obtain⟨its,r,ht,hz⟩:=I.tuple hx
 have hlen:its.toArray.size=xs.length:=by rw [List.size_toArray]; exact r.length.symm
 refine⟨"tuple",_,PyProof.Rows.slot_tuple_getitem.lookup,ht.typeIs,?_⟩
 refine HT.getItem_tuple_cut ht hs pl pu (by rw [hlen]; exact hw) ?_ (by rw [hlen]; exact hz)
 rw [hlen]
 refine⟨.ref s.heap.objs.size,_,I.laid (t':=s.toks) (o:=.tup (q8c xs lo hi)) (fun b ob q=>Heap.get?_push_of_some _ q) (Nat.le_refl _) ?_,rfl,q _ (I.hok.fresh (Nat.le_refl _))⟩
 exact⟨Nat.le_trans (x1m xs lo hi) hz,_,(r.drop (HT.sIx xs.length 0 lo)).take (HT.sIx xs.length xs.length hi - HT.sIx xs.length 0 lo),IsTup.new _ _⟩
noncomputable def j6d (K:Frag):R2:=fun x y H Q=>∃ a b xs ys,x=.ref a∧y=.ref b∧SqT K H a xs∧SqT K H b ys∧xs≠[]∧xs.length+ys.length≤sizeLine ∧
 (ys=[]→Q (.ref a) H)∧(ys≠[]→∀ p,H p=none→Q (.ref p) (upd H p (.tup (xs++ys))))
theorem q2x.nil_iff {xs:List V} {us:List Value} (r:q2x xs us):us=[]↔xs=[]:=by
 cases r with
 | nil=>simp
 | cons _ _=>simp
theorem z9d:OpR X (binaryOp .Add) (j6d X.K):=by
 intro pins s σ H x y v u Q I rx ry h
 obtain⟨a,b,xs,ys,rfl,rfl,ha,hb,hx,hz,q1,q2⟩:=h
 cases rx
 cases ry
 obtain⟨its,r1,p1,_⟩:=I.tuple ha
 obtain⟨its2,r2,p2,_⟩:=I.tuple hb
 refine HT.cat_tup p1 p2 (fun z=>hx (r1.nil_iff.mp z)) (fun z=>⟨.ref a,H,I,rfl,q1 (r2.nil_iff.mp z)⟩) (fun z=>?_) (by rw [← r1.length,← r2.length]; exact hz)
 refine⟨.ref s.heap.objs.size,_,I.laid (t':=s.toks) (o:=.tup (xs++ys)) (fun b ob q=>Heap.get?_push_of_some _ q) (Nat.le_refl _) ?_,rfl,q2 (fun w=>z (r2.nil_iff.mpr w)) _ (I.hok.fresh (Nat.le_refl _))⟩
 exact⟨by rw [List.length_append]; exact hz,_,r1.append r2,IsTup.new _ _⟩
end
noncomputable def ixN (n:Nat) (i:Int):Option Nat:=if 0≤i then (if i < n then some i.toNat else none) else if -(n:Int)≤i then some (i+n).toNat else none
noncomputable def atI {α:Type} (xs:List α) (i:Int):Option α:=(ixN xs.length i).bind fun j=>xs[j]?
theorem j1d {n:Nat} {i:Int} {j:Nat} (h:ixN n i=some j):seqIndex? i n=some j∧j < n ∧ -(n:Int)≤i∧i < n:=by
 unfold ixN at h
 by_cases h0:0≤i
 ·rw [if_pos h0] at h
  by_cases h1:i < n
  ·rw [if_pos h1] at h
   have e:i.toNat=j:=Option.some.inj h
   exact⟨by rw [seqIndex_of h0 h1,e],by omega,by omega,h1⟩
  ·rw [if_neg h1] at h; cases h
 ·rw [if_neg h0] at h
  by_cases h1 : -(n:Int)≤i
  ·rw [if_pos h1] at h
   have e:(i+n).toNat=j:=Option.some.inj h
   exact⟨by rw [seqIndex_neg (by omega) h1,e],by omega,h1,by omega⟩
  ·rw [if_neg h1] at h; cases h
theorem x7q {α:Type} {xs:List α} {i:Int} {v:α} (h:atI xs i=some v):∃ j,seqIndex? i xs.length=some j∧xs[j]? = some v∧j < xs.length ∧ -(xs.length:Int)≤i∧i < xs.length:=by
 unfold atI at h
 cases e:ixN xs.length i with
 | none=>rw [e] at h; cases h
 | some j =>
  rw [e] at h
  obtain⟨h1,h2,h3,h4⟩:=j1d e
  exact⟨j,h1,h,h2,h3,h4⟩
theorem q0k {α:Type} {xs:List α} {j:Nat} {v:α} (h:xs[j]? = some v):atI xs (j:Int)=some v:=by
 have hj:j < xs.length:=(List.getElem?_eq_some_iff.mp h).1
 have e:ixN xs.length (j:Int)=some j:=by
  unfold ixN
  rw [if_pos (by omega),if_pos (by omega)]; simp
 unfold atI; rw [e]; exact h
noncomputable def x1v (b:Expr):Prop:=∀ o i,subscripted b false o i=operate [o,i] (getItem o i)
noncomputable def IxR (X:Cx) (r:R2):Prop :=
 ∀ (value slice:Expr) (pins:List (Addr × Obj)) (s:Shared) (σ:St) (H:Hp) (x y:V) (v u:Value) (Q:VK),Inv X pins σ H s→q3z x v→q3z y u→r x y H Q →
  subscripted slice false v u=operate [v,u] (getItem v u)→wpAny (model X.prog X.w) X.A (subscriptTail value slice v u) (EP X pins σ Q) X.xe s
noncomputable def MtR (X:Cx) (id:String) (r:V→List V→Hp→VK→Prop):Prop :=
 ∀ (pins:List (Addr × Obj)) (s:Shared) (σ:St) (H:Hp) (x:V) (xs:List V) (v:Value) (us:List Value) (Q:VK),Inv X pins σ H s→q3z x v→q2x xs us→r x xs H Q →
  wpAny (model X.prog X.w) X.A (call (.builtin id) (v::us)) (EP X pins σ Q) X.xe s
section
variable {X:Cx} {a b:Expr} {ta tb:TE} {pos:Pos}
theorem q1i {r:R2} (hr:IxR X r) (ha:PE X a ta) (hb:PE X b tb) (hs:x1v b):PE X (.Subscript a b pos) (tOp r ta tb):=by
 intro pins s σ H Q I h
 exact Subscript_ (j6f ha hb I h fun v u s2 x y H2 I2 rx ry q=>hr a b pins s2 σ H2 x y v u Q I2 rx ry q (hs _ _))
noncomputable def j9b (K:Frag):R2:=fun x y H Q=>∃ p xs i v,x=.ref p∧y=.int i∧SqL K H p xs∧atI xs i=some v∧Q v H
noncomputable def j9g (K:Frag):R2:=fun x y H Q=>∃ p xs i v,x=.ref p∧y=.int i∧SqT K H p xs∧atI xs i=some v∧Q v H
noncomputable def j8d:R2:=fun x y H Q=>∃ z i c,x=.str z∧y=.int i∧z.length≤sizeLine∧atI z.cps.toList i=some c∧Q (.str ⟨#[c]⟩) H
theorem q1b:IxR X (j9b X.K):=by
 intro value slice pins s σ H x y v u Q I rx ry h hs
 obtain⟨p,xs,i,z,rfl,rfl,hq,he,q⟩:=h
 cases rx
 obtain⟨t,rfl⟩:=ry
 obtain⟨its,r,pl,hz⟩:=I.list hq
 obtain⟨j,h1,h2,h3,h4,h5⟩:=x7q he
 obtain⟨w,ew,rw'⟩:=r.get h2
 have hl:=r.length
 have hn:=x6r
 have fin:EP X pins σ Q w s:=⟨z,H,I,rw',q⟩
 by_cases h0:0≤i
 ·have hj:i.toNat=j:=by
   rw [seqIndex_of h0 h5] at h1
   exact Option.some.inj h1
  exact item_listR pl.isList h0 (by omega) (by rw [hj]; simpa using ew) fin hs
 ·have hj:(i+(its.toArray.size:Int)).toNat=j:=by
   rw [seqIndex_neg (by omega) h4] at h1
   rw [List.size_toArray,← hl]
   exact Option.some.inj h1
  exact subscriptTail_builtinR (x:=w) pl.isList.typeIs slot_list_getitem.lookup
   (wpAny_getItem_list_neg (Q:=fun r s'=>r=w∧EP X pins σ Q r s') pl.isList (by omega) (by rw [List.size_toArray] <;> omega) (by omega) (by rw [hj]; simpa using ew) ⟨rfl,fin⟩) hs
theorem q2q:IxR X (j9g X.K):=by
 intro value slice pins s σ H x y v u Q I rx ry h hs
 obtain⟨p,xs,i,z,rfl,rfl,hq,he,q⟩:=h
 cases rx
 obtain⟨t,rfl⟩:=ry
 obtain⟨its,r,pl,hz⟩:=I.tuple hq
 obtain⟨j,h1,h2,h3,h4,h5⟩:=x7q he
 obtain⟨w,ew,rw'⟩:=r.get h2
 have hl:=r.length
 have hn:=x6r
 have fin:EP X pins σ Q w s:=⟨z,H,I,rw',q⟩
 exact subscriptTail_builtinR (x:=w) pl.typeIs slot_tuple_getitem.lookup
  (getItem_tuple (j:=j) (Q:=fun r s'=>r=w∧EP X pins σ Q r s') pl (by omega) (by omega) (by rw [List.size_toArray,← hl]; exact h1) (by simpa using ew) ⟨rfl,fin⟩) hs
theorem x9x:IxR X j8d:=by
 intro value slice pins s σ H x y v u Q I rx ry h hs
 obtain⟨z,i,c,rfl,rfl,hz,he,q⟩:=h
 obtain⟨t,rfl⟩:=rx
 obtain⟨t',rfl⟩:=ry
 obtain⟨j,h1,h2,h3,h4,h5⟩:=x7q he
 have hl:z.cps.toList.length=z.length:=by simp [Str.length]
 rw [hl] at h1 h4 h5
 have hn:=x6r
 exact tail_any (typeIs_str s z t) slot_str_getitem.lookup (getItem_str (c:=c) (by
  have e1:decide (i < -(2 ^ 63:Int))=false:=decide_eq_false (by omega)
  have e2:decide (i≥2 ^ 63)=false:=decide_eq_false (by omega)
  rw [e1,e2,Bool.or_false]) (by rw [h1]; simpa using h2) ⟨.str ⟨#[c]⟩,H,I.tok _,⟨_,rfl⟩,q⟩) hs
theorem x5r (lo hi:Option Int) (n:Nat):(sliceBounds lo hi none n).1=((HT.sIx n 0 lo:Nat):Int)∧(sliceBounds lo hi none n).2.1=((HT.sIx n n hi:Nat):Int)∧(sliceBounds lo hi none n).2.2=1:=by
 refine⟨?_,?_,rfl⟩
 ·cases lo with
  | none=>simp [sliceBounds,HT.sIx]
  | some i =>
   simp only [sliceBounds,HT.sIx,Option.getD_none,show (1:Int) > 0 by decide,if_true]
   by_cases h:i < 0
   ·simp only [h,if_true] <;> omega
   ·simp only [h,if_false] <;> omega
 ·cases hi with
  | none=>simp [sliceBounds,HT.sIx]
  | some i =>
   simp only [sliceBounds,HT.sIx,Option.getD_none,show (1:Int) > 0 by decide,if_true]
   by_cases h:i < 0
   ·simp only [h,if_true] <;> omega
   ·simp only [h,if_false] <;> omega
theorem x4p (its:List Value) (lo hi:Option Int):slicePick its.toArray lo hi none=((its.drop (HT.sIx its.length 0 lo)).take (HT.sIx its.length its.length hi - HT.sIx its.length 0 lo)).toArray:=by
 obtain⟨h1,h2,h3⟩:=x5r lo hi its.toArray.size
 unfold slicePick
 rw [h1,h2,h3]
 simp only [sliceRange_one,pick_run,List.size_toArray] <;> rfl
noncomputable def j6y (K:Frag):V→Option Int→Option Int→Hp→VK→Prop:=fun x lo hi H Q=>∃ a xs,x=.ref a∧SqL K H a xs∧∀ p,H p=none→Q (.ref p) (upd H p (.lst (q8c xs lo hi)))
theorem q3p:SlR X (j6y X.K):=by
 intro pins s σ H x v vl vu lo hi sl Q I rx hs pl pu h
 obtain⟨a,xs,rfl,hx,q⟩:=h
 cases rx
 obtain⟨its,r,ht,hz⟩:=I.list hx
 have hlen:=r.length
 refine⟨"list",_,slot_list_getitem.lookup,ht.isList.typeIs,?_⟩
 refine wpAny_getItem_list_slice ht.isList hs pl pu .none (by simp) ?_ (by rw [List.size_toArray] <;> omega)
 rw [x4p,← hlen]
 refine⟨.ref s.heap.objs.size,_,I.laid (t':=s.toks) (o:=.lst (q8c xs lo hi)) (fun b ob q=>Heap.get?_push_of_some _ q) (Nat.le_refl _) ?_,rfl,q _ (I.hok.fresh (Nat.le_refl _))⟩
 exact⟨Nat.le_trans (x1m xs lo hi) hz,_,0,(r.drop (HT.sIx xs.length 0 lo)).take (HT.sIx xs.length xs.length hi - HT.sIx xs.length 0 lo),Heap.get?_push_size _ rfl⟩
noncomputable def x5s:V→Bool
 | .non=>true
 | .bl _=>true
 | .int _=>true
 | .str _=>true
 | _=>false
noncomputable def eqV:V→V→Bool
 | .non,.non=>true
 | .bl a,.bl b=>a==b
 | .bl a,.int b=>(if a then 1 else 0)==b
 | .int a,.bl b=>a==(if b then 1 else 0)
 | .int a,.int b=>a==b
 | .str a,.str b=>a==b
 | _,_=>false
theorem q9g {A:Around} {s:Shared} {y x:V} {u v:Value} (ry:q3z y u) (rx:q3z x v) (fy:x5s y=true) (fx:x5s x=true):SeqAt.EqAt A s u v (eqV y x):=by
 cases y with
 | non =>
  cases ry
  cases x with
  | non=>cases rx; exact SeqAt.EqAt.same _
  | bl b=>cases rx; exact SeqAt.EqAt.none_bool b
  | int b=>obtain⟨t,rfl⟩:=rx; exact SeqAt.EqAt.none_int b t
  | str b=>obtain⟨t,rfl⟩:=rx; exact SeqAt.EqAt.none_str b t
  | _=>exact absurd (show false=true from fx) Bool.false_ne_true
 | bl a =>
  cases ry
  cases x with
  | non=>cases rx; exact SeqAt.EqAt.bool_none a
  | bl b=>cases rx; exact SeqAt.EqAt.bool_bool a b
  | int b=>obtain⟨t,rfl⟩:=rx; exact SeqAt.EqAt.bool_int a b t
  | str b=>obtain⟨t,rfl⟩:=rx; exact SeqAt.EqAt.bool_str a b t
  | _=>exact absurd (show false=true from fx) Bool.false_ne_true
 | int a =>
  obtain⟨t',rfl⟩:=ry
  cases x with
  | non=>cases rx; exact SeqAt.EqAt.int_none a t'
  | bl b=>cases rx; exact SeqAt.EqAt.int_bool a t' b
  | int b=>obtain⟨t,rfl⟩:=rx; exact SeqAt.EqAt.int_int a t' b t
  | str b=>obtain⟨t,rfl⟩:=rx; exact SeqAt.EqAt.int_str a t' b t
  | _=>exact absurd (show false=true from fx) Bool.false_ne_true
 | str a =>
  obtain⟨t',rfl⟩:=ry
  cases x with
  | non=>cases rx; exact SeqAt.EqAt.str_none a t'
  | bl b=>cases rx; exact SeqAt.EqAt.str_bool a t' b
  | int b=>obtain⟨t,rfl⟩:=rx; exact SeqAt.EqAt.str_int a t' b t
  | str b=>obtain⟨t,rfl⟩:=rx; exact SeqAt.EqAt.str_str a t' b t
  | _=>exact absurd (show false=true from fx) Bool.false_ne_true
 | _=>exact absurd (show false=true from fy) Bool.false_ne_true
noncomputable def eqU (x:V) (u:Value):Bool:=match u with
 | .none=>eqV .non x
 | .bool b=>eqV (.bl b) x
 | .int i _=>eqV (.int i) x
 | .str z _=>eqV (.str z) x
 | _=>false
theorem z8w {x y:V} {u:Value} (r:q3z y u) (f:x5s y=true):eqU x u=eqV y x:=by
 cases y with
 | non=>cases r; rfl
 | bl b=>cases r; rfl
 | int i=>obtain⟨t,rfl⟩:=r; rfl
 | str z=>obtain⟨t,rfl⟩:=r; rfl
 | _=>exact absurd (show false=true from f) Bool.false_ne_true
theorem x1n {x:V}:∀ {xs:List V} {us:List Value},q2x xs us→xs.all x5s=true→us.any (eqU x)=xs.any fun y=>eqV y x
 | _,_,.nil,_=>rfl
 | y::xs,u::us,.cons r t,f=>by
  rw [List.all_cons,Bool.and_eq_true] at f
  rw [List.any_cons,List.any_cons,z8w r f.1,x1n t f.2]
theorem q9d {A:Around} {s:Shared} {x:V} {v:Value} (rx:q3z x v) (fx:x5s x=true):∀ {xs:List V} {us:List Value},q2x xs us→xs.all x5s=true→∀ u∈us,SeqAt.EqAt A s u v (eqU x u)
 | _,_,.nil,_=>fun u hu=>by cases hu
 | y::xs,u::us,.cons r t,f=>fun u' hu=>by
  rw [List.all_cons,Bool.and_eq_true] at f
  rcases List.mem_cons.mp hu with rfl | hu
  ·rw [z8w r f.1]; exact q9g r rx f.1 fx
  ·exact q9d rx fx t f.2 u' hu
noncomputable def inV (x:V) (xs:List V):Bool:=xs.any fun y=>eqV y x
noncomputable def rIn (K:Frag) (neg:Bool):R2:=fun x y H Q=>∃ p xs,y=.ref p∧(SqL K H p xs∨SqT K H p xs)∧x5s x=true∧xs.all x5s=true∧Q (.bl (if neg then !inV x xs else inV x xs)) H
theorem x1g:OpR X (compareOp .In) (rIn X.K false):=by
 intro pins s σ H x y v u Q I rx ry h
 obtain⟨p,xs,rfl,hq,fx,fs,q⟩:=h
 cases ry
 rcases hq with hq | hq
 ·obtain⟨its,r,pl,hz⟩:=I.list hq
  refine SeqAt.in_listAt (eqU x) pl.isList (fun w hw=>q9d rx fx r fs w (by simpa using hw)) ⟨.bl _,H,I,rfl,?_⟩
  rw [show its.toArray.any (eqU x)=its.any (eqU x) by simp,x1n r fs]
  exact q
 ·obtain⟨its,r,pl,hz⟩:=I.tuple hq
  refine SeqAt.in_tupleAt (eqU x) pl (fun w hw=>q9d rx fx r fs w (by simpa using hw)) ⟨.bl _,H,I,rfl,?_⟩
  rw [show its.toArray.any (eqU x)=its.any (eqU x) by simp,x1n r fs]
  exact q
theorem x6o:OpR X (compareOp .NotIn) (rIn X.K true):=by
 intro pins s σ H x y v u Q I rx ry h
 obtain⟨p,xs,rfl,hq,fx,fs,q⟩:=h
 cases ry
 rcases hq with hq | hq
 ·obtain⟨its,r,pl,hz⟩:=I.list hq
  refine SeqAt.notIn_listAt (eqU x) pl.isList (fun w hw=>q9d rx fx r fs w (by simpa using hw)) ⟨.bl _,H,I,rfl,?_⟩
  rw [show its.toArray.any (eqU x)=its.any (eqU x) by simp,x1n r fs]
  exact q
 ·obtain⟨its,r,pl,hz⟩:=I.tuple hq
  refine SeqAt.notIn_tupleAt (eqU x) pl (fun w hw=>q9d rx fx r fs w (by simpa using hw)) ⟨.bl _,H,I,rfl,?_⟩
  rw [show its.toArray.any (eqU x)=its.any (eqU x) by simp,x1n r fs]
  exact q
theorem q0l:x0l X (.builtin "len") (fun xs H Q=>∃ p ys,xs=[.ref p]∧(SqL X.K H p ys∨SqT X.K H p ys)∧Q (.int ys.length) H):=by
 intro pins s σ H xs us Q I r h
 obtain⟨p,ys,rfl,hq,q⟩:=h
 obtain⟨u,rfl,rx⟩:=x0q r
 cases rx
 have hn:=x6r
 rcases hq with hq | hq
 ·obtain⟨its,r',pl,hz⟩:=I.list hq
  have hlen:=r'.length
  exact Calls.call_len_list pl.isList (by simp only [List.size_toArray] <;> omega) ⟨.int ys.length,H,I.tok _,⟨s.toks+1,by rw [List.size_toArray,hlen]⟩,q⟩
 ·obtain⟨its,r',pl,hz⟩:=I.tuple hq
  have hlen:=r'.length
  exact len_tuple pl (by simp only [List.size_toArray] <;> omega) ⟨.int ys.length,H,I.tok _,⟨s.toks+1,by rw [List.size_toArray,hlen]⟩,q⟩
theorem q2v:x0l X (.builtin "len") (fun xs H Q=>∃ z,xs=[.str z]∧z.length≤sizeLine∧Q (.int z.length) H):=by
 intro pins s σ H xs us Q I r h
 obtain⟨z,rfl,hz,q⟩:=h
 obtain⟨u,rfl,t,rfl⟩:=x0q r
 have hn:=x6r
 exact len_str (by omega) ⟨.int z.length,H,I.tok _,⟨_,rfl⟩,q⟩
theorem q1n:x0l X (.type "tuple") (fun xs H Q=>∃ p ys,xs=[.ref p]∧((SqL X.K H p ys∧∀ l,H l=none→Q (.ref l) (upd H l (.tup ys)))∨(SqT X.K H p ys∧Q (.ref p) H))):=by
 intro pins s σ H xs us Q I r h
 obtain⟨p,ys,rfl,h⟩:=h
 obtain⟨u,rfl,rx⟩:=x0q r
 cases rx
 rcases h with ⟨hq,q⟩ | ⟨hq,q⟩
 ·obtain⟨its,r',pl,hz⟩:=I.list hq
  have hlen:=r'.length
  refine call_tuple_list pl.isList (fun h' kp=>?_) (by simp only [List.size_toArray] <;> omega)
  have I1:Inv X pins σ H { s with heap:=h' }:=I.kept (t':=s.toks) kp
  have I2:Inv X pins σ (upd H h'.objs.size (.tup ys)) { s with heap:=h'.push { cls:=.type "tuple",data:=.seq its.toArray } } :=
   I1.laid (t':=s.toks) (fun b o e=>Heap.get?_push_of_some _ e) (Nat.le_refl _) (show q4n X.prog X.w _ _ _ (.tup ys) from ⟨hz,its,r',IsTup.new _ _⟩)
  exact⟨.ref h'.objs.size,_,I2,rfl,q _ (I1.hok.fresh (Nat.le_refl _))⟩
 ·obtain⟨its,r',pl,hz⟩:=I.tuple hq
  exact call_tuple_same pl ⟨.ref p,H,I,rfl,q⟩
noncomputable def tyV (K:Frag) (T:String) (x:V) (H:Hp):Prop:=match x with
 | .str _=>T = "str"
 | .int _=>T = "int"
 | .ref p=>(T = "list" ∧ ∃ xs,SqL K H p xs)∨(T = "tuple" ∧ ∃ o,K.lookup p=some o∧o.cls=.type "tuple" ∧ o.dict=none) ∨
   (T = "dict" ∧ ((∃ kvs,H p=some (.dK kvs))∨∃ kvs,H p=some (.dT kvs)))∨(T = "set" ∧ ∃ S n,H p=some (.set S n))
 | _=>False
theorem j2b {pins:List (Addr × Obj)} {σ:St} {H:Hp} {s:Shared} {T:String} {x:V} {v:Value} (I:Inv X pins σ H s) (r:q3z x v) (ty:tyV X.K T x H) :
  s.TypeIs v T∧∀ a,v=.ref a→∃ ob,s.heap.get? a=some ob∧ob.dict=none:=by
 cases x with
 | str z =>
  obtain⟨t,rfl⟩:=r
  cases (show T = "str" from ty)
  exact⟨typeIs_str s z t,fun _ e=>nomatch e⟩
 | int i =>
  obtain⟨t,rfl⟩:=r
  cases (show T = "int" from ty)
  exact⟨typeIs_int s i t,fun _ e=>nomatch e⟩
 | ref p =>
  cases r
  rcases ty with ⟨rfl,xs,hq⟩ | ⟨rfl,o,hk,hc,hd⟩ | ⟨rfl,hk⟩ | ⟨rfl,S,n,hk⟩
  ·obtain⟨its,_,pl,_⟩:=I.list hq
   refine⟨pl.isList.typeIs,fun a e=>?_⟩
   cases e
   obtain⟨o,n,e,c,hd,_⟩:=pl
   exact⟨o,e,hd⟩
  ·refine⟨⟨o,I.kIn p o hk,hc⟩,fun a e=>?_⟩
   cases e
   exact⟨o,I.kIn _ o hk,hd⟩
  ·have z:∃ o,s.heap.get? p=some o∧o.ExactDict:=by
    rcases hk with ⟨kvs,hk⟩ | ⟨kvs,hk⟩
    ·obtain⟨_,_,_,_,o,_,_,e,ex,_⟩:=I.hok p _ hk
     exact⟨o,e,ex⟩
    ·obtain⟨_,_,_,_,o,_,_,e,ex,_⟩:=I.hok p _ hk
     exact⟨o,e,ex⟩
   obtain⟨o,e,ex⟩:=z
   refine⟨⟨o,e,ex.1⟩,fun a e2=>?_⟩
   cases e2
   exact⟨o,e,ex.2.1⟩
  ·obtain⟨o,_,_,_,e,ex,_⟩:=I.hok p _ hk
   refine⟨⟨o,e,ex.1⟩,fun a e2=>?_⟩
   cases e2
   exact⟨o,e,ex.2.1⟩
 | _=>exact False.elim ty
noncomputable def tBM (K:Frag) (T:String) (r:V→List V→Hp→VK→Prop) (to:TE) (t:TA):TE:=fun σ H Q=>to σ H fun x H1=>tyV K T x H1∧t σ H1 fun xs H2=>r x xs H2 Q
variable {o e:Expr} {es:List Expr} {to:TE} {t:TA} {name:Str} {apos cpos:Pos} {T id:String} {r:V→List V→Hp→VK→Prop}
theorem q6w (pa:PlainAttrs T) (slot:Slot T name id) (hty:typeOf (.builtin id)=pure (.type "method_descriptor")) (hm:MtR X id r) (ho:PE X o to) (ha:PA X (e::es) t)
  (hbase:attributeBase o name X.env (eval o X.env)=eval o X.env:=by rfl)
  (hfew:((backTo cpos (starEach (e::es) X.env)).all (fun x => !x.1) && (backToKw cpos (keywordEach [] X.env)).all (fun x=>x.1.isSome)
   && decide ((e::es).length+([]:List Keyword).length+(if ([]:List Keyword).isEmpty then 0 else 1) < 30))=true:=by rfl)
  (hline:(apos.endLine==cpos.line)=true:=by rfl) (hs:starEach (e::es) X.env=(false,eval e X.env)::starEach es X.env:=by rfl) (hplain:(backTo cpos (starEach es X.env)).any (·.1)=false:=by rfl) :
  PE X (.Call (.Attribute o name apos) (e::es) [] cpos) (tBM X.K T r to t):=by
 intro pins s σ H Q I h
 refine wpAny_Call_method_late hbase hfew hline rfl (thn (ho pins s σ H _ I h) fun v s1 ⟨x,H1,I1,r1,ty,q1⟩=>?_)
 obtain⟨h1,h2⟩:=j2b I1 r1 ty
 refine⟨T,id,pa,slot,hty,h1,h2,?_⟩
 have hA:=ha cpos pins s1 σ H1 _ I1 q1
 rw [hs] at hA ⊢
 refine Calls.callWith_builtin (by show (false || (backTo cpos (starEach es X.env)).any (·.1))=false; rw [hplain] <;> rfl) (Calls.evalArgs_plain ?_)
 exact thn hA fun us s2 ⟨vs,H2,I2,r2,q2⟩=>hm pins s2 σ H2 x vs v us Q I2 r1 r2 q2
end
noncomputable def MtM (X:Cx) (id:String) (r:V→List V→Hp→VK→Prop):Prop :=
 ∀ (pins:List (Addr × Obj)) (s:Shared) (σ:St) (H:Hp) (x:V) (xs:List V) (v:Value) (us:List Value) (Q:VK),Inv X pins σ H s→q3z x v→q2x xs us→r x xs H Q →
  wpAny (model X.prog X.w) X.A (call (.builtin id) (v::us)) (EP X pins σ Q) X.xe s
theorem q2x.one:∀ {x:V} {us:List Value},q2x [x] us→∃ u,us=[u]∧q3z x u
 | _,_,.cons r .nil=>⟨_,rfl,r⟩
section
variable {X:Cx} {pins:List (Addr × Obj)} {σ:St} {H:Hp} {s:Shared} {l b:Addr} {xs ys zs:List V}
theorem Inv.lset {its its':List Value} {n:Nat} {f:Array Value→Array Value} {t':Nat} (I:Inv X pins σ H s) (hH:H l=some (.lst xs))
  (e:s.heap.get? l=some { cls:=.type "list",data:=.seq its.toArray n }) (hf:f its.toArray=its'.toArray) (hv:q2x ys its') (hz:ys.length≤sizeLine) :
  Inv X pins σ (upd H l (.lst ys)) { s with heap:=s.heap.update l (Obj.mapSeq f),toks:=t' }:=by
 have q:=PySem.IsL.update e f
 rw [hf] at q
 refine I.write (x:=l) (e:=l) (by rw [hH]; exact trivial) (.inl rfl) (fun b' u hb hu=>(Heap.get?_update_other s.heap (Obj.mapSeq f) (Ne.symm hb)).trans hu) ⟨_,q⟩ ?_
 exact⟨hz,its',_,hv,q⟩
theorem Inv.lnew {its:List Value} {t':Nat} (I:Inv X pins σ H s) (hv:q2x ys its) (hz:ys.length≤sizeLine) :
  Inv X pins σ (upd H s.heap.objs.size (.lst ys)) { s with heap:=s.heap.push { cls:=.type "list",data:=.seq its.toArray },toks:=t' } :=
 I.laid (fun _ _ q=>Heap.get?_push_of_some _ q) (Nat.le_refl _) ⟨hz,its,0,hv,Heap.get?_push_size _ rfl⟩
theorem Inv.fresh (I:Inv X pins σ H s):H s.heap.objs.size=none:=I.hok.fresh (Nat.le_refl _)
theorem Inv.lstM (I:Inv X pins σ H s) (hH:H l=some (.lst xs)):xs.length≤sizeLine∧∃ (its:List Value) (n:Nat),q2x xs its∧xs.length=its.length∧s.heap.get? l=some { cls:=.type "list",data:=.seq its.toArray n }:=by
 obtain⟨z,its,n,r,e⟩:=I.hok l _ hH
 exact⟨z,its,n,r,r.length,e⟩
end
section
variable {X:Cx}
noncomputable def z9x:V→List V→Hp→VK→Prop:=fun x vs H Q=>∃ l xs y,x=.ref l∧vs=[y]∧H l=some (.lst xs)∧xs.length < sizeLine∧Q .non (upd H l (.lst (xs++[y])))
theorem q3y:MtM X "list.append" z9x:=by
 intro pins s σ H x vs v us Q I rx rv h
 obtain⟨l,xs,y,rfl,rfl,hH,hz,q⟩:=h
 cases rx
 obtain⟨u,rfl,ru⟩:=rv.one
 obtain⟨z,its,n,r,hl,e⟩:=I.lstM hH
 refine call_meets F.slot_list_append ⟨_,e,rfl⟩ F.entry_list_append (F.args_list_append_2 _ _) (PySem.list_append l its.toArray n u (by rw [List.size_toArray]; omega)) ⟨e,?_⟩
 refine⟨.non,_,I.lset (its':=its++[u]) hH e (by simp) (r.append (.cons ru .nil)) ?_,rfl,q⟩
 rw [List.length_append,List.length_singleton]
 omega
noncomputable def j7j:R2:=fun x y H Q=>∃ l b xs zs,x=.ref l∧y=.ref b∧H l=some (.lst xs)∧H b=some (.lst zs)∧xs.length+zs.length≤sizeLine∧∀ p,H p=none→Q (.ref p) (upd H p (.lst (xs++zs)))
theorem x1x:OpR X (binaryOp .Add) j7j:=by
 intro pins s σ H x y v u Q I rx ry h
 obtain⟨l,b,xs,zs,rfl,rfl,hH,hB,hz,q⟩:=h
 cases rx
 cases ry
 obtain⟨z,its,n,r,hl,e⟩:=I.lstM hH
 obtain⟨z2,its2,n2,r2,hl2,e2⟩:=I.lstM hB
 refine PySem.P.add_list e e2 ?_ (by rw [List.size_toArray,List.size_toArray]; omega)
 have ea:its.toArray++its2.toArray=(its++its2).toArray:=by simp
 rw [ea]
 exact⟨.ref _,_,I.lnew (t':=s.toks) (r.append r2) (by rw [List.length_append]; omega),rfl,q _ I.fresh⟩
end
section
variable {prog:Program} {w:World} {A:Around} {E:Value→Shared→Prop} {s:Shared}
set_option maxRecDepth 100000 in
end
section
variable {X:Cx}
end
end L2
namespace Att
open PySem PySem.W PySem.Calls PyProof.Rows
theorem x1u {P:Params} {h:Heap}:∀ (ns:List Int) (vs:List Value),WellAll P h vs (ns.map WData.int)→IntsAre vs ns:=by
 intro ns
 induction ns with
 | nil =>
  intro vs w
  rw [List.map_nil] at w
  cases w
  exact .nil
 | cons n ns ih =>
  intro vs w
  rw [List.map_cons] at w
  cases w with
  | cons a b =>
   cases a
   exact .cons _ _ (ih _ b)
theorem z3d {l:OpenLaw} {n:Nat} (hn:l.most=some n) {P:Params} {h:Heap} {args:List WData} {vals:List Value}
  (hpre:l.row.toRowW.claim.pre args=true) (hwl:WellAll P h vals args) :
  ∃ a vs ns,vals=[Value.ref a]∧args=[WData.list (ns.map WData.int)]∧h.get? a=some { cls:=.type "list",data:=.seq vs.toArray }∧IntsAre vs ns∧ns.length≤n:=by
 have hsh:WShape.hasAll [] args [.list .int]=true:=(pre_splitW hpre).1
 have hc:l.pre.holds [] { args:=args }=true:=(pre_splitW hpre).2
 obtain⟨d,r,rfl,h1,h2⟩:=hasAllW_cons hsh
 obtain rfl:=hasAllW_nil h2
 obtain⟨xs,rfl,h3⟩:=hasW_list h1
 obtain⟨ns,rfl⟩:=items_int h3
 have hlen:ns.length≤n:=by
  unfold OpenLaw.pre at hc
  have h4:(WTm.not (.lt (.lit (.int (n:Int))) (.len (.arg 0)))).holds [] { args:=[.list (ns.map .int)] }=true:=by
   have h4:=(holds_andW hc).1
   rw [hn] at h4
   exact h4
  have h5:=condW_of h4 (w_not (w_lt w_lit (w_len_list (w_arg rfl))))
  rw [List.length_map] at h5
  refine Nat.le_of_not_lt fun q=>?_
  have q':(n:Int) < ((ns.length:Nat):Int):=by omega
  first
   | (rw [decide_eq_true q'] at h5; exact absurd h5 (by decide))
   | (simp at h5; omega)
 cases hwl with
 | cons w1 w2 =>
  cases w2
  cases w1 with
  | list ho hall=>exact⟨_,_,ns,rfl,rfl,ho,x1u ns _ hall,hlen⟩
theorem z3c (l:OpenLaw) (args:List WData):l.row.toRowW.claim.post args (.bool true) args=true :=
 postW_of (r:=l.row.toRowW) (X:=(true==true))
  (show WShape.has [] (.bool true) .bool=true by first | rfl | decide | simp [WShape.has,WShape.arms,WShape.armsAll])
  (show (WTm.eq .res (.lit (.bool true))).value [] { args:=args,res:=some (.bool true),after:=args }=some (.bool (true==true)) from w_eq_bool (w_res rfl) w_lit) rfl
theorem attach_call {l:OpenLaw} {n:Nat} {q:Program} {loose:List Str} {XP:(Str→Option Value)→Heap→Prop} {YP:World→Heap→Prop} {d:DefRec}
  (hn:l.most=some n) (hdf:d.params.defaults=[])
  (call:∀ (w:World) (s₀ s₁:Shared) (mg mb:Str→Option Value) (fa:Addr) (o:Obj) (pm cd doc:Value) (a:Addr) (vs:List Value) (ns:List Int),
   Ground q loose [] XP w s₀ mg mb s₁.heap→YP w s₁.heap →
   s₁.heap.get? fa=some o→o.data=.func (docDef d.name d.params d.body d.scope pm cd doc)→s₁.heap.CodeRec cd d.name→mg d.name=some (.ref fa) →
   s₁.heap.get? a=some { cls:=.type "list",data:=.seq vs.toArray }→IntsAre vs ns→ns.length≤n→s₁.gens=#[] →
   codeAny (model l.prog w) callerA (.call (.ref fa) ⟨[.ref a],[]⟩) (fun r s'=>r=.ok (.ret (.bool true))∧OldK s₁.heap s'.heap∧s'.os=s₁.os∧AllBare s'.gens) s₁) :
  WalkO q loose XP YP l.row.toRowW d [] (fun f vs=>PySem.call f vs):=by
 intro w s₀ s₁ mg mb G Y fa o pm cd doc dV kV ho hd hcd hD hmg hg args vals as hpre hlay hrd hwl hlo
 obtain rfl:dV=.none:=Dflts.none hD hdf
 obtain rfl:kV=.none:=Dflts.noKw hD
 obtain⟨a,vs,ns,rfl,rfl,hobj,hints,hlen⟩:=z3d hn hpre hwl
 refine enter_call (codeAny_mono (call w s₀ s₁ mg mb fa o pm cd doc a vs ns G Y ho (fd_plain hd) hcd hmg hobj hints hlen hg) fun r s' hq=>?_)
 obtain⟨rfl,h2,h3,h4⟩:=hq
 exact⟨.inl ⟨.bool true,.bool true,[],rfl,fun _=>rfl,.bool true,z3c l _,fun _=>⟨List.Pairwise.nil,fun _ hm=>(nomatch hm)⟩⟩,h2,h3,h4⟩
section
variable {prog:Program} {w:World} {A:Around} {E:Value→Shared→Prop} {s:Shared} {K:Frag}
noncomputable def j7b (h:Heap) (L d:Addr):List (Addr × Obj):=(List.range h.objs.size).filterMap fun a=>if a=L∨a=d then none else (h.get? a).map fun o=>(a,o)
end
end Att
namespace L2
open PySem PySem.Spec PyProof.Rows
theorem x6w:∀ {vs:List Value} {ns:List Int},IntsAre vs ns→q2x (ns.map V.int) vs
 | _,_,.nil=>.nil
 | _,_,.cons n t h=>.cons ⟨t,rfl⟩ (x6w h)
noncomputable def j5h (H:Hp):Prop:=∀ b,H b=none∨∃ o xs,H b=some (.frz o (.lst xs))
theorem z7q {P:Program} {w:World} {K:Frag} {mg mb:Str→Option Value} {CX:CXT} {k:Nat} {fa a:Addr} {fd:FuncData} {x:Str} {sp:Sp} {s₁:Shared} {vs:List Value} {ns:List Int}
  (KX:K.In s₁.heap) (hns:s₁.heap.Ns mainGlobals mg) (hb:s₁.heap.Ns builtinsNs mb) (hbb:∀ x:Str,x ≠ "__name__" → mb x=bootBuiltins x) (hlim:s₁.heap.NoLimit) (hg:s₁.gens=#[])
  (ha:s₁.heap.get? a=some { cls:=.type "list",data:=.seq vs.toArray }) (hi:IntsAre vs ns) (hl:ns.length≤sizeLine) (hr:Room k callerA)
  (F:∀ base:Heap,K.In base→base.Ns mainGlobals mg→FnOk P w K mg base CX k fa fd [x] sp) (hbind:∀ (s:Shared) (u:Value),BindsTo s fd ⟨[u],[]⟩ [(x,u)])
  (hsp:∀ H:Hp,j5h H→SqL K H a (ns.map V.int)→sp [.ref a] H (fun v _=>v=.bl true) fun _ _ _=>False)
  (hCX:∀ H e s',CX [] H s₁ (fun _ _ _=>False) e s'→False) :
  codeAny (model P w) callerA (.call (.ref fa) ⟨[.ref a],[]⟩) (fun r s'=>r=.ok (.ret (.bool true))∧OldK s₁.heap s'.heap∧s'.os=s₁.os∧AllBare s'.gens) s₁:=by
 have rv:=x6w hi
 have lenV:=hi.length
 have core:∀ H:Hp,j5h H→SqL K H a (ns.map V.int)→HOk P w H s₁.heap→(∀ b,H b≠none→b=a)→(H a≠none→K.lookup a=none) →
   codeAny (model P w) callerA (.call (.ref fa) ⟨[.ref a],[]⟩) (fun r s'=>r=.ok (.ret (.bool true))∧OldK s₁.heap s'.heap∧s'.os=s₁.os∧AllBare s'.gens) s₁:=by
  intro H hO hS hok hA hK
  have base_of:∀ {b:Addr} {o:Obj},s₁.heap.get? b=some o→H b=none→(z6s s₁.heap H).get? b=some o:=fun e n=>z7x e n
  have noA:∀ {b:Addr} {o:Obj} {es:Array DictEntry} {ep:Nat},s₁.heap.get? b=some o→o.data=.dict es ep→H b=none:=fun {b o es ep} e d=>by
   cases q:H b with
   | none=>rfl
   | some u =>
    have e':b=a:=hA b (by rw [q]; simp)
    subst e'
    rw [ha] at e; cases e
    have d':Data.seq vs.toArray _=Data.dict es ep:=d
    cases d'
  have nsK:∀ {b:Addr} {m:Str→Option Value},s₁.heap.Ns b m→(z6s s₁.heap H).Ns b m:=fun {b m} ⟨o,es,ep,e,d,r⟩=>⟨o,es,ep,base_of e (noA e d),d,r⟩
  have hKb:K.In (z6s s₁.heap H):=fun b o e=>base_of (KX b o e) (by
   cases q:H b with
   | none=>rfl
   | some u =>
    have e':b=a:=hA b (by rw [q]; simp)
    subst e'
    rw [hK (by rw [q]; simp)] at e; cases e)
  have hM:Mod K mg (z6s s₁.heap H):=⟨hKb,nsK hns,⟨mb,nsK hb,hbb⟩,let ⟨mc,h1,h2⟩:=hlim; ⟨mc,nsK h1,h2⟩⟩
  have e0:Env0 P w K mg (z6s s₁.heap H) callerA [] s₁ H:=⟨rfl,hM,fun b o e=>j0j e,Nat.le_of_eq (z2y _ _),trivial,fun b hb=>absurd (show b∈([]:List Addr) from hb) (by simp),hok,.of_eq hg⟩
  refine codeAny_mono ((F _ hKb (nsK hns)).run callerA [] s₁ H ⟨[.ref a],[]⟩ [.ref a] [.ref a] _ _ hr e0 (hbind s₁ (.ref a)) (.cons rfl .nil) (hsp H hO hS)) fun r s' h=>?_
  cases r with
  | error e=>exact (hCX H e s' h).elim
  | ok fl =>
   cases fl with
   | next=>exact False.elim h
   | brk=>exact False.elim h
   | cont=>exact False.elim h
   | ret u =>
    obtain⟨v,H',os,bare,un,hok',r',q⟩:=h
    have q':v=.bl true:=q
    subst q'
    obtain rfl:u=Value.bool true:=r'
    refine⟨rfl,OldK.of_keep fun b o e=>?_,os,bare⟩
    cases q:H b with
    | none=>exact un.keep b o e q (by intro z; exact absurd (show b∈([]:List Addr) from z) (by simp)) (by simp)
    | some u =>
     rcases hO b with z | ⟨ob,xs,z⟩
     ·rw [q] at z; cases z
     ·have z2:=un.frzs b ob _ z
      obtain⟨e1,_⟩:=hok b _ z
      obtain⟨e2,_⟩:=hok' b _ z2
      rw [e] at e1; cases e1
      exact e2
 cases hk:K.lookup a with
 | some o =>
  have e:=KX a o hk
  rw [ha] at e
  cases e
  refine core (fun _=>none) (fun _=>.inl rfl) (.inr ⟨_,vs.toArray,_,hk,rfl,rfl,rfl,by rw [List.size_toArray,lenV]; exact hl,by simpa using rv⟩) (fun b u z=>by have z':(none:Option HO)=some u:=z; cases z') (fun b z=>absurd rfl z) fun z=>absurd rfl z
 | none =>
  refine core (fun b=>if b=a then some (.frz { cls:=.type "list",data:=.seq vs.toArray } (.lst (ns.map V.int))) else none) (fun b=>?_) (.inl (.inr ⟨{ cls:=.type "list",data:=.seq vs.toArray },if_pos rfl⟩)) (fun b u z=>?_) (fun b z=>?_) fun _=>hk
  ·by_cases hb:b=a
   ·exact .inr ⟨_,_,if_pos hb⟩
   ·exact .inl (if_neg hb)
  ·by_cases hb:b=a
   ·have z':=(if_pos hb).symm.trans z
    cases z'
    subst hb
    exact⟨ha,by rw [List.length_map]; exact hl,vs,_,rv,ha⟩
   ·have z':=(if_neg hb).symm.trans z
    cases z'
  ·by_cases hb:b=a
   ·exact hb
   ·exact absurd (if_neg hb) z
noncomputable abbrev KOf {K:Frag} {h:Heap} (_:K.In h):Frag:=K
theorem z9n {l:PySem.W.OpenLaw} {n k:Nat} {q:Program} {loose:List Str} {XP:(Str→Option Value)→Heap→Prop} {YP:World→Heap→Prop} {d:DefRec} {K:Params→Frag} {CX:World→CXT} {sp:World→Sp} {x:Str}
  (hn:l.most=some n) (hn2:n≤sizeLine) (hdf:d.params.defaults=[]) (hr:Room k callerA)
  (hY:∀ (w:World) (h:Heap),YP w h→(K w.params).In h)
  (F:∀ (w:World) (mg:Str→Option Value) (fa:Addr) (h:Heap),(K w.params).In h→h.Ns mainGlobals mg→mg d.name=some (.ref fa) →
   ∃ fd:FuncData,(∀ (s:Shared) (u:Value),BindsTo s fd ⟨[u],[]⟩ [(x,u)]) ∧
    ∀ base:Heap,(K w.params).In base→base.Ns mainGlobals mg→FnOk l.prog w (K w.params) mg base (CX w) k fa fd [x] (sp w))
  (hsp:∀ (w:World) (H:Hp) (a:Addr) (ns:List Int),ns.length≤n→j5h H→SqL (K w.params) H a (ns.map V.int)→sp w [.ref a] H (fun v _=>v=.bl true) fun _ _ _=>False)
  (hCX:∀ (w:World) (H:Hp) (s:Shared) (e:Value) (s':Shared),CX w [] H s (fun _ _ _=>False) e s'→False) :
  PySem.W.WalkO q loose XP YP l.row.toRowW d [] (fun f vs=>PySem.call f vs):=by
 refine Att.attach_call hn hdf fun w s₀ s₁ mg mb fa o pm cd doc a vs ns G Y ho hd hcd hmg hobj hints hlen hg=>?_
 have KX:=hY w _ Y
 obtain⟨fd,hb,hF⟩:=F w mg fa _ KX G.T.g hmg
 exact z7q KX G.T.g G.T.b G.T.builtins G.T.nolimit hg hobj hints (Nat.le_trans hlen hn2) hr hF hb (fun H hO hS=>hsp w H a ns hlen hO hS) fun H e s'=>hCX w H s₁ e s'
noncomputable def x7u (s:Stmt) (j:Nat):Stmt:=match s with
 | .ClassDef _ _ _ body _ _ _ _ _ _ _=>body.getD j (.Pass ⟨0,0,0,0⟩)
 | _=>.Pass ⟨0,0,0,0⟩
noncomputable def q7e (s:Stmt):Arguments:=match s with
 | .FunctionDef _ a _ _ _ _ _ _ _ _=>a
 | _=>{ posonlyargs:=[],args:=[],vararg:=none,kwonlyargs:=[],kw_defaults:=[],kwarg:=none,defaults:=[] }
noncomputable def q5f (s:Stmt):List Stmt:=match s with
 | .FunctionDef _ _ b _ _ _ _ _ _ _=>b
 | _=>[]
noncomputable def q0e (s:Stmt):Scope:=match s with
 | .FunctionDef _ _ _ _ _ _ sc _ _ _=>sc
 | _=>{ kind:=.function,names:=[],isGenerator:=false,isCoroutine:=false }
noncomputable abbrev CX0:CXT:=fun _ _ _ _ _ _=>False
noncomputable abbrev E0:XK:=fun _ _ _=>False
theorem q5g {X:Cx}:q6a CX0 X E0:=fun _ _ _ _ _ _ _ h=>h.elim
structure Fun (K:Frag) (x qual:Str) (st:Stmt) (f:Addr) (fd:FuncData):Prop where
 ex:∃ (oc:Value) (od:Option Addr) (kV doc pm:Value) (an:Option Addr) (cdv ct:Value) (osl:Array (Option Value)),
  fd=fnOf x qual (q7e st) (q5f st) (q0e st) .none kV doc pm an cdv ct∧K.lookup f=some ⟨oc,od,.func fd,osl⟩∧PySem.W.codeIn K cdv qual=true
 kp:keepIn K (.ref f)=true
section
variable {P:Program} {w:World} {K:Frag} {mg:Str→Option Value} {base:Heap}
theorem Fun.ok {x qual:Str} {st:Stmt} {f:Addr} {fd:FuncData} {N ps:List Str} {k:Nat} {sp:Sp} (F:Fun K x qual st f fd) (S:FnScope N ps (q0e st)) (len:∀ vs H Q E,sp vs H Q E→vs.length=ps.length)
  (hbody:∀ (cdv:Value) (A:Around) (outer:List Env) (s:Shared) (H:Hp) (vs:List V) (Q:VK) (E:XK),Room k (A.deeper (envOfC qual (q0e st) s.heap.objs.size f cdv))→sp vs H Q E →
   ∃ t,PSs (x3b CX0 P w K mg base N qual (q0e st) f cdv A outer s H E).nox (q5f st) t∧t { nx:=fun _ H'=>Q .non H',rt:=Q } (x4b N vs) H):FnOk P w K mg base CX0 (k+1) f fd ps sp:=by
 obtain⟨oc,od,kV,doc,pm,an,cdv,ct,osl,rfl,lk,hcd⟩:=F.ex
 refine j3e lk hcd S len fun A outer s H vs Q E hr hsp=>?_
 obtain⟨t,h,q⟩:=hbody cdv A outer s H vs Q E hr hsp
 exact⟨t,h.nox,q⟩
theorem Fun.binds {x qual:Str} {st:Stmt} {f:Addr} {fd:FuncData} {ps:List Str} (F:Fun K x qual st f fd)
  (h:∀ (kV doc pm:Value) (an:Option Addr) (cdv ct:Value) (us:List Value),us.length=ps.length→bindArgs (fnOf x qual (q7e st) (q5f st) (q0e st) .none kV doc pm an cdv ct) ⟨us,[]⟩=pure (ps.zip us)):q2i K fd ps []:=by
 obtain⟨oc,od,kV,doc,pm,an,cdv,ct,osl,rfl,lk,hcd⟩:=F.ex
 exact .all (h kV doc pm an cdv ct)
theorem j4j {x qual:Str} {st:Stmt} {f:Addr} {oc:Value} {od an:Option Addr} {osl:Array (Option Value)} {kV doc pm cdv ct:Value} (l:K.lookup f=some ⟨oc,od,.func (fnOf x qual (q7e st) (q5f st) (q0e st) .none kV doc pm an cdv ct),osl⟩)
  (c:PySem.W.codeIn K cdv qual=true) (k:keepIn K (.ref f)=true):Fun K x qual st f (fnOf x qual (q7e st) (q5f st) (q0e st) .none kV doc pm an cdv ct):=⟨⟨oc,od,kV,doc,pm,an,cdv,ct,osl,rfl,l,c⟩,k⟩
end
section
variable {X:Cx}
theorem pv (i:Nat) {x:Str} {pos:Pos} (hN:X.N[i]? = some x:=by rfl) (hv:Vis X.env.scope x:=by first | exact Or.inl rfl | exact Or.inr (Or.inl rfl) | exact Or.inr (Or.inr rfl)) (hd:(x==("__debug__" : Str))=false:=by decide)
  (hcd:(x==("__classdict__" : Str))=false:=by decide):PE X (.Name x pos) (j7i i):=j1x hN hv hd hcd
end
theorem q1a {A B:Prop} (h:B):if false=true then A else B:=by
 rw [if_neg Bool.false_ne_true]
 exact h
theorem q1f {A B:Prop} (h:A):if true=true then A else B:=by
 rw [if_pos rfl]
 exact h
theorem z4f {c A B:Prop} [Decidable c] (h1:c→A) (h2:¬ c→B):if c then A else B:=by
 by_cases h:c
 ·rw [if_pos h]
  exact h1 h
 ·rw [if_neg h]
  exact h2 h
noncomputable def q1h (H H':Hp):Prop:=∀ b o,H b=some o→H' b=some o
theorem q1h.refl (H:Hp):q1h H H:=fun _ _ h=>h
theorem q1h.trans {H H1 H2:Hp} (a:q1h H H1) (b:q1h H1 H2):q1h H H2:=fun c o h=>b c o (a c o h)
end L2
set_option maxHeartbeats 4000000
namespace L2
open PySem PySem.Spec PyProof.Rows
noncomputable def clo (cells:List (Str × Addr)):List (Str × NameKind)→List (Str × Addr)→List (Str × Addr)
 | [],cs=>cs
 | p::r,cs=>clo cells r (if (p.2==NameKind.free)=true then (match cells.lookup p.1 with | some a=>(p.1,a)::cs | none=>cs) else cs)
theorem j0d {env:Env} {f:Str × NameKind→List (Str × Addr)→Sem (ForInStep (List (Str × Addr)))}
  (hf:∀ p cs,f p cs=if (p.2==NameKind.free)=true then (cellOf env p.1 >>= fun a=>pure (ForInStep.yield ((p.1,a)::cs))) else pure (ForInStep.yield cs)) :
  ∀ (names:List (Str × NameKind)) (cs:List (Str × Addr)),(∀ p∈names,p.2=.free→∃ a,env.cells.lookup p.1=some a) →
   (forIn names cs f:Sem (List (Str × Addr)))=pure (clo env.cells names cs):=by
 intro names
 induction names with
 | nil=>intro cs _; rfl
 | cons p r ih =>
  intro cs h
  have hr:=fun cs=>ih cs fun q hq=>h q (List.mem_cons_of_mem _ hq)
  rw [List.forIn_cons,hf]
  by_cases hk:p.2=.free
  ·obtain⟨a,ha⟩:=h p List.mem_cons_self hk
   have hb:(p.2==NameKind.free)=true:=by rw [hk]; rfl
   rw [if_pos hb]
   have hc:cellOf env p.1=pure a:=by unfold cellOf; rw [ha]
   rw [hc]
   show (forIn r ((p.1,a)::cs) f:Sem _)=_
   rw [hr,clo,if_pos hb,ha]
  ·have hb:¬ (p.2==NameKind.free)=true:=by simpa using hk
   rw [if_neg hb]
   show (forIn r cs f:Sem _)=_
   rw [hr,clo,if_neg hb]
theorem z2n {env:Env} {scope:Scope} (h:∀ p∈scope.names,p.2=.free→∃ a,env.cells.lookup p.1=some a):closureFor scope env=pure (clo env.cells scope.names []):=by
 simp only [closureFor]
 rw [j0d (env:=env) (fun p cs=>by obtain⟨n,k⟩:=p; cases hk:(k==NameKind.free) <;> simp [hk] <;> rfl) scope.names [] h]
 rfl
theorem q8g {cells:List (Str × Addr)} {x:Str} {c:Addr}:∀ (names:List (Str × NameKind)) (cs:List (Str × Addr)),(clo cells names cs).lookup x=some c→cells.lookup x=some c∨cs.lookup x=some c:=by
 intro names
 induction names with
 | nil=>intro cs h; exact .inr h
 | cons p r ih =>
  intro cs h
  rw [clo] at h
  rcases ih _ h with e | e
  ·exact .inl e
  ·split at e
   ·cases ha:cells.lookup p.1 with
    | none=>rw [ha] at e; exact .inr e
    | some a =>
     rw [ha] at e
     rw [List.lookup_cons] at e
     cases hx:x==p.1 with
     | true =>
      rw [hx] at e
      have:x=p.1:=by simpa using hx
      subst this
      left
      rw [ha]; exact e
     | false=>rw [hx] at e; exact .inr e
   ·exact .inr e
theorem x8b {cells:List (Str × Addr)} {x:Str} {a:Addr} (ha:cells.lookup x=some a):∀ (names:List (Str × NameKind)) (cs:List (Str × Addr)),
  ((x,NameKind.free)∈names∨cs.lookup x=some a)→(clo cells names cs).lookup x=some a:=by
 intro names
 induction names with
 | nil =>
   intro cs h; rcases h with h | h
   ·cases h
   ·exact h
 | cons p r ih =>
  intro cs h
  rw [clo]
  by_cases hr:(x,NameKind.free)∈r
  ·exact ih _ (.inl hr)
  ·refine ih _ (.inr ?_)
   by_cases hb:(p.2==NameKind.free)=true
   ·rw [if_pos hb]
    by_cases hx:x=p.1
    ·subst hx
     rw [ha]
     simp [List.lookup_cons]
    ·have h2:cs.lookup x=some a:=by
      rcases h with h | h
      ·rcases List.mem_cons.mp h with e | e
       ·exact absurd (congrArg Prod.fst e) hx
       ·exact absurd e hr
      ·exact h
     cases hc:cells.lookup p.1 with
     | none=>exact h2
     | some b =>
      have hx':(x==p.1)=false:=by simpa using hx
      simp [List.lookup_cons,hx',h2]
   ·rw [if_neg hb]
    rcases h with h | h
    ·rcases List.mem_cons.mp h with e | e
     ·exact absurd (by rw [← e]; rfl) hb
     ·exact absurd e hr
    ·exact h
theorem q1v {α β:Type} [BEq α] [LawfulBEq α] {x:α} {y:β}:∀ {l:List (α × β)},l.lookup x=some y→(x,y)∈l
 | [],h=>by cases h
 | p::r,h=>by
  rw [List.lookup_cons] at h
  cases hx:x==p.1 with
  | true =>
   rw [hx] at h
   have e:x=p.1:=by simpa using hx
   cases h
   rw [e]
   exact List.mem_cons_self
  | false=>rw [hx] at h; exact List.mem_cons_of_mem _ (q1v h)
theorem z8m {f:Str × NameKind→Str × NameKind} (hf:∀ p,f p=p∨(p.2=.free∧f p=(p.1,.cell))) {x:Str}:∀ {names:List (Str × NameKind)},(names.map f).lookup x=names.lookup x∨(names.lookup x=some .free∧(names.map f).lookup x=some .cell)
 | []=>.inl rfl
 | p::r=>by
  have ih:=@z8m f hf x r
  rw [List.map_cons]
  rcases hf p with e | ⟨e1,e2⟩
  ·rw [e,List.lookup_cons,List.lookup_cons]
   cases hx:x==p.1 with
   | true=>exact .inl rfl
   | false=>exact ih
  ·rw [e2,List.lookup_cons,List.lookup_cons]
   cases hx:x==p.1 with
   | true=>exact .inr ⟨congrArg some e1,rfl⟩
   | false=>exact ih
theorem j0i {env:Env} {x:Str} {names:List (Str × NameKind)} :
  ((names.map fun (n,k)=>if (k==NameKind.free && env.scope.kind==.function && env.kindOf n==some .cell) then (n,NameKind.cell) else (n,k)).lookup x=names.lookup x) ∨
  (names.lookup x=some .free∧(names.map fun (n,k)=>if (k==NameKind.free && env.scope.kind==.function && env.kindOf n==some .cell) then (n,NameKind.cell) else (n,k)).lookup x=some .cell):=by
 refine z8m (fun p=>?_)
 obtain⟨n,k⟩:=p
 by_cases hc:(k==NameKind.free && env.scope.kind==.function && env.kindOf n==some .cell)=true
 ·right
  have hk:k=.free:=by
   simp only [Bool.and_eq_true,beq_iff_eq] at hc
   exact hc.1.1
  exact⟨hk,by show (if _ then _ else _)=_; rw [if_pos hc]⟩
 ·left
  show (if _ then _ else _)=_
  rw [if_neg hc]
noncomputable def cxB (X:Cx) (NB:List Str) (scope:Scope) (cl:List (Str × Addr)) (C:Addr) (fp:List Addr) (s:Shared) (H:Hp):Cx where
 prog:=X.prog
 w:=X.w
 K:=X.K
 mg:=X.mg
 base:=X.base
 A:=X.A
 N:=NB
 s₀:=s
 H₀:=H
 env:=compEnvC scope cl C X.env
 outer:=X.stack
 stack:=X.stack
 ex:=fp
 fn:=fun _=>false
 calm:=X.calm
 pn:=[]
 xe:=fun _ _=>False
noncomputable def j0n (X:Cx) (ifs:List Expr) (t:TT):Prop :=
 ∀ (pins:List (Addr × Obj)) (s:Shared) (σ:St) (H:Hp) (Q:Bool→Hp→Prop),Inv X pins σ H s→t σ H Q →
  wpAny (model X.prog X.w) X.A (forIn ifs true fun c r=>if r=true then do let ok←isTrue c X.env (eval c X.env); pure (ForInStep.yield ok) else pure (ForInStep.yield r)) (TP X pins σ Q) X.xe s
noncomputable def j9d:TT:=fun _ H Q=>Q true H
theorem q3a {X:Cx}:j0n X [] j9d:=fun _ _ _ H _ I h=>wpAny_tests_nil ⟨H,I,h⟩
section
variable {prog:Program} {w:World} {A:Around} {R:Result→Shared→Prop} {s:Shared}
theorem z5b {elt target iter:Expr} {ifs:List Expr} {scope:Scope} {pos:Pos} {it acc:Value} {env:Env} (I:Nat→Shared→Prop)
  (turn:∀ n s,I n s→wpAny (model prog w) A (pyNext it) (fun r s1=>(r=none∧R (.ok .next) s1)∨∃ v,r=some v ∧
   wpAny (model prog w) A (letOwnedTupleGo target it v) (fun _ s2=>wpAny (model prog w) A (assign target env v) (fun _ s3 =>
    wpAny (model prog w) A (forIn ifs true fun c r=>if r=true then do let ok←isTrue c env (eval c env); pure (ForInStep.yield ok) else pure (ForInStep.yield r)) (fun ok s4 =>
     if ok=true then wpAny (model prog w) A (eval elt env) (fun x s5=>wpAny (model prog w) A (call (.builtin "list.append") [acc,x]) (fun _ s6=>∃ m,m < n∧I m s6) (fun _ _=>False) s5) (fun _ _=>False) s4
     else ∃ m,m < n∧I m s4) (fun _ _=>False) s3) (fun _ _=>False) s2) (fun _ _=>False) s1) (fun _ _=>False) s)
  (n:Nat) (h:I n s):codeAny (model prog w) A (.compLoop (.ListComp elt [⟨target,iter,ifs,0⟩] scope pos) 0 it acc env) R s:=by
 refine codeAny_loop rfl I (fun k s0 hk=>?_) n h
 show wpAny _ A (Sem.onRaise (compTurn (.ListComp elt [⟨target,iter,ifs,0⟩] scope pos) 0 it acc env) (fun x=>do noteFrame x env; theTreesLotGoes x)) _ _ s0
 refine wpAny_noted ?_
 rw [compTurn_list]
 refine wpAny_bind (wpAny_standAt (wpAny_bind (wpAny_mono (turn k s0 hk) (fun r s1 h1=>?_) fun _ _ z=>z.elim)))
 rcases h1 with ⟨rfl,h1⟩ | ⟨v,rfl,h1⟩
 ·exact wpAny_pure h1
 ·refine wpAny_bind (wpAny_mono h1 (fun _ s2 h2=>wpAny_bind (wpAny_mono h2 (fun _ s3 h3=>wpAny_bind (wpAny_mono h3 (fun ok s4 h4=>?_) fun _ _ z=>z.elim)) fun _ _ z=>z.elim)) fun _ _ z=>z.elim)
  cases ok with
  | false=>exact wpAny_pure ⟨rfl,h4⟩
  | true=>exact wpAny_bind (wpAny_bind (wpAny_mono h4 (fun x s5 h5=>wpAny_bind (wpAny_mono h5 (fun _ s6 h6=>wpAny_pure (wpAny_pure ⟨rfl,h6⟩)) fun _ _ z=>z.elim)) fun _ _ z=>z.elim))
end
theorem HOk.but {P:Program} {w:World} {H:Hp} {h h':Heap} {C:Addr} (x:HOk P w H h) (hC:H C=none) (k:∀ b o,b≠C→h.get? b=some o→h'.get? b=some o):HOk P w H h':=fun b u e=>by
 have nit:∀ c v,H c=some v→c≠C:=fun c v q z=>by rw [z,hC] at q; cases q
 refine (x b u e).stay (fun c v hc q=>k c v ?_ q) (fun _ q=>q) fun _ _ q=>q
 rcases hc with z | z
 ·rw [z]; exact nit b u e
 ·exact nit c _ z
noncomputable def z3s (frs:St) (g:TG) (tt:TT) (te:TE) (Q:VK) (J:It) (H1:Hp):Prop:=∀ D,H1 D=none →
 ∃ W:Nat→Nat→List V→St→Hp→Prop,(∃ m,W 0 m [] frs (upd H1 D (.lst []))) ∧
  ∀ i m ys σ' H',W i m ys σ' H'→H' D=some (.lst ys) →
   (J.stop i H'∧Q (.ref D) H') ∨
   (J.go i H'∧ys.length < sizeLine∧∀ x H2,J.yld i H' x H2→g x σ' H2 fun σ3 H3=>tt σ3 H3 fun b H4 =>
    if b=true then te σ3 H4 fun v H5=>H5 D=some (.lst ys)∧∃ m',m' < m∧W (i+1) m' (ys++[v]) σ3 (upd H5 D (.lst (ys++[v])))
    else H4 D=some (.lst ys)∧∃ m',m' < m∧W (i+1) m' ys σ3 H4)
noncomputable def z6n (n:Nat) (fr:List Nat) (wi:TI) (g:TG) (tt:TT) (te:TE):TE:=fun σ H Q=>wi σ H (z3s (List.replicate n none++fr.map fun k=>(σ[k]?).join) g tt te Q)
section
variable {X:Cx} {elt tg iter:Expr} {ifs:List Expr} {scope:Scope} {pos:Pos} {NB:List Str} {n:Nat} {fr:List Nat} {wi:TI} {g:TG} {tt:TT} {te:TE}
structure CompOk (X:Cx) (scope:Scope) (NB:List Str) (n:Nat) (fr:List Nat):Prop where
 kind:scope.kind=.function
 nocell:∀ y∈scope.names,y.2≠.cell
 names:∀ y∈scope.names,y.2=.local→scope.names.lookup y.1=some .local
 free:∀ y∈scope.names,y.2=.free→X.env.kindOf y.1=some .cell∨X.env.kindOf y.1=some .free
 len:NB.length=n+fr.length
 own:∀ (j k:Nat),fr[j]? = some k→∃ x,NB[n+j]? = some x∧X.N[k]? = some x∧scope.names.lookup x=some .free
theorem z8z {pins:List (Addr × Obj)} {σ:St} {H:Hp} {s:Shared} {fp:List Addr} {C:Addr} (O:CompOk X scope NB n fr) (I:Inv X pins σ H s) (hf:∀ b∈fp,z1v X pins H b) (hfl:∀ b∈fp,b < s.heap.objs.size) (hC:s.heap.objs.size≤C) :
  (cxB X NB scope (clo X.env.cells scope.names []) C fp s H).Ok where
 mod:=I.ok.mod
 kind:=O.kind
 glob:=I.ok.glob
 blt:=I.ok.blt
 above:=hC
 inj:=fun x y c h1 h2=>by
  have e1:=(q8g scope.names [] h1).resolve_right (by intro z; cases z)
  have e2:=(q8g scope.names [] h2).resolve_right (by intro z; cases z)
  exact I.ok.inj x y c e1 e2
 has:=fun x hx=>by
  have hx':(relabel scope X.env).names.lookup x=some .cell∨(relabel scope X.env).names.lookup x=some .free:=hx
  have hfree:scope.names.lookup x=some .free:=by
   have r:=@j0i X.env x scope.names
   rcases r with r | r
   ·have hx2:scope.names.lookup x=some .cell∨scope.names.lookup x=some .free:=by rw [← r]; exact hx'
    rcases hx2 with e | e
    ·exact absurd rfl (O.nocell _ (q1v e))
    ·exact e
   ·exact r.1
  have hm:=q1v hfree
  obtain⟨c,hc⟩:=I.ok.has x (O.free _ hm rfl)
  exact⟨c,x8b hc scope.names [] (.inl hm)⟩
 cab:=fun x c h=>nomatch h
 hd:=fun h=>I.ok.hd h
 frames:=I.ok.frames
 stk:=.inl rfl
 exf:=fun b hb=>⟨Nat.ne_of_lt (Nat.lt_of_lt_of_le (hfl b hb) hC),fun x c h=>by
  have e1:=(q8g scope.names [] h).resolve_right (by intro z; cases z)
  exact (hf b hb).2.2.2.2.1 x c e1⟩
 bs:=I.bs
 bsz:=Nat.le_trans I.ok.bsz I.sz
 noex:=fun b o e hb=>by
  rcases (hf b hb).2.2.2.1 with z | z
  ·exact I.ok.noex b o e z
  ·exact absurd (Nat.lt_of_lt_of_le (Heap.lt_size e) (Nat.le_trans I.ok.bsz z)) (Nat.lt_irrefl _)
 exfs:=fun b hb z=>by
  rcases List.mem_cons.mp (I.stkSub b z) with e | e
  ·exact (hf b hb).2.1 e
  ·exact (hf b hb).2.2.1 e
 funs:=I.stack
 frf:=I.stkFree
theorem Inv.but {pins:List (Addr × Obj)} {σ:St} {H:Hp} {s:Shared} {C:Addr} {h':Heap} (I:Inv X pins σ H s) (hC:X.s₀.heap.objs.size≤C) (hH:H C=none) (hL:C≠X.env.locals) (hcl:∀ x c,X.env.cells.lookup x=some c→c≠C) (hpn:∀ p∈X.pn++pins,p.1≠C) (sb:Heap.SameBut C s.heap h') :
  Inv X pins σ H { s with heap:=h' }:=by
 refine I.call' (s':={ s with heap:=h' }) (ch:=[C]) rfl ?_ (HOk.but I.hok hH fun b o hb e=>sb.extBut b o hb e) I.bare (fun b hb=>?_)
 ·have ne:∀ {b:Addr},b∉[C]→b≠C:=fun {b} h z=>h (by rw [z]; exact List.mem_cons_self)
  exact⟨fun b o e _ _ hx=>sb.extBut b o (ne hx) e,fun b o e _ _ hx=>⟨o.slots,sb.extBut b o (ne hx) e⟩,fun _ _ _ n _=>n,fun b o e hx=>⟨o,sb.extBut b o (ne hx) e⟩,fun _ _ q=>q,fun _ _ _ q=>q,fun _ ps q=>⟨#[],by rw [q]; simp⟩⟩
 ·have e:b=C:=by simpa using hb
  subst e
  exact⟨.inr hC,hL,hcl,hpn⟩
theorem z2a {use:Option (Value→Sem Unit)} {QQ:Value→Shared→Prop} {pins:List (Addr × Obj)} {s:Shared} {σ:St} {H:Hp} {Q:VK} {pos2:Pos} (O:CompOk X scope NB n fr) (hc:X.calm=true) (hi:PI X tg iter wi)
  (hg:∀ cl C fp s H,PG (cxB X NB scope cl C fp s H) tg g) (ht:∀ cl C fp s H,j0n (cxB X NB scope cl C fp s H) ifs tt) (he:∀ cl C fp s H,PE (cxB X NB scope cl C fp s H) elt te)
  (hs:∀ x,foldedSetIterable iter X.env x=pure x) (I:Inv X pins σ H s) (h:z6n n fr wi g tt te σ H Q)
  (fin0:∀ (D C:Addr) (H':Hp) (s':Shared) (m:Str→Option Value),s'.heap.Ns C m→Inv X pins σ H' s'→X.s₀.heap.objs.size≤C→H' C=none→C≠X.env.locals→(∀ x c,X.env.cells.lookup x=some c→c≠C)→(∀ p∈X.pn++pins,p.1≠C)→Q (.ref D) H' →
   compPost (model X.prog X.w) X.A X.xe use QQ (.ref D) C (.ok .next) s') :
  wpAny (model X.prog X.w) X.A (comprehension (.ListComp elt [⟨tg,iter,ifs,0⟩] scope pos) scope X.env pos2 (newList []) false (eval iter X.env) use) QQ X.xe s:=by
 have hcl:closureFor scope X.env=pure (clo X.env.cells scope.names []):=z2n fun p hp hk=>I.ok.has p.1 (O.free p hp hk)
 refine wpAny_comprehension_free (use:=use) rfl hs hcl O.kind O.names (thn (hi pins s σ H _ I h) fun v s1 h1=>thn h1 fun itv s2 h2=>?_)
 obtain⟨it,fp,tn,J,H2,e,I2,T,st2,f2,R⟩:=h2
 subst e
 have fpl:∀ b∈fp,b < s2.heap.objs.size:=fun b hb=>by
  obtain⟨o,ho,_⟩:=T.obj 0 _ st2 b hb
  exact Heap.lt_size ho
 refine wpAny_newObj_type (wpAny_newFunctionEnv O.nocell (fun y hy=>absurd hy (by simp)) (fun h1 ns1 sb1=>?_) O.kind)
 dsimp only at ns1 sb1 ⊢
 generalize hD2:s2.heap.push { cls:=.type "list",dict:=none,data:=.seq ([]:List Value).toArray }=hp2 at ns1 sb1 ⊢
 have zC:hp2.objs.size=s2.heap.objs.size+1:=by rw [← hD2,Heap.size_push]
 have kept:∀ b o,s2.heap.get? b=some o→h1.get? b=some o:=fun b o q=>by
  have lt:=Heap.lt_size q
  refine sb1.extBut b o (by rw [zC]; exact Nat.ne_of_lt (Nat.lt_succ_of_lt lt)) (Heap.get?_push_of_some _ ?_)
  rw [← hD2]
  exact Heap.get?_push_of_some _ q
 have gD:h1.get? s2.heap.objs.size=some { cls:=.type "list",data:=.seq ([]:List Value).toArray 0 }:=by
  refine sb1.extBut _ _ (by rw [zC]; exact Nat.ne_of_lt (Nat.lt_succ_self _)) (Heap.get?_push_of_some _ ?_)
  rw [← hD2]
  exact Heap.get?_push_size _ rfl
 generalize hD:s2.heap.objs.size=D at *
 have fD:H2 D=none:=I2.hok.fresh (Nat.le_of_eq hD)
 have fC:H2 hp2.objs.size=none:=I2.hok.fresh (by rw [hD,zC]; exact Nat.le_succ _)
 have nCD:hp2.objs.size≠D:=by rw [zC]; exact Nat.succ_ne_self _
 have hCle:s2.heap.objs.size≤hp2.objs.size:=by rw [hD,zC]; exact Nat.le_succ _
 have ok:=z8z (C:=hp2.objs.size) O I2 f2 (fun b hb=>by rw [hD]; exact fpl b hb) hCle
 obtain⟨W,⟨m0,w0⟩,turn⟩:=R D fD
 generalize hY:cxB X NB scope (clo X.env.cells scope.names []) hp2.objs.size fp s2 H2=Y at ok
 have eY:Y.env=compEnvC scope (clo X.env.cells scope.names []) hp2.objs.size X.env:=by rw [← hY]; rfl
 have I0:Inv Y [] (List.replicate n none++fr.map fun k=>(σ[k]?).join) (upd H2 D (.lst [])) { s2 with heap:=h1,toks:=s2.toks+([]:List (Str × Value)).length }:=by
  subst hY
  refine⟨ok,rfl,I2.bare,Un.laid kept (Nat.le_of_eq hD) fD,⟨_,ns1,fun i x v e1 e2 e3=>?_⟩,fun x c h=>?_,?_,fun x c h=>?_,fun p hp=>absurd (show p∈([]:List (Addr × Obj)) from hp) (by simp),?_,?_⟩
  ·have hin:n≤i:=by
    refine Nat.le_of_not_lt fun z=>?_
    rw [List.getElem?_append_left (by simpa using z),List.getElem?_replicate] at e2
    split at e2 <;> cases e2
   obtain⟨j,rfl⟩:=Nat.exists_eq_add_of_le hin
   rw [List.getElem?_append_right (by simp)] at e2
   simp only [List.length_replicate,Nat.add_sub_cancel_left,List.getElem?_map] at e2
   cases hk:fr[j]? with
   | none=>rw [hk] at e2; cases e2
   | some k =>
    rw [hk] at e2
    obtain⟨x',n1,n2,n3⟩:=O.own j k hk
    have e1':NB[n+j]? = some x:=e1
    rw [n1] at e1'
    cases e1'
    have e4:(σ[k]?).join=some v:=Option.some.inj e2
    have e5:σ[k]? = some (some v):=by
     cases q:σ[k]? with
     | none=>rw [q] at e4; cases e4
     | some z=>rw [q] at e4; exact congrArg some e4
    have hm:=q1v n3
    have kd:=O.free _ hm rfl
    obtain⟨m,hn,hl⟩:=I2.loc
    obtain⟨u,ru,lk⟩:=hl k x v n2 e5 (by rcases kd with z | z; exact .inr (.inl z); exact .inr (.inr z))
    refine⟨u,ru,.inr ⟨?_,?_⟩⟩
    ·show (relabel scope X.env).names.lookup x=some .cell∨(relabel scope X.env).names.lookup x=some .free
     rcases @j0i X.env x scope.names with r | r
     ·exact .inr (Eq.trans r n3)
     ·exact .inl r.2
    ·rcases lk with ⟨z,_⟩ | ⟨_,c,hc1,hc2⟩
     ·rcases kd with q | q <;> (rw [z] at q; cases q)
     ·refine⟨c,x8b hc1 scope.names [] (.inl hm),?_⟩
      obtain⟨o,ho,hd⟩:=hc2
      exact⟨o,kept c o ho,hd⟩
  ·have e1:=(q8g scope.names [] (show (clo X.env.cells scope.names []).lookup x=some c from h)).resolve_right (by intro z; cases z)
   obtain⟨v,o,ho,hd⟩:=I2.cell x c e1
   exact⟨v,o,kept c o ho,hd⟩
  ·show upd H2 D (.lst []) hp2.objs.size=none
   rw [q0r nCD]; exact fC
  ·have e1:=(q8g scope.names [] (show (clo X.env.cells scope.names []).lookup x=some c from h)).resolve_right (by intro z; cases z)
   obtain⟨v,o,ho,hd⟩:=I2.cell x c e1
   rw [q0r (by rw [← hD]; exact Nat.ne_of_lt (Heap.lt_size ho))]
   exact I2.freeC x c e1
  ·exact I2.hok.laid kept (Nat.le_of_eq hD) ⟨by simp,[],0,.nil,gD⟩
  ·show _=NB.length
   rw [O.len]; simp
 have fY:∀ {H':Hp},(∀ b∈fp,H' b=none)→∀ b∈fp,z1v Y [] H' b:=fun {H'} hn b hb=>by
  subst hY
  refine⟨hn b hb,(ok.exf b hb).1,ok.exfs b hb,.inl hb,fun x c z=>(ok.exf b hb).2 x c z,fun p hp=>absurd (show p∈([]:List (Addr × Obj)) from hp) (by simp)⟩
 have pY:Y.prog=X.prog∧Y.w=X.w∧Y.K=X.K∧Y.A=X.A∧Y.calm=true∧Y.xe=fun _ _=>False:=by subst hY; exact⟨rfl,rfl,rfl,rfl,hc,rfl⟩
 obtain⟨p1,p2,p3,p4,p5,p6⟩:=pY
 have fin:∀ {σ':St} {H':Hp} {s':Shared},Inv Y [] σ' H' s'→Q (.ref D) H'→compPost (model X.prog X.w) X.A X.xe use QQ (.ref D) hp2.objs.size (.ok .next) s':=fun {σ' H' s'} J' q=>by
  subst hY
  obtain⟨m,hn,_⟩:=J'.loc
  have fr':H' hp2.objs.size=none:=J'.free
  have neC:∀ b o,s2.heap.get? b=some o→b≠hp2.objs.size:=fun b o e=>Nat.ne_of_lt (Nat.lt_of_lt_of_le (Heap.lt_size e) hCle)
  have J:Inv X pins σ H' s':=I2.call' (s':=s') J'.os J'.base J'.hok J'.bare fun b hb=>by
   obtain⟨_,a2,_,a4,a5,a6⟩:=f2 b hb
   exact⟨a4,a2,a5,a6⟩
  refine fin0 D _ H' s' m hn J (Nat.le_trans I2.sz hCle) fr' (Ne.symm (Nat.ne_of_lt (Nat.lt_of_lt_of_le I2.lt hCle))) (fun x c e=>?_) (fun p hp=>?_) q
  ·obtain⟨v,o,ho,_⟩:=I2.cell x c e
   exact neC c o ho
  ·exact neC _ _ (I2.pin p hp).1
 have st0:tn 0 h1:=T.keep 0 _ _ st2 fun b hb o q=>kept b o q
 have fp0:∀ b∈fp,upd H2 D (.lst []) b=none:=fun b hb=>by
  rw [q0r (Nat.ne_of_lt (fpl b hb))]; exact (f2 b hb).1
 have loop:∀ s3:Shared,s3={ s2 with heap:=h1,toks:=s2.toks+([]:List (Str × Value)).length } →
   codeAny (model X.prog X.w) X.A (.compLoop (.ListComp elt [⟨tg,iter,ifs,0⟩] scope pos) 0 (.ref it) (.ref D) (compEnvC scope (clo X.env.cells scope.names []) hp2.objs.size X.env))
    (compPost (model X.prog X.w) X.A X.xe use QQ (.ref D) hp2.objs.size) s3:=by
  rintro s3 rfl
  refine z5b (fun k s'=>∃ i ys σ' H',Inv Y [] σ' H' s'∧tn i s'.heap∧(∀ b∈fp,H' b=none)∧H' D=some (.lst ys)∧W i k ys σ' H') ?_ m0 ⟨0,[],_,_,I0,st0,fp0,q0c,w0⟩
  rintro k s4 ⟨i,ys,σ4,H4,I4,t4,fr4,d4,w4⟩
  have hgY:PG Y tg g:=by subst hY; exact hg _ _ _ _ _
  have htY:j0n Y ifs tt:=by subst hY; exact ht _ _ _ _ _
  have heY:PE Y elt te:=by subst hY; exact he _ _ _ _ _
  rcases turn i k ys σ4 H4 w4 d4 with ⟨stop,q⟩ | ⟨go,hlen,step⟩
  ·have z:=T.done Y p1 p2 p3 p5 i [] s4 σ4 H4 (fun _ _=>False) I4 (fY fr4) t4 stop
   rw [p4] at z
   exact thn z fun r s5 ⟨hr,I5⟩=>.inl ⟨hr,fin I5 q⟩
  ·have z:=T.item Y p1 p2 p3 p5 i [] s4 σ4 H4 (fun _ _=>False) I4 (fY fr4) t4 go
   rw [p4] at z
   refine thn z fun r s5 ⟨u,hr,h5⟩=>.inr ⟨u,hr,thn h5 fun _ s6 ⟨x,H6,I6,r6,y6,t6,fr6⟩=>?_⟩
   have I6':=I6.pinned (fY fr6) (T.obj _ _ t6)
   have back:∀ {σ7:St} {H7:Hp} {s7:Shared},Inv Y ([]++x3o fp s6.heap) σ7 H7 s7→Inv Y [] σ7 H7 s7∧tn (i+1) s7.heap∧∀ b∈fp,H7 b=none:=fun {σ7 H7 s7} I7=>by
    refine⟨I7.unpinned,T.keep _ _ _ t6 fun b hb o e=>(I7.pin (b,o) (List.mem_append_right _ (List.mem_append_right _ (q4l hb e)))).1,fun b hb=>?_⟩
    obtain⟨o,e,_⟩:=T.obj _ _ t6 b hb
    exact (I7.pin (b,o) (List.mem_append_right _ (List.mem_append_right _ (q4l hb e)))).2.1
   have a7:=hgY _ s6 σ4 H6 x u _ I6' r6 (step x H6 y6)
   rw [p1,p2,p4,p6,eY] at a7
   refine thn a7 fun _ s7 ⟨σ7,H7,I7,q7⟩=>?_
   have a8:=htY _ s7 σ7 H7 _ I7 q7
   rw [p1,p2,p4,p6,eY] at a8
   refine thn a8 fun b s8 ⟨H8,I8,q8⟩=>?_
   cases b with
   | false =>
    obtain⟨d8,m',hm,w8⟩:=q8
    rw [if_neg Bool.false_ne_true]
    obtain⟨b1,b2,b3⟩:=back I8
    exact⟨m',hm,i+1,ys,σ7,H8,b1,b2,b3,d8,w8⟩
   | true =>
    rw [if_pos rfl]
    have a9:=heY _ s8 σ7 H8 _ I8 q8
    rw [p1,p2,p4,p6,eY] at a9
    refine thn a9 fun uv s9 ⟨v,H9,I9,r9,d9,m',hm,w9⟩=>?_
    have a10:=q3y (X:=Y) _ s9 σ7 H9 (.ref D) [v] (.ref D) [uv] (fun x H'=>H'=upd H9 D (.lst (ys++[v]))) I9 rfl (.cons r9 .nil) ⟨D,ys,v,rfl,rfl,d9,hlen,rfl⟩
    rw [p1,p2,p4,p6] at a10
    refine thn a10 fun _ s10 ⟨_,H10,I10,_,e10⟩=>?_
    subst e10
    obtain⟨b1,b2,b3⟩:=back I10
    exact⟨m',hm,i+1,_,σ7,_,b1,b2,b3,q0c,w9⟩
 refine codeAny_compStart_list (loop _ rfl) ?_
 exact T.self _ 0 _ _ _ st0 (loop _ rfl)
theorem q6j (O:CompOk X scope NB n fr) (hc:X.calm=true) (hi:PI X tg iter wi)
  (hg:∀ cl C fp s H,PG (cxB X NB scope cl C fp s H) tg g) (ht:∀ cl C fp s H,j0n (cxB X NB scope cl C fp s H) ifs tt) (he:∀ cl C fp s H,PE (cxB X NB scope cl C fp s H) elt te)
  (hs:∀ x,foldedSetIterable iter X.env x=pure x:=by intro _; rfl):PE X (.ListComp elt [⟨tg,iter,ifs,0⟩] scope pos) (z6n n fr wi g tt te):=by
 intro pins s σ H Q I h
 rw [eval_ListComp]
 exact z2a (QQ:=EP X pins σ Q) O hc hi hg ht he hs I h fun D C H' s' m hn J h1 h2 h3 h4 h5 q=>⟨m,hn,fun h' sb=>⟨.ref D,H',J.but h1 h2 h3 h4 h5 sb,rfl,q⟩⟩
end
noncomputable def Src (t:Bool) (h:Heap) (it l:Addr) (xs:Array Value) (k:Nat):Prop:=match t with
 | true=>h.IsTupleIter it l k∧h.IsTuple l xs
 | false=>h.IsListIter it l k∧h.IsList l xs
theorem Src.keep {t:Bool} {h h':Heap} {it l:Addr} {xs:Array Value} {k:Nat} (x:Src t h it l xs k) (a:∀ o,h.get? it=some o→h'.get? it=some o) (b:∀ o,h.get? l=some o→h'.get? l=some o):Src t h' it l xs k:=by
 cases t with
 | true=>obtain⟨⟨o,h1,r1⟩,⟨o2,h2,r2⟩⟩:=x; exact⟨⟨o,a o h1,r1⟩,⟨o2,b o2 h2,r2⟩⟩
 | false=>obtain⟨⟨o,h1,r1⟩,⟨o2,h2,r2⟩⟩:=x; exact⟨⟨o,a o h1,r1⟩,⟨o2,b o2 h2,r2⟩⟩
section
variable {prog:Program} {w:World} {A:Around} {E:Value→Shared→Prop} {st:Shared}
theorem z6f {it l:Addr} {i:Nat} {its:Array Value} {x:Value} {Q:Value→Shared→Prop} (hit:st.heap.IsTupleIter it l i) (hl:st.heap.IsTuple l its) (hx:its[i]? = some x)
  (hQ:∀ h',h'.IsTupleIter it l (i+1)→Heap.SameBut it st.heap h'→Q x { st with heap:=h' }):wpAny (model prog w) A (Builtin.SmallTypes.nextOf (.ref it)) Q E st:=by
 obtain⟨o,ho,hc,hd⟩:=id hit
 obtain⟨o2,ho2,_,n2,hd2⟩:=hl
 unfold Builtin.SmallTypes.nextOf
 refine wpAny_bind (wpAny_callSpecial?_slot (name:=Str.ofString "__next__") hit.typeIs F.slot_tuple_iterator_next (wpAny_call_entry F.slot_tuple_iterator_next hit.typeIs F.entry_tuple_iterator_next ?_ (F.args_tuple_iterator_next_1 _)))
 show wpAny _ A.in1 (field (.ref it) 0 >>= _) _ _ st
 refine wpAny_bind (wpAny_field ho hd (x:=.ref l) rfl ?_)
 show wpAny _ A.in1 (if (Value.ref l==Value.none)=true then _ else _) _ _ st
 rw [if_neg (fun z:(Value.ref l==Value.none)=true=>Bool.false_ne_true z)]
 show wpAny _ A.in1 (field (.ref it) 1 >>= _) _ _ st
 refine wpAny_bind (wpAny_field (x:=.int i 0) ho hd rfl ?_)
 show wpAny _ A.in1 (seqItems? (.ref l) >>= _) _ _ st
 refine wpAny_bind (wpAny_seqItems ho2 hd2 ?_)
 simp only [Int.toNat_natCast,hx]
 refine wpAny_bind (wpAny_setField ho hd (by simp) (wpAny_pure ⟨x,rfl,wpAny_pure (hQ _ ⟨_,Heap.get?_update_self _ ho (Obj.isFreed_of_fields (Obj.data_mapFields hd _)),(Obj.cls_mapFields ..).trans hc,?_⟩ (Heap.SameBut.update ..))⟩))
 rw [Obj.data_mapFields hd]; simp [rawInt]
theorem x5p {it l:Addr} {i:Nat} {its:Array Value} {Q:Value→Shared→Prop} (hh:A.handled=none) (hit:st.heap.IsTupleIter it l i) (hl:st.heap.IsTuple l its) (hx:its[i]? = none)
  (hE:∀ h' e,Heap.ExtBut it st.heap h'→(∃ o,h'.get? e=some o∧o.cls=.type "StopIteration")→E (.ref e) { st with heap:=h' }):wpAny (model prog w) A (Builtin.SmallTypes.nextOf (.ref it)) Q E st:=by
 obtain⟨o,ho,hc,hd⟩:=id hit
 obtain⟨o2,ho2,_,n2,hd2⟩:=hl
 unfold Builtin.SmallTypes.nextOf
 refine wpAny_bind (wpAny_callSpecial?_slot (name:=Str.ofString "__next__") hit.typeIs F.slot_tuple_iterator_next (wpAny_call_entry F.slot_tuple_iterator_next hit.typeIs F.entry_tuple_iterator_next ?_ (F.args_tuple_iterator_next_1 _)))
 show wpAny _ A.in1 (field (.ref it) 0 >>= _) _ _ st
 refine wpAny_bind (wpAny_field ho hd (x:=.ref l) rfl ?_)
 show wpAny _ A.in1 (if (Value.ref l==Value.none)=true then _ else _) _ _ st
 rw [if_neg (fun z:(Value.ref l==Value.none)=true=>Bool.false_ne_true z)]
 show wpAny _ A.in1 (field (.ref it) 1 >>= _) _ _ st
 refine wpAny_bind (wpAny_field (x:=.int i 0) ho hd rfl ?_)
 show wpAny _ A.in1 (seqItems? (.ref l) >>= _) _ _ st
 refine wpAny_bind (wpAny_seqItems ho2 hd2 ?_)
 simp only [Int.toNat_natCast,hx]
 refine wpAny_bind (wpAny_rule (wpAny_bind (wpAny_setField ho hd (by simp) (wpAny_bind ?_))))
 show wpAny _ A.in1 (newExc (.type "StopIteration") []) _ _ _
 simp only [newTuple,newExc]
 refine wpAny_bind (wpAny_newObj_type (wpAny_bind (m:=firstArgMember _ _) (wpAny_of_eq (a:=Value.none) (by first | rfl | (simp only [firstArgMember]; rfl)) (wpAny_newObj_type ?_ (by size_fits)))) (by size_fits))
 simp only [raiseNew]
 refine wpAny_bind (wpAny_handled ?_)
 first | rw [hh] | rw [show A.in1.handled=none from hh]
 exact wpAny_bind (wpAny_pure (wpAny_throw (hE _ _ (((Heap.SameBut.update ..).extBut.push _).push _) ⟨_,Heap.get?_push_size _ rfl,rfl⟩)))
theorem Src.draw {t:Bool} {it l:Addr} {i:Nat} {its:Array Value} {x:Value} {Q:Value→Shared→Prop} (S:Src t st.heap it l its i) (hne:l≠it) (hx:its[i]? = some x)
  (hQ:∀ h',Src t h' it l its (i+1)→Heap.SameBut it st.heap h'→Q x { st with heap:=h' }):wpAny (model prog w) A (Builtin.SmallTypes.nextOf (.ref it)) Q E st:=by
 cases t with
 | true=>exact z6f S.1 S.2 hx fun h' a b=>hQ h' ⟨a,S.2.extBut b.extBut hne⟩ b
 | false=>exact wpAny_nextOf_list_item S.1 S.2 hx fun h' a b=>hQ h' ⟨a,S.2.extBut b.extBut hne⟩ b
theorem Src.none {t:Bool} {it l:Addr} {i:Nat} {its:Array Value} {Q:Value→Shared→Prop} (hh:A.handled=none) (S:Src t st.heap it l its i) (hx:its[i]? = none)
  (hE:∀ h' e,Heap.ExtBut it st.heap h'→(∃ o,h'.get? e=some o∧o.cls=.type "StopIteration")→E (.ref e) { st with heap:=h' }):wpAny (model prog w) A (Builtin.SmallTypes.nextOf (.ref it)) Q E st:=by
 cases t with
 | true=>exact x5p hh S.1 S.2 hx hE
 | false=>exact wpAny_nextOf_list_end hh S.1 S.2 hx hE
structure Apart (z TI TO i1 i2 l1 l2:Addr):Prop where
 a:TI≠z∧TO≠z∧i1≠z∧i2≠z
 b:TI≠TO∧TI≠i1∧TI≠i2∧TO≠i1∧TO≠i2∧i1≠i2
 c:l1≠z∧l1≠TO∧l1≠i1∧l1≠i2
 d:l2≠z∧l2≠TO∧l2≠i1∧l2≠i2
theorem z8c {z TI TO i1 i2 l1 l2:Addr} {t1 t2:Bool} {k:Nat} {xs ys:Array Value} {x y a b:Value} {Q:Value→Shared→Prop} (D:Apart z TI TO i1 i2 l1 l2)
  (hz:IsZip st.heap z TI TO .none) (hTI:IsPair st.heap TI (.ref i1) (.ref i2)) (hTO:IsPair st.heap TO a b)
  (h1:Src t1 st.heap i1 l1 xs k) (h2:Src t2 st.heap i2 l2 ys k) (hx:xs[k]? = some x) (hy:ys[k]? = some y)
  (hQ:∀ h',IsZip h' z TI TO (rawInt st.heap.objs.size)→IsPair h' TO x y→Src t1 h' i1 l1 xs (k+1)→Src t2 h' i2 l2 ys (k+1)→IsPair h' st.heap.objs.size x y →
   (∀ c o,c≠z→c≠TO→c≠i1→c≠i2→st.heap.get? c=some o→h'.get? c=some o)→Q (.ref st.heap.objs.size) { st with heap:=h' }) :
  wpAny (model prog w) A (Builtin.«zip.__next__» ⟨[.ref z],[]⟩) (fun fin s'=>∃ v,fin=.done (.ret v)∧Q v s') E st:=by
 obtain⟨⟨d1,d2,d3,d4⟩,⟨d5,d6,d7,d8,d9,d10⟩,⟨d11,d12,d13,d14⟩,⟨d15,d16,d17,d18⟩⟩:=D
 show wpAny _ A (field (.ref z) 2 >>= _) _ _ st
 refine wpAny_bind (wpAny_field (x:=.bool false) hz rfl rfl ?_)
 show wpAny _ A (field (.ref z) 3 >>= _) _ _ st
 refine wpAny_bind (wpAny_field (x:=.ref TI) hz rfl rfl (wpAny_bind (wpAny_seqItems hTI rfl ?_)))
 show wpAny _ A (Builtin.SmallTypes.ownedTupleIsFree (.ref z) >>= _) _ _ st
 refine wpAny_bind ?_
 unfold Builtin.SmallTypes.ownedTupleIsFree
 refine wpAny_bind (wpAny_field (x:=.none) hz rfl rfl (wpAny_pure ?_))
 simp only [if_true]
 refine wpAny_bind (wpAny_rule (wpAny_bind (wpAny_field (x:=.ref TO) hz rfl rfl (wpAny_bind (wpAny_setField_rec hz (by simp) fun g1 z1 b1=>?_)))))
 replace z1:IsZip g1 z TI TO .ellipsis:=z1
 refine wpAny_bind ?_
 simp only [List.zipIdx_nil,List.zipIdx_cons,List.forIn_nil,List.forIn_cons]
 refine wpAny_bind (wpAny_bind (wpAny_onRaise ?_))
 show wpAny _ A (Builtin.SmallTypes.nextOf (.ref i1) >>= _) _ _ _
 have s1:Src t1 g1 i1 l1 xs k:=h1.keep (fun o e=>b1.extBut _ o d3 e) (fun o e=>b1.extBut _ o d11 e)
 refine wpAny_bind (Src.draw (st:={ st with heap:=g1 }) s1 d13 hx fun g2 s2 b2=>wpAny_pure ?_)
 have p2:IsPair g2 TO a b:=b2.extBut _ _ d8 (b1.extBut _ _ d2 hTO)
 refine wpAny_bind (wpAny_seqItems p2 rfl (wpAny_bind (wpAny_updateSeq_pair p2 fun g3 p3 b3=>?_)))
 replace p3:IsPair g3 TO x b:=p3
 refine wpAny_bind (wpAny_letGo (wpAny_pure ?_))
 refine wpAny_bind (wpAny_bind (wpAny_onRaise ?_))
 show wpAny _ A (Builtin.SmallTypes.nextOf (.ref i2) >>= _) _ _ _
 have s3:Src t2 g3 i2 l2 ys k:=h2.keep (fun o e=>b3.extBut _ o d9.symm (b2.extBut _ o d10.symm (b1.extBut _ o d4 e))) (fun o e=>b3.extBut _ o d16 (b2.extBut _ o d17 (b1.extBut _ o d15 e)))
 refine wpAny_bind (Src.draw (st:={ st with heap:=g3 }) s3 d18 hy fun g4 s4 b4=>wpAny_pure ?_)
 have p4:IsPair g4 TO x b:=b4.extBut _ _ d9 p3
 refine wpAny_bind (wpAny_seqItems p4 rfl (wpAny_bind (wpAny_updateSeq_pair p4 fun g5 p5 b5=>?_)))
 replace p5:IsPair g5 TO x y:=p5
 refine wpAny_bind (wpAny_letGo (wpAny_pure (wpAny_pure ?_)))
 refine wpAny_bind (wpAny_seqItems p5 rfl (wpAny_bind (wpAny_newTuple ?_)))
 have sz:g5.objs.size=st.heap.objs.size:=by rw [b5.1,b4.1,b3.1,b2.1,b1.1]
 have z5:IsZip g5 z TI TO .ellipsis:=b5.extBut _ _ d2.symm (b4.extBut _ _ d4.symm (b3.extBut _ _ d2.symm (b2.extBut _ _ d3.symm z1)))
 have kp:∀ c o,c≠z→c≠TO→c≠i1→c≠i2→st.heap.get? c=some o→g5.get? c=some o:=fun c o c1 c2 c3 c4 e=>b5.extBut _ _ c2 (b4.extBut _ _ c4 (b3.extBut _ _ c2 (b2.extBut _ _ c3 (b1.extBut _ _ c1 e))))
 have s5:Src t1 g5 i1 l1 xs (k+1):=s2.keep (fun o e=>b5.extBut _ o d8.symm (b4.extBut _ o d10 (b3.extBut _ o d8.symm e))) (fun o e=>b5.extBut _ o d12 (b4.extBut _ o d14 (b3.extBut _ o d12 e)))
 have r5:Src t2 g5 i2 l2 ys (k+1):=s4.keep (fun o e=>b5.extBut _ o d9.symm e) (fun o e=>b5.extBut _ o d16 e)
 have zlt:z < g5.objs.size:=Heap.lt_size z5
 show wpAny _ A (Builtin.SmallTypes.ownedTupleHandOut (.ref z) (.ref g5.objs.size) >>= _) _ _ _
 refine wpAny_bind ?_
 unfold Builtin.SmallTypes.ownedTupleHandOut
 have z6:IsZip (g5.push { cls:=.type "tuple",data:=.seq #[x,y] }) z TI TO .ellipsis:=Heap.get?_push_of_some _ z5
 refine wpAny_bind (wpAny_setField_rec z6 (by simp) fun g7 z7 b7=>?_)
 replace z7:IsZip g7 z TI TO (rawInt g5.objs.size):=z7
 refine wpAny_setField_rec z7 (by simp) fun g8 z8 b8=>?_
 replace z8:IsZip g8 z TI TO (rawInt g5.objs.size):=z8
 have up:∀ c o,c≠z→g5.get? c=some o→g8.get? c=some o:=fun c o c1 e=>b8.extBut _ _ c1 (b7.extBut _ _ c1 (Heap.get?_push_of_some _ e))
 have t8:IsPair g8 g5.objs.size x y:=b8.extBut _ _ (Nat.ne_of_gt zlt) (b7.extBut _ _ (Nat.ne_of_gt zlt) (Heap.get?_push_size _ rfl))
 rw [sz] at z8 t8
 refine wpAny_pure ⟨_,rfl,?_⟩
 show Q (.ref g5.objs.size) _
 rw [sz]
 exact hQ g8 z8 (up _ _ d2 p5) (s5.keep (fun o e=>up _ o d3 e) fun o e=>up _ o d11 e) (r5.keep (fun o e=>up _ o d4 e) fun o e=>up _ o d15 e) t8 fun c o c1 c2 c3 c4 e=>up c o c1 (kp c o c1 c2 c3 c4 e)
theorem j0k {z TI TO i1 i2 l1 l2:Addr} {t1 t2:Bool} {k:Nat} {xs ys:Array Value} {a b:Value} {Q:Fin→Shared→Prop} (hh:A.handled=none) (D:Apart z TI TO i1 i2 l1 l2)
  (hz:IsZip st.heap z TI TO .none) (hTI:IsPair st.heap TI (.ref i1) (.ref i2)) (hTO:IsPair st.heap TO a b)
  (h1:Src t1 st.heap i1 l1 xs k) (h2:Src t2 st.heap i2 l2 ys k) (hend:xs[k]? = none∨ys[k]? = none)
  (hE:∀ h' e,(∀ c o,c≠z→c≠TO→c≠i1→c≠i2→st.heap.get? c=some o→h'.get? c=some o)→(∃ o,h'.get? e=some o∧o.cls=.type "StopIteration")→E (.ref e) { st with heap:=h' }) :
  wpAny (model prog w) A (Builtin.«zip.__next__» ⟨[.ref z],[]⟩) Q E st:=by
 obtain⟨⟨d1,d2,d3,d4⟩,⟨d5,d6,d7,d8,d9,d10⟩,⟨d11,d12,d13,d14⟩,⟨d15,d16,d17,d18⟩⟩:=D
 show wpAny _ A (field (.ref z) 2 >>= _) _ _ st
 refine wpAny_bind (wpAny_field (x:=.bool false) hz rfl rfl ?_)
 show wpAny _ A (field (.ref z) 3 >>= _) _ _ st
 refine wpAny_bind (wpAny_field (x:=.ref TI) hz rfl rfl (wpAny_bind (wpAny_seqItems hTI rfl ?_)))
 show wpAny _ A (Builtin.SmallTypes.ownedTupleIsFree (.ref z) >>= _) _ _ st
 refine wpAny_bind ?_
 unfold Builtin.SmallTypes.ownedTupleIsFree
 refine wpAny_bind (wpAny_field (x:=.none) hz rfl rfl (wpAny_pure ?_))
 simp only [if_true]
 refine wpAny_bind (wpAny_rule (wpAny_bind (wpAny_field (x:=.ref TO) hz rfl rfl (wpAny_bind (wpAny_setField_rec hz (by simp) fun g1 z1 b1=>?_)))))
 replace z1:IsZip g1 z TI TO .ellipsis:=z1
 refine wpAny_bind ?_
 simp only [List.zipIdx_nil,List.zipIdx_cons,List.forIn_nil,List.forIn_cons]
 refine wpAny_bind (wpAny_bind (wpAny_onRaise ?_))
 show wpAny _ A (Builtin.SmallTypes.nextOf (.ref i1) >>= _) _ _ _
 have s1:Src t1 g1 i1 l1 xs k:=h1.keep (fun o e=>b1.extBut _ o d3 e) (fun o e=>b1.extBut _ o d11 e)
 cases hx:xs[k]? with
 | none =>
  refine wpAny_bind (Src.none (st:={ st with heap:=g1 }) hh s1 hx fun g2 e b2 he=>?_)
  obtain⟨oe,hoe,hce⟩:=he
  have z2:IsZip g2 z TI TO .ellipsis:=b2 _ _ d3.symm z1
  have ez:e≠z:=fun q=>by subst q; rw [z2] at hoe; cases hoe; simp at hce
  refine wpAny_setField_rec z2 (by simp) fun g3 _ b3=>hE g3 e (fun c o c1 _ c3 _ q=>b3.extBut _ _ c1 (b2 _ _ c3 (b1.extBut _ _ c1 q))) ⟨oe,b3.extBut _ _ ez hoe,hce⟩
 | some x =>
  have hy:ys[k]? = none:=by rcases hend with h | h; rw [hx] at h; cases h; exact h
  refine wpAny_bind (Src.draw (st:={ st with heap:=g1 }) s1 d13 hx fun g2 s2 b2=>wpAny_pure ?_)
  have p2:IsPair g2 TO a b:=b2.extBut _ _ d8 (b1.extBut _ _ d2 hTO)
  refine wpAny_bind (wpAny_seqItems p2 rfl (wpAny_bind (wpAny_updateSeq_pair p2 fun g3 p3 b3=>?_)))
  refine wpAny_bind (wpAny_letGo (wpAny_pure ?_))
  refine wpAny_bind (wpAny_bind (wpAny_onRaise ?_))
  show wpAny _ A (Builtin.SmallTypes.nextOf (.ref i2) >>= _) _ _ _
  have s3:Src t2 g3 i2 l2 ys k:=h2.keep (fun o e=>b3.extBut _ o d9.symm (b2.extBut _ o d10.symm (b1.extBut _ o d4 e))) (fun o e=>b3.extBut _ o d16 (b2.extBut _ o d17 (b1.extBut _ o d15 e)))
  refine wpAny_bind (Src.none (st:={ st with heap:=g3 }) hh s3 hy fun g4 e b4 he=>?_)
  obtain⟨oe,hoe,hce⟩:=he
  have z4:IsZip g4 z TI TO .ellipsis:=b4 _ _ d4.symm (b3.extBut _ _ d2.symm (b2.extBut _ _ d3.symm z1))
  have ez:e≠z:=fun q=>by subst q; rw [z4] at hoe; cases hoe; simp at hce
  refine wpAny_setField_rec z4 (by simp) fun g5 _ b5=>hE g5 e (fun c o c1 c2 c3 c4 q=>b5.extBut _ _ c1 (b4 _ _ c4 (b3.extBut _ _ c2 (b2.extBut _ _ c3 (b1.extBut _ _ c1 q))))) ⟨oe,b5.extBut _ _ ez hoe,hce⟩
end
section
noncomputable def SqK (t:Bool) (h:Heap) (l:Addr) (xs:Array Value):Prop:=match t with
 | true=>h.IsTuple l xs
 | false=>h.IsList l xs
noncomputable def z2j (t:Bool) (l:Addr):Obj:={ cls:=.type (if t then "tuple_iterator" else "list_iterator"),data:=.fields #[.ref l,.int 0 0] }
theorem SqK.push {t:Bool} {h:Heap} {l:Addr} {xs:Array Value} (x:SqK t h l xs) (o:Obj):SqK t (h.push o) l xs:=by
 cases t with
 | true=>exact Heap.IsTuple.push x o
 | false=>exact Heap.IsList.push x o
theorem Src.new {t:Bool} {h:Heap} {it l:Addr} {xs:Array Value} (e:h.get? it=some (z2j t l)) (q:SqK t h l xs):Src t h it l xs 0:=by
 cases t with
 | true=>exact⟨⟨_,e,rfl,rfl⟩,q⟩
 | false=>exact⟨⟨_,e,rfl,rfl⟩,q⟩
variable {prog:Program} {w:World} {A:Around} {E:Value→Shared→Prop} {st:Shared}
theorem z5d {t:Bool} {l:Addr} {its:Array Value} {Q:Value→Shared→Prop} (hl:SqK t st.heap l its) (hQ:Q (.ref st.heap.objs.size) { st with heap:=st.heap.push (z2j t l) }):wpAny (model prog w) A (pyIter (.ref l)) Q E st:=by
 cases t with
 | true=>exact wpAny_pyIter_tuple hl hQ
 | false=>exact wpAny_pyIter_list hl hQ
noncomputable abbrev zp1 (h:Heap) (t1:Bool) (l1:Addr):Heap:=h.push (z2j t1 l1)
noncomputable abbrev zp2 (h:Heap) (t1 t2:Bool) (l1 l2:Addr):Heap:=(zp1 h t1 l1).push (z2j t2 l2)
noncomputable abbrev zp3 (h:Heap) (t1 t2:Bool) (l1 l2:Addr):Heap:=(zp2 h t1 t2 l1 l2).push { cls:=.type "tuple",data:=.seq #[.ref h.objs.size,.ref (zp1 h t1 l1).objs.size] }
noncomputable abbrev zp4 (h:Heap) (t1 t2:Bool) (l1 l2:Addr):Heap:=(zp3 h t1 t2 l1 l2).push { cls:=.type "tuple",data:=.seq #[.none,.none] }
noncomputable abbrev zp5 (h:Heap) (t1 t2:Bool) (l1 l2:Addr):Heap:=(zp4 h t1 t2 l1 l2).push { cls:=.type "zip",data:=.fields #[.none,.bool false,.bool false,.ref (zp2 h t1 t2 l1 l2).objs.size,.ref (zp3 h t1 t2 l1 l2).objs.size] }
theorem z1l (t1 t2:Bool) (l1 l2:Addr) (xs ys:Array Value) :
  Meets (Builtin.«zip.__new__» ⟨[.type "zip",.ref l1,.ref l2],[]⟩) (fun _ R s=>SqK t1 s.heap l1 xs∧SqK t2 s.heap l2 ys∧R (.ok (.ret (.ref (zp4 s.heap t1 t2 l1 l2).objs.size))) { s with heap:=zp5 s.heap t1 t2 l1 l2 }) :=
 .of_wp fun prog w A R s h=>by
  obtain⟨hp,g,d,tk,os⟩:=s
  obtain⟨q1,q2,h⟩:=h
  have hsub:=sub_zip
  have r1:SqK t1 (Shared.heap ⟨hp,g,d,tk,os⟩) l1 xs:=q1
  have r2:SqK t2 (Shared.heap ⟨hp.push (z2j t1 l1),g,d,tk,os⟩) l2 ys:=q2.push _
  wp_walk using z5d r1,z5d r2
  exact⟨_,rfl,h⟩
theorem z3m {t1 t2:Bool} {l1 l2:Addr} {xs ys:Array Value} {Q:Value→Shared→Prop} (q1:SqK t1 st.heap l1 xs) (q2:SqK t2 st.heap l2 ys)
  (h:∀ h',IsZip h' (st.heap.objs.size+4) (st.heap.objs.size+2) (st.heap.objs.size+3) .none→IsPair h' (st.heap.objs.size+2) (.ref st.heap.objs.size) (.ref (st.heap.objs.size+1)) →
   IsPair h' (st.heap.objs.size+3) .none .none→Src t1 h' st.heap.objs.size l1 xs 0→Src t2 h' (st.heap.objs.size+1) l2 ys 0 →
   (∀ c o,st.heap.get? c=some o→h'.get? c=some o)→Q (.ref (st.heap.objs.size+4)) { st with heap:=h' }) :
  wpAny (model prog w) A (call (.type "zip") [.ref l1,.ref l2]) Q E st:=by
 refine callType_new F.called_zip (by decide) (F.typeCall_zip_2 _ _) (F.newCall_zip_2 _ _) (fun obj=>F.args_object_init_3 obj _ _) F.entry_zip_new (z1l t1 t2 l1 l2 xs ys) ⟨q1,q2,?_⟩
 have n1:(zp1 st.heap t1 l1).objs.size=st.heap.objs.size+1:=Heap.size_push ..
 have n2:(zp2 st.heap t1 t2 l1 l2).objs.size=st.heap.objs.size+2:=by rw [Heap.size_push,n1]
 have n3:(zp3 st.heap t1 t2 l1 l2).objs.size=st.heap.objs.size+3:=by rw [Heap.size_push,n2]
 have n4:(zp4 st.heap t1 t2 l1 l2).objs.size=st.heap.objs.size+4:=by rw [Heap.size_push,n3]
 have g5:(zp5 st.heap t1 t2 l1 l2).get? (zp4 st.heap t1 t2 l1 l2).objs.size=some _:=Heap.get?_push_size _ rfl
 have g4:(zp5 st.heap t1 t2 l1 l2).get? (zp3 st.heap t1 t2 l1 l2).objs.size=some _:=Heap.get?_push_of_some _ (Heap.get?_push_size _ rfl)
 have g3:(zp5 st.heap t1 t2 l1 l2).get? (zp2 st.heap t1 t2 l1 l2).objs.size=some _:=Heap.get?_push_of_some _ (Heap.get?_push_of_some _ (Heap.get?_push_size _ rfl))
 have g2:(zp5 st.heap t1 t2 l1 l2).get? (zp1 st.heap t1 l1).objs.size=some _:=Heap.get?_push_of_some _ (Heap.get?_push_of_some _ (Heap.get?_push_of_some _ (Heap.get?_push_size _ rfl)))
 have g1:(zp5 st.heap t1 t2 l1 l2).get? st.heap.objs.size=some _:=Heap.get?_push_of_some _ (Heap.get?_push_of_some _ (Heap.get?_push_of_some _ (Heap.get?_push_of_some _ (Heap.get?_push_size _ rfl))))
 show _∧_
 rw [n2,n3,n4] at g5
 rw [n1,n2] at g3
 rw [n3] at g4
 rw [n1] at g2
 rw [n4]
 exact⟨⟨_,g5,rfl⟩,h _ g5 g3 g4 (Src.new g1 ((((q1.push _).push _).push _).push _ |>.push _)) (Src.new g2 ((((q2.push _).push _).push _).push _ |>.push _)) fun c o x =>
  Heap.get?_push_of_some _ (Heap.get?_push_of_some _ (Heap.get?_push_of_some _ (Heap.get?_push_of_some _ (Heap.get?_push_of_some _ x))))⟩
end
noncomputable def Its (x:Str):It:=⟨fun i _=>i < x.cps.size,fun i H v H'=>H'=H∧∃ c,x.cps[i]? = some c∧v=.str ⟨#[c]⟩,fun i _=>i=x.cps.size⟩
theorem x5y {P:Program} {w:World} {K:Frag} {y:Str} {pos:Pos} (it:Addr) (x:Str) (t:Tok) (nm:String)
  (W:∀ A':Around,A'.handled=none→Walks P w A' it [it] [it] x.cps.size (SignAt x) (fun i h=>h.IsStrIter it nm x t i))
  (self:∀ (A:Around) (i:Nat) (s:Shared) (Q:Value→Shared→Prop) (E:Value→Shared→Prop),s.heap.IsStrIter it nm x t i→Q (.ref it) s→wpAny (model P w) A (pyIter (.ref it)) Q E s) :
  Turn P w K (.Name y pos) (Its x) [it] it (fun i h=>h.IsStrIter it nm x t i) where
 mem:=by simp
 obj:=fun i h st b hb=>by
  have e:b=it:=by simpa using hb
  subst e
  obtain⟨o,e,c,d⟩:=st
  exact⟨o,e,fun v z=>by rw [d] at z; cases z⟩
 keep:=fun i h h' st k=>let ⟨o,ho,r⟩:=st; ⟨o,k it (by simp) o ho,r⟩
 item:=by
  intro X hP hw hK hc i pins s σ H E I hf st hg
  subst hP hw hK
  obtain⟨f0,f1,f2,f3,f4,f5⟩:=hf it (by simp)
  refine (W X.A (I.ok.hd hc)).item i s _ _ hg st fun v h' tk hv st' kk=>?_
  obtain⟨c,u,hcc,rfl⟩:=hv
  have I1:Inv X pins σ H { s with heap:=h',toks:=tk }:=I.turned (fun b o hb e=>kk b o (by simpa using hb) e) f0 f1 f3 f4 f5
  exact⟨_,rfl,wpAny_pure ⟨.str ⟨#[c]⟩,H,I1,⟨u,rfl⟩,⟨rfl,c,hcc,rfl⟩,st',fun b hb=>(hf b hb).1⟩⟩
 done:=by
  intro X hP hw hK hc i pins s σ H E I hf st hg
  subst hP hw hK
  have hg':i=x.cps.size:=hg
  subst hg'
  obtain⟨f0,f1,f2,f3,f4,f5⟩:=hf it (by simp)
  exact (W X.A (I.ok.hd hc)).done s _ _ st fun h' tk kk=>⟨rfl,I.turned (t':=tk) (fun b o hb e=>kk b o (by simpa using hb) e) f0 f1 f3 f4 f5⟩
 self:=self
noncomputable def j8w (te:TE):TI:=fun σ H R=>te σ H fun v H1=>∃ x,v=.str x∧R (Its x) H1
theorem x9i {X:Cx} {l:Expr} {te:TE} {y:Str} {p:Pos} (hl:PE X l te):PI X (.Name y p) l (j8w te):=by
 intro pins s σ H R I h
 refine thn (hl pins s σ H _ I h) fun v s1 ⟨z,H1,I1,r1,q1⟩=>?_
 obtain⟨x,e,q⟩:=q1
 subst e
 obtain⟨t,rfl⟩:=r1
 have fp:∀ b∈[s1.heap.objs.size],z1v X pins H1 b:=fun b hb=>by
  have e:b=s1.heap.objs.size:=by simpa using hb
  subst e
  exact I1.fpOk (Nat.le_refl _) (I1.hok.fresh (Nat.le_refl _))
 cases ha:x.cps.all (· < 128)
 ·exact wpAny_pyIter_wide ha ⟨s1.heap.objs.size,[s1.heap.objs.size],_,_,H1,rfl,I1.kept (t':=s1.toks) fun b o e=>Heap.get?_push_of_some _ e,
   x5y _ x t "str_iterator" (fun A' hA=>Walks.strWide hA _ x t) (fun _ _ _ _ _ st h=>wpAny_pyIter_striter_wide st h),⟨_,Heap.get?_push_size _ rfl,rfl,rfl⟩,fp,q⟩
 ·exact wpAny_pyIter_ascii ha ⟨s1.heap.objs.size,[s1.heap.objs.size],_,_,H1,rfl,I1.kept (t':=s1.toks) fun b o e=>Heap.get?_push_of_some _ e,
   x5y _ x t "str_ascii_iterator" (fun A' hA=>Walks.strAscii hA _ x t) (fun _ _ _ _ _ st h=>wpAny_pyIter_striter_ascii st h),⟨_,Heap.get?_push_size _ rfl,rfl,rfl⟩,fp,q⟩
noncomputable def SqB (t:Bool) (K:Frag) (H:Hp) (a:Addr) (xs:List V):Prop:=match t with
 | true=>SqT K H a xs
 | false=>SqL K H a xs
section
variable {X:Cx} {pins:List (Addr × Obj)} {σ:St} {H:Hp} {s:Shared}
theorem Inv.sq {t:Bool} {a:Addr} {xs:List V} (I:Inv X pins σ H s) (h:SqB t X.K H a xs):∃ its:List Value,q2x xs its∧SqK t s.heap a its.toArray∧xs.length≤sizeLine:=by
 cases t with
 | true=>obtain⟨its,r,p,z⟩:=I.tuple h; exact⟨its,r,p,z⟩
 | false=>obtain⟨its,r,p,z⟩:=I.list h; exact⟨its,r,p.isList,z⟩
theorem Inv.sq_inj {t:Bool} {a:Addr} {xs ys:List V} (I:Inv X pins σ H s) (h:SqB t X.K H a xs) (h':SqB t X.K H a ys):xs=ys:=by
 cases t with
 | true=>exact I.tuple_inj h h'
 | false=>exact I.list_inj h h'
theorem Inv.sq_ne {t:Bool} {a b:Addr} {xs:List V} (I:Inv X pins σ H s) (h:SqB t X.K H a xs) (f:z1v X pins H b):a≠b:=by
 intro z
 subst z
 obtain⟨f0,_,_,f3,_⟩:=f
 have nob:∀ o,X.base.get? a=some o→False:=fun o e=>by
  rcases f3 with q | q
  ·exact I.ok.noex a o e q
  ·exact absurd (Nat.lt_of_lt_of_le (Heap.lt_size e) (Nat.le_trans I.ok.bsz q)) (Nat.lt_irrefl _)
 cases t with
 | true =>
  rcases (show SqT X.K H a xs from h) with (q | ⟨o,q⟩) | q
  ·rw [f0] at q; cases q
  ·rw [f0] at q; cases q
  ·obtain⟨o,q⟩:=q
   first
    | exact nob _ (I.mod.kin a o q.1)
    | (obtain⟨_,_,q,_⟩:=q; exact nob _ (I.mod.kin a _ q))
    | (obtain⟨_,q,_⟩:=q; exact nob _ (I.mod.kin a _ q))
 | false =>
  rcases (show SqL X.K H a xs from h) with (q | ⟨o,q⟩) | q
  ·rw [f0] at q; cases q
  ·rw [f0] at q; cases q
  ·obtain⟨o,q⟩:=q
   first
    | exact nob _ (I.mod.kin a o q.1)
    | (obtain⟨_,_,q,_⟩:=q; exact nob _ (I.mod.kin a _ q))
    | (obtain⟨_,q,_⟩:=q; exact nob _ (I.mod.kin a _ q))
end
noncomputable def Itz (K:Frag) (t1 t2:Bool) (a b:Addr):It :=
 ⟨fun i H=>∃ xs ys x y,SqB t1 K H a xs∧SqB t2 K H b ys∧xs[i]? = some x∧ys[i]? = some y,
  fun i H v H'=>∃ p x y,v=.ref p∧H p=none∧H'=upd H p (.tup [x,y])∧(∀ xs,SqB t1 K H a xs→xs[i]? = some x)∧∀ ys,SqB t2 K H b ys→ys[i]? = some y,
  fun i H=>∃ xs ys,SqB t1 K H a xs∧SqB t2 K H b ys∧(xs.length≤i∨ys.length≤i)⟩
noncomputable def ItB (t:Bool) (h:Heap) (it l:Addr) (k:Nat):Prop:=match t with
 | true=>h.IsTupleIter it l k
 | false=>h.IsListIter it l k
theorem ItB.src {t:Bool} {h:Heap} {it l:Addr} {k:Nat} {xs:Array Value} (a:ItB t h it l k) (b:SqK t h l xs):Src t h it l xs k:=by cases t <;> exact⟨a,b⟩
theorem Src.it {t:Bool} {h:Heap} {it l:Addr} {k:Nat} {xs:Array Value} (a:Src t h it l xs k):ItB t h it l k:=by cases t <;> exact a.1
theorem ItB.ob {t:Bool} {h:Heap} {it l:Addr} {k:Nat} (a:ItB t h it l k):∃ o,h.get? it=some o∧∀ v,o.data≠.cell v:=by
 cases t <;> (obtain⟨o,e,_,d⟩:=a; exact⟨o,e,fun v z=>by rw [d] at z; cases z⟩)
theorem ItB.keep {t:Bool} {h h':Heap} {it l:Addr} {k:Nat} (a:ItB t h it l k) (e:∀ o,h.get? it=some o→h'.get? it=some o):ItB t h' it l k:=by
 cases t <;> (obtain⟨o,q,r⟩:=a; exact⟨o,e o q,r⟩)
theorem z7k {P:Program} {w:World} {K:Frag} {es:List Expr} {k0:Nat} {tp:Pos} {t1 t2:Bool} {a b z TI TO i1 i2:Addr}
  (D:(TI≠z∧TO≠z∧i1≠z∧i2≠z)∧TI≠TO∧TI≠i1∧TI≠i2∧TO≠i1∧TO≠i2∧i1≠i2) :
  Turn P w K (.Tuple es k0 tp) (Itz K t1 t2 a b) [z,TI,TO,i1,i2] z (fun i h=>IsZip h z TI TO .none∧IsPair h TI (.ref i1) (.ref i2)∧(∃ u v,IsPair h TO u v)∧ItB t1 h i1 a i∧ItB t2 h i2 b i) where
 mem:=by simp
 obj:=fun i h st c hc=>by
  obtain⟨h1,h2,⟨u,v,h3⟩,h4,h5⟩:=st
  simp only [List.mem_cons,List.not_mem_nil,or_false] at hc
  rcases hc with rfl | rfl | rfl | rfl | rfl
  ·exact⟨_,h1,fun v z=>by cases z⟩
  ·exact⟨_,h2,fun v z=>by cases z⟩
  ·exact⟨_,h3,fun v z=>by cases z⟩
  ·exact h4.ob
  ·exact h5.ob
 keep:=fun i h h' st k=>by
  obtain⟨h1,h2,⟨u,v,h3⟩,h4,h5⟩:=st
  exact⟨k z (by simp) _ h1,k TI (by simp) _ h2,⟨u,v,k TO (by simp) _ h3⟩,h4.keep fun o e=>k i1 (by simp) o e,h5.keep fun o e=>k i2 (by simp) o e⟩
 item:=by
  intro X hP hw hK hc i pins s σ H E I hf st hg
  subst hP hw hK
  obtain⟨h1,h2,⟨u,v,h3⟩,h4,h5⟩:=st
  obtain⟨xs,ys,x,y,q1,q2,hx,hy⟩:=hg
  obtain⟨its,r1,p1,_⟩:=I.sq q1
  obtain⟨jts,r2,p2,_⟩:=I.sq q2
  obtain⟨ux,ex,rx⟩:=r1.get hx
  obtain⟨uy,ey,ry⟩:=r2.get hy
  have fz:=hf z (by simp)
  have fTI:=hf TI (by simp)
  have fTO:=hf TO (by simp)
  have f1:=hf i1 (by simp)
  have f2:=hf i2 (by simp)
  have Dd:Apart z TI TO i1 i2 a b:=⟨D.1,D.2,⟨I.sq_ne q1 fz,I.sq_ne q1 fTO,I.sq_ne q1 f1,I.sq_ne q1 f2⟩,⟨I.sq_ne q2 fz,I.sq_ne q2 fTO,I.sq_ne q2 f1,I.sq_ne q2 f2⟩⟩
  have hT:s.TypeIs (.ref z) "zip" := ⟨_,h1,rfl⟩
  unfold pyNext
  refine wpAny_bind (wpAny_attempt (wpAny_callSpecial?_slot (name:=Str.ofString "__next__") hT F.slot_zip_next (wpAny_call_entry F.slot_zip_next hT F.entry_zip_next (z8c Dd h1 h2 h3 (h4.src p1) (h5.src p2) (by simpa using ex) (by simpa using ey) fun h' a1 a2 a3 a4 a5 a6=>wpAny_pure ?_) (F.args_zip_next_1 _))))
  refine⟨_,rfl,wpAny_letOwnedTupleGo_zip a1 fun h2' b1 b2=>?_⟩
  have lt:∀ {c o},s.heap.get? c=some o→s.heap.objs.size≠c:=fun e=>Nat.ne_of_gt (Heap.lt_size e)
  have nz:=lt h1
  have hk:∀ c o,c∉[z,TI,TO,i1,i2]→s.heap.get? c=some o→h2'.get? c=some o:=fun c o hcn e=>by
   simp only [List.mem_cons,List.not_mem_nil,or_false,not_or] at hcn
   exact b2.extBut c o hcn.1 (a6 c o hcn.1 hcn.2.2.1 hcn.2.2.2.1 hcn.2.2.2.2 e)
  have hTI':h2'.get? TI=s.heap.get? TI:=by
   rw [h2]
   exact b2.extBut _ _ D.1.1 (a6 TI _ D.1.1 D.2.1 D.2.2.1 D.2.2.2.1 h2)
  have I1:Inv X pins σ H { s with heap:=h2' }:=by
   refine I.step (g':=s.gens) (d':=s.drawn) (t':=s.toks) (ch:=[z,TI,TO,i1,i2]) (fun c hcm=>?_) (fun c o _ _ hcn e _=>hk c o hcn e) (fun c o _ _ hcn e _=>⟨o.slots,hk c o hcn e⟩) (fun _ _ _ _ n=>n)
    (fun c o hcn e=>⟨o,hk c o hcn e⟩) (fun _ _ e=>e) (fun _ _ _ e=>e) (fun c ps e=>⟨#[],by rw [e]; simp⟩) (fun m hm=>?_) (fun c u' e=>?_) I.bare
   ·obtain⟨_,g1,_,g3,g4,g5⟩:=hf c hcm
    exact⟨g3,g1,g4,g5⟩
   ·obtain⟨o,es',ep,ho,r⟩:=hm
    exact⟨o,es',ep,hk _ o (fun hm'=>(hf _ hm').2.1 rfl) ho,r⟩
   ·have nin:∀ c' u'',H c'=some u''→c'∉[z,TI,TO,i1,i2]:=fun c' u'' e' hm'=>by rw [(hf _ hm').1] at e'; cases e'
    refine (I.hok c u' e).stay (fun c' v' hc' q=>hk c' v' ?_ q) (fun _ q=>q) fun _ _ q=>q
    rcases hc' with rfl | hc'
    ·exact nin _ _ e
    ·exact nin _ _ hc'
  have hp:IsPair h2' s.heap.objs.size ux uy:=b2.extBut _ _ nz a5
  have fp0:H s.heap.objs.size=none:=I.hok.fresh (Nat.le_refl _)
  have nfp:s.heap.objs.size∉[z,TI,TO,i1,i2]:=fun hm=>by
   obtain⟨o,e,_⟩:∃ o,s.heap.get? s.heap.objs.size=some o∧True:=by
    simp only [List.mem_cons,List.not_mem_nil,or_false] at hm
    rcases hm with q | q | q | q | q
    ·exact⟨_,by rw [q]; exact h1,trivial⟩
    ·exact⟨_,by rw [q]; exact h2,trivial⟩
    ·exact⟨_,by rw [q]; exact h3,trivial⟩
    ·obtain⟨o,e,_⟩:=h4.ob; exact⟨o,by rw [q]; exact e,trivial⟩
    ·obtain⟨o,e,_⟩:=h5.ob; exact⟨o,by rw [q]; exact e,trivial⟩
   exact absurd (Heap.lt_size e) (Nat.lt_irrefl _)
  have I2:Inv X pins σ (upd H s.heap.objs.size (.tup [x,y])) { s with heap:=h2' }:=by
   refine I1.step (s:={ s with heap:=h2' }) (g':=s.gens) (d':=s.drawn) (t':=s.toks) (h':=h2') (ch:=[s.heap.objs.size]) (fun c hcm=>?_) (fun c o _ _ _ e _=>e) (fun c o _ _ _ e _=>⟨o.slots,e⟩) (fun c o hcn e n=>?_)
    (fun c o _ e=>⟨o,e⟩) (fun c xs' e=>?_) (fun c o u' e=>?_) (fun c ps e=>⟨#[],?_⟩) (fun m hm=>hm) (fun c u' e=>?_) I.bare
   ·have e:c=s.heap.objs.size:=by simpa using hcm
    subst e
    obtain⟨_,g1,_,g3,g4,g5⟩:=I.fpOk (Nat.le_refl _) fp0
    exact⟨g3,g1,g4,g5⟩
   ·rw [q0r (by simpa using hcn)]; exact n
   ·rw [q0r (q2c e fp0)]; exact e
   ·rw [q0r (q2c e fp0)]; exact e
   ·rw [q0r (q2c e fp0),e]; simp
   ·by_cases hcs:c=s.heap.objs.size
    ·subst hcs
     rw [q0c] at e
     cases e
     exact⟨by simp [sizeLine_eq],[ux,uy],.cons rx (.cons ry .nil),⟨_,hp,rfl,_,rfl⟩⟩
    ·rw [q0r hcs] at e
     exact (I1.hok c u' e).stay (fun _ _ _ q=>q) (fun c' q=>by rw [q0r (q2c q fp0)]; exact q) fun c' xs' q=>by rw [q0r (q2c q fp0)]; exact q
  refine⟨.ref s.heap.objs.size,_,I2,rfl,⟨s.heap.objs.size,x,y,rfl,fp0,rfl,fun xs' q'=>by rw [I.sq_inj q' q1]; exact hx,fun ys' q'=>by rw [I.sq_inj q' q2]; exact hy⟩,?_,fun c hcm=>?_⟩
  ·exact⟨b1,hTI'.trans h2,⟨ux,uy,b2.extBut _ _ D.1.2.1 a2⟩,(Src.it a3).keep fun o e=>b2.extBut _ o D.1.2.2.1 e,(Src.it a4).keep fun o e=>b2.extBut _ o D.1.2.2.2 e⟩
  ·rw [q0r (fun q=>nfp (by rw [← q]; exact hcm))]; exact (hf c hcm).1
 done:=by
  intro X hP hw hK hc i pins s σ H E I hf st hg
  subst hP hw hK
  obtain⟨h1,h2,⟨u,v,h3⟩,h4,h5⟩:=st
  obtain⟨xs,ys,q1,q2,he⟩:=hg
  obtain⟨its,r1,p1,_⟩:=I.sq q1
  obtain⟨jts,r2,p2,_⟩:=I.sq q2
  have Dd:Apart z TI TO i1 i2 a b:=⟨D.1,D.2,⟨I.sq_ne q1 (hf z (by simp)),I.sq_ne q1 (hf TO (by simp)),I.sq_ne q1 (hf i1 (by simp)),I.sq_ne q1 (hf i2 (by simp))⟩,⟨I.sq_ne q2 (hf z (by simp)),I.sq_ne q2 (hf TO (by simp)),I.sq_ne q2 (hf i1 (by simp)),I.sq_ne q2 (hf i2 (by simp))⟩⟩
  have l1:=r1.length
  have l2:=r2.length
  have hend:its.toArray[i]? = none∨jts.toArray[i]? = none:=by
   rcases he with e | e
   ·exact .inl (by simp; omega)
   ·exact .inr (by simp; omega)
  have hT:s.TypeIs (.ref z) "zip" := ⟨_,h1,rfl⟩
  unfold pyNext
  refine wpAny_bind (wpAny_attempt (wpAny_callSpecial?_slot (name:=Str.ofString "__next__") hT F.slot_zip_next (wpAny_call_entry F.slot_zip_next hT F.entry_zip_next (j0k (I.ok.hd hc) Dd h1 h2 h3 (h4.src p1) (h5.src p2) hend fun h' e kk hx=>?_) (F.args_zip_next_1 _))))
  obtain⟨o,ho,hcl⟩:=hx
  refine wpAny_bind (wpAny_isInstance (T := "StopIteration") (b:=true) ⟨o,ho,hcl⟩ isSubtype_stop (wpAny_pure ⟨rfl,?_⟩))
  have hk:∀ c o,c∉[z,TI,TO,i1,i2]→s.heap.get? c=some o→h'.get? c=some o:=fun c o hcn e=>by
   simp only [List.mem_cons,List.not_mem_nil,or_false,not_or] at hcn
   exact kk c o hcn.1 hcn.2.2.1 hcn.2.2.2.1 hcn.2.2.2.2 e
  refine I.step (g':=s.gens) (d':=s.drawn) (t':=s.toks) (ch:=[z,TI,TO,i1,i2]) (fun c hcm=>?_) (fun c o _ _ hcn e _=>hk c o hcn e) (fun c o _ _ hcn e _=>⟨o.slots,hk c o hcn e⟩) (fun _ _ _ _ n=>n)
   (fun c o hcn e=>⟨o,hk c o hcn e⟩) (fun _ _ e=>e) (fun _ _ _ e=>e) (fun c ps e=>⟨#[],by rw [e]; simp⟩) (fun m hm=>?_) (fun c u' e=>?_) I.bare
  ·obtain⟨_,g1,_,g3,g4,g5⟩:=hf c hcm
   exact⟨g3,g1,g4,g5⟩
  ·obtain⟨o,es',ep,ho,r⟩:=hm
   exact⟨o,es',ep,hk _ o (fun hm'=>(hf _ hm').2.1 rfl) ho,r⟩
  ·have nin:∀ c' u'',H c'=some u''→c'∉[z,TI,TO,i1,i2]:=fun c' u'' e' hm'=>by rw [(hf _ hm').1] at e'; cases e'
   refine (I.hok c u' e).stay (fun c' v' hc' q=>hk c' v' ?_ q) (fun _ q=>q) fun _ _ q=>q
   rcases hc' with rfl | hc'
   ·exact nin _ _ e
   ·exact nin _ _ hc'
 self:=fun _ _ _ _ _ st h=>wpAny_pyIter_zip st.1 h
noncomputable def j9f (K:Frag) (t1 t2:Bool) (ta:TA):TI:=fun σ H R=>ta σ H fun vs H1=>∃ a b xs ys,vs=[.ref a,.ref b]∧SqB t1 K H1 a xs∧SqB t2 K H1 b ys∧R (Itz K t1 t2 a b) H1
theorem z5c (n:Nat):(n+2≠n+4∧n+3≠n+4∧n≠n+4∧n+1≠n+4)∧n+2≠n+3∧n+2≠n∧n+2≠n+1∧n+3≠n∧n+3≠n+1∧n≠n+1:=by omega
theorem z2h (n x:Nat) (h:x=n+4∨x=n+2∨x=n+3∨x=n∨x=n+1):n≤x:=by omega
theorem z7z:bootBuiltins "zip" = some (.type "zip"):=by decide +kernel
theorem z4h {X:Cx} {es0:List Expr} {k0:Nat} {tp:Pos} {a b:Expr} {ta:TA} {p pos:Pos} {t1 t2:Bool} (hg:Gl X "zip") (hm:X.mg "zip" = none) (ha:PA X [a,b] ta)
  (hs:starEach [a,b] X.env=[(false,eval a X.env),(false,eval b X.env)]:=by rfl) (hs2:starEach [b] X.env=[(false,eval b X.env)]:=by rfl) :
  PI X (.Tuple es0 k0 tp) (.Call (.Name "zip" p) [a,b] [] pos) (j9f X.K t1 t2 ta):=by
 intro pins s σ H R I h
 refine Call_ (x7d I hg hm z7z (PyProof.Rows.callWith_type1 (thn (ha pos pins s σ H _ I h) fun us s1 ⟨vs,H1,I1,r1,q1⟩=>?_) (by rw [hs,hs2]) (by rw [hs2]; rfl)))
 obtain⟨c,d,xs,ys,e,q1,q2,q⟩:=q1
 subst e
 obtain⟨u,u',rfl,ru,ru'⟩:=z5m r1
 cases ru
 cases ru'
 obtain⟨its,_,p1,_⟩:=I1.sq q1
 obtain⟨jts,_,p2,_⟩:=I1.sq q2
 refine z3m p1 p2 fun h' a1 a2 a3 a4 a5 kk=>?_
 refine wpAny_pyIter_zip (s:={ s1 with heap:=h' }) a1 ?_
 have I2:Inv X pins σ H1 { s1 with heap:=h' }:=I1.kept (t':=s1.toks) kk
 refine⟨_,[s1.heap.objs.size+4,s1.heap.objs.size+2,s1.heap.objs.size+3,s1.heap.objs.size,s1.heap.objs.size+1],_,_,H1,rfl,I2,z7k (t1:=t1) (t2:=t2) (a:=c) (b:=d) (z5c _),
  ⟨a1,a2,⟨_,_,a3⟩,Src.it a4,Src.it a5⟩,fun x hx=>?_,q⟩
 have hge:s1.heap.objs.size≤x:=by
  simp only [List.mem_cons,List.not_mem_nil,or_false] at hx
  exact z2h _ _ hx
 exact I1.fpOk hge (I1.hok.fresh hge)
section
variable {X:Cx} {a b:Expr} {ta tb:TE} {pos:Pos}
theorem q7j (hc:X.calm=true):x0l X (.builtin "all") (fun xs H Q=>∃ p,∃ bs:List Bool,xs=[.ref p]∧SqL X.K H p (bs.map V.bl)∧Q (.bl (bs.all id)) H):=by
 intro pins s σ H xs us Q I r h
 obtain⟨p,bs,rfl,hq,q⟩:=h
 obtain⟨u,rfl,rx⟩:=x0q r
 cases rx
 obtain⟨its,rv,pl,hz⟩:=I.list hq
 have hl:=pl.isList
 have hlt:p < s.heap.objs.size:=by obtain⟨_,e,_⟩:=hl; exact Heap.lt_size e
 have hlen:bs.length=its.length:=by rw [← rv.length,List.length_map]
 refine call_all_walk (wpAny_pyIter_list hl ?_)
 refine⟨s.heap.objs.size,[s.heap.objs.size,p],[s.heap.objs.size],its.toArray.size,_,_,fun i=>(bs[i]?).getD true,rfl,Walks.list (A:=X.A.in1) (I.ok.hd hc) _ p (Nat.ne_of_lt hlt) its.toArray,
  ⟨⟨_,Heap.get?_push_size _ rfl,rfl,rfl⟩,hl.push _⟩,fun i v s' Q' E' hP hQ=>?_,fun h' tk hk=>?_⟩
 ·have hP':its[i]? = some v:=by simpa using hP
  have hi:i < bs.length:=by rw [hlen]; exact (List.getElem?_eq_some_iff.mp hP').1
  obtain⟨u',e',r'⟩:=rv.get (i:=i) (x:=V.bl bs[i]) (by simp [hi])
  rw [hP'] at e'
  cases e'
  cases r'
  have e2:(bs[i]?).getD true=bs[i]:=by simp [hi]
  have hQ2:Q' ((bs[i]?).getD true) s':=hQ
  rw [e2] at hQ2
  exact wpAny_truthy_bool hQ2
 ·have e:((List.range its.toArray.size).all fun i=>(bs[i]?).getD true)=bs.all id:=by
   rw [List.size_toArray,← hlen]
   rw [Bool.eq_iff_iff]
   simp only [List.all_eq_true,List.mem_range,id]
   constructor
   ·intro h x hx
    obtain⟨i,hi,rfl⟩:=List.mem_iff_getElem.mp hx
    have:=h i hi
    simpa [hi] using this
   ·intro h i hi
    have:=h bs[i] (List.getElem_mem hi)
    simpa [hi] using this
  rw [e]
  refine⟨.bl (bs.all id),H,I.kept (t':=tk) fun b x e=>?_,rfl,q⟩
  exact hk b x (fun hm=>by rw [List.mem_singleton.mp hm] at e; exact Nat.lt_irrefl _ (Heap.lt_size e)) (Heap.get?_push_of_some _ e)
noncomputable def j7x (K:Frag):List V→Hp→VK→Prop:=fun xs H Q=>∃ x c t k,xs=[x,.ty c]∧TyOf K H x t∧PySem.W.kitOne K t (.type c)=some k∧Q (.bl k) H
theorem q5d:x0l X (.builtin "isinstance") (j7x X.K):=by
 intro pins s σ H xs us Q I r h
 obtain⟨x,c,t,k,rfl,ty,e,q⟩:=h
 obtain⟨u,u',rfl,rx,rc⟩:=z5m r
 cases rc
 exact z5o I rx ty e fun tk=>⟨.bl k,H,I.tok tk,rfl,q⟩
noncomputable def j2a (f:Addr) (sp:Sp) (E:XK) (tf:TE) (t:TA):TE:=fun σ H Q=>tf σ H fun x H1=>x=.ref f∧t σ H1 fun vs H2=>sp (vs++[]) H2 Q E
theorem z7c {CX:CXT} {k:Nat} {f:Addr} {fd:FuncData} {ps:List Str} {sp:Sp} {E:XK} {x:Str} {p:Pos} {e:Expr} {es:List Expr} {tf:TE} {t:TA} (F:FnOk X.prog X.w X.K X.mg X.base CX k f fd ps sp) (hr:Room k X.A)
  (hk:keepIn X.K (.ref f)=true) (hb:q2i X.K fd ps []) (hx:q6a CX X E) (hf:PE X (.Name x p) tf) (ha:PA X (e::es) t)
  (he:starEach (e::es) X.env=(false,eval e X.env)::starEach es X.env:=by rfl) (hpl:(backTo pos (starEach es X.env)).any (·.1)=false:=by rfl) :
  PE X (.Call (.Name x p) (e::es) [] pos) (j2a f sp E tf t):=by
 intro pins s σ H Q I h
 refine wpAny_Call_Name_kw (thn (hf pins s σ H _ I h) fun u s0 ⟨v,H0,I0,r0,e0,q0⟩=>?_)
 subst e0
 cases r0
 refine PySem.W.callWith_K (h₀:=X.base) I.ok.mod.kin hk (thn (ha pos pins s0 σ H0 _ I0 q0) fun us s1 ⟨vs,H1,I1,r,q⟩=>⟨I1.kIn,?_⟩) he hpl
 exact x3i F hr hb .nil hx I1 r q
theorem q8t:OpR X (compareOp .LtE) (fun x y H Q=>∃ i j,x=.str i∧y=.str j∧Q (.bl (!decide (j.cps.toList < i.cps.toList))) H):=by
 intro pins s σ H x y v u Q I rx ry h
 obtain⟨i,j,rfl,rfl,q⟩:=h
 obtain⟨t,rfl⟩:=rx
 obtain⟨t',rfl⟩:=ry
 exact PySem.P.le_str ⟨.bl _,H,I,rfl,q⟩
noncomputable def j7v:V→Option Int→Option Int→Hp→VK→Prop:=fun x lo hi H Q=>∃ z,x=.str z∧z.length≤sizeLine∧∀ y,y.length≤z.length→y=Txt.slice z lo hi→Q (.str y) H
theorem q7v:SlR X j7v:=by
 intro pins s σ H x v vl vu lo hi sl Q I rx hs pl pu h
 obtain⟨z,rfl,hz,q⟩:=h
 obtain⟨t,rfl⟩:=rx
 refine⟨"str",_,F.slot_str_getitem.lookup,typeIs_str _ _ _,?_⟩
 have fin:∀ y,y=Txt.slice z lo hi→y.length≤z.length→∀ t' k,EP X pins σ Q (.str y t') { s with toks:=k }:=fun y e hy t' k=>⟨.str y,H,I.tok _,⟨_,rfl⟩,q y hy e⟩
 have le:=Txt.slice_le z lo hi
 cases pl with
 | none =>
  cases pu with
  | none=>exact wpAny_getItem_str_slice (l:=none) (u:=none) (st:=none) hs rfl (post_val_or_str ⟨Nat.le_trans le hz,fin _ rfl le⟩)
  | int j uj=>exact wpAny_getItem_str_slice (l:=none) (u:=some (j,uj)) (st:=none) hs rfl (post_val_or_str ⟨Nat.le_trans le hz,fin _ rfl le⟩)
 | int i ui =>
  cases pu with
  | none=>exact wpAny_getItem_str_slice (l:=some (i,ui)) (u:=none) (st:=none) hs rfl (post_val_or_str ⟨Nat.le_trans le hz,fin _ rfl le⟩)
  | int j uj=>exact wpAny_getItem_str_slice (l:=some (i,ui)) (u:=some (j,uj)) (st:=none) hs rfl (post_val_or_str ⟨Nat.le_trans le hz,fin _ rfl le⟩)
end
section
variable {prog:Program} {w:World} {A:Around} {E:Value→Shared→Prop} {s:Shared}
end
noncomputable def j5g:R2:=fun x y H Q=>∃ a b xs ys,x=.ref a∧y=.ref b∧H a=some (.tup xs)∧H b=some (.tup ys)∧xs.length+ys.length≤sizeLine∧∀ p H',H' p=some (.tup (xs++ys))→q1h H H'→Q (.ref p) H'
theorem q9u {X:Cx}:OpR X (binaryOp .Add) j5g:=by
 intro pins s σ H x y v u Q I rx ry h
 obtain⟨a,b,xs,ys,rfl,rfl,ha,hb,hz,q⟩:=h
 by_cases hx:xs=[]
 ·subst hx
  cases rx
  cases ry
  obtain⟨its,r1,p1,_⟩:=I.tuple (SqT.of ha)
  obtain⟨its2,r2,p2,_⟩:=I.tuple (SqT.of hb)
  have e1:its=[]:=r1.nil_iff.mpr rfl
  obtain⟨⟨cls,dd,data,sl⟩,ho,hc,n,hd⟩:=id p1
  obtain⟨⟨cls2,dd2,data2,sl2⟩,ho2,hc2,n2,hd2⟩:=id p2
  simp only at hc hd hc2 hd2
  subst hc hd hc2 hd2
  exact concat_meets ⟨_,ho,rfl⟩ ⟨_,ho2,rfl⟩ noFill_tuple_add seq_tuple_add PySem.F.slot_tuple_add PySem.F.entry_tuple_add (PySem.F.args_tuple_add_2 _ _)
   (tuple_addW0 a b its.toArray its2.toArray n n2 dd dd2 sl sl2 (by simp [e1])) ⟨ho,ho2,⟨.ref b,H,I,rfl,q b H (by simpa using hb) (q1h.refl _)⟩⟩
 ·refine z9d pins s σ H (.ref a) (.ref b) v u Q I rx ry ⟨a,b,xs,ys,rfl,rfl,SqT.of ha,SqT.of hb,hx,hz,fun e=>?_,fun _ p hp=>?_⟩
  ·subst e
   exact q a H (by simpa using ha) (q1h.refl _)
  ·exact q p _ q0c fun c o e=>by rw [q0r (q2c e hp)]; exact e
end L2
namespace Kp
open PySem PyProof.Rows
noncomputable def q4i (c:Nat):Bool:=decide (97≤c) && decide (c≤122)
theorem j8q (c:Nat):(!decide ((⟨#[c]⟩:Str).cps.toList < ("a" : Str).cps.toList))=decide (97≤c):=by
 have e:("a" : Str).cps.toList=[97]:=by decide +kernel
 rw [e]
 show (!decide ([c] < [97]))=_
 have:([c] < [97])↔c < 97:=by
  constructor
  ·intro h
   cases h with
   | rel h=>exact h
   | cons h=>cases h
  ·intro h; exact List.Lex.rel h
 rw [Bool.eq_iff_iff]
 simp only [Bool.not_eq_true',decide_eq_false_iff_not,decide_eq_true_eq,this]
 omega
theorem j8v (c:Nat):(!decide (("z" : Str).cps.toList < (⟨#[c]⟩:Str).cps.toList))=decide (c≤122):=by
 have e:("z" : Str).cps.toList=[122]:=by decide +kernel
 rw [e]
 show (!decide ([122] < [c]))=_
 have:([122] < [c])↔122 < c:=by
  constructor
  ·intro h
   cases h with
   | rel h=>exact h
   | cons h=>cases h
  ·intro h; exact List.Lex.rel h
 rw [Bool.eq_iff_iff]
 simp only [Bool.not_eq_true',decide_eq_false_iff_not,decide_eq_true_eq,this]
 omega
inductive D where
 | non | bl (b:Bool) | int (i:Int) | str (x:Str) | tup (xs:List D) | lst (xs:List D)
noncomputable def q1w:D→Bool
 | .str x=>(decide (1≤x.length) && decide (x.length≤8)) && x.cps.toList.all q4i
 | _=>false
noncomputable def q2f:D→Bool
 | .int i=>decide (0≤i) && decide (i≤8)
 | _=>false
noncomputable def q7a:List Int→Bool
 | a::b::r=>decide (a < b) && q7a (b::r)
 | _=>true
noncomputable def q1z:List D→List Int
 | .int i::r=>i::q1z r
 | _::r=>q1z r
 | []=>[]
noncomputable def q2u:D→Bool
 | .tup ds=>ds.all q2f && ((decide (1≤ds.length) && decide (ds.length≤9)) && q7a (q1z ds))
 | _=>false
theorem x1f:∀ (ds:List D),ds.all q2f=true→ds=(q1z ds).map D.int
 | [],_=>rfl
 | .int i::r,h=>by
  rw [List.all_cons,Bool.and_eq_true] at h
  rw [q1z,List.map_cons,← x1f r h.2]
 | .non::_,h=>by simp [q2f] at h
 | .bl _::_,h=>by simp [q2f] at h
 | .str _::_,h=>by simp [q2f] at h
 | .tup _::_,h=>by simp [q2f] at h
 | .lst _::_,h=>by simp [q2f] at h
theorem x9m:∀ (ns:List Int),((ns.zip ns.tail).map fun p=>decide (p.1 < p.2)).all id=q7a ns
 | []=>rfl
 | [_]=>rfl
 | a::b::r=>by
  have ih:=x9m (b::r)
  simp only [List.tail_cons] at ih ⊢
  rw [List.zip_cons_cons,List.map_cons,List.all_cons,q7a,← ih]
  rfl
end Kp
namespace Kp
open PySem L2
mutual
inductive Is (B:Nat) (H:Hp):V→D→Prop
 | non:Is B H .non .non
 | bl (b:Bool):Is B H (.bl b) (.bl b)
 | int (i:Int):Is B H (.int i) (.int i)
 | str (x:Str) (h:x.length≤B):Is B H (.str x) (.str x)
 | tup {a:Addr} {vs:List V} {ds:List D} (e:H a=some (.tup vs)) (l:vs.length≤B) (r:IsL B H vs ds):Is B H (.ref a) (.tup ds)
 | lst {a:Addr} {vs:List V} {ds:List D} (e:H a=some (.lst vs)) (l:vs.length≤B) (r:IsL B H vs ds):Is B H (.ref a) (.lst ds)
inductive IsL (B:Nat) (H:Hp):List V→List D→Prop
 | nil:IsL B H [] []
 | cons {v:V} {d:D} {vs:List V} {ds:List D} (h:Is B H v d) (t:IsL B H vs ds):IsL B H (v::vs) (d::ds)
end
mutual
theorem Is.mono {B B':Nat} {H H':Hp} (hB:B≤B') (s:q1h H H'):∀ {v d},Is B H v d→Is B' H' v d
 | _,_,.non=>.non
 | _,_,.bl b=>.bl b
 | _,_,.int i=>.int i
 | _,_,.str x h=>.str x (Nat.le_trans h hB)
 | _,_,.tup e l r=>.tup (s _ _ e) (Nat.le_trans l hB) (IsL.mono hB s r)
 | _,_,.lst e l r=>.lst (s _ _ e) (Nat.le_trans l hB) (IsL.mono hB s r)
theorem IsL.mono {B B':Nat} {H H':Hp} (hB:B≤B') (s:q1h H H'):∀ {vs ds},IsL B H vs ds→IsL B' H' vs ds
 | _,_,.nil=>.nil
 | _,_,.cons h t=>.cons (Is.mono hB s h) (IsL.mono hB s t)
end
theorem Is.same {B:Nat} {H H':Hp} {v:V} {d:D} (h:Is B H v d) (s:q1h H H'):Is B H' v d:=h.mono (Nat.le_refl _) s
theorem IsL.same {B:Nat} {H H':Hp} {v:List V} {d:List D} (h:IsL B H v d) (s:q1h H H'):IsL B H' v d:=h.mono (Nat.le_refl _) s
theorem IsL.length {B:Nat} {H:Hp}:∀ {vs ds},IsL B H vs ds→vs.length=ds.length
 | _,_,.nil=>rfl
 | _,_,.cons _ t=>by simp [IsL.length t]
theorem IsL.get {B:Nat} {H:Hp}:∀ {vs ds} {i:Nat} {v:V},IsL B H vs ds→vs[i]? = some v→∃ d,ds[i]? = some d∧Is B H v d
 | _,_,_,_,.nil,h=>by simp at h
 | _,_,0,_,.cons h _,e=>by simp at e; subst e; exact⟨_,rfl,h⟩
 | _,_,i+1,v,.cons _ t,e=>by
  obtain⟨d,e',h⟩:=IsL.get (i:=i) (v:=v) t (by simpa using e)
  exact⟨d,by simpa using e',h⟩
theorem IsL.append {B:Nat} {H:Hp}:∀ {vs ds vs' ds'},IsL B H vs ds→IsL B H vs' ds'→IsL B H (vs++vs') (ds++ds')
 | _,_,_,_,.nil,h=>h
 | _,_,_,_,.cons h t,h'=>.cons h (IsL.append t h')
noncomputable def Th (B:Nat) (H:Hp) (v:V):Prop:=∃ d,Is B H v d
noncomputable def ThL (B:Nat) (H:Hp) (vs:List V):Prop:=∃ ds,IsL B H vs ds
theorem ThL.nil {B:Nat} {H:Hp}:ThL B H []:=⟨[],.nil⟩
theorem ThL.cons {B:Nat} {H:Hp} {v:V} {vs:List V} (h:Th B H v) (t:ThL B H vs):ThL B H (v::vs):=let ⟨d,q⟩:=h; let ⟨ds,r⟩:=t; ⟨d::ds,.cons q r⟩
theorem Th.tup {B:Nat} {H:Hp} {a:Addr} {vs:List V} (e:H a=some (.tup vs)) (l:vs.length≤B) (h:ThL B H vs):Th B H (.ref a):=let ⟨_,q⟩:=h; ⟨_,.tup e l q⟩
theorem Th.int {B:Nat} {H:Hp} (i:Int):Th B H (.int i):=⟨_,.int i⟩
theorem Th.bl {B:Nat} {H:Hp} (i:Bool):Th B H (.bl i):=⟨_,.bl i⟩
theorem Th.non {B:Nat} {H:Hp}:Th B H .non:=⟨_,.non⟩
theorem Th.str {B:Nat} {H:Hp} (x:Str) (h:x.length≤B):Th B H (.str x):=⟨_,.str x h⟩
theorem q0d {H:Hp} {p:Addr} {o:HO} (h:H p=none):q1h H (upd H p o):=fun b u e=>by rw [q0r (q2c e h)]; exact e
noncomputable def tyN:D→String
 | .non => "NoneType" | .bl _ => "bool" | .int _ => "int" | .str _ => "str" | .tup _ => "tuple" | .lst _ => "list"
theorem Is.ty {B:Nat} {H:Hp} {K:Frag} {v:V} {d:D} (h:Is B H v d):TyOf K H v (.type (tyN d)):=by
 cases h with
 | non=>exact .non
 | bl b=>exact .bl b
 | int i=>exact .int i
 | str x _=>exact .str x
 | tup e _ _=>exact .tup e
 | lst e _ _=>exact .lst e
noncomputable def isInt:D→Bool | .int _=>true | .bl _=>true | _=>false
noncomputable def z9a:D→Bool | .bl _=>true | _=>false
noncomputable def z7b:D→Bool | .str _=>true | _=>false
noncomputable def j5o:D→Bool | .tup _=>true | _=>false
theorem z9s (K:Frag):∀ d:D,PySem.W.kitOne K (.type (tyN d)) (.type "int")=some (isInt d)
 | .non=>by with_unfolding_all rfl
 | .bl _=>by with_unfolding_all rfl
 | .int _=>by with_unfolding_all rfl
 | .str _=>by with_unfolding_all rfl
 | .tup _=>by with_unfolding_all rfl
 | .lst _=>by with_unfolding_all rfl
theorem z7p (K:Frag):∀ d:D,PySem.W.kitOne K (.type (tyN d)) (.type "bool")=some (z9a d)
 | .non=>by with_unfolding_all rfl
 | .bl _=>by with_unfolding_all rfl
 | .int _=>by with_unfolding_all rfl
 | .str _=>by with_unfolding_all rfl
 | .tup _=>by with_unfolding_all rfl
 | .lst _=>by with_unfolding_all rfl
theorem z4b (K:Frag):∀ d:D,PySem.W.kitOne K (.type (tyN d)) (.type "str")=some (z7b d)
 | .non=>by with_unfolding_all rfl
 | .bl _=>by with_unfolding_all rfl
 | .int _=>by with_unfolding_all rfl
 | .str _=>by with_unfolding_all rfl
 | .tup _=>by with_unfolding_all rfl
 | .lst _=>by with_unfolding_all rfl
theorem x4o (K:Frag):∀ d:D,PySem.W.kitOne K (.type (tyN d)) (.type "tuple")=some (j5o d)
 | .non=>by with_unfolding_all rfl
 | .bl _=>by with_unfolding_all rfl
 | .int _=>by with_unfolding_all rfl
 | .str _=>by with_unfolding_all rfl
 | .tup _=>by with_unfolding_all rfl
 | .lst _=>by with_unfolding_all rfl
theorem q3u:bootBuiltins "isinstance" = some (.builtin "isinstance"):=by decide +kernel
theorem x1a:bootBuiltins "int" = some (.type "int"):=by decide +kernel
theorem z4l:bootBuiltins "bool" = some (.type "bool"):=by decide +kernel
theorem x9j:bootBuiltins "str" = some (.type "str"):=by decide +kernel
theorem q1r:bootBuiltins "tuple" = some (.type "tuple"):=by decide +kernel
theorem q5r:bootBuiltins "all" = some (.builtin "all"):=by decide +kernel
theorem x4m {X:Cx} {x:Str} {n:String} {pos:Pos} (hg:Gl X x) (hm:X.mg x=none) (hv:bootBuiltins x=some (.type n)) (hn:x ≠ "__name__" := by decide) (hd:(x==("__debug__" : Str))=false:=by decide):PE X (.Name x pos) (tC (.ty n)):=z9o (v:=.ty n) hg hm hv rfl hn hd
section
variable {X:Cx} {K:Frag} {pos:Pos}
theorem x8h {es:List Expr} {k:Nat} {t:TGs} {n:Nat} (hK:X.K=K) (hc:X.calm=true) (h:PGs X es t) (hn:(assignEach es X.env).length=n:=by rfl) (hst:(assignEach es X.env).findIdx? (·.1)=none:=by rfl):PG X (.Tuple es k pos) (j7d K n t):=by
 subst hK
 exact j2q hc h hn hst
theorem z9c {o e:Expr} {es:List Expr} {to:TE} {t:TA} {name:Str} {apos cpos:Pos} {T id:String} {r:V→List V→Hp→VK→Prop} (hK:X.K=K) (pa:PlainAttrs T) (slot:Slot T name id) (hty:typeOf (.builtin id)=pure (.type "method_descriptor")) (hm:MtR X id r) (ho:PE X o to) (ha:PA X (e::es) t)
  (hbase:attributeBase o name X.env (eval o X.env)=eval o X.env:=by rfl)
  (hfew:((backTo cpos (starEach (e::es) X.env)).all (fun x => !x.1) && (backToKw cpos (keywordEach [] X.env)).all (fun x=>x.1.isSome) && decide ((e::es).length+([]:List Keyword).length+(if ([]:List Keyword).isEmpty then 0 else 1) < 30))=true:=by rfl)
  (hline:(apos.endLine==cpos.line)=true:=by rfl) (hs:starEach (e::es) X.env=(false,eval e X.env)::starEach es X.env:=by rfl) (hplain:(backTo cpos (starEach es X.env)).any (·.1)=false:=by rfl) :
  PE X (.Call (.Attribute o name apos) (e::es) [] cpos) (tBM K T r to t):=by
 subst hK
 exact q6w pa slot hty hm ho ha hbase hfew hline hs hplain
theorem q6i {x:Str} {f:Addr} (hg:Gl X x) (hm:X.mg x=some (.ref f)) (hd:(x==("__debug__" : Str))=false:=by decide):PE X (.Name x pos) (tC (.ref f)):=z5j (v:=.ref f) hg hm rfl hd
end
noncomputable def x3x (outer scope:Scope):Bool:=scope.kind==.function && scope.names.all fun y=>y.2 != .cell && (y.2 != .local || scope.names.lookup y.1==some .local) && (y.2 != .free || outer.names.lookup y.1==some .cell)
theorem z4m {X:Cx} {outer scope:Scope} {NB:List Str} {n:Nat} {fr:List Nat} (hX:X.env.scope=outer) (h:x3x outer scope=true) (hl:NB.length=n+fr.length)
  (ho:∀ (j k:Nat),fr[j]? = some k→∃ x,NB[n+j]? = some x∧X.N[k]? = some x∧scope.names.lookup x=some .free):CompOk X scope NB n fr:=by
 unfold x3x at h
 rw [Bool.and_eq_true,List.all_eq_true] at h
 obtain⟨h1,h2⟩:=h
 refine⟨by simpa using h1,fun y hy=>?_,fun y hy hk=>?_,fun y hy hk=>?_,hl,ho⟩
 ·have:=h2 y hy
  simp only [Bool.and_eq_true,bne_iff_ne,ne_eq] at this
  exact this.1.1
 ·have:=h2 y hy
  simp only [Bool.and_eq_true,Bool.or_eq_true,bne_iff_ne,ne_eq,beq_iff_eq] at this
  exact this.1.2.resolve_left (fun z=>z hk)
 ·have:=h2 y hy
  simp only [Bool.and_eq_true,Bool.or_eq_true,bne_iff_ne,ne_eq,beq_iff_eq] at this
  refine .inl ?_
  show X.env.scope.names.lookup y.1=some .cell
  rw [hX]
  exact this.2.resolve_left (fun z=>z hk)
theorem q8k {X:Cx} {outer scope:Scope} {NB:List Str} {n:Nat} (hX:X.env.scope=outer) (h:x3x outer scope=true) (hl:NB.length=n+0):CompOk X scope NB n [] :=
 z4m hX h hl fun j k e=>by simp at e
theorem x1e {X:Cx} {outer scope:Scope} {NB:List Str} {n k0:Nat} {x:Str} (hX:X.env.scope=outer) (h:x3x outer scope=true) (hl:NB.length=n+1) (h1:NB[n]? = some x) (h2:X.N[k0]? = some x) (h3:scope.names.lookup x=some .free):CompOk X scope NB n [k0] :=
 z4m hX h hl fun j k e=>by
  cases j with
  | zero=>cases e; exact⟨x,h1,h2,h3⟩
  | succ j=>simp at e
theorem q5y {J:It} {H1:Hp} {n k:Nat} {frs:St} {g:TG} {tt:TT} {te:TE} {Q:VK} (p:Nat→Bool) (f:Nat→V) (hn:n < sizeLine)
  (go:∀ i H,i < n→q1h H1 H→J.go i H) (stop:∀ H,q1h H1 H→J.stop n H)
  (turn:∀ i H t x H2 (R:St→Hp→Option V→Prop),i < n→q1h H1 H→t.length=k→J.yld i H x H2 →
   (∀ t' H',t'.length=k→q1h H H'→R (t'++frs) H' (if p i=true then some (f i) else none)) →
   g x (t++frs) H2 fun σ3 H3=>tt σ3 H3 fun b H4=>if b=true then te σ3 H4 fun v H5=>R σ3 H5 (some v) else R σ3 H4 none)
  (hq:∀ D H',q1h H1 H'→H1 D=none→H' D=some (.lst (((List.range n).filter p).map f))→Q (.ref D) H'):z3s (List.replicate k none++frs) g tt te Q J H1:=by
 intro D hD
 refine⟨fun i m ys σ H=>i≤n∧m=n - i∧ys=((List.range i).filter p).map f∧q1h H1 H∧∃ t,t.length=k∧σ=t++frs,⟨n,Nat.zero_le _,rfl,rfl,q0d hD,_,by simp,rfl⟩,?_⟩
 rintro i m ys σ H ⟨hi,rfl,rfl,s1,t,ht,rfl⟩ hd
 by_cases hlt:i < n
 ·right
  refine⟨go i H hlt s1,?_,fun x H2 y=>?_⟩
  ·refine Nat.lt_of_le_of_lt ?_ hn
   rw [List.length_map]
   exact Nat.le_trans (List.length_filter_le _ _) (by simpa using hi)
  ·have h:=turn i H t x H2 (fun σ3 H5 r=>match r with
    | some v=>H5 D=some (.lst (((List.range i).filter p).map f))∧∃ m',m' < n - i∧(i+1≤n∧m'=n - (i+1)∧((List.range i).filter p).map f++[v]=((List.range (i+1)).filter p).map f∧q1h H1 (upd H5 D (.lst (((List.range i).filter p).map f++[v])))∧∃ t,t.length=k∧σ3=t++frs)
    | none=>H5 D=some (.lst (((List.range i).filter p).map f))∧∃ m',m' < n - i∧(i+1≤n∧m'=n - (i+1)∧((List.range i).filter p).map f=((List.range (i+1)).filter p).map f∧q1h H1 H5∧∃ t,t.length=k∧σ3=t++frs)) hlt s1 ht y ?_
   ·exact h
   ·intro t' H' ht' s2
    cases hp:p i with
    | true =>
     rw [if_pos rfl]
     refine⟨s2 _ _ hd,n - (i+1),by omega,by omega,rfl,?_,fun b o e=>?_,t',ht',rfl⟩
     ·rw [List.range_succ,List.filter_append,List.map_append]
      simp [hp]
     ·rw [q0r (q2c e hD)]; exact s2 _ _ (s1 _ _ e)
    | false =>
     rw [if_neg Bool.false_ne_true]
     refine⟨s2 _ _ hd,n - (i+1),by omega,by omega,rfl,?_,s1.trans s2,t',ht',rfl⟩
     rw [List.range_succ,List.filter_append,List.map_append]
     simp [hp]
 ·have e:i=n:=by omega
  subst e
  exact .inl ⟨stop H s1,hq D H s1 hD hd⟩
noncomputable def spP (f:D→Bool):Sp:=fun vs H Q _=>∃ B v d,B≤100000∧vs=[v]∧Is B H v d∧∀ H',q1h H H'→Q (.bl (f d)) H'
theorem q5p {f:D→Bool}:∀ vs H Q E,spP f vs H Q E→vs.length=1:=fun vs H Q E ⟨_,_,_,_,e,_⟩=>by subst e; rfl
structure Cal (P:Program) (w:World) (K:Frag) (mg:Str→Option Value) (base:Heap) (name:Str) (k:Nat) (ps:List Str) (sp:Sp):Prop where
 ex:∃ f fd,FnOk P w K mg base CX0 k f fd ps sp∧mg name=some (.ref f)∧keepIn K (.ref f)=true∧q2i K fd ps []
theorem q0s {X:Cx} {x:Str} {k:Nat} {ps:List Str} {sp:Sp} {e:Expr} {es:List Expr} {t:TA} {p pos:Pos} (C:Cal X.prog X.w X.K X.mg X.base x k ps sp) (hr:Room k X.A) (ha:PA X (e::es) t) (hg:Gl X x:=by rfl) (hdb:(x==("__debug__" : Str))=false:=by decide) (he:starEach (e::es) X.env=(false,eval e X.env)::starEach es X.env:=by rfl) (hpl:(backTo pos (starEach es X.env)).any (·.1)=false:=by rfl) :
  PE X (.Call (.Name x p) (e::es) [] pos) (z9t sp [] E0 t):=let ⟨_,_,F,hm,hk,hb⟩:=C.ex; q9n F hr hg hm hk hb .nil q5g ha hdb he hpl
theorem j2n {n B:Nat} (h:n≤B) (hB:B≤100000):n≤sizeLine:=by rw [sizeLine_eq]; omega
noncomputable def whole (d:D):Bool:=isInt d && !z9a d
theorem x7a {d:D} (h:whole d=true):∃ i,d=.int i:=by
 cases d with
 | int i=>exact⟨i,rfl⟩
 | _=>cases h
section
variable {X:Cx} {es:List Expr} {te:TE} {t:TA} {pos:Pos}
theorem q3r {c:Const} {k:Nat} (ha:PE X (.Constant c k pos) te) (hr:PA X es t):PA X (.Constant c k pos::es) (x2m te t):=q0o ha hr rfl
theorem q1c {x:Str} (ha:PE X (.Name x pos) te) (hr:PA X es t):PA X (.Name x pos::es) (x2m te t):=q0o ha hr rfl
theorem j5b {l:List Expr} {k:Nat} (ha:PE X (.Tuple l k pos) te) (hr:PA X es t):PA X (.Tuple l k pos::es) (x2m te t):=q0o ha hr rfl
theorem x6l {o:Operator} {a b:Expr} (ha:PE X (.BinOp a o b pos) te) (hr:PA X es t):PA X (.BinOp a o b pos::es) (x2m te t):=q0o ha hr rfl
theorem q9l {f:Expr} {as:List Expr} {ks:List Keyword} (ha:PE X (.Call f as ks pos) te) (hr:PA X es t):PA X (.Call f as ks pos::es) (x2m te t):=q0o ha hr rfl
theorem q6q {a b:Expr} (ha:PE X (.Subscript a b pos) te) (hr:PA X es t):PA X (.Subscript a b pos::es) (x2m te t):=q0o ha hr rfl
end
theorem x7k {a b:Expr} {o:Operator} {pos:Pos}:x1v (.BinOp a o b pos):=fun _ _=>rfl
theorem j9i {x:Str} {pos:Pos}:x1v (.Name x pos):=fun _ _=>rfl
theorem q3t {c:Const} {k:Nat} {pos:Pos}:x1v (.Constant c k pos):=fun _ _=>rfl
theorem j8z {l:List Expr} {p:Pos} {t:Option Expr} {n:Nat} {env:Env}:swapsWith (.List l p) t n env=pure false:=rfl
theorem j7l {a b:Expr} {p:Pos} {t:Option Expr} {n:Nat} {env:Env}:swapsWith (.Subscript a b p) t n env=pure false:=rfl
structure QA (X:Cx) (es:List Expr) (t:TA):Prop where
 h:PA X es t
section
variable {X:Cx} {es l:List Expr} {t u:TA} {p p':Pos} {j:Nat}
theorem q4g:QA X [] j6c:=⟨q0a⟩
theorem j2p {i:Int} (r:QA X es t):QA X (.Constant (.int i) j p::es) (x2m (tC (.int i)) t):=⟨q0o q0b r.h rfl⟩
theorem q0x {i:Str} (r:QA X es t):QA X (.Constant (.str i) j p::es) (x2m (tC (.str i)) t):=⟨q0o q0q r.h rfl⟩
end
structure QE (X:Cx) (e:Expr) (t:TE):Prop where
 h:PE X e t
structure QS (X:Cx) (st:Stmt) (t:TS):Prop where
 h:PS X st t
section
variable {X:Cx} {es:List Expr} {t:TA} {p p' pos:Pos} {j:Nat}
theorem q4s (a:QA X es t):QE X (.List es p) (j7f t):=⟨q8w a.h⟩
theorem z1y {i:Nat} {x:Str} {e:Expr} {te:TE} (hN:X.N.Nodup) (hi:X.N[i]? = some x) (hx:Loc X.env.scope x) (he:QE X e te) (hs:swapsWith e (some (.Name x p')) pos.line X.env=pure false) (hf:X.fn x=true∨X.env.scope.names.lookup x=some .local:=by first | exact .inl rfl | exact .inr rfl | assumption) :
  QS X (.Assign [.Name x p'] e pos) (j7n te (j0e i)):=⟨q0y hN hi hx he.h hs hf⟩
end
end Kp
namespace Kp
open PySem L2 PyProof.Rows
noncomputable def j5t (K:Frag) (w:World) (to:TE) (t:TA):TE:=fun σ H Q=>to σ H fun x H1=>∃ a es n,x=.ref a∧K.lookup a=some ⟨.type "dict",none,.dict es n,#[]⟩∧PySem.W.KeysLit w.params es.toList∧(a==sysModules)=false ∧
 t σ H1 fun xs H2=>∃ k v,xs=[.str k]∧q3z v ((findBy Value.isStrOf es k).getD .none)∧Q v H2
theorem x4y {X:Cx} {o e:Expr} {to:TE} {t:TA} {apos cpos:Pos} (ho:PE X o to) (ha:PA X [e] t)
  (hbase:attributeBase o "get" X.env (eval o X.env)=eval o X.env:=by rfl)
  (hfew:((backTo cpos (starEach [e] X.env)).all (fun x => !x.1) && (backToKw cpos (keywordEach [] X.env)).all (fun x=>x.1.isSome)
   && decide ([e].length+([]:List Keyword).length+(if ([]:List Keyword).isEmpty then 0 else 1) < 30))=true:=by rfl)
  (hline:(apos.endLine==cpos.line)=true:=by rfl) (hs:starEach [e] X.env=(false,eval e X.env)::starEach [] X.env:=by rfl) :
  PE X (.Call (.Attribute o "get" apos) [e] [] cpos) (j5t X.K X.w to t):=by
 intro pins s σ H Q I h
 refine wpAny_Call_method_late hbase hfew hline rfl (thn (ho pins s σ H _ I h) fun v s1 ⟨x,H1,I1,r1,a,es,n,ex,hl,hk,hsys,q1⟩=>?_)
 subst ex
 cases r1
 have hm:=PySem.W.mapOf_K (prog:=X.prog) (w:=X.w) I1.kIn hl hk
 refine⟨"dict", "dict.get",PySem.F.plainAttrs_dict,PySem.F.slot_dict_get,PySem.F.type_dict_get,hm.typeIs,fun b e=>?_,?_⟩
 ·cases e
  exact⟨_,I1.kIn _ _ hl,rfl⟩
 have hA:=ha cpos pins s1 σ H1 _ I1 q1
 rw [hs] at hA ⊢
 refine Calls.callWith_builtin rfl (Calls.evalArgs_plain ?_)
 refine thn hA fun us s2 ⟨vs,H2,I2,r2,k,vv,e2,rv,q2⟩=>?_
 subst e2
 obtain⟨u,rfl,t',rfl⟩:=x0q r2
 have hm2:=PySem.W.mapOf_K (prog:=X.prog) (w:=X.w) I2.kIn hl hk
 exact call_meetsIn PySem.F.slot_dict_get hm2.typeIs PySem.F.entry_dict_get (PySem.F.args_dict_get_2 _ _) (meets_dict_get (strKind X.prog X.w) a (strKind_is X.prog X.w k t') hsys) ⟨_,hm2,vv,H2,I2.tok _,rv,q2⟩
structure Tl (P:Program) (w:World) (K:Frag) (mg:Str→Option Value) (base:Heap) (k:Nat) (g:Addr) (p:D→Bool):Prop where
 ex:∃ k' fd px,k'≤k∧FnOk P w K mg base CX0 k' g fd [px] (spP p)∧keepIn K (.ref g)=true∧q2i K fd [px] []
noncomputable def j4l (P:Program) (w:World) (K:Frag) (mg:Str→Option Value) (base:Heap) (k:Nat) (E:XK) (tf:TE) (t:TA):TE:=fun σ H Q=>tf σ H fun x H1=>∃ g p,x=.ref g∧Tl P w K mg base k g p∧t σ H1 fun vs H2=>spP p (vs++[]) H2 Q E
theorem z7l {X:Cx} {P:Program} {w:World} {K:Frag} {mg:Str→Option Value} {base:Heap} {k:Nat} {E:XK} {x:Str} {p pos:Pos} {e:Expr} {es:List Expr} {tf:TE} {t:TA} (h1:X.prog=P) (h2:X.w=w) (h3:X.K=K) (h4:X.mg=mg) (h5:X.base=base) (hr:Room k X.A)
  (hx:q6a CX0 X E) (hf:PE X (.Name x p) tf) (ha:PA X (e::es) t)
  (he:starEach (e::es) X.env=(false,eval e X.env)::starEach es X.env:=by rfl) (hpl:(backTo pos (starEach es X.env)).any (·.1)=false:=by rfl) :
  PE X (.Call (.Name x p) (e::es) [] pos) (j4l P w K mg base k E tf t):=by
 subst h1 h2 h3 h4 h5
 intro pins s σ H Q I h
 refine wpAny_Call_Name_kw (thn (hf pins s σ H _ I h) fun u s0 ⟨v,H0,I0,r0,g,p,e0,T,q0⟩=>?_)
 subst e0
 cases r0
 obtain⟨k',fd,px,hk',F,hk,hb⟩:=T.ex
 refine PySem.W.callWith_K (h₀:=X.base) I.ok.mod.kin hk (thn (ha pos pins s0 σ H0 _ I0 q0) fun us s1 ⟨vs,H1,I1,r,q⟩=>⟨I1.kIn,?_⟩) he hpl
 exact x3i F (hr.mono hk') hb .nil hx I1 r q
section
variable {P:Program} {w:World} {K:Frag} {mg:Str→Option Value} {base:Heap}
inductive Tls (P:Program) (w:World) (K:Frag) (mg:Str→Option Value) (base:Heap) (k:Nat):List V→List (D→Bool)→Prop
 | nil:Tls P w K mg base k [] []
 | cons {g:Addr} {p:D→Bool} {gs:List V} {ps:List (D→Bool)} (h:Tl P w K mg base k g p) (t:Tls P w K mg base k gs ps):Tls P w K mg base k (.ref g::gs) (p::ps)
theorem Tls.length {k:Nat}:∀ {gs ps},Tls P w K mg base k gs ps→gs.length=ps.length
 | _,_,.nil=>rfl
 | _,_,.cons _ t=>by simp [Tls.length t]
theorem Tls.get {k:Nat}:∀ {gs ps} {i:Nat} {v:V},Tls P w K mg base k gs ps→gs[i]? = some v→∃ g p,v=.ref g∧ps[i]? = some p∧Tl P w K mg base k g p
 | _,_,_,_,.nil,e=>by simp at e
 | _,_,0,_,.cons h _,e=>by simp at e; subst e; exact⟨_,_,rfl,rfl,h⟩
 | _,_,i+1,v,.cons _ t,e=>by
  obtain⟨g,p,a,b,c⟩:=Tls.get (i:=i) (v:=v) t (by simpa using e)
  exact⟨g,p,a,by simpa using b,c⟩
inductive Tbl (P:Program) (w:World) (K:Frag) (mg:Str→Option Value) (base:Heap) (k:Nat):List DictEntry→List (Str × List (D→Bool))→Prop
 | nil:Tbl P w K mg base k [] []
 | cons {x:Str} {tk:Tok} {t:Addr} {gs:List V} {ps:List (D→Bool)} {es:List DictEntry} {tb:List (Str × List (D→Bool))} (hs:∀ H:Hp,SqT K H t gs) (ht:Tls P w K mg base k gs ps) (r:Tbl P w K mg base k es tb) :
   Tbl P w K mg base k (⟨PyData.keyHash w.params x,.str x tk,.ref t⟩::es) ((x,ps)::tb)
theorem Tbl.keys {k:Nat}:∀ {es tb},Tbl P w K mg base k es tb→PySem.W.KeysLit w.params es
 | _,_,.nil=>trivial
 | _,_,.cons _ _ r=>⟨⟨_,_,rfl,rfl⟩,Tbl.keys r⟩
theorem Tbl.find {k:Nat} {x:Str}:∀ {es tb},Tbl P w K mg base k es tb→∃ v,q3z v (((es.find? fun e=>Value.isStrOf x e.key).map (·.val)).getD .none) ∧
  ((tb.lookup x=none∧v=.non)∨∃ ps t gs,tb.lookup x=some ps∧v=.ref t∧(∀ H:Hp,SqT K H t gs)∧Tls P w K mg base k gs ps)
 | _,_,.nil=>⟨.non,rfl,.inl ⟨rfl,rfl⟩⟩
 | _,_,@Tbl.cons _ _ _ _ _ _ y tk t gs ps es tb hs ht r=>by
  rw [List.find?_cons,List.lookup_cons]
  have e:Value.isStrOf x (Value.str y tk)=(x==y):=by
   show (y==x)=(x==y)
   rw [Bool.eq_iff_iff,beq_iff_eq,beq_iff_eq]
   exact eq_comm
  dsimp only
  rw [e]
  cases hx:x==y with
  | true=>exact⟨.ref t,rfl,.inr ⟨ps,t,gs,rfl,rfl,hs,ht⟩⟩
  | false=>exact Tbl.find r
end
end Kp
namespace Kp
open PySem
noncomputable def geD (l:Int):D→Bool
 | .int i=>decide (l≤i)
 | _=>false
noncomputable def q0w:List (D→Bool)→List D→Bool
 | [],[]=>true
 | p::ps,d::ds=>p d && q0w ps ds
 | _,_=>false
noncomputable def z4x (ps:List (D→Bool)):D→Bool
 | .tup ds=>q0w ps ds
 | _=>false
noncomputable def q9y:D→Str
 | .tup (.str x::_)=>x
 | _ => ""
noncomputable def q9j (tb:List (Str × List (D→Bool))):D→Bool
 | .tup (.str x::r)=>match tb.lookup x with
  | some ps=>q0w ps r
  | none=>false
 | _=>false
theorem x8t {d:D} {x:Str} (h:q9y d=x) (hx:x ≠ ""):∃ r,d=.tup (.str x::r):=by
 unfold q9y at h
 split at h
 ·subst h; exact⟨_,rfl⟩
 ·exact absurd h.symm hx
theorem q7b:∀ {ps:List (D→Bool)} {ds:List D},ds.length≠ps.length→q0w ps ds=false
 | [],[],h=>absurd rfl h
 | [],_::_,_=>rfl
 | _::_,[],_=>rfl
 | p::ps,d::ds,h=>by rw [q0w,q7b (fun e=>h (by simp [e])),Bool.and_false]
theorem q8j:∀ {ps:List (D→Bool)} {ds:List D},ds.length=ps.length→((List.range ps.length).map fun i=>(ps.getD i fun _=>true) (ds.getD i .non)).all id=q0w ps ds
 | [],[],_=>rfl
 | p::ps,d::ds,h=>by
  have h':ds.length=ps.length:=by simpa using h
  rw [q0w,← q8j h',List.length_cons,List.range_succ_eq_map,List.map_cons,List.all_cons,List.map_map]
  rfl
theorem x8i {tb:List (Str × List (D→Bool))} {d:D} (h:tb.lookup (q9y d)=none):q9j tb d=false:=by
 unfold q9j
 split
 ·rename_i x r
  have h':tb.lookup x=none:=h
  rw [h']
 ·rfl
noncomputable def x0p (nm:D→Bool):List (Str × List (D→Bool)):=[("set",[nm,whole]),("add",[nm,whole]),("get",[nm])]
noncomputable def q9h:D→Bool:=q9j (x0p q1w)
noncomputable def one (p:D→Bool):List D→Bool
 | [a]=>p a
 | _=>false
noncomputable def two (p q:D→Bool):List D→Bool
 | [a,b]=>p a && q b
 | _=>false
noncomputable def j6u:D→Nat
 | .tup ds=>ds.length
 | _=>0
end Kp
namespace K1
open PySem L2 Kp
noncomputable def top (i:Nat):Stmt:=PySem.Challenge.pw_keeplog_k61_whole_schedules_read.main.body.getD i (.Pass ⟨0,0,0,0⟩)
noncomputable abbrev z3e:Stmt:=top 8
noncomputable abbrev q4d:Stmt:=top 9
noncomputable abbrev x8j:Stmt:=top 10
noncomputable abbrev z7d:Stmt:=top 11
noncomputable abbrev x4v:Stmt:=top 12
noncomputable abbrev j4u:Stmt:=top 13
noncomputable abbrev z0a:Stmt:=top 14
noncomputable abbrev q6z:Stmt:=top 15
noncomputable abbrev q3n:Stmt:=top 16
noncomputable abbrev x2h:Stmt:=top 18
noncomputable abbrev z3o:Stmt:=top 19
noncomputable abbrev q4c:Stmt:=x7u (top 21) 0
noncomputable abbrev q3v:Stmt:=x7u (top 21) 1
noncomputable abbrev q3i:Stmt:=x7u (top 21) 2
noncomputable abbrev q3b:Stmt:=top 22
noncomputable abbrev q3o:Stmt:=top 23
noncomputable abbrev q4v:Stmt:=top 24
noncomputable abbrev q2w:Stmt:=top 25
noncomputable abbrev q2l:Stmt:=top 26
noncomputable abbrev q4r:Stmt:=top 28
noncomputable abbrev x1i:Stmt:=top 33
noncomputable abbrev q2k:Stmt:=top 34
noncomputable abbrev q9v:Stmt:=top 35
noncomputable abbrev x0b:Stmt:=top 36
noncomputable abbrev q6e:Stmt:=top 37
noncomputable abbrev q6l:Stmt:=top 38
noncomputable abbrev q6b:Stmt:=top 39
noncomputable abbrev q2p:Stmt:=top 40
noncomputable abbrev q6n:Stmt:=top 41
noncomputable abbrev q2b:Stmt:=top 42
noncomputable abbrev q2y:Stmt:=top 43
noncomputable abbrev q3m:Stmt:=top 44
noncomputable abbrev j1m:Stmt:=top 46
noncomputable abbrev z2k:Stmt:=top 47
noncomputable abbrev z2r:Stmt:=top 48
noncomputable abbrev x7o:Stmt:=top 49
noncomputable abbrev q6u:Stmt:=top 50
noncomputable abbrev q8m:Stmt:=top 51
noncomputable abbrev q6x:Stmt:=top 52
noncomputable abbrev q8f:Stmt:=top 53
noncomputable abbrev q4t:Stmt:=top 54
noncomputable abbrev q5e:Stmt:=top 55
noncomputable abbrev q9r:Stmt:=top 56
noncomputable abbrev q5l:Stmt:=top 57
noncomputable abbrev q6m:Stmt:=top 58
noncomputable abbrev q5n:Stmt:=top 59
noncomputable abbrev q6d:Stmt:=top 60
noncomputable abbrev q8n:Stmt:=top 61
noncomputable abbrev q6h:Stmt:=top 62
noncomputable abbrev q5i:Stmt:=top 63
noncomputable abbrev x0a:Stmt:=top 64
noncomputable abbrev x0d:Stmt:=top 65
noncomputable abbrev q5o:Stmt:=top 66
noncomputable abbrev q7f:Stmt:=top 67
noncomputable abbrev q9q:Stmt:=top 68
noncomputable abbrev z8h:Stmt:=top 69
structure Txt (mg:Str→Option Value):Prop where
 isi:mg "isinstance" = none
 int:mg "int" = none
 bool:mg "bool" = none
 str:mg "str" = none
 tuple:mg "tuple" = none
 list:mg "list" = none
 all:mg "all" = none
 zip:mg "zip" = none
 len:mg "len" = none
 range:mg "range" = none
section
variable {P:Program} {w:World} {K:Frag} {mg:Str→Option Value} {base:Heap}
theorem scW:FnScope ["thing"] ["thing"] (q0e z3e):=fSc
theorem z8i {f:Addr} {fd:FuncData} (F:Fun K "is_whole" "is_whole" z3e f fd) (T:Txt mg):FnOk P w K mg base CX0 1 f fd ["thing"] (spP whole):=by
 refine F.ok scW q5p (fun _ A _ s H vs Q E hr h=>?_)
 obtain⟨B,v,d,hB,rfl,I,k⟩:=h
 refine⟨_,q3l (q0g (q3x (q0n q5d rfl T.isi q3u (q0o (pv 0) (q0o (x4m rfl T.int x1a) q0a)))
  (q4q (x9u (q0n q5d rfl T.isi q3u (q0o (pv 0) (q0o (x4m rfl T.bool z4l) q0a))))))),?_⟩
 refine⟨_,rfl,_,_,_,_,rfl,I.ty,z9s K d,_,rfl,?_⟩
 have k0:=k H (q1h.refl _)
 unfold whole at k0
 cases e:isInt d with
 | false=>rw [e] at k0; exact q1a k0
 | true =>
  rw [e] at k0
  exact q1f ⟨_,rfl,_,_,_,_,rfl,I.ty,z7p K d,_,rfl,k0⟩
theorem scK:FnScope ["thing"] ["thing"] (q0e x8j):=fSc
theorem z1a {d:D} (h:whole d=false):q2f d=false:=by
 cases d with
 | int i=>cases h
 | _=>rfl
theorem z3p {f:Addr} {fd:FuncData} (F:Fun K "is_keeper" "is_keeper" x8j f fd) (T:Txt mg) (CW:Cal P w K mg base "is_whole" 1 ["thing"] (spP whole)):FnOk P w K mg base CX0 2 f fd ["thing"] (spP q2f):=by
 refine F.ok scK q5p (fun _ A _ s H vs Q E hr h=>?_)
 obtain⟨B,v,d,hB,rfl,I,k⟩:=h
 refine⟨_,q3l (q0g (q3x (q0s CW hr (q0o (pv 0) q0a)) (q4q (q7o x0n x0n q0b (pv 0) q0b)))),?_⟩
 refine⟨_,rfl,B,v,d,hB,rfl,I,fun H' s'=>⟨_,rfl,?_⟩⟩
 have k0:=k H' s'
 cases e:whole d with
 | false=>rw [z1a e] at k0; exact q1a k0
 | true =>
  obtain⟨i,rfl⟩:=x7a e
  cases I
  refine q1f ⟨_,rfl,_,_,rfl,rfl,_,rfl,?_⟩
  have k0:Q (.bl (decide (0≤i) && decide (i≤8))) H':=k0
  by_cases h0:(0:Int)≤i
  ·rw [decide_eq_true h0] at k0 ⊢
   exact q1f ⟨_,_,rfl,rfl,k0⟩
  ·rw [decide_eq_false h0] at k0 ⊢
   exact q1a k0
theorem scN:FnScope ["thing"] ["thing"] (q0e z7d):=fSc
theorem x5q {α:Type} (l:Array Nat) (p:Nat→Bool):((List.range l.size).map fun i=>p (l.getD i 0)).all id=l.toList.all p:=by
 rw [Bool.eq_iff_iff]
 simp only [List.all_eq_true,List.mem_map,List.mem_range,id,forall_exists_index,and_imp]
 constructor
 ·intro h x hx
  obtain⟨i,hi,rfl⟩:=List.mem_iff_getElem.mp hx
  have hi':i < l.size:=by simpa using hi
  have:=h _ i hi' rfl
  simpa [hi'] using this
 ·intro h b i hi e
  subst e
  have:=h l[i] (by simp)
  simpa [hi] using this
theorem j0q {f:Addr} {fd:FuncData} (F:Fun K "is_name" "is_name" z7d f fd) (T:Txt mg):FnOk P w K mg base CX0 1 f fd ["thing"] (spP q1w):=by
 refine F.ok scN q5p (fun _ A _ s H vs Q E hr h=>?_)
 obtain⟨B,v,d,hB,rfl,I,k⟩:=h
 refine⟨_,q3l (q0g (q3x (q0n q5d rfl T.isi q3u (q0o (pv 0) (q0o (x4m rfl T.str x9j) q0a)))
  (q3x (q7o x0n x0n q0b (q0n q2v rfl T.len PySem.boot_len (q0o (pv 0) q0a)) q0b)
  (q4q (q0n (q7j rfl) rfl T.all q5r (q0o (q6j (NB:=["sign"]) (n:=1) (fr:=[]) (q8k (outer:=q0e z7d) rfl (by decide +kernel) rfl) rfl (x9i (pv 0))
   (fun _ _ _ _ _=>q1x (i:=0) (show (["sign"]:List Str).Nodup by decide +kernel) rfl (Or.inl rfl)) (fun _ _ _ _ _=>q3a) (fun _ _ _ _ _=>q7o q8t q8t q0q (pv 0) q0q)) q0a)))))),?_⟩
 refine⟨_,rfl,_,_,_,_,rfl,I.ty,z4b K d,_,rfl,?_⟩
 cases d with
 | str x =>
  cases I with
  | str _ hx =>
  refine q1f ⟨_,rfl,x,rfl,j2n hx hB,1,_,rfl,rfl,_,rfl,?_⟩
  have k1:∀ H',q1h H H'→Q (.bl ((decide (1≤x.length) && decide (x.length≤8)) && x.cps.toList.all q4i)) H':=k
  by_cases h1:1≤x.length
  ·rw [decide_eq_true (show (1:Int)≤(x.length:Int) by omega)]
   refine q1f ⟨_,8,rfl,rfl,_,rfl,?_⟩
   by_cases h8:x.length≤8
   ·rw [decide_eq_true (show (x.length:Int)≤8 by omega)]
    refine q1f ⟨_,rfl,x,rfl,q5y (J:=Its x) (k:=1) (fun _=>true) (fun i=>.bl (q4i (x.cps.getD i 0))) (show x.cps.size < sizeLine by rw [sizeLine_eq]; have:x.cps.size=x.length:=rfl; omega) (fun i H hi _=>hi) (fun H _=>rfl) ?_ ?_⟩
    ·intro i H2 t v H3 R hi s1 ht y hR
     obtain⟨rfl,c,hc,rfl⟩:=y
     have ht':∃ t0,t=[t0]:=by
      match t,ht with
      | [t0],_=>exact⟨t0,rfl⟩
     obtain⟨t0,rfl⟩:=ht'
     have ec:x.cps.getD i 0=c:=by rw [Array.getD_eq_getD_getElem?,hc]; rfl
     have hR':=hR [some (.str ⟨#[c]⟩)] H3 rfl (q1h.refl _)
     rw [ec] at hR'
     refine⟨_,rfl,_,_,rfl,rfl,_,rfl,?_⟩
     rw [j8q]
     unfold q4i at hR'
     by_cases h97:97≤c
     ·rw [decide_eq_true h97] at hR' ⊢
      refine q1f ⟨_,_,rfl,rfl,?_⟩
      rw [j8v]
      exact hR'
     ·rw [decide_eq_false h97] at hR' ⊢
      exact q1a hR'
    ·intro D H' s1 hD hd
     refine⟨D,(List.range x.cps.size).map fun i=>q4i (x.cps.getD i 0),rfl,SqL.of ?_,?_⟩
     ·rw [hd,List.filter_eq_self.mpr (fun _ _=>rfl),List.map_map]
      rfl
     ·have k2:=k1 H' s1
      rw [decide_eq_true h1,decide_eq_true h8] at k2
      rw [x5q (α:=Nat)]
      exact k2
   ·rw [decide_eq_false (show ¬ (x.length:Int)≤8 by omega)]
    have k2:=k1 H (q1h.refl _)
    rw [decide_eq_true h1,decide_eq_false h8] at k2
    exact q1a k2
  ·rw [decide_eq_false (show ¬ (1:Int)≤(x.length:Int) by omega)]
   have k2:=k1 H (q1h.refl _)
   rw [decide_eq_false h1] at k2
   exact q1a ⟨_,rfl,q1a k2⟩
 | non=>exact q1a (k H (q1h.refl _))
 | bl _=>exact q1a (k H (q1h.refl _))
 | int _=>exact q1a (k H (q1h.refl _))
 | tup _=>exact q1a (k H (q1h.refl _))
 | lst _=>exact q1a (k H (q1h.refl _))
noncomputable def j5f (p:D→Bool):D→Bool
 | .tup ds=>ds.all p
 | _=>false
noncomputable def j1o (f:Addr) (p:D→Bool):Sp:=fun vs H Q _=>∃ B v d,B≤100000∧vs=[v,.ref f]∧Is B H v d∧∀ H',q1h H H'→Q (.bl (j5f p d)) H'
theorem scR:FnScope ["thing", "teller"] ["thing", "teller"] (q0e j4u):=fSc
theorem z0s (l:List D) (p:D→Bool):((List.range l.length).map fun i=>p (l.getD i .non)).all id=l.all p:=by
 rw [Bool.eq_iff_iff]
 simp only [List.all_eq_true,List.mem_map,List.mem_range,id,forall_exists_index,and_imp]
 constructor
 ·intro h x hx
  obtain⟨i,hi,rfl⟩:=List.mem_iff_getElem.mp hx
  have:=h _ i hi rfl
  simpa [hi] using this
 ·intro h b i hi e
  subst e
  have:=h l[i] (List.getElem_mem hi)
  simpa [hi] using this
theorem z8l {f g:Addr} {fd gd:FuncData} {p:D→Bool} {kk:Nat} {px:Str} (F:Fun K "is_row_of" "is_row_of" j4u f fd) (T:Txt mg) (G:FnOk P w K mg base CX0 kk g gd [px] (spP p)) (kp:keepIn K (.ref g)=true) (b:q2i K gd [px] []) :
  FnOk P w K mg base CX0 (kk+1) f fd ["thing", "teller"] (j1o g p):=by
 refine F.ok scR (fun vs H Q E ⟨_,_,_,_,e,_⟩=>by subst e; rfl) (fun _ A _ s H vs Q E hr h=>?_)
 obtain⟨B,v,d,hB,rfl,I,k⟩:=h
 refine⟨_,q3l (q0g (q3x (q0n q5d rfl T.isi q3u (q0o (pv 0) (q0o (x4m rfl T.tuple q1r) q0a)))
  (q4q (q0n (q7j rfl) rfl T.all q5r (q0o (q6j (NB:=["part", "teller"]) (n:=1) (fr:=[1]) (x1e (outer:=q0e j4u) (x := "teller") rfl (by decide +kernel) rfl rfl rfl rfl) rfl (x2n (pv 0))
   (fun _ _ _ _ _=>q1x (i:=0) (show (["part", "teller"]:List Str).Nodup by decide +kernel) rfl (Or.inl rfl)) (fun _ _ _ _ _=>q3a) (fun _ _ _ _ _=>z7c G hr kp b q5g (pv 1) (q0o (pv 0) q0a))) q0a))))),?_⟩
 refine⟨_,rfl,_,_,_,_,rfl,I.ty,x4o K d,_,rfl,?_⟩
 cases d with
 | tup ds =>
  cases I with
  | @tup a xs _ ea hl r =>
  have k1:∀ H',q1h H H'→Q (.bl (ds.all p)) H':=k
  have hlen:=r.length
  refine q1f ⟨_,rfl,a,rfl,⟨xs,SqT.of ea⟩,q5y (J:=Itt K a) (k:=1) (n:=xs.length) (fun _=>true) (fun i=>.bl (p (ds.getD i .non))) (show xs.length < sizeLine by rw [sizeLine_eq]; omega)
   (fun i H2 hi s1=>⟨xs,xs[i],SqT.of (s1 _ _ ea),by simp [hi]⟩) (fun H2 s1=>⟨xs,SqT.of (s1 _ _ ea),Nat.le_refl _⟩) ?_ ?_⟩
  ·intro i H2 t v H3 R hi s1 ht y hR
   obtain⟨rfl,hy⟩:=y
   have hv:=hy xs (SqT.of (s1 _ _ ea))
   obtain⟨di,hdi,Ii⟩:=r.get hv
   have ht':∃ t0,t=[t0]:=by
    match t,ht with
    | [t0],_=>exact⟨t0,rfl⟩
   obtain⟨t0,rfl⟩:=ht'
   refine⟨_,rfl,rfl,_,rfl,B,v,di,hB,rfl,Ii.same s1,fun H' s2=>?_⟩
   have hR':=hR [some v] H' rfl s2
   have ed:ds.getD i .non=di:=by rw [List.getD_eq_getElem?_getD,hdi]; rfl
   rw [ed] at hR'
   exact hR'
  ·intro D H' s1 hD hd
   refine⟨D,(List.range xs.length).map fun i=>p (ds.getD i .non),rfl,SqL.of ?_,?_⟩
   ·rw [hd,List.filter_eq_self.mpr (fun _ _=>rfl),List.map_map]
    rfl
   ·rw [hlen,z0s]
    exact k1 H' s1
 | non=>exact q1a (k H (q1h.refl _))
 | bl _=>exact q1a (k H (q1h.refl _))
 | int _=>exact q1a (k H (q1h.refl _))
 | str _=>exact q1a (k H (q1h.refl _))
 | lst _=>exact q1a (k H (q1h.refl _))
noncomputable def z2b:Sp:=fun vs H Q _=>∃ a ns,vs=[.ref a]∧H a=some (.tup (ns.map V.int))∧1≤ns.length∧ns.length≤1000∧∀ H',q1h H H'→Q (.bl (q7a ns)) H'
theorem j8u:FnScope ["parts"] ["parts"] (q0e x4v):=fSc
theorem z7y (ns:List Int) (h:1≤ns.length):q8c (ns.map V.int) (some 1) none=ns.tail.map V.int:=by
 unfold q8c
 have e1:HT.sIx (ns.map V.int).length 0 (some 1)=1:=by
  have:=HT.sIx_nat (ns.map V.int).length 0 1
  rw [show ((1:Nat):Int)=1 from rfl] at this
  rw [this,List.length_map]
  omega
 rw [e1,HT.sIx_none,List.length_map,List.take_of_length_le (by simp)]
 cases ns with
 | nil=>simp at h
 | cons a r=>rfl
theorem z0w (ns:List Int):((List.range (ns.length - 1)).map fun i=>decide (ns.getD i 0 < ns.getD (i+1) 0)).all id=q7a ns:=by
 rw [← x9m]
 congr 1
 apply List.ext_getElem?
 intro i
 by_cases hi:i < ns.length - 1
 ·have h1:i < ns.length:=by omega
  have h2:i+1 < ns.length:=by omega
  simp [hi,List.getElem?_zip_eq_some,h1,h2,List.getElem?_tail]
 ·rw [List.getElem?_eq_none (by simpa using hi),List.getElem?_eq_none]
  simp
  omega
theorem z2u {f:Addr} {fd:FuncData} (F:Fun K "is_rising" "is_rising" x4v f fd) (T:Txt mg):FnOk P w K mg base CX0 1 f fd ["parts"] z2b:=by
 refine F.ok j8u (fun vs H Q E ⟨_,_,e,_⟩=>by subst e; rfl) (fun _ A _ s H vs Q E hr h=>?_)
 obtain⟨a,ns,rfl,ha,h1,h2,k⟩:=h
 refine⟨_,q3l (q0g (q0n (q7j rfl) rfl T.all q5r (q0o (q6j (NB:=["part", "later"]) (n:=2) (fr:=[]) (q8k (outer:=q0e x4v) rfl (by decide +kernel) rfl) rfl
   (z4h (t1:=true) (t2:=true) rfl T.zip (q0o (pv 0) (q0o (q1g x3j (pv 0) (q1m q0b) q1p) q0a)))
   (fun _ _ _ _ _=>x8h (K:=K) (n:=2) rfl rfl (q7g (q1x (i:=0) (show (["part", "later"]:List Str).Nodup by decide +kernel) rfl (Or.inl rfl)) (q7g (q1x (i:=1) (show (["part", "later"]:List Str).Nodup by decide +kernel) rfl (Or.inl rfl)) x7t))) (fun _ _ _ _ _=>q3a) (fun _ _ _ _ _=>q5k x2p (pv 0) (pv 1) (q0i _))) q0a))),?_⟩
 have hcut:=z7y ns h1
 have hs1:HT.sIx (ns.map V.int).length 0 (some 1)=1:=by
  have:=HT.sIx_nat (ns.map V.int).length 0 1
  rw [show ((1:Nat):Int)=1 from rfl] at this
  rw [this,List.length_map]
  omega
 refine⟨_,rfl,_,rfl,1,rfl,a,ns.map V.int,rfl,SqT.of ha,fun z=>by rw [hs1] at z; exact absurd z.1 (by decide),fun p hp=>?_⟩
 rw [hcut]
 have sp:q1h H (upd H p (.tup (ns.tail.map V.int))):=q0d hp
 refine⟨a,p,ns.map V.int,ns.tail.map V.int,rfl,SqT.of (sp _ _ ha),SqT.of q0c,q5y (J:=Itz K true true a p) (k:=2) (n:=ns.length - 1) (fun _=>true) (fun i=>.bl (decide (ns.getD i 0 < ns.getD (i+1) 0))) (by rw [sizeLine_eq]; omega) ?_ ?_ ?_ ?_⟩
 ·intro i H2 hi s1
  have i1:i < ns.length:=by omega
  have i2:i < ns.tail.length:=by rw [List.length_tail]; omega
  exact⟨ns.map V.int,ns.tail.map V.int,.int ns[i],.int ns.tail[i],SqT.of (s1 _ _ (sp _ _ ha)),SqT.of (s1 _ _ q0c),by simp [i1],by rw [List.getElem?_map,List.getElem?_eq_getElem i2]; rfl⟩
 ·intro H2 s1
  exact⟨ns.map V.int,ns.tail.map V.int,SqT.of (s1 _ _ (sp _ _ ha)),SqT.of (s1 _ _ q0c),.inr (by simp)⟩
 ·intro i H2 t v H3 R hi s1 ht y hR
  obtain⟨q,x,y,rfl,hq,rfl,e1,e2⟩:=y
  have i1:i < ns.length:=by omega
  have i2:i+1 < ns.length:=by omega
  have e1':=e1 _ (SqT.of (s1 _ _ (sp _ _ ha)))
  have e2':=e2 _ (SqT.of (s1 _ _ q0c))
  rw [List.getElem?_map,List.getElem?_eq_getElem i1] at e1'
  rw [List.getElem?_map,List.getElem?_tail,List.getElem?_eq_getElem i2] at e2'
  cases e1'
  cases e2'
  have ht':∃ t0 t1,t=[t0,t1]:=by
   match t,ht with
   | [t0,t1],_=>exact⟨t0,t1,rfl⟩
  obtain⟨t0,t1,rfl⟩:=ht'
  refine⟨q,_,rfl,SqT.of q0c,rfl,_,_,rfl,_,_,rfl,rfl,⟨_,rfl,_,rfl,_,_,rfl,rfl,?_⟩⟩
  have hR':=hR [some (.int ns[i]),some (.int ns[i+1])] _ rfl (q0d (o:=.tup [.int ns[i],.int ns[i+1]]) hq)
  have g1:ns.getD i 0=ns[i]:=by simp [i1]
  have g2:ns.getD (i+1) 0=ns[i+1]:=by simp [i2]
  rw [g1,g2] at hR'
  exact hR'
 ·intro D H' s1 hD hd
  refine⟨D,(List.range (ns.length - 1)).map fun i=>decide (ns.getD i 0 < ns.getD (i+1) 0),rfl,SqL.of ?_,?_⟩
  ·rw [hd,List.filter_eq_self.mpr (fun _ _=>rfl),List.map_map]
   rfl
  ·rw [z0w]
   exact k H' (sp.trans s1)
theorem scS:FnScope ["thing"] ["thing"] (q0e z3o):=fSc
theorem q7q {B:Nat} {H:Hp}:∀ {ns:List Int} {vs:List V},IsL B H vs (ns.map D.int)→vs=ns.map V.int
 | [],_,h=>by cases h; rfl
 | n::r,_,h=>by
  cases h with
  | cons h t=>cases h; rw [q7q t]; rfl
theorem z6j {f:Addr} {fd:FuncData} (F:Fun K "is_seats" "is_seats" z3o f fd) (T:Txt mg) (CK:Cal P w K mg base "is_keeper" 2 ["thing"] (spP q2f))
  (CR:∀ g gd,FnOk P w K mg base CX0 2 g gd ["thing"] (spP q2f)→keepIn K (.ref g)=true→q2i K gd ["thing"] []→Cal P w K mg base "is_row_of" 3 ["thing", "teller"] (j1o g q2f))
  (CI:Cal P w K mg base "is_rising" 1 ["parts"] z2b):FnOk P w K mg base CX0 4 f fd ["thing"] (spP q2u):=by
 refine F.ok scS q5p (fun _ A _ s H vs Q E hr h=>?_)
 obtain⟨B,v,d,hB,rfl,I,k⟩:=h
 obtain⟨g,gd,G,m,kp,b⟩:=CK.ex
 obtain⟨g2,gd2,G2,m2,kp2,b2⟩:=(CR g gd G kp b).ex
 refine⟨_,q3l (q0g (q3x (q9n G2 hr rfl m2 kp2 b2 .nil q5g (q0o (pv 0) (q0o (q6i rfl m) q0a)))
  (q3x (q7o x0n x0n q0b (q0n q0l rfl T.len PySem.boot_len (q0o (pv 0) q0a)) q0b)
  (q4q (q0s CI (hr.mono (by decide)) (q0o (pv 0) q0a)))))),?_⟩
 refine⟨_,rfl,B,v,d,hB,rfl,I,fun H' s'=>⟨_,rfl,?_⟩⟩
 cases d with
 | tup ds =>
  have k1:∀ H',q1h H H'→Q (.bl (ds.all q2f && ((decide (1≤ds.length) && decide (ds.length≤9)) && q7a (q1z ds)))) H':=k
  show if ds.all q2f=true then _ else _
  cases hall:ds.all q2f with
  | false =>
   have k2:=k1 H' s'
   rw [hall] at k2
   exact q1a k2
  | true =>
   cases I with
   | @tup a xs _ ea hl r =>
   have hlen:=r.length
   refine q1f ⟨_,rfl,a,xs,rfl,.inr (SqT.of (s' _ _ ea)),1,_,rfl,rfl,_,rfl,?_⟩
   by_cases h1:1≤ds.length
   ·rw [decide_eq_true (show (1:Int)≤(xs.length:Int) by omega)]
    refine q1f ⟨_,9,rfl,rfl,_,rfl,?_⟩
    by_cases h9:ds.length≤9
    ·rw [decide_eq_true (show (xs.length:Int)≤9 by omega)]
     have eds:=x1f ds hall
     have exs:xs=(q1z ds).map V.int:=by
      rw [eds] at r
      exact q7q r
     have eln:(q1z ds).length=ds.length:=by
      have:=congrArg List.length eds
      rw [List.length_map] at this
      exact this.symm
     refine q1f ⟨_,rfl,a,q1z ds,rfl,by rw [← exs]; exact s' _ _ ea,by omega,by omega,fun H2 s2=>?_⟩
     have k2:=k1 H2 (s'.trans s2)
     rw [hall,decide_eq_true h1,decide_eq_true h9] at k2
     exact k2
    ·rw [decide_eq_false (show ¬ (xs.length:Int)≤9 by omega)]
     have k2:=k1 H' s'
     rw [hall,decide_eq_true h1,decide_eq_false h9] at k2
     exact q1a k2
   ·rw [decide_eq_false (show ¬ (1:Int)≤(xs.length:Int) by omega)]
    have k2:=k1 H' s'
    rw [hall,decide_eq_false h1] at k2
    exact q1a ⟨_,rfl,q1a k2⟩
 | non=>exact q1a (k H' s')
 | bl _=>exact q1a (k H' s')
 | int _=>exact q1a (k H' s')
 | str _=>exact q1a (k H' s')
 | lst _=>exact q1a (k H' s')
end
end K1
namespace Kp
open PySem L2
theorem q3j {n:Nat} (h:n≤1000):n≤sizeLine:=by rw [sizeLine_eq]; omega
section
variable {X:Cx} {es l:List Expr} {te:TE} {t u:TA} {p p' pos:Pos} {j:Nat}
theorem j4z {x:Str} (ha:PE X (.Name x p) te) (r:QA X es t):QA X (.Name x p::es) (x2m te t):=⟨q1c ha r.h⟩
theorem j1r {o:Operator} {a b:Expr} (ha:PE X (.BinOp a o b p) te) (r:QA X es t):QA X (.BinOp a o b p::es) (x2m te t):=⟨x6l ha r.h⟩
theorem j3p (a:QA X es t):QE X (.Tuple es j p) (j7a t):=⟨q2g a.h⟩
theorem j2j {a b:Expr} {ta tb:TE} {r:R2} (hx:IxR X r) (ha:QE X a ta) (hb:PE X b tb) (px:x1v b):QE X (.Subscript a b pos) (tOp r ta tb):=⟨q1i hx ha.h hb px⟩
end
section
variable {X:Cx} {es l:List Expr} {n m:Nat} {p p':Pos} {j:Nat}
end
section
variable {es l:List Expr} {te:TE} {t u:TA} {p p' pos:Pos} {j:Nat}
theorem j1e {X:Cx} {st:Stmt} {rest:List Stmt} {t u:TS} (h1:QS X st t) (h2:PSs X rest u):PSs X (st::rest) (j5l t u):=x0t h1.h h2
theorem q0j {X:Cx} {st:Stmt} {rest:List Stmt} {t u:TS} (h1:PS X st t) (h2:PSs X rest u):PSs X (st::rest) (j5l t u):=x0t h1 h2
theorem q0m {X:Cx} {st:Stmt} {t:TS} (h1:PS X st t):PSs X [st] t:=q3l h1
end
end Kp
namespace L2
open PySem PySem.Spec PyProof.Rows
section
variable {X:Cx}
end
end L2
namespace Kp
open PySem
end Kp
namespace Kp
open PySem L2
noncomputable def x0r (H H':Hp):Prop:=∀ b xs,H b=some (.tup xs)→H' b=some (.tup xs)
theorem q7i {t:St} (h:t.length=1):∃ t0,t=[t0]:=by
 match t,h with
 | [t0],_=>exact⟨t0,rfl⟩
end Kp
namespace L2
open PySem PySem.Spec PyProof.Rows
section
variable {κ:Type} [DecidableEq κ]
end
noncomputable abbrev KT (H:Hp):List (List Key × V)→List (List Key × Addr × Value)→Prop:=Paired fun p q=>p.1=q.1∧H q.2.1=some (.tup (p.1.map kV))∧q3z p.2 q.2.2
section
variable {P:Program} {w:World} {H:Hp} {h:Heap} {a:Addr}
end
section
variable {X:Cx} {pins:List (Addr × Obj)} {σ:St} {H:Hp} {s:Shared} {a:Addr} {y v:V} {u r:Value} {o:Option V} {A:Around} {E:Value→Shared→Prop}
end
section
variable {X:Cx} {pins:List (Addr × Obj)} {σ:St} {H:Hp} {s:Shared} {a:Addr} {kvs:List (Key × V)} {k:Key} {u:Value} {A:Around} {E:Value→Shared→Prop}
end
noncomputable def j7g (i:Expr):Prop:=∀ ov iv,subscripted i false ov iv=operate [ov,iv] (getItem ov iv)
theorem j0z {prog:Program} {w:World} {A:Around} {E:Value→Shared→Prop} {s:Shared} {env:Env} {value slice:Expr} {pos:Pos} {T id:String} {Q:Value→Shared→Prop}
  (hl:typeLookup (.type T) "__getitem__" = pure (some (.builtin id))) (hs:j7g slice)
  (h:wpAny (model prog w) A (eval value env) (fun o s₁=>wpAny (model prog w) A (eval slice env) (fun i s₂=>s₂.TypeIs o T∧wpAny (model prog w) A (getItem o i) Q E s₂) E s₁) E s) :
  wpAny (model prog w) A (eval (.Subscript value slice pos) env) Q E s:=by
 refine Subscript_ (wpAny_mono h (fun o s₁ h₁=>wpAny_mono h₁ (fun i s₂ h₂=>?_) fun _ _ x=>x) fun _ _ x=>x)
 obtain⟨hT,h₂⟩:=h₂
 unfold subscriptTail
 refine wpAny_bind ?_
 rw [getitemInPython_of_ne hT.not_modules]
 refine wpAny_bind (wpAny_specialOf hT hl ?_)
 have fin:wpAny (model prog w) A (subscripted slice false o i) (fun r s₃=>wpAny (model prog w) A (letTemporaryGo value o r >>= fun _=>pure r) Q E s₃) E s₂:=by
  rw [hs o i]
  exact wpAny_operating (wpAny_mono h₂ (fun r s₃ h₃=>wpAny_bind (wpAny_letTemporaryGo (wpAny_pure h₃))) fun _ _ x=>x)
 first
  | exact wpAny_pure (wpAny_bind fin)
  | exact wpAny_bind (wpAny_pure (wpAny_bind fin))
  | exact wpAny_bind fin
section
variable {X:Cx} {o i e value:Expr} {pos pos' tpos:Pos} {td ty tv:TE}
end
section
variable {X:Cx} {pos:Pos}
end
end L2
namespace Kp
open PySem L2 PySem.Spec PyProof.Rows
end Kp
namespace Kp
open PySem L2
mutual
inductive ThN (B:Nat) (H:Hp):V→Prop
 | non:ThN B H .non
 | bl (b:Bool):ThN B H (.bl b)
 | int (i:Int):ThN B H (.int i)
 | str (x:Str) (h:x.length≤B):ThN B H (.str x)
 | tup {a:Addr} {vs:List V} (e:H a=some (.tup vs)) (l:vs.length≤B) (r:ThNL B H vs):ThN B H (.ref a)
inductive ThNL (B:Nat) (H:Hp):List V→Prop
 | nil:ThNL B H []
 | cons {v:V} {vs:List V} (h:ThN B H v) (t:ThNL B H vs):ThNL B H (v::vs)
end
mutual
theorem ThN.sameT {B B':Nat} {H H':Hp} (hB:B≤B') (s:x0r H H'):∀ {v},ThN B H v→ThN B' H' v
 | _,.non=>.non
 | _,.bl b=>.bl b
 | _,.int i=>.int i
 | _,.str x h=>.str x (Nat.le_trans h hB)
 | _,.tup e l r=>.tup (s _ _ e) (Nat.le_trans l hB) (ThNL.sameT hB s r)
theorem ThNL.sameT {B B':Nat} {H H':Hp} (hB:B≤B') (s:x0r H H'):∀ {vs},ThNL B H vs→ThNL B' H' vs
 | _,.nil=>.nil
 | _,.cons h t=>.cons (ThN.sameT hB s h) (ThNL.sameT hB s t)
end
mutual
theorem ThN.th {B:Nat} {H:Hp}:∀ {v},ThN B H v→Th B H v
 | _,.non=>Th.non
 | _,.bl b=>Th.bl b
 | _,.int i=>Th.int i
 | _,.str x h=>Th.str x h
 | _,.tup e l r=>Th.tup e l (ThNL.th r)
theorem ThNL.th {B:Nat} {H:Hp}:∀ {vs},ThNL B H vs→ThL B H vs
 | _,.nil=>ThL.nil
 | _,.cons h t=>ThL.cons (ThN.th h) (ThNL.th t)
end
theorem z6t {H H':Hp} (s:q1h H H'):x0r H H':=fun b xs e=>s _ _ e
end Kp
namespace HT
open PySem PySem.Spec PyProof.Rows L2
section
variable {prog:Program} {w:World} {A:Around} {E:Value→Shared→Prop} {s:Shared}
theorem getItem_tuple_whole {t sl:Addr} {items:Array Value} {vl vu:Value} {lo hi:Option Int} {Q:Value→Shared→Prop} (ht:IsTup s.heap t items) (hs:s.heap.IsSliceOf sl vl vu .none) (pl:IsPart vl lo) (pu:IsPart vu hi)
  (hw:sIx items.size 0 lo=0∧sIx items.size items.size hi=items.size) (h:Q (.ref t) s):wpAny (model prog w) A (getItem (.ref t) (.ref sl)) Q E s:=by
 obtain⟨os,hos,hcs,hds⟩:=id hs
 have hTs:s.TypeIs (.ref sl) "slice" := ⟨os,hos,hcs⟩
 unfold getItem
 try with_reducible refine wpAny_holding ?_
 first | refine wpAny_bind (wpAny_pure ?_) | skip
 refine wpAny_bind (wpAny_sequenceKey ht.typeIs (by decide) ?_)
 refine wpAny_bind (wpAny_callSpecial?_slot (name:=Str.ofString "__getitem__") ht.typeIs PyProof.Rows.slot_tuple_getitem
  (wpAny_call_entry PyProof.Rows.slot_tuple_getitem ht.typeIs entry_tuple_getitem ?_ (args_tuple_getitem _ _)))
 show wpAny _ _ (Builtin.Tuple.tupleItemsOf (.ref t) >>= _) _ _ s
 refine wpAny_bind (tupleItemsOf_ ht ?_)
 refine wpAny_bind (wpAny_typeOf hTs ?_)
 rw [if_pos (by decide)]
 refine wpAny_bind (q6p hs pl pu ?_)
 have hyes:(((sIx items.size 0 lo:Nat):Int)==0 && (1:Int)==1 && (sIx items.size items.size hi - sIx items.size 0 lo)==items.size)=true:=by
  rw [hw.1,hw.2]; simp
 show wpAny _ _ (if (((sIx items.size 0 lo:Nat):Int)==0 && (1:Int)==1 && (sIx items.size items.size hi - sIx items.size 0 lo)==items.size)=true then _ else _) _ _ s
 rw [if_pos hyes]
 refine wpAny_bind (m:=Builtin.Tuple.tupleIsExact _) (wpAny_bind (wpAny_typeOf ht.typeIs (wpAny_pure ?_)))
 rw [if_pos (by decide)]
 refine wpAny_bind (wpAny_rule ?_)
 first
  | exact wpAny_bind (wpAny_pure (wpAny_pure ⟨_,rfl,wpAny_pure h⟩))
  | exact wpAny_pure ⟨_,rfl,wpAny_pure h⟩
  | exact wpAny_bind (wpAny_pure ⟨_,rfl,wpAny_pure h⟩)
end
end HT
namespace L2
open PySem PySem.Spec PyProof.Rows L2
theorem z1u {xs:List V} {lo hi:Option Int} (h1:HT.sIx xs.length 0 lo=0) (h2:HT.sIx xs.length xs.length hi=xs.length):q8c xs lo hi=xs:=by
 unfold q8c; rw [h1,h2]; simp
end L2
namespace L2
open PySem PySem.Spec PyProof.Rows
section
variable {X:Cx}
variable {o e:Expr} {es:List Expr} {to:TE} {t:TA} {name:Str} {apos cpos:Pos} {id:String} {r:V→List V→Hp→VK→Prop}
end
section
variable {X:Cx}
end
end L2
namespace K1
open PySem L2 Kp
end K1
namespace L2
open PySem PySem.Spec PyProof.Rows
section
variable {X:Cx}
end
end L2
namespace K1
open PySem L2 Kp
theorem SqL.same' {K:Frag} {H H':Hp} {a:Addr} {xs:List V} (h:SqL K H a xs) (s:q1h H H'):SqL K H' a xs:=by
 rcases h with h | h
 ·exact .inl (h.elim (fun e=>.inl (s _ _ e)) fun⟨o,e⟩=>.inr ⟨o,s _ _ e⟩)
 ·exact .inr h
end K1
set_option maxHeartbeats 1000000
namespace L2
open PySem PySem.Spec PyProof.Rows
section
variable {prog:Program} {w:World} {A:Around} {R:Result→Shared→Prop} {it:Addr} {fp wr:List Addr} {n:Nat} {Pv:Nat→Value→Prop} {St:Nat→Heap→Prop} {dv:Value}
end
section
variable {X:Cx}
theorem x3f:∀ {ys:List Int} {its:List Value},q2x (ys.map V.int) its→∃ xs:List (Int × Tok),its=xs.map (fun p=>Value.int p.1 p.2)∧xs.map (·.1)=ys
 | [],_,h=>by cases h; exact⟨[],rfl,rfl⟩
 | y::ys,_,h=>by
  cases h with
  | cons r t =>
   obtain⟨tk,rfl⟩:=r
   obtain⟨xs,rfl,rfl⟩:=x3f t
   exact⟨(y,tk)::xs,rfl,rfl⟩
theorem z8n {xs:List (Int × Tok)} {i:Nat} (h:i < xs.length):numAt xs.toArray i=(xs.map (·.1))[i]'(by simpa using h):=by
 unfold numAt; simp [h]
end
end L2
namespace K1
open PySem L2 Kp
end K1
namespace Kp
open PySem L2
end Kp
set_option maxHeartbeats 4000000
namespace Kp
open PySem L2
noncomputable def q1l (a:Addr) (H H':Hp):Prop:=∀ b o,b≠a→H b=some o→H' b=some o
theorem q1l.refl {a:Addr} (H:Hp):q1l a H H:=fun _ _ _ e=>e
theorem q1l.trans {a:Addr} {H H1 H2:Hp} (s:q1l a H H1) (t:q1l a H1 H2):q1l a H H2:=fun b o n e=>t b o n (s b o n e)
theorem q1l.of {a:Addr} {H H':Hp} (s:q1h H H'):q1l a H H':=fun b o _ e=>s b o e
theorem q1l.upd {a:Addr} {H:Hp} {o:HO}:q1l a H (upd H a o):=fun b _ n e=>by rw [q0r n]; exact e
theorem q7h {J:It} {H1:Hp} {a:Addr} {n k:Nat} {frs:St} {g:TG} {tt:TT} {te:TE} {Q:VK} (W:Nat→List V→Hp→Prop) (hn:n < sizeLine) (ha:∃ o,H1 a=some o)
  (w0:∀ D,H1 D=none→W 0 [] (upd H1 D (.lst []))) (wst:∀ i ys H D zs us,H1 D=none→D≠a→H D=some (.lst zs)→W i ys H→W i ys (upd H D (.lst us)))
  (go:∀ i ys H,i < n→W i ys H→J.go i H) (stop:∀ ys H,W n ys H→J.stop n H)
  (turn:∀ i ys H t x H2 (R:St→Hp→Option V→Prop),i < n→ys.length=i→W i ys H→t.length=k→J.yld i H x H2 →
   (∀ t' H' v,t'.length=k→q1l a H H'→W (i+1) (ys++[v]) H'→R (t'++frs) H' (some v)) →
   g x (t++frs) H2 fun σ3 H3=>tt σ3 H3 fun b H4=>if b=true then te σ3 H4 fun v H5=>R σ3 H5 (some v) else R σ3 H4 none)
  (hq:∀ D H' ys,D≠a→ys.length=n→W n ys H'→H' D=some (.lst ys)→Q (.ref D) H'):z3s (List.replicate k none++frs) g tt te Q J H1:=by
 intro D hD
 have hDa:D≠a:=fun z=>by obtain⟨o,e⟩:=ha; rw [← z,hD] at e; cases e
 refine⟨fun i m ys σ H=>i≤n∧m=n - i∧ys.length=i∧W i ys H∧∃ t,t.length=k∧σ=t++frs,⟨n,Nat.zero_le _,rfl,rfl,w0 D hD,_,by simp,rfl⟩,?_⟩
 rintro i m ys σ H ⟨hi,rfl,hy,w,t,ht,rfl⟩ hd
 by_cases hlt:i < n
 ·right
  refine⟨go i ys H hlt w,by omega,fun x H2 y=>?_⟩
  have h:=turn i ys H t x H2 (fun σ3 H5 r=>match r with
   | some v=>H5 D=some (.lst ys)∧∃ m',m' < n - i∧(i+1≤n∧m'=n - (i+1)∧(ys++[v]).length=i+1∧W (i+1) (ys++[v]) (upd H5 D (.lst (ys++[v])))∧∃ t,t.length=k∧σ3=t++frs)
   | none=>H5 D=some (.lst ys)∧∃ m',m' < n - i∧(i+1≤n∧m'=n - (i+1)∧ys.length=i+1∧W (i+1) ys H5∧∃ t,t.length=k∧σ3=t++frs)) hlt hy w ht y ?_
  ·exact h
  ·intro t' H' v ht' s2 w2
   have hd':=s2 _ _ hDa hd
   exact⟨hd',n - (i+1),by omega,by omega,rfl,by rw [List.length_append,hy]; rfl,wst _ _ _ _ _ _ hD hDa hd' w2,t',ht',rfl⟩
 ·have e:i=n:=by omega
  subst e
  exact .inl ⟨stop ys H w,hq D H ys hDa hy w hd⟩
mutual
noncomputable def x6n:D→Bool
 | .tup ds=>noLL ds
 | .lst _=>false
 | _=>true
noncomputable def noLL:List D→Bool
 | []=>true
 | d::ds=>x6n d && noLL ds
end
mutual
theorem Is.sameT {B:Nat} {H H':Hp} (s:x0r H H'):∀ {v d},Is B H v d→x6n d=true→Is B H' v d
 | _,_,.non,_=>.non
 | _,_,.bl b,_=>.bl b
 | _,_,.int i,_=>.int i
 | _,_,.str x h,_=>.str x h
 | _,_,.tup e l r,h=>.tup (s _ _ e) l (IsL.sameT s r h)
 | _,_,.lst _ _ _,h=>by cases h
theorem IsL.sameT {B:Nat} {H H':Hp} (s:x0r H H'):∀ {vs ds},IsL B H vs ds→noLL ds=true→IsL B H' vs ds
 | _,_,.nil,_=>.nil
 | _,_,.cons h t,e=>by
  rw [noLL,Bool.and_eq_true] at e
  exact .cons (Is.sameT s h e.1) (IsL.sameT s t e.2)
end
theorem q1o:∀ {ds:List D},noLL ds=true↔∀ d∈ds,x6n d=true
 | []=>by
  constructor
  ·intro _ d h
   cases h
  ·intro _
   rfl
 | d::ds=>by
  rw [noLL,Bool.and_eq_true,q1o]
  simp
theorem q1l.tups {a:Addr} {H H':Hp} (s:q1l a H H') (h:∀ xs,H a≠some (.tup xs)):x0r H H':=fun b xs e=>s b _ (fun z=>by rw [z] at e; exact h xs e) e
theorem q3w {D:Addr} {H:Hp} {o:HO} (h:∀ xs,H D≠some (.tup xs)):x0r H (upd H D o):=fun b xs e=>by
 have n:b≠D:=fun z=>by rw [z] at e; exact h xs e
 rw [q0r n]
 exact e
end Kp
namespace Kp
open PySem
noncomputable def j6i (p:D→Bool):D→Bool
 | .tup ds=>ds.all p
 | _=>false
end Kp
namespace Kp
open PySem L2 PySem.Spec PyProof.Rows
noncomputable abbrev Ord:=PyProof.Rows.KeyKind
section
variable {prog:Program} {w:World} {A:Around} {E:Value→Shared→Prop} {s:Shared} {a0:Array Keyed} {κ:Ord} {kd:SortKind} {st:SortSt}
structure TB (κ:Ord) (kd:SortKind) (a0:Array Keyed) (st:SortSt):Prop where
 pm:(arrOf st).Perm a0
 kn:kindOf st=kd
 fl:failedOf st=none
 pe:pendingOf st=#[]
 un:∀ i j,i < a0.size→j < a0.size→KK κ (arrOf st) i=KK κ (arrOf st) j→i=j
noncomputable def Up (κ:Ord) (xs:Array Keyed) (k:Nat):Prop:=∀ i j,i < j→j < k→κ.blt (KK κ xs i) (KK κ xs j)=true
noncomputable def TD (κ:Ord) (a0:Array Keyed) (st:SortSt):Prop:=(arrOf st).Perm a0∧failedOf st=none∧pendingOf st=#[(0,a0.size,0)]∧Up κ (arrOf st) a0.size
end
end Kp
namespace Kp
open PySem L2 PySem.Spec PyProof.Rows
section
variable {prog:Program} {w:World} {A:Around} {E:Value→Shared→Prop} {s:Shared}
end
end Kp
namespace Kp
open PySem L2 PySem.Spec PyProof.Rows
section
variable {prog:Program} {w:World} {A:Around} {E:Value→Shared→Prop} {s:Shared}
end
end Kp
namespace Kp
open PySem L2 PySem.Spec PyProof.Rows
noncomputable def j2s (a b:Str):Prop:=a.cps.toList < b.cps.toList
section
variable {X:Cx}
end
end Kp
namespace Kp
open PySem L2 PySem.Spec PyProof.Rows
section
variable {X:Cx}
end
end Kp
namespace L2
open PySem PySem.Spec PyProof.Rows
noncomputable def j8x:V→Option Int→Option Int→Hp→VK→Prop:=fun x lo hi H Q=>∃ a xs,x=.ref a∧H a=some (.tup xs)∧∀ p H',H' p=some (.tup (q8c xs lo hi))→q1h H H'→Q (.ref p) H'
theorem j1g {X:Cx}:SlR X j8x:=by
 intro pins s σ H x v vl vu lo hi sl Q I rx hs pl pu h
 obtain⟨a,xs,rfl,hx,q⟩:=h
 by_cases hw:HT.sIx xs.length 0 lo=0∧HT.sIx xs.length xs.length hi=xs.length
 ·cases rx
  obtain⟨its,r,ht,hz⟩:=I.tuple (SqT.of hx)
  have hlen:its.toArray.size=xs.length:=by rw [List.size_toArray]; exact r.length.symm
  refine⟨"tuple",_,PyProof.Rows.slot_tuple_getitem.lookup,ht.typeIs,?_⟩
  refine HT.getItem_tuple_whole ht hs pl pu (by rw [hlen]; exact hw) ⟨.ref a,H,I,rfl,q a H (by rw [z1u hw.1 hw.2]; exact hx) (q1h.refl _)⟩
 ·exact x3j pins s σ H _ _ vl vu lo hi sl Q I rx hs pl pu ⟨a,xs,rfl,SqT.of hx,hw,fun p hp=>q p _ q0c (Kp.q0d hp)⟩
end L2
namespace K1
open PySem L2 Kp
theorem z7e {α:Type} (xs:List α) (k:Nat):xs.drop (min k xs.length)=xs.drop k:=by
 by_cases h:k≤xs.length
 ·rw [Nat.min_eq_left h]
 ·rw [Nat.min_eq_right (by omega),List.drop_length,List.drop_eq_nil_of_le (by omega)]
theorem z4s (xs:List V) (k:Nat):q8c xs (some (k:Int)) none=xs.drop k:=by
 unfold q8c; rw [HT.sIx_nat,HT.sIx_none,z7e]
 exact List.take_of_length_le (by rw [List.length_drop]; omega)
end K1
namespace Kp
open PySem L2 PySem.Spec PyProof.Rows
noncomputable def x8f:Nat→D→Prop
 | _,.non=>True
 | _,.bl _=>True
 | _,.int _=>True
 | _,.str _=>True
 | 0,.tup _=>False
 | 0,.lst _=>False
 | n+1,.tup ds=>∀ x∈ds,x8f n x
 | n+1,.lst ds=>∀ x∈ds,x8f n x
theorem x3u (n:Nat):((List.range n).all fun _=>true)=true:=by simp
theorem q2x.at {xs:List V} {us:List Value} (r:q2x xs us) {j:Nat} (h:j < us.toArray.size):∃ x,xs[j]? = some x∧q3z x us.toArray[j]:=by
 have h':j < us.length:=by simpa using h
 have hx:j < xs.length:=by rw [r.length]; exact h'
 obtain⟨u,e,rv⟩:=r.get (i:=j) (x:=xs[j]) (by simp [hx])
 have e2:us.toArray[j]=u:=by
  have:=(List.getElem?_eq_some_iff.mp e).2
  simpa using this
 exact⟨xs[j],by simp [hx],e2▸rv⟩
theorem z7o {X:Cx} {pins:List (Addr × Obj)} {σ:L2.St} {H:Hp} {s:Shared} {B B':Nat} (I:Inv X pins σ H s):∀ (n:Nat) (d:D) (v u:V) (uv uu:Value) (A:Around),x8f n d→Is B H v d→Is B' H u d→q3z v uv→q3z u uu→A.units+n < cLine→SeqAt.EqAt A s uv uu true:=by
 intro n
 induction n with
 | zero =>
  intro d v u uv uu A hd Iv Iu rv ru hu
  cases d with
  | tup ds=>exact hd.elim
  | lst ds=>exact hd.elim
  | non=>cases Iv; cases Iu; exact q9g rv ru rfl rfl
  | bl b =>
   cases Iv; cases Iu
   have:=q9g (A:=A) (s:=s) rv ru rfl rfl
   rw [show eqV (V.bl b) (V.bl b)=true by cases b <;> rfl] at this
   exact this
  | int i =>
   cases Iv; cases Iu
   have:=q9g (A:=A) (s:=s) rv ru rfl rfl
   rw [show eqV (V.int i) (V.int i)=true by simp [eqV]] at this
   exact this
  | str x =>
   cases Iv; cases Iu
   have:=q9g (A:=A) (s:=s) rv ru rfl rfl
   rw [show eqV (V.str x) (V.str x)=true by simp [eqV]] at this
   exact this
 | succ n ih =>
  intro d v u uv uu A hd Iv Iu rv ru hu
  have hu0:A.units < cLine:=by omega
  cases d with
  | non=>cases Iv; cases Iu; exact q9g rv ru rfl rfl
  | bl b =>
   cases Iv; cases Iu
   have:=q9g (A:=A) (s:=s) rv ru rfl rfl
   rw [show eqV (V.bl b) (V.bl b)=true by cases b <;> rfl] at this
   exact this
  | int i =>
   cases Iv; cases Iu
   have:=q9g (A:=A) (s:=s) rv ru rfl rfl
   rw [show eqV (V.int i) (V.int i)=true by simp [eqV]] at this
   exact this
  | str x =>
   cases Iv; cases Iu
   have:=q9g (A:=A) (s:=s) rv ru rfl rfl
   rw [show eqV (V.str x) (V.str x)=true by simp [eqV]] at this
   exact this
  | tup ds =>
   cases Iv with
   | @tup a xs _ e1 l1 r1 =>
   cases Iu with
   | @tup b ys _ e2 l2 r2 =>
   cases rv
   cases ru
   by_cases hab:a=b
   ·subst hab; exact .same _
   ·refine SeqAt.EqAt.of_refs hab ?_
    obtain⟨its,q1,p1,_⟩:=I.tuple (SqT.of e1)
    obtain⟨jts,q2,p2,_⟩:=I.tuple (SqT.of e2)
    have hl:its.toArray.size=jts.toArray.size:=by simp [← q1.length,← q2.length,r1.length,r2.length]
    have z:=SeqAt.RcAt.tuples (e:=fun _=>true) (show s.heap.IsTuple a its.toArray from p1) (show s.heap.IsTuple b jts.toArray from p2) hu0 (fun j h1 h2=>by
     obtain⟨x,ex,rx⟩:=q2x.at q1 h1
     obtain⟨y,ey,ry⟩:=q2x.at q2 h2
     obtain⟨dx,hdx,Ix⟩:=r1.get ex
     obtain⟨dy,hdy,Iy⟩:=r2.get ey
     rw [hdx] at hdy
     cases hdy
     exact ih dx x y _ _ A.in1 (hd dx (List.mem_of_getElem? hdx)) Ix Iy rx ry (by show A.units+1+n < cLine; omega))
    rw [x3u,hl,beq_self_eq_true] at z
    exact z
  | lst ds =>
   cases Iv with
   | @lst a xs _ e1 l1 r1 =>
   cases Iu with
   | @lst b ys _ e2 l2 r2 =>
   cases rv
   cases ru
   by_cases hab:a=b
   ·subst hab; exact .same _
   ·refine SeqAt.EqAt.of_refs hab ?_
    obtain⟨its,q1,p1,_⟩:=I.list (SqL.of e1)
    obtain⟨jts,q2,p2,_⟩:=I.list (SqL.of e2)
    have hl:its.toArray.size=jts.toArray.size:=by simp [← q1.length,← q2.length,r1.length,r2.length]
    have z:=SeqAt.RcAt.lists (e:=fun _=>true) p1.isList p2.isList hl hu0 (fun j h1 h2=>by
     obtain⟨x,ex,rx⟩:=q2x.at q1 h1
     obtain⟨y,ey,ry⟩:=q2x.at q2 h2
     obtain⟨dx,hdx,Ix⟩:=r1.get ex
     obtain⟨dy,hdy,Iy⟩:=r2.get ey
     rw [hdx] at hdy
     cases hdy
     exact ih dx x y _ _ A.in1 (hd dx (List.mem_of_getElem? hdx)) Ix Iy rx ry (by show A.units+1+n < cLine; omega))
    rw [x3u] at z
    exact z
theorem j3m {X:Cx} (hu:X.A.units+100 < cLine):OpR X (compareOp .Eq) (fun x y H Q=>∃ B B' ds n,Is B H x (.tup ds)∧Is B' H y (.tup ds)∧x8f n (.tup ds)∧n≤100∧Q (.bl true) H):=by
 intro pins s σ H x y v u Q I rx ry h
 obtain⟨B,B',ds,n,Ix,Iy,hd,hn,q⟩:=h
 cases Ix with
 | @tup a xs _ e1 l1 r1 =>
 cases Iy with
 | @tup b ys _ e2 l2 r2 =>
 cases rx
 cases ry
 obtain⟨its,q1,p1,_⟩:=I.tuple (SqT.of e1)
 obtain⟨jts,q2,p2,_⟩:=I.tuple (SqT.of e2)
 have hl:its.toArray.size=jts.toArray.size:=by simp [← q1.length,← q2.length,r1.length,r2.length]
 cases n with
 | zero=>exact hd.elim
 | succ n =>
  refine SeqAt.eq_tupleAt (e:=fun _=>true) (show s.heap.IsTuple a its.toArray from p1) (show s.heap.IsTuple b jts.toArray from p2) (by omega) (fun j h1 h2=>?_) ⟨.bl true,H,I,?_,q⟩
  ·obtain⟨x,ex,rx⟩:=q2x.at q1 h1
   obtain⟨y,ey,ry⟩:=q2x.at q2 h2
   obtain⟨dx,hdx,Ix⟩:=r1.get ex
   obtain⟨dy,hdy,Iy⟩:=r2.get ey
   rw [hdx] at hdy
   cases hdy
   exact z7o I n dx x y _ _ X.A.in1 (hd dx (List.mem_of_getElem? hdx)) Ix Iy rx ry (by show X.A.units+1+n < cLine; omega)
  ·rw [x3u,hl,beq_self_eq_true]; rfl
end Kp
namespace Kp
open PySem L2 PySem.Spec PyProof.Rows
end Kp
namespace L2
open PySem
theorem Room.units100 {k:Nat} {A:Around} (r:Room k A):A.units+100 < cLine:=by have:=r.un; omega
end L2
namespace Kp
open PySem L2
end Kp
namespace K1
open PySem L2 Kp
theorem q4a {a b:Str} (h:a.cps.toList=b.cps.toList):a=b:=by
 obtain⟨⟨x⟩⟩:=a
 obtain⟨⟨y⟩⟩:=b
 simp only at h
 rw [h]
instance (a b:Str):Decidable (j2s a b):=inferInstanceAs (Decidable (a.cps.toList < b.cps.toList))
end K1
namespace Kp
open PySem L2 PySem.Spec PyProof.Rows
section
variable {X:Cx}
end
end Kp
namespace Kp
open PySem L2
end Kp
namespace Kp
open PySem L2 PySem.Spec PyProof.Rows
section
variable {X:Cx}
theorem x6k:MtR X "str.startswith" (fun x xs H Q=>∃ z y,x=.str z∧xs=[.str y]∧Q (.bl (Txt.startswith z y)) H):=by
 intro pins s σ H x xs v us Q I rx rv h
 obtain⟨z,y,rfl,rfl,q⟩:=h
 obtain⟨t,rfl⟩:=rx
 obtain⟨u,rfl,t',rfl⟩:=x0q rv
 exact SC.startswith ⟨.bl _,H,I,rfl,q⟩
theorem z2e:MtR X "str.endswith" (fun x xs H Q=>∃ z y,x=.str z∧xs=[.str y]∧Q (.bl (Txt.endswith z y)) H):=by
 intro pins s σ H x xs v us Q I rx rv h
 obtain⟨z,y,rfl,rfl,q⟩:=h
 obtain⟨t,rfl⟩:=rx
 obtain⟨u,rfl,t',rfl⟩:=x0q rv
 exact SC.endswith ⟨.bl _,H,I,rfl,q⟩
theorem x9o:∀ l:List (Str × Tok),q2x ((l.map (·.1)).map V.str) (strValues l)
 | []=>.nil
 | p::l=>.cons ⟨_,rfl⟩ (x9o l)
theorem q5t {z y:Str} (hy:1≤y.length):(Txt.split z y).length≤z.length+1:=by
 have:=split_weight z y hy
 omega
theorem q4m {z y a:Str} (h:a∈Txt.split z y):a.length≤z.length:=part_short h
theorem q6f:MtR X "str.split" (fun x xs H Q=>∃ z y,x=.str z∧xs=[.str y]∧1≤y.length∧z.length+1≤sizeLine∧∀ l,H l=none→Q (.ref l) (upd H l (.lst ((Txt.split z y).map V.str)))):=by
 intro pins s σ H x xs v us Q I rx rv h
 obtain⟨z,y,rfl,rfl,hy,hz,q⟩:=h
 obtain⟨t,rfl⟩:=rx
 obtain⟨u,rfl,t',rfl⟩:=x0q rv
 have hfew:=q5t (z:=z) hy
 have fin:∀ (l:List (Str × Tok)) (k:Nat),l.map (·.1)=Txt.split z y →
   EP X pins σ Q (.ref s.heap.objs.size) { s with toks:=k,heap:=s.heap.push { cls:=.type "list",data:=.seq (strValues l).toArray } }:=by
  intro l k e
  refine⟨.ref s.heap.objs.size,_,I.laid (t':=k) (o:=.lst ((Txt.split z y).map V.str)) (fun b o hb=>Heap.get?_push_of_some _ hb) (Nat.le_refl _) ⟨?_,strValues l,_,?_,Heap.get?_push_size _ rfl⟩,rfl,q _ (I.hok.fresh (Nat.le_refl _))⟩
  ·rw [List.length_map]; omega
  ·rw [← e]; exact x9o l
 have hy0:(y.length==0)=false:=by
  rw [beq_eq_false_iff_ne]; omega
 have hself:∀ S:List Str,S=[z]→Txt.split z y=S→listOfItself z t X.A (wants (EP X pins σ Q) X.xe) s:=by
  intro S e1 e2
  exact fin [(z,t)] s.toks (by rw [e2,e1]; rfl)
 cases hc:(decide (z.length < y.length) || decide (Builtin.Str.strKind z < Builtin.Str.strKind y)) with
 | true=>exact call_meets PySem.F.slot_str_split (typeIs_str _ _ _) PySem.F.entry_str_split (PySem.F.args_str_split_2 _ _) (meets_str_split_cannot_occur z y t t' hc) (hself [z] rfl (if_pos hc))
 | false =>
  have hc':¬ (decide (z.length < y.length) || decide (Builtin.Str.strKind z < Builtin.Str.strKind y))=true:=by rw [hc]; decide
  cases ho:(Builtin.Str.occurrences z y 0 z.length (z.length+1)).isEmpty with
  | true=>exact call_meets PySem.F.slot_str_split (typeIs_str _ _ _) PySem.F.entry_str_split (PySem.F.args_str_split_2 _ _) (meets_str_split_not_found z y t t' hc hy0 ho) (hself [z] rfl ((if_neg hc').trans (if_pos ho)))
  | false =>
   have ho':¬ (Builtin.Str.occurrences z y 0 z.length (z.length+1)).isEmpty=true:=by rw [ho]; decide
   have es:Txt.split z y=Builtin.Str.partsBetween z (Builtin.Str.occurrences z y 0 z.length (z.length+1)) y.length:=(if_neg hc').trans (if_neg ho')
   refine call_meets PySem.F.slot_str_split (typeIs_str _ _ _) PySem.F.entry_str_split (PySem.F.args_str_split_2 _ _) (meets_str_split_sep z y t t' hc hy0 ho (by omega) (by rw [← es]; omega)) ?_
   rw [← es]
   simp only [strsFrom_eq]
   exact fin (numbered s.toks (Txt.split z y)) _ (numbered_texts _ _)
theorem x2j:x0l X (.type "int") (fun xs H Q=>∃ z n,xs=[.str z]∧intText? z=some n∧z.length≤640∧Q (.int n) H):=by
 intro pins s σ H xs us Q I r h
 obtain⟨z,n,rfl,hn,hl,q⟩:=h
 obtain⟨u,rfl,t,rfl⟩:=x0q r
 exact PySem.W.KIN.call_text hn hl ⟨.int n,H,I.tok _,⟨_,rfl⟩,q⟩
theorem j0x:MtR X "str.join" (fun x xs H Q=>∃ z p,∃ ys:List Str,x=.str z∧xs=[.ref p]∧SqL X.K H p (ys.map V.str)∧JoinOk z ys=true∧Q (.str (Str.join z ys)) H):=by
 intro pins s σ H x xs v us Q I rx rv h
 obtain⟨z,p,ys,rfl,rfl,hq,hok,q⟩:=h
 obtain⟨t,rfl⟩:=rx
 obtain⟨u,rfl,rx⟩:=x0q rv
 cases rx
 obtain⟨its,rv,pl,hz⟩:=I.list hq
 have hl:=pl.isList
 have hv:∃ l:List (Str × Tok),strValues l=its∧l.map (·.1)=ys:=by
  clear hl pl hq hz hok q
  generalize hw:ys.map V.str=ws at rv
  induction rv generalizing ys with
  | nil=>exact⟨[],rfl,(List.map_eq_nil_iff.mp hw).symm⟩
  | cons r1 t1 ih =>
   cases ys with
   | nil=>cases hw
   | cons y ys =>
    cases hw
    obtain⟨k,rfl⟩:=r1
    obtain⟨l,e1,e2⟩:=ih ys rfl
    exact⟨(y,k)::l,by rw [← e1]; rfl,by rw [← e2]; rfl⟩
 obtain⟨l,e1,e2⟩:=hv
 rw [← e1] at hl
 refine SC.join hl e2 hok fun t' k=>⟨.str (Str.join z ys),H,I.tok _,?_,q⟩
 show ∃ t,_=_
 exact⟨t',by rw [show Txt.join z ys=Str.join z ys from StrLaws.glued_eq_join z ys]⟩
end
end Kp
namespace Kp
open PySem PySem.Spec PyProof.Rows PySem.NumText
noncomputable def q1d (n:Int):Str:=Str.ofString (toString n)
noncomputable def z5v (n:Int):List Nat:=(q1d n).cps.toList
noncomputable def q8l (m:Nat):List Nat:=(Nat.toDigits 10 m).map Char.toNat
theorem q6g (m:Nat):z5v (m:Int)=q8l m:=PySem.W.KIN.signs_num m
theorem q4z {n:Int} (h:n < 0):z5v n=45::q8l n.natAbs:=by
 unfold z5v q1d
 rw [toString_neg h,signs_ofString,String.toList_append,List.map_append]
 have e:(0:Int) - n=((n.natAbs:Nat):Int):=by omega
 rw [e]
 have q:=PySem.W.KIN.signs_num n.natAbs
 rw [signs_ofString] at q
 rw [q]
 rfl
theorem q3e (m:Nat):AllDigits (q8l m):=by
 intro c hc
 obtain⟨ch,hch,rfl⟩:=List.mem_map.mp hc
 have h:=Nat.isDigit_of_mem_toDigits (b:=10) (n:=m) (by decide) (by decide) hch
 have h2:ch.val.toNat≥48∧ch.val.toNat≤57:=by
  unfold Char.isDigit at h
  rw [Bool.and_eq_true,decide_eq_true_eq,decide_eq_true_eq] at h
  exact⟨h.1,h.2⟩
 exact⟨h2.1,h2.2⟩
theorem x4r (m:Nat):q8l m≠[]:=fun e=>Nat.toDigits_ne_nil (List.map_eq_nil_iff.mp e)
theorem q7m (m:Nat) {k:Nat} (hk:0 < k):(q8l m).length≤k↔m < 10 ^ k:=by
 unfold q8l
 rw [List.length_map]
 exact Nat.length_toDigits_le_iff (by decide) hk
theorem x1b {m:Nat} (h:m < 10):q8l m=[48+m]:=by
 unfold q8l
 rw [Nat.toDigits_of_lt_base h]
 have:∀ m:Nat,m < 10→[(Nat.digitChar m).toNat]=[48+m]:=by decide
 exact this m h
theorem x5n {m:Nat} (h:10≤m):q8l m=q8l (m / 10)++[48+m % 10]:=by
 unfold q8l
 rw [Nat.toDigits_of_base_le (by decide) h,List.map_append]
 have:∀ m:Nat,m < 10→[(Nat.digitChar m).toNat]=[48+m]:=by decide
 rw [← this (m % 10) (Nat.mod_lt _ (by decide))]
 rfl
theorem x5f (n:Int):(q1d n).length=(z5v n).length:=by
 unfold z5v
 rw [Array.length_toList]
 rfl
theorem q4a {a b:Str} (h:a.cps.toList=b.cps.toList):a=b:=by
 obtain⟨⟨x⟩⟩:=a
 obtain⟨⟨y⟩⟩:=b
 cases (show x=y from h)
 rfl
theorem x3h (n:Int):∀ c∈z5v n,c=45∨(48≤c∧c≤57):=by
 intro c hc
 by_cases h:n < 0
 ·rw [q4z h] at hc
  rcases List.mem_cons.mp hc with rfl | hc
  ·exact .inl rfl
  ·exact .inr (q3e _ c hc)
 ·obtain⟨m,rfl⟩:=Int.eq_ofNat_of_zero_le (show 0≤n by omega)
  rw [q6g] at hc
  exact .inr (q3e _ c hc)
theorem q6y {n:Int} (h:n.natAbs < 10 ^ 600):intText? (q1d n)=some n:=by
 have hl:(q8l n.natAbs).length≤600:=(q7m _ (by decide)).mpr h
 by_cases hn:n < 0
 ·have e:=q4z hn
  have hx:(q1d n).length≤4300:=by rw [x5f,e,List.length_cons]; omega
  have:=intText_neg (x:=q1d n) e (q3e _) (x4r _) hx
  rw [this]
  have v:=PySem.W.KIN.val_back n.natAbs
  show some (-((digitsVal (q8l n.natAbs):Nat):Int))=_
  unfold q8l
  rw [v]
  congr 1
  omega
 ·obtain⟨m,rfl⟩:=Int.eq_ofNat_of_zero_le (show 0≤n by omega)
  have e:=q6g m
  have hx:(q1d (m:Int)).length≤4300:=by rw [x5f,e]; simp at hl; omega
  have e':(q1d (m:Int)).cps.toList=q8l m:=e
  have:=intText_digits (x:=q1d (m:Int)) (by rw [e']; exact q3e m) (by rw [e']; exact x4r m) hx
  rw [this,e']
  have v:=PySem.W.KIN.val_back m
  unfold q8l
  rw [v]
theorem q7l {n:Int} {k:Nat} (hk:0 < k) (h:n.natAbs < 10 ^ k):(q1d n).length≤k+1:=by
 have hl:(q8l n.natAbs).length≤k:=(q7m _ hk).mpr h
 rw [x5f]
 by_cases hn:n < 0
 ·rw [q4z hn,List.length_cons]; omega
 ·obtain⟨m,rfl⟩:=Int.eq_ofNat_of_zero_le (show 0≤n by omega)
  rw [q6g]
  have:((m:Int)).natAbs=m:=by simp
  rw [this] at hl
  omega
end Kp
namespace Kp
open PySem PySem.Spec PyProof.Rows
noncomputable def x6b (c:Nat):List (List Nat)→List Nat
 | []=>[]
 | [x]=>x
 | x::y::r=>x++c::x6b c (y::r)
theorem x4i {c:Nat}:∀ {x y r s:List Nat},c∉x→c∉y→x++c::r=y++c::s→x=y∧r=s
 | [],[],r,s,_,_,h=>⟨rfl,(List.cons.inj h).2⟩
 | [],b::y,r,s,_,hy,h=>absurd ((List.cons.inj h).1) (fun e=>hy (e▸List.mem_cons_self))
 | a::x,[],r,s,hx,_,h=>absurd ((List.cons.inj h).1) (fun e=>hx (e▸List.mem_cons_self))
 | a::x,b::y,r,s,hx,hy,h=>by
  obtain⟨e,h⟩:=List.cons.inj h
  obtain⟨e1,e2⟩:=x4i (fun z=>hx (List.mem_cons_of_mem _ z)) (fun z=>hy (List.mem_cons_of_mem _ z)) h
  exact⟨by rw [e,e1],e2⟩
theorem x6x {c:Nat}:∀ (ws us:List (List Nat)),ws≠[]→us≠[]→(∀ x∈ws,c∉x)→(∀ x∈us,c∉x)→x6b c ws=x6b c us→ws=us
 | [],_,h,_,_,_,_=>absurd rfl h
 | _,[],_,h,_,_,_=>absurd rfl h
 | [x],[y],_,_,_,_,h=>by
  have:x=y:=h
  rw [this]
 | [x],y::z::r,_,_,hx,_,h=>by
  have e:x=y++c::x6b c (z::r):=h
  exact absurd (show c∈x by rw [e]; simp) (hx x (by simp))
 | x::z::r,[y],_,_,_,hy,h=>by
  have e:x++c::x6b c (z::r)=y:=h
  exact absurd (show c∈y by rw [← e]; simp) (hy y (by simp))
 | x::z::r,y::u::s,_,_,hx,hy,h=>by
  obtain⟨e1,e2⟩:=x4i (hx x (by simp)) (hy y (by simp)) (show x++c::x6b c (z::r)=y++c::x6b c (u::s) from h)
  have:=x6x (z::r) (u::s) (by simp) (by simp) (fun p hp=>hx p (List.mem_cons_of_mem _ hp)) (fun p hp=>hy p (List.mem_cons_of_mem _ hp)) e2
  rw [e1,this]
noncomputable def cL (x:Str):List Nat:=x.cps.toList
theorem q6t (a b:Str):cL (a++b)=cL a++cL b:=by unfold cL; rw [show (a++b).cps=a.cps++b.cps from rfl,Array.toList_append]
theorem x7v (c:Nat):∀ ws:List Str,cL (Str.join ⟨#[c]⟩ ws)=x6b c (ws.map cL)
 | []=>rfl
 | [x]=>rfl
 | x::y::r=>by
  have ih:=x7v c (y::r)
  have e:Str.join ⟨#[c]⟩ (x::y::r)=x++⟨#[c]⟩++Str.join ⟨#[c]⟩ (y::r):=rfl
  rw [e,q6t,q6t,ih,List.append_assoc]
  rfl
theorem x2x:∀ {ws us:List Str},ws.map cL=us.map cL→ws=us
 | [],[],_=>rfl
 | [],_::_,h=>by cases h
 | _::_,[],h=>by cases h
 | x::ws,y::us,h=>by
  obtain⟨e,h⟩:=List.cons.inj h
  rw [q4a e,x2x h]
theorem x0v (x:Str) (c:Nat):Txt.split x ⟨#[c]⟩≠[]:=by
 intro e
 have h:=StrLaws.join_split x ⟨#[c]⟩
 rw [e] at h
 have hx:x=Str.empty:=h.symm
 subst hx
 have q:Txt.split Str.empty ⟨#[c]⟩=[Str.empty]:=if_pos (by rfl)
 rw [q] at e
 cases e
theorem x3d {c:Nat} {ws:List Str} (hne:ws≠[]) (hf:∀ x∈ws,c∉cL x):Txt.split (Str.join ⟨#[c]⟩ ws) ⟨#[c]⟩=ws:=by
 have h1:=congrArg cL (StrLaws.join_split (Str.join ⟨#[c]⟩ ws) ⟨#[c]⟩)
 rw [x7v,x7v] at h1
 refine x2x (x6x _ _ (fun e=>x0v _ _ (List.map_eq_nil_iff.mp e)) (fun e=>hne (List.map_eq_nil_iff.mp e)) ?_ ?_ h1)
 ·intro x hx
  obtain⟨p,hp,rfl⟩:=List.mem_map.mp hx
  exact StrLaws.split_free _ c p hp
 ·intro x hx
  obtain⟨p,hp,rfl⟩:=List.mem_map.mp hx
  exact hf p hp
end Kp
namespace Kp
open PySem L2 PySem.Spec PyProof.Rows PySem.NumText
theorem j3a (p:Nat→Bool):∀ l:List Nat,(l.takeWhile p).length+(l.dropWhile p).length=l.length
 | []=>rfl
 | a::r=>by
  rw [List.takeWhile_cons,List.dropWhile_cons]
  split
  ·have:=j3a p r
   simp only [List.length_cons]
   omega
  ·simp
theorem z1b (x:Str):(Txt.lstripChars x "-").length=((cL x).dropWhile (· == 45)).length:=by
 unfold Txt.lstripChars
 rw [stripBy_eq]
 have e:("-" : Str).cps=#[45]:=by decide +kernel
 rw [e]
 have e2:(#[45]:Array Nat).contains=fun c=>c==45:=by
  funext c
  rw [Bool.eq_iff_iff]
  simp
 rw [e2]
 have h:=j3a (fun c=>c==45) (cL x)
 show (Builtin.Str.strSub x ((cL x).takeWhile fun c=>c==45).length x.length).length=_
 have h2:=congrArg List.length (StrLaws.strSub_toList x ((cL x).takeWhile fun c=>c==45).length x.length)
 rw [Array.length_toList,List.length_take,List.length_drop] at h2
 have h3:(cL x).length=x.length:=Array.length_toList
 have h4:x.cps.toList.length=x.length:=h3
 show (Builtin.Str.strSub x _ x.length).cps.size=_
 rw [h2,h4]
 omega
theorem z0m (n:Int):(Txt.lstripChars (q1d n) "-").length=(q8l n.natAbs).length:=by
 rw [z1b]
 have hd:∀ m,(q8l m).dropWhile (· == 45)=q8l m:=by
  intro m
  have h:=q3e m
  cases e:q8l m with
  | nil=>rfl
  | cons c r =>
   rw [e] at h
   have hc:=h c List.mem_cons_self
   have:(c==45)=false:=by rw [beq_eq_false_iff_ne]; omega
   rw [List.dropWhile_cons,this]
   rfl
 show ((z5v n).dropWhile (· == 45)).length=_
 by_cases hn:n < 0
 ·rw [q4z hn,List.dropWhile_cons]
  show ((q8l n.natAbs).dropWhile (· == 45)).length=_
  rw [hd]
 ·obtain⟨m,rfl⟩:=Int.eq_ofNat_of_zero_le (show 0≤n by omega)
  rw [q6g,hd]
  simp
theorem x5g (n:Int):(Txt.lstripChars (q1d n) "-").length < 61↔n.natAbs < 10 ^ 60:=by
 rw [z0m,← q7m _ (by decide:0 < 60)]
 omega
theorem z3n (x:Str):(Txt.lstripChars x "-").length≤x.length:=len_lstripChars x "-"
section
variable {X:Cx}
end
end Kp
namespace Kp
open PySem L2 PySem.Spec PyProof.Rows PySem.NumText
noncomputable def q8o:D→List Str
 | .int i=>[q1d i]
 | _=>[]
noncomputable def x5z:D→List Str
 | .str x=>[x]
 | _=>[]
noncomputable def q0u:List (D→List Str)→List D→List Str
 | f::fs,d::ds=>f d++q0u fs ds
 | _,_=>[]
noncomputable def byW (tb:List (Str × List (D→List Str))):D→List Str
 | .tup (.str x::ds)=>x::q0u ((tb.lookup x).getD []) ds
 | _=>[]
noncomputable def x2l:List (Str × List (D→List Str)):=[("set",[x5z,q8o]),("add",[x5z,q8o]),("get",[x5z])]
noncomputable def q9b:D→List Str:=byW x2l
mutual
noncomputable def q2j (k:Nat):D→Bool
 | .int i=>decide (i.natAbs < 10 ^ k)
 | .tup ds=>smallL k ds
 | .lst ds=>smallL k ds
 | _=>true
noncomputable def smallL (k:Nat):List D→Bool
 | []=>true
 | d::ds=>q2j k d && smallL k ds
end
mutual
noncomputable def x6c (B:Nat):D→Bool
 | .tup ds=>decide (ds.length≤B) && widL B ds
 | .lst ds=>decide (ds.length≤B) && widL B ds
 | _=>true
noncomputable def widL (B:Nat):List D→Bool
 | []=>true
 | d::ds=>x6c B d && widL B ds
end
mutual
theorem Is.wid {B:Nat} {H:Hp}:∀ {v:V} {d:D},Is B H v d→x6c B d=true
 | _,_,.non=>rfl
 | _,_,.bl _=>rfl
 | _,_,.int _=>rfl
 | _,_,.str _ _=>rfl
 | _,_,.tup e l r=>by rw [x6c,r.wid,decide_eq_true (r.length▸l)]; rfl
 | _,_,.lst e l r=>by rw [x6c,r.wid,decide_eq_true (r.length▸l)]; rfl
theorem IsL.wid {B:Nat} {H:Hp}:∀ {vs:List V} {ds:List D},IsL B H vs ds→widL B ds=true
 | _,_,.nil=>rfl
 | _,_,.cons h t=>by rw [widL,h.wid,t.wid]; rfl
end
theorem q1j {k:Nat}:∀ {ds:List D},smallL k ds=true↔∀ d∈ds,q2j k d=true
 | []=>by simp [smallL]
 | d::ds=>by rw [smallL,Bool.and_eq_true,q1j]; simp
theorem q3c {k:Nat}:∀ {ds:List D},widL k ds=true↔∀ d∈ds,x6c k d=true
 | []=>by simp [widL]
 | d::ds=>by rw [widL,Bool.and_eq_true,q3c]; simp
noncomputable def x6m (w:Str):Prop:=(Txt.lstripChars w "-").length < 61
structure POk (n:Nat) (ds:List D) (ws:List Str):Prop where
 free:∀ w∈ws,32∉cL w
 fit:(∀ w∈ws,x6m w)↔smallL 60 ds=true
 len:∀ k,60≤k→smallL k ds=true→∀ w∈ws,w.length≤k+1
 few:ws.length≤n
noncomputable def WOk (B n:Nat) (p:D→Bool) (f:D→List Str):Prop:=∀ d,p d=true→x6c B d=true→POk n [d] (f d)
theorem POk.nil:POk 0 [] []:=⟨fun _ h=>absurd h List.not_mem_nil,⟨fun _=>rfl,fun _ _ h=>absurd h List.not_mem_nil⟩,fun _ _ _ _ h=>absurd h List.not_mem_nil,Nat.le_refl _⟩
theorem x3e {k:Nat} {a b:List D}:smallL k (a++b)=true↔smallL k a=true∧smallL k b=true:=by
 rw [q1j,q1j,q1j]
 simp only [List.mem_append,or_imp,forall_and]
theorem POk.app {n m:Nat} {a b:List D} {u w:List Str} (h:POk n a u) (g:POk m b w):POk (n+m) (a++b) (u++w) where
 free:=fun x hx=>(List.mem_append.mp hx).elim (h.free x) (g.free x)
 fit:=by
  rw [x3e,← h.fit,← g.fit]
  simp only [List.mem_append,or_imp,forall_and]
 len:=fun k hk hs x hx=>by
  obtain⟨h1,h2⟩:=x3e.mp hs
  exact (List.mem_append.mp hx).elim (h.len k hk h1 x) (g.len k hk h2 x)
 few:=by
  have:=h.few
  have:=g.few
  rw [List.length_append]
  omega
theorem POk.up {n m:Nat} {a:List D} {u:List Str} (h:POk n a u) (hm:n≤m):POk m a u:=⟨h.free,h.fit,h.len,Nat.le_trans h.few hm⟩
theorem POk.tup {n:Nat} {ds:List D} {u:List Str} (h:POk n ds u):POk n [.tup ds] u :=
 ⟨h.free,by rw [smallL,smallL,Bool.and_true,q2j]; exact h.fit,fun k hk hs=>h.len k hk (by rw [smallL,smallL,Bool.and_true,q2j] at hs; exact hs),h.few⟩
theorem WOk.sub {B n:Nat} {p q:D→Bool} {f:D→List Str} (h:WOk B n p f) (hq:∀ d,q d=true→p d=true):WOk B n q f:=fun d a b=>h d (hq d a) b
theorem z8f (n:Int):32∉cL (q1d n):=fun h=>by
 rcases x3h n 32 h with h | h
 ·cases h
 ·omega
theorem q5s:∀ {d:D},whole d=true→∃ i,d=.int i
 | .int i,_=>⟨i,rfl⟩
theorem z4c {l:Int}:∀ {d:D},geD l d=true→whole d=true
 | .int i,_=>rfl
theorem q7d:∀ {d:D},q2f d=true→whole d=true
 | .int i,_=>rfl
theorem z3g (i:Int):POk 1 [.int i] [q1d i] where
 free:=fun w hw=>by
  cases List.mem_singleton.mp hw
  exact z8f i
 fit:=by
  rw [smallL,smallL,Bool.and_true]
  show (∀ w∈[q1d i],x6m w)↔decide (i.natAbs < 10 ^ 60)=true
  rw [decide_eq_true_eq,← x5g]
  simp [x6m]
 len:=fun k hk hs w hw=>by
  cases List.mem_singleton.mp hw
  rw [smallL,smallL,Bool.and_true] at hs
  exact q7l (by omega) (of_decide_eq_true hs)
 few:=Nat.le_refl _
theorem x0g {B:Nat}:WOk B 1 whole q8o:=fun d h _=>by
 obtain⟨i,rfl⟩:=q5s h
 exact z3g i
end Kp
namespace Kp
open PySem L2 PySem.Spec PyProof.Rows PySem.NumText
noncomputable def x8c (x:Str):Bool:=x.cps.toList.all q4i && decide (x.length≤8)
theorem z6v {x:Str} (h:x8c x=true):32∉cL x:=fun hm=>by
 unfold x8c at h
 rw [Bool.and_eq_true,List.all_eq_true] at h
 have:=h.1 32 hm
 revert this
 decide
theorem z3q {x:Str} (h:x8c x=true):x6m x:=by
 unfold x8c at h
 rw [Bool.and_eq_true,decide_eq_true_eq] at h
 have:=z3n x
 unfold x6m
 omega
theorem q5h {x:Str} (h:x8c x=true):x.length≤8:=by
 unfold x8c at h
 rw [Bool.and_eq_true,decide_eq_true_eq] at h
 exact h.2
theorem q3q:∀ {d:D},q1w d=true→∃ x,d=.str x∧x8c x=true
 | .str x,h=>by
  refine⟨x,rfl,?_⟩
  unfold q1w at h
  dsimp only at h
  rw [Bool.and_eq_true,Bool.and_eq_true] at h
  unfold x8c
  rw [h.2,h.1.2]
  rfl
theorem x3z {x:Str} (d:D) (hx:x8c x=true) (hd:∀ k,q2j k d=true):POk 1 [d] [x] where
 free:=fun w hw=>by
  cases List.mem_singleton.mp hw
  exact z6v hx
 fit:=by
  have:=z3q hx
  rw [smallL,smallL,Bool.and_true,hd]
  simp [this]
 len:=fun k hk hs w hw=>by
  cases List.mem_singleton.mp hw
  have:=q5h hx
  omega
 few:=Nat.le_refl _
theorem x3v {B:Nat}:WOk B 1 q1w x5z:=fun d h _=>by
 obtain⟨x,rfl,hx⟩:=q3q h
 exact x3z _ hx fun _=>rfl
inductive WOkL (B:Nat):Nat→List (D→Bool)→List (D→List Str)→Prop
 | nil:WOkL B 0 [] []
 | cons {n m:Nat} {p:D→Bool} {f:D→List Str} {ps:List (D→Bool)} {fs:List (D→List Str)} (h:WOk B n p f) (t:WOkL B m ps fs):WOkL B (n+m) (p::ps) (f::fs)
theorem WOkL.p {B:Nat}:∀ {n:Nat} {ps:List (D→Bool)} {fs:List (D→List Str)} {ds:List D},WOkL B n ps fs→q0w ps ds=true→widL B ds=true→POk n ds (q0u fs ds)
 | _,_,_,[],.nil,_,_=>.nil
 | _,_,_,_::_,.nil,h,_=>by cases h
 | _,_,_,[],.cons _ _,h,_=>by cases h
 | _,_,_,d::ds,.cons h t,hf,hw=>by
  rw [q0w,Bool.and_eq_true] at hf
  rw [widL,Bool.and_eq_true] at hw
  exact (h d hf.1 hw.1).app (t.p hf.2 hw.2)
theorem x6g {ps:List (D→Bool)}:∀ {d:D},z4x ps d=true→∃ ds,d=.tup ds∧q0w ps ds=true
 | .tup ds,h=>⟨ds,rfl,h⟩
theorem x4u {B:Nat} {ds:List D} (h:x6c B (.tup ds)=true):ds.length≤B∧widL B ds=true:=by
 rw [x6c,Bool.and_eq_true,decide_eq_true_eq] at h
 exact h
theorem x9z {B n:Nat} {p:D→Bool} {f:D→List Str} (h:WOk B n p f):∀ {ds:List D},ds.all p=true→widL B ds=true→POk (ds.length*n) ds (ds.flatMap f)
 | [],_,_=>by rw [List.length_nil,Nat.zero_mul]; exact .nil
 | d::ds,ha,hw=>by
  rw [List.all_cons,Bool.and_eq_true] at ha
  rw [widL,Bool.and_eq_true] at hw
  have:=(h d ha.1 hw.1).app (x9z h ha.2 hw.2)
  rw [List.flatMap_cons]
  exact this.up (by rw [List.length_cons,Nat.succ_mul]; omega)
inductive TOk (B n:Nat):List (Str × List (D→Bool))→List (Str × List (D→List Str))→Prop
 | nil:TOk B n [] []
 | cons {x:Str} {m:Nat} {ps:List (D→Bool)} {fs:List (D→List Str)} {t:List (Str × List (D→Bool))} {u:List (Str × List (D→List Str))} (hx:x8c x=true) (hm:m≤n) (h:WOkL B m ps fs) (r:TOk B n t u):TOk B n ((x,ps)::t) ((x,fs)::u)
theorem TOk.at {B n:Nat} {x:Str}:∀ {t:List (Str × List (D→Bool))} {u:List (Str × List (D→List Str))} {ps:List (D→Bool)},TOk B n t u→t.lookup x=some ps→∃ m fs,u.lookup x=some fs∧m≤n∧WOkL B m ps fs∧x8c x=true
 | _,_,_,.nil,e=>by cases e
 | _,_,ps',.cons (x:=y) hx hm h r,e=>by
  rw [List.lookup_cons] at e
  by_cases hy:x=y
  ·subst hy
   rw [show (x==x)=true from by simp] at e
   cases e
   exact⟨_,_,by rw [List.lookup_cons,show (x==x)=true from by simp],hm,h,hx⟩
  ·have hb:(x==y)=false:=by rw [beq_eq_false_iff_ne]; exact hy
   rw [hb] at e
   obtain⟨m,fs,a,b⟩:=r.at e
   exact⟨m,fs,by rw [List.lookup_cons,hb]; exact a,b⟩
theorem q5z {tb:List (Str × List (D→Bool))} {d:D} (h:q9j tb d=true):∃ x r ps,d=.tup (.str x::r)∧tb.lookup x=some ps∧q0w ps r=true:=by
 unfold q9j at h
 split at h
 ·rename_i x r
  split at h
  ·rename_i ps e
   exact⟨x,r,ps,rfl,e,h⟩
  ·cases h
 ·cases h
theorem j3t {B n:Nat} {t:List (Str × List (D→Bool))} {u:List (Str × List (D→List Str))} (T:TOk B n t u):WOk B (1+n) (q9j t) (byW u):=fun d hd hw=>by
 obtain⟨x,r,ps,rfl,e,hf⟩:=q5z hd
 obtain⟨m,fs,e2,hm,h,hx⟩:=T.at e
 have hw':=(x4u hw).2
 rw [widL,Bool.and_eq_true] at hw'
 have h1:=h.p hf hw'.2
 have h2:=(x3z (.str x) hx fun _=>rfl).app h1
 have h3:POk (1+m) [.tup (.str x::r)] (byW u (.tup (.str x::r))):=by
  have:byW u (.tup (.str x::r))=[x]++q0u fs r:=by
   show x::q0u ((u.lookup x).getD []) r=_
   rw [e2]; rfl
  rw [this]
  exact h2.tup
 exact h3.up (by omega)
theorem z6g {B:Nat}:WOk B 3 q9h q9b:=j3t (n:=2) (.cons (by decide +kernel) (by decide) (.cons x3v (.cons x0g .nil)) (.cons (by decide +kernel) (by decide) (.cons x3v (.cons x0g .nil)) (.cons (by decide +kernel) (by decide) (.cons x3v .nil) .nil)))
end Kp
namespace Kp
open PySem L2 PySem.Spec PyProof.Rows PySem.NumText
theorem k1 {B:Nat}:WOk B 1 q2f q8o:=x0g.sub fun _=>q7d
theorem g1 {B:Nat} {l:Int}:WOk B 1 (geD l) q8o:=x0g.sub fun _=>z4c
end Kp
namespace K1
open PySem L2 Kp
theorem q4p {α:Type} {xs:List α} {i:Int} (h0:0≤i) (h1:i < xs.length):∃ v,atI xs i=some v∧v∈xs:=by
 obtain⟨j,rfl⟩:=Int.eq_ofNat_of_zero_le h0
 have hj:j < xs.length:=by omega
 exact⟨xs[j],q0k (by simp [hj]),List.getElem_mem hj⟩
theorem q2a (x:Int) {m:Int} (h:0 < m):0≤x % m∧x % m < m:=⟨Int.emod_nonneg _ (Int.ne_of_gt h),Int.emod_lt_of_pos _ h⟩
theorem z9g (x y:Str):(x++y).length=x.length+y.length:=by
 show (x.cps++y.cps).size=_
 rw [Array.size_append]
 rfl
theorem z3a:∀ c∈("abcdefghijklmnopqrstuvwxyz" : Str).cps.toList,q4i c=true:=by decide +kernel
theorem j0o (x y:Str):(x++y).cps.toList.all q4i=(x.cps.toList.all q4i && y.cps.toList.all q4i):=by
 show (x.cps++y.cps).toList.all q4i=_
 rw [Array.toList_append,List.all_append]
theorem z4r {x:Str} (h1:1≤x.length) (h8:x.length≤8) (hl:x.cps.toList.all q4i=true):q1w (.str x)=true:=by
 show ((decide (1≤x.length) && decide (x.length≤8)) && x.cps.toList.all q4i)=true
 rw [decide_eq_true h1,decide_eq_true h8,hl]
 rfl
end K1
namespace Kz
open PySem L2 Kp K1
noncomputable def S6 (i:Int):Prop:=i.natAbs < 10 ^ 60
theorem S6.low {i:Int} (h0 : -100000 < i) (h1:i < 100000):S6 i:=Nat.lt_of_lt_of_le (show i.natAbs < 100000 by omega) (by decide)
noncomputable def G6 (d:D):Prop:=q2j 60 d=true∧x6n d=true
noncomputable def GL6 (ds:List D):Prop:=smallL 60 ds=true∧noLL ds=true
theorem G6.int {i:Int} (h:S6 i):G6 (.int i):=⟨decide_eq_true h,rfl⟩
theorem G6.str (x:Str):G6 (.str x):=⟨rfl,rfl⟩
theorem G6.tup {ds:List D} (h:GL6 ds):G6 (.tup ds):=h
theorem GL6.nil:GL6 []:=⟨rfl,rfl⟩
theorem GL6.cons {d:D} {ds:List D} (h:G6 d) (t:GL6 ds):GL6 (d::ds):=⟨by rw [smallL,h.1,t.1]; rfl,by rw [noLL,h.2,t.2]; rfl⟩
theorem GL6.ints:∀ {ns:List Int},(∀ n∈ns,S6 n)→GL6 (ns.map D.int)
 | [],_=>.nil
 | _::_,h=>.cons (.int (h _ List.mem_cons_self)) (GL6.ints fun n hn=>h n (List.mem_cons_of_mem _ hn))
noncomputable def ThP (pr:D→Bool) (H:Hp) (v:V):Prop:=∃ d,Is 200 H v d∧pr d=true∧G6 d
theorem ThP.sameT {pr:D→Bool} {H H':Hp} {v:V} (h:ThP pr H v) (s:x0r H H'):ThP pr H' v:=by
 obtain⟨d,I,p,g⟩:=h
 exact⟨d,I.sameT s g.2,p,g⟩
theorem ThP.same {pr:D→Bool} {H H':Hp} {v:V} (h:ThP pr H v) (s:q1h H H'):ThP pr H' v:=h.sameT (z6t s)
theorem ThP.tup {pr:D→Bool} {H:Hp} {a:Addr} {vs:List V} {ds:List D} (e:H a=some (.tup vs)) (l:vs.length≤200) (r:IsL 200 H vs ds) (p:pr (.tup ds)=true) (g:GL6 ds):ThP pr H (.ref a):=⟨_,.tup e l r,p,g⟩
theorem q6k {H:Hp}:∀ {ns:List Int},IsL 200 H (ns.map V.int) (ns.map D.int)
 | []=>.nil
 | _::_=>.cons (.int _) q6k
theorem z3v {pr:D→Bool} {H:Hp}:∀ {vs:List V},(∀ u∈vs,ThP pr H u)→∃ ds,IsL 200 H vs ds∧ds.all pr=true∧GL6 ds
 | [],_=>⟨[],.nil,rfl,.nil⟩
 | v::vs,h=>by
  obtain⟨d,I,p,g⟩:=h v List.mem_cons_self
  obtain⟨ds,r,ps,gs⟩:=z3v fun u hu=>h u (List.mem_cons_of_mem _ hu)
  exact⟨d::ds,.cons I r,by rw [List.all_cons,p,ps]; rfl,.cons g gs⟩
theorem x8z:∀ {ns:List Int},ns.Pairwise (· < ·)→q7a ns=true
 | [],_=>rfl
 | [_],_=>rfl
 | a::b::r,h=>by
  rw [q7a,x8z (List.pairwise_cons.mp h).2,decide_eq_true ((List.pairwise_cons.mp h).1 b List.mem_cons_self)]
  rfl
theorem q2t:∀ ns:List Int,q1z (ns.map D.int)=ns
 | []=>rfl
 | n::ns=>by
  show n::q1z (ns.map D.int)=_
  rw [q2t ns]
theorem x4j {ns:List Int} (h1:1≤ns.length) (h9:ns.length≤9) (hk:∀ n∈ns,0≤n∧n≤8) (hr:ns.Pairwise (· < ·)):q2u (.tup (ns.map D.int))=true:=by
 show ((ns.map D.int).all q2f && ((decide (1≤(ns.map D.int).length) && decide ((ns.map D.int).length≤9)) && q7a (q1z (ns.map D.int))))=true
 rw [q2t,x8z hr,List.length_map,decide_eq_true h1,decide_eq_true h9]
 have:(ns.map D.int).all q2f=true:=List.all_eq_true.mpr fun d hd=>by
  obtain⟨n,hn,rfl⟩:=List.mem_map.mp hd
  show (decide (0≤n) && decide (n≤8))=true
  rw [decide_eq_true (hk n hn).1,decide_eq_true (hk n hn).2]
  rfl
 rw [this]
 rfl
end Kz
namespace Kp
open PySem L2 PySem.Spec PyProof.Rows PySem.NumText
noncomputable def J (ws:List Str):Str:=Str.join " " ws
theorem x5j:(" " : Str)=⟨#[32]⟩:=by decide +kernel
theorem j5k (x:Str):J [x]=x:=rfl
theorem j1b (x y:Str) (r:List Str):J (x::y::r)=x ++ " " ++ J (y::r):=rfl
theorem q9i (a b c:Str):a++b++c=a++(b++c):=by
 refine q4a ?_
 show cL (a++b++c)=cL (a++(b++c))
 rw [q6t,q6t,q6t,q6t,List.append_assoc]
theorem q0v (a b:Str):(a++b).length=a.length+b.length:=by
 show (a++b).cps.size=a.cps.size+b.cps.size
 rw [show (a++b).cps=a.cps++b.cps from rfl,Array.size_append]
theorem z3t {L:Nat}:∀ {ws:List Str},(∀ w∈ws,w.length≤L)→(J ws).length≤ws.length*(L+1)
 | [],_=>Nat.zero_le _
 | [x],h=>by
  have:=h x (by simp)
  rw [j5k,List.length_singleton]
  omega
 | x::y::r,h=>by
  have h1:=h x (by simp)
  have ih:=z3t (ws:=y::r) fun w hw=>h w (List.mem_cons_of_mem _ hw)
  rw [j1b,q0v,q0v]
  have e:(" " : Str).length=1:=rfl
  simp only [List.length_cons,Nat.add_mul,Nat.succ_mul] at ih ⊢
  omega
theorem POk.split {n:Nat} {ds:List D} {ws:List Str} (h:POk n ds ws) (hne:ws≠[]):Txt.split (J ws) " " = ws:=by
 unfold J
 rw [x5j]
 exact x3d hne h.free
end Kp
namespace Kp
open PySem L2
noncomputable def x9c:D→Bool
 | .int i=>decide (0≤i) && decide (i < 1000000)
 | _=>false
noncomputable def q2h (k:Str):D→Bool:=if k = "keeper" then q2f else if k = "name" then q1w else if k = "deed" then q9h else if k = "seats" then q2u else x9c
noncomputable def q2n:List (Str × List Str):=[("stand",["keeper"]),("beat",["keeper", "keeper"]),("bring",["place"]),("double",["place"]),("lose",["place"]),("wish",["name", "deed"]),("again",["name"]),("turn",["name", "keeper"]),("move",["keeper", "seats"]),("pack",["keeper", "place"]),("wake",["keeper"])]
noncomputable def q3f:D→Bool
 | .tup (.str x::ds)=>match q2n.lookup x with
  | some ks=>q0w (ks.map q2h) ds
  | none=>false
 | _=>false
noncomputable def q7z:D→Bool
 | .int i=>decide (1≤i) && decide (i≤9)
 | _=>false
noncomputable def q8b (d:D):Bool:=j6i q3f d && decide (j6u d≤300)
noncomputable def j2d:D→Bool
 | .tup (.int c::.tup ss::_)=>(q1z ss).all fun i=>decide (i < c)
 | _=>false
noncomputable def q5a (d:D):Bool:=z4x [q7z,q2u,q8b] d && j2d d
theorem x2y {d:D} (h:q2n.lookup (q9y d)=none):q3f d=false:=by
 unfold q3f
 split
 ·rename_i x r
  have h':q2n.lookup x=none:=h
  rw [h']
 ·rfl
theorem z5w:q2n.lookup ("" : Str)=none:=by decide +kernel
theorem x3m {d:D} {ks:List Str} (h:q2n.lookup (q9y d)=some ks):∃ x r,d=.tup (.str x::r)∧q2n.lookup x=some ks∧q3f d=q0w (ks.map q2h) r:=by
 obtain⟨r,e⟩:=x8t (d:=d) rfl (fun z=>by rw [z,z5w] at h; cases h)
 generalize q9y d=x at e h
 subst e
 refine⟨_,r,rfl,h,?_⟩
 show (match q2n.lookup x with | some ks=>q0w (ks.map q2h) r | none=>false)=_
 rw [h]
theorem q5x {d:D} (h:q3f d=true):∃ x r ks,d=.tup (.str x::r)∧q2n.lookup x=some ks∧q0w (ks.map q2h) r=true:=by
 cases e:q2n.lookup (q9y d) with
 | none=>rw [x2y e] at h; cases h
 | some ks =>
  obtain⟨x,r,rfl,e1,e2⟩:=x3m e
  rw [e2] at h
  exact⟨x,r,ks,rfl,e1,h⟩
theorem q5v {x:Str} {ks:List Str} (h:q2n.lookup x=some ks):ks.length≤2∧1≤ks.length:=by
 have hm:=L2.q1v h
 simp only [q2n,List.mem_cons,Prod.mk.injEq,List.not_mem_nil,or_false] at hm
 rcases hm with ⟨_,rfl⟩ | ⟨_,rfl⟩ | ⟨_,rfl⟩ | ⟨_,rfl⟩ | ⟨_,rfl⟩ | ⟨_,rfl⟩ | ⟨_,rfl⟩ | ⟨_,rfl⟩ | ⟨_,rfl⟩ | ⟨_,rfl⟩ | ⟨_,rfl⟩ <;> decide
theorem q3g:q2h "keeper" = q2f:=if_pos rfl
theorem q2d:q2h "name" = q1w:=by unfold q2h; rw [if_neg (by decide +kernel),if_pos rfl]
theorem q4k:q2h "deed" = q9h:=by unfold q2h; rw [if_neg (by decide +kernel),if_neg (by decide +kernel),if_pos rfl]
theorem q4y:q2h "seats" = q2u:=by unfold q2h; rw [if_neg (by decide +kernel),if_neg (by decide +kernel),if_neg (by decide +kernel),if_pos rfl]
theorem q4o:q2h "place" = x9c:=by unfold q2h; rw [if_neg (by decide +kernel),if_neg (by decide +kernel),if_neg (by decide +kernel),if_neg (by decide +kernel)]
noncomputable def q7y:D→List Str
 | .tup ds=>ds.flatMap q8o
 | _=>[]
noncomputable def q1k (k:Str):D→List Str:=if k = "name" then x5z else if k = "deed" then q9b else if k = "seats" then q7y else q8o
noncomputable def q6r (k:Str):D→Bool:=if k = "name" then q1w else if k = "deed" then q9h else if k = "seats" then q2u else whole
noncomputable def q3d:D→List Str
 | .tup (.str x::ds)=>x::q0u (((q2n.lookup x).getD []).map q1k) ds
 | _=>[]
theorem z0p {k:Str} (hk:k∈(["keeper", "name", "deed", "seats", "place"]:List Str)) {d:D} (h:q2h k d=true):q6r k d=true:=by
 simp only [List.mem_cons,List.not_mem_nil,or_false] at hk
 rcases hk with rfl | rfl | rfl | rfl | rfl
 ·rw [q3g] at h; exact q7d h
 ·rw [q2d] at h; exact h
 ·rw [q4k] at h; exact h
 ·rw [q4y] at h; exact h
 ·rw [q4o] at h
  cases d <;> first | rfl | cases h
theorem q8p {x:Str} {ks:List Str} (h:q2n.lookup x=some ks):∀ k∈ks,k∈(["keeper", "name", "deed", "seats", "place"]:List Str):=by
 have hm:=L2.q1v h
 simp only [q2n,List.mem_cons,Prod.mk.injEq,List.not_mem_nil,or_false] at hm
 intro k hk
 rcases hm with ⟨_,rfl⟩ | ⟨_,rfl⟩ | ⟨_,rfl⟩ | ⟨_,rfl⟩ | ⟨_,rfl⟩ | ⟨_,rfl⟩ | ⟨_,rfl⟩ | ⟨_,rfl⟩ | ⟨_,rfl⟩ | ⟨_,rfl⟩ | ⟨_,rfl⟩ <;> simp only [List.mem_cons,List.not_mem_nil,or_false] at hk ⊢ <;> first | (rcases hk with rfl | rfl <;> simp) | (subst hk; simp)
theorem z2m {z:Str} (hz:z.length=1) {L n:Nat} {ws:List Str} (h:∀ x∈ws,x.length≤L) (hl:ws.length≤n) (hn:n*(L+1)≤16777216):JoinOk z ws=true:=by
 unfold JoinOk
 rw [StrLaws.joinFits (B:=L) h (by
  rw [hz,← Nat.mul_add]
  exact Nat.le_trans (Nat.mul_le_mul_right _ hl) hn)]
 rfl
theorem x3c {B:Nat}:WOk B 9 q2u q7y:=fun d hd hw=>by
 cases d with
 | tup ds =>
  have hd':(ds.all q2f && ((decide (1≤ds.length) && decide (ds.length≤9)) && q7a (q1z ds)))=true:=hd
  rw [Bool.and_eq_true,Bool.and_eq_true,Bool.and_eq_true,decide_eq_true_eq,decide_eq_true_eq] at hd'
  exact ((x9z (x0g.sub fun _=>q7d) hd'.1 (x4u hw).2).up (by omega)).tup
 | _=>cases hd
theorem z6z {B:Nat} (k:Str):WOk B 9 (q6r k) (q1k k):=fun d hd hw=>by
 unfold q6r at hd
 unfold q1k
 by_cases e1:k = "name"
 ·rw [if_pos e1] at hd ⊢; exact (x3v d hd hw).up (by decide)
 rw [if_neg e1] at hd ⊢
 by_cases e2:k = "deed"
 ·rw [if_pos e2] at hd ⊢; exact (z6g d hd hw).up (by decide)
 rw [if_neg e2] at hd ⊢
 by_cases e3:k = "seats"
 ·rw [if_pos e3] at hd ⊢; exact x3c d hd hw
 rw [if_neg e3] at hd ⊢
 exact (x0g d hd hw).up (by decide)
theorem x6d {B:Nat}:∀ ks:List Str,WOkL B (9*ks.length) (ks.map q6r) (ks.map q1k)
 | []=>.nil
 | k::ks=>by
  have:=WOkL.cons (z6z (B:=B) k) (x6d ks)
  rw [show 9+9*ks.length=9*(k::ks).length by rw [List.length_cons]; omega] at this
  exact this
theorem q8u:∀ {ks:List Str} {ds:List D},(∀ k∈ks,k∈(["keeper", "name", "deed", "seats", "place"]:List Str))→q0w (ks.map q2h) ds=true→q0w (ks.map q6r) ds=true
 | [],[],_,_=>rfl
 | [],_::_,_,h=>by cases h
 | _::_,[],_,h=>by cases h
 | k::ks,d::ds,hk,h=>by
  rw [List.map_cons,q0w,Bool.and_eq_true] at h ⊢
  exact⟨z0p (hk k List.mem_cons_self) h.1,q8u (fun k' h'=>hk k' (List.mem_cons_of_mem _ h')) h.2⟩
theorem q9f {x:Str} {ks:List Str} (h:q2n.lookup x=some ks):x8c x=true:=by
 have hm:=L2.q1v h
 simp only [q2n,List.mem_cons,Prod.mk.injEq,List.not_mem_nil,or_false] at hm
 rcases hm with ⟨rfl,_⟩ | ⟨rfl,_⟩ | ⟨rfl,_⟩ | ⟨rfl,_⟩ | ⟨rfl,_⟩ | ⟨rfl,_⟩ | ⟨rfl,_⟩ | ⟨rfl,_⟩ | ⟨rfl,_⟩ | ⟨rfl,_⟩ | ⟨rfl,_⟩ <;> decide +kernel
theorem x5c {B:Nat} {d:D} (h:q3f d=true) (hw:x6c B d=true):POk 19 [d] (q3d d):=by
 obtain⟨x,r,ks,rfl,e,hf⟩:=q5x h
 have hw':=(x4u hw).2
 rw [widL,Bool.and_eq_true] at hw'
 have h1:=(x6d (B:=B) ks).p (q8u (q8p e) hf) hw'.2
 have h2:=(x3z (.str x) (q9f e) fun _=>rfl).app h1
 have ew:q3d (.tup (.str x::r))=[x]++q0u (ks.map q1k) r:=by
  show x::q0u (((q2n.lookup x).getD []).map q1k) r=_
  rw [e]; rfl
 rw [ew]
 exact (h2.up (by have:=(q5v e).1; omega)).tup
section
variable {X:Cx} {S:St→Hp→Prop} {es l:List Expr} {n m:Nat} {p p':Pos} {j:Nat}
end
end Kp
namespace K1
open PySem L2 Kp Kz
section
variable {P:Program} {w:World} {K:Frag} {mg:Str→Option Value} {base:Heap}
noncomputable def x9d (K:Frag):Sp:=fun vs H Q _=>∃ (a:Addr) (ns:List Int) (k:Int),vs=[.ref a,.int k]∧SqL K H a (ns.map V.int)∧0≤k∧∀ z,Q (.int z) H
theorem scC:FnScope ["_law_script", "_law_k"] ["_law_script", "_law_k"] (q0e j1m):=fSc
theorem j1h {f:Addr} {fd:FuncData} (F:Fun K "_law_cell_at" "_law_cell_at" j1m f fd) (T:Txt mg):FnOk P w K mg base CX0 1 f fd ["_law_script", "_law_k"] (x9d K):=by
 refine F.ok scC (fun vs H Q E ⟨_,_,_,e,_⟩=>by subst e; rfl) (fun _ A _ s H vs Q E hr h=>?_)
 obtain⟨a,ns,k,rfl,hS,h0,q⟩:=h
 refine⟨_,@q0j _ _ _ _ _ (q1e (q0f x2p (pv 1) (q0n q0l (by rfl) T.len PySem.boot_len (q1c (pv 0) q0a)) (q0i _)) (@q0m _ _ _ (q0g (q1i q1b (pv 0) (pv 1) j9i))) q0h) (@q0m _ _ _ (q0g q0b)),?_⟩
 refine⟨_,rfl,_,rfl,a,_,rfl,.inl hS,_,_,rfl,rfl,_,rfl,z4f (fun h=>?_) (fun h=>q 0)⟩
 have hlt:=of_decide_eq_true h
 obtain⟨v,hv,hm⟩:=q4p (xs:=ns.map V.int) h0 hlt
 obtain⟨z,_,rfl⟩:=List.mem_map.mp hm
 exact⟨_,rfl,_,rfl,a,_,_,_,rfl,rfl,hS,hv,q z⟩
noncomputable def z4d:Sp:=fun vs H Q _=>∃ c k:Int,vs=[.int c,.int k]∧0≤k∧k≤1000000∧∀ m:Int,0≤m→m < 2147483647→Q (.int m) H
theorem j3h:FnScope ["_law_cell", "_law_k", "_law_drawn"] ["_law_cell", "_law_k"] (q0e z2k):=fSc
theorem j3b {f:Addr} {fd:FuncData} (F:Fun K "_law_mixed" "_law_mixed" z2k f fd):FnOk P w K mg base CX0 1 f fd ["_law_cell", "_law_k"] z4d:=by
 refine F.ok j3h (fun vs H Q E ⟨_,_,e,_⟩=>by subst e; rfl) (fun _ A _ s H vs Q E hr h=>?_)
 obtain⟨c,k,rfl,k0,k1,q⟩:=h
 refine⟨_,@q0j _ _ _ _ _ (q0y (i:=2) j3h.nd (by rfl) (by exact Or.inl rfl) (q0p q1u (q0p x3a (q0p q4f (pv 0) (q0p x3a q0b (pv 1))) q0b) q0b))
  (@q0m _ _ _ (q0g (q0p q1u (q0p x3a (pv 2) (pv 2)) q0b))),?_⟩
 refine⟨_,rfl,_,rfl,_,_,rfl,rfl,.inl ⟨by decide,by decide⟩,_,_,rfl,rfl,_,_,rfl,rfl,.inr ⟨by decide,by decide⟩,_,_,rfl,rfl,(by show (0:Int) < 2147483647; decide),?_⟩
 obtain⟨e0,e1⟩:=q2a ((c+7919*k)*48271) (m:=2147483647) (by decide)
 refine⟨_,rfl,_,rfl,_,_,rfl,rfl,?_,_,_,rfl,rfl,(by show (0:Int) < 2147483647; decide),?_⟩
 ·exact .inl ⟨Int.lt_of_lt_of_le (by decide) e0,Int.lt_of_lt_of_le e1 (by decide)⟩
 ·obtain⟨g0,g1⟩:=q2a (((c+7919*k)*48271 % 2147483647)*((c+7919*k)*48271 % 2147483647)) (m:=2147483647) (by decide)
  exact q _ g0 g1
noncomputable def z6d:Sp:=fun vs H Q _=>∃ n,vs=[.int n]∧0≤n∧∀ x H',q1w (.str x)=true→q1h H H'→Q (.str x) H'
theorem z1n:FnScope ["_law_cell", "_law_words", "_law_letters", "_law_found", "_law_k"] ["_law_cell"] (q0e z2r):=fSc
theorem j2z {f:Addr} {fd:FuncData} (F:Fun K "_law_name" "_law_name" z2r f fd) (T:Txt mg):FnOk P w K mg base CX0 1 f fd ["_law_cell"] z6d:=by
 refine F.ok z1n (fun vs H Q E ⟨_,e,_⟩=>by subst e; rfl) (fun _ A _ s H vs Q E hr h=>?_)
 obtain⟨n,rfl,h0,q⟩:=h
 refine⟨_,@j1e _ _ _ _ _ (z1y (i:=1) z1n.nd (by rfl) (by exact Or.inl rfl) (q4s (q0x (q0x (q0x (q0x (q0x (q0x (q0x (q0x (q0x (q0x (q0x (q0x q4g))))))))))))) j8z)
  (@q0j _ _ _ _ _ (q1e (q0f q1s (q0p q1u (q0p q2e (pv 0) q0b) q0b) q0b (q0i _)) (@q0m _ _ _ (q0g (q1i q1b (pv 1) (q0p q1u (q0p q2e (pv 0) q0b) q0b) x7k))) q0h)
  (@q0j _ _ _ _ _ (q0y (i:=2) z1n.nd (by rfl) (by exact Or.inl rfl) q0q)
  (@q0j _ _ _ _ _ (q0y (i:=3) z1n.nd (by rfl) (by exact Or.inl rfl) (q1i x9x (pv 2) (q0p q1u (pv 0) q0b) x7k))
  (@q0j _ _ _ _ _ (q1e (q0f q1s (q0p q1u (q0p q2e (pv 0) q0b) q0b) q0b (q0i _)) (@q0m _ _ _ (q7x PassesOwn.never (by rfl) (x1s (by rfl) T.range (x6l (q0p q1u (q0p q2e (pv 0) q0b) q0b) q0a)) (q1x (i:=4) z1n.nd (by rfl) (by exact Or.inl rfl))
   (@q0m _ _ _ (q0y (i:=3) z1n.nd (by rfl) (by exact Or.inl rfl) (q0p q0z (pv 3) (q1i x9x (pv 2) (q0p q1u (q0p q2e (pv 0) (q0p q4f (pv 4) q0b)) q0b) x7k)))))) q0h)
  (@q0m _ _ _ (q0g (pv 3))))))),?_⟩
 refine⟨q3j (by show 12≤1000; decide),fun p hp=>?_⟩
 have s1:=q0d (o:=HO.lst [V.str "open",V.str "wish",V.str "seats",V.str "set",V.str "add",V.str "get",V.str "none",V.str "room",V.str "stand",V.str "again",V.str "turn",V.str "move"]) hp
 refine⟨_,rfl,_,_,rfl,rfl,⟨by decide,by decide⟩,_,_,rfl,rfl,(by show (0:Int) < 8; decide),rfl,_,rfl,z4f (fun _=>?_) (fun _=>?_)⟩
 ·obtain⟨e0,e1⟩:=q2a (n / 56) (m:=12) (by decide)
  obtain⟨v,hv,hm⟩:=q4p (xs:=[V.str "open",V.str "wish",V.str "seats",V.str "set",V.str "add",V.str "get",V.str "none",V.str "room",V.str "stand",V.str "again",V.str "turn",V.str "move"]) e0 (by simpa using e1)
  have hx:∃ x:Str,v=.str x∧q1w (.str x)=true:=by
   simp only [List.mem_cons,List.not_mem_nil,or_false] at hm
   rcases hm with rfl | rfl | rfl | rfl | rfl | rfl | rfl | rfl | rfl | rfl | rfl | rfl <;> exact⟨_,rfl,by decide +kernel⟩
  obtain⟨x,rfl,hl⟩:=hx
  exact⟨_,rfl,_,rfl,_,_,rfl,rfl,⟨by decide,by decide⟩,_,_,rfl,rfl,(by show (0:Int) < 12; decide),p,_,_,_,rfl,rfl,SqL.of q0c,hv,q x _ hl s1⟩
 ·have la:("abcdefghijklmnopqrstuvwxyz" : Str).length=26:=by decide +kernel
  have lb:(("abcdefghijklmnopqrstuvwxyz" : Str).cps.toList).length=26:=by rw [Array.length_toList]; exact la
  obtain⟨e0,e1⟩:=q2a n (m:=26) (by decide)
  obtain⟨c,hc,hcm⟩:=q4p (xs:=("abcdefghijklmnopqrstuvwxyz" : Str).cps.toList) e0 (by rw [lb]; exact e1)
  refine⟨_,rfl,_,rfl,_,_,rfl,rfl,(by show (0:Int) < 26; decide),_,_,c,rfl,rfl,(by rw [la,sizeLine_eq]; decide),hc,?_⟩
  have lowc:(⟨#[c]⟩:Str).cps.toList.all q4i=true:=by show (q4i c && true)=true; rw [z3a c hcm]; rfl
  refine⟨_,rfl,_,_,rfl,rfl,⟨by decide,by decide⟩,_,_,rfl,rfl,(by show (0:Int) < 3; decide),rfl,_,rfl,z4f (fun _=>?_) (fun _=>?_)⟩
  ·obtain⟨f0,f1⟩:=q2a (n / 78) (m:=8) (by decide)
   refine⟨_,rfl,_,_,rfl,rfl,⟨by decide,by decide⟩,_,_,rfl,rfl,(by show (0:Int) < 8; decide),_,rfl,by omega,by omega,x2i (lo:=0) (n:=(n / 78 % 8).toNat) (fun i σ H'=>∃ x t,σ=[some (.int n),some (.ref p),some (.str "abcdefghijklmnopqrstuvwxyz"),some (.str x),t]∧upd H p (HO.lst [V.str "open",V.str "wish",V.str "seats",V.str "set",V.str "add",V.str "get",V.str "none",V.str "room",V.str "stand",V.str "again",V.str "turn",V.str "move"])=H'∧x.length=i+1∧x.cps.toList.all q4i=true)
    ⟨⟨#[c]⟩,none,rfl,rfl,rfl,lowc⟩ ?_ ?_⟩
   ·rintro i σ H' hi ⟨x,t,rfl,rfl,hl,hlow⟩
    have hi8:i < 8:=by omega
    have hpos:(0:Int) < 0+(i:Int)+3:=by omega
    obtain⟨g0,g1⟩:=q2a (n / (0+(i:Int)+3)) (m:=26) (by decide)
    obtain⟨d,hd,hdm⟩:=q4p (xs:=("abcdefghijklmnopqrstuvwxyz" : Str).cps.toList) g0 (by rw [lb]; exact g1)
    refine⟨_,rfl,_,rfl,_,rfl,_,rfl,_,_,rfl,rfl,_,_,rfl,rfl,⟨hpos,by omega⟩,_,_,rfl,rfl,(by show (0:Int) < 26; decide),_,_,d,rfl,rfl,(by rw [la,sizeLine_eq]; decide),hd,_,_,rfl,rfl,?_,x++⟨#[d]⟩,_,rfl,rfl,?_,?_⟩
    ·rw [hl,sizeLine_eq]; show i+1+1≤_; omega
    ·rw [z9g,hl]; rfl
    ·rw [j0o,hlow,Bool.true_and]
     show (q4i d && true)=true
     rw [z3a d hdm]; rfl
   ·rintro σ H' ⟨x,t,rfl,rfl,hl,hlow⟩
    exact⟨_,rfl,q x _ (z4r (by omega) (by omega) hlow) s1⟩
  ·exact⟨_,rfl,q _ _ (z4r (by show 1≤1; decide) (by show 1≤8; decide) lowc) s1⟩
end
end K1
namespace K1
open PySem L2 Kp Kz
section
variable {P:Program} {w:World} {K:Frag} {mg:Str→Option Value} {base:Heap}
noncomputable def j0l:Sp:=fun vs H Q _=>∃ c,vs=[.int c]∧∀ i H',S6 i→q1h H H'→Q (.int i) H'
theorem j1y:FnScope ["_law_cell", "_law_drawn"] ["_law_cell"] (q0e q6u):=fSc
theorem j2l {f:Addr} {fd:FuncData} (F:Fun K "_law_value" "_law_value" q6u f fd) (CM:Cal P w K mg base "_law_mixed" 1 ["_law_cell", "_law_k"] z4d):FnOk P w K mg base CX0 2 f fd ["_law_cell"] j0l:=by
 refine F.ok j1y (fun vs H Q E ⟨_,e,_⟩=>by subst e; rfl) (fun _ A _ s H vs Q E hr h=>?_)
 obtain⟨c,rfl,q⟩:=h
 refine⟨_,@q0j _ _ _ _ _ (q0y (i:=1) j1y.nd (by rfl) (by exact Or.inl rfl) (q0s CM hr (q1c (pv 0) (q3r q0b q0a))))
  (@q0m _ _ _ (q0g (q1i q1b (QE.h (q4s (j1r (q0p q8a (q0p q1u (pv 1) q0b) q0b) (j1r (q0p q8a (pv 1) (q0p x5x q0b q0b)) (j1r (q0p q8a (q0p x3a (pv 1) (q0p x5x q0b q0b)) (q0p x5x q0b q0b)) (j2p q4g)))))) (q0p q1u (q0p q2e (pv 1) q0b) q0b) x7k))),?_⟩
 refine⟨_,rfl,_,_,rfl,by decide,by decide,fun m m0 m1=>?_⟩
 refine⟨_,rfl,_,_,rfl,rfl,(by show (0:Int) < 100; decide),_,_,rfl,rfl,_,rfl,_,_,rfl,rfl,⟨by decide,by decide,by decide⟩,_,_,rfl,rfl,_,rfl,_,_,rfl,rfl,⟨by decide,by decide,by decide⟩,_,_,rfl,rfl,.inl ⟨by omega,by omega⟩,_,_,rfl,rfl,⟨by decide,by decide,by decide⟩,_,_,rfl,rfl,?_⟩
 have e9:(10:Int) ^ (9:Int).toNat=1000000000:=by decide +kernel
 have a1:S6 (m % 100 - 50):=S6.low (by omega) (by omega)
 have a2:S6 (m - (10:Int) ^ (9:Int).toNat):=by
  rw [e9]
  exact Nat.lt_of_le_of_lt (show (m - 1000000000).natAbs≤2147483647 by omega) (by decide)
 have a3:S6 (m*(10:Int) ^ (50:Int).toNat - (10:Int) ^ (59:Int).toNat):=by
  have e50:(10:Int) ^ (50:Int).toNat=100000000000000000000000000000000000000000000000000:=by decide +kernel
  have e59:(10:Int) ^ (59:Int).toNat=100000000000000000000000000000000000000000000000000000000000:=by decide +kernel
  have e60:(10:Nat) ^ 60=1000000000000000000000000000000000000000000000000000000000000:=by decide +kernel
  unfold S6
  rw [e50,e59,e60]
  omega
 refine⟨q3j (by show 4≤1000; decide),fun p hp=>?_⟩
 obtain⟨b0,b1⟩:=q2a (m / 7) (m:=4) (by decide)
 obtain⟨u,eu,hu⟩:=q4p (xs:=[V.int (m % 100 - 50),V.int (m - (10:Int) ^ (9:Int).toNat),V.int (m*(10:Int) ^ (50:Int).toNat - (10:Int) ^ (59:Int).toNat),V.int 0]) (i:=m / 7 % 4) b0 (by show m / 7 % 4 < ((4:Nat):Int); omega)
 have hy:∃ i:Int,u=.int i∧S6 i:=by
  simp only [List.mem_cons,List.not_mem_nil,or_false] at hu
  rcases hu with rfl | rfl | rfl | rfl
  ·exact⟨_,rfl,a1⟩
  ·exact⟨_,rfl,a2⟩
  ·exact⟨_,rfl,a3⟩
  ·exact⟨_,rfl,S6.low (by decide) (by decide)⟩
 obtain⟨i,rfl,hi⟩:=hy
 exact⟨_,rfl,_,_,rfl,rfl,⟨by decide,by decide⟩,_,_,rfl,rfl,(by show (0:Int) < 4; decide),p,_,_,_,rfl,rfl,SqL.of q0c,eu,q i _ hi (q0d hp)⟩
noncomputable def z9v:Sp:=fun vs H Q _=>∃ c,vs=[.int c]∧∀ (i:Int) H',0≤i→i < 1000000→q1h H H'→Q (.int i) H'
theorem j6e:FnScope ["_law_cell"] ["_law_cell"] (q0e q6x):=fSc
theorem j4i {f:Addr} {fd:FuncData} (F:Fun K "_law_place" "_law_place" q6x f fd):FnOk P w K mg base CX0 1 f fd ["_law_cell"] z9v:=by
 refine F.ok j6e (fun vs H Q E ⟨_,e,_⟩=>by subst e; rfl) (fun _ A _ s H vs Q E hr h=>?_)
 obtain⟨c,rfl,q⟩:=h
 refine⟨_,@q0m _ _ _ (q0g (q1i q1b (QE.h (q4s (j1r (q0p q1u (q0p q2e (pv 0) q0b) q0b) (j1r (q0p q1u (q0p q2e (pv 0) q0b) q0b) (j1r (q0p q1u (q0p q2e (pv 0) q0b) (q0p x5x q0b q0b)) q4g))))) (q0p q1u (pv 0) q0b) x7k)),?_⟩
 have e6:(10:Int) ^ (6:Int).toNat=1000000:=by decide +kernel
 refine⟨_,rfl,_,_,rfl,rfl,⟨by decide,by decide⟩,_,_,rfl,rfl,(by show (0:Int) < 9; decide),_,rfl,_,_,rfl,rfl,⟨by decide,by decide⟩,_,_,rfl,rfl,(by show (0:Int) < 40; decide),_,rfl,_,_,rfl,rfl,⟨by decide,by decide⟩,_,_,rfl,rfl,⟨by decide,by decide,by decide⟩,_,_,rfl,rfl,(by show (0:Int) < (10:Int) ^ (6:Int).toNat; rw [e6]; decide),?_⟩
 have b1:=q2a (c / 3) (m:=9) (by decide)
 have b2:=q2a (c / 3) (m:=40) (by decide)
 have b3:=q2a (c / 3) (m:=(10:Int) ^ (6:Int).toNat) (by rw [e6]; decide)
 rw [e6] at b3
 refine⟨q3j (by show 3≤1000; decide),fun p hp=>?_⟩
 obtain⟨b0,b4⟩:=q2a c (m:=3) (by decide)
 obtain⟨u,eu,hu⟩:=q4p (xs:=[V.int (c / 3 % 9),V.int (c / 3 % 40),V.int (c / 3 % (10:Int) ^ (6:Int).toNat)]) (i:=c % 3) b0 (by show c % 3 < ((3:Nat):Int); omega)
 have hy:∃ i:Int,u=.int i∧0≤i∧i < 1000000:=by
  simp only [List.mem_cons,List.not_mem_nil,or_false] at hu
  rcases hu with rfl | rfl | rfl
  ·exact⟨_,rfl,b1.1,by omega⟩
  ·exact⟨_,rfl,b2.1,by omega⟩
  ·rw [e6]; exact⟨_,rfl,b3.1,b3.2⟩
 obtain⟨i,rfl,hi0,hi1⟩:=hy
 exact⟨_,rfl,_,_,rfl,rfl,(by show (0:Int) < 3; decide),p,_,_,_,rfl,rfl,SqL.of q0c,eu,q i _ hi0 hi1 (q0d hp)⟩
noncomputable def j1l:Sp:=fun vs H Q _=>∃ c,vs=[.int c]∧0≤c∧∀ v H',ThP q9h H' v→q1h H H'→Q v H'
theorem j3f:FnScope ["_law_cell", "_law_word"] ["_law_cell"] (q0e q8m):=fSc
theorem q8y {x:Str} (h:q1w (.str x)=true):x.length≤8:=by
 obtain⟨y,e,hy⟩:=q3q h
 cases e
 exact q5h hy
theorem j3l {f:Addr} {fd:FuncData} (F:Fun K "_law_deed" "_law_deed" q8m f fd) (CN:Cal P w K mg base "_law_name" 1 ["_law_cell"] z6d) (CV:Cal P w K mg base "_law_value" 2 ["_law_cell"] j0l):FnOk P w K mg base CX0 3 f fd ["_law_cell"] j1l:=by
 refine F.ok j3f (fun vs H Q E ⟨_,e,_⟩=>by subst e; rfl) (fun _ A _ s H vs Q E hr h=>?_)
 obtain⟨c,rfl,c0,q⟩:=h
 have r1:=hr.mono (show 1≤2 by decide)
 refine⟨_,@j1e _ _ _ _ _ (z1y (i:=1) j3f.nd (by rfl) (by exact Or.inl rfl) (j2j q1b (q4s (q0x (q0x (q0x q4g)))) (q0p q1u (pv 0) q0b) x7k) j7l)
  (@q0j _ _ _ _ _ (q1e (q0f q1s (pv 1) q0q (q0i _)) (@q0m _ _ _ (q0g (q2g (q1c (pv 1) (q9l (q0s CN r1 (x6l (q0p q2e (pv 0) q0b) q0a)) q0a))))) q0h)
  (@q0m _ _ _ (q0g (q2g (q1c (pv 1) (q9l (q0s CN r1 (x6l (q0p q2e (pv 0) q0b) q0a)) (q9l (q0s CV hr (q1c (pv 0) q0a)) q0a))))))),?_⟩
 refine⟨q3j (by show 3≤1000; decide),fun p hp=>?_⟩
 have s1:=q0d (o:=HO.lst [V.str "set",V.str "add",V.str "get"]) hp
 obtain⟨b0,b4⟩:=q2a c (m:=3) (by decide)
 obtain⟨u,eu,hu⟩:=q4p (xs:=[V.str "set",V.str "add",V.str "get"]) (i:=c % 3) b0 (by show c % 3 < ((3:Nat):Int); omega)
 have hy:∃ x:Str,u=.str x∧(x = "set" ∨ x = "add" ∨ x = "get"):=by
  simp only [List.mem_cons,List.not_mem_nil,or_false] at hu
  rcases hu with rfl | rfl | rfl
  ·exact⟨_,rfl,.inl rfl⟩
  ·exact⟨_,rfl,.inr (.inl rfl)⟩
  ·exact⟨_,rfl,.inr (.inr rfl)⟩
 obtain⟨x,rfl,hx⟩:=hy
 refine⟨_,rfl,_,_,rfl,rfl,(by show (0:Int) < 3; decide),p,_,_,_,rfl,rfl,SqL.of q0c,eu,?_⟩
 have c3:0≤c / 3:=Int.ediv_nonneg c0 (by decide)
 have hgo:∀ (x:Str),(x = "set" ∨ x = "add")→∀ (nm:Str) (i:Int),q1w (.str nm)=true→q9h (.tup [.str x,.str nm,.int i])=true:=fun x hx nm i hn=>by
  rcases hx with rfl | rfl
  ·show (q1w (.str nm) && (true && true))=true
   rw [hn]; rfl
  ·show (q1w (.str nm) && (true && true))=true
   rw [hn]; rfl
 refine⟨_,rfl,rfl,_,rfl,?_⟩
 by_cases hg:x = "get"
 ·subst hg
  rw [decide_eq_true rfl]
  refine q1f ⟨_,rfl,_,rfl,_,_,rfl,rfl,⟨by decide,by decide⟩,_,rfl,c3,fun nm H2 hn s2=>⟨q3j (by show 2≤1000; decide),fun b hb=>q _ _ (ThP.tup (ds:=[.str "get",.str nm]) q0c (by show 2≤200; decide) (.cons (.str _ (by decide)) (.cons (.str nm (by have:=q8y hn; omega)) .nil)) ?_ (.cons (.str _) (.cons (.str _) .nil))) ((s1.trans s2).trans (q0d hb))⟩⟩
  show (q1w (.str nm) && true)=true
  rw [hn]; rfl
 ·have hx2:x = "set" ∨ x = "add" := by
   rcases hx with z | z | z
   ·exact .inl z
   ·exact .inr z
   ·exact absurd z hg
  have hxl:x.length≤200:=by rcases hx2 with rfl | rfl <;> decide
  rw [decide_eq_false (fun z=>hg (V.str.inj z))]
  exact q1a ⟨_,rfl,_,rfl,_,_,rfl,rfl,⟨by decide,by decide⟩,_,rfl,c3,fun nm H2 hn s2=>⟨_,rfl,_,rfl,fun i H3 hi s3=>⟨q3j (by show 3≤1000; decide),fun b hb=>q _ _ (ThP.tup (ds:=[.str x,.str nm,.int i]) q0c (by show 3≤200; decide) (.cons (.str _ hxl) (.cons (.str nm (by have:=q8y hn; omega)) (.cons (.int i) .nil))) (hgo x hx2 nm i hn) (.cons (.str _) (.cons (.str _) (.cons (.int hi) .nil)))) (((s1.trans s2).trans s3).trans (q0d hb))⟩⟩⟩
end
end K1
namespace K1
open PySem L2 Kp Kz
section
variable {P:Program} {w:World} {K:Frag} {mg:Str→Option Value} {base:Heap}
noncomputable def z7s:Sp:=fun vs H Q _=>∃ c h:Int,vs=[.int c,.int h]∧1≤h∧h≤9∧∀ (p:Addr) (ns:List Int) H',H' p=some (.tup (ns.map V.int))→q2u (.tup (ns.map D.int))=true→(∀ n∈ns,0≤n∧n < h)→ns.length≤9→q1h H H'→Q (.ref p) H'
theorem z0r:FnScope ["_law_cell", "_law_high", "_law_left", "_law_found", "_law_seat"] ["_law_cell", "_law_high"] (q0e x7o):=fSc
theorem j2r {f:Addr} {fd:FuncData} (F:Fun K "_law_seats" "_law_seats" x7o f fd) (T:Txt mg):FnOk P w K mg base CX0 1 f fd ["_law_cell", "_law_high"] z7s:=by
 refine F.ok z0r (fun vs H Q E ⟨_,_,e,_⟩=>by subst e; rfl) (fun _ A _ s H vs Q E hr h=>?_)
 obtain⟨c,h,rfl,h1,h9,q⟩:=h
 refine⟨_,@q0j _ _ _ _ _ (q0y (i:=2) z0r.nd (by rfl) (by exact Or.inl rfl) (q0p q1u (pv 0) q0b))
  (@q0j _ _ _ _ _ (q0y (i:=3) z0r.nd (by rfl) (by exact Or.inl rfl) (q8w q0a))
  (@q0j _ _ _ _ _ (q7x PassesOwn.never (by rfl) (x1s (by rfl) T.range (q1c (pv 1) q0a)) (q1x (i:=4) z0r.nd (by rfl) (by exact Or.inl rfl))
   (@q0j _ _ _ _ _ (q1e (q0f q1s (q0p q1u (pv 2) q0b) q0b (q0i _)) (@q0m _ _ _ (x0f (q6w PySem.F.plainAttrs_list PySem.F.slot_list_append PySem.F.type_list_append q3y (pv 3) (q1c (pv 4) q0a)))) q0h)
   (@q0m _ _ _ (q0y (i:=2) z0r.nd (by rfl) (by exact Or.inl rfl) (q0p q2e (pv 2) q0b)))))
  (@q0j _ _ _ _ _ (q1e (q0f q1s (q0n q0l (by rfl) T.len PySem.boot_len (q1c (pv 3) q0a)) q0b (q0i _)) (@q0m _ _ _ (q0y (i:=3) z0r.nd (by rfl) (by exact Or.inl rfl) (q8w (x6l (q0p q1u (q0p q2e (pv 0) q0b) (pv 1)) q0a)))) q0h)
  (@q0m _ _ _ (q0g (q1q q1n (by rfl) T.tuple q1r (q1c (pv 3) q0a))))))),?_⟩
 refine⟨_,rfl,_,_,rfl,rfl,(by show (0:Int) < 512; decide),q3j (by show 0≤1000; decide),fun b hb=>?_⟩
 have s0:=q0d (o:=HO.lst []) hb
 refine⟨_,rfl,_,rfl,by omega,by omega,x2i (lo:=0) (n:=h.toNat) (fun i σ H'=>∃ (lf:Int) (ns:List Int) (t:Option V),σ=[some (.int c),some (.int h),some (.int lf),some (.ref b),t]∧H' b=some (.lst (ns.map V.int))∧ns.Pairwise (· < ·)∧(∀ n∈ns,0≤n∧n < (i:Int))∧ns.length≤i∧q1h H H')
  ⟨c % 512,[],none,rfl,q0c,.nil,fun n hn=>(List.not_mem_nil hn).elim,Nat.le_refl _,s0⟩ ?_ ?_⟩
 ·rintro i σ H' hi ⟨lf,ns,t,rfl,hL,hpw,hbd,hl,s1⟩
  have hi9:i < 9:=by omega
  refine⟨_,rfl,_,_,rfl,rfl,(by show (0:Int) < 2; decide),rfl,_,rfl,z4f (fun _=>?_) (fun _=>?_)⟩
  ·refine⟨_,rfl,.inl ⟨rfl,_,SqL.of hL⟩,_,rfl,b,_,_,rfl,rfl,hL,by rw [List.length_map,sizeLine_eq]; omega,_,rfl,_,_,rfl,rfl,⟨by decide,by decide⟩,lf / 2,ns++[(i:Int)],_,rfl,?_,?_,?_,?_,?_⟩
   ·rw [List.map_append,show (0:Int)+(i:Int)=(i:Int) by omega]; exact q0c
   ·exact List.pairwise_append.mpr ⟨hpw,List.pairwise_singleton _ _,fun x hx y hy=>by cases List.mem_singleton.mp hy; exact (hbd x hx).2⟩
   ·intro n hn
    rcases List.mem_append.mp hn with hn | hn
    ·have:=hbd n hn; omega
    ·cases List.mem_singleton.mp hn; omega
   ·rw [List.length_append,List.length_singleton]; omega
   ·intro d o e
    have hd:d≠b:=fun z=>by rw [z,hb] at e; cases e
    rw [q0r hd]; exact s1 d o e
  ·exact⟨_,rfl,_,_,rfl,rfl,⟨by decide,by decide⟩,lf / 2,ns,_,rfl,hL,hpw,fun n hn=>by have:=hbd n hn; omega,by omega,s1⟩
 ·rintro σ H' ⟨lf,ns,t,rfl,hL,hpw,hbd,hl,s1⟩
  have hh:((h.toNat:Nat):Int)=h:=Int.toNat_of_nonneg (by omega)
  rw [hh] at hbd
  have hl9:ns.length≤9:=by omega
  refine⟨_,rfl,b,_,rfl,.inl (SqL.of hL),rfl,_,rfl,?_⟩
  rw [List.length_map]
  by_cases hz:ns.length=0
  ·rw [decide_eq_true (show V.int (ns.length:Int)=V.int 0 by rw [hz]; rfl)]
   obtain⟨g0,g1⟩:=q2a (c / 512) (m:=h) (by omega)
   refine q1f ⟨_,rfl,_,_,rfl,rfl,⟨by decide,by decide⟩,_,rfl,_,_,rfl,rfl,(by show (0:Int) < h; omega),q3j (by show 1≤1000; decide),fun b2 hb2=>?_⟩
   have s2:=q0d (o:=HO.lst [V.int (c / 512 % h)]) hb2
   refine⟨_,rfl,b2,_,rfl,.inl ⟨SqL.of q0c,fun t2 ht2=>?_⟩⟩
   refine q t2 [c / 512 % h] _ q0c (x4j (Nat.le_refl 1) (by show 1≤9; decide) (fun n hn=>by cases List.mem_singleton.mp hn; omega) (List.pairwise_singleton _ _)) (fun n hn=>by cases List.mem_singleton.mp hn; exact⟨g0,g1⟩) (by show 1≤9; decide) ((s1.trans s2).trans (q0d ht2))
  ·rw [decide_eq_false (show ¬ (V.int (ns.length:Int)=V.int 0) from fun z=>hz (by have:=V.int.inj z; omega))]
   refine q1a ⟨_,rfl,b,_,rfl,.inl ⟨SqL.of hL,fun t2 ht2=>?_⟩⟩
   exact q t2 ns _ q0c (x4j (by omega) hl9 (fun n hn=>by have:=hbd n hn; omega) hpw) hbd hl9 (s1.trans (q0d ht2))
end
end K1
namespace K1
open PySem L2 Kp Kz
theorem q6o {x:Str} {ks:List Str} {ds:List D} (h:Kp.q2n.lookup x=some ks):q3f (.tup (.str x::ds))=q0w (ks.map q2h) ds:=by
 show (match Kp.q2n.lookup x with | some ks=>q0w (ks.map q2h) ds | none=>false)=_
 rw [h]
theorem z2c {i:Int} (h0:0≤i) (h1:i < 9):q2h "keeper" (.int i)=true:=by
 rw [q3g]
 show (decide (0≤i) && decide (i≤8))=true
 rw [decide_eq_true h0,decide_eq_true (by omega)]; rfl
theorem x8v {i:Int} (h0:0≤i) (h1:i < 1000000):q2h "place" (.int i)=true:=by
 rw [q4o]
 show (decide (0≤i) && decide (i < 1000000))=true
 rw [decide_eq_true h0,decide_eq_true h1]; rfl
theorem j4v {p:D→Bool} {a:D} (h:p a=true):q0w [p] [a]=true:=by rw [q0w,h]; rfl
theorem j2y {p q:D→Bool} {a b:D} (h:p a=true) (g:q b=true):q0w [p,q] [a,b]=true:=by rw [q0w,h,q0w,g]; rfl
section
variable {P:Program} {w:World} {K:Frag} {mg:Str→Option Value} {base:Heap}
noncomputable def z9m:Sp:=fun vs H Q _=>∃ c k:Int,vs=[.int c,.int k]∧0≤k∧k≤10∧∀ v H',ThP q3f H' v→q1h H H'→Q v H'
theorem z4t:FnScope ["_law_cell", "_law_k", "_law_one", "_law_other", "_law_keeper", "_law_kind"] ["_law_cell", "_law_k"] (q0e q8f):=fSc
theorem j3q {f:Addr} {fd:FuncData} (F:Fun K "_law_step" "_law_step" q8f f fd) (CM:Cal P w K mg base "_law_mixed" 1 ["_law_cell", "_law_k"] z4d) (CP:Cal P w K mg base "_law_place" 1 ["_law_cell"] z9v) (CN:Cal P w K mg base "_law_name" 1 ["_law_cell"] z6d) (CD:Cal P w K mg base "_law_deed" 3 ["_law_cell"] j1l) (CS:Cal P w K mg base "_law_seats" 1 ["_law_cell", "_law_high"] z7s):FnOk P w K mg base CX0 4 f fd ["_law_cell", "_law_k"] z9m:=by
 refine F.ok z4t (fun vs H Q E ⟨_,_,e,_⟩=>by subst e; rfl) (fun _ A _ s H vs Q E hr h=>?_)
 obtain⟨c,k,rfl,k0,k10,q⟩:=h
 have r1:=hr.mono (show 1≤3 by decide)
 refine⟨_,@q0j _ _ _ _ _ (q0y (i:=2) z4t.nd (by rfl) (by exact Or.inl rfl) (q0s CM r1 (q1c (pv 0) (x6l (q0p q4f (q0p x3a q0b (pv 1)) q0b) q0a))))
  (@q0j _ _ _ _ _ (q0y (i:=3) z4t.nd (by rfl) (by exact Or.inl rfl) (q0s CM r1 (q1c (pv 0) (x6l (q0p q4f (q0p x3a q0b (pv 1)) q0b) q0a))))
  (@q0j _ _ _ _ _ (q0y (i:=4) z4t.nd (by rfl) (by exact Or.inl rfl) (q0p q1u (pv 3) q0b))
  (@j1e _ _ _ _ _ (z1y (i:=5) z4t.nd (by rfl) (by exact Or.inl rfl) (j2j q1b (q4s (q0x (q0x (q0x (q0x (q0x (q0x (q0x (q0x (q0x (q0x (q0x q4g)))))))))))) (q0p q1u (pv 2) q0b) x7k) j7l)
  (@q0j _ _ _ _ _ (q1e (PW.pt (q5j (q0f q1s (pv 5) q0q (q0i _)) (q5b (q0f q1s (pv 5) q0q (q0i _))))) (@q0m _ _ _ (q0g (q2g (q1c (pv 5) (q1c (pv 4) q0a))))) q0h)
  (@q0j _ _ _ _ _ (q1e (PW.pt (q5j (q0f q1s (pv 5) q0q (q0i _)) (q5j (q0f q1s (pv 5) q0q (q0i _)) (q5b (q0f q1s (pv 5) q0q (q0i _)))))) (@q0m _ _ _ (q0g (q2g (q1c (pv 5) (q9l (q0s CP r1 (q1c (pv 3) q0a)) q0a))))) q0h)
  (@q0j _ _ _ _ _ (q1e (q0f q1s (pv 5) q0q (q0i _)) (@q0m _ _ _ (q0g (q2g (q1c (pv 5) (q1c (pv 4) (x6l (q0p q1u (q0p q2e (pv 2) q0b) q0b) q0a)))))) q0h)
  (@q0j _ _ _ _ _ (q1e (q0f q1s (pv 5) q0q (q0i _)) (@q0m _ _ _ (q0g (q2g (q1c (pv 5) (q9l (q0s CN r1 (x6l (q0p q2e (pv 2) q0b) q0a)) (q9l (q0s CD hr (q1c (pv 3) q0a)) q0a)))))) q0h)
  (@q0j _ _ _ _ _ (q1e (q0f q1s (pv 5) q0q (q0i _)) (@q0m _ _ _ (q0g (q2g (q1c (pv 5) (q9l (q0s CN r1 (x6l (q0p q2e (pv 2) q0b) q0a)) q0a))))) q0h)
  (@q0j _ _ _ _ _ (q1e (q0f q1s (pv 5) q0q (q0i _)) (@q0m _ _ _ (q0g (q2g (q1c (pv 5) (q9l (q0s CN r1 (x6l (q0p q2e (pv 2) q0b) q0a)) (q1c (pv 4) q0a)))))) q0h)
  (@q0j _ _ _ _ _ (q1e (q0f q1s (pv 5) q0q (q0i _)) (@q0m _ _ _ (q0g (q2g (q1c (pv 5) (q1c (pv 4) (q9l (q0s CS r1 (x6l (q0p q2e (pv 2) q0b) (q3r q0b q0a))) q0a)))))) q0h)
  (@q0m _ _ _ (q0g (q2g (q1c (pv 5) (q1c (pv 4) (q9l (q0s CP r1 (x6l (q0p q2e (pv 2) q0b) q0a)) q0a)))))))))))))))),?_⟩
 refine⟨_,rfl,_,rfl,_,_,rfl,rfl,.inl ⟨by decide,by decide⟩,_,_,rfl,rfl,c,7*k+1,rfl,by omega,by omega,fun m m0 m1=>?_⟩
 refine⟨_,rfl,_,rfl,_,_,rfl,rfl,.inl ⟨by decide,by decide⟩,_,_,rfl,rfl,c,7*k+2,rfl,by omega,by omega,fun o o0 o1=>?_⟩
 refine⟨_,rfl,_,_,rfl,rfl,(by show (0:Int) < 9; decide),q3j (by show 11≤1000; decide),fun p hp=>?_⟩
 have s1:=q0d (o:=HO.lst [V.str "stand",V.str "beat",V.str "bring",V.str "double",V.str "lose",V.str "wish",V.str "again",V.str "turn",V.str "move",V.str "pack",V.str "wake"]) hp
 obtain⟨b0,b4⟩:=q2a m (m:=11) (by decide)
 obtain⟨u,eu,hu⟩:=q4p (xs:=[V.str "stand",V.str "beat",V.str "bring",V.str "double",V.str "lose",V.str "wish",V.str "again",V.str "turn",V.str "move",V.str "pack",V.str "wake"]) (i:=m % 11) b0 (by show m % 11 < ((11:Nat):Int); omega)
 have hy:∃ x:Str,u=.str x∧x∈(["stand", "beat", "bring", "double", "lose", "wish", "again", "turn", "move", "pack", "wake"]:List Str):=by
  obtain⟨x,hx,rfl⟩:=List.mem_map.mp (show u∈(["stand", "beat", "bring", "double", "lose", "wish", "again", "turn", "move", "pack", "wake"]:List Str).map V.str from hu)
  exact⟨x,rfl,hx⟩
 obtain⟨x,rfl,hx⟩:=hy
 refine⟨_,rfl,_,_,rfl,rfl,(by show (0:Int) < 11; decide),p,_,_,_,rfl,rfl,SqL.of q0c,eu,?_⟩
 obtain⟨q0,q1⟩:=q2a o (m:=9) (by decide)
 have hk:=z2c q0 q1
 have skp:S6 (o % 9):=S6.low (by omega) (by omega)
 have m11:0≤m / 11:=Int.ediv_nonneg m0 (by decide)
 have hxl:x.length≤200:=by
  simp only [List.mem_cons,List.not_mem_nil,or_false] at hx
  rcases hx with rfl | rfl | rfl | rfl | rfl | rfl | rfl | rfl | rfl | rfl | rfl <;> decide
 have no:∀ {z:Str},x≠z→decide (V.str x=V.str z)=false:=fun h=>decide_eq_false fun e=>h (V.str.inj e)
 have yes:∀ {z:Str},x=z→decide (V.str x=V.str z)=true:=fun h=>decide_eq_true (by rw [h])
 have sB:∀ {H':Hp} {a:Addr} {o:HO},q1h H H'→H' a=none→q1h H (upd H' a o):=fun z hz=>z.trans (q0d hz)
 refine⟨_,rfl,rfl,_,rfl,?_⟩
 by_cases e1:x = "stand"
 ·rw [yes e1]
  refine q1f (q1f ⟨_,rfl,_,rfl,q3j (by show 2≤1000; decide),fun b hb=>q _ _ (ThP.tup (ds:=[.str x,.int (o % 9)]) q0c (by show 2≤200; decide) (.cons (.str _ hxl) (.cons (.int _) .nil)) ?_ (.cons (.str _) (.cons (.int skp) .nil))) (sB s1 hb)⟩)
  rw [q6o (ks:=["keeper"]) (by rw [e1]; decide +kernel)]; exact j4v hk
 rw [no e1]
 refine q1a ⟨_,rfl,rfl,_,rfl,?_⟩
 by_cases e2:x = "wake"
 ·rw [yes e2]
  refine q1f ⟨_,rfl,_,rfl,q3j (by show 2≤1000; decide),fun b hb=>q _ _ (ThP.tup (ds:=[.str x,.int (o % 9)]) q0c (by show 2≤200; decide) (.cons (.str _ hxl) (.cons (.int _) .nil)) ?_ (.cons (.str _) (.cons (.int skp) .nil))) (sB s1 hb)⟩
  rw [q6o (ks:=["keeper"]) (by rw [e2]; decide +kernel)]; exact j4v hk
 rw [no e2]
 have plc:∀ {z:Str},x=z→Kp.q2n.lookup z=some (["place"]:List Str)→∀ (i:Int) (H':Hp),0≤i→i < 1000000→q1h H H'→∀ b,H' b=none→Q (.ref b) (upd H' b (.tup [.str x,.int i])):=fun {z} ez el i H' i0 i1 s2 b hb=>by
  refine q _ _ (ThP.tup (ds:=[.str x,.int i]) q0c (by show 2≤200; decide) (.cons (.str _ hxl) (.cons (.int _) .nil)) ?_ (.cons (.str _) (.cons (.int (Nat.lt_of_le_of_lt (show i.natAbs≤1000000 by omega) (by decide))) .nil))) (sB s2 hb)
  rw [q6o (ks:=["place"]) (by rw [ez]; exact el)]; exact j4v (x8v i0 i1)
 refine q1a ⟨_,rfl,rfl,_,rfl,?_⟩
 by_cases e3:x = "bring"
 ·rw [yes e3]
  exact q1f (q1f ⟨_,rfl,_,rfl,o,rfl,fun i H2 i0 i1 s2=>⟨q3j (by show 2≤1000; decide),fun b hb=>plc e3 (by decide +kernel) i H2 i0 i1 (s1.trans s2) b hb⟩⟩)
 rw [no e3]
 refine q1a ⟨_,rfl,rfl,_,rfl,?_⟩
 by_cases e4:x = "double"
 ·rw [yes e4]
  exact q1f (q1f ⟨_,rfl,_,rfl,o,rfl,fun i H2 i0 i1 s2=>⟨q3j (by show 2≤1000; decide),fun b hb=>plc e4 (by decide +kernel) i H2 i0 i1 (s1.trans s2) b hb⟩⟩)
 rw [no e4]
 refine q1a ⟨_,rfl,rfl,_,rfl,?_⟩
 by_cases e5:x = "lose"
 ·rw [yes e5]
  exact q1f ⟨_,rfl,_,rfl,o,rfl,fun i H2 i0 i1 s2=>⟨q3j (by show 2≤1000; decide),fun b hb=>plc e5 (by decide +kernel) i H2 i0 i1 (s1.trans s2) b hb⟩⟩
 rw [no e5]
 refine q1a ⟨_,rfl,rfl,_,rfl,?_⟩
 by_cases e6:x = "beat"
 ·rw [yes e6]
  obtain⟨t0,t1⟩:=q2a (m / 11) (m:=9) (by decide)
  refine q1f ⟨_,rfl,_,rfl,_,rfl,_,_,rfl,rfl,⟨by decide,by decide⟩,_,_,rfl,rfl,(by show (0:Int) < 9; decide),q3j (by show 3≤1000; decide),fun b hb=>q _ _ (ThP.tup (ds:=[.str x,.int (o % 9),.int (m / 11 % 9)]) q0c (by show 3≤200; decide) (.cons (.str _ hxl) (.cons (.int _) (.cons (.int _) .nil))) ?_ (.cons (.str _) (.cons (.int skp) (.cons (.int (S6.low (by omega) (by omega))) .nil)))) (sB s1 hb)⟩
  rw [q6o (ks:=["keeper", "keeper"]) (by rw [e6]; decide +kernel)]; exact j2y hk (z2c t0 t1)
 rw [no e6]
 refine q1a ⟨_,rfl,rfl,_,rfl,?_⟩
 by_cases e7:x = "wish"
 ·rw [yes e7]
  refine q1f ⟨_,rfl,_,rfl,_,_,rfl,rfl,⟨by decide,by decide⟩,_,rfl,m11,fun nm H2 hn s2=>⟨_,rfl,o,rfl,o0,fun v H3 hv s3=>⟨q3j (by show 3≤1000; decide),fun b hb=>?_⟩⟩⟩
  obtain⟨d,I,hd,g⟩:=hv.same (q0d (o:=HO.tup [V.str x,V.str nm,v]) hb)
  refine q _ _ (ThP.tup (ds:=[.str x,.str nm,d]) q0c (by show 3≤200; decide) (.cons (.str _ hxl) (.cons (.str nm (by have:=q8y hn; omega)) (.cons I .nil))) ?_ (.cons (.str _) (.cons (.str _) (.cons g .nil)))) (sB ((s1.trans s2).trans s3) hb)
  rw [q6o (ks:=["name", "deed"]) (by rw [e7]; decide +kernel)]; exact j2y (by rw [q2d]; exact hn) (by rw [q4k]; exact hd)
 rw [no e7]
 refine q1a ⟨_,rfl,rfl,_,rfl,?_⟩
 by_cases e8:x = "again"
 ·rw [yes e8]
  refine q1f ⟨_,rfl,_,rfl,_,_,rfl,rfl,⟨by decide,by decide⟩,_,rfl,m11,fun nm H2 hn s2=>⟨q3j (by show 2≤1000; decide),fun b hb=>q _ _ (ThP.tup (ds:=[.str x,.str nm]) q0c (by show 2≤200; decide) (.cons (.str _ hxl) (.cons (.str nm (by have:=q8y hn; omega)) .nil)) ?_ (.cons (.str _) (.cons (.str _) .nil))) (sB (s1.trans s2) hb)⟩⟩
  rw [q6o (ks:=["name"]) (by rw [e8]; decide +kernel)]; exact j4v (by rw [q2d]; exact hn)
 rw [no e8]
 refine q1a ⟨_,rfl,rfl,_,rfl,?_⟩
 by_cases e9:x = "turn"
 ·rw [yes e9]
  refine q1f ⟨_,rfl,_,rfl,_,_,rfl,rfl,⟨by decide,by decide⟩,_,rfl,m11,fun nm H2 hn s2=>⟨_,rfl,q3j (by show 3≤1000; decide),fun b hb=>q _ _ (ThP.tup (ds:=[.str x,.str nm,.int (o % 9)]) q0c (by show 3≤200; decide) (.cons (.str _ hxl) (.cons (.str nm (by have:=q8y hn; omega)) (.cons (.int _) .nil))) ?_ (.cons (.str _) (.cons (.str _) (.cons (.int skp) .nil)))) (sB (s1.trans s2) hb)⟩⟩
  rw [q6o (ks:=["name", "keeper"]) (by rw [e9]; decide +kernel)]; exact j2y (by rw [q2d]; exact hn) hk
 rw [no e9]
 refine q1a ⟨_,rfl,rfl,_,rfl,?_⟩
 by_cases e10:x = "move"
 ·rw [yes e10]
  refine q1f ⟨_,rfl,_,rfl,_,rfl,_,_,rfl,rfl,⟨by decide,by decide⟩,_,9,rfl,by decide,by decide,fun pS ns H2 hS hse hn9 hl9 s2=>⟨q3j (by show 3≤1000; decide),fun b hb=>q _ _ (ThP.tup (ds:=[.str x,.int (o % 9),.tup (ns.map D.int)]) q0c (by show 3≤200; decide) (.cons (.str _ hxl) (.cons (.int _) (.cons (.tup (q0d hb _ _ hS) (by rw [List.length_map]; omega) q6k) .nil))) ?_ (.cons (.str _) (.cons (.int skp) (.cons (.tup (GL6.ints fun n hn=>S6.low (by have:=hn9 n hn; omega) (by have:=hn9 n hn; omega))) .nil)))) (sB (s1.trans s2) hb)⟩⟩
  rw [q6o (ks:=["keeper", "seats"]) (by rw [e10]; decide +kernel)]; exact j2y hk (by rw [q4y]; exact hse)
 rw [no e10]
 have e11:x = "pack" := by
  simp only [List.mem_cons,List.not_mem_nil,or_false] at hx
  rcases hx with z | z | z | z | z | z | z | z | z | z | z <;> first | exact absurd z e1 | exact absurd z e6 | exact absurd z e3 | exact absurd z e4 | exact absurd z e5 | exact absurd z e7 | exact absurd z e8 | exact absurd z e9 | exact absurd z e10 | exact absurd z e2 | exact z
 refine q1a ⟨_,rfl,_,rfl,_,rfl,_,_,rfl,rfl,⟨by decide,by decide⟩,_,rfl,fun i H2 i0 i1 s2=>⟨q3j (by show 3≤1000; decide),fun b hb=>q _ _ (ThP.tup (ds:=[.str x,.int (o % 9),.int i]) q0c (by show 3≤200; decide) (.cons (.str _ hxl) (.cons (.int _) (.cons (.int _) .nil))) ?_ (.cons (.str _) (.cons (.int skp) (.cons (.int (Nat.lt_of_le_of_lt (show i.natAbs≤1000000 by omega) (by decide))) .nil)))) (sB (s1.trans s2) hb)⟩⟩
 rw [q6o (ks:=["keeper", "place"]) (by rw [e11]; decide +kernel)]; exact j2y hk (x8v i0 i1)
end
end K1
namespace K1
open PySem L2 Kp
section
variable {P:Program} {w:World} {K:Frag} {mg:Str→Option Value} {base:Heap}
theorem z8b {l:Int} {d:D} (h:whole d=false):geD l d=false:=by
 cases d with
 | int i=>cases h
 | _=>rfl
noncomputable def x6j (P:Program) (w:World) (K:Frag) (mg:Str→Option Value) (base:Heap) (kk:Nat):Sp:=fun vs H Q _=>∃ B v d t gs ps,B≤100000∧vs=[v,.ref t]∧Is B H v d∧SqT K H t gs∧Tls P w K mg base kk gs ps∧gs.length≤1000∧∀ H',q1h H H'→Q (.bl (z4x ps d)) H'
theorem j8l:FnScope ["thing", "tellers"] ["thing", "tellers"] (q0e z0a):=fSc
theorem SqT.same {H H':Hp} {a:Addr} {xs:List V} (h:SqT K H a xs) (s:q1h H H'):SqT K H' a xs:=by
 rcases h with h | h
 ·exact .inl (h.elim (fun e=>.inl (s _ _ e)) fun⟨o,e⟩=>.inr ⟨o,s _ _ e⟩)
 ·exact .inr h
theorem z5k {f:Addr} {fd:FuncData} {kk:Nat} (F:Fun K "fits" "fits" z0a f fd) (T:Txt mg):FnOk P w K mg base CX0 (kk+1) f fd ["thing", "tellers"] (x6j P w K mg base kk):=by
 refine F.ok j8l (fun vs H Q E ⟨_,_,_,_,_,_,_,e,_⟩=>by subst e; rfl) (fun _ A _ s H vs Q E hr h=>?_)
 obtain⟨B,v,d,t,gs,ps,hB,rfl,I,hS,hT,hg,k⟩:=h
 refine⟨_,x0t (q1e (PW.pt (q5j (q4e (q3h (q0n q5d rfl T.isi q3u (q0o (pv 0) (q0o (x4m rfl T.tuple q1r) q0a))))) (q5b (q0f x5t (q0n q0l rfl T.len PySem.boot_len (q0o (pv 0) q0a)) (q0n q0l rfl T.len PySem.boot_len (q0o (pv 1) q0a)) (q0i _))))) (q3l (q0g x7c)) q0h)
  (q3l (q0g (q0n (q7j rfl) rfl T.all q5r (q0o (q6j (NB:=["teller", "part"]) (n:=2) (fr:=[]) (q8k (outer:=q0e z0a) rfl (by decide +kernel) rfl) rfl
   (z4h (t1:=true) (t2:=true) rfl T.zip (q0o (pv 1) (q0o (pv 0) q0a)))
   (fun _ _ _ _ _=>x8h (K:=K) (n:=2) rfl rfl (q7g (q1x (i:=0) (show (["teller", "part"]:List Str).Nodup by decide +kernel) rfl (Or.inl rfl)) (q7g (q1x (i:=1) (show (["teller", "part"]:List Str).Nodup by decide +kernel) rfl (Or.inl rfl)) x7t))) (fun _ _ _ _ _=>q3a)
   (fun _ _ _ _ _=>z7l (P:=P) (w:=w) (K:=K) (mg:=mg) (base:=base) (k:=kk) rfl rfl rfl rfl rfl hr q5g (pv 0) (q0o (pv 1) q0a))) q0a)))),?_⟩
 refine⟨_,rfl,_,_,_,_,rfl,I.ty,x4o K d,_,rfl,?_⟩
 have hlt:=hT.length
 cases d with
 | tup ds =>
  cases I with
  | @tup a xs _ ea hl r =>
  have hlen:=r.length
  have k1:∀ H',q1h H H'→Q (.bl (q0w ps ds)) H':=k
  refine q1a ⟨_,rfl,a,xs,rfl,.inr (SqT.of ea),_,rfl,t,gs,rfl,.inr hS,rfl,_,rfl,?_⟩
  by_cases hne:ds.length=ps.length
  ·rw [show (!decide (V.int (xs.length:Int)=V.int (gs.length:Int)))=false by rw [hlen,hne,hlt]; simp]
   refine q1a ⟨_,rfl,_,rfl,t,a,gs,xs,rfl,hS,SqT.of ea,q5y (J:=Itz K true true t a) (k:=2) (n:=ps.length) (fun _=>true) (fun i=>.bl ((ps.getD i fun _=>true) (ds.getD i .non))) (by rw [sizeLine_eq]; omega) ?_ ?_ ?_ ?_⟩
   ·intro i H2 hi s1
    have i1:i < gs.length:=by omega
    have i2:i < xs.length:=by omega
    exact⟨gs,xs,gs[i],xs[i],SqT.same hS s1,SqT.of (s1 _ _ ea),by simp [i1],by simp [i2]⟩
   ·intro H2 s1
    exact⟨gs,xs,SqT.same hS s1,SqT.of (s1 _ _ ea),.inl (by omega)⟩
   ·intro i H2 tt v H3 R hi s1 ht y hR
    obtain⟨q,x,y,rfl,hq,rfl,e1,e2⟩:=y
    have e1':=e1 _ (SqT.same hS s1)
    have e2':=e2 _ (SqT.of (s1 _ _ ea))
    obtain⟨g,p,rfl,hp,Tg⟩:=hT.get e1'
    obtain⟨di,hdi,Ii⟩:=r.get e2'
    have ht':∃ t0 t1,tt=[t0,t1]:=by
     match tt,ht with
     | [t0,t1],_=>exact⟨t0,t1,rfl⟩
    obtain⟨t0,t1,rfl⟩:=ht'
    refine⟨q,_,rfl,SqT.of q0c,rfl,_,_,rfl,_,_,rfl,rfl,⟨_,rfl,g,p,rfl,Tg,_,rfl,B,y,di,hB,rfl,(Ii.same s1).same (q0d hq),fun H' s2=>?_⟩⟩
    have hR':=hR [some (.ref g),some y] H' rfl ((q0d (o:=.tup [.ref g,y]) hq).trans s2)
    have g1:(ps.getD i fun _=>true)=p:=by rw [List.getD_eq_getElem?_getD,hp]; rfl
    have g2:ds.getD i .non=di:=by rw [List.getD_eq_getElem?_getD,hdi]; rfl
    rw [g1,g2] at hR'
    exact hR'
   ·intro D H' s1 hD hd
    refine⟨D,(List.range ps.length).map fun i=>(ps.getD i fun _=>true) (ds.getD i .non),rfl,SqL.of ?_,?_⟩
    ·rw [hd,List.filter_eq_self.mpr (fun _ _=>rfl),List.map_map]
     rfl
    ·rw [q8j hne]
     exact k1 H' s1
  ·rw [show (!decide (V.int (xs.length:Int)=V.int (gs.length:Int)))=true by rw [decide_eq_false (fun z=>hne (by have:=V.int.inj z; omega))]; rfl]
   have k2:=k1 H (q1h.refl _)
   rw [q7b hne] at k2
   exact q1f k2
 | non=>exact q1f (q1f (k H (q1h.refl _)))
 | bl _=>exact q1f (q1f (k H (q1h.refl _)))
 | int _=>exact q1f (q1f (k H (q1h.refl _)))
 | str _=>exact q1f (q1f (k H (q1h.refl _)))
 | lst _=>exact q1f (q1f (k H (q1h.refl _)))
theorem _root_.Kp.Cal.tl {name:Str} {k kk:Nat} {px:Str} {p:D→Bool} {g:Addr} (C:Cal P w K mg base name k [px] (spP p)) (hm:mg name=some (.ref g)) (hk:k≤kk):Tl P w K mg base kk g p:=by
 obtain⟨f,fd,F,m,kp,b⟩:=C.ex
 rw [hm] at m
 cases m
 exact⟨k,fd,px,hk,F,kp,b⟩
theorem _root_.Kp.Cal.at {name:Str} {k:Nat} {px:Str} {p:D→Bool} (C:Cal P w K mg base name k [px] (spP p)):∃ g,mg name=some (.ref g)∧∀ kk,k≤kk→Tl P w K mg base kk g p:=by
 obtain⟨f,fd,F,m,kp,b⟩:=id C.ex
 exact⟨f,m,fun kk h=>C.tl m h⟩
noncomputable def z0c:Sp:=fun vs H Q _=>∃ B v d,B≤100000∧vs=[v]∧Is B H v d∧Q (.str (q9y d)) H
theorem j7z:FnScope ["thing"] ["thing"] (q0e q6z):=fSc
theorem z1p {d:D} {r:List D} (h:z7b d=false):q9y (.tup (d::r)) = "" := by
 cases d with
 | str x=>cases h
 | _=>rfl
theorem z4n {d:D} (h:z7b d=true):∃ x,d=.str x:=by
 cases d with
 | str x=>exact⟨x,rfl⟩
 | _=>cases h
theorem x5a {f:Addr} {fd:FuncData} (F:Fun K "first_word" "first_word" q6z f fd) (T:Txt mg):FnOk P w K mg base CX0 1 f fd ["thing"] z0c:=by
 refine F.ok j7z (fun vs H Q E ⟨_,_,_,_,e,_⟩=>by subst e; rfl) (fun _ A _ s H vs Q E hr h=>?_)
 obtain⟨B,v,d,hB,rfl,I,k⟩:=h
 refine⟨_,x0t (q1e (PW.pt (q4x (q3h (q0n q5d rfl T.isi q3u (q0o (pv 0) (q0o (x4m rfl T.tuple q1r) q0a)))) (q4x (q0f j1w (q0n q0l rfl T.len PySem.boot_len (q0o (pv 0) q0a)) q0b (q0i _)) (q4w (q3h (q0n q5d rfl T.isi q3u (q0o (q1i q2q (pv 0) q0b (fun _ _=>rfl)) (q0o (x4m rfl T.str x9j) q0a)))))))) (q3l (q0g (q1i q2q (pv 0) q0b (fun _ _=>rfl)))) q0h)
  (q3l (q0g q0q)),?_⟩
 refine⟨_,rfl,_,_,_,_,rfl,I.ty,x4o K d,_,rfl,?_⟩
 cases d with
 | tup ds =>
  cases I with
  | @tup a xs _ ea hl r =>
  refine q1f ⟨_,rfl,a,xs,rfl,.inr (SqT.of ea),_,_,rfl,rfl,_,rfl,?_⟩
  cases r with
  | nil=>exact q1a (q1a k)
  | @cons x d0 xs0 ds0 Ix It =>
   rw [decide_eq_true (show (1:Int)≤(((x::xs0).length:Nat):Int) by simp; omega)]
   refine q1f ⟨_,rfl,a,_,0,x,rfl,rfl,SqT.of ea,q0k (j:=0) rfl,_,_,_,_,rfl,Ix.ty,z4b K d0,_,rfl,?_⟩
   cases hs:z7b d0 with
   | false =>
    rw [z1p hs] at k
    exact q1a k
   | true =>
    obtain⟨y,rfl⟩:=z4n hs
    cases Ix
    exact q1f ⟨_,rfl,a,_,0,_,rfl,rfl,SqT.of ea,q0k (j:=0) rfl,k⟩
 | non=>exact q1a (q1a k)
 | bl _=>exact q1a (q1a k)
 | int _=>exact q1a (q1a k)
 | str _=>exact q1a (q1a k)
 | lst _=>exact q1a (q1a k)
noncomputable def z9l (P:Program) (w:World) (K:Frag) (mg:Str→Option Value) (base:Heap) (kk:Nat):Sp:=fun vs H Q _=>∃ B v d tv,B≤100000∧vs=[v,tv]∧Is B H v d ∧
 ((tv=.non∧Q (.bl false) H)∨∃ t gs ps d0 ds,tv=.ref t∧d=.tup (d0::ds)∧SqT K H t gs∧Tls P w K mg base kk gs ps∧gs.length≤1000∧∀ H',q1h H H'→Q (.bl (q0w ps ds)) H')
theorem j7s:FnScope ["thing", "tellers"] ["thing", "tellers"] (q0e q3n):=fSc
theorem x4i (x:V) (xs:List V):q8c (x::xs) (some 1) none=xs:=by
 unfold q8c
 have e1:HT.sIx (x::xs).length 0 (some 1)=1:=by
  have:=HT.sIx_nat (x::xs).length 0 1
  rw [show ((1:Nat):Int)=1 from rfl] at this
  rw [this,List.length_cons]
  omega
 rw [e1,HT.sIx_none,List.take_of_length_le (by simp)]
 rfl
theorem j4k {f:Addr} {fd:FuncData} {kk:Nat} (F:Fun K "fits_behind_word" "fits_behind_word" q3n f fd) (T:Txt mg) (CF:Cal P w K mg base "fits" (kk+1) ["thing", "tellers"] (x6j P w K mg base kk)) :
  FnOk P w K mg base CX0 (kk+2) f fd ["thing", "tellers"] (z9l P w K mg base kk):=by
 refine F.ok j7s (fun vs H Q E ⟨_,_,_,_,_,e,_⟩=>by subst e; rfl) (fun _ A _ s H vs Q E hr h=>?_)
 obtain⟨B,v,d,tv,hB,rfl,I,hw⟩:=h
 refine⟨_,q3l (q0g (q3x (q5k q9z (pv 1) q1t (q0i _)) (q4q (q0s CF hr (q0o (q1g x3j (pv 0) (q1m q0b) q1p) (q0o (pv 1) q0a)))))),?_⟩
 rcases hw with ⟨rfl,k⟩ | ⟨t,gs,ps,d0,ds,rfl,rfl,hS,hT,hg,k⟩
 ·exact⟨_,rfl,rfl,_,rfl,q1a k⟩
 ·cases I with
  | @tup a xs _ ea hl r =>
  cases r with
  | @cons x _ xs0 _ Ix It =>
  refine⟨_,rfl,rfl,_,rfl,q1f ⟨_,rfl,1,rfl,a,_,rfl,SqT.of ea,fun z=>?_,fun p hp=>?_⟩⟩
  ·have z1:=z.1
   have e:=HT.sIx_nat (x::xs0).length 0 1
   rw [show ((1:Nat):Int)=1 from rfl] at e
   rw [e,List.length_cons] at z1
   omega
  ·rw [x4i]
   have s1:=q0d (o:=HO.tup xs0) hp
   exact⟨_,rfl,B,.ref p,.tup ds,t,gs,ps,hB,rfl,.tup q0c (by simp at hl; omega) (It.same s1),SqT.same hS s1,hT,hg,fun H' s2=>k H' (s1.trans s2)⟩
theorem x8k {tb:List (Str × List (D→Bool))} {d:D} {ps:List (D→Bool)} (h:tb.lookup (q9y d)=some ps) (h0:tb.lookup ("" : Str)=none):∃ x r,d=.tup (.str x::r)∧q9j tb d=q0w ps r:=by
 obtain⟨r,e⟩:=x8t (d:=d) rfl (fun z=>by rw [z,h0] at h; cases h)
 generalize q9y d=x at e h
 subst e
 refine⟨_,r,rfl,?_⟩
 show (match tb.lookup x with | some ps=>q0w ps r | none=>false)=_
 rw [h]
theorem z1q {tb:List (Str × List (D→Bool))} {x:Str} {ps:List (D→Bool)} (h:tb.lookup x=some ps):(x,ps)∈tb:=L2.q1v h
structure TabOk (P:Program) (w:World) (K:Frag) (mg:Str→Option Value) (base:Heap) (name:Str) (kk:Nat) (tb:List (Str × List (D→Bool))):Prop where
 ex:∃ a es n,mg name=some (.ref a)∧K.lookup a=some ⟨.type "dict",none,.dict es n,#[]⟩∧(a==sysModules)=false∧Tbl P w K mg base kk es.toList tb
 no:tb.lookup ("" : Str)=none
 few:∀ q∈tb,q.2.length≤1000
theorem q8i (es:Array DictEntry) (x:Str):findBy Value.isStrOf es x=((es.toList.find? fun e=>Value.isStrOf x e.key).map (·.val)):=by
 unfold findBy
 rw [← Array.find?_toList]
theorem j7q:FnScope ["thing"] ["thing"] (q0e x2h):=fSc
theorem j0r {f:Addr} {fd:FuncData} {kk:Nat} {tb:List (Str × List (D→Bool))} (F:Fun K "is_deed" "is_deed" x2h f fd) (TB:TabOk P w K mg base "DEED_TELLERS" kk tb)
  (CW:Cal P w K mg base "first_word" 1 ["thing"] z0c) (CB:Cal P w K mg base "fits_behind_word" (kk+2) ["thing", "tellers"] (z9l P w K mg base kk)):FnOk P w K mg base CX0 (kk+3) f fd ["thing"] (spP (q9j tb)):=by
 refine F.ok j7q q5p (fun _ A _ s H vs Q E hr h=>?_)
 obtain⟨B,v,d,hB,rfl,I,k⟩:=h
 obtain⟨aD,es,n,mD,lD,hsys,hT⟩:=TB.ex
 refine⟨_,q3l (q0g (q0s CB hr (q0o (pv 0) (q0o (x4y (q6i rfl mD) (q0o (q0s CW (hr.mono (by omega)) (q0o (pv 0) q0a)) q0a)) q0a)))),?_⟩
 obtain⟨vv,rel,hv⟩:=hT.find (x:=q9y d)
 rw [← q8i] at rel
 refine⟨_,rfl,aD,es,n,rfl,lD,hT.keys,hsys,_,rfl,B,v,d,hB,rfl,I,_,vv,rfl,rel,B,v,d,vv,hB,rfl,I,?_⟩
 rcases hv with ⟨hn,rfl⟩ | ⟨ps,t,gs,hs,rfl,hq,ht⟩
 ·have k0:=k H (q1h.refl _)
  rw [x8i hn] at k0
  exact .inl ⟨rfl,k0⟩
 ·obtain⟨x,r,rfl,e⟩:=x8k hs TB.no
  refine .inr ⟨t,gs,ps,_,r,rfl,rfl,hq H,ht,?_,fun H' s'=>?_⟩
  ·rw [ht.length]; exact TB.few _ (z1q hs)
  ·have k0:=k H' s'
   rw [e] at k0
   exact k0
theorem j8n:FnScope ["thing"] ["thing"] (q0e q4d):=fSc
theorem x2s {f:Addr} {fd:FuncData} (F:Fun K "is_from_nought" "is_from_nought" q4d f fd) (T:Txt mg) (CW:Cal P w K mg base "is_whole" 1 ["thing"] (spP whole)):FnOk P w K mg base CX0 2 f fd ["thing"] (spP (geD 0)):=by
 refine F.ok j8n q5p (fun _ A _ s H vs Q E hr h=>?_)
 obtain⟨B,v,d,hB,rfl,I,k⟩:=h
 refine⟨_,q3l (q0g (q3x (q0s CW hr (q0o (pv 0) q0a)) (q4q (q5k j1w (pv 0) q0b (q0i _))))),?_⟩
 refine⟨_,rfl,B,v,d,hB,rfl,I,fun H' s'=>⟨_,rfl,?_⟩⟩
 have k0:=k H' s'
 cases e:whole d with
 | false=>rw [z8b e] at k0; exact q1a k0
 | true =>
  obtain⟨i,rfl⟩:=x7a e
  cases I
  exact q1f ⟨_,rfl,_,_,rfl,rfl,k0⟩
theorem ge_int {l:Int} {d:D} (h:geD l d=true):∃ i,d=.int i:=by
 cases d with
 | int i=>exact⟨i,rfl⟩
 | _=>cases h
end
end K1
namespace L2
open PySem PySem.Spec PyProof.Rows
theorem z0g {P:Program} {w:World} {A:Around} {E:Value→Shared→Prop} {s:Shared} {t:Addr} {xs:Array (Int × Tok)} {R:Value→Shared→Prop} (hh:A.handled=none) (ht:s.heap.IsTuple t (intItems xs)) (hz:0 < xs.size)
  (h:∀ v h' tk,(intItems xs)[argBest (fun i j=>decide (numAt xs i > numAt xs j)) (xs.size - 1)]? = some v→(∀ b o,s.heap.get? b=some o→h'.get? b=some o)→R v { s with heap:=h',toks:=tk }) :
  wpAny (model P w) A (call (.builtin "max") [.ref t]) R E s:=by
 obtain⟨o,ho,hc,n,hd⟩:=id ht
 have hne:t≠s.heap.objs.size:=Nat.ne_of_lt (Heap.lt_size ho)
 refine call_max_walk (wpAny_pyIter_tuple ht ?_)
 refine⟨s.heap.objs.size,_,_,_,_,_,_,rfl,Walks.tuple (A:=A.in1) hh s.heap.objs.size t hne (intItems xs),⟨⟨_,Heap.get?_push_size _ rfl,rfl,rfl⟩,ht.at fun o e=>Heap.get?_push_of_some _ e⟩,fun b hb=>?_,by simpa [intItems] using hz,CmpOf.ints_gt (numAt xs) (fun _ _=>intItems_at),fun v h' tk hP hk=>?_⟩
 ·rcases List.mem_cons.mp hb with rfl | hb
  ·exact Heap.lt_size (Heap.get?_push_size _ rfl)
  ·obtain rfl:=List.mem_singleton.mp hb
   exact Heap.lt_size (Heap.get?_push_of_some _ ho)
 ·exact h v h' tk (by simpa [intItems] using hP) fun b o e=>hk b o (fun hb=>absurd (Heap.lt_size e) ((List.mem_singleton.mp hb)▸Nat.lt_irrefl _)) (Heap.get?_push_of_some _ e)
section
variable {X:Cx}
theorem z3j (hc:X.calm=true):x0l X (.builtin "max") (fun vs H Q=>∃ (p:Addr) (ys:List Int),vs=[.ref p]∧SqT X.K H p (ys.map V.int)∧ys≠[]∧∀ m∈ys,(∀ y∈ys,y≤m)→Q (.int m) H):=by
 intro pins s σ H xs us Q I r h
 obtain⟨p,ys,rfl,hq,hne,q⟩:=h
 obtain⟨u,rfl,rx⟩:=x0q r
 cases rx
 obtain⟨its,rv,pl,hz⟩:=I.tuple hq
 obtain⟨zs,rfl,rfl⟩:=x3f rv
 have hlen:0 < zs.length:=List.length_pos_iff.mpr fun e=>hne (by rw [e]; rfl)
 have el:intItems zs.toArray=(zs.map fun p=>Value.int p.1 p.2).toArray:=by simp [intItems]
 refine z0g (xs:=zs.toArray) (I.ok.hd hc) (by rw [el]; exact pl) (by simpa using hlen) fun v h' tk hv k=>?_
 obtain⟨t,rfl⟩:=intItems_at hv
 obtain⟨b1,b2⟩:=argBest_gt (numAt zs.toArray) (zs.toArray.size - 1)
 generalize argBest (fun i j=>decide (numAt zs.toArray i > numAt zs.toArray j)) (zs.toArray.size - 1)=j at b1 b2
 have hj:j < zs.length:=by simp at b1; omega
 refine⟨.int (numAt zs.toArray j),H,I.kept k,⟨t,rfl⟩,q _ ?_ fun y hy=>?_⟩
 ·rw [z8n hj]; exact List.getElem_mem _
 ·obtain⟨i,hi,rfl⟩:=List.getElem_of_mem hy
  have hi':i < zs.length:=by simpa using hi
  have:=b2 i (by simp; omega)
  rw [z8n hi'] at this
  exact this
end
end L2
namespace Kp
open PySem L2
theorem IsL.un {B:Nat} {H:Hp} {vs:List V} {d:D} {ds:List D} (h:IsL B H vs (d::ds)):∃ v us,vs=v::us∧Is B H v d∧IsL B H us ds:=by
 cases h with | cons a b=>exact⟨_,_,rfl,a,b⟩
theorem IsL.un0 {B:Nat} {H:Hp} {vs:List V} (h:IsL B H vs []):vs=[]:=by cases h; rfl
theorem Is.vint {B:Nat} {H:Hp} {v:V} {i:Int} (h:Is B H v (.int i)):v=.int i:=by cases h; rfl
theorem Is.vstr {B:Nat} {H:Hp} {v:V} {i:Str} (h:Is B H v (.str i)):v=.str i:=by cases h; rfl
theorem Is.vtup {B:Nat} {H:Hp} {v:V} {ds:List D} (h:Is B H v (.tup ds)):∃ a vs,v=.ref a∧H a=some (.tup vs)∧vs.length≤B∧IsL B H vs ds:=by cases h with | tup e l r=>exact⟨_,_,rfl,e,l,r⟩
end Kp
namespace K1
open PySem L2 Kp
section
variable {P:Program} {w:World} {K:Frag} {mg:Str→Option Value} {base:Heap}
noncomputable def z2t:Sp:=fun vs H Q _=>∃ B k v d,B≤100000∧vs=[.str k,v]∧Is B H v d∧∀ H',q1h H H'→Q (.bl (q2h k d)) H'
theorem j8f:FnScope ["kind", "thing"] ["kind", "thing"] (q0e x1i):=fSc
theorem z1e {f:Addr} {fd:FuncData} {kk k1 k2 k3 k4 k5:Nat} (F:Fun K "is_part" "is_part" x1i f fd) (CK:Cal P w K mg base "is_keeper" k1 ["thing"] (spP q2f)) (h1:k1≤kk) (CN:Cal P w K mg base "is_name" k2 ["thing"] (spP q1w)) (h2:k2≤kk) (CD:Cal P w K mg base "is_deed" k3 ["thing"] (spP q9h)) (h3:k3≤kk) (CS:Cal P w K mg base "is_seats" k4 ["thing"] (spP q2u)) (h4:k4≤kk) (CF:Cal P w K mg base "is_from_nought" k5 ["thing"] (spP (geD 0))) (h5:k5≤kk):FnOk P w K mg base CX0 (kk+1) f fd ["kind", "thing"] z2t:=by
 refine F.ok j8f (fun vs H Q E ⟨_,_,_,_,_,e,_⟩=>by subst e; rfl) (fun _ A _ s H vs Q E hr h=>?_)
 obtain⟨B,k,v,d,hB,rfl,I,q⟩:=h
 refine⟨_,@q0j _ _ _ _ _ (q1e (q0f q1s (pv 0) q0q (q0i _)) (@q0m _ _ _ (q0g (q0s CK (hr.mono h1) (q1c (pv 1) q0a)))) q0h)
  (@q0j _ _ _ _ _ (q1e (q0f q1s (pv 0) q0q (q0i _)) (@q0m _ _ _ (q0g (q0s CN (hr.mono h2) (q1c (pv 1) q0a)))) q0h)
  (@q0j _ _ _ _ _ (q1e (q0f q1s (pv 0) q0q (q0i _)) (@q0m _ _ _ (q0g (q0s CD (hr.mono h3) (q1c (pv 1) q0a)))) q0h)
  (@q0j _ _ _ _ _ (q1e (q0f q1s (pv 0) q0q (q0i _)) (@q0m _ _ _ (q0g (q0s CS (hr.mono h4) (q1c (pv 1) q0a)))) q0h)
  (@q0m _ _ _ (q0g (q3x (q0s CF (hr.mono h5) (q1c (pv 1) q0a)) (q4q (q5k x2p (pv 1) (q0p x5x q0b q0b) (q0i _))))))))),?_⟩
 unfold q2h at q
 refine⟨_,rfl,rfl,_,rfl,?_⟩
 by_cases e1:k = "keeper"
 ·rw [decide_eq_true (show V.str k=V.str "keeper" by rw [e1])]
  rw [if_pos e1] at q
  exact q1f ⟨_,rfl,B,v,d,hB,rfl,I,q⟩
 rw [decide_eq_false (fun z=>e1 (V.str.inj z))]
 rw [if_neg e1] at q
 refine q1a ⟨_,rfl,rfl,_,rfl,?_⟩
 by_cases e2:k = "name"
 ·rw [decide_eq_true (show V.str k=V.str "name" by rw [e2])]
  rw [if_pos e2] at q
  exact q1f ⟨_,rfl,B,v,d,hB,rfl,I,q⟩
 rw [decide_eq_false (fun z=>e2 (V.str.inj z))]
 rw [if_neg e2] at q
 refine q1a ⟨_,rfl,rfl,_,rfl,?_⟩
 by_cases e3:k = "deed"
 ·rw [decide_eq_true (show V.str k=V.str "deed" by rw [e3])]
  rw [if_pos e3] at q
  exact q1f ⟨_,rfl,B,v,d,hB,rfl,I,q⟩
 rw [decide_eq_false (fun z=>e3 (V.str.inj z))]
 rw [if_neg e3] at q
 refine q1a ⟨_,rfl,rfl,_,rfl,?_⟩
 by_cases e4:k = "seats"
 ·rw [decide_eq_true (show V.str k=V.str "seats" by rw [e4])]
  rw [if_pos e4] at q
  exact q1f ⟨_,rfl,B,v,d,hB,rfl,I,q⟩
 rw [decide_eq_false (fun z=>e4 (V.str.inj z))]
 rw [if_neg e4] at q
 refine q1a ⟨_,rfl,B,v,d,hB,rfl,I,fun H1 s1=>⟨_,rfl,?_⟩⟩
 cases d with
 | int i =>
  cases I
  have q1:=q H1 s1
  cases hg:geD 0 (.int i) with
  | false =>
   have h0:x9c (.int i)=false:=by
    show (decide (0≤i) && decide (i < 1000000))=false
    rw [show decide (0≤i)=false from hg]; rfl
   rw [h0] at q1
   exact q1a q1
  | true =>
   have h0:x9c (.int i)=decide (i < (10:Int) ^ (6:Int).toNat):=by
    show (decide (0≤i) && decide (i < 1000000))=_
    rw [show decide (0≤i)=true from hg]; rfl
   rw [h0] at q1
   exact q1f ⟨_,rfl,_,_,rfl,rfl,⟨by decide,by decide,by decide⟩,_,_,rfl,rfl,q1⟩
 | _=>exact q1a (q H1 s1)
structure PTab (K:Frag) (mg:Str→Option Value) (w:World):Prop where
 ex:∃ a es n,mg "PARTS" = some (.ref a)∧K.lookup a=some ⟨.type "dict",none,.dict es n,#[]⟩∧PySem.W.KeysLit w.params es.toList∧(a==sysModules)=false ∧
  ∀ x,(q2n.lookup x=none∧findBy Value.isStrOf es x=none)∨∃ ks t,q2n.lookup x=some ks∧findBy Value.isStrOf es x=some (.ref t)∧∀ H,SqT K H t (ks.map V.str)
theorem j7o:FnScope ["thing", "kinds"] ["thing"] (q0e q2k):=fSc
theorem z9r (xs:List V):q8c xs (some 1) none=xs.drop 1:=by
 unfold q8c
 have e:=HT.sIx_nat xs.length 0 1
 rw [show ((1:Nat):Int)=1 from rfl] at e
 rw [HT.sIx_none,e]
 cases xs with
 | nil=>rfl
 | cons x r=>rw [Nat.min_eq_left (by simp)]; exact List.take_of_length_le (by simp)
theorem z0f {f:Addr} {fd:FuncData} {kk:Nat} (F:Fun K "is_deed_of_schedule" "is_deed_of_schedule" q2k f fd) (T:Txt mg) (TB:PTab K mg w) (CW:Cal P w K mg base "first_word" 1 ["thing"] z0c) (CP:Cal P w K mg base "is_part" (kk+1) ["kind", "thing"] z2t):FnOk P w K mg base CX0 (kk+2) f fd ["thing"] (spP q3f):=by
 refine F.ok j7o q5p (fun _ A _ s H vs Q E hr h=>?_)
 obtain⟨B,v,d,hB,rfl,I,k⟩:=h
 obtain⟨aD,es,n,mD,lD,hK,hsys,hT⟩:=TB.ex
 refine⟨_,@q0j _ _ _ _ _ (q0y (i:=1) j7o.nd (by rfl) (by exact Or.inl rfl) (x4y (q6i (by rfl) mD) (q9l (q0s CW (hr.mono (by omega)) (q1c (pv 0) q0a)) q0a)))
  (@q0j _ _ _ _ _ (q1e (PW.pt (q5j (q0f q6s (pv 1) q1t (q0i _)) (q5b (q0f x5t (q0n q0l (by rfl) T.len PySem.boot_len (q1c (pv 0) q0a)) (q0p q4f q0b (q0n q0l (by rfl) T.len PySem.boot_len (q1c (pv 1) q0a))) (q0i _))))) (@q0m _ _ _ (q0g x7c)) q0h)
  (@q0m _ _ _ (q0g (q0n (q7j rfl) (by rfl) T.all q5r (q0o (q6j (NB:=["kind", "part"]) (n:=2) (fr:=[]) (q8k (outer:=q0e q2k) (by rfl) (by decide +kernel) (by rfl)) (by rfl)
   (z4h (t1:=true) (t2:=true) (by rfl) T.zip (q1c (pv 1) (q6q (q1g x3j (pv 0) (q1m q0b) q1p) q0a)))
   (fun _ _ _ _ _=>x8h (K:=K) (n:=2) (by rfl) (by rfl) (q7g (q1x (i:=0) (show (["kind", "part"]:List Str).Nodup by decide +kernel) (by rfl) (by exact Or.inl rfl)) (q7g (q1x (i:=1) (show (["kind", "part"]:List Str).Nodup by decide +kernel) (by rfl) (by exact Or.inl rfl)) x7t))) (fun _ _ _ _ _=>q3a)
   (fun _ _ _ _ _=>q0s CP hr (q1c (pv 0) (q1c (pv 1) q0a)))) q0a))))),?_⟩
 refine⟨aD,es,n,rfl,lD,hK,hsys,_,rfl,B,v,d,hB,rfl,I,?_⟩
 rcases hT (q9y d) with ⟨e1,e2⟩ | ⟨ks,t,e1,e2,hS⟩
 ·refine⟨_,.non,rfl,by rw [e2]; rfl,?_⟩
  have k0:=k H (q1h.refl _)
  rw [x2y e1] at k0
  exact⟨_,rfl,rfl,_,rfl,q1f (q1f k0)⟩
 ·obtain⟨x,r,rfl,e3,e4⟩:=x3m e1
  rw [e4] at k
  refine⟨_,.ref t,rfl,by rw [e2]; rfl,?_⟩
  obtain⟨a,xs,rfl,ea,hl,rr⟩:=Is.vtup I
  obtain⟨y0,xs,rfl,i0,r0⟩:=IsL.un rr
  have hlen:=r0.length
  have hks:(ks.map V.str).length=ks.length:=List.length_map ..
  refine⟨_,rfl,rfl,_,rfl,?_⟩
  rw [decide_eq_false (show ¬ (V.ref t=V.non) by intro z; cases z)]
  refine q1a ⟨_,rfl,a,_,rfl,.inr (SqT.of ea),_,rfl,t,_,rfl,.inr (hS H),_,_,rfl,rfl,rfl,_,rfl,?_⟩
  by_cases hne:r.length=ks.length
  ·rw [show (!decide (V.int (((y0::xs).length:Nat):Int)=V.int (1+((ks.map V.str).length:Int))))=false by rw [hks,List.length_cons,hlen,hne,decide_eq_true (by congr 1; omega)]; rfl]
   refine q1a ⟨_,rfl,_,rfl,_,rfl,a,_,rfl,SqT.of ea,?_,fun p hp=>?_⟩
   ·rintro⟨z1,_⟩
    have e:=HT.sIx_nat (y0::xs).length 0 1
    rw [show ((1:Nat):Int)=1 from rfl,z1,List.length_cons] at e
    omega
   rw [z9r,List.drop_one,List.tail_cons]
   have s1:=q0d (o:=HO.tup xs) hp
   have fitK:(ks.map q2h).length=ks.length:=List.length_map ..
   refine⟨t,p,_,xs,rfl,hS _,SqT.of q0c,q5y (J:=Itz K true true t p) (k:=2) (n:=ks.length) (fun _=>true) (fun i=>.bl (((ks.map q2h).getD i fun _=>true) (r.getD i .non))) (by rw [sizeLine_eq]; have:=(q5v e3).1; omega) ?_ ?_ ?_ ?_⟩
   ·intro i H2 hi s2
    have i1:i < (ks.map V.str).length:=by omega
    have i2:i < xs.length:=by omega
    exact⟨_,xs,(ks.map V.str)[i],xs[i],hS _,SqT.of (s2 _ _ q0c),by rw [List.getElem?_eq_getElem i1],by rw [List.getElem?_eq_getElem i2]⟩
   ·intro H2 s2
    exact⟨_,xs,hS _,SqT.of (s2 _ _ q0c),.inl (by omega)⟩
   ·intro i H2 tt v H3 R hi s2 ht y hR
    obtain⟨q,x1,y,rfl,hq,rfl,e1',e2'⟩:=y
    have e1':=e1' _ (hS _)
    have e2':=e2' _ (SqT.of (s2 _ _ q0c))
    rw [List.getElem?_map] at e1'
    obtain⟨kd,hkd,rfl⟩:∃ kd,ks[i]? = some kd∧x1=V.str kd:=by
     cases z:ks[i]? with
     | none=>rw [z] at e1'; cases e1'
     | some kd=>rw [z] at e1'; exact⟨kd,rfl,(Option.some.inj e1').symm⟩
    obtain⟨di,hdi,Ii⟩:=r0.get e2'
    have ht':∃ t0 t1,tt=[t0,t1]:=by
     match tt,ht with
     | [t0,t1],_=>exact⟨t0,t1,rfl⟩
    obtain⟨t0,t1,rfl⟩:=ht'
    refine⟨q,_,rfl,SqT.of q0c,rfl,_,_,rfl,_,_,rfl,rfl,⟨_,rfl,_,rfl,B,kd,y,di,hB,rfl,((Ii.same s1).same s2).same (q0d hq),fun H' s3=>?_⟩⟩
    have hR':=hR [some (.str kd),some y] H' rfl ((q0d (o:=.tup [.str kd,y]) hq).trans s3)
    have g1:((ks.map q2h).getD i fun _=>true)=q2h kd:=by rw [List.getD_eq_getElem?_getD,List.getElem?_map,hkd]; rfl
    have g2:r.getD i .non=di:=by rw [List.getD_eq_getElem?_getD,hdi]; rfl
    rw [g1,g2] at hR'
    exact hR'
   ·intro D H' s2 hD hd
    refine⟨D,(List.range ks.length).map fun i=>((ks.map q2h).getD i fun _=>true) (r.getD i .non),rfl,SqL.of ?_,?_⟩
    ·rw [hd,List.filter_eq_self.mpr (fun _ _=>rfl),List.map_map]
     rfl
    ·have:=q8j (ps:=ks.map q2h) (ds:=r) (by rw [fitK]; exact hne)
     rw [fitK] at this
     rw [this]
     exact k H' (s1.trans s2)
  ·rw [show (!decide (V.int (((y0::xs).length:Nat):Int)=V.int (1+((ks.map V.str).length:Int))))=true by rw [hks,List.length_cons,hlen,decide_eq_false (fun z=>hne (by have:=V.int.inj z; omega))]; rfl]
   have k2:=k H (q1h.refl _)
   rw [q7b (by rw [List.length_map]; exact hne)] at k2
   exact q1f k2
theorem j8b:FnScope ["thing"] ["thing"] (q0e q9v):=fSc
theorem x7n {f:Addr} {fd:FuncData} (F:Fun K "is_count" "is_count" q9v f fd) (CW:Cal P w K mg base "is_whole" 1 ["thing"] (spP whole)):FnOk P w K mg base CX0 2 f fd ["thing"] (spP q7z):=by
 refine F.ok j8b q5p (fun _ A _ s H vs Q E hr h=>?_)
 obtain⟨B,v,d,hB,rfl,I,k⟩:=h
 refine⟨_,@q0m _ _ _ (q0g (q3x (q0s CW hr (q1c (pv 0) q0a)) (q4q (q7o x0n x0n q0b (pv 0) q0b)))),?_⟩
 refine⟨_,rfl,B,v,d,hB,rfl,I,fun H1 s1=>⟨_,rfl,?_⟩⟩
 cases d with
 | int i =>
  cases I
  have k1:Q (.bl (decide (1≤i) && decide (i≤9))) H1:=k H1 s1
  refine q1f ⟨_,rfl,_,_,rfl,rfl,_,rfl,z4f (fun h=>?_) (fun h=>?_)⟩
  ·rw [h] at k1
   exact⟨_,_,rfl,rfl,k1⟩
  ·rw [Bool.eq_false_iff.mpr h] at k1
   exact k1
 | _=>exact q1a (k H1 s1)
theorem z2p:bootBuiltins "max" = some (.builtin "max"):=by decide +kernel
theorem j3n (p:D→Bool) (d:D):j5f p d=j6i p d:=by cases d <;> rfl
theorem j8c:FnScope ["thing"] ["thing"] (q0e x0b):=fSc
theorem x8o {f:Addr} {fd:FuncData} {kk:Nat} {tk:Tok} (F:Fun K "is_deeds" "is_deeds" x0b f fd) (T:Txt mg) (hD:mg "DEEDS_AT_MOST" = some (.int 300 tk)) (CE:Cal P w K mg base "is_deed_of_schedule" kk ["thing"] (spP q3f))
  (CR:∀ g gd,FnOk P w K mg base CX0 kk g gd ["thing"] (spP q3f)→keepIn K (.ref g)=true→q2i K gd ["thing"] []→Cal P w K mg base "is_row_of" (kk+1) ["thing", "teller"] (j1o g q3f)):FnOk P w K mg base CX0 (kk+2) f fd ["thing"] (spP q8b):=by
 refine F.ok j8c q5p (fun _ A _ s H vs Q E hr h=>?_)
 obtain⟨B,v,d,hB,rfl,I,k⟩:=h
 obtain⟨g,gd,G,m,kp,b⟩:=CE.ex
 obtain⟨gR,dR,GR,mR,kR,bR⟩:=(CR g gd G kp b).ex
 refine⟨_,@q0m _ _ _ (q0g (q3x (q9n GR hr (by rfl) mR kR bR .nil q5g (q1c (pv 0) (q1c (q6i (by rfl) m) q0a))) (q4q (q5k x0n (q0n q0l (by rfl) T.len PySem.boot_len (q1c (pv 0) q0a)) (z5j (v:=V.int 300) (by rfl) hD ⟨_,rfl⟩ (by decide +kernel)) (q0i _))))),?_⟩
 refine⟨_,rfl,B,v,d,hB,rfl,I,fun H1 s1=>⟨_,rfl,?_⟩⟩
 have k0:=k H1 s1
 unfold q8b at k0
 rw [← j3n] at k0
 cases hr0:j5f q3f d with
 | false=>rw [hr0] at k0; exact q1a k0
 | true =>
  rw [hr0] at k0
  obtain⟨ds,rfl⟩:∃ ds,d=.tup ds:=by
   cases d with
   | tup ds=>exact⟨ds,rfl⟩
   | _=>cases hr0
  obtain⟨a,xs,rfl,ea,hl,rr⟩:=Is.vtup I
  refine q1f ⟨_,rfl,a,xs,rfl,.inr (SqT.of (s1 _ _ ea)),_,_,rfl,rfl,?_⟩
  have e:decide ((xs.length:Int)≤300)=decide (j6u (.tup ds)≤300):=by
   have hlen:=rr.length
   show decide ((xs.length:Int)≤300)=decide (ds.length≤300)
   rw [hlen]
   exact decide_eq_decide.mpr (by omega)
  show Q (V.bl (decide ((xs.length:Int)≤300))) H1
  rw [e]
  exact k0
theorem j8y:FnScope ["thing"] ["thing"] (q0e q6e):=fSc
theorem x0z:∀ {ds:List D},ds.all q2f=true→ds=(q1z ds).map D.int
 | [],_=>rfl
 | d::ds,h=>by
  rw [List.all_cons,Bool.and_eq_true] at h
  cases d with
  | int i=>show D.int i::ds=D.int i::(q1z ds).map D.int; rw [← x0z h.2]
  | _=>cases h.1
theorem q6k {B:Nat} {H:Hp}:∀ {ns:List Int} {vs:List V},IsL B H vs (ns.map D.int)→vs=ns.map V.int
 | [],_,.nil=>rfl
 | n::ns,_,.cons h t=>by cases h; rw [q6k t]; rfl
theorem x2q {f:Addr} {fd:FuncData} {kk k1 k2 k3:Nat} (F:Fun K "is_schedule" "is_schedule" q6e f fd) (hmx:mg "max" = none) (C1:Cal P w K mg base "is_count" k1 ["thing"] (spP q7z)) (C2:Cal P w K mg base "is_seats" k2 ["thing"] (spP q2u)) (C3:Cal P w K mg base "is_deeds" k3 ["thing"] (spP q8b)) (h1:k1≤kk) (h2:k2≤kk) (h3:k3≤kk)
  (CF:Cal P w K mg base "fits" (kk+1) ["thing", "tellers"] (x6j P w K mg base kk)):FnOk P w K mg base CX0 (kk+2) f fd ["thing"] (spP q5a):=by
 refine F.ok j8y q5p (fun _ A _ s H vs Q E hr h=>?_)
 obtain⟨B,v,d,hB,rfl,I,k⟩:=h
 obtain⟨g1,m1,t1⟩:=C1.at
 obtain⟨g2,m2,t2⟩:=C2.at
 obtain⟨g3,m3,t3⟩:=C3.at
 refine⟨_,@q0m _ _ _ (q0g (q3x (q0s CF hr (q1c (pv 0) (j5b (q2g (q1c (q6i (by rfl) m1) (q1c (q6i (by rfl) m2) (q1c (q6i (by rfl) m3) q0a)))) q0a))) (q4q (q5k x2p (q0n (z3j rfl) (by rfl) hmx z2p (q6q (q1i q2q (pv 0) q0b q3t) q0a)) (q1i q2q (pv 0) q0b q3t) (q0i _))))),?_⟩
 refine⟨_,rfl,(by show 3≤sizeLine; rw [sizeLine_eq]; decide),fun p hp=>⟨B,v,d,p,_,[q7z,q2u,q8b],hB,rfl,I.same (q0d hp),SqT.of q0c,.cons (t1 kk h1) (.cons (t2 kk h2) (.cons (t3 kk h3) .nil)),(by show 3≤1000; decide),fun H1 s1=>⟨_,rfl,?_⟩⟩⟩
 have sH:=(q0d hp).trans s1
 have k0:=k H1 sH
 unfold q5a at k0
 cases hf:z4x [q7z,q2u,q8b] d with
 | false=>rw [hf] at k0; exact q1a k0
 | true =>
  rw [hf] at k0
  obtain⟨ds,rfl,hfl⟩:=x6g hf
  obtain⟨d1,d2,d3,rfl,hc,hs,_⟩:∃ d1 d2 d3,ds=[d1,d2,d3]∧q7z d1=true∧q2u d2=true∧q8b d3=true:=by
   match ds,hfl with
   | [d1,d2,d3],h =>
    simp only [q0w,Bool.and_eq_true,Bool.and_true] at h
    exact⟨d1,d2,d3,rfl,h.1,h.2.1,h.2.2⟩
   | [],h=>cases h
   | [_],h=>simp [q0w] at h
   | [_,_],h=>simp [q0w] at h
   | _::_::_::_::_,h=>simp [q0w] at h
  obtain⟨c,rfl⟩:∃ c,d1=.int c:=by cases d1 <;> first | exact⟨_,rfl⟩ | cases hc
  obtain⟨ss,rfl,hk,hn1⟩:∃ ss,d2=.tup ss∧ss.all q2f=true∧1≤ss.length:=by
   cases d2 with
   | tup ss =>
    have hs':(ss.all q2f && ((decide (1≤ss.length) && decide (ss.length≤9)) && q7a (q1z ss)))=true:=hs
    rw [Bool.and_eq_true,Bool.and_eq_true,Bool.and_eq_true,decide_eq_true_eq] at hs'
    exact⟨ss,rfl,hs'.1,hs'.2.1.1⟩
   | _=>cases hs
  have hne:q1z ss≠[]:=fun z=>by
   rw [x0z hk,z] at hn1
   simp at hn1
  have k1:Q (.bl ((q1z ss).all fun i=>decide (i < c))) H1:=k0
  obtain⟨a,xs,rfl,ea,hl,rr⟩:=Is.vtup I
  obtain⟨y1,_,rfl,i1,r1⟩:=IsL.un rr
  obtain⟨y2,_,rfl,i2,r2⟩:=IsL.un r1
  obtain⟨b2,zs,rfl,eb,_,rz⟩:=Is.vtup i2
  cases i1
  have hz:zs=(q1z ss).map V.int:=q6k (by rw [← x0z hk]; exact rz)
  subst hz
  refine q1f ⟨_,rfl,a,_,1,.ref b2,rfl,rfl,SqT.of (sH _ _ ea),q0k (j:=1) rfl,b2,_,rfl,SqT.of (sH _ _ eb),hne,fun m hm hmax=>?_⟩
  refine⟨_,rfl,a,_,0,.int c,rfl,rfl,SqT.of (sH _ _ ea),q0k (j:=0) rfl,_,_,rfl,rfl,?_⟩
  have e:decide (m < c)=(q1z ss).all fun i=>decide (i < c):=by
   rw [Bool.eq_iff_iff,decide_eq_true_eq,List.all_eq_true]
   exact⟨fun h i hi=>decide_eq_true (Int.lt_of_le_of_lt (hmax i hi) h),fun h=>of_decide_eq_true (h m hm)⟩
  show Q (V.bl (decide (m < c))) H1
  rw [e]
  exact k1
end
end K1
namespace L2
open PySem PySem.Spec PyProof.Rows
noncomputable def q4b (x:Addr) (c:Value) (h:Heap):Prop:=∃ o vs,h.get? x=some o∧o.data=.fields vs∧vs[2]? = some c
theorem q4b.upd {x a:Addr} {c:Value} {h:Heap} {f:Obj→Obj} (hf:∀ o vs,o.data=.fields vs→∃ us,(f o).data=.fields us∧us[2]? = vs[2]?) (hx:q4b x c h):q4b x c (h.update a f):=by
 obtain⟨o,vs,e1,e2,e3⟩:=hx
 by_cases z:a=x
 ·subst z
  obtain⟨us,d,e⟩:=hf o vs e2
  exact⟨f o,us,Heap.get?_update_self f e1 (Obj.isFreed_of_fields d),d,e.trans e3⟩
 ·exact⟨o,vs,(Heap.get?_update_other _ _ z).trans e1,e2,e3⟩
structure Kee {α:Type} (t:Sem α):Prop where
 out:∀ (M:Model) (Γ:PySem.Ctx) (R:α→Pos→Shared→Prop) (Y:Value→Pos→Shared→Prop) (p:Pos) (s:Shared) (x:Addr) (c:Value),q4b x c s.heap→Sem.wp M Γ t R Y p s→Sem.wp M Γ t (fun a p' s'=>R a p' s'∧q4b x c s'.heap) Y p s
namespace Kee
variable {α β:Type}
theorem ret (a:α):Kee (Pure.pure a:Sem α):=⟨fun _ _ _ _ _ _ _ _ hc h=>⟨h,hc⟩⟩
theorem stop (w:String):Kee (PySem.unsupported w:Sem α):=⟨fun _ _ _ _ _ _ _ _ _ h=>h.elim⟩
theorem seq {m:Sem α} {f:α→Sem β} (hm:Kee m) (hf:∀ a,Kee (f a)):Kee (m >>= f):=⟨fun M Γ R Y p s x c hc h=>by
 rw [Sem.wp_bind'] at h ⊢
 exact Sem.wp_mono M Γ m (fun a p' s' h'=>(hf a).out M Γ R Y p' s' x c h'.2 h'.1) (fun _ _ _ z=>z) p s (hm.out M Γ _ Y p s x c hc h)⟩
theorem cond {c:Prop} [Decidable c] {t u:Sem α} (ht:Kee t) (hu:Kee u):Kee (if c then t else u):=by split <;> assumption
theorem look (a:Addr):Kee (PySem.load a):=⟨fun _ _ _ _ _ _ _ _ hc h=>let ⟨o,e,q⟩:=h; ⟨o,e,q,hc⟩⟩
theorem chg (a:Addr) {f:Obj→Obj} (hf:∀ o vs,o.data=.fields vs→∃ us,(f o).data=.fields us∧us[2]? = vs[2]?):Kee (PySem.update a f):=⟨fun _ _ _ _ _ _ _ _ hc h=>⟨h.1,h.2,hc.upd hf⟩⟩
theorem stk:Kee PySem.stack:=⟨fun M Γ R Y p s x c hc h=>by
 unfold PySem.stack at h ⊢
 rw [Sem.wp_stack] at h ⊢
 exact⟨h,hc⟩⟩
theorem new (o:Obj):Kee (PySem.alloc o):=⟨fun _ _ _ _ _ _ _ _ hc h=>⟨h,let ⟨o1,vs,e1,e2,e3⟩:=hc; ⟨o1,vs,Heap.get?_push_of_some _ e1,e2,e3⟩⟩⟩
theorem fld (v:Value) (i:Nat):Kee (PySem.field v i):=⟨fun _ Γ R Y p s x c hc h=>by
 rw [wp_field_iff] at h ⊢
 obtain⟨a,o,vs,y,h1,h2,h3,h4,h5⟩:=h
 exact⟨a,o,vs,y,h1,h2,h3,h4,h5,hc⟩⟩
theorem put (v:Value) {i:Nat} (y:Value) (hi:i≠2):Kee (PySem.setField v i y):=⟨fun _ Γ R Y p s x c hc h=>by
 rw [wp_setField_iff] at h ⊢
 obtain⟨a,o,vs,h1,h2,h3,h4,h5⟩:=h
 refine⟨a,o,vs,h1,h2,h3,h4,h5,hc.upd fun o us d=>⟨_,Obj.data_mapFields d _,?_⟩⟩
 rw [Array.getElem?_setIfInBounds_ne hi]⟩
end Kee
theorem z0q (env:Env) (outer:List Env):Kee (behindIsImport env outer):=by
 unfold behindIsImport
 repeat' with_reducible first | assumption | exact Kee.ret _ | exact Kee.fld _ _ | apply Kee.cond | apply Kee.seq | intro _ | split
theorem z1k:Kee underTheClaimsCaller:=by
 unfold underTheClaimsCaller
 exact Kee.seq Kee.stk fun _=>Kee.ret _
theorem z7v (env:Env) (i:Bool) (l:List Env):Kee (keptBack env i l):=by
 have:=z1k
 cases l <;> unfold keptBack <;> repeat' with_reducible first | assumption | exact Kee.ret _ | apply Kee.cond | apply Kee.seq | intro _ | split
theorem x6q:∀ l:List Env,Kee (readyFrames l)
 | []=>Kee.ret _
 | env::outer=>by
  have ih:=x6q outer
  have h1:=z0q env outer
  have h2:=fun i=>z7v env i outer
  unfold readyFrames
  repeat' with_reducible first | assumption | exact h2 _ | exact Kee.ret _ | exact Kee.stop _ | exact Kee.look _ | exact Kee.chg _ (fun o vs d=>⟨vs,d,rfl⟩) | apply Kee.cond | apply Kee.seq | intro _ | split
theorem z5g (l:List Env):Kee (frameObject l):=by
 cases l with
 | nil=>exact Kee.ret _
 | cons env outer =>
  unfold frameObject
  exact Kee.seq (x6q (env::outer)) fun _=>Kee.ret _
theorem z8d:Kee frameEnvs:=by
 unfold frameEnvs
 exact Kee.seq Kee.stk fun _=>Kee.ret _
theorem x7x (env:Env):Kee (PySem.frameOf env):=by
 have h2:=z5g
 unfold PySem.frameOf
 refine Kee.seq z8d fun l=>Kee.seq (h2 _) fun o=>?_
 cases o with
 | some f=>exact Kee.ret _
 | none=>exact Kee.stop _
theorem z2w (f:Addr) (b:Bool):Kee (entryPlaceOf f b):=by
 unfold entryPlaceOf
 refine Kee.seq Kee.stk fun l=>?_
 split <;> exact Kee.ret _
theorem z3z (a b c d e:Value) (l:List Value):Kee (EntryCells.newEntry a b c d e l):=by
 unfold EntryCells.newEntry newFields newObj newObjAsIs
 repeat' with_reducible first | assumption | exact Kee.ret _ | exact Kee.stop _ | exact Kee.new _ | apply Kee.cond | apply Kee.seq | intro _ | split
theorem x0y (e:Value) (env:Env):Kee (noteFrame e env):=by
 have h1:=x7x env
 unfold noteFrame
 repeat' with_reducible first | assumption | exact z2w _ _ | exact z3z _ _ _ _ _ _ | exact Kee.ret _ | exact Kee.stop _ | exact Kee.fld _ _ | exact Kee.put _ _ (by decide) | apply Kee.cond | apply Kee.seq | intro _ | split
theorem q5w (e:Value) (f:Option Addr):Kee (setFlight e f):=by
 unfold setFlight
 repeat' with_reducible first | assumption | exact Kee.ret _ | exact Kee.fld _ _ | exact Kee.put _ _ (by decide) | apply Kee.cond | apply Kee.seq | intro _ | split
theorem q6c (env:Env) (e:Value):Kee (leaving env e):=Kee.seq (x0y e env) fun _=>q5w e none
theorem Kee.any {α:Type} {t:Sem α} (k:Kee t) {M:Model} {A:Around} {R:α→Shared→Prop} {Y:Value→Shared→Prop} {s:Shared} {x:Addr} {c:Value} (hc:q4b x c s.heap) (h:wpAny M A t R Y s):wpAny M A t (fun a s'=>R a s'∧q4b x c s'.heap) Y s:=fun Γ p hΓ=>k.out M Γ _ _ p s x c hc (h Γ p hΓ)
theorem Kee.opt {α:Type} {t:Sem α} (k:Kee t) {M:Model} {A:Around} {R:α→Shared→Prop} {Y:Value→Shared→Prop} {s:Shared} {x:Addr} {q:Prop} (hc:q→q4b x .none s.heap) (h:wpAny M A t R Y s):wpAny M A t (fun a s'=>R a s'∧(q→q4b x .none s'.heap)) Y s:=by
 by_cases z:q
 ·exact wpAny_mono (k.any (hc z) h) (fun _ _ y=>⟨y.1,fun _=>y.2⟩) fun _ _ y=>y
 ·exact wpAny_mono h (fun _ _ y=>⟨y,fun w=>absurd w z⟩) fun _ _ y=>y
end L2
namespace L2
open PySem PySem.Spec PyProof.Rows
noncomputable def CXe (P:Program) (w:World):CXT:=fun outer H s E e s'=>∃ (a:Addr) (cls a0:Value) (B:Heap) (H1:Hp) (c:Option Addr),e=.ref a∧s'.os=s.os∧AllBare s'.gens∧Heap.FlyingW B outer a cls a0 s'.heap ∧
 Un (frs outer) [] H H1 s.heap s'.heap∧(∀ b o,s.heap.get? b=some o→H b=none→b∉frs outer→B.get? b=some o)∧(∀ b o,s.heap.get? b=some o→b∉frs outer→∃ o',B.get? b=some o')∧HOk P w H1 B∧H1 a=none∧(c=none→q4b a .none s'.heap)∧E cls c H1
theorem q4n.there {P:Program} {w:World} {H:Hp} {h:Heap} {a:Addr} {o:HO} (x:q4n P w H h a o):∃ u,h.get? a=some u:=by
 cases o with
 | lst xs=>obtain⟨_,_,_,_,e⟩:=x; exact⟨_,e⟩
 | tup xs=>obtain⟨_,_,_,o,e,_⟩:=x; exact⟨_,e⟩
 | dK kvs=>obtain⟨_,_,_,_,o,_,_,e,_⟩:=x; exact⟨_,e⟩
 | dT kvs=>obtain⟨_,_,_,_,o,_,_,e,_⟩:=x; exact⟨_,e⟩
 | set S n=>obtain⟨o,_,_,_,e,_⟩:=x; exact⟨_,e⟩
 | ins C dx fs=>obtain⟨_,_,_,e,_⟩:=x; exact⟨_,e⟩
 | own y=>exact x
 | xd fs=>obtain⟨_,⟨_,_,_,e,_⟩,_⟩:=x; exact⟨_,e⟩
 | rng lo hi=>obtain⟨_,_,_,e⟩:=x; exact⟨_,e⟩
 | frz ob u=>obtain⟨e,_⟩:=x; exact⟨_,e⟩
 | tbl ps=>exact⟨_,x⟩
 | met f y=>exact⟨_,x⟩
 | ext φ=>obtain⟨_,e,_⟩:=x; exact e
theorem q7n {env:Env} {outer:List Env} {L:Addr} (hf:env.frame=some L):frs (env::outer)=L::frs outer:=by
 unfold frs; rw [List.filterMap_cons,hf]
section
variable {P:Program} {w:World} {K:Frag} {mg:Str→Option Value} {base:Heap} {N:List Str} {qual:Str} {scope:Scope} {f:Addr} {cd:Value} {A:Around} {outer:List Env} {s:Shared} {H:Hp} {E:XK}
theorem q8s:q6a (CXe P w) (x3b (CXe P w) P w K mg base N qual scope f cd A outer s H E) E:=by
 intro pins σ H2 s2 e s' I h
 obtain⟨a,cls,a0,B,H1,c,rfl,os,bare,fl,un,cov,cov2,hok,ha,hc,q⟩:=h
 have hf:(envOfC qual scope s.heap.objs.size f cd).frame=some s.heap.objs.size:=rfl
 have hfr:frs ((envOfC qual scope s.heap.objs.size f cd)::outer)=s.heap.objs.size::frs outer:=q7n hf
 have un':Un (frs ((envOfC qual scope s.heap.objs.size f cd)::outer)) [] H2 H1 s2.heap s'.heap:=un
 have cov':∀ b o,s2.heap.get? b=some o→H2 b=none→b∉frs ((envOfC qual scope s.heap.objs.size f cd)::outer)→B.get? b=some o:=cov
 have cov2':∀ b o,s2.heap.get? b=some o→b∉frs ((envOfC qual scope s.heap.objs.size f cd)::outer)→∃ o',B.get? b=some o':=cov2
 have fl':Heap.FlyingW B ((envOfC qual scope s.heap.objs.size f cd)::outer) a cls a0 s'.heap:=fl
 have bs:Un (frs outer) [] H H2 s.heap s2.heap:=I.base
 have ne:∀ {b:Addr} {o:Obj},s.heap.get? b=some o→b∉frs outer→b∉frs ((envOfC qual scope s.heap.objs.size f cd)::outer):=fun {b o} e hb z=>by
  rw [hfr] at z
  rcases List.mem_cons.mp z with z | z
  ·exact absurd (Heap.lt_size e) (by rw [z]; exact Nat.lt_irrefl _)
  ·exact hb z
 have inn:∀ {b:Addr},b∈frs outer→b∈frs ((envOfC qual scope s.heap.objs.size f cd)::outer):=fun {b} hb=>by rw [hfr]; exact List.mem_cons_of_mem _ hb
 have nx:∀ b:Addr,b∉([]:List Addr):=fun b z=>absurd z (by simp)
 show wpAny (model P w) (A.deeper (envOfC qual scope s.heap.objs.size f cd)) (leaving (envOfC qual scope s.heap.objs.size f cd) (.ref a)) _ _ s'
 refine wpAny_mono ((q6c _ _).opt hc (wpAny_leaves_onW (Q:=fun _ s3=>Heap.FlyingW B outer a cls a0 s3.heap∧s'.heap.UpToSlots s3.heap∧s3={ s' with heap:=s3.heap }) (I.ok.frames) hf fl' fun h' fl2 ups=>⟨fl2,ups,rfl⟩)) (fun _ s3 ⟨⟨fl2,ups,e3⟩,hc2⟩=>?_) fun _ _ z=>z
 obtain⟨h',rfl⟩:∃ h',s3={ s' with heap:=h' }:=⟨_,e3⟩
 have fmem:=fl'.2.2.1
 have covS:∀ b o,s.heap.get? b=some o→H b=none→b∉frs outer→B.get? b=some o:=fun b o e n hb=>cov' b o (bs.keep b o e n hb (nx b)) (bs.free b o e n (nx b)) (ne e hb)
 have cov2S:∀ b o,s.heap.get? b=some o→b∉frs outer→∃ o',B.get? b=some o':=fun b o e hb=>by
  obtain⟨o1,e1⟩:=bs.there b o e (nx b)
  exact cov2' b o1 e1 (ne e hb)
 refine⟨a,cls,a0,B,H1,c,rfl,os.trans I.os,bare,fl2,⟨fun b o e n hb _=>fl2.1 _ _ (covS b o e n hb),fun b o e n hb _=>?_,fun b o e n _=>?_,fun b o e _=>?_,fun b xs q=>un'.tups b xs (bs.tups b xs q),fun b o u q=>un'.frzs b o u (bs.frzs b o u q),fun b ps q=>?_⟩,covS,cov2S,hok,ha,hc2,q⟩
 ·obtain⟨sl1,e1⟩:=bs.slot b o e n hb (nx b)
  obtain⟨sl2,e2⟩:=un'.slot b _ e1 (bs.free b o e n (nx b)) (inn hb) (nx b)
  obtain⟨_,o3,e3,nf⟩:=fmem.mem (inn hb)
  rw [e2] at e3
  cases e3
  obtain⟨sl4,e4⟩:=ups b _ e2 nf
  exact⟨sl4,e4⟩
 ·obtain⟨o1,e1⟩:=bs.there b o e (nx b)
  exact un'.free b o1 e1 (bs.free b o e n (nx b)) (nx b)
 ·by_cases hb:b∈frs outer
  ·obtain⟨_,o3,e3,nf⟩:=fmem.mem (inn hb)
   obtain⟨sl4,e4⟩:=ups b _ e3 nf
   exact⟨_,e4⟩
  ·obtain⟨o',e'⟩:=cov2S b o e hb
   exact⟨o',fl2.1 _ _ e'⟩
 ·obtain⟨m1,q1⟩:=bs.tbls b ps q
  obtain⟨m2,q2⟩:=un'.tbls b _ q1
  exact⟨m1++m2,by rw [q2,Array.append_assoc]⟩
theorem j3g {pins:List (Addr × Obj)} {σ:St} {H1:Hp} {s1:Shared} {h2:Heap} {a:Addr} {cls:Value} {args:List Value}
  (I:Inv (x3b (CXe P w) P w K mg base N qual scope f cd A outer s H E) pins σ H1 s1) (hx:Heap.MadeExcOf s1.heap h2 a cls args) (q:E cls none H1) :
  (x3b (CXe P w) P w K mg base N qual scope f cd A outer s H E).xe (.ref a) { s1 with heap:=h2 }:=by
 have hf:(envOfC qual scope s.heap.objs.size f cd).frame=some s.heap.objs.size:=rfl
 have hfr:frs ((envOfC qual scope s.heap.objs.size f cd)::outer)=s.heap.objs.size::frs outer:=q7n hf
 have bs:Un (frs outer) [] H H1 s.heap s1.heap:=I.base
 have stk:s1.heap.FunFrames base ((envOfC qual scope s.heap.objs.size f cd)::outer):=I.stack
 have fre:∀ b∈frs ((envOfC qual scope s.heap.objs.size f cd)::outer),H1 b=none:=I.stkFree
 have ne:∀ {b:Addr} {o:Obj},s.heap.get? b=some o→b∉frs outer→b∉frs ((envOfC qual scope s.heap.objs.size f cd)::outer):=fun {b o} e hb z=>by
  rw [hfr] at z
  rcases List.mem_cons.mp z with z | z
  ·exact absurd (Heap.lt_size e) (by rw [z]; exact Nat.lt_irrefl _)
  ·exact hb z
 have inn:∀ {b:Addr},b∈frs outer→b∈frs ((envOfC qual scope s.heap.objs.size f cd)::outer):=fun {b} hb=>by rw [hfr]; exact List.mem_cons_of_mem _ hb
 have nx:∀ b:Addr,b∉([]:List Addr):=fun b z=>absurd z (by simp)
 have hin:∀ env∈((envOfC qual scope s.heap.objs.size f cd)::outer),∀ b,env.frame=some b→b∈frs ((envOfC qual scope s.heap.objs.size f cd)::outer):=fun env he b hb=>List.mem_filterMap.mpr ⟨env,he,hb⟩
 show wpAny (model P w) (A.deeper (envOfC qual scope s.heap.objs.size f cd)) (leaving (envOfC qual scope s.heap.objs.size f cd) (.ref a)) _ _ { s1 with heap:=h2 }
 have hcx:q4b a .none h2:=by
  obtain⟨t,he,_⟩:=hx.there
  exact⟨_,_,he,rfl,rfl⟩
 refine wpAny_mono ((q6c _ _).any (s:={ s1 with heap:=h2 }) hcx (wpAny_leaves_madeW (Q:=fun _ s3=>∃ t,Heap.FlyingW (hideAll s1.heap (frs ((envOfC qual scope s.heap.objs.size f cd)::outer))) outer a cls (.ref t) s3.heap∧h2.UpToSlots s3.heap∧s3={ s1 with heap:=s3.heap }) (base:=hideAll s1.heap (frs ((envOfC qual scope s.heap.objs.size f cd)::outer))) (h:=s1.heap) I.ok.frames hf (fun b o e=>PySem.W.of_hideAll _ e) (PySem.W.funFrames_hide stk hin) hx fun h' t fl _ _ ups=>⟨t,fl,ups,rfl⟩)) (fun _ s3 ⟨⟨t,fl,ups,e3⟩,hc2⟩=>?_) fun _ _ z=>z
 obtain⟨h',rfl⟩:∃ h',s3={ s1 with heap:=h' }:=⟨_,e3⟩
 have ups1:s1.heap.UpToSlots h':=(Heap.UpToSlots.of_keeps hx.keeps).trans ups
 have covS:∀ b o,s.heap.get? b=some o→H b=none→b∉frs outer→(hideAll s1.heap (frs ((envOfC qual scope s.heap.objs.size f cd)::outer))).get? b=some o:=fun b o e n hb=>PySem.W.hideAll_get _ (bs.keep b o e n hb (nx b)) (ne e hb)
 have cov2S:∀ b o,s.heap.get? b=some o→b∉frs outer→∃ o',(hideAll s1.heap (frs ((envOfC qual scope s.heap.objs.size f cd)::outer))).get? b=some o':=fun b o e hb=>by
  obtain⟨o1,e1⟩:=bs.there b o e (nx b)
  exact⟨o1,PySem.W.hideAll_get _ e1 (ne e hb)⟩
 have tr:∀ b o,H1 b=some o→b∉frs ((envOfC qual scope s.heap.objs.size f cd)::outer):=fun b o e z=>by rw [fre b z] at e; cases e
 have hok:HOk P w H1 (hideAll s1.heap (frs ((envOfC qual scope s.heap.objs.size f cd)::outer))):=fun b o e=>by
  refine (I.hok b o e).stay (fun c u hc g=>PySem.W.hideAll_get _ g ?_) (fun _ q=>q) fun _ _ q=>q
  rcases hc with rfl | hc
  ·exact tr _ _ e
  ·exact tr _ _ hc
 have ha:H1 a=none:=by
  cases e:H1 a with
  | none=>rfl
  | some o =>
   obtain⟨u,hu⟩:=(I.hok a o e).there
   rw [hx.new] at hu
   cases hu
 refine⟨a,cls,.ref t,_,H1,none,rfl,I.os,I.bare,fl,⟨fun b o e n hb _=>fl.1 _ _ (covS b o e n hb),fun b o e n hb _=>?_,bs.free,fun b o e _=>?_,bs.tups,bs.frzs,bs.tbls⟩,covS,cov2S,hok,ha,fun _=>hc2,q⟩
 ·obtain⟨sl1,e1⟩:=bs.slot b o e n hb (nx b)
  obtain⟨_,o3,e3,nf⟩:=stk.mem (inn hb)
  rw [e1] at e3
  cases e3
  obtain⟨sl4,e4⟩:=ups1 b _ e1 nf
  exact⟨sl4,e4⟩
 ·by_cases hb:b∈frs outer
  ·obtain⟨_,o3,e3,nf⟩:=stk.mem (inn hb)
   obtain⟨sl4,e4⟩:=ups1 b _ e3 nf
   exact⟨_,e4⟩
  ·obtain⟨o',e'⟩:=cov2S b o e hb
   exact⟨o',fl.1 _ _ e'⟩
end
theorem z8s {K:Frag} {h₀:Heap} {mg:Str→Option Value} {x:Str} {C:Addr} {bmB:List Value} {newId:String} (X:K.In h₀) (hm:mg x=some (.ref C)) (q:PySem.W.excIn K C bmB newId=true):OwnCls x C bmB newId mg h₀:=by
 refine⟨hm,?_⟩
 unfold PySem.W.excIn at q
 split at q
 ·rename_i dd cd sl ho
  split at q
  ·rename_i C' bm k0 k1 k2 k3 n k5 hm hs
   simp only [Bool.and_eq_true,beq_iff_eq,Bool.not_eq_true'] at q
   obtain⟨⟨⟨⟨⟨rfl,rfl⟩,hdel⟩,ht⟩,hok⟩,hni⟩:=q
   obtain⟨nm,bs,mro,ns,qn,hd,sn,sub,ab,col,del⟩:=cd
   dsimp only at hm hdel hok hni
   subst hm hdel
   have hsl:sl=#[k0,k1,k2,k3,some (.builtin n),k5]:=by
    obtain⟨l⟩:=sl
    simp only at hs
    rw [hs]
   subst hsl
   exact⟨bm,ns,nm,qn,bs,hd,sn,sub,ab,col,dd,k0,k1,k2,k3,k5,_,X _ _ ho,.of_isNs (PySem.W.isNs_of_in X hok),PySem.W.nsMap_none_of_in X hok hni,PySem.W.tail_of_in X ht⟩
  ·cases q
 ·cases q
abbrev z7i:List Value:=[.type "ValueError",.type "Exception",.type "BaseException",.type "object"]
noncomputable def z8r (X:Cx) (E:XK):Prop:=∀ (pins:List (Addr × Obj)) (σ:St) (H:Hp) (s:Shared) (h':Heap) (a:Addr) (cls:Value) (args:List Value),Inv X pins σ H s→Heap.MadeExcOf s.heap h' a cls args→E cls none H→X.xe (.ref a) { s with heap:=h' }
theorem q3k {P:Program} {w:World} {K:Frag} {mg:Str→Option Value} {base:Heap} {N:List Str} {qual:Str} {scope:Scope} {f:Addr} {cd:Value} {A:Around} {outer:List Env} {s:Shared} {H:Hp} {E:XK} :
  z8r (x3b (CXe P w) P w K mg base N qual scope f cd A outer s H E) E:=fun _ _ _ _ _ _ _ _ I hx q=>j3g I hx q
noncomputable def j2i (C:Addr) (E:XK) (ta:TA):TS:=fun _ σ H=>ta σ H fun vs H1=>vs.length≤1000∧E (.ref C) none H1
theorem q4h {X:Cx} {E:XK} {x:Str} {C:Addr} {np cpos pos:Pos} {e₀:Expr} {rest:List Expr} {ta:TA} (R:z8r X E) (hc:X.calm=true) (hg:Gl X x) (hm:X.mg x=some (.ref C)) (q:PySem.W.excIn X.K C z7i "ValueError.__new__" = true) (ha:PA X (e₀::rest) ta)
  (he:starEach (e₀::rest) X.env=(false,eval e₀ X.env)::starEach rest X.env:=by rfl) (hplain:(backTo cpos (starEach rest X.env)).any (·.1)=false:=by rfl) (hd:(x==("__debug__" : Str))=false:=by decide) :
  PS X (.Raise (some (.Call (.Name x np) (e₀::rest) [] cpos)) none pos) (j2i C E ta):=by
 intro pins s σ H D I h
 obtain⟨tl,N,nm,qn,bs,hdct,sn,sub,ab,col,dd,k0,k1,k2,k3,k5,mN,hC,hN,hni,T⟩:=(z8s (x:=x) I.ok.mod.kin hm q).obj
 refine wpAny_Raise_call_subT (C:=C) (nm:=nm) (q:=qn) (N:=N) (bs:=bs) (bm:=tl) (hdct:=hdct) (sn:=sn) (sub:=sub) (ab:=ab) (col:=col) (dd:=dd) (k0:=k0) (k1:=k1) (k2:=k2) (k3:=k3) (k5:=k5)
  PySem.F.excBase_ValueError (mN:=mN) (T.hasType PySem.F.excBase_ValueError.hasBase) (I.ok.hd hc) (by rw [he]; show (false || (backTo cpos (starEach rest X.env)).any (·.1))=false; rw [hplain]; rfl) hni (q5m I hg hm ⟨rfl,?_⟩ hd)
 have h':=ha cpos pins s σ H _ I h
 rw [he] at h' ⊢
 refine Calls.evalArgs_plain (wpAny_mono h' (fun us s₂ ⟨vs,H1,I1,r,hl,qe⟩=>?_) fun _ _ y=>y)
 refine⟨rfl,?_,I1.bk _ _ hC,hN.keeps I1.bk,T.keeps I1.bk,fun h2 a hx=>R pins σ H1 s₂ h2 a (.ref C) us I1 hx qe⟩
 rw [← r.length]
 have:(1000:Nat)≤sizeLine:=by rw [sizeLine_eq]; decide
 exact Nat.le_trans hl this
theorem _root_.L2.Fun.okE {P:Program} {w:World} {K:Frag} {mg:Str→Option Value} {base:Heap} {x qual:Str} {st:Stmt} {f:Addr} {fd:FuncData} {N ps:List Str} {k:Nat} {sp:Sp} (F:Fun K x qual st f fd) (S:FnScope N ps (q0e st)) (len:∀ vs H Q E,sp vs H Q E→vs.length=ps.length)
  (hbody:∀ (cdv:Value) (A:Around) (outer:List Env) (s:Shared) (H:Hp) (vs:List V) (Q:VK) (E:XK),Room k (A.deeper (envOfC qual (q0e st) s.heap.objs.size f cdv))→sp vs H Q E →
   ∃ t,PSs (x3b (CXe P w) P w K mg base N qual (q0e st) f cdv A outer s H E) (q5f st) t∧t { nx:=fun _ H'=>Q .non H',rt:=Q } (x4b N vs) H):FnOk P w K mg base (CXe P w) (k+1) f fd ps sp:=by
 obtain⟨oc,od,kV,doc,pm,an,cdv,ct,osl,rfl,lk,hcd⟩:=F.ex
 exact j3e lk hcd S len fun A outer s H vs Q E hr hsp=>hbody cdv A outer s H vs Q E hr hsp
theorem j2m {CX:CXT} {P:Program} {w:World} {K:Frag} {mg:Str→Option Value} {base:Heap} {N:List Str} {qual:Str} {scope:Scope} {f:Addr} {cd:Value} {A:Around} {outer:List Env} {s:Shared} {H:Hp} {E:XK} :
  PassesOwn (model P w) (x3b CX P w K mg base N qual scope f cd A outer s H E).A (x3b CX P w K mg base N qual scope f cd A outer s H E).env (x3b CX P w K mg base N qual scope f cd A outer s H E).xe:=PassesOwn.leaving
end L2
namespace K1
open PySem L2 Kp
end K1
namespace L2
open PySem PySem.Spec PyProof.Rows
noncomputable def x8g (a:Addr) (cls:Value):HO:=.ext fun h=>∃ o,h.get? a=some o∧o.cls=cls
section
variable {X:Cx} {pins:List (Addr × Obj)} {σ:St} {H:Hp} {s:Shared}
theorem j1v {a:Addr} {cls a0:Value} {B:Heap} {H1:Hp} {s':Shared} (I:Inv X pins σ H s) (os:s'.os=s.os) (bare:AllBare s'.gens) (fl:Heap.FlyingW B X.stack a cls a0 s'.heap) (un:Un (frs X.stack) [] H H1 s.heap s'.heap) (cov:∀ b o,s.heap.get? b=some o→H b=none→b∉frs X.stack→B.get? b=some o) (cov2:∀ b o,s.heap.get? b=some o→b∉frs X.stack→∃ o',B.get? b=some o') (hok:HOk X.prog X.w H1 B) (ha:H1 a=none) (h':Heap) (φ:Heap→Prop) (fl2:Heap.FlyingW B X.stack a cls a0 h') (ups:s'.heap.UpToSlots h') (hφ:φ h') (stb:∀ h1 h2:Heap,φ h1→(∀ o,h1.get? a=some o→h2.get? a=some o)→φ h2):Inv X pins σ (upd H1 a (.ext φ)) { s' with heap:=h' }:=by
 have nx:∀ b:Addr,b∉([]:List Addr):=fun b z=>absurd z (by simp)
 have fmem:=fl.2.2.1
 have ne:∀ {b:Addr} {o:HO},H1 b=some o→b≠a:=fun {b o} e z=>by rw [z,ha] at e; cases e
 obtain⟨oe,vs,hoe,hoec,hoed,_⟩:=fl2.first
 have notF:a∉frs X.stack:=fun z=>by
  obtain⟨_,o3,e3,nf⟩:=fl2.2.2.1.mem z
  rw [hoe] at e3
  cases e3
  exact nf vs hoed
 have hok1:HOk X.prog X.w H1 h':=fun b o e=>(hok b o e).stay (fun c u _ g=>fl2.1 _ _ g) (fun _ q=>q) fun _ _ q=>q
 refine I.call' (s':={ s' with heap:=h' }) (ch:=[]) os ⟨fun b o e n hb _=>fl2.1 _ _ (cov b o e n hb),fun b o e n hb _=>?_,fun b o e n _=>?_,fun b o e _=>?_,fun b xs q=>?_,fun b o u q=>?_,fun b ps q=>?_⟩ (fun b o e=>?_) bare fun b z=>absurd z (nx b)
 ·obtain⟨sl2,e2⟩:=un.slot b o e n hb (nx b)
  obtain⟨_,o3,e3,nf⟩:=fmem.mem hb
  rw [e2] at e3
  cases e3
  obtain⟨sl4,e4⟩:=ups b _ e2 nf
  exact⟨sl4,e4⟩
 ·by_cases z:b=a
  ·subst z
   have:=cov b o e n notF
   rw [fl2.2.1] at this
   cases this
  ·rw [q0r z]
   exact un.free b o e n (nx b)
 ·by_cases hb:b∈frs X.stack
  ·obtain⟨_,o3,e3,nf⟩:=fmem.mem hb
   obtain⟨sl4,e4⟩:=ups b _ e3 nf
   exact⟨_,e4⟩
  ·obtain⟨o',e'⟩:=cov2 b o e hb
   exact⟨o',fl2.1 _ _ e'⟩
 ·have:=un.tups b xs q
  rw [q0r (ne this)]; exact this
 ·have:=un.frzs b o u q
  rw [q0r (ne this)]; exact this
 ·obtain⟨m,h2⟩:=un.tbls b ps q
  exact⟨m,by rw [q0r (ne h2)]; exact h2⟩
 ·by_cases z:b=a
  ·subst z
   rw [q0c] at e
   cases e
   exact⟨hφ,⟨oe,hoe⟩,stb⟩
  ·rw [q0r z] at e
   exact (hok1 b o e).stay (fun c u _ g=>g) (fun c q=>by rw [q0r (ne q)]; exact q) fun c xs q=>by rw [q0r (ne q)]; exact q
theorem j2w {E:XK} {e:Value} {s':Shared} (I:Inv X pins σ H s) (h:CXe X.prog X.w X.stack H s E e s') :
  ∃ a cls a0 B H1 c,e=.ref a∧Heap.FlyingW B X.stack a cls a0 s'.heap∧H1 a=none∧(c=none→q4b a .none s'.heap)∧E cls c H1 ∧
   ∀ (h':Heap) (φ:Heap→Prop),Heap.FlyingW B X.stack a cls a0 h'→s'.heap.UpToSlots h'→φ h'→(∀ h1 h2:Heap,φ h1→(∀ o,h1.get? a=some o→h2.get? a=some o)→φ h2)→Inv X pins σ (upd H1 a (.ext φ)) { s' with heap:=h' }:=by
 obtain⟨a,cls,a0,B,H1,c,rfl,os,bare,fl,un,cov,cov2,hok,ha,hc,q⟩:=h
 exact⟨a,cls,a0,B,H1,c,rfl,fl,ha,hc,q,fun h' φ fl2 ups hφ stb=>j1v I os bare fl un cov cov2 hok ha h' φ fl2 ups hφ stb⟩
theorem j6x {E:XK} {e:Value} {s':Shared} (I:Inv X pins σ H s) (h:CXe X.prog X.w X.stack H s E e s') :
  ∃ a cls a0 B H1 c,e=.ref a∧Heap.FlyingW B X.stack a cls a0 s'.heap∧H1 a=none∧(c=none→q4b a .none s'.heap)∧E cls c H1 ∧
   ∀ h',Heap.FlyingW B X.stack a cls a0 h'→s'.heap.UpToSlots h'→Inv X pins σ (upd H1 a (x8g a cls)) { s' with heap:=h' }:=by
 obtain⟨a,cls,a0,B,H1,c,z1,z2,z3,z4,z5,z6⟩:=j2w I h
 exact⟨a,cls,a0,B,H1,c,z1,z2,z3,z4,z5,fun h' fl ups=>z6 h' _ fl ups fl.there fun h1 h2 ⟨o,e1,e2⟩ k=>⟨o,k o e1,e2⟩⟩
noncomputable abbrev Cx.suite (X:Cx) (a:Addr):Cx:={ X with A:=X.A.mark (some (.ref a)),calm:=false,xe:=fun _ _=>False }
theorem Cx.Ok.suite {X:Cx} (ok:X.Ok) (a:Addr):(X.suite a).Ok :=
 ⟨ok.mod,ok.kind,ok.glob,ok.blt,ok.above,ok.inj,ok.has,ok.cab,(fun z=>by cases z),ok.frames,ok.stk,ok.exf,ok.bs,ok.bsz,ok.noex,ok.exfs,ok.funs,ok.frf⟩
theorem Inv.suite (I:Inv X pins σ H s) (a:Addr):Inv (X.suite a) pins σ H s:=⟨I.ok.suite a,I.os,I.bare,I.base,I.loc,I.cell,I.free,I.freeC,I.pin,I.hok,I.len⟩
theorem Inv.unsuite {a:Addr} (ok:X.Ok) (I:Inv (X.suite a) pins σ H s):Inv X pins σ H s:=⟨ok,I.os,I.bare,I.base,I.loc,I.cell,I.free,I.freeC,I.pin,I.hok,I.len⟩
theorem SP.unsuite {a:Addr} (ok:X.Ok) {D:Ends} {f:Flow} {s':Shared} (h:SP (X.suite a) pins D f s'):SP X pins D f s':=by
 cases f with
 | next=>obtain⟨σ',H',I,q⟩:=h; exact⟨σ',H',I.unsuite ok,q⟩
 | brk=>obtain⟨σ',H',I,q⟩:=h; exact⟨σ',H',I.unsuite ok,q⟩
 | cont=>obtain⟨σ',H',I,q⟩:=h; exact⟨σ',H',I.unsuite ok,q⟩
 | ret u=>obtain⟨v,σ',H',I,r,q⟩:=h; exact⟨v,σ',H',I.unsuite ok,r,q⟩
noncomputable def j4w (K:Frag) (C:Addr) (R:Addr→Hp→Prop):XK:=fun cls _ H=>PySem.W.exmOne K cls (.ref C)=some true∧∀ a,H a=none→R a (upd H a (x8g a cls))
theorem j4p {x:Str} {C:Addr} {np hp:Pos} {b₀:Stmt} {suite:List Stmt} {rest:List ExceptHandler} {ts:TS} {D:Ends} {e:Value} {s':Shared} (hst:X.stack=X.env::X.outer) (hf:X.env.frame=some X.env.locals) (hg:Gl X x) (hm:X.mg x=some (.ref C)) (hs:∀ a,PSs (X.suite a) (b₀::suite) ts)
  (I:Inv X pins σ H s) (h:CXe X.prog X.w X.stack H s (j4w X.K C fun _ H2=>ts D σ H2) e s') (hd:(x==("__debug__" : Str))=false:=by decide) :
  wpAny (model X.prog X.w) X.A (noteFrame e X.env) (fun _ s₂=>wpAny (model X.prog X.w) X.A (setFlight e none) (fun _ s₃ =>
   wpAny (model X.prog X.w) X.A (handleBy e X.env (.ExceptHandler (some (.Name x np)) none (b₀::suite) hp::rest)) (SP X pins D) X.xe s₃) X.xe s₂) X.xe s':=by
 obtain⟨a,cls,a0,B,H1,c,rfl,fl,ha,_,⟨hx,q⟩,inv⟩:=j6x I h
 rw [hst] at fl inv
 have hfr:X.A.frames=some (X.env::X.outer):=by rw [← hst]; exact I.ok.frames
 refine wpAny_looks_onW hfr hf fl fun h₄ held u4=>?_
 refine wpAny_landsW held fun h₅ fl5 u5=>?_
 have J:=(inv h₅ fl5 (u4.trans u5)).suite a
 refine wpAny_handleBy_cons (codeAny_handlers_test (q5m (X:=X.suite a) J hg hm ?_ hd)) (by intro q; cases q)
 obtain⟨ob,hob,hobc⟩:=fl5.there
 refine PySem.W.exm_one (M:=model X.prog X.w) J.kIn (hobc▸(PySem.W.Looks.ld hob).andThen .now) hx _ _ _ _ (fun _ _ e=>e) (codeAny_handlers_suite ?_)
 refine lands_againW fl5 fun h₆ fl6 u6=>?_
 have J6:=(inv h₆ fl6 ((u4.trans u5).trans u6)).suite a
 exact wpAny_mono (hs a pins _ σ _ D J6 (q a ha)) (fun f s2 h2=>h2.unsuite I.ok) fun _ _ z=>False.elim z
theorem Inv.lost {h':Heap} {m':Str→Option Value} {tk:Nat} (I:Inv X pins σ H s) (hn:h'.Ns X.env.locals m') (sb:Heap.SameBut X.env.locals s.heap h'):Inv X pins (List.replicate X.N.length none) H { s with heap:=h',toks:=tk }:=by
 have low:∀ {b:Addr} {o:Obj},X.s₀.heap.get? b=some o→b≠X.env.locals:=fun {b o} e=>Nat.ne_of_lt (Nat.lt_of_lt_of_le (Heap.lt_size e) I.ok.above)
 refine⟨I.ok,I.os,I.bare,⟨fun b o e n hb hx=>sb.extBut b o (low e) (I.base.keep b o e n hb hx),fun b o e n hb hx=>?_,I.base.free,fun b o e hx=>?_,I.base.tups,I.base.frzs,I.base.tbls⟩,⟨m',hn,fun i x v _ e2 _=>?_⟩,fun x c e=>?_,I.free,I.freeC,fun p hp=>?_,?_,by simp⟩
 ·obtain⟨sl,e1⟩:=I.base.slot b o e n hb hx
  exact⟨sl,sb.extBut b _ (low e) e1⟩
 ·obtain⟨o',e1⟩:=I.base.there b o e hx
  exact⟨o',sb.extBut b _ (low e) e1⟩
 ·rw [List.getElem?_replicate] at e2
  split at e2 <;> cases e2
 ·obtain⟨v,z⟩:=I.cell x c e
  exact⟨v,z.sameBut sb (I.cne x c e)⟩
 ·obtain⟨e,n,ne,nf,d⟩:=I.pin p hp
  exact⟨sb.extBut _ _ ne e,n,ne,nf,d⟩
 ·exact HOk.but I.hok I.free fun b o hb e=>sb.extBut b o hb e
noncomputable def Ends.lost (D:Ends) (n:Nat):Ends:={ D with nx:=fun _ H=>D.nx (List.replicate n none) H,bk:=fun _ H=>D.bk (List.replicate n none) H,ct:=fun _ H=>D.ct (List.replicate n none) H }
theorem z6w {x n:Str} {i:Nat} {C:Addr} {np hp:Pos} {b₀:Stmt} {suite:List Stmt} {rest:List ExceptHandler} {ts:TS} {D:Ends} {e:Value} {s':Shared} (hst:X.stack=X.env::X.outer) (hf:X.env.frame=some X.env.locals) (hg:Gl X x) (hm:X.mg x=some (.ref C)) (hN:X.N.Nodup) (hi:X.N[i]? = some n) (hl:X.env.scope.names.lookup n=some .local)
  (hs:∀ a,PSs (X.suite a) (b₀::suite) ts)
  (I:Inv X pins σ H s) (h:CXe X.prog X.w X.stack H s (j4w X.K C fun a H2=>ts (D.lost X.N.length) (σ.set i (some (.ref a))) H2) e s') (hd:(x==("__debug__" : Str))=false:=by decide) :
  wpAny (model X.prog X.w) X.A (noteFrame e X.env) (fun _ s₂=>wpAny (model X.prog X.w) X.A (setFlight e none) (fun _ s₃ =>
   wpAny (model X.prog X.w) X.A (handleBy e X.env (.ExceptHandler (some (.Name x np)) (some n) (b₀::suite) hp::rest)) (SP X pins D) X.xe s₃) X.xe s₂) X.xe s':=by
 obtain⟨a,cls,a0,B,H1,c,rfl,fl,ha,_,⟨hx,q⟩,inv⟩:=j6x I h
 rw [hst] at fl inv
 have hfr:X.A.frames=some (X.env::X.outer):=by rw [← hst]; exact I.ok.frames
 refine wpAny_looks_onW hfr hf fl fun h₄ held u4=>?_
 refine wpAny_landsW held fun h₅ fl5 u5=>?_
 have J:=(inv h₅ fl5 (u4.trans u5)).suite a
 refine wpAny_handleBy_cons (codeAny_handlers_test (q5m (X:=X.suite a) J hg hm ?_ hd)) (by intro q; cases q)
 obtain⟨ob,hob,hobc⟩:=fl5.there
 refine PySem.W.exm_one (M:=model X.prog X.w) J.kIn (hobc▸(PySem.W.Looks.ld hob).andThen .now) hx _ _ _ _ (fun _ _ e=>e) (codeAny_handlers_suite_as ?_)
 refine lands_againW fl5 fun h₆ fl6 u6=>?_
 have J6:=(inv h₆ fl6 ((u4.trans u5).trans u6)).suite a
 refine q9m (X:=X.suite a) (v:=.ref a) J6 hN hi (.inl hl) rfl (fun s2 J7=>?_) (.inr hl)
 refine wpAny_mono (hs a pins _ _ _ (D.lost X.N.length) J7 (q a ha)) (fun f s3 h3=>?_) fun _ _ z=>False.elim z
 have h3':=h3.unsuite I.ok
 have hp':(X.env.scope.kind==.class || (X.env.scope.kind==.module && X.env.locals != X.env.globals))=false:=by rw [I.ok.kind]; rfl
 have go:∀ {σ':St} {H':Hp},Inv X pins σ' H' s3→(∀ h' m' tk,h'.Ns X.env.locals m'→Heap.SameBut X.env.locals s3.heap h'→Inv X pins (List.replicate X.N.length none) H' { s3 with heap:=h',toks:=tk }→SP X pins D f { s3 with heap:=h',toks:=tk }) →
   wpAny (model X.prog X.w) X.A (do bindName X.env n .none; unbindBehindTheSuite X.env n hp) (fun _ s₅=>SP X pins D f s₅) X.xe s3:=fun {σ' H'} I3 k=>by
  obtain⟨m,hn,_⟩:=I3.loc
  exact wpAny_nameGoes hl hn hp' fun h' m' hn' sb=>k h' m' _ hn' sb (I3.lost hn' sb)
 cases f with
 | next=>obtain⟨σ',H',I3,q3⟩:=h3'; exact go I3 fun h' m' tk _ _ I4=>⟨_,H',I4,q3⟩
 | brk=>obtain⟨σ',H',I3,q3⟩:=h3'; exact go I3 fun h' m' tk _ _ I4=>⟨_,H',I4,q3⟩
 | cont=>obtain⟨σ',H',I3,q3⟩:=h3'; exact go I3 fun h' m' tk _ _ I4=>⟨_,H',I4,q3⟩
 | ret u=>obtain⟨v,σ',H',I3,r3,q3⟩:=h3'; exact go I3 fun h' m' tk _ _ I4=>⟨v,_,H',I4,r3,q3⟩
theorem x0u {k:Nat} {f:Addr} {fd:FuncData} {ps:List Str} {sp:Sp} {E:XK} {W:Value→Shared→Prop} {x:Str} {p pos:Pos} {e:Expr} {es:List Expr} {t:TA} {Q:VK} (F:FnOk X.prog X.w X.K X.mg X.base (CXe X.prog X.w) k f fd ps sp) (hr:Room k X.A) (hg:Gl X x) (hm:X.mg x=some (.ref f)) (hk:keepIn X.K (.ref f)=true) (hb:q2i X.K fd ps [])
  (ha:PA (X.wish W) (e::es) t) (he:starEach (e::es) X.env=(false,eval e X.env)::starEach es X.env) (hpl:(backTo pos (starEach es X.env)).any (·.1)=false) (hdb:(x==("__debug__" : Str))=false)
  (I:Inv X pins σ H s) (h:t σ H fun vs H1=>sp (vs++[]) H1 Q E) (hW:∀ H1 s1 e s',Inv X pins σ H1 s1→CXe X.prog X.w X.stack H1 s1 E e s'→W e s') :
  wpAny (model X.prog X.w) X.A (eval (.Call (.Name x p) (e::es) [] pos) X.env) (EP X pins σ Q) W s:=by
 refine wpAny_Call_Name_kw (q5m I hg hm ?_ hdb)
 refine PySem.W.callWith_K (h₀:=X.base) I.ok.mod.kin hk (thn (ha pos pins s σ H _ (I.wish W) h) fun us s1 ⟨vs,H1,I1,r,q⟩=>⟨I1.kIn,?_⟩) he hpl
 have I1':Inv X pins σ H1 s1:=I1.unwish
 have r2:q2x (vs++[]) (us++[]):=r.append .nil
 have hl:(us++[]).length=ps.length:=by rw [← r2.length]; exact F.len _ _ _ _ q
 refine wpAny_call (codeAny_mono (F.run X.A X.stack s1 H1 ⟨us,[]⟩ (us++[]) (vs++[]) Q E hr I1'.env0 (hb s1 us I1'.kIn hl) r2 q) fun r s' hq=>?_)
 cases r with
 | error e=>exact hW H1 s1 e s' I1' hq
 | ok fl =>
  cases fl with
  | ret u=>exact I1'.after hq
  | next=>exact False.elim hq
  | brk=>exact False.elim hq
  | cont=>exact False.elim hq
end
section
variable {X:Cx} {k:Nat} {f C:Addr} {fd:FuncData} {ps:List Str} {sp:Sp} {x y n:Str} {i j:Nat} {p pos rp tp np hp py:Pos} {e:Expr} {es:List Expr} {t:TA} {b₀:Stmt} {suite:List Stmt} {ts:TS}
noncomputable def z9e (K:Frag) (C:Addr) (sp:Sp) (t:TA) (ts:TS):TS:=fun D σ H=>t σ H fun vs H1=>sp (vs++[]) H1 (fun v H2=>D.rt v H2) (j4w K C fun _ H2=>ts D σ H2)
theorem z4v (hst:X.stack=X.env::X.outer) (hf:X.env.frame=some X.env.locals) (F:FnOk X.prog X.w X.K X.mg X.base (CXe X.prog X.w) k f fd ps sp) (hr:Room k X.A) (hg:Gl X x) (hm:X.mg x=some (.ref f)) (hk:keepIn X.K (.ref f)=true) (hb:q2i X.K fd ps []) (ha:∀ W,PA (X.wish W) (e::es) t)
  (hgC:Gl X y) (hmC:X.mg y=some (.ref C)) (hs:∀ a,PSs (X.suite a) (b₀::suite) ts)
  (he:starEach (e::es) X.env=(false,eval e X.env)::starEach es X.env:=by rfl) (hpl:(backTo pos (starEach es X.env)).any (·.1)=false:=by rfl) (hdb:(x==("__debug__" : Str))=false:=by decide) (hdc:(y==("__debug__" : Str))=false:=by decide) :
  PS X (.Try [.Return (some (.Call (.Name x p) (e::es) [] pos)) rp] [.ExceptHandler (some (.Name y np)) none (b₀::suite) hp] [] [] tp) (z9e X.K C sp t ts):=by
 intro pins s σ H D I h
 refine wpAny_Try_except (wpAny_execs_cons (wpAny_Return_some (thn (x0u F hr hg hm hk hb (ha _) he hpl hdb I h fun H1 s1 e1 s' I1 h1=>j4p hst hf hgC hmC hs I1 h1 hdc) fun v s1 ⟨z,H1,I1,r1,q1⟩=>?_)))
 exact⟨z,σ,H1,I1,r1,q1⟩
end
end L2
namespace L2
open PySem PySem.Spec PyProof.Rows PySem.W PySem.Builtin PySem.Builtin.ObjectAttr PySem.Builtin.Getset_descriptor
section
variable {prog:Program} {w:World} {A:Around} {E:Value→Shared→Prop} {s:Shared} {K:Frag} {x C:Addr} {R:Result→Shared→Prop} {h:Heap} {g:Array GenState} {d:Drawn} {t:Nat} {os:OsState} {o:Obj} {name:Str}
theorem x1q {M:Model} {a gg:Value} (X:K.In h) (ha:findIn K (.ref C) name=some (some a)) (hg:specialIn K a "__get__" = some (some gg)) (ht:takesIn K a=some true):Looks M h (find (.ref x) (.ref C) name) (.bind gg a) :=
 (looks_findIn X ha).andThen ((looks_specialIn X hg).andThen ((show Looks M h (dataDescriptor? (some a) (some gg)) (some (gg,a)) from (looks_takesIn X ht).andThen .now).andThen (Looks.tag .now)))
theorem z0h {tp:Value} (X:K.In s.heap) (L0:Looks (model prog w) s.heap (typeOf (.ref x)) (.ref C)) (hm:mroIn K C (.type "object")=some true)
  (h:R (.ok (.ret (.ref C))) s):codeAny (model prog w) A (.call (.builtin "getset_descriptor.__get__") ⟨[.builtin "object.__class__",.ref x,tp],[]⟩) R s:=by
 obtain⟨hh,g,dr,t,os⟩:=s
 have L1:=looks_mroIn (M:=model prog w) X hm
 refine codeAny_call_builtin KF.slot_gs.plain KF.entry_gs (KF.slot_gs.check _ _ _ _ _ _ _ _ KF.type_class (KF.args_gs _ _ _) ?_)
 unfold Builtin.«getset_descriptor.__get__» descrGet
 rw [dga_obj]
 refine wpAny_bind (wpAny_pure ?_)
 unfold descrGetter descrCheckInstance descrNameAndClass isInstance
 simp only [KF.owner_class]
 repeat lk
 refine⟨Code.quiet_builtin _ (by decide +kernel),codeAny_builtin KF.entry_class ?_⟩
 unfold Builtin.«object.__class__» shownTypeOf
 repeat lk
 exact h
structure ExcK (K:Frag) (C:Addr):Prop where
 ga:findIn K (.ref C) "__getattribute__" = some (some (.builtin "BaseException.__getattribute__"))
 gn:findIn K (.ref C) "__getattr__" = some none
 cl:findIn K (.ref C) "__class__" = some (some (.builtin "object.__class__"))
 gt:specialIn K (.builtin "object.__class__") "__get__" = some (some (.builtin "getset_descriptor.__get__"))
 tk:takesIn K (.builtin "object.__class__")=some true
 mo:mroIn K C (.type "object")=some true
 mb:mroIn K C (.type "BaseException")=some true
theorem z1w {M:Model} {nameV:Value} {Q:Unit→Shared→Prop} (X:K.In h) (FX:ExcK K C) (L0:Looks M h (typeOf (.ref x)) (.ref C)) (hq:Q () ⟨h,g,d,t,os⟩):wpAny M A (checkBuiltinCall "BaseException.__getattribute__" ⟨[.ref x,nameV],[]⟩) Q E ⟨h,g,d,t,os⟩:=by
 have hk:builtinKind "BaseException.__getattribute__" = some .slot:=by decide +kernel
 have hsplit:splitId "BaseException.__getattribute__" = some ("BaseException", "__getattribute__"):=by decide +kernel
 have ha:=PySem.F.args_bexc_ga (.ref x) nameV
 have L1:=looks_mroIn (M:=M) X FX.mb
 simp only [checkBuiltinCall,hk,hsplit]
 refine wpAny_bind ?_
 unfold isInstance
 repeat (first | lk | wp_step)
 exact hq
theorem x5w {tk:Tok} {Q:Fin→Shared→Prop} (X:K.In h) (FX:ExcK K C) (L0:Looks (model prog w) h (typeOf (.ref x)) (.ref C)) (hq:Q (.done (.ret (.ref C))) ⟨h,g,d,t,os⟩) :
  wpAny (model prog w) A (Builtin.«object.__getattribute__» ⟨[.ref x,.str "__class__" tk],[]⟩) Q E ⟨h,g,d,t,os⟩:=by
 have L1:=x1q (M:=model prog w) (x:=x) X FX.cl FX.gt FX.tk
 unfold Builtin.«object.__getattribute__»
 refine wpAny_bind (wpAny_pure ?_)
 dsimp only
 refine wpAny_bind (wpAny_pure (wpAny_bind (L0.at (wpAny_bind (L1.at ?_)))))
 dsimp only
 unfold bindTo
 refine wpAny_bind ?_
 try refine wpAny_holding ?_
 refine wpAny_call (z0h (s:=⟨h,g,d,t,os⟩) X L0 FX.mo ?_)
 exact wpAny_pure hq
theorem x8n {tk:Tok} {R:Result→Shared→Prop} (X:K.In h) (FX:ExcK K C) (L0:Looks (model prog w) h (typeOf (.ref x)) (.ref C)) (hq:R (.ok (.ret (.ref C))) ⟨h,g,d,t,os⟩) :
  codeAny (model prog w) A (.call (.builtin "BaseException.__getattribute__") ⟨[.ref x,.str "__class__" tk],[]⟩) R ⟨h,g,d,t,os⟩ :=
 codeAny_call_builtin PySem.F.excAttr_ValueError.ga.plain PySem.F.entry_bexc_ga (z1w X FX L0 (x5w X FX L0 hq))
theorem z5i {tk:Tok} {Q:Value→Shared→Prop} (X:K.In h) (FX:ExcK K C) (hx:h.get? x=some o) (hc:o.cls=.ref C) (hq:Q (.ref C) ⟨h,g,d,t,os⟩) :
  wpAny (model prog w) A (getAttrBy (.ref x) (.str "__class__" tk) false) Q E ⟨h,g,d,t,os⟩:=by
 have L0:Looks (model prog w) h (typeOf (.ref x)) (.ref C):=hc▸(Looks.ld hx).andThen .now
 have L1:=looks_findIn (M:=model prog w) X FX.ga
 have L2:=looks_findIn (M:=model prog w) X FX.gn
 have f3:=PySem.F.excAttr_ValueError.ga.bind (.ref x)
 have hx2:(Value.builtin "BaseException.__getattribute__" == Value.builtin "object.__getattribute__")=false:=by decide +kernel
 have hx1:(onTheHeap (Value.ref C) && Value.builtin "BaseException.__getattribute__" == Value.builtin "object.__getattribute__")=false:=by rw [hx2]; rfl
 repeat (any_goals (first | assumption | (with_reducible refine Looks.at L0 ?_) | (with_reducible refine Looks.at L1 ?_) | (with_reducible refine Looks.at L2 ?_) | (with_reducible refine wpAny_loadPart_at hx ?_; rw [hc]) | wp_step))
 refine x8n X FX L0 ?_
 repeat (any_goals (first | assumption | wp_step))
theorem x7y {Q:Option Value→Shared→Prop} (X:K.In h) (FX:ExcK K C) (hx:h.get? x=some o) (hc:o.cls=.ref C) (hq:Q (some (.ref C)) ⟨h,g,d,t+1,os⟩):wpAny (model prog w) A (getAttr? (.ref x) "__class__") Q E ⟨h,g,d,t,os⟩:=by
 unfold getAttr? getAttrBy?
 repeat (any_goals (first | assumption | with_reducible apply z5i X FX hx hc | wp_step))
end
theorem x4t {K:Frag} {a C:Addr} (FX:ExcK K C) (hk:(clsIn K C).isSome=true):KitX K (.ref a) (.ref C) (fun h=>∃ o,h.get? a=some o∧o.cls=.ref C) where
 ty:=fun M h X ⟨o,hx,hc⟩=>hc▸(Looks.ld hx).andThen .now
 it:=fun _ _ X _=>by
  obtain⟨cdD,hcD⟩:=Option.isSome_iff_exists.mp hk
  unfold clsIn at hcD
  split at hcD
  ·rename_i c' d' cd' sl' ho
   intro A' Q' E' s' k q
   unfold isType loadHead
   exact wpAny_bind (wpAny_loadPart (k _ _ (X _ _ ho)) (wpAny_pure q))
  ·cases hcD
 ne:=fun h tp dd its n sl X htp=>by
  obtain⟨cdD,hcD⟩:=Option.isSome_iff_exists.mp hk
  refine Bool.eq_false_iff.mpr fun q=>?_
  have e:C=tp:=Value.ref.inj (beq_iff_eq.mp q)
  subst e
  unfold clsIn at hcD
  split at hcD
  ·rename_i c' d' cd' sl' ho
   have z:=(X _ _ ho).symm.trans htp
   cases z
  ·cases hcD
 ca:=fun {_ _ _ _ _ s} X ⟨o,hx,hc⟩ k=>by
  obtain⟨h,g,d,t,os⟩:=s
  exact x7y X FX hx hc k
theorem z4p {X:List Addr}:∀ {us:List Value},q2x (X.map V.ref) us→us=X.map Value.ref:=by
 induction X with
 | nil=>intro us r; cases r; rfl
 | cons a r ih =>
  intro us z
  cases z with
  | cons h t =>
   have e:_=Value.ref a:=h
   rw [e,ih t]; rfl
noncomputable def j3j (K:Frag):List V→Hp→VK→Prop:=fun xs H Q=>∃ a C b,H a=some (x8g a (.ref C))∧ExcK K C∧(clsIn K C).isSome=true ∧
 ((∃ c,xs=[.ref a,.ref c]∧kitOne K (.ref C) (.ref c)=some b)∨(∃ T,xs=[.ref a,.ty T]∧kitOne K (.ref C) (.type T)=some b)∨∃ (tp:Addr) (cs:List Addr),xs=[.ref a,.ref tp]∧H tp=some (.tup (cs.map V.ref))∧kitAny K (.ref C) (cs.map Value.ref)=some b)∧Q (.bl b) H
theorem z3h {X:Cx}:x0l X (.builtin "isinstance") (j3j X.K):=by
 intro pins s σ H xs us Q I r h
 obtain⟨a,C,b,ha,FX,hk,hc,q⟩:=h
 obtain⟨hφ,_,_⟩:=(show q4n X.prog X.w H s.heap a (x8g a (.ref C)) from I.hok a _ ha)
 rcases hc with ⟨c,rfl,e⟩ | ⟨T,rfl,e⟩ | ⟨tp,cs,rfl,htp,e⟩
 ·obtain⟨u,u',rfl,rx,rc⟩:=z5m r
  cases rx
  cases rc
  exact kia_one (x4t FX hk) I.kIn hφ e (fun z=>nomatch z) fun tk=>⟨.bl b,H,I.tok tk,rfl,q⟩
 ·obtain⟨u,u',rfl,rx,rc⟩:=z5m r
  cases rx
  cases rc
  exact kia_one (x4t FX hk) I.kIn hφ e (fun z=>nomatch z) fun tk=>⟨.bl b,H,I.tok tk,rfl,q⟩
 ·obtain⟨u,u',rfl,rx,rc⟩:=z5m r
  cases rx
  cases rc
  obtain⟨_,its,rv,p⟩:=(show q4n X.prog X.w H s.heap tp (.tup (cs.map V.ref)) from I.hok tp _ htp)
  have e2:=z4p rv
  subst e2
  obtain⟨o,h1,h2,n,h3⟩:=p
  obtain⟨oc,od,odt,osl⟩:=o
  cases h2
  cases h3
  exact kia_tup (x4t FX hk) I.kIn hφ h1 e (fun z=>nomatch z) fun tk=>⟨.bl b,H,I.tok tk,rfl,q⟩
end L2
namespace L2
open PySem PySem.Spec PyProof.Rows
section
variable {P:Program} {w:World} {K:Frag} {mg:Str→Option Value} {base:Heap}
end
section
variable {X:Cx} {k:Nat} {f:Addr} {fd:FuncData} {ps:List Str} {sp:Sp} {x:Str} {p pos:Pos} {e:Expr} {es:List Expr} {t:TA}
end
end L2
namespace Kp
open PySem L2
structure CalE (P:Program) (w:World) (K:Frag) (mg:Str→Option Value) (base:Heap) (name:Str) (k:Nat) (ps:List Str) (sp:Sp):Prop where
 ex:∃ f fd,FnOk P w K mg base (CXe P w) k f fd ps sp∧mg name=some (.ref f)∧keepIn K (.ref f)=true∧q2i K fd ps []
end Kp
namespace K1
open PySem L2 Kp
end K1
namespace Kp
open PySem L2
end Kp
namespace K1
open PySem L2 Kp
theorem q5q {X:Cx} {x:Str} {k:Nat} {ps:List Str} {sp:Sp} {e:Expr} {es:List Expr} {t:TA} {p pos:Pos} {E:XK} (C:CalE X.prog X.w X.K X.mg X.base x k ps sp) (hr:Room k X.A) (hx:q6a (CXe X.prog X.w) X E) (ha:PA X (e::es) t) (hg:Gl X x:=by rfl) (hdb:(x==("__debug__" : Str))=false:=by decide) (he:starEach (e::es) X.env=(false,eval e X.env)::starEach es X.env:=by rfl) (hpl:(backTo pos (starEach es X.env)).any (·.1)=false:=by rfl) :
  PE X (.Call (.Name x p) (e::es) [] pos) (z9t sp [] E t):=let ⟨_,_,F,hm,hk,hb⟩:=C.ex; q9n F hr hg hm hk hb .nil hx ha hdb he hpl
theorem q9k:bootBuiltins "str" = some (.type "str"):=by decide +kernel
section
variable {P:Program} {w:World} {K:Frag} {mg:Str→Option Value} {base:Heap}
theorem q9c {i:Int} (h:i.natAbs < 10 ^ 60):i.natAbs.log2 < 1920:=by
 by_cases h0:i.natAbs=0
 ·rw [h0]; decide
 ·exact (Nat.log2_lt h0).mpr (Nat.lt_of_lt_of_le h (by decide +kernel))
end
theorem x3s:∀ (fs:List (D→List Str)) (ds:List D) (i:Nat),(q0u (fs.take i) (ds.take i)).length≤(q0u fs ds).length
 | [],_,i=>by simp [q0u]
 | _::_,[],i=>by simp [q0u]
 | f::fs,d::ds,0=>by simp [q0u]
 | f::fs,d::ds,i+1=>by
  have:=x3s fs ds i
  simp only [List.take_succ_cons,q0u,List.length_append]
  omega
theorem x8r:∀ {ps:List (D→Bool)} {ds:List D} {i:Nat} {p:D→Bool} {d:D},q0w ps ds=true→ps[i]? = some p→ds[i]? = some d→p d=true
 | p'::ps,d'::ds,0,p,d,h,hp,hd=>by
  cases hp
  cases hd
  rw [q0w,Bool.and_eq_true] at h
  exact h.1
 | p'::ps,d'::ds,i+1,p,d,h,hp,hd=>by
  rw [q0w,Bool.and_eq_true] at h
  exact x8r h.2 (by simpa using hp) (by simpa using hd)
 | [],_,i,p,d,h,hp,hd=>by simp at hp
 | _::_,[],i,p,d,h,hp,hd=>by simp at hd
theorem q6v:∀ {ps:List (D→Bool)} {ds:List D},q0w ps ds=true→ds.length=ps.length:=fun {ps ds} h=>by
 by_cases e:ds.length=ps.length
 ·exact e
 ·rw [q7b e] at h; cases h
section
variable {P:Program} {w:World} {K:Frag} {mg:Str→Option Value} {base:Heap}
end
end K1
namespace Kp
open PySem L2 PyProof.Rows
noncomputable def j9c (K:Frag) (w:World) (td ty:TE):TE:=fun σ H Q=>td σ H fun x H1=>ty σ H1 fun y H2=>∃ a es n k v u,x=.ref a∧y=.str k∧K.lookup a=some ⟨.type "dict",none,.dict es n,#[]⟩∧PySem.W.KeysLit w.params es.toList ∧
 findBy Value.isStrOf es k=some u∧q3z v u∧Q v H2
theorem z8u {X:Cx} {o i:Expr} {td ty:TE} {pos:Pos} (ho:PE X o td) (hi:PE X i ty) (hs:j7g i):PE X (.Subscript o i pos) (j9c X.K X.w td ty):=by
 intro pins s σ H Q I h
 refine j0z PySem.F.slot_dict_getitem.lookup hs (thn (ho pins s σ H _ I h) fun u s1 ⟨x,H1,I1,rx,q1⟩=>thn (hi pins s1 σ H1 _ I1 q1) fun iv s2 ⟨y,H2,I2,ry,a,es,n,k,v,uu,ex,ey,hl,hk,hf,rv,q2⟩=>?_)
 subst ex ey
 obtain rfl:u=Value.ref a:=rx
 obtain⟨t,rfl⟩:=ry
 have hm:=PySem.W.mapOf_K (prog:=X.prog) (w:=X.w) I2.kIn hl hk
 exact⟨hm.typeIs,wpAny_getItem_of (strKind_is X.prog X.w k t) hm hf ⟨v,H2,I2.tok _,rv,q2⟩⟩
end Kp
namespace K1
open PySem L2 Kp
section
variable {P:Program} {w:World} {K:Frag} {mg:Str→Option Value} {base:Heap}
theorem q3s {d:D} (h:q2u d=true):∃ ns:List Int,d=.tup (ns.map D.int)∧ns.length≤9∧1≤ns.length∧(∀ n∈ns,0≤n∧n≤8):=by
 cases d with
 | tup ss =>
  have hs':(ss.all q2f && ((decide (1≤ss.length) && decide (ss.length≤9)) && q7a (q1z ss)))=true:=h
  rw [Bool.and_eq_true,Bool.and_eq_true,Bool.and_eq_true,decide_eq_true_eq,decide_eq_true_eq] at hs'
  have e:=x0z hs'.1
  have hl:(q1z ss).length=ss.length:=by
   have:=congrArg List.length e
   rw [List.length_map] at this
   exact this.symm
  refine⟨q1z ss,by rw [← e],by omega,by omega,fun n hn=>?_⟩
  have hk:=List.all_eq_true.mp hs'.1 (D.int n) (by rw [e]; exact List.mem_map_of_mem hn)
  have hk':(decide (0≤n) && decide (n≤8))=true:=hk
  rw [Bool.and_eq_true,decide_eq_true_eq,decide_eq_true_eq] at hk'
  exact hk'
 | _=>cases h
theorem q5u:∀ ns:List Int,(ns.map D.int).flatMap q8o=ns.map q1d
 | []=>rfl
 | n::ns=>by rw [List.map_cons,List.flatMap_cons,q5u ns]; rfl
theorem x2c {ns:List Int} (h:∀ n∈ns,0≤n∧n≤8):q2j 60 (.tup (ns.map D.int))=true:=by
 show smallL 60 _=true
 refine q1j.mpr fun d hd=>?_
 obtain⟨n,hn,rfl⟩:=List.mem_map.mp hd
 have:=h n hn
 show decide (n.natAbs < 10 ^ 60)=true
 exact decide_eq_true (Nat.lt_of_le_of_lt (show n.natAbs≤8 by omega) (by decide))
end
end K1
namespace L2
open PySem PySem.Spec PyProof.Rows
theorem x3y:entryFor table "proto.unchain" = some Builtin.«proto.unchain»:=entryFor_of_tree (by kernel_rfl)
section
variable {P:Program} {w:World} {A:Around} {E:Value→Shared→Prop} {s:Shared}
theorem x2e {α:Type} {b e:Addr} {R:α→Shared→Prop} (hh:A.handled=some (.ref b)) (hbe:b≠e) (hc:q4b b .none s.heap) {oe:Obj} {vs:Array Value} (he:s.heap.get? e=some oe) (hd:oe.data=.fields vs) (hz:2 < vs.size)
  (q:E (.ref e) { s with heap:=s.heap.update e (Obj.mapFields (·.setIfInBounds 2 (.ref b))) }):wpAny (model P w) A (raiseNew (.ref e):Sem α) R E s:=by
 unfold raiseNew
 refine wpAny_bind (wpAny_handled ?_)
 rw [hh]
 obtain⟨ob,us,hb,hbd,hb2⟩:=hc
 have hne:(Value.ref b != Value.ref e)=true:=by simp [hbe]
 dsimp only
 rw [if_pos hne]
 refine wpAny_bind (wpAny_holding (runValue_entry x3y ?_))
 unfold Builtin.«proto.unchain»
 dsimp only
 refine wpAny_bind (wpAny_field hb hbd hb2 ?_)
 rw [if_pos (by rfl)]
 refine wpAny_bind (wpAny_pure (wpAny_pure ⟨.none,rfl,?_⟩))
 show wpAny (model P w) A (setField (.ref e) 2 (.ref b) >>= fun _=>throw (.ref e)) R E s
 exact wpAny_bind (wpAny_setField he hd hz (wpAny_throw q))
theorem x2t {nm q:Str} {C N b:Addr} {bs bm:List Value} {hdct:Bool} {sn:List Str} {sub:List Value} {ab:Bool} {col:Option Bool} {dd:Option Addr} {k0 k1 k2 k3 k5:Option Value} {newId:String} {env:Env} {x c:Sem Value} {R:Flow→Shared→Prop} (hbase:bm.contains (.type "BaseException")=true) (hh:A.handled=some (.ref b))
  (h:wpAny (model P w) A x (fun v s₁=>∃ e t,v=.ref e∧s₁.heap.get? C=some (excClassObj nm q C N bs bm hdct sn sub ab col dd k0 k1 k2 k3 k5 newId) ∧
   s₁.heap.get? e=some { cls:=.ref C,data:=.fields #[.ref t,.none,.none,.none,.bool false,.none] }∧b≠e∧C≠e∧q4b b .none s₁.heap∧wpAny (model P w) A c (fun cv s₂=>cv=.none∧s₂=s₁) E s₁∧∀ h',(∀ a,a≠e→h'.get? a=s₁.heap.get? a)→h'.get? e=some { cls:=.ref C,data:=.fields #[.ref t,.none,.ref b,.none,.bool true,.none] }→E (.ref e) { s₁ with heap:=h' }) E s) :
  wpAny (model P w) A (raiseStmt env (some x) (some c)) R E s:=by
 have hcB:(Value.ref C::bm).contains (.type "BaseException")=true:=by rw [List.contains_cons,hbase,Bool.or_true]
 unfold raiseStmt
 refine wpAny_bind (wpAny_mono h (fun v s₁ h₁=>?_) fun _ _ x=>x)
 obtain⟨e,t,rfl,hC,he,hbe,hCe,hctx,hcv,hE⟩:=h₁
 obtain⟨hp,g,d,tk,os⟩:=s₁
 dsimp only at hC he hctx hE
 refine wpAny_bind (wpAny_holding (wpAny_mono hcv (fun cv s₂ h₂=>?_) fun _ _ x=>x))
 obtain⟨rfl,rfl⟩:=h₂
 refine wpAny_bind (wpAny_pure ?_)
 have ev:∀ {m:String} {Z:Value→Shared→Prop},Z (.ref e) ⟨hp,g,d,tk,os⟩→wpAny (model P w) A (excFromValue (.ref e) m) Z E ⟨hp,g,d,tk,os⟩:=fun {m Z} z=>by
  unfold excFromValue
  repeat (first | with_reducible refine wpAny_loadPart_at he ?_ | with_reducible refine wpAny_loadPart_at hC ?_ | (with_reducible refine wpAny_isSubtype_exc hC ?_; rw [hcB]) | wp_step)
  exact z
 refine wpAny_bind (wpAny_holding (ev ?_))
 dsimp only
 rw [if_pos (by rfl)]
 refine wpAny_bind (wpAny_pure ?_)
 refine wpAny_bind (wpAny_setField he rfl (by show 3 < 6; decide) ?_)
 have he1:=Heap.get?_update_self (Obj.mapFields (·.setIfInBounds 3 Value.none)) he (Obj.isFreed_of_fields (Obj.data_mapFields rfl _))
 refine wpAny_bind (wpAny_setField he1 rfl (by simp) ?_)
 have he2:=Heap.get?_update_self (Obj.mapFields (·.setIfInBounds 4 (Value.bool true))) he1 (Obj.isFreed_of_fields (Obj.data_mapFields rfl _))
 have ot:∀ a,a≠e→((hp.update e (Obj.mapFields (·.setIfInBounds 3 Value.none))).update e (Obj.mapFields (·.setIfInBounds 4 (Value.bool true)))).get? a=hp.get? a:=fun a ha=>by
  rw [Heap.get?_update_other _ _ (Ne.symm ha),Heap.get?_update_other _ _ (Ne.symm ha)]
 have hC2:=(ot C hCe).trans hC
 have hx2:q4b b .none ((hp.update e (Obj.mapFields (·.setIfInBounds 3 Value.none))).update e (Obj.mapFields (·.setIfInBounds 4 (Value.bool true)))):=by
  obtain⟨o1,v1,y1,y2,y3⟩:=hctx
  exact⟨o1,v1,(ot b hbe).trans y1,y2,y3⟩
 generalize (hp.update e (Obj.mapFields (·.setIfInBounds 3 Value.none))).update e (Obj.mapFields (·.setIfInBounds 4 (Value.bool true)))=hq at he2 ot hC2 hx2 ⊢
 have he3:hq.get? e=some { cls:=.ref C,data:=.fields #[.ref t,.none,.none,.none,.bool true,.none] }:=he2
 repeat (first | with_reducible refine wpAny_loadPart_at he3 ?_ | with_reducible refine wpAny_loadPart_at hC2 ?_ | (with_reducible refine wpAny_isSubtype_exc hC2 ?_; rw [hcB]) | wp_step)
 refine x2e (s:=⟨hq,g,d,tk,os⟩) hh hbe hx2 he3 rfl (by show 2 < 6; decide) ?_
 refine hE _ (fun a ha=>?_) ?_
 ·rw [Heap.get?_update_other _ _ (Ne.symm ha)]
  exact ot a ha
 ·exact Heap.get?_update_self (Obj.mapFields (·.setIfInBounds 2 (Value.ref b))) he3 (Obj.isFreed_of_fields (Obj.data_mapFields rfl _))
end
section
variable {P:Program} {w:World} {A:Around} {E:Value→Shared→Prop} {s:Shared} {env:Env}
variable {nm q:Str} {C N b:Addr} {bs bm bmB:List Value} {hdct:Bool} {sn:List Str} {sub:List Value} {ab:Bool} {col:Option Bool} {dd:Option Addr} {k0 k1 k2 k3 k5:Option Value} {B newId initId:String}
theorem z1d (F:ExcBaseFacts B newId initId bmB) {mN:Str→Option Value} {x:Str} {np cpos pos kp:Pos} {kk:Nat} {args:List Expr} {R:Flow→Shared→Prop}
  (hbase:bm.contains (.type "BaseException")=true) (hh:A.handled=some (.ref b)) (hplain:(backTo cpos (starEach args env)).any (·.1)=false) (hni:mN "__init__" = none)
  (h:wpAny (model P w) A (eval (.Name x np) env) (fun f s₁=>f=.ref C∧wpAny (model P w) A (evalArgs (.ref C) true (backTo cpos (starEach args env)) [])
   (fun a s₂=>a.kw=[]∧a.pos.length≤sizeLine∧s₂.heap.get? C=some (excClassObj nm q C N bs bm hdct sn sub ab col dd k0 k1 k2 k3 k5 newId)∧s₂.heap.Ns N mN∧OwnTail s₂.heap bmB bm∧q4b b .none s₂.heap ∧
    ∀ h' e h3,Heap.MadeExcOf s₂.heap h' e (.ref C) a.pos→(∀ c,c≠e→h3.get? c=h'.get? c)→(∃ t,h3.get? e=some { cls:=.ref C,data:=.fields #[.ref t,.none,.ref b,.none,.bool true,.none] })→E (.ref e) { s₂ with heap:=h3 }) E s₁) E s) :
  wpAny (model P w) A (exec (.Raise (some (.Call (.Name x np) args [] cpos)) (some (.Constant .none kk kp)) pos) env) R E s:=by
 rw [arm_exec_Raise]
 simp only [evalOpt,Option.map]
 refine wpAny_bind (wpAny_standAt (x2t (C:=C) (nm:=nm) (q:=q) (N:=N) (bs:=bs) (bm:=bm) (hdct:=hdct) (sn:=sn) (sub:=sub) (ab:=ab) (col:=col) (dd:=dd) (k0:=k0) (k1:=k1) (k2:=k2) (k3:=k3) (k5:=k5) (newId:=newId) hbase hh ?_))
 refine wpAny_bind (wpAny_mono (wpAny_Call_ofName (wpAny_mono h (fun f s₁ h₁=>?_) fun _ _ x=>x)) (fun v s₃ h₃=>wpAny_bind (wpAny_standAt (wpAny_pure h₃))) fun _ _ x=>x)
 obtain⟨rfl,h₁⟩:=h₁
 unfold callWith
 refine wpAny_bind (wpAny_holding (wpAny_mono h₁ (fun a s₂ h₂=>wpAny_bind (wpAny_standAt ?_)) fun _ _ x=>x))
 obtain⟨apos,akw⟩:=a
 obtain⟨hkw,hlen,hC,hn,T,hctx,h₂⟩:=h₂
 obtain rfl:akw=[]:=hkw
 obtain⟨hp,g,d,tk,os⟩:=s₂
 simp only [hplain]
 refine wpAny_bind (wpAny_keeperOf_exc hC ?_)
 refine wpAny_bind (wpAny_call_exc_subT (hrest:=hlen) F T hC hn hni fun h' e hm=>wpAny_bind (wpAny_holding (wpAny_point (wpAny_pure ?_))))
 obtain⟨t,ht,_,_⟩:=hm.there
 have hCe:C≠e:=fun z=>by have:=hm.new; rw [← z,hC] at this; cases this
 obtain⟨ob,us,hb,hbd,hb2⟩:=hctx
 have hbe:b≠e:=fun z=>by have:=hm.new; rw [← z,hb] at this; cases this
 exact⟨e,t,rfl,hm.keeps _ _ hC,ht,hbe,hCe,⟨ob,us,hm.keeps _ _ hb,hbd,hb2⟩,wpAny_bind (Constant_none (wpAny_bind (wpAny_standAt (wpAny_pure ⟨rfl,rfl⟩)))),fun h3 o1 o2=>h₂ h' e h3 hm o1 ⟨t,o2⟩⟩
end
section
variable {P:Program} {w:World} {K:Frag} {mg:Str→Option Value} {base:Heap} {N:List Str} {qual:Str} {scope:Scope} {f:Addr} {cd:Value} {A:Around} {outer:List Env} {s:Shared} {H:Hp} {E:XK}
theorem j4a {pins:List (Addr × Obj)} {σ:St} {H1:Hp} {s1:Shared} {h2:Heap} {a:Addr} {cls a0:Value} {oe:Obj} {vs:Array Value} {c:Addr}
  (I:Inv (x3b (CXe P w) P w K mg base N qual scope f cd A outer s H E) pins σ H1 s1) (kp:∀ b o,s1.heap.get? b=some o→h2.get? b=some o) (new:s1.heap.get? a=none) (he:h2.get? a=some oe) (hcl:oe.cls=cls) (hd:oe.data=.fields vs) (h1:vs[1]? = some .none) (h0:vs[0]? = some a0) (q:E cls (some c) H1) :
  (x3b (CXe P w) P w K mg base N qual scope f cd A outer s H E).xe (.ref a) { s1 with heap:=h2 }:=by
 have hf:(envOfC qual scope s.heap.objs.size f cd).frame=some s.heap.objs.size:=rfl
 have hfr:frs ((envOfC qual scope s.heap.objs.size f cd)::outer)=s.heap.objs.size::frs outer:=q7n hf
 have bs:Un (frs outer) [] H H1 s.heap s1.heap:=I.base
 have stk:s1.heap.FunFrames base ((envOfC qual scope s.heap.objs.size f cd)::outer):=I.stack
 have fre:∀ b∈frs ((envOfC qual scope s.heap.objs.size f cd)::outer),H1 b=none:=I.stkFree
 have ne:∀ {b:Addr} {o:Obj},s.heap.get? b=some o→b∉frs outer→b∉frs ((envOfC qual scope s.heap.objs.size f cd)::outer):=fun {b o} e hb z=>by
  rw [hfr] at z
  rcases List.mem_cons.mp z with z | z
  ·exact absurd (Heap.lt_size e) (by rw [z]; exact Nat.lt_irrefl _)
  ·exact hb z
 have inn:∀ {b:Addr},b∈frs outer→b∈frs ((envOfC qual scope s.heap.objs.size f cd)::outer):=fun {b} hb=>by rw [hfr]; exact List.mem_cons_of_mem _ hb
 have nx:∀ b:Addr,b∉([]:List Addr):=fun b z=>absurd z (by simp)
 have hin:∀ env∈((envOfC qual scope s.heap.objs.size f cd)::outer),∀ b,env.frame=some b→b∈frs ((envOfC qual scope s.heap.objs.size f cd)::outer):=fun env he b hb=>List.mem_filterMap.mpr ⟨env,he,hb⟩
 show wpAny (model P w) (A.deeper (envOfC qual scope s.heap.objs.size f cd)) (leaving (envOfC qual scope s.heap.objs.size f cd) (.ref a)) _ _ { s1 with heap:=h2 }
 have fresh:(hideAll s1.heap (frs ((envOfC qual scope s.heap.objs.size f cd)::outer))).get? a=none:=by
  cases z:(hideAll s1.heap (frs ((envOfC qual scope s.heap.objs.size f cd)::outer))).get? a with
  | none=>rfl
  | some o=>have:=PySem.W.of_hideAll _ z; rw [new] at this; cases this
 have hl:=(PySem.W.funFrames_hide stk hin).of_keeps (h':=h2) fun b o hb _=>⟨o,kp b o hb,rfl⟩
 refine wpAny_leaving_firstW (s:={ s1 with heap:=h2 }) (a0:=a0) (base:=hideAll s1.heap (frs ((envOfC qual scope s.heap.objs.size f cd)::outer))) I.ok.frames hl hf he (fun b o e=>kp b o (PySem.W.of_hideAll _ e)) fresh hd h1 h0 fun h' hL=>?_
 obtain⟨z1,⟨_,_,z2⟩,z3,z4⟩:=hL
 rw [hcl] at z3
 have fl:Heap.FlyingW (hideAll s1.heap (frs ((envOfC qual scope s.heap.objs.size f cd)::outer))) outer a cls a0 h':=⟨z1,fresh,z2,z3⟩
 have ups1:s1.heap.UpToSlots h':=(Heap.UpToSlots.of_keeps kp).trans z4
 have covS:∀ b o,s.heap.get? b=some o→H b=none→b∉frs outer→(hideAll s1.heap (frs ((envOfC qual scope s.heap.objs.size f cd)::outer))).get? b=some o:=fun b o e n hb=>PySem.W.hideAll_get _ (bs.keep b o e n hb (nx b)) (ne e hb)
 have cov2S:∀ b o,s.heap.get? b=some o→b∉frs outer→∃ o',(hideAll s1.heap (frs ((envOfC qual scope s.heap.objs.size f cd)::outer))).get? b=some o':=fun b o e hb=>by
  obtain⟨o1,e1⟩:=bs.there b o e (nx b)
  exact⟨o1,PySem.W.hideAll_get _ e1 (ne e hb)⟩
 have tr:∀ b o,H1 b=some o→b∉frs ((envOfC qual scope s.heap.objs.size f cd)::outer):=fun b o e z=>by rw [fre b z] at e; cases e
 have hok:HOk P w H1 (hideAll s1.heap (frs ((envOfC qual scope s.heap.objs.size f cd)::outer))):=fun b o e=>by
  refine (I.hok b o e).stay (fun c u hc g=>PySem.W.hideAll_get _ g ?_) (fun _ q=>q) fun _ _ q=>q
  rcases hc with rfl | hc
  ·exact tr _ _ e
  ·exact tr _ _ hc
 have ha:H1 a=none:=by
  cases e:H1 a with
  | none=>rfl
  | some o =>
   obtain⟨u,hu⟩:=(I.hok a o e).there
   rw [new] at hu
   cases hu
 refine⟨a,cls,a0,_,H1,some c,rfl,I.os,I.bare,fl,⟨fun b o e n hb _=>fl.1 _ _ (covS b o e n hb),fun b o e n hb _=>?_,bs.free,fun b o e _=>?_,bs.tups,bs.frzs,bs.tbls⟩,covS,cov2S,hok,ha,fun z=>(nomatch z),q⟩
 ·obtain⟨sl1,e1⟩:=bs.slot b o e n hb (nx b)
  obtain⟨_,o3,e3,nf⟩:=stk.mem (inn hb)
  rw [e1] at e3
  cases e3
  obtain⟨sl4,e4⟩:=ups1 b _ e1 nf
  exact⟨sl4,e4⟩
 ·by_cases hb:b∈frs outer
  ·obtain⟨_,o3,e3,nf⟩:=stk.mem (inn hb)
   obtain⟨sl4,e4⟩:=ups1 b _ e3 nf
   exact⟨_,e4⟩
  ·obtain⟨o',e'⟩:=cov2S b o e hb
   exact⟨o',fl.1 _ _ e'⟩
end
noncomputable def x1d (X:Cx) (E:XK):Prop:=∀ (pins:List (Addr × Obj)) (σ:St) (H:Hp) (s:Shared) (h':Heap) (a c:Addr) (cls a0:Value) (oe:Obj) (vs:Array Value),Inv X pins σ H s→(∀ b o,s.heap.get? b=some o→h'.get? b=some o)→s.heap.get? a=none→h'.get? a=some oe→oe.cls=cls→oe.data=.fields vs→vs[1]? = some .none→vs[0]? = some a0→E cls (some c) H→X.xe (.ref a) { s with heap:=h' }
theorem x3l {P:Program} {w:World} {K:Frag} {mg:Str→Option Value} {base:Heap} {N:List Str} {qual:Str} {scope:Scope} {f:Addr} {cd:Value} {A:Around} {outer:List Env} {s:Shared} {H:Hp} {E:XK} :
  x1d (x3b (CXe P w) P w K mg base N qual scope f cd A outer s H E) E:=fun _ _ _ _ _ _ _ _ _ _ _ I kp new he hcl hd h1 h0 q=>j4a I kp new he hcl hd h1 h0 q
noncomputable abbrev Cx.suiteE (X:Cx) (a:Addr):Cx:={ X with A:=X.A.mark (some (.ref a)),calm:=false }
section
variable {X:Cx} {pins:List (Addr × Obj)} {σ:St} {H:Hp} {s:Shared}
theorem Cx.Ok.suiteE {X:Cx} (ok:X.Ok) (a:Addr):(X.suiteE a).Ok :=
 ⟨ok.mod,ok.kind,ok.glob,ok.blt,ok.above,ok.inj,ok.has,ok.cab,(fun z=>by cases z),ok.frames,ok.stk,ok.exf,ok.bs,ok.bsz,ok.noex,ok.exfs,ok.funs,ok.frf⟩
theorem Inv.suiteE (I:Inv X pins σ H s) (a:Addr):Inv (X.suiteE a) pins σ H s:=⟨I.ok.suiteE a,I.os,I.bare,I.base,I.loc,I.cell,I.free,I.freeC,I.pin,I.hok,I.len⟩
theorem Inv.unsuiteE {a:Addr} (ok:X.Ok) (I:Inv (X.suiteE a) pins σ H s):Inv X pins σ H s:=⟨ok,I.os,I.bare,I.base,I.loc,I.cell,I.free,I.freeC,I.pin,I.hok,I.len⟩
noncomputable def j2t (a:Addr):HO:=.ext fun h=>q4b a .none h
noncomputable def j1p (K:Frag) (C:Addr) (R:Addr→Hp→Prop):XK:=fun cls c H=>c=none∧PySem.W.exmOne K cls (.ref C)=some true∧∀ a,H a=none→R a (upd H a (j2t a))
theorem z2x {x y:Str} {C C2:Addr} {np hp zp cpos kp rp:Pos} {kk:Nat} {e₀:Expr} {es:List Expr} {ta:TA} {E':XK} {D:Ends} {e:Value} {s':Shared} (hst:X.stack=X.env::X.outer) (hf:X.env.frame=some X.env.locals) (hg:Gl X x) (hm:X.mg x=some (.ref C)) (RF:x1d X E') (PO:∀ a:Addr,PassesOwnAt (model X.prog X.w) (X.A.mark (some (.ref a))) X.A X.env X.xe) (hg2:Gl X y) (hm2:X.mg y=some (.ref C2)) (hq:PySem.W.excIn X.K C2 z7i "ValueError.__new__" = true) (ha2:∀ a,PA (X.suiteE a) (e₀::es) ta)
  (I:Inv X pins σ H s) (h:CXe X.prog X.w X.stack H s (j1p X.K C fun a H2=>ta σ H2 fun vs H3=>vs.length≤1000∧H3 a=some (j2t a)∧E' (.ref C2) (some a) H3) e s') (he:starEach (e₀::es) X.env=(false,eval e₀ X.env)::starEach es X.env:=by rfl) (hplain:(backTo cpos (starEach es X.env)).any (·.1)=false:=by rfl) (hd:(x==("__debug__" : Str))=false:=by decide) (hd2:(y==("__debug__" : Str))=false:=by decide) :
  wpAny (model X.prog X.w) X.A (noteFrame e X.env) (fun _ s₂=>wpAny (model X.prog X.w) X.A (setFlight e none) (fun _ s₃ =>
   wpAny (model X.prog X.w) X.A (handleBy e X.env [.ExceptHandler (some (.Name x np)) none [.Raise (some (.Call (.Name y zp) (e₀::es) [] cpos)) (some (.Constant .none kk kp)) rp] hp]) (SP X pins D) X.xe s₃) X.xe s₂) X.xe s':=by
 obtain⟨a,cls,a0,B,H1,c,rfl,fl,ha,hc,⟨hcn,hx,q⟩,inv⟩:=j2w I h
 have hcx:=hc hcn
 rw [hst] at fl inv
 have hfr:X.A.frames=some (X.env::X.outer):=by rw [← hst]; exact I.ok.frames
 refine wpAny_mono ((x0y _ _).any hcx (wpAny_looks_onW (Q:=fun _ s3=>Heap.HeldW B (X.env::X.outer) a cls a0 X.env.locals s3.heap∧s'.heap.UpToSlots s3.heap∧s3={ s' with heap:=s3.heap }) hfr hf fl fun h₄ held u4=>⟨held,u4,rfl⟩)) (fun _ s3 ⟨⟨held,u4,e3⟩,hc4⟩=>?_) fun _ _ z=>z
 obtain⟨h₄,rfl⟩:∃ h₄,s3={ s' with heap:=h₄ }:=⟨_,e3⟩
 refine wpAny_mono ((q5w _ _).any hc4 (wpAny_landsW (Q:=fun _ s3=>Heap.FlyingW B (X.env::X.outer) a cls a0 s3.heap∧h₄.UpToSlots s3.heap∧s3={ s' with heap:=s3.heap }) held fun h₅ fl5 u5=>⟨fl5,u5,rfl⟩)) (fun _ s3 ⟨⟨fl5,u5,e5⟩,hc5⟩=>?_) fun _ _ z=>z
 obtain⟨h₅,rfl⟩:∃ h₅,s3={ s' with heap:=h₅ }:=⟨_,e5⟩
 have stb:∀ h1 h2:Heap,q4b a .none h1→(∀ o,h1.get? a=some o→h2.get? a=some o)→q4b a .none h2:=fun h1 h2 ⟨o,v,y1,y2,y3⟩ k=>⟨o,v,k o y1,y2,y3⟩
 have J:=(inv h₅ (fun h=>q4b a .none h) fl5 (u4.trans u5) hc5 stb).suiteE a
 refine wpAny_handleBy_cons (codeAny_handlers_test (q5m (X:=X.suiteE a) J hg hm ?_ hd)) (by intro q; cases q)
 obtain⟨ob,hob,hobc⟩:=fl5.there
 refine PySem.W.exm_one (M:=model X.prog X.w) J.kIn (hobc▸(PySem.W.Looks.ld hob).andThen .now) hx _ _ _ _ (fun _ _ e=>e) (codeAny_handlers_suite ?_)
 refine wpAny_mono ((q5w _ _).any hc5 (lands_againW (Q:=fun _ s3=>Heap.FlyingW B (X.env::X.outer) a cls a0 s3.heap∧h₅.UpToSlots s3.heap∧s3={ s' with heap:=s3.heap }) fl5 fun h₆ fl6 u6=>⟨fl6,u6,rfl⟩)) (fun _ s3 ⟨⟨fl6,u6,e6⟩,hc6⟩=>?_) fun _ _ z=>z
 obtain⟨h₆,rfl⟩:∃ h₆,s3={ s' with heap:=h₆ }:=⟨_,e6⟩
 have J6:=(inv h₆ (fun h=>q4b a .none h) fl6 ((u4.trans u5).trans u6) hc6 stb).suiteE a
 have qa:=q a ha
 obtain⟨tl,N,nm,qn,bs,hdct,sn,sub,ab,col,dd,k0,k1,k2,k3,k5,mN,hC,hN,hni,T⟩:=(z8s (x:=y) J6.ok.mod.kin hm2 hq).obj
 refine wpAny_passesOwnAt (PO a) (wpAny_execs_cons (z1d (C:=C2) (nm:=nm) (q:=qn) (N:=N) (bs:=bs) (bm:=tl) (hdct:=hdct) (sn:=sn) (sub:=sub) (ab:=ab) (col:=col) (dd:=dd) (k0:=k0) (k1:=k1) (k2:=k2) (k3:=k3) (k5:=k5)
  PySem.F.excBase_ValueError (mN:=mN) (T.hasType PySem.F.excBase_ValueError.hasBase) rfl (by rw [he]; show (false || (backTo cpos (starEach es X.env)).any (·.1))=false; rw [hplain]; rfl) hni (q5m (X:=X.suiteE a) J6 hg2 hm2 ⟨rfl,?_⟩ hd2)))
 have h':=ha2 a cpos pins _ σ _ _ J6 qa
 rw [he] at h' ⊢
 refine Calls.evalArgs_plain (wpAny_mono h' (fun us s₂ ⟨vs,H2,I2,r,hl,hta,qe⟩=>?_) fun _ _ y=>y)
 refine⟨rfl,?_,I2.bk _ _ hC,hN.keeps I2.bk,T.keeps I2.bk,?_,fun h7 e7 h8 hmk ot ⟨t,et⟩=>?_⟩
 ·rw [← r.length]
  have:(1000:Nat)≤sizeLine:=by rw [sizeLine_eq]; decide
  exact Nat.le_trans hl this
 ·exact (I2.hok a _ hta).1
 ·refine RF pins σ H2 s₂ h8 e7 a (.ref C2) (.ref t) _ _ (I2.unsuiteE I.ok) (fun b o eb=>?_) hmk.new et rfl rfl rfl rfl qe
  rw [ot b fun z=>by rw [z,hmk.new] at eb; cases eb]
  exact hmk.keeps b o eb
noncomputable def z6i (K:Frag) (C C2:Addr) (i:Nat) (sp:Sp) (t ta:TA) (E':XK):TS:=fun D σ H=>t σ H fun vs H1=>sp (vs++[]) H1 (fun v H2=>D.nx (σ.set i (some v)) H2) (j1p K C fun a H2=>ta σ H2 fun vs H3=>vs.length≤1000∧H3 a=some (j2t a)∧E' (.ref C2) (some a) H3)
theorem z1m {k:Nat} {f C C2:Addr} {fd:FuncData} {ps:List Str} {sp:Sp} {x y n z:Str} {i kk:Nat} {p pos rp tp np hp py zp cpos kp rp2:Pos} {e e₀:Expr} {es es2:List Expr} {t ta:TA} {E':XK} (hst:X.stack=X.env::X.outer) (hf:X.env.frame=some X.env.locals) (F:FnOk X.prog X.w X.K X.mg X.base (CXe X.prog X.w) k f fd ps sp) (hr:Room k X.A) (hg:Gl X x) (hm:X.mg x=some (.ref f)) (hk:keepIn X.K (.ref f)=true) (hb:q2i X.K fd ps []) (ha:∀ W,PA (X.wish W) (e::es) t)
  (hN:X.N.Nodup) (hi:X.N[i]? = some n) (hx:Loc X.env.scope n) (hgC:Gl X y) (hmC:X.mg y=some (.ref C)) (RF:x1d X E') (PO:∀ a:Addr,PassesOwnAt (model X.prog X.w) (X.A.mark (some (.ref a))) X.A X.env X.xe) (hg2:Gl X z) (hm2:X.mg z=some (.ref C2)) (hq:PySem.W.excIn X.K C2 z7i "ValueError.__new__" = true) (ha2:∀ a,PA (X.suiteE a) (e₀::es2) ta) (hfn:X.fn n=true∨X.env.scope.names.lookup n=some .local:=by first | exact .inl rfl | exact .inr rfl | assumption)
  (he:starEach (e::es) X.env=(false,eval e X.env)::starEach es X.env:=by rfl) (hpl:(backTo pos (starEach es X.env)).any (·.1)=false:=by rfl) (he2:starEach (e₀::es2) X.env=(false,eval e₀ X.env)::starEach es2 X.env:=by rfl) (hpl2:(backTo cpos (starEach es2 X.env)).any (·.1)=false:=by rfl) (hdb:(x==("__debug__" : Str))=false:=by decide) (hdc:(y==("__debug__" : Str))=false:=by decide) (hdz:(z==("__debug__" : Str))=false:=by decide) :
  PS X (.Try [.Assign [.Name n py] (.Call (.Name x p) (e::es) [] pos) rp] [.ExceptHandler (some (.Name y np)) none [.Raise (some (.Call (.Name z zp) (e₀::es2) [] cpos)) (some (.Constant .none kk kp)) rp2] hp] [] [] tp) (z6i X.K C C2 i sp t ta E'):=by
 intro pins s σ H D I h
 refine wpAny_Try_except (wpAny_execs_cons (wpAny_Assign_Name (thn (x0u (Q:=fun v H2=>D.nx (σ.set i (some v)) H2) F hr hg hm hk hb (ha _) he hpl hdb I h fun H1 s1 e1 s' I1 h1=>z2x hst hf hgC hmC RF PO hg2 hm2 hq ha2 I1 h1 he2 hpl2 hdc hdz) fun v s1 ⟨z,H1,I1,r1,q1⟩=>?_)))
 refine q9m I1 hN hi hx r1 (fun s2 I2=>?_) hfn
 exact wpAny_execs_nil (wpAny_execs_nil ⟨_,H1,I2,q1⟩)
end
end L2
namespace K1
open PySem L2 Kp
section
variable {P:Program} {w:World} {K:Frag} {mg:Str→Option Value} {base:Heap}
theorem x6u {d:D} (h:q5a d=true):∃ (c:Int) (ss:List Int) (es:List D),d=.tup [.int c,.tup (ss.map D.int),.tup es]∧1≤c∧c≤9∧q2u (.tup (ss.map D.int))=true∧(∀ s∈ss,s < c∧0≤s∧s≤8)∧1≤ss.length∧ss.length≤9∧es.all q3f=true∧es.length≤300:=by
 unfold q5a at h
 rw [Bool.and_eq_true] at h
 obtain⟨ds,rfl,hfl⟩:=x6g h.1
 match ds,hfl with
 | [d1,d2,d3],hfl =>
  simp only [q0w,Bool.and_eq_true,Bool.and_true] at hfl
  obtain⟨hc,hs,hd⟩:=hfl
  obtain⟨c,rfl⟩:∃ c,d1=.int c:=by cases d1 <;> first | exact⟨_,rfl⟩ | cases hc
  obtain⟨ss,rfl,h9,h1,hk⟩:=q3s hs
  have hc':(decide (1≤c) && decide (c≤9))=true:=hc
  rw [Bool.and_eq_true,decide_eq_true_eq,decide_eq_true_eq] at hc'
  have hd':=Bool.and_eq_true _ _ |>.mp (show (j6i q3f d3 && decide (j6u d3≤300))=true from hd)
  cases d3 with
  | tup es =>
   have hb:((q1z (ss.map D.int)).all fun i=>decide (i < c))=true:=h.2
   have ei:∀ l:List Int,q1z (l.map D.int)=l:=fun l=>by
    induction l with
    | nil=>rfl
    | cons n l ih=>show n::q1z (l.map D.int)=n::l; rw [ih]
   rw [ei] at hb
   exact⟨c,ss,es,rfl,hc'.1,hc'.2,hs,fun s hs'=>⟨of_decide_eq_true (List.all_eq_true.mp hb s hs'),hk s hs'⟩,h1,h9,hd'.1,of_decide_eq_true hd'.2⟩
  | _=>cases hd'.1
 | [],h=>cases h
 | [_],h=>simp [q0w] at h
 | [_,_],h=>simp [q0w] at h
 | _::_::_::_::_,h=>simp [q0w] at h
structure RTab6 (K:Frag) (mg:Str→Option Value):Prop where
 ex:∃ t,mg "ROOM_PARTS" = some (.ref t)∧∀ H,SqT K H t ((["count", "seats"]:List Str).map V.str)
theorem x1l:q1k "count" = q8o:=by unfold q1k; rw [if_neg (by decide +kernel),if_neg (by decide +kernel),if_neg (by decide +kernel)]
theorem x1t:q1k "seats" = q7y:=by unfold q1k; rw [if_neg (by decide +kernel),if_neg (by decide +kernel),if_pos rfl]
theorem x7l:q6r "count" = whole:=by unfold q6r; rw [if_neg (by decide +kernel),if_neg (by decide +kernel),if_neg (by decide +kernel)]
theorem x8e:q6r "seats" = q2u:=by unfold q6r; rw [if_neg (by decide +kernel),if_neg (by decide +kernel),if_pos rfl]
theorem small_one {k:Nat} {n:Int} (hk:1≤k) (h0:0≤n) (h9:n≤9):q2j k (.int n)=true:=by
 show decide (n.natAbs < 10 ^ k)=true
 have:(10:Nat) ^ 1≤10 ^ k:=Nat.pow_le_pow_right (by decide) hk
 exact decide_eq_true (by omega)
end
structure ExN (K:Frag) (mg:Str→Option Value) (x:Str) (c:Addr):Prop where
 m:mg x=some (.ref c)
 x:PySem.W.excIn K c z7i "ValueError.__new__" = true
section
variable {P:Program} {w:World} {K:Frag} {mg:Str→Option Value} {base:Heap}
end
end K1
namespace Kp
open PySem PySem.Builtin PySem.Builtin.Str L2
theorem q4j {x y:Str} {c:Nat} (hy:y.cps=#[c]):Txt.startswith x y=decide ((cL x).head? = some c):=by
 obtain⟨⟨l⟩⟩:=x
 have h1:y.length=1:=by show y.cps.size=1; rw [hy]; rfl
 unfold Txt.startswith subAt
 rw [h1,hy]
 show (decide (0+1≤l.length) && ((⟨l⟩:Array Nat).extract 0 (0+1)==#[c]))=decide (l.head? = some c)
 cases l with
 | nil=>simp
 | cons a r =>
  have e:((⟨a::r⟩:Array Nat).extract 0 (0+1))=#[a]:=Array.ext' (by simp [List.extract])
  rw [e,Bool.eq_iff_iff]
  simp
theorem q9w {x:Str} (h:1≤x.length):cL (Txt.slice x (some 1) none)=(cL x).tail:=by
 have e:strSliceIndices (some 1) none 1 x.length=strSliceIndices (some ((1:Nat):Int)) (some ((x.length:Nat):Int)) 1 x.length:=by
  have e1:Max.max 0 (Min.min (if (x.length:Int) < 0 then (x.length:Int)+(x.length:Int) else (x.length:Int)) (x.length:Int))=(x.length:Int):=by rw [if_neg (by omega)]; omega
  unfold strSliceIndices sliceRange
  simp [e1]
 have hp:=StrLaws.sliced_plain x h (Nat.le_refl _)
 have hl:(strSliceIndices (some 1) none 1 x.length).length=x.length - 1:=by
  rw [e,StrLaws.strSliceIndices_plain h (Nat.le_refl _)]
  simp
 unfold Txt.slice
 rw [hl,if_neg (by simp; omega),e,hp]
 show (x.cps.toList.drop 1).take (x.length - 1)=x.cps.toList.tail
 rw [List.drop_one,List.take_of_length_le (by rw [List.length_tail,Array.length_toList]; exact Nat.le_refl _)]
end Kp
namespace Kp
open PySem L2
noncomputable def q7t (c:Nat):Bool:=decide (48≤c) && decide (c≤57)
noncomputable def q0t (x:Str):Str:=if Txt.startswith x "-" = true then Txt.slice x (some 1) none else x
noncomputable def x8s (x:Str):Bool:=(decide (1≤(q0t x).length) && decide ((q0t x).length≤60)) && ((q0t x).cps.toList.all q7t && (decide (x = "0") || !Txt.startswith (q0t x) "0"))
theorem q7c:("-" : Str).cps=#[45]:=by decide +kernel
theorem q7p:("0" : Str).cps=#[48]:=by decide +kernel
theorem z4g:∀ (m:Nat),m≠0→(q8l m).head? ≠ some 48:=by
 intro m
 induction m using Nat.strongRecOn with
 | _ m ih =>
  intro h0
  by_cases h:m < 10
  ·rw [x1b h]
   simp
   omega
  ·have h10:10≤m:=by omega
   rw [x5n h10,List.head?_append]
   have h1:=ih (m / 10) (by omega) (by omega)
   cases hd:(q8l (m / 10)).head? with
   | none=>exact absurd (List.head?_eq_none_iff.mp hd) (x4r _)
   | some c=>rw [hd] at h1; exact h1
theorem z1t {m c:Nat} (h:(q8l m).head? = some c):48≤c∧c≤57:=by
 have hm:c∈q8l m:=List.mem_of_mem_head? h
 exact q3e m c hm
theorem x9b (n:Int):cL (q1d n)=z5v n:=rfl
theorem z5z (n:Int):cL (q0t (q1d n))=q8l n.natAbs:=by
 unfold q0t
 rw [q4j q7c,x9b]
 by_cases hn:n < 0
 ·rw [q4z hn]
  rw [if_pos (by simp),q9w,x9b,q4z hn]
  ·rfl
  ·have:(cL (q1d n)).length=(q1d n).length:=Array.length_toList
   rw [x9b,q4z hn] at this
   rw [← this]
   simp
 ·obtain⟨m,rfl⟩:=Int.eq_ofNat_of_zero_le (show 0≤n by omega)
  rw [q6g]
  have:decide ((q8l m).head? = some 45)=false:=decide_eq_false fun z=>by
   have:=z1t z
   omega
  rw [this,if_neg Bool.false_ne_true,x9b,q6g]
  rfl
theorem x4g {n:Int} (h:n.natAbs < 10 ^ 60):x8s (q1d n)=true:=by
 have e:=z5z n
 have hl:(q0t (q1d n)).length=(q8l n.natAbs).length:=by rw [← e]; exact Array.length_toList.symm
 have h1:=(q7m n.natAbs (k:=60) (by decide)).mpr h
 have h0:1≤(q8l n.natAbs).length:=List.length_pos_iff.mpr (x4r _)
 have ha:(q0t (q1d n)).cps.toList.all q7t=true:=by
  show (cL (q0t (q1d n))).all q7t=true
  rw [e]
  refine List.all_eq_true.mpr fun c hc=>?_
  have:=q3e n.natAbs c hc
  unfold q7t
  rw [decide_eq_true this.1,decide_eq_true this.2]
  rfl
 unfold x8s
 rw [hl,decide_eq_true h0,decide_eq_true h1,ha,q4j q7p,e]
 by_cases hz:n=0
 ·subst hz
  rw [decide_eq_true (show q1d 0 = "0" by decide +kernel)]
  rfl
 ·rw [decide_eq_false (z4g n.natAbs (by omega))]
  simp
end Kp
namespace K1
open PySem L2 Kp
theorem z3i (c:Nat):(!decide ((⟨#[c]⟩:Str).cps.toList < ("0" : Str).cps.toList))=decide (48≤c):=by
 have e:("0" : Str).cps.toList=[48]:=by decide +kernel
 rw [e]
 show (!decide ([c] < [48]))=_
 have:([c] < [48])↔c < 48:=by
  constructor
  ·intro h
   cases h with
   | rel h=>exact h
   | cons h=>cases h
  ·intro h; exact List.Lex.rel h
 rw [Bool.eq_iff_iff]
 simp only [Bool.not_eq_true',decide_eq_false_iff_not,decide_eq_true_eq,this]
 omega
theorem j1i (c:Nat):(!decide (("9" : Str).cps.toList < (⟨#[c]⟩:Str).cps.toList))=decide (c≤57):=by
 have e:("9" : Str).cps.toList=[57]:=by decide +kernel
 rw [e]
 show (!decide ([57] < [c]))=_
 have:([57] < [c])↔57 < c:=by
  constructor
  ·intro h
   cases h with
   | rel h=>exact h
   | cons h=>cases h
  ·intro h; exact List.Lex.rel h
 rw [Bool.eq_iff_iff]
 simp only [Bool.not_eq_true',decide_eq_false_iff_not,decide_eq_true_eq,this]
 omega
section
variable {P:Program} {w:World} {K:Frag} {mg:Str→Option Value} {base:Heap}
noncomputable def x9t:Sp:=fun vs H Q _=>∃ x:Str,vs=[.str x]∧x.length≤100000∧∀ H',q1h H H'→Q (.bl (x8s x)) H'
noncomputable def j6w:TS:=fun D σ H=>∃ x:Str,σ=[some (.str x),none]∧x.length≤100000∧((q0t x).length≤x.length→D.nx [some (.str x),some (.str (q0t x))] H)
theorem PS.weak6 {X:Cx} {st:Stmt} {t t':TS} (h:PS X st t) (w:∀ D σ H,t' D σ H→t D σ H):PS X st t':=fun pins s σ H D I q=>h pins s σ H D I (w D σ H q)
theorem j3v:FnScope ["word", "figures"] ["word"] (q0e q3b):=fSc
theorem x7p {f:Addr} {fd:FuncData} (F:Fun K "is_number_word" "is_number_word" q3b f fd) (T:Txt mg):FnOk P w K mg base CX0 1 f fd ["word"] x9t:=by
 refine F.ok j3v (fun vs H Q E ⟨_,e,_⟩=>by subst e; rfl) (fun _ A _ s H vs Q E hr h=>?_)
 obtain⟨x,rfl,hx,q⟩:=h
 refine⟨_,@q0j _ _ _ _ _ (PS.weak6 (t':=j6w) (q0y (i:=1) j3v.nd (by rfl) (by exact Or.inl rfl) (z6h (q3h (q6w PySem.F.plainAttrs_str PySem.F.slot_str_startswith PySem.F.type_str_startswith x6k (pv 0) (q3r q0q q0a))) (q1g q7v (pv 0) (q1m q0b) q1p) (pv 0))) ?w1)
  (@q0j _ _ _ _ _ (q1e (q4e (z7m x0n x0n q0b (q0n q2v (by rfl) T.len PySem.boot_len (q1c (pv 1) q0a)) q0b)) (@q0m _ _ _ (q0g x7c)) q0h)
  (@q0j _ _ _ _ _ (q1e (q4e (q3h (q0n (q7j (by rfl)) (by rfl) T.all q5r (q0o (q6j (NB:=["sign"]) (n:=1) (fr:=[]) (q8k (outer:=q0e q3b) (by rfl) (by decide +kernel) (by rfl)) (by rfl) (x9i (pv 1))
   (fun _ _ _ _ _=>q1x (i:=0) (show (["sign"]:List Str).Nodup by decide +kernel) (by rfl) (by exact Or.inl rfl)) (fun _ _ _ _ _=>q3a) (fun _ _ _ _ _=>q7o q8t q8t q0q (pv 0) q0q)) q0a)))) (@q0m _ _ _ (q0g x7c)) q0h)
  (@q0m _ _ _ (q0g (j6m (q5k q1s (pv 0) q0q (q0i _)) (q4q (x9u (q6w PySem.F.plainAttrs_str PySem.F.slot_str_startswith PySem.F.type_str_startswith x6k (pv 1) (q3r q0q q0a))))))))),?_⟩
 case w1 =>
  rintro D σ H ⟨x,rfl,hx,q⟩
  refine⟨_,rfl,rfl,x, "-",rfl,rfl,_,rfl,?_⟩
  cases hs:Txt.startswith x "-" with
  | true =>
   refine q1f ⟨_,rfl,1,rfl,x,rfl,by rw [sizeLine_eq]; omega,fun y hy e=>?_⟩
   have e2:q0t x=y:=by unfold q0t; rw [hs,if_pos rfl,e]
   rw [e2] at q
   exact q hy
  | false =>
   have e2:q0t x=x:=by unfold q0t; rw [hs,if_neg Bool.false_ne_true]
   rw [e2] at q
   exact q1a ⟨_,rfl,q (Nat.le_refl _)⟩
 refine⟨x,rfl,hx,fun hfl=>?_⟩
 have q0:∀ H',q1h H H'→Q (.bl ((decide (1≤(q0t x).length) && decide ((q0t x).length≤60)) && ((q0t x).cps.toList.all q7t && (decide (x = "0") || !Txt.startswith (q0t x) "0")))) H':=q
 generalize q0t x=y at hfl q0 ⊢
 refine⟨_,rfl,y,rfl,by rw [sizeLine_eq]; omega,1,_,rfl,rfl,_,rfl,?_⟩
 by_cases h1:1≤y.length
 ·rw [decide_eq_true (show (1:Int)≤(y.length:Int) by omega)]
  refine q1f ⟨_,60,rfl,rfl,_,rfl,?_⟩
  by_cases h60:y.length≤60
  ·rw [decide_eq_true (show (y.length:Int)≤60 by omega)]
   refine q1a ⟨_,rfl,y,rfl,q5y (J:=Its y) (k:=1) (fun _=>true) (fun i=>.bl (q7t (y.cps.getD i 0))) (show y.cps.size < sizeLine by rw [sizeLine_eq]; have:y.cps.size=y.length:=rfl; omega) (fun i H hi _=>hi) (fun H _=>rfl) ?_ ?_⟩
   ·intro i H2 t v H3 R hi s1 ht z hR
    obtain⟨rfl,c,hc,rfl⟩:=z
    obtain⟨t0,rfl⟩:∃ t0,t=[t0]:=by
     match t,ht with
     | [t0],_=>exact⟨t0,rfl⟩
    have ec:y.cps.getD i 0=c:=by rw [Array.getD_eq_getD_getElem?,hc]; rfl
    have hR':=hR [some (.str ⟨#[c]⟩)] H3 rfl (q1h.refl _)
    rw [ec] at hR'
    refine⟨_,rfl,_,_,rfl,rfl,_,rfl,?_⟩
    rw [z3i]
    unfold q7t at hR'
    by_cases h48:48≤c
    ·rw [decide_eq_true h48] at hR' ⊢
     refine q1f ⟨_,_,rfl,rfl,?_⟩
     rw [j1i]
     exact hR'
    ·rw [decide_eq_false h48] at hR' ⊢
     exact q1a hR'
   ·intro D H' s1 hD hd
    refine⟨D,(List.range y.cps.size).map fun i=>q7t (y.cps.getD i 0),rfl,SqL.of ?_,?_⟩
    ·rw [hd,List.filter_eq_self.mpr (fun _ _=>rfl),List.map_map]
     rfl
    have k2:=q0 H' s1
    rw [decide_eq_true h1,decide_eq_true h60] at k2
    rw [x5q (α:=Nat)]
    refine⟨_,rfl,?_⟩
    cases hall:y.cps.toList.all q7t with
    | false =>
     rw [hall] at k2
     exact q1f k2
    | true =>
     rw [hall] at k2
     refine q1a ⟨_,rfl,rfl,_,rfl,?_⟩
     by_cases hx0:x = "0"
     ·rw [decide_eq_true (show V.str x=V.str "0" by rw [hx0])]
      rw [decide_eq_true hx0] at k2
      exact q1f k2
     ·rw [decide_eq_false (fun z=>hx0 (V.str.inj z))]
      rw [decide_eq_false hx0] at k2
      exact q1a ⟨_,rfl,rfl,y, "0",rfl,rfl,_,rfl,k2⟩
  ·rw [decide_eq_false (show ¬ (y.length:Int)≤60 by omega)]
   have k2:=q0 H (q1h.refl _)
   rw [decide_eq_true h1,decide_eq_false h60] at k2
   exact q1f k2
 ·rw [decide_eq_false (show ¬ (1:Int)≤(y.length:Int) by omega)]
  have k2:=q0 H (q1h.refl _)
  rw [decide_eq_false h1] at k2
  exact q1a ⟨_,rfl,q1f k2⟩
end
structure WoC (K:Frag) (C:Addr):Prop where
 cl:Cls K C
 a_words:x0i K C "words"
 a_passed:x0i K C "passed"
theorem lkW {v u:V}:([("words",v),("passed",u)]:List (Str × V)).lookup ("words" : Str)=some v:=by simp [List.lookup]
theorem lkP {v u:V}:([("words",v),("passed",u)]:List (Str × V)).lookup ("passed" : Str)=some u:=by
 have:(("passed" : Str) == "words")=false:=by decide +kernel
 simp [List.lookup,this]
theorem lkA {v u:V}:([("words",v),("passed",u)]:List (Str × V)).lookup ("all_passed" : Str)=none:=by
 have h1:(("all_passed" : Str) == "words")=false:=by decide +kernel
 have h2:(("all_passed" : Str) == "passed")=false:=by decide +kernel
 simp [List.lookup,h1,h2]
noncomputable def Wd (C a l:Addr) (ws:List Str) (p:Nat) (H:Hp):Prop:=(∃ dx,H a=some (.ins C dx [("words",.ref l),("passed",.int (p:Int))]))∧H l=some (.lst (ws.map V.str))
theorem Wd.ne {C a l:Addr} {ws:List Str} {p:Nat} {H:Hp} (h:Wd C a l ws p H):l≠a:=fun z=>by
 obtain⟨⟨dx,e⟩,e2⟩:=h
 rw [z,e] at e2
 cases e2
section
variable {P:Program} {w:World} {K:Frag} {mg:Str→Option Value} {base:Heap}
noncomputable def x1o (C:Addr):Sp:=fun vs H Q _=>∃ (x dx:Addr) (y:Str),vs=[.ref x,.str y]∧H x=some (.ins C dx [])∧y.length+1≤sizeLine∧∀ l H',H l=none→Wd C x l (Txt.split y " ") 0 H'→q1l x H H'→Q .non H'
noncomputable def x2d (C:Addr):Sp:=fun vs H Q _=>∃ (a l:Addr) (ws:List Str) (p:Nat),vs=[.ref a]∧Wd C a l ws p H∧Q (.bl (decide (p=ws.length))) H
noncomputable def q9s (C:Addr):Sp:=fun vs H Q _=>∃ (a l:Addr) (ws:List Str) (p:Nat) (x:Str),vs=[.ref a]∧Wd C a l ws p H∧ws[p]? = some x∧ws.length≤100000∧∀ H',Wd C a l ws (p+1) H'→q1l a H H'→Q (.str x) H'
theorem j8t:FnScope ["self", "line"] ["self", "line"] (q0e q4c):=fSc
theorem z6m {f:Addr} {fd:FuncData} {C:Addr} (Y:WoC K C) (F:Fun K "__init__" "Words.__init__" q4c f fd):FnOk P w K mg base CX0 1 f fd ["self", "line"] (x1o C):=by
 refine F.ok j8t (fun vs H Q E ⟨_,_,_,e,_⟩=>by subst e; rfl) (fun _ A _ s H vs Q E hr h=>?_)
 obtain⟨x,dx,y,rfl,hx,hy,q⟩:=h
 refine⟨_,@q0j _ _ _ _ _ (z0b (pv 0) (q6w PySem.F.plainAttrs_str PySem.F.slot_str_split PySem.F.type_str_split q6f (pv 1) (q3r q0q q0a)) (by rfl))
  (@q0m _ _ _ (z0b (pv 0) q0b (by rfl))),?_⟩
 refine⟨_,rfl,rfl,y, " ",rfl,rfl,by decide +kernel,hy,fun l hl=>?_⟩
 have nx:x≠l:=fun z=>by rw [z,hl] at hx; cases hx
 refine⟨_,rfl,x,C,dx,[],rfl,(by rw [q0r nx]; exact hx),Y.cl,Y.a_words,by decide,?_⟩
 refine⟨_,rfl,x,C,dx,_,rfl,q0c,Y.cl,Y.a_passed,(by show 1 < 1000; decide),?_⟩
 refine q l _ hl ⟨⟨dx,q0c⟩,?_⟩ (fun b o hb e=>?_)
 ·rw [q0r nx.symm,q0r nx.symm]
  exact q0c
 ·rw [q0r hb,q0r hb,q0r (fun z=>by rw [z,hl] at e; cases e)]
  exact e
theorem j8h:FnScope ["self"] ["self"] (q0e q3i):=fSc
theorem j0c {f:Addr} {fd:FuncData} {C:Addr} (Y:WoC K C) (F:Fun K "all_passed" "Words.all_passed" q3i f fd) (T:Txt mg):FnOk P w K mg base CX0 1 f fd ["self"] (x2d C):=by
 refine F.ok j8h (fun vs H Q E ⟨_,_,_,_,e,_⟩=>by subst e; rfl) (fun _ A _ s H vs Q E hr h=>?_)
 obtain⟨a,l,ws,p,rfl,⟨⟨dx,ha⟩,hl⟩,q⟩:=h
 refine⟨_,@q0m _ _ _ (q0g (q5k q1s (x0h (pv 0) (by rfl)) (q0n q0l (by rfl) T.len PySem.boot_len (q0o (x0h (pv 0) (by rfl)) q0a)) (q0i _))),?_⟩
 refine⟨_,rfl,a,C,dx,_,_,rfl,ha,Y.cl,Y.a_passed,lkP,_,rfl,a,C,dx,_,_,rfl,ha,Y.cl,Y.a_words,lkW,l,_,rfl,.inl (SqL.of hl),rfl,?_⟩
 have e:decide (V.int (p:Int)=V.int ((ws.map V.str).length:Int))=decide (p=ws.length):=by
  rw [List.length_map,Bool.eq_iff_iff,decide_eq_true_eq,decide_eq_true_eq]
  constructor
  ·intro z; have:=V.int.inj z; omega
  ·intro z; rw [z]
 rw [e]
 exact q
theorem j8j:FnScope ["self"] ["self"] (q0e q3v):=fSc
theorem z7f {f fA:Addr} {fd dA:FuncData} {C:Addr} (Y:WoC K C) (F:Fun K "word" "Words.word" q3v f fd) (MA:Meth K C "all_passed" fA) (FA:FnOk P w K mg base CX0 1 fA dA ["self"] (x2d C)) (bA:q2i K dA ["self"] []):FnOk P w K mg base CX0 2 f fd ["self"] (q9s C):=by
 refine F.ok j8j (fun vs H Q E ⟨_,_,_,_,_,e,_⟩=>by subst e; rfl) (fun _ A _ s H vs Q E hr h=>?_)
 obtain⟨a,l,ws,p,x,rfl,W,hx,hws,q⟩:=h
 obtain⟨⟨dx,ha⟩,hl⟩:=id W
 have hp:p < ws.length:=(List.getElem?_eq_some_iff.mp hx).1
 refine⟨_,@q0j _ _ _ _ _ (q1e (q3h (q2o (pv 0) Y.cl MA FA hr bA .nil q5g)) q4u q0h)
  (@q0j _ _ _ _ _ (z0b (pv 0) (q0p q4f (x0h (pv 0) (by rfl)) q0b) (by rfl))
  (@q0m _ _ _ (q0g (q1i q1b (x0h (pv 0) (by rfl)) (q0p q8a (x0h (pv 0) (by rfl)) q0b) x7k)))),?_⟩
 refine⟨_,rfl,a,dx,_,rfl,ha,lkA,a,l,ws,p,rfl,W,_,rfl,?_⟩
 rw [decide_eq_false (show ¬ p=ws.length by omega)]
 refine q1a ⟨_,rfl,a,C,dx,_,_,rfl,ha,Y.cl,Y.a_passed,lkP,_,_,rfl,rfl,_,rfl,a,C,dx,_,rfl,ha,Y.cl,Y.a_passed,(by show 2 < 1000; decide),?_⟩
 have nl:=W.ne
 have W':Wd C a l ws (p+1) (upd H a (.ins C dx [("words",.ref l),("passed",.int ((p:Int)+1))])):=⟨⟨dx,q0c.trans (by rw [show ((p:Int)+1)=((p+1:Nat):Int) by omega])⟩,by rw [q0r nl]; exact hl⟩
 obtain⟨⟨dx',ha'⟩,hl'⟩:=id W'
 have hat:atI (ws.map V.str) (((p+1:Nat):Int) - 1)=some (.str x):=by
  rw [show (((p+1:Nat):Int) - 1)=(p:Int) by omega]
  exact q0k (by rw [List.getElem?_map,hx]; rfl)
 exact⟨_,rfl,a,C,dx',_,_,rfl,ha',Y.cl,Y.a_words,lkW,_,rfl,a,C,dx',_,_,rfl,ha',Y.cl,Y.a_passed,lkP,_,_,rfl,rfl,l,_,_,_,rfl,rfl,SqL.of hl',hat,q _ W' q1l.upd⟩
end
noncomputable def x8u (C:Addr) (pr:D→Bool) (f:D→List Str):Sp:=fun vs H Q _=>∃ (a l:Addr) (ws:List Str) (p:Nat) (d:D) (rest:List Str),vs=[.ref a]∧Wd C a l ws p H∧ws.drop p=f d++rest∧pr d=true∧q2j 60 d=true∧x6c 200 d=true∧x6n d=true∧ws.length≤100000∧(∀ x∈ws,x.length≤100) ∧
 ∀ v H',Is 200 H' v d→Wd C a l ws (p+(f d).length) H'→q1l a H H'→Q v H'
theorem x4w {C:Addr} {pr:D→Bool} {f:D→List Str} {px:Str}:∀ vs H Q E,x8u C pr f vs H Q E→vs.length=[px].length:=fun vs H Q E ⟨_,_,_,_,_,_,e,_⟩=>by subst e; rfl
theorem x8m {ws rest:List Str} {p:Nat} {x:Str} (h:ws.drop p=x::rest):ws[p]? = some x:=by
 have:(ws.drop p)[0]? = some x:=by rw [h]; rfl
 rw [List.getElem?_drop,Nat.add_zero] at this
 exact this
theorem Wd.same {C a l:Addr} {ws:List Str} {p:Nat} {H H':Hp} (h:Wd C a l ws p H) (s:q1h H H'):Wd C a l ws p H':=let ⟨⟨dx,e⟩,e2⟩:=h; ⟨⟨dx,s _ _ e⟩,s _ _ e2⟩
theorem j2x {v u:V}:([("words",v),("passed",u)]:List (Str × V)).lookup ("word" : Str)=none:=by
 have h1:(("word" : Str) == "words")=false:=by decide +kernel
 have h2:(("word" : Str) == "passed")=false:=by decide +kernel
 simp [List.lookup,h1,h2]
section
variable {P:Program} {w:World} {K:Frag} {mg:Str→Option Value} {base:Heap}
theorem j7h:FnScope ["words", "word"] ["words"] (q0e q3o):=fSc
theorem x2w {f fW:Addr} {fd dW:FuncData} {C:Addr} (Y:WoC K C) (F:Fun K "read_number" "read_number" q3o f fd) (T:Txt mg) (MW:Meth K C "word" fW) (FW:FnOk P w K mg base CX0 2 fW dW ["self"] (q9s C)) (bW:q2i K dW ["self"] []) (CI:Cal P w K mg base "is_number_word" 1 ["word"] x9t) :
  FnOk P w K mg base CX0 3 f fd ["words"] (x8u C whole q8o):=by
 refine F.ok j7h x4w (fun _ A _ s H vs Q E hr h=>?_)
 obtain⟨a,l,ws,p,d,rest,rfl,W,hd,hp,hs,hw,hno,hl,hx,q⟩:=h
 obtain⟨n,rfl⟩:=q5s hp
 have r1:=hr.mono (show 1≤2 by decide)
 refine⟨_,@q0j _ _ _ _ _ (q0y (i:=1) j7h.nd (by rfl) (by exact Or.inl rfl) (q2o (pv 0) Y.cl MW FW hr bW .nil q5g))
  (@q0j _ _ _ _ _ (q1e (q4e (q3h (q0s CI r1 (q1c (pv 1) q0a)))) q4u q0h)
  (@q0m _ _ _ (q0g (q1q x2j (by rfl) T.int x1a (q1c (pv 1) q0a))))),?_⟩
 have hn:n.natAbs < 10 ^ 60:=of_decide_eq_true hs
 have hat:ws[p]? = some (q1d n):=x8m hd
 have hlen:(q1d n).length≤100:=hx _ (List.mem_of_getElem? hat)
 obtain⟨⟨dx,ha⟩,_⟩:=id W
 refine⟨_,rfl,a,dx,_,rfl,ha,j2x,a,l,ws,p,q1d n,rfl,W,hat,hl,fun H1 W1 s1=>?_⟩
 refine⟨_,rfl,q1d n,rfl,by omega,fun H2 s2=>⟨_,rfl,?_⟩⟩
 rw [x4g hn]
 refine q1a ⟨_,rfl,q1d n,n,rfl,q6y (Nat.lt_of_lt_of_le hn (Nat.pow_le_pow_right (by decide) (by decide))),by omega,?_⟩
 exact q _ _ (.int n) (W1.same s2) (s1.trans (q1l.of s2))
theorem j7p:FnScope ["words"] ["words"] (q0e q4v):=fSc
theorem x6p {f fW:Addr} {fd dW:FuncData} {C:Addr} (Y:WoC K C) (F:Fun K "read_name" "read_name" q4v f fd) (MW:Meth K C "word" fW) (FW:FnOk P w K mg base CX0 2 fW dW ["self"] (q9s C)) (bW:q2i K dW ["self"] []):FnOk P w K mg base CX0 3 f fd ["words"] (x8u C q1w x5z):=by
 refine F.ok j7p x4w (fun _ A _ s H vs Q E hr h=>?_)
 obtain⟨a,l,ws,p,d,rest,rfl,W,hd,hp,hs,hw,hno,hl,hx,q⟩:=h
 obtain⟨x,rfl,hlow⟩:=q3q hp
 refine⟨_,@q0m _ _ _ (q0g (q2o (pv 0) Y.cl MW FW hr bW .nil q5g)),?_⟩
 obtain⟨⟨dx,ha⟩,_⟩:=id W
 have hlen:=q5h hlow
 exact⟨_,rfl,a,dx,_,rfl,ha,j2x,a,l,ws,p,x,rfl,W,x8m hd,hl,fun H1 W1 s1=>q _ _ (.str x (by omega)) W1 s1⟩
end
structure Rdt (P:Program) (w:World) (K:Frag) (mg:Str→Option Value) (base:Heap) (C:Addr) (k:Nat) (g:Addr) (p:D→Bool) (f:D→List Str):Prop where
 ex:∃ k' fd px,k'≤k∧FnOk P w K mg base CX0 k' g fd [px] (x8u C p f)∧keepIn K (.ref g)=true∧q2i K fd [px] []
inductive Rds (P:Program) (w:World) (K:Frag) (mg:Str→Option Value) (base:Heap) (C:Addr) (k:Nat):List V→List (D→Bool)→List (D→List Str)→Prop
 | nil:Rds P w K mg base C k [] [] []
 | cons {g:Addr} {p:D→Bool} {f:D→List Str} {gs:List V} {ps:List (D→Bool)} {fs:List (D→List Str)} (h:Rdt P w K mg base C k g p f) (t:Rds P w K mg base C k gs ps fs):Rds P w K mg base C k (.ref g::gs) (p::ps) (f::fs)
theorem Rds.length {P:Program} {w:World} {K:Frag} {mg:Str→Option Value} {base:Heap} {C:Addr} {k:Nat}:∀ {gs:List V} {ps:List (D→Bool)} {fs:List (D→List Str)},Rds P w K mg base C k gs ps fs→gs.length=ps.length∧gs.length=fs.length
 | _,_,_,.nil=>⟨rfl,rfl⟩
 | _,_,_,.cons _ t=>by have:=t.length; simp [this.1,← this.2]
theorem Rds.get {P:Program} {w:World} {K:Frag} {mg:Str→Option Value} {base:Heap} {C:Addr} {k:Nat}:∀ {gs:List V} {ps:List (D→Bool)} {fs:List (D→List Str)} {i:Nat} {v:V},Rds P w K mg base C k gs ps fs→gs[i]? = some v→∃ g p f,v=.ref g∧ps[i]? = some p∧fs[i]? = some f∧Rdt P w K mg base C k g p f
 | _,_,_,0,_,.cons h t,e=>by cases e; exact⟨_,_,_,rfl,rfl,rfl,h⟩
 | _,_,_,i+1,v,.cons h t,e=>by
  obtain⟨g,p,f,a,b,c,d⟩:=Rds.get (i:=i) (v:=v) t (by simpa using e)
  exact⟨g,p,f,a,by simpa using b,by simpa using c,d⟩
noncomputable def z9z (P:Program) (w:World) (K:Frag) (mg:Str→Option Value) (base:Heap) (C:Addr) (k:Nat) (E:XK) (tf:TE) (t:TA):TE:=fun σ H Q=>tf σ H fun x H1=>∃ g p f,x=.ref g∧Rdt P w K mg base C k g p f∧t σ H1 fun vs H2=>x8u C p f (vs++[]) H2 Q E
theorem z2o {X:Cx} {P:Program} {w:World} {K:Frag} {mg:Str→Option Value} {base:Heap} {C:Addr} {k:Nat} {E:XK} {x:Str} {p pos:Pos} {e:Expr} {es:List Expr} {tf:TE} {t:TA} (h1:X.prog=P) (h2:X.w=w) (h3:X.K=K) (h4:X.mg=mg) (h5:X.base=base) (hr:Room k X.A)
  (hx:q6a CX0 X E) (hf:PE X (.Name x p) tf) (ha:PA X (e::es) t)
  (he:starEach (e::es) X.env=(false,eval e X.env)::starEach es X.env:=by rfl) (hpl:(backTo pos (starEach es X.env)).any (·.1)=false:=by rfl) :
  PE X (.Call (.Name x p) (e::es) [] pos) (z9z P w K mg base C k E tf t):=by
 subst h1 h2 h3 h4 h5
 intro pins s σ H Q I h
 obtain h':=hf pins s σ H _ I h
 refine wpAny_Call_Name_kw (thn h' fun u s0 ⟨v,H0,I0,r0,g,p,f,e0,T,q0⟩=>?_)
 subst e0
 cases r0
 obtain⟨k',fd,px,hk',F,hk,hb⟩:=T.ex
 have hA:=ha pos pins s0 σ H0 _ I0 q0
 exact PySem.W.callWith_K (h₀:=X.base) I.ok.mod.kin hk (thn hA fun us s1 ⟨vs,H1,I1,r,q⟩=>⟨I1.kIn,x3i F (hr.mono hk') hb .nil hx I1 r q⟩) he hpl
theorem q8r:∀ (i:Nat) (fs:List (D→List Str)) (ds:List D) {f:D→List Str} {d:D},fs[i]? = some f→ds[i]? = some d→q0u fs ds=q0u (fs.take i) (ds.take i)++(f d++q0u (fs.drop (i+1)) (ds.drop (i+1)))∧q0u (fs.take (i+1)) (ds.take (i+1))=q0u (fs.take i) (ds.take i)++f d
 | 0,f::fs,d::ds,_,_,e1,e2=>by
  cases e1; cases e2
  simp [q0u]
 | i+1,f::fs,d::ds,f',d',e1,e2=>by
  obtain⟨h1,h2⟩:=q8r i fs ds (f:=f') (d:=d') (by simpa using e1) (by simpa using e2)
  refine⟨?_,?_⟩
  ·show f d++q0u fs ds=(f d++q0u (fs.take i) (ds.take i))++_
   rw [List.append_assoc,h1]
   rfl
  ·show f d++q0u (fs.take (i+1)) (ds.take (i+1))=(f d++q0u (fs.take i) (ds.take i))++f' d'
   rw [List.append_assoc,h2]
 | _,[],_,_,_,e1,_=>by simp at e1
 | _,_::_,[],_,_,_,e2=>by simp at e2
theorem Wd.tup_ne {C a l:Addr} {ws:List Str} {p:Nat} {H:Hp} (h:Wd C a l ws p H) (xs:List V):H a≠some (.tup xs):=fun z=>by
 obtain⟨⟨dx,e⟩,_⟩:=h
 rw [e] at z
 cases z
theorem x3g:∀ {ps:List (D→Bool)} {ds:List D},q0w ps ds=true→ds.length=ps.length:=fun {ps ds} h=>by
 by_cases e:ds.length=ps.length
 ·exact e
 ·rw [q7b e] at h; cases h
theorem x6i:∀ {ps:List (D→Bool)} {ds:List D} {i:Nat} {p:D→Bool} {d:D},q0w ps ds=true→ps[i]? = some p→ds[i]? = some d→p d=true
 | p::ps,d::ds,0,_,_,h,e1,e2=>by
  cases e1; cases e2
  exact (Bool.and_eq_true _ _ |>.mp h).1
 | p::ps,d::ds,i+1,p',d',h,e1,e2=>x6i (ps:=ps) (ds:=ds) (i:=i) (Bool.and_eq_true _ _ |>.mp h).2 (by simpa using e1) (by simpa using e2)
 | [],_,_,_,_,_,e1,_=>by simp at e1
 | _::_,[],_,_,_,_,_,e2=>by simp at e2
theorem x5v {B:Nat}:∀ {ds:List D},widL B ds=true↔∀ d∈ds,x6c B d=true
 | []=>by
  constructor
  ·intro _ d h
   cases h
  ·intro _
   rfl
 | d::ds=>by
  rw [widL,Bool.and_eq_true,x5v]
  simp
section
variable {P:Program} {w:World} {K:Frag} {mg:Str→Option Value} {base:Heap}
noncomputable def x2a (P:Program) (w:World) (K:Frag) (mg:Str→Option Value) (base:Heap) (C:Addr) (k:Nat):Sp:=fun vs H Q _=>∃ (a l t:Addr) (ws:List Str) (p:Nat) (ds:List D) (rest:List Str) (gs:List V) (ps:List (D→Bool)) (fs:List (D→List Str)),vs=[.ref a,.ref t]∧Wd C a l ws p H∧(∀ H',q1l a H H'→SqT K H' t gs)∧Rds P w K mg base C k gs ps fs∧ws.drop p=q0u fs ds++rest∧q0w ps ds=true∧smallL 60 ds=true∧widL 200 ds=true∧noLL ds=true∧ds.length≤200∧ws.length≤100000∧(∀ x∈ws,x.length≤100) ∧
 ∀ (b:Addr) (xs:List V) H',H' b=some (.tup xs)→IsL 200 H' xs ds→Wd C a l ws (p+(q0u fs ds).length) H'→q1l a H H'→Q (.ref b) H'
theorem j5m:FnScope ["words", "readers"] ["words", "readers"] (q0e q2w):=fSc
theorem x4c {f:Addr} {fd:FuncData} {C:Addr} {kk:Nat} (F:Fun K "read_parts" "read_parts" q2w f fd) (T:Txt mg):FnOk P w K mg base CX0 (kk+1) f fd ["words", "readers"] (x2a P w K mg base C kk):=by
 refine F.ok j5m (fun vs H Q E ⟨_,_,_,_,_,_,_,_,_,_,e,_⟩=>by subst e; rfl) (fun _ A _ s H vs Q E hr h=>?_)
 obtain⟨a,l,t,ws,p,ds,rest,gs,ps,fs,rfl,W,hS,hR,hd,hf,hs,hw,hno,hl2,hl,hx,q⟩:=h
 refine⟨_,@q0m _ _ _ (q0g (q1q q1n (by rfl) T.tuple q1r (q0o (q6j (NB:=["reader", "words"]) (n:=1) (fr:=[0]) (x1e (outer:=q0e q2w) (x := "words") (by rfl) (by decide +kernel) (by rfl) (by rfl) (by rfl) (by rfl)) (by rfl)
  (x2n (pv 1)) (fun _ _ _ _ _=>q1x (i:=0) (show (["reader", "words"]:List Str).Nodup by decide +kernel) (by rfl) (by exact Or.inl rfl)) (fun _ _ _ _ _=>q3a)
  (fun _ _ _ _ _=>z2o (P:=P) (w:=w) (K:=K) (mg:=mg) (base:=base) (C:=C) (k:=kk) rfl rfl rfl rfl rfl hr q5g (pv 0) (q1c (pv 1) q0a))) q0a))),?_⟩
 obtain⟨hl1,hl1'⟩:=hR.length
 have hfl:=x3g hf
 have hgl:gs.length=ds.length:=by omega
 have hSq:=hS H (q1l.refl H)
 obtain⟨⟨dx,ha⟩,hlw⟩:=id W
 refine⟨_,rfl,t,rfl,⟨_,hSq⟩,q7h (J:=Itt K t) (a:=a) (n:=ds.length) (k:=1) (fun i ys H'=>q1l a H H'∧Wd C a l ws (p+(q0u (fs.take i) (ds.take i)).length) H'∧IsL 200 H' ys (ds.take i)) (by rw [sizeLine_eq]; omega) ⟨_,ha⟩ ?_ ?_ ?_ ?_ ?_ ?_⟩
 ·intro D hD
  have s1:=q0d (o:=HO.lst []) hD
  exact⟨q1l.of s1,W.same s1,.nil⟩
 ·rintro i ys H' D zs us hD hDa hDl ⟨s1,W1,I1⟩
  have nl:l≠D:=fun z=>by rw [← z,hlw] at hD; cases hD
  refine⟨fun b o hb e=>?_,?_,I1.sameT (q3w (fun xs z=>by rw [hDl] at z; cases z)) (q1o.mpr fun d hd'=>q1o.mp hno d (List.mem_of_mem_take hd'))⟩
  ·rw [q0r (fun z=>by rw [z,hD] at e; cases e)]
   exact s1 b o hb e
  ·obtain⟨⟨dx1,e1⟩,e2⟩:=W1
   exact⟨⟨dx1,by rw [q0r hDa.symm]; exact e1⟩,by rw [q0r nl]; exact e2⟩
 ·rintro i ys H' hi ⟨s1,_,_⟩
  exact⟨_,gs[i]'(by omega),hS H' s1,List.getElem?_eq_getElem (by omega)⟩
 ·rintro ys H' ⟨s1,_,_⟩
  exact⟨_,hS H' s1,by omega⟩
 ·rintro i ys H' tt x H2 R hi hyl ⟨s1,W1,I1⟩ ht y hRR
  obtain⟨rfl,hy⟩:=y
  obtain⟨t0,rfl⟩:=q7i ht
  have hg:=hy _ (hS _ s1)
  obtain⟨g,pr,fr,rfl,hp1,hf1,hT⟩:=hR.get hg
  have hdi:ds[i]? = some ds[i]:=List.getElem?_eq_getElem hi
  obtain⟨e1,e2⟩:=q8r i fs ds hf1 hdi
  have hmem:=List.getElem_mem hi
  have hdrop:ws.drop (p+(q0u (fs.take i) (ds.take i)).length)=fr ds[i]++(q0u (fs.drop (i+1)) (ds.drop (i+1))++rest):=by
   rw [← List.drop_drop,hd,e1,List.append_assoc,List.drop_left,List.append_assoc]
  refine⟨_,rfl,g,pr,fr,rfl,hT,_,rfl,a,l,ws,_,ds[i],_,rfl,W1,hdrop,x6i hf hp1 hdi,q1j.mp hs _ hmem,x5v.mp hw _ hmem,q1o.mp hno _ hmem,hl,hx,fun v H3 I3 W3 s3=>?_⟩
  have hsT:=s3.tups W1.tup_ne
  refine hRR [some (.ref g)] H3 v rfl s3 ⟨s1.trans s3,?_,?_⟩
  ·rw [e2,List.length_append,← Nat.add_assoc]
   exact W3
  ·rw [List.take_succ,hdi]
   exact (I1.sameT hsT (q1o.mpr fun d hd'=>q1o.mp hno d (List.mem_of_mem_take hd'))).append (.cons I3 .nil)
 ·rintro D H' ys hDa hyl ⟨s1,W1,I1⟩ hD
  refine⟨D,ys,rfl,.inl ⟨SqL.of hD,fun t2 ht2=>?_⟩⟩
  have s2:=q0d (o:=HO.tup ys) ht2
  rw [List.take_length] at I1
  have e:fs.take ds.length=fs:=List.take_of_length_le (by omega)
  rw [e,List.take_length] at W1
  exact q t2 ys _ q0c (I1.same s2) (W1.same s2) (s1.trans (q1l.of s2))
noncomputable def z5s (P:Program) (w:World) (K:Frag) (mg:Str→Option Value) (base:Heap) (C:Addr) (k:Nat):Sp:=fun vs H Q _=>∃ (a l t:Addr) (x:Str) (ws:List Str) (p:Nat) (ds:List D) (rest:List Str) (gs:List V) (ps:List (D→Bool)) (fs:List (D→List Str)),vs=[.ref a,.str x,.ref t]∧x.length≤200∧Wd C a l ws p H∧(∀ H',SqT K H' t gs)∧Rds P w K mg base C k gs ps fs∧ws.drop p=q0u fs ds++rest∧q0w ps ds=true∧smallL 60 ds=true∧widL 200 ds=true∧noLL ds=true∧ds.length≤100∧ws.length≤100000∧(∀ x∈ws,x.length≤100) ∧
 ∀ v H',Is 200 H' v (.tup (.str x::ds))→Wd C a l ws (p+(q0u fs ds).length) H'→q1l a H H'→Q v H'
theorem j5n:FnScope ["words", "word", "readers"] ["words", "word", "readers"] (q0e q2l):=fSc
theorem x2v {f:Addr} {fd:FuncData} {C:Addr} {kk:Nat} (F:Fun K "read_behind_word" "read_behind_word" q2l f fd) (CP:Cal P w K mg base "read_parts" (kk+1) ["words", "readers"] (x2a P w K mg base C kk)):FnOk P w K mg base CX0 (kk+2) f fd ["words", "word", "readers"] (z5s P w K mg base C kk):=by
 refine F.ok j5n (fun vs H Q E ⟨_,_,_,_,_,_,_,_,_,_,_,e,_⟩=>by subst e; rfl) (fun _ A _ s H vs Q E hr h=>?_)
 obtain⟨a,l,t,x,ws,p,ds,rest,gs,ps,fs,rfl,hxl,W,hS,hR,hd,hf,hs,hw,hno,hl2,hl,hx,q⟩:=h
 refine⟨_,@q0j _ _ _ _ _ (q1e (q0f q6s (pv 2) q1t (q0i _)) q4u q0h)
  (@q0m _ _ _ (q0g (q0p q9u (q2g (q1c (pv 1) q0a)) (q0s CP hr (q1c (pv 0) (q1c (pv 2) q0a)))))),?_⟩
 refine⟨_,rfl,rfl,_,rfl,?_⟩
 rw [decide_eq_false (show ¬ (V.ref t=V.non) by intro z; cases z)]
 refine q1a ⟨_,rfl,q3j (by show 1≤1000; decide),fun p1 h1=>?_⟩
 have s1:=q0d (o:=HO.tup [V.str x]) h1
 have na:p1≠a:=fun z=>by obtain⟨⟨dx,e⟩,_⟩:=W; rw [← z,h1] at e; cases e
 refine⟨_,rfl,_,rfl,a,l,t,ws,p,ds,rest,gs,ps,fs,rfl,W.same s1,fun H' _=>hS H',hR,hd,hf,hs,hw,hno,by omega,hl,hx,fun b xs H2 e2 I2 W2 s2=>?_⟩
 have hxl2:xs.length=ds.length:=I2.length
 refine⟨p1,b,_,xs,rfl,rfl,s2 _ _ na q0c,e2,q3j (by show 1+xs.length≤1000; omega),fun p3 H3 e3 s3=>?_⟩
 refine q _ _ (.tup e3 (by rw [List.length_append]; show 1+xs.length≤200; omega) (.cons (.str x hxl) (I2.same s3))) (W2.same s3) ((q1l.of s1).trans (s2.trans (q1l.of s3)))
structure RTab (P:Program) (w:World) (K:Frag) (mg:Str→Option Value) (base:Heap) (C:Addr) (name:Str) (kk:Nat) (tp:List (Str × List (D→Bool))) (tw:List (Str × List (D→List Str))):Prop where
 ex:∃ a es n,mg name=some (.ref a)∧K.lookup a=some ⟨.type "dict",none,.dict es n,#[]⟩∧PySem.W.KeysLit w.params es.toList∧(a==sysModules)=false ∧
  ∀ x ps,tp.lookup x=some ps→x.length≤200∧ps.length≤100∧∃ fs t gs,tw.lookup x=some fs∧findBy Value.isStrOf es x=some (.ref t)∧(∀ H,SqT K H t gs)∧Rds P w K mg base C kk gs ps fs
end
theorem z3l {B:Nat} {x:Str} {r:List D} (h:x6c B (.tup (.str x::r))=true):widL B r=true:=by
 unfold x6c at h
 rw [Bool.and_eq_true] at h
 have h2:=h.2
 unfold widL at h2
 exact (Bool.and_eq_true _ _ |>.mp h2).2
section
variable {P:Program} {w:World} {K:Frag} {mg:Str→Option Value} {base:Heap}
theorem x0j:FnScope ["words", "word"] ["words"] (q0e q4r):=fSc
theorem x6h {f fW:Addr} {fd dW:FuncData} {C:Addr} {kk:Nat} {tp:List (Str × List (D→Bool))} {tw:List (Str × List (D→List Str))} (Y:WoC K C) (F:Fun K "read_deed" "read_deed" q4r f fd) (MW:Meth K C "word" fW) (FW:FnOk P w K mg base CX0 2 fW dW ["self"] (q9s C)) (bW:q2i K dW ["self"] []) (TB:RTab P w K mg base C "DEED_READERS" kk tp tw) (CB:Cal P w K mg base "read_behind_word" (kk+2) ["words", "word", "readers"] (z5s P w K mg base C kk)):FnOk P w K mg base CX0 (kk+3) f fd ["words"] (x8u C (q9j tp) (byW tw)):=by
 refine F.ok x0j x4w (fun _ A _ s H vs Q E hr h=>?_)
 obtain⟨a,l,ws,p,d,rest,rfl,W,hd,hp,hs,hw,hno,hl,hx,q⟩:=h
 obtain⟨aD,es,n,mD,lD,hK,hsys,hT⟩:=TB.ex
 obtain⟨x,r,ps,rfl,e,hf⟩:=q5z hp
 obtain⟨hx2,hps,fs,t,gs,e2,e3,hS,hR⟩:=hT x ps e
 refine⟨_,@q0j _ _ _ _ _ (q0y (i:=1) x0j.nd (by rfl) (by exact Or.inl rfl) (q2o (pv 0) Y.cl MW FW (hr.mono (by omega)) bW .nil q5g))
  (@q0m _ _ _ (q0g (q0s CB hr (q1c (pv 0) (q1c (pv 1) (q9l (x4y (q6i (by rfl) mD) (q1c (pv 1) q0a)) q0a)))))),?_⟩
 have ew:byW tw (.tup (.str x::r))=x::q0u fs r:=by
  show x::q0u ((tw.lookup x).getD []) r=_
  rw [e2]; rfl
 rw [ew] at hd
 obtain⟨⟨dx,ha⟩,_⟩:=id W
 have hfl:=x3g hf
 have hd1:ws.drop (p+1)=q0u fs r++rest:=by rw [← List.drop_drop,hd]; rfl
 have hs1:smallL 60 r=true:=(Bool.and_eq_true _ _ |>.mp (show (q2j 60 (.str x) && smallL 60 r)=true from hs)).2
 have hn1:noLL r=true:=(Bool.and_eq_true _ _ |>.mp (show (x6n (.str x) && noLL r)=true from hno)).2
 refine⟨_,rfl,a,dx,_,rfl,ha,j2x,a,l,ws,p,x,rfl,W,x8m hd,hl,fun H1 W1 s1=>?_⟩
 refine⟨_,rfl,_,rfl,aD,es,n,rfl,lD,hK,hsys,_,rfl,x,.ref t,rfl,(by rw [e3]; rfl),a,l,t,x,ws,p+1,r,rest,gs,ps,fs,rfl,hx2,W1,hS,hR,hd1,hf,hs1,z3l hw,hn1,by omega,hl,hx,fun v H2 I2 W2 s2=>?_⟩
 refine q v H2 I2 ?_ (s1.trans s2)
 rw [ew,List.length_cons,show p+((q0u fs r).length+1)=p+1+(q0u fs r).length by omega]
 exact W2
end
theorem z7t {v u:V}:([("words",v),("passed",u)]:List (Str × V)).lookup ("all_passed" : Str)=none:=lkA
theorem Wd.upd {C a l:Addr} {ws:List Str} {p:Nat} {H:Hp} {b:Addr} {o:HO} (h:Wd C a l ws p H) (ha:b≠a) (hl:b≠l):Wd C a l ws p (upd H b o):=by
 obtain⟨⟨dx,e⟩,e2⟩:=h
 exact⟨⟨dx,by rw [q0r (Ne.symm ha)]; exact e⟩,by rw [q0r (Ne.symm hl)]; exact e2⟩
section
variable {P:Program} {w:World} {K:Frag} {mg:Str→Option Value} {base:Heap}
noncomputable def z2f (C:Addr):Sp:=fun vs H Q _=>∃ (a l:Addr) (ws:List Str) (p:Nat) (ns:List Int),vs=[.ref a]∧Wd C a l ws p H∧p≤ws.length∧ws.drop p=ns.map q1d∧(∀ n∈ns,n.natAbs < 10 ^ 60)∧ns.length≤200∧ws.length≤100000∧(∀ x∈ws,x.length≤100) ∧
 ∀ v H',Is 200 H' v (.tup (ns.map D.int))→Wd C a l ws ws.length H'→q1l a H H'→Q v H'
theorem z5x:FnScope ["words", "numbers"] ["words"] (q0e q6l):=fSc
theorem z4j {H:Hp}:∀ ns:List Int,IsL 200 H (ns.map V.int) (ns.map D.int)
 | []=>.nil
 | n::ns=>.cons (.int n) (z4j ns)
theorem x7f {f fA:Addr} {fd dA:FuncData} {C:Addr} (Y:WoC K C) (F:Fun K "read_rest" "read_rest" q6l f fd) (T:Txt mg) (MA:Meth K C "all_passed" fA) (FA:FnOk P w K mg base CX0 1 fA dA ["self"] (x2d C)) (bA:q2i K dA ["self"] []) (CN:Cal P w K mg base "read_number" 3 ["words"] (x8u C whole q8o)):FnOk P w K mg base CX0 4 f fd ["words"] (z2f C):=by
 refine F.ok z5x (fun vs H Q E ⟨_,_,_,_,_,e,_⟩=>by subst e; rfl) (fun _ A _ s H vs Q E hr h=>?_)
 obtain⟨a,l,ws,p,ns,rfl,W,hple,hd,hsm,h200,hfew,hx,q⟩:=h
 refine⟨_,@q0j _ _ _ _ _ (q0y (i:=1) z5x.nd (by rfl) (by exact Or.inl rfl) (q8w q0a))
  (@q0j _ _ _ _ _ (x9f PassesOwn.never (q4e (q3h (q2o (pv 0) Y.cl MA FA (hr.mono (by decide)) bA .nil q5g)))
   (@q0m _ _ _ (x0f (q6w PySem.F.plainAttrs_list PySem.F.slot_list_append PySem.F.type_list_append q3y (pv 1) (q9l (q0s CN hr (q1c (pv 0) q0a)) q0a)))))
  (@q0m _ _ _ (q0g (q1q q1n (by rfl) T.tuple q1r (q1c (pv 1) q0a))))),?_⟩
 obtain⟨⟨dx,ha⟩,hlw⟩:=id W
 have hpl:p+ns.length=ws.length:=by
  have:=congrArg List.length hd
  rw [List.length_drop,List.length_map] at this
  omega
 refine⟨q3j (by show 0≤1000; decide),fun b hb=>?_⟩
 have ba:b≠a:=fun z=>by rw [z,ha] at hb; cases hb
 have bl:b≠l:=fun z=>by rw [z,hlw] at hb; cases hb
 refine⟨fun k σ H'=>∃ i,σ=[some (.ref a),some (.ref b)]∧i≤ns.length∧H' b=some (.lst ((ns.take i).map V.int))∧Wd C a l ws (p+i) H'∧q1l a H H'∧k=ns.length - i,⟨ns.length,0,rfl,Nat.zero_le _,q0c,W.upd ba bl,q1l.of (q0d hb),by omega⟩,?_⟩
 rintro k σ H' ⟨i,rfl,hi,hL,W1,s1,rfl⟩
 obtain⟨⟨dx1,ha1⟩,hlw1⟩:=id W1
 refine⟨_,rfl,a,dx1,_,rfl,ha1,z7t,a,l,ws,_,rfl,W1,_,rfl,?_⟩
 by_cases hin:i < ns.length
 ·have hall:¬ (p+i=ws.length):=by omega
  rw [decide_eq_false hall]
  refine q1f ?_
  refine⟨fun σ' H''=>∃ i',σ'=[some (.ref a),some (.ref b)]∧i'≤ns.length∧H'' b=some (.lst ((ns.take i').map V.int))∧Wd C a l ws (p+i') H''∧q1l a H H''∧i < i',fun σ' H'' ⟨i',z1,z2,z3,z4,z5,z6⟩=>⟨ns.length - i',by omega,i',z1,z2,z3,z4,z5,rfl⟩,?_⟩
  have hdr:ws.drop (p+i)=q8o (.int ns[i])++(ns.drop (i+1)).map q1d:=by
   rw [← List.drop_drop,hd,← List.map_drop,List.drop_eq_getElem_cons hin]; rfl
  refine⟨_,rfl,.inl ⟨rfl,_,SqL.of hL⟩,_,rfl,a,l,ws,p+i,.int ns[i],_,rfl,W1,hdr,rfl,decide_eq_true (hsm _ (List.getElem_mem hin)),rfl,rfl,hfew,hx,fun v H2 I2 W2 s2=>?_⟩
  cases I2
  have hL2:=s2 b _ ba hL
  refine⟨b,_,_,rfl,rfl,hL2,?_,i+1,rfl,by omega,?_,W2.upd ba bl,?_,by omega⟩
  ·rw [List.length_map,List.length_take,sizeLine_eq]; omega
  ·rw [List.take_add_one,List.getElem?_eq_getElem hin,List.map_append]; exact q0c
  ·intro c o hc e
   have hcb:c≠b:=fun z=>by rw [z,hb] at e; cases e
   rw [q0r hcb]
   exact s2 c o hc (s1 c o hc e)
 ·have hie:i=ns.length:=by omega
  subst hie
  rw [decide_eq_true hpl]
  refine q1a ⟨_,rfl,b,_,rfl,.inl ⟨SqL.of hL,fun t2 ht2=>?_⟩⟩
  have s2:=q0d (o:=HO.tup ((ns.take ns.length).map V.int)) ht2
  rw [hpl] at W1
  rw [List.take_length] at s2 ⊢
  exact q _ _ (.tup q0c (by rw [List.length_map]; omega) (z4j ns)) (W1.same s2) (s1.trans (q1l.of s2))
noncomputable def j0y (C:Addr):Sp:=fun vs H Q _=>∃ (a l:Addr) (k:Str) (ws:List Str) (p:Nat) (d:D) (rest:List Str),vs=[.ref a,.str k]∧Wd C a l ws p H∧p≤ws.length∧ws.drop p=q1k k d++rest∧q6r k d=true∧(k = "seats" → rest=[])∧q2j 60 d=true∧x6c 200 d=true∧x6n d=true∧ws.length≤100000∧(∀ x∈ws,x.length≤100) ∧
 ∀ v H',Is 200 H' v d→Wd C a l ws (p+(q1k k d).length) H'→q1l a H H'→Q v H'
theorem j3r:FnScope ["words", "kind"] ["words", "kind"] (q0e q6b):=fSc
theorem x6e {f:Addr} {fd:FuncData} {C:Addr} {kk k1 k2 k3 k4:Nat} (F:Fun K "read_part" "read_part" q6b f fd) (C1:Cal P w K mg base "read_name" k1 ["words"] (x8u C q1w x5z)) (h1:k1≤kk) (C2:Cal P w K mg base "read_deed" k2 ["words"] (x8u C q9h q9b)) (h2:k2≤kk) (C3:Cal P w K mg base "read_rest" k3 ["words"] (z2f C)) (h3:k3≤kk) (C4:Cal P w K mg base "read_number" k4 ["words"] (x8u C whole q8o)) (h4:k4≤kk):FnOk P w K mg base CX0 (kk+1) f fd ["words", "kind"] (j0y C):=by
 refine F.ok j3r (fun vs H Q E ⟨_,_,_,_,_,_,_,e,_⟩=>by subst e; rfl) (fun _ A _ s H vs Q E hr h=>?_)
 obtain⟨a,l,k,ws,p,d,rest,rfl,W,hple,hd,hp,hse,hs,hw,hno,hl,hx,q⟩:=h
 refine⟨_,@q0j _ _ _ _ _ (q1e (q0f q1s (pv 1) q0q (q0i _)) (@q0m _ _ _ (q0g (q0s C1 (hr.mono h1) (q1c (pv 0) q0a)))) q0h)
  (@q0j _ _ _ _ _ (q1e (q0f q1s (pv 1) q0q (q0i _)) (@q0m _ _ _ (q0g (q0s C2 (hr.mono h2) (q1c (pv 0) q0a)))) q0h)
  (@q0j _ _ _ _ _ (q1e (q0f q1s (pv 1) q0q (q0i _)) (@q0m _ _ _ (q0g (q0s C3 (hr.mono h3) (q1c (pv 0) q0a)))) q0h)
  (@q0m _ _ _ (q0g (q0s C4 (hr.mono h4) (q1c (pv 0) q0a)))))),?_⟩
 unfold q6r at hp
 unfold q1k at q hd
 refine⟨_,rfl,rfl,_,rfl,?_⟩
 by_cases e1:k = "name"
 ·rw [decide_eq_true (show V.str k=V.str "name" by rw [e1])]
  rw [if_pos e1] at q hp hd
  exact q1f ⟨_,rfl,a,l,ws,p,d,rest,rfl,W,hd,hp,hs,hw,hno,hl,hx,q⟩
 rw [decide_eq_false (fun z=>e1 (V.str.inj z))]
 rw [if_neg e1] at q hp hd
 refine q1a ⟨_,rfl,rfl,_,rfl,?_⟩
 by_cases e2:k = "deed"
 ·rw [decide_eq_true (show V.str k=V.str "deed" by rw [e2])]
  rw [if_pos e2] at q hp hd
  exact q1f ⟨_,rfl,a,l,ws,p,d,rest,rfl,W,hd,hp,hs,hw,hno,hl,hx,q⟩
 rw [decide_eq_false (fun z=>e2 (V.str.inj z))]
 rw [if_neg e2] at q hp hd
 refine q1a ⟨_,rfl,rfl,_,rfl,?_⟩
 by_cases e3:k = "seats"
 ·rw [decide_eq_true (show V.str k=V.str "seats" by rw [e3])]
  rw [if_pos e3] at q hp hd
  obtain⟨ns,rfl,hl9,_,hns⟩:=q3s hp
  have hse':=hse e3
  subst hse'
  have ef:q7y (.tup (ns.map D.int))=ns.map q1d:=q5u ns
  rw [List.append_nil,ef] at hd
  have hpl:p+ns.length=ws.length:=by
   have:=congrArg List.length hd
   rw [List.length_drop,List.length_map] at this
   omega
  refine q1f ⟨_,rfl,a,l,ws,p,ns,rfl,W,hple,hd,fun n hn=>?_,by omega,hl,hx,fun v H' I' W' s'=>q v H' I' ?_ s'⟩
  ·have:=hns n hn
   exact Nat.lt_of_le_of_lt (show n.natAbs≤8 by omega) (by decide)
  ·rw [ef,List.length_map,hpl]; exact W'
 rw [decide_eq_false (fun z=>e3 (V.str.inj z))]
 rw [if_neg e3] at q hp hd
 exact q1a ⟨_,rfl,a,l,ws,p,d,rest,rfl,W,hd,hp,hs,hw,hno,hl,hx,q⟩
noncomputable def z7j (K:Frag) (C:Addr):Sp:=fun vs H Q _=>∃ (a l t:Addr) (ws:List Str) (p:Nat) (ks:List Str) (ds:List D),vs=[.ref a,.ref t]∧Wd C a l ws p H∧p≤ws.length∧(∀ H',SqT K H' t (ks.map V.str))∧ws.drop p=q0u (ks.map q1k) ds∧q0w (ks.map q6r) ds=true∧(∀ i:Nat,ks[i]? = some "seats" → i+1=ks.length)∧smallL 60 ds=true∧widL 200 ds=true∧noLL ds=true∧ds.length≤200∧ws.length≤100000∧(∀ x∈ws,x.length≤100) ∧
 ∀ (b:Addr) (xs:List V) H',H' b=some (.tup xs)→IsL 200 H' xs ds→q1l a H H'→Q (.ref b) H'
theorem z8e:FnScope ["words", "kinds", "parts"] ["words", "kinds"] (q0e q2p):=fSc
theorem x0m {f fA:Addr} {fd dA:FuncData} {C:Addr} {kk:Nat} (hk1:1≤kk) (Y:WoC K C) (F:Fun K "read_parts_of" "read_parts_of" q2p f fd) (T:Txt mg) (MA:Meth K C "all_passed" fA) (FA:FnOk P w K mg base CX0 1 fA dA ["self"] (x2d C)) (bA:q2i K dA ["self"] []) (CP:Cal P w K mg base "read_part" kk ["words", "kind"] (j0y C)):FnOk P w K mg base CX0 (kk+1) f fd ["words", "kinds"] (z7j K C):=by
 refine F.ok z8e (fun vs H Q E ⟨_,_,_,_,_,_,_,e,_⟩=>by subst e; rfl) (fun _ A _ s H vs Q E hr h=>?_)
 obtain⟨a,l,t,ws,p,ks,ds,rfl,W,hple,hS,hd,hf,hse,hs,hw,hno,hl2,hl,hx,q⟩:=h
 refine⟨_,@q0j _ _ _ _ _ (q0y (i:=2) z8e.nd (by rfl) (by exact Or.inl rfl) (q1q q1n (by rfl) T.tuple q1r (q0o (q6j (NB:=["kind", "words"]) (n:=1) (fr:=[0]) (x1e (outer:=q0e q2p) (x := "words") (by rfl) (by decide +kernel) (by rfl) (by rfl) (by rfl) (by rfl)) (by rfl)
  (x2n (pv 1)) (fun _ _ _ _ _=>q1x (i:=0) (show (["kind", "words"]:List Str).Nodup by decide +kernel) (by rfl) (by exact Or.inl rfl)) (fun _ _ _ _ _=>q3a)
  (fun _ _ _ _ _=>q0s CP hr (q1c (pv 1) (q1c (pv 0) q0a)))) q0a)))
  (@q0j _ _ _ _ _ (q1e (q4e (q3h (q2o (pv 0) Y.cl MA FA (hr.mono hk1) bA .nil q5g))) q4u q0h)
  (@q0m _ _ _ (q0g (pv 2)))),?_⟩
 have hks:(ks.map V.str).length=ks.length:=List.length_map ..
 have hkw:(ks.map q1k).length=ks.length:=List.length_map ..
 have hfl:=q6v hf
 rw [List.length_map] at hfl
 obtain⟨⟨dx,ha⟩,hlw⟩:=id W
 refine⟨_,rfl,t,rfl,⟨_,hS H⟩,q7h (J:=Itt K t) (a:=a) (n:=ds.length) (k:=1) (fun i ys H'=>q1l a H H'∧Wd C a l ws (p+(q0u ((ks.map q1k).take i) (ds.take i)).length) H'∧IsL 200 H' ys (ds.take i)) (by rw [sizeLine_eq]; omega) ⟨_,ha⟩ ?_ ?_ ?_ ?_ ?_ ?_⟩
 ·intro D hD
  have s1:=q0d (o:=HO.lst []) hD
  exact⟨q1l.of s1,W.same s1,.nil⟩
 ·rintro i ys H' D zs us hD hDa hDl ⟨s1,W1,I1⟩
  have nl:l≠D:=fun z=>by rw [← z,hlw] at hD; cases hD
  refine⟨fun b o hb e=>?_,?_,I1.sameT (q3w (fun xs z=>by rw [hDl] at z; cases z)) (q1o.mpr fun d hd'=>q1o.mp hno d (List.mem_of_mem_take hd'))⟩
  ·rw [q0r (fun z=>by rw [z,hD] at e; cases e)]
   exact s1 b o hb e
  ·obtain⟨⟨dx1,e1⟩,e2⟩:=W1
   exact⟨⟨dx1,by rw [q0r hDa.symm]; exact e1⟩,by rw [q0r nl]; exact e2⟩
 ·rintro i ys H' hi ⟨s1,_,_⟩
  exact⟨_,(ks.map V.str)[i]'(by omega),hS H',List.getElem?_eq_getElem (by omega)⟩
 ·rintro ys H' ⟨s1,_,_⟩
  exact⟨_,hS H',by omega⟩
 ·rintro i ys H' tt x H2 R hi hyl ⟨s1,W1,I1⟩ ht y hRR
  obtain⟨rfl,hy⟩:=y
  obtain⟨t0,rfl⟩:=q7i ht
  have hg:=hy _ (hS _)
  rw [List.getElem?_map] at hg
  obtain⟨k,hk,rfl⟩:∃ k,ks[i]? = some k∧x=V.str k:=by
   cases z:ks[i]? with
   | none=>rw [z] at hg; cases hg
   | some k=>rw [z] at hg; exact⟨k,rfl,(Option.some.inj hg).symm⟩
  have hdi:ds[i]? = some ds[i]:=List.getElem?_eq_getElem hi
  have hf1:(ks.map q1k)[i]? = some (q1k k):=by rw [List.getElem?_map,hk]; rfl
  obtain⟨e1,e2⟩:=q8r i (ks.map q1k) ds hf1 hdi
  have hmem:=List.getElem_mem hi
  have hdrop:ws.drop (p+(q0u ((ks.map q1k).take i) (ds.take i)).length)=q1k k ds[i]++q0u ((ks.map q1k).drop (i+1)) (ds.drop (i+1)):=by
   rw [← List.drop_drop,hd,e1,List.drop_left]
  have hpl:p+(q0u ((ks.map q1k).take i) (ds.take i)).length≤ws.length:=by
   have h1:=x3s (ks.map q1k) ds i
   have h2:=congrArg List.length hd
   rw [List.length_drop] at h2
   omega
  refine⟨_,rfl,_,rfl,a,l,k,ws,_,ds[i],_,rfl,W1,hpl,hdrop,x8r hf (by rw [List.getElem?_map,hk]; rfl) hdi,fun z=>?_,q1j.mp hs _ hmem,q3c.mp hw _ hmem,q1o.mp hno _ hmem,hl,hx,fun v H3 I3 W3 s3=>?_⟩
  ·subst z
   have:=hse i hk
   rw [List.drop_of_length_le (by omega)]
   simp [q0u]
  have hsT:=s3.tups W1.tup_ne
  refine hRR [some (.str k)] H3 v rfl s3 ⟨s1.trans s3,?_,?_⟩
  ·rw [e2,List.length_append,← Nat.add_assoc]
   exact W3
  ·rw [List.take_succ,hdi]
   exact (I1.sameT hsT (q1o.mpr fun d hd'=>q1o.mp hno d (List.mem_of_mem_take hd'))).append (.cons I3 .nil)
 ·rintro D H' ys hDa hyl ⟨s1,W1,I1⟩ hD
  refine⟨D,ys,rfl,.inl ⟨SqL.of hD,fun t2 ht2=>?_⟩⟩
  have s2:=q0d (o:=HO.tup ys) ht2
  rw [List.take_length] at I1
  have e:(ks.map q1k).take ds.length=ks.map q1k:=List.take_of_length_le (by omega)
  rw [e,List.take_length] at W1
  have W2:=W1.same s2
  obtain⟨⟨dx2,ha2⟩,_⟩:=id W2
  have hz:p+(q0u (ks.map q1k) ds).length=ws.length:=by
   have h2:=congrArg List.length hd
   rw [List.length_drop] at h2
   omega
  refine⟨_,rfl,a,dx2,_,rfl,ha2,z7t,a,l,ws,_,rfl,W2,_,rfl,?_⟩
  rw [decide_eq_true hz]
  exact q1a ⟨_,rfl,q t2 ys _ q0c (I1.same s2) (s1.trans (q1l.of s2))⟩
end
end K1
namespace Kp
open PySem L2 PyProof.Rows
theorem x7b {X:Cx}:OpR X (compareOp .NotIn) (fun x y H Q=>∃ k a es n,x=.str k∧y=.ref a∧X.K.lookup a=some ⟨.type "dict",none,.dict es n,#[]⟩∧PySem.W.KeysLit X.w.params es.toList∧(a==sysModules)=false∧Q (.bl (!(findBy Value.isStrOf es k).isSome)) H):=by
 intro pins s σ H x y v u Q I rx ry h
 obtain⟨k,a,es,n,rfl,rfl,hl,hk,hs,q⟩:=h
 obtain⟨t,rfl⟩:=rx
 cases ry
 have hm:=PySem.W.mapOf_K (prog:=X.prog) (w:=X.w) I.kIn hl hk
 exact wpAny_notIn_of (strKind_is X.prog X.w k t) hs hm ⟨.bl _,H,I.tok _,rfl,q⟩
end Kp
namespace K1
open PySem L2 Kp
section
variable {P:Program} {w:World} {K:Frag} {mg:Str→Option Value} {base:Heap}
noncomputable def z9f (C:Addr):Sp:=fun vs H Q _=>∃ (y:Str) (ds:List D),vs=[.str y]∧y.length+1≤sizeLine∧Txt.split y " " = ("room" : Str)::q0u ((["count", "seats"]:List Str).map q1k) ds∧q0w ((["count", "seats"]:List Str).map q6r) ds=true∧smallL 60 ds=true∧widL 200 ds=true∧noLL ds=true∧(Txt.split y " ").length≤100000∧(∀ x∈Txt.split y " ",x.length≤100) ∧
 ∀ (b:Addr) (xs:List V) H',H' b=some (.tup xs)→IsL 200 H' xs ds→q1h H H'→Q (.ref b) H'
theorem z6e:FnScope ["row", "words"] ["row"] (q0e q6n):=fSc
theorem x7w:∀ i:Nat,(["count", "seats"]:List Str)[i]? = some "seats" → i+1=(["count", "seats"]:List Str).length:=fun i h=>by
 match i,h with
 | 0,h=>exact absurd (Option.some.inj h) (by decide +kernel)
 | 1,_=>rfl
 | i+2,h=>simp at h
theorem x6z {f fI fW:Addr} {fd dI dW:FuncData} {C:Addr} {kk:Nat} (h2:2≤kk) (Y:WoC K C) (F:Fun K "read_room" "read_room" q6n f fd) (hC:mg "Words" = some (.ref C)) (M:Mk K C fI) (FI:FnOk P w K mg base CX0 1 fI dI ["self", "line"] (x1o C)) (bI:q2i K dI ["self", "line"] []) (MW:Meth K C "word" fW) (FW:FnOk P w K mg base CX0 2 fW dW ["self"] (q9s C)) (bW:q2i K dW ["self"] []) (TR:RTab6 K mg) (CP:Cal P w K mg base "read_parts_of" kk ["words", "kinds"] (z7j K C)):FnOk P w K mg base CX0 (kk+1) f fd ["row"] (z9f C):=by
 refine F.ok z6e (fun vs H Q E ⟨_,_,e,_⟩=>by subst e; rfl) (fun _ A _ s H vs Q E hr h=>?_)
 obtain⟨y,ds,rfl,hy,hsp,hf,hs,hw,hno,hfew,hx,q⟩:=h
 obtain⟨tR,mT,hST⟩:=TR.ex
 refine⟨_,@q0j _ _ _ _ _ (q0y (i:=1) z6e.nd (by rfl) (by exact Or.inl rfl) (x5h M FI (hr.mono (by omega)) (by rfl) hC bI .nil q5g (q1c (pv 0) q0a)))
  (@q0j _ _ _ _ _ (q1e (q0f x5t (q2o (pv 1) Y.cl MW FW (hr.mono (by omega)) bW .nil q5g) q0q (q0i _)) q4u q0h)
  (@q0m _ _ _ (q0g (q0s CP hr (q1c (pv 1) (q1c (q6i (by rfl) mT) q0a)))))),?_⟩
 refine⟨_,rfl,fun a dx ha hdx hne=>⟨a,dx,_,rfl,q0c,hy,fun l H1 hl W1 s1=>⟨rfl,?_⟩⟩⟩
 have sH1:q1h H H1:=fun b o e=>s1 b o (fun z=>by rw [z,ha] at e; cases e) (by
  rw [q0r (fun z=>by rw [z,ha] at e; cases e),q0r (fun z=>by rw [z,hdx] at e; cases e)]
  exact e)
 have sB:∀ {H2 H3:Hp},q1h H H2→q1l a H2 H3→q1h H H3:=fun {H2 H3} u v b o e=>v b o (fun z=>by rw [z,ha] at e; cases e) (u b o e)
 generalize Txt.split y " " = ws at W1 hfew hx hsp
 obtain⟨⟨dx1,ha1⟩,_⟩:=id W1
 have hat:ws[0]? = some ("room" : Str):=by rw [hsp]; rfl
 refine⟨_,rfl,a,dx1,_,rfl,ha1,j2x,a,l,ws,0,_,rfl,W1,hat,hfew,fun H2 W2 s2=>⟨rfl,_,rfl,?_⟩⟩
 rw [show (!decide (V.str ("room" : Str)=V.str "room"))=false by rw [decide_eq_true rfl]; rfl]
 have hfl:=q6v hf
 refine q1a ⟨_,rfl,a,l,tR,ws,1,["count", "seats"],ds,rfl,W2,by rw [hsp,List.length_cons]; omega,hST,by rw [hsp]; rfl,hf,x7w,hs,hw,hno,by rw [hfl]; decide,hfew,hx,fun b xs H3 hb hI s3=>q b xs H3 hb hI (sB (sB sH1 s2) s3)⟩
noncomputable def z9q (C:Addr):Sp:=fun vs H Q _=>∃ (y:Str) (d:D),vs=[.str y]∧y.length+1≤sizeLine∧Txt.split y " " = q3d d∧q3f d=true∧q2j 60 d=true∧x6c 200 d=true∧x6n d=true∧(Txt.split y " ").length≤100000∧(∀ x∈Txt.split y " ",x.length≤100) ∧
 ∀ v H',Is 200 H' v d→q1h H H'→Q v H'
theorem z1j:FnScope ["row", "words", "word"] ["row"] (q0e q2b):=fSc
theorem z0v {x:Str} {ks:List Str} (h:q2n.lookup x=some ks):∀ i:Nat,ks[i]? = some "seats" → i+1=ks.length:=by
 have hm:=L2.q1v h
 simp only [Kp.q2n,List.mem_cons,Prod.mk.injEq,List.not_mem_nil,or_false] at hm
 have no:∀ {z:Str},z ≠ "seats" → some z=some ("seats" : Str)→False:=fun hz e=>hz (Option.some.inj e)
 intro i hi
 rcases hm with ⟨_,rfl⟩ | ⟨_,rfl⟩ | ⟨_,rfl⟩ | ⟨_,rfl⟩ | ⟨_,rfl⟩ | ⟨_,rfl⟩ | ⟨_,rfl⟩ | ⟨_,rfl⟩ | ⟨_,rfl⟩ | ⟨_,rfl⟩ | ⟨_,rfl⟩ <;>
 ·match i,hi with
  | 0,hi=>first | rfl | exact (no (by decide +kernel) hi).elim
  | 1,hi=>first | rfl | exact (no (by decide +kernel) hi).elim | simp at hi
  | i+2,hi=>simp at hi
theorem x7g {f fI fW:Addr} {fd dI dW:FuncData} {C:Addr} {kk:Nat} (h2:2≤kk) (Y:WoC K C) (F:Fun K "read_deed_of_schedule" "read_deed_of_schedule" q2b f fd) (hC:mg "Words" = some (.ref C)) (M:Mk K C fI) (FI:FnOk P w K mg base CX0 1 fI dI ["self", "line"] (x1o C)) (bI:q2i K dI ["self", "line"] []) (MW:Meth K C "word" fW) (FW:FnOk P w K mg base CX0 2 fW dW ["self"] (q9s C)) (bW:q2i K dW ["self"] []) (TB:PTab K mg w) (CP:Cal P w K mg base "read_parts_of" kk ["words", "kinds"] (z7j K C)):FnOk P w K mg base CX0 (kk+1) f fd ["row"] (z9q C):=by
 refine F.ok z1j (fun vs H Q E ⟨_,_,e,_⟩=>by subst e; rfl) (fun _ A _ s H vs Q E hr h=>?_)
 obtain⟨y,d,rfl,hy,hsp,hp,hs,hw,hno,hfew,hx,q⟩:=h
 obtain⟨aD,es,n,mD,lD,hK,hsys,hT⟩:=TB.ex
 refine⟨_,@q0j _ _ _ _ _ (q0y (i:=1) z1j.nd (by rfl) (by exact Or.inl rfl) (x5h M FI (hr.mono (by omega)) (by rfl) hC bI .nil q5g (q1c (pv 0) q0a)))
  (@q0j _ _ _ _ _ (q0y (i:=2) z1j.nd (by rfl) (by exact Or.inl rfl) (q2o (pv 1) Y.cl MW FW (hr.mono (by omega)) bW .nil q5g))
  (@q0j _ _ _ _ _ (q1e (q0f x7b (pv 2) (q6i (by rfl) mD) (by rfl)) q4u q0h)
  (@q0m _ _ _ (q0g (q0p q9u (q2g (q1c (pv 2) q0a)) (q0s CP hr (q1c (pv 1) (q6q (z8u (q6i (by rfl) mD) (pv 2) (fun _ _=>rfl)) q0a)))))))),?_⟩
 refine⟨_,rfl,fun a dx ha hdx hne=>⟨a,dx,_,rfl,q0c,hy,fun l H1 hl W1 s1=>⟨rfl,?_⟩⟩⟩
 have sH1:q1h H H1:=fun b o e=>s1 b o (fun z=>by rw [z,ha] at e; cases e) (by
  rw [q0r (fun z=>by rw [z,ha] at e; cases e),q0r (fun z=>by rw [z,hdx] at e; cases e)]
  exact e)
 have sB:∀ {H2 H3:Hp},q1h H H2→q1l a H2 H3→q1h H H3:=fun {H2 H3} u v b o e=>v b o (fun z=>by rw [z,ha] at e; cases e) (u b o e)
 generalize Txt.split y " " = ws at W1 hfew hx hsp
 obtain⟨x,r,ks,rfl,ek,hf⟩:=q5x hp
 have ew:q3d (.tup (.str x::r))=x::q0u (ks.map q1k) r:=by
  show x::q0u (((q2n.lookup x).getD []).map q1k) r=_
  rw [ek]; rfl
 rw [ew] at hsp
 obtain⟨t,eft,hSt⟩:∃ t,findBy Value.isStrOf es x=some (.ref t)∧∀ H,SqT K H t (ks.map V.str):=by
  rcases hT x with ⟨z1,_⟩ | ⟨ks',t,z1,z2,z3⟩
  ·rw [ek] at z1; cases z1
  ·rw [ek] at z1; cases z1; exact⟨t,z2,z3⟩
 obtain⟨⟨dx1,ha1⟩,_⟩:=id W1
 have hat:ws[0]? = some x:=by rw [hsp]; rfl
 refine⟨_,rfl,a,dx1,_,rfl,ha1,j2x,a,l,ws,0,_,rfl,W1,hat,hfew,fun H2 W2 s2=>?_⟩
 refine⟨_,rfl,x,aD,es,n,rfl,rfl,lD,hK,hsys,_,rfl,?_⟩
 rw [eft]
 refine q1a ⟨_,rfl,q3j (by show 1≤1000; decide),fun p1 hp1=>?_⟩
 have s3:=q0d (o:=HO.tup [V.str x]) hp1
 refine⟨_,rfl,_,rfl,aD,es,n,x,.ref t,_,rfl,rfl,lD,hK,eft,rfl,?_⟩
 have hfw:=q8u (q8p ek) hf
 have hrl:=q6v hf
 rw [List.length_map] at hrl
 have hw':=x4u hw
 have hwr:widL 200 r=true:=by have:=hw'.2; rw [widL,Bool.and_eq_true] at this; exact this.2
 have hsr:smallL 60 r=true:=hs
 have hnr:noLL r=true:=hno
 refine⟨a,l,t,ws,1,ks,r,rfl,W2.same s3,by rw [hsp,List.length_cons]; omega,hSt,by rw [hsp]; rfl,hfw,z0v ek,hsr,hwr,hnr,by have:=(q5v ek).1; omega,hfew,hx,fun b xs H4 hb hI s4=>?_⟩
 have hp1a:p1≠a:=fun z=>by
  obtain⟨⟨dx2,e2⟩,_⟩:=W2
  rw [z,e2] at hp1; cases hp1
 refine⟨p1,b,_,xs,rfl,rfl,s4 _ _ hp1a q0c,hb,q3j (by have:=hI.length; have:=(q5v ek).1; show 1+xs.length≤1000; omega),fun p5 H5 e5 s5=>?_⟩
 have hlx:=hI.length
 have hf2:=(q5v ek).1
 exact q _ _ (.tup e5 (by rw [List.length_append,List.length_singleton]; omega) (.cons (.str x (by have:=q5h (q9f ek); omega)) (hI.same s5))) (((sB (sB sH1 s2) (q1l.of s3)) |> fun z=>sB z s4).trans s5)
end
end K1
namespace Kp
open PySem L2
noncomputable def NL (ws:List Str):Prop:=∀ x∈ws,10∉cL x
theorem z4w (n:Int):10∉cL (q1d n):=fun h=>by
 rcases x3h n 10 h with h | h
 ·cases h
 ·omega
theorem x9q {x:Str} (h:x8c x=true):10∉cL x:=fun hm=>by
 unfold x8c at h
 rw [Bool.and_eq_true,List.all_eq_true] at h
 have:=h.1 10 hm
 revert this
 decide
theorem NL.app {a b:List Str} (h:NL a) (g:NL b):NL (a++b):=fun x hx=>(List.mem_append.mp hx).elim (h x) (g x)
theorem x9p {d:D}:NL (q8o d):=fun x hx=>by
 cases d with
 | int i=>cases List.mem_singleton.mp hx; exact z4w i
 | _=>cases hx
theorem z0d {d:D} (h:q1w d=true):NL (x5z d):=fun x hx=>by
 obtain⟨y,rfl,hy⟩:=q3q h
 cases List.mem_singleton.mp hx
 exact x9q hy
theorem z7n {d:D}:NL (q7y d):=fun x hx=>by
 cases d with
 | tup ds =>
  obtain⟨e,_,he⟩:=List.mem_flatMap.mp hx
  exact x9p x he
 | _=>cases hx
theorem j0h {d:D} (h:q9h d=true):NL (q9b d):=by
 obtain⟨x,r,ps,rfl,e,hf⟩:=q5z h
 have hm:=L2.q1v e
 simp only [x0p,List.mem_cons,Prod.mk.injEq,List.not_mem_nil,or_false] at hm
 have go:∀ {x:Str} {fs:List (D→List Str)} {r:List D},x2l.lookup x=some fs→x8c x=true→NL (q0u fs r)→NL (q9b (.tup (.str x::r))):=fun {x fs r} e1 e2 e3 y hy=>by
  have ew:q9b (.tup (.str x::r))=x::q0u fs r:=by
   show x::q0u ((x2l.lookup x).getD []) r=_
   rw [e1]; rfl
  rw [ew] at hy
  rcases List.mem_cons.mp hy with rfl | hy
  ·exact x9q e2
  ·exact e3 y hy
 rcases hm with ⟨rfl,rfl⟩ | ⟨rfl,rfl⟩ | ⟨rfl,rfl⟩
 ·match r,hf with
  | [a,b],hf =>
   simp only [q0w,Bool.and_eq_true] at hf
   exact go (fs:=[x5z,q8o]) rfl (by decide +kernel) ((z0d hf.1).app (x9p.app fun _ h=>(List.not_mem_nil h).elim))
  | [],hf=>cases hf
  | [_],hf=>simp [q0w] at hf
  | _::_::_::_,hf=>simp [q0w] at hf
 ·match r,hf with
  | [a,b],hf =>
   simp only [q0w,Bool.and_eq_true] at hf
   exact go (fs:=[x5z,q8o]) (by rfl) (by decide +kernel) ((z0d hf.1).app (x9p.app fun _ h=>(List.not_mem_nil h).elim))
  | [],hf=>cases hf
  | [_],hf=>simp [q0w] at hf
  | _::_::_::_,hf=>simp [q0w] at hf
 ·match r,hf with
  | [a],hf =>
   simp only [q0w,Bool.and_eq_true] at hf
   exact go (fs:=[x5z]) (by rfl) (by decide +kernel) ((z0d hf.1).app fun _ h=>(List.not_mem_nil h).elim)
  | [],hf=>cases hf
  | _::_::_,hf=>simp [q0w] at hf
theorem z9h {k:Str} {d:D} (h:q6r k d=true):NL (q1k k d):=by
 unfold q6r at h
 unfold q1k
 by_cases e1:k = "name"
 ·rw [if_pos e1] at h ⊢; exact z0d h
 rw [if_neg e1] at h ⊢
 by_cases e2:k = "deed"
 ·rw [if_pos e2] at h ⊢; exact j0h h
 rw [if_neg e2] at h ⊢
 by_cases e3:k = "seats"
 ·rw [if_pos e3] at h ⊢; exact z7n
 rw [if_neg e3] at h ⊢
 exact x9p
theorem x8x:∀ {ks:List Str} {ds:List D},q0w (ks.map q6r) ds=true→NL (q0u (ks.map q1k) ds)
 | [],[],_=>fun _ h=>(List.not_mem_nil h).elim
 | [],_::_,h=>by cases h
 | _::_,[],h=>by cases h
 | k::ks,d::ds,h=>by
  rw [List.map_cons,q0w,Bool.and_eq_true] at h
  exact (z9h h.1).app (x8x h.2)
theorem j0w {d:D} (h:q3f d=true):NL (q3d d):=by
 obtain⟨x,r,ks,rfl,e,hf⟩:=q5x h
 have ew:q3d (.tup (.str x::r))=x::q0u (ks.map q1k) r:=by
  show x::q0u (((q2n.lookup x).getD []).map q1k) r=_
  rw [e]; rfl
 rw [ew]
 intro y hy
 rcases List.mem_cons.mp hy with rfl | hy
 ·exact x9q (q9f e)
 ·exact x8x (q8u (q8p e) hf) y hy
theorem j6a:∀ {ws:List Str},NL ws→10∉cL (J ws)
 | [],_=>by decide +kernel
 | [x],h=>h x (by simp)
 | x::y::r,h=>fun hm=>by
  have ih:=j6a (ws:=y::r) fun z hz=>h z (List.mem_cons_of_mem _ hz)
  rw [j1b,q6t,q6t] at hm
  rcases List.mem_append.mp hm with hm | hm
  ·rcases List.mem_append.mp hm with hm | hm
   ·exact h x (by simp) hm
   ·rw [x5j] at hm
    exact absurd (List.mem_singleton.mp hm) (by decide)
  ·exact ih hm
theorem z6p:("\n" : Str)=⟨#[10]⟩:=by decide +kernel
theorem q7r {rs:List Str} (h:∀ r∈rs,10∉cL r):Txt.split (Str.join "\n" (rs++[("" : Str)])) "\n" = rs++[("" : Str)]:=by
 rw [z6p]
 refine x3d (by simp) fun x hx=>?_
 rcases List.mem_append.mp hx with hx | hx
 ·exact h x hx
 ·rw [List.mem_singleton.mp hx]; decide +kernel
theorem x9n:∀ {rs:List Str},rs≠[]→∃ a:Str,Str.join "\n" (rs++[("" : Str)])=a ++ "\n"
 | [],h=>absurd rfl h
 | [x],_=>⟨x,by
  show x ++ "\n" ++ ("" : Str)=x ++ "\n"
  refine q4a ?_
  show cL (x ++ "\n" ++ ("" : Str))=cL (x ++ "\n")
  rw [q6t,show cL ("" : Str)=[] from rfl,List.append_nil]⟩
 | x::y::r,_=>by
  obtain⟨a,e⟩:=x9n (rs:=y::r) (by simp)
  refine⟨x ++ "\n" ++ a,?_⟩
  show x ++ "\n" ++ Str.join "\n" ((y::r)++[("" : Str)])=_
  rw [e,← q9i]
theorem x9s (rs:List Str):q8c ((rs++[("" : Str)]).map V.str) none (some (-1))=rs.map V.str:=by
 unfold q8c
 have hl:((rs++[("" : Str)]).map V.str).length=rs.length+1:=by simp
 have e:HT.sIx ((rs++[("" : Str)]).map V.str).length ((rs++[("" : Str)]).map V.str).length (some (-1))=rs.length:=by
  rw [hl]
  unfold HT.sIx
  dsimp only
  rw [if_pos (by decide)]
  omega
 rw [e,HT.sIx_none,List.drop_zero,Nat.sub_zero,List.map_append,List.take_left' (by simp)]
end Kp
namespace K1
open PySem L2 Kp
structure SchR (c:Int) (ss:List Int) (es:List D):Prop where
 c1:1≤c
 c9:c≤9
 se:q2u (.tup (ss.map D.int))=true
 st:es.all q3f=true
 sm:smallL 60 es=true
 wi:widL 200 es=true
 no:noLL es=true
 few:es.length≤400
noncomputable def q2m (c:Int) (ss:List Int) (es:List D):List Str:=J (("room" : Str)::(q1d c::ss.map q1d))::es.map fun e=>J (q3d e)
theorem x4d {c:Int} {ss:List Int} (c1:1≤c) (c9:c≤9) (se:q2u (.tup (ss.map D.int))=true):POk 20 [.str "room",.int c,.tup (ss.map D.int)] (("room" : Str)::(q1d c::ss.map q1d)):=by
 have h1:POk 1 [.str "room"] [("room" : Str)]:=x3z _ (by decide +kernel) fun _=>rfl
 have h2:=z3g c
 have h3:POk 9 [.tup (ss.map D.int)] (q7y (.tup (ss.map D.int))):=x3c (B:=1000) _ se (by
  obtain⟨ns,e,h9,_,_⟩:=q3s se
  have e':ss.map D.int=ns.map D.int:=D.tup.inj e
  rw [e']
  show (decide ((ns.map D.int).length≤1000) && widL 1000 (ns.map D.int))=true
  rw [List.length_map,decide_eq_true (by omega),Bool.true_and]
  refine q3c.mpr fun d hd=>?_
  obtain⟨n,_,rfl⟩:=List.mem_map.mp hd
  rfl)
 rw [show q7y (.tup (ss.map D.int))=ss.map q1d from q5u ss] at h3
 exact ((h1.app (h2.app h3)).up (by decide))
section
variable {P:Program} {w:World} {K:Frag} {mg:Str→Option Value} {base:Heap}
noncomputable def j1c:Sp:=fun vs H Q _=>∃ (lR:Addr) (c:Int) (ss:List Int) (es:List D),vs=[.ref lR]∧H lR=some (.lst ((q2m c ss es).map V.str))∧SchR c ss es∧∀ v H',Is 1000 H' v (.tup [.int c,.tup (ss.map D.int),.tup es])→q1h H H'→Q v H'
theorem j3s:FnScope ["rows"] ["rows"] (q0e q2y):=fSc
theorem x2u {f:Addr} {fd:FuncData} {C:Addr} {kk:Nat} (F:Fun K "schedule_of" "schedule_of" q2y f fd) (T:Txt mg) (CR:Cal P w K mg base "read_room" kk ["row"] (z9f C)) (CD:Cal P w K mg base "read_deed_of_schedule" kk ["row"] (z9q C)):FnOk P w K mg base (CXe P w) (kk+1) f fd ["rows"] j1c:=by
 refine F.okE j3s (fun vs H Q E ⟨_,_,_,_,e,_⟩=>by subst e; rfl) (fun _ A _ s H vs Q E hr h=>?_)
 obtain⟨lR,c,ss,es,rfl,hL,R,q⟩:=h
 refine⟨_,@q0m _ _ _ (q0g (q0p q9u (q0s CR hr (q6q (q1i q1b (pv 0) q0b q3t) q0a)) (q2g (q9l (q1q q1n (by rfl) T.tuple q1r (q0o (q6j (NB:=["row"]) (n:=1) (fr:=[]) (q8k (outer:=q0e q2y) (by rfl) (by decide +kernel) (by rfl)) (by rfl)
  (x1y (q1g q3p (pv 0) (q1m q0b) q1p)) (fun _ _ _ _ _=>q1x (i:=0) (show (["row"]:List Str).Nodup by decide +kernel) (by rfl) (by exact Or.inl rfl)) (fun _ _ _ _ _=>q3a)
  (fun _ _ _ _ _=>q0s CD hr (q1c (pv 0) q0a))) q0a)) q0a)))),?_⟩
 have pk:=x4d R.c1 R.c9 R.se
 have hns:=q3s R.se
 have hsmr:smallL 60 [.str "room",.int c,.tup (ss.map D.int)]=true:=by
  obtain⟨ns,e,h9,_,hn⟩:=hns
  have e':ss.map D.int=ns.map D.int:=D.tup.inj e
  show (q2j 60 (.str "room") && (q2j 60 (.int c) && (q2j 60 (.tup (ss.map D.int)) && true)))=true
  have c1:=R.c1
  rw [small_one (by decide) (by omega) R.c9,e',x2c hn]; rfl
 have hne:(("room" : Str)::(q1d c::ss.map q1d))≠[]:=List.cons_ne_nil _ _
 have hspl:=pk.split hne
 have hwl:=pk.len 60 (by decide) hsmr
 have hll:=z3t hwl
 have hfw:=pk.few
 refine⟨_,rfl,lR,_,_,_,rfl,rfl,SqL.of hL,q0k (j:=0) rfl,J (("room" : Str)::(q1d c::ss.map q1d)),[.int c,.tup (ss.map D.int)],rfl,?_,?_,?_,?_,?_,?_,?_,?_,fun b xs H1 hb hI s1=>?_⟩
 ·rw [sizeLine_eq]; omega
 ·rw [hspl]
  show _=("room" : Str)::(q1k "count" (.int c)++(q1k "seats" (.tup (ss.map D.int))++[]))
  rw [x1l,x1t,List.append_nil,show q7y (.tup (ss.map D.int))=ss.map q1d from q5u ss]
  rfl
 ·show (q6r "count" (.int c) && (q6r "seats" (.tup (ss.map D.int)) && true))=true
  rw [x7l,x8e,R.se]; rfl
 ·have:=hsmr
  exact (Bool.and_eq_true _ _ |>.mp this).2
 ·obtain⟨ns,e,h9,_,hn⟩:=hns
  have e':ss.map D.int=ns.map D.int:=D.tup.inj e
  show (true && ((decide ((ss.map D.int).length≤200) && widL 200 (ss.map D.int)) && true))=true
  rw [e',List.length_map,decide_eq_true (by omega),Bool.true_and,Bool.true_and,Bool.and_true]
  refine q3c.mpr fun d hd=>?_
  obtain⟨n,_,rfl⟩:=List.mem_map.mp hd
  rfl
 ·show (true && ((noLL (ss.map D.int)) && true))=true
  rw [Bool.true_and,Bool.and_true]
  refine q1o.mpr fun d hd=>?_
  obtain⟨n,_,rfl⟩:=List.mem_map.mp hd
  rfl
 ·rw [hspl]; omega
 ·rw [hspl]; exact fun x hx=>Nat.le_trans (hwl x hx) (by decide)
 have hL1:=s1 _ _ hL
 refine⟨_,rfl,_,rfl,lR,_,rfl,SqL.of hL1,fun p hp=>?_⟩
 rw [z9r,← List.map_drop,show (q2m c ss es).drop 1=es.map (fun e=>J (q3d e)) from rfl]
 have s2:=q0d (o:=HO.lst ((es.map fun e=>J (q3d e)).map V.str)) hp
 have s12:=s1.trans s2
 generalize eH2:upd H1 p (HO.lst ((es.map fun e=>J (q3d e)).map V.str))=H2 at s2 s12 ⊢
 have hp2:H2 p=some (.lst ((es.map fun e=>J (q3d e)).map V.str)):=by rw [← eH2]; exact q0c
 have hlen:((es.map fun e=>J (q3d e)).map V.str).length=es.length:=by rw [List.length_map,List.length_map]
 have few:=R.few
 refine⟨p,rfl,⟨_,SqL.of hp2⟩,q7h (J:=Itl K p) (a:=p) (n:=es.length) (k:=1) (fun i ys H'=>q1h H2 H'∧IsL 200 H' ys (es.take i)) (by rw [sizeLine_eq]; omega) ⟨_,hp2⟩ ?_ ?_ ?_ ?_ ?_ ?_⟩
 ·intro D hD
  exact⟨q0d hD,.nil⟩
 ·rintro i ys H' D zs us hD hDa hDl ⟨s3,I3⟩
  refine⟨fun b o e=>?_,I3.sameT (q3w (fun xs z=>by rw [hDl] at z; cases z)) (q1o.mpr fun d hd'=>q1o.mp R.no d (List.mem_of_mem_take hd'))⟩
  rw [q0r (fun z=>by rw [z,hD] at e; cases e)]
  exact s3 b o e
 ·rintro i ys H' hi ⟨s3,_⟩
  exact⟨_,((es.map fun e=>J (q3d e)).map V.str)[i]'(by omega),SqL.of (s3 _ _ hp2),List.getElem?_eq_getElem (by omega)⟩
 ·rintro ys H' ⟨s3,_⟩
  exact⟨_,SqL.of (s3 _ _ hp2),by omega⟩
 ·rintro i ys H' tt x H3 RR hi hyl ⟨s3,I3⟩ ht y hRR
  obtain⟨rfl,hy⟩:=y
  obtain⟨t0,rfl⟩:=q7i ht
  have hg:=hy _ (SqL.of (s3 _ _ hp2))
  rw [List.getElem?_map,List.getElem?_map,List.getElem?_eq_getElem hi] at hg
  cases hg
  have hmem:=List.getElem_mem hi
  have hst:=List.all_eq_true.mp R.st _ hmem
  have hpk:=x5c hst (q3c.mp R.wi _ hmem)
  have hne1:q3d es[i]≠[]:=by
   obtain⟨x,r,ks,e,_,_⟩:=q5x hst
   rw [e]
   exact List.cons_ne_nil _ _
  have hsp1:=hpk.split hne1
  have hs1:=q1j.mp R.sm _ hmem
  have hwl1:=hpk.len 60 (by decide) (by rw [smallL,hs1]; rfl)
  have hll1:=z3t hwl1
  have hfw1:=hpk.few
  refine⟨_,rfl,J (q3d es[i]),es[i],rfl,?_,hsp1,hst,hs1,q3c.mp R.wi _ hmem,q1o.mp R.no _ hmem,?_,?_,fun v H4 I4 s4=>?_⟩
  ·rw [sizeLine_eq]; omega
  ·rw [hsp1]; omega
  ·rw [hsp1]; exact fun x hx=>Nat.le_trans (hwl1 x hx) (by decide)
  refine hRR [some _] H4 v rfl (q1l.of s4) ⟨s3.trans s4,?_⟩
  rw [List.take_succ,List.getElem?_eq_getElem hi]
  exact (I3.same s4).append (.cons I4 .nil)
 ·rintro D H3 ys hDa hyl ⟨s3,I3⟩ hD
  refine⟨D,ys,rfl,.inl ⟨SqL.of hD,fun t2 ht2=>?_⟩⟩
  have s4:=q0d (o:=HO.tup ys) ht2
  rw [List.take_length] at I3
  refine⟨q3j (by show 1≤1000; decide),fun t3 ht3=>?_⟩
  have s5:=q0d (o:=HO.tup [V.ref t2]) ht3
  have sA:=((s2.trans s3).trans s4).trans s5
  have hbA:=sA _ _ hb
  have hxl:=hI.length
  refine⟨b,t3,_,_,rfl,rfl,hbA,q0c,?_,fun u H6 hu s6=>q _ _ (.tup hu ?_ ?_) ((s1.trans sA).trans s6)⟩
  ·rw [sizeLine_eq,hxl]; show 2+1≤_; decide
  ·rw [List.length_append,hxl]; show 2+1≤1000; decide
  ·have hIA:=(hI.mono (B':=1000) (by decide) sA).mono (Nat.le_refl _) s6
   refine hIA.append (.cons (.tup (s6 _ _ (s5 _ _ q0c)) (by rw [hyl]; omega) ?_) .nil)
   exact I3.mono (by decide) ((s4.trans s5).trans s6)
end
theorem x9r {X:Cx} {K:Frag} (hK:X.K=K):SlR X (j6y K):=by subst hK; exact q3p
theorem x8w {L:Nat}:∀ {ws:List Str},(∀ w∈ws,w.length≤L)→(Str.join "\n" ws).length≤ws.length*(L+1)
 | [],_=>Nat.zero_le _
 | [x],h=>by
  have:=h x (by simp)
  rw [show Str.join "\n" [x]=x from rfl,List.length_singleton]
  omega
 | x::y::r,h=>by
  have h1:=h x (by simp)
  have ih:=x8w (ws:=y::r) fun w hw=>h w (List.mem_cons_of_mem _ hw)
  rw [show Str.join "\n" (x::y::r)=x ++ "\n" ++ Str.join "\n" (y::r) from rfl,q0v,q0v]
  have e:("\n" : Str).length=1:=by decide +kernel
  simp only [List.length_cons,Nat.add_mul,Nat.succ_mul] at ih ⊢
  omega
theorem x2g {c:Int} {ss:List Int} {es:List D} (R:SchR c ss es):∀ x∈q2m c ss es,x.length≤1240:=by
 intro x hx
 rcases List.mem_cons.mp hx with rfl | hx
 ·have pk:=x4d R.c1 R.c9 R.se
  obtain⟨ns,e,h9,_,hn⟩:=q3s R.se
  have e':ss.map D.int=ns.map D.int:=D.tup.inj e
  have hsmr:smallL 60 [.str "room",.int c,.tup (ss.map D.int)]=true:=by
   show (q2j 60 (.str "room") && (q2j 60 (.int c) && (q2j 60 (.tup (ss.map D.int)) && true)))=true
   have c1:=R.c1
   rw [small_one (by decide) (by omega) R.c9,e',x2c hn]; rfl
  exact Nat.le_trans (z3t (pk.len 60 (by decide) hsmr)) (Nat.le_trans (Nat.mul_le_mul_right _ pk.few) (by decide))
 ·obtain⟨e,he,rfl⟩:=List.mem_map.mp hx
  have hpk:=x5c (List.all_eq_true.mp R.st e he) (q3c.mp R.wi e he)
  exact Nat.le_trans (z3t (hpk.len 60 (by decide) (by rw [smallL,q1j.mp R.sm e he]; rfl))) (Nat.le_trans (Nat.mul_le_mul_right _ hpk.few) (by decide))
theorem x4q {c:Int} {ss:List Int} {es:List D} (R:SchR c ss es):∀ x∈q2m c ss es,10∉cL x:=by
 intro x hx
 rcases List.mem_cons.mp hx with rfl | hx
 ·refine j6a fun y hy=>?_
  rcases List.mem_cons.mp hy with rfl | hy
  ·exact x9q (by decide +kernel)
  rcases List.mem_cons.mp hy with rfl | hy
  ·exact z4w c
  ·obtain⟨n,_,rfl⟩:=List.mem_map.mp hy
   exact z4w n
 ·obtain⟨e,he,rfl⟩:=List.mem_map.mp hx
  exact j6a (j0w (List.all_eq_true.mp R.st e he))
section
variable {P:Program} {w:World} {K:Frag} {mg:Str→Option Value} {base:Heap}
noncomputable def j4h (cS:Addr):Sp:=fun vs H Q E=>∃ (y:Str) (c:Int) (ss:List Int) (es:List D),vs=[.str y]∧y=Str.join "\n" (q2m c ss es++[("" : Str)])∧SchR c ss es∧(q5a (.tup [.int c,.tup (ss.map D.int),.tup es])=true→∀ v H',Is 1000 H' v (.tup [.int c,.tup (ss.map D.int),.tup es])→q1h H H'→Q v H')∧(q5a (.tup [.int c,.tup (ss.map D.int),.tup es])=false→∀ c' H',q1h H H'→E (.ref cS) c' H')
theorem z7w:FnScope ["text", "schedule"] ["text"] (q0e q3m):=fSc
theorem x0o {f:Addr} {fd:FuncData} {cN cS:Addr} {kk k1:Nat} (Z:ExN K mg "NoLetter" cN) (ZS:ExN K mg "NoSchedule" cS) (F:Fun K "read_schedule" "read_schedule" q3m f fd) (CI:Cal P w K mg base "is_schedule" k1 ["thing"] (spP q5a)) (h1:k1≤kk) (CS:CalE P w K mg base "schedule_of" kk ["rows"] j1c):FnOk P w K mg base (CXe P w) (kk+1) f fd ["text"] (j4h cS):=by
 refine F.okE z7w (fun vs H Q E ⟨_,_,_,_,e,_⟩=>by subst e; rfl) (fun _ A _ s H vs Q E hr h=>?_)
 obtain⟨y,c,ss,es,rfl,ey,R,q,qe⟩:=h
 obtain⟨gS,dS,GS,mS,kS,bS⟩:=CS.ex
 refine⟨_,@q0j _ _ _ _ _ (q1e (q4e (q3h (q6w PySem.F.plainAttrs_str PySem.F.slot_str_endswith PySem.F.type_str_endswith z2e (pv 0) (q3r q0q q0a)))) q4u q0h)
  (@q0j _ _ _ _ _ (z1m (i:=1) (by rfl) (by rfl) GS hr (by rfl) mS kS bS (fun _=>q6q (q1g (x9r (K:=K) (by rfl)) (z9c (K:=K) (by rfl) PySem.F.plainAttrs_str PySem.F.slot_str_split PySem.F.type_str_split q6f (pv 0) (q3r q0q q0a)) q1p (q1m (j0g z3f q0b))) q0a) z7w.nd (by rfl) (by exact Or.inl rfl) (by rfl) Z.m x3l (fun _=>PassesOwnAt.leaving) (by rfl) ZS.m ZS.x (fun _=>q3r q0q q0a))
  (@q0j _ _ _ _ _ (q1e (q4e (q3h (q0s CI (hr.mono h1) (q1c (pv 1) q0a)))) (@q0m _ _ _ (q4h q3k (by rfl) (by rfl) ZS.m ZS.x (q3r q0q q0a))) q0h)
  (@q0m _ _ _ (q0g (pv 1))))),?_⟩
 have few:=R.few
 have hrl:(q2m c ss es).length≤401:=by
  show (_::es.map _).length≤401
  rw [List.length_cons,List.length_map]; omega
 have hyl:y.length≤402*1241:=by
  rw [ey]
  refine Nat.le_trans (x8w (L:=1240) fun x hx=>?_) (Nat.mul_le_mul_right _ (by rw [List.length_append,List.length_singleton]; omega))
  rcases List.mem_append.mp hx with hx | hx
  ·exact x2g R x hx
  ·rw [List.mem_singleton.mp hx]; decide
 obtain⟨a0,ea⟩:=x9n (rs:=q2m c ss es) (List.cons_ne_nil _ _)
 have hsplit:=q7r (x4q R)
 refine⟨_,rfl,rfl,y, "\n",rfl,rfl,_,rfl,?_⟩
 rw [show Txt.endswith y "\n" = true by rw [ey,ea]; exact PySem.W.KT.ends_app a0 "\n"]
 refine q1a ⟨_,rfl,rfl,y, "\n",rfl,rfl,by decide +kernel,by rw [sizeLine_eq]; omega,fun l hl=>⟨_,rfl,_,rfl,?_⟩⟩
 rw [ey,hsplit]
 have s1:=q0d (o:=HO.lst ((q2m c ss es++[("" : Str)]).map V.str)) hl
 refine⟨l,_,rfl,SqL.of q0c,fun p hp=>?_⟩
 rw [show (-(1:Int)) = -1 from rfl,x9s]
 have s2:=q0d (o:=HO.lst ((q2m c ss es).map V.str)) hp
 refine⟨p,c,ss,es,rfl,q0c,R,fun v H3 I3 s3=>?_⟩
 have sA:=(s1.trans s2).trans s3
 refine⟨_,rfl,1000,v,_,(by decide),rfl,I3,fun H4 s4=>⟨_,rfl,?_⟩⟩
 cases hp:q5a (.tup [.int c,.tup (ss.map D.int),.tup es]) with
 | true=>exact q1a ⟨_,rfl,q hp v H4 (I3.same s4) (sA.trans s4)⟩
 | false=>exact q1f ⟨by decide,qe hp _ _ (sA.trans s4)⟩
end
end K1
namespace K1
open PySem L2 Kp Kz
theorem z6o (ns:List Int) (lo hi:Int) (h:hi=lo+30) (h0:0≤lo):∃ ms:List Int,q8c (ns.map V.int) (some lo) (some hi)=ms.map V.int∧ms.length≤30:=by
 subst h
 unfold q8c
 refine⟨(ns.drop (HT.sIx (ns.map V.int).length 0 (some lo))).take (HT.sIx (ns.map V.int).length (ns.map V.int).length (some (lo+30)) - HT.sIx (ns.map V.int).length 0 (some lo)),by rw [List.map_take,List.map_drop],?_⟩
 refine Nat.le_trans (List.length_take_le _ _) ?_
 obtain⟨l,rfl⟩:=Int.eq_ofNat_of_zero_le h0
 rw [show ((l:Nat):Int)+30=((l+30:Nat):Int) by omega,HT.sIx_nat,HT.sIx_nat]
 omega
section
variable {P:Program} {w:World} {K:Frag} {mg:Str→Option Value} {base:Heap}
noncomputable def j0v (K:Frag):Sp:=fun vs H Q _=>∃ (a:Addr) (ns:List Int) (f:Int),vs=[.ref a,.int f]∧SqL K H a (ns.map V.int)∧0≤f∧f≤100∧∀ v H' (c:Int) (ss:List Int) (es:List D),Is 200 H' v (.tup [.int c,.tup (ss.map D.int),.tup es])→SchR c ss es→es.length≤90→(∀ n∈ss,0≤n∧n < c)→q1h H H'→Q v H'
theorem z0o:FnScope ["_law_script", "_law_first", "_law_count", "_law_seats_here", "_law_steps", "_law_cell", "_law_k"] ["_law_script", "_law_first"] (q0e q4t):=fSc
theorem j2u {f:Addr} {fd:FuncData} (F:Fun K "_law_schedule" "_law_schedule" q4t f fd) (T:Txt mg) (CC:Cal P w K mg base "_law_cell_at" 1 ["_law_script", "_law_k"] (x9d K)) (CS:Cal P w K mg base "_law_seats" 1 ["_law_cell", "_law_high"] z7s) (CT:Cal P w K mg base "_law_step" 4 ["_law_cell", "_law_k"] z9m):FnOk P w K mg base CX0 5 f fd ["_law_script", "_law_first"] (j0v K):=by
 refine F.ok z0o (fun vs H Q E ⟨_,_,_,e,_⟩=>by subst e; rfl) (fun _ A _ s H vs Q E hr h=>?_)
 obtain⟨a,ns,f0,rfl,hS,f0p,f100,q⟩:=h
 have r1:=hr.mono (show 1≤4 by decide)
 refine⟨_,@q0j _ _ _ _ _ (q0y (i:=2) z0o.nd (by rfl) (by exact Or.inl rfl) (q0p q4f q0b (q0p q1u (q0s CC r1 (q1c (pv 0) (q1c (pv 1) q0a))) q0b)))
  (@q0j _ _ _ _ _ (q0y (i:=3) z0o.nd (by rfl) (by exact Or.inl rfl) (q0s CS r1 (q9l (q0s CC r1 (q1c (pv 0) (x6l (q0p q4f (pv 1) q0b) q0a))) (q1c (pv 2) q0a))))
  (@q0j _ _ _ _ _ (q0y (i:=4) z0o.nd (by rfl) (by exact Or.inl rfl) (q8w q0a))
  (@q0j _ _ _ _ _ (q7x PassesOwn.never (by rfl) (x1y (q1g q3p (pv 0) (q1m (q0p q4f (pv 1) q0b)) (q1m (q0p q4f (pv 1) q0b)))) (q1x (i:=5) z0o.nd (by rfl) (by exact Or.inl rfl))
   (@q0m _ _ _ (q7x PassesOwn.never (by rfl) (x1s (by rfl) T.range (x6l (q0p q4f q0b (q0p q1u (q0p q2e (pv 5) q0b) q0b)) q0a)) (q1x (i:=6) z0o.nd (by rfl) (by exact Or.inl rfl))
    (@q0m _ _ _ (x0f (q6w PySem.F.plainAttrs_list PySem.F.slot_list_append PySem.F.type_list_append q3y (pv 4) (q9l (q0s CT hr (q1c (pv 5) (q1c (pv 6) q0a))) q0a)))))))
  (@q0m _ _ _ (q0g (q2g (q1c (pv 2) (q1c (pv 3) (q9l (q1q q1n (by rfl) T.tuple q1r (q1c (pv 4) q0a)) q0a))))))))),?_⟩
 refine⟨_,rfl,_,rfl,a,ns,f0,rfl,hS,f0p,fun z0=>⟨_,_,rfl,rfl,(by show (0:Int) < 9; decide),_,_,rfl,rfl,?_⟩⟩
 obtain⟨u0,u1⟩:=q2a z0 (m:=9) (by decide)
 refine⟨_,rfl,_,rfl,_,_,rfl,rfl,a,ns,f0+1,rfl,hS,by omega,fun z1=>⟨_,rfl,z1,1+z0 % 9,rfl,by omega,by omega,fun pS ss H1 hpS hse hss hs9 s1=>?_⟩⟩
 refine⟨q3j (by show 0≤1000; decide),fun b hb=>?_⟩
 have s2:=s1.trans (q0d (o:=HO.lst []) hb)
 have hb0:H b=none:=by
  cases e:H b with
  | none=>rfl
  | some o=>rw [s1 _ _ e] at hb; cases hb
 refine⟨_,rfl,_,rfl,_,_,rfl,rfl,_,rfl,_,rfl,_,_,rfl,rfl,_,rfl,a,_,rfl,SqL.same' hS s2,fun p hp=>?_⟩
 obtain⟨ms,ems,hms⟩:=z6o ns (f0+2) (f0+32) (by omega) (by omega)
 have s3:=s2.trans (q0d (o:=HO.lst (q8c (ns.map V.int) (some (f0+2)) (some (f0+32)))) hp)
 have hpb:p≠b:=fun z=>by rw [z,q0c] at hp; cases hp
 refine⟨p,rfl,⟨_,SqL.of q0c⟩,x4n (xs:=ms.map V.int) (fun i σ H'=>∃ (ys:List V) (t u:Option V),σ=[some (.ref a),some (.int f0),some (.int (1+z0 % 9)),some (.ref pS),some (.ref b),t,u]∧H' b=some (.lst ys)∧H' p=some (.lst (ms.map V.int))∧H' pS=some (.tup (ss.map V.int))∧(∀ y∈ys,ThP q3f H' y)∧ys.length≤3*i∧q1h H H') ?_ ?_ ?_ ?_⟩
 ·refine⟨[],none,none,rfl,?_,?_,?_,fun y hy=>(List.not_mem_nil hy).elim,Nat.zero_le _,s3⟩
  ·rw [q0r (Ne.symm hpb),q0c]
  ·rw [← ems]; exact q0c
  ·exact (q0d hb |>.trans (q0d hp)) _ _ hpS
 ·rintro i σ H' _ ⟨ys,t,u,rfl,_,hL,_⟩
  exact SqL.of hL
 ·rintro i x σ H' hx ⟨ys,t,u,rfl,hbL,hpL,hS',hys,hl,sH⟩
  obtain⟨c,hc,rfl⟩:∃ c:Int,ms[i]? = some c∧x=.int c:=by
   rw [List.getElem?_map] at hx
   cases e:ms[i]? with
   | none=>rw [e] at hx; cases hx
   | some c=>rw [e] at hx; exact⟨c,rfl,(Option.some.inj hx).symm⟩
  have hi:i < 30:=Nat.lt_of_lt_of_le (List.getElem?_eq_some_iff.mp hc).1 hms
  obtain⟨w0,w1⟩:=q2a (c / 5) (m:=3) (by decide)
  refine⟨_,rfl,_,_,rfl,rfl,⟨by decide,by decide⟩,_,_,rfl,rfl,(by show (0:Int) < 3; decide),_,_,rfl,rfl,?_⟩
  refine⟨_,rfl,by omega,by omega,x2i (lo:=0) (n:=(1+c / 5 % 3).toNat) (fun k σ H2=>∃ (zs:List V) (t:Option V),σ=[some (.ref a),some (.int f0),some (.int (1+z0 % 9)),some (.ref pS),some (.ref b),some (.int c),t]∧H2 b=some (.lst zs)∧H2 p=some (.lst (ms.map V.int))∧H2 pS=some (.tup (ss.map V.int))∧(∀ y∈zs,ThP q3f H2 y)∧zs.length≤3*i+k∧q1h H H2) ?_ ?_ ?_⟩
  ·exact⟨ys,u,rfl,hbL,hpL,hS',hys,hl,sH⟩
  ·rintro k σ H2 hk ⟨zs,t,rfl,hb2,hp2,hS2,hz2,hl2,sH2⟩
   have hk3:k < 3:=by omega
   refine⟨_,rfl,.inl ⟨rfl,_,SqL.of hb2⟩,_,rfl,_,rfl,c,_,rfl,by omega,by omega,fun v H3 hv s4=>?_⟩
   have e3:=s4 _ _ hb2
   refine⟨b,zs,_,rfl,rfl,e3,by rw [sizeLine_eq]; omega,zs++[v],_,rfl,q0c,?_,?_,?_,?_,?_⟩
   ·rw [q0r hpb]; exact s4 _ _ hp2
   ·have:pS≠b:=fun z=>by rw [z,hb2] at hS2; cases hS2
    rw [q0r this]; exact s4 _ _ hS2
   ·intro y hy
    have st:x0r H3 (upd H3 b (HO.lst (zs++[v]))):=q3w fun xs z=>by rw [e3] at z; cases z
    rcases List.mem_append.mp hy with hy | hy
    ·exact ((hz2 y hy).same s4).sameT st
    ·cases List.mem_singleton.mp hy; exact hv.sameT st
   ·rw [List.length_append,List.length_singleton]; omega
   ·intro d o e
    have hd:d≠b:=fun z=>by rw [z,hb0] at e; cases e
    rw [q0r hd]; exact s4 _ _ (sH2 d o e)
  ·rintro σ H2 ⟨zs,t,rfl,hb2,hp2,hS2,hz2,hl2,sH2⟩
   exact⟨zs,_,_,rfl,hb2,hp2,hS2,hz2,by omega,sH2⟩
 ·rintro σ H2 ⟨zs,t,u,rfl,hb2,hp2,hS2,hz2,hl2,sH2⟩
  rw [List.length_map] at hl2
  have hz90:zs.length≤90:=by omega
  refine⟨_,rfl,_,rfl,_,rfl,b,_,rfl,.inl ⟨SqL.of hb2,fun t2 ht2=>⟨q3j (by show 3≤1000; decide),fun r hr2=>?_⟩⟩⟩
  obtain⟨es,Ie,he,ge⟩:=z3v fun u hu=>(hz2 u hu).same ((q0d (o:=HO.tup zs) ht2).trans (q0d (o:=HO.tup [V.int (1+z0 % 9),V.ref pS,V.ref t2]) hr2))
  have le:es.length=zs.length:=Ie.length.symm
  refine q _ _ (1+z0 % 9) ss es (.tup q0c (by show 3≤200; decide) (.cons (.int _) (.cons (.tup ((q0d ht2 |>.trans (q0d hr2)) _ _ hS2) (by rw [List.length_map]; omega) Kz.q6k) (.cons (.tup ((q0d hr2) _ _ q0c) (by omega) Ie) .nil)))) ?_ (by omega) hss ((sH2.trans (q0d ht2)).trans (q0d hr2))
  exact⟨by omega,by omega,hse,he,ge.1,(Kp.IsL.wid Ie),ge.2,by omega⟩
end
end K1
namespace Kz
open PySem L2 Kp K1
noncomputable def tlW:List Str→Str
 | [] => ""
 | w::ws => " " ++ w++tlW ws
theorem q8z (x:Str):x++("" : Str)=x:=by
 show (⟨x.cps++#[]⟩:Str)=x
 rw [Array.append_empty]
theorem j1s:∀ (a:Str) (ws:List Str),J (a::ws)=a++tlW ws
 | a,[]=>(q8z a).symm
 | a,w::ws=>by
  rw [j1b,j1s w ws]
  show _=a++(" " ++ w++tlW ws)
  simp only [q9i]
theorem x9w:∀ (ws:List Str) (w:Str),tlW (ws++[w])=tlW ws ++ " " ++ w
 | [],w=>by
  show " " ++ w++("" : Str)=("" : Str) ++ " " ++ w
  rw [q8z]
  rfl
 | v::ws,w=>by
  show " " ++ v++tlW (ws++[w]) = " " ++ v++tlW ws ++ " " ++ w
  rw [x9w ws w]
  simp only [q9i]
theorem q9o {L:Nat}:∀ {ws:List Str},(∀ w∈ws,w.length≤L)→(tlW ws).length≤ws.length*(L+1)
 | [],_=>Nat.zero_le _
 | w::ws,h=>by
  have h1:=h w List.mem_cons_self
  have h2:=q9o (ws:=ws) fun x hx=>h x (List.mem_cons_of_mem _ hx)
  show (" " ++ w++tlW ws).length≤(ws.length+1)*(L+1)
  rw [q0v,q0v,show (" " : Str).length=1 by decide +kernel,Nat.succ_mul]
  omega
theorem j3k {n:Int} (h:S6 n):(q1d n).length≤61:=q7l (by decide) h
theorem z2i {ns:List Int} (h:∀ n∈ns,S6 n):∀ w∈ns.map q1d,w.length≤61:=fun w hw=>by
 obtain⟨n,hn,rfl⟩:=List.mem_map.mp hw
 exact j3k (h n hn)
inductive StS:D→List Str→Prop
 | nums (x:Str) (ns:List Int):x ≠ "wish" → x ≠ "again" → x ≠ "turn" → x ≠ "move" → x.length≤8→ns.length≤2→StS (.tup (.str x::ns.map D.int)) (x::ns.map q1d)
 | wish (n w m:Str) (ns:List Int):n.length≤8→w.length≤8→m.length≤8→ns.length≤1→StS (.tup [.str "wish",.str n,.tup (.str w::.str m::ns.map D.int)]) ("wish" :: n::w::m::ns.map q1d)
 | again (n:Str):n.length≤8→StS (.tup [.str "again",.str n]) ["again",n]
 | turn (n:Str) (i:Int):n.length≤8→StS (.tup [.str "turn",.str n,.int i]) ["turn",n,q1d i]
 | move (i:Int) (ns:List Int):ns.length≤9→StS (.tup [.str "move",.int i,.tup (ns.map D.int)]) ("move" :: q1d i::ns.map q1d)
theorem q2z:q1k "keeper" = q8o:=by unfold q1k; rw [if_neg (by decide +kernel),if_neg (by decide +kernel),if_neg (by decide +kernel)]
theorem x0s:q1k "place" = q8o:=by unfold q1k; rw [if_neg (by decide +kernel),if_neg (by decide +kernel),if_neg (by decide +kernel)]
theorem q8h:q1k "name" = x5z:=if_pos rfl
theorem x8q:q1k "deed" = q9b:=by unfold q1k; rw [if_neg (by decide +kernel),if_pos rfl]
theorem x9v:q1k "seats" = q7y:=by unfold q1k; rw [if_neg (by decide +kernel),if_neg (by decide +kernel),if_pos rfl]
theorem x3p {d:D} (h:q2h "keeper" d=true):∃ i,d=.int i:=by
 rw [q3g] at h
 cases d <;> first | exact⟨_,rfl⟩ | cases h
theorem z9b {d:D} (h:q2h "place" d=true):∃ i,d=.int i:=by
 rw [q4o] at h
 cases d <;> first | exact⟨_,rfl⟩ | cases h
theorem z5l {d:D} (h:q2h "name" d=true):∃ x,d=.str x∧x.length≤8:=by
 rw [q2d] at h
 obtain⟨x,rfl,hx⟩:=q3q h
 exact⟨x,rfl,q5h hx⟩
theorem x2k:∀ ns:List Int,(ns.map D.int).flatMap q8o=ns.map q1d
 | []=>rfl
 | n::ns=>by
  show [q1d n]++(ns.map D.int).flatMap q8o=_
  rw [x2k ns]; rfl
theorem q2r:∀ {ps:List (D→Bool)} {ds:List D},q0w ps ds=true→ds.length=ps.length
 | [],[],_=>rfl
 | [],_::_,h=>by cases h
 | _::_,[],h=>by cases h
 | p::ps,d::ds,h=>by
  rw [q0w,Bool.and_eq_true] at h
  rw [List.length_cons,List.length_cons,q2r h.2]
theorem x4f:∀ {ds:List D},ds.all q2f=true→∃ ns:List Int,ds=ns.map D.int
 | [],_=>⟨[],rfl⟩
 | d::ds,h=>by
  rw [List.all_cons,Bool.and_eq_true] at h
  obtain⟨ns,rfl⟩:=x4f h.2
  obtain⟨i,rfl⟩:=x3p (by rw [q3g]; exact h.1)
  exact⟨i::ns,rfl⟩
theorem z1s {d:D} (h:q9h d=true):∃ (w m:Str) (ns:List Int),d=.tup (.str w::.str m::ns.map D.int)∧q9b d=w::m::ns.map q1d∧w.length≤8∧m.length≤8∧ns.length≤1:=by
 obtain⟨x,r,ps,rfl,e,hf⟩:=q5z h
 have hm:=L2.q1v e
 simp only [x0p,List.mem_cons,Prod.mk.injEq,List.not_mem_nil,or_false] at hm
 rcases hm with ⟨rfl,rfl⟩ | ⟨rfl,rfl⟩ | ⟨rfl,rfl⟩
 ·match r,q2r hf with
  | [a,b],_ =>
   simp only [q0w,Bool.and_true,Bool.and_eq_true] at hf
   obtain⟨y,rfl,hy⟩:=q3q hf.1
   obtain⟨i,rfl⟩:=q5s hf.2
   exact⟨_,y,[i],rfl,rfl,by decide +kernel,q5h hy,Nat.le_refl 1⟩
 ·match r,q2r hf with
  | [a,b],_ =>
   simp only [q0w,Bool.and_true,Bool.and_eq_true] at hf
   obtain⟨y,rfl,hy⟩:=q3q hf.1
   obtain⟨i,rfl⟩:=q5s hf.2
   exact⟨_,y,[i],rfl,rfl,by decide +kernel,q5h hy,Nat.le_refl 1⟩
 ·match r,q2r hf with
  | [a],_ =>
   simp only [q0w,Bool.and_true] at hf
   obtain⟨y,rfl,hy⟩:=q3q hf
   exact⟨_,y,[],rfl,rfl,by decide +kernel,q5h hy,by decide⟩
theorem x7m {d:D} (h:q2u d=true):∃ ns:List Int,d=.tup (ns.map D.int)∧ns.length≤9:=by
 cases d with
 | tup ss =>
  have hs':(ss.all q2f && ((decide (1≤ss.length) && decide (ss.length≤9)) && q7a (q1z ss)))=true:=h
  rw [Bool.and_eq_true,Bool.and_eq_true,Bool.and_eq_true,decide_eq_true_eq,decide_eq_true_eq] at hs'
  obtain⟨ns,rfl⟩:=x4f hs'.1
  rw [List.length_map] at hs'
  exact⟨ns,rfl,hs'.2.1.2⟩
 | _=>cases h
theorem z8p {d:D} (h:q3f d=true):StS d (q3d d):=by
 obtain⟨x,r,ks,rfl,e,hf⟩:=q5x h
 have ew:q3d (.tup (.str x::r))=x::q0u (ks.map q1k) r:=by
  show x::q0u (((q2n.lookup x).getD []).map q1k) r=_
  rw [e]; rfl
 rw [ew]
 have hm:=L2.q1v e
 clear e h ew
 have one:∀ {k:Str},(k = "keeper" ∨ k = "place")→q0w ([k].map q2h) r=true→∃ i:Int,r=[.int i]∧q0u ([k].map q1k) r=[q1d i]:=by
  intro k hk hf
  match r,q2r hf with
  | [a],_ =>
   rw [List.map_cons,q0w,Bool.and_eq_true] at hf
   rcases hk with rfl | rfl
   ·obtain⟨i,rfl⟩:=x3p hf.1
    exact⟨i,rfl,by rw [List.map_cons,q2z]; rfl⟩
   ·obtain⟨i,rfl⟩:=z9b hf.1
    exact⟨i,rfl,by rw [List.map_cons,x0s]; rfl⟩
 have two:∀ {k:Str},(k = "keeper" ∨ k = "place")→q0w ((["keeper",k]:List Str).map q2h) r=true→∃ i j:Int,r=[.int i,.int j]∧q0u ((["keeper",k]:List Str).map q1k) r=[q1d i,q1d j]:=by
  intro k hk hf
  match r,q2r hf with
  | [a,b],_ =>
   rw [List.map_cons,List.map_cons,q0w,q0w,Bool.and_eq_true,Bool.and_eq_true] at hf
   obtain⟨i,rfl⟩:=x3p hf.1
   rcases hk with rfl | rfl
   ·obtain⟨j,rfl⟩:=x3p hf.2.1
    exact⟨i,j,rfl,by rw [List.map_cons,List.map_cons,q2z]; rfl⟩
   ·obtain⟨j,rfl⟩:=z9b hf.2.1
    exact⟨i,j,rfl,by rw [List.map_cons,List.map_cons,q2z,x0s]; rfl⟩
 simp only [Kp.q2n,List.mem_cons,Prod.mk.injEq,List.not_mem_nil,or_false] at hm
 have N1:∀ {k:Str},(k = "keeper" ∨ k = "place")→q0w ([k].map q2h) r=true→x ≠ "wish" → x ≠ "again" → x ≠ "turn" → x ≠ "move" → x.length≤8→StS (.tup (.str x::r)) (x::q0u ([k].map q1k) r):=fun hk hf a b c d l=>by
  obtain⟨i,rfl,e⟩:=one hk hf
  rw [e]
  exact .nums x [i] a b c d l (by show 1≤2; decide)
 have N2:∀ {k:Str},(k = "keeper" ∨ k = "place")→q0w ((["keeper",k]:List Str).map q2h) r=true→x ≠ "wish" → x ≠ "again" → x ≠ "turn" → x ≠ "move" → x.length≤8→StS (.tup (.str x::r)) (x::q0u ((["keeper",k]:List Str).map q1k) r):=fun hk hf a b c d l=>by
  obtain⟨i,j,rfl,e⟩:=two hk hf
  rw [e]
  exact .nums x [i,j] a b c d l (by show 2≤2; decide)
 rcases hm with ⟨rfl,rfl⟩ | ⟨rfl,rfl⟩ | ⟨rfl,rfl⟩ | ⟨rfl,rfl⟩ | ⟨rfl,rfl⟩ | ⟨rfl,rfl⟩ | ⟨rfl,rfl⟩ | ⟨rfl,rfl⟩ | ⟨rfl,rfl⟩ | ⟨rfl,rfl⟩ | ⟨rfl,rfl⟩
 ·exact N1 (.inl rfl) hf (by decide +kernel) (by decide +kernel) (by decide +kernel) (by decide +kernel) (by decide +kernel)
 ·exact N2 (.inl rfl) hf (by decide +kernel) (by decide +kernel) (by decide +kernel) (by decide +kernel) (by decide +kernel)
 ·exact N1 (.inr rfl) hf (by decide +kernel) (by decide +kernel) (by decide +kernel) (by decide +kernel) (by decide +kernel)
 ·exact N1 (.inr rfl) hf (by decide +kernel) (by decide +kernel) (by decide +kernel) (by decide +kernel) (by decide +kernel)
 ·exact N1 (.inr rfl) hf (by decide +kernel) (by decide +kernel) (by decide +kernel) (by decide +kernel) (by decide +kernel)
 ·match r,q2r hf with
  | [a,b],_ =>
   rw [List.map_cons,List.map_cons,q0w,q0w,Bool.and_eq_true,Bool.and_eq_true,q4k] at hf
   obtain⟨n,rfl,hn⟩:=z5l hf.1
   obtain⟨w,m,ns,rfl,e,h1,h2,h3⟩:=z1s hf.2.1
   rw [List.map_cons,List.map_cons,q8h,x8q]
   show StS _ ("wish" :: ([n]++(q9b _++[])))
   rw [e,List.append_nil]
   exact .wish n w m ns hn h1 h2 h3
 ·match r,q2r hf with
  | [a],_ =>
   rw [List.map_cons,q0w,Bool.and_eq_true] at hf
   obtain⟨n,rfl,hn⟩:=z5l hf.1
   rw [List.map_cons,q8h]
   exact .again n hn
 ·match r,q2r hf with
  | [a,b],_ =>
   rw [List.map_cons,List.map_cons,q0w,q0w,Bool.and_eq_true,Bool.and_eq_true] at hf
   obtain⟨n,rfl,hn⟩:=z5l hf.1
   obtain⟨i,rfl⟩:=x3p hf.2.1
   rw [List.map_cons,List.map_cons,q8h,q2z]
   exact .turn n i hn
 ·match r,q2r hf with
  | [a,b],_ =>
   rw [List.map_cons,List.map_cons,q0w,q0w,Bool.and_eq_true,Bool.and_eq_true,q4y] at hf
   obtain⟨i,rfl⟩:=x3p hf.1
   obtain⟨ns,rfl,h9⟩:=x7m hf.2.1
   rw [List.map_cons,List.map_cons,q2z,x9v]
   show StS _ ("move" :: ([q1d i]++((ns.map D.int).flatMap q8o++[])))
   rw [x2k,List.append_nil]
   exact .move i ns h9
 ·exact N2 (.inr rfl) hf (by decide +kernel) (by decide +kernel) (by decide +kernel) (by decide +kernel) (by decide +kernel)
 ·exact N1 (.inl rfl) hf (by decide +kernel) (by decide +kernel) (by decide +kernel) (by decide +kernel) (by decide +kernel)
theorem x3w {ns:List Int} (h:smallL 60 (ns.map D.int)=true):∀ n∈ns,S6 n:=fun n hn=>by
 have:=q1j.mp h _ (List.mem_map.mpr ⟨n,hn,rfl⟩)
 exact of_decide_eq_true (p:=n.natAbs < 10 ^ 60) this
end Kz
namespace K1
open PySem L2 Kp Kz
section
variable {P:Program} {w:World} {K:Frag} {mg:Str→Option Value} {base:Heap}
noncomputable def z6l (K:Frag):Sp:=fun vs H Q _=>∃ (p:Addr) (ns:List Int),vs=[.ref p]∧SqT K H p (ns.map V.int)∧ns.length≤20∧(∀ n∈ns,S6 n)∧Q (.str (tlW (ns.map q1d))) H
theorem z7a:FnScope ["_law_row_here", "_law_found", "_law_number_here"] ["_law_row_here"] (q0e q5e):=fSc
theorem j3w {f:Addr} {fd:FuncData} (F:Fun K "_law_numbers" "_law_numbers" q5e f fd) (T:Txt mg):FnOk P w K mg base CX0 1 f fd ["_law_row_here"] (z6l K):=by
 refine F.ok z7a (fun vs H Q E ⟨_,_,e,_⟩=>by subst e; rfl) (fun _ A _ s H vs Q E hr h=>?_)
 obtain⟨p,ns,rfl,hp,hl,h6,q⟩:=h
 refine⟨_,@q0j _ _ _ _ _ (q0y (i:=1) z7a.nd (by rfl) (by exact Or.inl rfl) q0q)
  (@q0j _ _ _ _ _ (q7x PassesOwn.never (by rfl) (x2n (pv 0)) (q1x (i:=2) z7a.nd (by rfl) (by exact Or.inl rfl))
   (@q0m _ _ _ (q0y (i:=1) z7a.nd (by rfl) (by exact Or.inl rfl) (q0p q0z (q0p q0z (pv 1) q0q) (q1q q5c (by rfl) T.str q9k (q1c (pv 2) q0a))))))
  (@q0m _ _ _ (q0g (pv 1)))),?_⟩
 refine⟨_,rfl,p,rfl,⟨_,hp⟩,z5t (xs:=ns.map V.int) (fun i σ H'=>∃ t,σ=[some (.ref p),some (.str (tlW ((ns.take i).map q1d))),t]∧H=H') ⟨none,rfl,rfl⟩ ?_ ?_ ?_⟩
 ·rintro i σ H' _ ⟨t,rfl,rfl⟩
  exact hp
 ·rintro i x σ H' hx ⟨t,rfl,rfl⟩
  obtain⟨n,hn,rfl⟩:∃ n:Int,ns[i]? = some n∧x=.int n:=by
   rw [List.getElem?_map] at hx
   cases e:ns[i]? with
   | none=>rw [e] at hx; cases hx
   | some c=>rw [e] at hx; exact⟨c,rfl,(Option.some.inj hx).symm⟩
  have hi:=(List.getElem?_eq_some_iff.mp hn).1
  have hs:=h6 n (List.mem_of_getElem? hn)
  have hL:=q9o (L:=61) (ws:=(ns.take i).map q1d) (z2i fun m hm=>h6 m (List.mem_of_mem_take hm))
  have hL2:(tlW ((ns.take i).map q1d)).length≤1240:=Nat.le_trans hL (by rw [List.length_map,List.length_take]; omega)
  have h1:(" " : Str).length=1:=by decide +kernel
  have hf:=j3k hs
  refine⟨_,rfl,_,_,rfl,rfl,by rw [h1,sizeLine_eq]; omega,_,rfl,n,rfl,q9c hs,_,_,rfl,rfl,?_,some (.int n),?_,rfl⟩
  ·rw [q0v,h1,sizeLine_eq]
   show _+(q1d n).length≤_
   omega
  ·rw [List.take_add_one,hn,Option.toList_some,List.map_append,List.map_singleton,x9w]; rfl
 ·rintro σ H' ⟨t,rfl,rfl⟩
  rw [List.length_map,List.take_length]
  exact⟨_,rfl,q⟩
noncomputable def j0a:Sp:=fun vs H Q _=>∃ (B:Nat) (v:V) (d:D),vs=[v]∧Is B H v d∧q3f d=true∧q2j 60 d=true∧∀ H',q1h H H'→Q (.str (J (q3d d))) H'
theorem j3u:FnScope ["_law_step_here", "_law_found"] ["_law_step_here"] (q0e q9r):=fSc
theorem j2h {f:Addr} {fd:FuncData} (F:Fun K "_law_row" "_law_row" q9r f fd) (T:Txt mg) (CN:Cal P w K mg base "_law_numbers" 1 ["_law_row_here"] (z6l K)):FnOk P w K mg base CX0 2 f fd ["_law_step_here"] j0a:=by
 refine F.ok j3u (fun vs H Q E ⟨_,_,_,e,_⟩=>by subst e; rfl) (fun _ A _ s H vs Q E hr h=>?_)
 obtain⟨B,v,d,rfl,I,hp,hs,q⟩:=h
 refine⟨_,@q0j _ _ _ _ _ (q1e (q0f q1s (q1i q2q (pv 0) q0b q3t) q0q (q0i _))
   (@q0j _ _ _ _ _ (q0y (i:=1) j3u.nd (by rfl) (by exact Or.inl rfl) (q0p q0z (q0p q0z (q0p q0z (q0p q0z (q0p q0z q0q (q1i q2q (pv 0) q0b q3t)) q0q) (q1i q2q (q1i q2q (pv 0) q0b q3t) q0b q3t)) q0q) (q1i q2q (q1i q2q (pv 0) q0b q3t) q0b q3t)))
   (@q0m _ _ _ (q0g (q0p q0z (pv 1) (q0s CN hr (q0o (q1g x3j (q1i q2q (pv 0) q0b q3t) (q1m q0b) q1p) q0a)))))) q0h)
  (@q0j _ _ _ _ _ (q1e (q0f q1s (q1i q2q (pv 0) q0b q3t) q0q (q0i _)) (@q0m _ _ _ (q0g (q0p q0z q0q (q1i q2q (pv 0) q0b q3t)))) q0h)
  (@q0j _ _ _ _ _ (q1e (q0f q1s (q1i q2q (pv 0) q0b q3t) q0q (q0i _)) (@q0m _ _ _ (q0g (q0p q0z (q0p q0z (q0p q0z q0q (q1i q2q (pv 0) q0b q3t)) q0q) (q1q q5c (by rfl) T.str q9k (q0o (q1i q2q (pv 0) q0b q3t) q0a))))) q0h)
  (@q0j _ _ _ _ _ (q1e (q0f q1s (q1i q2q (pv 0) q0b q3t) q0q (q0i _)) (@q0m _ _ _ (q0g (q0p q0z (q0p q0z q0q (q1q q5c (by rfl) T.str q9k (q0o (q1i q2q (pv 0) q0b q3t) q0a))) (q0s CN hr (q0o (q1i q2q (pv 0) q0b q3t) q0a))))) q0h)
  (@q0m _ _ _ (q0g (q0p q0z (q1i q2q (pv 0) q0b q3t) (q0s CN hr (q0o (q1g x3j (pv 0) (q1m q0b) q1p) q0a)))))))),?_⟩
 have h1:(" " : Str).length=1:=by decide +kernel
 have no:∀ {x z:Str},x≠z→decide (V.str x=V.str z)=false:=fun h=>decide_eq_false fun e=>h (V.str.inj e)
 have yes:∀ {z:Str},decide (V.str z=V.str z)=true:=decide_eq_true rfl
 have hst:=z8p hp
 revert q hst
 generalize q3d d=ws
 intro q hst
 cases hst with
 | nums x ns x1 x2 x3 x4 xl nl =>
  cases I with
  | @tup a xs _ ea l r =>
  obtain⟨w0,us,rfl,z0,rr0⟩:=IsL.un r
  obtain rfl:=Is.vstr z0
  obtain rfl:=q7q rr0
  have hs':smallL 60 (ns.map D.int)=true:=by
   have:(q2j 60 (.str x) && smallL 60 (ns.map D.int))=true:=hs
   exact (Bool.and_eq_true _ _▸this).2
  have h6:=x3w hs'
  refine⟨_,rfl,a,_,_,.str x,rfl,rfl,SqT.of ea,q0k (j:=0) rfl,rfl,_,rfl,?_⟩
  rw [no x1]
  refine q1a ⟨_,rfl,a,_,_,.str x,rfl,rfl,SqT.of ea,q0k (j:=0) rfl,rfl,_,rfl,?_⟩
  rw [no x2]
  refine q1a ⟨_,rfl,a,_,_,.str x,rfl,rfl,SqT.of ea,q0k (j:=0) rfl,rfl,_,rfl,?_⟩
  rw [no x3]
  refine q1a ⟨_,rfl,a,_,_,.str x,rfl,rfl,SqT.of ea,q0k (j:=0) rfl,rfl,_,rfl,?_⟩
  rw [no x4]
  have hL:=q9o (L:=61) (z2i h6)
  rw [List.length_map] at hL
  refine q1a ⟨_,rfl,a,_,_,.str x,rfl,rfl,SqT.of ea,q0k (j:=0) rfl,_,rfl,_,rfl,a,_,rfl,SqT.of ea,?_,fun p hp'=>⟨p,ns,rfl,SqT.of ?_,by omega,h6,_,_,rfl,rfl,?_,?_⟩⟩
  ·rintro⟨z,_⟩
   rw [show (1:Int)=((1:Nat):Int) from rfl,HT.sIx_nat] at z
   rw [List.length_cons] at z
   omega
  ·rw [z9r]; exact q0c
  ·rw [sizeLine_eq]; omega
  ·rw [← j1s]; exact q _ (q0d hp')
 | wish n w m ns hn hw hm nl =>
  cases I with
  | @tup a xs _ ea l r =>
  obtain⟨w0,us,rfl,z0,rr0⟩:=IsL.un r
  obtain rfl:=Is.vstr z0
  obtain⟨w1,us,rfl,z1,rr1⟩:=IsL.un rr0
  obtain rfl:=Is.vstr z1
  obtain⟨w2,us,rfl,z2,rr2⟩:=IsL.un rr1
  obtain rfl:=IsL.un0 rr2
  obtain⟨b,vs,rfl,eb,lb,rb⟩:=Is.vtup z2
  obtain⟨u0,us,rfl,y0,rb0⟩:=IsL.un rb
  obtain rfl:=Is.vstr y0
  obtain⟨u1,us,rfl,y1,rb1⟩:=IsL.un rb0
  obtain rfl:=Is.vstr y1
  obtain rfl:=q7q rb1
  have hs':smallL 60 (ns.map D.int)=true:=by
   have:(true && (true && ((true && (true && smallL 60 (ns.map D.int))) && true)))=true:=hs
   simpa using this
  have h6:=x3w hs'
  have hL:=q9o (L:=61) (z2i h6)
  rw [List.length_map] at hL
  have e5:("wish " : Str) = "wish" ++ " " := by decide +kernel
  have l5:("wish " : Str).length=5:=by decide +kernel
  refine⟨_,rfl,a,_,_,.str "wish",rfl,rfl,SqT.of ea,q0k (j:=0) rfl,rfl,_,rfl,?_⟩
  rw [yes]
  refine q1f ⟨_,rfl,a,_,_,.str n,rfl,rfl,SqT.of ea,q0k (j:=1) rfl,_,_,rfl,rfl,?_,_,_,rfl,rfl,?_,_,rfl,a,_,_,.ref b,rfl,rfl,SqT.of ea,q0k (j:=2) rfl,b,_,_,.str w,rfl,rfl,SqT.of eb,q0k (j:=0) rfl,_,_,rfl,rfl,?_,_,_,rfl,rfl,?_,_,rfl,a,_,_,.ref b,rfl,rfl,SqT.of ea,q0k (j:=2) rfl,b,_,_,.str m,rfl,rfl,SqT.of eb,q0k (j:=1) rfl,_,_,rfl,rfl,?_,_,rfl,_,rfl,a,_,_,.ref b,rfl,rfl,SqT.of ea,q0k (j:=2) rfl,_,rfl,b,_,rfl,SqT.of eb,?_,fun p hp'=>⟨p,ns,rfl,SqT.of ?_,by omega,h6,_,_,rfl,rfl,?_,?_⟩⟩
  ·rw [l5,sizeLine_eq]; omega
  ·simp only [q0v,l5,h1,sizeLine_eq]; omega
  ·simp only [q0v,l5,h1,sizeLine_eq]; omega
  ·simp only [q0v,l5,h1,sizeLine_eq]; omega
  ·simp only [q0v,l5,h1,sizeLine_eq]; omega
  ·rintro⟨z,_⟩
   rw [show (2:Int)=((2:Nat):Int) from rfl,HT.sIx_nat] at z
   rw [List.length_cons,List.length_cons] at z
   omega
  ·rw [show (2:Int)=((2:Nat):Int) from rfl,z4s]; exact q0c
  ·simp only [q0v,l5,h1,sizeLine_eq]; omega
  ·have:("wish " ++ n ++ " " ++ w ++ " " ++ m++tlW (ns.map q1d):Str)=J ("wish" :: n::w::m::ns.map q1d):=by
    rw [e5]; simp only [j1s,tlW,q9i]
   rw [← this] at q
   exact q _ (q0d hp')
 | again n hn =>
  cases I with
  | @tup a xs _ ea l r =>
  obtain⟨w0,us,rfl,z0,rr0⟩:=IsL.un r
  obtain rfl:=Is.vstr z0
  obtain⟨w1,us,rfl,z1,rr1⟩:=IsL.un rr0
  obtain rfl:=Is.vstr z1
  obtain rfl:=IsL.un0 rr1
  refine⟨_,rfl,a,_,_,.str "again",rfl,rfl,SqT.of ea,q0k (j:=0) rfl,rfl,_,rfl,?_⟩
  rw [no (by decide +kernel)]
  refine q1a ⟨_,rfl,a,_,_,.str "again",rfl,rfl,SqT.of ea,q0k (j:=0) rfl,rfl,_,rfl,?_⟩
  rw [yes]
  have l5:("again " : Str).length=6:=by decide +kernel
  refine q1f ⟨_,rfl,a,_,_,.str n,rfl,rfl,SqT.of ea,q0k (j:=1) rfl,_,_,rfl,rfl,?_,?_⟩
  ·rw [l5,sizeLine_eq]; omega
  ·have:("again " ++ n:Str)=J ["again",n]:=by
    rw [show ("again " : Str) = "again" ++ " " by decide +kernel]; rfl
   rw [← this] at q
   exact q _ (q1h.refl _)
 | turn n i hn =>
  cases I with
  | @tup a xs _ ea l r =>
  obtain⟨w0,us,rfl,z0,rr0⟩:=IsL.un r
  obtain rfl:=Is.vstr z0
  obtain⟨w1,us,rfl,z1,rr1⟩:=IsL.un rr0
  obtain rfl:=Is.vstr z1
  obtain⟨w2,us,rfl,z2,rr2⟩:=IsL.un rr1
  obtain rfl:=Is.vint z2
  obtain rfl:=IsL.un0 rr2
  have h6:S6 i:=by
   have:(true && (true && (decide (i.natAbs < 10 ^ 60) && true)))=true:=hs
   rw [Bool.true_and,Bool.true_and,Bool.and_true] at this
   exact of_decide_eq_true (p:=i.natAbs < 10 ^ 60) this
  have hf:=j3k h6
  refine⟨_,rfl,a,_,_,.str "turn",rfl,rfl,SqT.of ea,q0k (j:=0) rfl,rfl,_,rfl,?_⟩
  rw [no (by decide +kernel)]
  refine q1a ⟨_,rfl,a,_,_,.str "turn",rfl,rfl,SqT.of ea,q0k (j:=0) rfl,rfl,_,rfl,?_⟩
  rw [no (by decide +kernel)]
  refine q1a ⟨_,rfl,a,_,_,.str "turn",rfl,rfl,SqT.of ea,q0k (j:=0) rfl,rfl,_,rfl,?_⟩
  rw [yes]
  have l5:("turn " : Str).length=5:=by decide +kernel
  refine q1f ⟨_,rfl,a,_,_,.str n,rfl,rfl,SqT.of ea,q0k (j:=1) rfl,_,_,rfl,rfl,?_,_,_,rfl,rfl,?_,_,rfl,a,_,_,.int i,rfl,rfl,SqT.of ea,q0k (j:=2) rfl,i,rfl,q9c h6,_,_,rfl,rfl,?_,?_⟩
  ·rw [l5,sizeLine_eq]; omega
  ·simp only [q0v,l5,h1,sizeLine_eq]; omega
  ·simp only [q0v,l5,h1,sizeLine_eq]
   show _+(q1d i).length≤_
   omega
  ·have:("turn " ++ n ++ " " ++ q1d i:Str)=J ["turn",n,q1d i]:=by
    rw [show ("turn " : Str) = "turn" ++ " " by decide +kernel,j1s,show tlW [n,q1d i] = " " ++ n++(" " ++ q1d i++("" : Str)) from rfl,q8z]; simp only [q9i]
   rw [← this] at q
   exact q _ (q1h.refl _)
 | move i ns nl =>
  cases I with
  | @tup a xs _ ea l r =>
  obtain⟨w0,us,rfl,z0,rr0⟩:=IsL.un r
  obtain rfl:=Is.vstr z0
  obtain⟨w1,us,rfl,z1,rr1⟩:=IsL.un rr0
  obtain rfl:=Is.vint z1
  obtain⟨w2,us,rfl,z2,rr2⟩:=IsL.un rr1
  obtain rfl:=IsL.un0 rr2
  obtain⟨b,vs,rfl,eb,lb,rb⟩:=Is.vtup z2
  obtain rfl:=q7q rb
  have hs2:(true && (decide (i.natAbs < 10 ^ 60) && (smallL 60 (ns.map D.int) && true)))=true:=hs
  rw [Bool.true_and,Bool.and_true,Bool.and_eq_true] at hs2
  have h6i:S6 i:=of_decide_eq_true (p:=i.natAbs < 10 ^ 60) hs2.1
  have h6:=x3w hs2.2
  have hf:=j3k h6i
  have hL:=q9o (L:=61) (z2i h6)
  rw [List.length_map] at hL
  refine⟨_,rfl,a,_,_,.str "move",rfl,rfl,SqT.of ea,q0k (j:=0) rfl,rfl,_,rfl,?_⟩
  rw [no (by decide +kernel)]
  refine q1a ⟨_,rfl,a,_,_,.str "move",rfl,rfl,SqT.of ea,q0k (j:=0) rfl,rfl,_,rfl,?_⟩
  rw [no (by decide +kernel)]
  refine q1a ⟨_,rfl,a,_,_,.str "move",rfl,rfl,SqT.of ea,q0k (j:=0) rfl,rfl,_,rfl,?_⟩
  rw [no (by decide +kernel)]
  refine q1a ⟨_,rfl,a,_,_,.str "move",rfl,rfl,SqT.of ea,q0k (j:=0) rfl,rfl,_,rfl,?_⟩
  rw [yes]
  have l5:("move " : Str).length=5:=by decide +kernel
  refine q1f ⟨_,rfl,a,_,_,.int i,rfl,rfl,SqT.of ea,q0k (j:=1) rfl,i,rfl,q9c h6i,_,_,rfl,rfl,?_,_,rfl,a,_,_,.ref b,rfl,rfl,SqT.of ea,q0k (j:=2) rfl,b,ns,rfl,SqT.of eb,by omega,h6,_,_,rfl,rfl,?_,?_⟩
  ·rw [l5,sizeLine_eq]
   show 5+(q1d i).length≤_
   omega
  ·simp only [q0v,l5,sizeLine_eq]
   show 5+(q1d i).length+_≤_
   omega
  ·have:("move " ++ q1d i++tlW (ns.map q1d):Str)=J ("move" :: q1d i::ns.map q1d):=by
    rw [show ("move " : Str) = "move" ++ " " by decide +kernel]; simp only [j1s,tlW,q9i]
   rw [← this] at q
   exact q _ (q1h.refl _)
end
end K1
namespace K1
open PySem L2 Kp Kz
noncomputable def lnW:List Str→Str
 | [] => ""
 | r::rs=>r ++ "\n" ++ lnW rs
theorem z4i:∀ rs:List Str,Str.join "\n" (rs++[("" : Str)])=lnW rs
 | []=>rfl
 | [r]=>by
  show r ++ "\n" ++ ("" : Str)=r ++ "\n" ++ ("" : Str)
  rfl
 | r::s::rs=>by
  show r ++ "\n" ++ Str.join "\n" ((s::rs)++[("" : Str)])=r ++ "\n" ++ lnW (s::rs)
  rw [z4i (s::rs)]
theorem x9g:∀ (rs:List Str) (r:Str),lnW (rs++[r])=lnW rs++r ++ "\n"
 | [],r=>by
  show r ++ "\n" ++ ("" : Str)=("" : Str)++r ++ "\n"
  rw [q8z,show (("" : Str)++r)=r by show (⟨#[]++r.cps⟩:Str)=r; rw [Array.empty_append]]
 | s::rs,r=>by
  show s ++ "\n" ++ lnW (rs++[r])=s ++ "\n" ++ lnW rs++r ++ "\n"
  rw [x9g rs r]
  simp only [q9i]
theorem z4k {L:Nat}:∀ {ws:List Str},(∀ w∈ws,w.length≤L)→(lnW ws).length≤ws.length*(L+1)
 | [],_=>Nat.zero_le _
 | w::ws,h=>by
  have h1:=h w List.mem_cons_self
  have h2:=z4k (ws:=ws) fun x hx=>h x (List.mem_cons_of_mem _ hx)
  show (w ++ "\n" ++ lnW ws).length≤(ws.length+1)*(L+1)
  rw [q0v,q0v,show ("\n" : Str).length=1 by decide +kernel,Nat.succ_mul]
  omega
section
variable {P:Program} {w:World} {K:Frag} {mg:Str→Option Value} {base:Heap}
noncomputable def j0t:Sp:=fun vs H Q _=>∃ (B:Nat) (v:V) (c:Int) (ss:List Int) (es:List D),vs=[v]∧Is B H v (.tup [.int c,.tup (ss.map D.int),.tup es])∧SchR c ss es∧∀ H',q1h H H'→Q (.str (Str.join "\n" (q2m c ss es++[("" : Str)]))) H'
theorem z6x:FnScope ["_law_schedule_here", "_law_found", "_law_step_here"] ["_law_schedule_here"] (q0e q5l):=fSc
theorem j2c {f:Addr} {fd:FuncData} (F:Fun K "_law_written" "_law_written" q5l f fd) (T:Txt mg) (CN:Cal P w K mg base "_law_numbers" 1 ["_law_row_here"] (z6l K)) (CR:Cal P w K mg base "_law_row" 2 ["_law_step_here"] j0a):FnOk P w K mg base CX0 3 f fd ["_law_schedule_here"] j0t:=by
 refine F.ok z6x (fun vs H Q E ⟨_,_,_,_,_,e,_⟩=>by subst e; rfl) (fun _ A _ s H vs Q E hr h=>?_)
 obtain⟨B,v,c,ss,es,rfl,I,R,q⟩:=h
 have r1:=hr.mono (show 1≤2 by decide)
 refine⟨_,@q0j _ _ _ _ _ (q0y (i:=1) z6x.nd (by rfl) (by exact Or.inl rfl) (q0p q0z (q0p q0z (q0p q0z q0q (q1q q5c (by rfl) T.str q9k (q0o (q1i q2q (pv 0) q0b q3t) q0a))) (q0s CN r1 (q0o (q1i q2q (pv 0) q0b q3t) q0a))) q0q))
  (@q0j _ _ _ _ _ (q7x PassesOwn.never (by rfl) (x2n (q1i q2q (pv 0) q0b q3t)) (q1x (i:=2) z6x.nd (by rfl) (by exact Or.inl rfl))
   (@q0m _ _ _ (q0y (i:=1) z6x.nd (by rfl) (by exact Or.inl rfl) (q0p q0z (q0p q0z (pv 1) (q0s CR hr (q1c (pv 2) q0a))) q0q))))
  (@q0m _ _ _ (q0g (pv 1)))),?_⟩
 have hrl:=x2g R
 have hrn:(q2m c ss es).length=es.length+1:=by unfold q2m; rw [List.length_cons,List.length_map]
 have few:=R.few
 rw [z4i] at q
 have hh:("room " ++ q1d c++tlW (ss.map q1d) ++ "\n" : Str)=lnW ((q2m c ss es).take 1):=by
  show _=J (("room" : Str)::(q1d c::ss.map q1d)) ++ "\n" ++ ("" : Str)
  rw [show ("room " : Str) = "room" ++ " " by decide +kernel,q8z]
  simp only [j1s,tlW,q9i]
 have l1:("\n" : Str).length=1:=by decide +kernel
 have l5:("room " : Str).length=5:=by decide +kernel
 have c1:=R.c1
 have c9:=R.c9
 have c6:S6 c:=S6.low (by omega) (by omega)
 have hfc:=j3k c6
 obtain⟨ns',e',h9,_,hn⟩:=q3s R.se
 have en:ss=ns':=by
  have:=D.tup.inj e'
  have h2:=congrArg q1z this
  rw [Kz.q2t,Kz.q2t] at h2
  exact h2
 subst en
 have hsb:=hn
 have s6:∀ n∈ss,S6 n:=fun n hn=>S6.low (by have:=hsb n hn; omega) (by have:=hsb n hn; omega)
 have hL:=q9o (L:=61) (z2i s6)
 rw [List.length_map] at hL
 cases I with
 | @tup a xs _ ea l r =>
 obtain⟨w0,us,rfl,z0,rr0⟩:=IsL.un r
 obtain rfl:=Is.vint z0
 obtain⟨w1,us,rfl,z1,rr1⟩:=IsL.un rr0
 obtain⟨w2,us,rfl,z2,rr2⟩:=IsL.un rr1
 obtain rfl:=IsL.un0 rr2
 obtain⟨b,vb,rfl,eb,lb,rb⟩:=Is.vtup z1
 obtain rfl:=q7q rb
 obtain⟨d,vd,rfl,ed,ld,rd⟩:=Is.vtup z2
 have hdl:vd.length=es.length:=rd.length
 refine⟨_,rfl,a,_,_,.int c,rfl,rfl,SqT.of ea,q0k (j:=0) rfl,c,rfl,q9c c6,_,_,rfl,rfl,?_,_,rfl,a,_,_,.ref b,rfl,rfl,SqT.of ea,q0k (j:=1) rfl,b,ss,rfl,SqT.of eb,by omega,s6,_,_,rfl,rfl,?_,_,_,rfl,rfl,?_,?_⟩
 ·rw [l5,sizeLine_eq]
  show 5+(q1d c).length≤_
  omega
 ·simp only [q0v,l5,sizeLine_eq]
  show 5+(q1d c).length+_≤_
  omega
 ·simp only [q0v,l5,l1,sizeLine_eq]
  show 5+(q1d c).length+_+1≤_
  omega
 refine⟨_,rfl,a,_,_,.ref d,rfl,rfl,SqT.of ea,q0k (j:=2) rfl,d,rfl,⟨_,SqT.of ed⟩,z5t (xs:=vd) (fun i σ H'=>∃ t,σ=[some (.ref a),some (.str (lnW ((q2m c ss es).take (i+1)))),t]∧q1h H H') ⟨none,?_,q1h.refl _⟩ ?_ ?_ ?_⟩
 ·rw [← hh]; rfl
 ·rintro i σ H' _ ⟨t,rfl,sH⟩
  exact SqT.of (sH _ _ ed)
 ·rintro i x σ H' hx ⟨t,rfl,sH⟩
  obtain⟨e,he,Ie⟩:=rd.get hx
  have hi:=(List.getElem?_eq_some_iff.mp he).1
  have hm:=List.mem_of_getElem? he
  have hrow:(q2m c ss es)[i+1]? = some (J (q3d e)):=by
   unfold q2m
   rw [List.getElem?_cons_succ,List.getElem?_map,he]; rfl
  have hl1:=hrl _ (List.mem_of_getElem? hrow)
  have hL2:=z4k (L:=1240) (ws:=(q2m c ss es).take (i+1)) fun w hw=>hrl w (List.mem_of_mem_take hw)
  have hL3:(lnW ((q2m c ss es).take (i+1))).length≤401*1241:=Nat.le_trans hL2 (Nat.mul_le_mul_right _ (by rw [List.length_take]; omega))
  refine⟨_,rfl,_,rfl,B,_,e,rfl,Ie.same sH,List.all_eq_true.mp R.st e hm,q1j.mp R.sm e hm,fun H2 s2=>⟨_,_,rfl,rfl,?_,_,_,rfl,rfl,?_,some x,?_,sH.trans s2⟩⟩
  ·rw [sizeLine_eq]; omega
  ·rw [q0v,l1,sizeLine_eq]; omega
  ·rw [List.take_add_one (i:=i+1),hrow,Option.toList_some,x9g]; rfl
 ·rintro σ H' ⟨t,rfl,sH⟩
  have:(q2m c ss es).take (vd.length+1)=q2m c ss es:=by rw [hdl,← hrn,List.take_length]
  rw [this]
  exact⟨_,rfl,q _ sH⟩
end
end K1
namespace Kp
open PySem L2
theorem z2q:∀ (k:Nat) (l:List Nat),l.length=k+1→l.all q7t=true→(l=[48]∨l.head? ≠ some 48)→∃ m,q8l m=l
 | 0,l,hl,ha,_=>by
  obtain⟨c,rfl⟩:=List.length_eq_one_iff.mp hl
  have hc:(decide (48≤c) && decide (c≤57))=true:=List.all_eq_true.mp ha c (by simp)
  simp only [Bool.and_eq_true,decide_eq_true_eq] at hc
  exact⟨c - 48,by rw [x1b (by omega)]; congr 1; omega⟩
 | k+1,l,hl,ha,hz=>by
  have hne:l≠[]:=fun z=>by rw [z] at hl; cases hl
  obtain⟨l',c,rfl⟩:∃ l' c,l=l'++[c]:=⟨l.dropLast,l.getLast hne,(List.dropLast_concat_getLast hne).symm⟩
  have hl':l'.length=k+1:=by rw [List.length_append] at hl; simp at hl; omega
  have hne':l'≠[]:=fun z=>by rw [z] at hl'; cases hl'
  rw [List.all_append,Bool.and_eq_true] at ha
  have hc:(decide (48≤c) && decide (c≤57))=true:=List.all_eq_true.mp ha.2 c (by simp)
  simp only [Bool.and_eq_true,decide_eq_true_eq] at hc
  have hh:l'.head? ≠ some 48:=by
   rcases hz with z | z
   ·have:=congrArg List.length z
    rw [List.length_append,hl'] at this
    simp at this
   ·rw [List.head?_append] at z
    cases hd:l'.head? with
    | none=>exact absurd (List.head?_eq_none_iff.mp hd) hne'
    | some x=>rw [hd] at z; exact z
  obtain⟨m,hm⟩:=z2q k l' hl' ha.1 (.inr hh)
  have h0:m≠0:=fun z=>by
   rw [z,x1b (by decide)] at hm
   rw [← hm] at hh
   exact hh rfl
  refine⟨10*m+(c - 48),?_⟩
  rw [x5n (by omega),show (10*m+(c - 48)) / 10=m by omega,show (10*m+(c - 48)) % 10=c - 48 by omega,hm]
  congr 2
  omega
theorem q8v {x:Str} (h:x8s x=true):∃ n:Int,x=q1d n∧n.natAbs < 10 ^ 60:=by
 unfold x8s at h
 simp only [Bool.and_eq_true,Bool.or_eq_true,decide_eq_true_eq,Bool.not_eq_true'] at h
 obtain⟨⟨h1,h60⟩,ha,hz⟩:=h
 have hlen:(cL (q0t x)).length=(q0t x).length:=Array.length_toList
 obtain⟨k,hk⟩:∃ k,(cL (q0t x)).length=k+1:=⟨(cL (q0t x)).length - 1,by omega⟩
 by_cases hm:Txt.startswith x "-" = true
 ·have hf:q0t x=Txt.slice x (some 1) none:=by unfold q0t; rw [if_pos hm]
  have hx0:(cL x).head? = some 45:=by
   rw [q4j q7c] at hm
   exact of_decide_eq_true hm
  have hxl:1≤x.length:=by
   have:(cL x).length=x.length:=Array.length_toList
   rw [← this]
   cases hc:cL x with
   | nil=>rw [hc] at hx0; cases hx0
   | cons a r=>simp
  have ht:cL (q0t x)=(cL x).tail:=by rw [hf]; exact q9w hxl
  have hn0:¬ x = "0" := fun z=>by
   rw [z] at hx0
   exact absurd hx0 (by decide +kernel)
  have hs0:(cL (q0t x)).head? ≠ some 48:=by
   rcases hz with z | z
   ·exact absurd z hn0
   ·rw [q4j q7p] at z
    exact of_decide_eq_false z
  obtain⟨m,e⟩:=z2q k _ hk ha (.inr hs0)
  have hm0:m≠0:=fun z=>by
   rw [z,x1b (by decide)] at e
   rw [← e] at hs0
   exact hs0 rfl
  have hlt:m < 10 ^ 60:=(q7m m (k:=60) (by decide)).mp (by rw [e,hlen]; exact h60)
  refine⟨-(m:Int),?_,by omega⟩
  apply q4a
  show cL x=z5v (-(m:Int))
  rw [q4z (by omega),show (-(m:Int)).natAbs=m by omega,e,ht]
  cases hc:cL x with
  | nil=>rw [hc] at hx0; cases hx0
  | cons a r =>
   rw [hc] at hx0
   cases hx0
   rfl
 ·have hf:q0t x=x:=by unfold q0t; rw [if_neg hm]
  rw [hf] at hk ha hz hlen h60
  have hs:cL x=[48]∨(cL x).head? ≠ some 48:=by
   rcases hz with z | z
   ·left
    rw [z]
    decide +kernel
   ·right
    rw [q4j q7p] at z
    exact of_decide_eq_false z
  obtain⟨m,e⟩:=z2q k _ hk ha hs
  have hlt:m < 10 ^ 60:=(q7m m (k:=60) (by decide)).mp (by rw [e,hlen]; exact h60)
  refine⟨(m:Int),?_,by simpa using hlt⟩
  apply q4a
  show cL x=z5v (m:Int)
  rw [q6g,e]
end Kp
namespace L2
open PySem PySem.Spec PyProof.Rows
theorem z3w {x:Str} {g:TG} {tb:TS} {D:Ends} {σ:St} {H:Hp} (Pv:Nat→St→Hp→Prop) (h0:Pv 0 σ H)
  (hs:∀ i c σ H,x.cps[i]? = some c→Pv i σ H→g (.str ⟨#[c]⟩) σ H fun σ2 H2=>tb { D with nx:=Pv (i+1),ct:=Pv (i+1),bk:=D.nx } σ2 H2) (hd:∀ σ H,Pv x.cps.size σ H→D.nx σ H) :
  ∃ W:Nat→Nat→St→Hp→Prop,(∃ m,W 0 m σ H)∧∀ i m σ H,W i m σ H →
   ((Its x).stop i H∧D.nx σ H)∨((Its x).go i H∧∃ N:St→Hp→Prop,(∀ σ' H',N σ' H'→∃ m',m' < m∧W (i+1) m' σ' H')∧∀ v H',(Its x).yld i H v H'→g v σ H' fun σ2 H2=>tb { D with nx:=N,ct:=N,bk:=D.nx } σ2 H2):=by
 refine⟨fun i m σ H=>m=x.cps.size - i∧i≤x.cps.size∧Pv i σ H,⟨x.cps.size,by simp,Nat.zero_le _,h0⟩,?_⟩
 rintro i m σ H ⟨rfl,hi,p⟩
 by_cases hlt:i < x.cps.size
 ·refine .inr ⟨hlt,Pv (i+1),fun σ' H' p'=>⟨x.cps.size - (i+1),by omega,rfl,hlt,p'⟩,fun v H' y=>?_⟩
  obtain⟨e,c,hc,rfl⟩:=y
  subst e
  exact hs i c σ _ hc p
 ·have e:i=x.cps.size:=by omega
  subst e
  exact .inl ⟨rfl,hd σ H p⟩
end L2
namespace Kp
open PySem L2
theorem j2o (c:Nat):(!(!(Builtin.Str.occurrences ("0123456789" : Str) ⟨#[c]⟩ 0 ("0123456789" : Str).length 1).isEmpty)) = !q7t c:=by
 rw [StrLaws.found_one,show ("0123456789" : Str).cps.toList=[48,49,50,51,52,53,54,55,56,57] by decide +kernel]
 congr 1
 unfold q7t
 rw [Bool.eq_iff_iff]
 simp only [decide_eq_true_eq,Bool.and_eq_true,List.mem_cons,List.not_mem_nil,or_false]
 omega
theorem j1z (c:Nat):(!(!(Builtin.Str.occurrences ("abcdefghijklmnopqrstuvwxyz" : Str) ⟨#[c]⟩ 0 ("abcdefghijklmnopqrstuvwxyz" : Str).length 1).isEmpty)) = !q4i c:=by
 rw [StrLaws.found_one,show ("abcdefghijklmnopqrstuvwxyz" : Str).cps.toList=[97,98,99,100,101,102,103,104,105,106,107,108,109,110,111,112,113,114,115,116,117,118,119,120,121,122] by decide +kernel]
 congr 1
 unfold q4i
 rw [Bool.eq_iff_iff]
 simp only [decide_eq_true_eq,Bool.and_eq_true,List.mem_cons,List.not_mem_nil,or_false]
 omega
noncomputable def inR:Option (Int × Int)→Int→Bool
 | none,_=>true
 | some (a,b),n=>decide (a≤n) && decide (n≤b)
noncomputable def j4b (x:Str):Int:=if h:x8s x=true then Classical.choose (q8v h) else 0
noncomputable def x3r (r:Option (Int × Int)) (x:Str):Option Int:=if x8s x=true∧inR r (j4b x)=true then some (j4b x) else none
noncomputable def x7i:Option Int→V
 | none=>.non
 | some n=>.int n
theorem x0w {n m:Int} (hn:n.natAbs < 10 ^ 60) (hm:m.natAbs < 10 ^ 60) (e:q1d n=q1d m):n=m:=by
 have up:∀ {k:Nat},k < 10 ^ 60→k < 10 ^ 600:=fun h=>Nat.lt_of_lt_of_le h (Nat.pow_le_pow_right (by decide) (by decide))
 have h1:=q6y (n:=n) (up hn)
 have h2:=q6y (n:=m) (up hm)
 rw [e,h2] at h1
 exact (Option.some.inj h1).symm
theorem x7z {n:Int} (hn:n.natAbs < 10 ^ 60):j4b (q1d n)=n:=by
 have hb:=x4g hn
 unfold j4b
 rw [dif_pos hb]
 obtain⟨e,h⟩:=Classical.choose_spec (q8v hb)
 exact (x0w hn h e).symm
theorem q7s {r:Option (Int × Int)} {x:Str} {n:Int}:x3r r x=some n↔x=q1d n∧n.natAbs < 10 ^ 60∧inR r n=true:=by
 unfold x3r
 constructor
 ·intro h
  by_cases c:x8s x=true∧inR r (j4b x)=true
  ·rw [if_pos c] at h
   cases h
   obtain⟨m,rfl,hm⟩:=q8v c.1
   rw [x7z hm] at c ⊢
   exact⟨rfl,hm,c.2⟩
  ·rw [if_neg c] at h; cases h
 ·rintro⟨rfl,hn,hr⟩
  rw [x7z hn,if_pos ⟨x4g hn,hr⟩]
end Kp
namespace Kp
open PySem PySem.Builtin PySem.Builtin.Str L2
theorem x2b {x:Str} {lo hi:Option Int} {a b:Nat} (e:strSliceIndices lo hi 1 x.length=strSliceIndices (some ((a:Nat):Int)) (some ((b:Nat):Int)) 1 x.length) (hab:a≤b) (hb:b≤x.length):cL (Txt.slice x lo hi)=((cL x).drop a).take (b - a):=by
 have hp:=StrLaws.sliced_plain x hab hb
 have hl:(strSliceIndices lo hi 1 x.length).length=b - a:=by
  rw [e,StrLaws.strSliceIndices_plain hab hb]
  simp
 have hx:(cL x).length=x.length:=Array.length_toList
 unfold Txt.slice
 rw [hl]
 by_cases hw:b - a=x.length
 ·have ha:a=0:=by omega
  have hbl:b=x.length:=by omega
  subst ha
  rw [if_pos (by simp [hw]),List.drop_zero,List.take_of_length_le (by omega)]
 ·rw [if_neg (by simp; omega),e,hp]
  rfl
theorem x9y {x:Str} {n:Nat} (h:n≤x.length):cL (Txt.slice x none (some (n:Int)))=(cL x).take n:=by
 have e:strSliceIndices none (some (n:Int)) 1 x.length=strSliceIndices (some ((0:Nat):Int)) (some ((n:Nat):Int)) 1 x.length:=by
  have e0:Max.max 0 (Min.min (0:Int) (x.length:Int))=0:=by omega
  unfold strSliceIndices sliceRange
  simp [e0]
 rw [x2b e (Nat.zero_le _) h]
 simp
theorem z0k {x:Str} {n:Nat} (h:n≤x.length):cL (Txt.slice x (some (n:Int)) none)=(cL x).drop n:=by
 have e:strSliceIndices (some (n:Int)) none 1 x.length=strSliceIndices (some ((n:Nat):Int)) (some ((x.length:Nat):Int)) 1 x.length:=by
  have e1:Max.max 0 (Min.min (if (x.length:Int) < 0 then (x.length:Int)+(x.length:Int) else (x.length:Int)) (x.length:Int))=(x.length:Int):=by rw [if_neg (by omega)]; omega
  unfold strSliceIndices sliceRange
  simp [e1]
 have hx:(cL x).length=x.length:=Array.length_toList
 rw [x2b e h (Nat.le_refl _),List.take_of_length_le (by rw [List.length_drop]; omega)]
end Kp
namespace K1
open PySem L2 Kp Kz
section
variable {P:Program} {w:World} {K:Frag} {mg:Str→Option Value} {base:Heap}
noncomputable def z9j:Sp:=fun vs H Q _=>∃ (x:Str) (lo hi:V) (r:Option (Int × Int)),vs=[.str x,lo,hi]∧x.length≤100000∧((r=none∧lo=.non)∨∃ a b,r=some (a,b)∧lo=.int a∧hi=.int b)∧Q (x7i (x3r r x)) H
noncomputable def j6t:TS:=fun D σ H=>∃ (x:Str) (lo hi:V),σ=[some (.str x),some lo,some hi,some (.str x),none,none]∧x.length≤100000∧((q0t x).length≤x.length→D.nx [some (.str x),some lo,some hi,some (.str (q0t x)),none,none] H)
structure LnRest (x:Str) (lo hi:V) (r:Option (Int × Int)):Prop where
 hx:x.length≤100000
 hfl:(q0t x).length≤x.length
 h1:1≤(q0t x).length
 h60:(q0t x).length≤60
 hst:(decide (x = "0") || !Txt.startswith (q0t x) "0")=true
 hb:(r=none∧lo=.non)∨∃ a b,r=some (a,b)∧lo=.int a∧hi=.int b
noncomputable def j8a:TS:=fun D σ H=>∃ (x:Str) (lo hi:V) (r:Option (Int × Int)),σ=[some (.str x),some lo,some hi,some (.str (q0t x)),none,none]∧LnRest x lo hi r∧D.rt (x7i (x3r r x)) H
theorem PSs.weak6 {X:Cx} {st:List Stmt} {t t':TS} (h:PSs X st t) (w:∀ D σ H,t' D σ H→t D σ H):PSs X st t':=fun pins s σ H D I q=>h pins s σ H D I (w D σ H q)
theorem j4m:FnScope ["_law_word", "_law_low", "_law_high", "_law_figures", "_law_sign", "_law_number_here"] ["_law_word", "_law_low", "_law_high"] (q0e q6m):=fSc
theorem z2l {x:Str}:(Txt.slice x none (some 1) = "-")↔Txt.startswith x "-" = true:=by
 rw [q4j q7c,decide_eq_true_eq]
 have hc:∀ {y:Str},y = "-" ↔ cL y=[45]:=fun {y}=>⟨fun e=>by rw [e]; decide +kernel,fun e=>q4a (show cL y=_ by rw [e]; decide +kernel)⟩
 rw [hc]
 have ly:(cL x).length=x.length:=Array.length_toList
 cases h:cL x with
 | nil =>
  have h0:x.length=0:=by rw [← ly,h]; rfl
  have:(Txt.slice x none (some 1)).length≤x.length:=Txt.slice_le x none (some 1)
  have l2:(cL (Txt.slice x none (some 1))).length=(Txt.slice x none (some 1)).length:=Array.length_toList
  constructor
  ·intro e; rw [e] at l2; simp at l2; omega
  ·intro e; cases e
 | cons a r =>
  have:=x9y (x:=x) (n:=1) (by rw [← ly,h]; simp)
  rw [show ((1:Nat):Int)=1 from rfl] at this
  rw [this,h]
  simp
theorem j6s {f:Addr} {fd:FuncData} (F:Fun K "_law_number" "_law_number" q6m f fd) (T:Txt mg):FnOk P w K mg base CX0 1 f fd ["_law_word", "_law_low", "_law_high"] z9j:=by
 refine F.ok j4m (fun vs H Q E ⟨_,_,_,_,e,_⟩=>by subst e; rfl) (fun _ A _ s H vs Q E hr h=>?_)
 obtain⟨x,lo,hi,r,rfl,hx,hb,q⟩:=h
 refine⟨_,@q0j _ _ _ _ _ (q0y (i:=3) j4m.nd (by rfl) (by exact Or.inl rfl) (pv 0))
  (@q0j _ _ _ _ _ (PS.weak6 (t':=j6t) (q1e (q0f q1s (q1g q7v (pv 0) q1p (q1m q0b)) q0q (q0i _)) (@q0m _ _ _ (q0y (i:=3) j4m.nd (by rfl) (by exact Or.inl rfl) (q1g q7v (pv 0) (q1m q0b) q1p))) q0h) ?w1)
  (@q0j _ _ _ _ _ (q1e (PW.pt (q5j (q0f q1s (pv 3) q0q (q0i _)) (q5j (q0f z0i (q0n q2v (by rfl) T.len PySem.boot_len (q1c (pv 3) q0a)) q0b (q0i _)) (q5j (q0f q1s (pv 0) q0q (q0i _)) (q5b (PW.pt (q4x (q0f q1s (q1i x9x (pv 3) q0b q3t) q0q (q0i _)) (q4w (q0f z0i (q0n q2v (by rfl) T.len PySem.boot_len (q1c (pv 3) q0a)) q0b (q0i _)))))))))) (@q0m _ _ _ (q0g q1t)) q0h)
  (PSs.weak6 (t':=j8a) (@q0j _ _ _ _ _ (q7x PassesOwn.never (by rfl) (x9i (pv 3)) (q1x (i:=4) j4m.nd (by rfl) (by exact Or.inl rfl)) (@q0m _ _ _ (q1e (q0f x0k (pv 4) q0q rfl) (@q0m _ _ _ (q0g q1t)) q0h)))
  (@q0j _ _ _ _ _ (q0y (i:=5) j4m.nd (by rfl) (by exact Or.inl rfl) (q1q x2j (by rfl) T.int x1a (q1c (pv 0) q0a)))
  (@q0j _ _ _ _ _ (q1e (PW.pt (q4x (q0f q9z (pv 1) q1t (q0i _)) (q4w (PW.pt (q5j (q0f x2p (pv 5) (pv 1) (q0i _)) (q5b (q0f z0i (pv 5) (pv 2) (q0i _)))))))) (@q0m _ _ _ (q0g q1t)) q0h)
  (@q0m _ _ _ (q0g (pv 5)))))) ?w2))),?_⟩
 case w2 =>
  rintro D σ H ⟨x,lo,hi,r,rfl,⟨hx,hfl,h1l,h60,hst,hb⟩,q⟩
  have hdef:x8s x=((decide (1≤(q0t x).length) && decide ((q0t x).length≤60)) && ((q0t x).cps.toList.all q7t && (decide (x = "0") || !Txt.startswith (q0t x) "0"))):=rfl
  rw [decide_eq_true h1l,decide_eq_true h60,hst,Bool.and_true,Bool.true_and,Bool.and_true] at hdef
  refine⟨_,rfl,_,rfl,z3w (fun i σ H'=>∃ t,σ=[some (.str x),some lo,some hi,some (.str (q0t x)),t,none]∧H'=H∧∀ j c,j < i→(q0t x).cps[j]? = some c→q7t c=true) ⟨none,rfl,rfl,fun j c hj=>absurd hj (Nat.not_lt_zero _)⟩ ?_ ?_⟩
  ·rintro i c σ H' hc ⟨t,rfl,rfl,hi'⟩
   refine⟨_,rfl,_,_,rfl,rfl,_,rfl,?_⟩
   rw [j2o]
   cases hd:q7t c with
   | false =>
    refine q1f ?_
    have hf:x8s x=false:=by
     rw [hdef,List.all_eq_false]
     exact⟨c,Array.mem_toList_iff.mpr (Array.mem_of_getElem? hc),by rw [hd]; exact Bool.false_ne_true⟩
    have:x3r r x=none:=if_neg fun z=>by rw [hf] at z; exact absurd z.1 Bool.false_ne_true
    rw [this] at q
    exact q
   | true =>
    refine q1a ⟨_,rfl,rfl,fun j c' hj hc'=>?_⟩
    rcases Nat.lt_succ_iff_lt_or_eq.mp hj with z | z
    ·exact hi' j c' z hc'
    ·subst z
     rw [hc] at hc'
     cases hc'
     exact hd
  ·rintro σ H' ⟨t,rfl,rfl,hall⟩
   have hn:x8s x=true:=by
    rw [hdef,List.all_eq_true]
    intro c hc
    obtain⟨j,hj⟩:=Array.mem_iff_getElem?.mp (Array.mem_toList_iff.mp hc)
    exact hall j c (Array.getElem?_eq_some_iff.mp hj).1 hj
   obtain⟨n,rfl,hn60⟩:=q8v hn
   have hlen:=q7l (n:=n) (k:=60) (by decide) hn60
   have q1:∀ b,inR r n=b→D.rt (if b=true then .int n else .non) H':=fun b e=>by
    have:x3r r (q1d n)=if b=true then some n else none:=by
     unfold x3r
     rw [x7z hn60,e,hn]
     simp
    rw [this] at q
    cases b
    ·exact q
    ·exact q
   refine⟨_,rfl,q1d n,n,rfl,q6y (Nat.lt_of_lt_of_le hn60 (Nat.pow_le_pow_right (by decide) (by decide))),by omega,_,rfl,rfl,_,rfl,?_⟩
   rcases hb with ⟨rfl,rfl⟩ | ⟨a,b,rfl,rfl,rfl⟩
   ·exact q1a (q1a ⟨_,rfl,q1 true rfl⟩)
   ·refine q1f ⟨_,rfl,_,rfl,_,_,rfl,rfl,_,rfl,?_⟩
    by_cases hlo:n < a
    ·rw [decide_eq_true hlo]
     exact q1f (q1f (q1 false (by show (decide (a≤n) && decide (n≤b))=false; rw [decide_eq_false (by omega)]; rfl)))
    rw [decide_eq_false hlo]
    refine q1a ⟨_,rfl,_,rfl,_,_,rfl,rfl,_,rfl,?_⟩
    by_cases hhi:b < n
    ·rw [decide_eq_true hhi]
     exact q1f (q1 false (by show (decide (a≤n) && decide (n≤b))=false; rw [decide_eq_false (show ¬ n≤b by omega),Bool.and_false]))
    rw [decide_eq_false hhi]
    exact q1a ⟨_,rfl,q1 true (by show (decide (a≤n) && decide (n≤b))=true; rw [decide_eq_true (show a≤n by omega),decide_eq_true (show n≤b by omega)]; rfl)⟩
 case w1 =>
  rintro D σ H ⟨x,lo,hi,rfl,hx,q⟩
  refine⟨_,rfl,1,rfl,x,rfl,by rw [sizeLine_eq]; omega,fun y hy e=>⟨rfl,_,rfl,?_⟩⟩
  have hiff:=z2l (x:=x)
  rw [← e] at hiff
  cases hs:Txt.startswith x "-" with
  | true =>
   rw [hs] at hiff
   rw [decide_eq_true (show V.str y=V.str "-" by rw [hiff.mpr rfl])]
   refine q1f ⟨_,rfl,1,rfl,x,rfl,by rw [sizeLine_eq]; omega,fun z hz ez=>?_⟩
   have e2:q0t x=z:=by unfold q0t; rw [hs,if_pos rfl,ez]
   rw [e2] at q
   exact q hz
  | false =>
   rw [hs] at hiff
   rw [decide_eq_false (fun z=>absurd (hiff.mp (V.str.inj z)) Bool.false_ne_true)]
   have e2:q0t x=x:=by unfold q0t; rw [hs,if_neg Bool.false_ne_true]
   rw [e2] at q
   exact q1a (q (Nat.le_refl _))
 refine⟨_,rfl,x,lo,hi,rfl,hx,fun hfl=>?_⟩
 have hno:x8s x=false→Q .non H:=fun e=>by
  have:x3r r x=none:=if_neg fun z=>by rw [e] at z; exact absurd z.1 Bool.false_ne_true
  rw [this] at q
  exact q
 have hdef:x8s x=((decide (1≤(q0t x).length) && decide ((q0t x).length≤60)) && ((q0t x).cps.toList.all q7t && (decide (x = "0") || !Txt.startswith (q0t x) "0"))):=rfl
 have ly:(cL (q0t x)).length=(q0t x).length:=Array.length_toList
 refine⟨_,rfl,rfl,_,rfl,?_⟩
 by_cases h1:q0t x = ""
 ·rw [decide_eq_true (show V.str (q0t x)=V.str "" by rw [h1])]
  refine q1f (q1f (hno ?_))
  rw [hdef,decide_eq_false (by rw [h1]; decide +kernel)]; rfl
 have h1l:1≤(q0t x).length:=by
  rcases Nat.eq_zero_or_pos (q0t x).length with z | z
  ·refine absurd (q4a ?_) h1
   show cL (q0t x)=cL ""
   rw [z] at ly
   rw [List.length_eq_zero_iff.mp ly]; rfl
  ·exact z
 rw [decide_eq_false (fun z=>h1 (V.str.inj z))]
 refine q1a ⟨_,rfl,_,rfl,by rw [sizeLine_eq]; omega,_,_,rfl,rfl,_,rfl,?_⟩
 by_cases h60:60 < (q0t x).length
 ·rw [decide_eq_true (show (60:Int) < ((q0t x).length:Int) by omega)]
  refine q1f (q1f (hno ?_))
  rw [hdef,decide_eq_false (show ¬ (q0t x).length≤60 by omega),Bool.and_false]; rfl
 rw [decide_eq_false (show ¬ (60:Int) < ((q0t x).length:Int) by omega)]
 refine q1a ⟨_,rfl,rfl,_,rfl,?_⟩
 by_cases hm0:x = "-0"
 ·rw [decide_eq_true (show V.str x=V.str "-0" by rw [hm0])]
  exact q1f (q1f (hno (by rw [hm0]; decide +kernel)))
 rw [decide_eq_false (fun z=>hm0 (V.str.inj z))]
 obtain⟨c0,r0,hc0⟩:∃ c r,cL (q0t x)=c::r:=by
  cases h:cL (q0t x) with
  | nil=>rw [h] at ly; simp at ly; omega
  | cons c r=>exact⟨c,r,rfl⟩
 have hst:Txt.startswith (q0t x) "0" = decide (c0=48):=by
  rw [q4j q7p,hc0,Bool.eq_iff_iff,decide_eq_true_eq,decide_eq_true_eq]
  simp
 refine q1a ⟨_,rfl,_,_,c0,rfl,rfl,by rw [sizeLine_eq]; omega,q0k (j:=0) (by rw [show (q0t x).cps.toList=cL (q0t x) from rfl,hc0]; rfl),rfl,_,rfl,?_⟩
 have hstep:¬ (c0=48∧1 < (q0t x).length)→(decide (x = "0") || !Txt.startswith (q0t x) "0")=true:=fun hz=>by
  rw [hst]
  by_cases h48:c0=48
  ·have hl1:(q0t x).length=1:=by
    rcases Nat.lt_or_ge 1 (q0t x).length with z | z
    ·exact absurd ⟨h48,z⟩ hz
    ·omega
   have hf0:q0t x = "0" := q4a (by
    show cL (q0t x)=cL "0"
    rw [hc0] at ly ⊢
    rw [List.length_cons] at ly
    rw [List.length_eq_zero_iff.mp (show r0.length=0 by omega),h48]
    decide +kernel)
   have hx0:x = "0" := by
    cases hs:Txt.startswith x "-" with
    | false =>
     have e2:q0t x=x:=by unfold q0t; rw [hs,if_neg Bool.false_ne_true]
     rw [← e2]; exact hf0
    | true =>
     refine absurd (q4a ?_) hm0
     show cL x=cL "-0"
     have lx:(cL x).length=x.length:=Array.length_toList
     rw [q4j q7c,decide_eq_true_eq] at hs
     have ht:cL (q0t x)=(cL x).tail:=by
      unfold q0t
      rw [q4j q7c,decide_eq_true hs,if_pos rfl]
      refine q9w ?_
      cases hcx:cL x with
      | nil=>rw [hcx] at hs; cases hs
      | cons a r=>rw [hcx] at lx; simp at lx; omega
     cases hcx:cL x with
     | nil=>rw [hcx] at hs; cases hs
     | cons a r =>
      rw [hcx] at hs ht
      cases hs
      rw [hf0] at ht
      rw [show r=cL "0" from ht.symm]
      decide +kernel
   rw [decide_eq_true hx0]; rfl
  ·rw [decide_eq_false h48,Bool.not_false,Bool.or_true]
 have hrest:¬ (c0=48∧1 < (q0t x).length)→LnRest x lo hi r:=fun hz=>⟨hx,hfl,h1l,by omega,hstep hz,hb⟩
 by_cases h48:c0=48
 ·rw [decide_eq_true (show V.str ⟨#[c0]⟩=V.str "0" by rw [h48]; rfl)]
  refine q1f ⟨_,rfl,_,rfl,by rw [sizeLine_eq]; omega,_,_,rfl,rfl,_,rfl,?_⟩
  by_cases hl:1 < (q0t x).length
  ·rw [decide_eq_true (show (1:Int) < ((q0t x).length:Int) by omega)]
   refine q1f (hno ?_)
   rw [hdef,hst,decide_eq_true h48,decide_eq_false (show ¬ x = "0" from fun z=>by rw [z] at hl; exact absurd hl (by decide +kernel))]
   simp
  ·rw [decide_eq_false (show ¬ (1:Int) < ((q0t x).length:Int) by omega)]
   exact q1a ⟨x,lo,hi,r,rfl,hrest (fun z=>hl z.2),q⟩
 ·rw [decide_eq_false (show ¬ V.str ⟨#[c0]⟩=V.str "0" from fun z=>h48 (by
   have:=congrArg cL (V.str.inj z)
   rw [show cL ("0" : Str)=[48] by decide +kernel] at this
   exact (List.cons.inj this).1))]
  exact q1a (q1a ⟨x,lo,hi,r,rfl,hrest (fun z=>h48 z.1),q⟩)
end
end K1
namespace K1
open PySem L2 Kp Kz
theorem x7e:∀ {ns:List Int},q7a ns=true→ns.Pairwise (· < ·)
 | [],_=>.nil
 | [a],_=>by simp
 | a::b::r,h=>by
  rw [q7a,Bool.and_eq_true,decide_eq_true_eq] at h
  have ih:=x7e h.2
  refine List.pairwise_cons.mpr ⟨fun x hx=>?_,ih⟩
  rcases List.mem_cons.mp hx with rfl | hx
  ·exact h.1
  ·exact Int.lt_trans h.1 ((List.pairwise_cons.mp ih).1 x hx)
theorem x4x:∀ {ns:List Int} {l h:Int},ns.Pairwise (· < ·)→(∀ n∈ns,l≤n∧n≤h)→l≤h+1→(ns.length:Int)≤h+1 - l
 | [],l,h,_,_,hl=>by simp; omega
 | a::r,l,h,hp,hb,hl=>by
  have ha:=hb a (by simp)
  have:=x4x (l:=a+1) (h:=h) (List.pairwise_cons.mp hp).2 (fun n hn=>⟨by have:=(List.pairwise_cons.mp hp).1 n hn; omega,(hb n (List.mem_cons_of_mem _ hn)).2⟩) (by omega)
  rw [List.length_cons]
  omega
theorem x9e:∀ {ns ms:List Int},(∀ n∈ns,n.natAbs < 10 ^ 60)→(∀ n∈ms,n.natAbs < 10 ^ 60)→ns.map q1d=ms.map q1d→ns=ms
 | [],[],_,_,_=>rfl
 | [],_::_,_,_,h=>by cases h
 | _::_,[],_,_,h=>by cases h
 | n::ns,m::ms,h1,h2,h=>by
  rw [List.map_cons,List.map_cons] at h
  obtain⟨e1,e2⟩:=List.cons.inj h
  rw [x0w (h1 n (by simp)) (h2 m (by simp)) e1,x9e (fun x hx=>h1 x (List.mem_cons_of_mem _ hx)) (fun x hx=>h2 x (List.mem_cons_of_mem _ hx)) e2]
structure RisP (h:Int) (ns:List Int):Prop where
 inr:∀ n∈ns,0≤n∧n≤h
 sm:∀ n∈ns,n.natAbs < 10 ^ 60
 up:ns.Pairwise (· < ·)
theorem RisP.take {h:Int} {ns:List Int} (r:RisP h ns) (i:Nat):RisP h (ns.take i):=⟨fun n hn=>r.inr n (List.mem_of_mem_take hn),fun n hn=>r.sm n (List.mem_of_mem_take hn),r.up.sublist (List.take_sublist i ns)⟩
section
variable {P:Program} {w:World} {K:Frag} {mg:Str→Option Value} {base:Heap}
noncomputable def z6b:Sp:=fun vs H Q _=>∃ (x:Str),vs=[.str x]∧x.length≤100000∧Q (.bl (q1w (.str x))) H
theorem j7m:FnScope ["_law_word", "_law_sign"] ["_law_word"] (q0e q5n):=fSc
theorem j3o {f:Addr} {fd:FuncData} (F:Fun K "_law_is_name" "_law_is_name" q5n f fd) (T:Txt mg):FnOk P w K mg base CX0 1 f fd ["_law_word"] z6b:=by
 refine F.ok j7m (fun vs H Q E ⟨_,e,_⟩=>by subst e; rfl) (fun _ A _ s H vs Q E hr h=>?_)
 obtain⟨x,rfl,hx,q⟩:=h
 refine⟨_,@q0j _ _ _ _ _ (q1e (PW.pt (q5j (q0f x2p (q0n q2v (by rfl) T.len PySem.boot_len (q1c (pv 0) q0a)) q0b (q0i _)) (q5b (q0f z0i (q0n q2v (by rfl) T.len PySem.boot_len (q1c (pv 0) q0a)) q0b (q0i _))))) (@q0m _ _ _ (q0g x7c)) q0h)
  (@q0j _ _ _ _ _ (q7x PassesOwn.never (by rfl) (x9i (pv 0)) (q1x (i:=1) j7m.nd (by rfl) (by exact Or.inl rfl)) (@q0m _ _ _ (q1e (q0f x0k (pv 1) q0q rfl) (@q0m _ _ _ (q0g x7c)) q0h)))
  (@q0m _ _ _ (q0g x7c))),?_⟩
 have hdef:q1w (.str x)=((decide (1≤x.length) && decide (x.length≤8)) && x.cps.toList.all q4i):=rfl
 refine⟨_,rfl,x,rfl,by rw [sizeLine_eq]; omega,_,_,rfl,rfl,_,rfl,?_⟩
 by_cases h1:x.length < 1
 ·rw [decide_eq_true (show (x.length:Int) < 1 by omega)]
  rw [hdef,decide_eq_false (show ¬ 1≤x.length by omega)] at q
  exact q1f (q1f q)
 rw [decide_eq_false (show ¬ (x.length:Int) < 1 by omega)]
 refine q1a ⟨_,rfl,x,rfl,by rw [sizeLine_eq]; omega,_,_,rfl,rfl,_,rfl,?_⟩
 by_cases h8:8 < x.length
 ·rw [decide_eq_true (show (8:Int) < (x.length:Int) by omega)]
  rw [hdef,decide_eq_false (show ¬ x.length≤8 by omega),Bool.and_false] at q
  exact q1f q
 rw [decide_eq_false (show ¬ (8:Int) < (x.length:Int) by omega)]
 rw [hdef,decide_eq_true (show 1≤x.length by omega),decide_eq_true (show x.length≤8 by omega),Bool.true_and,Bool.true_and] at q
 refine q1a ⟨_,rfl,_,rfl,z3w (fun i σ H'=>∃ t,σ=[some (.str x),t]∧H'=H∧∀ j c,j < i→x.cps[j]? = some c→q4i c=true) ⟨none,rfl,rfl,fun j c hj=>absurd hj (Nat.not_lt_zero _)⟩ ?_ ?_⟩
 ·rintro i c σ H' hc ⟨t,rfl,rfl,hi'⟩
  refine⟨_,rfl,_,_,rfl,rfl,_,rfl,?_⟩
  rw [j1z]
  cases hd:q4i c with
  | false =>
   have:x.cps.toList.all q4i=false:=List.all_eq_false.mpr ⟨c,Array.mem_toList_iff.mpr (Array.mem_of_getElem? hc),by rw [hd]; exact Bool.false_ne_true⟩
   rw [this] at q
   exact q1f q
  | true =>
   refine q1a ⟨_,rfl,rfl,fun j c' hj hc'=>?_⟩
   rcases Nat.lt_succ_iff_lt_or_eq.mp hj with z | z
   ·exact hi' j c' z hc'
   ·subst z
    rw [hc] at hc'
    cases hc'
    exact hd
 ·rintro σ H' ⟨t,rfl,rfl,hall⟩
  have:x.cps.toList.all q4i=true:=List.all_eq_true.mpr fun c hc=>by
   obtain⟨j,hj⟩:=Array.mem_iff_getElem?.mp (Array.mem_toList_iff.mp hc)
   exact hall j c (Array.getElem?_eq_some_iff.mp hj).1 hj
  rw [this] at q
  exact q
noncomputable def z6a (K:Frag):Sp:=fun vs H Q _=>∃ (a:Addr) (ws:List Str) (h:Int),vs=[.ref a,.int h]∧SqL K H a (ws.map V.str)∧ws.length≤100000∧(∀ x∈ws,x.length≤100000)∧(∀ ns p H',RisP h ns→ns≠[]→ws=ns.map q1d→H' p=some (.tup (ns.map V.int))→q1h H H'→Q (.ref p) H')∧((∀ ns,RisP h ns→ns≠[]→ws=ns.map q1d→False)→∀ H',q1h H H'→Q .non H')
theorem j4s:FnScope ["_law_words", "_law_high", "_law_found", "_law_word", "_law_number_here"] ["_law_words", "_law_high"] (q0e q6d):=fSc
theorem j2f {f:Addr} {fd:FuncData} (F:Fun K "_law_rising" "_law_rising" q6d f fd) (T:Txt mg) (CN:Cal P w K mg base "_law_number" 1 ["_law_word", "_law_low", "_law_high"] z9j):FnOk P w K mg base CX0 2 f fd ["_law_words", "_law_high"] (z6a K):=by
 refine F.ok j4s (fun vs H Q E ⟨_,_,_,e,_⟩=>by subst e; rfl) (fun _ A _ s H vs Q E hr h=>?_)
 obtain⟨a,ws,h,rfl,hS,hwl,hxl,q,qn⟩:=h
 refine⟨_,@q0j _ _ _ _ _ (q0y (i:=2) j4s.nd (by rfl) (by exact Or.inl rfl) (q8w q0a))
  (@q0j _ _ _ _ _ (q7x PassesOwn.never (by rfl) (x1y (pv 0)) (q1x (i:=3) j4s.nd (by rfl) (by exact Or.inl rfl))
   (@q0j _ _ _ _ _ (q0y (i:=4) j4s.nd (by rfl) (by exact Or.inl rfl) (q0s CN hr (q1c (pv 3) (q3r q0b (q1c (pv 1) q0a)))))
   (@q0j _ _ _ _ _ (q1e (PW.pt (q5j (q0f q6s (pv 4) q1t (q0i _)) (q5b (PW.pt (q4x (q0f z0i (q0n q0l (by rfl) T.len PySem.boot_len (q1c (pv 2) q0a)) q0b (q0i _)) (q4w (q0f x0n (pv 4) (q1i q1b (pv 2) (q0p q8a (q0n q0l (by rfl) T.len PySem.boot_len (q1c (pv 2) q0a)) q0b) x7k) (q0i _)))))))) (@q0m _ _ _ (q0g q1t)) q0h)
   (@q0m _ _ _ (x0f (q6w PySem.F.plainAttrs_list PySem.F.slot_list_append PySem.F.type_list_append q3y (pv 2) (q1c (pv 4) q0a)))))))
  (@q0j _ _ _ _ _ (q1e (q0f q1s (q0n q0l (by rfl) T.len PySem.boot_len (q1c (pv 2) q0a)) q0b (q0i _)) (@q0m _ _ _ (q0g q1t)) q0h)
  (@q0m _ _ _ (q0g (q1q q1n (by rfl) T.tuple q1r (q1c (pv 2) q0a)))))),?_⟩
 refine⟨q3j (by show 0≤1000; decide),fun b hb=>?_⟩
 have s0:=q0d (o:=HO.lst []) hb
 refine⟨_,rfl,a,rfl,⟨_,SqL.same' hS s0⟩,x4n (xs:=ws.map V.str) (fun i σ H'=>∃ (ns:List Int) (t u:Option V),σ=[some (.ref a),some (.int h),some (.ref b),t,u]∧H' b=some (.lst (ns.map V.int))∧ns.length=i∧ws.take i=ns.map q1d∧RisP h ns∧q1h H H') ?_ ?_ ?_ ?_⟩
 ·exact⟨[],none,none,rfl,q0c,rfl,rfl,⟨fun n hn=>(List.not_mem_nil hn).elim,fun n hn=>(List.not_mem_nil hn).elim,.nil⟩,s0⟩
 ·rintro i σ H' _ ⟨ns,t,u,rfl,_,_,_,_,sH⟩
  exact SqL.same' hS sH
 ·rintro i x σ H' hx ⟨ns,t,u,rfl,hL,hi,ht,R,sH⟩
  rw [List.getElem?_map] at hx
  obtain⟨y,hy,rfl⟩:∃ y,ws[i]? = some y∧x=V.str y:=by
   cases e:ws[i]? with
   | none=>rw [e] at hx; cases hx
   | some y=>rw [e] at hx; exact⟨y,rfl,(Option.some.inj hx).symm⟩
  have hyi:=(List.getElem?_eq_some_iff.mp hy).1
  have none_of:(∀ n,y=q1d n→n.natAbs < 10 ^ 60→0≤n→n≤h→(∀ m∈ns,m < n)→False)→Q .non H':=fun hno=>qn (fun ns' R' _ e=>by
   have hl:ns'.length=ws.length:=by rw [e,List.length_map]
   have hi':i < ns'.length:=by omega
   have e1:ns'.take i=ns:=x9e (R'.take i).sm R.sm (by rw [← ht,e,List.map_take])
   have e2:y=q1d ns'[i]:=by
    rw [e,List.getElem?_map,List.getElem?_eq_getElem hi'] at hy
    exact (Option.some.inj hy).symm
   have hm:=List.getElem_mem hi'
   refine hno ns'[i] e2 (R'.sm _ hm) (R'.inr _ hm).1 (R'.inr _ hm).2 fun m hmm=>?_
   rw [← e1] at hmm
   obtain⟨j,hj,rfl⟩:=List.mem_iff_getElem.mp hmm
   rw [List.length_take] at hj
   rw [List.getElem_take]
   exact List.pairwise_iff_getElem.mp R'.up j i (by omega) hi' (by omega)) _ sH
  refine⟨_,rfl,_,rfl,y,_,_,some (0,h),rfl,hxl y (List.mem_of_getElem? hy),.inr ⟨_,_,rfl,rfl,rfl⟩,?_⟩
  cases hn:x3r (some (0,h)) y with
  | none =>
   refine⟨_,rfl,rfl,_,rfl,?_⟩
   rw [decide_eq_true (show x7i none=V.non from rfl)]
   refine q1f (q1f (none_of fun n e h60 h0 hh _=>?_))
   have:x3r (some (0,h)) y=some n:=q7s.mpr ⟨e,h60,by show (decide (0≤n) && decide (n≤h))=true; rw [decide_eq_true h0,decide_eq_true hh]; rfl⟩
   rw [hn] at this
   cases this
  | some n =>
   obtain⟨rfl,h60,hr'⟩:=q7s.mp hn
   have hr2:(decide (0≤n) && decide (n≤h))=true:=hr'
   rw [Bool.and_eq_true,decide_eq_true_eq,decide_eq_true_eq] at hr2
   have go:(∀ m∈ns,m < n)→∃ (ns':List Int) (t u:Option V),[some (V.ref a),some (.int h),some (.ref b),some (.str (q1d n)),some (.int n)]=[some (V.ref a),some (.int h),some (.ref b),t,u]∧upd H' b (HO.lst (ns.map V.int++[V.int n])) b=some (.lst (ns'.map V.int))∧ns'.length=i+1∧ws.take (i+1)=ns'.map q1d∧RisP h ns'∧q1h H (upd H' b (HO.lst (ns.map V.int++[V.int n]))):=fun hm=>by
    refine⟨ns++[n],_,_,rfl,by rw [List.map_append]; exact q0c,by rw [List.length_append,hi]; rfl,by rw [List.take_add_one,hy,ht,List.map_append]; rfl,⟨fun m hmm=>?_,fun m hmm=>?_,?_⟩,fun c o e=>?_⟩
    ·rcases List.mem_append.mp hmm with z | z
     ·exact R.inr m z
     ·rw [List.mem_singleton.mp z]; exact hr2
    ·rcases List.mem_append.mp hmm with z | z
     ·exact R.sm m z
     ·rw [List.mem_singleton.mp z]; exact h60
    ·exact List.pairwise_append.mpr ⟨R.up,by simp,fun x hx y hy=>by rw [List.mem_singleton.mp hy]; exact hm x hx⟩
    ·rw [q0r (fun z=>by rw [z,hb] at e; cases e)]; exact sH c o e
   have hln:(ns.map V.int).length+1≤sizeLine:=by rw [List.length_map,sizeLine_eq]; omega
   refine⟨_,rfl,rfl,_,rfl,?_⟩
   rw [decide_eq_false (show ¬ x7i (some n)=V.non from fun z=>by cases z)]
   refine q1a ⟨_,rfl,b,_,rfl,.inl (SqL.of hL),_,_,rfl,rfl,_,rfl,?_⟩
   rw [List.length_map]
   rcases List.eq_nil_or_concat ns with rfl | ⟨ns0,m,rfl⟩
   ·rw [decide_eq_false (show ¬ (0:Int) < (([]:List Int).length:Int) by decide)]
    exact q1a (q1a ⟨_,rfl,.inl ⟨rfl,_,SqL.of hL⟩,_,rfl,b,_,_,rfl,rfl,hL,hln,go fun m hm=>(List.not_mem_nil hm).elim⟩)
   ·have hl1:(ns0.concat m).length=ns0.length+1:=by rw [List.concat_eq_append,List.length_append]; rfl
    rw [decide_eq_true (show (0:Int) < ((ns0.concat m).length:Int) by omega)]
    have hat:atI ((ns0.concat m).map V.int) (((ns0.concat m).map V.int).length - 1:Int)=some (.int m):=by
     rw [List.length_map,hl1,show (((ns0.length+1:Nat):Int) - 1)=((ns0.length:Nat):Int) by omega]
     exact q0k (by rw [List.concat_eq_append,List.map_append,List.getElem?_append_right (by simp)]; simp)
    refine q1f ⟨_,rfl,_,rfl,_,rfl,b,_,rfl,.inl (SqL.of hL),_,_,rfl,rfl,b,_,_,.int m,rfl,rfl,SqL.of hL,hat,_,_,rfl,rfl,_,rfl,?_⟩
    by_cases hnm:n≤m
    ·rw [decide_eq_true hnm]
     refine q1f (none_of fun n' e h6' _ _ hmm=>?_)
     have:=x0w h60 h6' e
     have:=hmm m (by rw [List.concat_eq_append]; simp)
     omega
    ·rw [decide_eq_false hnm]
     refine q1a ⟨_,rfl,.inl ⟨rfl,_,SqL.of hL⟩,_,rfl,b,_,_,rfl,rfl,hL,hln,go fun k hk=>?_⟩
     have hup:=R.up
     rw [List.concat_eq_append] at hk hup
     rcases List.mem_append.mp hk with z | z
     ·have:=(List.pairwise_append.mp hup).2.2 k z m (by simp)
      omega
     ·rw [List.mem_singleton.mp z]; omega
 ·rintro σ H' ⟨ns,t,u,rfl,hL,hi,ht,R,sH⟩
  rw [List.length_map] at hi ht
  rw [List.take_length] at ht
  refine⟨_,rfl,b,_,rfl,.inl (SqL.of hL),rfl,_,rfl,?_⟩
  by_cases hz:ns=[]
  ·subst hz
   rw [show decide (V.int ((([]:List Int).map V.int).length:Int)=V.int 0)=true from rfl]
   refine q1f (qn (fun ns' _ hne e=>hne ?_) _ sH)
   rw [ht] at e
   exact (List.map_eq_nil_iff.mp e.symm)
  ·have hl1:ns.length≠0:=fun e=>hz (List.length_eq_zero_iff.mp e)
   rw [decide_eq_false (show ¬ V.int ((ns.map V.int).length:Int)=V.int 0 from fun z=>by have:=V.int.inj z; rw [List.length_map] at this; omega)]
   refine q1a ⟨_,rfl,b,_,rfl,.inl ⟨SqL.of hL,fun t2 ht2=>?_⟩⟩
   exact q ns t2 _ R hz ht q0c (sH.trans (q0d ht2))
end
end K1
namespace K1
open PySem L2 Kp Kz
inductive StE:Str→List Str→D→Prop
 | one (x:Str) (i:Int):(x = "stand" ∨ x = "wake")→0≤i→i≤8→StE x [q1d i] (.tup [.str x,.int i])
 | pl (x:Str) (i:Int):(x = "bring" ∨ x = "double" ∨ x = "lose")→0≤i→i≤999999→StE x [q1d i] (.tup [.str x,.int i])
 | beat (i j:Int):0≤i→i≤8→0≤j→j≤8→StE "beat" [q1d i,q1d j] (.tup [.str "beat",.int i,.int j])
 | pack (i j:Int):0≤i→i≤8→0≤j→j≤999999→StE "pack" [q1d i,q1d j] (.tup [.str "pack",.int i,.int j])
 | get (n m:Str):q1w (.str n)=true→q1w (.str m)=true→StE "wish" [n, "get",m] (.tup [.str "wish",.str n,.tup [.str "get",.str m]])
 | put (n w m:Str) (i:Int):(w = "set" ∨ w = "add")→q1w (.str n)=true→q1w (.str m)=true→i.natAbs < 10 ^ 60→StE "wish" [n,w,m,q1d i] (.tup [.str "wish",.str n,.tup [.str w,.str m,.int i]])
 | again (n:Str):q1w (.str n)=true→StE "again" [n] (.tup [.str "again",.str n])
 | turn (n:Str) (i:Int):q1w (.str n)=true→0≤i→i≤8→StE "turn" [n,q1d i] (.tup [.str "turn",.str n,.int i])
 | move (i:Int) (ns:List Int):0≤i→i≤8→RisP 8 ns→ns≠[]→StE "move" (q1d i::ns.map q1d) (.tup [.str "move",.int i,.tup (ns.map D.int)])
theorem q8e {i:Int} (h0:0≤i) (h:i≤999999):i.natAbs < 10 ^ 60:=Nat.lt_of_le_of_lt (show i.natAbs≤999999 by omega) (by decide)
theorem x4h {x:Str} {ks:List Str} {r:List D} (e:q2n.lookup x=some ks) (hf:q0w (ks.map q2h) r=true):q3f (.tup (.str x::r))=true∧q3d (.tup (.str x::r))=x::q0u (ks.map q1k) r:=by
 constructor
 ·show (match q2n.lookup x with | some ks=>q0w (ks.map q2h) r | none=>false)=true
  rw [e]; exact hf
 ·show x::q0u (((q2n.lookup x).getD []).map q1k) r=_
  rw [e]; rfl
theorem x3n {i:Int} (h0:0≤i) (h:i≤8):q2h "keeper" (.int i)=true:=by
 rw [q3g]
 show (decide (0≤i) && decide (i≤8))=true
 rw [decide_eq_true h0,decide_eq_true h]; rfl
theorem z8q {i:Int} (h0:0≤i) (h:i≤999999):q2h "place" (.int i)=true:=by
 rw [q4o]
 show (decide (0≤i) && decide (i < 1000000))=true
 rw [decide_eq_true h0,decide_eq_true (show i < 1000000 by omega)]; rfl
theorem RisP.seats {ns:List Int} (R:RisP 8 ns) (h:ns≠[]):q2u (.tup (ns.map D.int))=true∧ns.length≤9:=by
 have h9:=x4x (l:=0) (h:=8) R.up (fun n hn=>R.inr n hn) (by decide)
 have h1:1≤ns.length:=List.length_pos_iff.mpr h
 exact⟨Kz.x4j h1 (by omega) (fun n hn=>R.inr n hn) R.up,by omega⟩
theorem z6y {n:Str} (h:q1w (.str n)=true):n.length≤200:=by
 obtain⟨x,e,hx⟩:=q3q h
 cases e
 have:=q5h hx
 omega
structure StG (x:Str) (ws:List Str) (d:D):Prop where
 p:q3f d=true
 w:q3d d=x::ws
 s:q2j 60 d=true
 n:x6n d=true
 i:x6c 200 d=true
theorem StE.good {x:Str} {ws:List Str} {d:D} (h:StE x ws d):StG x ws d:=by
 cases h with
 | one _ i hx h0 h8 =>
  have hs:=q8e h0 (show i≤999999 by omega)
  have e:q2n.lookup x=some (["keeper"]:List Str):=by rcases hx with rfl | rfl <;> decide +kernel
  obtain⟨z1,z2⟩:=x4h (r:=[.int i]) e (by rw [List.map_cons,List.map_nil,q0w,q0w,x3n h0 h8]; rfl)
  refine⟨z1,z2.trans ?_,?_,rfl,rfl⟩
  ·rw [List.map_cons,q2z]; rfl
  ·show (true && (decide (i.natAbs < 10 ^ 60) && true))=true
   rw [decide_eq_true hs]; rfl
 | pl _ i hx h0 h8 =>
  have hs:=q8e h0 h8
  have e:q2n.lookup x=some (["place"]:List Str):=by rcases hx with rfl | rfl | rfl <;> decide +kernel
  obtain⟨z1,z2⟩:=x4h (r:=[.int i]) e (by rw [List.map_cons,List.map_nil,q0w,q0w,z8q h0 h8]; rfl)
  refine⟨z1,z2.trans ?_,?_,rfl,rfl⟩
  ·rw [List.map_cons,x0s]; rfl
  ·show (true && (decide (i.natAbs < 10 ^ 60) && true))=true
   rw [decide_eq_true hs]; rfl
 | beat i j h0 h8 g0 g8 =>
  have hs:=q8e h0 (show i≤999999 by omega)
  have gs:=q8e g0 (show j≤999999 by omega)
  have e:q2n.lookup ("beat" : Str)=some (["keeper", "keeper"]:List Str):=by decide +kernel
  obtain⟨z1,z2⟩:=x4h (r:=[.int i,.int j]) e (by rw [List.map_cons,List.map_cons,List.map_nil,q0w,q0w,q0w,x3n h0 h8,x3n g0 g8]; rfl)
  refine⟨z1,z2.trans ?_,?_,rfl,rfl⟩
  ·rw [List.map_cons,List.map_cons,q2z]; rfl
  ·show (true && (decide (i.natAbs < 10 ^ 60) && (decide (j.natAbs < 10 ^ 60) && true)))=true
   rw [decide_eq_true hs,decide_eq_true gs]; rfl
 | pack i j h0 h8 g0 g8 =>
  have hs:=q8e h0 (show i≤999999 by omega)
  have gs:=q8e g0 g8
  have e:q2n.lookup ("pack" : Str)=some (["keeper", "place"]:List Str):=by decide +kernel
  obtain⟨z1,z2⟩:=x4h (r:=[.int i,.int j]) e (by rw [List.map_cons,List.map_cons,List.map_nil,q0w,q0w,q0w,x3n h0 h8,z8q g0 g8]; rfl)
  refine⟨z1,z2.trans ?_,?_,rfl,rfl⟩
  ·rw [List.map_cons,List.map_cons,q2z,x0s]; rfl
  ·show (true && (decide (i.natAbs < 10 ^ 60) && (decide (j.natAbs < 10 ^ 60) && true)))=true
   rw [decide_eq_true hs,decide_eq_true gs]; rfl
 | get n m hn hm =>
  have e:q2n.lookup ("wish" : Str)=some (["name", "deed"]:List Str):=by decide +kernel
  have hd:q9h (.tup [.str "get",.str m])=true:=by
   show (match (x0p q1w).lookup ("get" : Str) with | some ps=>q0w ps [.str m] | none=>false)=true
   rw [show (x0p q1w).lookup ("get" : Str)=some [q1w] from rfl]
   show (q1w (.str m) && true)=true
   rw [hm]; rfl
  obtain⟨z1,z2⟩:=x4h (r:=[.str n,.tup [.str "get",.str m]]) e (by rw [List.map_cons,List.map_cons,List.map_nil,q0w,q0w,q0w,q2d,q4k,hn,hd]; rfl)
  refine⟨z1,z2.trans ?_,rfl,rfl,rfl⟩
  rw [List.map_cons,List.map_cons,q8h,x8q]; rfl
 | put n w m i hw hn hm hi =>
  have e:q2n.lookup ("wish" : Str)=some (["name", "deed"]:List Str):=by decide +kernel
  have hd:q9h (.tup [.str w,.str m,.int i])=true:=by
   show (match (x0p q1w).lookup w with | some ps=>q0w ps [.str m,.int i] | none=>false)=true
   rw [show (x0p q1w).lookup w=some [q1w,whole] by rcases hw with rfl | rfl <;> rfl]
   show (q1w (.str m) && (true && true))=true
   rw [hm]; rfl
  have hdw:q9b (.tup [.str w,.str m,.int i])=[w,m,q1d i]:=by
   show w::q0u ((x2l.lookup w).getD []) [.str m,.int i]=_
   rw [show x2l.lookup w=some [x5z,q8o] by rcases hw with rfl | rfl <;> rfl]; rfl
  obtain⟨z1,z2⟩:=x4h (r:=[.str n,.tup [.str w,.str m,.int i]]) e (by rw [List.map_cons,List.map_cons,List.map_nil,q0w,q0w,q0w,q2d,q4k,hn,hd]; rfl)
  refine⟨z1,z2.trans ?_,?_,rfl,rfl⟩
  ·rw [List.map_cons,List.map_cons,q8h,x8q]
   show ("wish" : Str)::([n]++(q9b (.tup [.str w,.str m,.int i])++[]))=_
   rw [hdw]; rfl
  ·show (true && (true && ((true && (true && (decide (i.natAbs < 10 ^ 60) && true))) && true)))=true
   rw [decide_eq_true hi]; rfl
 | again n hn =>
  have e:q2n.lookup ("again" : Str)=some (["name"]:List Str):=by decide +kernel
  obtain⟨z1,z2⟩:=x4h (r:=[.str n]) e (by rw [List.map_cons,List.map_nil,q0w,q0w,q2d,hn]; rfl)
  refine⟨z1,z2.trans ?_,rfl,rfl,rfl⟩
  rw [List.map_cons,q8h]; rfl
 | turn n i hn h0 h8 =>
  have hs:=q8e h0 (show i≤999999 by omega)
  have e:q2n.lookup ("turn" : Str)=some (["name", "keeper"]:List Str):=by decide +kernel
  obtain⟨z1,z2⟩:=x4h (r:=[.str n,.int i]) e (by rw [List.map_cons,List.map_cons,List.map_nil,q0w,q0w,q0w,q2d,hn,x3n h0 h8]; rfl)
  refine⟨z1,z2.trans ?_,?_,rfl,rfl⟩
  ·rw [List.map_cons,List.map_cons,q8h,q2z]; rfl
  ·show (true && (true && (decide (i.natAbs < 10 ^ 60) && true)))=true
   rw [decide_eq_true hs]; rfl
 | move i ns h0 h8 R hne =>
  have hs:=q8e h0 (show i≤999999 by omega)
  obtain⟨hse,h9⟩:=R.seats hne
  have e:q2n.lookup ("move" : Str)=some (["keeper", "seats"]:List Str):=by decide +kernel
  obtain⟨z1,z2⟩:=x4h (r:=[.int i,.tup (ns.map D.int)]) e (by rw [List.map_cons,List.map_cons,List.map_nil,q0w,q0w,q0w,q4y,hse,x3n h0 h8]; rfl)
  refine⟨z1,z2.trans ?_,?_,?_,?_⟩
  ·rw [List.map_cons,List.map_cons,q2z,x9v]
   show ("move" : Str)::([q1d i]++((ns.map D.int).flatMap q8o++[]))=_
   rw [Kz.x2k,List.append_nil]; rfl
  ·show (true && (decide (i.natAbs < 10 ^ 60) && (smallL 60 (ns.map D.int) && true)))=true
   rw [decide_eq_true hs,show smallL 60 (ns.map D.int)=true from q1j.mpr fun d hd=>by
    obtain⟨n,hn,rfl⟩:=List.mem_map.mp hd
    exact decide_eq_true (R.sm n hn)]
   rfl
  ·show (true && (true && (noLL (ns.map D.int) && true)))=true
   rw [show noLL (ns.map D.int)=true from q1o.mpr fun d hd=>by
    obtain⟨n,hn,rfl⟩:=List.mem_map.mp hd
    rfl]
   rfl
  ·show (true && (true && (true && ((decide ((ns.map D.int).length≤200) && widL 200 (ns.map D.int)) && true))))=true
   rw [List.length_map,decide_eq_true (show ns.length≤200 by omega),show widL 200 (ns.map D.int)=true from q3c.mpr fun d hd=>by
    obtain⟨n,hn,rfl⟩:=List.mem_map.mp hd
    rfl]
   rfl
theorem q8d {d:D} (h:q2h "keeper" d=true):∃ i,d=.int i∧0≤i∧i≤8:=by
 rw [q3g] at h
 cases d with
 | int i =>
  have h':(decide (0≤i) && decide (i≤8))=true:=h
  rw [Bool.and_eq_true,decide_eq_true_eq,decide_eq_true_eq] at h'
  exact⟨i,rfl,h'.1,h'.2⟩
 | _=>cases h
theorem x4s {d:D} (h:q2h "place" d=true):∃ i,d=.int i∧0≤i∧i≤999999:=by
 rw [q4o] at h
 cases d with
 | int i =>
  have h':(decide (0≤i) && decide (i < 1000000))=true:=h
  rw [Bool.and_eq_true,decide_eq_true_eq,decide_eq_true_eq] at h'
  exact⟨i,rfl,h'.1,by omega⟩
 | _=>cases h
theorem x0c {d:D} (h:q2h "name" d=true):∃ n,d=.str n∧q1w (.str n)=true:=by
 rw [q2d] at h
 cases d with
 | str n=>exact⟨n,rfl,h⟩
 | _=>cases h
theorem x7h {d:D} (h:q2u d=true):∃ ns:List Int,d=.tup (ns.map D.int)∧RisP 8 ns∧ns≠[]:=by
 cases d with
 | tup ss =>
  have hs':(ss.all q2f && ((decide (1≤ss.length) && decide (ss.length≤9)) && q7a (q1z ss)))=true:=h
  rw [Bool.and_eq_true,Bool.and_eq_true,Bool.and_eq_true,decide_eq_true_eq,decide_eq_true_eq] at hs'
  obtain⟨ns,rfl⟩:=x4f hs'.1
  rw [Kz.q2t,List.length_map] at hs'
  have hb:∀ n∈ns,0≤n∧n≤8:=fun n hn=>by
   have:=List.all_eq_true.mp hs'.1 (.int n) (List.mem_map.mpr ⟨n,hn,rfl⟩)
   have h':(decide (0≤n) && decide (n≤8))=true:=this
   rw [Bool.and_eq_true,decide_eq_true_eq,decide_eq_true_eq] at h'
   exact h'
  exact⟨ns,rfl,⟨hb,fun n hn=>q8e (hb n hn).1 (by have:=(hb n hn).2; omega),x7e hs'.2.2⟩,fun z=>by rw [z] at hs'; simp at hs'⟩
 | _=>cases h
theorem StE.of {d:D} (h:q3f d=true) (hs:q2j 60 d=true):∃ x ws,StE x ws d:=by
 obtain⟨x,r,ks,rfl,e,hf⟩:=q5x h
 have hm:=L2.q1v e
 clear e h
 have one:∀ {k:Str},q0w ([k].map q2h) r=true→∃ a,r=[a]∧q2h k a=true:=by
  intro k hf
  match r,q2r hf with
  | [a],_ =>
   rw [List.map_cons,q0w,Bool.and_eq_true] at hf
   exact⟨a,rfl,hf.1⟩
 have two:∀ {k k':Str},q0w (([k,k']:List Str).map q2h) r=true→∃ a b,r=[a,b]∧q2h k a=true∧q2h k' b=true:=by
  intro k k' hf
  match r,q2r hf with
  | [a,b],_ =>
   rw [List.map_cons,List.map_cons,q0w,q0w,Bool.and_eq_true,Bool.and_eq_true] at hf
   exact⟨a,b,rfl,hf.1,hf.2.1⟩
 simp only [Kp.q2n,List.mem_cons,Prod.mk.injEq,List.not_mem_nil,or_false] at hm
 rcases hm with ⟨rfl,rfl⟩ | ⟨rfl,rfl⟩ | ⟨rfl,rfl⟩ | ⟨rfl,rfl⟩ | ⟨rfl,rfl⟩ | ⟨rfl,rfl⟩ | ⟨rfl,rfl⟩ | ⟨rfl,rfl⟩ | ⟨rfl,rfl⟩ | ⟨rfl,rfl⟩ | ⟨rfl,rfl⟩
 ·obtain⟨a,rfl,ha⟩:=one hf
  obtain⟨i,rfl,h0,h8⟩:=q8d ha
  exact⟨_,_,.one _ i (.inl rfl) h0 h8⟩
 ·obtain⟨a,b,rfl,ha,hb⟩:=two hf
  obtain⟨i,rfl,h0,h8⟩:=q8d ha
  obtain⟨j,rfl,g0,g8⟩:=q8d hb
  exact⟨_,_,.beat i j h0 h8 g0 g8⟩
 ·obtain⟨a,rfl,ha⟩:=one hf
  obtain⟨i,rfl,h0,h8⟩:=x4s ha
  exact⟨_,_,.pl _ i (.inl rfl) h0 h8⟩
 ·obtain⟨a,rfl,ha⟩:=one hf
  obtain⟨i,rfl,h0,h8⟩:=x4s ha
  exact⟨_,_,.pl _ i (.inr (.inl rfl)) h0 h8⟩
 ·obtain⟨a,rfl,ha⟩:=one hf
  obtain⟨i,rfl,h0,h8⟩:=x4s ha
  exact⟨_,_,.pl _ i (.inr (.inr rfl)) h0 h8⟩
 ·obtain⟨a,b,rfl,ha,hb⟩:=two hf
  obtain⟨n,rfl,hn⟩:=x0c ha
  rw [q4k] at hb
  obtain⟨x,r,ps,rfl,e,hf2⟩:=q5z hb
  have hm2:=L2.q1v e
  simp only [x0p,List.mem_cons,Prod.mk.injEq,List.not_mem_nil,or_false] at hm2
  rcases hm2 with ⟨rfl,rfl⟩ | ⟨rfl,rfl⟩ | ⟨rfl,rfl⟩
  ·match r,q2r hf2 with
   | [a,b],_ =>
    simp only [q0w,Bool.and_true,Bool.and_eq_true] at hf2
    obtain⟨m,rfl,hm⟩:=x0c (by rw [q2d]; exact hf2.1)
    obtain⟨i,rfl⟩:=q5s hf2.2
    have hs':(true && (true && ((true && (true && (decide (i.natAbs < 10 ^ 60) && true))) && true)))=true:=hs
    simp only [Bool.true_and,Bool.and_true,decide_eq_true_eq] at hs'
    exact⟨_,_,.put n _ m i (.inl rfl) hn hm hs'⟩
  ·match r,q2r hf2 with
   | [a,b],_ =>
    simp only [q0w,Bool.and_true,Bool.and_eq_true] at hf2
    obtain⟨m,rfl,hm⟩:=x0c (by rw [q2d]; exact hf2.1)
    obtain⟨i,rfl⟩:=q5s hf2.2
    have hs':(true && (true && ((true && (true && (decide (i.natAbs < 10 ^ 60) && true))) && true)))=true:=hs
    simp only [Bool.true_and,Bool.and_true,decide_eq_true_eq] at hs'
    exact⟨_,_,.put n _ m i (.inr rfl) hn hm hs'⟩
  ·match r,q2r hf2 with
   | [a],_ =>
    simp only [q0w,Bool.and_true] at hf2
    obtain⟨m,rfl,hm⟩:=x0c (by rw [q2d]; exact hf2)
    exact⟨_,_,.get n m hn hm⟩
 ·obtain⟨a,rfl,ha⟩:=one hf
  obtain⟨n,rfl,hn⟩:=x0c ha
  exact⟨_,_,.again n hn⟩
 ·obtain⟨a,b,rfl,ha,hb⟩:=two hf
  obtain⟨n,rfl,hn⟩:=x0c ha
  obtain⟨i,rfl,h0,h8⟩:=q8d hb
  exact⟨_,_,.turn n i hn h0 h8⟩
 ·obtain⟨a,b,rfl,ha,hb⟩:=two hf
  obtain⟨i,rfl,h0,h8⟩:=q8d ha
  rw [q4y] at hb
  obtain⟨ns,rfl,R,hne⟩:=x7h hb
  exact⟨_,_,.move i ns h0 h8 R hne⟩
 ·obtain⟨a,b,rfl,ha,hb⟩:=two hf
  obtain⟨i,rfl,h0,h8⟩:=q8d ha
  obtain⟨j,rfl,g0,g8⟩:=x4s hb
  exact⟨_,_,.pack i j h0 h8 g0 g8⟩
 ·obtain⟨a,rfl,ha⟩:=one hf
  obtain⟨i,rfl,h0,h8⟩:=q8d ha
  exact⟨_,_,.one _ i (.inr rfl) h0 h8⟩
end K1
namespace K1
open PySem L2 Kp Kz
theorem StE.wish {ws:List Str} {d:D} (h:StE "wish" ws d):(∃ n m,ws=[n,("get" : Str),m]∧q1w (.str n)=true∧q1w (.str m)=true)∨∃ n w m i,ws=[n,w,m,q1d i]∧(w = "set" ∨ w = "add")∧q1w (.str n)=true∧q1w (.str m)=true∧i.natAbs < 10 ^ 60:=by
 generalize hx:("wish" : Str)=x at h
 cases h with
 | one _ i h=>rcases h with h | h <;> exact absurd (hx.trans h) (by decide +kernel)
 | pl _ i h=>rcases h with h | h | h <;> exact absurd (hx.trans h) (by decide +kernel)
 | beat=>exact absurd hx (by decide +kernel)
 | pack=>exact absurd hx (by decide +kernel)
 | get n m h1 h2=>exact .inl ⟨n,m,rfl,h1,h2⟩
 | put n w m i h0 h1 h2 h3=>exact .inr ⟨n,w,m,i,rfl,h0,h1,h2,h3⟩
 | again=>exact absurd hx (by decide +kernel)
 | turn=>exact absurd hx (by decide +kernel)
 | move=>exact absurd hx (by decide +kernel)
theorem StE.rest {x:Str} {ws:List Str} {d:D} (h:StE x ws d):x = "wish" ∨ (x = "again" ∧ ∃ n,ws=[n]∧q1w (.str n)=true)∨(x = "turn" ∧ ∃ n i,ws=[n,q1d i]∧q1w (.str n)=true∧0≤i∧i≤8) ∨
  (x∈(["stand", "beat", "bring", "double", "lose", "move", "pack", "wake"]:List Str)∧∃ i r,ws=q1d i::r∧0≤i∧i≤(if x∈(["bring", "double", "lose"]:List Str) then 999999 else 8)∧((x∈(["stand", "wake", "bring", "double", "lose"]:List Str)∧r=[])∨(x = "move" ∧ ∃ ns,r=ns.map q1d∧RisP 8 ns∧ns≠[])∨(x = "beat" ∧ ∃ j,r=[q1d j]∧0≤j∧j≤8)∨(x = "pack" ∧ ∃ j,r=[q1d j]∧0≤j∧j≤999999))):=by
 cases h with
 | one _ i h h0 h8 =>
  refine .inr (.inr (.inr ⟨?_,i,[],rfl,h0,?_,.inl ⟨?_,rfl⟩⟩))
  ·rcases h with rfl | rfl <;> decide +kernel
  ·rw [if_neg (by rcases h with rfl | rfl <;> decide +kernel)]; exact h8
  ·rcases h with rfl | rfl <;> decide +kernel
 | pl _ i h h0 h8 =>
  refine .inr (.inr (.inr ⟨?_,i,[],rfl,h0,?_,.inl ⟨?_,rfl⟩⟩))
  ·rcases h with rfl | rfl | rfl <;> decide +kernel
  ·rw [if_pos (by rcases h with rfl | rfl | rfl <;> decide +kernel)]; exact h8
  ·rcases h with rfl | rfl | rfl <;> decide +kernel
 | beat i j h0 h8 g0 g8=>exact .inr (.inr (.inr ⟨by decide +kernel,i,_,rfl,h0,by rw [if_neg (by decide +kernel)]; exact h8,.inr (.inr (.inl ⟨rfl,j,rfl,g0,g8⟩))⟩))
 | pack i j h0 h8 g0 g8=>exact .inr (.inr (.inr ⟨by decide +kernel,i,_,rfl,h0,by rw [if_neg (by decide +kernel)]; exact h8,.inr (.inr (.inr ⟨rfl,j,rfl,g0,g8⟩))⟩))
 | get=>exact .inl rfl
 | put=>exact .inl rfl
 | again n hn=>exact .inr (.inl ⟨rfl,n,rfl,hn⟩)
 | turn n i hn h0 h8=>exact .inr (.inr (.inl ⟨rfl,n,i,rfl,hn,h0,h8⟩))
 | move i ns h0 h8 R hne=>exact .inr (.inr (.inr ⟨by decide +kernel,i,_,rfl,h0,by rw [if_neg (by decide +kernel)]; exact h8,.inr (.inl ⟨rfl,ns,rfl,R,hne⟩)⟩))
theorem StE.again' {ws:List Str} {d:D} (h:StE "again" ws d):∃ n,ws=[n]∧q1w (.str n)=true:=by
 rcases h.rest with z | ⟨_,z⟩ | ⟨z,_⟩ | ⟨z,_⟩
 ·exact absurd z (by decide +kernel)
 ·exact z
 ·exact absurd z (by decide +kernel)
 ·exact absurd z (by decide +kernel)
theorem StE.turn' {ws:List Str} {d:D} (h:StE "turn" ws d):∃ n i,ws=[n,q1d i]∧q1w (.str n)=true∧0≤i∧i≤8:=by
 rcases h.rest with z | ⟨z,_⟩ | ⟨_,z⟩ | ⟨z,_⟩
 ·exact absurd z (by decide +kernel)
 ·exact absurd z (by decide +kernel)
 ·exact z
 ·exact absurd z (by decide +kernel)
noncomputable def q9e (x:Str):Int:=if x∈(["bring", "double", "lose"]:List Str) then 999999 else 8
theorem StE.oth {x:Str} {ws:List Str} {d:D} (h:StE x ws d) (hx:x∉(["wish", "again", "turn"]:List Str)):∃ i r,ws=q1d i::r∧0≤i∧i≤q9e x∧((x∈(["stand", "wake", "bring", "double", "lose"]:List Str)∧r=[])∨(x = "move" ∧ ∃ ns,r=ns.map q1d∧RisP 8 ns∧ns≠[])∨(x = "beat" ∧ ∃ j,r=[q1d j]∧0≤j∧j≤8)∨(x = "pack" ∧ ∃ j,r=[q1d j]∧0≤j∧j≤999999)):=by
 rcases h.rest with z | ⟨z,_⟩ | ⟨z,_⟩ | ⟨_,z⟩
 ·exact absurd (by rw [z]; decide +kernel) hx
 ·exact absurd (by rw [z]; decide +kernel) hx
 ·exact absurd (by rw [z]; decide +kernel) hx
 ·exact z
end K1
namespace K1
open PySem L2 Kp
structure NoL7 (K:Frag) (mg:Str→Option Value) (cN:Addr):Prop where
 m:mg "NoLetter" = some (.ref cN)
 x:PySem.W.excIn K cN z7i "ValueError.__new__" = true
theorem z4a {v u:V}:([("words",v),("passed",u)]:List (Str × V)).lookup ("word" : Str)=none:=by
 have h1:(("word" : Str) == "words")=false:=by decide +kernel
 have h2:(("word" : Str) == "passed")=false:=by decide +kernel
 simp [List.lookup,h1,h2]
theorem Wd.same7 {C a l:Addr} {ws:List Str} {p:Nat} {H H':Hp} (h:Wd C a l ws p H) (s:q1h H H'):Wd C a l ws p H':=let ⟨⟨dx,e⟩,e2⟩:=h; ⟨⟨dx,s _ _ e⟩,s _ _ e2⟩
theorem drop_one {ws:List Str} {p:Nat} {x:Str} (h:ws[p]? = some x):ws.drop p=x::ws.drop (p+1):=by
 obtain⟨hp,rfl⟩:=List.getElem?_eq_some_iff.mp h
 exact List.drop_eq_getElem_cons hp
section
variable {P:Program} {w:World} {K:Frag} {mg:Str→Option Value} {base:Heap}
noncomputable def q9t (C cN:Addr):Sp:=fun vs H Q E=>∃ (a l:Addr) (ws:List Str) (p:Nat),vs=[.ref a]∧Wd C a l ws p H∧p≤ws.length∧ws.length≤100000∧(∀ x H',ws[p]? = some x→Wd C a l ws (p+1) H'→q1l a H H'→Q (.str x) H')∧∀ H',E (.ref cN) none H'
theorem j3x:FnScope ["self"] ["self"] (q0e q3v):=fSc
theorem z4z {f fA:Addr} {fd dA:FuncData} {C cN:Addr} (Z:NoL7 K mg cN) (Y:WoC K C) (F:Fun K "word" "Words.word" q3v f fd) (MA:Meth K C "all_passed" fA) (FA:FnOk P w K mg base CX0 1 fA dA ["self"] (x2d C)) (bA:q2i K dA ["self"] []):FnOk P w K mg base (CXe P w) 2 f fd ["self"] (q9t C cN):=by
 refine F.okE j3x (fun vs H Q E ⟨_,_,_,_,e,_⟩=>by subst e; rfl) (fun _ A _ s H vs Q E hr h=>?_)
 obtain⟨a,l,ws,p,rfl,W,hpl,hws,q,qe⟩:=h
 obtain⟨⟨dx,ha⟩,hl⟩:=id W
 refine⟨_,@q0j _ _ _ _ _ (q1e (q3h (q2o (pv 0) Y.cl MA FA hr bA .nil q5g)) (@q0m _ _ _ (q4h q3k (by rfl) (by rfl) Z.m Z.x (q3r q0q q0a))) q0h)
  (@q0j _ _ _ _ _ (z0b (pv 0) (q0p q4f (x0h (pv 0) (by rfl)) q0b) (by rfl))
  (@q0m _ _ _ (q0g (q1i q1b (x0h (pv 0) (by rfl)) (q0p q8a (x0h (pv 0) (by rfl)) q0b) x7k)))),?_⟩
 refine⟨_,rfl,a,dx,_,rfl,ha,lkA,a,l,ws,p,rfl,W,_,rfl,?_⟩
 by_cases hp:p=ws.length
 ·rw [decide_eq_true hp]
  exact q1f ⟨by decide,qe _⟩
 ·rw [decide_eq_false hp]
  have hlt:p < ws.length:=by omega
  have hx:ws[p]? = some ws[p]:=List.getElem?_eq_getElem hlt
  refine q1a ⟨_,rfl,a,C,dx,_,_,rfl,ha,Y.cl,Y.a_passed,lkP,_,_,rfl,rfl,_,rfl,a,C,dx,_,rfl,ha,Y.cl,Y.a_passed,(by show 2 < 1000; decide),?_⟩
  have nl:=W.ne
  have W':Wd C a l ws (p+1) (upd H a (.ins C dx [("words",.ref l),("passed",.int ((p:Int)+1))])):=⟨⟨dx,q0c.trans (by rw [show ((p:Int)+1)=((p+1:Nat):Int) by omega])⟩,by rw [q0r nl]; exact hl⟩
  obtain⟨⟨dx',ha'⟩,hl'⟩:=id W'
  have hat:atI (ws.map V.str) (((p+1:Nat):Int) - 1)=some (.str ws[p]):=by
   rw [show (((p+1:Nat):Int) - 1)=(p:Int) by omega]
   exact q0k (by rw [List.getElem?_map,hx]; rfl)
  exact⟨_,rfl,a,C,dx',_,_,rfl,ha',Y.cl,Y.a_words,lkW,_,rfl,a,C,dx',_,_,rfl,ha',Y.cl,Y.a_passed,lkP,_,_,rfl,rfl,l,_,_,_,rfl,rfl,SqL.of hl',hat,q _ _ hx W' q1l.upd⟩
noncomputable def x8y (C cN:Addr) (f:D→List Str):Sp:=fun vs H Q E=>∃ (a l:Addr) (ws:List Str) (p:Nat),vs=[.ref a]∧Wd C a l ws p H∧p≤ws.length∧ws.length≤100000∧(∀ x∈ws,x.length≤100000) ∧
 (∀ v H' d p',Is 100000 H' v d→x6n d=true→q2j 60 d=true→p < p'→p'≤ws.length→ws.drop p=f d++ws.drop p'→Wd C a l ws p' H'→q1l a H H'→Q v H')∧∀ H',E (.ref cN) none H'
theorem x4e {C cN:Addr} {f:D→List Str} {px:Str}:∀ vs H Q E,x8y C cN f vs H Q E→vs.length=[px].length:=fun vs H Q E ⟨_,_,_,_,e,_⟩=>by subst e; rfl
theorem z8o:FnScope ["words", "word"] ["words"] (q0e q3o):=fSc
theorem x1h {f fW:Addr} {fd dW:FuncData} {C cN:Addr} (Z:NoL7 K mg cN) (Y:WoC K C) (F:Fun K "read_number" "read_number" q3o f fd) (T:Txt mg) (MW:Meth K C "word" fW) (FW:FnOk P w K mg base (CXe P w) 2 fW dW ["self"] (q9t C cN)) (bW:q2i K dW ["self"] []) (CI:Cal P w K mg base "is_number_word" 1 ["word"] x9t) :
  FnOk P w K mg base (CXe P w) 3 f fd ["words"] (x8y C cN q8o):=by
 refine F.okE z8o x4e (fun _ A _ s H vs Q E hr h=>?_)
 obtain⟨a,l,ws,p,rfl,W,hpl,hl,hx,q,qe⟩:=h
 have r1:=hr.mono (show 1≤2 by decide)
 refine⟨_,@q0j _ _ _ _ _ (q0y (i:=1) z8o.nd (by rfl) (by exact Or.inl rfl) (q2o (pv 0) Y.cl MW FW hr bW .nil q8s))
  (@q0j _ _ _ _ _ (q1e (q4e (q3h (q0s CI r1 (q1c (pv 1) q0a)))) (@q0m _ _ _ (q4h q3k (by rfl) (by rfl) Z.m Z.x (q3r q0q q0a))) q0h)
  (@q0m _ _ _ (q0g (q1q x2j (by rfl) T.int x1a (q1c (pv 1) q0a))))),?_⟩
 obtain⟨⟨dx,ha⟩,_⟩:=id W
 refine⟨_,rfl,a,dx,_,rfl,ha,z4a,a,l,ws,p,rfl,W,hpl,hl,fun x H1 hat W1 s1=>?_,qe⟩
 have hlt:=(List.getElem?_eq_some_iff.mp hat).1
 refine⟨_,rfl,x,rfl,hx x (List.mem_of_getElem? hat),fun H2 s2=>⟨_,rfl,?_⟩⟩
 cases hb:x8s x with
 | false=>exact q1f ⟨by decide,qe _⟩
 | true =>
  obtain⟨n,rfl,hn⟩:=q8v hb
  have hlen:=q7l (n:=n) (k:=60) (by decide) hn
  refine q1a ⟨_,rfl,q1d n,n,rfl,q6y (Nat.lt_of_lt_of_le hn (Nat.pow_le_pow_right (by decide) (by decide))),by omega,?_⟩
  exact q _ _ (.int n) (p+1) (.int n) rfl (decide_eq_true hn) (by omega) (by omega) (drop_one hat) (W1.same7 s2) (s1.trans (q1l.of s2))
theorem j1t:FnScope ["words"] ["words"] (q0e q4v):=fSc
theorem x5d {f fW:Addr} {fd dW:FuncData} {C cN:Addr} (Y:WoC K C) (F:Fun K "read_name" "read_name" q4v f fd) (MW:Meth K C "word" fW) (FW:FnOk P w K mg base (CXe P w) 2 fW dW ["self"] (q9t C cN)) (bW:q2i K dW ["self"] []):FnOk P w K mg base (CXe P w) 3 f fd ["words"] (x8y C cN x5z):=by
 refine F.okE j1t x4e (fun _ A _ s H vs Q E hr h=>?_)
 obtain⟨a,l,ws,p,rfl,W,hpl,hl,hx,q,qe⟩:=h
 refine⟨_,@q0m _ _ _ (q0g (q2o (pv 0) Y.cl MW FW hr bW .nil q8s)),?_⟩
 obtain⟨⟨dx,ha⟩,_⟩:=id W
 refine⟨_,rfl,a,dx,_,rfl,ha,z4a,a,l,ws,p,rfl,W,hpl,hl,fun x H1 hat W1 s1=>?_,qe⟩
 have hlt:=(List.getElem?_eq_some_iff.mp hat).1
 exact q _ _ (.str x) (p+1) (.str x (hx x (List.mem_of_getElem? hat))) rfl rfl (by omega) (by omega) (drop_one hat) W1 s1
theorem q7k (x:Str):∀ l:List Str,inV (V.str x) (l.map V.str)=decide (x∈l)
 | []=>rfl
 | y::l=>by
  show (decide ((y:Str)=x) || inV (V.str x) (l.map V.str))=_
  rw [q7k x l,Bool.eq_iff_iff]
  simp only [Bool.or_eq_true,decide_eq_true_eq,List.mem_cons]
  exact⟨fun h=>h.imp Eq.symm id,fun h=>h.imp Eq.symm id⟩
end
end K1
namespace K1
open PySem L2 Kp Kz
noncomputable def j4x (K:Frag) (x:Str) (a:Addr):List Str→Hp→VK→Prop:=fun ws H Q=>SqL K H a (ws.map V.str)∧ws.length≤90000∧(∀ y∈ws,y.length≤90000)∧(∀ v H' d,Is 200 H' v d→StE x ws d→q1h H H'→Q v H')∧((∀ d,StE x ws d→False)→∀ H',q1h H H'→Q .non H')
theorem x3q {H:Hp} {n:Str} (h:q1w (.str n)=true):Is 200 H (.str n) (.str n):=.str n (z6y h)
section
variable {P:Program} {w:World} {K:Frag} {mg:Str→Option Value} {base:Heap}
noncomputable def j6g (K:Frag):Sp:=fun vs H Q _=>∃ (a:Addr) (ws:List Str),vs=[.ref a]∧j4x K "wish" a ws H Q
theorem j8r:FnScope ["_law_words"] ["_law_words"] (q0e q8n):=fSc
theorem j5x {f:Addr} {fd:FuncData} (F:Fun K "_law_wish" "_law_wish" q8n f fd) (T:Txt mg) (CN:Cal P w K mg base "_law_number" 1 ["_law_word", "_law_low", "_law_high"] z9j) (CM:Cal P w K mg base "_law_is_name" 1 ["_law_word"] z6b):FnOk P w K mg base CX0 2 f fd ["_law_words"] (j6g K):=by
 refine F.ok j8r (fun vs H Q E ⟨_,_,e,_⟩=>by subst e; rfl) (fun _ A _ s H vs Q E hr h=>?_)
 obtain⟨a,ws,rfl,hS,hwl,hxl,q,qn⟩:=h
 refine⟨_,@q0j _ _ _ _ _ (q1e (PW.pt (q5j (q0f x2p (q0n q0l (by rfl) T.len PySem.boot_len (q1c (pv 0) q0a)) q0b (q0i _)) (q5j (q4e (q3h (q0s CM hr (q0o (q1i q1b (pv 0) q0b q3t) q0a)))) (q5b (q4e (q3h (q0s CM hr (q0o (q1i q1b (pv 0) q0b q3t) q0a)))))))) (@q0m _ _ _ (q0g q1t)) q0h)
  (@q0j _ _ _ _ _ (q1e (PW.pt (q4x (q0f q1s (q1i q1b (pv 0) q0b q3t) q0q (q0i _)) (q4w (q0f q1s (q0n q0l (by rfl) T.len PySem.boot_len (q1c (pv 0) q0a)) q0b (q0i _))))) (@q0m _ _ _ (q0g (q2g (q3r q0q (q6q (q1i q1b (pv 0) q0b q3t) (j5b (q2g (q3r q0q (q6q (q1i q1b (pv 0) q0b q3t) q0a))) q0a)))))) q0h)
  (@q0j _ _ _ _ _ (q1e (PW.pt (q5j (q0f x6o (q1i q1b (pv 0) q0b q3t) (QE.h (q4s (q0x (q0x q4g)))) rfl) (q5j (q0f x5t (q0n q0l (by rfl) T.len PySem.boot_len (q1c (pv 0) q0a)) q0b (q0i _)) (q5b (q0f q6s (q0s CN hr (q6q (q1i q1b (pv 0) q0b q3t) (q3r q1t (q3r q1t q0a)))) q1t (q0i _)))))) (@q0m _ _ _ (q0g q1t)) q0h)
  (@q0m _ _ _ (q0g (q2g (q3r q0q (q6q (q1i q1b (pv 0) q0b q3t) (j5b (q2g (q6q (q1i q1b (pv 0) q0b q3t) (q6q (q1i q1b (pv 0) q0b q3t) (q9l (q0s CN hr (q6q (q1i q1b (pv 0) q0b q3t) (q3r q1t (q3r q1t q0a)))) q0a)))) q0a)))))))),?_⟩
 have hml:(ws.map V.str).length=ws.length:=List.length_map ..
 refine⟨_,rfl,a,_,rfl,.inl hS,_,_,rfl,rfl,_,rfl,?_⟩
 by_cases h3:ws.length < 3
 ·rw [decide_eq_true (show ((ws.map V.str).length:Int) < 3 by omega)]
  exact q1f (q1f (qn (fun d h=>by rcases h.wish with ⟨_,_,e,_⟩ | ⟨_,_,_,_,e,_⟩ <;> (rw [e] at h3; simp at h3)) _ (q1h.refl _)))
 rw [decide_eq_false (show ¬ ((ws.map V.str).length:Int) < 3 by omega)]
 obtain⟨w0,w1,w2,r,rfl⟩:∃ w0 w1 w2 r,ws=w0::w1::w2::r:=by
  match ws,h3 with
  | w0::w1::w2::r,_=>exact⟨w0,w1,w2,r,rfl⟩
  | [],h=>exact absurd (by decide) h
  | [_],h=>simp at h
  | [_,_],h=>simp at h
 refine q1a ⟨_,rfl,a,_,_,.str w0,rfl,rfl,hS,q0k (j:=0) rfl,w0,rfl,Nat.le_trans (hxl w0 (by simp)) (by decide),_,rfl,?_⟩
 cases hn0:q1w (.str w0) with
 | false=>exact q1f (q1f (qn (fun d h=>by rcases h.wish with ⟨_,_,e,z,_⟩ | ⟨_,_,_,_,e,_,z,_⟩ <;> (rw [← (List.cons.inj e).1,hn0] at z; cases z)) _ (q1h.refl _)))
 | true =>
 refine q1a ⟨_,rfl,a,_,_,.str w2,rfl,rfl,hS,q0k (j:=2) rfl,w2,rfl,Nat.le_trans (hxl w2 (by simp)) (by decide),_,rfl,?_⟩
 cases hn2:q1w (.str w2) with
 | false=>exact q1f (qn (fun d h=>by rcases h.wish with ⟨_,_,e,_,z⟩ | ⟨_,_,_,_,e,_,_,z,_⟩ <;> (rw [← (List.cons.inj (List.cons.inj (List.cons.inj e).2).2).1,hn2] at z; cases z)) _ (q1h.refl _))
 | true =>
 refine q1a ⟨_,rfl,a,_,_,.str w1,rfl,rfl,hS,q0k (j:=1) rfl,rfl,_,rfl,?_⟩
 have no_of:w1 ≠ "set" → w1 ≠ "add" → (w1 = "get" → r≠[])→∀ H',q1h H H'→Q .non H':=fun e1 e2 e3=>qn fun d h=>by
  rcases h.wish with ⟨_,_,e,_⟩ | ⟨_,_,_,_,e,z,_⟩
  ·have e':=(List.cons.inj e).2
   exact e3 (List.cons.inj e').1 (List.cons.inj (List.cons.inj e').2).2
  ·rw [← (List.cons.inj (List.cons.inj e).2).1] at z
   exact z.elim e1 e2
 by_cases hg:w1 = "get"
 ·rw [decide_eq_true (show V.str w1=V.str "get" by rw [hg])]
  refine q1f ⟨_,rfl,a,_,rfl,.inl hS,rfl,_,rfl,?_⟩
  by_cases hr0:r=[]
  ·subst hr0
   rw [decide_eq_true (show V.int (([w0,w1,w2]:List Str).map V.str).length=V.int 3 from rfl)]
   refine q1f ⟨_,rfl,a,_,_,.str w0,rfl,rfl,hS,q0k (j:=0) rfl,_,rfl,a,_,_,.str w2,rfl,rfl,hS,q0k (j:=2) rfl,q3j (by show 2≤1000; decide),fun p1 hp1=>⟨q3j (by show 3≤1000; decide),fun p2 hp2=>?_⟩⟩
   have s1:=q0d (o:=HO.tup [V.str "get",V.str w2]) hp1
   have s2:=q0d (o:=HO.tup [V.str "wish",V.str w0,V.ref p1]) hp2
   subst hg
   exact q _ _ _ (.tup q0c (by show 3≤200; decide) (.cons (.str _ (by decide +kernel)) (.cons (x3q hn0) (.cons (.tup (s2 _ _ q0c) (by show 2≤200; decide) (.cons (.str _ (by decide +kernel)) (.cons (x3q hn2) .nil))) .nil)))) (.get w0 w2 hn0 hn2) (s1.trans s2)
  ·rw [decide_eq_false (show ¬ V.int ((w0::w1::w2::r).map V.str).length=V.int 3 from fun z=>hr0 (by have:=V.int.inj z; rw [List.length_map,List.length_cons,List.length_cons,List.length_cons] at this; exact List.length_eq_zero_iff.mp (by omega)))]
   refine q1a ⟨_,rfl,a,_,_,.str w1,rfl,rfl,hS,q0k (j:=1) rfl,q3j (by show 2≤1000; decide),fun p2 hp2=>⟨p2,_,rfl,.inl (SqL.of q0c),rfl,rfl,_,rfl,?_⟩⟩
   have s1:=q0d (o:=HO.lst ((["set", "add"]:List Str).map V.str)) hp2
   show if (!inV (V.str w1) ((["set", "add"]:List Str).map V.str))=true then _ else _
   rw [q7k,decide_eq_false (by rw [hg]; decide +kernel)]
   refine q1f (q1f (no_of (by rw [hg]; decide +kernel) (by rw [hg]; decide +kernel) (fun _=>hr0) _ s1))
 ·rw [decide_eq_false (fun z=>hg (V.str.inj z))]
  refine q1a (q1a ⟨_,rfl,a,_,_,.str w1,rfl,rfl,hS,q0k (j:=1) rfl,q3j (by show 2≤1000; decide),fun p2 hp2=>⟨p2,_,rfl,.inl (SqL.of q0c),rfl,rfl,_,rfl,?_⟩⟩)
  have s1:=q0d (o:=HO.lst ((["set", "add"]:List Str).map V.str)) hp2
  show if (!inV (V.str w1) ((["set", "add"]:List Str).map V.str))=true then _ else _
  rw [q7k]
  by_cases hm:w1∈(["set", "add"]:List Str)
  ·rw [decide_eq_true hm]
   have hS1:SqL K _ a _:=SqL.same' hS s1
   refine q1a ⟨_,rfl,a,_,rfl,.inl hS1,rfl,_,rfl,?_⟩
   have hw:w1 = "set" ∨ w1 = "add" := by simpa using hm
   by_cases h4:r.length=1
   ·obtain⟨w3,rfl⟩:=List.length_eq_one_iff.mp h4
    rw [show (!decide (V.int (([w0,w1,w2,w3]:List Str).map V.str).length=V.int 4))=false from rfl]
    refine q1a ⟨_,rfl,a,_,_,.str w3,rfl,rfl,hS1,q0k (j:=3) rfl,w3,_,_,none,rfl,Nat.le_trans (hxl w3 (by simp)) (by decide),.inl ⟨rfl,rfl⟩,rfl,_,rfl,?_⟩
    cases hn:x3r none w3 with
    | none =>
     rw [decide_eq_true (show x7i none=V.non from rfl)]
     refine q1f (qn (fun d h=>?_) _ s1)
     rcases h.wish with ⟨_,_,e,_⟩ | ⟨_,_,_,i,e,_,_,_,hi⟩
     ·cases (List.cons.inj (List.cons.inj (List.cons.inj e).2).2).2
     ·have e3:=(List.cons.inj (List.cons.inj (List.cons.inj (List.cons.inj e).2).2).2).1
      have:x3r none w3=some i:=q7s.mpr ⟨e3,hi,rfl⟩
      rw [hn] at this
      cases this
    | some n =>
     obtain⟨rfl,h60,_⟩:=q7s.mp hn
     rw [decide_eq_false (show ¬ x7i (some n)=V.non from fun z=>by cases z)]
     refine q1a ⟨_,rfl,a,_,_,.str w0,rfl,rfl,hS1,q0k (j:=0) rfl,_,rfl,a,_,_,.str w1,rfl,rfl,hS1,q0k (j:=1) rfl,_,rfl,a,_,_,.str w2,rfl,rfl,hS1,q0k (j:=2) rfl,_,rfl,a,_,_,.str (q1d n),rfl,rfl,hS1,q0k (j:=3) rfl,q1d n,_,_,none,rfl,Nat.le_trans (hxl (q1d n) (by simp)) (by decide),.inl ⟨rfl,rfl⟩,?_⟩
     rw [hn]
     refine⟨q3j (by show 3≤1000; decide),fun p3 hp3=>⟨q3j (by show 3≤1000; decide),fun p4 hp4=>?_⟩⟩
     have s3:=q0d (o:=HO.tup [V.str w1,V.str w2,V.int n]) hp3
     have s4:=q0d (o:=HO.tup [V.str "wish",V.str w0,V.ref p3]) hp4
     exact q _ _ _ (.tup q0c (by show 3≤200; decide) (.cons (.str _ (by decide +kernel)) (.cons (x3q hn0) (.cons (.tup (s4 _ _ q0c) (by show 3≤200; decide) (.cons (.str _ (by rcases hw with rfl | rfl <;> decide +kernel)) (.cons (x3q hn2) (.cons (.int n) .nil)))) .nil)))) (.put w0 w1 w2 n hw hn0 hn2 h60) ((s1.trans s3).trans s4)
   ·rw [decide_eq_false (show ¬ V.int ((w0::w1::w2::r).map V.str).length=V.int 4 from fun z=>h4 (by have:=V.int.inj z; rw [List.length_map,List.length_cons,List.length_cons,List.length_cons] at this; omega))]
    refine q1f (q1f (qn (fun d h=>?_) _ s1))
    rcases h.wish with ⟨_,_,e,_⟩ | ⟨_,_,_,i,e,_,_,_,hi⟩
    ·rw [(List.cons.inj (List.cons.inj e).2).1] at hg; exact hg rfl
    ·rw [(List.cons.inj (List.cons.inj (List.cons.inj e).2).2).2] at h4; exact h4 rfl
  ·rw [decide_eq_false hm]
   have hm':w1 ≠ "set" ∧ w1 ≠ "add" := by simpa using hm
   exact q1f (q1f (no_of hm'.1 hm'.2 (fun z=>absurd z hg) _ s1))
end
end K1
namespace K1
open PySem L2 Kp Kz
theorem x2o {a b:Int} {x:Str} (h:x3r (some (a,b)) x=none) {i:Int} (e:x=q1d i) (h0:a≤i) (h1:i≤b) (h60:i.natAbs < 10 ^ 60):False:=by
 have:x3r (some (a,b)) x=some i:=q7s.mpr ⟨e,h60,by show (decide (a≤i) && decide (i≤b))=true; rw [decide_eq_true h0,decide_eq_true h1]; rfl⟩
 rw [h] at this
 cases this
theorem q9a {a b n:Int} {x:Str} (h:x3r (some (a,b)) x=some n):x=q1d n∧n.natAbs < 10 ^ 60∧a≤n∧n≤b:=by
 obtain⟨z1,z2,z3⟩:=q7s.mp h
 have z4:(decide (a≤n) && decide (n≤b))=true:=z3
 rw [Bool.and_eq_true,decide_eq_true_eq,decide_eq_true_eq] at z4
 exact⟨z1,z2,z4.1,z4.2⟩
section
variable {P:Program} {w:World} {K:Frag} {mg:Str→Option Value} {base:Heap}
noncomputable def j5q (K:Frag):Sp:=fun vs H Q _=>∃ (x:Str) (a:Addr) (ws:List Str),vs=[.str x,.ref a]∧x∈(["wish", "again", "turn"]:List Str)∧j4x K x a ws H Q
theorem j8o:FnScope ["_law_kind", "_law_words"] ["_law_kind", "_law_words"] (q0e q6h):=fSc
theorem j5z {f:Addr} {fd:FuncData} (F:Fun K "_law_called" "_law_called" q6h f fd) (T:Txt mg) (CN:Cal P w K mg base "_law_number" 1 ["_law_word", "_law_low", "_law_high"] z9j) (CM:Cal P w K mg base "_law_is_name" 1 ["_law_word"] z6b) (CW:Cal P w K mg base "_law_wish" 2 ["_law_words"] (j6g K)):FnOk P w K mg base CX0 3 f fd ["_law_kind", "_law_words"] (j5q K):=by
 refine F.ok j8o (fun vs H Q E ⟨_,_,_,e,_⟩=>by subst e; rfl) (fun _ A _ s H vs Q E hr h=>?_)
 obtain⟨x,a,ws,rfl,hx,hS,hwl,hxl,q,qn⟩:=h
 have r1:=hr.mono (show 1≤2 by decide)
 refine⟨_,@q0j _ _ _ _ _ (q1e (q0f q1s (pv 0) q0q (q0i _)) (@q0m _ _ _ (q0g (q0s CW hr (q1c (pv 1) q0a)))) q0h)
  (@q0j _ _ _ _ _ (q1e (PW.pt (q5j (q0f q1s (q0n q0l (by rfl) T.len PySem.boot_len (q1c (pv 1) q0a)) q0b (q0i _)) (q5b (q4e (q3h (q0s CM r1 (q0o (q1i q1b (pv 1) q0b q3t) q0a))))))) (@q0m _ _ _ (q0g q1t)) q0h)
  (@q0j _ _ _ _ _ (q1e (PW.pt (q4x (q0f q1s (pv 0) q0q (q0i _)) (q4w (q0f q1s (q0n q0l (by rfl) T.len PySem.boot_len (q1c (pv 1) q0a)) q0b (q0i _))))) (@q0m _ _ _ (q0g (q2g (q1c (pv 0) (q6q (q1i q1b (pv 1) q0b q3t) q0a))))) q0h)
  (@q0j _ _ _ _ _ (q1e (PW.pt (q4x (q0f q1s (pv 0) q0q (q0i _)) (q4x (q0f q1s (q0n q0l (by rfl) T.len PySem.boot_len (q1c (pv 1) q0a)) q0b (q0i _)) (q4w (q0f q9z (q0s CN r1 (q6q (q1i q1b (pv 1) q0b q3t) (q3r q0b (q3r q0b q0a)))) q1t (q0i _)))))) (@q0m _ _ _ (q0g (q2g (q1c (pv 0) (q6q (q1i q1b (pv 1) q0b q3t) (q9l (q0s CN r1 (q6q (q1i q1b (pv 1) q0b q3t) (q3r q0b (q3r q0b q0a)))) q0a)))))) q0h)
  (@q0m _ _ _ (q0g q1t))))),?_⟩
 have hml:(ws.map V.str).length=ws.length:=List.length_map ..
 have hxs:x = "wish" ∨ x = "again" ∨ x = "turn" := by simpa using hx
 refine⟨_,rfl,rfl,_,rfl,?_⟩
 by_cases hw:x = "wish"
 ·rw [decide_eq_true (show V.str x=V.str "wish" by rw [hw])]
  subst hw
  exact q1f ⟨_,rfl,a,ws,rfl,hS,hwl,hxl,q,qn⟩
 rw [decide_eq_false (fun z=>hw (V.str.inj z))]
 refine q1a ⟨_,rfl,a,_,rfl,.inl hS,rfl,_,rfl,?_⟩
 match ws,hS,hwl,hxl,q,qn,hml with
 | [],hS,hwl,hxl,q,qn,hml =>
  rw [decide_eq_true (show V.int ((([]:List Str).map V.str).length:Int)=V.int 0 from rfl)]
  refine q1f (q1f (qn (fun d h=>?_) _ (q1h.refl _)))
  rcases hxs with rfl | rfl | rfl
  ·exact hw rfl
  ·obtain⟨_,e,_⟩:=h.again'; cases e
  ·obtain⟨_,_,e,_⟩:=h.turn'; cases e
 | w0::r,hS,hwl,hxl,q,qn,hml =>
 rw [decide_eq_false (show ¬ V.int (((w0::r).map V.str).length:Int)=V.int 0 from fun z=>by have:=V.int.inj z; rw [List.length_map,List.length_cons] at this; omega)]
 refine q1a ⟨_,rfl,a,_,_,.str w0,rfl,rfl,hS,q0k (j:=0) rfl,w0,rfl,Nat.le_trans (hxl w0 (by simp)) (by decide),_,rfl,?_⟩
 cases hn0:q1w (.str w0) with
 | false =>
  refine q1f (qn (fun d h=>?_) _ (q1h.refl _))
  rcases hxs with rfl | rfl | rfl
  ·exact hw rfl
  ·obtain⟨_,e,z⟩:=h.again'; rw [← (List.cons.inj e).1,hn0] at z; cases z
  ·obtain⟨_,_,e,z,_⟩:=h.turn'; rw [← (List.cons.inj e).1,hn0] at z; cases z
 | true =>
 refine q1a ⟨_,rfl,rfl,_,rfl,?_⟩
 rcases hxs with rfl | rfl | rfl
 ·exact absurd rfl hw
 ·rw [decide_eq_true (show V.str ("again" : Str)=V.str "again" from rfl)]
  refine q1f ⟨_,rfl,a,_,rfl,.inl hS,rfl,_,rfl,?_⟩
  by_cases h1:r=[]
  ·subst h1
   rw [decide_eq_true (show V.int ((([w0]:List Str).map V.str).length:Int)=V.int 1 from rfl)]
   refine q1f ⟨_,rfl,_,rfl,a,_,_,.str w0,rfl,rfl,hS,q0k (j:=0) rfl,q3j (by show 2≤1000; decide),fun p1 hp1=>?_⟩
   exact q _ _ _ (.tup q0c (by show 2≤200; decide) (.cons (.str _ (by decide +kernel)) (.cons (x3q hn0) .nil))) (.again w0 hn0) (q0d hp1)
  ·rw [decide_eq_false (show ¬ V.int (((w0::r).map V.str).length:Int)=V.int 1 from fun z=>h1 (by have:=V.int.inj z; rw [List.length_map,List.length_cons] at this; exact List.length_eq_zero_iff.mp (by omega)))]
   refine q1a ⟨_,rfl,rfl,_,rfl,?_⟩
   rw [decide_eq_false (show ¬ V.str ("again" : Str)=V.str "turn" from fun z=>absurd (V.str.inj z) (by decide +kernel))]
   refine q1a (q1a (qn (fun d h=>?_) _ (q1h.refl _)))
   obtain⟨_,e,_⟩:=h.again'
   exact h1 (List.cons.inj e).2
 ·rw [decide_eq_false (show ¬ V.str ("turn" : Str)=V.str "again" from fun z=>absurd (V.str.inj z) (by decide +kernel))]
  refine q1a (q1a ⟨_,rfl,rfl,_,rfl,?_⟩)
  rw [decide_eq_true (show V.str ("turn" : Str)=V.str "turn" from rfl)]
  refine q1f ⟨_,rfl,a,_,rfl,.inl hS,rfl,_,rfl,?_⟩
  by_cases h1:r.length=1
  ·obtain⟨w1,rfl⟩:=List.length_eq_one_iff.mp h1
   rw [decide_eq_true (show V.int ((([w0,w1]:List Str).map V.str).length:Int)=V.int 2 from rfl)]
   refine q1f ⟨_,rfl,a,_,_,.str w1,rfl,rfl,hS,q0k (j:=1) rfl,w1,_,_,some (0,8),rfl,Nat.le_trans (hxl w1 (by simp)) (by decide),.inr ⟨_,_,rfl,rfl,rfl⟩,rfl,_,rfl,?_⟩
   cases hn:x3r (some (0,8)) w1 with
   | none =>
    rw [show (!decide (x7i none=V.non))=false from rfl]
    refine q1a (qn (fun d h=>?_) _ (q1h.refl _))
    obtain⟨_,i,e,_,h0,h8⟩:=h.turn'
    exact x2o hn (List.cons.inj (List.cons.inj e).2).1 h0 h8 (q8e h0 (by omega))
   | some n =>
    obtain⟨rfl,h60,h0,h8⟩:=q9a hn
    rw [show (!decide (x7i (some n)=V.non))=true from by rw [decide_eq_false (fun z=>by cases z)]; rfl]
    refine q1f ⟨_,rfl,_,rfl,a,_,_,.str w0,rfl,rfl,hS,q0k (j:=0) rfl,_,rfl,a,_,_,.str (q1d n),rfl,rfl,hS,q0k (j:=1) rfl,q1d n,_,_,some (0,8),rfl,Nat.le_trans (hxl (q1d n) (by simp)) (by decide),.inr ⟨_,_,rfl,rfl,rfl⟩,?_⟩
    rw [hn]
    refine⟨q3j (by show 3≤1000; decide),fun p1 hp1=>?_⟩
    exact q _ _ _ (.tup q0c (by show 3≤200; decide) (.cons (.str _ (by decide +kernel)) (.cons (x3q hn0) (.cons (.int n) .nil)))) (.turn w0 n hn0 h0 h8) (q0d hp1)
  ·rw [decide_eq_false (show ¬ V.int (((w0::r).map V.str).length:Int)=V.int 2 from fun z=>h1 (by have:=V.int.inj z; rw [List.length_map,List.length_cons] at this; omega))]
   refine q1a (q1a (qn (fun d h=>?_) _ (q1h.refl _)))
   obtain⟨_,_,e,_⟩:=h.turn'
   rw [(List.cons.inj e).2] at h1
   exact h1 rfl
end
end K1
namespace K1
open PySem L2 Kp Kz
section
variable {P:Program} {w:World} {K:Frag} {mg:Str→Option Value} {base:Heap}
noncomputable def j6o (K:Frag):Sp:=fun vs H Q _=>∃ (x:Str) (a:Addr) (ws:List Str),vs=[.str x,.ref a]∧j4x K x a ws H Q
theorem j4t:FnScope ["_law_kind", "_law_words", "_law_high", "_law_one"] ["_law_kind", "_law_words"] (q0e q5i):=fSc
noncomputable def tLt (K:Frag):TS:=fun D σ H=>∃ (x:Str) (a:Addr) (i:Int) (r:List Str) (h:V),σ=[some (.str x),some (.ref a),some h,some (.int i)]∧x∉(["wish", "again", "turn"]:List Str)∧(x∈(["stand", "wake", "bring", "double", "lose"]:List Str)→r≠[])∧0≤i∧i≤q9e x∧i.natAbs < 10 ^ 60∧j4x K x a (q1d i::r) H D.rt
noncomputable def tHi:TS:=fun D σ H=>∃ (x:Str) (a:Addr),σ=[some (.str x),some (.ref a),some (.int 8),none]∧∀ H',q1h H H'→D.nx [some (.str x),some (.ref a),some (.int (q9e x)),none] H'
theorem j5d {f:Addr} {fd:FuncData} (F:Fun K "_law_step_of" "_law_step_of" q5i f fd) (T:Txt mg) (CN:Cal P w K mg base "_law_number" 1 ["_law_word", "_law_low", "_law_high"] z9j) (CR:Cal P w K mg base "_law_rising" 2 ["_law_words", "_law_high"] (z6a K)) (CC:Cal P w K mg base "_law_called" 3 ["_law_kind", "_law_words"] (j5q K)):FnOk P w K mg base CX0 4 f fd ["_law_kind", "_law_words"] (j6o K):=by
 refine F.ok j4t (fun vs H Q E ⟨_,_,_,e,_⟩=>by subst e; rfl) (fun _ A _ s H vs Q E hr h=>?_)
 obtain⟨x,a,ws,rfl,hS,hwl,hxl,q,qn⟩:=h
 have r1:=hr.mono (show 1≤3 by decide)
 have r2:=hr.mono (show 2≤3 by decide)
 refine⟨_,@q0j _ _ _ _ _ (q1e (q0f x1g (pv 0) (QE.h (q4s (q0x (q0x (q0x q4g))))) rfl) (@q0m _ _ _ (q0g (q0s CC hr (q1c (pv 0) (q1c (pv 1) q0a))))) q0h)
  (@q0j _ _ _ _ _ (q0y (i:=2) j4t.nd (by rfl) (by exact Or.inl rfl) q0b)
  (@q0j _ _ _ _ _ (PS.weak6 (t':=tHi) (q1e (q0f x1g (pv 0) (QE.h (q4s (q0x (q0x (q0x q4g))))) rfl) (@q0m _ _ _ (q0y (i:=2) j4t.nd (by rfl) (by exact Or.inl rfl) q0b)) q0h) ?w1)
  (@q0j _ _ _ _ _ (q1e (PW.pt (q5j (q0f q1s (q0n q0l (by rfl) T.len PySem.boot_len (q1c (pv 1) q0a)) q0b (q0i _)) (q5b (q0f q6s (q0s CN r1 (q6q (q1i q1b (pv 1) q0b q3t) (q3r q0b (q1c (pv 2) q0a)))) q1t (q0i _))))) (@q0m _ _ _ (q0g q1t)) q0h)
  (@q0j _ _ _ _ _ (q0y (i:=3) j4t.nd (by rfl) (by exact Or.inl rfl) (q0s CN r1 (q6q (q1i q1b (pv 1) q0b q3t) (q3r q0b (q1c (pv 2) q0a)))))
  (@q0j _ _ _ _ _ (q1e (PW.pt (q4x (q0f x1g (pv 0) (QE.h (q4s (q0x (q0x (q0x (q0x (q0x q4g))))))) rfl) (q4w (q0f q1s (q0n q0l (by rfl) T.len PySem.boot_len (q1c (pv 1) q0a)) q0b (q0i _))))) (@q0m _ _ _ (q0g (q2g (q1c (pv 0) (q1c (pv 3) q0a))))) q0h)
  (PSs.weak6 (t':=tLt K) (@q0j _ _ _ _ _ (q1e (PW.pt (q4x (q0f q1s (pv 0) q0q (q0i _)) (q4w (q0f q9z (q0s CR r2 (q6q (q1g q3p (pv 1) (q1m q0b) q1p) (q3r q0b q0a))) q1t (q0i _))))) (@q0m _ _ _ (q0g (q2g (q1c (pv 0) (q1c (pv 3) (q9l (q0s CR r2 (q6q (q1g q3p (pv 1) (q1m q0b) q1p) (q3r q0b q0a))) q0a)))))) q0h)
  (@q0j _ _ _ _ _ (q1e (PW.pt (q4x (q0f q1s (pv 0) q0q (q0i _)) (q4x (q0f q1s (q0n q0l (by rfl) T.len PySem.boot_len (q1c (pv 1) q0a)) q0b (q0i _)) (q4w (q0f q9z (q0s CN r1 (q6q (q1i q1b (pv 1) q0b q3t) (q3r q0b (q3r q0b q0a)))) q1t (q0i _)))))) (@q0m _ _ _ (q0g (q2g (q1c (pv 0) (q1c (pv 3) (q9l (q0s CN r1 (q6q (q1i q1b (pv 1) q0b q3t) (q3r q0b (q3r q0b q0a)))) q0a)))))) q0h)
  (@q0j _ _ _ _ _ (q1e (PW.pt (q4x (q0f q1s (pv 0) q0q (q0i _)) (q4x (q0f q1s (q0n q0l (by rfl) T.len PySem.boot_len (q1c (pv 1) q0a)) q0b (q0i _)) (q4w (q0f q9z (q0s CN r1 (q6q (q1i q1b (pv 1) q0b q3t) (q3r q0b (q3r q0b q0a)))) q1t (q0i _)))))) (@q0m _ _ _ (q0g (q2g (q1c (pv 0) (q1c (pv 3) (q9l (q0s CN r1 (q6q (q1i q1b (pv 1) q0b q3t) (q3r q0b (q3r q0b q0a)))) q0a)))))) q0h)
  (@q0m _ _ _ (q0g q1t))))) ?w2)))))),?_⟩
 case w1 =>
  rintro D σ H ⟨x,a,rfl,q⟩
  refine⟨_,rfl,q3j (by show 3≤1000; decide),fun p hp=>⟨p,_,rfl,.inl (SqL.of q0c),rfl,rfl,_,rfl,?_⟩⟩
  have s1:=q0d (o:=HO.lst ((["bring", "double", "lose"]:List Str).map V.str)) hp
  show if (inV (V.str x) ((["bring", "double", "lose"]:List Str).map V.str))=true then _ else _
  rw [q7k]
  have q1:=q _ s1
  unfold q9e at q1
  by_cases hm:x∈(["bring", "double", "lose"]:List Str)
  ·rw [decide_eq_true hm]
   rw [if_pos hm] at q1
   exact q1f q1
  ·rw [decide_eq_false hm]
   rw [if_neg hm] at q1
   exact q1a q1
 case w2 =>
  rintro D σ H ⟨x,a,i,r,h,rfl,hxn,hx1,h0,hi,h60,hS,hwl,hxl,q,qn⟩
  have none_of:(x = "move" → ∀ ns,RisP 8 ns→ns≠[]→r=ns.map q1d→False)→(x = "beat" → ∀ j,r=[q1d j]→0≤j→j≤8→False)→(x = "pack" → ∀ j,r=[q1d j]→0≤j→j≤999999→False)→∀ {H'},q1h H H'→D.rt .non H':=fun g1 g2 g3 {H'} sH=>qn (fun d hd=>by
   obtain⟨i',r',e,_,_,hc⟩:=hd.oth hxn
   have er:=(List.cons.inj e).2
   subst er
   rcases hc with ⟨z,e2⟩ | ⟨z,ns,e2,R,hne⟩ | ⟨z,j,e2,j0,j8⟩ | ⟨z,j,e2,j0,j8⟩
   ·exact hx1 z e2
   ·exact g1 z ns R hne e2
   ·exact g2 z j e2 j0 j8
   ·exact g3 z j e2 j0 j8) _ sH
  refine⟨_,rfl,rfl,_,rfl,?_⟩
  by_cases hmv:x = "move"
  ·subst hmv
   have hi8:i≤8:=by have:=hi; unfold q9e at this; rw [if_neg (by decide +kernel)] at this; exact this
   rw [decide_eq_true (show V.str ("move" : Str)=V.str "move" from rfl)]
   refine q1f ⟨_,rfl,_,rfl,a,_,rfl,hS,fun p hp=>?_⟩
   rw [z9r,← List.map_drop,show (q1d i::r).drop 1=r from rfl]
   have s1:=q0d (o:=HO.lst (r.map V.str)) hp
   have hl1:r.length≤90000:=by have:=hwl; rw [List.length_cons] at this; omega
   refine⟨p,r,8,rfl,SqL.of q0c,by omega,fun y hy=>Nat.le_trans (hxl y (List.mem_cons_of_mem _ hy)) (by decide),fun ns p2 H2 R hne e hp2 s2=>⟨rfl,_,rfl,?_⟩,fun hno H2 s2=>⟨rfl,_,rfl,?_⟩⟩
   ·rw [show (!decide (V.ref p2=V.non))=true from by rw [decide_eq_false (fun z=>by cases z)]; rfl]
    have sA:=s1.trans s2
    refine q1f ⟨_,rfl,_,rfl,_,rfl,_,rfl,a,_,rfl,SqL.same' hS sA,fun p3 hp3=>?_⟩
    rw [z9r,← List.map_drop,show (q1d i::r).drop 1=r from rfl]
    have s3:=q0d (o:=HO.lst (r.map V.str)) hp3
    refine⟨p3,r,8,rfl,SqL.of q0c,by omega,fun y hy=>Nat.le_trans (hxl y (List.mem_cons_of_mem _ hy)) (by decide),fun ns' p4 H4 R' hne' e' hp4 s4=>⟨q3j (by show 3≤1000; decide),fun p5 hp5=>?_⟩,fun hno=>(hno ns R hne e).elim⟩
    have s5:=q0d (o:=HO.tup [V.str "move",V.int i,V.ref p4]) hp5
    obtain⟨_,h9⟩:=R'.seats hne'
    subst e'
    exact q _ _ _ (.tup q0c (by show 3≤200; decide) (.cons (.str _ (by decide +kernel)) (.cons (.int i) (.cons (.tup (s5 _ _ hp4) (by rw [List.length_map]; omega) Kz.q6k) .nil)))) (.move i ns' h0 hi8 R' hne') (((sA.trans s3).trans s4).trans s5)
   ·rw [show (!decide (V.non=V.non))=false from rfl]
    refine q1a ⟨_,rfl,rfl,_,rfl,?_⟩
    rw [decide_eq_false (show ¬ V.str ("move" : Str)=V.str "beat" from fun z=>absurd (V.str.inj z) (by decide +kernel))]
    refine q1a (q1a ⟨_,rfl,rfl,_,rfl,?_⟩)
    rw [decide_eq_false (show ¬ V.str ("move" : Str)=V.str "pack" from fun z=>absurd (V.str.inj z) (by decide +kernel))]
    exact q1a (q1a (none_of (fun _ ns R hne e=>hno ns R hne e) (fun z=>absurd z (by decide +kernel)) (fun z=>absurd z (by decide +kernel)) (s1.trans s2)))
  rw [decide_eq_false (fun z=>hmv (V.str.inj z))]
  refine q1a (q1a ⟨_,rfl,rfl,_,rfl,?_⟩)
  by_cases hbt:x = "beat"
  ·subst hbt
   have hi8:i≤8:=by have:=hi; unfold q9e at this; rw [if_neg (by decide +kernel)] at this; exact this
   rw [decide_eq_true (show V.str ("beat" : Str)=V.str "beat" from rfl)]
   refine q1f ⟨_,rfl,a,_,rfl,.inl hS,rfl,_,rfl,?_⟩
   by_cases h1:r.length=1
   ·obtain⟨w1,rfl⟩:=List.length_eq_one_iff.mp h1
    rw [decide_eq_true (show V.int (((q1d i::[w1]:List Str).map V.str).length:Int)=V.int 2 from rfl)]
    refine q1f ⟨_,rfl,a,_,_,.str w1,rfl,rfl,hS,q0k (j:=1) rfl,w1,_,_,some (0,8),rfl,Nat.le_trans (hxl w1 (by simp)) (by decide),.inr ⟨_,_,rfl,rfl,rfl⟩,rfl,_,rfl,?_⟩
    cases hn:x3r (some (0,8)) w1 with
    | none =>
     rw [show (!decide (x7i none=V.non))=false from rfl]
     refine q1a ⟨_,rfl,rfl,_,rfl,?_⟩
     rw [decide_eq_false (show ¬ V.str ("beat" : Str)=V.str "pack" from fun z=>absurd (V.str.inj z) (by decide +kernel))]
     refine q1a (q1a (none_of (fun z=>absurd z (by decide +kernel)) (fun _ j e j0 j8=>?_) (fun z=>absurd z (by decide +kernel)) (q1h.refl _)))
     exact x2o hn (List.cons.inj e).1 j0 j8 (q8e j0 (by omega))
    | some n =>
     obtain⟨rfl,n60,n0,n8⟩:=q9a hn
     rw [show (!decide (x7i (some n)=V.non))=true from by rw [decide_eq_false (fun z=>by cases z)]; rfl]
     refine q1f ⟨_,rfl,_,rfl,_,rfl,a,_,_,.str (q1d n),rfl,rfl,hS,q0k (j:=1) rfl,q1d n,_,_,some (0,8),rfl,Nat.le_trans (hxl (q1d n) (by simp)) (by decide),.inr ⟨_,_,rfl,rfl,rfl⟩,?_⟩
     rw [hn]
     refine⟨q3j (by show 3≤1000; decide),fun p1 hp1=>?_⟩
     exact q _ _ _ (.tup q0c (by show 3≤200; decide) (.cons (.str _ (by decide +kernel)) (.cons (.int i) (.cons (.int n) .nil)))) (.beat i n h0 hi8 n0 n8) (q0d hp1)
   ·rw [decide_eq_false (show ¬ V.int (((q1d i::r).map V.str).length:Int)=V.int 2 from fun z=>h1 (by have:=V.int.inj z; rw [List.length_map,List.length_cons] at this; omega))]
    refine q1a (q1a ⟨_,rfl,rfl,_,rfl,?_⟩)
    rw [decide_eq_false (show ¬ V.str ("beat" : Str)=V.str "pack" from fun z=>absurd (V.str.inj z) (by decide +kernel))]
    refine q1a (q1a (none_of (fun z=>absurd z (by decide +kernel)) (fun _ j e _ _=>?_) (fun z=>absurd z (by decide +kernel)) (q1h.refl _)))
    rw [e] at h1; exact h1 rfl
  rw [decide_eq_false (fun z=>hbt (V.str.inj z))]
  refine q1a (q1a ⟨_,rfl,rfl,_,rfl,?_⟩)
  by_cases hpk:x = "pack"
  ·subst hpk
   have hi8:i≤8:=by have:=hi; unfold q9e at this; rw [if_neg (by decide +kernel)] at this; exact this
   rw [decide_eq_true (show V.str ("pack" : Str)=V.str "pack" from rfl)]
   refine q1f ⟨_,rfl,a,_,rfl,.inl hS,rfl,_,rfl,?_⟩
   by_cases h1:r.length=1
   ·obtain⟨w1,rfl⟩:=List.length_eq_one_iff.mp h1
    rw [decide_eq_true (show V.int (((q1d i::[w1]:List Str).map V.str).length:Int)=V.int 2 from rfl)]
    refine q1f ⟨_,rfl,a,_,_,.str w1,rfl,rfl,hS,q0k (j:=1) rfl,w1,_,_,some (0,999999),rfl,Nat.le_trans (hxl w1 (by simp)) (by decide),.inr ⟨_,_,rfl,rfl,rfl⟩,rfl,_,rfl,?_⟩
    cases hn:x3r (some (0,999999)) w1 with
    | none =>
     rw [show (!decide (x7i none=V.non))=false from rfl]
     refine q1a (none_of (fun z=>absurd z (by decide +kernel)) (fun z=>absurd z (by decide +kernel)) (fun _ j e j0 j8=>?_) (q1h.refl _))
     exact x2o hn (List.cons.inj e).1 j0 j8 (q8e j0 (by omega))
    | some n =>
     obtain⟨rfl,n60,n0,n8⟩:=q9a hn
     rw [show (!decide (x7i (some n)=V.non))=true from by rw [decide_eq_false (fun z=>by cases z)]; rfl]
     refine q1f ⟨_,rfl,_,rfl,_,rfl,a,_,_,.str (q1d n),rfl,rfl,hS,q0k (j:=1) rfl,q1d n,_,_,some (0,999999),rfl,Nat.le_trans (hxl (q1d n) (by simp)) (by decide),.inr ⟨_,_,rfl,rfl,rfl⟩,?_⟩
     rw [hn]
     refine⟨q3j (by show 3≤1000; decide),fun p1 hp1=>?_⟩
     exact q _ _ _ (.tup q0c (by show 3≤200; decide) (.cons (.str _ (by decide +kernel)) (.cons (.int i) (.cons (.int n) .nil)))) (.pack i n h0 hi8 n0 n8) (q0d hp1)
   ·rw [decide_eq_false (show ¬ V.int (((q1d i::r).map V.str).length:Int)=V.int 2 from fun z=>h1 (by have:=V.int.inj z; rw [List.length_map,List.length_cons] at this; omega))]
    refine q1a (q1a (none_of (fun z=>absurd z (by decide +kernel)) (fun z=>absurd z (by decide +kernel)) (fun _ j e _ _=>?_) (q1h.refl _)))
    rw [e] at h1; exact h1 rfl
  rw [decide_eq_false (fun z=>hpk (V.str.inj z))]
  exact q1a (q1a (none_of (fun z=>absurd z hmv) (fun z=>absurd z hbt) (fun z=>absurd z hpk) (q1h.refl _)))
 refine⟨_,rfl,q3j (by show 3≤1000; decide),fun p hp=>⟨p,_,rfl,.inl (SqL.of q0c),rfl,rfl,_,rfl,?_⟩⟩
 have s1:=q0d (o:=HO.lst ((["wish", "again", "turn"]:List Str).map V.str)) hp
 show if (inV (V.str x) ((["wish", "again", "turn"]:List Str).map V.str))=true then _ else _
 rw [q7k]
 by_cases hm:x∈(["wish", "again", "turn"]:List Str)
 ·rw [decide_eq_true hm]
  exact q1f ⟨_,rfl,_,rfl,x,a,ws,rfl,hm,SqL.same' hS s1,hwl,hxl,fun v H' d I e s=>q v H' d I e (s1.trans s),fun hno H' s=>qn hno H' (s1.trans s)⟩
 rw [decide_eq_false hm]
 refine q1a ⟨x,a,rfl,fun H2 s2=>?_⟩
 have sA:=s1.trans s2
 have hS2:=SqL.same' hS sA
 refine⟨_,rfl,a,_,rfl,.inl hS2,rfl,_,rfl,?_⟩
 match ws,hS,hwl,hxl,q,qn,hS2 with
 | [],hS,hwl,hxl,q,qn,hS2 =>
  rw [decide_eq_true (show V.int ((([]:List Str).map V.str).length:Int)=V.int 0 from rfl)]
  refine q1f (q1f (qn (fun d h=>?_) _ sA))
  obtain⟨_,_,e,_⟩:=h.oth hm
  cases e
 | w0::r,hS,hwl,hxl,q,qn,hS2 =>
 rw [decide_eq_false (show ¬ V.int (((w0::r).map V.str).length:Int)=V.int 0 from fun z=>by have:=V.int.inj z; rw [List.length_map,List.length_cons] at this; omega)]
 have h9:q9e x≤999999:=by unfold q9e; split <;> decide
 refine q1a ⟨_,rfl,a,_,_,.str w0,rfl,rfl,hS2,q0k (j:=0) rfl,_,rfl,w0,_,_,some (0,q9e x),rfl,Nat.le_trans (hxl w0 (by simp)) (by decide),.inr ⟨_,_,rfl,rfl,rfl⟩,rfl,_,rfl,?_⟩
 cases hn:x3r (some (0,q9e x)) w0 with
 | none =>
  rw [decide_eq_true (show x7i none=V.non from rfl)]
  refine q1f (qn (fun d h=>?_) _ sA)
  obtain⟨i,_,e,h0,h1,_⟩:=h.oth hm
  exact x2o hn (List.cons.inj e).1 h0 h1 (q8e h0 (by omega))
 | some i =>
 obtain⟨rfl,h60,h0,hi⟩:=q9a hn
 rw [decide_eq_false (show ¬ x7i (some i)=V.non from fun z=>by cases z)]
 refine q1a ⟨_,rfl,a,_,_,.str (q1d i),rfl,rfl,hS2,q0k (j:=0) rfl,_,rfl,q1d i,_,_,some (0,q9e x),rfl,Nat.le_trans (hxl (q1d i) (by simp)) (by decide),.inr ⟨_,_,rfl,rfl,rfl⟩,?_⟩
 rw [hn]
 refine⟨_,rfl,q3j (by show 5≤1000; decide),fun p3 hp3=>⟨p3,_,rfl,.inl (SqL.of q0c),rfl,rfl,_,rfl,?_⟩⟩
 have s3:=q0d (o:=HO.lst ((["stand", "wake", "bring", "double", "lose"]:List Str).map V.str)) hp3
 have sB:=sA.trans s3
 have hS3:=SqL.same' hS2 s3
 show if (inV (V.str x) ((["stand", "wake", "bring", "double", "lose"]:List Str).map V.str))=true then _ else _
 rw [q7k]
 have tl:(x∈(["stand", "wake", "bring", "double", "lose"]:List Str)→r≠[])→tLt K { nx:=fun _ H'=>Q V.non H',rt:=Q } [some (.str x),some (.ref a),some (.int (q9e x)),some (.int i)] (upd H2 p3 (HO.lst ((["stand", "wake", "bring", "double", "lose"]:List Str).map V.str))):=fun hr0=>⟨x,a,i,r,_,rfl,hm,hr0,h0,hi,h60,hS3,hwl,hxl,fun v H' d I e s=>q v H' d I e (sB.trans s),fun hno H' s=>qn hno H' (sB.trans s)⟩
 by_cases hm5:x∈(["stand", "wake", "bring", "double", "lose"]:List Str)
 ·rw [decide_eq_true hm5]
  refine q1f ⟨_,rfl,a,_,rfl,.inl hS3,rfl,_,rfl,?_⟩
  by_cases hr0:r=[]
  ·subst hr0
   rw [decide_eq_true (show V.int ((([q1d i]:List Str).map V.str).length:Int)=V.int 1 from rfl)]
   refine q1f ⟨_,rfl,_,rfl,q3j (by show 2≤1000; decide),fun p4 hp4=>?_⟩
   have s4:=q0d (o:=HO.tup [V.str x,V.int i]) hp4
   have hxs:x = "stand" ∨ x = "wake" ∨ x = "bring" ∨ x = "double" ∨ x = "lose" := by simpa using hm5
   have hst:StE x [q1d i] (.tup [.str x,.int i]):=by
    unfold q9e at hi
    rcases hxs with rfl | rfl | rfl | rfl | rfl
    ·exact .one _ i (.inl rfl) h0 (by rw [if_neg (by decide +kernel)] at hi; exact hi)
    ·exact .one _ i (.inr rfl) h0 (by rw [if_neg (by decide +kernel)] at hi; exact hi)
    ·exact .pl _ i (.inl rfl) h0 (by rw [if_pos (by decide +kernel)] at hi; exact hi)
    ·exact .pl _ i (.inr (.inl rfl)) h0 (by rw [if_pos (by decide +kernel)] at hi; exact hi)
    ·exact .pl _ i (.inr (.inr rfl)) h0 (by rw [if_pos (by decide +kernel)] at hi; exact hi)
   exact q _ _ _ (.tup q0c (by show 2≤200; decide) (.cons (.str _ (by rcases hxs with rfl | rfl | rfl | rfl | rfl <;> decide +kernel)) (.cons (.int i) .nil))) hst (sB.trans s4)
  ·rw [decide_eq_false (show ¬ V.int (((q1d i::r).map V.str).length:Int)=V.int 1 from fun z=>hr0 (by have:=V.int.inj z; rw [List.length_map,List.length_cons] at this; exact List.length_eq_zero_iff.mp (by omega)))]
   exact q1a (tl fun _=>hr0)
 ·rw [decide_eq_false hm5]
  exact q1a (q1a (tl fun z=>absurd z hm5))
end
end K1
namespace L2
open PySem PySem.Spec PyProof.Rows
theorem z3u {f:Obj→Obj} (hf:∀ o,f (f o)=f o) (h:Heap) (T:Addr):(h.update T f).update T f=h.update T f:=by
 obtain⟨objs,l⟩:=h
 show Heap.mk ((objs.modify T f).modify T f) l=Heap.mk (objs.modify T f) l
 congr 1
 apply Array.ext
 ·simp
 ·intro i h1 h2
  simp only [Array.getElem_modify]
  split
  ·exact hf _
  ·rfl
theorem z2z (x:Value) (o:Obj):Obj.mapFields (fun vs=>vs.setIfInBounds 3 x) (Obj.mapFields (fun vs=>vs.setIfInBounds 3 x) o)=Obj.mapFields (fun vs=>vs.setIfInBounds 3 x) o:=by
 obtain⟨c,d,data,sl⟩:=o
 cases data <;> first | rfl | simp [Obj.mapFields]
theorem x8d {M:Model} {A:Around} {E:Value→Shared→Prop} {s:Shared} {env:Env} {L e T:Addr} {oe oT:Obj} {vs ts:Array Value} {fl:Value} {Q:Unit→Shared→Prop} (hf:env.frame=some L) (he:s.heap.get? e=some oe) (hd:oe.data=.fields vs) (h1:vs[1]? = some (.ref T))
  (hT:s.heap.get? T=some oT) (hTd:oT.data=.fields ts) (h3:ts[3]? = some fl) (hne:(fl==rawInt (L:Int))=false) (hTe:T≠e)
  (he':(s.heap.update T (Obj.mapFields fun x=>x.setIfInBounds 3 Value.none)).get? e=some oe) (hT':∃ oT' ts',(s.heap.update T (Obj.mapFields fun x=>x.setIfInBounds 3 Value.none)).get? T=some oT'∧oT'.data=.fields ts'∧ts'[3]? = some Value.none)
  (h:wpAny M A (noteFrame (.ref e) env) Q E { s with heap:=s.heap.update T (Obj.mapFields fun x=>x.setIfInBounds 3 Value.none) }):wpAny M A (noteFrame (.ref e) env) Q E s:=by
 intro Γ p hΓ
 have w:=h Γ p hΓ
 obtain⟨oT',ts',eT',dT',z3⟩:=hT'
 unfold noteFrame at w ⊢
 rw [hf] at w ⊢
 have wpB:∀ {α β:Type} (m:Sem α) (f:α→Sem β) (Q:β→Pos→Shared→Prop) (E:Value→Pos→Shared→Prop) (p:Pos) (s:Shared),Sem.wp M Γ (m >>= f) Q E p s=Sem.wp M Γ m (fun a p' s'=>Sem.wp M Γ (f a) Q E p' s') E p s:=fun m f Q E p s=>Sem.wp_bind M Γ m f Q E p s
 dsimp only at w ⊢
 rw [wpB,wp_field_iff] at w ⊢
 obtain⟨a,o,vs2,x,ea,eo,ed,ex,w⟩:=w
 cases ea
 have eo':=he'.symm.trans eo
 cases eo'
 rw [hd] at ed
 cases ed
 rw [h1] at ex
 cases ex
 refine⟨e,oe,vs,.ref T,rfl,he,hd,h1,?_⟩
 have hn:(Value.ref T != Value.none)=true:=rfl
 rw [if_pos hn] at w ⊢
 rw [wpB,wp_field_iff] at w ⊢
 obtain⟨a,o,vs3,x,ea,eo,ed,ex,w⟩:=w
 cases ea
 have eo':=eT'.symm.trans eo
 cases eo'
 rw [dT'] at ed
 cases ed
 rw [z3] at ex
 cases ex
 refine⟨T,oT,ts,fl,rfl,hT,hTd,h3,?_⟩
 rw [if_neg (by rw [hne]; decide)]
 rw [if_neg (show ¬ (Value.none==rawInt (L:Int))=true by rw [show (Value.none==rawInt (L:Int))=false from rfl]; decide)] at w
 rw [wpB,wp_setField_iff] at w ⊢
 obtain⟨a,o,vs4,ea,eo,ed,hi,w⟩:=w
 cases ea
 refine⟨T,oT,ts,rfl,hT,hTd,(Array.getElem?_eq_some_iff.mp h3).1,?_⟩
 rw [z3u (z2z Value.none)] at w
 exact w
theorem z4y {M:Model} {A:Around} {E:Value→Shared→Prop} {s:Shared} {env:Env} {L e T:Addr} {oe oT:Obj} {vs ts:Array Value} {fl:Value} {Q:Unit→Shared→Prop} (hf:env.frame=some L) (he:s.heap.get? e=some oe) (hd:oe.data=.fields vs) (h1:vs[1]? = some (.ref T))
  (hT:s.heap.get? T=some oT) (hTd:oT.data=.fields ts) (h3:ts[3]? = some fl) (hne:(fl==rawInt (L:Int))=true) (q:Q () s):wpAny M A (noteFrame (.ref e) env) Q E s:=by
 intro Γ p hΓ
 have wpB:∀ {α β:Type} (m:Sem α) (f:α→Sem β) (Q:β→Pos→Shared→Prop) (E:Value→Pos→Shared→Prop) (p:Pos) (s:Shared),Sem.wp M Γ (m >>= f) Q E p s=Sem.wp M Γ m (fun a p' s'=>Sem.wp M Γ (f a) Q E p' s') E p s:=fun m f Q E p s=>Sem.wp_bind M Γ m f Q E p s
 unfold noteFrame
 rw [hf]
 dsimp only
 rw [wpB,wp_field_iff]
 refine⟨e,oe,vs,.ref T,rfl,he,hd,h1,?_⟩
 rw [if_pos (show (Value.ref T != Value.none)=true from rfl),wpB,wp_field_iff]
 refine⟨T,oT,ts,fl,rfl,hT,hTd,h3,?_⟩
 rw [if_pos hne]
 exact (Sem.wp_pure M Γ () _ _ p s).symm▸q
theorem z8k {h:Heap} {T:Addr} {o:Obj} {vs:Array Value} (g:Array Value→Array Value) (e:h.get? T=some o) (hd:o.data=.fields vs):(h.update T (Obj.mapFields g)).get? T=some (Obj.mapFields g o):=by
 obtain⟨objs,l⟩:=h
 obtain⟨c,d,data,sl⟩:=o
 cases hd
 have e1:objs[T]? = some ⟨c,d,.fields vs,sl⟩:=by
  unfold Heap.get? at e
  dsimp only at e
  split at e
  ·cases e
  ·exact e
 unfold Heap.get? Heap.update
 dsimp only
 rw [Array.getElem?_modify,if_pos rfl,e1]
 rfl
theorem z4e {h h' B:Heap} {T:Addr} {o:Obj} {vs:Array Value} (e:h.get? T=some o) (hd:o.data=.fields vs) (k:∀ b,b≠T→h'.get? b=h.get? b):∀ {l:List Env},h.FunFrames B l→h'.FunFrames B l
 | [],_=>by rw [Heap.FunFrames]; trivial
 | env::rest,f=>by
  rw [Heap.FunFrames] at f ⊢
  obtain⟨f1,⟨L,oL,f2,f3,f4,f5⟩,f6⟩:=f
  refine⟨f1,⟨L,oL,f2,f3,?_,f5⟩,z4e e hd k f6⟩
  rw [k L fun z=>by rw [z,e] at f4; cases f4; exact f5 _ hd]
  exact f4
theorem x1k {M:Model} {A:Around} {E:Value→Shared→Prop} {s:Shared} {B:Heap} {env:Env} {outer:List Env} {L e:Addr} {cls a0 fl:Value} {Q:Unit→Shared→Prop} (ha:A.frames=some (env::outer)) (hf:env.frame=some L) (st:B.StaysIn s.heap) (hB:B.get? e=none) (ff:s.heap.FunFrames B (env::outer)) (tr:s.heap.TracedAtW B e cls a0 fl)
  (q:∀ h',B.FlyingW outer e cls a0 h'→s.heap.UpToSlots h'→Q () { s with heap:=h' }):wpAny M A (leaving env (.ref e)) Q E s:=by
 have tr0:=tr
 obtain⟨oe,vs,T,oT,ts,he,hc,hd,h1,hBT,hTe,hT,hTd,h3⟩:=tr
 have fin:∀ (h1:Heap) (fl':Value),B.StaysIn h1→h1.FunFrames B (env::outer)→h1.TracedAtW B e cls a0 fl'→s.heap.UpToSlots h1→wpAny M A (setFlight (.ref e) none) Q E { s with heap:=h1 }:=fun h1 fl' z1 z2 z3 z4=>by
  refine wpAny_setFlight_noneW (s:={ s with heap:=h1 }) z1 z2 z3 fun h' y1 y2 y3 y4=>?_
  refine q h' ⟨y1,hB,?_,y3⟩ (z4.trans fun b o e1 hn=>⟨o.slots,y4 b o e1 hn⟩)
  rw [Heap.FunFrames] at y2
  exact y2.2.2
 unfold leaving
 refine wpAny_bind ?_
 cases hz:(fl==rawInt (L:Int)) with
 | true=>exact z4y hf he hd h1 hT hTd h3 hz (fin s.heap fl st ff tr0 (.of_keeps fun _ _ e=>e))
 | false =>
  have kk:∀ b,b≠T→(s.heap.update T (Obj.mapFields fun x=>x.setIfInBounds 3 Value.none)).get? b=s.heap.get? b:=fun b hb=>Heap.get?_update_ne _ _ _ _ hb
  have eT':=z8k (fun x=>x.setIfInBounds 3 Value.none) hT hTd
  have dT':(Obj.mapFields (fun x=>x.setIfInBounds 3 Value.none) oT).data=.fields (ts.setIfInBounds 3 Value.none):=by
   obtain⟨c,d,data,sl⟩:=oT
   cases hTd
   rfl
  have z3:(ts.setIfInBounds 3 Value.none)[3]? = some Value.none:=by
   have:=(Array.getElem?_eq_some_iff.mp h3).1
   simp [this]
  have he':(s.heap.update T (Obj.mapFields fun x=>x.setIfInBounds 3 Value.none)).get? e=some oe:=by rw [kk e (Ne.symm hTe)]; exact he
  have st':B.StaysIn (s.heap.update T (Obj.mapFields fun x=>x.setIfInBounds 3 Value.none)):=fun b o eb=>by
   rw [kk b fun z=>by rw [z,hBT] at eb; cases eb]
   exact st b o eb
  have up:s.heap.UpToSlots (s.heap.update T (Obj.mapFields fun x=>x.setIfInBounds 3 Value.none)):=fun b o eb hn=>⟨o.slots,by
   rw [kk b fun z=>by rw [z,hT] at eb; cases eb; exact hn _ hTd]
   exact eb⟩
  refine x8d hf he hd h1 hT hTd h3 hz hTe he' ⟨_,_,eT',dT',z3⟩ ?_
  refine wpAny_noteFrame_onW (s:={ s with heap:=s.heap.update T (Obj.mapFields fun x=>x.setIfInBounds 3 Value.none) }) ha (z4e hT hTd kk ff) hf ⟨oe,vs,T,_,_,he',hc,hd,h1,hBT,hTe,eT',dT',z3⟩ st' hB fun h' nt=>?_
  exact fin h' _ nt.1 nt.2.1 nt.2.2.1 (up.trans nt.2.2.2)
noncomputable def XEb (E:XK) (X:Cx) (NB:List Str) (scope:Scope) (cl:List (Str × Addr)) (C:Addr) (fp:List Addr) (s2:Shared) (H2:Hp):Value→Shared→Prop:=fun e s'=>∃ pins σ H s,Inv (cxB X NB scope cl C fp s2 H2) pins σ H s∧CXe X.prog X.w X.stack H s E e s'
noncomputable def z2s (E:XK) (X:Cx) (NB:List Str) (scope:Scope) (cl:List (Str × Addr)) (C:Addr) (fp:List Addr) (s:Shared) (H:Hp):Cx:={ cxB X NB scope cl C fp s H with xe:=XEb E X NB scope cl C fp s H }
section
variable {E:XK} {X:Cx} {NB:List Str} {scope:Scope} {cl:List (Str × Addr)} {C:Addr} {fp:List Addr} {s2:Shared} {H2:Hp}
theorem j9l (ok:(cxB X NB scope cl C fp s2 H2).Ok):(z2s E X NB scope cl C fp s2 H2).Ok:=⟨ok.mod,ok.kind,ok.glob,ok.blt,ok.above,ok.inj,ok.has,ok.cab,ok.hd,ok.frames,ok.stk,ok.exf,ok.bs,ok.bsz,ok.noex,ok.exfs,ok.funs,ok.frf⟩
theorem okB (ok:(z2s E X NB scope cl C fp s2 H2).Ok):(cxB X NB scope cl C fp s2 H2).Ok:=⟨ok.mod,ok.kind,ok.glob,ok.blt,ok.above,ok.inj,ok.has,ok.cab,ok.hd,ok.frames,ok.stk,ok.exf,ok.bs,ok.bsz,ok.noex,ok.exfs,ok.funs,ok.frf⟩
theorem Inv.toB {pins:List (Addr × Obj)} {σ:St} {H:Hp} {s:Shared} (I:Inv (z2s E X NB scope cl C fp s2 H2) pins σ H s):Inv (cxB X NB scope cl C fp s2 H2) pins σ H s:=⟨okB I.ok,I.os,I.bare,I.base,I.loc,I.cell,I.free,I.freeC,I.pin,I.hok,I.len⟩
theorem j0p:q6a (CXe X.prog X.w) (z2s E X NB scope cl C fp s2 H2) E:=fun pins σ H s e s' I h=>⟨pins,σ,H,s,I.toB,h⟩
end
noncomputable def j5r (E:XK) (X:Cx) (NB:List Str) (scope:Scope):Prop:=∀ (pins:List (Addr × Obj)) (σ:St) (H2:Hp) (s2:Shared) (fp:List Addr) (C:Addr) (e:Value) (s':Shared),Inv X pins σ H2 s2→(∀ b∈fp,z1v X pins H2 b)→s2.heap.objs.size≤C→XEb E X NB scope (clo X.env.cells scope.names []) C fp s2 H2 e s' →
 ∀ (use:Option (Value→Sem Unit)) (QQ:Value→Shared→Prop) (acc:Value),notedBy (model X.prog X.w) X.A (compEnvC scope (clo X.env.cells scope.names []) C X.env) (fun e s''=>compPost (model X.prog X.w) X.A X.xe use QQ acc C (.error e) s'') e s'
section
variable {prog:Program} {w:World} {A:Around} {R:Result→Shared→Prop} {s:Shared}
theorem z1c {elt target iter:Expr} {ifs:List Expr} {scope:Scope} {pos:Pos} {it acc:Value} {env:Env} (I:Nat→Shared→Prop) (XE:Value→Shared→Prop) (hx:∀ e s',XE e s'→notedBy (model prog w) A env (fun e s''=>R (.error e) s'') e s')
  (turn:∀ n s,I n s→wpAny (model prog w) A (pyNext it) (fun r s1=>(r=none∧R (.ok .next) s1)∨∃ v,r=some v ∧
   wpAny (model prog w) A (letOwnedTupleGo target it v) (fun _ s2=>wpAny (model prog w) A (assign target env v) (fun _ s3 =>
    wpAny (model prog w) A (forIn ifs true fun c r=>if r=true then do let ok←isTrue c env (eval c env); pure (ForInStep.yield ok) else pure (ForInStep.yield r)) (fun ok s4 =>
     if ok=true then wpAny (model prog w) A (eval elt env) (fun x s5=>wpAny (model prog w) A (call (.builtin "list.append") [acc,x]) (fun _ s6=>∃ m,m < n∧I m s6) XE s5) XE s4
     else ∃ m,m < n∧I m s4) XE s3) XE s2) XE s1) XE s)
  (n:Nat) (h:I n s):codeAny (model prog w) A (.compLoop (.ListComp elt [⟨target,iter,ifs,0⟩] scope pos) 0 it acc env) R s:=by
 refine codeAny_loop rfl I (fun k s0 hk=>?_) n h
 show wpAny _ A (Sem.onRaise (compTurn (.ListComp elt [⟨target,iter,ifs,0⟩] scope pos) 0 it acc env) (fun x=>do noteFrame x env; theTreesLotGoes x)) _ _ s0
 refine wpAny_noted ?_
 rw [compTurn_list]
 refine wpAny_bind (wpAny_standAt (wpAny_bind (wpAny_mono (turn k s0 hk) (fun r s1 h1=>?_) hx)))
 rcases h1 with ⟨rfl,h1⟩ | ⟨v,rfl,h1⟩
 ·exact wpAny_pure h1
 ·refine wpAny_bind (wpAny_mono h1 (fun _ s2 h2=>wpAny_bind (wpAny_mono h2 (fun _ s3 h3=>wpAny_bind (wpAny_mono h3 (fun ok s4 h4=>?_) hx)) hx)) hx)
  cases ok with
  | false=>exact wpAny_pure ⟨rfl,h4⟩
  | true=>exact wpAny_bind (wpAny_bind (wpAny_mono h4 (fun x s5 h5=>wpAny_bind (wpAny_mono h5 (fun _ s6 h6=>wpAny_pure (wpAny_pure ⟨rfl,h6⟩)) hx)) hx))
end
section
variable {E:XK} {X:Cx} {elt tg iter:Expr} {ifs:List Expr} {scope:Scope} {pos:Pos} {NB:List Str} {n:Nat} {fr:List Nat} {wi:TI} {g:TG} {tt:TT} {te:TE}
theorem z0u {use:Option (Value→Sem Unit)} {QQ:Value→Shared→Prop} {pins:List (Addr × Obj)} {s:Shared} {σ:St} {H:Hp} {Q:VK} {pos2:Pos} (O:CompOk X scope NB n fr) (hc:X.calm=true) (hi:PI X tg iter wi)
  (hg:∀ cl C fp s H,PG (z2s E X NB scope cl C fp s H) tg g) (ht:∀ cl C fp s H,j0n (z2s E X NB scope cl C fp s H) ifs tt) (he:∀ cl C fp s H,PE (z2s E X NB scope cl C fp s H) elt te)
  (hs:∀ x,foldedSetIterable iter X.env x=pure x) (hE:j5r E X NB scope) (I:Inv X pins σ H s) (h:z6n n fr wi g tt te σ H Q)
  (fin0:∀ (D C:Addr) (H':Hp) (s':Shared) (m:Str→Option Value),s'.heap.Ns C m→Inv X pins σ H' s'→X.s₀.heap.objs.size≤C→H' C=none→C≠X.env.locals→(∀ x c,X.env.cells.lookup x=some c→c≠C)→(∀ p∈X.pn++pins,p.1≠C)→Q (.ref D) H' →
   compPost (model X.prog X.w) X.A X.xe use QQ (.ref D) C (.ok .next) s') :
  wpAny (model X.prog X.w) X.A (comprehension (.ListComp elt [⟨tg,iter,ifs,0⟩] scope pos) scope X.env pos2 (newList []) false (eval iter X.env) use) QQ X.xe s:=by
 have hcl:closureFor scope X.env=pure (clo X.env.cells scope.names []):=z2n fun p hp hk=>I.ok.has p.1 (O.free p hp hk)
 refine wpAny_comprehension_free (use:=use) rfl hs hcl O.kind O.names (thn (hi pins s σ H _ I h) fun v s1 h1=>thn h1 fun itv s2 h2=>?_)
 obtain⟨it,fp,tn,J,H2,e,I2,T,st2,f2,R⟩:=h2
 subst e
 have fpl:∀ b∈fp,b < s2.heap.objs.size:=fun b hb=>by
  obtain⟨o,ho,_⟩:=T.obj 0 _ st2 b hb
  exact Heap.lt_size ho
 refine wpAny_newObj_type (wpAny_newFunctionEnv O.nocell (fun y hy=>absurd hy (by simp)) (fun h1 ns1 sb1=>?_) O.kind)
 dsimp only at ns1 sb1 ⊢
 generalize hD2:s2.heap.push { cls:=.type "list",dict:=none,data:=.seq ([]:List Value).toArray }=hp2 at ns1 sb1 ⊢
 have zC:hp2.objs.size=s2.heap.objs.size+1:=by rw [← hD2,Heap.size_push]
 have kept:∀ b o,s2.heap.get? b=some o→h1.get? b=some o:=fun b o q=>by
  have lt:=Heap.lt_size q
  refine sb1.extBut b o (by rw [zC]; exact Nat.ne_of_lt (Nat.lt_succ_of_lt lt)) (Heap.get?_push_of_some _ ?_)
  rw [← hD2]
  exact Heap.get?_push_of_some _ q
 have gD:h1.get? s2.heap.objs.size=some { cls:=.type "list",data:=.seq ([]:List Value).toArray 0 }:=by
  refine sb1.extBut _ _ (by rw [zC]; exact Nat.ne_of_lt (Nat.lt_succ_self _)) (Heap.get?_push_of_some _ ?_)
  rw [← hD2]
  exact Heap.get?_push_size _ rfl
 generalize hD:s2.heap.objs.size=D at *
 have fD:H2 D=none:=I2.hok.fresh (Nat.le_of_eq hD)
 have fC:H2 hp2.objs.size=none:=I2.hok.fresh (by rw [hD,zC]; exact Nat.le_succ _)
 have nCD:hp2.objs.size≠D:=by rw [zC]; exact Nat.succ_ne_self _
 have hCle:s2.heap.objs.size≤hp2.objs.size:=by rw [hD,zC]; exact Nat.le_succ _
 have ok:=j9l (E:=E) (z8z (C:=hp2.objs.size) O I2 f2 (fun b hb=>by rw [hD]; exact fpl b hb) hCle)
 obtain⟨W,⟨m0,w0⟩,turn⟩:=R D fD
 generalize hY:z2s E X NB scope (clo X.env.cells scope.names []) hp2.objs.size fp s2 H2=Y at ok
 have eY:Y.env=compEnvC scope (clo X.env.cells scope.names []) hp2.objs.size X.env:=by rw [← hY]; rfl
 have I0:Inv Y [] (List.replicate n none++fr.map fun k=>(σ[k]?).join) (upd H2 D (.lst [])) { s2 with heap:=h1,toks:=s2.toks+([]:List (Str × Value)).length }:=by
  subst hY
  refine⟨ok,rfl,I2.bare,Un.laid kept (Nat.le_of_eq hD) fD,⟨_,ns1,fun i x v e1 e2 e3=>?_⟩,fun x c h=>?_,?_,fun x c h=>?_,fun p hp=>absurd (show p∈([]:List (Addr × Obj)) from hp) (by simp),?_,?_⟩
  ·have hin:n≤i:=by
    refine Nat.le_of_not_lt fun z=>?_
    rw [List.getElem?_append_left (by simpa using z),List.getElem?_replicate] at e2
    split at e2 <;> cases e2
   obtain⟨j,rfl⟩:=Nat.exists_eq_add_of_le hin
   rw [List.getElem?_append_right (by simp)] at e2
   simp only [List.length_replicate,Nat.add_sub_cancel_left,List.getElem?_map] at e2
   cases hk:fr[j]? with
   | none=>rw [hk] at e2; cases e2
   | some k =>
    rw [hk] at e2
    obtain⟨x',n1,n2,n3⟩:=O.own j k hk
    have e1':NB[n+j]? = some x:=e1
    rw [n1] at e1'
    cases e1'
    have e4:(σ[k]?).join=some v:=Option.some.inj e2
    have e5:σ[k]? = some (some v):=by
     cases q:σ[k]? with
     | none=>rw [q] at e4; cases e4
     | some z=>rw [q] at e4; exact congrArg some e4
    have hm:=q1v n3
    have kd:=O.free _ hm rfl
    obtain⟨m,hn,hl⟩:=I2.loc
    obtain⟨u,ru,lk⟩:=hl k x v n2 e5 (by rcases kd with z | z; exact .inr (.inl z); exact .inr (.inr z))
    refine⟨u,ru,.inr ⟨?_,?_⟩⟩
    ·show (relabel scope X.env).names.lookup x=some .cell∨(relabel scope X.env).names.lookup x=some .free
     rcases @j0i X.env x scope.names with r | r
     ·exact .inr (Eq.trans r n3)
     ·exact .inl r.2
    ·rcases lk with ⟨z,_⟩ | ⟨_,c,hc1,hc2⟩
     ·rcases kd with q | q <;> (rw [z] at q; cases q)
     ·refine⟨c,x8b hc1 scope.names [] (.inl hm),?_⟩
      obtain⟨o,ho,hd⟩:=hc2
      exact⟨o,kept c o ho,hd⟩
  ·have e1:=(q8g scope.names [] (show (clo X.env.cells scope.names []).lookup x=some c from h)).resolve_right (by intro z; cases z)
   obtain⟨v,o,ho,hd⟩:=I2.cell x c e1
   exact⟨v,o,kept c o ho,hd⟩
  ·show upd H2 D (.lst []) hp2.objs.size=none
   rw [q0r nCD]; exact fC
  ·have e1:=(q8g scope.names [] (show (clo X.env.cells scope.names []).lookup x=some c from h)).resolve_right (by intro z; cases z)
   obtain⟨v,o,ho,hd⟩:=I2.cell x c e1
   rw [q0r (by rw [← hD]; exact Nat.ne_of_lt (Heap.lt_size ho))]
   exact I2.freeC x c e1
  ·exact I2.hok.laid kept (Nat.le_of_eq hD) ⟨by simp,[],0,.nil,gD⟩
  ·show _=NB.length
   rw [O.len]; simp
 have fY:∀ {H':Hp},(∀ b∈fp,H' b=none)→∀ b∈fp,z1v Y [] H' b:=fun {H'} hn b hb=>by
  subst hY
  refine⟨hn b hb,(ok.exf b hb).1,ok.exfs b hb,.inl hb,fun x c z=>(ok.exf b hb).2 x c z,fun p hp=>absurd (show p∈([]:List (Addr × Obj)) from hp) (by simp)⟩
 have pY:Y.prog=X.prog∧Y.w=X.w∧Y.K=X.K∧Y.A=X.A∧Y.calm=true:=by subst hY; exact⟨rfl,rfl,rfl,rfl,hc⟩
 obtain⟨p1,p2,p3,p4,p5⟩:=pY
 have fin:∀ {σ':St} {H':Hp} {s':Shared},Inv Y [] σ' H' s'→Q (.ref D) H'→compPost (model X.prog X.w) X.A X.xe use QQ (.ref D) hp2.objs.size (.ok .next) s':=fun {σ' H' s'} J' q=>by
  subst hY
  obtain⟨m,hn,_⟩:=J'.loc
  have fr':H' hp2.objs.size=none:=J'.free
  have neC:∀ b o,s2.heap.get? b=some o→b≠hp2.objs.size:=fun b o e=>Nat.ne_of_lt (Nat.lt_of_lt_of_le (Heap.lt_size e) hCle)
  have J:Inv X pins σ H' s':=I2.call' (s':=s') J'.os J'.base J'.hok J'.bare fun b hb=>by
   obtain⟨_,a2,_,a4,a5,a6⟩:=f2 b hb
   exact⟨a4,a2,a5,a6⟩
  refine fin0 D _ H' s' m hn J (Nat.le_trans I2.sz hCle) fr' (Ne.symm (Nat.ne_of_lt (Nat.lt_of_lt_of_le I2.lt hCle))) (fun x c e=>?_) (fun p hp=>?_) q
  ·obtain⟨v,o,ho,_⟩:=I2.cell x c e
   exact neC c o ho
  ·exact neC _ _ (I2.pin p hp).1
 have herr:∀ e s',Y.xe e s'→notedBy (model X.prog X.w) X.A (compEnvC scope (clo X.env.cells scope.names []) hp2.objs.size X.env) (fun e s''=>compPost (model X.prog X.w) X.A X.xe use QQ (.ref D) hp2.objs.size (.error e) s'') e s':=fun e s' z=>by
  subst hY
  exact hE pins σ H2 s2 fp hp2.objs.size _ _ I2 f2 hCle z use QQ (.ref D)
 have st0:tn 0 h1:=T.keep 0 _ _ st2 fun b hb o q=>kept b o q
 have fp0:∀ b∈fp,upd H2 D (.lst []) b=none:=fun b hb=>by
  rw [q0r (Nat.ne_of_lt (fpl b hb))]; exact (f2 b hb).1
 have loop:∀ s3:Shared,s3={ s2 with heap:=h1,toks:=s2.toks+([]:List (Str × Value)).length } →
   codeAny (model X.prog X.w) X.A (.compLoop (.ListComp elt [⟨tg,iter,ifs,0⟩] scope pos) 0 (.ref it) (.ref D) (compEnvC scope (clo X.env.cells scope.names []) hp2.objs.size X.env))
    (compPost (model X.prog X.w) X.A X.xe use QQ (.ref D) hp2.objs.size) s3:=by
  rintro s3 rfl
  refine z1c (XE:=Y.xe) (fun k s'=>∃ i ys σ' H',Inv Y [] σ' H' s'∧tn i s'.heap∧(∀ b∈fp,H' b=none)∧H' D=some (.lst ys)∧W i k ys σ' H') herr ?_ m0 ⟨0,[],_,_,I0,st0,fp0,q0c,w0⟩
  rintro k s4 ⟨i,ys,σ4,H4,I4,t4,fr4,d4,w4⟩
  have hgY:PG Y tg g:=by subst hY; exact hg _ _ _ _ _
  have htY:j0n Y ifs tt:=by subst hY; exact ht _ _ _ _ _
  have heY:PE Y elt te:=by subst hY; exact he _ _ _ _ _
  rcases turn i k ys σ4 H4 w4 d4 with ⟨stop,q⟩ | ⟨go,hlen,step⟩
  ·have z:=T.done Y p1 p2 p3 p5 i [] s4 σ4 H4 Y.xe I4 (fY fr4) t4 stop
   rw [p4] at z
   exact thn z fun r s5 ⟨hr,I5⟩=>.inl ⟨hr,fin I5 q⟩
  ·have z:=T.item Y p1 p2 p3 p5 i [] s4 σ4 H4 Y.xe I4 (fY fr4) t4 go
   rw [p4] at z
   refine thn z fun r s5 ⟨u,hr,h5⟩=>.inr ⟨u,hr,thn h5 fun _ s6 ⟨x,H6,I6,r6,y6,t6,fr6⟩=>?_⟩
   have I6':=I6.pinned (fY fr6) (T.obj _ _ t6)
   have back:∀ {σ7:St} {H7:Hp} {s7:Shared},Inv Y ([]++x3o fp s6.heap) σ7 H7 s7→Inv Y [] σ7 H7 s7∧tn (i+1) s7.heap∧∀ b∈fp,H7 b=none:=fun {σ7 H7 s7} I7=>by
    refine⟨I7.unpinned,T.keep _ _ _ t6 fun b hb o e=>(I7.pin (b,o) (List.mem_append_right _ (List.mem_append_right _ (q4l hb e)))).1,fun b hb=>?_⟩
    obtain⟨o,e,_⟩:=T.obj _ _ t6 b hb
    exact (I7.pin (b,o) (List.mem_append_right _ (List.mem_append_right _ (q4l hb e)))).2.1
   have a7:=hgY _ s6 σ4 H6 x u _ I6' r6 (step x H6 y6)
   rw [p1,p2,p4,eY] at a7
   refine thn a7 fun _ s7 ⟨σ7,H7,I7,q7⟩=>?_
   have a8:=htY _ s7 σ7 H7 _ I7 q7
   rw [p1,p2,p4,eY] at a8
   refine thn a8 fun b s8 ⟨H8,I8,q8⟩=>?_
   cases b with
   | false =>
    obtain⟨d8,m',hm,w8⟩:=q8
    rw [if_neg Bool.false_ne_true]
    obtain⟨b1,b2,b3⟩:=back I8
    exact⟨m',hm,i+1,ys,σ7,H8,b1,b2,b3,d8,w8⟩
   | true =>
    rw [if_pos rfl]
    have a9:=heY _ s8 σ7 H8 _ I8 q8
    rw [p1,p2,p4,eY] at a9
    refine thn a9 fun uv s9 ⟨v,H9,I9,r9,d9,m',hm,w9⟩=>?_
    have a10:=q3y (X:=Y) _ s9 σ7 H9 (.ref D) [v] (.ref D) [uv] (fun x H'=>H'=upd H9 D (.lst (ys++[v]))) I9 rfl (.cons r9 .nil) ⟨D,ys,v,rfl,rfl,d9,hlen,rfl⟩
    rw [p1,p2,p4] at a10
    refine thn a10 fun _ s10 ⟨_,H10,I10,_,e10⟩=>?_
    subst e10
    obtain⟨b1,b2,b3⟩:=back I10
    exact⟨m',hm,i+1,_,σ7,_,b1,b2,b3,q0c,w9⟩
 refine codeAny_compStart_list (loop _ rfl) ?_
 exact T.self _ 0 _ _ _ st0 (loop _ rfl)
theorem x4k (O:CompOk X scope NB n fr) (hE:j5r E X NB scope) (hc:X.calm=true) (hi:PI X tg iter wi)
  (hg:∀ cl C fp s H,PG (z2s E X NB scope cl C fp s H) tg g) (ht:∀ cl C fp s H,j0n (z2s E X NB scope cl C fp s H) ifs tt) (he:∀ cl C fp s H,PE (z2s E X NB scope cl C fp s H) elt te)
  (hs:∀ x,foldedSetIterable iter X.env x=pure x:=by intro _; rfl):PE X (.ListComp elt [⟨tg,iter,ifs,0⟩] scope pos) (z6n n fr wi g tt te):=by
 intro pins s σ H Q I h
 rw [eval_ListComp]
 exact z0u (E:=E) (QQ:=EP X pins σ Q) O hc hi hg ht he hs hE I h fun D C H' s' m hn J h1 h2 h3 h4 h5 q=>⟨m,hn,fun h' sb=>⟨.ref D,H',J.but h1 h2 h3 h4 h5 sb,rfl,q⟩⟩
end
section
variable {P:Program} {w:World} {K:Frag} {mg:Str→Option Value} {base:Heap} {N:List Str} {qual:Str} {scp:Scope} {f:Addr} {cd:Value} {A:Around} {outer:List Env} {s:Shared} {H:Hp} {E:XK}
theorem j5y {NB:List Str} {scope:Scope}:j5r E (x3b (CXe P w) P w K mg base N qual scp f cd A outer s H E) NB scope:=by
 intro pins σ H2 s2 fp C e s' I2 f2 hC h use QQ acc
 obtain⟨pins',σ',Hc,sc,I,h⟩:=h
 obtain⟨a,cls,a0,B,H1,c,rfl,os,bare,fl,un,cov,cov2,hok,ha,hc,q⟩:=h
 have hf:(envOfC qual scp s.heap.objs.size f cd).frame=some s.heap.objs.size:=rfl
 have hfr:frs ((envOfC qual scp s.heap.objs.size f cd)::outer)=s.heap.objs.size::frs outer:=q7n hf
 have u1:Un (frs ((envOfC qual scp s.heap.objs.size f cd)::outer)) fp H2 Hc s2.heap sc.heap:=I.base
 have un':Un (frs ((envOfC qual scp s.heap.objs.size f cd)::outer)) [] Hc H1 sc.heap s'.heap:=un
 have cov':∀ b o,sc.heap.get? b=some o→Hc b=none→b∉frs ((envOfC qual scp s.heap.objs.size f cd)::outer)→B.get? b=some o:=cov
 have cov2':∀ b o,sc.heap.get? b=some o→b∉frs ((envOfC qual scp s.heap.objs.size f cd)::outer)→∃ o',B.get? b=some o':=cov2
 have fl0:Heap.FlyingW B ((envOfC qual scp s.heap.objs.size f cd)::outer) a cls a0 s'.heap:=fl
 have bs:Un (frs outer) [] H H2 s.heap s2.heap:=I2.base
 have stk:s2.heap.FunFrames base ((envOfC qual scp s.heap.objs.size f cd)::outer):=I2.stack
 have nx:∀ b:Addr,b∉([]:List Addr):=fun b z=>absurd z (by simp)
 have sz:s.heap.objs.size≤s2.heap.objs.size:=I2.sz
 obtain⟨m,⟨oC,es,ep,eC,dC,sk,nf⟩,_⟩:=I.loc
 have eC:sc.heap.get? C=some oC:=eC
 have freeC:Hc C=none:=I.free
 have nC:C∉frs ((envOfC qual scp s.heap.objs.size f cd)::outer):=fun z=>by
  obtain⟨_,o,ho,_⟩:=stk.mem z
  exact absurd (Nat.lt_of_lt_of_le (Heap.lt_size ho) hC) (Nat.lt_irrefl _)
 have eC1:B.get? C=some oC:=cov' C oC eC freeC nC
 have C1:H1 C=none:=un'.free C oC eC freeC (nx C)
 have fl':Heap.FlyingW (hideAll B [C]) ((envOfC qual scp s.heap.objs.size f cd)::outer) a cls a0 s'.heap:=PySem.W.flyingW_base (fun b o e=>PySem.W.of_hideAll _ e) fl0
 have fmem:=fl0.2.2.1
 have ne:∀ {b:Addr} {o:Obj},s.heap.get? b=some o→b∉frs outer→b∉frs ((envOfC qual scp s.heap.objs.size f cd)::outer):=fun {b o} e hb z=>by
  rw [hfr] at z
  rcases List.mem_cons.mp z with z | z
  ·exact absurd (Heap.lt_size e) (by rw [z]; exact Nat.lt_irrefl _)
  ·exact hb z
 have inn:∀ {b:Addr},b∈frs outer→b∈frs ((envOfC qual scp s.heap.objs.size f cd)::outer):=fun {b} hb=>by rw [hfr]; exact List.mem_cons_of_mem _ hb
 have nfp:∀ {b:Addr} {o:Obj},s.heap.get? b=some o→b∉fp:=fun {b o} e hb=>by
  rcases (f2 b hb).2.2.2.1 with z | z
  ·exact absurd z (nx b)
  ·exact absurd (Nat.lt_of_lt_of_le (Heap.lt_size e) z) (Nat.lt_irrefl _)
 have nbC:∀ {b:Addr} {o:Obj},s.heap.get? b=some o→b∉[C]:=fun {b o} e hb=>by
  have hb:b=C:=by simpa using hb
  exact absurd (Nat.lt_of_lt_of_le (Heap.lt_size e) (Nat.le_trans sz hC)) (by rw [hb]; exact Nat.lt_irrefl _)
 have u2:Un (frs ((envOfC qual scp s.heap.objs.size f cd)::outer)) fp H2 H1 s2.heap s'.heap:=u1.trans ⟨fun b o e n hb _=>un'.keep b o e n hb (nx b),fun b o e n hb _=>un'.slot b o e n hb (nx b),fun b o e n _=>un'.free b o e n (nx b),fun b o e _=>un'.there b o e (nx b),un'.tups,un'.frzs,un'.tbls⟩
 have hokS:HOk P w H1 s'.heap:=fun b o e=>(hok b o e).stay (fun c u hc g=>fl0.1 _ _ g) (fun _ q=>q) fun _ _ q=>q
 have J1:Inv (x3b (CXe P w) P w K mg base N qual scp f cd A outer s H E) pins σ H1 s':=I2.call' (s':=s') (os.trans I.os) u2 hokS bare fun b hb=>by
  obtain⟨_,a2,_,a4,a5,a6⟩:=f2 b hb
  exact⟨a4,a2,a5,a6⟩
 have js:Un (frs outer) [] H H1 s.heap s'.heap:=J1.base
 have covS:∀ b o,s.heap.get? b=some o→H b=none→b∉frs outer→(hideAll B [C]).get? b=some o:=fun b o e n hb=>by
  have e2:=bs.keep b o e n hb (nx b)
  have n2:=bs.free b o e n (nx b)
  have e3:=u1.keep b o e2 n2 (ne e hb) (nfp e)
  exact PySem.W.hideAll_get _ (cov' b o e3 (u1.free b o e2 n2 (nfp e)) (ne e hb)) (nbC e)
 have cov2S:∀ b o,s.heap.get? b=some o→b∉frs outer→∃ o',(hideAll B [C]).get? b=some o':=fun b o e hb=>by
  obtain⟨o1,e1⟩:=bs.there b o e (nx b)
  obtain⟨o2,e2⟩:=u1.there b o1 e1 (nfp e)
  obtain⟨o3,e3⟩:=cov2' b o2 e2 (ne e hb)
  exact⟨o3,PySem.W.hideAll_get _ e3 (nbC e)⟩
 show wpAny (model P w) (A.deeper (envOfC qual scp s.heap.objs.size f cd)) (noteFrame (.ref a) (envOfC qual scp s.heap.objs.size f cd)) _ _ s'
 refine wpAny_mono ((x0y _ _).opt hc (wpAny_looks_onW (Q:=fun _ s3=>Heap.HeldW (hideAll B [C]) ((envOfC qual scp s.heap.objs.size f cd)::outer) a cls a0 s.heap.objs.size s3.heap∧s'.heap.UpToSlots s3.heap∧s3={ s' with heap:=s3.heap }) I2.ok.frames hf fl' fun h1 held ups=>⟨held,ups,rfl⟩)) (fun _ s3 ⟨⟨held,ups,e3⟩,hc1⟩=>?_) fun _ _ z=>z
 obtain⟨h1,rfl⟩:∃ h1,s3={ s' with heap:=h1 }:=⟨_,e3⟩
 have eC':s'.heap.get? C=some oC:=fl0.1 C oC eC1
 obtain⟨slC,eC2⟩:=ups C oC eC' (by intro vs z; rw [dC] at z; cases z)
 refine⟨m,⟨_,es,ep,eC2,dC,sk,nf⟩,fun h2 sb cenv' _=>?_⟩
 obtain⟨st1,hB,ff1,oe,vs,T,oT,ts,he,hcl,hd,hv1,hBT,hTe,hT,hTd,h3⟩:=held
 have naC:a≠C:=fun z=>by
  rw [z,eC2] at he
  cases he
  rw [dC] at hd
  cases hd
 have nTC:T≠C:=fun z=>by
  rw [z,eC2] at hT
  cases hT
  rw [dC] at hTd
  cases hTd
 have k2:∀ b,b≠C→h2.get? b=h1.get? b:=sb.2
 have he2:h2.get? a=some oe:=by rw [k2 a naC]; exact he
 have hT2:h2.get? T=some oT:=by rw [k2 T nTC]; exact hT
 have hi3:3 < ts.size:=(Array.getElem?_eq_some_iff.mp h3).1
 obtain⟨fl3,efl3⟩:∃ v,v=cenv'.frame.elim Value.none fun f=>rawInt (f:Int):=⟨_,rfl⟩
 unfold PySem.passOn
 refine wpAny_bind (wpAny_field (s:={ s' with heap:=h2 }) he2 hd hv1 ?_)
 show wpAny _ _ (if (Value.ref T==Value.none)=true then _ else _) _ _ _
 rw [if_neg (show ¬ (Value.ref T==Value.none)=true by rw [show (Value.ref T==Value.none)=false from rfl]; decide)]
 refine wpAny_bind ?_
 unfold setFlight
 refine wpAny_bind (wpAny_field (s:={ s' with heap:=h2 }) he2 hd hv1 ?_)
 show wpAny _ _ (if (Value.ref T != Value.none)=true then _ else _) _ _ _
 rw [if_pos (show (Value.ref T != Value.none)=true from rfl),← efl3]
 refine wpAny_setField (s:={ s' with heap:=h2 }) hT2 hTd hi3 (wpAny_throw ?_)
 have k3:∀ b,b≠T→(h2.update T (Obj.mapFields fun x=>x.setIfInBounds 3 fl3)).get? b=h2.get? b:=fun b hb=>Heap.get?_update_ne _ _ _ _ hb
 have eT3:=z8k (fun x=>x.setIfInBounds 3 fl3) hT2 hTd
 have dT3:(Obj.mapFields (fun x=>x.setIfInBounds 3 fl3) oT).data=.fields (ts.setIfInBounds 3 fl3):=by
  obtain⟨c,d,data,sl⟩:=oT
  cases hTd
  rfl
 have z3:(ts.setIfInBounds 3 fl3)[3]? = some fl3:=by simp [hi3]
 have hBC:(hideAll B [C]).get? C=none:=PySem.W.hideAll_none _ (by simp)
 have st3:(hideAll B [C]).StaysIn (h2.update T (Obj.mapFields fun x=>x.setIfInBounds 3 fl3)):=fun b o eb=>by
  rw [k3 b (fun z=>by rw [z,hBT] at eb; cases eb),k2 b (fun z=>by rw [z,hBC] at eb; cases eb)]
  exact st1 b o eb
 have ffC:∀ {l:List Env},(∀ b∈frs l,b≠C)→h1.FunFrames (hideAll B [C]) l→h2.FunFrames (hideAll B [C]) l:=by
  intro l
  induction l with
  | nil=>intro _ _; rw [Heap.FunFrames]; trivial
  | cons env rest ih =>
   intro hn ff
   rw [Heap.FunFrames] at ff ⊢
   obtain⟨f1,⟨L,oL,f2',f3,f4,f5⟩,f6⟩:=ff
   have hfr':frs (env::rest)=L::frs rest:=q7n f2'
   refine⟨f1,⟨L,oL,f2',f3,?_,f5⟩,ih (fun b hb=>hn b (by rw [hfr']; exact List.mem_cons_of_mem _ hb)) f6⟩
   rw [k2 L (hn L (by rw [hfr']; exact List.mem_cons_self))]
   exact f4
 have ff2:=ffC (fun b hb z=>nC (by rw [← z]; exact hb)) ff1
 have ff3:=z4e hT2 hTd k3 ff2
 have he3:(h2.update T (Obj.mapFields fun x=>x.setIfInBounds 3 fl3)).get? a=some oe:=by rw [k3 a (Ne.symm hTe)]; exact he2
 show wpAny (model P w) (A.deeper (envOfC qual scp s.heap.objs.size f cd)) (leaving (envOfC qual scp s.heap.objs.size f cd) (.ref a)) _ _ { s' with heap:=h2.update T (Obj.mapFields fun x=>x.setIfInBounds 3 fl3) }
 have hc3:c=none→q4b a .none (h2.update T (Obj.mapFields fun x=>x.setIfInBounds 3 fl3)):=fun z=>by
  obtain⟨o1,v1,y1,y2,y3⟩:=hc1 z
  refine q4b.upd (fun o us d=>⟨_,Obj.data_mapFields d _,?_⟩) ⟨o1,v1,by rw [k2 a naC]; exact y1,y2,y3⟩
  rw [Array.getElem?_setIfInBounds_ne (by decide)]
 refine wpAny_mono ((q6c _ _).opt (s:={ s' with heap:=h2.update T (Obj.mapFields fun x=>x.setIfInBounds 3 fl3) }) hc3 (x1k (Q:=fun _ s4=>(hideAll B [C]).FlyingW outer a cls a0 s4.heap∧(h2.update T (Obj.mapFields fun x=>x.setIfInBounds 3 fl3)).UpToSlots s4.heap∧s4={ s' with heap:=s4.heap }) (s:={ s' with heap:=h2.update T (Obj.mapFields fun x=>x.setIfInBounds 3 fl3) }) I2.ok.frames hf st3 hB ff3 ⟨oe,vs,T,_,_,he3,hcl,hd,hv1,hBT,hTe,eT3,dT3,z3⟩ fun h4 fl4 ups4=>⟨fl4,ups4,rfl⟩)) (fun _ s4 ⟨⟨fl4,ups4,e4⟩,hc4⟩=>?_) fun _ _ z=>z
 obtain⟨h4,rfl⟩:∃ h4,s4={ s' with heap:=h4 }:=⟨_,e4⟩
 have up:∀ b o,b≠C→s'.heap.get? b=some o→(∀ vs:Array Value,o.data≠.fields vs)→∃ sl,h4.get? b=some { o with slots:=sl }:=fun b o hbC e hn=>by
  obtain⟨sl1,e1⟩:=ups b o e hn
  have e2:h2.get? b=some { o with slots:=sl1 }:=by rw [k2 b hbC]; exact e1
  have e3:(h2.update T (Obj.mapFields fun x=>x.setIfInBounds 3 fl3)).get? b=some { o with slots:=sl1 }:=by
   rw [k3 b fun z=>by rw [z,hT2] at e2; cases e2; exact hn _ hTd]
   exact e2
  obtain⟨sl4,e4⟩:=ups4 b _ e3 hn
  exact⟨sl4,e4⟩
 have inC:∀ {b:Addr},b∈frs outer→b≠C:=fun {b} hb z=>nC (by rw [← z]; exact inn hb)
 refine⟨a,cls,a0,hideAll B [C],H1,c,rfl,(os.trans I.os).trans I2.os,bare,fl4,⟨fun b o e n hb _=>fl4.1 _ _ (covS b o e n hb),fun b o e n hb _=>?_,js.free,fun b o e _=>?_,js.tups,js.frzs,js.tbls⟩,covS,cov2S,HOk.but hok C1 (fun b o hb e=>PySem.W.hideAll_get _ e (by simpa using hb)),ha,hc4,q⟩
 ·obtain⟨sl1,e1⟩:=js.slot b o e n hb (nx b)
  obtain⟨_,o3,e3,nf3⟩:=fmem.mem (inn hb)
  rw [e1] at e3
  cases e3
  obtain⟨sl4,e4⟩:=up b _ (inC hb) e1 nf3
  exact⟨sl4,e4⟩
 ·by_cases hb:b∈frs outer
  ·obtain⟨_,o3,e3,nf3⟩:=fmem.mem (inn hb)
   obtain⟨sl4,e4⟩:=up b o3 (inC hb) e3 nf3
   exact⟨_,e4⟩
  ·obtain⟨o',e'⟩:=cov2S b o e hb
   exact⟨o',fl4.1 _ _ e'⟩
end
end L2
namespace Kp
open PySem L2
end Kp
namespace L2
open PySem PySem.Spec PyProof.Rows
section
variable {X:Cx} {tg:Expr}
end
end L2
namespace K1
open PySem L2 Kp
structure Rdr (P:Program) (w:World) (K:Frag) (mg:Str→Option Value) (base:Heap) (C cN:Addr) (k:Nat) (g:Addr) (f:D→List Str):Prop where
 ex:∃ k' fd px,k'≤k∧FnOk P w K mg base (CXe P w) k' g fd [px] (x8y C cN f)∧keepIn K (.ref g)=true∧q2i K fd [px] []
inductive Rrs (P:Program) (w:World) (K:Frag) (mg:Str→Option Value) (base:Heap) (C cN:Addr) (k:Nat):List V→List (D→List Str)→Prop
 | nil:Rrs P w K mg base C cN k [] []
 | cons {g:Addr} {f:D→List Str} {gs:List V} {fs:List (D→List Str)} (h:Rdr P w K mg base C cN k g f) (t:Rrs P w K mg base C cN k gs fs):Rrs P w K mg base C cN k (.ref g::gs) (f::fs)
section
variable {P:Program} {w:World} {K:Frag} {mg:Str→Option Value} {base:Heap} {C cN:Addr} {k:Nat}
theorem Rrs.length:∀ {gs:List V} {fs:List (D→List Str)},Rrs P w K mg base C cN k gs fs→gs.length=fs.length
 | _,_,.nil=>rfl
 | _,_,.cons _ t=>by have:=t.length; simp [this]
theorem Rrs.get:∀ {gs:List V} {fs:List (D→List Str)} {i:Nat} {v:V},Rrs P w K mg base C cN k gs fs→gs[i]? = some v→∃ g f,v=.ref g∧fs[i]? = some f∧Rdr P w K mg base C cN k g f
 | _,_,0,_,.cons h t,e=>by cases e; exact⟨_,_,rfl,rfl,h⟩
 | _,_,i+1,v,.cons h t,e=>by
  obtain⟨g,f,a,b,c⟩:=Rrs.get (i:=i) (v:=v) t (by simpa using e)
  exact⟨g,f,a,by simpa using b,c⟩
end
noncomputable def z9y (P:Program) (w:World) (K:Frag) (mg:Str→Option Value) (base:Heap) (C cN:Addr) (k:Nat) (E:XK) (tf:TE) (t:TA):TE:=fun σ H Q=>tf σ H fun x H1=>∃ g f,x=.ref g∧Rdr P w K mg base C cN k g f∧t σ H1 fun vs H2=>x8y C cN f (vs++[]) H2 Q E
theorem z2d {X:Cx} {P:Program} {w:World} {K:Frag} {mg:Str→Option Value} {base:Heap} {C cN:Addr} {k:Nat} {E:XK} {x:Str} {p pos:Pos} {e:Expr} {es:List Expr} {tf:TE} {t:TA} (h1:X.prog=P) (h2:X.w=w) (h3:X.K=K) (h4:X.mg=mg) (h5:X.base=base) (hr:Room k X.A)
  (hx:q6a (CXe P w) X E) (hf:PE X (.Name x p) tf) (ha:PA X (e::es) t)
  (he:starEach (e::es) X.env=(false,eval e X.env)::starEach es X.env:=by rfl) (hpl:(backTo pos (starEach es X.env)).any (·.1)=false:=by rfl) :
  PE X (.Call (.Name x p) (e::es) [] pos) (z9y P w K mg base C cN k E tf t):=by
 subst h1 h2 h3 h4 h5
 intro pins s σ H Q I h
 obtain h':=hf pins s σ H _ I h
 refine wpAny_Call_Name_kw (thn h' fun u s0 ⟨v,H0,I0,r0,g,f,e0,T,q0⟩=>?_)
 subst e0
 cases r0
 obtain⟨k',fd,px,hk',F,hk,hb⟩:=T.ex
 have hA:=ha pos pins s0 σ H0 _ I0 q0
 exact PySem.W.callWith_K (h₀:=X.base) I.ok.mod.kin hk (thn hA fun us s1 ⟨vs,H1,I1,r,q⟩=>⟨I1.kIn,x3i F (hr.mono hk') hb .nil hx I1 r q⟩) he hpl
theorem q9p:∀ {fs:List (D→List Str)} {ds:List D} {i:Nat} {f:D→List Str} {d:D},fs[i]? = some f→ds.length=i→q0u (fs.take (i+1)) (ds++[d])=q0u (fs.take i) ds++f d
 | f::fs,[],0,_,_,e,_=>by
  cases e
  simp [q0u]
 | f::fs,d::ds,i+1,f',d',e,hl=>by
  have:=q9p (fs:=fs) (ds:=ds) (i:=i) (d:=d') (by simpa using e) (by simpa using hl)
  simp only [List.take_succ_cons,List.cons_append,q0u,this,List.append_assoc]
 | [],_,_,_,_,e,_=>by simp at e
 | _::_,[],_+1,_,_,_,hl=>by cases hl
 | _::_,_::_,0,_,_,_,hl=>by cases hl
theorem q8x {B:Nat} {H:Hp} {v:V} {d:D}:∀ {vs:List V} {ds:List D},IsL B H vs ds→Is B H v d→IsL B H (vs++[v]) (ds++[d])
 | _,_,.nil,I=>.cons I .nil
 | _,_,.cons h t,I=>.cons h (q8x t I)
theorem x1w {ds:List D} {d:D} (h:noLL ds=true) (g:x6n d=true):noLL (ds++[d])=true:=q1o.mpr fun x hx=>by
 rcases List.mem_append.mp hx with hx | hx
 ·exact q1o.mp h x hx
 ·have:x=d:=by simpa using hx
  rw [this]; exact g
theorem q8q {k:Nat} {ds:List D} {d:D} (h:smallL k ds=true) (g:q2j k d=true):smallL k (ds++[d])=true:=q1j.mpr fun x hx=>by
 rcases List.mem_append.mp hx with hx | hx
 ·exact q1j.mp h x hx
 ·have:x=d:=by simpa using hx
  rw [this]; exact g
section
variable {P:Program} {w:World} {K:Frag} {mg:Str→Option Value} {base:Heap}
noncomputable def x1r (P:Program) (w:World) (K:Frag) (mg:Str→Option Value) (base:Heap) (C cN:Addr) (k:Nat):Sp:=fun vs H Q E=>∃ (a l t:Addr) (ws:List Str) (p:Nat) (gs:List V) (fs:List (D→List Str)),vs=[.ref a,.ref t]∧Wd C a l ws p H∧(∀ H',q1l a H H'→SqT K H' t gs)∧Rrs P w K mg base C cN k gs fs∧fs.length≤100∧p≤ws.length∧ws.length≤100000∧(∀ x∈ws,x.length≤100000) ∧
 (∀ (b:Addr) (xs:List V) H' ds p',H' b=some (.tup xs)→IsL 100000 H' xs ds→ds.length=fs.length→noLL ds=true→smallL 60 ds=true→p≤p'→p'≤ws.length→ws.drop p=q0u fs ds++ws.drop p'→(fs≠[]→p < p')→Wd C a l ws p' H'→q1l a H H'→Q (.ref b) H')∧∀ H',E (.ref cN) none H'
theorem j2v:FnScope ["words", "readers"] ["words", "readers"] (q0e q2w):=fSc
theorem x2r {f:Addr} {fd:FuncData} {C cN:Addr} {kk:Nat} (F:Fun K "read_parts" "read_parts" q2w f fd) (T:Txt mg):FnOk P w K mg base (CXe P w) (kk+1) f fd ["words", "readers"] (x1r P w K mg base C cN kk):=by
 refine F.okE j2v (fun vs H Q E ⟨_,_,_,_,_,_,_,e,_⟩=>by subst e; rfl) (fun _ A _ s H vs Q E hr h=>?_)
 obtain⟨a,l,t,ws,p,gs,fs,rfl,W,hS,hR,hf100,hpl,hl,hx,q,qe⟩:=h
 refine⟨_,@q0m _ _ _ (q0g (q1q q1n (by rfl) T.tuple q1r (q0o (x4k (E:=E) (NB:=["reader", "words"]) (n:=1) (fr:=[0]) (x1e (outer:=q0e q2w) (x := "words") (by rfl) (by decide +kernel) (by rfl) (by rfl) (by rfl) (by rfl)) j5y (by rfl)
  (x2n (pv 1)) (fun _ _ _ _ _=>q1x (i:=0) (show (["reader", "words"]:List Str).Nodup by decide +kernel) (by rfl) (by exact Or.inl rfl)) (fun _ _ _ _ _=>q3a)
  (fun _ _ _ _ _=>z2d (P:=P) (w:=w) (K:=K) (mg:=mg) (base:=base) (C:=C) (cN:=cN) (k:=kk) rfl rfl rfl rfl rfl hr j0p (pv 0) (q1c (pv 1) q0a))) q0a))),?_⟩
 have hgl:=hR.length
 have hSq:=hS H (q1l.refl H)
 obtain⟨⟨dx,ha⟩,hlw⟩:=id W
 refine⟨_,rfl,t,rfl,⟨_,hSq⟩,q7h (J:=Itt K t) (a:=a) (n:=fs.length) (k:=1) (fun i ys H'=>∃ ds p',q1l a H H'∧Wd C a l ws p' H'∧IsL 100000 H' ys ds∧ds.length=i∧noLL ds=true∧smallL 60 ds=true∧p≤p'∧p'≤ws.length∧ws.drop p=q0u (fs.take i) ds++ws.drop p'∧(0 < i→p < p')) (by rw [sizeLine_eq]; omega) ⟨_,ha⟩ ?_ ?_ ?_ ?_ ?_ ?_⟩
 ·intro D hD
  have s1:=q0d (o:=HO.lst []) hD
  exact⟨[],p,q1l.of s1,W.same7 s1,.nil,rfl,rfl,rfl,Nat.le_refl _,hpl,by simp [q0u],fun z=>absurd z (by decide)⟩
 ·rintro i ys H' D zs us hD hDa hDl ⟨ds,p',s1,W1,I1,hn,hno,hsm,hp1,hp2,hdr,hlt⟩
  have nl:l≠D:=fun z=>by rw [← z,hlw] at hD; cases hD
  refine⟨ds,p',fun b o hb e=>?_,?_,I1.sameT (q3w (fun xs z=>by rw [hDl] at z; cases z)) hno,hn,hno,hsm,hp1,hp2,hdr,hlt⟩
  ·rw [q0r (fun z=>by rw [z,hD] at e; cases e)]
   exact s1 b o hb e
  ·obtain⟨⟨dx1,e1⟩,e2⟩:=W1
   exact⟨⟨dx1,by rw [q0r hDa.symm]; exact e1⟩,by rw [q0r nl]; exact e2⟩
 ·rintro i ys H' hi ⟨ds,p',s1,_⟩
  exact⟨_,gs[i]'(by omega),hS H' s1,List.getElem?_eq_getElem (by omega)⟩
 ·rintro ys H' ⟨ds,p',s1,_⟩
  exact⟨_,hS H' s1,by omega⟩
 ·rintro i ys H' tt x H2 R hi hyl ⟨ds,p',s1,W1,I1,hn,hno,hsm,hp1,hp2,hdr,hlt⟩ ht y hRR
  obtain⟨rfl,hy⟩:=y
  obtain⟨t0,rfl⟩:=q7i ht
  have hv:=hy _ (hS _ s1)
  obtain⟨g,fr,rfl,hfi,hT⟩:=hR.get hv
  refine⟨_,rfl,g,fr,rfl,hT,_,rfl,a,l,ws,p',rfl,W1,hp2,hl,hx,fun v H3 d p'' I3 n3 m3 h3 h4 d3 W3 s3=>?_,qe⟩
  have sT:x0r H2 H3:=s3.tups (fun xs z=>by
   obtain⟨⟨dx1,e1⟩,_⟩:=W1
   rw [e1] at z
   cases z)
  exact hRR [some (.ref g)] H3 v rfl s3 ⟨ds++[d],p'',s1.trans s3,W3,q8x (I1.sameT sT hno) I3,by rw [List.length_append,hn]; rfl,x1w hno n3,q8q hsm m3,by omega,h4,by rw [q9p hfi hn,List.append_assoc,← d3]; exact hdr,fun _=>by omega⟩
 ·rintro D H' ys hDa hyl ⟨ds,p',s1,W1,I1,hn,hno,hsm,hp1,hp2,hdr,hlt⟩ hd
  refine⟨D,ys,rfl,.inl ⟨SqL.of hd,fun b hb=>?_⟩⟩
  have s2:=q0d (o:=HO.tup ys) hb
  rw [List.take_length] at hdr
  exact q b ys _ ds p' q0c (I1.same s2) hn hno hsm hp1 hp2 hdr (fun hne=>hlt (List.length_pos_iff.mpr hne)) (W1.same7 s2) (s1.trans (q1l.of s2))
noncomputable def z1x (P:Program) (w:World) (K:Frag) (mg:Str→Option Value) (base:Heap) (C cN:Addr) (k:Nat):Sp:=fun vs H Q E=>∃ (a l:Addr) (x:Str) (r:V) (ws:List Str) (p:Nat),vs=[.ref a,.str x,r]∧x.length≤100000∧Wd C a l ws p H∧p≤ws.length∧ws.length≤100000∧(∀ x∈ws,x.length≤100000) ∧
 (r=.non∨∃ (t:Addr) (gs:List V) (fs:List (D→List Str)),r=.ref t∧(∀ H',SqT K H' t gs)∧Rrs P w K mg base C cN k gs fs∧fs.length≤100 ∧
  ∀ v H' ds p',Is 100000 H' v (.tup (.str x::ds))→ds.length=fs.length→noLL ds=true→smallL 60 ds=true→p≤p'→p'≤ws.length→ws.drop p=q0u fs ds++ws.drop p'→Wd C a l ws p' H'→q1l a H H'→Q v H')∧∀ H',E (.ref cN) none H'
theorem j2e:FnScope ["words", "word", "readers"] ["words", "word", "readers"] (q0e q2l):=fSc
theorem x1c {f:Addr} {fd:FuncData} {C cN:Addr} {kk:Nat} (Z:NoL7 K mg cN) (F:Fun K "read_behind_word" "read_behind_word" q2l f fd) (CP:CalE P w K mg base "read_parts" (kk+1) ["words", "readers"] (x1r P w K mg base C cN kk)):FnOk P w K mg base (CXe P w) (kk+2) f fd ["words", "word", "readers"] (z1x P w K mg base C cN kk):=by
 refine F.okE j2e (fun vs H Q E ⟨_,_,_,_,_,_,e,_⟩=>by subst e; rfl) (fun _ A _ s H vs Q E hr h=>?_)
 obtain⟨a,l,x,r,ws,p,rfl,hxl,W,hpl,hl,hx,hr2,qe⟩:=h
 refine⟨_,@q0j _ _ _ _ _ (q1e (q0f q6s (pv 2) q1t (q0i _)) (@q0m _ _ _ (q4h q3k (by rfl) (by rfl) Z.m Z.x (q3r q0q q0a))) q0h)
  (@q0m _ _ _ (q0g (q0p q9u (q2g (q1c (pv 1) q0a)) (q5q CP hr q8s (q1c (pv 0) (q1c (pv 2) q0a)))))),?_⟩
 refine⟨_,rfl,rfl,_,rfl,?_⟩
 rcases hr2 with rfl | ⟨t,gs,fs,rfl,hS,hR,hf,q⟩
 ·rw [decide_eq_true (show V.non=V.non from rfl)]
  exact q1f ⟨by decide,qe _⟩
 ·rw [decide_eq_false (show ¬ (V.ref t=V.non) by intro z; cases z)]
  refine q1a ⟨_,rfl,q3j (by show 1≤1000; decide),fun p1 h1=>?_⟩
  have s1:=q0d (o:=HO.tup [V.str x]) h1
  have na:p1≠a:=fun z=>by obtain⟨⟨dx,e⟩,_⟩:=W; rw [← z,h1] at e; cases e
  refine⟨_,rfl,_,rfl,a,l,t,ws,p,gs,fs,rfl,W.same7 s1,fun H' _=>hS H',hR,hf,hpl,hl,hx,fun b xs H2 ds p' e2 I2 hn hno hsm hp1 hp2 hdr _ W2 s2=>?_,qe⟩
  have hxl2:xs.length=ds.length:=I2.length
  refine⟨p1,b,_,xs,rfl,rfl,s2 _ _ na q0c,e2,q3j (by show 1+xs.length≤1000; omega),fun p3 H3 e3 s3=>?_⟩
  exact q _ _ ds p' (.tup e3 (by rw [List.length_append]; show 1+xs.length≤100000; omega) (.cons (.str x hxl) (I2.same s3))) hn hno hsm hp1 hp2 hdr (W2.same7 s3) ((q1l.of s1).trans (s2.trans (q1l.of s3)))
structure RTb (P:Program) (w:World) (K:Frag) (mg:Str→Option Value) (base:Heap) (C cN:Addr) (name:Str) (kk:Nat) (tw:List (Str × List (D→List Str))):Prop where
 ex:∃ a es n,mg name=some (.ref a)∧K.lookup a=some ⟨.type "dict",none,.dict es n,#[]⟩∧PySem.W.KeysLit w.params es.toList∧(a==sysModules)=false ∧
  ∀ x,(tw.lookup x=none∧findBy Value.isStrOf es x=none)∨∃ fs t gs,tw.lookup x=some fs∧fs.length≤100∧findBy Value.isStrOf es x=some (.ref t)∧(∀ H,SqT K H t gs)∧Rrs P w K mg base C cN kk gs fs
theorem q7w:FnScope ["words", "word"] ["words"] (q0e q4r):=fSc
theorem x3t {f fW:Addr} {fd dW:FuncData} {C cN:Addr} {kk:Nat} {tw:List (Str × List (D→List Str))} (Y:WoC K C) (F:Fun K "read_deed" "read_deed" q4r f fd) (MW:Meth K C "word" fW) (FW:FnOk P w K mg base (CXe P w) 2 fW dW ["self"] (q9t C cN)) (bW:q2i K dW ["self"] []) (TB:RTb P w K mg base C cN "DEED_READERS" kk tw) (CB:CalE P w K mg base "read_behind_word" (kk+2) ["words", "word", "readers"] (z1x P w K mg base C cN kk)):FnOk P w K mg base (CXe P w) (kk+3) f fd ["words"] (x8y C cN (byW tw)):=by
 refine F.okE q7w x4e (fun _ A _ s H vs Q E hr h=>?_)
 obtain⟨a,l,ws,p,rfl,W,hpl,hl,hx,q,qe⟩:=h
 obtain⟨aD,es,n,mD,lD,hK,hsys,hT⟩:=TB.ex
 refine⟨_,@q0j _ _ _ _ _ (q0y (i:=1) q7w.nd (by rfl) (by exact Or.inl rfl) (q2o (pv 0) Y.cl MW FW (hr.mono (by omega)) bW .nil q8s))
  (@q0m _ _ _ (q0g (q5q CB hr q8s (q1c (pv 0) (q1c (pv 1) (q9l (x4y (q6i (by rfl) mD) (q1c (pv 1) q0a)) q0a)))))),?_⟩
 obtain⟨⟨dx,ha⟩,_⟩:=id W
 refine⟨_,rfl,a,dx,_,rfl,ha,z4a,a,l,ws,p,rfl,W,hpl,hl,fun x H1 hat W1 s1=>?_,qe⟩
 have hlt:=(List.getElem?_eq_some_iff.mp hat).1
 have hxl:=hx x (List.mem_of_getElem? hat)
 rcases hT x with ⟨e1,e2⟩ | ⟨fs,t,gs,e1,hf,e2,hS,hR⟩
 ·exact⟨_,rfl,_,rfl,aD,es,n,rfl,lD,hK,hsys,_,rfl,x,.non,rfl,(by rw [e2]; rfl),a,l,x,.non,ws,p+1,rfl,hxl,W1,by omega,hl,hx,.inl rfl,qe⟩
 ·refine⟨_,rfl,_,rfl,aD,es,n,rfl,lD,hK,hsys,_,rfl,x,.ref t,rfl,(by rw [e2]; rfl),a,l,x,.ref t,ws,p+1,rfl,hxl,W1,by omega,hl,hx,.inr ⟨t,gs,fs,rfl,hS,hR,hf,fun v H2 ds p' I2 hn hno hsm hp1 hp2 hdr W2 s2=>?_⟩,qe⟩
  refine q v H2 (.tup (.str x::ds)) p' I2 (show (x6n (.str x) && noLL ds)=true by rw [hno]; rfl) (show (q2j 60 (.str x) && smallL 60 ds)=true by rw [hsm]; rfl) (by omega) hp2 ?_ W2 (s1.trans s2)
  rw [drop_one hat,hdr]
  show x::(q0u fs ds++ws.drop p')=(x::q0u ((tw.lookup x).getD []) ds)++ws.drop p'
  rw [e1]
  rfl
noncomputable def x8p (C cN:Addr):Sp:=fun vs H Q E=>∃ (a l:Addr) (ws:List Str) (p:Nat),vs=[.ref a]∧Wd C a l ws p H∧p≤ws.length∧ws.length≤100000∧(∀ x∈ws,x.length≤100000) ∧
 (∀ v H' (ns:List Int),Is 100000 H' v (.tup (ns.map D.int))→(∀ n∈ns,n.natAbs < 10 ^ 60)→ws.drop p=ns.map q1d→Wd C a l ws ws.length H'→q1l a H H'→Q v H')∧∀ H',E (.ref cN) none H'
theorem x5b {B:Nat} {H:Hp}:∀ ns:List Int,IsL B H (ns.map V.int) (ns.map D.int)
 | []=>.nil
 | n::ns=>.cons (.int n) (x5b ns)
theorem j4n {ws:List Str} {p p':Nat} {d:D} (h:ws.drop p=q8o d++ws.drop p') (h1:p < p') (h2:p'≤ws.length):∃ n,d=.int n:=by
 cases d with
 | int n=>exact⟨n,rfl⟩
 | _ =>
  have:=congrArg List.length h
  simp [q8o] at this
  omega
theorem x4z {f fA:Addr} {fd dA:FuncData} {C cN:Addr} (Y:WoC K C) (F:Fun K "read_rest" "read_rest" q6l f fd) (T:Txt mg) (MA:Meth K C "all_passed" fA) (FA:FnOk P w K mg base CX0 1 fA dA ["self"] (x2d C)) (bA:q2i K dA ["self"] []) (CN:CalE P w K mg base "read_number" 3 ["words"] (x8y C cN q8o)):FnOk P w K mg base (CXe P w) 4 f fd ["words"] (x8p C cN):=by
 refine F.okE z5x (fun vs H Q E ⟨_,_,_,_,e,_⟩=>by subst e; rfl) (fun _ A _ s H vs Q E hr h=>?_)
 obtain⟨a,l,ws,p,rfl,W,hple,hfew,hx,q,qe⟩:=h
 refine⟨_,@q0j _ _ _ _ _ (q0y (i:=1) z5x.nd (by rfl) (by exact Or.inl rfl) (q8w q0a))
  (@q0j _ _ _ _ _ (x9f j2m (q4e (q3h (q2o (pv 0) Y.cl MA FA (hr.mono (by decide)) bA .nil q5g)))
   (@q0m _ _ _ (x0f (q6w PySem.F.plainAttrs_list PySem.F.slot_list_append PySem.F.type_list_append q3y (pv 1) (q9l (q5q CN hr q8s (q1c (pv 0) q0a)) q0a)))))
  (@q0m _ _ _ (q0g (q1q q1n (by rfl) T.tuple q1r (q1c (pv 1) q0a))))),?_⟩
 obtain⟨⟨dx,ha⟩,hlw⟩:=id W
 refine⟨q3j (by show 0≤1000; decide),fun b hb=>?_⟩
 have ba:b≠a:=fun z=>by rw [z,ha] at hb; cases hb
 have bl:b≠l:=fun z=>by rw [z,hlw] at hb; cases hb
 refine⟨fun k σ H'=>∃ ns:List Int,σ=[some (.ref a),some (.ref b)]∧H' b=some (.lst (ns.map V.int))∧Wd C a l ws (p+ns.length) H'∧p+ns.length≤ws.length∧ws.drop p=ns.map q1d++ws.drop (p+ns.length)∧(∀ n∈ns,n.natAbs < 10 ^ 60)∧q1l a H H'∧k=ws.length - (p+ns.length),⟨ws.length - p,[],rfl,q0c,W.upd ba bl,hple,rfl,fun n hn=>(List.not_mem_nil hn).elim,q1l.of (q0d hb),rfl⟩,?_⟩
 rintro k σ H' ⟨ns,rfl,hL,W1,hle,hdr,hsm,s1,rfl⟩
 obtain⟨⟨dx1,ha1⟩,hlw1⟩:=id W1
 refine⟨_,rfl,a,dx1,_,rfl,ha1,z7t,a,l,ws,_,rfl,W1,_,rfl,?_⟩
 by_cases hin:p+ns.length < ws.length
 ·have hall:¬ (p+ns.length=ws.length):=by omega
  rw [decide_eq_false hall]
  refine q1f ?_
  refine⟨fun σ' H''=>∃ ns':List Int,σ'=[some (.ref a),some (.ref b)]∧H'' b=some (.lst (ns'.map V.int))∧Wd C a l ws (p+ns'.length) H''∧p+ns'.length≤ws.length∧ws.drop p=ns'.map q1d++ws.drop (p+ns'.length)∧(∀ n∈ns',n.natAbs < 10 ^ 60)∧q1l a H H''∧ns.length < ns'.length,fun σ' H'' ⟨ns',z1,z2,z3,z4,z5,z6,z7,z8⟩=>⟨ws.length - (p+ns'.length),by omega,ns',z1,z2,z3,z4,z5,z6,z7,rfl⟩,?_⟩
  refine⟨_,rfl,.inl ⟨rfl,_,SqL.of hL⟩,_,rfl,a,l,ws,p+ns.length,rfl,W1,hle,hfew,hx,fun v H2 d p' I2 _ sm2 hlt2 hle2 dr2 W2 s2=>?_,qe⟩
  obtain⟨n,rfl⟩:=j4n dr2 hlt2 hle2
  obtain rfl:=Is.vint I2
  have ep:p'=p+ns.length+1:=by
   have:=congrArg List.length dr2
   simp [q8o] at this
   omega
  subst ep
  have hL2:=s2 b _ ba hL
  refine⟨b,_,_,rfl,rfl,hL2,?_,ns++[n],rfl,?_,?_,?_,?_,?_,?_,?_⟩
  ·rw [List.length_map,sizeLine_eq]; omega
  ·rw [List.map_append]; exact q0c
  ·rw [List.length_append,List.length_singleton,← Nat.add_assoc]; exact W2.upd ba bl
  ·rw [List.length_append,List.length_singleton]; omega
  ·rw [hdr,dr2,List.map_append,List.length_append,List.length_singleton,← Nat.add_assoc,List.append_assoc]; rfl
  ·intro m hm
   rcases List.mem_append.mp hm with hm | hm
   ·exact hsm m hm
   ·rw [List.mem_singleton.mp hm]; exact of_decide_eq_true sm2
  ·intro c o hc e
   have hcb:c≠b:=fun z=>by rw [z,hb] at e; cases e
   rw [q0r hcb]
   exact s2 c o hc (s1 c o hc e)
  ·rw [List.length_append,List.length_singleton]; omega
 ·have hie:p+ns.length=ws.length:=by omega
  rw [decide_eq_true hie]
  refine q1a ⟨_,rfl,b,_,rfl,.inl ⟨SqL.of hL,fun t2 ht2=>?_⟩⟩
  have s2:=q0d (o:=HO.tup (ns.map V.int)) ht2
  rw [hie] at W1 hdr
  rw [List.drop_length,List.append_nil] at hdr
  have hl2:ns.length≤100000:=by omega
  exact q _ _ ns (.tup q0c (by rw [List.length_map]; exact hl2) (x5b ns)) hsm hdr (W1.same s2) (s1.trans (q1l.of s2))
noncomputable def z1z (C cN:Addr):Sp:=fun vs H Q E=>∃ (a l:Addr) (k:Str) (ws:List Str) (p:Nat),vs=[.ref a,.str k]∧Wd C a l ws p H∧p≤ws.length∧ws.length≤100000∧(∀ x∈ws,x.length≤100000) ∧
 (∀ v H' d p',Is 100000 H' v d→x6n d=true→q2j 60 d=true→p≤p'→p'≤ws.length→ws.drop p=q1k k d++ws.drop p'→Wd C a l ws p' H'→q1l a H H'→Q v H')∧∀ H',E (.ref cN) none H'
theorem z6r (ns:List Int):x6n (.tup (ns.map D.int))=true:=q1o.mpr fun d hd=>by
 obtain⟨n,_,rfl⟩:=List.mem_map.mp hd
 rfl
theorem x8a {ns:List Int} (h:∀ n∈ns,n.natAbs < 10 ^ 60):q2j 60 (.tup (ns.map D.int))=true:=q1j.mpr fun d hd=>by
 obtain⟨n,hn,rfl⟩:=List.mem_map.mp hd
 exact decide_eq_true (h n hn)
theorem x5k {f:Addr} {fd:FuncData} {C cN:Addr} {kk k1 k2 k3 k4:Nat} (F:Fun K "read_part" "read_part" q6b f fd) (C1:CalE P w K mg base "read_name" k1 ["words"] (x8y C cN x5z)) (h1:k1≤kk) (C2:CalE P w K mg base "read_deed" k2 ["words"] (x8y C cN q9b)) (h2:k2≤kk) (C3:CalE P w K mg base "read_rest" k3 ["words"] (x8p C cN)) (h3:k3≤kk) (C4:CalE P w K mg base "read_number" k4 ["words"] (x8y C cN q8o)) (h4:k4≤kk):FnOk P w K mg base (CXe P w) (kk+1) f fd ["words", "kind"] (z1z C cN):=by
 refine F.okE j3r (fun vs H Q E ⟨_,_,_,_,_,e,_⟩=>by subst e; rfl) (fun _ A _ s H vs Q E hr h=>?_)
 obtain⟨a,l,k,ws,p,rfl,W,hple,hl,hx,q,qe⟩:=h
 refine⟨_,@q0j _ _ _ _ _ (q1e (q0f q1s (pv 1) q0q (q0i _)) (@q0m _ _ _ (q0g (q5q C1 (hr.mono h1) q8s (q1c (pv 0) q0a)))) q0h)
  (@q0j _ _ _ _ _ (q1e (q0f q1s (pv 1) q0q (q0i _)) (@q0m _ _ _ (q0g (q5q C2 (hr.mono h2) q8s (q1c (pv 0) q0a)))) q0h)
  (@q0j _ _ _ _ _ (q1e (q0f q1s (pv 1) q0q (q0i _)) (@q0m _ _ _ (q0g (q5q C3 (hr.mono h3) q8s (q1c (pv 0) q0a)))) q0h)
  (@q0m _ _ _ (q0g (q5q C4 (hr.mono h4) q8s (q1c (pv 0) q0a)))))),?_⟩
 unfold q1k at q
 refine⟨_,rfl,rfl,_,rfl,?_⟩
 by_cases e1:k = "name"
 ·rw [decide_eq_true (show V.str k=V.str "name" by rw [e1])]
  rw [if_pos e1] at q
  exact q1f ⟨_,rfl,a,l,ws,p,rfl,W,hple,hl,hx,fun v H' d p' z1 z2 z3 z4 z5 z6 z7 z8=>q v H' d p' z1 z2 z3 (by omega) z5 z6 z7 z8,qe⟩
 rw [decide_eq_false (fun z=>e1 (V.str.inj z))]
 rw [if_neg e1] at q
 refine q1a ⟨_,rfl,rfl,_,rfl,?_⟩
 by_cases e2:k = "deed"
 ·rw [decide_eq_true (show V.str k=V.str "deed" by rw [e2])]
  rw [if_pos e2] at q
  exact q1f ⟨_,rfl,a,l,ws,p,rfl,W,hple,hl,hx,fun v H' d p' z1 z2 z3 z4 z5 z6 z7 z8=>q v H' d p' z1 z2 z3 (by omega) z5 z6 z7 z8,qe⟩
 rw [decide_eq_false (fun z=>e2 (V.str.inj z))]
 rw [if_neg e2] at q
 refine q1a ⟨_,rfl,rfl,_,rfl,?_⟩
 by_cases e3:k = "seats"
 ·rw [decide_eq_true (show V.str k=V.str "seats" by rw [e3])]
  rw [if_pos e3] at q
  refine q1f ⟨_,rfl,a,l,ws,p,rfl,W,hple,hl,hx,fun v H' ns I' hsm hdr W' s'=>q v H' (.tup (ns.map D.int)) ws.length I' (z6r ns) (x8a hsm) hple (Nat.le_refl _) ?_ W' s',qe⟩
  rw [List.drop_length,List.append_nil,hdr]
  exact (q5u ns).symm
 rw [decide_eq_false (fun z=>e3 (V.str.inj z))]
 rw [if_neg e3] at q
 exact q1a ⟨_,rfl,a,l,ws,p,rfl,W,hple,hl,hx,fun v H' d p' z1 z2 z3 z4 z5 z6 z7 z8=>q v H' d p' z1 z2 z3 (by omega) z5 z6 z7 z8,qe⟩
noncomputable def x9k (K:Frag) (C cN cS:Addr):Sp:=fun vs H Q E=>∃ (a l t:Addr) (ws:List Str) (p:Nat) (ks:List Str),vs=[.ref a,.ref t]∧Wd C a l ws p H∧p≤ws.length∧(∀ H',SqT K H' t (ks.map V.str))∧ks.length≤100∧ws.length≤100000∧(∀ x∈ws,x.length≤100000) ∧
 (∀ (b:Addr) (xs:List V) H' ds,H' b=some (.tup xs)→IsL 100000 H' xs ds→ds.length=ks.length→noLL ds=true→smallL 60 ds=true→ws.drop p=q0u (ks.map q1k) ds→q1l a H H'→Q (.ref b) H')∧(∀ H',E (.ref cN) none H')∧∀ H',E (.ref cS) none H'
theorem x0e {f fA:Addr} {fd dA:FuncData} {C cN cS:Addr} {kk:Nat} (hk1:1≤kk) (ZS:ExN K mg "NoSchedule" cS) (Y:WoC K C) (F:Fun K "read_parts_of" "read_parts_of" q2p f fd) (T:Txt mg) (MA:Meth K C "all_passed" fA) (FA:FnOk P w K mg base CX0 1 fA dA ["self"] (x2d C)) (bA:q2i K dA ["self"] []) (CP:CalE P w K mg base "read_part" kk ["words", "kind"] (z1z C cN)):FnOk P w K mg base (CXe P w) (kk+1) f fd ["words", "kinds"] (x9k K C cN cS):=by
 refine F.okE z8e (fun vs H Q E ⟨_,_,_,_,_,_,e,_⟩=>by subst e; rfl) (fun _ A _ s H vs Q E hr h=>?_)
 obtain⟨a,l,t,ws,p,ks,rfl,W,hple,hS,hk100,hl,hx,q,qe,qs⟩:=h
 obtain⟨gP,dP,GP,mP,kP,bP⟩:=CP.ex
 refine⟨_,@q0j _ _ _ _ _ (q0y (i:=2) z8e.nd (by rfl) (by exact Or.inl rfl) (q1q q1n (by rfl) T.tuple q1r (q0o (x4k (E:=E) (NB:=["kind", "words"]) (n:=1) (fr:=[0]) (x1e (outer:=q0e q2p) (x := "words") (by rfl) (by decide +kernel) (by rfl) (by rfl) (by rfl) (by rfl)) j5y (by rfl)
  (x2n (pv 1)) (fun _ _ _ _ _=>q1x (i:=0) (show (["kind", "words"]:List Str).Nodup by decide +kernel) (by rfl) (by exact Or.inl rfl)) (fun _ _ _ _ _=>q3a)
  (fun _ _ _ _ _=>q9n GP hr (by rfl) mP kP bP .nil j0p (q1c (pv 1) (q1c (pv 0) q0a)))) q0a)))
  (@q0j _ _ _ _ _ (q1e (q4e (q3h (q2o (pv 0) Y.cl MA FA (hr.mono hk1) bA .nil q5g))) (@q0m _ _ _ (q4h q3k (by rfl) (by rfl) ZS.m ZS.x (q3r q0q q0a))) q0h)
  (@q0m _ _ _ (q0g (pv 2)))),?_⟩
 have hks:(ks.map V.str).length=ks.length:=List.length_map ..
 have hkw:(ks.map q1k).length=ks.length:=List.length_map ..
 obtain⟨⟨dx,ha⟩,hlw⟩:=id W
 refine⟨_,rfl,t,rfl,⟨_,hS H⟩,q7h (J:=Itt K t) (a:=a) (n:=ks.length) (k:=1) (fun i ys H'=>∃ ds p',q1l a H H'∧Wd C a l ws p' H'∧IsL 100000 H' ys ds∧ds.length=i∧noLL ds=true∧smallL 60 ds=true∧p≤p'∧p'≤ws.length∧ws.drop p=q0u ((ks.map q1k).take i) ds++ws.drop p') (by rw [sizeLine_eq]; omega) ⟨_,ha⟩ ?_ ?_ ?_ ?_ ?_ ?_⟩
 ·intro D hD
  have s1:=q0d (o:=HO.lst []) hD
  exact⟨[],p,q1l.of s1,W.same s1,.nil,rfl,rfl,rfl,Nat.le_refl _,hple,by simp [q0u]⟩
 ·rintro i ys H' D zs us hD hDa hDl ⟨ds,p',s1,W1,I1,hn,hno,hsm,hp1,hp2,hdr⟩
  have nl:l≠D:=fun z=>by rw [← z,hlw] at hD; cases hD
  refine⟨ds,p',fun b o hb e=>?_,?_,I1.sameT (q3w (fun xs z=>by rw [hDl] at z; cases z)) hno,hn,hno,hsm,hp1,hp2,hdr⟩
  ·rw [q0r (fun z=>by rw [z,hD] at e; cases e)]
   exact s1 b o hb e
  ·obtain⟨⟨dx1,e1⟩,e2⟩:=W1
   exact⟨⟨dx1,by rw [q0r hDa.symm]; exact e1⟩,by rw [q0r nl]; exact e2⟩
 ·rintro i ys H' hi ⟨ds,p',s1,_⟩
  exact⟨_,(ks.map V.str)[i]'(by omega),hS H',List.getElem?_eq_getElem (by omega)⟩
 ·rintro ys H' ⟨ds,p',s1,_⟩
  exact⟨_,hS H',by omega⟩
 ·rintro i ys H' tt x H2 R hi hyl ⟨ds,p',s1,W1,I1,hn,hno,hsm,hp1,hp2,hdr⟩ ht y hRR
  obtain⟨rfl,hy⟩:=y
  obtain⟨t0,rfl⟩:=q7i ht
  have hg:=hy _ (hS _)
  rw [List.getElem?_map] at hg
  obtain⟨k,hk,rfl⟩:∃ k,ks[i]? = some k∧x=V.str k:=by
   cases z:ks[i]? with
   | none=>rw [z] at hg; cases hg
   | some k=>rw [z] at hg; exact⟨k,rfl,(Option.some.inj hg).symm⟩
  have hf1:(ks.map q1k)[i]? = some (q1k k):=by rw [List.getElem?_map,hk]; rfl
  refine⟨_,rfl,_,rfl,a,l,k,ws,p',rfl,W1,hp2,hl,hx,fun v H3 d p'' I3 n3 m3 h3 h4 d3 W3 s3=>?_,qe⟩
  have sT:x0r H2 H3:=s3.tups W1.tup_ne
  exact hRR [some (.str k)] H3 v rfl s3 ⟨ds++[d],p'',s1.trans s3,W3,q8x (I1.sameT sT hno) I3,by rw [List.length_append,hn]; rfl,x1w hno n3,q8q hsm m3,by omega,h4,by rw [q9p hf1 hn,List.append_assoc,← d3]; exact hdr⟩
 ·rintro D H' ys hDa hyl ⟨ds,p',s1,W1,I1,hn,hno,hsm,hp1,hp2,hdr⟩ hD
  refine⟨D,ys,rfl,.inl ⟨SqL.of hD,fun t2 ht2=>?_⟩⟩
  have s2:=q0d (o:=HO.tup ys) ht2
  have e:(ks.map q1k).take ks.length=ks.map q1k:=List.take_of_length_le (by omega)
  rw [e] at hdr
  have W2:=W1.same s2
  obtain⟨⟨dx2,ha2⟩,_⟩:=id W2
  refine⟨_,rfl,a,dx2,_,rfl,ha2,z7t,a,l,ws,_,rfl,W2,_,rfl,?_⟩
  by_cases hz:p'=ws.length
  ·rw [decide_eq_true hz]
   rw [hz,List.drop_length,List.append_nil] at hdr
   exact q1a ⟨_,rfl,q t2 ys _ ds q0c (I1.same s2) hn hno hsm hdr (s1.trans (q1l.of s2))⟩
  ·rw [decide_eq_false hz]
   exact q1f ⟨by decide,qs _⟩
end
theorem x4l (y:Str):J (Txt.split y " ")=y:=StrLaws.join_split y " "
section
variable {P:Program} {w:World} {K:Frag} {mg:Str→Option Value} {base:Heap}
noncomputable def z3x (cN cS:Addr):Sp:=fun vs H Q E=>∃ (y:Str),vs=[.str y]∧y.length≤90000 ∧
 (∀ (b:Addr) (xs:List V) H' ds,H' b=some (.tup xs)→IsL 100000 H' xs ds→ds.length=2→noLL ds=true→smallL 60 ds=true→y=J (("room" : Str)::q0u ((["count", "seats"]:List Str).map q1k) ds)→q1h H H'→Q (.ref b) H')∧(∀ H',E (.ref cN) none H')∧∀ H',E (.ref cS) none H'
theorem x6v {y:Str} (h:y.length≤90000):(Txt.split y " ").length≤100000∧∀ x∈Txt.split y " ",x.length≤100000:=⟨Nat.le_trans (q5t (by decide +kernel)) (by omega),fun x hx=>Nat.le_trans (q4m hx) (by omega)⟩
theorem x5i {f fI fW:Addr} {fd dI dW:FuncData} {C cN cS:Addr} {kk:Nat} (h2:2≤kk) (ZS:ExN K mg "NoSchedule" cS) (Y:WoC K C) (F:Fun K "read_room" "read_room" q6n f fd) (hC:mg "Words" = some (.ref C)) (M:Mk K C fI) (FI:FnOk P w K mg base CX0 1 fI dI ["self", "line"] (x1o C)) (bI:q2i K dI ["self", "line"] []) (MW:Meth K C "word" fW) (FW:FnOk P w K mg base (CXe P w) 2 fW dW ["self"] (q9t C cN)) (bW:q2i K dW ["self"] []) (TR:RTab6 K mg) (CP:CalE P w K mg base "read_parts_of" kk ["words", "kinds"] (x9k K C cN cS)):FnOk P w K mg base (CXe P w) (kk+1) f fd ["row"] (z3x cN cS):=by
 refine F.okE z6e (fun vs H Q E ⟨_,e,_⟩=>by subst e; rfl) (fun _ A _ s H vs Q E hr h=>?_)
 obtain⟨y,rfl,hyl,q,qe,qs⟩:=h
 obtain⟨tR,mT,hST⟩:=TR.ex
 refine⟨_,@q0j _ _ _ _ _ (q0y (i:=1) z6e.nd (by rfl) (by exact Or.inl rfl) (x5h M FI (hr.mono (by omega)) (by rfl) hC bI .nil q5g (q1c (pv 0) q0a)))
  (@q0j _ _ _ _ _ (q1e (q0f x5t (q2o (pv 1) Y.cl MW FW (hr.mono (by omega)) bW .nil q8s) q0q (q0i _)) (@q0m _ _ _ (q4h q3k (by rfl) (by rfl) ZS.m ZS.x (q3r q0q q0a))) q0h)
  (@q0m _ _ _ (q0g (q5q CP hr q8s (q1c (pv 1) (q1c (q6i (by rfl) mT) q0a)))))),?_⟩
 have hy:y.length+1≤sizeLine:=by rw [sizeLine_eq]; omega
 obtain⟨hfew,hwl⟩:=x6v hyl
 refine⟨_,rfl,fun a dx ha hdx hne=>⟨a,dx,_,rfl,q0c,hy,fun l H1 hl W1 s1=>⟨rfl,?_⟩⟩⟩
 have sH1:q1h H H1:=fun b o e=>s1 b o (fun z=>by rw [z,ha] at e; cases e) (by
  rw [q0r (fun z=>by rw [z,ha] at e; cases e),q0r (fun z=>by rw [z,hdx] at e; cases e)]
  exact e)
 have sB:∀ {H2 H3:Hp},q1h H H2→q1l a H2 H3→q1h H H3:=fun {H2 H3} u v b o e=>v b o (fun z=>by rw [z,ha] at e; cases e) (u b o e)
 have hJ:=x4l y
 generalize Txt.split y " " = ws at W1 hfew hwl hJ
 obtain⟨⟨dx1,ha1⟩,_⟩:=id W1
 refine⟨_,rfl,a,dx1,_,rfl,ha1,z4a,a,l,ws,0,rfl,W1,Nat.zero_le _,hfew,fun x H2 hat W2 s2=>⟨rfl,_,rfl,?_⟩,qe⟩
 by_cases hx:x = "room"
 ·subst hx
  have hlt:=(List.getElem?_eq_some_iff.mp hat).1
  have hd0:ws=("room" : Str)::ws.drop 1:=drop_one hat
  rw [show (!decide (V.str ("room" : Str)=V.str "room"))=false by rw [decide_eq_true rfl]; rfl]
  refine q1a ⟨_,rfl,a,l,tR,ws,1,["count", "seats"],rfl,W2,by omega,hST,by decide,hfew,hwl,fun b xs H3 ds hb hI hn hno hsm hdr s3=>q b xs H3 ds hb hI hn hno hsm ?_ (sB (sB sH1 s2) s3),qe,qs⟩
  rw [← hJ,← hdr,← hd0]
 ·rw [decide_eq_false (show ¬ V.str x=V.str "room" from fun z=>hx (V.str.inj z))]
  exact q1f ⟨by decide,qs _⟩
noncomputable def z5e (cN cS:Addr):Sp:=fun vs H Q E=>∃ (y:Str),vs=[.str y]∧y.length≤90000 ∧
 (∀ v H' d,Is 100000 H' v d→x6n d=true→q2j 60 d=true→y=J (q3d d)→q1h H H'→Q v H')∧(∀ H',E (.ref cN) none H')∧∀ H',E (.ref cS) none H'
theorem x4a {f fI fW:Addr} {fd dI dW:FuncData} {C cN cS:Addr} {kk:Nat} (h2:2≤kk) (ZS:ExN K mg "NoSchedule" cS) (Y:WoC K C) (F:Fun K "read_deed_of_schedule" "read_deed_of_schedule" q2b f fd) (hC:mg "Words" = some (.ref C)) (M:Mk K C fI) (FI:FnOk P w K mg base CX0 1 fI dI ["self", "line"] (x1o C)) (bI:q2i K dI ["self", "line"] []) (MW:Meth K C "word" fW) (FW:FnOk P w K mg base (CXe P w) 2 fW dW ["self"] (q9t C cN)) (bW:q2i K dW ["self"] []) (TB:PTab K mg w) (CP:CalE P w K mg base "read_parts_of" kk ["words", "kinds"] (x9k K C cN cS)):FnOk P w K mg base (CXe P w) (kk+1) f fd ["row"] (z5e cN cS):=by
 refine F.okE z1j (fun vs H Q E ⟨_,e,_⟩=>by subst e; rfl) (fun _ A _ s H vs Q E hr h=>?_)
 obtain⟨y,rfl,hyl,q,qe,qs⟩:=h
 obtain⟨aD,es,n,mD,lD,hK,hsys,hT⟩:=TB.ex
 refine⟨_,@q0j _ _ _ _ _ (q0y (i:=1) z1j.nd (by rfl) (by exact Or.inl rfl) (x5h M FI (hr.mono (by omega)) (by rfl) hC bI .nil q5g (q1c (pv 0) q0a)))
  (@q0j _ _ _ _ _ (q0y (i:=2) z1j.nd (by rfl) (by exact Or.inl rfl) (q2o (pv 1) Y.cl MW FW (hr.mono (by omega)) bW .nil q8s))
  (@q0j _ _ _ _ _ (q1e (q0f x7b (pv 2) (q6i (by rfl) mD) (by rfl)) (@q0m _ _ _ (q4h q3k (by rfl) (by rfl) ZS.m ZS.x (q3r q0q q0a))) q0h)
  (@q0m _ _ _ (q0g (q0p q9u (q2g (q1c (pv 2) q0a)) (q5q CP hr q8s (q1c (pv 1) (q6q (z8u (q6i (by rfl) mD) (pv 2) (fun _ _=>rfl)) q0a)))))))),?_⟩
 have hy:y.length+1≤sizeLine:=by rw [sizeLine_eq]; omega
 obtain⟨hfew,hwl⟩:=x6v hyl
 refine⟨_,rfl,fun a dx ha hdx hne=>⟨a,dx,_,rfl,q0c,hy,fun l H1 hl W1 s1=>⟨rfl,?_⟩⟩⟩
 have sH1:q1h H H1:=fun b o e=>s1 b o (fun z=>by rw [z,ha] at e; cases e) (by
  rw [q0r (fun z=>by rw [z,ha] at e; cases e),q0r (fun z=>by rw [z,hdx] at e; cases e)]
  exact e)
 have sB:∀ {H2 H3:Hp},q1h H H2→q1l a H2 H3→q1h H H3:=fun {H2 H3} u v b o e=>v b o (fun z=>by rw [z,ha] at e; cases e) (u b o e)
 have hJ:=x4l y
 generalize Txt.split y " " = ws at W1 hfew hwl hJ
 obtain⟨⟨dx1,ha1⟩,_⟩:=id W1
 refine⟨_,rfl,a,dx1,_,rfl,ha1,z4a,a,l,ws,0,rfl,W1,Nat.zero_le _,hfew,fun x H2 hat W2 s2=>?_,qe⟩
 refine⟨_,rfl,x,aD,es,n,rfl,rfl,lD,hK,hsys,_,rfl,?_⟩
 have hlt:=(List.getElem?_eq_some_iff.mp hat).1
 have hd0:ws=x::ws.drop 1:=drop_one hat
 rcases hT x with ⟨z1,z2⟩ | ⟨ks,t,ek,eft,hSt⟩
 ·rw [z2]
  exact q1f ⟨by decide,qs _⟩
 rw [eft]
 refine q1a ⟨_,rfl,q3j (by show 1≤1000; decide),fun p1 hp1=>?_⟩
 have s3:=q0d (o:=HO.tup [V.str x]) hp1
 refine⟨_,rfl,_,rfl,aD,es,n,x,.ref t,_,rfl,rfl,lD,hK,eft,rfl,?_⟩
 have hf2:=(q5v ek).1
 refine⟨a,l,t,ws,1,ks,rfl,W2.same s3,by omega,hSt,by omega,hfew,hwl,fun b xs H4 ds hb hI hn hno hsm hdr s4=>?_,qe,qs⟩
 have hp1a:p1≠a:=fun z=>by
  obtain⟨⟨dx2,e2⟩,_⟩:=W2
  rw [z,e2] at hp1; cases hp1
 have hlx:=hI.length
 refine⟨p1,b,_,xs,rfl,rfl,s4 _ _ hp1a q0c,hb,q3j (by show 1+xs.length≤1000; omega),fun p5 H5 e5 s5=>?_⟩
 refine q _ _ (.tup (.str x::ds)) (.tup e5 (by rw [List.length_append,List.length_singleton]; omega) (.cons (.str x (by have:=q5h (q9f ek); omega)) (hI.same s5))) (show (x6n (.str x) && noLL ds)=true by rw [hno]; rfl) (show (q2j 60 (.str x) && smallL 60 ds)=true by rw [hsm]; rfl) ?_ (((sB (sB sH1 s2) (q1l.of s3)) |> fun z=>sB z s4).trans s5)
 show _=J (x::q0u (((q2n.lookup x).getD []).map q1k) ds)
 rw [ek,Option.getD_some,← hdr,← hd0,hJ]
end
end K1
namespace L2
open PySem PySem.Spec PyProof.Rows
noncomputable def x7r (X:Cx) (E:XK):Prop:=∀ (pins:List (Addr × Obj)) (σ:St) (H2:Hp) (s2 s':Shared) (h2:Heap) (a:Addr) (cls a0:Value) (B:Heap) (H1:Hp) (c:Option Addr),Inv X pins σ H2 s2→s'.os=s2.os→AllBare s'.gens→Heap.FlyingW B X.stack a cls a0 s'.heap→Un (frs X.stack) [] H2 H1 s2.heap s'.heap →
 (∀ b o,s2.heap.get? b=some o→H2 b=none→b∉frs X.stack→B.get? b=some o)→(∀ b o,s2.heap.get? b=some o→b∉frs X.stack→∃ o',B.get? b=some o')→HOk X.prog X.w H1 B→H1 a=none→(c=none→q4b a .none h2)→E cls c H1→Heap.HeldW B X.stack a cls a0 X.env.locals h2→s'.heap.UpToSlots h2→X.xe (.ref a) { s' with heap:=h2 }
section
variable {P:Program} {w:World} {K:Frag} {mg:Str→Option Value} {base:Heap} {N:List Str} {qual:Str} {scope:Scope} {f:Addr} {cd:Value} {A:Around} {outer:List Env} {s:Shared} {H:Hp} {E:XK}
theorem j6b:x7r (x3b (CXe P w) P w K mg base N qual scope f cd A outer s H E) E:=by
 intro pins σ H2 s2 s' h2 a cls a0 B H1 c I os bare fl un cov cov2 hok ha hc q hh up2
 have hf:(envOfC qual scope s.heap.objs.size f cd).frame=some s.heap.objs.size:=rfl
 have hfr:frs ((envOfC qual scope s.heap.objs.size f cd)::outer)=s.heap.objs.size::frs outer:=q7n hf
 have un':Un (frs ((envOfC qual scope s.heap.objs.size f cd)::outer)) [] H2 H1 s2.heap s'.heap:=un
 have cov':∀ b o,s2.heap.get? b=some o→H2 b=none→b∉frs ((envOfC qual scope s.heap.objs.size f cd)::outer)→B.get? b=some o:=cov
 have cov2':∀ b o,s2.heap.get? b=some o→b∉frs ((envOfC qual scope s.heap.objs.size f cd)::outer)→∃ o',B.get? b=some o':=cov2
 have fl':Heap.FlyingW B ((envOfC qual scope s.heap.objs.size f cd)::outer) a cls a0 s'.heap:=fl
 have hh':Heap.HeldW B ((envOfC qual scope s.heap.objs.size f cd)::outer) a cls a0 s.heap.objs.size h2:=hh
 have bs:Un (frs outer) [] H H2 s.heap s2.heap:=I.base
 have ne:∀ {b:Addr} {o:Obj},s.heap.get? b=some o→b∉frs outer→b∉frs ((envOfC qual scope s.heap.objs.size f cd)::outer):=fun {b o} e hb z=>by
  rw [hfr] at z
  rcases List.mem_cons.mp z with z | z
  ·exact absurd (Heap.lt_size e) (by rw [z]; exact Nat.lt_irrefl _)
  ·exact hb z
 have inn:∀ {b:Addr},b∈frs outer→b∈frs ((envOfC qual scope s.heap.objs.size f cd)::outer):=fun {b} hb=>by rw [hfr]; exact List.mem_cons_of_mem _ hb
 have nx:∀ b:Addr,b∉([]:List Addr):=fun b z=>absurd z (by simp)
 obtain⟨g1,g2,g3,g4⟩:=hh'
 show wpAny (model P w) (A.deeper (envOfC qual scope s.heap.objs.size f cd)) (leaving (envOfC qual scope s.heap.objs.size f cd) (.ref a)) _ _ { s' with heap:=h2 }
 refine wpAny_mono ((q6c _ _).opt (s:={ s' with heap:=h2 }) hc (x1k (s:={ s' with heap:=h2 }) (Q:=fun _ s3=>Heap.FlyingW B outer a cls a0 s3.heap∧h2.UpToSlots s3.heap∧s3={ s' with heap:=s3.heap }) (I.ok.frames) hf g1 g2 g3 g4 fun h' fl2 ups=>⟨fl2,ups,rfl⟩)) (fun _ s3 ⟨⟨fl2,ups0,e3⟩,hc2⟩=>?_) fun _ _ z=>z
 obtain⟨h',rfl⟩:∃ h',s3={ s' with heap:=h' }:=⟨_,e3⟩
 have ups:=up2.trans ups0
 have fmem:=fl'.2.2.1
 have covS:∀ b o,s.heap.get? b=some o→H b=none→b∉frs outer→B.get? b=some o:=fun b o e n hb=>cov' b o (bs.keep b o e n hb (nx b)) (bs.free b o e n (nx b)) (ne e hb)
 have cov2S:∀ b o,s.heap.get? b=some o→b∉frs outer→∃ o',B.get? b=some o':=fun b o e hb=>by
  obtain⟨o1,e1⟩:=bs.there b o e (nx b)
  exact cov2' b o1 e1 (ne e hb)
 refine⟨a,cls,a0,B,H1,c,rfl,os.trans I.os,bare,fl2,⟨fun b o e n hb _=>fl2.1 _ _ (covS b o e n hb),fun b o e n hb _=>?_,fun b o e n _=>?_,fun b o e _=>?_,fun b xs q=>un'.tups b xs (bs.tups b xs q),fun b o u q=>un'.frzs b o u (bs.frzs b o u q),fun b ps q=>?_⟩,covS,cov2S,hok,ha,hc2,q⟩
 ·obtain⟨sl1,e1⟩:=bs.slot b o e n hb (nx b)
  obtain⟨sl2,e2⟩:=un'.slot b _ e1 (bs.free b o e n (nx b)) (inn hb) (nx b)
  obtain⟨_,o3,e3,nf⟩:=fmem.mem (inn hb)
  rw [e2] at e3
  cases e3
  obtain⟨sl4,e4⟩:=ups b _ e2 nf
  exact⟨sl4,e4⟩
 ·obtain⟨o1,e1⟩:=bs.there b o e (nx b)
  exact un'.free b o1 e1 (bs.free b o e n (nx b)) (nx b)
 ·by_cases hb:b∈frs outer
  ·obtain⟨_,o3,e3,nf⟩:=fmem.mem (inn hb)
   obtain⟨sl4,e4⟩:=ups b _ e3 nf
   exact⟨_,e4⟩
  ·obtain⟨o',e'⟩:=cov2S b o e hb
   exact⟨o',fl2.1 _ _ e'⟩
 ·obtain⟨m1,q1⟩:=bs.tbls b ps q
  obtain⟨m2,q2⟩:=un'.tbls b _ q1
  exact⟨m1++m2,by rw [q2,Array.append_assoc]⟩
end
section
variable {X:Cx} {pins:List (Addr × Obj)} {σ:St} {H:Hp} {s:Shared}
noncomputable def z8x (K:Frag) (C:Addr) (R:Addr→Hp→Prop) (E':XK):XK:=fun cls c H=>j1p K C R cls c H∨(PySem.W.exmOne K cls (.ref C)=some false∧E' cls c H)
theorem z9i {x y:Str} {C C2:Addr} {np hp zp cpos kp rp:Pos} {kk:Nat} {e₀:Expr} {es:List Expr} {ta:TA} {E':XK} {D:Ends} {e:Value} {s':Shared} (hst:X.stack=X.env::X.outer) (hf:X.env.frame=some X.env.locals) (hg:Gl X x) (hm:X.mg x=some (.ref C)) (RF:x1d X E') (PP:x7r X E') (PO:∀ a:Addr,PassesOwnAt (model X.prog X.w) (X.A.mark (some (.ref a))) X.A X.env X.xe) (hg2:Gl X y) (hm2:X.mg y=some (.ref C2)) (hq:PySem.W.excIn X.K C2 z7i "ValueError.__new__" = true) (ha2:∀ a,PA (X.suiteE a) (e₀::es) ta)
  (I:Inv X pins σ H s) (h:CXe X.prog X.w X.stack H s (z8x X.K C (fun a H2=>ta σ H2 fun vs H3=>vs.length≤1000∧H3 a=some (j2t a)∧E' (.ref C2) (some a) H3) E') e s') (he:starEach (e₀::es) X.env=(false,eval e₀ X.env)::starEach es X.env:=by rfl) (hplain:(backTo cpos (starEach es X.env)).any (·.1)=false:=by rfl) (hd:(x==("__debug__" : Str))=false:=by decide) (hd2:(y==("__debug__" : Str))=false:=by decide) :
  wpAny (model X.prog X.w) X.A (noteFrame e X.env) (fun _ s₂=>wpAny (model X.prog X.w) X.A (setFlight e none) (fun _ s₃ =>
   wpAny (model X.prog X.w) X.A (handleBy e X.env [.ExceptHandler (some (.Name x np)) none [.Raise (some (.Call (.Name y zp) (e₀::es) [] cpos)) (some (.Constant .none kk kp)) rp] hp]) (SP X pins D) X.xe s₃) X.xe s₂) X.xe s':=by
 have h0:=h
 obtain⟨a,cls,a0,B,H1,c,rfl,os,bare,fl,un,cov,cov2,hok,ha,hc,qq⟩:=h
 rcases qq with qq | ⟨hx,q⟩
 ·exact z2x hst hf hg hm RF PO hg2 hm2 hq ha2 I ⟨a,cls,a0,B,H1,c,rfl,os,bare,fl,un,cov,cov2,hok,ha,hc,qq⟩ he hplain hd hd2
 have hfr:X.A.frames=some (X.env::X.outer):=by rw [← hst]; exact I.ok.frames
 have fl':=fl
 rw [hst] at fl'
 refine wpAny_mono ((x0y _ _).opt hc (wpAny_looks_onW (Q:=fun _ s3=>Heap.HeldW B (X.env::X.outer) a cls a0 X.env.locals s3.heap∧s'.heap.UpToSlots s3.heap∧s3={ s' with heap:=s3.heap }) hfr hf fl' fun h₄ held u4=>⟨held,u4,rfl⟩)) (fun _ s3 ⟨⟨held,u4,e3⟩,hc4⟩=>?_) fun _ _ z=>z
 obtain⟨h₄,rfl⟩:∃ h₄,s3={ s' with heap:=h₄ }:=⟨_,e3⟩
 refine wpAny_mono ((q5w _ _).opt hc4 (wpAny_landsW (Q:=fun _ s3=>Heap.FlyingW B (X.env::X.outer) a cls a0 s3.heap∧h₄.UpToSlots s3.heap∧s3={ s' with heap:=s3.heap }) held fun h₅ fl5 u5=>⟨fl5,u5,rfl⟩)) (fun _ s3 ⟨⟨fl5,u5,e5⟩,hc5⟩=>?_) fun _ _ z=>z
 obtain⟨h₅,rfl⟩:∃ h₅,s3={ s' with heap:=h₅ }:=⟨_,e5⟩
 have fl5':Heap.FlyingW B X.stack a cls a0 h₅:=by rw [hst]; exact fl5
 have J0:=(j1v I os bare fl un cov cov2 hok ha h₅ (fun h=>∃ o,h.get? a=some o∧o.cls=cls) fl5' (u4.trans u5) fl5.there fun h1 h2 ⟨o,e1,e2⟩ k=>⟨o,k o e1,e2⟩).suiteE a
 refine wpAny_handleBy_cons (codeAny_handlers_test (q5m (X:=X.suiteE a) J0 hg hm ?_ hd)) (by intro q; cases q)
 obtain⟨ob,hob,hobc⟩:=fl5.there
 refine PySem.W.exm_one (M:=model X.prog X.w) J0.kIn (hobc▸(PySem.W.Looks.ld hob).andThen .now) hx _ _ _ _ (fun _ _ e=>e) ?_
 have hfl:=fl5
 obtain⟨_,_,_,oe,ws,T,oT,ts,he',hc',hd',h1',_⟩:=id hfl
 refine wpAny_handleBy_nil ?_
 unfold PySem.passOn
 refine wpAny_bind (wpAny_field he' hd' h1' ?_)
 rw [if_neg (show ¬ ((Value.ref T==Value.none)=true) from by simp)]
 rw [hf]
 refine wpAny_bind (wpAny_mono ((q5w _ _).opt hc5 (PySem.W.setFlight_onW (Q:=fun _ s3=>Heap.HeldW B (X.env::X.outer) a cls a0 X.env.locals s3.heap∧h₅.UpToSlots s3.heap∧s3={ s' with heap:=s3.heap }) hfl fun h' hh hs=>⟨hh,hs,rfl⟩)) (fun _ s3 ⟨⟨hh,u6,e6⟩,hc6⟩=>?_) fun _ _ z=>z)
 obtain⟨h₆,rfl⟩:∃ h₆,s3={ s' with heap:=h₆ }:=⟨_,e6⟩
 exact wpAny_throw (PP pins σ H s s' h₆ a cls a0 B H1 c I os bare fl un cov cov2 hok ha hc6 q (by rw [hst]; exact hh) ((u4.trans u5).trans u6))
noncomputable def z3b (K:Frag) (C C2:Addr) (i:Nat) (sp:Sp) (t ta:TA) (E':XK):TS:=fun D σ H=>t σ H fun vs H1=>sp (vs++[]) H1 (fun v H2=>D.nx (σ.set i (some v)) H2) (z8x K C (fun a H2=>ta σ H2 fun vs H3=>vs.length≤1000∧H3 a=some (j2t a)∧E' (.ref C2) (some a) H3) E')
theorem x8l {k:Nat} {f C C2:Addr} {fd:FuncData} {ps:List Str} {sp:Sp} {x y n z:Str} {i kk:Nat} {p pos rp tp np hp py zp cpos kp rp2:Pos} {e e₀:Expr} {es es2:List Expr} {t ta:TA} {E':XK} (hst:X.stack=X.env::X.outer) (hf:X.env.frame=some X.env.locals) (F:FnOk X.prog X.w X.K X.mg X.base (CXe X.prog X.w) k f fd ps sp) (hr:Room k X.A) (hg:Gl X x) (hm:X.mg x=some (.ref f)) (hk:keepIn X.K (.ref f)=true) (hb:q2i X.K fd ps []) (ha:∀ W,PA (X.wish W) (e::es) t)
  (hN:X.N.Nodup) (hi:X.N[i]? = some n) (hx:Loc X.env.scope n) (hgC:Gl X y) (hmC:X.mg y=some (.ref C)) (RF:x1d X E') (PP:x7r X E') (PO:∀ a:Addr,PassesOwnAt (model X.prog X.w) (X.A.mark (some (.ref a))) X.A X.env X.xe) (hg2:Gl X z) (hm2:X.mg z=some (.ref C2)) (hq:PySem.W.excIn X.K C2 z7i "ValueError.__new__" = true) (ha2:∀ a,PA (X.suiteE a) (e₀::es2) ta) (hfn:X.fn n=true∨X.env.scope.names.lookup n=some .local:=by first | exact .inl rfl | exact .inr rfl | assumption)
  (he:starEach (e::es) X.env=(false,eval e X.env)::starEach es X.env:=by rfl) (hpl:(backTo pos (starEach es X.env)).any (·.1)=false:=by rfl) (he2:starEach (e₀::es2) X.env=(false,eval e₀ X.env)::starEach es2 X.env:=by rfl) (hpl2:(backTo cpos (starEach es2 X.env)).any (·.1)=false:=by rfl) (hdb:(x==("__debug__" : Str))=false:=by decide) (hdc:(y==("__debug__" : Str))=false:=by decide) (hdz:(z==("__debug__" : Str))=false:=by decide) :
  PS X (.Try [.Assign [.Name n py] (.Call (.Name x p) (e::es) [] pos) rp] [.ExceptHandler (some (.Name y np)) none [.Raise (some (.Call (.Name z zp) (e₀::es2) [] cpos)) (some (.Constant .none kk kp)) rp2] hp] [] [] tp) (z3b X.K C C2 i sp t ta E'):=by
 intro pins s σ H D I h
 refine wpAny_Try_except (wpAny_execs_cons (wpAny_Assign_Name (thn (x0u (Q:=fun v H2=>D.nx (σ.set i (some v)) H2) F hr hg hm hk hb (ha _) he hpl hdb I h fun H1 s1 e1 s' I1 h1=>z9i hst hf hgC hmC RF PP PO hg2 hm2 hq ha2 I1 h1 he2 hpl2 hdc hdz) fun v s1 ⟨z,H1,I1,r1,q1⟩=>?_)))
 refine q9m I1 hN hi hx r1 (fun s2 I2=>?_) hfn
 exact wpAny_execs_nil (wpAny_execs_nil ⟨_,H1,I2,q1⟩)
end
end L2
namespace K1
open PySem L2 Kp
theorem z6k {y:Str} (h:Txt.endswith y "\n" = true):∃ a:Str,y=a ++ "\n" := by
 unfold Txt.endswith at h
 rw [Bool.and_eq_true,decide_eq_true_eq,StrLaws.subAt_eq] at h
 have h1:("\n" : Str).length=1:=by decide +kernel
 have ly:(cL y).length=y.length:=Array.length_toList
 have e2:((y.cps.toList.drop (y.length - ("\n" : Str).length)).take ("\n" : Str).length)=("\n" : Str).cps.toList:=by
  exact eq_of_beq h.2
 rw [h1] at e2
 have hle:1≤y.length:=by have:=h.1; omega
 refine⟨⟨⟨(cL y).take (y.length - 1)⟩⟩,q4a ?_⟩
 show cL y=cL ((⟨⟨(cL y).take (y.length - 1)⟩⟩:Str) ++ "\n")
 rw [q6t]
 show cL y=(cL y).take (y.length - 1)++cL "\n"
 have e3:cL ("\n" : Str)=(cL y).drop (y.length - 1):=by
  rw [show cL ("\n" : Str)=("\n" : Str).cps.toList from rfl,← e2]
  refine (List.take_of_length_le ?_)
  rw [List.length_drop]
  show (cL y).length - _≤1
  omega
 rw [e3,List.take_append_drop]
theorem x9l:∀ {rs:List Str},rs≠[]→Str.join "\n" (rs++[("" : Str)])=Str.join "\n" rs ++ "\n"
 | [],h=>absurd rfl h
 | [x],_=>by
  show x ++ "\n" ++ ("" : Str)=x ++ "\n"
  refine q4a ?_
  show cL (x ++ "\n" ++ ("" : Str))=cL (x ++ "\n")
  rw [q6t,show cL ("" : Str)=[] from rfl,List.append_nil]
 | x::y::r,_=>by
  have e:=x9l (rs:=y::r) (by simp)
  show x ++ "\n" ++ Str.join "\n" ((y::r)++[("" : Str)])=x ++ "\n" ++ Str.join "\n" (y::r) ++ "\n"
  rw [e,← q9i]
theorem z0l {y:Str} (h:Txt.endswith y "\n" = true):∃ rs:List Str,rs≠[]∧Txt.split y "\n" = rs++[("" : Str)]:=by
 obtain⟨a,rfl⟩:=z6k h
 have hne:Txt.split a "\n" ≠ []:=by rw [z6p]; exact x0v _ _
 refine⟨Txt.split a "\n",hne,?_⟩
 have e:a ++ "\n" = Str.join "\n" (Txt.split a "\n" ++ [("" : Str)]):=by rw [x9l hne,StrLaws.join_split]
 rw [e,q7r fun r hr=>?_]
 rw [z6p] at hr
 exact StrLaws.split_free _ 10 r hr
section
variable {P:Program} {w:World} {K:Frag} {mg:Str→Option Value} {base:Heap}
noncomputable def z3k (cN cS:Addr):Sp:=fun vs H Q E=>∃ (lR:Addr) (rs:List Str),vs=[.ref lR]∧H lR=some (.lst (rs.map V.str))∧rs≠[]∧rs.length≤90000∧(∀ y∈rs,y.length≤90000)∧(∀ v H' d1 d2 es,Is 100000 H' v (.tup [d1,d2,.tup es])→noLL es=true→smallL 60 es=true→rs=J (("room" : Str)::q0u ((["count", "seats"]:List Str).map q1k) [d1,d2])::es.map (fun e=>J (q3d e))→q1h H H'→Q v H')∧(∀ H',E (.ref cN) none H')∧∀ H',E (.ref cS) none H'
theorem x1j {f:Addr} {fd:FuncData} {cN cS:Addr} {kk:Nat} (F:Fun K "schedule_of" "schedule_of" q2y f fd) (T:Txt mg) (CR:CalE P w K mg base "read_room" kk ["row"] (z3x cN cS)) (CD:CalE P w K mg base "read_deed_of_schedule" kk ["row"] (z5e cN cS)):FnOk P w K mg base (CXe P w) (kk+1) f fd ["rows"] (z3k cN cS):=by
 refine F.okE j3s (fun vs H Q E ⟨_,_,e,_⟩=>by subst e; rfl) (fun _ A _ s H vs Q E hr h=>?_)
 obtain⟨lR,rs,rfl,hL,hne,hrl,hyl,q,qe,qs⟩:=h
 obtain⟨gD,dD,GD,mD,kD,bD⟩:=CD.ex
 refine⟨_,@q0m _ _ _ (q0g (q0p q9u (q5q CR hr q8s (q6q (q1i q1b (pv 0) q0b q3t) q0a)) (q2g (q9l (q1q q1n (by rfl) T.tuple q1r (q0o (x4k (E:=E) (NB:=["row"]) (n:=1) (fr:=[]) (q8k (outer:=q0e q2y) (by rfl) (by decide +kernel) (by rfl)) j5y (by rfl)
  (x1y (q1g q3p (pv 0) (q1m q0b) q1p)) (fun _ _ _ _ _=>q1x (i:=0) (show (["row"]:List Str).Nodup by decide +kernel) (by rfl) (by exact Or.inl rfl)) (fun _ _ _ _ _=>q3a)
  (fun _ _ _ _ _=>q9n GD hr (by rfl) mD kD bD .nil j0p (q1c (pv 0) q0a))) q0a)) q0a)))),?_⟩
 match rs,hne,hL,hrl,hyl,q with
 | r0::rs,_,hL,hrl,hyl,q =>
 refine⟨_,rfl,lR,_,_,_,rfl,rfl,SqL.of hL,q0k (j:=0) rfl,r0,rfl,hyl r0 (by simp),fun b xs H1 ds hb hI hn hno hsm hr0 s1=>?_,qe,qs⟩
 obtain⟨d1,d2,rfl⟩:∃ d1 d2,ds=[d1,d2]:=by
  match ds,hn with
  | [d1,d2],_=>exact⟨d1,d2,rfl⟩
 have hL1:=s1 _ _ hL
 refine⟨_,rfl,_,rfl,lR,_,rfl,SqL.of hL1,fun p hp=>?_⟩
 rw [z9r,← List.map_drop,show (r0::rs).drop 1=rs from rfl]
 have s2:=q0d (o:=HO.lst (rs.map V.str)) hp
 have s12:=s1.trans s2
 generalize eH2:upd H1 p (HO.lst (rs.map V.str))=H2 at s2 s12 ⊢
 have hp2:H2 p=some (.lst (rs.map V.str)):=by rw [← eH2]; exact q0c
 have hlen:(rs.map V.str).length=rs.length:=List.length_map ..
 rw [List.length_cons] at hrl
 refine⟨p,rfl,⟨_,SqL.of hp2⟩,q7h (J:=Itl K p) (a:=p) (n:=rs.length) (k:=1) (fun i ys H'=>∃ es,q1h H2 H'∧IsL 100000 H' ys es∧es.length=i∧noLL es=true∧smallL 60 es=true∧rs.take i=es.map (fun e=>J (q3d e))) (by rw [sizeLine_eq]; omega) ⟨_,hp2⟩ ?_ ?_ ?_ ?_ ?_ ?_⟩
 ·intro D hD
  exact⟨[],q0d hD,.nil,rfl,rfl,rfl,rfl⟩
 ·rintro i ys H' D zs us hD hDa hDl ⟨es,s3,I3,en,eno,esm,et⟩
  refine⟨es,fun b o e=>?_,I3.sameT (q3w (fun xs z=>by rw [hDl] at z; cases z)) eno,en,eno,esm,et⟩
  rw [q0r (fun z=>by rw [z,hD] at e; cases e)]
  exact s3 b o e
 ·rintro i ys H' hi ⟨es,s3,_⟩
  exact⟨_,(rs.map V.str)[i]'(by omega),SqL.of (s3 _ _ hp2),List.getElem?_eq_getElem (by omega)⟩
 ·rintro ys H' ⟨es,s3,_⟩
  exact⟨_,SqL.of (s3 _ _ hp2),by omega⟩
 ·rintro i ys H' tt x H3 RR hi hyl' ⟨es,s3,I3,en,eno,esm,et⟩ ht y hRR
  obtain⟨rfl,hy⟩:=y
  obtain⟨t0,rfl⟩:=q7i ht
  have hg:=hy _ (SqL.of (s3 _ _ hp2))
  rw [List.getElem?_map,List.getElem?_eq_getElem hi] at hg
  cases hg
  refine⟨_,rfl,rs[i],rfl,hyl _ (List.mem_cons_of_mem _ (List.getElem_mem hi)),fun v H4 d I4 n4 m4 e4 s4=>?_,qe,qs⟩
  refine hRR [some _] H4 v rfl (q1l.of s4) ⟨es++[d],s3.trans s4,q8x (I3.same s4) I4,by rw [List.length_append,en]; rfl,x1w eno n4,q8q esm m4,?_⟩
  rw [List.take_add_one,List.getElem?_eq_getElem hi,et,List.map_append,e4]
  rfl
 ·rintro D H3 ys hDa hyl' ⟨es,s3,I3,en,eno,esm,et⟩ hD
  refine⟨D,ys,rfl,.inl ⟨SqL.of hD,fun t2 ht2=>?_⟩⟩
  have s4:=q0d (o:=HO.tup ys) ht2
  rw [List.take_length] at et
  refine⟨q3j (by show 1≤1000; decide),fun t3 ht3=>?_⟩
  have s5:=q0d (o:=HO.tup [V.ref t2]) ht3
  have sA:=((s2.trans s3).trans s4).trans s5
  have hbA:=sA _ _ hb
  have hxl:=hI.length
  have hyy:=I3.length
  refine⟨b,t3,xs,_,rfl,rfl,hbA,q0c,q3j (by show xs.length+1≤1000; rw [hxl]; show 2+1≤1000; decide),fun p6 H6 e6 s6=>?_⟩
  refine q _ _ d1 d2 es (.tup e6 ?_ ?_) eno esm ?_ ((s1.trans sA).trans s6)
  ·rw [List.length_append,hxl]; show 2+1≤100000; decide
  ·obtain⟨y1,_,rfl,i1,r1⟩:=IsL.un hI
   obtain⟨y2,_,rfl,i2,r2⟩:=IsL.un r1
   obtain rfl:=IsL.un0 r2
   have sB:=sA.trans s6
   exact .cons (i1.same sB) (.cons (i2.same sB) (.cons (.tup (s6 _ _ (s5 _ _ q0c)) (by omega) (I3.same ((s4.trans s5).trans s6))) .nil))
  ·rw [hr0,et]
noncomputable def z8j (cS:Addr):Sp:=fun vs H Q E=>∃ (y:Str),vs=[.str y]∧y.length≤80000∧(∀ v H' (c:Int) (ss:List Int) (es:List D),q5a (.tup [.int c,.tup (ss.map D.int),.tup es])=true→noLL es=true→smallL 60 es=true→y=Str.join "\n" (q2m c ss es++[("" : Str)])→Q v H')∧∀ c' H',E (.ref cS) c' H'
theorem q9x {f:Addr} {fd:FuncData} {cN cS:Addr} {kk k1:Nat} (Z:ExN K mg "NoLetter" cN) (ZS:ExN K mg "NoSchedule" cS) (xN:PySem.W.exmOne K (.ref cN) (.ref cN)=some true) (xS:PySem.W.exmOne K (.ref cS) (.ref cN)=some false) (F:Fun K "read_schedule" "read_schedule" q3m f fd) (CI:Cal P w K mg base "is_schedule" k1 ["thing"] (spP q5a)) (h1:k1≤kk) (CS:CalE P w K mg base "schedule_of" kk ["rows"] (z3k cN cS)):FnOk P w K mg base (CXe P w) (kk+1) f fd ["text"] (z8j cS):=by
 refine F.okE z7w (fun vs H Q E ⟨_,e,_⟩=>by subst e; rfl) (fun _ A _ s H vs Q E hr h=>?_)
 obtain⟨y,rfl,hyl,q,qe⟩:=h
 obtain⟨gS,dS,GS,mS,kS,bS⟩:=CS.ex
 refine⟨_,@q0j _ _ _ _ _ (q1e (q4e (q3h (q6w PySem.F.plainAttrs_str PySem.F.slot_str_endswith PySem.F.type_str_endswith z2e (pv 0) (q3r q0q q0a)))) (@q0m _ _ _ (q4h q3k (by rfl) (by rfl) ZS.m ZS.x (q3r q0q q0a))) q0h)
  (@q0j _ _ _ _ _ (x8l (i:=1) (by rfl) (by rfl) GS hr (by rfl) mS kS bS (fun _=>q6q (q1g (x9r (K:=K) (by rfl)) (z9c (K:=K) (by rfl) PySem.F.plainAttrs_str PySem.F.slot_str_split PySem.F.type_str_split q6f (pv 0) (q3r q0q q0a)) q1p (q1m (j0g z3f q0b))) q0a) z7w.nd (by rfl) (by exact Or.inl rfl) (by rfl) Z.m x3l j6b (fun _=>PassesOwnAt.leaving) (by rfl) ZS.m ZS.x (fun _=>q3r q0q q0a))
  (@q0j _ _ _ _ _ (q1e (q4e (q3h (q0s CI (hr.mono h1) (q1c (pv 1) q0a)))) (@q0m _ _ _ (q4h q3k (by rfl) (by rfl) ZS.m ZS.x (q3r q0q q0a))) q0h)
  (@q0m _ _ _ (q0g (pv 1))))),?_⟩
 refine⟨_,rfl,rfl,y, "\n",rfl,rfl,_,rfl,?_⟩
 cases he:Txt.endswith y "\n" with
 | false=>exact q1f ⟨by decide,qe _ _⟩
 | true =>
 obtain⟨rs,hne,hsplit⟩:=z0l he
 have hj:=StrLaws.join_split y "\n"
 rw [hsplit] at hj
 have hfew:rs.length≤y.length:=by
  have:=q5t (z:=y) (y := "\n") (by decide +kernel)
  rw [hsplit,List.length_append,List.length_singleton] at this
  omega
 have hsh:∀ r∈rs,r.length≤90000:=fun r hr=>by
  have:=q4m (z:=y) (y := "\n") (a:=r) (by rw [hsplit]; exact List.mem_append_left _ hr)
  omega
 refine q1a ⟨_,rfl,rfl,y, "\n",rfl,rfl,by decide +kernel,by rw [sizeLine_eq]; omega,fun l hl=>⟨_,rfl,_,rfl,?_⟩⟩
 rw [hsplit]
 refine⟨l,_,rfl,SqL.of q0c,fun p hp=>?_⟩
 rw [show (-(1:Int)) = -1 from rfl,x9s]
 refine⟨p,rs,rfl,q0c,hne,by omega,hsh,fun v H3 d1 d2 es I3 hno hsm hrs s3=>?_,fun H'=>.inl ⟨rfl,xN,fun a ha=>⟨by decide,q0c,qe _ _⟩⟩,fun H'=>.inr ⟨xS,qe _ _⟩⟩
 refine⟨_,rfl,100000,v,_,Nat.le_refl _,rfl,I3,fun H4 s4=>⟨_,rfl,?_⟩⟩
 cases hp':q5a (.tup [d1,d2,.tup es]) with
 | true =>
  obtain⟨c,ss,es',e,_⟩:=x6u hp'
  cases e
  refine q1a ⟨_,rfl,q v H4 c ss es hp' hno hsm ?_⟩
  rw [← hj,hrs]
  congr 2
  unfold q2m
  congr 2
  show ("room" : Str)::(q1k "count" (.int c)++(q1k "seats" (.tup (ss.map D.int))++[]))=_
  rw [x1l,x1t,List.append_nil,show q7y (.tup (ss.map D.int))=ss.map q1d from q5u ss]
  rfl
 | false=>exact q1f ⟨by decide,qe _ _⟩
end
end K1
namespace Kp
open PySem PySem.Builtin PySem.Builtin.Str L2
theorem x6s {x:Str} {n:Nat} (h:n≤x.length):(Txt.slice x none (some (n:Int))).length=n:=by
 have e:=congrArg List.length (x9y h)
 have hx:(cL x).length=x.length:=Array.length_toList
 have hy:(cL (Txt.slice x none (some (n:Int)))).length=(Txt.slice x none (some (n:Int))).length:=Array.length_toList
 rw [List.length_take,hx,hy] at e
 omega
theorem q7u {x:Str} {n:Nat}:(Txt.slice x (some (n:Int)) none).length≤x.length - n:=by
 have hx:(cL x).length=x.length:=Array.length_toList
 have hy:(cL (Txt.slice x (some (n:Int)) none)).length=(Txt.slice x (some (n:Int)) none).length:=Array.length_toList
 by_cases h:n≤x.length
 ·have e:=congrArg List.length (z0k h)
  rw [List.length_drop,hx,hy] at e
  omega
 ·have e:strSliceIndices (some (n:Int)) none 1 x.length=strSliceIndices (some ((x.length:Nat):Int)) (some ((x.length:Nat):Int)) 1 x.length:=by
   have e1:Max.max 0 (Min.min (if (n:Int) < 0 then (n:Int)+(x.length:Int) else (n:Int)) (x.length:Int))=(x.length:Int):=by rw [if_neg (by omega)]; omega
   have e2:Max.max 0 (Min.min (if (x.length:Int) < 0 then (x.length:Int)+(x.length:Int) else (x.length:Int)) (x.length:Int))=(x.length:Int):=by rw [if_neg (by omega)]; omega
   unfold strSliceIndices sliceRange
   simp [e1,e2]
  have e3:=congrArg List.length (x2b e (Nat.le_refl _) (Nat.le_refl _))
  rw [hy,Nat.sub_self,List.take_zero] at e3
  simp only [List.length_nil] at e3
  omega
theorem z5q (xs:List V) (n:Nat):q8c xs none (some (n:Int))=xs.take n:=by
 unfold q8c
 rw [HT.sIx_none,HT.sIx_nat,List.drop_zero,Nat.sub_zero]
 by_cases h:n≤xs.length
 ·rw [Nat.min_eq_left h]
 ·rw [Nat.min_eq_right (by omega),List.take_of_length_le (Nat.le_refl _),List.take_of_length_le (by omega)]
theorem x5e (xs:List V) (n:Nat):q8c xs (some (n:Int)) none=xs.drop n:=by
 unfold q8c
 rw [HT.sIx_none,HT.sIx_nat]
 by_cases h:n≤xs.length
 ·rw [Nat.min_eq_left h,List.take_of_length_le (by rw [List.length_drop]; omega)]
 ·rw [Nat.min_eq_right (by omega),Nat.sub_self,List.take_zero,List.drop_of_length_le (by omega)]
end Kp
namespace K1
open PySem L2 Kp Kz
theorem z7g {es:List D} (h1:es.all q3f=true) (h2:smallL 60 es=true):∀ e∈es,∃ x ws,StE x ws e:=fun e he=>StE.of (List.all_eq_true.mp h1 e he) (q1j.mp h2 e he)
structure RtS (c:Int) (ss:List Int) (es:List D):Prop where
 R:SchR c ss es
 ris:RisP (c - 1) ss
 ne:ss≠[]
 few:es.length≤300
 st:∀ e∈es,∃ x ws,StE x ws e
theorem j6k {c:Int} {ss:List Int} {es:List D} (h:q5a (.tup [.int c,.tup (ss.map D.int),.tup es])=true) (hs:smallL 60 es=true):RtS c ss es:=by
 obtain⟨c',ss',es',e,c1,c9,se,hb,l1,l9,st,few⟩:=x6u h
 injection e with e
 injection e with e1 e
 injection e with e2 e
 injection e with e3 _
 injection e1 with e1
 injection e2 with e2
 injection e3 with e3
 subst e1 e3
 have hss:ss=ss':=by
  have:=congrArg q1z e2
  rw [Kz.q2t,Kz.q2t] at this
  exact this
 subst hss
 have ha:=z7g st hs
 obtain⟨ns,en,Rn,hne⟩:=x7h se
 have hns:ss=ns:=by
  have:=congrArg q1z (D.tup.inj en)
  rw [Kz.q2t,Kz.q2t] at this
  exact this
 subst hns
 refine⟨⟨c1,c9,se,st,hs,q3c.mpr fun e he=>?_,q1o.mpr fun e he=>?_,by omega⟩,⟨fun n hn=>?_,Rn.sm,Rn.up⟩,hne,few,ha⟩
 ·obtain⟨x,ws,z⟩:=ha e he; exact z.good.i
 ·obtain⟨x,ws,z⟩:=ha e he; exact z.good.n
 ·have:=hb n hn; omega
theorem z6q {c:Int} {ss:List Int} {es:List D} (h:RtS c ss es):q5a (.tup [.int c,.tup (ss.map D.int),.tup es])=true:=by
 have R:=h.R
 show (z4x [q7z,q2u,q8b] (.tup [.int c,.tup (ss.map D.int),.tup es]) && ((q1z (ss.map D.int)).all fun i=>decide (i < c)))=true
 rw [Kz.q2t,List.all_eq_true.mpr fun n hn=>decide_eq_true (show n < c by have:=h.ris.inr n hn; omega),Bool.and_true]
 show (q7z (.int c) && (q2u (.tup (ss.map D.int)) && (q8b (.tup es) && true)))=true
 rw [R.se,show q7z (.int c)=true by show (decide (1≤c) && decide (c≤9))=true; rw [decide_eq_true R.c1,decide_eq_true R.c9]; rfl]
 show (true && (true && ((es.all q3f && decide (es.length≤300)) && true)))=true
 rw [R.st,decide_eq_true h.few]; rfl
theorem j1a {c:Int} {ss:List Int} {es:List D} (h:RtS c ss es) {y:Str} (e:y=Str.join "\n" (q2m c ss es++[("" : Str)])):Txt.split y "\n" = q2m c ss es++[("" : Str)]:=by rw [e]; exact q7r (x4q h.R)
theorem z0e {c:Int} {ss:List Int} {es:List D} (h:RtS c ss es):Txt.split (J (("room" : Str)::(q1d c::ss.map q1d))) " " = ("room" : Str)::(q1d c::ss.map q1d):=(x4d h.R.c1 h.R.c9 h.R.se).split (List.cons_ne_nil _ _)
theorem z1o {x:Str} {ws:List Str} {e:D} (h:StE x ws e):Txt.split (J (q3d e)) " " = x::ws:=by
 have g:=h.good
 have:=(x5c g.p g.i).split (by rw [g.w]; exact List.cons_ne_nil _ _)
 rw [this,g.w]
theorem z9w (r0:Str) (rs:List Str) (n:Int) (hn:n=(rs.length:Int)+1):q8c ((r0::(rs++[("" : Str)])).map V.str) (some 1) (some n)=rs.map V.str:=by
 subst hn
 unfold q8c
 rw [show ((rs.length:Int)+1)=((rs.length+1:Nat):Int) by omega,show (1:Int)=((1:Nat):Int) from rfl,HT.sIx_nat,HT.sIx_nat]
 have hl:((r0::(rs++[("" : Str)])).map V.str).length=rs.length+2:=by simp
 rw [hl,Nat.min_eq_left (by omega),Nat.min_eq_left (by omega),List.map_cons,List.map_append]
 show (((rs.map V.str)++[V.str ""]).take (rs.length+1 - 1))=_
 rw [Nat.add_sub_cancel,List.take_left' (by simp)]
theorem z1r {ls:List Str} (h2:2≤ls.length) (hl:ls[ls.length - 1]? = some ("" : Str)):∃ r0 rs,ls=r0::(rs++[("" : Str)]):=by
 rcases List.eq_nil_or_concat ls with rfl | ⟨l,x,rfl⟩
 ·simp at h2
 rw [List.concat_eq_append] at h2 hl ⊢
 rw [List.length_append,List.length_singleton,Nat.add_sub_cancel,List.getElem?_append_right (Nat.le_refl _),Nat.sub_self] at hl
 have hx:x=("" : Str):=by simpa using hl
 subst hx
 cases l with
 | nil=>simp at h2
 | cons r0 rs=>exact⟨r0,rs,rfl⟩
end K1
namespace K1
open PySem L2 Kp Kz
section
variable {P:Program} {w:World} {K:Frag} {mg:Str→Option Value} {base:Heap}
noncomputable def j1n:Sp:=fun vs H Q _=>∃ (y:Str),vs=[.str y]∧y.length≤80000∧(∀ v H' c ss es,Is 1000 H' v (.tup [.int c,.tup (ss.map D.int),.tup es])→RtS c ss es→y=Str.join "\n" (q2m c ss es++[("" : Str)])→q1h H H'→Q v H')∧((∀ c ss es,RtS c ss es→y=Str.join "\n" (q2m c ss es++[("" : Str)])→False)→∀ H',q1h H H'→Q .non H')
theorem z8t:FnScope ["_law_told", "_law_lines", "_law_words", "_law_count", "_law_seats_here", "_law_steps", "_law_line"] ["_law_told"] (q0e x0a):=fSc
theorem j2k {f:Addr} {fd:FuncData} (F:Fun K "_law_due" "_law_due" x0a f fd) (T:Txt mg) (CN:Cal P w K mg base "_law_number" 1 ["_law_word", "_law_low", "_law_high"] z9j) (CR:Cal P w K mg base "_law_rising" 2 ["_law_words", "_law_high"] (z6a K)) (CT:Cal P w K mg base "_law_step_of" 4 ["_law_kind", "_law_words"] (j6o K)):FnOk P w K mg base CX0 5 f fd ["_law_told"] j1n:=by
 refine F.ok z8t (fun vs H Q E ⟨_,e,_⟩=>by subst e; rfl) (fun _ A _ s H vs Q E hr h=>?_)
 obtain⟨y,rfl,hy,q,qn⟩:=h
 have r1:=hr.mono (show 1≤4 by decide)
 have r2:=hr.mono (show 2≤4 by decide)
 refine⟨_,@q0j _ _ _ _ _ (q0y (i:=1) z8t.nd (by rfl) (by exact Or.inl rfl) (q6w PySem.F.plainAttrs_str PySem.F.slot_str_split PySem.F.type_str_split q6f (pv 0) (q3r q0q q0a)))
  (@q0j _ _ _ _ _ (q1e (PW.pt (q5j (q0f x2p (q0n q0l (by rfl) T.len PySem.boot_len (q1c (pv 1) q0a)) q0b (q0i _)) (q5j (q0f x5t (q1i q1b (pv 1) (q0p q8a (q0n q0l (by rfl) T.len PySem.boot_len (q1c (pv 1) q0a)) q0b) x7k) q0q (q0i _)) (q5b (q0f z0i (q0n q0l (by rfl) T.len PySem.boot_len (q1c (pv 1) q0a)) q0b (q0i _)))))) (@q0m _ _ _ (q0g q1t)) q0h)
  (@q0j _ _ _ _ _ (q0y (i:=2) z8t.nd (by rfl) (by exact Or.inl rfl) (q6w PySem.F.plainAttrs_str PySem.F.slot_str_split PySem.F.type_str_split q6f (q1i q1b (pv 1) q0b q3t) (q3r q0q q0a)))
  (@q0j _ _ _ _ _ (q1e (PW.pt (q5j (q0f x2p (q0n q0l (by rfl) T.len PySem.boot_len (q1c (pv 2) q0a)) q0b (q0i _)) (q5j (q0f x5t (q1i q1b (pv 2) q0b q3t) q0q (q0i _)) (q5b (q0f q6s (q0s CN r1 (q6q (q1i q1b (pv 2) q0b q3t) (q3r q0b (q3r q0b q0a)))) q1t (q0i _)))))) (@q0m _ _ _ (q0g q1t)) q0h)
  (@q0j _ _ _ _ _ (q0y (i:=3) z8t.nd (by rfl) (by exact Or.inl rfl) (q0s CN r1 (q6q (q1i q1b (pv 2) q0b q3t) (q3r q0b (q3r q0b q0a)))))
  (@q0j _ _ _ _ _ (q0y (i:=4) z8t.nd (by rfl) (by exact Or.inl rfl) (q0s CR r2 (q6q (q1g q3p (pv 2) (q1m q0b) q1p) (x6l (q0p q8a (pv 3) q0b) q0a))))
  (@q0j _ _ _ _ _ (q1e (q0f q6s (pv 4) q1t (q0i _)) (@q0m _ _ _ (q0g q1t)) q0h)
  (@q0j _ _ _ _ _ (q0y (i:=5) z8t.nd (by rfl) (by exact Or.inl rfl) (q8w q0a))
  (@q0j _ _ _ _ _ (q7x PassesOwn.never (by rfl) (x1y (q1g q3p (pv 1) (q1m q0b) (q1m (q0p q8a (q0n q0l (by rfl) T.len PySem.boot_len (q1c (pv 1) q0a)) q0b)))) (q1x (i:=6) z8t.nd (by rfl) (by exact Or.inl rfl))
   (@q0j _ _ _ _ _ (q0y (i:=2) z8t.nd (by rfl) (by exact Or.inl rfl) (q6w PySem.F.plainAttrs_str PySem.F.slot_str_split PySem.F.type_str_split q6f (pv 6) (q3r q0q q0a)))
   (@q0j _ _ _ _ _ (x0f (q6w PySem.F.plainAttrs_list PySem.F.slot_list_append PySem.F.type_list_append q3y (pv 5) (q9l (q0s CT hr (q6q (q1i q1b (pv 2) q0b q3t) (q6q (q1g q3p (pv 2) (q1m q0b) q1p) q0a))) q0a)))
   (@q0m _ _ _ (q1e (q0f q6s (q1i q1b (pv 5) (q0p q8a (q0n q0l (by rfl) T.len PySem.boot_len (q1c (pv 5) q0a)) q0b) x7k) q1t (q0i _)) (@q0m _ _ _ (q0g q1t)) q0h)))))
  (@q0m _ _ _ (q0g (q2g (q1c (pv 3) (q1c (pv 4) (q9l (q1q q1n (by rfl) T.tuple q1r (q1c (pv 5) q0a)) q0a)))))))))))))),?_⟩
 have hj:=StrLaws.join_split y "\n"
 have hlf:(Txt.split y "\n").length≤y.length+1:=q5t (by decide +kernel)
 have hls:∀ r∈Txt.split y "\n",r.length≤y.length:=fun r hr=>q4m hr
 have hrow:∀ c ss es,RtS c ss es→y=Str.join "\n" (q2m c ss es++[("" : Str)])→Txt.split y "\n" = q2m c ss es++[("" : Str)]:=fun c ss es R e=>j1a R e
 refine⟨_,rfl,rfl,y, "\n",rfl,rfl,by decide +kernel,by rw [sizeLine_eq]; omega,fun l hl=>?_⟩
 generalize Txt.split y "\n" = ls at hj hlf hls hrow
 have s1:=q0d (o:=HO.lst (ls.map V.str)) hl
 have hSl:SqL K (upd H l (HO.lst (ls.map V.str))) l (ls.map V.str):=SqL.of q0c
 have hml:(ls.map V.str).length=ls.length:=List.length_map ..
 refine⟨_,rfl,l,_,rfl,.inl hSl,_,_,rfl,rfl,_,rfl,?_⟩
 by_cases h2:ls.length < 2
 ·rw [decide_eq_true (show ((ls.map V.str).length:Int) < 2 by omega)]
  refine q1f (q1f (qn (fun c ss es R e=>?_) _ s1))
  have:=congrArg List.length (hrow c ss es R e)
  rw [List.length_append] at this
  have h3:(q2m c ss es).length=es.length+1:=by unfold q2m; rw [List.length_cons,List.length_map]
  simp at this
  omega
 rw [decide_eq_false (show ¬ ((ls.map V.str).length:Int) < 2 by omega)]
 obtain⟨z,hz⟩:∃ z,ls[ls.length - 1]? = some z:=⟨_,List.getElem?_eq_getElem (by omega)⟩
 have hat:atI (ls.map V.str) (((ls.map V.str).length:Int) - 1)=some (.str z):=by
  rw [hml,show ((ls.length:Int) - 1)=((ls.length - 1:Nat):Int) by omega]
  exact q0k (by rw [List.getElem?_map,hz]; rfl)
 refine q1a ⟨_,rfl,_,rfl,l,_,rfl,.inl hSl,_,_,rfl,rfl,l,_,_,.str z,rfl,rfl,hSl,hat,rfl,_,rfl,?_⟩
 by_cases hz0:¬ z = ""
 ·rw [decide_eq_false (fun e=>hz0 (V.str.inj e))]
  refine q1f (q1f (qn (fun c ss es R e=>hz0 ?_) _ s1))
  rw [hrow c ss es R e,List.length_append,List.length_singleton,Nat.add_sub_cancel,List.getElem?_append_right (Nat.le_refl _),Nat.sub_self] at hz
  exact (Option.some.inj hz).symm
 have hz0:=Classical.not_not.mp hz0
 subst hz0
 rw [show (!decide (V.str ("" : Str)=V.str ""))=false by rw [decide_eq_true rfl]; rfl]
 obtain⟨r0,rs,rfl⟩:=z1r (by omega) hz
 have hl2:(r0::(rs++[("" : Str)])).length=rs.length+2:=by simp
 refine q1a ⟨_,rfl,l,_,rfl,.inl hSl,_,_,rfl,rfl,_,rfl,?_⟩
 have inv:∀ c ss es,RtS c ss es→y=Str.join "\n" (q2m c ss es++[("" : Str)])→r0=J (("room" : Str)::(q1d c::ss.map q1d))∧rs=es.map fun e=>J (q3d e):=fun c ss es R e=>by
  have h:=hrow c ss es R e
  unfold q2m at h
  rw [List.cons_append] at h
  obtain⟨e1,e2⟩:=List.cons.inj h
  exact⟨e1,List.append_cancel_right e2⟩
 by_cases h302:300 < rs.length
 ·rw [decide_eq_true (show (302:Int) < ((List.map V.str (r0::(rs++[("" : Str)]))).length:Int) by rw [hml,hl2]; omega)]
  refine q1f (qn (fun c ss es R e=>?_) _ s1)
  have e2:=(inv c ss es R e).2
  have:=R.few
  rw [e2,List.length_map] at h302
  omega
 rw [decide_eq_false (show ¬ (302:Int) < ((List.map V.str (r0::(rs++[("" : Str)]))).length:Int) by rw [hml,hl2]; omega)]
 have hr0:=hls r0 (by simp)
 refine q1a ⟨_,rfl,l,_,_,.str r0,rfl,rfl,hSl,q0k (j:=0) rfl,rfl,r0, " ",rfl,rfl,by decide +kernel,by rw [sizeLine_eq]; omega,fun l2 hl2'=>?_⟩
 have hwj:=x4l r0
 have hwf:(Txt.split r0 " ").length≤r0.length+1:=q5t (by decide +kernel)
 have hws:∀ r∈Txt.split r0 " ",r.length≤r0.length:=fun r hr=>q4m hr
 have winv:∀ c ss es,RtS c ss es→y=Str.join "\n" (q2m c ss es++[("" : Str)])→Txt.split r0 " " = ("room" : Str)::(q1d c::ss.map q1d):=fun c ss es R e=>by rw [(inv c ss es R e).1]; exact z0e R
 generalize Txt.split r0 " " = ws at hwj hwf hws winv
 have s2:=s1.trans (q0d (o:=HO.lst (ws.map V.str)) hl2')
 generalize eH2:upd (upd H l (HO.lst ((r0::(rs++[("" : Str)])).map V.str))) l2 (HO.lst (ws.map V.str))=H2 at s2
 have hS2:H2 l2=some (.lst (ws.map V.str)):=by rw [← eH2]; exact q0c
 have hS1:H2 l=some (.lst ((r0::(rs++[("" : Str)])).map V.str)):=by rw [← eH2,q0r (fun z=>by rw [← z,q0c] at hl2'; cases hl2'),q0c]
 refine⟨_,rfl,l2,_,rfl,.inl (SqL.of hS2),_,_,rfl,rfl,_,rfl,?_⟩
 have hmw:(ws.map V.str).length=ws.length:=List.length_map ..
 by_cases h3:ws.length < 3
 ·rw [decide_eq_true (show ((ws.map V.str).length:Int) < 3 by omega)]
  refine q1f (q1f (qn (fun c ss es R e=>?_) _ s2))
  have h:=winv c ss es R e
  rw [h,List.length_cons,List.length_cons,List.length_map] at h3
  exact R.ne (List.length_eq_zero_iff.mp (by omega))
 rw [decide_eq_false (show ¬ ((ws.map V.str).length:Int) < 3 by omega)]
 obtain⟨w0,w1,wr,rfl⟩:∃ w0 w1 wr,ws=w0::w1::wr:=by
  match ws,h3 with
  | w0::w1::r,_=>exact⟨w0,w1,r,rfl⟩
  | [],h=>exact absurd (by decide) h
  | [_],h=>simp at h
 refine q1a ⟨_,rfl,l2,_,_,.str w0,rfl,rfl,SqL.of hS2,q0k (j:=0) rfl,rfl,_,rfl,?_⟩
 by_cases hw0:¬ w0 = "room"
 ·rw [decide_eq_false (fun e=>hw0 (V.str.inj e))]
  exact q1f (q1f (qn (fun c ss es R e=>hw0 (List.cons.inj (winv c ss es R e)).1) _ s2))
 have hw0:=Classical.not_not.mp hw0
 subst hw0
 rw [show (!decide (V.str ("room" : Str)=V.str "room"))=false by rw [decide_eq_true rfl]; rfl]
 have hxw:∀ x∈(("room" : Str)::w1::wr),x.length≤100000:=fun x hx=>by have:=hws x hx; omega
 refine q1a ⟨_,rfl,l2,_,_,.str w1,rfl,rfl,SqL.of hS2,q0k (j:=1) rfl,w1,_,_,some (1,9),rfl,hxw w1 (by simp),.inr ⟨_,_,rfl,rfl,rfl⟩,rfl,_,rfl,?_⟩
 cases hn:x3r (some (1,9)) w1 with
 | none =>
  rw [decide_eq_true (show x7i none=V.non from rfl)]
  refine q1f (qn (fun c ss es R e=>?_) _ s2)
  have h:=(List.cons.inj (List.cons.inj (winv c ss es R e)).2).1
  have c1:=R.R.c1
  have c9:=R.R.c9
  exact x2o hn h c1 c9 (q8e (by omega) (by omega))
 | some n =>
 obtain⟨rfl,h60,n1,n9⟩:=q9a hn
 rw [decide_eq_false (show ¬ x7i (some n)=V.non from fun z=>by cases z)]
 refine q1a ⟨_,rfl,l2,_,_,.str (q1d n),rfl,rfl,SqL.of hS2,q0k (j:=1) rfl,q1d n,_,_,some (1,9),rfl,hxw _ (by simp),.inr ⟨_,_,rfl,rfl,rfl⟩,?_⟩
 rw [hn]
 have ninv:∀ c ss es,RtS c ss es→y=Str.join "\n" (q2m c ss es++[("" : Str)])→c=n∧wr=ss.map q1d:=fun c ss es R e=>by
  have h:=(List.cons.inj (winv c ss es R e)).2
  have c1:=R.R.c1
  have c9:=R.R.c9
  exact⟨(x0w h60 (q8e (by omega) (by omega)) (List.cons.inj h).1).symm,(List.cons.inj h).2⟩
 refine⟨_,rfl,_,rfl,l2,_,rfl,SqL.of hS2,fun p hp=>⟨_,rfl,_,_,rfl,rfl,?_⟩⟩
 rw [show (2:Int)=((2:Nat):Int) from rfl,x5e,← List.map_drop,show (("room" : Str)::q1d n::wr).drop 2=wr from rfl]
 have s3:=s2.trans (q0d (o:=HO.lst (wr.map V.str)) hp)
 have hwrl:wr.length≤100000:=by rw [List.length_cons,List.length_cons] at hwf; omega
 refine⟨p,wr,n - 1,rfl,SqL.of q0c,hwrl,fun x hx=>hxw x (List.mem_cons_of_mem _ (List.mem_cons_of_mem _ hx)),fun ss pS H4 Rs hne ess hpS s4=>⟨_,rfl,rfl,_,rfl,?_⟩,fun hno H4 s4=>⟨_,rfl,rfl,_,rfl,?_⟩⟩
 rotate_left
 ·rw [decide_eq_true (show V.non=V.non from rfl)]
  refine q1f (qn (fun c ss es R e=>?_) _ (s3.trans s4))
  obtain⟨rfl,h⟩:=ninv c ss es R e
  exact hno ss R.ris R.ne h
 rw [decide_eq_false (show ¬ V.ref pS=V.non from fun z=>by cases z)]
 refine q1a ⟨q3j (by show 0≤1000; decide),fun b hb=>?_⟩
 have s5:=s4.trans (q0d (o:=HO.lst []) hb)
 have sA:=s3.trans s5
 have hb0:H b=none:=by
  cases e:H b with
  | none=>rfl
  | some o=>rw [(s3.trans s4) _ _ e] at hb; cases hb
 have hl5:upd H4 b (HO.lst []) l=some (.lst ((r0::(rs++[("" : Str)])).map V.str)):=s5 _ _ ((q0d hp) _ _ hS1)
 have hpS5:upd H4 b (HO.lst []) pS=some (.tup (ss.map V.int)):=(q0d hb) _ _ hpS
 refine⟨_,rfl,_,rfl,_,rfl,l,_,rfl,.inl (SqL.of hl5),_,_,rfl,rfl,_,rfl,l,_,rfl,SqL.of hl5,fun p6 hp6=>?_⟩
 rw [z9w r0 rs _ (by rw [hml,hl2]; omega)]
 have hbp:p6≠b:=fun z=>by rw [z,q0c] at hp6; cases hp6
 have hss9:ss.length≤9:=by
  have:=x4x (l:=0) (h:=n - 1) Rs.up (fun m hm=>Rs.inr m hm) (by omega)
  omega
 have R8:RisP 8 ss:=⟨fun m hm=>by have:=Rs.inr m hm; omega,Rs.sm,Rs.up⟩
 refine⟨p6,rfl,⟨_,SqL.of q0c⟩,x4n (xs:=rs.map V.str) (fun i σ H'=>∃ (es:List D) (ys:List V) (t u:Option V),σ=[some (.str y),some (.ref l),t,some (.int n),some (.ref pS),some (.ref b),u]∧H' b=some (.lst ys)∧H' p6=some (.lst (rs.map V.str))∧H' pS=some (.tup (ss.map V.int))∧IsL 200 H' ys es∧es.length=i∧rs.take i=es.map (fun e=>J (q3d e))∧(∀ e∈es,∃ x ws,StE x ws e)∧q1h H H') ?_ ?_ ?_ ?_⟩
 ·exact⟨[],[],_,none,rfl,by rw [q0r (Ne.symm hbp)]; exact q0c,q0c,(q0d hp6) _ _ hpS5,.nil,rfl,rfl,fun e he=>(List.not_mem_nil he).elim,sA.trans (q0d hp6)⟩
 ·rintro i σ H' _ ⟨es,ys,t,u,rfl,_,hL,_⟩
  exact SqL.of hL
 ·rintro i x σ H' hx ⟨es,ys,t,u,rfl,hbL,hpL,hpS',Ie,en,et,hst,sH⟩
  rw [List.getElem?_map] at hx
  obtain⟨ln,hln,rfl⟩:∃ ln,rs[i]? = some ln∧x=V.str ln:=by
   cases e:rs[i]? with
   | none=>rw [e] at hx; cases hx
   | some ln=>rw [e] at hx; exact⟨ln,rfl,(Option.some.inj hx).symm⟩
  have hlnl:=hls ln (List.mem_cons_of_mem _ (List.mem_append_left _ (List.mem_of_getElem? hln)))
  have hii:=(List.getElem?_eq_some_iff.mp hln).1
  refine⟨_,rfl,rfl,ln, " ",rfl,rfl,by decide +kernel,by rw [sizeLine_eq]; omega,fun l3 hl3=>?_⟩
  have hvj:=x4l ln
  have hvf:(Txt.split ln " ").length≤ln.length+1:=q5t (by decide +kernel)
  have hvs:∀ r∈Txt.split ln " ",r.length≤ln.length:=fun r hr=>q4m hr
  have hvn:Txt.split ln " " ≠ []:=by rw [x5j]; exact x0v _ _
  have hinv:∀ c ss es',RtS c ss es'→y=Str.join "\n" (q2m c ss es'++[("" : Str)])→∃ x' ws' d',Txt.split ln " " = x'::ws'∧StE x' ws' d':=fun c ss es' R e=>by
   have e2:=(inv c ss es' R e).2
   rw [e2,List.getElem?_map] at hln
   cases hd:es'[i]? with
   | none=>rw [hd] at hln; cases hln
   | some d' =>
    rw [hd] at hln
    have e3:ln=J (q3d d'):=(Option.some.inj hln).symm
    obtain⟨x',ws',z⟩:=R.st d' (List.mem_of_getElem? hd)
    exact⟨x',ws',d',by rw [e3]; exact z1o z,z⟩
  generalize Txt.split ln " " = vs at hvj hvf hvs hvn hinv
  obtain⟨x,wt,rfl⟩:∃ x wt,vs=x::wt:=by
   match vs,hvn with
   | x::wt,_=>exact⟨x,wt,rfl⟩
  have s7:=q0d (o:=HO.lst ((x::wt).map V.str)) hl3
  refine⟨_,rfl,.inl ⟨rfl,_,SqL.of (s7 _ _ hbL)⟩,_,rfl,l3,_,_,.str x,rfl,rfl,SqL.of q0c,q0k (j:=0) rfl,_,rfl,_,rfl,l3,_,rfl,SqL.of q0c,fun p4 hp4=>?_⟩
  rw [z9r,← List.map_drop,show (x::wt).drop 1=wt from rfl]
  have s8:=s7.trans (q0d (o:=HO.lst (wt.map V.str)) hp4)
  rw [List.length_cons] at hvf
  have hno:noLL es=true:=q1o.mpr fun e he=>by obtain⟨x,ws,z⟩:=hst e he; exact z.good.n
  have hysl:ys.length=es.length:=Ie.length
  have hup:∀ {v:V} {H5:Hp},H5 b=some (.lst ys)→q1h H H5→q1h H (upd H5 b (HO.lst (ys++[v]))):=fun {v H5} h5 sa d o e=>by
   rw [q0r (fun z=>by rw [z,hb0] at e; cases e)]
   exact sa d o e
  have hatl:∀ v:V,atI (ys++[v]) (((ys++[v]).length:Int) - 1)=some v:=fun v=>by
   rw [List.length_append,List.length_singleton,show (((ys.length+1:Nat):Int) - 1)=((ys.length:Nat):Int) by omega]
   exact q0k (by rw [List.getElem?_append_right (Nat.le_refl _),Nat.sub_self]; rfl)
  refine⟨x,p4,wt,rfl,SqL.of q0c,by omega,fun z hz=>by have:=hvs z (List.mem_cons_of_mem _ hz); omega,fun v H5 d I5 e5 s9=>?_,fun hno5 H5 s9=>?_⟩
  ·have sB:=s8.trans s9
   have hb5:=sB _ _ hbL
   refine⟨b,ys,_,rfl,rfl,hb5,by rw [sizeLine_eq]; omega,?_⟩
   obtain⟨ds,rfl⟩:∃ ds,d=.tup ds:=by cases e5 <;> exact⟨_,rfl⟩
   obtain⟨aV,vs',rfl,hV⟩:=Is.vtup I5
   refine⟨_,rfl,_,rfl,b,_,rfl,.inl (SqL.of q0c),_,_,rfl,rfl,b,_,_,.ref aV,rfl,rfl,SqL.of q0c,hatl _,rfl,_,rfl,?_⟩
   rw [decide_eq_false (show ¬ V.ref aV=V.non from fun z=>by cases z)]
   have st:x0r H5 (upd H5 b (HO.lst (ys++[V.ref aV]))):=q3w fun xs z=>by rw [hb5] at z; cases z
   have g:=e5.good
   refine q1a ⟨es++[.tup ds],ys++[.ref aV],_,_,rfl,q0c,?_,?_,q8x ((Ie.same sB).sameT st hno) (I5.sameT st g.n),by rw [List.length_append,en]; rfl,?_,?_,hup hb5 (sH.trans sB)⟩
   ·rw [q0r hbp]; exact sB _ _ hpL
   ·rw [q0r (fun z=>by rw [z,hbL] at hpS'; cases hpS')]; exact sB _ _ hpS'
   ·rw [List.take_add_one,hln,et,List.map_append]
    show _=_++[J (q3d (.tup ds))]
    rw [g.w,hvj]
    rfl
   ·intro e he
    rcases List.mem_append.mp he with he | he
    ·exact hst e he
    ·rw [List.mem_singleton.mp he]; exact⟨_,_,e5⟩
  ·have sB:=s8.trans s9
   have hb5:=sB _ _ hbL
   refine⟨b,ys,_,rfl,rfl,hb5,by rw [sizeLine_eq]; omega,?_⟩
   refine⟨_,rfl,_,rfl,b,_,rfl,.inl (SqL.of q0c),_,_,rfl,rfl,b,_,_,.non,rfl,rfl,SqL.of q0c,hatl _,rfl,_,rfl,?_⟩
   rw [decide_eq_true (show V.non=V.non from rfl)]
   refine q1f (qn (fun c ss es' R e=>?_) _ (hup hb5 (sH.trans sB)))
   obtain⟨x',ws',d',z1,z2⟩:=hinv c ss es' R e
   obtain⟨rfl,rfl⟩:=List.cons.inj z1
   exact hno5 d' z2
 ·rintro σ H' ⟨es,ys,t,u,rfl,hbL,hpL,hpS',Ie,en,et,hst,sH⟩
  rw [List.length_map] at en et
  rw [List.take_length] at et
  have hysl:ys.length=es.length:=Ie.length
  refine⟨_,rfl,_,rfl,_,rfl,b,_,rfl,.inl ⟨SqL.of hbL,fun t2 ht2=>⟨q3j (by show 3≤1000; decide),fun r hr2=>?_⟩⟩⟩
  have s7:=(q0d (o:=HO.tup ys) ht2).trans (q0d (o:=HO.tup [V.int n,V.ref pS,V.ref t2]) hr2)
  have gd:∀ e∈es,q3f e=true∧q2j 60 e=true∧x6n e=true∧x6c 200 e=true:=fun e he=>by
   obtain⟨x,ws,z⟩:=hst e he
   exact⟨z.good.p,z.good.s,z.good.n,z.good.i⟩
  have hR:RtS n ss es:=⟨⟨n1,n9,(R8.seats hne).1,List.all_eq_true.mpr fun e he=>(gd e he).1,q1j.mpr fun e he=>(gd e he).2.1,q3c.mpr fun e he=>(gd e he).2.2.2,q1o.mpr fun e he=>(gd e he).2.2.1,by omega⟩,Rs,hne,by omega,hst⟩
  refine q _ _ n ss es (.tup q0c (by show 3≤1000; decide) (.cons (.int n) (.cons (.tup (s7 _ _ hpS') (by rw [List.length_map]; omega) (x5b ss)) (.cons (.tup ((q0d hr2) _ _ q0c) (by omega) (Ie.mono (by decide) s7)) .nil)))) hR ?_ (sH.trans s7)
  rw [← hj]
  congr 1
  unfold q2m
  rw [List.cons_append,← et]
  congr 1
  rw [← hwj,ess]
end
end K1
namespace K1
open PySem L2 Kp Kz
section
variable {P:Program} {w:World} {K:Frag} {mg:Str→Option Value} {base:Heap}
noncomputable def j5e:Sp:=fun vs H Q _=>∃ (c:Int),vs=[.int c]∧∀ (y:Str) H',y.length≤80000→q1h H H'→Q (.str y) H'
theorem j1q:FnScope ["_law_cell", "_law_odd_here"] ["_law_cell"] (q0e x0d):=fSc
noncomputable def z5r:V→Bool
 | .str y=>decide (y.length≤80000)
 | _=>false
theorem j5a {Q:VK} {xs zs:List V} {l:Addr} {H:Hp} (hl:H l=some (.lst xs)) (hx:xs.all z5r=true) (hz:zs.all z5r=true) (hne:xs≠[]) (hle:xs.length+zs.length≤1000) (q:∀ p' H' ys,H' p'=some (.lst ys)→ys.all z5r=true→ys≠[]→ys.length=xs.length+zs.length→q1h H H'→Q (.ref p') H'):zs.length≤sizeLine∧∀ p,H p=none→j7j (.ref l) (.ref p) (upd H p (.lst zs)) Q:=by
 have hs:(1000:Nat)≤sizeLine:=by rw [sizeLine_eq]; decide
 refine⟨by omega,fun p hp=>⟨l,p,xs,zs,rfl,rfl,(q0d hp) _ _ hl,q0c,by omega,fun p2 hp2=>q p2 _ (xs++zs) q0c (by rw [List.all_append,hx,hz]; rfl) (fun z=>hne (List.append_eq_nil_iff.mp z).1) (List.length_append ..) ((q0d hp).trans (q0d hp2))⟩⟩
theorem j6l {f:Addr} {fd:FuncData} (F:Fun K "_law_odd" "_law_odd" x0d f fd) (T:Txt mg):FnOk P w K mg base CX0 1 f fd ["_law_cell"] j5e:=by
 refine F.ok j1q (fun vs H Q E ⟨_,e,_⟩=>by subst e; rfl) (fun _ A _ s H vs Q E hr h=>?_)
 obtain⟨c,rfl,q⟩:=h
 refine⟨_,@q0j _ _ _ _ _ (q0y (i:=1) j1q.nd (by rfl) (by exact Or.inl rfl) (QE.h (q4s (q0x (q0x (q0x (q0x (q0x (q0x (q0x (q0x (q0x q4g))))))))))))
  (@q0j _ _ _ _ _ (q0y (i:=1) j1q.nd (by rfl) (by exact Or.inl rfl) (q0p x1x (pv 1) (QE.h (q4s (q0x q4g)))))
  (@q0j _ _ _ _ _ (q0y (i:=1) j1q.nd (by rfl) (by exact Or.inl rfl) (q0p x1x (pv 1) (QE.h (q4s (q0x (q0x (q0x (q0x (q0x (q0x q4g))))))))))
  (@q0j _ _ _ _ _ (q0y (i:=1) j1q.nd (by rfl) (by exact Or.inl rfl) (q0p x1x (pv 1) (QE.h (q4s (q0x (q0x (q0x (q0x (q0x q4g)))))))))
  (@q0j _ _ _ _ _ (q0y (i:=1) j1q.nd (by rfl) (by exact Or.inl rfl) (q0p x1x (pv 1) (QE.h (q4s (q0x (q0x (q0x q4g)))))))
  (@q0m _ _ _ (q0g (q1i q1b (pv 1) (q0p q1u (pv 0) (q0n q0l (by rfl) T.len PySem.boot_len (q1c (pv 1) q0a))) x7k))))))),?_⟩
 refine⟨q3j (by show 9≤1000; decide),fun p1 h1=>?_⟩
 refine⟨_,rfl,j5a (l:=p1) q0c (by decide +kernel) (by decide +kernel) (List.cons_ne_nil _ _) (by decide) fun p2 H2 x2 e2 a2 n2 l2 s2=>?_⟩
 refine⟨_,rfl,j5a (l:=p2) e2 a2 (by decide +kernel) n2 (by rw [l2]; decide) fun p3 H3 x3 e3 a3 n3 l3 s3=>?_⟩
 refine⟨_,rfl,j5a (l:=p3) e3 a3 (by decide +kernel) n3 (by rw [l3,l2]; decide) fun p4 H4 x4 e4 a4 n4 l4 s4=>?_⟩
 refine⟨_,rfl,j5a (l:=p4) e4 a4 (by decide +kernel) n4 (by rw [l4,l3,l2]; decide) fun p5 H5 x5 e5 a5 n5 l5 s5=>?_⟩
 have hp:(0:Int) < (x5.length:Int):=by have:=List.length_pos_iff.mpr n5; omega
 obtain⟨b0,b1⟩:=q2a c hp
 obtain⟨u,eu,hu⟩:=q4p (xs:=x5) b0 b1
 have hs:=List.all_eq_true.mp a5 u hu
 obtain⟨y,rfl,hy⟩:∃ y:Str,u=.str y∧y.length≤80000:=by
  cases u with
  | str y=>exact⟨y,rfl,of_decide_eq_true hs⟩
  | _=>cases hs
 exact⟨_,rfl,_,rfl,_,rfl,p5,_,rfl,.inl (SqL.of e5),_,_,rfl,rfl,hp,p5,_,_,_,rfl,rfl,SqL.of e5,eu,q y _ hy ((((q0d h1).trans s2).trans s3).trans (s4.trans s5))⟩
end
end K1
namespace K1
open PySem L2 Kp Kz
section
variable {P:Program} {w:World} {K:Frag} {mg:Str→Option Value} {base:Heap}
noncomputable def j6q:Sp:=fun vs H Q _=>∃ (x:Str) (c o:Int),vs=[.str x,.int c,.int o]∧x.length≤13000∧(Txt.split x "\n").length≤10∧(∀ w∈Txt.split x "\n",w.length≤1240)∧∀ (y:Str) H',y.length≤80000→q1h H H'→Q (.str y) H'
theorem z9k:FnScope ["_law_told", "_law_cell", "_law_other", "_law_at", "_law_sign", "_law_lines"] ["_law_told", "_law_cell", "_law_other"] (q0e q5o):=fSc
theorem j5j {f:Addr} {fd:FuncData} (F:Fun K "_law_changed" "_law_changed" q5o f fd) (T:Txt mg) (CO:Cal P w K mg base "_law_odd" 1 ["_law_cell"] j5e):FnOk P w K mg base CX0 2 f fd ["_law_told", "_law_cell", "_law_other"] j6q:=by
 refine F.ok z9k (fun vs H Q E ⟨_,_,_,e,_⟩=>by subst e; rfl) (fun _ A _ s H vs Q E hr h=>?_)
 obtain⟨x,c,o,rfl,hx,hfew,hsh,q⟩:=h
 refine⟨_,@q0j _ _ _ _ _ (q0y (i:=3) z9k.nd (by rfl) (by exact Or.inl rfl) (q0p q1u (q0p q2e (pv 1) q0b) (q0p q4f (q0n q2v (by rfl) T.len PySem.boot_len (q1c (pv 0) q0a)) q0b)))
  (@q0j _ _ _ _ _ (q0y (i:=4) z9k.nd (by rfl) (by exact Or.inl rfl) (q1i x9x q0q (q0p q1u (pv 2) q0b) x7k))
  (@q0j _ _ _ _ _ (q1e (q0f x2p (q0p q1u (pv 1) q0b) q0b (q0i _)) (@q0m _ _ _ (q0g (q0p q0z (q0p q0z (q1g q7v (pv 0) q1p (q1m (pv 3))) (pv 4)) (q1g q7v (pv 0) (q1m (pv 3)) q1p)))) q0h)
  (@q0j _ _ _ _ _ (q1e (q0f q1s (q0p q1u (pv 1) q0b) q0b (q0i _)) (@q0m _ _ _ (q0g (q0p q0z (q1g q7v (pv 0) q1p (q1m (pv 3))) (q1g q7v (pv 0) (q1m (q0p q4f (pv 3) q0b)) q1p)))) q0h)
  (@q0j _ _ _ _ _ (q1e (q0f q1s (q0p q1u (pv 1) q0b) q0b (q0i _)) (@q0m _ _ _ (q0g (q0p q0z (q0p q0z (q1g q7v (pv 0) q1p (q1m (pv 3))) (pv 4)) (q1g q7v (pv 0) (q1m (q0p q4f (pv 3) q0b)) q1p)))) q0h)
  (@q0j _ _ _ _ _ (q1e (q0f q1s (q0p q1u (pv 1) q0b) q0b (q0i _)) (@q0m _ _ _ (q0g (q0p q0z (q1g q7v (pv 0) q1p (q1m (j0g z3f q0b))) (q1i q1b (QE.h (q4s (q0x (q0x (q0x (q0x (q0x (q0x q4g)))))))) (q0p q1u (pv 2) q0b) x7k)))) q0h)
  (@q0j _ _ _ _ _ (q0y (i:=5) z9k.nd (by rfl) (by exact Or.inl rfl) (q6w PySem.F.plainAttrs_str PySem.F.slot_str_split PySem.F.type_str_split q6f (pv 0) (q3r q0q q0a)))
  (@q0j _ _ _ _ _ (q0y (i:=3) z9k.nd (by rfl) (by exact Or.inl rfl) (q0p q1u (q0p q2e (pv 1) q0b) (q0n q0l (by rfl) T.len PySem.boot_len (q1c (pv 5) q0a))))
  (@q0j _ _ _ _ _ (q1e (q0f q1s (q0p q1u (pv 1) q0b) q0b (q0i _)) (@q0m _ _ _ (q0y (i:=5) z9k.nd (by rfl) (by exact Or.inl rfl) (q0p x1x (q1g q3p (pv 5) q1p (q1m (pv 3))) (q1g q3p (pv 5) (q1m (q0p q4f (pv 3) q0b)) q1p)))) q0h)
  (@q0j _ _ _ _ _ (q1e (q0f q1s (q0p q1u (pv 1) q0b) q0b (q0i _)) (@q0m _ _ _ (q0y (i:=5) z9k.nd (by rfl) (by exact Or.inl rfl) (q0p x1x (q0p x1x (q1g q3p (pv 5) q1p (q1m (pv 3))) (q8w (q6q (q1i q1b (pv 5) (q0p q1u (pv 2) (q0n q0l (by rfl) T.len PySem.boot_len (q1c (pv 5) q0a))) x7k) q0a))) (q1g q3p (pv 5) (q1m (pv 3)) q1p)))) q0h)
  (@q0j _ _ _ _ _ (q1e (q0f q1s (q0p q1u (pv 1) q0b) q0b (q0i _)) (@q0m _ _ _ (q0g (q0s CO hr (q1c (pv 2) q0a)))) q0h)
  (@q0m _ _ _ (q0g (q6w PySem.F.plainAttrs_str PySem.F.slot_str_join PySem.F.type_str_join j0x q0q (q1c (pv 5) q0a)))))))))))))),?_⟩
 have hsz:x.length≤sizeLine:=by rw [sizeLine_eq]; omega
 have hp1:(0:Int) < (x.length:Int)+1:=by omega
 refine⟨_,rfl,_,_,rfl,rfl,⟨by decide,by decide⟩,_,rfl,x,rfl,hsz,_,_,rfl,rfl,_,_,rfl,rfl,hp1,?_⟩
 obtain⟨a0,a1⟩:=q2a (c / 8) hp1
 obtain⟨a,ea⟩:=Int.eq_ofNat_of_zero_le a0
 have ha:a≤x.length:=by omega
 obtain⟨b0,b1⟩:=q2a o (m:=18) (by decide)
 have l18:(" \n0123456789abrz-+A" : Str).length=19:=by decide +kernel
 obtain⟨sc,hsc,_⟩:=q4p (xs:=(" \n0123456789abrz-+A" : Str).cps.toList) b0 (by rw [Array.length_toList]; exact Int.lt_of_lt_of_le b1 (by show (18:Int)≤((" \n0123456789abrz-+A" : Str).length:Int); rw [l18]; decide))
 refine⟨_,rfl,_,_,rfl,rfl,(by show (0:Int) < 18; decide),_,_,sc,rfl,rfl,(by rw [l18,sizeLine_eq]; decide),hsc,?_⟩
 have hsg:(⟨#[sc]⟩:Str).length=1:=rfl
 generalize (⟨#[sc]⟩:Str)=sg at hsg
 have ea1:(a:Int)+1=((a+1:Nat):Int):=by omega
 have lf:∀ y,y=Txt.slice x (some (c / 8 % ((x.length:Int)+1)+1)) none→y.length≤13000:=fun y e=>by
  rw [ea,ea1] at e
  subst e
  exact Nat.le_trans q7u (by omega)
 have lf0:∀ y,y=Txt.slice x (some (c / 8 % ((x.length:Int)+1))) none→y.length≤13000:=fun y e=>by
  rw [ea] at e
  subst e
  exact Nat.le_trans q7u (by omega)
 have lt0:∀ y,y=Txt.slice x none (some (c / 8 % ((x.length:Int)+1)))→y.length≤13000:=fun y e=>by
  rw [ea] at e
  subst e
  exact Nat.le_trans (Nat.le_of_eq (x6s ha)) (by omega)
 refine⟨_,rfl,_,_,rfl,rfl,(by show (0:Int) < 8; decide),_,_,rfl,rfl,_,rfl,z4f (fun _=>?_) (fun _=>?_)⟩
 ·refine⟨_,rfl,_,rfl,_,rfl,x,rfl,hsz,fun y1 _ e1=>⟨_,rfl,_,_,rfl,rfl,?_⟩⟩
  have g1:=lt0 _ e1
  refine⟨(by rw [sizeLine_eq]; omega),_,rfl,_,rfl,_,rfl,x,rfl,hsz,fun y2 _ e2=>?_⟩
  have g2:=lf0 _ e2
  exact⟨_,_,rfl,rfl,(by rw [sizeLine_eq,q0v]; omega),q _ _ (by rw [q0v,q0v]; omega) (q1h.refl _)⟩
 refine⟨_,rfl,_,_,rfl,rfl,(by show (0:Int) < 8; decide),rfl,_,rfl,z4f (fun _=>?_) (fun _=>?_)⟩
 ·refine⟨_,rfl,_,rfl,_,rfl,x,rfl,hsz,fun y1 _ e1=>⟨_,rfl,_,rfl,_,_,rfl,rfl,_,rfl,x,rfl,hsz,fun y2 _ e2=>?_⟩⟩
  have g1:=lt0 _ e1
  have g2:=lf _ e2
  exact⟨_,_,rfl,rfl,(by rw [sizeLine_eq]; omega),q _ _ (by rw [q0v]; omega) (q1h.refl _)⟩
 refine⟨_,rfl,_,_,rfl,rfl,(by show (0:Int) < 8; decide),rfl,_,rfl,z4f (fun _=>?_) (fun _=>?_)⟩
 ·refine⟨_,rfl,_,rfl,_,rfl,x,rfl,hsz,fun y1 _ e1=>⟨_,rfl,_,_,rfl,rfl,?_⟩⟩
  have g1:=lt0 _ e1
  refine⟨(by rw [sizeLine_eq]; omega),_,rfl,_,rfl,_,_,rfl,rfl,_,rfl,x,rfl,hsz,fun y2 _ e2=>?_⟩
  have g2:=lf _ e2
  exact⟨_,_,rfl,rfl,(by rw [sizeLine_eq,q0v]; omega),q _ _ (by rw [q0v,q0v]; omega) (q1h.refl _)⟩
 refine⟨_,rfl,_,_,rfl,rfl,(by show (0:Int) < 8; decide),rfl,_,rfl,z4f (fun _=>?_) (fun _=>?_)⟩
 ·obtain⟨d0,d1⟩:=q2a o (m:=6) (by decide)
  obtain⟨u,eu,hu⟩:=q4p (xs:=([" ", " \n", "\n ", "", "\n\n", "0"]:List Str).map V.str) d0 (by exact d1)
  obtain⟨z,hz,rfl⟩:=List.mem_map.mp hu
  have hzl:z.length≤2:=by
   have:(([" ", " \n", "\n ", "", "\n\n", "0"]:List Str).all fun z=>decide (z.length≤2))=true:=by decide +kernel
   exact of_decide_eq_true (List.all_eq_true.mp this z hz)
  refine⟨_,rfl,_,rfl,_,rfl,x,rfl,hsz,fun y1 h1 e1=>⟨q3j (by show 6≤1000; decide),fun p hp=>?_⟩⟩
  exact⟨_,rfl,_,_,rfl,rfl,(by show (0:Int) < 6; decide),p,_,_,_,rfl,rfl,SqL.of q0c,eu,_,_,rfl,rfl,(by rw [sizeLine_eq]; omega),q _ _ (by rw [q0v]; omega) (q0d hp)⟩
 have hne:Txt.split x "\n" ≠ []:=by rw [z6p]; exact x0v _ _
 refine⟨_,rfl,rfl,x, "\n",rfl,rfl,by decide +kernel,by rw [sizeLine_eq]; omega,fun l hl=>?_⟩
 generalize Txt.split x "\n" = ws at hfew hsh hne ⊢
 have s1:=q0d (o:=HO.lst (ws.map V.str)) hl
 generalize eH1:upd H l (.lst (ws.map V.str))=H1 at s1 ⊢
 have hl1:H1 l=some (.lst (ws.map V.str)):=by rw [← eH1]; exact q0c
 have hwp:(0:Int) < (ws.length:Int):=by
  have:=List.length_pos_iff.mpr hne
  omega
 have lm:((ws.map V.str).length:Int)=(ws.length:Int):=by rw [List.length_map]
 refine⟨_,rfl,_,_,rfl,rfl,⟨by decide,by decide⟩,_,rfl,l,_,rfl,.inl (SqL.of hl1),?_⟩
 rw [lm]
 refine⟨_,_,rfl,rfl,hwp,?_⟩
 obtain⟨c0,c1⟩:=q2a (c / 8) hwp
 obtain⟨b,eb⟩:=Int.eq_ofNat_of_zero_le c0
 have cT:q8c (ws.map V.str) none (some (c / 8 % (ws.length:Int)))=(ws.take b).map V.str:=by rw [eb,z5q,List.map_take]
 have cD:q8c (ws.map V.str) (some (c / 8 % (ws.length:Int))) none=(ws.drop b).map V.str:=by rw [eb,x5e,List.map_drop]
 have cD1:q8c (ws.map V.str) (some (c / 8 % (ws.length:Int)+1)) none=(ws.drop (b+1)).map V.str:=by rw [eb,show (b:Int)+1=((b+1:Nat):Int) by omega,x5e,List.map_drop]
 have hb:b < ws.length:=by omega
 have ht:∀ k,∀ w∈ws.take k,w.length≤1240:=fun k w hw=>hsh w (List.mem_of_mem_take hw)
 have hd:∀ k,∀ w∈ws.drop k,w.length≤1240:=fun k w hw=>hsh w (List.mem_of_mem_drop hw)
 have fin:∀ (us:List Str) (l':Addr) (H2:Hp),(∀ w∈us,w.length≤1240)→us.length≤11→q1h H H2→H2 l'=some (.lst (us.map V.str))→∃ z p,∃ ys:List Str,V.str ("\n" : Str)=.str z∧[V.ref l']=[V.ref p]∧SqL K H2 p (ys.map V.str)∧JoinOk z ys=true∧Q (.str (Str.join z ys)) H2:=fun us l' H2 h1 h2 h3 h4=>⟨"\n",l',us,rfl,rfl,SqL.of h4,z2m (by decide +kernel) (L:=1240) (n:=11) h1 h2 (by decide),q _ _ (Nat.le_trans (x8w h1) (Nat.le_trans (Nat.mul_le_mul_right _ h2) (by decide))) h3⟩
 have m8:∀ k k':Int,c % 8=k→k≠k'→decide (V.int (c % 8)=V.int k')=false:=fun k k' e h=>decide_eq_false fun z=>h (e.symm.trans (V.int.inj z))
 refine⟨_,rfl,_,_,rfl,rfl,(by show (0:Int) < 8; decide),rfl,_,rfl,?_⟩
 by_cases h4:c % 8=4
 ·rw [decide_eq_true (show V.int (c % 8)=V.int 4 by rw [h4])]
  refine q1f ⟨_,rfl,_,rfl,_,rfl,l,_,rfl,SqL.of hl1,fun p1 hp1'=>?_⟩
  rw [cT]
  have s2:=q0d (o:=HO.lst ((ws.take b).map V.str)) hp1'
  refine⟨_,rfl,_,rfl,_,_,rfl,rfl,_,rfl,l,_,rfl,SqL.of (s2 _ _ hl1),fun p2 hp2=>?_⟩
  rw [cD1]
  have s3:=q0d (o:=HO.lst ((ws.drop (b+1)).map V.str)) hp2
  refine⟨p1,p2,_,_,rfl,rfl,s3 _ _ q0c,q0c,?_,fun p3 hp3=>?_⟩
  ·rw [List.length_map,List.length_map,List.length_take,List.length_drop,sizeLine_eq]; omega
  have s4:=q0d (o:=HO.lst ((ws.take b).map V.str++(ws.drop (b+1)).map V.str)) hp3
  refine⟨_,rfl,_,_,rfl,rfl,(by show (0:Int) < 8; decide),rfl,_,rfl,?_⟩
  rw [m8 4 5 h4 (by decide)]
  refine q1a ⟨_,rfl,_,_,rfl,rfl,(by show (0:Int) < 8; decide),rfl,_,rfl,?_⟩
  rw [m8 4 6 h4 (by decide)]
  refine q1a ⟨rfl,_,rfl,fin (ws.take b++ws.drop (b+1)) p3 _ ?_ ?_ (((s1.trans s2).trans s3).trans s4) ?_⟩
  ·exact fun w hw=>(List.mem_append.mp hw).elim (ht _ w) (hd _ w)
  ·rw [List.length_append,List.length_take,List.length_drop]; omega
  ·rw [List.map_append]; exact q0c
 rw [decide_eq_false (show ¬ V.int (c % 8)=V.int 4 from fun z=>h4 (V.int.inj z))]
 refine q1a ⟨_,rfl,_,_,rfl,rfl,(by show (0:Int) < 8; decide),rfl,_,rfl,?_⟩
 by_cases h5:c % 8=5
 ·rw [decide_eq_true (show V.int (c % 8)=V.int 5 by rw [h5])]
  refine q1f ⟨_,rfl,_,rfl,_,rfl,l,_,rfl,SqL.of hl1,fun p1 hp1'=>?_⟩
  rw [cT]
  have s2:=q0d (o:=HO.lst ((ws.take b).map V.str)) hp1'
  obtain⟨k0,k1⟩:=q2a o hwp
  obtain⟨k,ek⟩:=Int.eq_ofNat_of_zero_le k0
  have hk:k < ws.length:=by omega
  have hat:atI (ws.map V.str) (o % (ws.length:Int))=some (V.str ws[k]):=by
   rw [ek]
   exact q0k (by rw [List.getElem?_map,List.getElem?_eq_getElem hk]; rfl)
  refine⟨_,rfl,_,rfl,_,rfl,l,_,rfl,.inl (SqL.of (s2 _ _ hl1)),?_⟩
  rw [lm]
  refine⟨_,_,rfl,rfl,hwp,l,_,_,_,rfl,rfl,SqL.of (s2 _ _ hl1),hat,q3j (by show 1≤1000; decide),fun p2 hp2=>?_⟩
  have s3:=q0d (o:=HO.lst [V.str ws[k]]) hp2
  refine⟨p1,p2,_,_,rfl,rfl,s3 _ _ q0c,q0c,?_,fun p3 hp3=>?_⟩
  ·rw [List.length_map,List.length_take,sizeLine_eq]; show _+1≤_; omega
  have s4:=q0d (o:=HO.lst ((ws.take b).map V.str++[V.str ws[k]])) hp3
  refine⟨_,rfl,_,rfl,_,rfl,l,_,rfl,SqL.of (s4 _ _ (s3 _ _ (s2 _ _ hl1))),fun p4 hp4=>?_⟩
  rw [cD]
  have s5:=q0d (o:=HO.lst ((ws.drop b).map V.str)) hp4
  refine⟨p3,p4,_,_,rfl,rfl,s5 _ _ q0c,q0c,?_,fun p5 hp5=>?_⟩
  ·rw [List.length_append,List.length_map,List.length_map,List.length_take,List.length_drop,sizeLine_eq]; show _+1+_≤_; omega
  have s6:=q0d (o:=HO.lst ((ws.take b).map V.str++[V.str ws[k]]++(ws.drop b).map V.str)) hp5
  refine⟨_,rfl,_,_,rfl,rfl,(by show (0:Int) < 8; decide),rfl,_,rfl,?_⟩
  rw [m8 5 6 h5 (by decide)]
  refine q1a ⟨rfl,_,rfl,fin (ws.take b++[ws[k]]++ws.drop b) p5 _ ?_ ?_ (((s1.trans s2).trans s3).trans (s4.trans (s5.trans s6))) ?_⟩
  ·intro w hw
   rcases List.mem_append.mp hw with hw | hw
   ·rcases List.mem_append.mp hw with hw | hw
    ·exact ht _ w hw
    ·rw [List.mem_singleton.mp hw]; exact hsh _ (List.getElem_mem hk)
   ·exact hd _ w hw
  ·rw [List.length_append,List.length_append,List.length_take,List.length_drop]; show _+1+_≤_; omega
  ·rw [List.map_append,List.map_append]; exact q0c
 rw [decide_eq_false (show ¬ V.int (c % 8)=V.int 5 from fun z=>h5 (V.int.inj z))]
 refine q1a ⟨_,rfl,_,_,rfl,rfl,(by show (0:Int) < 8; decide),rfl,_,rfl,z4f (fun _=>?_) (fun _=>?_)⟩
 ·exact⟨_,rfl,o,rfl,fun y H' hy sy=>q y H' hy (s1.trans sy)⟩
 ·exact⟨rfl,_,rfl,fin ws l _ hsh (by omega) s1 hl1⟩
end
end K1
namespace L2
open PySem PySem.Spec PyProof.Rows
noncomputable def PEx (X:Cx) (e:Expr) (te:XK→TE):Prop:=∀ (pins:List (Addr × Obj)) (s:Shared) (σ:St) (H:Hp) (Q:VK) (E:XK) (W:Value→Shared→Prop),Inv X pins σ H s→te E σ H Q →
 (∀ H1 s1 ev s',Inv X pins σ H1 s1→CXe X.prog X.w X.stack H1 s1 E ev s'→W ev s')→wpAny (model X.prog X.w) X.A (eval e X.env) (EP X pins σ Q) W s
section
variable {X:Cx} {k:Nat} {f C:Addr} {fd:FuncData} {ps:List Str} {sp:Sp} {x m:Str} {p pos apos:Pos} {e o:Expr} {es:List Expr} {ta:TE} {t:TA}
end
section
variable {X:Cx} {C:Addr} {y n:Str} {j:Nat} {ip r1 r2 tp np hp:Pos} {c e1 e2:Expr} {tc:TT} {t1 t2:XK→TE} {b₀:Stmt} {suite:List Stmt} {ts:TS}
end
section
variable {X:Cx} {k:Nat} {f C:Addr} {fd:FuncData} {ps:List Str} {sp:Sp} {x m:Str} {p pos apos:Pos} {e o:Expr} {es:List Expr} {ta:TE} {t:TA}
end
section
variable {X:Cx} {C:Addr} {y n:Str} {j:Nat} {xp tp np hp:Pos} {e:Expr} {te:XK→TE} {b₀:Stmt} {suite:List Stmt} {ts:TS}
noncomputable def j6n (K:Frag) (C:Addr) (N j:Nat) (te:XK→TE) (ts:TS):TS:=fun D σ H=>te (j4w K C fun a H2=>ts (D.lost N) (σ.set j (some (.ref a))) H2) σ H fun _ H1=>D.nx σ H1
theorem z9u (hst:X.stack=X.env::X.outer) (hf:X.env.frame=some X.env.locals) (h1:PEx X e te) (hN:X.N.Nodup)
  (hgC:Gl X y) (hmC:X.mg y=some (.ref C)) (hj:X.N[j]? = some n) (hl:X.env.scope.names.lookup n=some .local) (hs:∀ a,PSs (X.suite a) (b₀::suite) ts) (hdc:(y==("__debug__" : Str))=false:=by decide) (hsw:swapsWith e none xp.line X.env=pure false:=by rfl) :
  PS X (.Try [.Expr e xp] [.ExceptHandler (some (.Name y np)) (some n) (b₀::suite) hp] [] [] tp) (j6n X.K C X.N.length j te ts):=by
 intro pins s σ H D I h
 refine wpAny_Try_except (wpAny_execs_cons (wpAny_Expr_any (thn (h1 pins s σ H (fun _ H1=>D.nx σ H1) _ _ I h fun H1 s1 ev s' I1 hx=>z6w hst hf hgC hmC hN hj hl hs I1 hx hdc) fun v s2 ⟨z,H2,I2,rz,q2⟩=>?_) I.quiet hsw))
 exact wpAny_execs_nil (wpAny_execs_nil ⟨σ,H2,I2,q2⟩)
end
section
variable {X:Cx} {k:Nat} {f C:Addr} {fd:FuncData} {ps:List Str} {sp:Sp} {x y:Str} {p pos rp xp np hp tp:Pos} {e:Expr} {es:List Expr} {t:TA} {b₀:Stmt} {suite:List Stmt} {ts:TS} {te:XK→TE}
theorem j6v (F:FnOk X.prog X.w X.K X.mg X.base (CXe X.prog X.w) k f fd ps sp) (hr:Room k X.A) (hg:Gl X x) (hm:X.mg x=some (.ref f)) (hk:keepIn X.K (.ref f)=true) (hb:q2i X.K fd ps []) (ha:∀ W,PA (X.wish W) (e::es) t)
  (he:starEach (e::es) X.env=(false,eval e X.env)::starEach es X.env:=by rfl) (hpl:(backTo pos (starEach es X.env)).any (·.1)=false:=by rfl) (hdb:(x==("__debug__" : Str))=false:=by decide) :
  PEx X (.Call (.Name x p) (e::es) [] pos) (fun E σ H Q=>t σ H fun vs H1=>sp (vs++[]) H1 Q E):=fun pins s σ H Q E W I h hW=>x0u F hr hg hm hk hb (ha W) he hpl hdb I h hW
end
end L2
namespace K1
open PySem L2 Kp Kz
theorem x0x {n:Nat} (ns:List Int):∀ d∈ns.map D.int,x8f n d:=fun d hd=>by
 obtain⟨i,_,rfl⟩:=List.mem_map.mp hd
 cases n <;> trivial
theorem z7r {d:D} (h:q3f d=true):x8f 2 d:=by
 have hst:=z8p h
 revert hst
 generalize q3d d=ws
 intro hst
 cases hst with
 | nums x ns _ _ _ _ _ _ =>
  intro y hy
  rcases List.mem_cons.mp hy with rfl | hy
  ·trivial
  ·exact x0x ns y hy
 | wish n w m ns _ _ _ _ =>
  intro y hy
  simp only [List.mem_cons,List.not_mem_nil,or_false] at hy
  rcases hy with rfl | rfl | rfl
  ·trivial
  ·trivial
  ·intro z hz
   rcases List.mem_cons.mp hz with rfl | hz
   ·trivial
   rcases List.mem_cons.mp hz with rfl | hz
   ·trivial
   ·exact x0x ns z hz
 | again n _ =>
  intro y hy
  simp only [List.mem_cons,List.not_mem_nil,or_false] at hy
  rcases hy with rfl | rfl <;> trivial
 | turn n i _ =>
  intro y hy
  simp only [List.mem_cons,List.not_mem_nil,or_false] at hy
  rcases hy with rfl | rfl | rfl <;> trivial
 | move i ns _ =>
  intro y hy
  simp only [List.mem_cons,List.not_mem_nil,or_false] at hy
  rcases hy with rfl | rfl | rfl
  ·trivial
  ·trivial
  ·exact x0x ns
theorem z4q {c:Int} {ss:List Int} {es:List D} (h:es.all q3f=true):x8f 4 (.tup [.int c,.tup (ss.map D.int),.tup es]):=by
 intro y hy
 simp only [List.mem_cons,List.not_mem_nil,or_false] at hy
 rcases hy with rfl | rfl | rfl
 ·trivial
 ·exact x0x ss
 ·exact fun d hd=>z7r (List.all_eq_true.mp h d hd)
structure ExcS (K:Frag) (mg:Str→Option Value) (cS cL cK cN cP cR:Addr):Prop where
 mS:mg "NoSchedule" = some (.ref cS)
 mL:mg "LogError" = some (.ref cL)
 mK:mg "NoKeeper" = some (.ref cK)
 mN:mg "NoLetter" = some (.ref cN)
 mP:mg "NoPlace" = some (.ref cP)
 mR:mg "NoRoom" = some (.ref cR)
 mV:mg "ValueError" = none
 ex:PySem.W.exmOne K (.ref cS) (.ref cS)=some true
 exL:PySem.W.exmOne K (.ref cS) (.ref cL)=some true
 ek:ExcK K cS
 ci:(PySem.W.clsIn K cS).isSome=true
 k2:PySem.W.kitOne K (.ref cS) (.type "ValueError")=some true
 k3:PySem.W.kitAny K (.ref cS) ([cK,cN,cP,cR].map Value.ref)=some false
theorem z6u:bootBuiltins "ValueError" = some (.type "ValueError"):=by decide +kernel
theorem x2z {X:Cx} {K':Frag} (h:X.K=K'):x0l X (.builtin "isinstance") (j3j K'):=h▸z3h
theorem FnOk.or {CX:CXT} {P:Program} {w:World} {K:Frag} {mg:Str→Option Value} {base:Heap} {k:Nat} {f:Addr} {fd:FuncData} {ps:List Str} {sp sp':Sp} (F:FnOk P w K mg base CX k f fd ps sp) (G:FnOk P w K mg base CX k f fd ps sp'):FnOk P w K mg base CX k f fd ps (fun vs H Q E=>sp vs H Q E∨sp' vs H Q E) :=
 ⟨fun vs H Q E h=>h.elim (F.len _ _ _ _) (G.len _ _ _ _),fun A outer s H args us vs Q E hr he hb hv hq=>hq.elim (F.run A outer s H args us vs Q E hr he hb hv) (G.run A outer s H args us vs Q E hr he hb hv)⟩
section
variable {P:Program} {w:World} {K:Frag} {mg:Str→Option Value} {base:Heap} {cS cL cK cN cP cR:Addr}
noncomputable def j4y (cS:Addr):Sp:=fun vs H Q E=>j4h cS vs H Q E∨z8j cS vs H Q E
noncomputable def noR (y:Str):Prop:=∀ c ss es,RtS c ss es→y=Str.join "\n" (q2m c ss es++[("" : Str)])→False
noncomputable def j7e (yes:V→Hp→Hp→VK→Prop) (no:VK→Prop):Sp:=fun vs H Q _=>∃ (y:Str),vs=[.str y]∧((∃ c ss es,y=Str.join "\n" (q2m c ss es++[("" : Str)])∧RtS c ss es∧∀ v H',Is 1000 H' v (.tup [.int c,.tup (ss.map D.int),.tup es])→q1h H H'→yes v H H' Q)∨(y.length≤80000∧noR y∧no Q))
theorem j3c {H:Hp} {Q:VK} {E:XK} {y:Str} {yes:V→Hp→Prop} {no:Prop} (h:(∃ c ss es,y=Str.join "\n" (q2m c ss es++[("" : Str)])∧RtS c ss es∧∀ v H',Is 1000 H' v (.tup [.int c,.tup (ss.map D.int),.tup es])→q1h H H'→yes v H')∨(y.length≤80000∧noR y∧no)) (hy:∀ v H',yes v H'→Q v H') (hn:no→∀ c' H',E (.ref cS) c' H'):j4y cS [.str y] H Q E:=by
 rcases h with ⟨c,ss,es,e,R,q⟩ | ⟨hl,hno,hq⟩
 ·refine .inl ⟨y,c,ss,es,rfl,e,R.R,fun _ v H' I s=>hy _ _ (q v H' I s),fun hp=>?_⟩
  rw [z6q R] at hp; cases hp
 ·exact .inr ⟨y,rfl,hl,fun v H' c ss es hp hno' hsm e=>(hno c ss es (j6k hp hsm) e).elim,hn hq⟩
theorem j8i:FnScope ["_law_told"] ["_law_told"] (q0e q7f):=fSc
noncomputable def z9p:Sp:=j7e (fun v _ H' Q=>Q v H') (fun Q=>∀ H',Q .non H')
theorem j3i {f:Addr} {fd:FuncData} {kk:Nat} (Z:ExcS K mg cS cL cK cN cP cR) (F:Fun K "_law_tried" "_law_tried" q7f f fd) (CW:CalE P w K mg base "read_schedule" kk ["text"] (j4y cS)):FnOk P w K mg base CX0 (kk+1) f fd ["_law_told"] z9p:=by
 refine F.ok j8i (fun vs H Q E ⟨_,e,_⟩=>by subst e; rfl) (fun _ A _ s H vs Q E hr h=>?_)
 obtain⟨y,rfl,h⟩:=h
 obtain⟨gW,dW,GW,mW,kW,bW⟩:=CW.ex
 refine⟨_,@q0m _ _ _ (z4v (by rfl) (by rfl) GW hr (by rfl) mW kW bW (fun _=>q1c (pv 0) q0a) (by rfl) Z.mS (fun _=>@q0m _ _ _ (q0g q1t))),?_⟩
 exact⟨_,rfl,j3c h (fun v H' q=>q) fun q c' H'=>⟨Z.ex,fun a ha=>q _⟩⟩
theorem j6z:FnScope ["_law_told", "e"] ["_law_told"] (q0e q9q):=fSc
noncomputable def j0u:Sp:=j7e (fun _ _ H' Q=>Q (.bl false) H') (fun Q=>∀ H',Q (.bl true) H')
theorem j4f {f:Addr} {fd:FuncData} {kk:Nat} (Z:ExcS K mg cS cL cK cN cP cR) (F:Fun K "_law_any" "_law_any" q9q f fd) (T:Txt mg) (CW:CalE P w K mg base "read_schedule" kk ["text"] (j4y cS)):FnOk P w K mg base CX0 (kk+1) f fd ["_law_told"] j0u:=by
 refine F.ok j6z (fun vs H Q E ⟨_,e,_⟩=>by subst e; rfl) (fun _ A _ s H vs Q E hr h=>?_)
 obtain⟨y,rfl,h⟩:=h
 obtain⟨gW,dW,GW,mW,kW,bW⟩:=CW.ex
 refine⟨_,@q0j _ _ _ _ _ (z9u (j:=1) (by rfl) (by rfl) (j6v GW hr (by rfl) mW kW bW (fun _=>q1c (pv 0) q0a)) j6z.nd (by rfl) Z.mL (by rfl) (by rfl) (fun _=>@q0m _ _ _ (q0g (q3x (q0n (x2z (K':=K) (by rfl)) (by rfl) T.isi q3u (q1c (pv 1) (q1c (x4m (by rfl) Z.mV z6u) q0a))) (q4q (x9u (q0n (x2z (K':=K) (by rfl)) (by rfl) T.isi q3u (q1c (pv 1) (q0o (QE.h (j3p (j4z (q6i (by rfl) Z.mK) (j4z (q6i (by rfl) Z.mN) (j4z (q6i (by rfl) Z.mP) (j4z (q6i (by rfl) Z.mR) q4g)))))) q0a))))))))) (@q0m _ _ _ (q0g x7c)),?_⟩
 refine⟨_,rfl,j3c h (fun v H' q=>q) fun q c' H'=>⟨Z.exL,fun a ha=>?_⟩⟩
 have sa:=q0d (o:=x8g a (.ref cS)) ha
 have hca:upd H' a (x8g a (.ref cS)) a=some (x8g a (.ref cS)):=q0c
 refine⟨_,rfl,a,cS,true,hca,Z.ek,Z.ci,.inr (.inl ⟨_,rfl,Z.k2⟩),_,rfl,q1f ⟨_,rfl,q3j (by show 4≤1000; decide),fun tp htp=>?_⟩⟩
 have sb:=q0d (o:=HO.tup [V.ref cK,V.ref cN,V.ref cP,V.ref cR]) htp
 exact⟨a,cS,false,sb _ _ hca,Z.ek,Z.ci,.inr (.inr ⟨tp,[cK,cN,cP,cR],rfl,q0c,Z.k3⟩),_,rfl,q _⟩
end
end K1
namespace K1
open PySem L2 Kp Kz
theorem SchR.take {c:Int} {ss:List Int} {es:List D} (R:SchR c ss es) (k:Nat):SchR c ss (es.take k):=⟨R.c1,R.c9,R.se,List.all_eq_true.mpr fun e he=>List.all_eq_true.mp R.st e (List.mem_of_mem_take he),q1j.mpr fun e he=>q1j.mp R.sm e (List.mem_of_mem_take he),q3c.mpr fun e he=>q3c.mp R.wi e (List.mem_of_mem_take he),q1o.mpr fun e he=>q1o.mp R.no e (List.mem_of_mem_take he),by have:=R.few; rw [List.length_take]; omega⟩
theorem x5m {B:Nat} {H:Hp}:∀ {vs:List V} {ds:List D} (k:Nat),IsL B H vs ds→IsL B H (vs.take k) (ds.take k)
 | _,_,0,_=>by rw [List.take_zero,List.take_zero]; exact .nil
 | _,_,k+1,.nil=>.nil
 | _,_,k+1,.cons h t=>.cons h (x5m k t)
section
variable {P:Program} {w:World} {K:Frag} {mg:Str→Option Value} {base:Heap}
noncomputable def z7h (K:Frag):Sp:=fun vs H Q _=>∃ (a:Addr) (ns:List Int),vs=[.ref a]∧SqL K H a (ns.map V.int)∧ns.length≤63∧∀ H',Q (.bl true) H'
noncomputable def tCh (K:Frag):TS:=fun D σ H=>∃ (a:Addr) (ns:List Int) (v:V) (x:Str) (z:Int),σ=[some (.ref a),some v,some (.str x),some (.int z),none,none]∧SqL K H a (ns.map V.int)∧x.length≤13000∧(Txt.split x "\n").length≤10∧(∀ w∈Txt.split x "\n",w.length≤1240)∧∀ (y:Str) H',y.length≤80000→q1h H H'→D.nx [some (.ref a),some v,some (.str y),some (.int z),none,none] H'
theorem x7s:FnScope ["_law_script", "_law_schedule_here", "_law_told", "_law_cell", "_law_due_here", "_law_found"] ["_law_script"] (q0e z8h):=fSc
theorem j2g {f:Addr} {fd:FuncData} {LV kT kA:Nat} (hL:5≤LV∧kT≤LV∧kA≤LV) (F:Fun K "law" "law" z8h f fd) (T:Txt mg) (CC:Cal P w K mg base "_law_cell_at" 1 ["_law_script", "_law_k"] (x9d K)) (CS:Cal P w K mg base "_law_schedule" 5 ["_law_script", "_law_first"] (j0v K)) (CM:Cal P w K mg base "_law_mixed" 1 ["_law_cell", "_law_k"] z4d) (CW:Cal P w K mg base "_law_written" 3 ["_law_schedule_here"] j0t)
  (CG:Cal P w K mg base "_law_changed" 2 ["_law_told", "_law_cell", "_law_other"] j6q) (CD:Cal P w K mg base "_law_due" 5 ["_law_told"] j1n) (CT:Cal P w K mg base "_law_tried" kT ["_law_told"] z9p) (CA:Cal P w K mg base "_law_any" kA ["_law_told"] j0u):FnOk P w K mg base CX0 (LV+1) f fd ["_law_script"] (z7h K):=by
 refine F.ok x7s (fun vs H Q E ⟨_,_,e,_⟩=>by subst e; rfl) (fun _ A _ s H vs Q E hr h=>?_)
 obtain⟨a,ns,rfl,hS,hlen,k⟩:=h
 have r1:=hr.mono (show 1≤LV by omega)
 have r2:=hr.mono (show 2≤LV by omega)
 have r3:=hr.mono (show 3≤LV by omega)
 have r5:=hr.mono (show 5≤LV by omega)
 have rT:=hr.mono hL.2.1
 have rA:=hr.mono hL.2.2
 refine⟨_,@q0j _ _ _ _ _ (q0y (i:=1) x7s.nd (by rfl) (by exact Or.inl rfl) (q0s CS r5 (q6q (q1g q3p (pv 0) q1p (q1m q0b)) (q3r q0b q0a))))
  (@q0j _ _ _ _ _ (q0y (i:=2) x7s.nd (by rfl) (by exact Or.inl rfl) (q0s CW r3 (j5b (q2g (q6q (q1i q2q (pv 1) q0b q3t) (q6q (q1i q2q (pv 1) q0b q3t) (q6q (q1g j1g (q1i q2q (pv 1) q0b q3t) q1p (q1m q0b)) q0a)))) q0a)))
  (@q0j _ _ _ _ _ (q0y (i:=3) x7s.nd (by rfl) (by exact Or.inl rfl) (q0s CC r1 (q1c (pv 0) (q3r q0b q0a))))
  (@q0j _ _ _ _ _ (PS.weak6 (t':=tCh K) (q1e (q0f x5t (q0p q1u (pv 3) q0b) q0b (q0i _)) (@q0m _ _ _ (q0y (i:=2) x7s.nd (by rfl) (by exact Or.inl rfl) (q0s CG r2 (q1c (pv 2) (x6l (q0p q2e (pv 3) q0b) (q9l (q0s CM r1 (q9l (q0s CC r1 (q1c (pv 0) (q3r q0b q0a))) (q3r q0b q0a))) q0a)))))) q0h) ?w1)
  (@q0j _ _ _ _ _ (q0y (i:=4) x7s.nd (by rfl) (by exact Or.inl rfl) (q0s CD r5 (q1c (pv 2) q0a)))
  (@q0j _ _ _ _ _ (q0y (i:=5) x7s.nd (by rfl) (by exact Or.inl rfl) (q0s CT rT (q1c (pv 2) q0a)))
  (@q0j _ _ _ _ _ (q1e (q0f q6s (pv 4) q1t (q0i _)) (@q0m _ _ _ (q0g (q3x (q5k q6s (pv 5) q1t (q0i _)) (q4q (q0s CA rA (q1c (pv 2) q0a)))))) q0h)
  (@q0m _ _ _ (q0g (q3x (q0n q5d (by rfl) T.isi q3u (q1c (pv 5) (q1c (x4m (by rfl) T.tuple q1r) q0a))) (q3x (q5k (j3m hr.units100) (pv 5) (pv 4) (q0i _)) (q4q (x9u (q0s CA rA (q1c (pv 2) q0a)))))))))))))),?_⟩
 case w1 =>
  rintro D σ H ⟨a,ns,v,x,z,rfl,hS,hx,hf,hs,q⟩
  refine⟨_,rfl,_,_,rfl,rfl,(by show (0:Int) < 4; decide),rfl,_,rfl,z4f (fun _=>?_) (fun _=>q x H (by omega) (q1h.refl _))⟩
  refine⟨_,rfl,_,rfl,_,_,rfl,rfl,⟨by decide,by decide⟩,_,rfl,a,ns,8,rfl,hS,by decide,fun z8=>⟨z8,1,rfl,by decide,by decide,fun m m0 m1=>⟨x,_,m,rfl,hx,hf,hs,fun y H' hy s'=>q y H' hy s'⟩⟩⟩
 refine⟨_,rfl,_,rfl,a,_,rfl,hS,fun p hp=>?_⟩
 rw [show (7:Int)=((7:Nat):Int) from rfl,z5q,← List.map_take]
 have s1:=q0d (o:=HO.lst ((ns.take 7).map V.int)) hp
 refine⟨p,ns.take 7,1,rfl,SqL.of q0c,by decide,by decide,fun v H1 c ss es I1 R h90 hss s2=>?_⟩
 have sA:=s1.trans s2
 obtain⟨a1,xs1,rfl,ea1,_,rr⟩:=Is.vtup I1
 obtain⟨w0,us,rfl,z0,rr0⟩:=IsL.un rr
 obtain rfl:=Is.vint z0
 obtain⟨w1,us,rfl,z1,rr1⟩:=IsL.un rr0
 obtain⟨w2,us,rfl,z2,rr2⟩:=IsL.un rr1
 obtain rfl:=IsL.un0 rr2
 obtain⟨b,vb,rfl,eb,lb,rb⟩:=Is.vtup z1
 obtain⟨d,vd,rfl,ed,ld,rd⟩:=Is.vtup z2
 refine⟨_,rfl,a1,_,_,.int c,rfl,rfl,SqT.of ea1,q0k (j:=0) rfl,_,rfl,a1,_,_,.ref b,rfl,rfl,SqT.of ea1,q0k (j:=1) rfl,_,rfl,a1,_,_,.ref d,rfl,rfl,SqT.of ea1,q0k (j:=2) rfl,_,rfl,d,_,rfl,ed,fun p2 H2 hp2 s3=>⟨q3j (by show 3≤1000; decide),fun p3 hp3=>?_⟩⟩
 rw [show (8:Int)=((8:Nat):Int) from rfl,z5q] at hp2
 have s4:=q0d (o:=HO.tup [V.int c,V.ref b,V.ref p2]) hp3
 have sB:=s3.trans s4
 have R8:=R.take 8
 have l8:(es.take 8).length≤8:=by rw [List.length_take]; omega
 have hvl:=(x5m 8 rd).length
 refine⟨200,.ref p3,c,ss,es.take 8,rfl,.tup q0c (by show 3≤200; decide) (.cons (.int c) (.cons (z1.same sB) (.cons (.tup (s4 _ _ hp2) (by omega) ((x5m 8 rd).same sB)) .nil))),R8,fun H3 s5=>?_⟩
 have sC:=(sA.trans sB).trans s5
 refine⟨_,rfl,a,ns,7,rfl,SqL.same' hS sC,by decide,fun z=>?_⟩
 have hsp:=q7r (x4q R8)
 have hrl:(q2m c ss (es.take 8)).length≤9:=by unfold q2m; rw [List.length_cons,List.length_map]; omega
 have hw:∀ w∈q2m c ss (es.take 8)++[("" : Str)],w.length≤1240:=fun w hw=>by
  rcases List.mem_append.mp hw with hw | hw
  ·exact x2g R8 w hw
  ·rw [List.mem_singleton.mp hw]; decide
 have hl10:(q2m c ss (es.take 8)++[("" : Str)]).length≤10:=by rw [List.length_append,List.length_singleton]; omega
 have hxl:(Str.join "\n" (q2m c ss (es.take 8)++[("" : Str)])).length≤13000:=Nat.le_trans (x8w hw) (Nat.le_trans (Nat.mul_le_mul_right _ hl10) (by decide))
 refine⟨a,ns,_,_,z,rfl,SqL.same' hS sC,hxl,by rw [hsp]; exact hl10,by rw [hsp]; exact hw,fun y H4 hy s6=>?_⟩
 refine⟨_,rfl,y,rfl,hy,fun v2 H5 c2 ss2 es2 I5 R5 e5 s7=>?_,fun hno H5 s7=>?_⟩
 ·refine⟨_,rfl,y,rfl,.inl ⟨c2,ss2,es2,e5,R5,fun v3 H6 I6 s8=>?_⟩⟩
  obtain⟨a2,_,rfl,_⟩:=Is.vtup I5
  refine⟨_,rfl,rfl,_,rfl,?_⟩
  rw [decide_eq_false (show ¬ V.ref a2=V.non from fun z=>by cases z)]
  refine q1a ⟨_,rfl,_,_,_,_,rfl,I6.ty,x4o K _,_,rfl,?_⟩
  refine q1f ⟨_,rfl,_,rfl,1000,1000,_,4,I6,I5.same s8,z4q R5.R.st,by decide,_,rfl,?_⟩
  exact q1f ⟨_,rfl,y,rfl,.inl ⟨c2,ss2,es2,e5,R5,fun v7 H7 _ s9=>⟨_,rfl,k _⟩⟩⟩
 ·refine⟨_,rfl,y,rfl,.inr ⟨hy,hno,fun H6=>?_⟩⟩
  refine⟨_,rfl,rfl,_,rfl,?_⟩
  rw [decide_eq_true (show V.non=V.non from rfl)]
  refine q1f ⟨_,rfl,rfl,_,rfl,?_⟩
  rw [decide_eq_true (show V.non=V.non from rfl)]
  exact q1f ⟨_,rfl,y,rfl,.inr ⟨hy,hno,fun H7=>k _⟩⟩
end
end K1
namespace K1
open PySem L2 Kp
section
variable {P:Program} {w:World} {K:Frag} {mg:Str→Option Value} {base:Heap}
theorem x6a {x px:Str} {k k2:Nat} {C g:Addr} {p p':D→Bool} {f:D→List Str} (R:Cal P w K mg base x k [px] (x8u C p f)) (hm:mg x=some (.ref g)) (hs:∀ d,p' d=true→p d=true) (hk:k≤k2):Rdt P w K mg base C k2 g p' f:=by
 obtain⟨g',fd,F,m,kp,b⟩:=R.ex
 have e:g'=g:=by
  rw [m] at hm
  exact Value.ref.inj (Option.some.inj hm)
 subst e
 refine⟨⟨k,fd,px,hk,⟨fun vs H Q E h=>?_,fun A outer s H args us vs Q E hr he hb hv h=>?_⟩,kp,b⟩⟩
 ·obtain⟨a,l,ws,p,d,rest,e,_⟩:=h
  subst e; rfl
 ·obtain⟨a,l,ws,p,d,rest,e,W,hd,hp,q⟩:=h
  exact F.run A outer s H args us vs Q E hr he hb hv ⟨a,l,ws,p,d,rest,e,W,hd,hs d hp,q⟩
inductive PT6 (K:Frag):List (Str × List Str)→List DictEntry→Prop
 | nil:PT6 K [] []
 | cons {x:Str} {tk:Tok} {h:Int} {t:Addr} {ks:List Str} {tw:List (Str × List Str)} {es:List DictEntry} (hS:∀ H,SqT K H t (ks.map V.str)) (r:PT6 K tw es):PT6 K ((x,ks)::tw) (⟨h,.str x tk,.ref t⟩::es)
theorem PT6.at (x:Str):∀ {tw:List (Str × List Str)} {es:List DictEntry},PT6 K tw es→(tw.lookup x=none∧((es.find? fun e=>Value.isStrOf x e.key).map (·.val))=none)∨∃ ks t,tw.lookup x=some ks∧((es.find? fun e=>Value.isStrOf x e.key).map (·.val))=some (.ref t)∧∀ H,SqT K H t (ks.map V.str)
 | _,_,.nil=>.inl ⟨rfl,rfl⟩
 | _,_,.cons (x:=y) (tk:=tk) (h:=h) (t:=t) hS r=>by
  by_cases hy:x=y
  ·subst hy
   refine .inr ⟨_,t,?_,?_,hS⟩
   ·rw [List.lookup_cons,show (x==x)=true from by simp]
   ·rw [List.find?_cons,show Value.isStrOf x (Value.str x tk)=true from by show (x==x)=true; simp]
    rfl
  ·rw [List.lookup_cons,show (x==y)=false from by rw [beq_eq_false_iff_ne]; exact hy,List.find?_cons,show Value.isStrOf x (Value.str y tk)=false from by show (y==x)=false; rw [beq_eq_false_iff_ne]; exact fun z=>hy z.symm]
   exact r.at x
theorem j0m {a:Addr} {es:Array DictEntry} {n:Nat} (hm:mg "PARTS" = some (.ref a)) (hl:K.lookup a=some ⟨.type "dict",none,.dict es n,#[]⟩) (hk:PySem.W.KeysLit w.params es.toList) (hs:(a==sysModules)=false) (T:PT6 K Kp.q2n es.toList):PTab K mg w :=
 ⟨⟨a,es,n,hm,hl,hk,hs,fun x=>by rw [q8i]; exact T.at x⟩⟩
theorem x6t {x px:Str} {k k2:Nat} {C cN g:Addr} {f:D→List Str} (R:CalE P w K mg base x k [px] (x8y C cN f)) (hm:mg x=some (.ref g)) (hk:k≤k2):Rdr P w K mg base C cN k2 g f:=by
 obtain⟨g',fd,F,m,kp,b⟩:=R.ex
 have e:g'=g:=by
  rw [m] at hm
  exact Value.ref.inj (Option.some.inj hm)
 subst e
 exact⟨⟨k,fd,px,hk,F,kp,b⟩⟩
inductive TabR (P:Program) (w:World) (K:Frag) (mg:Str→Option Value) (base:Heap) (C cN:Addr) (k:Nat):List (Str × List (D→List Str))→List DictEntry→Prop
 | nil:TabR P w K mg base C cN k [] []
 | cons {x:Str} {tk:Tok} {h:Int} {t:Addr} {gs:List V} {fs:List (D→List Str)} {tw:List (Str × List (D→List Str))} {es:List DictEntry} (hS:∀ H,SqT K H t gs) (hR:Rrs P w K mg base C cN k gs fs) (hf:fs.length≤100) (r:TabR P w K mg base C cN k tw es):TabR P w K mg base C cN k ((x,fs)::tw) (⟨h,.str x tk,.ref t⟩::es)
theorem TabR.at {C cN:Addr} {k:Nat} (x:Str):∀ {tw:List (Str × List (D→List Str))} {es:List DictEntry},TabR P w K mg base C cN k tw es→(tw.lookup x=none∧((es.find? fun e=>Value.isStrOf x e.key).map (·.val))=none)∨∃ fs t gs,tw.lookup x=some fs∧fs.length≤100∧((es.find? fun e=>Value.isStrOf x e.key).map (·.val))=some (.ref t)∧(∀ H,SqT K H t gs)∧Rrs P w K mg base C cN k gs fs
 | _,_,.nil=>.inl ⟨rfl,rfl⟩
 | _,_,.cons (x:=y) (tk:=tk) (h:=h) (t:=t) hS hR hf r=>by
  by_cases hy:x=y
  ·subst hy
   refine .inr ⟨_,t,_,?_,hf,?_,hS,hR⟩
   ·rw [List.lookup_cons,show (x==x)=true from by simp]
   ·rw [List.find?_cons,show Value.isStrOf x (Value.str x tk)=true from by show (x==x)=true; simp]
    rfl
  ·rw [List.lookup_cons,show (x==y)=false from by rw [beq_eq_false_iff_ne]; exact hy,List.find?_cons,show Value.isStrOf x (Value.str y tk)=false from by show (y==x)=false; rw [beq_eq_false_iff_ne]; exact fun z=>hy z.symm]
   exact r.at x
theorem j3y {C cN:Addr} {name:Str} {kk:Nat} {tw:List (Str × List (D→List Str))} {a:Addr} {es:Array DictEntry} {n:Nat} (hm:mg name=some (.ref a)) (hl:K.lookup a=some ⟨.type "dict",none,.dict es n,#[]⟩) (hk:PySem.W.KeysLit w.params es.toList) (hs:(a==sysModules)=false) (T:TabR P w K mg base C cN kk tw es.toList):RTb P w K mg base C cN name kk tw :=
 ⟨⟨a,es,n,hm,hl,hk,hs,fun x=>by rw [q8i]; exact T.at x⟩⟩
end
theorem cal {P:Program} {w:World} {K:Frag} {mg:Str→Option Value} {base:Heap} {x:Str} {st:Stmt} {f:Addr} {fd:FuncData} {ps:List Str} {k:Nat} {sp:Sp} (F:Fun K x x st f fd) (hm:mg x=some (.ref f)) (b:q2i K fd ps []) (ok:FnOk P w K mg base CX0 k f fd ps sp):Cal P w K mg base x k ps sp:=⟨f,fd,ok,hm,F.kp,b⟩
theorem z0t {P:Program} {w:World} {K:Frag} {mg:Str→Option Value} {base:Heap} {x:Str} {st:Stmt} {f:Addr} {fd:FuncData} {ps:List Str} {k:Nat} {sp:Sp} (F:Fun K x x st f fd) (hm:mg x=some (.ref f)) (b:q2i K fd ps []) (ok:FnOk P w K mg base (CXe P w) k f fd ps sp):CalE P w K mg base x k ps sp:=⟨f,fd,ok,hm,F.kp,b⟩
structure DF (K:Frag) (n:Str) (st:Stmt) (f:Addr):Prop where
 a:nsIn K mainGlobals n=some (some (.ref f))
 F:∃ fd,Fun K n n st f fd
noncomputable def TF (K:Frag) (q:Addr) (vs:Array Value):Prop:=∃ o n s,K.lookup q=some ⟨.type "tuple",o,.seq vs n,s⟩
theorem TF.sq {K:Frag} {q:Addr} {vs:Array Value} {gs:List V} (h:TF K q vs) (hl:Nat.ble vs.size 1000=true) (r:q2x gs vs.toList) (H:Hp):SqT K H q gs:=let ⟨o,n,s,e⟩:=h; .inr ⟨_,_,_,e,rfl,rfl,q3j (Nat.le_of_ble_eq_true hl),r⟩
theorem bd {K:Frag} {x:Str} {st:Stmt} {f:Addr} {fd:FuncData} (p:Str) (F:Fun K x x st f fd) (h:∀ (kV doc pm:Value) (an:Option Addr) (cdv ct u:Value),bindArgs (fnOf x x (q7e st) (q5f st) (q0e st) .none kV doc pm an cdv ct) ⟨[u],[]⟩=pure ([p].zip [u])):q2i K fd [p] []:=F.binds fun _ _ _ _ _ _ us hl=>match us,hl with | [_],_=>h _ _ _ _ _ _ _
theorem bd2 {K:Frag} {x:Str} {st:Stmt} {f:Addr} {fd:FuncData} (p r:Str) (F:Fun K x x st f fd) (h:∀ (kV doc pm:Value) (an:Option Addr) (cdv ct u v:Value),bindArgs (fnOf x x (q7e st) (q5f st) (q0e st) .none kV doc pm an cdv ct) ⟨[u,v],[]⟩=pure ([p,r].zip [u,v])):q2i K fd [p,r] []:=F.binds fun _ _ _ _ _ _ us hl=>match us,hl with | [_,_],_=>h _ _ _ _ _ _ _ _
structure DMt (K:Frag) (C:Addr) (n q:Str) (st:Stmt) (g:Addr):Prop where
 a:findIn K (.ref C) n=some (some (.ref g))
 i:PySem.W.isFn K (.ref g)=true
 F:∃ fd,Fun K n q st g fd
theorem all_mk {l:PySem.W.OpenLaw} {w:World} {K:Frag} {h:Heap} {mg:Str→Option Value} {fa f0 f1 f2 f3 f4 f5 f6 f7 f8 f9 f10 f11 f12 f13 f14 f15 f16 f17 f18 f19 f20 f21 f22 f23 f24 f25 f26 f27 f28 f29 f30 f31 f32 f33 f34 f35 f36 f37 f38 f39 f40 f41 f42 f43 f44 f45 f46 f47 f48 f49 f50 f51 f52:Addr} (X:K.In h) (G:h.Ns mainGlobals mg) (hfa:mg "law" = some (.ref fa))
(d0:DF K "is_whole" z3e f0)(d1:DF K "is_from_nought" q4d f1)(d2:DF K "is_keeper" x8j f2)(d3:DF K "is_name" z7d f3)(d4:DF K "is_rising" x4v f4)(d5:DF K "is_row_of" j4u f5)(d6:DF K "fits" z0a f6)(d7:DF K "first_word" q6z f7)(d8:DF K "fits_behind_word" q3n f8)(d9:DF K "is_deed" x2h f9)(d10:DF K "is_seats" z3o f10)(d11:DF K "is_number_word" q3b f11)(d12:DF K "read_number" q3o f12)(d13:DF K "read_name" q4v f13)(d14:DF K "read_parts" q2w f14)(d15:DF K "read_behind_word" q2l f15)(d16:DF K "read_deed" q4r f16)(d17:DF K "is_part" x1i f17)(d18:DF K "is_deed_of_schedule" q2k f18)(d19:DF K "is_count" q9v f19)(d20:DF K "is_deeds" x0b f20)(d21:DF K "is_schedule" q6e f21)(d22:DF K "read_rest" q6l f22)(d23:DF K "read_part" q6b f23)(d24:DF K "read_parts_of" q2p f24)(d25:DF K "read_room" q6n f25)(d26:DF K "read_deed_of_schedule" q2b f26)(d27:DF K "schedule_of" q2y f27)(d28:DF K "read_schedule" q3m f28)(d29:DF K "_law_cell_at" j1m f29)(d30:DF K "_law_mixed" z2k f30)(d31:DF K "_law_name" z2r f31)(d32:DF K "_law_seats" x7o f32)(d33:DF K "_law_value" q6u f33)(d34:DF K "_law_deed" q8m f34)(d35:DF K "_law_place" q6x f35)(d36:DF K "_law_step" q8f f36)(d37:DF K "_law_schedule" q4t f37)(d38:DF K "_law_numbers" q5e f38)(d39:DF K "_law_row" q9r f39)(d40:DF K "_law_written" q5l f40)(d41:DF K "_law_number" q6m f41)(d42:DF K "_law_is_name" q5n f42)(d43:DF K "_law_rising" q6d f43)(d44:DF K "_law_wish" q8n f44)(d45:DF K "_law_called" q6h f45)(d46:DF K "_law_step_of" q5i f46)(d47:DF K "_law_due" x0a f47)(d48:DF K "_law_odd" x0d f48)(d49:DF K "_law_changed" q5o f49)(d50:DF K "_law_tried" q7f f50)(d51:DF K "_law_any" q9q f51)
  {odL anL:Option Addr} {slL:Array (Option Value)} {ocL kVL dcL pmL cdL ctL:Value} (aL:nsIn K mainGlobals "law" = some (some (.ref f52))) (lL:K.lookup f52=some ⟨ocL,odL,.func (fnOf "law" "law" (q7e z8h) (q5f z8h) (q0e z8h) .none kVL dcL pmL anL cdL ctL),slL⟩) (cL':PySem.W.codeIn K cdL "law" = true) (kL:keepIn K (.ref f52)=true)
  {u0 q0_0 q0_1 q0_2:Addr} {tkq0_0 tkq0_1 tkq0_2:Tok} {nd0:Nat}
  (da0:nsIn K mainGlobals "DEED_TELLERS" = some (some (.ref u0))) (dl0:K.lookup u0=some ⟨.type "dict",none,.dict #[⟨PyData.keyHash w.params "set",.str "set" tkq0_0,.ref q0_0⟩,⟨PyData.keyHash w.params "add",.str "add" tkq0_1,.ref q0_1⟩,⟨PyData.keyHash w.params "get",.str "get" tkq0_2,.ref q0_2⟩] nd0,#[]⟩) (ds0:(u0==sysModules)=false)
(tq0_0:TF K q0_0 #[.ref f3,.ref f0])(tq0_1:TF K q0_1 #[.ref f3,.ref f0])(tq0_2:TF K q0_2 #[.ref f3])
  {u1 q1_0 q1_1 q1_2:Addr} {tkq1_0 tkq1_1 tkq1_2:Tok} {nd1:Nat}
  (da1:nsIn K mainGlobals "DEED_READERS" = some (some (.ref u1))) (dl1:K.lookup u1=some ⟨.type "dict",none,.dict #[⟨PyData.keyHash w.params "set",.str "set" tkq1_0,.ref q1_0⟩,⟨PyData.keyHash w.params "add",.str "add" tkq1_1,.ref q1_1⟩,⟨PyData.keyHash w.params "get",.str "get" tkq1_2,.ref q1_2⟩] nd1,#[]⟩) (ds1:(u1==sysModules)=false)
(tq1_0:TF K q1_0 #[.ref f13,.ref f12])(tq1_1:TF K q1_1 #[.ref f13,.ref f12])(tq1_2:TF K q1_2 #[.ref f13])
  {uP qP_0 qP_1 qP_2 qP_3 qP_4 qP_5 qP_6 qP_7 qP_8 qP_9 qP_10 uR:Addr} {tkqP_0 tkqP_1 tkqP_2 tkqP_3 tkqP_4 tkqP_5 tkqP_6 tkqP_7 tkqP_8 tkqP_9 tkqP_10 tqP_0_0 tqP_1_0 tqP_1_1 tqP_2_0 tqP_3_0 tqP_4_0 tqP_5_0 tqP_5_1 tqP_6_0 tqP_7_0 tqP_7_1 tqP_8_0 tqP_8_1 tqP_9_0 tqP_9_1 tqP_10_0 tkR0 tkR1:Tok} {ndP:Nat}
  (daP:nsIn K mainGlobals "PARTS" = some (some (.ref uP))) (dlP:K.lookup uP=some ⟨.type "dict",none,.dict #[⟨PyData.keyHash w.params "stand",.str "stand" tkqP_0,.ref qP_0⟩,⟨PyData.keyHash w.params "beat",.str "beat" tkqP_1,.ref qP_1⟩,⟨PyData.keyHash w.params "bring",.str "bring" tkqP_2,.ref qP_2⟩,⟨PyData.keyHash w.params "double",.str "double" tkqP_3,.ref qP_3⟩,⟨PyData.keyHash w.params "lose",.str "lose" tkqP_4,.ref qP_4⟩,⟨PyData.keyHash w.params "wish",.str "wish" tkqP_5,.ref qP_5⟩,⟨PyData.keyHash w.params "again",.str "again" tkqP_6,.ref qP_6⟩,⟨PyData.keyHash w.params "turn",.str "turn" tkqP_7,.ref qP_7⟩,⟨PyData.keyHash w.params "move",.str "move" tkqP_8,.ref qP_8⟩,⟨PyData.keyHash w.params "pack",.str "pack" tkqP_9,.ref qP_9⟩,⟨PyData.keyHash w.params "wake",.str "wake" tkqP_10,.ref qP_10⟩] ndP,#[]⟩) (dsP:(uP==sysModules)=false)
(yqP_0:TF K qP_0 #[.str "keeper" tqP_0_0])(yqP_1:TF K qP_1 #[.str "keeper" tqP_1_0,.str "keeper" tqP_1_1])(yqP_2:TF K qP_2 #[.str "place" tqP_2_0])(yqP_3:TF K qP_3 #[.str "place" tqP_3_0])(yqP_4:TF K qP_4 #[.str "place" tqP_4_0])(yqP_5:TF K qP_5 #[.str "name" tqP_5_0,.str "deed" tqP_5_1])(yqP_6:TF K qP_6 #[.str "name" tqP_6_0])(yqP_7:TF K qP_7 #[.str "name" tqP_7_0,.str "keeper" tqP_7_1])(yqP_8:TF K qP_8 #[.str "keeper" tqP_8_0,.str "seats" tqP_8_1])(yqP_9:TF K qP_9 #[.str "keeper" tqP_9_0,.str "place" tqP_9_1])(yqP_10:TF K qP_10 #[.str "keeper" tqP_10_0])
  (naR:nsIn K mainGlobals "ROOM_PARTS" = some (some (.ref uR))) (yR:TF K uR #[.str "count" tkR0,.str "seats" tkR1]) {tkN:Tok} (nN:nsIn K mainGlobals "DEEDS_AT_MOST" = some (some (.int 300 tkN)))
  {cL cK cP cR cS:Addr} {ccx:PySem.ClassData} (ncL:nsIn K mainGlobals "LogError" = some (some (.ref cL))) (ncK:nsIn K mainGlobals "NoKeeper" = some (some (.ref cK))) (ncP:nsIn K mainGlobals "NoPlace" = some (some (.ref cP))) (ncR:nsIn K mainGlobals "NoRoom" = some (some (.ref cR))) (ncS:nsIn K mainGlobals "NoSchedule" = some (some (.ref cS))) (nV:nsIn K mainGlobals "ValueError" = some none)
  (xPS:PySem.W.excIn K cS z7i "ValueError.__new__" = true) (xeS:PySem.W.exmOne K (.ref cS) (.ref cS)=some true) (xeL:PySem.W.exmOne K (.ref cS) (.ref cL)=some true) (xga:findIn K (.ref cS) "__getattribute__" = some (some (.builtin "BaseException.__getattribute__"))) (xgn:findIn K (.ref cS) "__getattr__" = some none) (xcl:findIn K (.ref cS) "__class__" = some (some (.builtin "object.__class__")))
  (xgt:PySem.W.specialIn K (.builtin "object.__class__") "__get__" = some (some (.builtin "getset_descriptor.__get__"))) (xtk:PySem.W.takesIn K (.builtin "object.__class__")=some true) (xmo:PySem.W.mroIn K cS (.type "object")=some true) (xmb:PySem.W.mroIn K cS (.type "BaseException")=some true) (xci:PySem.W.clsIn K cS=some ccx)
  {cN C0 g0 g1 g2:Addr} (ncN:nsIn K mainGlobals "NoLetter" = some (some (.ref cN))) (aC:nsIn K mainGlobals "Words" = some (some (.ref C0)))
  (w0:DMt K C0 "__init__" "Words.__init__" q4c g0)
  (w1:DMt K C0 "word" "Words.word" q3v g1)
  (w2:DMt K C0 "all_passed" "Words.all_passed" q3i g2)
  (pg:PySem.W.plainGet K C0 Str.empty=true) (hd:PySem.W.hasDictIn K C0=true) (po:PySem.W.plainOver K C0=true) (sa:findIn K (.ref C0) "__setattr__" = some (some (.builtin "object.__setattr__"))) (mk:PySem.W.makesIn K C0=true) (kc:keepIn K (.ref C0)=true) (nw:findIn K (.ref C0) "words" = some none) (np:findIn K (.ref C0) "passed" = some none)
  (xP:PySem.W.excIn K cN z7i "ValueError.__new__" = true) (xe:PySem.W.exmOne K (.ref cN) (.ref cN)=some true) (xSN:PySem.W.exmOne K (.ref cS) (.ref cN)=some false) (xk2:PySem.W.kitOne K (.ref cS) (.type "ValueError")=some true) (xk3:PySem.W.kitAny K (.ref cS) [Value.ref cK,Value.ref cN,Value.ref cP,Value.ref cR]=some false)
  (z0:nsIn K mainGlobals "isinstance" = some none) (z1:nsIn K mainGlobals "int" = some none) (z2:nsIn K mainGlobals "bool" = some none) (z3:nsIn K mainGlobals "str" = some none) (z4:nsIn K mainGlobals "tuple" = some none) (z5:nsIn K mainGlobals "list" = some none) (z6:nsIn K mainGlobals "all" = some none) (z7:nsIn K mainGlobals "zip" = some none) (z8:nsIn K mainGlobals "len" = some none) (z9:nsIn K mainGlobals "range" = some none) (z10:nsIn K mainGlobals "max" = some none) :
  ∃ fd:FuncData,(∀ (s:Shared) (v:Value),BindsTo s fd ⟨[v],[]⟩ [("_law_script",v)])∧∀ base:Heap,K.In base→base.Ns mainGlobals mg→FnOk l.prog w K mg base CX0 18 fa fd ["_law_script"] (z7h K):=by
 have e:=hfa.symm.trans (mg_of X G aL)
 cases e
 have T:Txt mg:=⟨mg_none_of X G z0,mg_none_of X G z1,mg_none_of X G z2,mg_none_of X G z3,mg_none_of X G z4,mg_none_of X G z5,mg_none_of X G z6,mg_none_of X G z7,mg_none_of X G z8,mg_none_of X G z9⟩
 have hmx:=mg_none_of X G z10
 obtain⟨_,F0⟩:=d0.F
 have m0:=mg_of X G d0.a
 have b0:=bd "thing" F0 fun _ _ _ _ _ _ _=>rfl
 obtain⟨_,F1⟩:=d1.F
 have m1:=mg_of X G d1.a
 have b1:=bd "thing" F1 fun _ _ _ _ _ _ _=>rfl
 obtain⟨_,F2⟩:=d2.F
 have m2:=mg_of X G d2.a
 have b2:=bd "thing" F2 fun _ _ _ _ _ _ _=>rfl
 obtain⟨_,F3⟩:=d3.F
 have m3:=mg_of X G d3.a
 have b3:=bd "thing" F3 fun _ _ _ _ _ _ _=>rfl
 obtain⟨_,F4⟩:=d4.F
 have m4:=mg_of X G d4.a
 have b4:=bd "parts" F4 fun _ _ _ _ _ _ _=>rfl
 obtain⟨_,F5⟩:=d5.F
 have m5:=mg_of X G d5.a
 have b5:=bd2 "thing" "teller" F5 fun _ _ _ _ _ _ _ _=>rfl
 obtain⟨_,F6⟩:=d6.F
 have m6:=mg_of X G d6.a
 have b6:=bd2 "thing" "tellers" F6 fun _ _ _ _ _ _ _ _=>rfl
 obtain⟨_,F7⟩:=d7.F
 have m7:=mg_of X G d7.a
 have b7:=bd "thing" F7 fun _ _ _ _ _ _ _=>rfl
 obtain⟨_,F8⟩:=d8.F
 have m8:=mg_of X G d8.a
 have b8:=bd2 "thing" "tellers" F8 fun _ _ _ _ _ _ _ _=>rfl
 obtain⟨_,F9⟩:=d9.F
 have m9:=mg_of X G d9.a
 have b9:=bd "thing" F9 fun _ _ _ _ _ _ _=>rfl
 obtain⟨_,F10⟩:=d10.F
 have m10:=mg_of X G d10.a
 have b10:=bd "thing" F10 fun _ _ _ _ _ _ _=>rfl
 obtain⟨_,F11⟩:=d11.F
 have m11:=mg_of X G d11.a
 have b11:=bd "word" F11 fun _ _ _ _ _ _ _=>rfl
 obtain⟨_,F12⟩:=d12.F
 have m12:=mg_of X G d12.a
 have b12:=bd "words" F12 fun _ _ _ _ _ _ _=>rfl
 obtain⟨_,F13⟩:=d13.F
 have m13:=mg_of X G d13.a
 have b13:=bd "words" F13 fun _ _ _ _ _ _ _=>rfl
 obtain⟨_,F14⟩:=d14.F
 have m14:=mg_of X G d14.a
 have b14:=bd2 "words" "readers" F14 fun _ _ _ _ _ _ _ _=>rfl
 obtain⟨_,F15⟩:=d15.F
 have m15:=mg_of X G d15.a
 have b15:=F15.binds (ps:=["words", "word", "readers"]) fun _ _ _ _ _ _ us hl=>match us,hl with | [_,_,_],_=>rfl
 obtain⟨_,F16⟩:=d16.F
 have m16:=mg_of X G d16.a
 have b16:=bd "words" F16 fun _ _ _ _ _ _ _=>rfl
 obtain⟨_,F17⟩:=d17.F
 have m17:=mg_of X G d17.a
 have b17:=bd2 "kind" "thing" F17 fun _ _ _ _ _ _ _ _=>rfl
 obtain⟨_,F18⟩:=d18.F
 have m18:=mg_of X G d18.a
 have b18:=bd "thing" F18 fun _ _ _ _ _ _ _=>rfl
 obtain⟨_,F19⟩:=d19.F
 have m19:=mg_of X G d19.a
 have b19:=bd "thing" F19 fun _ _ _ _ _ _ _=>rfl
 obtain⟨_,F20⟩:=d20.F
 have m20:=mg_of X G d20.a
 have b20:=bd "thing" F20 fun _ _ _ _ _ _ _=>rfl
 obtain⟨_,F21⟩:=d21.F
 have m21:=mg_of X G d21.a
 have b21:=bd "thing" F21 fun _ _ _ _ _ _ _=>rfl
 obtain⟨_,F22⟩:=d22.F
 have m22:=mg_of X G d22.a
 have b22:=bd "words" F22 fun _ _ _ _ _ _ _=>rfl
 obtain⟨_,F23⟩:=d23.F
 have m23:=mg_of X G d23.a
 have b23:=bd2 "words" "kind" F23 fun _ _ _ _ _ _ _ _=>rfl
 obtain⟨_,F24⟩:=d24.F
 have m24:=mg_of X G d24.a
 have b24:=bd2 "words" "kinds" F24 fun _ _ _ _ _ _ _ _=>rfl
 obtain⟨_,F25⟩:=d25.F
 have m25:=mg_of X G d25.a
 have b25:=bd "row" F25 fun _ _ _ _ _ _ _=>rfl
 obtain⟨_,F26⟩:=d26.F
 have m26:=mg_of X G d26.a
 have b26:=bd "row" F26 fun _ _ _ _ _ _ _=>rfl
 obtain⟨_,F27⟩:=d27.F
 have m27:=mg_of X G d27.a
 have b27:=bd "rows" F27 fun _ _ _ _ _ _ _=>rfl
 obtain⟨_,F28⟩:=d28.F
 have m28:=mg_of X G d28.a
 have b28:=bd "text" F28 fun _ _ _ _ _ _ _=>rfl
 obtain⟨_,F29⟩:=d29.F
 have m29:=mg_of X G d29.a
 have b29:=bd2 "_law_script" "_law_k" F29 fun _ _ _ _ _ _ _ _=>rfl
 obtain⟨_,F30⟩:=d30.F
 have m30:=mg_of X G d30.a
 have b30:=bd2 "_law_cell" "_law_k" F30 fun _ _ _ _ _ _ _ _=>rfl
 obtain⟨_,F31⟩:=d31.F
 have m31:=mg_of X G d31.a
 have b31:=bd "_law_cell" F31 fun _ _ _ _ _ _ _=>rfl
 obtain⟨_,F32⟩:=d32.F
 have m32:=mg_of X G d32.a
 have b32:=bd2 "_law_cell" "_law_high" F32 fun _ _ _ _ _ _ _ _=>rfl
 obtain⟨_,F33⟩:=d33.F
 have m33:=mg_of X G d33.a
 have b33:=bd "_law_cell" F33 fun _ _ _ _ _ _ _=>rfl
 obtain⟨_,F34⟩:=d34.F
 have m34:=mg_of X G d34.a
 have b34:=bd "_law_cell" F34 fun _ _ _ _ _ _ _=>rfl
 obtain⟨_,F35⟩:=d35.F
 have m35:=mg_of X G d35.a
 have b35:=bd "_law_cell" F35 fun _ _ _ _ _ _ _=>rfl
 obtain⟨_,F36⟩:=d36.F
 have m36:=mg_of X G d36.a
 have b36:=bd2 "_law_cell" "_law_k" F36 fun _ _ _ _ _ _ _ _=>rfl
 obtain⟨_,F37⟩:=d37.F
 have m37:=mg_of X G d37.a
 have b37:=bd2 "_law_script" "_law_first" F37 fun _ _ _ _ _ _ _ _=>rfl
 obtain⟨_,F38⟩:=d38.F
 have m38:=mg_of X G d38.a
 have b38:=bd "_law_row_here" F38 fun _ _ _ _ _ _ _=>rfl
 obtain⟨_,F39⟩:=d39.F
 have m39:=mg_of X G d39.a
 have b39:=bd "_law_step_here" F39 fun _ _ _ _ _ _ _=>rfl
 obtain⟨_,F40⟩:=d40.F
 have m40:=mg_of X G d40.a
 have b40:=bd "_law_schedule_here" F40 fun _ _ _ _ _ _ _=>rfl
 obtain⟨_,F41⟩:=d41.F
 have m41:=mg_of X G d41.a
 have b41:=F41.binds (ps:=["_law_word", "_law_low", "_law_high"]) fun _ _ _ _ _ _ us hl=>match us,hl with | [_,_,_],_=>rfl
 obtain⟨_,F42⟩:=d42.F
 have m42:=mg_of X G d42.a
 have b42:=bd "_law_word" F42 fun _ _ _ _ _ _ _=>rfl
 obtain⟨_,F43⟩:=d43.F
 have m43:=mg_of X G d43.a
 have b43:=bd2 "_law_words" "_law_high" F43 fun _ _ _ _ _ _ _ _=>rfl
 obtain⟨_,F44⟩:=d44.F
 have m44:=mg_of X G d44.a
 have b44:=bd "_law_words" F44 fun _ _ _ _ _ _ _=>rfl
 obtain⟨_,F45⟩:=d45.F
 have m45:=mg_of X G d45.a
 have b45:=bd2 "_law_kind" "_law_words" F45 fun _ _ _ _ _ _ _ _=>rfl
 obtain⟨_,F46⟩:=d46.F
 have m46:=mg_of X G d46.a
 have b46:=bd2 "_law_kind" "_law_words" F46 fun _ _ _ _ _ _ _ _=>rfl
 obtain⟨_,F47⟩:=d47.F
 have m47:=mg_of X G d47.a
 have b47:=bd "_law_told" F47 fun _ _ _ _ _ _ _=>rfl
 obtain⟨_,F48⟩:=d48.F
 have m48:=mg_of X G d48.a
 have b48:=bd "_law_cell" F48 fun _ _ _ _ _ _ _=>rfl
 obtain⟨_,F49⟩:=d49.F
 have m49:=mg_of X G d49.a
 have b49:=F49.binds (ps:=["_law_told", "_law_cell", "_law_other"]) fun _ _ _ _ _ _ us hl=>match us,hl with | [_,_,_],_=>rfl
 obtain⟨_,F50⟩:=d50.F
 have m50:=mg_of X G d50.a
 have b50:=bd "_law_told" F50 fun _ _ _ _ _ _ _=>rfl
 obtain⟨_,F51⟩:=d51.F
 have m51:=mg_of X G d51.a
 have b51:=bd "_law_told" F51 fun _ _ _ _ _ _ _=>rfl
 have F52:=j4j (st:=z8h) lL cL' kL
 have Z7:NoL7 K mg cN:=⟨mg_of X G ncN,xP⟩
 have ZN:ExN K mg "NoLetter" cN:=⟨mg_of X G ncN,xP⟩
 have ZS:ExN K mg "NoSchedule" cS:=⟨mg_of X G ncS,xPS⟩
 have hD:=mg_of X G nN
 have Z:ExcS K mg cS cL cK cN cP cR:=⟨mg_of X G ncS,mg_of X G ncL,mg_of X G ncK,mg_of X G ncN,mg_of X G ncP,mg_of X G ncR,mg_none_of X G nV,xeS,xeL,⟨xga,xgn,xcl,xgt,xtk,xmo,xmb⟩,by rw [xci]; rfl,xk2,xk3⟩
 have TB:PTab K mg w:=j0m (mg_of X G daP) dlP ⟨⟨_,_,rfl,rfl⟩,⟨⟨_,_,rfl,rfl⟩,⟨⟨_,_,rfl,rfl⟩,⟨⟨_,_,rfl,rfl⟩,⟨⟨_,_,rfl,rfl⟩,⟨⟨_,_,rfl,rfl⟩,⟨⟨_,_,rfl,rfl⟩,⟨⟨_,_,rfl,rfl⟩,⟨⟨_,_,rfl,rfl⟩,⟨⟨_,_,rfl,rfl⟩,⟨⟨_,_,rfl,rfl⟩,trivial⟩⟩⟩⟩⟩⟩⟩⟩⟩⟩⟩ dsP (.cons (ks:=["keeper"]) (fun H=>yqP_0.sq (gs:=[V.str "keeper"]) rfl (.cons ⟨_,rfl⟩ (.nil)) H) (.cons (ks:=["keeper", "keeper"]) (fun H=>yqP_1.sq (gs:=[V.str "keeper",V.str "keeper"]) rfl (.cons ⟨_,rfl⟩ (.cons ⟨_,rfl⟩ (.nil))) H) (.cons (ks:=["place"]) (fun H=>yqP_2.sq (gs:=[V.str "place"]) rfl (.cons ⟨_,rfl⟩ (.nil)) H) (.cons (ks:=["place"]) (fun H=>yqP_3.sq (gs:=[V.str "place"]) rfl (.cons ⟨_,rfl⟩ (.nil)) H) (.cons (ks:=["place"]) (fun H=>yqP_4.sq (gs:=[V.str "place"]) rfl (.cons ⟨_,rfl⟩ (.nil)) H) (.cons (ks:=["name", "deed"]) (fun H=>yqP_5.sq (gs:=[V.str "name",V.str "deed"]) rfl (.cons ⟨_,rfl⟩ (.cons ⟨_,rfl⟩ (.nil))) H) (.cons (ks:=["name"]) (fun H=>yqP_6.sq (gs:=[V.str "name"]) rfl (.cons ⟨_,rfl⟩ (.nil)) H) (.cons (ks:=["name", "keeper"]) (fun H=>yqP_7.sq (gs:=[V.str "name",V.str "keeper"]) rfl (.cons ⟨_,rfl⟩ (.cons ⟨_,rfl⟩ (.nil))) H) (.cons (ks:=["keeper", "seats"]) (fun H=>yqP_8.sq (gs:=[V.str "keeper",V.str "seats"]) rfl (.cons ⟨_,rfl⟩ (.cons ⟨_,rfl⟩ (.nil))) H) (.cons (ks:=["keeper", "place"]) (fun H=>yqP_9.sq (gs:=[V.str "keeper",V.str "place"]) rfl (.cons ⟨_,rfl⟩ (.cons ⟨_,rfl⟩ (.nil))) H) (.cons (ks:=["keeper"]) (fun H=>yqP_10.sq (gs:=[V.str "keeper"]) rfl (.cons ⟨_,rfl⟩ (.nil)) H) (.nil))))))))))))
 have TR:RTab6 K mg:=⟨⟨uR,mg_of X G naR,fun H=>yR.sq (gs:=[V.str "count",V.str "seats"]) rfl (.cons ⟨_,rfl⟩ (.cons ⟨_,rfl⟩ .nil)) H⟩⟩
 have Y:WoC K C0:=⟨⟨pg,hd,po,sa⟩,nw,np⟩
 have mC:=mg_of X G aC
 obtain⟨_,G0⟩:=w0.F
 have bI:=G0.binds (ps:=["self", "line"]) fun _ _ _ _ _ _ us hl=>match us,hl with | [_,_],_=>rfl
 obtain⟨_,G1⟩:=w1.F
 have bW:=G1.binds (ps:=["self"]) fun _ _ _ _ _ _ us hl=>match us,hl with | [_],_=>rfl
 obtain⟨_,G2⟩:=w2.F
 have bA:=G2.binds (ps:=["self"]) fun _ _ _ _ _ _ us hl=>match us,hl with | [_],_=>rfl
 have M0:Mk K C0 g0:=⟨mk,w0.a,w0.i,kc⟩
 have MW:Meth K C0 "word" g1:=⟨w1.a,w1.i,G1.kp⟩
 have MA:Meth K C0 "all_passed" g2:=⟨w2.a,w2.i,G2.kp⟩
 refine⟨fnOf "law" "law" (q7e z8h) (q5f z8h) (q0e z8h) .none kVL dcL pmL anL cdL ctL,fun s v=>.of_eq rfl,fun base _ _=>?_⟩
 have FI:=z6m (P:=l.prog) (w:=w) (mg:=mg) (base:=base) Y G0
 have FA:=j0c (P:=l.prog) (w:=w) (mg:=mg) (base:=base) Y G2 T
 have FW:=z7f (P:=l.prog) (w:=w) (mg:=mg) (base:=base) Y G1 MA FA bA
 have FWR:=z4z (P:=l.prog) (w:=w) (mg:=mg) (base:=base) Z7 Y G1 MA FA bA
 have CW:Cal l.prog w K mg base "is_whole" 1 ["thing"] (spP whole):=cal F0 m0 b0 (z8i F0 T)
 have CF0:Cal l.prog w K mg base "is_from_nought" 2 ["thing"] (spP (geD 0)):=cal F1 m1 b1 (x2s F1 T CW)
 have CK:Cal l.prog w K mg base "is_keeper" 2 ["thing"] (spP q2f):=cal F2 m2 b2 (z3p F2 T CW)
 have CN:Cal l.prog w K mg base "is_name" 1 ["thing"] (spP q1w):=cal F3 m3 b3 (j0q F3 T)
 have CI:Cal l.prog w K mg base "is_rising" 1 ["parts"] (z2b):=cal F4 m4 b4 (z2u F4 T)
 have CS:Cal l.prog w K mg base "is_seats" 4 ["thing"] (spP q2u):=cal F10 m10 b10 (z6j F10 T CK (fun g gd hg kp b=>cal F5 m5 b5 (z8l F5 T hg kp b)) CI)
 have CFi1:Cal l.prog w K mg base "fits" 2 ["thing", "tellers"] (x6j l.prog w K mg base 1):=cal F6 m6 b6 (z5k F6 T)
 have CFW:Cal l.prog w K mg base "first_word" 1 ["thing"] (z0c):=cal F7 m7 b7 (x5a F7 T)
 have CFb1:Cal l.prog w K mg base "fits_behind_word" 3 ["thing", "tellers"] (z9l l.prog w K mg base 1):=cal F8 m8 b8 (j4k F8 T CFi1)
 have TD:TabOk l.prog w K mg base "DEED_TELLERS" 1 (x0p q1w):=⟨⟨u0,_,_,mg_of X G da0,dl0,ds0,.cons (gs:=[V.ref f3,V.ref f0]) (tq0_0.sq rfl (.cons rfl (.cons rfl (.nil)))) (.cons (CN.tl m3 (by decide)) (.cons (CW.tl m0 (by decide)) (.nil))) (.cons (gs:=[V.ref f3,V.ref f0]) (tq0_1.sq rfl (.cons rfl (.cons rfl (.nil)))) (.cons (CN.tl m3 (by decide)) (.cons (CW.tl m0 (by decide)) (.nil))) (.cons (gs:=[V.ref f3]) (tq0_2.sq rfl (.cons rfl (.nil))) (.cons (CN.tl m3 (by decide)) (.nil)) (.nil)))⟩,by rfl,fun q hq=>by
  simp only [x0p,List.mem_cons,List.not_mem_nil,or_false] at hq
  rcases hq with rfl | rfl | rfl <;> exact Nat.le_of_ble_eq_true rfl⟩
 have CD:Cal l.prog w K mg base "is_deed" 4 ["thing"] (spP q9h):=cal F9 m9 b9 (j0r F9 TD CFW CFb1)
 have CPt:Cal l.prog w K mg base "is_part" 5 ["kind", "thing"] (z2t):=cal F17 m17 b17 (z1e F17 CK (by decide) CN (by decide) CD (by decide) CS (by decide) CF0 (by decide))
 have CIs:Cal l.prog w K mg base "is_deed_of_schedule" 6 ["thing"] (spP q3f):=cal F18 m18 b18 (z0f F18 T TB CFW CPt)
 have CCt:Cal l.prog w K mg base "is_count" 2 ["thing"] (spP q7z):=cal F19 m19 b19 (x7n F19 CW)
 have CDs:Cal l.prog w K mg base "is_deeds" 8 ["thing"] (spP q8b):=cal F20 m20 b20 (x8o F20 T hD CIs (fun g gd hg kp b=>cal F5 m5 b5 (z8l F5 T hg kp b)))
 have CFi8:Cal l.prog w K mg base "fits" 9 ["thing", "tellers"] (x6j l.prog w K mg base 8):=cal F6 m6 b6 (z5k F6 T)
 have CIz:Cal l.prog w K mg base "is_schedule" 10 ["thing"] (spP q5a):=cal F21 m21 b21 (x2q F21 hmx CCt CS CDs (by decide) (by decide) (by decide) CFi8)
 have RW:Cal l.prog w K mg base "is_number_word" 1 ["word"] (x9t):=cal F11 m11 b11 (x7p F11 T)
 have RNu:Cal l.prog w K mg base "read_number" 3 ["words"] (x8u C0 whole q8o):=cal F12 m12 b12 (x2w Y F12 T MW FW bW RW)
 have RNa:Cal l.prog w K mg base "read_name" 3 ["words"] (x8u C0 q1w x5z):=cal F13 m13 b13 (x6p Y F13 MW FW bW)
 have RP3:Cal l.prog w K mg base "read_parts" 4 ["words", "readers"] (x2a l.prog w K mg base C0 3):=cal F14 m14 b14 (x4c F14 T)
 have RB3:Cal l.prog w K mg base "read_behind_word" 5 ["words", "word", "readers"] (z5s l.prog w K mg base C0 3):=cal F15 m15 b15 (x2v F15 RP3)
 have TRd:RTab l.prog w K mg base C0 "DEED_READERS" 3 (x0p q1w) x2l:=⟨u1,_,_,mg_of X G da1,dl1,⟨⟨_,_,rfl,rfl⟩,⟨⟨_,_,rfl,rfl⟩,⟨⟨_,_,rfl,rfl⟩,trivial⟩⟩⟩,ds1,fun x ps hx=>by
  unfold x0p at hx
  rw [List.lookup_cons] at hx
  by_cases g0:x = "set"
  ·subst g0
   cases hx
   exact⟨by decide +kernel,Nat.le_of_ble_eq_true rfl,_,q1_0,[V.ref f13,V.ref f12],rfl,rfl,tq1_0.sq rfl (.cons rfl (.cons rfl (.nil))),.cons (x6a RNa m13 (fun _ h=>h) (by decide)) (.cons (x6a RNu m12 (fun _ h=>h) (by decide)) (.nil))⟩
  ·rw [show (x == "set")=false from by rw [beq_eq_false_iff_ne]; exact g0,List.lookup_cons] at hx
   by_cases g1:x = "add"
   ·subst g1
    cases hx
    exact⟨by decide +kernel,Nat.le_of_ble_eq_true rfl,_,q1_1,[V.ref f13,V.ref f12],rfl,rfl,tq1_1.sq rfl (.cons rfl (.cons rfl (.nil))),.cons (x6a RNa m13 (fun _ h=>h) (by decide)) (.cons (x6a RNu m12 (fun _ h=>h) (by decide)) (.nil))⟩
   ·rw [show (x == "add")=false from by rw [beq_eq_false_iff_ne]; exact g1,List.lookup_cons] at hx
    by_cases g2:x = "get"
    ·subst g2
     cases hx
     exact⟨by decide +kernel,Nat.le_of_ble_eq_true rfl,_,q1_2,[V.ref f13],rfl,rfl,tq1_2.sq rfl (.cons rfl (.nil)),.cons (x6a RNa m13 (fun _ h=>h) (by decide)) (.nil)⟩
    ·rw [show (x == "get")=false from by rw [beq_eq_false_iff_ne]; exact g2] at hx
     cases hx⟩
 have RDe:Cal l.prog w K mg base "read_deed" 6 ["words"] (x8u C0 q9h q9b):=cal F16 m16 b16 (x6h Y F16 MW FW bW TRd RB3)
 have RRe:Cal l.prog w K mg base "read_rest" 4 ["words"] (z2f C0):=cal F22 m22 b22 (x7f Y F22 T MA FA bA RNu)
 have RPt:Cal l.prog w K mg base "read_part" 7 ["words", "kind"] (j0y C0):=cal F23 m23 b23 (x6e F23 RNa (by decide) RDe (by decide) RRe (by decide) RNu (by decide))
 have RPo:Cal l.prog w K mg base "read_parts_of" 8 ["words", "kinds"] (z7j K C0):=cal F24 m24 b24 (x0m (by decide) Y F24 T MA FA bA RPt)
 have RRm:Cal l.prog w K mg base "read_room" 9 ["row"] (z9f C0):=cal F25 m25 b25 (x6z (by decide) Y F25 mC M0 FI bI MW FW bW TR RPo)
 have RSt:Cal l.prog w K mg base "read_deed_of_schedule" 9 ["row"] (z9q C0):=cal F26 m26 b26 (x7g (by decide) Y F26 mC M0 FI bI MW FW bW TB RPo)
 have RSo:CalE l.prog w K mg base "schedule_of" 10 ["rows"] (j1c):=z0t F27 m27 b27 (x2u F27 T RRm RSt)
 have QNu:CalE l.prog w K mg base "read_number" 3 ["words"] (x8y C0 cN q8o):=z0t F12 m12 b12 (x1h Z7 Y F12 T MW FWR bW RW)
 have QNa:CalE l.prog w K mg base "read_name" 3 ["words"] (x8y C0 cN x5z):=z0t F13 m13 b13 (x5d Y F13 MW FWR bW)
 have QP3:CalE l.prog w K mg base "read_parts" 4 ["words", "readers"] (x1r l.prog w K mg base C0 cN 3):=z0t F14 m14 b14 (x2r F14 T)
 have QB3:CalE l.prog w K mg base "read_behind_word" 5 ["words", "word", "readers"] (z1x l.prog w K mg base C0 cN 3):=z0t F15 m15 b15 (x1c Z7 F15 QP3)
 have TQd:RTb l.prog w K mg base C0 cN "DEED_READERS" 3 x2l:=j3y (mg_of X G da1) dl1 ⟨⟨_,_,rfl,rfl⟩,⟨⟨_,_,rfl,rfl⟩,⟨⟨_,_,rfl,rfl⟩,trivial⟩⟩⟩ ds1 (.cons (gs:=[V.ref f13,V.ref f12]) (tq1_0.sq rfl (.cons rfl (.cons rfl (.nil)))) (.cons (x6t QNa m13 (by decide)) (.cons (x6t QNu m12 (by decide)) (.nil))) (Nat.le_of_ble_eq_true rfl) (.cons (gs:=[V.ref f13,V.ref f12]) (tq1_1.sq rfl (.cons rfl (.cons rfl (.nil)))) (.cons (x6t QNa m13 (by decide)) (.cons (x6t QNu m12 (by decide)) (.nil))) (Nat.le_of_ble_eq_true rfl) (.cons (gs:=[V.ref f13]) (tq1_2.sq rfl (.cons rfl (.nil))) (.cons (x6t QNa m13 (by decide)) (.nil)) (Nat.le_of_ble_eq_true rfl) (.nil))))
 have QDe:CalE l.prog w K mg base "read_deed" 6 ["words"] (x8y C0 cN q9b):=z0t F16 m16 b16 (x3t Y F16 MW FWR bW TQd QB3)
 have QRe:CalE l.prog w K mg base "read_rest" 4 ["words"] (x8p C0 cN):=z0t F22 m22 b22 (x4z Y F22 T MA FA bA QNu)
 have QPt:CalE l.prog w K mg base "read_part" 7 ["words", "kind"] (z1z C0 cN):=z0t F23 m23 b23 (x5k F23 QNa (by decide) QDe (by decide) QRe (by decide) QNu (by decide))
 have QPo:CalE l.prog w K mg base "read_parts_of" 8 ["words", "kinds"] (x9k K C0 cN cS):=z0t F24 m24 b24 (x0e (by decide) ZS Y F24 T MA FA bA QPt)
 have QRm:CalE l.prog w K mg base "read_room" 9 ["row"] (z3x cN cS):=z0t F25 m25 b25 (x5i (by decide) ZS Y F25 mC M0 FI bI MW FWR bW TR QPo)
 have QSt:CalE l.prog w K mg base "read_deed_of_schedule" 9 ["row"] (z5e cN cS):=z0t F26 m26 b26 (x4a (by decide) ZS Y F26 mC M0 FI bI MW FWR bW TB QPo)
 have QSo:CalE l.prog w K mg base "schedule_of" 10 ["rows"] (z3k cN cS):=z0t F27 m27 b27 (x1j F27 T QRm QSt)
 have RSc:CalE l.prog w K mg base "read_schedule" 11 ["text"] (j4y cS):=z0t F28 m28 b28 (FnOk.or (x0o ZN ZS F28 CIz (by decide) RSo) (q9x ZN ZS xe xSN F28 CIz (by decide) QSo))
 have LC:Cal l.prog w K mg base "_law_cell_at" 1 ["_law_script", "_law_k"] (x9d K):=cal F29 m29 b29 (j1h F29 T)
 have LM:Cal l.prog w K mg base "_law_mixed" 1 ["_law_cell", "_law_k"] (z4d):=cal F30 m30 b30 (j3b F30)
 have LN:Cal l.prog w K mg base "_law_name" 1 ["_law_cell"] (z6d):=cal F31 m31 b31 (j2z F31 T)
 have LV:Cal l.prog w K mg base "_law_value" 2 ["_law_cell"] (j0l):=cal F33 m33 b33 (j2l F33 LM)
 have LP:Cal l.prog w K mg base "_law_place" 1 ["_law_cell"] (z9v):=cal F35 m35 b35 (j4i F35)
 have LD:Cal l.prog w K mg base "_law_deed" 3 ["_law_cell"] (j1l):=cal F34 m34 b34 (j3l F34 LN LV)
 have LS:Cal l.prog w K mg base "_law_seats" 1 ["_law_cell", "_law_high"] (z7s):=cal F32 m32 b32 (j2r F32 T)
 have LT:Cal l.prog w K mg base "_law_step" 4 ["_law_cell", "_law_k"] (z9m):=cal F36 m36 b36 (j3q F36 LM LP LN LD LS)
 have LH:Cal l.prog w K mg base "_law_schedule" 5 ["_law_script", "_law_first"] (j0v K):=cal F37 m37 b37 (j2u F37 T LC LS LT)
 have LU:Cal l.prog w K mg base "_law_numbers" 1 ["_law_row_here"] (z6l K):=cal F38 m38 b38 (j3w F38 T)
 have LR:Cal l.prog w K mg base "_law_row" 2 ["_law_step_here"] (j0a):=cal F39 m39 b39 (j2h F39 T LU)
 have LW:Cal l.prog w K mg base "_law_written" 3 ["_law_schedule_here"] (j0t):=cal F40 m40 b40 (j2c F40 T LU LR)
 have KN:Cal l.prog w K mg base "_law_number" 1 ["_law_word", "_law_low", "_law_high"] (z9j):=cal F41 m41 b41 (j6s F41 T)
 have KM:Cal l.prog w K mg base "_law_is_name" 1 ["_law_word"] (z6b):=cal F42 m42 b42 (j3o F42 T)
 have KR:Cal l.prog w K mg base "_law_rising" 2 ["_law_words", "_law_high"] (z6a K):=cal F43 m43 b43 (j2f F43 T KN)
 have KW:Cal l.prog w K mg base "_law_wish" 2 ["_law_words"] (j6g K):=cal F44 m44 b44 (j5x F44 T KN KM)
 have KC:Cal l.prog w K mg base "_law_called" 3 ["_law_kind", "_law_words"] (j5q K):=cal F45 m45 b45 (j5z F45 T KN KM KW)
 have KT:Cal l.prog w K mg base "_law_step_of" 4 ["_law_kind", "_law_words"] (j6o K):=cal F46 m46 b46 (j5d F46 T KN KR KC)
 have KD:Cal l.prog w K mg base "_law_due" 5 ["_law_told"] (j1n):=cal F47 m47 b47 (j2k F47 T KN KR KT)
 have KO:Cal l.prog w K mg base "_law_odd" 1 ["_law_cell"] (j5e):=cal F48 m48 b48 (j6l F48 T)
 have KG:Cal l.prog w K mg base "_law_changed" 2 ["_law_told", "_law_cell", "_law_other"] (j6q):=cal F49 m49 b49 (j5j F49 T KO)
 have KY:Cal l.prog w K mg base "_law_tried" 12 ["_law_told"] (z9p):=cal F50 m50 b50 (j3i Z F50 RSc)
 have KA:Cal l.prog w K mg base "_law_any" 12 ["_law_told"] (j0u):=cal F51 m51 b51 (j4f Z F51 T RSc)
 exact (j2g (LV:=12) (by decide) F52 T LC LH LM LW KG KD KY KA).mono (by decide)
theorem walk {l:PySem.W.OpenLaw} {q:Program} {loose:List Str} {XP:(Str→Option Value)→Heap→Prop} {YP:World→Heap→Prop} {d:DefRec} {K:Params→Frag} (hn:l.most=some 63) (hdf:d.params.defaults=[])
  (hY:∀ (w:World) (h:Heap),YP w h→(K w.params).In h)
  (F:∀ (w:World) (mg:Str→Option Value) (fa:Addr) (h:Heap),(K w.params).In h→h.Ns mainGlobals mg→mg d.name=some (.ref fa) →
   ∃ fd:FuncData,(∀ (s:Shared) (u:Value),BindsTo s fd ⟨[u],[]⟩ [("_law_script",u)])∧∀ base:Heap,(K w.params).In base→base.Ns mainGlobals mg→FnOk l.prog w (K w.params) mg base CX0 18 fa fd ["_law_script"] (z7h (K w.params))) :
  PySem.W.WalkO q loose XP YP l.row.toRowW d [] (fun f vs=>PySem.call f vs) :=
 L2.z9n (n:=63) (k:=18) (x := "_law_script") (CX:=fun _=>CX0) (sp:=fun w=>z7h (K w.params)) hn (by decide) hdf ⟨rfl,by decide,by decide⟩ hY F (fun _ _ a ns hl _ hS=>⟨a,ns,rfl,hS,hl,fun _=>rfl⟩) fun _ _ _ _ _ z=>z
end K1
namespace PySem.W.Fast
theorem tw276946246738105244:True:=⟨⟩
theorem tw6347055026661679838:True:=⟨⟩
theorem tw14174429071957659946:True:=⟨⟩
theorem tw14595420070241017093:True:=⟨⟩
theorem tw6102479637031604465:True:=⟨⟩
theorem tw1999582617109617159:True:=⟨⟩
theorem tw13594183991250324996:True:=⟨⟩
theorem tw8657595697785702896:True:=⟨⟩
theorem tw5077404536840522998:True:=⟨⟩
theorem tw14464539708408472764:True:=⟨⟩
theorem tw3754713356891959800:True:=⟨⟩
theorem tw13078805732095634489:True:=⟨⟩
theorem tw9757132318272831145:True:=⟨⟩
theorem tw14313752824730432441:True:=⟨⟩
theorem tw17573480863102161884:True:=⟨⟩
theorem tw3385460351368665875:True:=⟨⟩
theorem tw18378958045806408645:True:=⟨⟩
theorem tw3703724467188625424:True:=⟨⟩
theorem tw8648569920107167081:True:=⟨⟩
theorem tw10221535027808056359:True:=⟨⟩
theorem tw2857016868078008813:True:=⟨⟩
theorem tw1963312700975136733:True:=⟨⟩
theorem tw145828416890610055:True:=⟨⟩
theorem tw10777037397899976302:True:=⟨⟩
theorem tw944983888488306994:True:=⟨⟩
theorem tw6641561501725876272:True:=⟨⟩
theorem tw1968963208941491610:True:=⟨⟩
theorem tw17606472405353152505:True:=⟨⟩
theorem tw14177096591208629547:True:=⟨⟩
theorem tw7540767417548787021:True:=⟨⟩
theorem tw10696720267214175755:True:=⟨⟩
theorem tw9436972491284523439:True:=⟨⟩
theorem tw9388549324039644321:True:=⟨⟩
theorem tw17624306792781615932:True:=⟨⟩
theorem tw9603574267177404217:True:=⟨⟩
theorem tw10642850899126594945:True:=⟨⟩
theorem tw13680327554958146728:True:=⟨⟩
theorem tw18329593104941044102:True:=⟨⟩
theorem tw13111450008462049515:True:=⟨⟩
theorem tw10697187221012972743:True:=⟨⟩
theorem tw5504332738525706048:True:=⟨⟩
theorem tw11774513709397106460:True:=⟨⟩
theorem tw8263094338892891285:True:=⟨⟩
theorem tw16839363937529636690:True:=⟨⟩
theorem tw12725239915517058870:True:=⟨⟩
theorem tw14842474831463695551:True:=⟨⟩
theorem tw14001738749008706974:True:=⟨⟩
theorem tw6543254049546050365:True:=⟨⟩
theorem tw472116157741014935:True:=⟨⟩
theorem tw11479044910429130274:True:=⟨⟩
theorem tw6161898872550761246:True:=⟨⟩
theorem tw17818006439304841200:True:=⟨⟩
theorem tw6099328001981075927:True:=⟨⟩
theorem tw10110225804501514577:True:=⟨⟩
theorem tw9088059968086595378:True:=⟨⟩
theorem tw15775084154377214716:True:=⟨⟩
theorem tw15855346342522862960:True:=⟨⟩
theorem tw13920051511036592112:True:=⟨⟩
theorem tw3826448689900490322:True:=⟨⟩
theorem tw4060673057379665765:True:=⟨⟩
theorem tw17417299539806337837:True:=⟨⟩
theorem tw14814712338136451707:True:=⟨⟩
theorem tw17826213337980020727:True:=⟨⟩
theorem tw9608817917740883933:True:=⟨⟩
theorem tw2500223540563751511:True:=⟨⟩
theorem tw11987305152676554593:True:=⟨⟩
theorem tw7189857535883844040:True:=⟨⟩
theorem tw12524702224016819443:True:=⟨⟩
theorem tw11535081592948320089:True:=⟨⟩
theorem tw7747856434947594275:True:=⟨⟩
theorem tw13562939843457546857:True:=⟨⟩
theorem tw15824097945570298599:True:=⟨⟩
theorem tw16903183722583472859:True:=⟨⟩
theorem tw9816383332817547516:True:=⟨⟩
theorem tw4412946730228427966:True:=⟨⟩
theorem tw11526652886663616936:True:=⟨⟩
theorem tw6334030141842062016:True:=⟨⟩
theorem tw7663892876365275076:True:=⟨⟩
theorem tw5217880702689049381:True:=⟨⟩
theorem tw18128320646463829736:True:=⟨⟩
theorem tw6749453172737933000:True:=⟨⟩
theorem tw9820320189574138838:True:=⟨⟩
theorem tw14586535324858841622:True:=⟨⟩
theorem tw1382836899098608052:True:=⟨⟩
theorem tw2191056623680196088:True:=⟨⟩
theorem tw5498276899489369681:True:=⟨⟩
theorem tw12352872807065198351:True:=⟨⟩
theorem tw3213792799753308238:True:=⟨⟩
theorem tw7897743726861235032:True:=⟨⟩
theorem tw17153571176991337242:True:=⟨⟩
theorem tw18381412918939000872:True:=⟨⟩
theorem tw2560979655824267935:True:=⟨⟩
theorem tw2950450936754899494:True:=⟨⟩
theorem tw2422549071547761793:True:=⟨⟩
theorem tw1709271779762137888:True:=⟨⟩
theorem tw8202157387567073666:True:=⟨⟩
theorem tw8221062551474319553:True:=⟨⟩
theorem tw3389794587179788217:True:=⟨⟩
theorem tw16428845555419009698:True:=⟨⟩
theorem tw8095078912140778774:True:=⟨⟩
theorem tw2352320244725900495:True:=⟨⟩
theorem tw1695083327745066843:True:=⟨⟩
theorem tw14135579072731823190:True:=⟨⟩
theorem tw10638723576861550138:True:=⟨⟩
theorem tw12071819776980176185:True:=⟨⟩
theorem tw1427228225739826099:True:=⟨⟩
theorem tw5504084867742567066:True:=⟨⟩
theorem tw3160923979973851393:True:=⟨⟩
theorem tw13653073055108241429:True:=⟨⟩
theorem tw2079324713540954831:True:=⟨⟩
theorem tw13328265125435497672:True:=⟨⟩
theorem tw1874649844157994414:True:=⟨⟩
theorem tw5133016629147099866:True:=⟨⟩
theorem tw4009096621243730153:True:=⟨⟩
theorem tw1845650021230125494:True:=⟨⟩
theorem tw6329275246280347242:True:=⟨⟩
theorem tw8786551211973057431:True:=⟨⟩
theorem tw10113132792689669883:True:=⟨⟩
theorem tw6897304224034221078:True:=⟨⟩
theorem tw7118190292161896729:True:=⟨⟩
theorem tw14045467492986349918:True:=⟨⟩
theorem tw13244719481146281415:True:=⟨⟩
theorem tw15700153562311385814:True:=⟨⟩
theorem tw3566102687398929826:True:=⟨⟩
theorem tw10397915068929343310:True:=⟨⟩
theorem tw7112290648925312419:True:=⟨⟩
theorem tw10420144109401956461:True:=⟨⟩
theorem tw13205978958277251443:True:=⟨⟩
theorem tw1687137763876181294:True:=⟨⟩
theorem tw5814777126002766244:True:=⟨⟩
theorem tw8532490706034531933:True:=⟨⟩
theorem tw13054299785017034512:True:=⟨⟩
theorem tw6912473456303720234:True:=⟨⟩
theorem tw2731988524324408040:True:=⟨⟩
theorem tw10379364015744052222:True:=⟨⟩
theorem tw4424291215084067837:True:=⟨⟩
theorem tw15890451884971446589:True:=⟨⟩
theorem tw18359224869923587274:True:=⟨⟩
theorem tw2787357900567155981:True:=⟨⟩
theorem tw15165042627398835086:True:=⟨⟩
theorem tw10079804391741823578:True:=⟨⟩
theorem tw6574927346237504544:True:=⟨⟩
theorem tw5340331521234008034:True:=⟨⟩
theorem tw10152980843772047946:True:=⟨⟩
theorem tw7468839892049670020:True:=⟨⟩
theorem tw3792407461309520902:True:=⟨⟩
theorem tw17238792675517002237:True:=⟨⟩
theorem tw12559523407385806976:True:=⟨⟩
theorem tw511078846711748852:True:=⟨⟩
theorem tw888543184116236973:True:=⟨⟩
theorem tw7741669473001880779:True:=⟨⟩
theorem tw12139438785248296826:True:=⟨⟩
theorem tw9273730861463335518:True:=⟨⟩
theorem tw7953508579619149124:True:=⟨⟩
theorem tw13748541585721276840:True:=⟨⟩
theorem tw183246972658782533:True:=⟨⟩
theorem tw16513415233505213164:True:=⟨⟩
theorem tw17098918552571932963:True:=⟨⟩
theorem tw1165266890727727501:True:=⟨⟩
theorem tw12528020546349330353:True:=⟨⟩
theorem tw9477793749913326056:True:=⟨⟩
theorem tw15375544954753906505:True:=⟨⟩
theorem tw1525869574875824620:True:=⟨⟩
theorem tw17388465585310985649:True:=⟨⟩
theorem tw8352705324232624493:True:=⟨⟩
theorem tw4841234157904954869:True:=⟨⟩
theorem tw999416741477169468:True:=⟨⟩
theorem tw17420128973798589160:True:=⟨⟩
theorem tw16406646610288313952:True:=⟨⟩
theorem tw14087133606966707732:True:=⟨⟩
theorem tw418731369557438747:True:=⟨⟩
theorem tw8947375095385313263:True:=⟨⟩
theorem tw16117684078055701059:True:=⟨⟩
theorem tw17732963394767646413:True:=⟨⟩
theorem tw9345933614544404193:True:=⟨⟩
theorem tw8556994519854735306:True:=⟨⟩
theorem tw1619848760095563180:True:=⟨⟩
theorem tw4042738738789506519:True:=⟨⟩
theorem tw344457337114164553:True:=⟨⟩
theorem tw2461584529761422745:True:=⟨⟩
theorem tw9755076411231254128:True:=⟨⟩
theorem tw13300238063696154557:True:=⟨⟩
theorem tw687809279255842966:True:=⟨⟩
theorem tw7534283074476534358:True:=⟨⟩
theorem tw398300560637693755:True:=⟨⟩
theorem tw15161716999488161396:True:=⟨⟩
theorem tw2137833155563855768:True:=⟨⟩
theorem tw14440879114925269748:True:=⟨⟩
theorem tw8411879054009289222:True:=⟨⟩
theorem tw4047478670075981321:True:=⟨⟩
theorem tw12999338569348966755:True:=⟨⟩
theorem tw17700349006574828886:True:=⟨⟩
theorem tw5111904707349916054:True:=⟨⟩
theorem tw6559180272888886801:True:=⟨⟩
theorem tw2442278717930532327:True:=⟨⟩
theorem tw13687151584143130853:True:=⟨⟩
theorem tw7079294824306040854:True:=⟨⟩
theorem tw7544483833499878541:True:=⟨⟩
theorem tw14189659424487393390:True:=⟨⟩
theorem tw5607550146433760476:True:=⟨⟩
theorem tw16820585102029910992:True:=⟨⟩
theorem tw8147551967053715725:True:=⟨⟩
theorem tw6575445352965476957:True:=⟨⟩
theorem tw7323428435512749028:True:=⟨⟩
theorem tw5195358850396828671:True:=⟨⟩
theorem tw12322164714912473503:True:=⟨⟩
theorem tw2269237554895788277:True:=⟨⟩
theorem tw785531436903304669:True:=⟨⟩
theorem tw14431162739179452538:True:=⟨⟩
theorem tw9327695584475118217:True:=⟨⟩
theorem tw9516304897307197554:True:=⟨⟩
theorem tw5851541679356352761:True:=⟨⟩
theorem tw10556894509466462519:True:=⟨⟩
theorem tw10476017722788085277:True:=⟨⟩
theorem tw17188929030775370495:True:=⟨⟩
theorem tw16270082681136347642:True:=⟨⟩
theorem tw2331207770208600565:True:=⟨⟩
theorem tw6669764170775201684:True:=⟨⟩
theorem tw4737055243699289416:True:=⟨⟩
theorem tw13458170899535734492:True:=⟨⟩
theorem tw11030633476653026518:True:=⟨⟩
theorem tw1291410193832775931:True:=⟨⟩
theorem tw16607957716569870316:True:=⟨⟩
theorem tw7139719543173926394:True:=⟨⟩
theorem tw10570079302123118688:True:=⟨⟩
theorem tw8128717735400145866:True:=⟨⟩
theorem tw10861069001336948466:True:=⟨⟩
theorem tw12287999561194814172:True:=⟨⟩
theorem tw15526442252992352361:True:=⟨⟩
theorem tw15105539075987579706:True:=⟨⟩
theorem tw8723347105425925719:True:=⟨⟩
theorem tw7890840509471399467:True:=⟨⟩
theorem tw2586103360421193782:True:=⟨⟩
theorem tw5506815690105660989:True:=⟨⟩
theorem tw12669048427376145385:True:=⟨⟩
theorem tw14184960606299122155:True:=⟨⟩
theorem tw15618101009323003384:True:=⟨⟩
theorem tw13948934593923640531:True:=⟨⟩
theorem tw17964069659554783789:True:=⟨⟩
theorem tw3945059059159733226:True:=⟨⟩
theorem tw13583023709421761365:True:=⟨⟩
theorem tw7746018060298612518:True:=⟨⟩
theorem tw8649549602518145399:True:=⟨⟩
theorem tw10205887202104547951:True:=⟨⟩
theorem tw2384089173627037059:True:=⟨⟩
theorem tw17446140886817265581:True:=⟨⟩
theorem tw9441309428111656260:True:=⟨⟩
theorem tw5636666290345050376:True:=⟨⟩
theorem tw1196464118332191081:True:=⟨⟩
theorem tw10830435338529119299:True:=⟨⟩
theorem tw17662937938577309636:True:=⟨⟩
theorem tw7648246522595673670:True:=⟨⟩
theorem tw4054858210655682221:True:=⟨⟩
theorem tw5352622383631178603:True:=⟨⟩
theorem tw4034333393600811328:True:=⟨⟩
theorem tw7229072426878979791:True:=⟨⟩
theorem tw679615587100392816:True:=⟨⟩
theorem tw4001557376277122065:True:=⟨⟩
theorem tw15769732933877434042:True:=⟨⟩
theorem tw8707683003766580773:True:=⟨⟩
theorem tw14506885096173930583:True:=⟨⟩
theorem tw2104641057611210153:True:=⟨⟩
theorem tw11096097123850067613:True:=⟨⟩
theorem tw14814948240884161410:True:=⟨⟩
theorem tw14023244581671623035:True:=⟨⟩
theorem tw13427972100201208941:True:=⟨⟩
theorem tw10143064467298619653:True:=⟨⟩
theorem tw13009124025648638913:True:=⟨⟩
theorem tw18133764075180404212:True:=⟨⟩
theorem tw17614456206165573835:True:=⟨⟩
theorem tw2252403084404016120:True:=⟨⟩
theorem tw3087020978914596627:True:=⟨⟩
theorem tw1056986764808266965:True:=⟨⟩
theorem tw1934845351105635153:True:=⟨⟩
theorem tw923344181531787740:True:=⟨⟩
theorem tw8540651758620032842:True:=⟨⟩
theorem tw5183987682689430675:True:=⟨⟩
theorem tw7595048788357088088:True:=⟨⟩
theorem tw11121187966123902894:True:=⟨⟩
theorem tw2014985418543433115:True:=⟨⟩
theorem tw13508933762431452315:True:=⟨⟩
theorem tw585043679447394053:True:=⟨⟩
theorem tw8718270227805975076:True:=⟨⟩
theorem tw9309971940959684793:True:=⟨⟩
theorem tw14023052380585166187:True:=⟨⟩
theorem tw2906066571559971656:True:=⟨⟩
theorem tw4163713395780862531:True:=⟨⟩
theorem tw7909421067663167557:True:=⟨⟩
theorem tw4956780360420325102:True:=⟨⟩
theorem tw11024196650627405633:True:=⟨⟩
theorem tw2765928087618593245:True:=⟨⟩
theorem tw5175481283289314915:True:=⟨⟩
theorem tw7420503368399767987:True:=⟨⟩
theorem tw6538090629572351540:True:=⟨⟩
theorem tw1297497806564695910:True:=⟨⟩
theorem tw18030294418971368668:True:=⟨⟩
theorem tw14560979080899821905:True:=⟨⟩
theorem tw8322601446204410448:True:=⟨⟩
theorem tw18001730542791244439:True:=⟨⟩
theorem tw14181238723166415890:True:=⟨⟩
theorem tw7105701738642108986:True:=⟨⟩
theorem tw6286158863636567123:True:=⟨⟩
theorem tw15187675953705238882:True:=⟨⟩
theorem tw10344981625554422343:True:=⟨⟩
theorem tw7359746343605487802:True:=⟨⟩
theorem tw2557926140166565379:True:=⟨⟩
theorem tw15043662260024920002:True:=⟨⟩
theorem tw15890992314352455827:True:=⟨⟩
theorem tw7118015848462681421:True:=⟨⟩
theorem tw18368173735260367065:True:=⟨⟩
theorem tw6952464296112281568:True:=⟨⟩
theorem tw8514245518002979513:True:=⟨⟩
theorem tw9630478377063609879:True:=⟨⟩
theorem tw15397474391456033141:True:=⟨⟩
theorem tw12819580051807725687:True:=⟨⟩
theorem tw9257032100074163871:True:=⟨⟩
theorem tw5252032477552143496:True:=⟨⟩
theorem tw7030007975300023957:True:=⟨⟩
theorem tw318971139555429729:True:=⟨⟩
theorem tw17246493416828346511:True:=⟨⟩
theorem tw18121266502389499601:True:=⟨⟩
theorem tw13281504791751713832:True:=⟨⟩
theorem tw498749134446727261:True:=⟨⟩
theorem tw7789327768867428059:True:=⟨⟩
theorem tw11368751641103716353:True:=⟨⟩
theorem tw13270730193354842734:True:=⟨⟩
theorem tw8363106074815699632:True:=⟨⟩
theorem tw5551832084588913948:True:=⟨⟩
theorem tw14517944428919239612:True:=⟨⟩
theorem tw16895220983669544395:True:=⟨⟩
theorem tw10164102642329817273:True:=⟨⟩
theorem tw10695517629422685399:True:=⟨⟩
theorem tw16745170332531005693:True:=⟨⟩
theorem tw3107404880709887673:True:=⟨⟩
theorem tw13147320329867639039:True:=⟨⟩
theorem tw12950444875573801685:True:=⟨⟩
theorem tw1801893152417388411:True:=⟨⟩
theorem tw3599518564506344091:True:=⟨⟩
theorem tw1261148639301685765:True:=⟨⟩
theorem tw12040906526333388560:True:=⟨⟩
theorem tw16338535323134122908:True:=⟨⟩
theorem tw2715641888740692806:True:=⟨⟩
theorem tw10886158533537465894:True:=⟨⟩
theorem tw17594176378702908985:True:=⟨⟩
theorem tw17852472689844166225:True:=⟨⟩
theorem tw1269630426016361009:True:=⟨⟩
theorem tw3409437233014831281:True:=⟨⟩
theorem tw4689457657912554157:True:=⟨⟩
theorem tw5410415065889158382:True:=⟨⟩
theorem tw12426306011767207819:True:=⟨⟩
theorem tw14737165961362120461:True:=⟨⟩
theorem tw5473934947376564288:True:=⟨⟩
theorem tw17920534128014343928:True:=⟨⟩
theorem tw14920480160652170750:True:=⟨⟩
theorem tw9749143799991337230:True:=⟨⟩
theorem tw17134815711935110609:True:=⟨⟩
theorem tw7455555917310512783:True:=⟨⟩
theorem tw11058727517676427779:True:=⟨⟩
theorem tw10820116834198596574:True:=⟨⟩
theorem tw9791971438844115691:True:=⟨⟩
theorem tw5414483597269062464:True:=⟨⟩
theorem tw13275030789440451752:True:=⟨⟩
theorem tw16113831270625372414:True:=⟨⟩
theorem tw5241423387211400193:True:=⟨⟩
theorem tw14580997851824541432:True:=⟨⟩
theorem tw5222679040833900779:True:=⟨⟩
theorem tw10633273076160356090:True:=⟨⟩
theorem tw10713008740061162074:True:=⟨⟩
theorem tw2878374320435998256:True:=⟨⟩
theorem tw17546235002177861526:True:=⟨⟩
theorem tw13511206435872159816:True:=⟨⟩
theorem tw16633635301486072760:True:=⟨⟩
theorem tw7408490353884318535:True:=⟨⟩
theorem tw8597982555227434735:True:=⟨⟩
theorem tw11781219559289907280:True:=⟨⟩
theorem tw841581897160804552:True:=⟨⟩
theorem tw2221601350646236545:True:=⟨⟩
theorem tw7925980682990882593:True:=⟨⟩
theorem tw18060173264216702224:True:=⟨⟩
theorem tw18428779334479771604:True:=⟨⟩
theorem tw17220923421520722175:True:=⟨⟩
theorem tw14286314224998895425:True:=⟨⟩
theorem tw13428519664264563900:True:=⟨⟩
theorem tw215219698945601768:True:=⟨⟩
theorem tw5467543923495097984:True:=⟨⟩
theorem tw13524223663455977703:True:=⟨⟩
theorem tw2535198789862829404:True:=⟨⟩
theorem tw13305267046308697294:True:=⟨⟩
theorem tw6045567679041536527:True:=⟨⟩
theorem tw10063867607181679128:True:=⟨⟩
theorem tw438527316457029308:True:=⟨⟩
theorem tw15244827061523128546:True:=⟨⟩
theorem tw14137162355461433818:True:=⟨⟩
theorem tw14466743576514439841:True:=⟨⟩
theorem tw15036108877755127871:True:=⟨⟩
theorem tw15125233149282928840:True:=⟨⟩
theorem tw14794508368743566372:True:=⟨⟩
theorem tw1915176578900520063:True:=⟨⟩
theorem tw1410935003120919095:True:=⟨⟩
theorem tw15573654111337615323:True:=⟨⟩
theorem tw12298554320933044934:True:=⟨⟩
theorem tw8792494065340373102:True:=⟨⟩
theorem tw10917030006397752262:True:=⟨⟩
theorem tw7102669898870225040:True:=⟨⟩
theorem tw5216496365759444323:True:=⟨⟩
theorem tw481674021540765311:True:=⟨⟩
theorem tw11031455517774647055:True:=⟨⟩
theorem tw3369174844924321374:True:=⟨⟩
theorem tw3894172721173763085:True:=⟨⟩
theorem tw2519354637957377739:True:=⟨⟩
theorem tw18050330978878373212:True:=⟨⟩
theorem tw4731621481790885376:True:=⟨⟩
theorem tw3295373842456278168:True:=⟨⟩
theorem tw15874097925438343257:True:=⟨⟩
theorem tw8220944522214073062:True:=⟨⟩
theorem tw7908162738369055869:True:=⟨⟩
theorem tw11994971845948823551:True:=⟨⟩
theorem tw16430973237831578677:True:=⟨⟩
theorem tw15776906994711271402:True:=⟨⟩
theorem tw18186361429919030043:True:=⟨⟩
theorem tw1032562983291214135:True:=⟨⟩
theorem tw8407350331306763026:True:=⟨⟩
theorem tw12060035119192496476:True:=⟨⟩
theorem tw8307295625907394279:True:=⟨⟩
theorem tw3125695692184394273:True:=⟨⟩
theorem tw7399264004515861450:True:=⟨⟩
theorem tw1456253649839678374:True:=⟨⟩
theorem tw4511505797232130129:True:=⟨⟩
theorem tw3585900318748913110:True:=⟨⟩
theorem tw840912583982694472:True:=⟨⟩
theorem tw17201463959372567347:True:=⟨⟩
theorem tw869763528386200187:True:=⟨⟩
theorem tw5897885387237042644:True:=⟨⟩
theorem tw1331635458835187248:True:=⟨⟩
theorem tw6366531297095780534:True:=⟨⟩
theorem tw10896455404817829013:True:=⟨⟩
theorem tw15880009265301460576:True:=⟨⟩
theorem tw6212995848953962344:True:=⟨⟩
theorem tw3876710086004163656:True:=⟨⟩
theorem tw6546001998488711841:True:=⟨⟩
theorem tw17251139218386254907:True:=⟨⟩
theorem tw10197631230213843895:True:=⟨⟩
theorem tw3089661713683949257:True:=⟨⟩
theorem tw8924371943034924832:True:=⟨⟩
theorem tw13981487446209127195:True:=⟨⟩
theorem tw4200591566726905944:True:=⟨⟩
theorem tw6039747710887558025:True:=⟨⟩
theorem tw9791500566235188377:True:=⟨⟩
theorem tw9340619222641736758:True:=⟨⟩
theorem tw6702484942387681093:True:=⟨⟩
theorem tw7835547224737162517:True:=⟨⟩
theorem tw1137556260594676611:True:=⟨⟩
theorem tw14483676272341172993:True:=⟨⟩
theorem tw8945405414024189408:True:=⟨⟩
theorem tw1113138342277312272:True:=⟨⟩
theorem tw17211006876480239499:True:=⟨⟩
theorem tw6920938139555685645:True:=⟨⟩
theorem tw7977484232270732396:True:=⟨⟩
theorem tw10955317828696657930:True:=⟨⟩
theorem tw12919725913995253392:True:=⟨⟩
theorem tw15493919700717813552:True:=⟨⟩
theorem tw7203987381254744113:True:=⟨⟩
theorem tw12750250068286694952:True:=⟨⟩
theorem tw15846906871741264911:True:=⟨⟩
theorem tw3677849884155910493:True:=⟨⟩
theorem tw8028064772924951165:True:=⟨⟩
theorem tw9634142546863924681:True:=⟨⟩
theorem tw14753284641971037948:True:=⟨⟩
theorem tw9415726543732940444:True:=⟨⟩
theorem tw811066670526787824:True:=⟨⟩
theorem tw17673442714319230956:True:=⟨⟩
end PySem.W.Fast
open PySem PySem.W PyProof.Rows
set_option maxRecDepth 100000 in
set_option maxHeartbeats 0 in
theorem PySem.Challenge.cw_keeplog_k61_whole_schedules_read_holds : PySem.Challenge.rw_keeplog_k61_whole_schedules_read.Holds := by
 w_on; o_law; k_head; (case hw=>w_witness2)
 k_fill
 refine K1.walk (l:=PySem.Challenge.rw_keeplog_k61_whole_schedules_read) rfl rfl (fun w h Y=>PySem.W.kIn_of Y) ?F
 case F =>
  intro w mg fa h KX G hmg
  refine' K1.all_mk KX G hmg ?d0 ?d1 ?d2 ?d3 ?d4 ?d5 ?d6 ?d7 ?d8 ?d9 ?d10 ?d11 ?d12 ?d13 ?d14 ?d15 ?d16 ?d17 ?d18 ?d19 ?d20 ?d21 ?d22 ?d23 ?d24 ?d25 ?d26 ?d27 ?d28 ?d29 ?d30 ?d31 ?d32 ?d33 ?d34 ?d35 ?d36 ?d37 ?d38 ?d39 ?d40 ?d41 ?d42 ?d43 ?d44 ?d45 ?d46 ?d47 ?d48 ?d49 ?d50 ?d51 ?aL ?lL ?cL' ?kL ?da0 ?dl0 ?ds0 ?tq0_0 ?tq0_1 ?tq0_2 ?da1 ?dl1 ?ds1 ?tq1_0 ?tq1_1 ?tq1_2 ?daP ?dlP ?dsP ?yqP_0 ?yqP_1 ?yqP_2 ?yqP_3 ?yqP_4 ?yqP_5 ?yqP_6 ?yqP_7 ?yqP_8 ?yqP_9 ?yqP_10 ?naR ?yR ?nN ?ncL ?ncK ?ncP ?ncR ?ncS ?nV ?xPS ?xeS ?xeL ?xga ?xgn ?xcl ?xgt ?xtk ?xmo ?xmb ?xci ?ncN ?aC ?w0 ?w1 ?w2 ?pg ?hd ?po ?sa ?mk ?kc ?nw ?np ?xP ?xe ?xSN ?xk2 ?xk3 ?z0 ?z1 ?z2 ?z3 ?z4 ?z5 ?z6 ?z7 ?z8 ?z9 ?z10
  (case d0 | d1 | d2 | d3 | d4 | d5 | d6 | d7 | d8 | d9 | d10 | d11 | d12 | d13 | d14 | d15 | d16 | d17 | d18 | d19 | d20 | d21 | d22 | d23 | d24 | d25 | d26 | d27 | d28 | d29 | d30 | d31 | d32 | d33 | d34 | d35 | d36 | d37 | d38 | d39 | d40 | d41 | d42 | d43 | d44 | d45 | d46 | d47 | d48 | d49 | d50 | d51=>exact⟨by k_is,_,⟨_,_,_,_,_,_,_,_,_,rfl,by k_is,by k_is⟩,by k_is⟩)
  (case aL=>k_is)
  (case lL=>k_is)
  (case cL'=>k_is)
  (case kL=>k_is)
  (case da0=>k_is)
  (case dl0=>k_is)
  (case ds0=>rfl)
  (case da1=>k_is)
  (case dl1=>k_is)
  (case ds1=>rfl)
  (case daP=>k_is)
  (case dlP=>k_is)
  (case dsP=>rfl)
  (case naR=>k_is)
  (case nN=>k_is)
  (case ncL=>k_is)
  (case ncK=>k_is)
  (case ncP=>k_is)
  (case ncR=>k_is)
  (case ncS=>k_is)
  (case nV=>k_is)
  (case xPS=>k_exc)
  (case xeS=>kts_exm)
  (case xeL=>kts_exm)
  (case xga=>k_is)
  (case xgn=>k_is)
  (case xcl=>k_is)
  (case xgt=>k_is)
  (case xtk=>k_is)
  (case xmo=>k_is)
  (case xmb=>k_is)
  (case xci=>k_is)
  (case ncN=>k_is)
  (case aC=>k_is)
  (case pg=>k_is)
  (case hd=>k_is)
  (case po=>k_is)
  (case sa=>k_is)
  (case mk=>k_is)
  (case kc=>k_is)
  (case nw=>k_is)
  (case np=>k_is)
  (case xP=>k_exc)
  (case xe=>kts_exm)
  (case xSN=>kts_exm)
  (case xk2=>kit_is)
  (case xk3=>kit_is)
  (case z0=>k_is)
  (case z1=>k_is)
  (case z2=>k_is)
  (case z3=>k_is)
  (case z4=>k_is)
  (case z5=>k_is)
  (case z6=>k_is)
  (case z7=>k_is)
  (case z8=>k_is)
  (case z9=>k_is)
  (case z10=>k_is)
  (case w0 | w1 | w2=>exact⟨by k_is,by k_is,_,⟨_,_,_,_,_,_,_,_,_,rfl,by k_is,by k_is⟩,by k_is⟩)
  (case tq0_0 | tq0_1 | tq0_2 | tq1_0 | tq1_1 | tq1_2 | yqP_0 | yqP_1 | yqP_2 | yqP_3 | yqP_4 | yqP_5 | yqP_6 | yqP_7 | yqP_8 | yqP_9 | yqP_10 | yR=>exact⟨_,_,_,by k_is⟩)
