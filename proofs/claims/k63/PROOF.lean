import PyProof.Rows.All
import Wide.All
import OpenK.AllK
import Wide.FinOn
import Lean
import PyProof.EqAt
import PyProof.EqKinds
import PyProof.TupleCall
import OpenK.KOwn
import PyProof.NsDelKeeps
import KE.KIsAll
import PyProof.ExcArgsOwn
import PyProof.ExcAttrAll.ValueError
import KE.KIntText
import PyProof.NeData
import PySem.Challenge.RW_canonwright_k63_houses_written_and_read
set_option Elab.async false
set_option linter.all false
set_option maxRecDepth 100000
namespace L2
open PySem PySem.Spec PyProof.Rows
abbrev Key:=Sum Int Str
noncomputable def keyIs:Key→Value→Bool
 | .inl k,v=>Value.isInt k v
 | .inr x,v=>Value.isStrOf x v
noncomputable def keyH (w:World):Key→Int
 | .inl k=>hashInt k
 | .inr x=>hashStr w x
theorem keyIs_shape:∀ {k:Key} {v:Value},keyIs k v=true→(∃ i t,k=Sum.inl i∧v=Value.int i t)∨(∃ x t,k=Sum.inr x∧v=Value.str x t)
 | .inl i,v,h=>by
  obtain ⟨t,e⟩:=Value.isInt_shape (k:=i) (v:=v) h
  exact .inl ⟨i,t,rfl,e⟩
 | .inr x,v,h=>by
  obtain ⟨t,e⟩:=Value.isStrOf_shape (x:=x) (v:=v) h
  exact .inr ⟨x,t,rfl,e⟩
theorem key_ll (a b:Int):decide ((Sum.inl a:Key)=Sum.inl b)=(a == b):=by
 by_cases e:a=b
 ·subst e; simp
 ·have h:¬ (Sum.inl a:Key)=Sum.inl b:=fun q=>e (Sum.inl.inj q)
  rw [decide_eq_false h]
  exact (beq_eq_false_iff_ne.mpr e).symm
theorem key_rr (a b:Str):decide ((Sum.inr a:Key)=Sum.inr b)=decide (a=b):=by
 by_cases e:a=b
 ·subst e; simp
 ·have h:¬ (Sum.inr a:Key)=Sum.inr b:=fun q=>e (Sum.inr.inj q)
  rw [decide_eq_false h,decide_eq_false e]
theorem key_lr (a:Int) (b:Str):decide ((Sum.inl a:Key)=Sum.inr b)=false:=decide_eq_false (fun q=>nomatch q)
theorem key_rl (a:Str) (b:Int):decide ((Sum.inr a:Key)=Sum.inl b)=false:=decide_eq_false (fun q=>nomatch q)
noncomputable def mixKind (prog:Program) (w:World):PySem.KeyKind prog w Key where
 is:=keyIs
 hash:=keyH w
 inj:=fun v a b ha hb=>by
  rcases keyIs_shape ha with ⟨i,t,rfl,rfl⟩ | ⟨x,t,rfl,rfl⟩
  ·rcases keyIs_shape hb with ⟨j,u,rfl,e⟩ | ⟨y,u,rfl,e⟩
   ·injection e with e1 _; rw [e1]
   ·exact nomatch e
  ·rcases keyIs_shape hb with ⟨j,u,rfl,e⟩ | ⟨y,u,rfl,e⟩
   ·exact nomatch e
   ·injection e with e1 _; rw [e1]
 byValue:=fun k v h=>by
  rcases keyIs_shape h with ⟨i,t,rfl,rfl⟩ | ⟨x,t,rfl,rfl⟩ <;> rfl
 pyHash:=fun hv h=>by
  rcases keyIs_shape hv with ⟨i,t,rfl,rfl⟩ | ⟨x,t,rfl,rfl⟩
  ·exact wpAny_pyHash_int h
  ·exact wpAny_pyHash_str h
 eqBool:=fun hu hv h=>by
  rcases keyIs_shape hu with ⟨i,t,rfl,rfl⟩ | ⟨x,t,rfl,rfl⟩
  ·rcases keyIs_shape hv with ⟨j,u,rfl,rfl⟩ | ⟨y,u,rfl,rfl⟩
   ·rw [key_ll] at h; exact wpAny_eqBool_int h
   ·rw [key_lr] at h; exact SeqAt.EqAt.int_str i t y u _ _ _ _ h
  ·rcases keyIs_shape hv with ⟨j,u,rfl,rfl⟩ | ⟨y,u,rfl,rfl⟩
   ·rw [key_rl] at h; exact SeqAt.EqAt.str_int x t j u _ _ _ _ h
   ·rw [key_rr] at h; exact wpAny_eqBool_str h
 «strs»:=fun k x t v h=>by
  rcases keyIs_shape h with ⟨i,u,rfl,e⟩ | ⟨y,u,rfl,e⟩
  ·exact nomatch e
  ·injection e with e1 _
   subst e1
   cases v <;> rfl
inductive V where
 | non | bl (b:Bool) | int (i:Int) | str (x:Str) | byt (b:Array UInt8) | flt (b:UInt64) | ref (a:Addr) | ty (n:String)
 deriving DecidableEq
def RelV:V→Value→Prop
 | .non,u=>u=Value.none
 | .bl b,u=>u=Value.bool b
 | .int i,u=>∃ t,u=Value.int i t
 | .str x,u=>∃ t,u=Value.str x t
 | .byt b,u=>∃ t,u=Value.bytes b t
 | .flt b,u=>∃ t,u=Value.float b t
 | .ref a,u=>u=Value.ref a
 | .ty n,u=>u=Value.type n
abbrev Vals:List V→List Value→Prop:=Paired RelV
theorem Vals.length {xs:List V} {us:List Value} (r:Vals xs us):xs.length=us.length:=Paired.length r
theorem Vals.get:∀ {xs:List V} {us:List Value} {i:Nat} {x:V},Vals xs us→xs[i]?=some x→∃ u,us[i]?=some u∧RelV x u
 | _,_,_,_,.nil,e=>by simp at e
 | _,_,0,_,.cons r _,e=>by simp at e; subst e; exact ⟨_,rfl,r⟩
 | _,_,i+1,x,.cons _ t,e=>by
  obtain ⟨u,h1,h2⟩:=Vals.get (i:=i) (x:=x) t (by simpa using e)
  exact ⟨u,by simpa using h1,h2⟩
theorem Vals.set {x:V} {u:Value} (r:RelV x u):∀ {xs:List V} {us:List Value} (i:Nat),Vals xs us→Vals (xs.set i x) (us.set i u)
 | _,_,_,.nil=>.nil
 | _,_,0,.cons _ t=>.cons r t
 | _,_,i+1,.cons q t=>.cons q (Vals.set r i t)
theorem Vals.append:∀ {xs ys:List V} {us ws:List Value},Vals xs us→Vals ys ws→Vals (xs ++ ys) (us ++ ws)
 | _,_,_,_,.nil,s=>s
 | _,_,_,_,.cons r t,s=>.cons r (Vals.append t s)
theorem Vals.take:∀ {xs:List V} {us:List Value} (n:Nat),Vals xs us→Vals (xs.take n) (us.take n)
 | _,_,0,_=>.nil
 | _,_,_+1,.nil=>.nil
 | _,_,n+1,.cons r t=>.cons r (Vals.take n t)
theorem Vals.drop:∀ {xs:List V} {us:List Value} (n:Nat),Vals xs us→Vals (xs.drop n) (us.drop n)
 | _,_,0,r=>r
 | _,_,_+1,.nil=>.nil
 | _,_,n+1,.cons _ t=>Vals.drop n t
def RelO:Option V→Option Value→Prop
 | some v,some u=>RelV v u
 | none,none=>True
 | _,_=>False
def KV {κ:Type}:List (κ × V)→List (κ × Value)→Prop:=Paired fun (p:κ × V) (q:κ × Value)=>p.1=q.1∧RelV p.2 q.2
noncomputable def kV:Key→V
 | .inl i=>.int i
 | .inr x=>.str x
inductive HO where
 | lst (xs:List V)
 | tup (xs:List V)
 | dK (kvs:List (Key × V)) | dT (kvs:List (List Key × V))
 | set (S:Int→Bool) (n:Nat)
 | ins (C dx:Addr) (fs:List (Str × V))
 | own (x:Addr)
 | xd (fs:List (Str × V))
 | met (f x:Addr)
 | rng (lo hi:Int)
 | frz (o:Obj) (u:HO)
 | tbl (ps:Array Value)
 | ext (φ:Heap→Prop)
abbrev Hp:=Addr→Option HO
noncomputable def upd (H:Hp) (a:Addr) (o:HO):Hp:=fun b=>if b=a then some o else H b
theorem upd_same {H:Hp} {a:Addr} {o:HO}:upd H a o a=some o:=by unfold upd; rw [if_pos rfl]
theorem upd_ne {H:Hp} {a b:Addr} {o:HO} (h:b≠a):upd H a o b=H b:=by unfold upd; rw [if_neg h]
theorem ne_of_none {H:Hp} {a b:Addr} {o:HO} (h:H a=some o) (h':H b=none):a≠b:=by
 intro e; subst e; rw [h] at h'; cases h'
section
variable (P:Program) (w:World)
def ObjOk (H:Hp) (h:Heap) (a:Addr):HO→Prop
 | .lst xs=>xs.length≤sizeLine∧∃ (its:List Value) (n:Nat),Vals xs its∧h.get? a=some { cls:=.type "list",data:=.seq its.toArray n }
 | .tup xs=>xs.length≤sizeLine∧∃ its:List Value,Vals xs its∧IsTup h a its.toArray
 | .dK kvs=>kvs.length≤sizeLine∧(a == sysModules)=false∧∃ vs,KV kvs vs∧h.DictOf (mixKind P w) a vs
 | .dT kvs=>kvs.length≤sizeLine∧(a == sysModules)=false∧∃ xs:List (List Key × Addr × Value),
   Paired (fun (p:List Key × V) (q:List Key × Addr × Value)=>p.1=q.1∧H q.2.1=some (.tup (p.1.map kV))∧RelV p.2 q.2.2) kvs xs ∧
   ∃ o es ep,h.get? a=some o∧o.ExactDict∧o.data=.dict es ep∧es.toList=xs.map (entryOfKey (tupleKind (mixKind P w)))∧(xs.map (·.1)).Nodup
 | .set S n=>h.SetOf (intKind P w) a S n
 | .ins C dx fs=>H dx=some (.own a)∧fs.length≤1000∧dx≠a∧h.get? a=some (PySem.W.instObj C dx) ∧
   ∃ mA,h.Ns1 dx mA∧(∀ f,RelO (fs.lookup f) (mA f))∧PySem.Within mA (fs.map (·.1))
 | .own _=>∃ o,h.get? a=some o
 | .xd fs=>∃ mA,h.Ns1 a mA∧∀ f,RelO (fs.lookup f) (mA f)
 | .rng lo hi=>∃ t u v,h.get? a=some { cls:=.type "range",data:=.fields #[.int lo t,.int hi u,.int 1 v] }
 | .frz o u=>h.get? a=some o∧ObjOk H h a u
 | .tbl ps=>h.get? a=some { cls:=.none,data:=.fields ps }
 | .met f x=>h.get? a=some (PySem.W.methodObj (.ref f) (.ref x))
 | .ext φ=>φ h∧(∃ o,h.get? a=some o)∧∀ h1 h2:Heap,φ h1→(∀ o,h1.get? a=some o→h2.get? a=some o)→φ h2
def HOk (H:Hp) (h:Heap):Prop:=∀ a o,H a=some o→ObjOk P w H h a o
end
section
variable {P:Program} {w:World} {H H':Hp} {h h':Heap} {a:Addr} {o:HO}
theorem ObjOk.lt (x:ObjOk P w H h a o):a<h.objs.size:=by
 cases o with
 | lst xs=>obtain ⟨_,_,_,_,e⟩:=x; exact Heap.lt_size e
 | tup xs=>obtain ⟨_,_,_,p⟩:=x; exact p.lt
 | dK kvs=>obtain ⟨_,_,_,_,o,_,_,e,_⟩:=x; exact Heap.lt_size e
 | dT kvs=>obtain ⟨_,_,_,_,o,_,_,e,_⟩:=x; exact Heap.lt_size e
 | set S n=>obtain ⟨o,_,_,_,e,_⟩:=x; exact Heap.lt_size e
 | ins C dx fs=>obtain ⟨_,_,_,e,_⟩:=x; exact Heap.lt_size e
 | own y=>obtain ⟨_,e⟩:=x; exact Heap.lt_size e
 | xd fs=>obtain ⟨_,⟨_,_,_,e,_⟩,_⟩:=x; exact Heap.lt_size e
 | rng lo hi=>obtain ⟨_,_,_,e⟩:=x; exact Heap.lt_size e
 | frz ob u=>obtain ⟨e,_⟩:=x; exact Heap.lt_size e
 | tbl ps=>exact Heap.lt_size (show h.get? a=some _ from x)
 | met f y=>exact Heap.lt_size (show h.get? a=some _ from x)
 | ext φ=>obtain ⟨_,⟨_,e⟩,_⟩:=x; exact Heap.lt_size e
theorem Paired.mapP {α β:Type} {F G:α→β→Prop}:∀ {l₁:List α} {l₂:List β},Paired F l₁ l₂→(∀ a b,F a b→G a b)→Paired G l₁ l₂
 | _,_,.nil,_=>.nil
 | _,_,.cons r t,f=>.cons (f _ _ r) (Paired.mapP t f)
theorem ObjOk.stay (x:ObjOk P w H h a o) (k:∀ b u,(b=a∨H b=some (.own a))→h.get? b=some u→h'.get? b=some u)
  (ho:∀ b,H b=some (.own a)→H' b=some (.own a)) (ht:∀ b xs,H b=some (.tup xs)→H' b=some (.tup xs)):ObjOk P w H' h' a o:=by
 induction o with
 | lst xs=>obtain ⟨z,its,n,r,e⟩:=x; exact ⟨z,its,n,r,k _ _ (.inl rfl) e⟩
 | tup xs=>obtain ⟨z,its,r,ob,e,c⟩:=x; exact ⟨z,its,r,ob,k _ _ (.inl rfl) e,c⟩
 | dK kvs=>obtain ⟨z,y,vs,r,ob,es,ep,e,c⟩:=x; exact ⟨z,y,vs,r,ob,es,ep,k _ _ (.inl rfl) e,c⟩
 | dT kvs =>
  obtain ⟨z,y,xs,r,ob,es,ep,e,c⟩:=x
  exact ⟨z,y,xs,Paired.mapP r fun p q z=>⟨z.1,ht _ _ z.2.1,z.2.2⟩,ob,es,ep,k _ _ (.inl rfl) e,c⟩
 | set S n=>obtain ⟨ob,es,ep,t,e,c⟩:=x; exact ⟨ob,es,ep,t,k _ _ (.inl rfl) e,c⟩
 | ins C dx fs =>
  obtain ⟨d,z,ne,e,mA,⟨od,es,ep,e2,c⟩,r⟩:=x
  exact ⟨ho _ d,z,ne,k _ _ (.inl rfl) e,mA,⟨od,es,ep,k _ _ (.inr d) e2,c⟩,r⟩
 | own y=>obtain ⟨ob,e⟩:=x; exact ⟨ob,k _ _ (.inl rfl) e⟩
 | xd fs=>obtain ⟨mA,⟨od,es,ep,e,c⟩,r⟩:=x; exact ⟨mA,⟨od,es,ep,k _ _ (.inl rfl) e,c⟩,r⟩
 | rng lo hi=>obtain ⟨t,u,v,e⟩:=x; exact ⟨t,u,v,k _ _ (.inl rfl) e⟩
 | frz ob u ih=>obtain ⟨e,q⟩:=x; exact ⟨k _ _ (.inl rfl) e,ih q⟩
 | tbl ps =>
  have e:h.get? a=some { cls:=.none,data:=.fields ps }:=x
  show h'.get? a=some { cls:=.none,data:=.fields ps }
  exact k a _ (.inl rfl) e
 | met f y =>
  have e:h.get? a=some (PySem.W.methodObj (.ref f) (.ref y)):=x
  show h'.get? a=some (PySem.W.methodObj (.ref f) (.ref y))
  exact k a _ (.inl rfl) e
 | ext φ=>obtain ⟨p,⟨o,e⟩,st⟩:=x; exact ⟨st _ _ p fun o q=>k _ _ (.inl rfl) q,⟨o,k _ _ (.inl rfl) e⟩,st⟩
theorem HOk.lt (x:HOk P w H h) (e:H a=some o):a<h.objs.size:=(x a o e).lt
theorem HOk.fresh (x:HOk P w H h) (e:h.objs.size≤a):H a=none:=by
 cases q:H a with
 | none=>rfl
 | some u=>exact absurd (Nat.lt_of_lt_of_le (x.lt q) e) (Nat.lt_irrefl _)
theorem HOk.kept (x:HOk P w H h) (k:∀ b u,h.get? b=some u→h'.get? b=some u):HOk P w H h':=fun a o e =>
 (x a o e).stay (fun b u _ q=>k b u q) (fun _ q=>q) fun _ _ q=>q
theorem HOk.laid (x:HOk P w H h) (k:∀ b u,h.get? b=some u→h'.get? b=some u) (hp:h.objs.size≤a) (new:ObjOk P w (upd H a o) h' a o):HOk P w (upd H a o) h':=fun b u e=>by
 have hn:=x.fresh hp
 by_cases hb:b=a
 ·subst hb; rw [upd_same] at e; cases e; exact new
 ·rw [upd_ne hb] at e
  exact (x b u e).stay (fun c v _ q=>k c v q) (fun c q=>by rw [upd_ne (ne_of_none q hn)]; exact q) fun c xs q=>by rw [upd_ne (ne_of_none q hn)]; exact q
end
def Rd (H:Hp) (a:Addr) (u:HO):Prop:=H a=some u∨∃ o,H a=some (.frz o u)
theorem Rd.ok {P:Program} {w:World} {H:Hp} {h:Heap} {a:Addr} {u:HO} (r:Rd H a u) (x:HOk P w H h):ObjOk P w H h a u:=by
 rcases r with r | ⟨o,r⟩
 ·exact x a u r
 ·obtain ⟨_,q⟩:=x a _ r
  exact q
def Mut:Option HO→Prop
 | some (.lst _)=>True
 | some (.dK _)=>True
 | some (.dT _)=>True
 | some (.set _ _)=>True
 | some (.ins _ _ _)=>True
 | some (.ext _)=>True
 | _=>False
section
variable {P:Program} {w:World} {H:Hp} {h h':Heap} {x e:Addr} {o':HO}
theorem HOk.write (ok:HOk P w H h) (mu:Mut (H x)) (he:e=x∨H e=some (.own x)) (k:∀ b u,b≠e→h.get? b=some u→h'.get? b=some u) (heo:∃ u,h'.get? e=some u)
  (new:ObjOk P w (upd H x o') h' x o'):HOk P w (upd H x o') h':=fun b u q=>by
 have nown:∀ c y,H c=some (.own y)→c≠x:=fun c y r z=>by subst z; rw [r] at mu; exact mu
 have ntup:∀ c xs,H c=some (.tup xs)→c≠x:=fun c xs r z=>by subst z; rw [r] at mu; exact mu
 by_cases hb:b=x
 ·subst hb; rw [upd_same] at q; cases q; exact new
 ·rw [upd_ne hb] at q
  by_cases hbe:b=e
  ·have q':H b=some (.own x):=by
    rcases he with z | z
    ·exact absurd (hbe.trans z) hb
    ·rw [hbe]; exact z
   rw [q] at q'; cases q'
   obtain ⟨v,hv⟩:=heo
   exact ⟨v,by rw [hbe]; exact hv⟩
  ·refine (ok b u q).stay (fun c v hc r=>k c v ?_ r) (fun c r=>by rw [upd_ne (nown c b r)]; exact r) fun c xs r=>by rw [upd_ne (ntup c xs r)]; exact r
   rcases hc with rfl | hc
   ·exact hbe
   ·rintro rfl
    rcases he with z | z
    ·exact nown c b hc z
    ·rw [hc] at z; cases z; exact hb rfl
end
structure Un (fs ex:List Addr) (H H':Hp) (h h':Heap):Prop where
 keep:∀ b o,h.get? b=some o→H b=none→b ∉ fs→b ∉ ex→h'.get? b=some o
 slot:∀ b o,h.get? b=some o→H b=none→b∈fs→b ∉ ex→∃ sl,h'.get? b=some { o with slots:=sl }
 free:∀ b o,h.get? b=some o→H b=none→b ∉ ex→H' b=none
 there:∀ b o,h.get? b=some o→b ∉ ex→∃ o',h'.get? b=some o'
 tups:∀ b xs,H b=some (.tup xs)→H' b=some (.tup xs)
 frzs:∀ b o u,H b=some (.frz o u)→H' b=some (.frz o u)
 tbls:∀ b ps,H b=some (.tbl ps)→∃ more,H' b=some (.tbl (ps ++ more))
section
variable {fs fs' ex ex':List Addr} {H H1 H2:Hp} {h h1 h2 h':Heap} {a x e:Addr} {o:HO}
theorem Un.any (u:Un fs ex H H1 h h1) {b:Addr} {ob:Obj} (q:h.get? b=some ob) (n:H b=none) (hx:b ∉ ex):∃ sl,h1.get? b=some { ob with slots:=sl }:=by
 by_cases hb:b∈fs
 ·exact u.slot b ob q n hb hx
 ·exact ⟨ob.slots,u.keep b ob q n hb hx⟩
theorem Un.kept (k:∀ b u,h.get? b=some u→h'.get? b=some u):Un fs ex H H h h' :=
 ⟨fun b ob q _ _ _=>k b ob q,fun b ob q _ _ _=>⟨ob.slots,k b ob q⟩,fun _ _ _ n _=>n,fun b ob q _=>⟨ob,k b ob q⟩,fun _ _ q=>q,fun _ _ _ q=>q,fun _ ps q=>⟨#[],by rw [q]; simp⟩⟩
theorem Un.refl:Un fs ex H H h h:=Un.kept fun _ _ q=>q
theorem Un.laid (k:∀ b u,h.get? b=some u→h'.get? b=some u) (hp:h.objs.size≤a) (hn:H a=none):Un fs ex H (upd H a o) h h' where
 keep:=fun b u q _ _ _=>k b u q
 slot:=fun b u q _ _ _=>⟨u.slots,k b u q⟩
 free:=fun b u q n _=>by rw [upd_ne (Nat.ne_of_lt (Nat.lt_of_lt_of_le (Heap.lt_size q) hp))]; exact n
 there:=fun b u q _=>⟨u,k b u q⟩
 tups:=fun b xs q=>by rw [upd_ne (ne_of_none q hn)]; exact q
 frzs:=fun b u xs q=>by rw [upd_ne (ne_of_none q hn)]; exact q
 tbls:=fun b ps q=>⟨#[],by rw [upd_ne (ne_of_none q hn),q]; simp⟩
theorem Un.write (mu:Mut (H x)) (he:e=x∨H e=some (.own x)) (k:∀ b u,b≠e→h.get? b=some u→h'.get? b=some u) (heo:∃ u,h'.get? e=some u):Un fs ex H (upd H x o) h h':=by
 have hx:∀ b,H b=none→b≠x:=fun b n z=>by subst z; rw [n] at mu; exact mu
 have hb:∀ b,H b=none→b≠e:=fun b n z=>by
  subst z
  rcases he with r | r
  ·exact hx b n r
  ·rw [n] at r; cases r
 have hm:∀ b u,H b=some u→¬ Mut (some u)→b≠x:=fun b u q nm z=>by subst z; rw [q] at mu; exact nm mu
 refine ⟨fun b u q n _ _=>k b u (hb b n) q,fun b u q n _ _=>⟨u.slots,k b u (hb b n) q⟩,fun b u q n _=>by rw [upd_ne (hx b n)]; exact n,fun b u q _=>?_,
  fun b xs q=>by rw [upd_ne (hm b _ q fun z=>z)]; exact q,fun b u xs q=>by rw [upd_ne (hm b _ q fun z=>z)]; exact q,fun b ps q=>⟨#[],by rw [upd_ne (hm b _ q fun z=>z),q]; simp⟩⟩
 by_cases hbe:b=e
 ·subst hbe; exact heo
 ·exact ⟨u,k b u hbe q⟩
end
noncomputable def trk (h:Heap) (H:Hp):List Addr:=(List.range h.objs.size).filter fun a=>(H a).isSome
noncomputable def hidT (h:Heap) (H:Hp):Heap:=PySem.W.hideAll h (trk h H)
theorem hidT_size (h:Heap) (H:Hp):(hidT h H).objs.size=h.objs.size:=PySem.W.hideAll_size _ _
theorem hidT_get {h:Heap} {H:Hp} {b:Addr} {o:Obj} (e:h.get? b=some o) (n:H b=none):(hidT h H).get? b=some o :=
 PySem.W.hideAll_get _ e fun hm=>by
  have q:(H b).isSome=true:=(List.mem_filter.mp hm).2
  rw [n] at q; simp at q
theorem of_hidT {h:Heap} {H:Hp} {b:Addr} {o:Obj} (e:(hidT h H).get? b=some o):h.get? b=some o∧H b=none:=by
 have e':h.get? b=some o:=PySem.W.of_hideAll (trk h H) e
 refine ⟨e', ?_⟩
 cases q:H b with
 | none=>rfl
 | some x =>
  have hm:b∈trk h H:=List.mem_filter.mpr ⟨List.mem_range.mpr (Heap.lt_size e'),by simp [q]⟩
  have z:(hidT h H).get? b=none:=PySem.W.hideAll_none (trk h H) hm
  rw [z] at e; cases e
noncomputable def allNews (g h:Heap) (L:Addr):List (Addr × Obj):=(List.range h.objs.size).filterMap fun a=>if a=L∨(g.get? a).isSome=true then none else (h.get? a).map fun o=>(a,o)
noncomputable def rest (g h:Heap) (L d:Addr):List (Addr × Obj):=(allNews g h L).filter fun p=>decide (p.1≠d)
structure Mod (K:PySem.W.Frag) (mg:Str→Option Value) (base:Heap):Prop where
 kin:K.In base
 glob:base.Ns mainGlobals mg
 blt:∃ mb,base.Ns builtinsNs mb∧∀ x:Str,x≠"__name__"→mb x=bootBuiltins x
 nolimit:base.NoLimit
structure Cx where
 prog:Program
 w:World
 K:PySem.W.Frag
 mg:Str→Option Value
 base:Heap
 A:Around
 N:List Str
 s₀:Shared
 H₀:Hp
 env:Env
 outer:List Env
 stack:List Env
 ex:List Addr
 fn:Str→Bool
 calm:Bool
 pn:List (Addr × Obj)
 xe:Value→Shared→Prop
def frs (l:List Env):List Addr:=l.filterMap (·.frame)
abbrev Cx.fs (X:Cx):List Addr:=frs X.outer
def Vis (sc:Scope) (x:Str):Prop:=sc.names.lookup x=some .local∨sc.names.lookup x=some .cell∨sc.names.lookup x=some .free
def Loc (sc:Scope) (x:Str):Prop:=sc.names.lookup x=some .local∨sc.names.lookup x=some .cell
def Look (env:Env) (h:Heap) (m:Str→Option Value) (x:Str) (u:Value):Prop :=
 (env.kindOf x=some .local∧m x=some u)∨((env.kindOf x=some .cell∨env.kindOf x=some .free)∧∃ c,env.cells.lookup x=some c∧h.IsCell c (some u))
structure Cx.Ok (X:Cx):Prop where
 mod:Mod X.K X.mg X.base
 kind:X.env.scope.kind=.function
 glob:X.env.globals=mainGlobals
 blt:X.env.builtins=builtinsNs
 above:X.s₀.heap.objs.size≤X.env.locals
 inj:∀ x y c,X.env.cells.lookup x=some c→X.env.cells.lookup y=some c→x=y
 has:∀ x,(X.env.kindOf x=some .cell∨X.env.kindOf x=some .free)→∃ c,X.env.cells.lookup x=some c
 cab:∀ x c,X.fn x=true→X.env.cells.lookup x=some c→X.s₀.heap.objs.size≤c
 hd:X.calm=true→X.A.handled=none
 frames:X.A.frames=some X.stack
 stk:X.stack=X.outer∨(X.stack=X.env :: X.outer∧X.env.frame=some X.env.locals)
 exf:∀ b∈X.ex,b≠X.env.locals∧∀ x c,X.env.cells.lookup x=some c→c≠b
 bs:∀ b o,X.base.get? b=some o→X.s₀.heap.get? b=some o∧X.H₀ b=none
 bsz:X.base.objs.size≤X.s₀.heap.objs.size
 noex:∀ b o,X.base.get? b=some o→b ∉ X.ex
 exfs:∀ b∈X.ex,b ∉ X.fs
 funs:X.s₀.heap.FunFrames X.base X.outer
 frf:∀ b∈X.fs,X.H₀ b=none
structure Inv (X:Cx) (pins:List (Addr × Obj)) (σ:List (Option V)) (H:Hp) (s:Shared):Prop where
 ok:X.Ok
 os:s.os=X.s₀.os
 bare:AllBare s.gens
 base:Un X.fs X.ex X.H₀ H X.s₀.heap s.heap
 loc:∃ m,s.heap.Ns X.env.locals m∧∀ (i:Nat) (x:Str) (v:V),X.N[i]?=some x→σ[i]?=some (some v)→Vis X.env.scope x→∃ u,RelV v u∧Look X.env s.heap m x u
 cell:∀ x c,X.env.cells.lookup x=some c→∃ v,s.heap.IsCell c v
 free:H X.env.locals=none
 freeC:∀ x c,X.env.cells.lookup x=some c→H c=none
 pin:∀ p∈X.pn ++ pins,s.heap.get? p.1=some p.2∧H p.1=none∧p.1≠X.env.locals∧p.1 ∉ X.fs∧∀ v,p.2.data≠.cell v
 hok:HOk X.prog X.w H s.heap
 len:σ.length=X.N.length
section
variable {X:Cx} {pins:List (Addr × Obj)} {σ:List (Option V)} {H H':Hp} {s:Shared} {h':Heap}
theorem Cx.Ok.nofr (ok:X.Ok) {b:Addr} {o:Obj} (e:X.base.get? b=some o):b ∉ X.fs:=fun hb=>by
 have:=(ok.funs.mem hb).1
 rw [e] at this; cases this
theorem Inv.bs (I:Inv X pins σ H s):∀ b o,X.base.get? b=some o→s.heap.get? b=some o∧H b=none:=fun b o e =>
 ⟨I.base.keep b o (I.ok.bs b o e).1 (I.ok.bs b o e).2 (I.ok.nofr e) (I.ok.noex b o e),I.base.free b o (I.ok.bs b o e).1 (I.ok.bs b o e).2 (I.ok.noex b o e)⟩
theorem Inv.bk (I:Inv X pins σ H s):∀ b o,X.base.get? b=some o→s.heap.get? b=some o:=fun b o e=>(I.bs b o e).1
theorem Inv.mod (I:Inv X pins σ H s):Mod X.K X.mg X.base:=I.ok.mod
theorem Inv.kIn (I:Inv X pins σ H s):X.K.In s.heap:=I.ok.mod.kin.keeps I.bk
theorem Inv.lt (I:Inv X pins σ H s):X.env.locals<s.heap.objs.size:=let ⟨_,hn,_⟩:=I.loc; hn.lt
theorem Inv.sz (I:Inv X pins σ H s):X.s₀.heap.objs.size≤s.heap.objs.size:=Nat.le_trans I.ok.above (Nat.le_of_lt I.lt)
theorem Inv.nofs (I:Inv X pins σ H s) {a:Addr} (h:s.heap.objs.size≤a):a ∉ X.fs:=fun hb=>by
 obtain ⟨_,o,ho,_⟩:=I.ok.funs.mem hb
 exact absurd (Nat.lt_of_lt_of_le (Heap.lt_size ho) (Nat.le_trans I.sz h)) (Nat.lt_irrefl _)
theorem Inv.cne (I:Inv X pins σ H s):∀ x c,X.env.cells.lookup x=some c→c≠X.env.locals:=fun x c e z=>by
 obtain ⟨v,o,ho,hd⟩:=I.cell x c e
 obtain ⟨m,⟨o',es,ep,ho',hd',_⟩,_⟩:=I.loc
 rw [z,ho'] at ho; cases ho; rw [hd'] at hd; cases hd
theorem Inv.funs (I:Inv X pins σ H s):s.heap.FunFrames X.base X.outer:=by
 have all:∀ (l:List Env),(∀ b∈frs l,b∈X.fs)→X.s₀.heap.FunFrames X.base l→s.heap.FunFrames X.base l:=by
  intro l
  induction l with
  | nil=>intro _ _; trivial
  | cons env r ih =>
   intro hs hl
   obtain ⟨hk,⟨L,o,hf,hn,ho,hd⟩,hr⟩:=hl
   have hL:L∈X.fs:=hs L (by unfold frs; rw [List.filterMap_cons,hf]; exact List.mem_cons_self)
   obtain ⟨sl,e⟩:=I.base.slot L o ho (I.ok.frf L hL) hL fun z=>I.ok.exfs L z hL
   exact ⟨hk,⟨L,_,hf,hn,e,hd⟩,ih (fun b hb=>hs b (by unfold frs; rw [List.filterMap_cons,hf]; exact List.mem_cons_of_mem _ hb)) hr⟩
 exact all X.outer (fun _ hb=>hb) I.ok.funs
theorem Inv.stack (I:Inv X pins σ H s):s.heap.FunFrames X.base X.stack:=by
 rcases I.ok.stk with e | ⟨e,hf⟩
 ·rw [e]; exact I.funs
 ·rw [e]
  obtain ⟨m,hn,_⟩:=I.loc
  refine .cons (by rw [I.ok.kind]; decide) hf hn ?_ I.funs
  exact Heap.get?_none_of_le (Nat.le_trans I.ok.bsz I.ok.above)
theorem Inv.stkSub (I:Inv X pins σ H s):∀ b∈frs X.stack,b∈X.env.locals :: X.fs:=fun b hb=>by
 rcases I.ok.stk with e | ⟨e,hf⟩
 ·rw [e] at hb; exact List.mem_cons_of_mem _ hb
 ·rw [e] at hb
  unfold frs at hb
  rw [List.filterMap_cons,hf] at hb
  exact hb
theorem Inv.stkFree (I:Inv X pins σ H s):∀ b∈frs X.stack,H b=none:=fun b hb=>by
 rcases List.mem_cons.mp (I.stkSub b hb) with e | hb
 ·rw [e]; exact I.free
 ·obtain ⟨_,o,ho,_⟩:=I.ok.funs.mem hb
  exact I.base.free b o ho (I.ok.frf b hb) fun z=>I.ok.exfs b z hb
theorem Inv.step {g':Array GenState} {t':Nat} {d':Drawn} {ch:List Addr} (I:Inv X pins σ H s)
  (hch:∀ b∈ch,(b∈X.ex∨X.s₀.heap.get? b=none)∧b≠X.env.locals∧(∀ x c,X.env.cells.lookup x=some c→c≠b)∧∀ p∈X.pn ++ pins,p.1≠b)
  (keep:∀ b o,b≠X.env.locals→b ∉ X.fs→b ∉ ch→s.heap.get? b=some o→H b=none→h'.get? b=some o)
  (slot:∀ b o,b≠X.env.locals→b∈X.fs→b ∉ ch→s.heap.get? b=some o→H b=none→∃ sl,h'.get? b=some { o with slots:=sl }) (free:∀ b o,b ∉ ch→s.heap.get? b=some o→H b=none→H' b=none)
  (there:∀ b o,b ∉ ch→s.heap.get? b=some o→∃ o',h'.get? b=some o')
  (tups:∀ b xs,H b=some (.tup xs)→H' b=some (.tup xs)) (frzs:∀ b o u,H b=some (.frz o u)→H' b=some (.frz o u)) (tbls:∀ b ps,H b=some (.tbl ps)→∃ more,H' b=some (.tbl (ps ++ more)))
  (ns:∀ m,s.heap.Ns X.env.locals m→h'.Ns X.env.locals m) (hok:HOk X.prog X.w H' h') (hg:AllBare g') :
  Inv X pins σ H' { s with heap:=h',gens:=g',drawn:=d',toks:=t' }:=by
 have neL:∀ b o,X.s₀.heap.get? b=some o→b≠X.env.locals:=fun b o e=>Nat.ne_of_lt (Nat.lt_of_lt_of_le (Heap.lt_size e) I.ok.above)
 have neC:∀ b o,X.s₀.heap.get? b=some o→b ∉ X.ex→b ∉ ch:=fun b o e hx hb=>by
  rcases (hch b hb).1 with z | z
  ·exact hx z
  ·rw [z] at e; cases e
 have cellK:∀ x c,X.env.cells.lookup x=some c→∀ v,s.heap.IsCell c v→h'.IsCell c v:=fun x c e v ⟨o,ho,hd⟩=>by
  have nch:c ∉ ch:=fun z=>(hch c z).2.2.1 x c e rfl
  by_cases hc:c∈X.fs
  ·obtain ⟨sl,q⟩:=slot c o (I.cne x c e) hc nch ho (I.freeC x c e)
   exact ⟨_,q,hd⟩
  ·exact ⟨o,keep c o (I.cne x c e) hc nch ho (I.freeC x c e),hd⟩
 refine ⟨I.ok,I.os,hg,⟨fun b o e n hb hx=>?_,fun b o e n hb hx=>?_,fun b o e n hx=>?_,fun b o e hx=>?_,fun b xs e=>tups b xs (I.base.tups b xs e),fun b o xs e=>frzs b o xs (I.base.frzs b o xs e),fun b ps e=>?_⟩, ?_,fun x c e=>?_, ?_,fun x c e=>?_,fun p hp=>?_,hok,I.len⟩
 ·exact keep b o (neL b o e) hb (neC b o e hx) (I.base.keep b o e n hb hx) (I.base.free b o e n hx)
 ·obtain ⟨sl,e1⟩:=I.base.slot b o e n hb hx
  obtain ⟨sl',e2⟩:=slot b _ (neL b o e) hb (neC b o e hx) e1 (I.base.free b o e n hx)
  exact ⟨sl',e2⟩
 ·obtain ⟨o',e1⟩:=I.base.there b o e hx
  exact free b o' (neC b o e hx) e1 (I.base.free b o e n hx)
 ·obtain ⟨o',e1⟩:=I.base.there b o e hx
  exact there b o' (neC b o e hx) e1
 ·obtain ⟨m1,e1⟩:=I.base.tbls b ps e
  obtain ⟨m2,e2⟩:=tbls b _ e1
  exact ⟨m1 ++ m2,by rw [e2,Array.append_assoc]⟩
 ·obtain ⟨m,hn,hl⟩:=I.loc
  refine ⟨m,ns m hn,fun i x v e1 e2 e3=>?_⟩
  obtain ⟨u,r,l⟩:=hl i x v e1 e2 e3
  refine ⟨u,r, ?_⟩
  rcases l with l | ⟨k,c,e,z⟩
  ·exact .inl l
  ·exact .inr ⟨k,c,e,cellK x c e _ z⟩
 ·obtain ⟨v,z⟩:=I.cell x c e
  exact ⟨v,cellK x c e v z⟩
 ·obtain ⟨m,⟨o,_,_,ho,_⟩,_⟩:=I.loc
  exact free _ o (fun z=>(hch _ z).2.1 rfl) ho I.free
 ·obtain ⟨v,o,ho,hd⟩:=I.cell x c e
  exact free c o (fun z=>(hch c z).2.2.1 x c e rfl) ho (I.freeC x c e)
 ·obtain ⟨e,n,ne,nf,d⟩:=I.pin p hp
  have nch:p.1 ∉ ch:=fun z=>(hch p.1 z).2.2.2 p hp rfl
  exact ⟨keep p.1 p.2 ne nf nch e n,free p.1 p.2 nch e n,ne,nf,d⟩
theorem Inv.un {t':Nat} (I:Inv X pins σ H s) (u:Un X.fs [] H H' s.heap h') (hok:HOk X.prog X.w H' h'):Inv X pins σ H' { s with heap:=h',toks:=t' }:=by
 obtain ⟨m,⟨o,es,ep,ho,r⟩,_⟩:=id I.loc
 obtain ⟨sl,hL⟩:=u.any ho I.free (by simp)
 exact I.step (g':=s.gens) (d':=s.drawn) (ch:=[]) (fun _ z=>nomatch z) (fun b o _ hb _ e n=>u.keep b o e n hb (by simp)) (fun b o _ hb _ e n=>u.slot b o e n hb (by simp)) (fun b o _ e n=>u.free b o e n (by simp)) (fun b o _ e=>u.there b o e (by simp)) u.tups u.frzs u.tbls (fun m' hm=>by
  obtain ⟨o',es',ep',ho',r'⟩:=hm
  rw [ho] at ho'; cases ho'
  exact ⟨_,es',ep',hL,r'⟩) hok I.bare
theorem Inv.call {g':Array GenState} {t':Nat} {d':Drawn} {ch:List Addr} (I:Inv X pins σ H s) (u:Un (frs X.stack) ch H H' s.heap h') (hok:HOk X.prog X.w H' h') (hg:AllBare g')
  (hch:∀ b∈ch,(b∈X.ex∨X.s₀.heap.get? b=none)∧b≠X.env.locals∧(∀ x c,X.env.cells.lookup x=some c→c≠b)∧∀ p∈X.pn ++ pins,p.1≠b) :
  Inv X pins σ H' { s with heap:=h',gens:=g',drawn:=d',toks:=t' }:=by
 obtain ⟨m,⟨o,es,ep,ho,r⟩,_⟩:=id I.loc
 obtain ⟨sl,hL⟩:=u.any ho I.free fun z=>(hch _ z).2.1 rfl
 exact I.step (ch:=ch) hch (fun b o hL hb hc e n=>u.keep b o e n (fun z=>(List.mem_cons.mp (I.stkSub b z)).elim hL hb) hc) (fun b o _ _ hc e n=>u.any e n hc) (fun b o hc e n=>u.free b o e n hc) (fun b o hc e=>u.there b o e hc) u.tups u.frzs u.tbls (fun m' hm=>by
  obtain ⟨o',es',ep',ho',r'⟩:=hm
  rw [ho] at ho'; cases ho'
  exact ⟨_,es',ep',hL,r'⟩) hok hg
theorem Inv.turned {t':Nat} {it:Addr} (I:Inv X pins σ H s) (k:∀ b o,b≠it→s.heap.get? b=some o→h'.get? b=some o) (hn:H it=none) (hL:it≠X.env.locals)
  (h1:it∈X.ex∨X.s₀.heap.get? it=none) (h2:∀ x c,X.env.cells.lookup x=some c→c≠it) (h3:∀ p∈X.pn ++ pins,p.1≠it):Inv X pins σ H { s with heap:=h',toks:=t' }:=by
 have nit:∀ b u,H b=some u→b≠it:=fun b u e z=>by rw [z,hn] at e; cases e
 refine I.step (g':=s.gens) (d':=s.drawn) (ch:=[it]) (fun b hb=>?_) (fun b o _ _ hc e _=>k b o (fun z=>hc (by simp [z])) e) (fun b o _ _ hc e _=>⟨o.slots,k b o (fun z=>hc (by simp [z])) e⟩) (fun _ _ _ _ n=>n)
  (fun b o hc e=>⟨o,k b o (fun z=>hc (by simp [z])) e⟩) (fun _ _ e=>e) (fun _ _ _ e=>e) (fun b ps e=>⟨#[],by rw [e]; simp⟩) (fun m hm=>?_) (fun b u e=>?_) I.bare
 ·have e:b=it:=by simpa using hb
  subst e
  exact ⟨h1,hL,h2,h3⟩
 ·obtain ⟨o,es,ep,ho,r⟩:=hm
  exact ⟨o,es,ep,k _ o (Ne.symm hL) ho,r⟩
 ·refine (I.hok b u e).stay (fun c v hc q=>k c v ?_ q) (fun _ q=>q) fun _ _ q=>q
  rcases hc with z | z
  ·rw [z]; exact nit b u e
  ·exact nit c _ z
theorem Inv.tok (I:Inv X pins σ H s) (t:Nat):Inv X pins σ H { s with toks:=t }:=I.un (h':=s.heap) (t':=t) Un.refl I.hok
theorem Inv.kept {t':Nat} (I:Inv X pins σ H s) (k:∀ b u,s.heap.get? b=some u→h'.get? b=some u):Inv X pins σ H { s with heap:=h',toks:=t' }:=I.un (Un.kept k) (I.hok.kept k)
theorem Inv.laid {a:Addr} {o:HO} {t':Nat} (I:Inv X pins σ H s) (k:∀ b u,s.heap.get? b=some u→h'.get? b=some u) (hp:s.heap.objs.size≤a) (new:ObjOk X.prog X.w (upd H a o) h' a o) :
  Inv X pins σ (upd H a o) { s with heap:=h',toks:=t' }:=I.un (Un.laid k hp (I.hok.fresh hp)) (I.hok.laid k hp new)
theorem Inv.write {x e:Addr} {o:HO} {t':Nat} (I:Inv X pins σ H s) (mu:Mut (H x)) (he:e=x∨H e=some (.own x)) (k:∀ b u,b≠e→s.heap.get? b=some u→h'.get? b=some u) (heo:∃ u,h'.get? e=some u)
  (new:ObjOk X.prog X.w (upd H x o) h' x o):Inv X pins σ (upd H x o) { s with heap:=h',toks:=t' }:=I.un (Un.write mu he k heo) (I.hok.write mu he k heo new)
theorem Inv.pins_of {pins':List (Addr × Obj)} (I:Inv X pins σ H s) (h:∀ p∈pins',s.heap.get? p.1=some p.2∧H p.1=none∧p.1≠X.env.locals∧p.1 ∉ X.fs∧∀ v,p.2.data≠.cell v):Inv X pins' σ H s :=
 ⟨I.ok,I.os,I.bare,I.base,I.loc,I.cell,I.free,I.freeC,fun p hp=>(List.mem_append.mp hp).elim (fun z=>I.pin p (List.mem_append_left _ z)) (h p),I.hok,I.len⟩
theorem nodup_ix {N:List Str} (hN:N.Nodup) {i j:Nat} {x:Str} (a:N[i]?=some x) (b:N[j]?=some x):i=j:=by
 obtain ⟨h1,e1⟩:=List.getElem?_eq_some_iff.mp a
 obtain ⟨h2,e2⟩:=List.getElem?_eq_some_iff.mp b
 exact (List.getElem_inj hN).mp (e1.trans e2.symm)
theorem store_ok2 {M:Model} {A:Around} {E:Value→Shared→Prop} {i:Nat} {x:Str} {v:V} {u:Value} {Q:Unit→Shared→Prop} (I:Inv X pins σ H s) (hN:X.N.Nodup) (hi:X.N[i]?=some x) (hx:Loc X.env.scope x) (r:RelV v u)
  (h:∀ s',Inv X pins (σ.set i (some v)) H s'→(∃ a,Heap.SameBut a s.heap s'.heap∧(a=X.env.locals∨X.env.cells.lookup x=some a))→Q () s') (hf:X.fn x=true∨X.env.scope.names.lookup x=some .local:=by first | exact .inl rfl | exact .inr rfl | assumption):wpAny M A (storeName X.env x u) Q E s:=by
 obtain ⟨m,hn,hl⟩:=id I.loc
 have hcls:(X.env.scope.kind == .class || (X.env.scope.kind == .module && X.env.locals != X.env.globals))=false:=by rw [I.ok.kind]; rfl
 have hiσ:i<σ.length:=by rw [I.len]; exact (List.getElem?_eq_some_iff.mp hi).1
 have cne:=I.cne
 have tracked:∀ {a:Addr} {h':Heap},(∃ o,s.heap.get? a=some o∧H a=none)→Heap.SameBut a s.heap h'→HOk X.prog X.w H h':=fun {a h'} ha hs b ob e=>by
  obtain ⟨_,_,hfree⟩:=ha
  refine (I.hok b ob e).stay (fun c w' hc q=>(hs.2 c ?_).trans q) (fun _ q=>q) fun _ _ q=>q
  rintro rfl
  rcases hc with rfl | hc
  ·rw [hfree] at e; cases e
  ·rw [hfree] at hc; cases hc
 rcases hx with hk | hk
 ·refine wpAny_storeName_local hk hn (fun h' hn' hs=>?_) hcls
  obtain ⟨oL,_,_,hoL,_⟩:=id hn
  refine h _ ⟨I.ok,I.os,I.bare,⟨fun b o e n hb hx=>?_,fun b o e n hb hx=>?_,I.base.free,fun b o e hx=>?_,I.base.tups,I.base.frzs,I.base.tbls⟩,⟨_,hn',fun j y v' e1 e2 e3=>?_⟩,fun y c e=>?_,I.free,I.freeC,fun p hp=>?_,tracked ⟨oL,hoL,I.free⟩ hs,by simpa using I.len⟩ ⟨_,hs,.inl rfl⟩
  ·exact (hs.2 b (Nat.ne_of_lt (Nat.lt_of_lt_of_le (Heap.lt_size e) I.ok.above))).trans (I.base.keep b o e n hb hx)
  ·obtain ⟨sl,e1⟩:=I.base.slot b o e n hb hx
   exact ⟨sl,(hs.2 b (Nat.ne_of_lt (Nat.lt_of_lt_of_le (Heap.lt_size e) I.ok.above))).trans e1⟩
  ·obtain ⟨o',e1⟩:=I.base.there b o e hx
   exact ⟨o',(hs.2 b (Nat.ne_of_lt (Nat.lt_of_lt_of_le (Heap.lt_size e) I.ok.above))).trans e1⟩
  ·by_cases hj:j=i
   ·subst hj
    rw [hi] at e1; cases e1
    rw [List.getElem?_set_self hiσ] at e2
    cases e2
    exact ⟨u,r,.inl ⟨hk,by simp⟩⟩
   ·rw [List.getElem?_set_ne (Ne.symm hj)] at e2
    obtain ⟨u',r',q⟩:=hl j y v' e1 e2 e3
    refine ⟨u',r', ?_⟩
    rcases q with ⟨k,e⟩ | ⟨k,c,e,z⟩
    ·refine .inl ⟨k, ?_⟩
     have:y≠x:=fun e=>hj (nodup_ix hN e1 (e ▸ hi))
     simp [this,e]
    ·exact .inr ⟨k,c,e,z.sameBut hs (cne y c e)⟩
  ·obtain ⟨w',z⟩:=I.cell y c e
   exact ⟨w',z.sameBut hs (cne y c e)⟩
  ·obtain ⟨e,n,ne,nf,d⟩:=I.pin p hp
   exact ⟨(hs.2 p.1 ne).trans e,n,ne,nf,d⟩
 ·have hfn:X.fn x=true:=by
   rcases hf with z | z
   ·exact z
   ·rw [z] at hk; cases hk
  obtain ⟨c,hc⟩:=I.ok.has x (.inl hk)
  obtain ⟨w',z⟩:=I.cell x c hc
  refine wpAny_storeName_cell I.ok.kind hk hc z (fun h' hc' hs=>?_)
  obtain ⟨oc,hoc,hocd⟩:=id z
  refine h { s with heap:=h' } ⟨I.ok,I.os,I.bare,⟨fun b o e n hb hx=>?_,fun b o e n hb hx=>?_,I.base.free,fun b o e hx=>?_,I.base.tups,I.base.frzs,I.base.tbls⟩,⟨m,hn.sameBut hs (Ne.symm (cne x c hc)),fun j y v' e1 e2 e3=>?_⟩,fun y c' e=>?_,I.free,I.freeC,fun p hp=>?_,tracked ⟨oc,hoc,I.freeC x c hc⟩ hs,by simpa using I.len⟩ ⟨c,hs,.inr hc⟩
  ·exact (hs.2 b (Nat.ne_of_lt (Nat.lt_of_lt_of_le (Heap.lt_size e) (I.ok.cab x c hfn hc)))).trans (I.base.keep b o e n hb hx)
  ·obtain ⟨sl,e1⟩:=I.base.slot b o e n hb hx
   exact ⟨sl,(hs.2 b (Nat.ne_of_lt (Nat.lt_of_lt_of_le (Heap.lt_size e) (I.ok.cab x c hfn hc)))).trans e1⟩
  ·obtain ⟨o',e1⟩:=I.base.there b o e hx
   exact ⟨o',(hs.2 b (Nat.ne_of_lt (Nat.lt_of_lt_of_le (Heap.lt_size e) (I.ok.cab x c hfn hc)))).trans e1⟩
  ·by_cases hj:j=i
   ·subst hj
    rw [hi] at e1; cases e1
    rw [List.getElem?_set_self hiσ] at e2
    cases e2
    exact ⟨u,r,.inr ⟨.inl hk,c,hc,hc'⟩⟩
   ·rw [List.getElem?_set_ne (Ne.symm hj)] at e2
    obtain ⟨u',r',q⟩:=hl j y v' e1 e2 e3
    refine ⟨u',r', ?_⟩
    rcases q with q | ⟨k,c',e,z'⟩
    ·exact .inl q
    ·refine .inr ⟨k,c',e,z'.sameBut hs ?_⟩
     rintro rfl
     exact hj (nodup_ix hN e1 (I.ok.inj _ _ _ e hc ▸ hi))
  ·by_cases hcc:c'=c
   ·subst hcc; exact ⟨_,hc'⟩
   ·obtain ⟨w2,z2⟩:=I.cell y c' e
    exact ⟨w2,z2.sameBut hs hcc⟩
  ·obtain ⟨e,n,ne,nf,d⟩:=I.pin p hp
   refine ⟨(hs.2 p.1 ?_).trans e,n,ne,nf,d⟩
   intro q
   rw [q,hoc] at e
   have q':oc=p.2:=Option.some.inj e
   exact d w' (by rw [← q']; exact hocd)
theorem store_ok {M:Model} {A:Around} {E:Value→Shared→Prop} {i:Nat} {x:Str} {v:V} {u:Value} {Q:Unit→Shared→Prop} (I:Inv X pins σ H s) (hN:X.N.Nodup) (hi:X.N[i]?=some x) (hx:Loc X.env.scope x) (r:RelV v u)
  (h:∀ s',Inv X pins (σ.set i (some v)) H s'→Q () s') (hf:X.fn x=true∨X.env.scope.names.lookup x=some .local:=by first | exact .inl rfl | exact .inr rfl | assumption):wpAny M A (storeName X.env x u) Q E s :=
 store_ok2 I hN hi hx r (fun s' I' _=>h s' I') hf
theorem Inv.call' {s':Shared} {ch:List Addr} (I:Inv X pins σ H s) (ho:s'.os=s.os) (u:Un (frs X.stack) ch H H' s.heap s'.heap) (hok:HOk X.prog X.w H' s'.heap) (hg:AllBare s'.gens)
  (hch:∀ b∈ch,(b∈X.ex∨X.s₀.heap.get? b=none)∧b≠X.env.locals∧(∀ x c,X.env.cells.lookup x=some c→c≠b)∧∀ p∈X.pn ++ pins,p.1≠b):Inv X pins σ H' s':=by
 obtain ⟨h',g',d',t',o'⟩:=s'
 have e:o'=s.os:=ho
 subst e
 exact I.call (g':=g') (t':=t') (d':=d') u hok hg hch
end
abbrev XK:=Value→Option Addr→Hp→Prop
abbrev St:=List (Option V)
abbrev VK:=V→Hp→Prop
abbrev TE:=St→Hp→VK→Prop
abbrev TT:=St→Hp→(Bool→Hp→Prop)→Prop
abbrev TA:=St→Hp→(List V→Hp→Prop)→Prop
structure Ends where
 nx:St→Hp→Prop
 rt:VK
 bk:St→Hp→Prop:=fun _ _=>False
 ct:St→Hp→Prop:=fun _ _=>False
abbrev TS:=Ends→St→Hp→Prop
def EP (X:Cx) (pins:List (Addr × Obj)) (σ:St) (Q:VK) (u:Value) (s':Shared):Prop:=∃ v H',Inv X pins σ H' s'∧RelV v u∧Q v H'
def TP (X:Cx) (pins:List (Addr × Obj)) (σ:St) (Q:Bool→Hp→Prop) (b:Bool) (s':Shared):Prop:=∃ H',Inv X pins σ H' s'∧Q b H'
def AP (X:Cx) (pins:List (Addr × Obj)) (σ:St) (Q:List V→Hp→Prop) (us:List Value) (s':Shared):Prop:=∃ vs H',Inv X pins σ H' s'∧Vals vs us∧Q vs H'
def SP (X:Cx) (pins:List (Addr × Obj)) (D:Ends) (f:Flow) (s':Shared):Prop :=
 match f with
 | .next=>∃ σ' H',Inv X pins σ' H' s'∧D.nx σ' H'
 | .brk=>∃ σ' H',Inv X pins σ' H' s'∧D.bk σ' H'
 | .cont=>∃ σ' H',Inv X pins σ' H' s'∧D.ct σ' H'
 | .ret u=>∃ v σ' H',Inv X pins σ' H' s'∧RelV v u∧D.rt v H'
def PE (X:Cx) (e:Expr) (t:TE):Prop :=
 ∀ (pins:List (Addr × Obj)) (s:Shared) (σ:St) (H:Hp) (Q:VK),Inv X pins σ H s→t σ H Q→wpAny (model X.prog X.w) X.A (eval e X.env) (EP X pins σ Q) X.xe s
def PT (X:Cx) (e:Expr) (t:TT):Prop :=
 ∀ (pins:List (Addr × Obj)) (s:Shared) (σ:St) (H:Hp) (Q:Bool→Hp→Prop),Inv X pins σ H s→t σ H Q→wpAny (model X.prog X.w) X.A (isTrue e X.env (eval e X.env)) (TP X pins σ Q) X.xe s
def PW (X:Cx) (e:Expr) (t:TT):Prop :=
 ∀ (whole:Sem Value) (pins:List (Addr × Obj)) (s:Shared) (σ:St) (H:Hp) (Q:Bool→Hp→Prop),Inv X pins σ H s→t σ H Q→wpAny (model X.prog X.w) X.A (isTrue e X.env whole) (TP X pins σ Q) X.xe s
theorem PW.pt {X:Cx} {e:Expr} {t:TT} (h:PW X e t):PT X e t:=h _
def PA (X:Cx) (es:List Expr) (t:TA):Prop :=
 ∀ (pos:Pos) (pins:List (Addr × Obj)) (s:Shared) (σ:St) (H:Hp) (Q:List V→Hp→Prop),Inv X pins σ H s→t σ H Q→wpAny (model X.prog X.w) X.A (spliced (backTo pos (starEach es X.env))) (AP X pins σ Q) X.xe s
def PS (X:Cx) (st:Stmt) (t:TS):Prop :=
 ∀ (pins:List (Addr × Obj)) (s:Shared) (σ:St) (H:Hp) (D:Ends),Inv X pins σ H s→t D σ H→wpAny (model X.prog X.w) X.A (exec st X.env) (SP X pins D) X.xe s
def PSs (X:Cx) (st:List Stmt) (t:TS):Prop :=
 ∀ (pins:List (Addr × Obj)) (s:Shared) (σ:St) (H:Hp) (D:Ends),Inv X pins σ H s→t D σ H→wpAny (model X.prog X.w) X.A (execs st X.env) (SP X pins D) X.xe s
theorem thn {α:Type} {t:Sem α} {Q Q':α→Shared→Prop} {M:Model} {A:Around} {E:Value→Shared→Prop} {s:Shared} (h:wpAny M A t Q E s) (hQ:∀ a s,Q a s→Q' a s):wpAny M A t Q' E s:=wpAny_mono h hQ fun _ _ x=>x
section
variable {X:Cx}
theorem bin {a b:Expr} {ta tb:TE} (ha:PE X a ta) (hb:PE X b tb) {pins:List (Addr × Obj)} {s:Shared} {σ:St} {H:Hp} {R:V→V→Hp→Prop} (I:Inv X pins σ H s) (h:ta σ H fun x H1=>tb σ H1 fun y H2=>R x y H2)
  {α:Type} {Q:α→Shared→Prop} {f:Value→Value→Sem α}
  (hf:∀ v u s2 x y H2,Inv X pins σ H2 s2→RelV x v→RelV y u→R x y H2→wpAny (model X.prog X.w) X.A (f v u) Q X.xe s2) :
  wpAny (model X.prog X.w) X.A (eval a X.env) (fun v s₁=>wpAny (model X.prog X.w) X.A (eval b X.env) (fun u s₂=>wpAny (model X.prog X.w) X.A (f v u) Q X.xe s₂) X.xe s₁) X.xe s:=by
 refine thn (ha pins s σ H _ I h) fun v s1 ⟨x,H1,I1,r1,q1⟩=>?_
 refine thn (hb pins s1 σ H1 _ I1 q1) fun u s2 ⟨y,H2,I2,r2,q2⟩=>?_
 exact hf v u s2 x y H2 I2 r1 r2 q2
noncomputable def tVar (i:Nat):TE:=fun σ H Q=>∃ v,σ[i]?=some (some v)∧Q v H
noncomputable def tC (v:V):TE:=fun _ H Q=>Q v H
theorem pe_var {i:Nat} {x:Str} {pos:Pos} (hN:X.N[i]?=some x) (hv:Vis X.env.scope x) (hd:(x == ("__debug__":Str))=false:=by decide) (hcd:(x == ("__classdict__":Str))=false:=by decide):PE X (.Name x pos) (tVar i):=by
 intro pins s σ H Q I h
 obtain ⟨v,e,h⟩:=h
 obtain ⟨m,hn,hl⟩:=I.loc
 obtain ⟨u,r,l⟩:=hl i x v hN e hv
 have fin:EP X pins σ Q u s:=⟨v,H,I,r,h⟩
 rcases l with ⟨hk,hm⟩ | ⟨hk,c,hc,hcell⟩
 ·exact wpAny_Name (wpAny_loadName_local I.ok.kind hk hn hm fin) hd
 ·rcases hk with hk | hk
  ·exact wpAny_Name (wpAny_loadName_cell I.ok.kind hk hc hcell fin) hd
  ·exact wpAny_Name (wpAny_loadName_free I.ok.kind hk hc hcell fin hcd) hd
theorem pe_int {i j pos}:PE X (.Constant (.int i) j pos) (tC (.int i)):=fun _ _ _ H _ I h=>wpAny_Constant_int ⟨.int i,H,I.tok _,⟨_,rfl⟩,h⟩
theorem pe_bl {b j pos}:PE X (.Constant (.bool b) j pos) (tC (.bl b)):=fun _ _ _ H _ I h=>Constant_bool ⟨.bl b,H,I,rfl,h⟩
theorem pe_non {j pos}:PE X (.Constant .none j pos) (tC .non):=fun _ _ _ H _ I h=>Constant_none ⟨.non,H,I,rfl,h⟩
theorem pe_str {x j pos}:PE X (.Constant (.str x) j pos) (tC (.str x)):=fun _ _ _ H _ I h=>Calls.Constant_str ⟨.str x,H,I.tok _,⟨_,rfl⟩,h⟩
def Gl (X:Cx) (x:Str):Prop:=X.env.kindOf x=some .globalImplicit
theorem ld_glob {E:Value→Shared→Prop} {pins:List (Addr × Obj)} {s:Shared} {σ:St} {H:Hp} {x:Str} {u:Value} {pos:Pos} {Q:Value→Shared→Prop} (I:Inv X pins σ H s) (hg:Gl X x) (hm:X.mg x=some u) (h:Q u s)
  (hd:(x == ("__debug__":Str))=false:=by decide):wpAny (model X.prog X.w) X.A (eval (.Name x pos) X.env) Q E s :=
 Calls.Name_function_global I.ok.kind hg (Calls.loadGlobal_global (by rw [I.ok.glob]; exact I.mod.glob.keeps I.bk) hm h) hd
theorem ld_blt {E:Value→Shared→Prop} {pins:List (Addr × Obj)} {s:Shared} {σ:St} {H:Hp} {x:Str} {u:Value} {pos:Pos} {Q:Value→Shared→Prop} (I:Inv X pins σ H s) (hg:Gl X x) (hm:X.mg x=none) (hv:bootBuiltins x=some u) (h:Q u s)
  (hn:x≠"__name__":=by decide) (hd:(x == ("__debug__":Str))=false:=by decide):wpAny (model X.prog X.w) X.A (eval (.Name x pos) X.env) Q E s:=by
 obtain ⟨mb,h1,h2⟩:=I.mod.blt
 exact Calls.Name_function_global I.ok.kind hg (Calls.loadGlobal_builtin (by rw [I.ok.glob]; exact I.mod.glob.keeps I.bk) hm (by rw [I.ok.blt]; exact h1.keeps I.bk) ((h2 x hn).trans hv) h) hd
theorem pe_glob {x:Str} {v:V} {u:Value} {pos:Pos} (hg:Gl X x) (hm:X.mg x=some u) (r:RelV v u) (hd:(x == ("__debug__":Str))=false:=by decide):PE X (.Name x pos) (tC v) :=
 fun _ _ _ H _ I h=>ld_glob I hg hm ⟨v,H,I,r,h⟩ hd
theorem pe_bltn {x:Str} {v:V} {u:Value} {pos:Pos} (hg:Gl X x) (hm:X.mg x=none) (hv:bootBuiltins x=some u) (r:RelV v u) (hn:x≠"__name__":=by decide) (hd:(x == ("__debug__":Str))=false:=by decide):PE X (.Name x pos) (tC v) :=
 fun _ _ _ H _ I h=>ld_blt I hg hm hv ⟨v,H,I,r,h⟩ hn hd
variable {a b:Expr} {ta tb:TE} {pos:Pos}
variable {tA tB':TT} {rest:List Expr}
noncomputable def tAnd (t u:TT):TT:=fun σ H Q=>t σ H fun c H1=>if c=true then u σ H1 Q else Q false H1
noncomputable def tOr (t u:TT):TT:=fun σ H Q=>t σ H fun c H1=>if c=true then Q true H1 else u σ H1 Q
noncomputable def tNot (t:TT):TT:=fun σ H Q=>t σ H fun c H1=>Q (!c) H1
theorem pw_and1 (ha:PT X a tA):PW X (.BoolOp .And [a] pos) tA:=by
 intro wh pins s σ H Q I h
 refine isTrue_and (thn (ha pins s σ H Q I h) fun c s1 e=>?_)
 cases c with
 | true=>exact isTrue_and_nil e
 | false=>exact e
theorem pw_or1 (ha:PT X a tA):PW X (.BoolOp .Or [a] pos) tA:=by
 intro wh pins s σ H Q I h
 refine isTrue_or (thn (ha pins s σ H Q I h) fun c s1 e=>?_)
 cases c with
 | false=>exact isTrue_or_nil e
 | true=>exact e
theorem pw_and (ha:PT X a tA) (hb:PW X (.BoolOp .And (b :: rest) pos) tB'):PW X (.BoolOp .And (a :: b :: rest) pos) (tAnd tA tB'):=by
 intro wh pins s σ H Q I h
 refine isTrue_and (thn (ha pins s σ H _ I h) fun c s1 ⟨H1,I1,q1⟩=>?_)
 cases c with
 | true=>exact hb wh pins s1 σ H1 Q I1 q1
 | false=>exact ⟨H1,I1,q1⟩
theorem pw_or (ha:PT X a tA) (hb:PW X (.BoolOp .Or (b :: rest) pos) tB'):PW X (.BoolOp .Or (a :: b :: rest) pos) (tOr tA tB'):=by
 intro wh pins s σ H Q I h
 refine isTrue_or (thn (ha pins s σ H _ I h) fun c s1 ⟨H1,I1,q1⟩=>?_)
 cases c with
 | true=>exact ⟨H1,I1,q1⟩
 | false=>exact hb wh pins s1 σ H1 Q I1 q1
theorem pt_not (ha:PT X a tA):PT X (.UnaryOp .Not a pos) (tNot tA):=by
 intro pins s σ H Q I h
 exact isTrue_not (ha pins s σ H (fun c H1=>Q (!c) H1) I h)
noncomputable def tAndV (ta tb:TE):TE:=fun σ H Q=>ta σ H fun x H1=>∃ c,x=.bl c∧if c=true then tb σ H1 Q else Q (.bl false) H1
noncomputable def tOrV (ta tb:TE):TE:=fun σ H Q=>ta σ H fun x H1=>∃ c,x=.bl c∧if c=true then Q (.bl true) H1 else tb σ H1 Q
theorem pe_one {op} {t:TE} (h:PE X a t):PE X (.BoolOp op [a] pos) t:=fun pins s σ H Q I hw=>BoolOp_one (h pins s σ H Q I hw)
theorem pe_and (ha:PE X a ta) (hb:PE X (.BoolOp .And (b :: rest) pos) tb):PE X (.BoolOp .And (a :: b :: rest) pos) (tAndV ta tb):=by
 intro pins s σ H Q I h
 refine BoolOp_and (thn (ha pins s σ H _ I h) fun v s1 ⟨x,H1,I1,r1,q1⟩=>?_)
 obtain ⟨c,rfl,q1⟩:=q1
 cases r1
 refine wpAny_truthy_bool ?_
 cases c with
 | true=>exact hb pins s1 σ H1 Q I1 q1
 | false=>exact ⟨.bl false,H1,I1,rfl,q1⟩
theorem pe_or (ha:PE X a ta) (hb:PE X (.BoolOp .Or (b :: rest) pos) tb):PE X (.BoolOp .Or (a :: b :: rest) pos) (tOrV ta tb):=by
 intro pins s σ H Q I h
 refine BoolOp_or (thn (ha pins s σ H _ I h) fun v s1 ⟨x,H1,I1,r1,q1⟩=>?_)
 obtain ⟨c,rfl,q1⟩:=q1
 cases r1
 refine wpAny_truthy_bool ?_
 cases c with
 | false=>exact hb pins s1 σ H1 Q I1 q1
 | true=>exact ⟨.bl true,H1,I1,rfl,q1⟩
noncomputable def tIf (t:TT) (ta tb:TE):TE:=fun σ H Q=>t σ H fun c H1=>if c=true then ta σ H1 Q else tb σ H1 Q
theorem pe_ifExp {c:Expr} (hc:PT X c tA) (ha:PE X a ta) (hb:PE X b tb):PE X (.IfExp c a b pos) (tIf tA ta tb):=by
 intro pins s σ H Q I h
 refine wpAny_IfExp (thn (hc pins s σ H _ I h) fun d s1 ⟨H1,I1,q1⟩=>?_)
 cases d with
 | true=>exact ha pins s1 σ H1 Q I1 q1
 | false=>exact hb pins s1 σ H1 Q I1 q1
end
def SqL (K:PySem.W.Frag) (H:Hp) (a:Addr) (xs:List V):Prop :=
 Rd H a (.lst xs) ∨
  ∃ (o:Obj) (its:Array Value) (n:Nat),K.lookup a=some o∧o.cls=.type "list"∧o.dict=none∧o.data=.seq its n∧its.size≤sizeLine∧Vals xs its.toList
def SqT (K:PySem.W.Frag) (H:Hp) (a:Addr) (xs:List V):Prop :=
 Rd H a (.tup xs) ∨
  ∃ (o:Obj) (its:Array Value) (n:Nat),K.lookup a=some o∧o.cls=.type "tuple"∧o.data=.seq its n∧its.size≤sizeLine∧Vals xs its.toList
noncomputable def absV:Value→Option V
 | .none=>some .non
 | .bool b=>some (.bl b)
 | .int i _=>some (.int i)
 | .str x _=>some (.str x)
 | .bytes b _=>some (.byt b)
 | .float b _=>some (.flt b)
 | .ref a=>some (.ref a)
 | .type n=>some (.ty n)
 | _=>none
theorem RelV.abs {x:V} {u:Value} (r:RelV x u):absV u=some x:=by
 cases x with
 | non=>cases r; rfl
 | bl _=>cases r; rfl
 | int _=>obtain ⟨t,rfl⟩:=r; rfl
 | str _=>obtain ⟨t,rfl⟩:=r; rfl
 | byt _=>obtain ⟨t,rfl⟩:=r; rfl
 | flt _=>obtain ⟨t,rfl⟩:=r; rfl
 | ref _=>cases r; rfl
 | ty _=>cases r; rfl
theorem RelV.inj {x y:V} {u:Value} (r:RelV x u) (q:RelV y u):x=y:=Option.some.inj (r.abs.symm.trans q.abs)
theorem Vals.inj:∀ {xs ys:List V} {us:List Value},Vals xs us→Vals ys us→xs=ys
 | _,_,_,.nil,.nil=>rfl
 | _,_,_,.cons r t,.cons r' t'=>by rw [r.inj r',Vals.inj t t']
section
variable {X:Cx} {pins:List (Addr × Obj)} {σ:St} {H:Hp} {s:Shared} {a:Addr} {xs ys:List V}
theorem SqL.of {K:PySem.W.Frag} (h:H a=some (.lst xs)):SqL K H a xs:=.inl (.inl h)
theorem SqT.of {K:PySem.W.Frag} (h:H a=some (.tup xs)):SqT K H a xs:=.inl (.inl h)
theorem Inv.list (I:Inv X pins σ H s) (h:SqL X.K H a xs):∃ its:List Value,Vals xs its∧PlainL s.heap a its.toArray∧xs.length≤sizeLine:=by
 rcases h with h | ⟨o,its,n,hk,hc,hd,hs,hz,r⟩
 ·obtain ⟨z,its,n,r,e⟩:=h.ok I.hok
  exact ⟨its,r,⟨_,n,e,rfl,rfl,rfl⟩,z⟩
 ·refine ⟨its.toList,r,⟨o,n,I.kIn a o hk,hc,hd,by simpa using hs⟩, ?_⟩
  have e:=r.length
  simp only [Array.length_toList] at e
  omega
theorem Inv.tuple (I:Inv X pins σ H s) (h:SqT X.K H a xs):∃ its:List Value,Vals xs its∧IsTup s.heap a its.toArray∧xs.length≤sizeLine:=by
 rcases h with h | ⟨o,its,n,hk,hc,hs,hz,r⟩
 ·obtain ⟨z,its,r,p⟩:=h.ok I.hok
  exact ⟨its,r,p,z⟩
 ·refine ⟨its.toList,r,⟨o,I.kIn a o hk,hc,n,by simpa using hs⟩, ?_⟩
  have e:=r.length
  simp only [Array.length_toList] at e
  omega
theorem Inv.list_inj (I:Inv X pins σ H s) (h:SqL X.K H a xs) (h':SqL X.K H a ys):xs=ys:=by
 obtain ⟨its,r,⟨o,n,e,_,_,d⟩,_⟩:=I.list h
 obtain ⟨its',r',⟨o',n',e',_,_,d'⟩,_⟩:=I.list h'
 rw [e] at e'; cases e'
 rw [d] at d'
 injection d' with d1 _
 have:its=its':=by simpa using congrArg Array.toList d1
 subst this
 exact r.inj r'
theorem Inv.tuple_inj (I:Inv X pins σ H s) (h:SqT X.K H a xs) (h':SqT X.K H a ys):xs=ys:=by
 obtain ⟨its,r,⟨o,e,_,n,d⟩,_⟩:=I.tuple h
 obtain ⟨its',r',⟨o',e',_,n',d'⟩,_⟩:=I.tuple h'
 rw [e] at e'; cases e'
 rw [d] at d'
 injection d' with d1 _
 have:its=its':=by simpa using congrArg Array.toList d1
 subst this
 exact r.inj r'
end
abbrev Cx.wish (X:Cx) (E:Value→Shared→Prop):Cx:={ X with xe:=E }
abbrev Cx.nox (X:Cx):Cx:=X.wish fun _ _=>False
theorem Cx.Ok.wish {X:Cx} (ok:X.Ok) (E:Value→Shared→Prop):(X.wish E).Ok :=
 ⟨ok.mod,ok.kind,ok.glob,ok.blt,ok.above,ok.inj,ok.has,ok.cab,ok.hd,ok.frames,ok.stk,ok.exf,ok.bs,ok.bsz,ok.noex,ok.exfs,ok.funs,ok.frf⟩
theorem Cx.Ok.unwish {X:Cx} {E:Value→Shared→Prop} (ok:(X.wish E).Ok):X.Ok :=
 ⟨ok.mod,ok.kind,ok.glob,ok.blt,ok.above,ok.inj,ok.has,ok.cab,ok.hd,ok.frames,ok.stk,ok.exf,ok.bs,ok.bsz,ok.noex,ok.exfs,ok.funs,ok.frf⟩
section
variable {X:Cx} {pins:List (Addr × Obj)} {σ:St} {H:Hp} {s:Shared} {E:Value→Shared→Prop}
theorem Inv.wish (I:Inv X pins σ H s) (E:Value→Shared→Prop):Inv (X.wish E) pins σ H s:=⟨I.ok.wish E,I.os,I.bare,I.base,I.loc,I.cell,I.free,I.freeC,I.pin,I.hok,I.len⟩
theorem Inv.unwish (I:Inv (X.wish E) pins σ H s):Inv X pins σ H s:=⟨I.ok.unwish,I.os,I.bare,I.base,I.loc,I.cell,I.free,I.freeC,I.pin,I.hok,I.len⟩
theorem SP.unwish {D:Ends} {f:Flow} {s':Shared} (h:SP (X.wish E) pins D f s'):SP X pins D f s':=by
 cases f with
 | next=>obtain ⟨σ',H',I,q⟩:=h; exact ⟨σ',H',I.unwish,q⟩
 | brk=>obtain ⟨σ',H',I,q⟩:=h; exact ⟨σ',H',I.unwish,q⟩
 | cont=>obtain ⟨σ',H',I,q⟩:=h; exact ⟨σ',H',I.unwish,q⟩
 | ret u=>obtain ⟨v,σ',H',I,r,q⟩:=h; exact ⟨v,σ',H',I.unwish,r,q⟩
theorem PSs.nox {st:List Stmt} {t:TS} (h:PSs X.nox st t):PSs X st t:=fun pins s σ H D I hw =>
 wpAny_mono (h pins s σ H D (I.wish _) hw) (fun _ _ q=>q.unwish) fun _ _ z=>False.elim z
end
section
variable {X:Cx} {st:Stmt} {rest:List Stmt} {t u:TS} {e:Expr} {te:TE} {pos:Pos}
noncomputable def tNext:TS:=fun D σ H=>D.nx σ H
noncomputable def tSeq (t u:TS):TS:=fun D σ H=>t { D with nx:=u D } σ H
theorem pss_nil:PSs X [] tNext:=fun _ _ σ H _ I h=>wpAny_execs_nil ⟨σ,H,I,h⟩
theorem pss_cons (h1:PS X st t) (h2:PSs X rest u):PSs X (st :: rest) (tSeq t u):=by
 intro pins s σ H D I h
 refine wpAny_execs_cons (thn (h1 pins s σ H { D with nx:=u D } I h) fun f s1 q=>?_)
 cases f with
 | next =>
  obtain ⟨σ',H',I',q⟩:=q
  exact h2 pins s1 σ' H' D I' q
 | ret v=>exact q
 | brk=>exact q
 | cont=>exact q
noncomputable def tBreak:TS:=fun D σ H=>D.bk σ H
noncomputable def tCont:TS:=fun D σ H=>D.ct σ H
theorem ps_pass:PS X (.Pass pos) tNext:=fun _ _ σ H _ I h=>wpAny_Pass ⟨σ,H,I,h⟩
theorem ps_break:PS X (.Break pos) tBreak:=fun _ _ σ H _ I h=>wpAny_Break ⟨σ,H,I,h⟩
theorem ps_continue:PS X (.Continue pos) tCont:=fun _ _ σ H _ I h=>wpAny_Continue ⟨σ,H,I,h⟩
theorem Inv.quiet {pins:List (Addr × Obj)} {σ:St} {H:Hp} {s:Shared} (I:Inv X pins σ H s):interactive X.env=false:=by simp [interactive,I.ok.kind]
noncomputable def tDrop (te:TE):TS:=fun D σ H=>te σ H fun _ H1=>D.nx σ H1
theorem ps_expr (he:PE X e te) (hs:swapsWith e none pos.line X.env=pure false:=by rfl):PS X (.Expr e pos) (tDrop te):=by
 intro pins s σ H D I h
 exact wpAny_Expr_any (thn (he pins s σ H _ I h) fun v s1 ⟨x,H1,I1,r1,q1⟩=>⟨σ,H1,I1,q1⟩) I.quiet hs
noncomputable def tRet (te:TE):TS:=fun D σ H=>te σ H D.rt
theorem ps_ret (he:PE X e te):PS X (.Return (some e) pos) (tRet te):=by
 intro pins s σ H D I h
 exact wpAny_Return_some (thn (he pins s σ H _ I h) fun v s1 ⟨x,H1,I1,r1,q1⟩=>⟨x,σ,H1,I1,r1,q1⟩)
noncomputable def tRetN:TS:=fun D _ H=>D.rt .non H
theorem ps_retN:PS X (.Return none pos) tRetN:=fun _ _ σ H _ I h=>wpAny_Return_none ⟨.non,σ,H,I,rfl,h⟩
noncomputable def tIfS (c:TT) (t u:TS):TS:=fun D σ H=>c σ H fun b H1=>if b=true then t D σ H1 else u D σ H1
theorem ps_if {c:Expr} {a b:List Stmt} {tc:TT} (hc:PT X c tc) (ha:PSs X a t) (hb:PSs X b u):PS X (.If c a b pos) (tIfS tc t u):=by
 intro pins s σ H D I h
 refine wpAny_If (thn (hc pins s σ H _ I h) fun d s1 ⟨H1,I1,q1⟩=>?_)
 cases d with
 | true=>exact ha pins s1 σ H1 D I1 q1
 | false=>exact hb pins s1 σ H1 D I1 q1
end
abbrev TG:=V→St→Hp→(St→Hp→Prop)→Prop
abbrev TGs:=List V→St→Hp→(St→Hp→Prop)→Prop
def PG (X:Cx) (target:Expr) (t:TG):Prop :=
 ∀ (pins:List (Addr × Obj)) (s:Shared) (σ:St) (H:Hp) (v:V) (u:Value) (Q:St→Hp→Prop),Inv X pins σ H s→RelV v u→t v σ H Q →
  wpAny (model X.prog X.w) X.A (assign target X.env u) (fun _ s'=>∃ σ' H',Inv X pins σ' H' s'∧Q σ' H') X.xe s
def PGs (X:Cx) (ts:List Expr) (t:TGs):Prop :=
 ∀ (pins:List (Addr × Obj)) (s:Shared) (σ:St) (H:Hp) (vs:List V) (us:List Value) (Q:St→Hp→Prop),Inv X pins σ H s→Vals vs us→t vs σ H Q →
  wpAny (model X.prog X.w) X.A (assignInOrder ((assignEach ts X.env).map (·.2)) us) (fun _ s'=>∃ σ' H',Inv X pins σ' H' s'∧Q σ' H') X.xe s
abbrev TSet:=V→V→V→Hp→(Hp→Prop)→Prop
def PSet (X:Cx) (t:TSet):Prop :=
 ∀ (pins:List (Addr × Obj)) (s:Shared) (σ:St) (H:Hp) (o i v:V) (ov iv u:Value) (Q:Hp→Prop),Inv X pins σ H s→RelV o ov→RelV i iv→RelV v u→t o i v H Q →
  wpAny (model X.prog X.w) X.A (setItem ov iv u) (fun _ s'=>∃ H',Inv X pins σ H' s'∧Q H') X.xe s
section
variable {X:Cx} {pos:Pos}
noncomputable def gName (i:Nat):TG:=fun v σ H Q=>Q (σ.set i (some v)) H
theorem pg_name {i:Nat} {x:Str} (hN:X.N.Nodup) (hi:X.N[i]?=some x) (hx:Loc X.env.scope x) (hf:X.fn x=true∨X.env.scope.names.lookup x=some .local:=by first | exact .inl rfl | exact .inr rfl | assumption):PG X (.Name x pos) (gName i):=by
 intro pins s σ H v u Q I r h
 exact wpAny_assign_Name (store_ok I hN hi hx r (fun s' I'=>⟨_,H,I',h⟩) hf)
noncomputable def gNil:TGs:=fun vs σ H Q=>vs=[]∧Q σ H
noncomputable def gCons (t:TG) (u:TGs):TGs:=fun vs σ H Q=>∃ v r,vs=v :: r∧t v σ H fun σ' H'=>u r σ' H' Q
theorem pgs_nil:PGs X [] gNil:=by
 intro pins s σ H vs us Q I r h
 obtain ⟨e,h⟩:=h
 subst e
 cases r
 exact assignInOrder_nil ⟨σ,H,I,h⟩
theorem pgs_cons {e:Expr} {es:List Expr} {t:TG} {u:TGs} (h1:PG X e t) (h2:PGs X es u)
  (hs:(assignEach (e :: es) X.env).map (·.2)=assign e X.env :: (assignEach es X.env).map (·.2):=by rfl):PGs X (e :: es) (gCons t u):=by
 intro pins s σ H vs us Q I r h
 obtain ⟨v,vr,e1,h⟩:=h
 subst e1
 cases r with
 | cons r rr =>
  rw [hs]
  refine assignInOrder_cons (thn (h1 pins s σ H _ _ _ I r h) fun _ s1 ⟨σ1,H1,I1,q1⟩=>?_)
  exact h2 pins s1 σ1 H1 _ _ Q I1 rr q1
noncomputable def gTup (K:PySem.W.Frag) (n:Nat) (t:TGs):TG:=fun v σ H Q=>∃ a xs,v=.ref a∧SqT K H a xs∧xs.length=n∧t xs σ H Q
theorem pg_tup {es:List Expr} {k:Nat} {t:TGs} {n:Nat} (hc:X.calm=true) (h:PGs X es t)
  (hn:(assignEach es X.env).length=n:=by rfl) (hst:(assignEach es X.env).findIdx? (·.1)=none:=by rfl):PG X (.Tuple es k pos) (gTup X.K n t):=by
 intro pins s σ H v u Q I r hw
 obtain ⟨a,xs,e1,hq,hl,hw⟩:=hw
 subst e1
 cases r
 obtain ⟨its,rv,ht,hz⟩:=I.tuple hq
 refine assign_Tuple_tuple (I.ok.hd hc) ht (by simp [hn,← hl,rv.length]) hst fun h' hx=>?_
 have I1:Inv X pins σ H { s with heap:=h' }:=I.kept (t':=s.toks) fun b o e=>hx b o (Nat.ne_of_lt (Heap.lt_size e)) e
 exact h pins _ σ H xs _ Q I1 (by simpa using rv) hw
noncomputable def gSub (to ti:TE) (t:TSet):TG:=fun v σ H Q=>to σ H fun o H1=>ti σ H1 fun i H2=>t o i v H2 fun H3=>Q σ H3
theorem pg_sub {o i:Expr} {to ti:TE} {t:TSet} (ho:PE X o to) (hi:PE X i ti) (hs:PSet X t)
  (ha:∀ v,assign (.Subscript o i pos) X.env v=(do
   let ov ← holding [v] (eval o X.env)
   let iv ← holding [v,ov] (eval i X.env)
   standAt pos
   holding [v,ov,iv] (setItem ov iv v)
   release [v,ov,iv] []):=by intro _; rfl):PG X (.Subscript o i pos) (gSub to ti t):=by
 intro pins s σ H v u Q I r h
 rw [ha]
 refine wpAny_bind (wpAny_holding (thn (ho pins s σ H _ I h) fun ov s1 ⟨x,H1,I1,r1,q1⟩=>?_))
 refine wpAny_bind (wpAny_holding (thn (hi pins s1 σ H1 _ I1 q1) fun iv s2 ⟨y,H2,I2,r2,q2⟩=>?_))
 refine wpAny_bind (wpAny_standAt (wpAny_bind (wpAny_holding (thn (hs pins s2 σ H2 x y v ov iv u _ I2 r1 r2 r q2) fun _ s3 ⟨H3,I3,q3⟩=>?_))))
 exact wpAny_release ⟨σ,H3,I3,q3⟩
noncomputable def tAsg (te:TE) (g:TG):TS:=fun D σ H=>te σ H fun x H1=>g x σ H1 D.nx
theorem ps_asg {tg e:Expr} {te:TE} {g:TG} (he:PE X e te) (hg:PG X tg g) (hs:swapsWithSole [tg] e pos.line X.env=pure false:=by rfl) (hw:swappedStores [tg] e X.env=pure none:=by rfl)
  (h1:(assignEach [tg] X.env).map (·.2)=[assign tg X.env]:=by rfl):PS X (.Assign [tg] e pos) (tAsg te g):=by
 intro pins s σ H D I h
 refine wpAny_Assign_stores (thn (he pins s σ H _ I h) fun v s1 ⟨x,H1,I1,r1,q1⟩=>?_) hs hw
 rw [h1]
 exact thn (hg pins s1 σ H1 x v _ I1 r1 q1) fun _ s2 q=>q
end
section
variable {X:Cx} {pos:Pos}
end
structure It where
 go:Nat→Hp→Prop
 yld:Nat→Hp→V→Hp→Prop
 stop:Nat→Hp→Prop
def FpOk (X:Cx) (pins:List (Addr × Obj)) (H:Hp) (b:Addr):Prop :=
 H b=none∧b≠X.env.locals∧b ∉ X.fs∧(b∈X.ex∨X.s₀.heap.get? b=none)∧(∀ x c,X.env.cells.lookup x=some c→c≠b)∧∀ p∈X.pn ++ pins,p.1≠b
theorem Inv.fpOk {X:Cx} {pins:List (Addr × Obj)} {σ:St} {H H':Hp} {s:Shared} {b:Addr} (I:Inv X pins σ H s) (hb:s.heap.objs.size≤b) (hn:H' b=none):FpOk X pins H' b:=by
 refine ⟨hn,Nat.ne_of_gt (Nat.lt_of_lt_of_le I.lt hb),I.nofs hb,.inr (Heap.get?_none_of_le (Nat.le_trans I.sz hb)),fun x c e z=>?_,fun p hp z=>?_⟩
 ·obtain ⟨v,q⟩:=I.cell x c e
  exact absurd (Nat.lt_of_lt_of_le q.lt (by rw [z]; exact hb)) (Nat.lt_irrefl _)
 ·exact absurd (Nat.lt_of_lt_of_le (Heap.lt_size (I.pin p hp).1) (by rw [z]; exact hb)) (Nat.lt_irrefl _)
structure Turn (P:Program) (w:World) (K:PySem.W.Frag) (tg:Expr) (J:It) (fp:List Addr) (it:Addr) (tn:Nat→Heap→Prop):Prop where
 mem:it∈fp
 obj:∀ i h,tn i h→∀ b∈fp,∃ o,h.get? b=some o∧∀ v,o.data≠.cell v
 keep:∀ i h h',tn i h→(∀ b∈fp,∀ o,h.get? b=some o→h'.get? b=some o)→tn i h'
 item:∀ (X:Cx),X.prog=P→X.w=w→X.K=K→X.calm=true→∀ (i:Nat) (pins:List (Addr × Obj)) (s:Shared) (σ:St) (H:Hp) (E:Value→Shared→Prop),Inv X pins σ H s→(∀ b∈fp,FpOk X pins H b)→tn i s.heap→J.go i H →
  wpAny (model P w) X.A (pyNext (.ref it)) (fun r s1=>∃ u,r=some u ∧
   wpAny (model P w) X.A (letOwnedTupleGo tg (.ref it) u) (fun _ s2=>∃ x H',Inv X pins σ H' s2∧RelV x u∧J.yld i H x H'∧tn (i+1) s2.heap∧∀ b∈fp,H' b=none) E s1) E s
 done:∀ (X:Cx),X.prog=P→X.w=w→X.K=K→X.calm=true→∀ (i:Nat) (pins:List (Addr × Obj)) (s:Shared) (σ:St) (H:Hp) (E:Value→Shared→Prop),Inv X pins σ H s→(∀ b∈fp,FpOk X pins H b)→tn i s.heap→J.stop i H →
  wpAny (model P w) X.A (pyNext (.ref it)) (fun r s1=>r=none∧Inv X pins σ H s1) E s
 self:∀ (A:Around) (i:Nat) (s:Shared) (Q:Value→Shared→Prop) (E:Value→Shared→Prop),tn i s.heap→Q (.ref it) s→wpAny (model P w) A (pyIter (.ref it)) Q E s
abbrev TI:=St→Hp→(It→Hp→Prop)→Prop
def PIE (X:Cx) (pins:List (Addr × Obj)) (σ:St) (tg:Expr) (R:It→Hp→Prop) (itv:Value) (s2:Shared):Prop :=
 ∃ (it:Addr) (fp:List Addr) (tn:Nat→Heap→Prop) (J:It) (H':Hp),itv=.ref it∧Inv X pins σ H' s2∧Turn X.prog X.w X.K tg J fp it tn∧tn 0 s2.heap∧(∀ b∈fp,FpOk X pins H' b)∧R J H'
def PI (X:Cx) (tg iter:Expr) (wi:TI):Prop :=
 ∀ (pins:List (Addr × Obj)) (s:Shared) (σ:St) (H:Hp) (R:It→Hp→Prop),Inv X pins σ H s→wi σ H R →
  wpAny (model X.prog X.w) X.A (eval iter X.env) (fun v s1=>wpAny (model X.prog X.w) X.A (pyIter v) (PIE X pins σ tg R) X.xe s1) X.xe s
theorem go_of {M:Model} {A:Around} {E:Value→Shared→Prop} {s:Shared} {tg:Expr} {it:Addr} {u:Value} {o:Obj} {n:String} {vs:Array Value} {Q:Unit→Shared→Prop} (ho:s.heap.get? it=some o) (hc:o.cls=.type n) (hd:o.data=.fields vs)
  (hn:["enumerate","zip","dict_itemiterator","dict_reverseitemiterator","odict_iterator","itertools.zip_longest","itertools.pairwise"].contains n=false) (hQ:Q () s):wpAny M A (letOwnedTupleGo tg (.ref it) u) Q E s:=by
 unfold letOwnedTupleGo
 cases tg <;> first
  | exact wpAny_pure hQ
  | (cases u <;> first
    | exact wpAny_pure hQ
    | (refine wpAny_bind (wpAny_load ho ?_)
       rw [hc,hd]
       show wpAny M A (if (["enumerate","zip","dict_itemiterator","dict_reverseitemiterator","odict_iterator","itertools.zip_longest","itertools.pairwise"].contains n && vs[0]? == some (rawInt _))=true then _ else _) Q E s
       rw [if_neg (by intro h; rw [hn,Bool.false_and] at h; cases h)]
       exact wpAny_pure hQ))
noncomputable def Itl (K:PySem.W.Frag) (a:Addr):It :=
 ⟨fun i H=>∃ xs x,SqL K H a xs∧xs[i]?=some x,fun i H x H'=>H'=H∧∀ xs,SqL K H a xs→xs[i]?=some x,fun i H=>∃ xs,SqL K H a xs∧xs.length≤i⟩
noncomputable def Itt (K:PySem.W.Frag) (a:Addr):It :=
 ⟨fun i H=>∃ xs x,SqT K H a xs∧xs[i]?=some x,fun i H x H'=>H'=H∧∀ xs,SqT K H a xs→xs[i]?=some x,fun i H=>∃ xs,SqT K H a xs∧xs.length≤i⟩
noncomputable def Itr (lo:Int) (n:Nat):It:=⟨fun i _=>i<n,fun i H x H'=>H'=H∧x=.int (lo+i),fun i _=>n≤i⟩
theorem turn_list {P:Program} {w:World} {K:PySem.W.Frag} {tg:Expr} (a it:Addr):Turn P w K tg (Itl K a) [it] it (fun i h=>h.IsListIter it a i) where
 mem:=by simp
 obj:=fun i h st b hb=>by
  have e:b=it:=by simpa using hb
  subst e
  obtain ⟨o,e,c,d⟩:=st
  exact ⟨o,e,fun v z=>by rw [d] at z; cases z⟩
 keep:=fun i h h' st k=>st.at fun o e=>k it (by simp) o e
 item:=by
  intro X hP hw hK hc i pins s σ H E I hf st hg
  subst hP hw hK
  obtain ⟨xs,x,hq,hx⟩:=hg
  obtain ⟨its,rv,p,hz⟩:=I.list hq
  obtain ⟨u,hu,ru⟩:=rv.get hx
  obtain ⟨f0,f1,f2,f3,f4,f5⟩:=hf it (by simp)
  refine wpAny_pyNext_list_item st p.isList (x:=u) (by simpa using hu) fun h' st' sb=>?_
  have I1:Inv X pins σ H { s with heap:=h' }:=I.turned (t':=s.toks) (fun b o hb e=>(sb.2 b hb).trans e) f0 f1 f3 f4 f5
  obtain ⟨o,e,c,d⟩:=id st'
  exact ⟨u,rfl,go_of (s:={ s with heap:=h' }) e c d (by decide) ⟨x,H,I1,ru,⟨rfl,fun ys hy=>by rw [I.list_inj hy hq]; exact hx⟩,st',fun b hb=>(hf b hb).1⟩⟩
 done:=by
  intro X hP hw hK hc i pins s σ H E I hf st hg
  subst hP hw hK
  obtain ⟨xs,hq,hx⟩:=hg
  obtain ⟨its,rv,p,hz⟩:=I.list hq
  obtain ⟨f0,f1,f2,f3,f4,f5⟩:=hf it (by simp)
  have hl:=rv.length
  exact wpAny_pyNext_list_end (I.ok.hd hc) st p.isList (by simp; omega) fun h' eb=>⟨rfl,I.turned (t':=s.toks) (fun b o hb e=>eb b o hb e) f0 f1 f3 f4 f5⟩
 self:=fun _ _ _ _ _ st h=>wpAny_pyIter_listiter st h
theorem turn_tuple {P:Program} {w:World} {K:PySem.W.Frag} {tg:Expr} (a it:Addr):Turn P w K tg (Itt K a) [it] it (fun i h=>h.IsTupleIter it a i) where
 mem:=by simp
 obj:=fun i h st b hb=>by
  have e:b=it:=by simpa using hb
  subst e
  obtain ⟨o,e,c,d⟩:=st
  exact ⟨o,e,fun v z=>by rw [d] at z; cases z⟩
 keep:=fun i h h' st k=>st.at fun o e=>k it (by simp) o e
 item:=by
  intro X hP hw hK hc i pins s σ H E I hf st hg
  subst hP hw hK
  obtain ⟨xs,x,hq,hx⟩:=hg
  obtain ⟨its,rv,p,hz⟩:=I.tuple hq
  obtain ⟨u,hu,ru⟩:=rv.get hx
  obtain ⟨f0,f1,f2,f3,f4,f5⟩:=hf it (by simp)
  refine wpAny_pyNext_tuple_item st (show s.heap.IsTuple a its.toArray from p) (x:=u) (by simpa using hu) fun h' st' sb=>?_
  have I1:Inv X pins σ H { s with heap:=h' }:=I.turned (t':=s.toks) (fun b o hb e=>(sb.2 b hb).trans e) f0 f1 f3 f4 f5
  obtain ⟨o,e,c,d⟩:=id st'
  exact ⟨u,rfl,go_of (s:={ s with heap:=h' }) e c d (by decide) ⟨x,H,I1,ru,⟨rfl,fun ys hy=>by rw [I.tuple_inj hy hq]; exact hx⟩,st',fun b hb=>(hf b hb).1⟩⟩
 done:=by
  intro X hP hw hK hc i pins s σ H E I hf st hg
  subst hP hw hK
  obtain ⟨xs,hq,hx⟩:=hg
  obtain ⟨its,rv,p,hz⟩:=I.tuple hq
  obtain ⟨f0,f1,f2,f3,f4,f5⟩:=hf it (by simp)
  have hl:=rv.length
  exact wpAny_pyNext_tuple_end (I.ok.hd hc) st (show s.heap.IsTuple a its.toArray from p) (by simp; omega) fun h' eb=>⟨rfl,I.turned (t':=s.toks) (fun b o hb e=>eb b o hb e) f0 f1 f3 f4 f5⟩
 self:=fun _ _ _ _ _ st h=>wpAny_pyIter_tupleiter st h
theorem turn_range {P:Program} {w:World} {K:PySem.W.Frag} {tg:Expr} (it:Addr) (lo:Int) (n:Nat):Turn P w K tg (Itr lo n) [it] it (fun i h=>IsRangeIter h it (lo+(i:Nat)*1) ((n:Int) - (i:Nat)) 1) where
 mem:=by simp
 obj:=fun i h st b hb=>by
  have e:b=it:=by simpa using hb
  subst e
  exact ⟨_,st,fun v z=>by
   have z':Data.fields _=Data.cell v:=z
   cases z'⟩
 keep:=fun i h h' st k=>k it (by simp) _ st
 item:=by
  intro X hP hw hK hc i pins s σ H E I hf st hg
  subst hP hw hK
  obtain ⟨f0,f1,f2,f3,f4,f5⟩:=hf it (by simp)
  have W:=Walks.range (prog:=X.prog) (w:=X.w) (I.ok.hd hc) it lo 1 n
  refine W.item i s _ _ hg st fun v h' tk hv st' kk=>?_
  obtain ⟨t,rfl⟩:=hv
  have I1:Inv X pins σ H { s with heap:=h',toks:=tk }:=I.turned (fun b o hb e=>kk b o (by simpa using hb) e) f0 f1 f3 f4 f5
  refine ⟨_,rfl,go_of (s:={ s with heap:=h',toks:=tk }) (n:="range_iterator") st' rfl rfl (by decide) ⟨.int (lo+i),H,I1,⟨t, ?_⟩,⟨rfl,rfl⟩,st',fun b hb=>(hf b hb).1⟩⟩
  rw [Int.mul_one]
 done:=by
  intro X hP hw hK hc i pins s σ H E I hf st hg
  subst hP hw hK
  obtain ⟨f0,f1,f2,f3,f4,f5⟩:=hf it (by simp)
  exact wpAny_pyNext_range_end (I.ok.hd hc) st (by have:n≤i:=hg; omega) fun h' eb=>⟨rfl,I.turned (t':=s.toks) (fun b o hb e=>eb b o hb e) f0 f1 f3 f4 f5⟩
 self:=fun _ _ _ _ _ st h=>wpAny_pyIter_rangeiter st h
section
variable {X:Cx} {tg:Expr}
noncomputable def iList (K:PySem.W.Frag) (tl:TE):TI:=fun σ H R=>tl σ H fun x H1=>∃ a,x=.ref a∧(∃ xs,SqL K H1 a xs)∧R (Itl K a) H1
noncomputable def iTup (K:PySem.W.Frag) (tl:TE):TI:=fun σ H R=>tl σ H fun x H1=>∃ a,x=.ref a∧(∃ xs,SqT K H1 a xs)∧R (Itt K a) H1
theorem pi_list {l:Expr} {tl:TE} (hl:PE X l tl):PI X tg l (iList X.K tl):=by
 intro pins s σ H R I h
 refine thn (hl pins s σ H _ I h) fun v s1 ⟨x,H1,I1,r1,q1⟩=>?_
 obtain ⟨a,e,⟨xs,hq⟩,q⟩:=q1
 subst e
 cases r1
 obtain ⟨its,rv,p,hz⟩:=I1.list hq
 refine wpAny_pyIter_list p.isList ?_
 refine ⟨s1.heap.objs.size,[s1.heap.objs.size],_,_,H1,rfl,I1.kept (t':=s1.toks) fun b o e=>Heap.get?_push_of_some _ e,turn_list a _,⟨_,Heap.get?_push_size _ rfl,rfl,rfl⟩,fun b hb=>?_,q⟩
 have e:b=s1.heap.objs.size:=by simpa using hb
 subst e
 exact I1.fpOk (Nat.le_refl _) (I1.hok.fresh (Nat.le_refl _))
theorem pi_tup {l:Expr} {tl:TE} (hl:PE X l tl):PI X tg l (iTup X.K tl):=by
 intro pins s σ H R I h
 refine thn (hl pins s σ H _ I h) fun v s1 ⟨x,H1,I1,r1,q1⟩=>?_
 obtain ⟨a,e,⟨xs,hq⟩,q⟩:=q1
 subst e
 cases r1
 obtain ⟨its,rv,p,hz⟩:=I1.tuple hq
 refine wpAny_pyIter_tuple (show s1.heap.IsTuple a its.toArray from p) ?_
 refine ⟨s1.heap.objs.size,[s1.heap.objs.size],_,_,H1,rfl,I1.kept (t':=s1.toks) fun b o e=>Heap.get?_push_of_some _ e,turn_tuple a _,⟨_,Heap.get?_push_size _ rfl,rfl,rfl⟩,fun b hb=>?_,q⟩
 have e:b=s1.heap.objs.size:=by simpa using hb
 subst e
 exact I1.fpOk (Nat.le_refl _) (I1.hok.fresh (Nat.le_refl _))
theorem range_it {pins:List (Addr × Obj)} {σ:St} {H:Hp} {s:Shared} {R:It→Hp→Prop} {E:Value→Shared→Prop} {lo hi:Int} {t u v:Tok} {tk:Nat} (I:Inv X pins σ H s) (h1:-(2 ^ 62)≤lo) (h2:lo<2 ^ 62) (h3:-(2 ^ 62)≤hi) (h4:hi<2 ^ 62)
  (q:R (Itr lo (hi - lo).toNat) H):wpAny (model X.prog X.w) X.A (pyIter (.ref s.heap.objs.size)) (PIE X pins σ tg R) E { s with heap:=s.heap.push { cls:=.type "range",data:=.fields #[.int lo t,.int hi u,.int 1 v] },toks:=tk }:=by
 refine wpAny_pyIter_range (IsRange.new ..) (small_one h1 h2 h3 h4) ?_
 have I1:Inv X pins σ H { s with heap:=s.heap.push { cls:=.type "range",data:=.fields #[.int lo t,.int hi u,.int 1 v] },toks:=tk }:=I.kept fun b o e=>Heap.get?_push_of_some _ e
 refine ⟨(s.heap.push { cls:=.type "range",data:=.fields #[.int lo t,.int hi u,.int 1 v] }).objs.size,[(s.heap.push { cls:=.type "range",data:=.fields #[.int lo t,.int hi u,.int 1 v] }).objs.size],_,_,H,rfl,
  I1.kept (t':=tk) fun b o e=>Heap.get?_push_of_some _ e,turn_range _ lo (hi - lo).toNat, ?_,fun b hb=>?_,q⟩
 ·have e1:lo+((0:Nat):Int)*1=lo:=by simp
  have e2:(((hi - lo).toNat:Nat):Int) - ((0:Nat):Int)=Builtin.Range.rangeSize lo hi 1:=by rw [rangeSize_one]; split <;> omega
  show IsRangeIter _ _ (lo+((0:Nat):Int)*1) ((((hi - lo).toNat:Nat):Int) - ((0:Nat):Int)) 1
  rw [e1,e2]
  exact Heap.get?_push_size _ rfl
 ·have e:b=(s.heap.push { cls:=.type "range",data:=.fields #[.int lo t,.int hi u,.int 1 v] }).objs.size:=by simpa using hb
  subst e
  exact I1.fpOk (Nat.le_refl _) (I1.hok.fresh (Nat.le_refl _))
noncomputable def iRng1 (ta:TA):TI:=fun σ H R=>ta σ H fun vs H1=>∃ j:Int,vs=[.int j]∧-(2 ^ 62)≤j∧j<2 ^ 62∧R (Itr 0 j.toNat) H1
noncomputable def iRng2 (ta:TA):TI:=fun σ H R=>ta σ H fun vs H1=>∃ i j:Int,vs=[.int i,.int j]∧(-(2 ^ 62)≤i∧i<2 ^ 62∧-(2 ^ 62)≤j∧j<2 ^ 62)∧R (Itr i (j - i).toNat) H1
theorem pi_range1 {a:Expr} {ta:TA} {p pos:Pos} (hg:Gl X "range") (hm:X.mg "range"=none) (ha:PA X [a] ta) (hs:starEach [a] X.env=[(false,eval a X.env)]:=by rfl):PI X tg (.Call (.Name "range" p) [a] [] pos) (iRng1 ta):=by
 intro pins s σ H R I h
 refine Call_ (ld_blt I hg hm boot_range (PyProof.Rows.callWith_type1 (thn (ha pos pins s σ H _ I h) fun us s1 ⟨vs,H1,I1,r1,q1⟩=>?_) hs rfl))
 obtain ⟨j,e,q1,q2,q⟩:=q1
 subst e
 cases r1 with
 | cons r rr =>
  cases rr
  obtain ⟨t,rfl⟩:=r
  exact call_range_1 (range_it I1 (by omega) (by omega) q1 q2 (by simpa using q))
theorem pi_range2 {a b:Expr} {ta:TA} {p pos:Pos} (hg:Gl X "range") (hm:X.mg "range"=none) (ha:PA X [a,b] ta) (hs:starEach [a,b] X.env=[(false,eval a X.env),(false,eval b X.env)]:=by rfl) (hs2:starEach [b] X.env=[(false,eval b X.env)]:=by rfl) :
  PI X tg (.Call (.Name "range" p) [a,b] [] pos) (iRng2 ta):=by
 intro pins s σ H R I h
 refine Call_ (ld_blt I hg hm boot_range (PyProof.Rows.callWith_type1 (thn (ha pos pins s σ H _ I h) fun us s1 ⟨vs,H1,I1,r1,q1⟩=>?_) (by rw [hs,hs2]) (by rw [hs2]; rfl)))
 obtain ⟨i,j,e,⟨q1,q2,q3,q4⟩,q⟩:=q1
 subst e
 cases r1 with
 | cons r rr =>
  cases rr with
  | cons r' rr =>
   cases rr
   obtain ⟨t,rfl⟩:=r
   obtain ⟨t',rfl⟩:=r'
   exact call_range_2 (range_it I1 q1 q2 q3 q4 q)
noncomputable def tFor (wi:TI) (g:TG) (tb:TS):TS:=fun D σ H=>wi σ H fun J H1=>∃ W:Nat→Nat→St→Hp→Prop,(∃ m,W 0 m σ H1)∧∀ i m σ H,W i m σ H →
 (J.stop i H∧D.nx σ H)∨(J.go i H∧∃ N:St→Hp→Prop,(∀ σ' H',N σ' H'→∃ m',m'<m∧W (i+1) m' σ' H')∧∀ x H',J.yld i H x H'→g x σ H' fun σ2 H2=>tb { D with nx:=N,ct:=N,bk:=D.nx } σ2 H2)
noncomputable def pinsAt (fp:List Addr) (h:Heap):List (Addr × Obj):=fp.filterMap fun b=>(h.get? b).map fun o=>(b,o)
theorem mem_pinsAt {fp:List Addr} {h:Heap} {b:Addr} {o:Obj} (hb:b∈fp) (e:h.get? b=some o):(b,o)∈pinsAt fp h:=List.mem_filterMap.mpr ⟨b,hb,by rw [e]; rfl⟩
theorem of_pinsAt {fp:List Addr} {h:Heap} {p:Addr × Obj} (hp:p∈pinsAt fp h):p.1∈fp∧h.get? p.1=some p.2:=by
 obtain ⟨b,hb,e⟩:=List.mem_filterMap.mp hp
 cases q:h.get? b with
 | none=>rw [q] at e; cases e
 | some o =>
  rw [q] at e
  have e':(b,o)=p:=Option.some.inj e
  subst e'
  exact ⟨hb,q⟩
theorem Inv.pinned {pins:List (Addr × Obj)} {σ:St} {H:Hp} {s:Shared} {fp:List Addr} (I:Inv X pins σ H s) (hf:∀ b∈fp,FpOk X pins H b) (ho:∀ b∈fp,∃ o,s.heap.get? b=some o∧∀ v,o.data≠.cell v):Inv X (pins ++ pinsAt fp s.heap) σ H s :=
 I.pins_of fun p hp=>(List.mem_append.mp hp).elim (fun z=>I.pin p (List.mem_append_right _ z)) fun z=>by
  obtain ⟨hb,e⟩:=of_pinsAt z
  obtain ⟨f0,f1,f2,_⟩:=hf p.1 hb
  obtain ⟨o,e',d⟩:=ho p.1 hb
  rw [e] at e'; cases e'
  exact ⟨e,f0,f1,f2,d⟩
theorem Inv.unpinned {pins pl:List (Addr × Obj)} {σ:St} {H:Hp} {s:Shared} (I:Inv X (pins ++ pl) σ H s):Inv X pins σ H s:=I.pins_of fun p hp=>I.pin p (List.mem_append_right _ (List.mem_append_left _ hp))
theorem ps_for {iter:Expr} {body:List Stmt} {wi:TI} {g:TG} {tb:TS} {pos:Pos} (hp:PassesOwn (model X.prog X.w) X.A X.env X.xe) (hc:X.calm=true) (hi:PI X tg iter wi) (hg:PG X tg g) (hb:PSs X body tb)
  (hs:∀ x,foldedSetIterable iter X.env x=pure x:=by intro _; rfl):PS X (.For tg iter body [] pos) (tFor wi g tb):=by
 intro pins s σ H D I h
 refine wpAny_For (thn (hi pins s σ H _ I h) fun v s1 h1=>thn h1 fun itv s2 h2=>?_) hs
 obtain ⟨it,fp,tn,J,H2,e,I2,T,st2,f2,W,⟨m0,w0⟩,turn⟩:=h2
 subst e
 -- what stays true of the iterator's objects through the loop
 have stat:∀ {H':Hp},(∀ b∈fp,H' b=none)→∀ b∈fp,FpOk X pins H' b:=fun hn b hb=>⟨hn b hb,(f2 b hb).2⟩
 refine codeAny_forLoop_any (fun n s'=>∃ i σ' H',Inv X pins σ' H' s'∧tn i s'.heap∧(∀ b∈fp,H' b=none)∧W i n σ' H') ?_ m0 ⟨0,σ,H2,I2,st2,fun b hb=>(f2 b hb).1,w0⟩
 rintro n s3 ⟨i,σ3,H3,I3,st3,fr3,w3⟩
 rcases turn i n σ3 H3 w3 with ⟨stop,qn⟩ | ⟨go,N,hN,step⟩
 ·refine wpAny_passesOwn hp (thn (T.done X rfl rfl rfl hc i pins s3 σ3 H3 X.xe I3 (stat fr3) st3 stop) fun r s4 ⟨hr,I4⟩=>?_)
  subst hr
  exact wpAny_execs_nil ⟨σ3,H3,I4,qn⟩
 ·refine wpAny_passesOwn hp (thn (T.item X rfl rfl rfl hc i pins s3 σ3 H3 X.xe I3 (stat fr3) st3 go) fun r s4 ⟨u,hr,h4⟩=>?_)
  subst hr
  refine wpAny_passesOwn hp (thn h4 fun _ s5 ⟨x,H5,I5,r5,y5,st5,fr5⟩=>?_)
  have I5':=I5.pinned (stat fr5) (T.obj _ _ st5)
  refine wpAny_passesOwn hp (thn (hg _ s5 σ3 H5 x u _ I5' r5 (step x H5 y5)) fun _ s6 ⟨σ6,H6,I6,q6⟩=>?_)
  refine wpAny_passesOwn hp (thn (hb _ s6 σ6 H6 _ I6 q6) fun f s7 q7=>?_)
  have again:∀ {σ7:St} {H7:Hp},Inv X (pins ++ pinsAt fp s5.heap) σ7 H7 s7→N σ7 H7→∃ m,m<n∧∃ i σ' H',Inv X pins σ' H' s7∧tn i s7.heap∧(∀ b∈fp,H' b=none)∧W i m σ' H':=fun {σ7 H7} I7 n7=>by
   obtain ⟨m',hm,w7⟩:=hN σ7 H7 n7
   refine ⟨m',hm,i+1,σ7,H7,I7.unpinned,T.keep _ _ _ st5 fun b hb o e=>(I7.pin (b,o) (List.mem_append_right _ (List.mem_append_right _ (mem_pinsAt hb e)))).1,fun b hb=>?_,w7⟩
   obtain ⟨o,e,d⟩:=T.obj _ _ st5 b hb
   exact (I7.pin (b,o) (List.mem_append_right _ (List.mem_append_right _ (mem_pinsAt hb e)))).2.1
  cases f with
  | next=>obtain ⟨σ7,H7,I7,n7⟩:=q7; exact again I7 n7
  | cont=>obtain ⟨σ7,H7,I7,n7⟩:=q7; exact again I7 n7
  | brk=>obtain ⟨σ7,H7,I7,q7⟩:=q7; exact ⟨σ7,H7,I7.unpinned,q7⟩
  | ret v=>obtain ⟨x7,σ7,H7,I7,r7,q7⟩:=q7; exact ⟨x7,σ7,H7,I7.unpinned,r7,q7⟩
end
theorem for_list {K:PySem.W.Frag} {a:Addr} {xs:List V} {g:TG} {tb:TS} {D:Ends} {σ:St} {H:Hp} (Pv:Nat→St→Hp→Prop) (h0:Pv 0 σ H) (hl:∀ i σ H,i≤xs.length→Pv i σ H→SqL K H a xs)
  (hs:∀ i x σ H,xs[i]?=some x→Pv i σ H→g x σ H fun σ2 H2=>tb { D with nx:=Pv (i+1),ct:=Pv (i+1),bk:=D.nx } σ2 H2) (hd:∀ σ H,Pv xs.length σ H→D.nx σ H) :
  ∃ W:Nat→Nat→St→Hp→Prop,(∃ m,W 0 m σ H)∧∀ i m σ H,W i m σ H →
   ((Itl K a).stop i H∧D.nx σ H)∨((Itl K a).go i H∧∃ N:St→Hp→Prop,(∀ σ' H',N σ' H'→∃ m',m'<m∧W (i+1) m' σ' H')∧∀ x H',(Itl K a).yld i H x H'→g x σ H' fun σ2 H2=>tb { D with nx:=N,ct:=N,bk:=D.nx } σ2 H2):=by
 refine ⟨fun i m σ H=>m=xs.length - i∧i≤xs.length∧Pv i σ H,⟨xs.length,by simp,Nat.zero_le _,h0⟩, ?_⟩
 rintro i m σ H ⟨rfl,hi,p⟩
 have q:=hl i σ H hi p
 by_cases hlt:i<xs.length
 ·refine .inr ⟨⟨xs,xs[i],q,by simp [hlt]⟩,Pv (i+1),fun σ' H' p'=>⟨xs.length - (i+1),by omega,rfl,hlt,p'⟩,fun x H' y=>?_⟩
  obtain ⟨e,y⟩:=y
  subst e
  exact hs i x σ _ (y xs q) p
 ·have e:i=xs.length:=by omega
  subst e
  exact .inl ⟨⟨xs,q,Nat.le_refl _⟩,hd σ H p⟩
theorem for_tup {K:PySem.W.Frag} {a:Addr} {xs:List V} {g:TG} {tb:TS} {D:Ends} {σ:St} {H:Hp} (Pv:Nat→St→Hp→Prop) (h0:Pv 0 σ H) (hl:∀ i σ H,i≤xs.length→Pv i σ H→SqT K H a xs)
  (hs:∀ i x σ H,xs[i]?=some x→Pv i σ H→g x σ H fun σ2 H2=>tb { D with nx:=Pv (i+1),ct:=Pv (i+1),bk:=D.nx } σ2 H2) (hd:∀ σ H,Pv xs.length σ H→D.nx σ H) :
  ∃ W:Nat→Nat→St→Hp→Prop,(∃ m,W 0 m σ H)∧∀ i m σ H,W i m σ H →
   ((Itt K a).stop i H∧D.nx σ H)∨((Itt K a).go i H∧∃ N:St→Hp→Prop,(∀ σ' H',N σ' H'→∃ m',m'<m∧W (i+1) m' σ' H')∧∀ x H',(Itt K a).yld i H x H'→g x σ H' fun σ2 H2=>tb { D with nx:=N,ct:=N,bk:=D.nx } σ2 H2):=by
 refine ⟨fun i m σ H=>m=xs.length - i∧i≤xs.length∧Pv i σ H,⟨xs.length,by simp,Nat.zero_le _,h0⟩, ?_⟩
 rintro i m σ H ⟨rfl,hi,p⟩
 have q:=hl i σ H hi p
 by_cases hlt:i<xs.length
 ·refine .inr ⟨⟨xs,xs[i],q,by simp [hlt]⟩,Pv (i+1),fun σ' H' p'=>⟨xs.length - (i+1),by omega,rfl,hlt,p'⟩,fun x H' y=>?_⟩
  obtain ⟨e,y⟩:=y
  subst e
  exact hs i x σ _ (y xs q) p
 ·have e:i=xs.length:=by omega
  subst e
  exact .inl ⟨⟨xs,q,Nat.le_refl _⟩,hd σ H p⟩
theorem for_range {lo:Int} {n:Nat} {g:TG} {tb:TS} {D:Ends} {σ:St} {H:Hp} (Pv:Nat→St→Hp→Prop) (h0:Pv 0 σ H)
  (hs:∀ i σ H,i<n→Pv i σ H→g (.int (lo+i)) σ H fun σ2 H2=>tb { D with nx:=Pv (i+1),ct:=Pv (i+1),bk:=D.nx } σ2 H2) (hd:∀ σ H,Pv n σ H→D.nx σ H) :
  ∃ W:Nat→Nat→St→Hp→Prop,(∃ m,W 0 m σ H)∧∀ i m σ H,W i m σ H →
   ((Itr lo n).stop i H∧D.nx σ H)∨((Itr lo n).go i H∧∃ N:St→Hp→Prop,(∀ σ' H',N σ' H'→∃ m',m'<m∧W (i+1) m' σ' H')∧∀ x H',(Itr lo n).yld i H x H'→g x σ H' fun σ2 H2=>tb { D with nx:=N,ct:=N,bk:=D.nx } σ2 H2):=by
 refine ⟨fun i m σ H=>m=n - i∧i≤n∧Pv i σ H,⟨n,by simp,Nat.zero_le _,h0⟩, ?_⟩
 rintro i m σ H ⟨rfl,hi,p⟩
 by_cases hlt:i<n
 ·refine .inr ⟨hlt,Pv (i+1),fun σ' H' p'=>⟨n - (i+1),by omega,rfl,hlt,p'⟩,fun x H' y=>?_⟩
  obtain ⟨e,y⟩:=y
  subst e y
  exact hs i σ _ hlt p
 ·have e:i=n:=by omega
  subst e
  exact .inl ⟨Nat.le_refl _,hd σ H p⟩
abbrev R2:=V→V→Hp→VK→Prop
def OpR (X:Cx) (f:Value→Value→Sem Value) (r:R2):Prop :=
 ∀ (pins:List (Addr × Obj)) (s:Shared) (σ:St) (H:Hp) (x y:V) (v u:Value) (Q:VK),Inv X pins σ H s→RelV x v→RelV y u→r x y H Q →
  wpAny (model X.prog X.w) X.A (f v u) (EP X pins σ Q) X.xe s
def UnR (X:Cx) (f:Value→Sem Value) (r:V→Hp→VK→Prop):Prop :=
 ∀ (pins:List (Addr × Obj)) (s:Shared) (σ:St) (H:Hp) (x:V) (v:Value) (Q:VK),Inv X pins σ H s→RelV x v→r x H Q →
  wpAny (model X.prog X.w) X.A (f v) (EP X pins σ Q) X.xe s
def CallR (X:Cx) (f:Value) (r:List V→Hp→VK→Prop):Prop :=
 ∀ (pins:List (Addr × Obj)) (s:Shared) (σ:St) (H:Hp) (xs:List V) (us:List Value) (Q:VK),Inv X pins σ H s→Vals xs us→r xs H Q →
  wpAny (model X.prog X.w) X.A (call f us) (EP X pins σ Q) X.xe s
def TruR (X:Cx) (r:V→Hp→(Bool→Hp→Prop)→Prop):Prop :=
 ∀ (pins:List (Addr × Obj)) (s:Shared) (σ:St) (H:Hp) (x:V) (v:Value) (Q:Bool→Hp→Prop),Inv X pins σ H s→RelV x v→r x H Q →
  wpAny (model X.prog X.w) X.A (truthy v) (TP X pins σ Q) X.xe s
noncomputable def tOp (r:R2) (ta tb:TE):TE:=fun σ H Q=>ta σ H fun x H1=>tb σ H1 fun y H2=>r x y H2 Q
noncomputable def tUn (r:V→Hp→VK→Prop) (ta:TE):TE:=fun σ H Q=>ta σ H fun x H1=>r x H1 Q
noncomputable def rI (C:Int→Int→Prop) (g:Int→Int→V):R2:=fun x y H Q=>∃ i j,x=.int i∧y=.int j∧C i j∧Q (g i j) H
noncomputable def rI0 (g:Int→Int→V):R2:=fun x y H Q=>∃ i j,x=.int i∧y=.int j∧Q (g i j) H
def rU (g:Int→V):V→Hp→VK→Prop:=fun x H Q=>∃ i,x=.int i∧Q (g i) H
section
variable {X:Cx} {a b c:Expr} {ta tb tc:TE} {pos:Pos}
theorem binT (ha:PE X a ta) (hb:PE X b tb) {pins:List (Addr × Obj)} {s:Shared} {σ:St} {H:Hp} {R:V→V→Hp→Prop} (I:Inv X pins σ H s)
  (h:ta σ H fun x H1=>tb σ H1 fun y H2=>R x y H2) {Q:Value→Shared→Prop} {f:Value→Value→Sem Value}
  (hf:∀ v u s2 x y H2,Inv X pins σ H2 s2→RelV x v→RelV y u→R x y H2→wpAny (model X.prog X.w) X.A (f v u) Q X.xe s2) :
  wpAny (model X.prog X.w) X.A (eval a X.env) (fun v s₁=>wpAny (model X.prog X.w) X.A (eval b X.env) (fun u s₂=>wpAny (model X.prog X.w) X.A (f v u) Q X.xe s₂) X.xe s₁) X.xe s:=by
 refine thn (ha pins s σ H _ I h) fun v s1 ⟨x,H1,I1,r1,q1⟩=>?_
 refine thn (hb pins s1 σ H1 _ I1 q1) fun u s2 ⟨y,H2,I2,r2,q2⟩=>?_
 exact hf v u s2 x y H2 I2 r1 r2 q2
theorem pe_op {op:Operator} {r:R2} (ho:OpR X (binaryOp op) r) (ha:PE X a ta) (hb:PE X b tb):PE X (.BinOp a op b pos) (tOp r ta tb):=by
 intro pins s σ H Q I h
 exact wpAny_BinOp (binT ha hb I h fun v u s2 x y H2 I2 rx ry q=>ho pins s2 σ H2 x y v u Q I2 rx ry q)
theorem pe_un {op:UnaryOp} {r:V→Hp→VK→Prop} (ho:UnR X (unaryOp op) r) (ha:PE X a ta):PE X (.UnaryOp op a pos) (tUn r ta):=by
 intro pins s σ H Q I h
 exact UnaryOp_ (thn (ha pins s σ H _ I h) fun v s1 ⟨x,H1,I1,r1,q1⟩=>ho pins s1 σ H1 x v Q I1 r1 q1)
theorem opI {f:Value→Value→Sem Value} {C:Int→Int→Prop} {g:Int→Int→Int}
  (rule:∀ (i j:Int) (t u:Tok) (s:Shared) (Q:Value→Shared→Prop) (E:Value→Shared→Prop),C i j→Q (.int (g i j) s.toks) { s with toks:=s.toks+1 }→wpAny (model X.prog X.w) X.A (f (.int i t) (.int j u)) Q E s) :
  OpR X f (rI C fun i j=>.int (g i j)):=by
 intro pins s σ H x y v u Q I rx ry h
 obtain ⟨i,j,rfl,rfl,hc,q⟩:=h
 obtain ⟨t,rfl⟩:=rx
 obtain ⟨t',rfl⟩:=ry
 exact rule i j t t' s _ _ hc ⟨.int (g i j),H,I.tok _,⟨_,rfl⟩,q⟩
theorem opI0 {f:Value→Value→Sem Value} {g:Int→Int→Int}
  (rule:∀ (i j:Int) (t u:Tok) (s:Shared) (Q:Value→Shared→Prop) (E:Value→Shared→Prop),Q (.int (g i j) s.toks) { s with toks:=s.toks+1 }→wpAny (model X.prog X.w) X.A (f (.int i t) (.int j u)) Q E s) :
  OpR X f (rI0 fun i j=>.int (g i j)):=by
 intro pins s σ H x y v u Q I rx ry h
 obtain ⟨i,j,rfl,rfl,q⟩:=h
 obtain ⟨t,rfl⟩:=rx
 obtain ⟨t',rfl⟩:=ry
 exact rule i j t t' s _ _ ⟨.int (g i j),H,I.tok _,⟨_,rfl⟩,q⟩
theorem opB0 {f:Value→Value→Sem Value} {g:Int→Int→Bool}
  (rule:∀ (i j:Int) (t u:Tok) (s:Shared) (Q:Value→Shared→Prop) (E:Value→Shared→Prop),Q (.bool (g i j)) s→wpAny (model X.prog X.w) X.A (f (.int i t) (.int j u)) Q E s) :
  OpR X f (rI0 fun i j=>.bl (g i j)):=by
 intro pins s σ H x y v u Q I rx ry h
 obtain ⟨i,j,rfl,rfl,q⟩:=h
 obtain ⟨t,rfl⟩:=rx
 obtain ⟨t',rfl⟩:=ry
 exact rule i j t t' s _ _ ⟨.bl (g i j),H,I,rfl,q⟩
def CPow (i j:Int):Prop:=0≤j∧j≤1000000∧i.natAbs<2 ^ 64
def CMul (i j:Int):Prop:=(-(2 ^ 64)<i∧i<2 ^ 64)∨(-(2 ^ 64)<j∧j<2 ^ 64)
theorem CMul.ok {i j:Int} (h:CMul i j):IntMulOk i j:=by
 rcases h with ⟨h1,h2⟩ | ⟨h1,h2⟩
 ·exact .of_left (intBits_le_64 h1 h2)
 ·exact .of_right (intBits_le_64 h1 h2)
theorem two_pow_nn (k:Nat):(0:Int)≤2 ^ k:=by
 rw [two_pow_cast]
 exact Int.natCast_nonneg _
theorem op_add:OpR X (binaryOp .Add) (rI0 fun i j=>.int (i+j)):=opI0 fun _ _ _ _ _ _ _ q=>add_int q
theorem op_sub:OpR X (binaryOp .Sub) (rI0 fun i j=>.int (i - j)):=opI0 fun _ _ _ _ _ _ _ q=>sub_int q
theorem op_mul:OpR X (binaryOp .Mult) (rI CMul fun i j=>.int (i*j)):=opI fun _ _ _ _ _ _ _ hc q=>mul_int q hc.ok
theorem op_mod:OpR X (binaryOp .Mod) (rI (fun _ j=>0<j) fun i j=>.int (i % j)):=opI fun i j _ _ _ _ _ hc q=>by
 have h1:(0:Int)<j:=hc
 exact mod_int' (by omega) (by rw [Int.fmod_eq_emod_of_nonneg i (by omega)]; exact q)
theorem op_shl:OpR X (binaryOp .LShift) (rI CPow fun i j=>.int (i*2 ^ j.toNat)):=opI fun _ _ _ _ _ _ _ hc q=>lshift_int_small hc.1 hc.2.1 hc.2.2 q
theorem op_shr:OpR X (binaryOp .RShift) (rI (fun _ j=>0≤j) fun i j=>.int (i / 2 ^ j.toNat)):=opI fun i j _ _ _ _ _ hc q =>
 rshift_int hc (by rw [Int.fdiv_eq_ediv_of_nonneg i (two_pow_nn _)]; exact q)
theorem op_and:OpR X (binaryOp .BitAnd) (rI0 fun i j=>.int (Builtin.bitAnd i j)):=opI0 fun _ _ _ _ _ _ _ q=>and_int q
theorem op_or:OpR X (binaryOp .BitOr) (rI0 fun i j=>.int (Builtin.bitOr i j)):=opI0 fun _ _ _ _ _ _ _ q=>or_int q
theorem unI {f:Value→Sem Value} {g:Int→Int}
  (rule:∀ (i:Int) (t:Tok) (s:Shared) (Q:Value→Shared→Prop) (E:Value→Shared→Prop),Q (.int (g i) s.toks) { s with toks:=s.toks+1 }→wpAny (model X.prog X.w) X.A (f (.int i t)) Q E s) :
  UnR X f (rU fun i=>.int (g i)):=by
 intro pins s σ H x v Q I rx h
 obtain ⟨i,rfl,q⟩:=h
 obtain ⟨t,rfl⟩:=rx
 exact rule i t s _ _ ⟨.int (g i),H,I.tok _,⟨_,rfl⟩,q⟩
theorem un_neg:UnR X (unaryOp .USub) (rU fun i=>.int (-i)):=unI fun _ _ _ _ _ q=>neg_int q
end
section
variable {X:Cx} {a b c:Expr} {ta tb tc:TE} {pos:Pos}
theorem fin_bl {pins:List (Addr × Obj)} {σ:St} {H:Hp} {s:Shared} {Q:VK} {k k':Bool} (I:Inv X pins σ H s) (q:Q (.bl k) H) (e:k=k'):EP X pins σ Q (.bool k') s:=by
 subst e
 exact ⟨.bl k,H,I,rfl,q⟩
theorem op_lt:OpR X (compareOp .Lt) (rI0 fun i j=>.bl (decide (i<j))):=opB0 fun _ _ _ _ _ _ _ q=>lt_int q
theorem op_le:OpR X (compareOp .LtE) (rI0 fun i j=>.bl (decide (i≤j))):=opB0 fun _ _ _ _ _ _ _ q=>le_int q
theorem op_gt:OpR X (compareOp .Gt) (rI0 fun i j=>.bl (decide (j<i))):=opB0 fun _ _ _ _ _ _ _ q=>gt_int q
theorem op_ge:OpR X (compareOp .GtE) (rI0 fun i j=>.bl (decide (j≤i))):=opB0 fun _ _ _ _ _ _ _ q=>ge_int q
theorem op_in_str:OpR X (compareOp .In) (fun x y H Q=>∃ i j,x=.str i∧y=.str j∧Q (.bl (!(Builtin.Str.occurrences j i 0 j.length 1).isEmpty)) H):=by
 intro pins s σ H x y v u Q I rx ry h
 obtain ⟨i,j,rfl,rfl,q⟩:=h
 obtain ⟨t,rfl⟩:=rx
 obtain ⟨t',rfl⟩:=ry
 exact in_str (fin_bl I q rfl)
theorem op_isN:OpR X (compareOp .Is) (fun x y H Q=>y=.non∧Q (.bl (decide (x=.non))) H):=by
 intro pins s σ H x y v u Q I rx ry h
 obtain ⟨rfl,q⟩:=h
 cases ry
 refine is_none_gen (fin_bl I q ?_)
 cases x <;> first
  | (cases rx; rfl)
  | (obtain ⟨t,rfl⟩:=rx; rfl)
theorem op_notN:OpR X (compareOp .IsNot) (fun x y H Q=>y=.non∧Q (.bl (!decide (x=.non))) H):=by
 intro pins s σ H x y v u Q I rx ry h
 obtain ⟨rfl,q⟩:=h
 cases ry
 refine isnot_none_gen (fin_bl I q ?_)
 cases x <;> first
  | (cases rx; rfl)
  | (obtain ⟨t,rfl⟩:=rx; rfl)
theorem pe_cmpR {op:CmpOp} {r:R2} (ho:OpR X (compareOp op) r) (ha:PE X a ta) (hb:PE X b tb) (hm:behindInMarks op b=false):PE X (.Compare a [op] [b] pos) (tOp r ta tb):=by
 intro pins s σ H Q I h
 exact wpAny_Compare1 (binT ha hb I h fun v u s2 x y H2 I2 rx ry q=>ho pins s2 σ H2 x y v u Q I2 rx ry q) hm
noncomputable def tTest (t:TE):TT:=fun σ H Q=>t σ H fun x H'=>∃ k,x=.bl k∧Q k H'
theorem pt_cmpR {op:CmpOp} {r:R2} (ho:OpR X (compareOp op) r) (ha:PE X a ta) (hb:PE X b tb) (hm:behindInMarks op b=false):PT X (.Compare a [op] [b] pos) (tTest (tOp r ta tb)):=by
 intro pins s σ H Q I h
 refine wpAny_isTrue_Compare1 (thn (ha pins s σ H _ I h) fun v s1 ⟨x,H1,I1,r1,q1⟩=>thn (hb pins s1 σ H1 _ I1 q1) fun u s2 ⟨y,H2,I2,r2,q2⟩ =>
  thn (ho pins s2 σ H2 x y v u _ I2 r1 r2 q2) fun c s3 ⟨z,H3,I3,r3,k,e,q3⟩=>?_) hm
 subst e
 cases r3
 exact wpAny_truthy_bool ⟨H3,I3,q3⟩
noncomputable def tChain (r r':R2) (ta tb tc:TE):TE:=fun σ H Q=>ta σ H fun x H1=>tb σ H1 fun y H2=>r x y H2 fun z H3=>∃ k,z=.bl k ∧
 (if k=true then tc σ H3 fun w' H4=>r' y w' H4 Q else Q (.bl false) H3)
theorem pe_chain {op op':CmpOp} {r r':R2} (ho:OpR X (compareOp op) r) (ho':OpR X (compareOp op') r') (ha:PE X a ta) (hb:PE X b tb) (hc:PE X c tc)
  (hm:lastMarks [op,op'] [b,c]=false:=by with_unfolding_all rfl):PE X (.Compare a [op,op'] [b,c] pos) (tChain r r' ta tb tc):=by
 intro pins s σ H Q I h
 refine Compare_chain (thn (ha pins s σ H _ I h) fun v s1 ⟨x,H1,I1,r1,q1⟩=>chain_link (thn (hb pins s1 σ H1 _ I1 q1) fun u s2 ⟨y,H2,I2,r2,q2⟩ =>
  thn (ho pins s2 σ H2 x y v u _ I2 r1 r2 q2) fun d s3 ⟨z,H3,I3,r3,k,e,q3⟩=>?_)) hm
 subst e
 cases r3
 refine wpAny_truthy_bool ?_
 cases k with
 | false=>exact ite_ff ⟨.bl false,H3,I3,rfl,q3⟩
 | true=>exact ite_tt (chain_last (thn (hc pins s3 σ H3 _ I3 q3) fun w' s4 ⟨z',H4,I4,r4,q4⟩=>ho' pins s4 σ H4 y z' u w' Q I4 r2 r4 q4))
theorem pt_chain {op op':CmpOp} {r r':R2} (ho:OpR X (compareOp op) r) (ho':OpR X (compareOp op') r') (ha:PE X a ta) (hb:PE X b tb) (hc:PE X c tc)
  (hm:lastMarks [op,op'] [b,c]=false:=by with_unfolding_all rfl):PT X (.Compare a [op,op'] [b,c] pos) (tTest (tChain r r' ta tb tc)):=by
 intro pins s σ H Q I h
 refine isTrue_chain (thn (ha pins s σ H _ I h) fun v s1 ⟨x,H1,I1,r1,q1⟩=>test_link (thn (hb pins s1 σ H1 _ I1 q1) fun u s2 ⟨y,H2,I2,r2,q2⟩ =>
  thn (ho pins s2 σ H2 x y v u _ I2 r1 r2 q2) fun d s3 ⟨z,H3,I3,r3,k,e,q3⟩=>?_)) hm
 subst e
 cases r3
 refine wpAny_truthy_bool ?_
 cases k with
 | false =>
  obtain ⟨k',e',q'⟩:=q3
  cases e'
  exact ite_ff ⟨H3,I3,q'⟩
 | true =>
  refine ite_tt (test_last (thn (hc pins s3 σ H3 _ I3 q3) fun w' s4 ⟨z',H4,I4,r4,q4⟩=>thn (ho' pins s4 σ H4 y z' u w' _ I4 r2 r4 q4) fun d' s5 ⟨z2,H5,I5,r5,k2,e2,q5⟩=>?_))
  subst e2
  cases r5
  exact wpAny_truthy_bool ⟨H5,I5,q5⟩
def TruV (K:PySem.W.Frag) (x:V) (H:Hp) (k:Bool):Prop :=
 match x with
 | .non=>k=false
 | .bl b=>k=b
 | .int i=>k=(i != 0)
 | .str y=>y.length≤sizeLine∧k=((y.length:Int) != 0)
 | .byt y=>y.size≤sizeLine∧k=((y.size:Int) != 0)
 | .ref p=>(∃ xs,SqL K H p xs∧k=!xs.isEmpty)∨(∃ xs,SqT K H p xs∧k=!xs.isEmpty)∨∃ kvs,H p=some (.dK kvs)∧k=!kvs.isEmpty
 | _=>False
theorem isEmpty_kv {κ:Type} {kvs:List (κ × V)} {vs:List (κ × Value)} (r:KV kvs vs):(!vs.isEmpty)=!kvs.isEmpty:=by
 cases r <;> rfl
theorem isEmpty_of {xs:List V} {its:List Value} (r:Vals xs its):(!its.toArray.isEmpty)=!xs.isEmpty:=by
 cases r <;> simp
theorem line63:(sizeLine:Nat)<2 ^ 63:=by rw [sizeLine_eq]; decide
theorem tru_ok:TruR X (fun x H Q=>∃ k,TruV X.K x H k∧Q k H):=by
 intro pins s σ H x v Q I rx h
 obtain ⟨k,e,q⟩:=h
 have hl:=line63
 have hs:sizeLine=16777216:=sizeLine_eq
 cases x with
 | non =>
  cases rx
  have e':k=false:=e
  subst e'
  exact truthy_none ⟨H,I,q⟩
 | bl b =>
  cases rx
  have e':k=b:=e
  subst e'
  exact wpAny_truthy_bool ⟨H,I,q⟩
 | int i =>
  obtain ⟨t,rfl⟩:=rx
  have e':k=(i != 0):=e
  subst e'
  exact PySem.P.truthy_int ⟨H,I,q⟩
 | str y =>
  obtain ⟨t,rfl⟩:=rx
  obtain ⟨hy,e'⟩:y.length≤sizeLine∧k=((y.length:Int) != 0):=e
  subst e'
  exact PySem.P.truthy_str (by omega) ⟨H,I.tok _,q⟩
 | byt y =>
  obtain ⟨t,rfl⟩:=rx
  obtain ⟨hy,e'⟩:y.size≤sizeLine∧k=((y.size:Int) != 0):=e
  subst e'
  exact PySem.W.truthy_bytes (by omega) ⟨H,I.tok _,q⟩
 | ref p =>
  cases rx
  have e':(∃ xs,SqL X.K H p xs∧k=!xs.isEmpty)∨(∃ xs,SqT X.K H p xs∧k=!xs.isEmpty)∨∃ kvs,H p=some (.dK kvs)∧k=!kvs.isEmpty:=e
  rcases e' with ⟨xs,hx,e'⟩ | ⟨xs,hx,e'⟩ | ⟨kvs,hx,e'⟩
  ·subst e'
   obtain ⟨its,r,pl,hz⟩:=I.list hx
   have hlen:=r.length
   exact wpAny_truthy_list pl.isList (by simp only [List.size_toArray]; omega) ⟨H,I.tok _,by rw [isEmpty_of r]; exact q⟩
  ·subst e'
   obtain ⟨its,r,pl,hz⟩:=I.tuple hx
   have hlen:=r.length
   exact truthy_tuple pl (by simp only [List.size_toArray]; omega) ⟨H,I.tok _,by rw [isEmpty_of r]; exact q⟩
  ·subst e'
   obtain ⟨hz,hS,vs,r,m⟩:kvs.length≤sizeLine∧(p == sysModules)=false∧∃ vs,KV kvs vs∧s.heap.DictOf (mixKind X.prog X.w) p vs:=I.hok p _ hx
   have hlen:kvs.length=vs.length:=Paired.length r
   exact wpAny_truthy_dict hS m (by omega) ⟨H,I.tok _,by rw [isEmpty_kv r]; exact q⟩
 | _=>exact (show False from e).elim
theorem pt_truth (ha:PE X a ta) (he:∀ whole,isTrue a X.env whole=(do let v ← whole; standAt a.pos; holding [v] (truthy v))) :
  PT X a (fun σ H Q=>ta σ H fun x H'=>∃ k,TruV X.K x H' k∧Q k H'):=by
 intro pins s σ H Q I h
 exact isTrue_plain (thn (ha pins s σ H _ I h) fun v s1 ⟨x,H1,I1,r1,q1⟩=>tru_ok pins s1 σ H1 x v Q I1 r1 q1) (he _)
theorem op_add_str:OpR X (binaryOp .Add) (fun x y H Q=>∃ i j,x=.str i∧y=.str j∧i.length+j.length≤sizeLine∧Q (.str (i ++ j)) H):=by
 intro pins s σ H x y v u Q I rx ry h
 obtain ⟨i,j,rfl,rfl,hz,q⟩:=h
 obtain ⟨t,rfl⟩:=rx
 obtain ⟨t',rfl⟩:=ry
 exact add_str (fun t' tk=>⟨.str (i ++ j),H,I.tok _,⟨_,rfl⟩,q⟩) hz
theorem vals1 {x:V} {us:List Value} (r:Vals [x] us):∃ u,us=[u]∧RelV x u:=by
 cases r with
 | cons r1 r2=>cases r2; exact ⟨_,rfl,r1⟩
theorem vals2 {x y:V} {us:List Value} (r:Vals [x,y] us):∃ u w',us=[u,w']∧RelV x u∧RelV y w':=by
 cases r with
 | cons r1 r2 =>
  cases r2 with
  | cons r3 r4=>cases r4; exact ⟨_,_,rfl,r1,r3⟩
theorem call_abs:CallR X (.builtin "abs") (fun xs H Q=>∃ i,xs=[.int i]∧Q (.int (if i<0 then -i else i)) H):=by
 intro pins s σ H xs us Q I r h
 obtain ⟨i,rfl,q⟩:=h
 obtain ⟨u,rfl,t,rfl⟩:=vals1 r
 exact call_abs_int fun u tk=>⟨.int (if i<0 then -i else i),H,I.tok _,⟨_,rfl⟩,q⟩
theorem call_int1:CallR X (.type "int") (fun xs H Q=>(∃ i,xs=[.int i]∧Q (.int i) H)∨∃ k,xs=[.bl k]∧Q (.int (if k then 1 else 0)) H):=by
 intro pins s σ H xs us Q I r h
 rcases h with ⟨i,rfl,q⟩ | ⟨k,rfl,q⟩
 ·obtain ⟨u,rfl,t,rfl⟩:=vals1 r
  exact call_int_int ⟨.int i,H,I,⟨_,rfl⟩,q⟩
 ·obtain ⟨u,rfl,r1⟩:=vals1 r
  cases r1
  exact call_int_bool ⟨.int (if k then 1 else 0),H,I.tok _,⟨_,rfl⟩,q⟩
theorem call_str_int:CallR X (.type "str") (fun xs H Q=>∃ i,xs=[.int i]∧i.natAbs.log2<1920∧Q (.str (toString i)) H):=by
 intro pins s σ H xs us Q I r h
 obtain ⟨i,rfl,hz,q⟩:=h
 obtain ⟨u,rfl,t,rfl⟩:=vals1 r
 exact PySem.P.str_of_int hz ⟨.str _,H,I.tok _,⟨_,rfl⟩,q⟩
end
structure ObjM (h:Heap) (x dx C:Addr) (mA:Str→Option Value):Prop where
 obj:h.get? x=some (PySem.W.instObj C dx)
 ns:h.Ns1 dx mA
 ne:dx≠x
section
variable {prog:Program} {w:World} {A:Around} {E:Value→Shared→Prop} {s:Shared} {K:PySem.W.Frag} {x dx C f:Addr} {mA:Str→Option Value} {name:Str} {v:Value}
end
section
variable {P:Program} {w:World} {H H':Hp} {h h':Heap} {a C dx:Addr} {fs fs':List (Str × V)}
end
structure Cls (K:PySem.W.Frag) (C:Addr):Prop where
 pg:PySem.W.plainGet K C Str.empty=true
 hd:PySem.W.hasDictIn K C=true
 po:PySem.W.plainOver K C=true
 sa:PySem.W.findIn K (.ref C) "__setattr__"=some (some (.builtin "object.__setattr__"))
theorem Cls.get {K:PySem.W.Frag} {C:Addr} (c:Cls K C) (f:Str):PySem.W.plainGet K C f=true:=c.pg
def NoAttr (K:PySem.W.Frag) (C:Addr) (f:Str):Prop:=PySem.W.findIn K (.ref C) f=some none
structure Con (K:PySem.W.Frag) (C:Addr) (f:Str) (v:V) (u:Value):Prop where
 at_:PySem.W.findIn K (.ref C) f=some (some u)
 rel:RelV v u
 get:PySem.W.specialIn K u "__get__"=some none
 cp:PySem.W.copiedNames.contains f=false
structure Meth (K:PySem.W.Frag) (C:Addr) (m:Str) (f:Addr):Prop where
 at_:PySem.W.findIn K (.ref C) m=some (some (.ref f))
 fn:PySem.W.isFn K (.ref f)=true
 kp:PySem.W.keepIn K (.ref f)=true
section
variable {X:Cx} {pins:List (Addr × Obj)} {σ:St} {H:Hp} {s:Shared} {a C dx:Addr} {fs:List (Str × V)} {f:Str} {v:V} {A:Around} {E:Value→Shared→Prop}
theorem Inv.made (I:Inv X pins σ H s):Inv X pins σ (upd (upd H s.heap.objs.size (.own (s.heap.objs.size+1))) (s.heap.objs.size+1) (.ins C s.heap.objs.size []))
  { s with heap:=(s.heap.push PySem.W.emptyDict).push (PySem.W.instObj C s.heap.objs.size) }:=by
 have e1:(s.heap.push PySem.W.emptyDict).get? s.heap.objs.size=some PySem.W.emptyDict:=Heap.get?_push_size s.heap rfl
 have e2:((s.heap.push PySem.W.emptyDict).push (PySem.W.instObj C s.heap.objs.size)).get? (s.heap.objs.size+1)=some (PySem.W.instObj C s.heap.objs.size):=by
  have:=Heap.get?_push_size (s.heap.push PySem.W.emptyDict) (o:=PySem.W.instObj C s.heap.objs.size) rfl
  rwa [Heap.size_push] at this
 have e3:(s.heap.push PySem.W.emptyDict).Ns s.heap.objs.size (fun _=>none):=⟨PySem.W.emptyDict,#[],_,e1,rfl,(fun e he=>absurd he (by simp)),fun _=>rfl⟩
 have I1:=I.laid (a:=s.heap.objs.size) (o:=.own (s.heap.objs.size+1)) (h':=s.heap.push PySem.W.emptyDict) (t':=s.toks) (fun b u q=>Heap.get?_push_of_some _ q) (Nat.le_refl _) ⟨_,e1⟩
 refine I1.laid (a:=s.heap.objs.size+1) (o:=.ins C s.heap.objs.size []) (t':=s.toks) (fun b u q=>Heap.get?_push_of_some _ q) (Nat.le_of_eq (Heap.size_push _ _)) ?_
 have ne:s.heap.objs.size≠s.heap.objs.size+1:=Nat.ne_of_lt (Nat.lt_succ_self _)
 refine ⟨by rw [upd_ne ne,upd_same],Nat.zero_le _,ne,e2,fun _=>none,(Heap.Ns1.of_empty e3).at fun o q=>Heap.get?_push_of_some _ q,fun _=>True.intro,fun y hy=>absurd rfl hy⟩
end
section
variable {X:Cx} {o e value:Expr} {f:Str} {pos pos' tpos:Pos} {ta tv:TE}
end
section
variable {X:Cx} {pins:List (Addr × Obj)} {σ:St} {H:Hp} {s:Shared} {A:Around} {E:Value→Shared→Prop} {Q:Value→Shared→Prop} {c:Value} {b:Bool}
inductive TyOf (K:PySem.W.Frag) (H:Hp):V→Value→Prop where
 | non:TyOf K H .non (.type "NoneType")
 | bl (x:Bool):TyOf K H (.bl x) (.type "bool")
 | int (i:Int):TyOf K H (.int i) (.type "int")
 | str (x:Str):TyOf K H (.str x) (.type "str")
 | flt (x:UInt64):TyOf K H (.flt x) (.type "float")
 | lst {a:Addr} {xs:List V} (e:H a=some (.lst xs)):TyOf K H (.ref a) (.type "list")
 | frz {a:Addr} {o:Obj} {xs:List V} (e:H a=some (.frz o (.lst xs))):TyOf K H (.ref a) (.type "list")
 | tup {a:Addr} {xs:List V} (e:H a=some (.tup xs)):TyOf K H (.ref a) (.type "tuple")
 | dK {a:Addr} {kvs:List (Key × V)} (e:H a=some (.dK kvs)):TyOf K H (.ref a) (.type "dict")
 | dT {a:Addr} {kvs:List (List Key × V)} (e:H a=some (.dT kvs)):TyOf K H (.ref a) (.type "dict")
 | ins {a C dx:Addr} {fs:List (Str × V)} (e:H a=some (.ins C dx fs)) (cl:Cls K C) (ha:PySem.W.findIn K (.ref C) "__class__"=some (some (.builtin "object.__class__")))
   (hn:PySem.W.specialIn K (.builtin "object.__class__") "__get__"=some (some (.builtin "getset_descriptor.__get__"))) (htk:PySem.W.takesIn K (.builtin "object.__class__")=some true)
   (hm:PySem.W.mroIn K C (.type "object")=some true):TyOf K H (.ref a) (.ref C)
end
structure Room (k:Nat) (A:Around):Prop where
 hd:A.handled=none
 dp:A.depth+3*k+5<recursionLimit
 un:A.units+16*k+200<cLine
 gs:A.guards=some []
theorem Room.mono {j k:Nat} {A:Around} (r:Room k A) (h:j≤k):Room j A:=⟨r.hd,by have:=r.dp; omega,by have:=r.un; omega,by first | exact r.gs | simpa [Around.deeper,Around.under,Code.guards,Code.isGuard,pushGuards,guardIds] using r.gs⟩
theorem Room.deeper {k:Nat} {A:Around} (r:Room (k+1) A) (env:Env):Room k (A.deeper env) :=
 ⟨r.hd,by have:=r.dp; show A.depth+1+3*k+5<_; omega,by have:=r.un; show A.units+3+16*k+200<_; omega,by first | exact r.gs | simpa [Around.deeper,Around.under,Code.guards,Code.isGuard,pushGuards,guardIds] using r.gs⟩
theorem make_depth {A:Around} {C:Addr} {us:List Value} {kw:List (Str × Value)}:(A.under (.builtin "type.__call__" ⟨.ref C :: us,kw⟩)).depth=A.depth+1:=by
 first | rfl | simp [Around.under,Code.weight,Code.isCreation,Code.isGuard,Code.isCaller,Code.frames,Code.isFrame,guardIds]
theorem make_units {A:Around} {C:Addr} {us:List Value} {kw:List (Str × Value)}:(A.under (.builtin "type.__call__" ⟨.ref C :: us,kw⟩)).units=A.units+1:=by
 first | rfl | simp [Around.under,Code.cUnits,Code.frames,Code.isFrame]
theorem Room.make {k:Nat} {A:Around} (r:Room (k+1) A) (C:Addr) (us:List Value) (kw:List (Str × Value)):Room k (A.under (.builtin "type.__call__" ⟨.ref C :: us,kw⟩)) :=
 ⟨r.hd,by have:=r.dp; rw [make_depth]; omega,by have:=r.un; rw [make_units]; omega,by first | exact r.gs | simpa [Around.deeper,Around.under,Code.guards,Code.isGuard,pushGuards,guardIds] using r.gs⟩
theorem Room.depth {k:Nat} {A:Around} (r:Room k A):A.depth<recursionLimit:=by have:=r.dp; omega
theorem Room.units {k:Nat} {A:Around} (r:Room k A):A.units+64<cLine:=by have:=r.un; omega
noncomputable def tNil:TA:=fun _ H Q=>Q [] H
noncomputable def tCons (ta:TE) (tr:TA):TA:=fun σ H Q=>ta σ H fun x H1=>tr σ H1 fun xs H2=>Q (x :: xs) H2
section
variable {X:Cx} {e:Expr} {es:List Expr} {te:TE} {t:TA} {pos:Pos}
theorem pa_nil:PA X [] tNil:=fun _ _ _ _ H Q I h=>Calls.spliced_nil ⟨[],H,I,.nil,h⟩
theorem pa_cons (ha:PE X e te) (hr:PA X es t) (hs:starEach (e :: es) X.env=(false,eval e X.env) :: starEach es X.env:=by rfl):PA X (e :: es) (tCons te t):=by
 intro pos pins s σ H Q I h
 rw [hs]
 show wpAny _ _ (spliced ((false,eval e X.env) :: backTo pos (starEach es X.env))) _ _ s
 refine Calls.spliced_cons (thn (ha pins s σ H _ I h) fun u s1 ⟨x,H1,I1,r1,q1⟩=>?_)
 exact thn (hr pos pins s1 σ H1 _ I1 q1) fun us s2 ⟨xs,H2,I2,r2,q2⟩=>⟨x :: xs,H2,I2,.cons r1 r2,q2⟩
noncomputable def tTup (t:TA):TE:=fun σ H Q=>t σ H fun xs H1=>xs.length≤sizeLine∧∀ p,H1 p=none→Q (.ref p) (upd H1 p (.tup xs))
noncomputable def tLst (t:TA):TE:=fun σ H Q=>t σ H fun xs H1=>xs.length≤sizeLine∧∀ p,H1 p=none→Q (.ref p) (upd H1 p (.lst xs))
theorem pe_tup {x1} (h:PA X es t):PE X (.Tuple es x1 pos) (tTup t):=by
 intro pins s σ H Q I hq
 refine wpAny_Tuple_spliced (thn (h pos pins s σ H _ I hq) fun us s1 ⟨xs,H1,I1,r,z,q⟩=>⟨by rw [← r.length]; exact z, ?_⟩)
 have hf:H1 s1.heap.objs.size=none:=I1.hok.fresh (Nat.le_refl _)
 refine ⟨.ref s1.heap.objs.size,upd H1 s1.heap.objs.size (.tup xs),I1.laid (t':=s1.toks) (fun b u e=>Heap.get?_push_of_some _ e) (Nat.le_refl _) ?_,rfl,q _ hf⟩
 exact ⟨z,us,r,⟨_,Heap.get?_push_size _ rfl,rfl,_,rfl⟩⟩
theorem pe_lst (h:PA X es t):PE X (.List es pos) (tLst t):=by
 intro pins s σ H Q I hq
 refine wpAny_List_spliced (thn (h pos pins s σ H _ I hq) fun us s1 ⟨xs,H1,I1,r,z,q⟩=>⟨by rw [← r.length]; exact z, ?_⟩)
 have hf:H1 s1.heap.objs.size=none:=I1.hok.fresh (Nat.le_refl _)
 refine ⟨.ref s1.heap.objs.size,upd H1 s1.heap.objs.size (.lst xs),I1.laid (t':=s1.toks) (fun b u e=>Heap.get?_push_of_some _ e) (Nat.le_refl _) ?_,rfl,q _ hf⟩
 exact ⟨z,us,0,r,Heap.get?_push_size _ rfl⟩
end
abbrev Sp:=List V→Hp→VK→XK→Prop
abbrev CXT:=List Env→Hp→Shared→XK→Value→Shared→Prop
structure Env0 (P:Program) (w:World) (K:PySem.W.Frag) (mg:Str→Option Value) (base:Heap) (A:Around) (outer:List Env) (s:Shared) (H:Hp):Prop where
 frames:A.frames=some outer
 mod:Mod K mg base
 bs:∀ b o,base.get? b=some o→s.heap.get? b=some o∧H b=none
 bsz:base.objs.size≤s.heap.objs.size
 funs:s.heap.FunFrames base outer
 frf:∀ b∈frs outer,H b=none
 hok:HOk P w H s.heap
 bare:AllBare s.gens
def CE (outer:List Env) (P:Program) (w:World) (H:Hp) (s:Shared) (Q:VK) (u:Value) (s':Shared):Prop :=
 ∃ v H',s'.os=s.os∧AllBare s'.gens∧Un (frs outer) [] H H' s.heap s'.heap∧HOk P w H' s'.heap∧RelV v u∧Q v H'
def CR (CX:CXT) (outer:List Env) (P:Program) (w:World) (H:Hp) (s:Shared) (Q:VK) (E:XK) (r:Result) (s':Shared):Prop :=
 match r with
 | .ok (.ret u)=>CE outer P w H s Q u s'
 | .ok _=>False
 | .error e=>CX outer H s E e s'
structure FnOk (P:Program) (w:World) (K:PySem.W.Frag) (mg:Str→Option Value) (base:Heap) (CX:CXT) (k:Nat) (f:Addr) (fd:FuncData) (ps:List Str) (sp:Sp):Prop where
 len:∀ vs H Q E,sp vs H Q E→vs.length=ps.length
 run:∀ (A:Around) (outer:List Env) (s:Shared) (H:Hp) (args:Args) (us:List Value) (vs:List V) (Q:VK) (E:XK),Room k A→Env0 P w K mg base A outer s H→BindsTo s fd args (ps.zip us)→Vals vs us→sp vs H Q E →
  codeAny (model P w) A (.call (.ref f) args) (CR CX outer P w H s Q E) s
theorem Env0.make {P:Program} {w:World} {K:PySem.W.Frag} {mg:Str→Option Value} {base:Heap} {A:Around} {outer:List Env} {s:Shared} {H:Hp} (e:Env0 P w K mg base A outer s H) (C:Addr) (us:List Value) (kw:List (Str × Value)) :
  Env0 P w K mg base (A.under (.builtin "type.__call__" ⟨.ref C :: us,kw⟩)) outer s H:=⟨by first | exact e.frames | (simpa [Around.under,Code.envs,Code.isFrame,pushEnvs] using e.frames),e.mod,e.bs,e.bsz,e.funs,e.frf,e.hok,e.bare⟩
section
variable {X:Cx} {pins:List (Addr × Obj)} {σ:St} {H:Hp} {s s':Shared}
theorem Inv.env0 (I:Inv X pins σ H s):Env0 X.prog X.w X.K X.mg X.base X.A X.stack s H :=
 ⟨I.ok.frames,I.ok.mod,I.bs,Nat.le_trans I.ok.bsz I.sz,I.stack,I.stkFree,I.hok,I.bare⟩
theorem Inv.after {Q:VK} {u:Value} (I:Inv X pins σ H s) (h:CE X.stack X.prog X.w H s Q u s'):EP X pins σ Q u s':=by
 obtain ⟨v,H',os,bare,un,hok,r,q⟩:=h
 obtain ⟨hh,g,d,t,os'⟩:=s'
 obtain rfl:os'=s.os:=os
 exact ⟨v,H',I.call (h':=hh) (g':=g) (d':=d) (t':=t) (ch:=[]) un hok bare (fun b z=>absurd z (by simp)),r,q⟩
end
noncomputable def tCall (sp:Sp) (dvs:List V) (E:XK) (t:TA):TE:=fun σ H Q=>t σ H fun vs H1=>sp (vs ++ dvs) H1 Q E
def Binds (K:PySem.W.Frag) (fd:FuncData) (ps:List Str) (ds:List Value):Prop :=
 ∀ (s:Shared) (us:List Value),K.In s.heap→(us ++ ds).length=ps.length→BindsTo s fd ⟨us,[]⟩ (ps.zip (us ++ ds))
theorem Binds.all {K:PySem.W.Frag} {fd:FuncData} {ps:List Str} (h:∀ us:List Value,us.length=ps.length→bindArgs fd ⟨us,[]⟩=pure (ps.zip us)):Binds K fd ps []:=fun s us _ hl=>by
 rw [List.append_nil] at hl ⊢
 exact .of_eq (h us hl)
def Passes (CX:CXT) (X:Cx) (E:XK):Prop:=∀ (pins:List (Addr × Obj)) (σ:St) (H:Hp) (s:Shared) (e:Value) (s':Shared),Inv X pins σ H s→CX X.stack H s E e s'→X.xe e s'
section
variable {X:Cx} {CX:CXT} {k:Nat} {f C:Addr} {fd:FuncData} {ps:List Str} {sp:Sp} {dvs:List V} {ds:List Value} {E:XK} {x m:Str} {p pos apos:Pos} {e o:Expr} {es:List Expr} {ta:TE} {t:TA}
theorem run_fn {pins:List (Addr × Obj)} {σ:St} {H:Hp} {s:Shared} {Q:VK} {us:List Value} {vs:List V} (F:FnOk X.prog X.w X.K X.mg X.base CX k f fd ps sp) (hr:Room k X.A) (hb:Binds X.K fd ps ds) (hd:Vals dvs ds) (hx:Passes CX X E)
  (I:Inv X pins σ H s) (r:Vals vs us) (h:sp (vs ++ dvs) H Q E):wpAny (model X.prog X.w) X.A (call (.ref f) us) (EP X pins σ Q) X.xe s:=by
 have r2:Vals (vs ++ dvs) (us ++ ds):=r.append hd
 have hl:(us ++ ds).length=ps.length:=by rw [← r2.length]; exact F.len _ _ _ _ h
 refine wpAny_call (codeAny_mono (F.run X.A X.stack s H ⟨us,[]⟩ (us ++ ds) (vs ++ dvs) Q E hr I.env0 (hb s us I.kIn hl) r2 h) fun r s' hq=>?_)
 cases r with
 | error e=>exact hx pins σ H s e s' I hq
 | ok fl =>
  cases fl with
  | ret u=>exact I.after hq
  | next=>exact False.elim hq
  | brk=>exact False.elim hq
  | cont=>exact False.elim hq
theorem pe_call (F:FnOk X.prog X.w X.K X.mg X.base CX k f fd ps sp) (hr:Room k X.A) (hg:Gl X x) (hm:X.mg x=some (.ref f)) (hk:PySem.W.keepIn X.K (.ref f)=true) (hb:Binds X.K fd ps ds) (hd:Vals dvs ds) (hx:Passes CX X E)
  (ha:PA X (e :: es) t) (hdb:(x == ("__debug__":Str))=false:=by decide) (he:starEach (e :: es) X.env=(false,eval e X.env) :: starEach es X.env:=by rfl) (hpl:(backTo pos (starEach es X.env)).any (·.1)=false:=by rfl) :
  PE X (.Call (.Name x p) (e :: es) [] pos) (tCall sp dvs E t):=by
 intro pins s σ H Q I h
 refine wpAny_Call_Name_kw (ld_glob I hg hm ?_ hdb)
 refine PySem.W.callWith_K (h₀:=X.base) I.ok.mod.kin hk (thn (ha pos pins s σ H _ I h) fun us s1 ⟨vs,H1,I1,r,q⟩=>⟨I1.kIn, ?_⟩) he hpl
 exact run_fn F hr hb hd hx I1 r q
structure Mk (K:PySem.W.Frag) (C f:Addr):Prop where
 makes:PySem.W.makesIn K C=true
 init:PySem.W.findIn K (.ref C) "__init__"=some (some (.ref f))
 fn:PySem.W.isFn K (.ref f)=true
 kp:PySem.W.keepIn K (.ref C)=true
end
def PK (X:Cx) (kws:List Keyword) (t:TA):Prop :=
 ∀ (pos:Pos) (pins:List (Addr × Obj)) (s:Shared) (σ:St) (H:Hp) (Q:List V→Hp→Prop),Inv X pins σ H s→t σ H Q→wpAny (model X.prog X.w) X.A (evalAll ((backToKw pos (keywordEach kws X.env)).map (·.2))) (AP X pins σ Q) X.xe s
section
variable {X:Cx} {CX:CXT} {k:Nat} {f C:Addr} {fd:FuncData} {ps ks:List Str} {sp:Sp} {E:XK} {x m:Str} {p pos apos kpos:Pos} {e o:Expr} {es:List Expr} {kws:List Keyword} {te ta:TE} {t tk:TA} {nm:Option Str}
theorem pk_nil:PK X [] tNil:=fun _ _ _ _ H Q I h=>wpAny_evalAll_nil ⟨[],H,I,.nil,h⟩
theorem pk_cons (ha:PE X e te) (hr:PK X kws t):PK X (⟨nm,e,kpos⟩ :: kws) (tCons te t):=by
 intro pos pins s σ H Q I h
 show wpAny _ _ (evalAll ((do let v ← eval e X.env; standAt pos; pure v) :: (backToKw pos (keywordEach kws X.env)).map (·.2))) _ _ s
 refine wpAny_evalAll_cons (wpAny_bind (thn (ha pins s σ H _ I h) fun u s1 ⟨x,H1,I1,r1,q1⟩=>wpAny_bind (wpAny_standAt (wpAny_pure ?_))))
 exact thn (hr pos pins s1 σ H1 _ I1 q1) fun us s2 ⟨xs,H2,I2,r2,q2⟩=>⟨x :: xs,H2,I2,.cons r1 r2,q2⟩
structure KBinds (K:PySem.W.Frag) (fd:FuncData) (ps ks:List Str) (g:List Value→List Value→List Value) (gV:List V→List V→List V):Prop where
 to:∀ (s:Shared) (us ws:List Value),K.In s.heap→(g us ws).length=ps.length→BindsTo s fd ⟨us,ks.zip ws⟩ (ps.zip (g us ws))
 rel:∀ {vs:List V} {us:List Value} {zs:List V} {ws:List Value},Vals vs us→Vals zs ws→Vals (gV vs zs) (g us ws)
variable {g:List Value→List Value→List Value} {gV:List V→List V→List V}
end
structure FnScope (N P:List Str) (sc:Scope):Prop where
 kind:sc.kind=.function
 co:sc.isCoroutine=false
 gen:sc.isGenerator=false
 nd:N.Nodup
 pre:N.take P.length=P
 par:∀ x∈P,sc.names.lookup x=some .local∨sc.names.lookup x=some .cell
 nofree:∀ y∈sc.names,y.2≠.free
theorem bindL_out {kindOf:Str→Option NameKind} {x:Str}:∀ {binds:List (Str × Value)} {m:Str→Option Value},(∀ v,(x,v) ∉ binds)→bindL kindOf binds m x=m x
 | [],_,_=>rfl
 | (n,v) :: r,m,h=>by
  unfold bindL
  rw [bindL_out fun w hw=>h w (List.mem_cons_of_mem _ hw)]
  split
  ·have:x≠n:=by rintro rfl; exact h v List.mem_cons_self
   simp [this]
  ·rfl
theorem bindC_out {kindOf:Str→Option NameKind} {x:Str}:∀ {binds:List (Str × Value)} {m:Str→Option Value},(∀ v,(x,v) ∉ binds)→bindC kindOf binds m x=m x
 | [],_,_=>rfl
 | (n,v) :: r,m,h=>by
  unfold bindC
  rw [bindC_out fun w hw=>h w (List.mem_cons_of_mem _ hw)]
  split
  ·rfl
  ·have:x≠n:=by rintro rfl; exact h v List.mem_cons_self
   simp [this]
theorem bindL_get {kindOf:Str→Option NameKind} {x:Str} {v:Value}:∀ {P:List Str} {vs:List Value} {i:Nat} {m:Str→Option Value},P.Nodup→P[i]?=some x→vs[i]?=some v→kindOf x=some .local →
  bindL kindOf (P.zip vs) m x=some v
 | [],_,_,_,_,h,_,_=>by simp at h
 | _ :: _,[],_,_,_,_,h,_=>by simp at h
 | p :: P,w :: vs,0,m,nd,h1,h2,hk=>by
  simp at h1 h2; subst h1; subst h2
  show bindL kindOf ((p,w) :: P.zip vs) m p=_
  unfold bindL
  rw [bindL_out fun v hv=>(List.nodup_cons.mp nd).1 (List.of_mem_zip hv).1,if_pos hk]
  simp
 | p :: P,w :: vs,i+1,m,nd,h1,h2,hk=>by
  show bindL kindOf ((p,w) :: P.zip vs) m x=_
  unfold bindL
  exact bindL_get (i:=i) (List.nodup_cons.mp nd).2 (by simpa using h1) (by simpa using h2) hk
theorem bindC_get {kindOf:Str→Option NameKind} {x:Str} {v:Value}:∀ {P:List Str} {vs:List Value} {i:Nat} {m:Str→Option Value},P.Nodup→P[i]?=some x→vs[i]?=some v→kindOf x≠some .local →
  bindC kindOf (P.zip vs) m x=some v
 | [],_,_,_,_,h,_,_=>by simp at h
 | _ :: _,[],_,_,_,_,h,_=>by simp at h
 | p :: P,w :: vs,0,m,nd,h1,h2,hk=>by
  simp at h1 h2; subst h1; subst h2
  show bindC kindOf ((p,w) :: P.zip vs) m p=_
  unfold bindC
  rw [bindC_out fun v hv=>(List.nodup_cons.mp nd).1 (List.of_mem_zip hv).1,if_neg hk]
  simp
 | p :: P,w :: vs,i+1,m,nd,h1,h2,hk=>by
  show bindC kindOf ((p,w) :: P.zip vs) m x=_
  unfold bindC
  exact bindC_get (i:=i) (List.nodup_cons.mp nd).2 (by simpa using h1) (by simpa using h2) hk
noncomputable def start (N:List Str) (vs:List V):St:=vs.map some ++ List.replicate (N.length - vs.length) none
noncomputable def cxOf (CX:CXT) (P:Program) (w:World) (K:PySem.W.Frag) (mg:Str→Option Value) (base:Heap) (N:List Str) (qual:Str) (scope:Scope) (f:Addr) (cd:Value) (A:Around) (outer:List Env) (s:Shared) (H:Hp) (E:XK):Cx where
 prog:=P
 w:=w
 K:=K
 mg:=mg
 base:=base
 A:=A.deeper (envOfC qual scope s.heap.objs.size f cd)
 N:=N
 s₀:=s
 H₀:=H
 env:=envOfC qual scope s.heap.objs.size f cd
 outer:=outer
 stack:=envOfC qual scope s.heap.objs.size f cd :: outer
 ex:=[]
 calm:=true
 fn:=fun _=>true
 pn:=[]
 xe:=fun e s'=>wpAny (model P w) (A.deeper (envOfC qual scope s.heap.objs.size f cd)) (leaving (envOfC qual scope s.heap.objs.size f cd) e) (fun _ s''=>CX outer H s E e s'') (fun e' s''=>CX outer H s E e' s'') s'
theorem cell_has {sc:Scope} {n:Nat} {x:Str} (h:sc.names.lookup x=some .cell):∃ c,(cellsFrom n sc.names []).lookup x=some c:=by
 have q:=PySem.W.cellsFrom_some sc.names n [] (.inl h)
 exact Option.isSome_iff_exists.mp q
theorem inv_start {CX:CXT} {P:Program} {w:World} {K:PySem.W.Frag} {mg:Str→Option Value} {base:Heap} {N ps:List Str} {qual:Str} {scope:Scope} {f:Addr} {cd:Value} {A:Around} {outer:List Env} {s s1:Shared} {H:Hp} {E:XK} {us:List Value} {vs:List V}
  (S:FnScope N ps scope) (hd:A.handled=none) (e0:Env0 P w K mg base A outer s H) (hl:vs.length=ps.length) (r:Vals vs us)
  (x:InCallC s s.heap.objs.size (bindL (envOfC qual scope s.heap.objs.size f cd).kindOf (ps.zip us) fun _=>none) (cellsFrom (s.heap.objs.size+1) scope.names []) (bindC (envOfC qual scope s.heap.objs.size f cd).kindOf (ps.zip us) fun _=>none) s1) :
  Inv (cxOf CX P w K mg base N qual scope f cd A outer s H E) [] (start N vs) H s1:=by
 have hpl:ps.length≤N.length:=by have:=congrArg List.length S.pre; rw [List.length_take] at this; omega
 obtain ⟨h1,tk,rfl,hk⟩:=x.done
 have noA:∀ b:Addr,b ∉ (cxOf CX P w K mg base N qual scope f cd A outer s H E).ex:=fun b z=>absurd (show b∈([]:List Addr) from z) (by simp)
 refine ⟨⟨e0.mod,S.kind,rfl,rfl,Nat.le_refl _,fun y z c h1 h2=>?_,fun y hy=>?_,fun y c _ h=>?_,fun _=>hd,Around.frames_deeper e0.frames,.inr ⟨rfl,rfl⟩,fun b z=>absurd z (noA b),e0.bs,e0.bsz,fun b _ _=>noA b,fun b z=>absurd z (noA b),e0.funs,e0.frf⟩,
  rfl,e0.bare,Un.kept hk,⟨_,x.toInCall.ns,fun i y v h1 h2 h3=>?_⟩,fun y c h=>⟨_,x.cell y c h⟩,e0.hok.fresh (Nat.le_refl _),fun y c h=>?_,fun p hp=>absurd (show p∈([]:List (Addr × Obj)) from hp) (by simp),e0.hok.kept hk, ?_⟩
 ·exact name_of_addr x.apart (PySem.mem_of_lookup h1) (PySem.mem_of_lookup h2)
 ·have hy:scope.names.lookup y=some .cell∨scope.names.lookup y=some .free:=hy
  rcases hy with hy | hy
  ·exact cell_has hy
  ·exact absurd rfl (S.nofree _ (PySem.mem_of_lookup hy))
 ·exact Nat.le_of_lt (x.above y c (PySem.mem_of_lookup h))
 ·have hi:i<vs.length:=by
   unfold start at h2
   by_cases hi:i<vs.length
   ·exact hi
   ·rw [List.getElem?_append_right (by simpa using hi)] at h2
    rw [List.getElem?_replicate] at h2
    split at h2 <;> cases h2
  have ha:vs[i]?=some v:=by
   unfold start at h2
   rw [List.getElem?_append_left (by simpa using hi),List.getElem?_map] at h2
   cases e:vs[i]? with
   | none=>rw [e] at h2; cases h2
   | some a=>rw [e] at h2; cases h2; rfl
  obtain ⟨u,hu,rv⟩:=r.get ha
  have hp:ps[i]?=some y:=by
   rw [← S.pre,List.getElem?_take_of_lt (by omega)]; exact h1
  have ndP:ps.Nodup:=by rw [← S.pre]; exact S.nd.sublist (List.take_sublist _ _)
  refine ⟨u,rv, ?_⟩
  rcases S.par y (List.mem_of_getElem? hp) with k | k
  ·exact .inl ⟨k,bindL_get ndP hp hu k⟩
  ·obtain ⟨c,e⟩:=cell_has (n:=s.heap.objs.size+1) k
   refine .inr ⟨.inl k,c,e, ?_⟩
   have q:=x.cell y c e
   rw [bindC_get ndP hp hu (by show scope.names.lookup y≠_; rw [k]; decide)] at q
   exact q
 ·exact e0.hok.fresh (Nat.le_of_lt (x.above y c (PySem.mem_of_lookup h)))
 ·unfold start
  show _=N.length
  rw [List.length_append,List.length_map,List.length_replicate]
  omega
theorem fn_of {CX:CXT} {P:Program} {w:World} {K:PySem.W.Frag} {mg:Str→Option Value} {base:Heap} {k:Nat} {f:Addr} {name qual:Str} {params:Arguments} {body:List Stmt} {scope:Scope} {dV kV doc pm cdv ct oc:Value} {an od:Option Addr}
  {osl:Array (Option Value)} {N ps:List Str} {sp:Sp} (lk:K.lookup f=some ⟨oc,od,.func (PySem.W.fnOf name qual params body scope dV kV doc pm an cdv ct),osl⟩) (hcd:PySem.W.codeIn K cdv qual=true) (S:FnScope N ps scope)
  (len:∀ vs H Q E,sp vs H Q E→vs.length=ps.length)
  (hbody:∀ (A:Around) (outer:List Env) (s:Shared) (H:Hp) (vs:List V) (Q:VK) (E:XK),Room k (A.deeper (envOfC qual scope s.heap.objs.size f cdv))→sp vs H Q E →
   ∃ t,PSs (cxOf CX P w K mg base N qual scope f cdv A outer s H E) body t∧t { nx:=fun _ H'=>Q .non H',rt:=Q } (start N vs) H) :
  FnOk P w K mg base CX (k+1) f (PySem.W.fnOf name qual params body scope dV kV doc pm an cdv ct) ps sp:=by
 refine ⟨len,fun A outer s H args us vs Q E hr e0 hb r hsp=>?_⟩
 have hl:=len _ _ _ _ hsp
 have KX:K.In s.heap:=e0.mod.kin.keeps fun b o e=>(e0.bs b o e).1
 have lim:s.heap.NoLimit:=e0.mod.nolimit.keeps fun b o e=>(e0.bs b o e).1
 have hkind:∀ y∈ps.zip us,scope.names.lookup y.1=some .local∨(scope.names.lookup y.1=some .cell∧((cellsFrom (s.heap.objs.size+1) scope.names []).lookup y.1).isSome=true):=fun ⟨n,v⟩ hy=>by
  rcases S.par n (List.of_mem_zip hy).1 with q | q
  ·exact .inl q
  ·exact .inr ⟨q,PySem.W.cellsFrom_some _ _ _ (.inl q)⟩
 refine codeAny_call_function hr.depth (KX _ _ lk) rfl S.co S.gen rfl (PySem.W.codeRec_of KX hcd) (hb _ _ _ _ ?_)
 refine wpAny_newFunctionEnv_cells S.kind hkind fun env he s1 x=>?_
 subst he
 refine ⟨lim.keeps x.toInCall.keep,codeAny_func ?_⟩
 obtain ⟨t,ht,hq⟩:=hbody A outer s H vs Q E (hr.deeper _) hsp
 have I:Inv (cxOf CX P w K mg base N qual scope f cdv A outer s H E) [] (start N vs) H s1:=inv_start S hr.hd e0 hl r x
 refine wpAny_mono (ht [] s1 (start N vs) H _ I hq) (fun fl s' hs=>?_) fun e s' hs=>hs
 have fin:∀ {σ':St} {H':Hp} {v:V} {u:Value},Inv (cxOf CX P w K mg base N qual scope f cdv A outer s H E) [] σ' H' s'→RelV v u→Q v H'→CE outer P w H s Q u s' :=
  fun {σ' H' v u} J rv q=>⟨v,H',J.os,J.bare,J.base,J.hok,rv,q⟩
 cases fl with
 | ret u =>
  obtain ⟨v,σ',H',J,rv,q⟩:=hs
  exact fin J rv q
 | next =>
  obtain ⟨σ',H',J,q⟩:=hs
  exact fin (v:=V.non) (u:=Value.none) J rfl q
 | brk =>
  obtain ⟨_,_,_,q⟩:=hs
  exact False.elim q
 | cont =>
  obtain ⟨_,_,_,q⟩:=hs
  exact False.elim q
section
variable {X:Cx} {x:Str} {p pos:Pos} {e:Expr} {es:List Expr} {t:TA} {id T:String} {r:List V→Hp→VK→Prop}
noncomputable def tCB (r:List V→Hp→VK→Prop) (t:TA):TE:=fun σ H Q=>t σ H fun vs H1=>r vs H1 Q
theorem pe_callB (hc:CallR X (.builtin id) r) (hg:Gl X x) (hm:X.mg x=none) (hv:bootBuiltins x=some (.builtin id)) (ha:PA X (e :: es) t) (hn:x≠"__name__":=by decide) (hdb:(x == ("__debug__":Str))=false:=by decide)
  (he:starEach (e :: es) X.env=(false,eval e X.env) :: starEach es X.env:=by rfl) (hpl:(backTo pos (starEach es X.env)).any (·.1)=false:=by rfl):PE X (.Call (.Name x p) (e :: es) [] pos) (tCB r t):=by
 intro pins s σ H Q I h
 refine wpAny_Call_Name_kw (ld_blt I hg hm hv ?_ hn hdb)
 exact PyProof.Rows.callWith_builtin1 (thn (ha pos pins s σ H _ I h) fun us s1 ⟨vs,H1,I1,r1,q1⟩=>hc pins s1 σ H1 vs us Q I1 r1 q1) he hpl
theorem pe_callTy (hc:CallR X (.type T) r) (hg:Gl X x) (hm:X.mg x=none) (hv:bootBuiltins x=some (.type T)) (ha:PA X (e :: es) t) (hn:x≠"__name__":=by decide) (hdb:(x == ("__debug__":Str))=false:=by decide)
  (he:starEach (e :: es) X.env=(false,eval e X.env) :: starEach es X.env:=by rfl) (hpl:(backTo pos (starEach es X.env)).any (·.1)=false:=by rfl):PE X (.Call (.Name x p) (e :: es) [] pos) (tCB r t):=by
 intro pins s σ H Q I h
 refine wpAny_Call_Name_kw (ld_blt I hg hm hv ?_ hn hdb)
 exact PyProof.Rows.callWith_type1 (thn (ha pos pins s σ H _ I h) fun us s1 ⟨vs,H1,I1,r1,q1⟩=>hc pins s1 σ H1 vs us Q I1 r1 q1) he hpl
end
end L2
namespace HT
open PySem PyProof.Rows
section
open PySem.SeqAt
open PySem.AutoSeq1 (wpAny_loadPart')
open PySem.MeetsSeq PySem.MeetsSeq2 PySem.MeetsSeq3
end
section
variable {prog:Program} {w:World} {A:Around} {E:Value→Shared→Prop} {s:Shared}
theorem cat_tup {t b:Addr} {vs ws:List Value} {Q:Value→Shared→Prop} (ht:IsTup s.heap t vs.toArray) (hb:IsTup s.heap b ws.toArray) (hv:vs≠[])
  (h1:ws=[]→Q (.ref t) s) (h2:ws≠[]→Q (.ref s.heap.objs.size) { s with heap:=s.heap.push { cls:=.type "tuple",data:=.seq (vs ++ ws).toArray } })
  (hsz:vs.length+ws.length≤sizeLine):wpAny (model prog w) A (binaryOp .Add (.ref t) (.ref b)) Q E s:=by
 obtain ⟨⟨cls,dd,data,sl⟩,ho,hc,n,hd⟩:=id ht
 obtain ⟨⟨cls2,dd2,data2,sl2⟩,ho2,hc2,n2,hd2⟩:=id hb
 simp only at hc hd hc2 hd2
 subst hc hd hc2 hd2
 have e:vs.toArray ++ ws.toArray=(vs ++ ws).toArray:=by simp
 by_cases hw:ws=[]
 ·exact concat_meets ⟨_,ho,rfl⟩ ⟨_,ho2,rfl⟩ noFill_tuple_add seq_tuple_add PySem.F.slot_tuple_add PySem.F.entry_tuple_add (PySem.F.args_tuple_add_2 _ _)
   (tuple_addW1 t b vs.toArray ws.toArray n n2 dd dd2 sl sl2 (by simpa using hv) (by simp [hw])) ⟨ho,ho2,h1 hw⟩
 ·refine concat_meets ⟨_,ho,rfl⟩ ⟨_,ho2,rfl⟩ noFill_tuple_add seq_tuple_add PySem.F.slot_tuple_add PySem.F.entry_tuple_add (PySem.F.args_tuple_add_2 _ _)
   (tuple_addW2 t b vs.toArray ws.toArray n n2 dd dd2 sl sl2 (by simpa using hv) (by simpa using hw) (by rw [List.size_toArray,List.size_toArray]; exact hsz)) ⟨ho,ho2, ?_⟩
  rw [e]
  exact h2 hw
noncomputable def sIx (n d:Nat):Option Int→Nat
 | none=>d
 | some v=>if v<0 then (v+(n:Int)).toNat else min v.toNat n
theorem sIx_none (n d:Nat):sIx n d none=d:=rfl
theorem sIx_nat (n d k:Nat):sIx n d (some (k:Int))=min k n:=by
 show (if (k:Int)<0 then ((k:Int)+(n:Int)).toNat else min (k:Int).toNat n)=min k n
 rw [if_neg (by omega),Int.toNat_natCast]
theorem sIx_le (n d:Nat) (hd:d≤n) (o:Option Int):sIx n d o≤n:=by
 cases o with
 | none=>exact hd
 | some v =>
  show (if v<0 then (v+(n:Int)).toNat else min v.toNat n)≤n
  by_cases hv:v<0
  ·rw [if_pos hv]; omega
  ·rw [if_neg hv]; exact Nat.min_le_right _ _
theorem clip_eq (v:Int) (n d:Nat):(if v<0 then max (v+(n:Int)) 0 else min v (n:Int))=((sIx n d (some v):Nat):Int):=by
 show (if v<0 then max (v+(n:Int)) 0 else min v (n:Int))=(((if v<0 then (v+(n:Int)).toNat else min v.toNat n):Nat):Int)
 by_cases hv:v<0
 ·simp only [if_pos hv]; omega
 ·simp only [if_neg hv]; omega
theorem adjust_gen (lo hi:Option Int) (n:Nat):Builtin.Slice.sliceAdjust lo hi 1 (n:Int)=(((sIx n 0 lo:Nat):Int),((sIx n n hi:Nat):Int)):=by
 have h1:¬ ((1:Int)<0):=by omega
 unfold Builtin.Slice.sliceAdjust
 simp only [h1,if_false]
 refine Prod.ext ?_ ?_
 ·cases lo with
  | none=>rfl
  | some v=>exact clip_eq v n 0
 ·cases hi with
  | none=>rfl
  | some v=>exact clip_eq v n n
theorem places_gen (i j:Nat):Builtin.Slice.slicePlaces (i:Int) (j:Int) 1=j - i:=by
 unfold Builtin.Slice.slicePlaces
 have h1:(1:Int) > 0:=by omega
 simp only [h1,if_true,Int.ediv_one]
 split <;> omega
theorem slicePart_ {v:Value} {o:Option Int} {Q:Option Int→Shared→Prop} (p:IsPart v o) (h:Q o s):wpAny (model prog w) A (Builtin.Slice.slicePartIndex v) Q E s:=by
 cases p with
 | none=>exact slicePart_none h
 | int i t=>exact slicePart_int h
theorem sliceApplied_gen {sl:Addr} {vl vu:Value} {lo hi:Option Int} {n:Nat} {Q:Int × Int × Nat→Shared→Prop} (hs:s.heap.IsSliceOf sl vl vu .none) (pl:IsPart vl lo) (pu:IsPart vu hi)
  (h:Q (((sIx n 0 lo:Nat):Int),1,sIx n n hi - sIx n 0 lo) s):wpAny (model prog w) A (Builtin.Slice.sliceApplied (.ref sl) (pure (n:Int))) Q E s:=by
 obtain ⟨os,hos,hcs,hds⟩:=id hs
 unfold Builtin.Slice.sliceApplied Builtin.Slice.sliceFields
 refine wpAny_bind (wpAny_bind (wpAny_field hos hds (x:=vl) rfl (wpAny_bind (wpAny_field hos hds (x:=vu) rfl (wpAny_bind (wpAny_field hos hds (x:=.none) rfl (wpAny_pure ?_)))))))
 refine wpAny_bind (slicePart_none ?_)
 show wpAny _ _ (if ((1:Int) == 0)=true then _ else _) _ _ s
 rw [if_neg (by decide)]
 refine wpAny_bind (slicePart_ pl (wpAny_bind (slicePart_ pu (wpAny_bind (wpAny_pure ?_)))))
 show wpAny _ _ (match Builtin.Slice.sliceAdjust lo hi 1 (n:Int) with | (lo,hi)=>pure (lo,(1:Int),Builtin.Slice.slicePlaces lo hi 1)) _ _ s
 rw [adjust_gen lo hi n]
 show wpAny _ _ (pure (((sIx n 0 lo:Nat):Int),(1:Int),Builtin.Slice.slicePlaces ((sIx n 0 lo:Nat):Int) ((sIx n n hi:Nat):Int) 1)) _ _ s
 rw [places_gen]
 exact wpAny_pure h
theorem pick_gen (xs:Array Value) (i k:Nat):((List.range k).filterMap fun (m:Nat)=>xs[((i:Int)+(m:Int)*1).toNat]?).toArray=((xs.toList.drop i).take k).toArray:=by
 have e:(fun (m:Nat)=>xs[((i:Int)+(m:Int)*1).toNat]?)=fun m=>xs[i+m]?:=by
  funext m
  have:((i:Int)+(m:Int)*1).toNat=i+m:=by omega
  rw [this]
 rw [e]
 have:=pick_run xs i k
 rw [List.filterMap_map] at this
 have e2:((fun x=>xs[x]?) ∘ fun x=>i+x)=fun m=>xs[i+m]?:=rfl
 rw [e2] at this
 rw [this]
theorem getItem_tuple_cut {t sl:Addr} {items:Array Value} {vl vu:Value} {lo hi:Option Int} {Q:Value→Shared→Prop} (ht:IsTup s.heap t items) (hs:s.heap.IsSliceOf sl vl vu .none) (pl:IsPart vl lo) (pu:IsPart vu hi)
  (hw:¬ (sIx items.size 0 lo=0∧sIx items.size items.size hi=items.size))
  (h:Q (.ref s.heap.objs.size) { s with heap:=s.heap.push { cls:=.type "tuple",data:=.seq ((items.toList.drop (sIx items.size 0 lo)).take (sIx items.size items.size hi - sIx items.size 0 lo)).toArray } })
  (hsz:items.size≤sizeLine):wpAny (model prog w) A (getItem (.ref t) (.ref sl)) Q E s:=by
 have htake:sizeOk (.seq ((items.toList.drop (sIx items.size 0 lo)).take (sIx items.size items.size hi - sIx items.size 0 lo)).toArray):=by
  show ((items.toList.drop (sIx items.size 0 lo)).take (sIx items.size items.size hi - sIx items.size 0 lo)).toArray.size≤sizeLine
  rw [List.size_toArray,List.length_take,List.length_drop,Array.length_toList]
  omega
 have hj:sIx items.size items.size hi≤items.size:=sIx_le _ _ (Nat.le_refl _) hi
 obtain ⟨os,hos,hcs,hds⟩:=id hs
 have hTs:s.TypeIs (.ref sl) "slice":=⟨os,hos,hcs⟩
 unfold getItem
 try with_reducible refine wpAny_holding ?_
 first | refine wpAny_bind (wpAny_pure ?_) | skip
 refine wpAny_bind (wpAny_sequenceKey ht.typeIs (by decide) ?_)
 refine wpAny_bind (wpAny_callSpecial?_slot (name:=Str.ofString "__getitem__") ht.typeIs PyProof.Rows.slot_tuple_getitem
  (wpAny_call_entry PyProof.Rows.slot_tuple_getitem ht.typeIs entry_tuple_getitem ?_ (args_tuple_getitem _ _)))
 show wpAny _ _ (Builtin.Tuple.tupleItemsOf (.ref t) >>= _) _ _ s
 refine wpAny_bind (tupleItemsOf_ ht ?_)
 refine wpAny_bind (wpAny_typeOf hTs ?_)
 rw [if_pos (by decide)]
 refine wpAny_bind (sliceApplied_gen hs pl pu ?_)
 have hno:¬ ((((sIx items.size 0 lo:Nat):Int) == 0 && (1:Int) == 1 && (sIx items.size items.size hi - sIx items.size 0 lo) == items.size)=true):=by
  intro q
  rw [Bool.and_eq_true,Bool.and_eq_true] at q
  have q1:((sIx items.size 0 lo:Nat):Int)=0:=eq_of_beq q.1.1
  have q2:sIx items.size items.size hi - sIx items.size 0 lo=items.size:=eq_of_beq q.2
  exact hw ⟨by omega,by omega⟩
 show wpAny _ _ (if (((sIx items.size 0 lo:Nat):Int) == 0 && (1:Int) == 1 && (sIx items.size items.size hi - sIx items.size 0 lo) == items.size)=true then _ else _) _ _ s
 rw [if_neg hno,pick_gen]
 first
  | exact wpAny_bind (m:=Builtin.Tuple.tupleExact _) (wpAny_newObj_type (wpAny_pure ⟨_,rfl,wpAny_pure h⟩) htake)
  | exact wpAny_bind (m:=Builtin.Tuple.tupleExact _) (wpAny_newObj_type (wpAny_bind (wpAny_pure (wpAny_pure ⟨_,rfl,wpAny_pure h⟩))) htake)
  | exact wpAny_bind (wpAny_bind (m:=Builtin.Tuple.tupleExact _) (wpAny_newObj_type (wpAny_pure (wpAny_pure ⟨_,rfl,wpAny_pure h⟩)) htake))
  | exact wpAny_bind (wpAny_bind (m:=Builtin.Tuple.tupleExact _) (wpAny_newObj_type (wpAny_pure ⟨_,rfl,wpAny_pure h⟩) htake))
end
end HT
namespace L2
open PySem PySem.Spec PyProof.Rows
abbrev TO:=St→Hp→(Option Int→Hp→Prop)→Prop
def PO (X:Cx) (e:Option Expr) (t:TO):Prop :=
 ∀ (pins:List (Addr × Obj)) (s:Shared) (σ:St) (H:Hp) (Q:Option Int→Hp→Prop),Inv X pins σ H s→t σ H Q →
  wpAny (model X.prog X.w) X.A (evalPart e X.env) (fun u s'=>∃ o H',Inv X pins σ H' s'∧IsPart u o∧Q o H') X.xe s
noncomputable def tNoPart:TO:=fun _ H Q=>Q none H
noncomputable def tPart (t:TE):TO:=fun σ H Q=>t σ H fun x H1=>∃ i,x=.int i∧Q (some i) H1
section
variable {X:Cx} {e:Expr} {te:TE} {lo hi:Option Expr} {tl th:TO} {pos p2:Pos}
theorem po_none:PO X none tNoPart:=by
 intro pins s σ H Q I h
 rw [evalPart_none]
 exact wpAny_pure ⟨none,H,I,.none,h⟩
theorem po_some (h:PE X e te):PO X (some e) (tPart te):=by
 intro pins s σ H Q I hw
 rw [evalPart_some]
 refine thn (h pins s σ H _ I hw) fun u s1 ⟨x,H1,I1,r1,q1⟩=>?_
 obtain ⟨i,rfl,q⟩:=q1
 obtain ⟨t,rfl⟩:=r1
 exact ⟨some i,H1,I1,.int i t,q⟩
def SlR (X:Cx) (r:V→Option Int→Option Int→Hp→VK→Prop):Prop :=
 ∀ (pins:List (Addr × Obj)) (s:Shared) (σ:St) (H:Hp) (x:V) (v vl vu:Value) (lo hi:Option Int) (sl:Addr) (Q:VK),Inv X pins σ H s→RelV x v→s.heap.IsSliceOf sl vl vu .none→IsPart vl lo→IsPart vu hi→r x lo hi H Q →
  ∃ T id,typeLookup (.type T) "__getitem__"=pure (some (.builtin id))∧s.TypeIs v T∧wpAny (model X.prog X.w) X.A (getItem v (.ref sl)) (EP X pins σ Q) X.xe s
theorem SlR.or {r r':V→Option Int→Option Int→Hp→VK→Prop} (h:SlR X r) (h':SlR X r'):SlR X (fun x lo hi H Q=>r x lo hi H Q∨r' x lo hi H Q):=by
 intro pins s σ H x v vl vu lo hi sl Q I rx hs pl pu q
 rcases q with q | q
 ·exact h pins s σ H x v vl vu lo hi sl Q I rx hs pl pu q
 ·exact h' pins s σ H x v vl vu lo hi sl Q I rx hs pl pu q
noncomputable def tSl (r:V→Option Int→Option Int→Hp→VK→Prop) (te:TE) (tl th:TO):TE:=fun σ H Q=>te σ H fun x H1=>tl σ H1 fun l H2=>th σ H2 fun u H3=>r x l u H3 Q
theorem pe_slice {r:V→Option Int→Option Int→Hp→VK→Prop} (hr:SlR X r) (he:PE X e te) (hl:PO X lo tl) (hu:PO X hi th):PE X (.Subscript e (.Slice lo hi none p2) pos) (tSl r te tl th):=by
 intro pins s σ H Q I h
 refine Subscript_ (thn (he pins s σ H _ I h) fun v s1 ⟨x,H1,I1,r1,q1⟩=>?_)
 refine wpAny_Slice (thn (hl pins s1 σ H1 _ I1 q1) fun vl s2 ⟨l,H2,I2,pl,q2⟩=>thn (hu pins s2 σ H2 _ I2 q2) fun vu s3 ⟨u,H3,I3,pu,q3⟩=>?_)
 rw [evalPart_none]
 refine wpAny_pure ?_
 have I4:Inv X pins σ H3 { s3 with heap:=s3.heap.push { cls:=.type "slice",data:=.fields #[vl,vu,.none] } }:=I3.kept (t':=s3.toks) fun b ob q=>Heap.get?_push_of_some _ q
 obtain ⟨T,id,hT,ht,hg⟩:=hr pins { s3 with heap:=s3.heap.push { cls:=.type "slice",data:=.fields #[vl,vu,.none] } } σ H3 x v vl vu l u s3.heap.objs.size Q I4 r1 (Heap.IsSliceOf.new ..) pl pu q3
 show wpAny (model X.prog X.w) X.A (subscriptTail e (.Slice lo hi none p2) v (.ref s3.heap.objs.size)) (EP X pins σ Q) X.xe { s3 with heap:=s3.heap.push { cls:=.type "slice",data:=.fields #[vl,vu,.none] } }
 exact tail_any (ops:=[.ref s3.heap.objs.size,v]) ht hT hg (by with_unfolding_all rfl)
noncomputable def cutV (xs:List V) (lo hi:Option Int):List V:=(xs.drop (HT.sIx xs.length 0 lo)).take (HT.sIx xs.length xs.length hi - HT.sIx xs.length 0 lo)
theorem cutV_length (xs:List V) (lo hi:Option Int):(cutV xs lo hi).length≤xs.length:=by
 unfold cutV
 rw [List.length_take,List.length_drop]
 omega
def rSlT (K:PySem.W.Frag):V→Option Int→Option Int→Hp→VK→Prop:=fun x lo hi H Q=>∃ a xs,x=.ref a∧SqT K H a xs ∧
 ¬ (HT.sIx xs.length 0 lo=0∧HT.sIx xs.length xs.length hi=xs.length)∧∀ p,H p=none→Q (.ref p) (upd H p (.tup (cutV xs lo hi)))
theorem sl_tup:SlR X (rSlT X.K):=by
 intro pins s σ H x v vl vu lo hi sl Q I rx hs pl pu h
 obtain ⟨a,xs,rfl,hx,hw,q⟩:=h
 cases rx
 obtain ⟨its,r,ht,hz⟩:=I.tuple hx
 have hlen:its.toArray.size=xs.length:=by rw [List.size_toArray]; exact r.length.symm
 refine ⟨"tuple",_,PyProof.Rows.slot_tuple_getitem.lookup,ht.typeIs, ?_⟩
 refine HT.getItem_tuple_cut ht hs pl pu (by rw [hlen]; exact hw) ?_ (by rw [hlen]; exact hz)
 rw [hlen]
 refine ⟨.ref s.heap.objs.size,_,I.laid (t':=s.toks) (o:=.tup (cutV xs lo hi)) (fun b ob q=>Heap.get?_push_of_some _ q) (Nat.le_refl _) ?_,rfl,q _ (I.hok.fresh (Nat.le_refl _))⟩
 exact ⟨Nat.le_trans (cutV_length xs lo hi) hz,_,(r.drop (HT.sIx xs.length 0 lo)).take (HT.sIx xs.length xs.length hi - HT.sIx xs.length 0 lo),IsTup.new _ _⟩
noncomputable def rCatT (K:PySem.W.Frag):R2:=fun x y H Q=>∃ a b xs ys,x=.ref a∧y=.ref b∧SqT K H a xs∧SqT K H b ys∧xs≠[]∧xs.length+ys.length≤sizeLine ∧
 (ys=[]→Q (.ref a) H)∧(ys≠[]→∀ p,H p=none→Q (.ref p) (upd H p (.tup (xs ++ ys))))
theorem Vals.nil_iff {xs:List V} {us:List Value} (r:Vals xs us):us=[]↔xs=[]:=by
 cases r with
 | nil=>simp
 | cons _ _=>simp
theorem op_catT:OpR X (binaryOp .Add) (rCatT X.K):=by
 intro pins s σ H x y v u Q I rx ry h
 obtain ⟨a,b,xs,ys,rfl,rfl,ha,hb,hx,hz,q1,q2⟩:=h
 cases rx
 cases ry
 obtain ⟨its,r1,p1,_⟩:=I.tuple ha
 obtain ⟨its2,r2,p2,_⟩:=I.tuple hb
 refine HT.cat_tup p1 p2 (fun z=>hx (r1.nil_iff.mp z)) (fun z=>⟨.ref a,H,I,rfl,q1 (r2.nil_iff.mp z)⟩) (fun z=>?_) (by rw [← r1.length,← r2.length]; exact hz)
 refine ⟨.ref s.heap.objs.size,_,I.laid (t':=s.toks) (o:=.tup (xs ++ ys)) (fun b ob q=>Heap.get?_push_of_some _ q) (Nat.le_refl _) ?_,rfl,q2 (fun w=>z (r2.nil_iff.mpr w)) _ (I.hok.fresh (Nat.le_refl _))⟩
 exact ⟨by rw [List.length_append]; exact hz,_,r1.append r2,IsTup.new _ _⟩
end
noncomputable def ixN (n:Nat) (i:Int):Option Nat:=if 0≤i then (if i<n then some i.toNat else none) else if -(n:Int)≤i then some (i+n).toNat else none
noncomputable def atI {α:Type} (xs:List α) (i:Int):Option α:=(ixN xs.length i).bind fun j=>xs[j]?
theorem ixN_seq {n:Nat} {i:Int} {j:Nat} (h:ixN n i=some j):seqIndex? i n=some j∧j<n∧-(n:Int)≤i∧i<n:=by
 unfold ixN at h
 by_cases h0:0≤i
 ·rw [if_pos h0] at h
  by_cases h1:i<n
  ·rw [if_pos h1] at h
   have e:i.toNat=j:=Option.some.inj h
   exact ⟨by rw [seqIndex_of h0 h1,e],by omega,by omega,h1⟩
  ·rw [if_neg h1] at h; cases h
 ·rw [if_neg h0] at h
  by_cases h1:-(n:Int)≤i
  ·rw [if_pos h1] at h
   have e:(i+n).toNat=j:=Option.some.inj h
   exact ⟨by rw [seqIndex_neg (by omega) h1,e],by omega,h1,by omega⟩
  ·rw [if_neg h1] at h; cases h
theorem atI_get {α:Type} {xs:List α} {i:Int} {v:α} (h:atI xs i=some v):∃ j,seqIndex? i xs.length=some j∧xs[j]?=some v∧j<xs.length∧-(xs.length:Int)≤i∧i<xs.length:=by
 unfold atI at h
 cases e:ixN xs.length i with
 | none=>rw [e] at h; cases h
 | some j =>
  rw [e] at h
  obtain ⟨h1,h2,h3,h4⟩:=ixN_seq e
  exact ⟨j,h1,h,h2,h3,h4⟩
theorem atI_nat {α:Type} {xs:List α} {j:Nat} {v:α} (h:xs[j]?=some v):atI xs (j:Int)=some v:=by
 have hj:j<xs.length:=(List.getElem?_eq_some_iff.mp h).1
 have e:ixN xs.length (j:Int)=some j:=by
  unfold ixN
  rw [if_pos (by omega),if_pos (by omega)]; simp
 unfold atI; rw [e]; exact h
def PlainIx (b:Expr):Prop:=∀ o i,subscripted b false o i=operate [o,i] (getItem o i)
def IxR (X:Cx) (r:R2):Prop :=
 ∀ (value slice:Expr) (pins:List (Addr × Obj)) (s:Shared) (σ:St) (H:Hp) (x y:V) (v u:Value) (Q:VK),Inv X pins σ H s→RelV x v→RelV y u→r x y H Q →
  subscripted slice false v u=operate [v,u] (getItem v u)→wpAny (model X.prog X.w) X.A (subscriptTail value slice v u) (EP X pins σ Q) X.xe s
def MtR (X:Cx) (id:String) (r:V→List V→Hp→VK→Prop):Prop :=
 ∀ (pins:List (Addr × Obj)) (s:Shared) (σ:St) (H:Hp) (x:V) (xs:List V) (v:Value) (us:List Value) (Q:VK),Inv X pins σ H s→RelV x v→Vals xs us→r x xs H Q →
  wpAny (model X.prog X.w) X.A (call (.builtin id) (v :: us)) (EP X pins σ Q) X.xe s
section
variable {X:Cx} {a b:Expr} {ta tb:TE} {pos:Pos}
theorem IxR.or {r r':R2} (h:IxR X r) (h':IxR X r'):IxR X (fun x y H Q=>r x y H Q∨r' x y H Q):=by
 intro value slice pins s σ H x y v u Q I rx ry q hs
 rcases q with q | q
 ·exact h value slice pins s σ H x y v u Q I rx ry q hs
 ·exact h' value slice pins s σ H x y v u Q I rx ry q hs
theorem pe_ix {r:R2} (hr:IxR X r) (ha:PE X a ta) (hb:PE X b tb) (hs:PlainIx b):PE X (.Subscript a b pos) (tOp r ta tb):=by
 intro pins s σ H Q I h
 exact Subscript_ (binT ha hb I h fun v u s2 x y H2 I2 rx ry q=>hr a b pins s2 σ H2 x y v u Q I2 rx ry q (hs _ _))
noncomputable def rIxL (K:PySem.W.Frag):R2:=fun x y H Q=>∃ p xs i v,x=.ref p∧y=.int i∧SqL K H p xs∧atI xs i=some v∧Q v H
noncomputable def rIxT (K:PySem.W.Frag):R2:=fun x y H Q=>∃ p xs i v,x=.ref p∧y=.int i∧SqT K H p xs∧atI xs i=some v∧Q v H
noncomputable def rIxS:R2:=fun x y H Q=>∃ z i c,x=.str z∧y=.int i∧z.length≤sizeLine∧atI z.cps.toList i=some c∧Q (.str ⟨#[c]⟩) H
theorem ix_list:IxR X (rIxL X.K):=by
 intro value slice pins s σ H x y v u Q I rx ry h hs
 obtain ⟨p,xs,i,z,rfl,rfl,hq,he,q⟩:=h
 cases rx
 obtain ⟨t,rfl⟩:=ry
 obtain ⟨its,r,pl,hz⟩:=I.list hq
 obtain ⟨j,h1,h2,h3,h4,h5⟩:=atI_get he
 obtain ⟨w,ew,rw'⟩:=r.get h2
 have hl:=r.length
 have hn:=line63
 have fin:EP X pins σ Q w s:=⟨z,H,I,rw',q⟩
 by_cases h0:0≤i
 ·have hj:i.toNat=j:=by
   rw [seqIndex_of h0 h5] at h1
   exact Option.some.inj h1
  exact item_listR pl.isList h0 (by omega) (by rw [hj]; simpa using ew) fin hs
 ·have hj:(i+(its.toArray.size:Int)).toNat=j:=by
   rw [seqIndex_neg (by omega) h4] at h1
   rw [List.size_toArray,← hl]
   exact Option.some.inj h1
  exact subscriptTail_builtinR (x:=w) pl.isList.typeIs slot_list_getitem.lookup
   (wpAny_getItem_list_neg (Q:=fun r s'=>r=w∧EP X pins σ Q r s') pl.isList (by omega) (by rw [List.size_toArray] <;> omega) (by omega) (by rw [hj]; simpa using ew) ⟨rfl,fin⟩) hs
theorem ix_tup:IxR X (rIxT X.K):=by
 intro value slice pins s σ H x y v u Q I rx ry h hs
 obtain ⟨p,xs,i,z,rfl,rfl,hq,he,q⟩:=h
 cases rx
 obtain ⟨t,rfl⟩:=ry
 obtain ⟨its,r,pl,hz⟩:=I.tuple hq
 obtain ⟨j,h1,h2,h3,h4,h5⟩:=atI_get he
 obtain ⟨w,ew,rw'⟩:=r.get h2
 have hl:=r.length
 have hn:=line63
 have fin:EP X pins σ Q w s:=⟨z,H,I,rw',q⟩
 exact subscriptTail_builtinR (x:=w) pl.typeIs slot_tuple_getitem.lookup
  (getItem_tuple (j:=j) (Q:=fun r s'=>r=w∧EP X pins σ Q r s') pl (by omega) (by omega) (by rw [List.size_toArray,← hl]; exact h1) (by simpa using ew) ⟨rfl,fin⟩) hs
theorem ix_str:IxR X rIxS:=by
 intro value slice pins s σ H x y v u Q I rx ry h hs
 obtain ⟨z,i,c,rfl,rfl,hz,he,q⟩:=h
 obtain ⟨t,rfl⟩:=rx
 obtain ⟨t',rfl⟩:=ry
 obtain ⟨j,h1,h2,h3,h4,h5⟩:=atI_get he
 have hl:z.cps.toList.length=z.length:=by simp [Str.length]
 rw [hl] at h1 h4 h5
 have hn:=line63
 exact tail_any (typeIs_str s z t) slot_str_getitem.lookup (getItem_str (c:=c) (by
  have e1:decide (i < -(2 ^ 63:Int))=false:=decide_eq_false (by omega)
  have e2:decide (i ≥ 2 ^ 63)=false:=decide_eq_false (by omega)
  rw [e1,e2,Bool.or_false]) (by rw [h1]; simpa using h2) ⟨.str ⟨#[c]⟩,H,I.tok _,⟨_,rfl⟩,q⟩) hs
noncomputable def rIx (K:PySem.W.Frag):R2:=fun x y H Q=>rIxL K x y H Q∨rIxT K x y H Q∨rIxS x y H Q
theorem ix_seq:IxR X (rIx X.K):=ix_list.or (ix_tup.or ix_str)
theorem mapSeq_set (its:List Value) (n j:Nat) (u:Value):Obj.mapSeq (·.setIfInBounds j u) { cls:=.type "list",data:=.seq its.toArray n }={ cls:=.type "list",data:=.seq (its.set j u).toArray n }:=by
 simp [Obj.mapSeq]
theorem Inv.lst {pins:List (Addr × Obj)} {σ:St} {H:Hp} {s:Shared} {p:Addr} {xs:List V} (I:Inv X pins σ H s) (h:H p=some (.lst xs)) :
  ∃ (its:List Value) (n:Nat),Vals xs its∧s.heap.get? p=some { cls:=.type "list",data:=.seq its.toArray n }∧xs.length≤sizeLine:=by
 obtain ⟨z,its,n,r,e⟩:=I.hok p _ h
 exact ⟨its,n,r,e,z⟩
theorem Inv.lstUpd {pins:List (Addr × Obj)} {σ:St} {H:Hp} {s:Shared} {p:Addr} {xs ys:List V} {its its':List Value} {n n':Nat} {f:Obj→Obj} (I:Inv X pins σ H s) (h:H p=some (.lst xs))
  (ho:s.heap.get? p=some { cls:=.type "list",data:=.seq its.toArray n }) (hf:f { cls:=.type "list",data:=.seq its.toArray n }={ cls:=.type "list",data:=.seq its'.toArray n' }) (r:Vals ys its') (hz:ys.length≤sizeLine) (t:Nat) :
  Inv X pins σ (upd H p (.lst ys)) { s with heap:=s.heap.update p f,toks:=t }:=by
 have e:(s.heap.update p f).get? p=some { cls:=.type "list",data:=.seq its'.toArray n' }:=by
  rw [Heap.get?_update_self f ho (by rw [hf] <;> rfl),hf]
 refine I.write (x:=p) (e:=p) (by rw [h]; trivial) (.inl rfl) (fun b u hb q=>(Heap.get?_update_other _ _ (Ne.symm hb)).trans q) ⟨_,e⟩ ?_
 exact ⟨hz,its',n',r,e⟩
def rSetL:V→V→V→Hp→(Hp→Prop)→Prop:=fun o i v H Q=>∃ p xs k j,o=.ref p∧i=.int k∧H p=some (.lst xs)∧ixN xs.length k=some j∧Q (upd H p (.lst (xs.set j v)))
theorem set_list:PSet X rSetL:=by
 intro pins s σ H o i v ov iv u Q I ro ri rv h
 obtain ⟨p,xs,k,j,rfl,rfl,hp,hj,q⟩:=h
 cases ro
 obtain ⟨t,rfl⟩:=ri
 obtain ⟨its,n,r,ho,hz⟩:=I.lst hp
 obtain ⟨h1,h2,h3,h4⟩:=ixN_seq hj
 have hl:=r.length
 have hn:=line63
 have I':Inv X pins σ (upd H p (.lst (xs.set j v))) { s with heap:=s.heap.update p (Obj.mapSeq (·.setIfInBounds j u)) } :=
  I.lstUpd hp ho (mapSeq_set its n j u) (r.set rv j) (by rw [List.length_set]; exact hz) s.toks
 by_cases h0:0≤k
 ·have hk:k.toNat=j:=by
   rw [seqIndex_of h0 h4] at h1
   exact Option.some.inj h1
  exact PySem.W.ki_setAt ho h0 (by omega) (by rw [List.size_toArray,← hl]; exact h4) (by rw [hk]; exact ⟨_,I',q⟩)
 ·have hk:(k+(its.toArray.size:Int)).toNat=j:=by
   rw [seqIndex_neg (by omega) h3] at h1
   rw [List.size_toArray,← hl]
   exact Option.some.inj h1
  exact PySem.W.ki_setBack ho (by omega) (by rw [List.size_toArray,← hl]; exact h3) (by omega) (by rw [hk]; exact ⟨_,I',q⟩)
theorem slice_bounds (lo hi:Option Int) (n:Nat):(sliceBounds lo hi none n).1=((HT.sIx n 0 lo:Nat):Int)∧(sliceBounds lo hi none n).2.1=((HT.sIx n n hi:Nat):Int)∧(sliceBounds lo hi none n).2.2=1:=by
 refine ⟨?_, ?_,rfl⟩
 ·cases lo with
  | none=>simp [sliceBounds,HT.sIx]
  | some i =>
   simp only [sliceBounds,HT.sIx,Option.getD_none,show (1:Int) > 0 by decide,if_true]
   by_cases h:i<0
   ·simp only [h,if_true] <;> omega
   ·simp only [h,if_false] <;> omega
 ·cases hi with
  | none=>simp [sliceBounds,HT.sIx]
  | some i =>
   simp only [sliceBounds,HT.sIx,Option.getD_none,show (1:Int) > 0 by decide,if_true]
   by_cases h:i<0
   ·simp only [h,if_true] <;> omega
   ·simp only [h,if_false] <;> omega
theorem slicePick_cut (its:List Value) (lo hi:Option Int):slicePick its.toArray lo hi none=((its.drop (HT.sIx its.length 0 lo)).take (HT.sIx its.length its.length hi - HT.sIx its.length 0 lo)).toArray:=by
 obtain ⟨h1,h2,h3⟩:=slice_bounds lo hi its.toArray.size
 unfold slicePick
 rw [h1,h2,h3]
 simp only [sliceRange_one,pick_run,List.size_toArray] <;> rfl
def rSlL (K:PySem.W.Frag):V→Option Int→Option Int→Hp→VK→Prop:=fun x lo hi H Q=>∃ a xs,x=.ref a∧SqL K H a xs∧∀ p,H p=none→Q (.ref p) (upd H p (.lst (cutV xs lo hi)))
theorem sl_list:SlR X (rSlL X.K):=by
 intro pins s σ H x v vl vu lo hi sl Q I rx hs pl pu h
 obtain ⟨a,xs,rfl,hx,q⟩:=h
 cases rx
 obtain ⟨its,r,ht,hz⟩:=I.list hx
 have hlen:=r.length
 refine ⟨"list",_,slot_list_getitem.lookup,ht.isList.typeIs, ?_⟩
 refine wpAny_getItem_list_slice ht.isList hs pl pu .none (by simp) ?_ (by rw [List.size_toArray] <;> omega)
 rw [slicePick_cut,← hlen]
 refine ⟨.ref s.heap.objs.size,_,I.laid (t':=s.toks) (o:=.lst (cutV xs lo hi)) (fun b ob q=>Heap.get?_push_of_some _ q) (Nat.le_refl _) ?_,rfl,q _ (I.hok.fresh (Nat.le_refl _))⟩
 exact ⟨Nat.le_trans (cutV_length xs lo hi) hz,_,0,(r.drop (HT.sIx xs.length 0 lo)).take (HT.sIx xs.length xs.length hi - HT.sIx xs.length 0 lo),Heap.get?_push_size _ rfl⟩
noncomputable def flatV:V→Bool
 | .non=>true
 | .bl _=>true
 | .int _=>true
 | .str _=>true
 | _=>false
noncomputable def eqV:V→V→Bool
 | .non,.non=>true
 | .bl a,.bl b=>a == b
 | .bl a,.int b=>(if a then 1 else 0) == b
 | .int a,.bl b=>a == (if b then 1 else 0)
 | .int a,.int b=>a == b
 | .str a,.str b=>a == b
 | _,_=>false
theorem eqAt_V {A:Around} {s:Shared} {y x:V} {u v:Value} (ry:RelV y u) (rx:RelV x v) (fy:flatV y=true) (fx:flatV x=true):SeqAt.EqAt A s u v (eqV y x):=by
 cases y with
 | non =>
  cases ry
  cases x with
  | non=>cases rx; exact SeqAt.EqAt.same _
  | bl b=>cases rx; exact SeqAt.EqAt.none_bool b
  | int b=>obtain ⟨t,rfl⟩:=rx; exact SeqAt.EqAt.none_int b t
  | str b=>obtain ⟨t,rfl⟩:=rx; exact SeqAt.EqAt.none_str b t
  | _=>exact absurd (show false=true from fx) Bool.false_ne_true
 | bl a =>
  cases ry
  cases x with
  | non=>cases rx; exact SeqAt.EqAt.bool_none a
  | bl b=>cases rx; exact SeqAt.EqAt.bool_bool a b
  | int b=>obtain ⟨t,rfl⟩:=rx; exact SeqAt.EqAt.bool_int a b t
  | str b=>obtain ⟨t,rfl⟩:=rx; exact SeqAt.EqAt.bool_str a b t
  | _=>exact absurd (show false=true from fx) Bool.false_ne_true
 | int a =>
  obtain ⟨t',rfl⟩:=ry
  cases x with
  | non=>cases rx; exact SeqAt.EqAt.int_none a t'
  | bl b=>cases rx; exact SeqAt.EqAt.int_bool a t' b
  | int b=>obtain ⟨t,rfl⟩:=rx; exact SeqAt.EqAt.int_int a t' b t
  | str b=>obtain ⟨t,rfl⟩:=rx; exact SeqAt.EqAt.int_str a t' b t
  | _=>exact absurd (show false=true from fx) Bool.false_ne_true
 | str a =>
  obtain ⟨t',rfl⟩:=ry
  cases x with
  | non=>cases rx; exact SeqAt.EqAt.str_none a t'
  | bl b=>cases rx; exact SeqAt.EqAt.str_bool a t' b
  | int b=>obtain ⟨t,rfl⟩:=rx; exact SeqAt.EqAt.str_int a t' b t
  | str b=>obtain ⟨t,rfl⟩:=rx; exact SeqAt.EqAt.str_str a t' b t
  | _=>exact absurd (show false=true from fx) Bool.false_ne_true
 | _=>exact absurd (show false=true from fy) Bool.false_ne_true
noncomputable def eqU (x:V) (u:Value):Bool:=match u with
 | .none=>eqV .non x
 | .bool b=>eqV (.bl b) x
 | .int i _=>eqV (.int i) x
 | .str z _=>eqV (.str z) x
 | _=>false
theorem eqU_of {x y:V} {u:Value} (r:RelV y u) (f:flatV y=true):eqU x u=eqV y x:=by
 cases y with
 | non=>cases r; rfl
 | bl b=>cases r; rfl
 | int i=>obtain ⟨t,rfl⟩:=r; rfl
 | str z=>obtain ⟨t,rfl⟩:=r; rfl
 | _=>exact absurd (show false=true from f) Bool.false_ne_true
theorem any_eqU {x:V}:∀ {xs:List V} {us:List Value},Vals xs us→xs.all flatV=true→us.any (eqU x)=xs.any fun y=>eqV y x
 | _,_,.nil,_=>rfl
 | y :: xs,u :: us,.cons r t,f=>by
  rw [List.all_cons,Bool.and_eq_true] at f
  rw [List.any_cons,List.any_cons,eqU_of r f.1,any_eqU t f.2]
theorem mem_eqAt {A:Around} {s:Shared} {x:V} {v:Value} (rx:RelV x v) (fx:flatV x=true):∀ {xs:List V} {us:List Value},Vals xs us→xs.all flatV=true→∀ u∈us,SeqAt.EqAt A s u v (eqU x u)
 | _,_,.nil,_=>fun u hu=>by cases hu
 | y :: xs,u :: us,.cons r t,f=>fun u' hu=>by
  rw [List.all_cons,Bool.and_eq_true] at f
  rcases List.mem_cons.mp hu with rfl | hu
  ·rw [eqU_of r f.1]; exact eqAt_V r rx f.1 fx
  ·exact mem_eqAt rx fx t f.2 u' hu
noncomputable def inV (x:V) (xs:List V):Bool:=xs.any fun y=>eqV y x
noncomputable def rIn (K:PySem.W.Frag) (neg:Bool):R2:=fun x y H Q=>∃ p xs,y=.ref p∧(SqL K H p xs∨SqT K H p xs)∧flatV x=true∧xs.all flatV=true∧Q (.bl (if neg then !inV x xs else inV x xs)) H
theorem op_in_seq:OpR X (compareOp .In) (rIn X.K false):=by
 intro pins s σ H x y v u Q I rx ry h
 obtain ⟨p,xs,rfl,hq,fx,fs,q⟩:=h
 cases ry
 rcases hq with hq | hq
 ·obtain ⟨its,r,pl,hz⟩:=I.list hq
  refine SeqAt.in_listAt (eqU x) pl.isList (fun w hw=>mem_eqAt rx fx r fs w (by simpa using hw)) ⟨.bl _,H,I,rfl, ?_⟩
  rw [show its.toArray.any (eqU x)=its.any (eqU x) by simp,any_eqU r fs]
  exact q
 ·obtain ⟨its,r,pl,hz⟩:=I.tuple hq
  refine SeqAt.in_tupleAt (eqU x) pl (fun w hw=>mem_eqAt rx fx r fs w (by simpa using hw)) ⟨.bl _,H,I,rfl, ?_⟩
  rw [show its.toArray.any (eqU x)=its.any (eqU x) by simp,any_eqU r fs]
  exact q
theorem call_len_seq:CallR X (.builtin "len") (fun xs H Q=>∃ p ys,xs=[.ref p]∧(SqL X.K H p ys∨SqT X.K H p ys)∧Q (.int ys.length) H):=by
 intro pins s σ H xs us Q I r h
 obtain ⟨p,ys,rfl,hq,q⟩:=h
 obtain ⟨u,rfl,rx⟩:=vals1 r
 cases rx
 have hn:=line63
 rcases hq with hq | hq
 ·obtain ⟨its,r',pl,hz⟩:=I.list hq
  have hlen:=r'.length
  exact Calls.call_len_list pl.isList (by simp only [List.size_toArray] <;> omega) ⟨.int ys.length,H,I.tok _,⟨s.toks+1,by rw [List.size_toArray,hlen]⟩,q⟩
 ·obtain ⟨its,r',pl,hz⟩:=I.tuple hq
  have hlen:=r'.length
  exact len_tuple pl (by simp only [List.size_toArray] <;> omega) ⟨.int ys.length,H,I.tok _,⟨s.toks+1,by rw [List.size_toArray,hlen]⟩,q⟩
theorem call_len_str:CallR X (.builtin "len") (fun xs H Q=>∃ z,xs=[.str z]∧z.length≤sizeLine∧Q (.int z.length) H):=by
 intro pins s σ H xs us Q I r h
 obtain ⟨z,rfl,hz,q⟩:=h
 obtain ⟨u,rfl,t,rfl⟩:=vals1 r
 have hn:=line63
 exact len_str (by omega) ⟨.int z.length,H,I.tok _,⟨_,rfl⟩,q⟩
theorem call_tuple_of:CallR X (.type "tuple") (fun xs H Q=>∃ p ys,xs=[.ref p]∧((SqL X.K H p ys∧∀ l,H l=none→Q (.ref l) (upd H l (.tup ys)))∨(SqT X.K H p ys∧Q (.ref p) H))):=by
 intro pins s σ H xs us Q I r h
 obtain ⟨p,ys,rfl,h⟩:=h
 obtain ⟨u,rfl,rx⟩:=vals1 r
 cases rx
 rcases h with ⟨hq,q⟩ | ⟨hq,q⟩
 ·obtain ⟨its,r',pl,hz⟩:=I.list hq
  have hlen:=r'.length
  refine call_tuple_list pl.isList (fun h' kp=>?_) (by simp only [List.size_toArray] <;> omega)
  have I1:Inv X pins σ H { s with heap:=h' }:=I.kept (t':=s.toks) kp
  have I2:Inv X pins σ (upd H h'.objs.size (.tup ys)) { s with heap:=h'.push { cls:=.type "tuple",data:=.seq its.toArray } } :=
   I1.laid (t':=s.toks) (fun b o e=>Heap.get?_push_of_some _ e) (Nat.le_refl _) (show ObjOk X.prog X.w _ _ _ (.tup ys) from ⟨hz,its,r',IsTup.new _ _⟩)
  exact ⟨.ref h'.objs.size,_,I2,rfl,q _ (I1.hok.fresh (Nat.le_refl _))⟩
 ·obtain ⟨its,r',pl,hz⟩:=I.tuple hq
  exact call_tuple_same pl ⟨.ref p,H,I,rfl,q⟩
def tyV (K:PySem.W.Frag) (T:String) (x:V) (H:Hp):Prop:=match x with
 | .str _=>T="str"
 | .int _=>T="int"
 | .ref p=>(T="list"∧∃ xs,SqL K H p xs)∨(T="tuple"∧∃ o,K.lookup p=some o∧o.cls=.type "tuple"∧o.dict=none) ∨
   (T="dict"∧((∃ kvs,H p=some (.dK kvs))∨∃ kvs,H p=some (.dT kvs)))∨(T="set"∧∃ S n,H p=some (.set S n))
 | _=>False
theorem tyV_is {pins:List (Addr × Obj)} {σ:St} {H:Hp} {s:Shared} {T:String} {x:V} {v:Value} (I:Inv X pins σ H s) (r:RelV x v) (ty:tyV X.K T x H) :
  s.TypeIs v T∧∀ a,v=.ref a→∃ ob,s.heap.get? a=some ob∧ob.dict=none:=by
 cases x with
 | str z =>
  obtain ⟨t,rfl⟩:=r
  cases (show T="str" from ty)
  exact ⟨typeIs_str s z t,fun _ e=>nomatch e⟩
 | int i =>
  obtain ⟨t,rfl⟩:=r
  cases (show T="int" from ty)
  exact ⟨typeIs_int s i t,fun _ e=>nomatch e⟩
 | ref p =>
  cases r
  rcases ty with ⟨rfl,xs,hq⟩ | ⟨rfl,o,hk,hc,hd⟩ | ⟨rfl,hk⟩ | ⟨rfl,S,n,hk⟩
  ·obtain ⟨its,_,pl,_⟩:=I.list hq
   refine ⟨pl.isList.typeIs,fun a e=>?_⟩
   cases e
   obtain ⟨o,n,e,c,hd,_⟩:=pl
   exact ⟨o,e,hd⟩
  ·refine ⟨⟨o,I.kIn p o hk,hc⟩,fun a e=>?_⟩
   cases e
   exact ⟨o,I.kIn _ o hk,hd⟩
  ·have z:∃ o,s.heap.get? p=some o∧o.ExactDict:=by
    rcases hk with ⟨kvs,hk⟩ | ⟨kvs,hk⟩
    ·obtain ⟨_,_,_,_,o,_,_,e,ex,_⟩:=I.hok p _ hk
     exact ⟨o,e,ex⟩
    ·obtain ⟨_,_,_,_,o,_,_,e,ex,_⟩:=I.hok p _ hk
     exact ⟨o,e,ex⟩
   obtain ⟨o,e,ex⟩:=z
   refine ⟨⟨o,e,ex.1⟩,fun a e2=>?_⟩
   cases e2
   exact ⟨o,e,ex.2.1⟩
  ·obtain ⟨o,_,_,_,e,ex,_⟩:=I.hok p _ hk
   refine ⟨⟨o,e,ex.1⟩,fun a e2=>?_⟩
   cases e2
   exact ⟨o,e,ex.2.1⟩
 | _=>exact False.elim ty
noncomputable def tBM0 (K:PySem.W.Frag) (T:String) (r:V→List V→Hp→VK→Prop) (to:TE):TE:=fun σ H Q=>to σ H fun x H1=>tyV K T x H1∧r x [] H1 Q
noncomputable def tBM (K:PySem.W.Frag) (T:String) (r:V→List V→Hp→VK→Prop) (to:TE) (t:TA):TE:=fun σ H Q=>to σ H fun x H1=>tyV K T x H1∧t σ H1 fun xs H2=>r x xs H2 Q
variable {o e:Expr} {es:List Expr} {to:TE} {t:TA} {name:Str} {apos cpos:Pos} {T id:String} {r:V→List V→Hp→VK→Prop}
theorem pe_bm0 (pa:PlainAttrs T) (slot:Slot T name id) (hty:typeOf (.builtin id)=pure (.type "method_descriptor")) (hm:MtR X id r) (ho:PE X o to)
  (hbase:attributeBase o name X.env (eval o X.env)=eval o X.env:=by rfl) (hline:(apos.endLine == cpos.line)=true:=by rfl):PE X (.Call (.Attribute o name apos) [] [] cpos) (tBM0 X.K T r to):=by
 intro pins s σ H Q I h
 refine wpAny_Call_method0_late hbase hline (thn (ho pins s σ H _ I h) fun v s1 ⟨x,H1,I1,r1,ty,q1⟩=>?_)
 obtain ⟨h1,h2⟩:=tyV_is I1 r1 ty
 exact ⟨T,id,pa,slot,hty,h1,h2,Calls.callWith_builtin rfl (PySem.evalArgs_none (hm pins s1 σ H1 x [] v [] Q I1 r1 .nil q1))⟩
theorem pe_bm (pa:PlainAttrs T) (slot:Slot T name id) (hty:typeOf (.builtin id)=pure (.type "method_descriptor")) (hm:MtR X id r) (ho:PE X o to) (ha:PA X (e :: es) t)
  (hbase:attributeBase o name X.env (eval o X.env)=eval o X.env:=by rfl)
  (hfew:((backTo cpos (starEach (e :: es) X.env)).all (fun x=>!x.1) && (backToKw cpos (keywordEach [] X.env)).all (fun x=>x.1.isSome)
   && decide ((e :: es).length+([]:List Keyword).length+(if ([]:List Keyword).isEmpty then 0 else 1)<30))=true:=by rfl)
  (hline:(apos.endLine == cpos.line)=true:=by rfl) (hs:starEach (e :: es) X.env=(false,eval e X.env) :: starEach es X.env:=by rfl) (hplain:(backTo cpos (starEach es X.env)).any (·.1)=false:=by rfl) :
  PE X (.Call (.Attribute o name apos) (e :: es) [] cpos) (tBM X.K T r to t):=by
 intro pins s σ H Q I h
 refine wpAny_Call_method_late hbase hfew hline rfl (thn (ho pins s σ H _ I h) fun v s1 ⟨x,H1,I1,r1,ty,q1⟩=>?_)
 obtain ⟨h1,h2⟩:=tyV_is I1 r1 ty
 refine ⟨T,id,pa,slot,hty,h1,h2, ?_⟩
 have hA:=ha cpos pins s1 σ H1 _ I1 q1
 rw [hs] at hA ⊢
 refine Calls.callWith_builtin (by show (false || (backTo cpos (starEach es X.env)).any (·.1))=false; rw [hplain] <;> rfl) (Calls.evalArgs_plain ?_)
 exact thn hA fun us s2 ⟨vs,H2,I2,r2,q2⟩=>hm pins s2 σ H2 x vs v us Q I2 r1 r2 q2
end
def MtM (X:Cx) (id:String) (r:V→List V→Hp→VK→Prop):Prop :=
 ∀ (pins:List (Addr × Obj)) (s:Shared) (σ:St) (H:Hp) (x:V) (xs:List V) (v:Value) (us:List Value) (Q:VK),Inv X pins σ H s→RelV x v→Vals xs us→r x xs H Q →
  wpAny (model X.prog X.w) X.A (call (.builtin id) (v :: us)) (EP X pins σ Q) X.xe s
theorem Vals.one:∀ {x:V} {us:List Value},Vals [x] us→∃ u,us=[u]∧RelV x u
 | _,_,.cons r .nil=>⟨_,rfl,r⟩
theorem Vals.rep {xs:List V} {us:List Value} (h:Vals xs us):∀ k:Nat,Vals (List.replicate k xs).flatten (List.replicate k us).flatten
 | 0=>.nil
 | k+1=>by
  rw [List.replicate_succ,List.replicate_succ,List.flatten_cons,List.flatten_cons]
  exact Vals.append h (Vals.rep h k)
section
variable {X:Cx} {pins:List (Addr × Obj)} {σ:St} {H:Hp} {s:Shared} {l b:Addr} {xs ys zs:List V}
theorem Inv.lset {its its':List Value} {n:Nat} {f:Array Value→Array Value} {t':Nat} (I:Inv X pins σ H s) (hH:H l=some (.lst xs))
  (e:s.heap.get? l=some { cls:=.type "list",data:=.seq its.toArray n }) (hf:f its.toArray=its'.toArray) (hv:Vals ys its') (hz:ys.length≤sizeLine) :
  Inv X pins σ (upd H l (.lst ys)) { s with heap:=s.heap.update l (Obj.mapSeq f),toks:=t' }:=by
 have q:=PySem.IsL.update e f
 rw [hf] at q
 refine I.write (x:=l) (e:=l) (by rw [hH]; exact trivial) (.inl rfl) (fun b' u hb hu=>(Heap.get?_update_other s.heap (Obj.mapSeq f) (Ne.symm hb)).trans hu) ⟨_,q⟩ ?_
 exact ⟨hz,its',_,hv,q⟩
theorem Inv.lnew {its:List Value} {t':Nat} (I:Inv X pins σ H s) (hv:Vals ys its) (hz:ys.length≤sizeLine) :
  Inv X pins σ (upd H s.heap.objs.size (.lst ys)) { s with heap:=s.heap.push { cls:=.type "list",data:=.seq its.toArray },toks:=t' } :=
 I.laid (fun _ _ q=>Heap.get?_push_of_some _ q) (Nat.le_refl _) ⟨hz,its,0,hv,Heap.get?_push_size _ rfl⟩
theorem Inv.fresh (I:Inv X pins σ H s):H s.heap.objs.size=none:=I.hok.fresh (Nat.le_refl _)
theorem Inv.lstM (I:Inv X pins σ H s) (hH:H l=some (.lst xs)):xs.length≤sizeLine∧∃ (its:List Value) (n:Nat),Vals xs its∧xs.length=its.length∧s.heap.get? l=some { cls:=.type "list",data:=.seq its.toArray n }:=by
 obtain ⟨z,its,n,r,e⟩:=I.hok l _ hH
 exact ⟨z,its,n,r,r.length,e⟩
theorem notLongL {n:Nat} (h:n≤sizeLine):Builtin.List.listTooLong n=false:=by
 unfold Builtin.List.listTooLong
 exact decide_eq_false (by omega)
end
section
variable {X:Cx}
def rAppend:V→List V→Hp→VK→Prop:=fun x vs H Q=>∃ l xs y,x=.ref l∧vs=[y]∧H l=some (.lst xs)∧xs.length<sizeLine∧Q .non (upd H l (.lst (xs ++ [y])))
theorem mt_append:MtM X "list.append" rAppend:=by
 intro pins s σ H x vs v us Q I rx rv h
 obtain ⟨l,xs,y,rfl,rfl,hH,hz,q⟩:=h
 cases rx
 obtain ⟨u,rfl,ru⟩:=rv.one
 obtain ⟨z,its,n,r,hl,e⟩:=I.lstM hH
 refine call_meets F.slot_list_append ⟨_,e,rfl⟩ F.entry_list_append (F.args_list_append_2 _ _) (PySem.list_append l its.toArray n u (by rw [List.size_toArray]; omega)) ⟨e, ?_⟩
 refine ⟨.non,_,I.lset (its':=its ++ [u]) hH e (by simp) (r.append (.cons ru .nil)) ?_,rfl,q⟩
 rw [List.length_append,List.length_singleton]
 omega
def rExtend:V→List V→Hp→VK→Prop:=fun x vs H Q=>∃ l b xs zs,x=.ref l∧vs=[.ref b]∧H l=some (.lst xs)∧H b=some (.lst zs)∧xs.length+zs.length≤sizeLine∧Q .non (upd H l (.lst (xs ++ zs)))
theorem mt_extend:MtM X "list.extend" rExtend:=by
 intro pins s σ H x vs v us Q I rx rv h
 obtain ⟨l,b,xs,zs,rfl,rfl,hH,hB,hz,q⟩:=h
 cases rx
 obtain ⟨u,rfl,ru⟩:=rv.one
 cases ru
 obtain ⟨z,its,n,r,hl,e⟩:=I.lstM hH
 obtain ⟨z2,its2,n2,r2,hl2,e2⟩:=I.lstM hB
 have hsz:its.toArray.size+its2.toArray.size≤sizeLine:=by rw [List.size_toArray,List.size_toArray]; omega
 have hlong:¬ (!its.toArray.isEmpty && Builtin.List.listTooLong (its.toArray.size+its2.toArray.size))=true:=by
  rw [notLongL hsz,Bool.and_false]
  exact Bool.false_ne_true
 refine call_meets F.slot_list_extend ⟨_,e,rfl⟩ F.entry_list_extend (F.args_list_extend_2 _ _)
  (AutoSeq1.list_extend_list_list_0 l its.toArray n b its2.toArray n2 hlong (by rw [List.size_toArray]; omega) (by omega)) ⟨e,e2, ?_⟩
 refine ⟨.non,_,I.lset (its':=its ++ its2) hH e (by simp) (r.append r2) ?_,rfl,q⟩
 rw [List.length_append]
 omega
end
section
variable {prog:Program} {w:World} {A:Around} {E:Value→Shared→Prop} {s:Shared}
end
section
variable {X:Cx}
end
end L2
namespace Att
open PySem PySem.W PySem.Calls PyProof.Rows
theorem ints_of_wellAll {P:Params} {h:Heap}:∀ (ns:List Int) (vs:List Value),WellAll P h vs (ns.map WData.int)→IntsAre vs ns:=by
 intro ns
 induction ns with
 | nil =>
  intro vs w
  rw [List.map_nil] at w
  cases w
  exact .nil
 | cons n ns ih =>
  intro vs w
  rw [List.map_cons] at w
  cases w with
  | cons a b =>
   cases a
   exact .cons _ _ (ih _ b)
theorem script_of {l:OpenLaw} {n:Nat} (hn:l.most=some n) {P:Params} {h:Heap} {args:List WData} {vals:List Value}
  (hpre:l.row.toRowW.claim.pre args=true) (hwl:WellAll P h vals args) :
  ∃ a vs ns,vals=[Value.ref a]∧args=[WData.list (ns.map WData.int)]∧h.get? a=some { cls:=.type "list",data:=.seq vs.toArray }∧IntsAre vs ns∧ns.length≤n:=by
 have hsh:WShape.hasAll [] args [.list .int]=true:=(pre_splitW hpre).1
 have hc:l.pre.holds [] { args:=args }=true:=(pre_splitW hpre).2
 obtain ⟨d,r,rfl,h1,h2⟩:=hasAllW_cons hsh
 obtain rfl:=hasAllW_nil h2
 obtain ⟨xs,rfl,h3⟩:=hasW_list h1
 obtain ⟨ns,rfl⟩:=items_int h3
 have hlen:ns.length≤n:=by
  unfold OpenLaw.pre at hc
  have h4:(WTm.not (.lt (.lit (.int (n:Int))) (.len (.arg 0)))).holds [] { args:=[.list (ns.map .int)] }=true:=by
   have h4:=(holds_andW hc).1
   rw [hn] at h4
   exact h4
  have h5:=condW_of h4 (w_not (w_lt w_lit (w_len_list (w_arg rfl))))
  rw [List.length_map] at h5
  refine Nat.le_of_not_lt fun q=>?_
  have q':(n:Int)<((ns.length:Nat):Int):=by omega
  first
   | (rw [decide_eq_true q'] at h5; exact absurd h5 (by decide))
   | (simp at h5; omega)
 cases hwl with
 | cons w1 w2 =>
  cases w2
  cases w1 with
  | list ho hall=>exact ⟨_,_,ns,rfl,rfl,ho,ints_of_wellAll ns _ hall,hlen⟩
theorem post_true (l:OpenLaw) (args:List WData):l.row.toRowW.claim.post args (.bool true) args=true :=
 postW_of (r:=l.row.toRowW) (X:=(true == true))
  (show WShape.has [] (.bool true) .bool=true by first | rfl | decide | simp [WShape.has,WShape.arms,WShape.armsAll])
  (show (WTm.eq .res (.lit (.bool true))).value [] { args:=args,res:=some (.bool true),after:=args }=some (.bool (true == true)) from w_eq_bool (w_res rfl) w_lit) rfl
theorem attach_call {l:OpenLaw} {n:Nat} {q:Program} {loose:List Str} {XP:(Str→Option Value)→Heap→Prop} {YP:World→Heap→Prop} {d:DefRec}
  (hn:l.most=some n) (hdf:d.params.defaults=[])
  (call:∀ (w:World) (s₀ s₁:Shared) (mg mb:Str→Option Value) (fa:Addr) (o:Obj) (pm cd doc:Value) (a:Addr) (vs:List Value) (ns:List Int),
   Ground q loose [] XP w s₀ mg mb s₁.heap→YP w s₁.heap →
   s₁.heap.get? fa=some o→o.data=.func (docDef d.name d.params d.body d.scope pm cd doc)→s₁.heap.CodeRec cd d.name→mg d.name=some (.ref fa) →
   s₁.heap.get? a=some { cls:=.type "list",data:=.seq vs.toArray }→IntsAre vs ns→ns.length≤n→s₁.gens=#[] →
   codeAny (model l.prog w) callerA (.call (.ref fa) ⟨[.ref a],[]⟩) (fun r s'=>r=.ok (.ret (.bool true))∧OldK s₁.heap s'.heap∧s'.os=s₁.os∧AllBare s'.gens) s₁) :
  WalkO q loose XP YP l.row.toRowW d [] (fun f vs=>PySem.call f vs):=by
 intro w s₀ s₁ mg mb G Y fa o pm cd doc dV kV ho hd hcd hD hmg hg args vals as hpre hlay hrd hwl hlo
 obtain rfl:dV=.none:=Dflts.none hD hdf
 obtain rfl:kV=.none:=Dflts.noKw hD
 obtain ⟨a,vs,ns,rfl,rfl,hobj,hints,hlen⟩:=script_of hn hpre hwl
 refine enter_call (codeAny_mono (call w s₀ s₁ mg mb fa o pm cd doc a vs ns G Y ho (fd_plain hd) hcd hmg hobj hints hlen hg) fun r s' hq=>?_)
 obtain ⟨rfl,h2,h3,h4⟩:=hq
 exact ⟨.inl ⟨.bool true,.bool true,[],rfl,fun _=>rfl,.bool true,post_true l _,fun _=>⟨List.Pairwise.nil,fun _ hm=>(nomatch hm)⟩⟩,h2,h3,h4⟩
section
variable {prog:Program} {w:World} {A:Around} {E:Value→Shared→Prop} {s:Shared} {K:Frag}
end
end Att
namespace L2
open PySem PySem.Spec PyProof.Rows
theorem vals_ints:∀ {vs:List Value} {ns:List Int},IntsAre vs ns→Vals (ns.map V.int) vs
 | _,_,.nil=>.nil
 | _,_,.cons n t h=>.cons ⟨t,rfl⟩ (vals_ints h)
def Only (H:Hp):Prop:=∀ b,H b=none∨∃ o xs,H b=some (.frz o (.lst xs))
theorem law_call {P:Program} {w:World} {K:PySem.W.Frag} {mg mb:Str→Option Value} {CX:CXT} {k:Nat} {fa a:Addr} {fd:FuncData} {x:Str} {sp:Sp} {s₁:Shared} {vs:List Value} {ns:List Int}
  (KX:K.In s₁.heap) (hns:s₁.heap.Ns mainGlobals mg) (hb:s₁.heap.Ns builtinsNs mb) (hbb:∀ x:Str,x≠"__name__"→mb x=bootBuiltins x) (hlim:s₁.heap.NoLimit) (hg:s₁.gens=#[])
  (ha:s₁.heap.get? a=some { cls:=.type "list",data:=.seq vs.toArray }) (hi:IntsAre vs ns) (hl:ns.length≤sizeLine) (hr:Room k callerA)
  (F:∀ base:Heap,K.In base→base.Ns mainGlobals mg→FnOk P w K mg base CX k fa fd [x] sp) (hbind:∀ (s:Shared) (u:Value),BindsTo s fd ⟨[u],[]⟩ [(x,u)])
  (hsp:∀ H:Hp,Only H→SqL K H a (ns.map V.int)→sp [.ref a] H (fun v _=>v=.bl true) fun _ _ _=>False)
  (hCX:∀ H e s',CX [] H s₁ (fun _ _ _=>False) e s'→False) :
  codeAny (model P w) callerA (.call (.ref fa) ⟨[.ref a],[]⟩) (fun r s'=>r=.ok (.ret (.bool true))∧OldK s₁.heap s'.heap∧s'.os=s₁.os∧AllBare s'.gens) s₁:=by
 have rv:=vals_ints hi
 have lenV:=hi.length
 -- from an abstract heap in which nothing but the script may be tracked
 have core:∀ H:Hp,Only H→SqL K H a (ns.map V.int)→HOk P w H s₁.heap→(∀ b,H b≠none→b=a)→(H a≠none→K.lookup a=none) →
   codeAny (model P w) callerA (.call (.ref fa) ⟨[.ref a],[]⟩) (fun r s'=>r=.ok (.ret (.bool true))∧OldK s₁.heap s'.heap∧s'.os=s₁.os∧AllBare s'.gens) s₁:=by
  intro H hO hS hok hA hK
  have base_of:∀ {b:Addr} {o:Obj},s₁.heap.get? b=some o→H b=none→(hidT s₁.heap H).get? b=some o:=fun e n=>hidT_get e n
  have noA:∀ {b:Addr} {o:Obj} {es:Array DictEntry} {ep:Nat},s₁.heap.get? b=some o→o.data=.dict es ep→H b=none:=fun {b o es ep} e d=>by
   cases q:H b with
   | none=>rfl
   | some u =>
    have e':b=a:=hA b (by rw [q]; simp)
    subst e'
    rw [ha] at e; cases e
    have d':Data.seq vs.toArray _=Data.dict es ep:=d
    cases d'
  have nsK:∀ {b:Addr} {m:Str→Option Value},s₁.heap.Ns b m→(hidT s₁.heap H).Ns b m:=fun {b m} ⟨o,es,ep,e,d,r⟩=>⟨o,es,ep,base_of e (noA e d),d,r⟩
  have hKb:K.In (hidT s₁.heap H):=fun b o e=>base_of (KX b o e) (by
   cases q:H b with
   | none=>rfl
   | some u =>
    have e':b=a:=hA b (by rw [q]; simp)
    subst e'
    rw [hK (by rw [q]; simp)] at e; cases e)
  have hM:Mod K mg (hidT s₁.heap H):=⟨hKb,nsK hns,⟨mb,nsK hb,hbb⟩,let ⟨mc,h1,h2⟩:=hlim; ⟨mc,nsK h1,h2⟩⟩
  have e0:Env0 P w K mg (hidT s₁.heap H) callerA [] s₁ H:=⟨rfl,hM,fun b o e=>of_hidT e,Nat.le_of_eq (hidT_size _ _),trivial,fun b hb=>absurd (show b∈([]:List Addr) from hb) (by simp),hok,.of_eq hg⟩
  refine codeAny_mono ((F _ hKb (nsK hns)).run callerA [] s₁ H ⟨[.ref a],[]⟩ [.ref a] [.ref a] _ _ hr e0 (hbind s₁ (.ref a)) (.cons rfl .nil) (hsp H hO hS)) fun r s' h=>?_
  cases r with
  | error e=>exact (hCX H e s' h).elim
  | ok fl =>
   cases fl with
   | next=>exact False.elim h
   | brk=>exact False.elim h
   | cont=>exact False.elim h
   | ret u =>
    obtain ⟨v,H',os,bare,un,hok',r',q⟩:=h
    have q':v=.bl true:=q
    subst q'
    obtain rfl:u=Value.bool true:=r'
    refine ⟨rfl,OldK.of_keep fun b o e=>?_,os,bare⟩
    cases q:H b with
    | none=>exact un.keep b o e q (by intro z; exact absurd (show b∈([]:List Addr) from z) (by simp)) (by simp)
    | some u =>
     rcases hO b with z | ⟨ob,xs,z⟩
     ·rw [q] at z; cases z
     ·have z2:=un.frzs b ob _ z
      obtain ⟨e1,_⟩:=hok b _ z
      obtain ⟨e2,_⟩:=hok' b _ z2
      rw [e] at e1; cases e1
      exact e2
 cases hk:K.lookup a with
 | some o =>
  -- the script is one of the module's own objects
  have e:=KX a o hk
  rw [ha] at e
  cases e
  refine core (fun _=>none) (fun _=>.inl rfl) (.inr ⟨_,vs.toArray,_,hk,rfl,rfl,rfl,by rw [List.size_toArray,lenV]; exact hl,by simpa using rv⟩) (fun b u z=>by have z':(none:Option HO)=some u:=z; cases z') (fun b z=>absurd rfl z) fun z=>absurd rfl z
 | none =>
  refine core (fun b=>if b=a then some (.frz { cls:=.type "list",data:=.seq vs.toArray } (.lst (ns.map V.int))) else none) (fun b=>?_) (.inl (.inr ⟨{ cls:=.type "list",data:=.seq vs.toArray },if_pos rfl⟩)) (fun b u z=>?_) (fun b z=>?_) fun _=>hk
  ·by_cases hb:b=a
   ·exact .inr ⟨_,_,if_pos hb⟩
   ·exact .inl (if_neg hb)
  ·by_cases hb:b=a
   ·have z':=(if_pos hb).symm.trans z
    cases z'
    subst hb
    exact ⟨ha,by rw [List.length_map]; exact hl,vs,_,rv,ha⟩
   ·have z':=(if_neg hb).symm.trans z
    cases z'
  ·by_cases hb:b=a
   ·exact hb
   ·exact absurd (if_neg hb) z
abbrev KOf {K:PySem.W.Frag} {h:Heap} (_:K.In h):PySem.W.Frag:=K
theorem walk_of {l:PySem.W.OpenLaw} {n k:Nat} {q:Program} {loose:List Str} {XP:(Str→Option Value)→Heap→Prop} {YP:World→Heap→Prop} {d:DefRec} {K:Params→PySem.W.Frag} {CX:World→CXT} {sp:World→Sp} {x:Str}
  (hn:l.most=some n) (hn2:n≤sizeLine) (hdf:d.params.defaults=[]) (hr:Room k callerA)
  (hY:∀ (w:World) (h:Heap),YP w h→(K w.params).In h)
  (F:∀ (w:World) (mg:Str→Option Value) (fa:Addr) (h:Heap),(K w.params).In h→h.Ns mainGlobals mg→mg d.name=some (.ref fa) →
   ∃ fd:FuncData,(∀ (s:Shared) (u:Value),BindsTo s fd ⟨[u],[]⟩ [(x,u)]) ∧
    ∀ base:Heap,(K w.params).In base→base.Ns mainGlobals mg→FnOk l.prog w (K w.params) mg base (CX w) k fa fd [x] (sp w))
  (hsp:∀ (w:World) (H:Hp) (a:Addr) (ns:List Int),ns.length≤n→Only H→SqL (K w.params) H a (ns.map V.int)→sp w [.ref a] H (fun v _=>v=.bl true) fun _ _ _=>False)
  (hCX:∀ (w:World) (H:Hp) (s:Shared) (e:Value) (s':Shared),CX w [] H s (fun _ _ _=>False) e s'→False) :
  PySem.W.WalkO q loose XP YP l.row.toRowW d [] (fun f vs=>PySem.call f vs):=by
 refine Att.attach_call hn hdf fun w s₀ s₁ mg mb fa o pm cd doc a vs ns G Y ho hd hcd hmg hobj hints hlen hg=>?_
 have KX:=hY w _ Y
 obtain ⟨fd,hb,hF⟩:=F w mg fa _ KX G.T.g hmg
 exact law_call KX G.T.g G.T.b G.T.builtins G.T.nolimit hg hobj hints (Nat.le_trans hlen hn2) hr hF hb (fun H hO hS=>hsp w H a ns hlen hO hS) fun H e s'=>hCX w H s₁ e s'
noncomputable def defArgs (s:Stmt):Arguments:=match s with
 | .FunctionDef _ a _ _ _ _ _ _ _ _=>a
 | _=>{ posonlyargs:=[],args:=[],vararg:=none,kwonlyargs:=[],kw_defaults:=[],kwarg:=none,defaults:=[] }
noncomputable def defBody (s:Stmt):List Stmt:=match s with
 | .FunctionDef _ _ b _ _ _ _ _ _ _=>b
 | _=>[]
noncomputable def defScope (s:Stmt):Scope:=match s with
 | .FunctionDef _ _ _ _ _ _ sc _ _ _=>sc
 | _=>{ kind:=.function,names:=[],isGenerator:=false,isCoroutine:=false }
abbrev CX0:CXT:=fun _ _ _ _ _ _=>False
abbrev E0:XK:=fun _ _ _=>False
theorem pass0 {X:Cx}:Passes CX0 X E0:=fun _ _ _ _ _ _ _ h=>h.elim
structure Fun (K:PySem.W.Frag) (x qual:Str) (st:Stmt) (f:Addr) (fd:FuncData):Prop where
 ex:∃ (oc:Value) (od:Option Addr) (kV doc pm:Value) (an:Option Addr) (cdv ct:Value) (osl:Array (Option Value)),
  fd=PySem.W.fnOf x qual (defArgs st) (defBody st) (defScope st) .none kV doc pm an cdv ct∧K.lookup f=some ⟨oc,od,.func fd,osl⟩∧PySem.W.codeIn K cdv qual=true
 kp:PySem.W.keepIn K (.ref f)=true
section
variable {P:Program} {w:World} {K:PySem.W.Frag} {mg:Str→Option Value} {base:Heap}
theorem Fun.ok {x qual:Str} {st:Stmt} {f:Addr} {fd:FuncData} {N ps:List Str} {k:Nat} {sp:Sp} (F:Fun K x qual st f fd) (S:FnScope N ps (defScope st)) (len:∀ vs H Q E,sp vs H Q E→vs.length=ps.length)
  (hbody:∀ (cdv:Value) (A:Around) (outer:List Env) (s:Shared) (H:Hp) (vs:List V) (Q:VK) (E:XK),Room k (A.deeper (envOfC qual (defScope st) s.heap.objs.size f cdv))→sp vs H Q E →
   ∃ t,PSs (cxOf CX0 P w K mg base N qual (defScope st) f cdv A outer s H E).nox (defBody st) t∧t { nx:=fun _ H'=>Q .non H',rt:=Q } (start N vs) H):FnOk P w K mg base CX0 (k+1) f fd ps sp:=by
 obtain ⟨oc,od,kV,doc,pm,an,cdv,ct,osl,rfl,lk,hcd⟩:=F.ex
 refine fn_of lk hcd S len fun A outer s H vs Q E hr hsp=>?_
 obtain ⟨t,h,q⟩:=hbody cdv A outer s H vs Q E hr hsp
 exact ⟨t,h.nox,q⟩
theorem Fun.binds {x qual:Str} {st:Stmt} {f:Addr} {fd:FuncData} {ps:List Str} (F:Fun K x qual st f fd)
  (h:∀ (kV doc pm:Value) (an:Option Addr) (cdv ct:Value) (us:List Value),us.length=ps.length→bindArgs (PySem.W.fnOf x qual (defArgs st) (defBody st) (defScope st) .none kV doc pm an cdv ct) ⟨us,[]⟩=pure (ps.zip us)):Binds K fd ps []:=by
 obtain ⟨oc,od,kV,doc,pm,an,cdv,ct,osl,rfl,lk,hcd⟩:=F.ex
 exact .all (h kV doc pm an cdv ct)
theorem fun_mk {x qual:Str} {st:Stmt} {f:Addr} {oc:Value} {od an:Option Addr} {osl:Array (Option Value)} {kV doc pm cdv ct:Value} (l:K.lookup f=some ⟨oc,od,.func (PySem.W.fnOf x qual (defArgs st) (defBody st) (defScope st) .none kV doc pm an cdv ct),osl⟩)
  (c:PySem.W.codeIn K cdv qual=true) (k:PySem.W.keepIn K (.ref f)=true):Fun K x qual st f (PySem.W.fnOf x qual (defArgs st) (defBody st) (defScope st) .none kV doc pm an cdv ct):=⟨⟨oc,od,kV,doc,pm,an,cdv,ct,osl,rfl,l,c⟩,k⟩
end
section
variable {X:Cx}
end
theorem iteF {A B:Prop} (h:B):if false=true then A else B:=by
 rw [if_neg Bool.false_ne_true]
 exact h
theorem iteT {A B:Prop} (h:A):if true=true then A else B:=by
 rw [if_pos rfl]
 exact h
def Same (H H':Hp):Prop:=∀ b o,H b=some o→H' b=some o
theorem Same.refl (H:Hp):Same H H:=fun _ _ h=>h
theorem Same.trans {H H1 H2:Hp} (a:Same H H1) (b:Same H1 H2):Same H H2:=fun c o h=>b c o (a c o h)
theorem Same.free {H H':Hp} (e:Same H H') {l:Addr} (h:H' l=Option.none):H l=Option.none:=by
 cases q:H l with
 | none=>rfl
 | some o =>
  rw [e l o q] at h
  cases h
theorem Same.seq {K:PySem.W.Frag} {H H':Hp} {a:Addr} {xs:List V} (e:Same H H') (h:SqL K H a xs):SqL K H' a xs:=by
 rcases h with (h | ⟨o,h⟩) | h
 ·exact .inl (.inl (e _ _ h))
 ·exact .inl (.inr ⟨o,e _ _ h⟩)
 ·exact .inr h
end L2
set_option maxHeartbeats 4000000
namespace L2
open PySem PySem.Spec PyProof.Rows
section
variable {κ:Type} [DecidableEq κ]
noncomputable def valV (kvs:List (κ × V)) (k:κ):Option V:=(kvs.find? fun kv=>decide (kv.1=k)).map (·.2)
noncomputable def putK (kvs:List (κ × V)) (k:κ) (v:V):List (κ × V) :=
 if (kvs.any fun kv=>decide (kv.1=k))=true then kvs.map (fun kv=>if kv.1=k then (kv.1,v) else kv) else kvs ++ [(k,v)]
noncomputable def dropK (kvs:List (κ × V)) (k:κ):List (κ × V):=kvs.filter fun kv=>decide (kv.1≠k)
theorem valV_pos {p:κ × V} {r:List (κ × V)} {k:κ} (e:p.1=k):valV (p :: r) k=some p.2:=by simp [valV,List.find?_cons,e]
theorem valV_neg {p:κ × V} {r:List (κ × V)} {k:κ} (e:¬ p.1=k):valV (p :: r) k=valV r k:=by simp [valV,List.find?_cons,e]
theorem valV_any (k:κ):∀ kvs:List (κ × V),(kvs.any fun kv=>decide (kv.1=k))=(valV kvs k).isSome
 | []=>rfl
 | p :: r=>by
  rw [List.any_cons]
  by_cases e:p.1=k
  ·simp only [valV_pos e,decide_eq_true e,Bool.true_or,Option.isSome_some]
  ·rw [valV_neg e,decide_eq_false e,Bool.false_or]; exact valV_any k r
theorem RelO.isSome_eq {o:Option V} {u:Option Value} (r:RelO o u):o.isSome=u.isSome:=by
 cases o with
 | none=>cases u with
  | none=>rfl
  | some _=>exact (show False from r).elim
 | some _=>cases u with
  | none=>exact (show False from r).elim
  | some _=>rfl
theorem RelO.getD {o:Option V} {u:Option Value} {d:V} {d':Value} (r:RelO o u) (rd:RelV d d'):RelV (o.getD d) (u.getD d'):=by
 cases o with
 | none=>cases u with
  | none=>exact rd
  | some _=>exact (show False from r).elim
 | some _=>cases u with
  | none=>exact (show False from r).elim
  | some _=>exact r
theorem KV.val {kvs:List (κ × V)} {vs:List (κ × Value)} (r:KV kvs vs) (k:κ):RelO (valV kvs k) (valueAt vs k):=by
 unfold KV at r
 induction r with
 | nil=>exact True.intro
 | @cons p q ps qs h t ih =>
  obtain ⟨h1,h2⟩:=h
  by_cases e:p.1=k
  ·have e':q.1=k:=h1.symm.trans e
   have b:valueAt (q :: qs) k=some q.2:=by simp [valueAt,List.find?_cons,e']
   rw [valV_pos e,b]; exact h2
  ·have e':¬ q.1=k:=fun z=>e (h1.trans z)
   have b:valueAt (q :: qs) k=valueAt qs k:=by simp [valueAt,List.find?_cons,e']
   rw [valV_neg e,b]; exact ih
theorem KV.any {kvs:List (κ × V)} {vs:List (κ × Value)} (r:KV kvs vs) (k:κ):(kvs.any fun kv=>decide (kv.1=k))=vs.any fun kv=>decide (kv.1=k):=by
 unfold KV at r
 induction r with
 | nil=>rfl
 | cons h t ih=>rw [List.any_cons,List.any_cons,ih,h.1]
theorem KV.repl {kvs:List (κ × V)} {vs:List (κ × Value)} (r:KV kvs vs) (k:κ) {y:V} {u:Value} (ry:RelV y u) :
  KV (kvs.map fun kv=>if kv.1=k then (kv.1,y) else kv) (vs.map fun kv=>if kv.1=k then (kv.1,u) else kv):=by
 unfold KV at r ⊢
 induction r with
 | nil=>exact .nil
 | @cons p q ps qs h t ih =>
  rw [List.map_cons,List.map_cons]
  refine .cons ?_ ih
  obtain ⟨h1,h2⟩:=h
  by_cases e:p.1=k
  ·rw [if_pos e,if_pos (h1.symm.trans e)]; exact ⟨h1,ry⟩
  ·rw [if_neg e,if_neg (fun z=>e (h1.trans z))]; exact ⟨h1,h2⟩
theorem KV.put {kvs:List (κ × V)} {vs:List (κ × Value)} (r:KV kvs vs) (k:κ) {y:V} {u:Value} (ry:RelV y u):KV (putK kvs k y) (stored vs k u):=by
 unfold putK stored
 rw [r.any k]
 by_cases e:(vs.any fun kv=>decide (kv.1=k))=true
 ·rw [if_pos e,if_pos e]; exact r.repl k ry
 ·rw [if_neg e,if_neg e]; exact Paired.snoc r ⟨rfl,ry⟩
theorem KV.drop {kvs:List (κ × V)} {vs:List (κ × Value)} (r:KV kvs vs) (k:κ):KV (dropK kvs k) (without vs k):=by
 unfold KV at r ⊢
 unfold dropK without
 induction r with
 | nil=>exact .nil
 | @cons p q ps qs h t ih =>
  obtain ⟨h1,h2⟩:=h
  rw [List.filter_cons,List.filter_cons]
  by_cases e:p.1=k
  ·have a:¬ decide (p.1≠k)=true:=by simp [e]
   have b:¬ decide (q.1≠k)=true:=by simp [h1.symm.trans e]
   rw [if_neg a,if_neg b]; exact ih
  ·have e':¬ q.1=k:=fun z=>e (h1.trans z)
   have a:decide (p.1≠k)=true:=by simp [e]
   have b:decide (q.1≠k)=true:=by simp [e']
   rw [if_pos a,if_pos b]; exact .cons ⟨h1,h2⟩ ih
theorem KV.keys {kvs:List (κ × V)} {vs:List (κ × Value)} (r:KV kvs vs):kvs.map (·.1)=vs.map (·.1):=by
 unfold KV at r
 induction r with
 | nil=>rfl
 | cons h t ih=>rw [List.map_cons,List.map_cons,ih,h.1]
theorem KV.length {kvs:List (κ × V)} {vs:List (κ × Value)} (r:KV kvs vs):kvs.length=vs.length:=Paired.length r
end
abbrev KT (H:Hp):List (List Key × V)→List (List Key × Addr × Value)→Prop:=Paired fun p q=>p.1=q.1∧H q.2.1=some (.tup (p.1.map kV))∧RelV p.2 q.2.2
theorem KT.val {H:Hp} {kvs:List (List Key × V)} {xs:List (List Key × Addr × Value)} (r:KT H kvs xs) (k:List Key):RelO (valV kvs k) ((atKey xs k).map (·.2)):=by
 induction r with
 | nil=>exact True.intro
 | @cons p q ps qs h t ih =>
  obtain ⟨h1,_,h2⟩:=h
  by_cases e:p.1=k
  ·have e':q.1=k:=h1.symm.trans e
   have b:atKey (q :: qs) k=some q.2:=by simp [atKey,List.find?_cons,e']
   rw [valV_pos e,b]; exact h2
  ·have e':¬ q.1=k:=fun z=>e (h1.trans z)
   have b:atKey (q :: qs) k=atKey qs k:=by simp [atKey,List.find?_cons,e']
   rw [valV_neg e,b]; exact ih
theorem KT.repl {H:Hp} {kvs:List (List Key × V)} {xs:List (List Key × Addr × Value)} (r:KT H kvs xs) (k:List Key) {y:V} {u:Value} (ry:RelV y u) :
  KT H (kvs.map fun kv=>if kv.1=k then (kv.1,y) else kv) (xs.map (putAt k u)):=by
 induction r with
 | nil=>exact .nil
 | @cons p q ps qs h t ih =>
  rw [List.map_cons,List.map_cons]
  refine .cons ?_ ih
  obtain ⟨h1,h2,h3⟩:=h
  unfold putAt
  by_cases e:p.1=k
  ·rw [if_pos e,if_pos (h1.symm.trans e)]; exact ⟨h1,h2,ry⟩
  ·rw [if_neg e,if_neg (fun z=>e (h1.trans z))]; exact ⟨h1,h2,h3⟩
theorem KT.put {H:Hp} {kvs:List (List Key × V)} {xs:List (List Key × Addr × Value)} (r:KT H kvs xs) (k:List Key) {b:Addr} {y:V} {u:Value} (hb:H b=some (.tup (k.map kV))) (ry:RelV y u) :
  KT H (putK kvs k y) (storedH xs k b u):=by
 have e:(kvs.any fun kv=>decide (kv.1=k))=(atKey xs k).isSome:=by
  rw [valV_any,(r.val k).isSome_eq,Option.isSome_map]
 unfold putK storedH
 rw [e]
 by_cases q:(atKey xs k).isSome=true
 ·rw [if_pos q,if_pos q]; exact r.repl k ry
 ·rw [if_neg q,if_neg q]; exact Paired.snoc r ⟨rfl,hb,ry⟩
theorem KT.keeps {H H':Hp} {kvs:List (List Key × V)} {xs:List (List Key × Addr × Value)} (r:KT H kvs xs) (ht:∀ b ys,H b=some (.tup ys)→H' b=some (.tup ys)):KT H' kvs xs :=
 Paired.mapP r fun _ _ z=>⟨z.1,ht _ _ z.2.1,z.2.2⟩
section
variable {P:Program} {w:World} {H:Hp} {h:Heap} {a:Addr}
end
def DGet (H:Hp) (a:Addr) (y:V) (r:Option V):Prop :=
 (∃ kvs k,Rd H a (.dK kvs)∧y=kV k∧r=valV kvs k)∨∃ kvs k b,Rd H a (.dT kvs)∧y=.ref b∧H b=some (.tup (k.map kV))∧r=valV kvs k
def DPut (H:Hp) (a:Addr) (y v:V) (H':Hp):Prop :=
 (∃ kvs k,H a=some (.dK kvs)∧y=kV k∧kvs.length<sizeLine∧H'=upd H a (.dK (putK kvs k v))) ∨
 ∃ kvs k b,H a=some (.dT kvs)∧y=.ref b∧H b=some (.tup (k.map kV))∧kvs.length<sizeLine∧H'=upd H a (.dT (putK kvs k v))
theorem DGet.k {H:Hp} {a:Addr} {kvs:List (Key × V)} {k:Key} (e:H a=some (.dK kvs)):DGet H a (kV k) (valV kvs k):=.inl ⟨kvs,k,.inl e,rfl,rfl⟩
theorem DGet.t {H:Hp} {a b:Addr} {kvs:List (List Key × V)} {k:List Key} (e:H a=some (.dT kvs)) (eb:H b=some (.tup (k.map kV))):DGet H a (.ref b) (valV kvs k):=.inr ⟨kvs,k,b,.inl e,rfl,eb,rfl⟩
theorem DPut.k {H:Hp} {a:Addr} {kvs:List (Key × V)} {k:Key} {v:V} (e:H a=some (.dK kvs)) (hl:kvs.length<sizeLine):DPut H a (kV k) v (upd H a (.dK (putK kvs k v))):=.inl ⟨kvs,k,e,rfl,hl,rfl⟩
theorem DPut.t {H:Hp} {a b:Addr} {kvs:List (List Key × V)} {k:List Key} {v:V} (e:H a=some (.dT kvs)) (eb:H b=some (.tup (k.map kV))) (hl:kvs.length<sizeLine) :
  DPut H a (.ref b) v (upd H a (.dT (putK kvs k v))):=.inr ⟨kvs,k,b,e,rfl,eb,hl,rfl⟩
section
variable {X:Cx} {pins:List (Addr × Obj)} {σ:St} {H:Hp} {s:Shared} {a:Addr} {y v:V} {u r:Value} {o:Option V} {A:Around} {E:Value→Shared→Prop}
theorem d_write {h':Heap} {t':Nat} {ob:HO} (I:Inv X pins σ H s) (mu:Mut (H a)) (hs:Heap.SameBut a s.heap h') (he:∃ q,h'.get? a=some q) (new:ObjOk X.prog X.w (upd H a ob) h' a ob) :
  Inv X pins σ (upd H a ob) { s with heap:=h',toks:=t' } :=
 I.write (x:=a) (e:=a) mu (.inl rfl) (fun b q hb z=>(hs.2 b hb).trans z) he new
end
section
variable {X:Cx} {pins:List (Addr × Obj)} {σ:St} {H:Hp} {s:Shared} {a:Addr} {kvs:List (Key × V)} {k:Key} {u:Value} {A:Around} {E:Value→Shared→Prop}
end
section
variable {X:Cx} {o i e value:Expr} {pos pos' tpos:Pos} {td ty tv:TE}
end
section
variable {X:Cx} {pos:Pos}
end
structure M1 (X:Cx) (o:Expr) (m:Str) (apos:Pos) (e:Expr) (cpos:Pos):Prop where
 base:attributeBase o m X.env (eval o X.env)=eval o X.env
 few:((backTo cpos (starEach [e] X.env)).all (fun x=>!x.1) && (backToKw cpos (keywordEach [] X.env)).all (fun x=>x.1.isSome)
  && decide (([e]:List Expr).length+([]:List Keyword).length+(if ([]:List Keyword).isEmpty then 0 else 1)<30))=true
 line:(apos.endLine == cpos.line)=true
 trees:backTo cpos (starEach [e] X.env)=[(false,eval e X.env)]
structure M2 (X:Cx) (o:Expr) (m:Str) (apos:Pos) (e f:Expr) (cpos:Pos):Prop where
 base:attributeBase o m X.env (eval o X.env)=eval o X.env
 few:((backTo cpos (starEach [e,f] X.env)).all (fun x=>!x.1) && (backToKw cpos (keywordEach [] X.env)).all (fun x=>x.1.isSome)
  && decide (([e,f]:List Expr).length+([]:List Keyword).length+(if ([]:List Keyword).isEmpty then 0 else 1)<30))=true
 line:(apos.endLine == cpos.line)=true
 trees:backTo cpos (starEach [e,f] X.env)=[(false,eval e X.env),(false,eval f X.env)]
section
variable {X:Cx} {pins:List (Addr × Obj)} {σ:St} {H:Hp} {s:Shared} {a:Addr} {y d:V} {u r:Value} {o:Option V} {A:Around} {E:Value→Shared→Prop}
end
section
variable {X:Cx} {o e f:Expr} {apos cpos:Pos} {td ty tx:TE}
end
section
variable {X:Cx} {pins:List (Addr × Obj)} {σ:St} {H:Hp} {s:Shared} {a:Addr} {kvs:List (Key × V)} {A:Around} {E:Value→Shared→Prop}
end
section
variable {X:Cx} {pins:List (Addr × Obj)} {σ:St} {H:Hp} {s:Shared} {a:Addr} {y:V} {u:Value} {A:Around} {E:Value→Shared→Prop}
end
abbrev SKey:=Int × List Int
section
variable {P:Program} {w:World} {A:Around} {E:Value→Shared→Prop} {s:Shared} {h:Heap}
def IsSK (P:Program) (w:World) (h:Heap) (k:SKey) (a:Addr):Prop:=∃ (t:Tok) (b:Addr),IsTup h a #[.int k.1 t,.ref b]∧IsTupleKey (intKind P w) h k.2 b
noncomputable def hashSK (P:Program) (w:World) (k:SKey):Int:=reduceHash (Builtin.Tuple.tupleHashOf [hashInt k.1,tupleKeyHash (intKind P w) k.2])
theorem IsSK.inj {a:Addr} {x y:SKey} (hx:IsSK P w h x a) (hy:IsSK P w h y a):x=y:=by
 obtain ⟨t,b,⟨o,e,_,n,d⟩,kx⟩:=hx
 obtain ⟨t',b',⟨o',e',_,n',d'⟩,ky⟩:=hy
 rw [e] at e'
 cases e'
 rw [d] at d'
 have z:=(Data.seq.inj d').1
 have z1:Value.int x.1 t=Value.int y.1 t':=congrArg (fun (q:Array Value)=>q.getD 0 .none) z
 have z2:Value.ref b=Value.ref b':=congrArg (fun (q:Array Value)=>q.getD 1 .none) z
 cases z2
 exact Prod.ext (Value.int.inj z1).1 ((tupleKind (intKind P w)).inj kx ky)
theorem IsSK.keeps {h':Heap} {k:SKey} {a d:Addr} {o:Obj} {es:Array DictEntry} {ep:Nat} (hk:IsSK P w h k a) (e:h.get? d=some o) (ed:o.data=.dict es ep) (sb:Heap.SameBut d h h'):IsSK P w h' k a:=by
 obtain ⟨t,b,⟨o',e',c,n,d'⟩,kb⟩:=hk
 have ne:a≠d:=fun z=>by
  subst z
  rw [e'] at e
  cases e
  rw [d'] at ed
  cases ed
 exact ⟨t,b,⟨o',(sb.2 a ne).trans e',c,n,d'⟩,(tupleKind (intKind P w)).keeps kb e ed sb⟩
noncomputable def pSK (k:SKey):PyData:=.tuple [.int k.1,.tuple (k.2.map .int)]
theorem items_reads:∀ {ns:List Int} {us:List Value},PySem.ItemsAre (intKind P w) ns us→∃ as,ReadsAll h us (ns.map .int) as
 | _,_,.nil=>⟨_,.nil⟩
 | _,_,.cons hk t=>by
  obtain ⟨as,r⟩:=items_reads t
  obtain ⟨tk,rfl⟩:=Value.isInt_shape hk
  exact ⟨_,.cons (.int _ _) r⟩
theorem IsSK.reads {k:SKey} {a:Addr} (hk:IsSK P w h k a):∃ as,Reads h (.ref a) (pSK k) as:=by
 obtain ⟨t,b,⟨o,e,c,n,d⟩,o2,its,n2,e2,c2,d2,i2⟩:=hk
 obtain ⟨as,r⟩:=items_reads (h:=h) i2
 exact ⟨_,.tuple e c d (.cons (.int _ _) (.cons (.tuple e2 c2 d2 r) .nil))⟩
theorem pS_lay {ns:List Int}:PyData.canLayAll0 (ns.map .int)=true:=by
 induction ns with
 | nil=>simp [PyData.canLayAll0]
 | cons n ns ih=>simp [PyData.canLayAll0,PyData.canLay0,ih]
theorem pSK_lay {k:SKey}:(pSK k).canLay0=true:=by simp [pSK,PyData.canLay0,PyData.canLayAll0,pS_lay]
theorem pS_depth {ns:List Int}:PyData.depthAll (ns.map .int)≤1:=by
 induction ns with
 | nil=>simp [PyData.depthAll]
 | cons n ns ih=>simp [PyData.depthAll,PyData.depth]; omega
theorem pSK_depth {k:SKey}:(pSK k).depth≤5:=by
 have:=pS_depth (ns:=k.2)
 simp [pSK,PyData.depth,PyData.depthAll]
 omega
theorem pS_eqv:∀ {ns ms:List Int},PyData.eqvAll (ns.map .int) (ms.map .int)=decide (ns=ms)
 | [],[]=>by simp [PyData.eqvAll]
 | [],_ :: _=>by simp [PyData.eqvAll]
 | _ :: _,[]=>by simp [PyData.eqvAll]
 | n :: ns,m :: ms=>by
  rw [List.map_cons,List.map_cons,PyData.eqvAll,pS_eqv]
  simp only [PyData.eqv,List.cons.injEq,Bool.decide_and]
  congr 1
theorem pSK_eqv {x y:SKey}:(pSK x).eqv (pSK y)=decide (x=y):=by
 obtain ⟨a,as⟩:=x
 obtain ⟨b,bs⟩:=y
 simp only [pSK,PyData.eqv,PyData.eqvAll,pS_eqv,Bool.and_true,Prod.mk.injEq,Bool.decide_and]
 congr 1
theorem eqB_ref {a b:Addr} {c:Bool} {Q:Bool→Shared→Prop} (hs:a=b→c=true) (r:SeqAt.RcAt A s (.ref a) (.ref b) c) (q:Q c s):wpAny (model P w) A (eqBool (.ref a) (.ref b)) Q E s:=by
 unfold eqBool
 refine wpAny_holding ?_
 by_cases e:a=b
 ·subst e
  rw [if_pos (by simp)]
  rw [hs rfl] at q
  exact wpAny_bind (wpAny_rule (wpAny_pure q))
 ·rw [if_neg (by simpa using e)]
  exact wpAny_bind (r P w E _ (wpAny_truthy_bool q))
theorem IsSK.eqBool {x y:SKey} {a b:Addr} {Q:Bool→Shared→Prop} (hu:A.units+8<cLine) (hx:IsSK P w s.heap x a) (hy:IsSK P w s.heap y b) (q:Q (decide (x=y)) s):wpAny (model P w) A (eqBool (.ref a) (.ref b)) Q E s:=by
 obtain ⟨as,r1⟩:=hx.reads
 obtain ⟨bs,r2⟩:=hy.reads
 have d1:=pSK_depth (k:=x)
 refine eqB_ref (fun e=>decide_eq_true (by subst e; exact hx.inj hy)) ?_ q
 rw [← pSK_eqv]
 exact SeqAt.rcAt_reads r1 r2 pSK_lay pSK_lay (by omega)
theorem IsSK.pyHash {k:SKey} {a:Addr} {Q:Int→Shared→Prop} (hu:A.units+8<cLine) (hk:IsSK P w s.heap k a) (q:Q (hashSK P w k) { s with toks:=s.toks+(k.2.length+3) }):wpAny (model P w) A (pyHash (.ref a)) Q E s:=by
 obtain ⟨t,b,ht,kb⟩:=hk
 show wpAny _ _ (pyHashByItsType (.ref a)) _ _ s
 refine W.pyHash_slot ht.typeIs F.slot_tuple_hash F.entry_tuple_hash (F.args_tuple_hash_1 _) rfl (.inr (by omega)) ?_
 unfold Builtin.«tuple.__hash__»
 show wpAny _ _ (Builtin.Tuple.tupleItemsOf (.ref a) >>= _) _ _ s
 refine wpAny_bind (tupleItemsOf_ ht ?_)
 rw [← Array.forIn_toList]
 simp only [List.forIn_cons,List.forIn_nil,bind_assoc,pure_bind]
 refine wpAny_bind (wpAny_pyHash_int ?_)
 refine wpAny_bind (wpAny_pyHash_tuple (knd:=intKind P w) (by show A.units+1<cLine; omega) kb ?_)
 refine wpAny_bind (wpAny_mkInt (wpAny_pure ⟨_,_,rfl, ?_⟩))
 have e:s.toks+1+(k.2.length+1)+1=s.toks+(k.2.length+3):=by omega
 show Q (hashSK P w k) { s with toks:=s.toks+1+(k.2.length+1)+1 }
 rw [e]
 exact q
theorem quiet_tup {d:Nat} {a:Addr} {its:Array Value} {Q:Bool→Shared→Prop} (ht:IsTup s.heap a its) (hi:∀ v∈its.toList,∀ (R:Bool→Shared→Prop),R true s→wpAny (model P w) A (eqIsQuiet d v) R E s) (q:Q true s):wpAny (model P w) A (eqIsQuiet (d+1) (.ref a)) Q E s:=by
 unfold eqIsQuiet
 refine wpAny_bind (wpAny_specialOf ht.typeIs (PyProof.Rows.slot_tuple_eq.lookup) ?_)
 obtain ⟨o,e,c,n,dd⟩:=id ht
 show wpAny _ _ (isInstance (.ref a) (.type "tuple") >>= _) _ _ s
 refine wpAny_bind (wpAny_isInstance ht.typeIs (by with_unfolding_all rfl) ?_)
 show wpAny _ _ (seqItems? (.ref a) >>= _) _ _ s
 refine wpAny_bind (wpAny_seqItems e dd ?_)
 have key:∀ {k:Option Bool × Unit→Sem Bool},wpAny (model P w) A (k (none,())) Q E s→∀ xs:List Value,(∀ v∈xs,v∈its.toList)→wpAny (model P w) A (forIn xs ((none:Option Bool),()) (fun y _=>do
    let v ← eqIsQuiet d y
    if (!v)=true then pure (ForInStep.done (some false,())) else pure (ForInStep.yield (none,()))) >>= k) Q E s:=by
  intro k hk xs
  induction xs with
  | nil=>intro _; exact wpAny_bind (wpAny_pure hk)
  | cons x xs ih =>
   intro hm
   have ih:=ih fun v hv=>hm v (List.mem_cons_of_mem _ hv)
   simp only [List.forIn_cons,bind_assoc] at ih ⊢
   refine wpAny_bind (hi x (hm x List.mem_cons_self) _ ?_)
   simp only [Bool.not_true,Bool.false_eq_true,if_false,pure_bind]
   exact ih
 show wpAny _ _ (forIn its _ _ >>= _) _ _ s
 rw [← Array.forIn_toList]
 exact key (wpAny_pure q) its.toList fun _ h=>h
theorem quiet_int {d:Nat} {i:Int} {t:Tok} {Q:Bool→Shared→Prop} (q:Q true s):wpAny (model P w) A (eqIsQuiet d (.int i t)) Q E s:=by
 unfold eqIsQuiet
 exact wpAny_pure q
theorem itemsI_:∀ {ns:List Int} {us:List Value},PySem.ItemsAre (intKind P w) ns us→∀ v∈us,∃ i t,v=.int i t
 | _,_,.nil=>fun _ h=>nomatch h
 | _,_,.cons hk r=>fun v hv=>by
  rcases List.mem_cons.mp hv with rfl | hv
  ·obtain ⟨t,e⟩:=Value.isInt_shape hk
   exact ⟨_,t,e⟩
  ·exact itemsI_ r v hv
theorem IsSK.quiet {k:SKey} {a:Addr} {Q:Bool→Shared→Prop} (hk:IsSK P w s.heap k a) (q:Q true s):wpAny (model P w) A (eqIsQuiet 8 (.ref a)) Q E s:=by
 obtain ⟨t,b,ht,o2,its,n2,e2,c2,d2,i2⟩:=hk
 refine quiet_tup (d:=7) ht (fun v hv R hR=>?_) q
 rcases List.mem_cons.mp (show v∈[Value.int k.1 t,Value.ref b] from hv) with rfl | hv
 ·exact quiet_int hR
 ·rw [List.mem_singleton.mp hv]
  refine quiet_tup (d:=6) (its:=its) ⟨o2,e2,c2,n2,d2⟩ (fun v hv R hR=>?_) hR
  obtain ⟨i,t,rfl⟩:=itemsI_ i2 v hv
  exact quiet_int hR
end
noncomputable def standKind (P:Program) (w:World):HeapKind P w SKey where
 is:=IsSK P w
 hash:=hashSK P w
 draws:=fun k=>k.2.length+3
 room:=fun A=>A.units+8<cLine
 inj:=IsSK.inj
 keeps:=IsSK.keeps
 pyHash:=fun hu hk q=>IsSK.pyHash hu hk q
 eqBool:=fun hu hx hy q=>IsSK.eqBool hu hx hy q
 quiet:=fun hk q=>IsSK.quiet hk q
section
end
abbrev SXs:=List (SKey × Addr × Value)
noncomputable def hS (k:SKey):Int:=reduceHash (Builtin.Tuple.tupleHashOf [hashInt k.1,reduceHash (Builtin.Tuple.tupleHashOf (k.2.map hashInt))])
noncomputable def entS (x:SKey × Addr × Value):DictEntry:={ hash:=hS x.1,key:=.ref x.2.1,val:=x.2.2 }
def DRaw (a:Addr) (xs:SXs) (h:Heap):Prop:=∃ o es ep,h.get? a=some o∧o.ExactDict∧o.data=.dict es ep∧es.toList=xs.map entS
def KeyAt (K:PySem.W.Frag) (H:Hp) (k:SKey) (b:Addr):Prop:=∃ c,SqT K H b [.int k.1,.ref c]∧SqT K H c (k.2.map V.int)
structure DS (K:PySem.W.Frag) (H:Hp) (a:Addr) (xs:SXs):Prop where
 at_:H a=some (.ext (DRaw a xs))
 nd:(xs.map (·.1)).Nodup
 len:xs.length≤sizeLine
 sm:(a == sysModules)=false
 keys:∀ x∈xs,KeyAt K H x.1 x.2.1
section
variable {X:Cx} {pins:List (Addr × Obj)} {σ:St} {H:Hp} {s:Shared} {a b:Addr} {xs:SXs} {k:SKey} {A:Around} {E:Value→Shared→Prop}
theorem KeyAt.is (I:Inv X pins σ H s) (e:KeyAt X.K H k b):(standKind X.prog X.w).is s.heap k b:=by
 obtain ⟨c,e1,e2⟩:=e
 obtain ⟨its,r,ht,_⟩:=I.tuple e1
 obtain ⟨its2,r2,⟨o,h1,h2,n,h3⟩,_⟩:=I.tuple e2
 obtain ⟨u,v,rfl,ru,rv⟩:=vals2 r
 obtain ⟨t,rfl⟩:=ru
 cases rv
 refine ⟨t,c,ht,o,its2.toArray,n,h1,h2,h3, ?_⟩
 have key:∀ {ns:List Int} {us:List Value},Vals (ns.map V.int) us→PySem.ItemsAre (intKind X.prog X.w) ns us:=by
  intro ns
  induction ns with
  | nil=>intro us q; cases q; exact .nil
  | cons n ns ih =>
   intro us q
   rw [List.map_cons] at q
   cases q with
   | cons q1 q2 =>
    obtain ⟨t,rfl⟩:=q1
    exact .cons (by show Value.isInt n (.int n t)=true; simp [Value.isInt]) (ih q2)
 simpa using key r2
theorem ent_eq {P:Program} {w:World}:entryOfKey (standKind P w)=entS:=rfl
theorem DS.dict (I:Inv X pins σ H s) (d:DS X.K H a xs):s.heap.DictOfH (standKind X.prog X.w) a xs:=by
 obtain ⟨⟨o,es,ep,h1,h2,h3,h4⟩,_⟩:=(show ObjOk X.prog X.w H s.heap a (.ext (DRaw a xs)) from I.hok a _ d.at_)
 exact ⟨o,es,ep,h1,h2,h3,by rw [ent_eq]; exact h4,fun x hx=>(d.keys x hx).is I,d.nd⟩
theorem DRaw.stay {h1 h2:Heap} (r:DRaw a xs h1) (k:∀ o,h1.get? a=some o→h2.get? a=some o):DRaw a xs h2:=by
 obtain ⟨o,es,ep,e,r⟩:=r
 exact ⟨o,es,ep,k o e,r⟩
theorem DRaw.ok {P:Program} {w:World} {H:Hp} {h:Heap} (d:h.DictOfH (standKind P w) a xs):ObjOk P w H h a (.ext (DRaw a xs)):=by
 obtain ⟨o,es,ep,h1,h2,h3,h4,_⟩:=d
 exact ⟨⟨o,es,ep,h1,h2,h3,by rw [← ent_eq (P:=P) (w:=w)]; exact h4⟩,⟨o,h1⟩,fun _ _ r k=>r.stay k⟩
theorem storedH_len {v:Value}:(storedH xs k b v).length≤xs.length+1:=by unfold storedH; split <;> simp
theorem storedH_keys {K:PySem.W.Frag} {H:Hp} {v:Value} (h:∀ x∈xs,KeyAt K H x.1 x.2.1) (hk:KeyAt K H k b):∀ x∈storedH xs k b v,KeyAt K H x.1 x.2.1:=by
 unfold storedH
 split
 ·intro x hx
  obtain ⟨y,hy,rfl⟩:=List.mem_map.mp hx
  unfold putAt
  split
  ·exact h y hy
  ·exact h y hy
 ·intro x hx
  rcases List.mem_append.mp hx with hx | hx
  ·exact h x hx
  ·rw [List.mem_singleton.mp hx]; exact hk
theorem s_getItem {p:Addr × Value} {Q:Value→Shared→Prop} (hu:A.units+9<cLine) (I:Inv X pins σ H s) (d:DS X.K H a xs) (hk:KeyAt X.K H k b) (e:atKey xs k=some p) (h:∀ s',Inv X pins σ H s'→Q p.2 s'):wpAny (model X.prog X.w) A (getItem (.ref a) (.ref b)) Q E s :=
 wpAny_getItem_heap (show A.units+1+8<cLine by omega) (hk.is I) (d.dict I) e (h _ (I.tok _))
theorem s_in {Q:Value→Shared→Prop} (hu:A.units+9<cLine) (I:Inv X pins σ H s) (d:DS X.K H a xs) (hk:KeyAt X.K H k b) (h:∀ s',Inv X pins σ H s'→Q (.bool (atKey xs k).isSome) s'):wpAny (model X.prog X.w) A (compareOp .In (.ref b) (.ref a)) Q E s :=
 wpAny_in_heap (show A.units+1+8<cLine by omega) (hk.is I) d.sm (d.dict I) (h _ (I.tok _))
theorem nd_of {P:Program} {w:World} {h:Heap} (d:h.DictOfH (standKind P w) a xs):(xs.map (·.1)).Nodup:=by
 obtain ⟨_,_,_,_,_,_,_,_,nd⟩:=d
 exact nd
theorem s_setItem {v:Value} {Q:Unit→Shared→Prop} (hu:A.units+9<cLine) (I:Inv X pins σ H s) (d:DS X.K H a xs) (hk:KeyAt X.K H k b) (hl:xs.length<sizeLine)
  (h:∀ s',Inv X pins σ (upd H a (.ext (DRaw a (storedH xs k b v)))) s'→((storedH xs k b v).map (·.1)).Nodup→Q () s'):wpAny (model X.prog X.w) A (setItem (.ref a) (.ref b) v) Q E s :=
 wpAny_setItem_heap (show A.units+1+8<cLine by omega) (hk.is I) (d.dict I) (fun h' dd hs=>h _ (d_write I (by rw [d.at_]; exact True.intro) hs (let ⟨o,_,_,e,_⟩:=dd; ⟨o,e⟩) (DRaw.ok dd)) (nd_of dd)) (Nat.le_of_lt hl)
end
end L2
namespace HT
open PySem PySem.Spec PyProof.Rows
section
variable {prog:Program} {w:World} {A:Around} {E:Value→Shared→Prop} {s:Shared}
theorem getItem_tuple_all {t sl:Addr} {items:Array Value} {vl vu:Value} {lo hi:Option Int} {Q:Value→Shared→Prop} (ht:IsTup s.heap t items) (hs:s.heap.IsSliceOf sl vl vu .none) (pl:IsPart vl lo) (pu:IsPart vu hi)
  (hw:sIx items.size 0 lo=0∧sIx items.size items.size hi=items.size) (h:Q (.ref t) s):wpAny (model prog w) A (getItem (.ref t) (.ref sl)) Q E s:=by
 obtain ⟨os,hos,hcs,hds⟩:=id hs
 have hTs:s.TypeIs (.ref sl) "slice":=⟨os,hos,hcs⟩
 unfold getItem
 try with_reducible refine wpAny_holding ?_
 first | refine wpAny_bind (wpAny_pure ?_) | skip
 refine wpAny_bind (wpAny_sequenceKey ht.typeIs (by decide) ?_)
 refine wpAny_bind (wpAny_callSpecial?_slot (name:=Str.ofString "__getitem__") ht.typeIs PyProof.Rows.slot_tuple_getitem
  (wpAny_call_entry PyProof.Rows.slot_tuple_getitem ht.typeIs entry_tuple_getitem ?_ (args_tuple_getitem _ _)))
 show wpAny _ _ (Builtin.Tuple.tupleItemsOf (.ref t) >>= _) _ _ s
 refine wpAny_bind (tupleItemsOf_ ht ?_)
 refine wpAny_bind (wpAny_typeOf hTs ?_)
 rw [if_pos (by decide)]
 refine wpAny_bind (sliceApplied_gen hs pl pu ?_)
 have hno:(((sIx items.size 0 lo:Nat):Int) == 0 && (1:Int) == 1 && (sIx items.size items.size hi - sIx items.size 0 lo) == items.size)=true:=by
  rw [hw.1,hw.2]
  simp
 show wpAny _ _ (if (((sIx items.size 0 lo:Nat):Int) == 0 && (1:Int) == 1 && (sIx items.size items.size hi - sIx items.size 0 lo) == items.size)=true then _ else _) _ _ s
 rw [if_pos hno]
 refine wpAny_bind (show wpAny _ _ (Builtin.Tuple.tupleIsExact (.ref t)) _ _ _ from wpAny_bind (wpAny_typeOf ht.typeIs (wpAny_pure ?_)))
 rw [if_pos (by decide)]
 refine wpAny_bind (wpAny_rule ?_)
 exact wpAny_pure ⟨_,rfl,wpAny_pure h⟩
end
end HT
namespace L2
open PySem PySem.Spec PyProof.Rows
section
variable {X:Cx} {e st:Expr} {te tst:TE} {pos p2:Pos}
theorem Vals.rev {xs:List V} {us:List Value} (r:Vals xs us):Vals xs.reverse us.reverse:=by
 induction r with
 | nil=>exact .nil
 | cons r1 r2 ih =>
  rw [List.reverse_cons,List.reverse_cons]
  exact ih.append (.cons r1 .nil)
def rSlTW (K:PySem.W.Frag):V→Option Int→Option Int→Hp→VK→Prop:=fun x lo hi H Q=>∃ a xs,x=.ref a∧SqT K H a xs ∧
 (∀ p,H p=none→Q (.ref p) (upd H p (.tup (cutV xs lo hi))))∧(HT.sIx xs.length 0 lo=0∧HT.sIx xs.length xs.length hi=xs.length→Q (.ref a) H)
theorem sl_tupW:SlR X (rSlTW X.K):=by
 intro pins s σ H x v vl vu lo hi sl Q I rx hs pl pu h
 obtain ⟨a,xs,rfl,hx,q,q2⟩:=h
 by_cases hw:HT.sIx xs.length 0 lo=0∧HT.sIx xs.length xs.length hi=xs.length
 ·cases rx
  obtain ⟨its,r,ht,hz⟩:=I.tuple hx
  have hlen:its.toArray.size=xs.length:=by rw [List.size_toArray]; exact r.length.symm
  refine ⟨"tuple",_,PyProof.Rows.slot_tuple_getitem.lookup,ht.typeIs, ?_⟩
  exact HT.getItem_tuple_all ht hs pl pu (by rw [hlen]; exact hw) ⟨.ref a,H,I,rfl,q2 hw⟩
 ·exact sl_tup pins s σ H (.ref a) v vl vu lo hi sl Q I rx hs pl pu ⟨a,xs,rfl,hx,hw,q⟩
end
end L2
namespace CI
open PySem PySem.Spec PyProof.Rows L2
section
variable {X:Cx} {pins:List (Addr × Obj)} {σ:L2.St} {H H':Hp} {s:Shared} {h':Heap} {a C:Addr}
def TrO (X:Cx) (pins:List (Addr × Obj)) (H:Hp) (h:Heap) (a C:Addr) (fl:Value):Prop :=
 ∃ oe vs a0 T oT ts,h.get? a=some oe∧oe.cls=.ref C∧oe.data=.fields vs∧vs[0]?=some a0∧FpOk X pins H T∧vs[1]?=some (.ref T)∧T≠a∧h.get? T=some oT∧oT.data=.fields ts∧ts[3]?=some fl
def MdO (h:Heap) (a C:Addr):Prop:=∃ oe vs a0,h.get? a=some oe∧oe.cls=.ref C∧oe.data=.fields vs∧vs[0]?=some a0∧vs[1]?=some .none
def FlyO (X:Cx) (pins:List (Addr × Obj)) (H:Hp) (h:Heap) (a C:Addr):Prop:=FpOk X pins H a∧(MdO h a C∨∃ fl,TrO X pins H h a C fl)
variable {M:Model} {A:Around} {E:Value→Shared→Prop} {Q:Unit→Shared→Prop}
end
section
variable {X:Cx} {pins:List (Addr × Obj)} {σ:L2.St} {H:Hp} {s s':Shared}
end
abbrev bmV:List Value:=[.type "ValueError",.type "Exception",.type "BaseException",.type "object"]
theorem exc_obj {K:PySem.W.Frag} {C:Addr} {n:String} (q:PySem.W.excIn K C bmV n=true):∃ (tl:List Value) (N:Addr),(∀ v,PySem.W.mroIn K C v=some ((Value.ref C :: tl).contains v)) ∧
  ∀ {h:Heap},K.In h→∃ (nm qn:Str) (bs:List Value) (hd:Bool) (sn:List Str) (sub:List Value) (ab:Bool) (col:Option Bool) (dd:Option Addr) (k0 k1 k2 k3 k5:Option Value),
   h.get? C=some (excClassObj nm qn C N bs tl hd sn sub ab col dd k0 k1 k2 k3 k5 n)∧h.Ns N (h.nsMap N)∧h.nsMap N "__init__"=none∧OwnTail h bmV tl:=by
 unfold PySem.W.excIn at q
 split at q
 ·rename_i dd cd sl lk
  split at q
  ·rename_i C' tl k0 k1 k2 k3 n' k5 e1 e2
   rw [Bool.and_eq_true,Bool.and_eq_true,Bool.and_eq_true,Bool.and_eq_true,Bool.and_eq_true] at q
   obtain ⟨⟨⟨⟨⟨q1,q2⟩,q3⟩,q4⟩,q5⟩,q6⟩:=q
   have q1:=beq_iff_eq.mp q1
   have q2:=beq_iff_eq.mp q2
   have q6:=beq_iff_eq.mp q6
   subst q1 q2
   refine ⟨tl,cd.ns,fun v=>?_,fun {h} X=>?_⟩
   ·unfold PySem.W.mroIn PySem.W.clsIn
    rw [lk]
    simp only [Option.bind_some]
    rw [e1,if_neg (by simp)]
   ·refine ⟨cd.name,cd.qualname,cd.bases,cd.hasDict,cd.slotNames,cd.subclasses,cd.abstract,cd.collection,dd,k0,k1,k2,k3,k5, ?_,.of_isNs (PySem.W.isNs_of_in X q5),PySem.W.nsMap_none_of_in X q5 q6,PySem.W.tail_of_in X q4⟩
    rw [X _ _ lk]
    have e3:sl=#[k0,k1,k2,k3,some (.builtin n'),k5]:=Array.toList_inj.mp e2
    rw [e3]
    obtain ⟨c1,c2,c3,c4,c5,c6,c7,c8,c9,c10,c11⟩:=cd
    simp only [Bool.not_eq_true'] at q3
    simp only at e1
    subst e1 q3
    rfl
  ·cases q
 ·cases q
structure ExcN (K:PySem.W.Frag) (mg:Str→Option Value) (c:Str):Prop where
 ex:∃ C,PySem.W.nsIn K mainGlobals c=some (some (.ref C))∧mg c=some (.ref C)∧PySem.W.excIn K C bmV "ValueError.__new__"=true
section
variable {X:Cx} {pins:List (Addr × Obj)} {σ:L2.St} {H:Hp} {s:Shared} {h':Heap} {a C:Addr}
end
end CI
namespace CI
open PySem PySem.Spec PySem.Calls PyProof.Rows L2 PySem.W PySem.Builtin PySem.Builtin.ObjectAttr PySem.Builtin.Getset_descriptor
def ExcO (a C:Addr) (h:Heap):Prop:=∃ oe vs,h.get? a=some oe∧oe.cls=.ref C∧oe.data=.fields vs
theorem ExcO.ty {a C:Addr} {h:Heap} {M:Model} (x:ExcO a C h):Looks M h (typeOf (.ref a)) (.ref C):=by
 obtain ⟨oe,vs,e,c,_⟩:=x
 rw [← c]
 exact (Looks.ld e).andThen .now
structure ExcG (K:Frag) (C:Addr):Prop where
 q:excIn K C bmV "ValueError.__new__"=true
 ga:findIn K (.ref C) "__getattribute__"=some (some (.builtin "BaseException.__getattribute__"))
 no:findIn K (.ref C) "__getattr__"=some none
 cl:findIn K (.ref C) "__class__"=some (some (.builtin "object.__class__"))
 gt:specialIn K (.builtin "object.__class__") "__get__"=some (some (.builtin "getset_descriptor.__get__"))
 tk:takesIn K (.builtin "object.__class__")=some true
 mo:mroIn K C (.type "object")=some true
 mb:mroIn K C (.type "BaseException")=some true
 mv:mroIn K C (.type "ValueError")=some true
section
variable {prog:Program} {w:World} {A:Around} {E:Value→Shared→Prop} {s:Shared} {K:Frag} {a C:Addr}
theorem exc_get {tp:Value} {R:Result→Shared→Prop} (X:K.In s.heap) (G:ExcG K C) (x:ExcO a C s.heap) (h:R (.ok (.ret (.ref C))) s) :
  codeAny (model prog w) A (.call (.builtin "getset_descriptor.__get__") ⟨[.builtin "object.__class__",.ref a,tp],[]⟩) R s:=by
 obtain ⟨hh,g,dr,t,os⟩:=s
 have L0:=x.ty (M:=model prog w)
 have L1:=looks_mroIn (M:=model prog w) X G.mo
 refine codeAny_call_builtin KF.slot_gs.plain KF.entry_gs (KF.slot_gs.check _ _ _ _ _ _ _ _ KF.type_class (KF.args_gs _ _ _) ?_)
 unfold Builtin.«getset_descriptor.__get__»; unfold descrGet
 rw [dga_obj]
 refine wpAny_bind (wpAny_pure ?_)
 unfold descrGetter; unfold descrCheckInstance; unfold descrNameAndClass; unfold isInstance
 simp only [KF.owner_class]
 repeat lk
 refine ⟨Code.quiet_builtin _ (by decide +kernel),codeAny_builtin KF.entry_class ?_⟩
 unfold Builtin.«object.__class__»; unfold shownTypeOf
 repeat lk
 exact h
theorem exc_find {M:Model} {h:Heap} (X:K.In h) (G:ExcG K C):Looks M h (find (.ref a) (.ref C) "__class__") (.bind (.builtin "getset_descriptor.__get__") (.builtin "object.__class__")):=by
 have L3:=looks_takesIn (M:=M) X G.tk
 refine (looks_findIn X G.cl).andThen ((looks_specialIn X G.gt).andThen ?_)
 exact (show Looks M h (dataDescriptor? (some (.builtin "object.__class__")) (some (.builtin "getset_descriptor.__get__"))) (some (.builtin "getset_descriptor.__get__",.builtin "object.__class__")) from L3.andThen .now).andThen (Looks.tag .now)
theorem exc_entry {tk:Tok} {Q:Fin→Shared→Prop} (X:K.In s.heap) (G:ExcG K C) (x:ExcO a C s.heap) (h:Q (.done (.ret (.ref C))) s) :
  wpAny (model prog w) A (Builtin.«object.__getattribute__» ⟨[.ref a,.str "__class__" tk],[]⟩) Q E s:=by
 obtain ⟨hh,g,dr,t,os⟩:=s
 have L0:=x.ty (M:=model prog w)
 have L1:=exc_find (M:=model prog w) (a:=a) X G
 repeat (any_goals (first | assumption | with_reducible refine Looks.at (by assumption) ?_ | wp_step))
 refine exc_get X G x ?_
 repeat (any_goals (first | assumption | wp_step))
theorem exc_check {v:Value} {Q:Unit→Shared→Prop} (X:K.In s.heap) (G:ExcG K C) (x:ExcO a C s.heap) (h:Q () s):wpAny (model prog w) A (checkBuiltinCall "BaseException.__getattribute__" ⟨[.ref a,v],[]⟩) Q E s:=by
 obtain ⟨hh,g,dr,t,os⟩:=s
 have L0:=x.ty (M:=model prog w)
 have L3:=looks_mroIn (M:=model prog w) X G.mb
 have z:=PySem.F.args_bexc_ga (.ref a) v
 simp only [checkBuiltinCall,show builtinKind "BaseException.__getattribute__"=some .slot from by decide +kernel,show splitId "BaseException.__getattribute__"=some ("BaseException","__getattribute__") from by decide +kernel]
 refine wpAny_bind ?_
 unfold isInstance
 repeat (any_goals (first | assumption | with_reducible refine Looks.at (by assumption) ?_ | wp_step))
theorem exc_cls {Q:Option Value→Shared→Prop} (X:K.In s.heap) (G:ExcG K C) (x:ExcO a C s.heap) (h:Q (some (.ref C)) { s with toks:=s.toks+1 }):wpAny (model prog w) A (getAttr? (.ref a) "__class__") Q E s:=by
 obtain ⟨hh,g,dr,t,os⟩:=s
 have L0:=x.ty (M:=model prog w)
 have L1:=looks_findIn (M:=model prog w) X G.ga
 have L2:=looks_findIn (M:=model prog w) X G.no
 have L3:=looks_mroIn (M:=model prog w) X G.mb
 have f3:=PySem.F.excAttr_ValueError.ga.bind (.ref a)
 unfold getAttr? getAttrBy? getAttrBy
 refine wpAny_bind (wpAny_mkText (wpAny_bind (wpAny_attempt (wpAny_holding (wpAny_bind (L0.at (wpAny_bind (L1.at ?_))))))))
 have n1:(onTheHeap (Value.ref C) && Value.builtin "BaseException.__getattribute__" == Value.builtin "object.__getattribute__")=false:=by rw [show (Value.builtin "BaseException.__getattribute__" == Value.builtin "object.__getattribute__")=false from by decide +kernel,Bool.and_false]
 dsimp only
 rw [if_neg (by rw [n1]; exact Bool.false_ne_true)]
 unfold getAttrByItsOwn
 repeat (any_goals (first | assumption | with_reducible refine Looks.at (by assumption) ?_ | wp_step))
 refine codeAny_call_builtin PySem.F.attr_ValueError.ga.plain PySem.F.entry_bexc_ga (exc_check (s:=⟨hh,g,dr,t+1,os⟩) X G x (exc_entry (s:=⟨hh,g,dr,t+1,os⟩) X G x ?_))
 repeat (any_goals (first | assumption | wp_step))
theorem kitx_exc (G:ExcG K C):KitX K (.ref a) (.ref C) (ExcO a C) where
 ty:=fun _ _ _ x=>x.ty
 it:=fun _ _ X _=>by
  obtain ⟨tl,N,_,k⟩:=exc_obj G.q
  obtain ⟨nm,qn,bs,hd,sn,sub,ab,col,dd,k0,k1,k2,k3,k5,hC,_⟩:=k X
  intro A' Q' E' s' k' q
  unfold isType loadHead
  exact wpAny_bind (wpAny_loadPart (k' _ _ hC) (wpAny_pure q))
 ne:=fun h tp dd its n sl X htp=>by
  obtain ⟨tl,N,_,k⟩:=exc_obj G.q
  obtain ⟨nm,qn,bs,hd,sn,sub,ab,col,dd,k0,k1,k2,k3,k5,hC,_⟩:=k X
  refine Bool.eq_false_iff.mpr fun q=>?_
  have e:C=tp:=Value.ref.inj (beq_iff_eq.mp q)
  subst e
  rw [hC] at htp
  have z:=congrArg Obj.data (Option.some.inj htp)
  cases z
 ca:=fun X x k=>exc_cls X G x k
theorem kit_verr (G:ExcG K C):kitOne K (.ref C) (.type "ValueError")=some true:=by
 unfold kitOne kitCls
 rw [if_neg (by simp)]
 show (if kitMeta "ValueError"=true then subIn K (.ref C) (.type "ValueError") else none)=some true
 rw [if_pos (by decide +kernel)]
 exact G.mv
end
end CI
namespace L2
open PySem PySem.Spec PyProof.Rows
noncomputable def Its (x:Str):It:=⟨fun i _=>i<x.cps.size,fun i H v H'=>H'=H∧∃ c,x.cps[i]?=some c∧v=.str ⟨#[c]⟩,fun i _=>x.cps.size≤i⟩
theorem turn_str {P:Program} {w:World} {K:PySem.W.Frag} {tg:Expr} (it:Addr) (x:Str) (t:Tok):Turn P w K tg (Its x) [it] it (fun i h=>h.IsStrIter it "str_ascii_iterator" x t i) where
 mem:=List.mem_singleton.mpr rfl
 obj:=fun i h st b hb=>by
  obtain rfl:=List.mem_singleton.mp hb
  obtain ⟨o,e,c,d⟩:=st
  exact ⟨o,e,fun v z=>by rw [d] at z; cases z⟩
 keep:=fun i h h' st k=>let ⟨o,ho,r⟩:=st; ⟨o,k it (List.mem_singleton.mpr rfl) o ho,r⟩
 item:=by
  intro X hP hw hK hc i pins s σ H E I hf st hg
  subst hP hw hK
  obtain ⟨f0,f1,f2,f3,f4,f5⟩:=hf it (List.mem_singleton.mpr rfl)
  have hg:i<x.cps.size:=hg
  have hx:x.cps[i]?=some x.cps[i]:=Array.getElem?_eq_getElem hg
  refine wpAny_pyNext_ascii_item st hx fun h' st' sb=>?_
  have I1:Inv X pins σ H { s with heap:=h',toks:=s.toks+1 }:=I.turned (fun b o hb e=>(sb.2 b hb).trans e) f0 f1 f3 f4 f5
  obtain ⟨o,e,c,d⟩:=id st'
  exact ⟨_,rfl,go_of (s:={ s with heap:=h',toks:=s.toks+1 }) e c d (by decide) ⟨.str ⟨#[x.cps[i]]⟩,H,I1,⟨_,rfl⟩,⟨rfl,_,hx,rfl⟩,st',fun b hb=>(hf b hb).1⟩⟩
 done:=by
  intro X hP hw hK hc i pins s σ H E I hf st hg
  subst hP hw hK
  obtain ⟨f0,f1,f2,f3,f4,f5⟩:=hf it (List.mem_singleton.mpr rfl)
  have hg:x.cps.size≤i:=hg
  exact wpAny_pyNext_ascii_end (I.ok.hd hc) st (Array.getElem?_eq_none hg) fun h' eb=>⟨rfl,I.turned (t':=s.toks) (fun b o hb e=>eb b o hb e) f0 f1 f3 f4 f5⟩
 self:=fun _ _ _ _ _ st h=>wpAny_pyIter_striter_ascii st h
section
variable {X:Cx} {tg:Expr}
noncomputable def iStr (tl:TE):TI:=fun σ H R=>tl σ H fun v H1=>∃ x,v=.str x∧x.cps.all (·<128)=true∧R (Its x) H1
theorem pi_str {l:Expr} {tl:TE} (hl:PE X l tl):PI X tg l (iStr tl):=by
 intro pins s σ H R I h
 refine thn (hl pins s σ H _ I h) fun v s1 ⟨y,H1,I1,r1,q1⟩=>?_
 obtain ⟨x,rfl,ha,q⟩:=q1
 obtain ⟨t,rfl⟩:=r1
 refine wpAny_pyIter_ascii ha ?_
 refine ⟨s1.heap.objs.size,[s1.heap.objs.size],_,_,H1,rfl,I1.kept (t':=s1.toks) fun b o e=>Heap.get?_push_of_some _ e,turn_str _ x t,⟨_,Heap.get?_push_size _ rfl,rfl,rfl⟩,fun b hb=>?_,q⟩
 obtain rfl:=List.mem_singleton.mp hb
 exact I1.fpOk (Nat.le_refl _) (I1.hok.fresh (Nat.le_refl _))
theorem call_int_txt:CallR X (.type "int") (fun xs H Q=>∃ x n,xs=[.str x]∧PySem.intText? x=some n∧x.length≤640∧Q (.int n) H):=by
 intro pins s σ H xs us Q I r h
 obtain ⟨x,n,rfl,h1,h2,q⟩:=h
 obtain ⟨u,rfl,t,rfl⟩:=vals1 r
 exact PySem.W.KIN.call_text h1 h2 ⟨.int n,H,I.tok _,⟨_,rfl⟩,q⟩
theorem call_str_txt:CallR X (.type "str") (fun xs H Q=>∃ x,xs=[.str x]∧Q (.str x) H):=by
 intro pins s σ H xs us Q I r h
 obtain ⟨x,rfl,q⟩:=h
 obtain ⟨u,rfl,t,rfl⟩:=vals1 r
 exact P.str_of_str ⟨.str x,H,I,⟨_,rfl⟩,q⟩
theorem vals_strs:∀ {ts:List Str} {us:List Value},Vals (ts.map V.str) us→∃ l:List (Str × Tok),us=strValues l∧l.map (·.1)=ts
 | [],_,h=>by cases h; exact ⟨[],rfl,rfl⟩
 | t :: ts,_,h=>by
  cases h with
  | cons r rr =>
   obtain ⟨k,rfl⟩:=r
   obtain ⟨l,rfl,rfl⟩:=vals_strs rr
   exact ⟨(t,k) :: l,rfl,rfl⟩
theorem strs_vals:∀ l:List (Str × Tok),Vals ((l.map (·.1)).map V.str) (strValues l)
 | []=>.nil
 | (x,t) :: l=>.cons ⟨t,rfl⟩ (strs_vals l)
def rJoin (K:PySem.W.Frag):V→List V→Hp→VK→Prop:=fun x vs H Q=>∃ sep p texts,x=.str sep∧vs=[.ref p]∧SqL K H p (texts.map V.str)∧JoinOk sep texts=true∧Q (.str (Txt.join sep texts)) H
theorem mt_join:MtM X "str.join" (rJoin X.K):=by
 intro pins s σ H x vs v us Q I rx rv h
 obtain ⟨sep,p,texts,rfl,rfl,hq,hok,q⟩:=h
 obtain ⟨t,rfl⟩:=rx
 obtain ⟨u,rfl,ru⟩:=rv.one
 cases ru
 obtain ⟨its,r',pl,hz⟩:=I.list hq
 obtain ⟨l,rfl,ht⟩:=vals_strs r'
 exact SC.join pl.isList ht hok fun t' k=>⟨.str _,H,I.kept (t':=k) fun b o e=>e,⟨_,rfl⟩,q⟩
def rStw:V→List V→Hp→VK→Prop:=fun x vs H Q=>∃ y z,x=.str y∧vs=[.str z]∧Q (.bl (Txt.startswith y z)) H
theorem mt_stw:MtM X "str.startswith" rStw:=by
 intro pins s σ H x vs v us Q I rx rv h
 obtain ⟨y,z,rfl,rfl,q⟩:=h
 obtain ⟨t,rfl⟩:=rx
 obtain ⟨u,rfl,k,rfl⟩:=rv.one
 exact SC.startswith ⟨.bl _,H,I,rfl,q⟩
def rSplit:V→List V→Hp→VK→Prop:=fun x vs H Q=>∃ y z,x=.str y∧vs=[.str z]∧(z.length == 0)=false∧y.length≤1000000∧∀ l,H l=none→Q (.ref l) (upd H l (.lst ((Txt.split y z).map V.str)))
theorem mt_split:MtM X "str.split" rSplit:=by
 intro pins s σ H v0 vs v us Q I rx rv h
 obtain ⟨x,y,rfl,rfl,hy,hx,q⟩:=h
 obtain ⟨t,rfl⟩:=rx
 obtain ⟨u0,rfl,u,rfl⟩:=rv.one
 have hle:=split_le x y
 have hsl:(1000002:Nat)≤sizeLine:=by decide
 have fin:∀ (l:List (Str × Tok)) (tk:Nat),l.map (·.1)=Txt.split x y→EP X pins σ Q (.ref s.heap.objs.size) { s with heap:=s.heap.push { cls:=.type "list",data:=.seq (strValues l).toArray },toks:=tk }:=fun l tk e=>by
  refine ⟨.ref s.heap.objs.size,_,I.laid (t':=tk) (o:=.lst ((Txt.split x y).map V.str)) (fun b ob z=>Heap.get?_push_of_some _ z) (Nat.le_refl _) ?_,rfl,q _ (I.hok.fresh (Nat.le_refl _))⟩
  refine ⟨by rw [List.length_map]; omega,_,0, ?_,Heap.get?_push_size _ rfl⟩
  rw [← e]
  exact strs_vals l
 have sz1:x.length≤sizeLine:=by omega
 cases c1:(decide (x.length<y.length) || decide (Builtin.Str.strKind x<Builtin.Str.strKind y)) with
 | true =>
  have e:[(x,t)].map (·.1)=Txt.split x y:=by unfold Txt.split; rw [if_pos c1]; rfl
  exact call_meets F.slot_str_split (typeIs_str _ _ _) F.entry_str_split (F.args_str_split_2 _ _) (meets_str_split_cannot_occur x y t u c1) (fin [(x,t)] s.toks e)
 | false =>
  cases c2:(Builtin.Str.occurrences x y 0 x.length (x.length+1)).isEmpty with
  | true =>
   have e:[(x,t)].map (·.1)=Txt.split x y:=by unfold Txt.split; rw [c1,c2]; rfl
   exact call_meets F.slot_str_split (typeIs_str _ _ _) F.entry_str_split (F.args_str_split_2 _ _) (meets_str_split_not_found x y t u c1 hy c2) (fin [(x,t)] s.toks e)
  | false =>
   have es:Txt.split x y=Builtin.Str.partsBetween x (Builtin.Str.occurrences x y 0 x.length (x.length+1)) y.length:=by unfold Txt.split; rw [c1,c2]; rfl
   have sz2:(Builtin.Str.partsBetween x (Builtin.Str.occurrences x y 0 x.length (x.length+1)) y.length).length≤sizeLine:=by rw [← es]; omega
   refine call_meets F.slot_str_split (typeIs_str _ _ _) F.entry_str_split (F.args_str_split_2 _ _) (meets_str_split_sep x y t u c1 hy c2 sz1 sz2) ?_
   have:=fin (numbered s.toks (Txt.split x y)) (s.toks+(Txt.split x y).length) (numbered_texts _ _)
   rw [es] at this
   rw [← strsFrom_eq] at this
   exact this
def rSlS:V→Option Int→Option Int→Hp→VK→Prop:=fun x lo hi H Q=>∃ y,x=.str y∧y.length≤1000000∧Q (.str (Txt.slice y lo hi)) H
theorem part_of {v:Value} {o:Option Int} (h:IsPart v o):∃ l:Option (Int × Tok),v=partValue l∧o=l.map (·.1):=by
 cases h with
 | none=>exact ⟨none,rfl,rfl⟩
 | int i t=>exact ⟨some (i,t),rfl,rfl⟩
theorem sl_str:SlR X rSlS:=by
 intro pins s σ H x v vl vu lo hi sl Q I rx hs pl pu h
 obtain ⟨y,rfl,hz,q⟩:=h
 obtain ⟨t,rfl⟩:=rx
 obtain ⟨l,rfl,rfl⟩:=part_of pl
 obtain ⟨u,rfl,rfl⟩:=part_of pu
 have hsl:(1000000:Nat)≤sizeLine:=by decide
 exact ⟨"str",_,F.slot_str_getitem.lookup,typeIs_str _ _ _,wpAny_getItem_str_slice (l:=l) (u:=u) (st:=none) hs rfl (post_val_or_str ⟨Nat.le_trans (Txt.slice_le y _ _) (Nat.le_trans hz hsl),fun t' k=>⟨.str _,H,I.kept (t':=k) fun b o e=>e,⟨_,rfl⟩,q⟩⟩)⟩
theorem op_mul_str:OpR X (binaryOp .Mult) (fun x y H Q=>∃ i n,x=.str i∧y=.int n∧MulOk i n∧Q (.str (Txt.mul i n)) H):=by
 intro pins s σ H x y v u Q I rx ry h
 obtain ⟨i,n,rfl,rfl,hm,q⟩:=h
 obtain ⟨t,rfl⟩:=rx
 obtain ⟨t',rfl⟩:=ry
 exact SB.mul hm fun t' k=>⟨.str _,H,I.kept (t':=k) fun b o e=>e,⟨_,rfl⟩,q⟩
end
end L2
namespace CI
open PySem
inductive D where
 | non | bl (b:Bool) | int (i:Int) | str (x:Str) | tup (ds:List D) | lst (ds:List D)
 | ins (c:Str) (ns:List Str) (ds:List D) | dct (kvs:List (Int × Int)) | exn (c:Str) | dcs (kvs:List ((Int × List Int) × Int))
 deriving Inhabited
inductive RV where
 | sh (d:D) | ow (d:D) | od (d:D)
noncomputable def RV.d:RV→D
 | .sh d=>d
 | .ow d=>d
 | .od d=>d
noncomputable def RV.low:RV→RV
 | .od d=>.ow d
 | v=>v
inductive Sl where
 | un | mv | sh (d:D) | ow (d:D) (pin lk:Bool)
noncomputable def Sl.get:Sl→Option D
 | .un=>none
 | .mv=>none
 | .sh d=>some d
 | .ow d _ _=>some d
structure Exc where
 cls:Str
inductive Out (α:Type) where
 | ok (a:α) | ex (e:Exc)
abbrev Env:=List Sl
abbrev Res (α:Type):=Option (Out α × Env)
noncomputable def Res.bind {α β:Type} (r:Res α) (f:α→Env→Res β):Res β :=
 match r with
 | none=>none
 | some (.ex e,ρ)=>some (.ex e,ρ)
 | some (.ok a,ρ)=>f a ρ
inductive Hd where
 | slot (i:Nat) | val (v:RV)
noncomputable def Hd.get (h:Hd) (ρ:Env):Option D :=
 match h with
 | .slot i=>(ρ[i]?).bind Sl.get
 | .val v=>some v.d
noncomputable def getAll:List Hd→Env→Option (List D)
 | [],_=>some []
 | h :: r,ρ=>(h.get ρ).bind fun d=>(getAll r ρ).map (d :: ·)
inductive Ty where
 | int | bool | str | list | tuple | dict | cls (c:Nat) | verr
inductive BI where
 | len | abs | int | list | tuple | min | max | all | repr | str
 deriving DecidableEq
inductive ItK where
 | rng | of | enum (lo:Int) | sig
 deriving DecidableEq
inductive E where
 | bad | omt
 | var (i:Nat)
 | con (d:D)
 | tup (es:List E) | lst (es:List E)
 | bin (op:Operator) (a b:E)
 | neg (a:E) | not (a:E)
 | cmp (op:CmpOp) (a b:E)
 | cmp2 (op op':CmpOp) (a b c:E)
 | and (a b:E) | or (a b:E)
 | ite (c a b:E)
 | ix (a i:E)
 | sl (a lo hi:E)
 | rev (a:E)
 | call (f:String) (args:List E)
 | bif (f:BI) (args:List E)
 | isi (a:E) (ts:List Ty)
 | isC (a:E) (s n:List Str)
 | isX (a:E) (sn:List (List Str × List Str))
 | app (i:Nat) (a:E)
 | ext (i:Nat) (a:E)
 | dict (kvs:List (Int × Int))
 | dict1 (k:E) (n:Int)
 | insr (i:Nat) (k a:E)
 | frz (i:Nat)
 | bitl (a:E)
 | mkset (a:E) | nset (a:E)
 | joi (s:Str) (a:E) | spl (i:Nat) (s:Str) | stw (i:Nat) (s:Str)
 | mkrng (es:List E) | lrng (es:List E)
 | fld (a:E) (f:Str)
 | make (c:Str) (ns:List Str) (args:List E)
 | meth (i:Nat) (m:Str) (tb:List (Str × String)) (args:List E)
 | methE (a:E) (m:Str) (tb:List (Str × String)) (args:List E)
 | comp (elt:E) (tg:List Nat) (k:ItK) (its:List E) (cond:List E) (imp:List Nat) (nl:Nat)
inductive S where
 | bad | pass | brk | cnt
 | asg (i:Nat) (e:E)
 | asgT (is:List Nat) (e:E)
 | set (i:Nat) (k e:E)
 | expr (e:E)
 | ret (e:E) | retN
 | ifs (c:E) (a b:List S)
 | for (tg:List Nat) (one:Bool) (k:ItK) (its:List E) (body:List S)
 | whl (c:E) (body:List S)
 | rse (c:Str) (args:List E)
 | tryA (body:List S) (cs:List Str) (i j:Nat)
 | tryB (body:List S) (cs:List Str) (i:Nat) (ss:List S)
 | tryN (body:List S) (cs:List Str)
 | tryO (body:List S)
 | aug (i:Nat) (e:E)
 | retD (elt:E) (tg:List Nat) (k:ItK) (its:List E) (imp:List Nat) (nl:Nat)
 | scr (i j:Nat) (e c:E)
noncomputable def okD:Nat→D→Bool
 | _,.non=>true
 | _,.bl _=>true
 | _,.int _=>true
 | _,.str _=>true
 | n+1,.tup ds=>ds.all (okD n)
 | n+1,.lst ds=>ds.all (okD n)
 | _,_=>false
mutual
noncomputable def eqD:D→D→Bool
 | .non,.non=>true
 | .bl a,.bl b=>a == b
 | .bl a,.int b=>(if a then 1 else 0) == b
 | .int a,.bl b=>a == (if b then 1 else 0)
 | .int a,.int b=>a == b
 | .str a,.str b=>a == b
 | .tup a,.tup b=>eqDs a b
 | .lst a,.lst b=>eqDs a b
 | _,_=>false
noncomputable def eqDs:List D→List D→Bool
 | [],[]=>true
 | a :: as,b :: bs=>eqD a b && eqDs as bs
 | _,_=>false
end
noncomputable def cl (p:Prop):Decidable p:=Classical.propDecidable p
noncomputable section
noncomputable def truthD:D→Option Bool
 | .non=>some false
 | .bl b=>some b
 | .int i=>some (i != 0)
 | .str x=>@ite _ (x.length≤1000000) (cl _) (some ((x.length:Int) != 0)) none
 | .tup ds=>some (!ds.isEmpty)
 | .lst ds=>some (!ds.isEmpty)
 | _=>none
noncomputable def smallL (n:Nat):Bool:=@decide (n≤1000000) (cl _)
noncomputable def binD:Operator→D→D→Option RV
 | .Add,.int i,.int j=>some (.sh (.int (i+j)))
 | .Sub,.int i,.int j=>some (.sh (.int (i - j)))
 | .Mult,.int i,.int j=>@ite _ ((-(2 ^ 64)<i∧i<2 ^ 64)∨(-(2 ^ 64)<j∧j<2 ^ 64)) (cl _) (some (.sh (.int (i*j)))) none
 | .FloorDiv,.int i,.int j=>@ite _ (0<j∧j<100000000000000000000000000000000000000000000000000000000000000000000000000000000) (cl _) (some (.sh (.int (i / j)))) none
 | .Mod,.int i,.int j=>@ite _ (0<j) (cl _) (some (.sh (.int (i % j)))) none
 | .LShift,.int i,.int j=>@ite _ (0≤j∧j≤1000∧i.natAbs<2 ^ 64) (cl _) (some (.sh (.int (i*2 ^ j.toNat)))) none
 | .RShift,.int i,.int j=>@ite _ (0≤j) (cl _) (some (.sh (.int (i / 2 ^ j.toNat)))) none
 | .BitAnd,.int i,.int j=>some (.sh (.int (Builtin.bitAnd i j)))
 | .BitOr,.int i,.int j=>some (.sh (.int (Builtin.bitOr i j)))
 | .Add,.lst xs,.lst ys=>if smallL (xs.length+ys.length) then some (.ow (.lst (xs ++ ys))) else none
 | .Add,.tup [],.tup ys=>some (.sh (.tup ys))
 | .Add,.tup (x :: xs),.tup ys=>if smallL (xs.length+1+ys.length) then some (.sh (.tup (x :: xs ++ ys))) else none
 | .Add,.str x,.str y=>@ite _ (x.length+y.length≤1000000) (cl _) (some (.sh (.str (x ++ y)))) none
 | .Mult,.str x,.int n=>@ite _ (MulOk x n∧PyData.strOk (Txt.mul x n)=true) (cl _) (some (.sh (.str (Txt.mul x n)))) none
 | _,_,_=>none
noncomputable def flatD:D→Bool
 | .non=>true | .bl _=>true | .int _=>true | .str _=>true
 | _=>false
noncomputable def inD (x:D) (ds:List D):Bool:=ds.any fun y=>eqD y x
noncomputable def putI (kvs:List (Int × Int)) (n m:Int):List (Int × Int):=if (kvs.any fun p=>decide (p.1=n))=true then kvs.map (fun p=>if p.1=n then (p.1,m) else p) else kvs ++ [(n,m)]
noncomputable def intsD:List D→Option (List Int)
 | []=>some []
 | .int i :: r=>(intsD r).map (i :: ·)
 | _=>none
noncomputable def skey:D→Option (Int × List Int)
 | .tup [.int t,.tup ds]=>(intsD ds).map fun ns=>(t,ns)
 | _=>none
noncomputable def lookS (kvs:List ((Int × List Int) × Int)) (k:Int × List Int):Option Int:=(kvs.find? fun p=>decide (p.1=k)).map (·.2)
noncomputable def putS (kvs:List ((Int × List Int) × Int)) (k:Int × List Int) (m:Int):List ((Int × List Int) × Int):=if (lookS kvs k).isSome=true then kvs.map (fun p=>if p.1=k then (p.1,m) else p) else kvs ++ [(k,m)]
noncomputable def inS_ (x:D) (kvs:List ((Int × List Int) × Int)):Option Bool:=(skey x).map fun k=>(lookS kvs k).isSome
noncomputable def cmpD:CmpOp→D→D→Option Bool
 | .Eq,x,y=>if okD 20 x && okD 20 y then some (eqD x y) else none
 | .NotEq,x,y=>if okD 20 x && okD 20 y then some (!eqD x y) else none
 | .Lt,.int i,.int j=>some (decide (i<j))
 | .LtE,.int i,.int j=>some (decide (i≤j))
 | .Gt,.int i,.int j=>some (decide (j<i))
 | .GtE,.int i,.int j=>some (decide (j≤i))
 | .Is,.bl a,.bl b=>some (a == b)
 | .Is,.non,.non=>some true
 | .Is,_,.non=>some false
 | .IsNot,.non,.non=>some false
 | .IsNot,_,.non=>some true
 | .In,x,.tup ds=>if flatD x && ds.all flatD then some (inD x ds) else none
 | .In,x,.lst ds=>if flatD x && ds.all flatD then some (inD x ds) else none
 | .In,x,.dcs kvs=>inS_ x kvs
 | .In,.str x,.str y=>some (!(Builtin.Str.occurrences y x 0 y.length 1).isEmpty)
 | _,_,_=>none
noncomputable def atD (ds:List D) (i:Int):Option D:=L2.atI ds i
noncomputable def ixD:D→D→Option D
 | .tup ds,.int i=>atD ds i
 | .lst ds,.int i=>atD ds i
 | .dcs kvs,x=>((skey x).bind (lookS kvs)).map .int
 | .str x,.int i=>@ite _ (x.length≤1000000) (cl _) ((L2.atI x.cps.toList i).map fun c=>.str ⟨#[c]⟩) none
 | _,_=>none
noncomputable def cutD (ds:List D) (lo hi:Option Int):List D:=(ds.drop (HT.sIx ds.length 0 lo)).take (HT.sIx ds.length ds.length hi - HT.sIx ds.length 0 lo)
noncomputable def partD:Option D→Option (Option Int)
 | none=>some none
 | some (.int i)=>some (some i)
 | _=>none
noncomputable def slD:D→Option Int→Option Int→Option RV
 | .lst ds,lo,hi=>some (.ow (.lst (cutD ds lo hi)))
 | .tup ds,lo,hi=>some (.sh (.tup (cutD ds lo hi)))
 | .str x,lo,hi=>@ite _ (x.length≤1000000∧PyData.strOk (Txt.slice x lo hi)=true) (cl _) (some (.sh (.str (Txt.slice x lo hi)))) none
 | _,_,_=>none
noncomputable def revD:D→Option RV
 | .tup ds=>some (.sh (.tup ds.reverse))
 | _=>none
noncomputable def boolsD:List D→Option (List Bool)
 | []=>some []
 | .bl b :: r=>(boolsD r).map (b :: ·)
 | _=>none
mutual
noncomputable def toP:D→PyData
 | .non=>.none
 | .bl b=>.bool b
 | .int i=>.int i
 | .str x=>.str x
 | .tup ds=>.tuple (toPs ds)
 | .lst ds=>.list (toPs ds)
 | .ins _ _ _=>.none
 | .dct _=>.none
 | .exn _=>.none
 | .dcs _=>.none
noncomputable def toPs:List D→List PyData
 | []=>[]
 | d :: ds=>toP d :: toPs ds
end
noncomputable def biD:BI→List D→Option RV
 | .len,[.lst ds]=>some (.sh (.int ds.length))
 | .len,[.tup ds]=>some (.sh (.int ds.length))
 | .len,[.str x]=>@ite _ (x.length≤1000000) (cl _) (some (.sh (.int x.length))) none
 | .abs,[.int i]=>some (.sh (.int (if i<0 then -i else i)))
 | .int,[.int i]=>some (.sh (.int i))
 | .int,[.bl b]=>some (.sh (.int (if b then 1 else 0)))
 | .int,[.str x]=>@ite _ (x.length≤640) (cl _) ((PySem.intText? x).map fun n=>.sh (.int n)) none
 | .str,[.int i]=>@ite _ (i.natAbs.log2<1920∧PyData.strOk (Str.ofString (toString i))=true) (cl _) (some (.sh (.str (Str.ofString (toString i))))) none
 | .str,[.str x]=>some (.sh (.str x))
 | .tuple,[.lst ds]=>some (.sh (.tup ds))
 | .tuple,[.tup ds]=>some (.sh (.tup ds))
 | .all,[.lst ds]=>(boolsD ds).map fun bs=>.sh (.bl (bs.all id))
 | _,_=>none
noncomputable def isTy:Ty→D→Option Bool
 | .int,d=>match d with
  | .int _=>some true | .bl _=>some true | .non=>some false | .str _=>some false | .tup _=>some false | .lst _=>some false
  | _=>none
 | .bool,d=>match d with
  | .bl _=>some true | .int _=>some false | .non=>some false | .str _=>some false | .tup _=>some false | .lst _=>some false
  | _=>none
 | .str,d=>match d with
  | .str _=>some true | .bl _=>some false | .int _=>some false | .non=>some false | .tup _=>some false | .lst _=>some false
  | _=>none
 | .list,d=>match d with
  | .lst _=>some true | .bl _=>some false | .int _=>some false | .non=>some false | .tup _=>some false | .str _=>some false
  | _=>none
 | .tuple,d=>match d with
  | .tup _=>some true | .bl _=>some false | .int _=>some false | .non=>some false | .lst _=>some false | .str _=>some false
  | _=>none
 | .verr,d=>match d with
  | .exn _=>some true
  | _=>none
 | _,_=>none
noncomputable def isTys:List Ty→D→Option Bool
 | [],_=>some false
 | t :: r,d=>(isTy t d).bind fun b=>(isTys r d).map fun c=>b || c
noncomputable def isCD (s n:List Str):D→Option RV
 | .ins c _ _=>if s.contains c then some (.sh (.bl true)) else if n.contains c then some (.sh (.bl false)) else none
 | _=>none
noncomputable def isXs (c:Str):List (List Str × List Str)→Option Bool
 | []=>some false
 | (s,n) :: r=>if s.contains c then some true else if n.contains c then isXs c r else none
noncomputable def isXD (sn:List (List Str × List Str)):D→Option RV
 | .exn c=>(isXs c sn).map fun b=>.sh (.bl b)
 | _=>none
noncomputable def bitD:D→Option RV
 | .int i=>some (.sh (.int (Builtin.Int.intBits i)))
 | _=>none
noncomputable def nsetD:D→Option RV
 | .lst ds=>match intsD ds with
  | some is=>@ite _ (is.length≤1000) (cl _) (some (.sh (.int (PyProof.Rows.firstMet (fun i=>is.getD i 0) is.length).length))) none
  | none=>none
 | _=>none
noncomputable def lrngD:List D→Option RV
 | [.int j]=>@ite _ (-1000000≤j∧j≤1000000) (cl _) (some (.ow (.lst ((List.range (j - 0).toNat).map fun (n:Nat)=>.int (0+(n:Int)))))) none
 | [.int i,.int j]=>@ite _ ((-1000000≤i∧i≤1000000)∧(-1000000≤j∧j≤1000000)) (cl _) (some (.ow (.lst ((List.range (j - i).toNat).map fun (n:Nat)=>.int (i+(n:Int)))))) none
 | _=>none
noncomputable def fldD:D→Str→Option D
 | .ins _ ns ds,f=>(ns.zip ds).lookup f
 | _,_=>none
noncomputable def methD (c:Str) (ns:List Str) (m:Str) (tb:List (Str × String)):Option String:=if ns.contains m then none else tb.lookup c
noncomputable def wrap (t:Bool) (r:Res RV):Res RV :=
 match t with
 | false=>r
 | true=>r.bind fun v ρ=>(truthD v.d).map fun b=>(.ok (.sh (.bl b)),ρ)
noncomputable def hd (e:E) (r:Res RV) (ρ:Env):Res Hd :=
 match e with
 | .var i=>if ((ρ[i]?).bind Sl.get).isSome then some (.ok (.slot i),ρ) else none
 | _=>r.bind fun v ρ'=>some (.ok (.val v.low),ρ')
noncomputable def isOmit:E→Bool
 | .omt=>true
 | _=>false
noncomputable def part (e:E) (r:Res RV) (ρ:Env):Res (Option D) :=
 if isOmit e then some (.ok none,ρ) else r.bind fun v ρ'=>some (.ok (some v.d),ρ')
noncomputable def mulOk (op:Operator) (x:Hd) (d:D):Bool :=
 match op,d with
 | .Mult,.lst _=>match x with
  | .val (.ow _)=>true
  | _=>false
 | _,_=>true
noncomputable def isOw (ρ:Env) (i:Nat):Bool :=
 match ρ[i]? with
 | some (.ow (.lst _) _ _)=>true
 | _=>false
noncomputable def isDs (ρ:Env) (i:Nat):Bool :=
 match ρ[i]? with
 | some (.ow (.dcs _) _ _)=>true
 | _=>false
noncomputable def isDc (ρ:Env) (i:Nat):Bool :=
 match ρ[i]? with
 | some (.ow (.dct _) _ _)=>true
 | _=>false
noncomputable def freeze (i:Nat) (ρ:Env):Res RV :=
 match ρ[i]? with
 | some (.sh d)=>some (.ok (.sh d),ρ)
 | some (.ow d false false)=>some (.ok (.sh d),ρ.set i (.sh d))
 | _=>none
noncomputable def done (o:Option RV) (ρ:Env):Res RV:=o.map fun v=>(.ok v,ρ)
noncomputable def store (i:Nat) (v:RV) (ρ:Env):Option Env :=
 match ρ[i]? with
 | none=>none
 | some (.ow _ true _)=>none
 | some (.ow _ _ true)=>none
 | some _=>match v with
  | .sh d=>some (ρ.set i (.sh d))
  | .ow d=>some (ρ.set i (.ow d false false))
  | .od _=>none
noncomputable def stores:List Nat→List D→Env→Option Env
 | [],[],ρ=>some ρ
 | i :: is,d :: ds,ρ=>(store i (.sh d) ρ).bind (stores is ds)
 | _,_,_=>none
noncomputable def bindT (one:Bool) (tg:List Nat) (d:D) (ρ:Env):Option Env :=
 match one,tg,d with
 | true,[i],d=>store i (.sh d) ρ
 | false,is,.tup ds=>stores is ds ρ
 | _,_,_=>none
abbrev Calls:=String→List Sl→Res RV
noncomputable def lend (pins:List Bool) (hs:List Hd) (ρ:Env):Option (List Sl × Env) :=
 match pins,hs with
 | [],[]=>some ([],ρ)
 | p :: ps,.val (.sh d) :: r=>(lend ps r ρ).map fun (as,ρ')=>(.sh d :: as,ρ')
 | p :: ps,.val (.ow d) :: r=>(lend ps r ρ).map fun (as,ρ')=>((if p then .ow d true false else .sh d) :: as,ρ')
 | p :: ps,.slot i :: r =>
  match ρ[i]? with
  | some (.sh d)=>(lend ps r ρ).map fun (as,ρ')=>(.sh d :: as,ρ')
  | some (.ow d pin lk) =>
   match p with
   | true=>(lend ps r (ρ.set i .un)).map fun (as,ρ')=>(.ow d true lk :: as,ρ')
   | false=>if pin || lk then none else (lend ps r (ρ.set i (.sh d))).map fun (as,ρ')=>(.sh d :: as,ρ')
  | _=>none
 | _,_=>none
noncomputable def giveBack (pins:List Bool) (hs:List Hd) (as:List Sl) (ρ0 ρ:Env):Option Env :=
 match pins,hs,as with
 | [],[],[]=>some ρ
 | true :: ps,.slot i :: r,a :: as =>
  match ρ0[i]?,a with
  | some (.ow _ pin lk),.ow d _ _=>giveBack ps r as ρ0 (ρ.set i (.ow d pin lk))
  | some (.ow _ _ _),_=>none
  | _,_=>giveBack ps r as ρ0 ρ
 | _ :: ps,_ :: r,_ :: as=>giveBack ps r as ρ0 ρ
 | _,_,_=>none
noncomputable def doCall (pins:List Bool) (f:List Sl→Res RV) (hs:List Hd) (ρ:Env):Res RV :=
 match lend pins hs ρ with
 | none=>none
 | some (as,ρ1) =>
  match f as with
  | none=>none
  | some (o,as')=>(giveBack pins hs as' ρ ρ1).map fun ρ'=>(o,ρ')
noncomputable def enumD (lo:Int) (ds:List D):List D:=(List.range ds.length).map fun (j:Nat)=>.tup [.int (lo+(j:Int)),ds.getD j .non]
noncomputable def strDs (x:Str):List D:=x.cps.toList.map fun c=>.str ⟨#[c]⟩
noncomputable def strsD:List D→Option (List Str)
 | []=>some []
 | .str x :: r=>(strsD r).map (x :: ·)
 | _=>none
noncomputable def joinD (s:Str):D→Option RV
 | .lst ds=>match strsD ds with
  | some ts=>@ite _ (JoinOk s ts=true∧PyData.strOk (Txt.join s ts)=true) (cl _) (some (.sh (.str (Txt.join s ts)))) none
  | none=>none
 | _=>none
noncomputable def splO (s:Str) (ρ:Env) (o:Option Sl):Res RV:=match o with
 | some (.sh (.str x))=>@ite _ ((s.length == 0)=false∧x.length≤1000000∧(Txt.split x s).all PyData.strOk=true) (cl _) (some (.ok (.ow (.lst ((Txt.split x s).map D.str))),ρ)) none
 | _=>none
noncomputable def stwO (s:Str) (ρ:Env) (o:Option Sl):Res RV:=match o with
 | some (.sh (.str x))=>some (.ok (.sh (.bl (Txt.startswith x s))),ρ)
 | _=>none
noncomputable def itemsOf (k:ItK) (hs:List Hd) (ρ:Env):Option (List D × Option Nat) :=
 match k,hs with
 | .rng,[a]=>match a.get ρ with
  | some (.int n)=>@ite _ (-1000000≤n∧n≤1000000) (cl _) (some ((List.range n.toNat).map fun (j:Nat)=>.int (j:Int),none)) none
  | _=>none
 | .rng,[a,b]=>match a.get ρ,b.get ρ with
  | some (.int m),some (.int n)=>@ite _ ((-1000000≤m∧m≤1000000)∧(-1000000≤n∧n≤1000000)) (cl _) (some ((List.range (n - m).toNat).map fun (j:Nat)=>.int (m+(j:Int)),none)) none
  | _,_=>none
 | .enum lo,[.slot i]=>match ρ[i]? with
  | some (.ow (.lst ds) _ _)=>some (enumD lo ds,some i)
  | some (.sh (.lst ds))=>some (enumD lo ds,none)
  | _=>none
 | .enum lo,[.val v]=>match v.d with
  | .lst ds=>some (enumD lo ds,none)
  | _=>none
 | .of,[.slot i]=>match ρ[i]? with
  | some (.ow (.lst ds) _ _)=>some (ds,some i)
  | some (.sh (.lst ds))=>some (ds,none)
  | some (.sh (.tup ds))=>some (ds,none)
  | _=>none
 | .of,[.val v]=>match v.d with
  | .lst ds=>some (ds,none)
  | .tup ds=>some (ds,none)
  | _=>none
 | .sig,[a]=>match a.get ρ with
  | some (.str x)=>@ite _ (x.cps.all (·<128)=true∧PyData.strOk x=true) (cl _) (some (strDs x,none)) none
  | _=>none
 | _,_=>none
noncomputable def takeOut (o:Option Nat) (ρ:Env):Env :=
 match o with
 | none=>ρ
 | some i=>ρ.set i .un
noncomputable def putBack (o:Option Nat) (ρ0 ρ:Env):Option Env :=
 match o with
 | none=>some ρ
 | some i=>match ρ[i]?,ρ0[i]? with
  | some .un,some sl=>some (ρ.set i sl)
  | _,_=>none
noncomputable def compL (tests:Env→Res RV) (elt:Env→Res RV) (bind:D→Env→Option Env):List D→List D→Env→Res (List D)
 | [],acc,ρ=>some (.ok acc,ρ)
 | d :: ds,acc,ρ=>match bind d ρ with
  | none=>none
  | some ρ1=>(tests ρ1).bind fun c ρ2=>match c with
   | .sh (.bl true)=>(elt ρ2).bind fun v ρ3=>compL tests elt bind ds (acc ++ [v.d]) ρ3
   | .sh (.bl false)=>compL tests elt bind ds acc ρ2
   | _=>none
noncomputable def back:List Sl→Env→List Sl
 | .ow _ _ _ :: as,b :: bs=>b :: back as bs
 | a :: as,_ :: bs=>a :: back as bs
 | _,_=>[]
noncomputable def pinOk:Sl→Bool
 | .ow _ p _=>p
 | .sh _=>true
 | _=>false
noncomputable def compF (tests:Env→Res RV) (elt:Env→Res RV) (bind:D→Env→Option Env) (ds:List D) (nl:Nat) (as:List Sl):Res RV :=
 if as.all pinOk=true then (compL tests elt bind ds [] (as ++ List.replicate nl .un)).bind fun acc ρi =>
  if smallL acc.length then some (.ok (.ow (.lst acc)),back as ρi) else none
 else none
noncomputable def giveOut (o:Option Nat) (ρ1:Env) (v:RV) (ρ2:Env):Res RV:=(putBack o ρ1 ρ2).map fun ρ'=>(.ok v,ρ')
structure Fn where
 pins:List Bool
 nl:Nat
 body:List S
 rs:Bool
abbrev Pins:=String→List Bool
mutual
noncomputable def ev (P:Pins) (C:Calls) (t:Bool):E→Env→Res RV
 | .bad,_=>none
 | .omt,_=>none
 | .var i,ρ=>match t with
  | true=>wrap true (((ρ[i]?).bind Sl.get).map fun d=>(.ok (.sh d),ρ))
  | false=>freeze i ρ
 | .con d,ρ=>wrap t (some (.ok (.sh d),ρ))
 | .tup es,ρ=>wrap t ((evs P C es ρ).bind fun ds ρ'=>if smallL ds.length then some (.ok (.sh (.tup ds)),ρ') else none)
 | .lst es,ρ=>wrap t ((evs P C es ρ).bind fun ds ρ'=>if smallL ds.length then some (.ok (.ow (.lst ds)),ρ') else none)
 | .bin op a b,ρ=>wrap t ((hd a (ev P C false a ρ) ρ).bind fun x ρ1=>(hd b (ev P C false b ρ1) ρ1).bind fun y ρ2 =>
   done ((x.get ρ2).bind fun d=>(y.get ρ2).bind fun e=>if mulOk op x d then binD op d e else none) ρ2)
 | .neg a,ρ=>wrap t ((ev P C false a ρ).bind fun v ρ1=>match v.d with
  | .int i=>some (.ok (.sh (.int (-i))),ρ1)
  | _=>none)
 | .not a,ρ=>match t with
  | true=>(ev P C true a ρ).bind fun v ρ1=>match v with
   | .sh (.bl b)=>some (.ok (.sh (.bl (!b))),ρ1)
   | _=>none
  | false=>(hd a (ev P C false a ρ) ρ).bind fun x ρ1=>done ((x.get ρ1).bind fun d=>(truthD d).map fun b=>.sh (.bl (!b))) ρ1
 | .cmp op a b,ρ=>(hd a (ev P C false a ρ) ρ).bind fun x ρ1=>(hd b (ev P C false b ρ1) ρ1).bind fun y ρ2 =>
   done ((x.get ρ2).bind fun d=>(y.get ρ2).bind fun e=>(cmpD op d e).map fun b=>.sh (.bl b)) ρ2
 | .cmp2 op op' a b c,ρ=>(hd a (ev P C false a ρ) ρ).bind fun x ρ1=>(hd b (ev P C false b ρ1) ρ1).bind fun y ρ2 =>
   match (x.get ρ2).bind fun d=>(y.get ρ2).bind fun e=>cmpD op d e with
   | none=>none
   | some false=>some (.ok (.sh (.bl false)),ρ2)
   | some true=>(hd c (ev P C false c ρ2) ρ2).bind fun z ρ3 =>
    done ((y.get ρ3).bind fun d=>(z.get ρ3).bind fun e=>(cmpD op' d e).map fun b=>.sh (.bl b)) ρ3
 | .and a b,ρ=>(ev P C t a ρ).bind fun v ρ1=>match v with
  | .sh (.bl true)=>ev P C t b ρ1
  | .sh (.bl false)=>some (.ok (.sh (.bl false)),ρ1)
  | _=>none
 | .or a b,ρ=>(ev P C t a ρ).bind fun v ρ1=>match v with
  | .sh (.bl true)=>some (.ok (.sh (.bl true)),ρ1)
  | .sh (.bl false)=>ev P C t b ρ1
  | _=>none
 | .ite c a b,ρ=>(ev P C true c ρ).bind fun v ρ1=>match v with
  | .sh (.bl true)=>ev P C t a ρ1
  | .sh (.bl false)=>ev P C t b ρ1
  | _=>none
 | .ix a i,ρ=>wrap t ((hd a (ev P C false a ρ) ρ).bind fun x ρ1=>(ev P C false i ρ1).bind fun k ρ2 =>
   done ((x.get ρ2).bind fun d=>(ixD d k.d).map .sh) ρ2)
 | .sl a lo hi,ρ=>wrap t ((hd a (ev P C false a ρ) ρ).bind fun x ρ1 =>
   (part lo (ev P C false lo ρ1) ρ1).bind fun l ρ2=>(part hi (ev P C false hi ρ2) ρ2).bind fun h ρ3 =>
   done ((x.get ρ3).bind fun d=>(partD l).bind fun l=>(partD h).bind fun h=>slD d l h) ρ3)
 | .rev a,ρ=>wrap t ((hd a (ev P C false a ρ) ρ).bind fun x ρ1=>done ((x.get ρ1).bind revD) ρ1)
 | .call f es,ρ=>wrap t ((evHs P C es ρ).bind fun hs ρ1=>doCall (P f) (C f) hs ρ1)
 | .bif f es,ρ=>wrap t ((evHs P C es ρ).bind fun hs ρ1=>done ((getAll hs ρ1).bind (biD f)) ρ1)
 | .isi a ts,ρ=>wrap t ((hd a (ev P C false a ρ) ρ).bind fun x ρ1 =>
   done ((x.get ρ1).bind fun d=>(isTys ts d).map fun b=>.sh (.bl b)) ρ1)
 | .isX a sn,ρ=>wrap t ((hd a (ev P C false a ρ) ρ).bind fun x ρ1=>done ((x.get ρ1).bind (isXD sn)) ρ1)
 | .isC a s n,ρ=>wrap t ((hd a (ev P C false a ρ) ρ).bind fun x ρ1=>done ((x.get ρ1).bind (isCD s n)) ρ1)
 | .app i a,ρ=>wrap t (if isOw ρ i then (ev P C false a ρ).bind fun v ρ1=>match ρ1[i]? with
  | some (.ow (.lst ds) p false)=>if smallL (ds.length+1) then some (.ok (.sh .non),ρ1.set i (.ow (.lst (ds ++ [v.d])) p false)) else none
  | _=>none
  else none)
 | .insr i k a,ρ=>wrap t (if isOw ρ i then (ev P C false k ρ).bind fun j ρ1=>(ev P C false a ρ1).bind fun v ρ2=>match ρ2[i]?,j with
  | some (.ow (.lst ds) p false),.sh (.int n)=>@ite _ ((0≤n∧n≤1000000)∧smallL (ds.length+1)=true) (cl _) (some (.ok (.sh .non),ρ2.set i (.ow (.lst (ds.take n.toNat ++ v.d :: ds.drop n.toNat)) p false))) none
  | _,_=>none
  else none)
 | .dict kvs,ρ=>wrap t (some (.ok (.ow (.dct kvs)),ρ))
 | .dict1 a n,ρ=>wrap t ((ev P C false a ρ).bind fun v ρ1=>match skey v.d with
  | some k=>some (.ok (.ow (.dcs [(k,n)])),ρ1)
  | none=>none)
 | .ext i a,ρ=>wrap t (if isOw ρ i then (ev P C false a ρ).bind fun v ρ1=>match ρ1[i]?,v with
  | some (.ow (.lst ds) p false),.ow (.lst es)=>if smallL (ds.length+es.length) then some (.ok (.sh .non),ρ1.set i (.ow (.lst (ds ++ es)) p false)) else none
  | _,_=>none
  else none)
 | .frz i,ρ=>wrap t (freeze i ρ)
 | .bitl a,ρ=>wrap t ((hd a (ev P C false a ρ) ρ).bind fun x ρ1=>done ((x.get ρ1).bind bitD) ρ1)
 | .mkset _,_=>none
 | .mkrng _,_=>none
 | .lrng es,ρ=>wrap t ((evHs P C es ρ).bind fun hs ρ1=>done ((getAll hs ρ1).bind lrngD) ρ1)
 | .joi s a,ρ=>wrap t ((hd a (ev P C false a ρ) ρ).bind fun x ρ1=>done ((x.get ρ1).bind (joinD s)) ρ1)
 | .spl i s,ρ=>wrap t (splO s ρ ρ[i]?)
 | .stw i s,ρ=>wrap t (stwO s ρ ρ[i]?)
 | .nset a,ρ=>wrap t ((hd a (ev P C false a ρ) ρ).bind fun x ρ1=>done ((x.get ρ1).bind nsetD) ρ1)
 | .fld a f,ρ=>wrap t ((hd a (ev P C false a ρ) ρ).bind fun x ρ1=>done ((x.get ρ1).bind fun d=>(fldD d f).map .sh) ρ1)
 | .make c ns es,ρ=>wrap t ((evs P C es ρ).bind fun ds ρ1=>if ds.length=ns.length then some (.ok (.sh (.ins c ns ds)),ρ1) else none)
 | .meth i m tb es,ρ=>wrap t (match ρ[i]? with
  | some (.sh (.ins c ns ds))=>(match methD c ns m tb with
   | some f=>(evHs P C es ρ).bind fun hs ρ1=>doCall (P f) (C f) (.val (.sh (.ins c ns ds)) :: hs) ρ1
   | none=>none)
  | _=>none)
 | .methE a m tb es,ρ=>wrap t ((ev P C false a ρ).bind fun v ρ0=>match v with
  | .sh (.ins c ns ds)=>(match methD c ns m tb with
   | some f=>(evHs P C es ρ0).bind fun hs ρ1=>doCall (P f) (C f) (.val (.sh (.ins c ns ds)) :: hs) ρ1
   | none=>none)
  | _=>none)
 | .comp elt tg k its cond imp nl,ρ=>wrap t ((evHs P C its ρ).bind fun hs ρ1 =>
   match itemsOf k hs ρ1 with
   | none=>none
   | some (ds,o)=>(doCall (imp.map fun _=>true) (compF (evTs P C cond) (ev P C false elt) (bindT (tg.length == 1) tg) ds nl) (imp.map Hd.slot) (takeOut o ρ1)).bind (giveOut o ρ1))
noncomputable def evs (P:Pins) (C:Calls):List E→Env→Res (List D)
 | [],ρ=>some (.ok [],ρ)
 | e :: es,ρ=>(ev P C false e ρ).bind fun v ρ1=>(evs P C es ρ1).bind fun ds ρ2=>some (.ok (v.d :: ds),ρ2)
noncomputable def evHs (P:Pins) (C:Calls):List E→Env→Res (List Hd)
 | [],ρ=>some (.ok [],ρ)
 | e :: es,ρ=>(hd e (ev P C false e ρ) ρ).bind fun v ρ1=>(evHs P C es ρ1).bind fun ds ρ2=>some (.ok (v :: ds),ρ2)
noncomputable def evTs (P:Pins) (C:Calls):List E→Env→Res RV
 | [],ρ=>some (.ok (.sh (.bl true)),ρ)
 | e :: es,ρ=>(ev P C true e ρ).bind fun v ρ1=>match v with
  | .sh (.bl true)=>evTs P C es ρ1
  | .sh (.bl false)=>some (.ok (.sh (.bl false)),ρ1)
  | _=>none
end
mutual
noncomputable def evX (P:Pins) (C:Calls):E→Env→Option (Exc × Env)
 | .call f es,ρ=>match evHs P C es ρ with
  | some (.ok hs,ρ1)=>match doCall (P f) (C f) hs ρ1 with
   | some (.ex x,ρ')=>some (x,ρ')
   | _=>none
  | _=>evXs P C es ρ
 | _,_=>none
noncomputable def evXs (P:Pins) (C:Calls):List E→Env→Option (Exc × Env)
 | [],_=>none
 | e :: es,ρ=>match hd e (ev P C false e ρ) ρ with
  | some (.ok _,ρ1)=>evXs P C es ρ1
  | _=>evX P C e ρ
end
inductive Fl where
 | nx | bk | ct | rt (v:RV) | ex (e:Exc)
abbrev Run:=Option (Fl × Env)
noncomputable def Res.flow {α:Type} (r:Res α) (f:α→Env→Run):Run :=
 match r with
 | none=>none
 | some (.ex e,ρ)=>some (.ex e,ρ)
 | some (.ok a,ρ)=>f a ρ
noncomputable def Run.next (r:Run) (f:Env→Run):Run :=
 match r with
 | some (.nx,ρ)=>f ρ
 | r=>r
noncomputable def Run.restore (r:Run) (o:Option Nat) (ρ0:Env):Run :=
 match r with
 | none=>none
 | some (fl,ρ)=>(putBack o ρ0 ρ).map fun ρ'=>(fl,ρ')
noncomputable def goOn (o:Option Env):Run:=o.map fun ρ=>(.nx,ρ)
noncomputable def loopF (bind:D→Env→Option Env) (body:Env→Run):List D→Env→Run
 | [],ρ=>some (.nx,ρ)
 | d :: ds,ρ=>match bind d ρ with
  | none=>none
  | some ρ1=>match body ρ1 with
   | some (.nx,ρ2)=>loopF bind body ds ρ2
   | some (.ct,ρ2)=>loopF bind body ds ρ2
   | some (.bk,ρ2)=>some (.nx,ρ2)
   | r=>r
noncomputable def loopW (test:Env→Res RV) (body:Env→Run):Nat→Env→Run
 | 0,_=>none
 | n+1,ρ=>(test ρ).flow fun v ρ1=>match v with
  | .sh (.bl true)=>match body ρ1 with
   | some (.nx,ρ2)=>loopW test body n ρ2
   | some (.ct,ρ2)=>loopW test body n ρ2
   | some (.bk,ρ2)=>some (.nx,ρ2)
   | r=>r
  | .sh (.bl false)=>some (.nx,ρ1)
  | _=>none
noncomputable def augO (i:Nat) (o:Option Sl) (r:Res RV):Run :=
 match o,r with
 | some (.sh (.int a)),some (.ok (.sh (.int b)),ρ1)=>goOn (store i (.sh (.int (a+b))) ρ1)
 | _,_=>none
noncomputable def setS (i:Nat) (ρ:Env) (o:Option Sl) (k:Option (Int × List Int)) (v:RV):Run :=
 match o,k,v with
 | some (.ow (.dcs kvs) p false),some k,.sh (.int m)=>if smallL (kvs.length+1) then some (.nx,ρ.set i (.ow (.dcs (putS kvs k m)) p false)) else none
 | _,_,_=>none
noncomputable def odO (r:Res RV):Res RV :=
 match r with
 | some (.ok (.ow (.lst ds)),ρ)=>if ds.length≤1000 then some (.ok (.ow (.lst ds)),ρ) else none
 | _=>none
noncomputable def evG (P:Pins) (C:Calls) (elt:Env→Res RV) (tg:List Nat) (k:ItK) (its cond:List E) (imp:List Nat) (nl:Nat) (ρ:Env):Res RV :=
 (evHs P C its ρ).bind fun hs ρ1 =>
   match itemsOf k hs ρ1 with
   | none=>none
   | some (ds,o)=>(doCall (imp.map fun _=>true) (compF (evTs P C cond) elt (bindT (tg.length == 1) tg) ds nl) (imp.map Hd.slot) (takeOut o ρ1)).bind (giveOut o ρ1)
noncomputable def evD (P:Pins) (C:Calls) (elt:E) (tg:List Nat) (k:ItK) (its:List E) (imp:List Nat) (nl:Nat) (ρ:Env):Res RV :=
 evG P C (fun ρ=>odO (ev P C false elt ρ)) tg k its [] imp nl ρ
noncomputable def retDO (r:Res RV):Run :=
 match r with
 | some (.ok (.ow d),ρ1)=>some (.rt (.od d),ρ1)
 | _=>none
noncomputable def noOw (ρ:Env):Bool:=ρ.all fun s=>match s with | .ow _ _ _=>false | _=>true
noncomputable def fz1 (n:Nat) (ρ:Env):Env :=
 match ρ[n]? with
 | some (.ow d false false)=>ρ.set n (.sh d)
 | _=>ρ
noncomputable def frz:Nat→Env→Env
 | 0,ρ=>ρ
 | n+1,ρ=>fz1 n (frz n ρ)
noncomputable def scrO (i j:Nat) (ρ:Env) (e c:Env→Res RV):Run :=
 match e (frz ρ.length ρ) with
 | some (.ok (.od (.lst ds)),ρ1)=>@ite _ (ρ1=frz ρ.length ρ∧noOw ρ1=true∧ds.length≤1000∧i<ρ1.length∧j<ρ1.length∧c (ρ1.set i (.sh (.lst ds)))=some (.ok (.sh (.bl false)),ρ1.set i (.sh (.lst ds)))) (cl _) (some (.nx,(ρ1.set i .mv).set j .mv)) none
 | _=>none
noncomputable def took (cs:List Str) (i:Nat) (o:Option (Exc × Env)):Option Env :=
 match o with
 | none=>none
 | some (x,ρ1)=>if cs.contains x.cls then store i (.sh (.exn x.cls)) ρ1 else none
noncomputable def gone (i:Nat) (r:Run):Run :=
 match r with
 | some (.nx,ρ)=>(match ρ[i]? with | some (.sh _)=>some (.nx,ρ.set i .mv) | _=>none)
 | _=>none
noncomputable def caught (cs:List Str) (i j:Nat) (o:Option (Exc × Env)):Run :=
 match o with
 | none=>none
 | some (x,ρ1)=>if cs.contains x.cls∧i≠j then (store i (.sh (.exn x.cls)) ρ1).bind fun ρ2=>(store j (.sh (.exn x.cls)) ρ2).map fun ρ3=>(.nx,ρ3.set i .mv) else none
noncomputable def caughtN (cs:List Str) (o:Option (Exc × Env)):Run :=
 match o with
 | none=>none
 | some (x,ρ1)=>if cs.contains x.cls then some (.rt (.sh .non),ρ1) else none
mutual
noncomputable def ex (P:Pins) (C:Calls) (W:Nat):S→Env→Run
 | .bad,_=>none
 | .pass,ρ=>some (.nx,ρ)
 | .brk,ρ=>some (.bk,ρ)
 | .cnt,ρ=>some (.ct,ρ)
 | .asg i e,ρ=>(ev P C false e ρ).flow fun v ρ1=>goOn (store i v ρ1)
 | .asgT is e,ρ=>(ev P C false e ρ).flow fun v ρ1=>goOn (bindT false is v.d ρ1)
 | .set i k e,ρ=>(ev P C false e ρ).flow fun v ρ1=>if isOw ρ1 i then (ev P C false k ρ1).flow fun j ρ2=>match ρ2[i]?,j.d with
  | some (.ow (.lst ds) p false),.int n=>goOn ((L2.ixN ds.length n).map fun m=>ρ2.set i (.ow (.lst (ds.set m v.d)) p false))
  | _,_=>none
  else if isDs ρ1 i then (ev P C false k ρ1).flow fun j ρ2=>setS i ρ2 ρ2[i]? (skey j.d) v
  else none
 | .expr e,ρ=>(ev P C false e ρ).flow fun _ ρ1=>some (.nx,ρ1)
 | .ret e,ρ=>match e with
  | .var i=>match ρ[i]? with
   | some (.ow d false _)=>some (.rt (.ow d),ρ.set i .mv)
   | some (.sh d)=>some (.rt (.sh d),ρ)
   | _=>none
  | e=>(ev P C false e ρ).flow fun v ρ1=>some (.rt v,ρ1)
 | .retN,ρ=>some (.rt (.sh .non),ρ)
 | .ifs c a b,ρ=>(ev P C true c ρ).flow fun v ρ1=>match v with
  | .sh (.bl true)=>exs P C W a ρ1
  | .sh (.bl false)=>exs P C W b ρ1
  | _=>none
 | .for tg one k its body,ρ=>(evHs P C its ρ).flow fun hs ρ1 =>
  match itemsOf k hs ρ1 with
  | none=>none
  | some (ds,o)=>(loopF (bindT one tg) (exs P C W body) ds (takeOut o ρ1)).restore o ρ1
 | .whl c body,ρ=>loopW (ev P C true c) (exs P C W body) W ρ
 | .rse _ _,_=>none
 | .aug i e,ρ=>augO i ρ[i]? (ev P C false e ρ)
 | .retD elt tg k its imp nl,ρ=>retDO (evD P C elt tg k its imp nl ρ)
 | .scr i j e c,ρ=>scrO i j ρ (ev P C false e) (ev P C true c)
 | .tryA body cs i j,ρ=>match exs P C W body ρ with
  | some (.nx,ρ1)=>some (.nx,ρ1)
  | _=>caught cs i j (exsX P C W body ρ)
 | .tryB body cs i ss,ρ=>match exs P C W body ρ with
  | some (.nx,ρ1)=>some (.nx,ρ1)
  | _=>match took cs i (exsX P C W body ρ) with
   | some ρ2=>gone i (exs P C W ss ρ2)
   | none=>none
 | .tryN body cs,ρ=>match exs P C W body ρ with
  | some (.nx,ρ1)=>some (.nx,ρ1)
  | some (.rt v,ρ1)=>some (.rt v,ρ1)
  | _=>caughtN cs (exsX P C W body ρ)
 | .tryO body,ρ=>exs P C W body ρ
noncomputable def exs (P:Pins) (C:Calls) (W:Nat):List S→Env→Run
 | [],ρ=>some (.nx,ρ)
 | s :: r,ρ=>(ex P C W s ρ).next (exs P C W r)
noncomputable def exX (P:Pins) (C:Calls) (W:Nat):S→Env→Option (Exc × Env)
 | .asg _ e,ρ=>evX P C e ρ
 | .expr e,ρ=>evX P C e ρ
 | .ret e,ρ=>evX P C e ρ
 | .rse c es,ρ=>match evs P C es ρ with
  | some (.ok _,ρ1)=>some (⟨c⟩,ρ1)
  | _=>none
 | .ifs c a b,ρ=>match ev P C true c ρ with
  | some (.ok (.sh (.bl true)),ρ1)=>exsX P C W a ρ1
  | some (.ok (.sh (.bl false)),ρ1)=>exsX P C W b ρ1
  | _=>none
 | _,_=>none
noncomputable def exsX (P:Pins) (C:Calls) (W:Nat):List S→Env→Option (Exc × Env)
 | [],_=>none
 | s :: r,ρ=>match ex P C W s ρ with
  | some (.nx,ρ1)=>exsX P C W r ρ1
  | _=>exX P C W s ρ
end
abbrev Tab:=String→Option Fn
noncomputable def Tab.pins (T:Tab):Pins:=fun f=>match T f with
 | some fn=>fn.pins
 | none=>[]
noncomputable def run (T:Tab) (W:Nat):Nat→Calls
 | 0=>fun _ _=>none
 | n+1=>fun f as=>match T f with
  | none=>none
  | some fn=>if as.length=fn.pins.length∧as.all pinOk=true then
    match exs T.pins (run T W n) W fn.body (as ++ List.replicate fn.nl .un) with
    | some (.nx,ρ)=>some (.ok (.sh .non),back as ρ)
    | some (.rt v,ρ)=>some (.ok v,back as ρ)
    | _=>if fn.rs then match exsX T.pins (run T W n) W fn.body (as ++ List.replicate fn.nl .un) with
     | some (x,ρ)=>some (.ex x,back as ρ)
     | none=>none
     else none
   else none
end
end CI
namespace CI
open PySem PySem.Spec PyProof.Rows L2
abbrev St:=L2.St
structure ClsF (K:PySem.W.Frag) (C:Addr) (ns:List Str):Prop where
 cl:Cls K C
 no:∀ f∈ns,NoAttr K C f
noncomputable def dkv (kvs:List (Int × Int)):List (Key × V):=kvs.map fun p=>(Sum.inl p.1,.int p.2)
def DsR (K:PySem.W.Frag) (G:Hp) (a:Addr) (kvs:List ((Int × List Int) × Int)) (xs:SXs):Prop:=(xs.map (·.1)).Nodup∧xs.length≤sizeLine∧(a == sysModules)=false∧(∀ x∈xs,KeyAt K G x.1 x.2.1)∧Paired (fun (p:(Int × List Int) × Int) (q:SKey × Addr × Value)=>p.1=q.1∧∃ t,q.2.2=.int p.2 t) kvs xs
mutual
def Rep (K:PySem.W.Frag) (G:Hp):D→V→Prop
 | .non,v=>v=.non
 | .bl b,v=>v=.bl b
 | .int i,v=>v=.int i
 | .str x,v=>v=.str x∧PyData.strOk x=true
 | .tup ds,v=>∃ a vs,v=.ref a∧SqT K G a vs∧Reps K G ds vs
 | .lst ds,v=>∃ a vs,v=.ref a∧SqL K G a vs∧Reps K G ds vs
 | .ins c ns ds,v=>∃ a C dx vs,v=.ref a∧PySem.W.nsIn K mainGlobals c=some (some (.ref C))∧G a=some (.ins C dx (ns.zip vs))∧Reps K G ds vs∧ClsF K C ns∧ns.length=vs.length
 | .dct kvs,v=>∃ a,v=.ref a∧G a=some (.dK (dkv kvs))
 | .exn c,v=>∃ a C,v=.ref a∧PySem.W.nsIn K mainGlobals c=some (some (.ref C))∧ExcG K C∧G a=some (.ext (ExcO a C))
 | .dcs kvs,v=>∃ a xs,v=.ref a∧G a=some (.ext (DRaw a xs))∧DsR K G a kvs xs
def Reps (K:PySem.W.Frag) (G:Hp):List D→List V→Prop
 | [],vs=>vs=[]
 | d :: ds,vs=>∃ v r,vs=v :: r∧Rep K G d v∧Reps K G ds r
end
theorem sqT_mono {K:PySem.W.Frag} {G G':Hp} (s:Same G G') {a:Addr} {vs:List V} (h:SqT K G a vs):SqT K G' a vs:=by
 rcases h with (h | ⟨o,h⟩) | h
 ·exact .inl (.inl (s _ _ h))
 ·exact .inl (.inr ⟨o,s _ _ h⟩)
 ·exact .inr h
theorem KeyAt.mono {K:PySem.W.Frag} {G G':Hp} (s:Same G G') {k:SKey} {b:Addr} (h:KeyAt K G k b):KeyAt K G' k b:=let ⟨c,h1,h2⟩:=h; ⟨c,sqT_mono s h1,sqT_mono s h2⟩
theorem DsR.mono {K:PySem.W.Frag} {G G':Hp} (s:Same G G') {a:Addr} {kvs:List ((Int × List Int) × Int)} {xs:SXs} (h:DsR K G a kvs xs):DsR K G' a kvs xs:=⟨h.1,h.2.1,h.2.2.1,fun x hx=>KeyAt.mono s (h.2.2.2.1 x hx),h.2.2.2.2⟩
mutual
theorem Rep.mono {K:PySem.W.Frag} {G G':Hp} (s:Same G G'):∀ (d:D) {v:V},Rep K G d v→Rep K G' d v
 | .non,_,h=>by simpa [Rep] using h
 | .bl _,_,h=>by simpa [Rep] using h
 | .int _,_,h=>by simpa [Rep] using h
 | .str _,_,h=>by simpa [Rep] using h
 | .tup ds,_,h=>by
  simp only [Rep] at h ⊢
  obtain ⟨a,vs,e,h1,h2⟩:=h
  exact ⟨a,vs,e,sqT_mono s h1,Reps.mono s ds h2⟩
 | .lst ds,_,h=>by
  simp only [Rep] at h ⊢
  obtain ⟨a,vs,e,h1,h2⟩:=h
  exact ⟨a,vs,e,s.seq h1,Reps.mono s ds h2⟩
 | .ins c ns ds,_,h=>by
  simp only [Rep] at h ⊢
  obtain ⟨a,C,dx,vs,e,h1,h2,h3,h4,h5⟩:=h
  exact ⟨a,C,dx,vs,e,h1,s _ _ h2,Reps.mono s ds h3,h4,h5⟩
 | .dct kvs,_,h=>by
  simp only [Rep] at h ⊢
  obtain ⟨a,e,h1⟩:=h
  exact ⟨a,e,s _ _ h1⟩
 | .exn c,_,h=>by
  simp only [Rep] at h ⊢
  obtain ⟨a,C,e,h1,h2,h3⟩:=h
  exact ⟨a,C,e,h1,h2,s _ _ h3⟩
 | .dcs kvs,_,h=>by
  simp only [Rep] at h ⊢
  obtain ⟨a,xs,e,h1,h2⟩:=h
  exact ⟨a,xs,e,s _ _ h1,h2.mono s⟩
theorem Reps.mono {K:PySem.W.Frag} {G G':Hp} (s:Same G G'):∀ (ds:List D) {vs:List V},Reps K G ds vs→Reps K G' ds vs
 | [],_,h=>by simpa [Reps] using h
 | d :: ds,_,h=>by
  simp only [Reps] at h ⊢
  obtain ⟨v,r,e,h1,h2⟩:=h
  exact ⟨v,r,e,Rep.mono s d h1,Reps.mono s ds h2⟩
end
theorem Reps.len {K:PySem.W.Frag} {G:Hp}:∀ {ds:List D} {vs:List V},Reps K G ds vs→vs.length=ds.length
 | [],_,h=>by simp only [Reps] at h; subst h; rfl
 | d :: ds,_,h=>by
  simp only [Reps] at h
  obtain ⟨v,r,rfl,_,h2⟩:=h
  simp [Reps.len h2]
theorem Reps.nil {K:PySem.W.Frag} {G:Hp}:Reps K G [] []:=by simp [Reps]
theorem Reps.cons {K:PySem.W.Frag} {G:Hp} {d:D} {ds:List D} {v:V} {vs:List V} (h:Rep K G d v) (t:Reps K G ds vs):Reps K G (d :: ds) (v :: vs):=by
 simp only [Reps]; exact ⟨v,vs,rfl,h,t⟩
theorem Reps.app {K:PySem.W.Frag} {G:Hp}:∀ {ds es:List D} {vs ws:List V},Reps K G ds vs→Reps K G es ws→Reps K G (ds ++ es) (vs ++ ws)
 | [],_,_,_,h,h'=>by simp only [Reps] at h; subst h; exact h'
 | d :: ds,_,_,_,h,h'=>by
  simp only [Reps] at h
  obtain ⟨v,r,rfl,h1,h2⟩:=h
  exact Reps.cons h1 (Reps.app h2 h')
theorem Reps.rev {K:PySem.W.Frag} {G:Hp}:∀ {ds:List D} {vs:List V},Reps K G ds vs→Reps K G ds.reverse vs.reverse
 | [],vs,h=>by
  cases (show vs=[] from h)
  exact (show Reps K G [] [] from rfl)
 | d :: ds,vs,h=>by
  obtain ⟨v,r,rfl,h1,h2⟩:=(show ∃ v r,vs=v :: r∧Rep K G d v∧Reps K G ds r from h)
  rw [List.reverse_cons,List.reverse_cons]
  exact h2.rev.app (show Reps K G [d] [v] from ⟨v,[],rfl,h1,rfl⟩)
theorem Reps.get {K:PySem.W.Frag} {G:Hp}:∀ {ds:List D} {vs:List V} {i:Nat} {d:D},Reps K G ds vs→ds[i]?=some d→∃ v,vs[i]?=some v∧Rep K G d v
 | [],_,_,_,_,e=>by simp at e
 | d :: ds,_,0,_,h,e=>by
  simp only [Reps] at h
  obtain ⟨v,r,rfl,h1,h2⟩:=h
  simp at e; subst e
  exact ⟨v,rfl,h1⟩
 | d :: ds,_,i+1,_,h,e=>by
  simp only [Reps] at h
  obtain ⟨v,r,rfl,h1,h2⟩:=h
  have:=Reps.get (i:=i) h2 (by simpa using e)
  simpa using this
theorem Reps.set {K:PySem.W.Frag} {G:Hp} {d:D} {v:V} (hv:Rep K G d v):∀ {ds:List D} {vs:List V} (i:Nat),Reps K G ds vs→Reps K G (ds.set i d) (vs.set i v)
 | [],_,_,h=>by simp only [Reps] at h; subst h; simp [Reps]
 | e :: ds,_,0,h=>by
  simp only [Reps] at h
  obtain ⟨u,r,rfl,h1,h2⟩:=h
  exact Reps.cons hv h2
 | e :: ds,_,i+1,h=>by
  simp only [Reps] at h
  obtain ⟨u,r,rfl,h1,h2⟩:=h
  exact Reps.cons h1 (Reps.set hv i h2)
theorem Reps.take {K:PySem.W.Frag} {G:Hp}:∀ {ds:List D} {vs:List V} (n:Nat),Reps K G ds vs→Reps K G (ds.take n) (vs.take n)
 | _,_,0,_=>by simp [Reps]
 | [],_,_+1,h=>by simp only [Reps] at h; subst h; simp [Reps]
 | e :: ds,_,n+1,h=>by
  simp only [Reps] at h
  obtain ⟨u,r,rfl,h1,h2⟩:=h
  exact Reps.cons h1 (Reps.take n h2)
theorem Reps.drop {K:PySem.W.Frag} {G:Hp}:∀ {ds:List D} {vs:List V} (n:Nat),Reps K G ds vs→Reps K G (ds.drop n) (vs.drop n)
 | _,_,0,h=>h
 | [],_,_+1,h=>by simp only [Reps] at h; subst h; simp [Reps]
 | e :: ds,_,n+1,h=>by
  simp only [Reps] at h
  obtain ⟨u,r,rfl,h1,h2⟩:=h
  exact Reps.drop n h2
theorem Reps.rep {K:PySem.W.Frag} {G:Hp} {ds:List D} {vs:List V} (h:Reps K G ds vs):∀ n,Reps K G (List.replicate n ds).flatten (List.replicate n vs).flatten
 | 0=>Reps.nil
 | n+1=>by
  rw [List.replicate_succ,List.replicate_succ,List.flatten_cons,List.flatten_cons]
  exact Reps.app h (Reps.rep h n)
def OwRep (K:PySem.W.Frag) (H G:Hp) (a:Addr):D→Prop
 | .lst ds=>∃ vs,H a=some (.lst vs)∧Reps K G ds vs
 | .dct kvs=>H a=some (.dK (dkv kvs))
 | .dcs kvs=>∃ xs,H a=some (.ext (DRaw a xs))∧DsR K G a kvs xs
 | _=>False
def Own (ρ:Env) (σ:St) (a:Addr):Prop:=∃ (i:Nat) (d:D) (p l:Bool),ρ[i]?=some (.ow d p l)∧σ[i]?=some (some (.ref a))
structure Rel (K:PySem.W.Frag) (ρ:Env) (σ:St) (H G:Hp):Prop where
 len:ρ.length=σ.length
 sub:Same G H
 sh:∀ (i:Nat) (d:D),ρ[i]?=some (.sh d)→∃ v,σ[i]?=some (some v)∧Rep K G d v
 ow:∀ (i:Nat) (d:D) (p l:Bool),ρ[i]?=some (.ow d p l)→∃ a,σ[i]?=some (some (.ref a))∧G a=none∧OwRep K H G a d
 inj:∀ (i j:Nat) (d:D) (p l:Bool) (d':D) (p' l':Bool) (a:Addr),ρ[i]?=some (.ow d p l)→ρ[j]?=some (.ow d' p' l')→σ[i]?=some (some (.ref a))→σ[j]?=some (some (.ref a))→i=j
structure Ext (own:Addr→Prop) (H G H' G':Hp):Prop where
 gg:Same G G'
 hh:∀ a o,H a=some o→¬ own a→H' a=some o
 hx:∀ a,H' a=none→H a=none
 gn:∀ a,H a≠none→G a=none→¬ own a→G' a=none
theorem Ext.refl {own:Addr→Prop} {H G:Hp}:Ext own H G H G:=⟨Same.refl _,fun _ _ h _=>h,fun _ h=>h,fun _ _ h _=>h⟩
theorem Ext.trans {own own1:Addr→Prop} {H G H1 G1 H2 G2:Hp} (a:Ext own H G H1 G1) (w:∀ x,own1 x→own x∨H x=none) (b:Ext own1 H1 G1 H2 G2):Ext own H G H2 G2:=by
 refine ⟨a.gg.trans b.gg,fun x o h n=>?_,fun x h=>a.hx x (b.hx x h),fun x h g n=>?_⟩
 ·refine b.hh x o (a.hh x o h n) fun z=>?_
  rcases w x z with z | z
  ·exact n z
  ·rw [h] at z; cases z
 ·have h1:H1 x≠none:=fun z=>h (a.hx x z)
  refine b.gn x h1 (a.gn x h g n) fun z=>?_
  rcases w x z with z | z
  ·exact n z
  ·exact h z
theorem Ext.weaken {own own':Addr→Prop} {H G H1 G1:Hp} (a:Ext own H G H1 G1) (w:∀ x,own x→own' x):Ext own' H G H1 G1 :=
 ⟨a.gg,fun x o h n=>a.hh x o h fun z=>n (w x z),a.hx,fun x h g n=>a.gn x h g fun z=>n (w x z)⟩
def RowsI (H:Hp) (own new:Addr→Prop) (vs:List V):Prop:=∀ x∈vs,∃ b ws,x=.ref b∧H b=some (.lst ws)∧ws.length≤1000∧¬ own b∧new b
def Rows (H:Hp) (own new:Addr→Prop) (a:Addr):Prop:=∃ vs,H a=some (.lst vs)∧RowsI H own (fun b=>new b∧b≠a) vs
theorem RowsI.step {H H':Hp} {own own' new:Addr→Prop} {vs:List V} (h:RowsI H own new vs) (e:∀ b o,H b=some o→¬ own b→H' b=some o) (w:∀ b,own' b→own b∨H b=none):RowsI H' own' new vs:=fun x hx=>by
 obtain ⟨b,ws,h1,h2,h3,h4,h5⟩:=h x hx
 refine ⟨b,ws,h1,e b _ h2 h4,h3,fun z=>?_,h5⟩
 rcases w b z with z | z
 ·exact h4 z
 ·rw [h2] at z; cases z
theorem RowsI.new {H:Hp} {own new new':Addr→Prop} {vs:List V} (h:RowsI H own new vs) (w:∀ b,new b→new' b):RowsI H own new' vs:=fun x hx=>let ⟨b,ws,h1,h2,h3,h4,h5⟩:=h x hx; ⟨b,ws,h1,h2,h3,h4,w b h5⟩
def VRep (K:PySem.W.Frag) (H G:Hp) (own:Addr→Prop) (new:Addr→Prop):RV→V→Prop
 | .sh d,v=>Rep K G d v
 | .ow d,v=>∃ a,v=.ref a∧G a=none∧OwRep K H G a d∧¬ own a∧new a
 | .od d,v=>∃ a,v=.ref a∧G a=none∧OwRep K H G a d∧¬ own a∧new a∧Rows H own new a
def RepR (K:PySem.W.Frag) (H G:Hp) (d:D) (v:V):Prop:=Rep K G d v∨∃ a,v=.ref a∧OwRep K H G a d
def HRep (K:PySem.W.Frag) (H G:Hp) (own:Addr→Prop) (new:Addr→Prop) (σ:St):Hd→V→Prop
 | .slot i,v=>σ[i]?=some (some v)
 | .val (.od _),_=>False
 | .val r,v=>VRep K H G own new r v
section
variable {K:PySem.W.Frag} {ρ:Env} {σ:St} {H G H' G':Hp} {own own' new new':Addr→Prop}
theorem OwRep.mono {a:Addr} {d:D} (h:OwRep K H G a d) (s:Same G G') (e:∀ o,H a=some o→H' a=some o):OwRep K H' G' a d:=by
 cases d with
 | lst ds =>
  obtain ⟨vs,h1,h2⟩:=h
  exact ⟨vs,e _ h1,Reps.mono s _ h2⟩
 | dct kvs=>exact e _ h
 | dcs kvs=>obtain ⟨xs,h1,h2⟩:=h; exact ⟨xs,e _ h1,h2.mono s⟩
 | _=>exact h
theorem OwRep.put {a:Addr} {d:D} (h:OwRep K H G a d):∃ o,H a=some o∧∀ G',Same G G'→G' a=some o→Rep K G' d (.ref a):=by
 cases d with
 | lst ds =>
  obtain ⟨vs,h1,h2⟩:=h
  exact ⟨_,h1,fun G' s e=>by simp only [Rep]; exact ⟨a,vs,rfl,SqL.of e,Reps.mono s ds h2⟩⟩
 | dct kvs=>exact ⟨_,h,fun G' s e=>by simp only [Rep]; exact ⟨a,rfl,e⟩⟩
 | dcs kvs=>obtain ⟨xs,h1,h2⟩:=h; exact ⟨_,h1,fun G' s e=>by simp only [Rep]; exact ⟨a,xs,rfl,e,h2.mono s⟩⟩
 | _=>exact h.elim
theorem OwRep.there {a:Addr} {d:D} (h:OwRep K H G a d):∃ o,H a=some o:=let ⟨o,h,_⟩:=h.put; ⟨o,h⟩
theorem Rel.owned (r:Rel K ρ σ H G) {a:Addr} (o:Own ρ σ a):H a≠none∧G a=none:=by
 obtain ⟨i,d,p,l,h1,h2⟩:=o
 obtain ⟨b,e,g,h⟩:=r.ow i d p l h1
 rw [h2] at e; cases e
 obtain ⟨vs,h⟩:=h.there
 exact ⟨by rw [h]; simp,g⟩
theorem VRep.wait {v:RV} {x:V} (h:VRep K H G own new v x) (e:Ext own H G H' G') (w:∀ a,own' a→own a∨H a=none):VRep K H' G' own' new v x:=by
 cases v with
 | sh d=>exact Rep.mono e.gg d h
 | ow d =>
  obtain ⟨a,rfl,g,o,n,m⟩:=h
  obtain ⟨vs,hv⟩:=o.there
  have ne:H a≠none:=by rw [hv]; simp
  refine ⟨a,rfl,e.gn a ne g n,o.mono e.gg fun o' h'=>e.hh a o' h' n,fun z=>?_,m⟩
  rcases w a z with z | z
  ·exact n z
  ·exact ne z
 | od d =>
  obtain ⟨a,rfl,g,o,n,m,vs,hv,hr⟩:=h
  have ne:H a≠none:=by rw [hv]; simp
  refine ⟨a,rfl,e.gn a ne g n,o.mono e.gg fun o' h'=>e.hh a o' h' n,fun z=>?_,m,vs,e.hh a _ hv n,hr.step e.hh w⟩
  rcases w a z with z | z
  ·exact n z
  ·exact ne z
theorem HRep.wait {v:Hd} {x:V} (h:HRep K H G own new σ v x) (e:Ext own H G H' G') (w:∀ a,own' a→own a∨H a=none):HRep K H' G' own' new σ v x:=by
 cases v with
 | slot i=>exact h
 | val r=>cases r with
  | od d=>exact h.elim
  | sh d=>exact Rep.mono e.gg d h
  | ow d=>exact VRep.wait (new:=new) (v:=.ow d) h e w
theorem VRep.new_mono {v:RV} {x:V} (h:VRep K H G own new v x) (w:∀ a,new a→new' a):VRep K H G own new' v x:=by
 cases v with
 | sh d=>exact h
 | ow d =>
  obtain ⟨a,rfl,g,o,n,m⟩:=h
  exact ⟨a,rfl,g,o,n,w a m⟩
 | od d =>
  obtain ⟨a,rfl,g,o,n,m,vs,hv,hr⟩:=h
  exact ⟨a,rfl,g,o,n,w a m,vs,hv,hr.new fun b z=>⟨w b z.1,z.2⟩⟩
theorem VRep.low {v:RV} {x:V} (h:VRep K H G own new v x):VRep K H G own new v.low x:=by
 cases v with
 | sh d=>exact h
 | ow d=>exact h
 | od d =>
  obtain ⟨a,rfl,g,o,n,m,_⟩:=h
  exact ⟨a,rfl,g,o,n,m⟩
theorem HRep.of {v:RV} {x:V} (h:VRep K H G own new v x):HRep K H G own new σ (.val v.low) x:=by
 have:=h.low
 cases v <;> exact this
theorem HRep.new_mono {v:Hd} {x:V} (h:HRep K H G own new σ v x) (w:∀ a,new a→new' a):HRep K H G own new' σ v x:=by
 cases v with
 | slot i=>exact h
 | val r=>cases r with
  | od d=>exact h.elim
  | sh d=>exact h
  | ow d=>exact VRep.new_mono (own:=own) (H:=H) (v:=.ow d) h w
theorem VRep.readR {v:RV} {x:V} (h:VRep K H G own new v x):RepR K H G v.d x:=by
 cases v with
 | sh d=>exact .inl h
 | ow d =>
  obtain ⟨a,rfl,g,o,n,m⟩:=h
  exact .inr ⟨a,rfl,o⟩
 | od d =>
  obtain ⟨a,rfl,g,o,n,m,_⟩:=h
  exact .inr ⟨a,rfl,o⟩
theorem Rel.get (r:Rel K ρ σ H G) {i:Nat} {d:D} {x:V} (h:(ρ[i]?).bind Sl.get=some d) (hx:σ[i]?=some (some x)):RepR K H G d x:=by
 cases e:ρ[i]? with
 | none=>rw [e] at h; cases h
 | some sl =>
  rw [e] at h
  cases sl with
  | un=>cases h
  | mv=>cases h
  | sh d' =>
   cases h
   obtain ⟨v,h1,h2⟩:=r.sh i _ e
   rw [hx] at h1; cases h1
   exact .inl h2
  | ow d' p l =>
   cases h
   obtain ⟨a,h1,_,h2⟩:=r.ow i _ p l e
   rw [hx] at h1; cases h1
   exact .inr ⟨a,rfl,h2⟩
theorem HRep.read {v:Hd} {x:V} {d:D} (h:HRep K H G own new σ v x) (r:Rel K ρ σ H G) (e:v.get ρ=some d):RepR K H G d x:=by
 cases v with
 | slot i=>exact r.get e h
 | val u =>
  simp only [Hd.get,Option.some.injEq] at e
  subst e
  cases u with
  | od d=>exact h.elim
  | sh d=>exact .inl h
  | ow d=>exact VRep.readR (own:=own) (new:=new) (v:=.ow d) h
theorem Rel.bound (r:Rel K ρ σ H G) {i:Nat} (h:((ρ[i]?).bind Sl.get).isSome=true):∃ v,σ[i]?=some (some v):=by
 cases e:ρ[i]? with
 | none=>rw [e] at h; cases h
 | some sl =>
  rw [e] at h
  cases sl with
  | un=>cases h
  | mv=>cases h
  | sh d' =>
   obtain ⟨v,h1,h2⟩:=r.sh i _ e
   exact ⟨v,h1⟩
  | ow d' p l =>
   obtain ⟨a,h1,_,h2⟩:=r.ow i _ p l e
   exact ⟨_,h1⟩
theorem RepR.lst {ds:List D} {x:V} (s:Same G H) (h:RepR K H G (.lst ds) x):∃ a vs,x=.ref a∧SqL K H a vs∧Reps K G ds vs:=by
 rcases h with h | ⟨a,rfl,h⟩
 ·simp only [Rep] at h
  obtain ⟨a,vs,e,h1,h2⟩:=h
  exact ⟨a,vs,e,s.seq h1,h2⟩
 ·obtain ⟨vs,h1,h2⟩:=h
  exact ⟨a,vs,rfl,SqL.of h1,h2⟩
theorem RepR.tup {ds:List D} {x:V} (s:Same G H) (h:RepR K H G (.tup ds) x):∃ a vs,x=.ref a∧SqT K H a vs∧Reps K G ds vs:=by
 rcases h with h | ⟨a,rfl,h⟩
 ·simp only [Rep] at h
  obtain ⟨a,vs,e,h1,h2⟩:=h
  exact ⟨a,vs,e,sqT_mono s h1,h2⟩
 ·exact h.elim
theorem RepR.int {i:Int} {x:V} (h:RepR K H G (.int i) x):x=.int i:=by
 rcases h with h | ⟨a,rfl,h⟩
 ·simpa [Rep] using h
 ·exact h.elim
theorem RepR.bl {i:Bool} {x:V} (h:RepR K H G (.bl i) x):x=.bl i:=by
 rcases h with h | ⟨a,rfl,h⟩
 ·simpa [Rep] using h
 ·exact h.elim
theorem RepR.str {i:Str} {x:V} (h:RepR K H G (.str i) x):x=.str i∧PyData.strOk i=true:=by
 rcases h with h | ⟨a,rfl,h⟩
 ·simpa [Rep] using h
 ·exact h.elim
theorem RepR.non {x:V} (h:RepR K H G .non x):x=.non:=by
 rcases h with h | ⟨a,rfl,h⟩
 ·simpa [Rep] using h
 ·exact h.elim
theorem rep_bl {i:Bool} {x:V} (h:Rep K G (.bl i) x):x=.bl i:=by simpa [Rep] using h
theorem Same.laid {a:Addr} {o:HO} (h:H a=none):Same H (upd H a o):=fun b u e=>by rw [upd_ne (ne_of_none e h)]; exact e
theorem Rel.layG (r:Rel K ρ σ H G) {a:Addr} {o:HO} (h:H a=none):Rel K ρ σ (upd H a o) (upd G a o):=by
 have hg:G a=none:=Same.free r.sub h
 refine ⟨r.len,fun b u e=>?_,fun i d e=>?_,fun i d p l e=>?_,r.inj⟩
 ·by_cases hb:b=a
  ·subst hb; rw [upd_same] at e ⊢; exact e
  ·rw [upd_ne hb] at e ⊢; exact r.sub b u e
 ·obtain ⟨v,h1,h2⟩:=r.sh i d e
  exact ⟨v,h1,Rep.mono (Same.laid hg) d h2⟩
 ·obtain ⟨b,h1,h2,h3⟩:=r.ow i d p l e
  obtain ⟨vs,hv⟩:=h3.there
  have hb:b≠a:=ne_of_none hv h
  refine ⟨b,h1,by rw [upd_ne hb]; exact h2,h3.mono (Same.laid hg) fun o' h'=>by rw [upd_ne hb]; exact h'⟩
theorem Ext.layG {a:Addr} {o:HO} (s:Same G H) (h:H a=none):Ext own H G (upd H a o) (upd G a o):=by
 have hg:G a=none:=Same.free s h
 refine ⟨Same.laid hg,fun b u e _=>Same.laid h b u e,fun b e=>?_,fun b e g _=>?_⟩
 ·by_cases hb:b=a
  ·subst hb; exact h
  ·rwa [upd_ne hb] at e
 ·by_cases hb:b=a
  ·subst hb; exact absurd h e
  ·rw [upd_ne hb]; exact g
theorem Rel.layH (r:Rel K ρ σ H G) {a:Addr} {o:HO} (h:H a=none):Rel K ρ σ (upd H a o) G:=by
 refine ⟨r.len,r.sub.trans (Same.laid h),r.sh,fun i d p l e=>?_,r.inj⟩
 obtain ⟨b,h1,h2,h3⟩:=r.ow i d p l e
 obtain ⟨vs,hv⟩:=h3.there
 have hb:b≠a:=ne_of_none hv h
 exact ⟨b,h1,h2,h3.mono (Same.refl _) fun o' h'=>by rw [upd_ne hb]; exact h'⟩
theorem Ext.layH {a:Addr} {o:HO} (h:H a=none):Ext own H G (upd H a o) G:=by
 refine ⟨Same.refl _,fun b u e _=>Same.laid h b u e,fun b e=>?_,fun b e g _=>g⟩
 by_cases hb:b=a
 ·subst hb; exact h
 ·rwa [upd_ne hb] at e
theorem Rel.notOwn (r:Rel K ρ σ H G) {a:Addr} (h:H a=none):¬ Own ρ σ a:=fun o=>(r.owned o).1 h
theorem Same.put {a:Addr} {o:HO} (h:G a=none):Same G (upd G a o):=Same.laid h
theorem VRep.share {v:RV} {x:V} (h:VRep K H G (Own ρ σ) new v x) (r:Rel K ρ σ H G) (hn:∀ a,new a→own a∨new' a) :
  ∃ G',Rel K ρ σ H G'∧Same G G'∧(∀ a,G' a≠none→G a≠none∨new a)∧Rep K G' v.d x:=by
 have main:∀ d,VRep K H G (Own ρ σ) new (.ow d) x→∃ G',Rel K ρ σ H G'∧Same G G'∧(∀ a,G' a≠none→G a≠none∨new a)∧Rep K G' d x:=by
  intro d h
  obtain ⟨a,rfl,g,o,n,m⟩:=h
  obtain ⟨ob,hv,hr⟩:=o.put
  refine ⟨upd G a ob,⟨r.len,fun b u e=>?_,fun i d e=>?_,fun i d p l e=>?_,r.inj⟩,Same.put g,fun b z=>?_, ?_⟩
  ·by_cases hb:b=a
   ·subst hb; rw [upd_same] at e; rw [hv]; exact e
   ·rw [upd_ne hb] at e; exact r.sub b u e
  ·obtain ⟨v,h1,h2⟩:=r.sh i d e
   exact ⟨v,h1,Rep.mono (Same.put g) d h2⟩
  ·obtain ⟨b,h1,h2,h3⟩:=r.ow i d p l e
   have hb:b≠a:=fun z=>by subst z; exact n ⟨i,d,p,l,e,h1⟩
   exact ⟨b,h1,by rw [upd_ne hb]; exact h2,h3.mono (Same.put g) fun _ z=>z⟩
  ·by_cases hb:b=a
   ·subst hb; exact .inr m
   ·rw [upd_ne hb] at z; exact .inl z
  ·exact hr _ (Same.put g) upd_same
 cases v with
 | sh d=>exact ⟨G,r,Same.refl _,fun a z=>.inl z,h⟩
 | ow d=>exact main d h
 | od d=>exact main d h.low
end
def KindLe:Option Sl→Option Sl→Prop
 | some (.ow _ p l),some (.ow _ p' l')=>p=p'∧l=l'
 | some (.ow _ p _),some (.sh _)=>p=false
 | some .un,some .un=>True
 | some .mv,some .mv=>True
 | some (.sh _),some (.sh _)=>True
 | none,none=>True
 | _,_=>False
theorem KindLe.refl (a:Option Sl):KindLe a a:=by
 cases a with
 | none=>trivial
 | some s=>cases s <;> first | trivial | exact ⟨rfl,rfl⟩
theorem KindLe.trans {a b c:Option Sl} (h:KindLe a b) (h':KindLe b c):KindLe a c:=by
 cases a with
 | none =>
  cases b with
  | none=>exact h'
  | some t=>cases t <;> exact h.elim
 | some s =>
  cases b with
  | none=>cases s <;> exact h.elim
  | some t =>
   cases c with
   | none=>cases t <;> exact h'.elim
   | some u=>cases s <;> cases t <;> cases u <;> simp_all [KindLe]
theorem KindLe.ow_of {a:Option Sl} {d:D} {p l:Bool} (h:KindLe a (some (.ow d p l))):∃ d',a=some (.ow d' p l):=by
 cases a with
 | none=>exact h.elim
 | some s=>cases s <;> first | exact h.elim | (obtain ⟨rfl,rfl⟩:=h; exact ⟨_,rfl⟩)
def Evo (ρ ρ':Env):Prop:=∀ i:Nat,KindLe ρ[i]? ρ'[i]?
theorem Evo.refl (ρ:Env):Evo ρ ρ:=fun _=>KindLe.refl _
theorem Evo.trans {a b c:Env} (h:Evo a b) (h':Evo b c):Evo a c:=fun i=>(h i).trans (h' i)
theorem Evo.own {ρ ρ':Env} {σ:St} (h:Evo ρ ρ') (a:Addr) (o:Own ρ' σ a):Own ρ σ a:=by
 obtain ⟨i,d,p,l,h1,h2⟩:=o
 have:=h i
 rw [h1] at this
 obtain ⟨d',e⟩:=this.ow_of
 exact ⟨i,d',p,l,e,h2⟩
theorem Evo.set {ρ:Env} {i:Nat} {s:Sl} (h:KindLe ρ[i]? (some s)):Evo ρ (ρ.set i s):=fun j=>by
 by_cases hij:j=i
 ·subst hij
  by_cases hl:j<ρ.length
  ·rw [List.getElem?_set_self hl]; exact h
  ·rw [List.getElem?_eq_none (by omega)] at h
   cases s <;> exact h.elim
 ·rw [List.getElem?_set_ne (fun z=>hij z.symm)]
  exact KindLe.refl _
structure Aft (K:PySem.W.Frag) (ρ:Env) (σ:St) (H G:Hp) (ρ':Env) (H' G':Hp):Prop where
 rel:Rel K ρ' σ H' G'
 ext:Ext (Own ρ σ) H G H' G'
 evo:Evo ρ ρ'
section
variable {K:PySem.W.Frag} {ρ ρ' ρ1 ρ2:Env} {σ:St} {H G H' G' H1 G1 H2 G2:Hp}
theorem Aft.own (a:Aft K ρ σ H G ρ' H' G'):∀ a,Own ρ' σ a→Own ρ σ a:=fun x h=>a.evo.own x h
theorem Aft.refl (r:Rel K ρ σ H G):Aft K ρ σ H G ρ H G:=⟨r,Ext.refl,Evo.refl _⟩
theorem Aft.trans (a:Aft K ρ σ H G ρ1 H1 G1) (b:Aft K ρ1 σ H1 G1 ρ2 H2 G2):Aft K ρ σ H G ρ2 H2 G2 :=
 ⟨b.rel,a.ext.trans (fun x h=>.inl (a.own x h)) b.ext,a.evo.trans b.evo⟩
abbrev Fresh (H:Hp):Addr→Prop:=fun a=>H a=none
theorem Aft.fresh (a:Aft K ρ σ H G ρ1 H1 G1) {x:Addr} (h:H1 x=none):H x=none:=a.ext.hx x h
theorem Aft.share (a:Aft K ρ σ H G ρ' H' G') {v:RV} {x:V} (h:VRep K H' G' (Own ρ' σ) (Fresh H) v x):∃ G2,Aft K ρ σ H G ρ' H' G2∧Rep K G2 v.d x:=by
 obtain ⟨G2,r2,s2,n2,h2⟩:=h.share (own:=fun _=>False) (new':=Fresh H) a.rel (fun _ z=>.inr z)
 refine ⟨G2,⟨r2,⟨a.ext.gg.trans s2,a.ext.hh,a.ext.hx,fun b hb gb nb=>?_⟩,a.evo⟩,h2⟩
 cases e:G2 b with
 | none=>rfl
 | some o =>
  rcases n2 b (by rw [e]; simp) with z | z
  ·exact absurd (a.ext.gn b hb gb nb) z
  ·exact absurd z hb
theorem Aft.layG (a:Aft K ρ σ H G ρ' H' G') {p:Addr} {o:HO} (h:H' p=none):Aft K ρ σ H G ρ' (upd H' p o) (upd G' p o) :=
 a.trans ⟨a.rel.layG h,Ext.layG a.rel.sub h,Evo.refl _⟩
theorem Aft.layH (a:Aft K ρ σ H G ρ' H' G') {p:Addr} {o:HO} (h:H' p=none):Aft K ρ σ H G ρ' (upd H' p o) G' :=
 a.trans ⟨a.rel.layH h,Ext.layH h,Evo.refl _⟩
theorem Aft.own_new (a:Aft K ρ σ H G ρ' H' G') {p:Addr} {ds:List D} {vs:List V} (h:H' p=none) (r:Reps K G' ds vs) :
  Aft K ρ σ H G ρ' (upd H' p (.lst vs)) G'∧VRep K (upd H' p (.lst vs)) G' (Own ρ' σ) (Fresh H) (.ow (.lst ds)) (.ref p) :=
 ⟨a.layH h,p,rfl,Same.free a.rel.sub h,⟨vs,upd_same,r⟩,a.rel.notOwn h,a.fresh h⟩
theorem Aft.tup_new (a:Aft K ρ σ H G ρ' H' G') {p:Addr} {ds:List D} {vs:List V} (h:H' p=none) (r:Reps K G' ds vs) :
  Aft K ρ σ H G ρ' (upd H' p (.tup vs)) (upd G' p (.tup vs))∧VRep K (upd H' p (.tup vs)) (upd G' p (.tup vs)) (Own ρ' σ) (Fresh H) (.sh (.tup ds)) (.ref p):=by
 refine ⟨a.layG h, ?_⟩
 show Rep K _ (.tup ds) _
 simp only [Rep]
 exact ⟨p,vs,rfl,SqT.of upd_same,Reps.mono (Same.laid (Same.free a.rel.sub h)) ds r⟩
end
def Tmp:List Hd→List V→Addr→Prop
 | .val (.ow _) :: hs,x :: xs,a=>x=.ref a∨Tmp hs xs a
 | _ :: hs,_ :: xs,a=>Tmp hs xs a
 | _,_,_=>False
def HReps (K:PySem.W.Frag) (H G:Hp) (own new:Addr→Prop) (σ:St):List Hd→List V→Prop
 | [],xs=>xs=[]
 | h :: hs,xs=>∃ x r,xs=x :: r∧HRep K H G own new σ h x∧HReps K H G own new σ hs r∧∀ d a,h=.val (.ow d)→x=.ref a→¬ Tmp hs r a
section
variable (K:PySem.W.Frag) (P:Pins) (C:Calls)
noncomputable def tE (c:E):TE:=fun σ H Q=>∃ (ρ:Env) (G:Hp) (v:RV) (ρ':Env),Rel K ρ σ H G∧ev P C false c ρ=some (.ok v,ρ') ∧
 ∀ x H' G',Aft K ρ σ H G ρ' H' G'→VRep K H' G' (Own ρ' σ) (Fresh H) v x→Q x H'
noncomputable def tT (c:E):TT:=fun σ H Q=>∃ (ρ:Env) (G:Hp) (b:Bool) (ρ':Env),Rel K ρ σ H G∧ev P C true c ρ=some (.ok (.sh (.bl b)),ρ') ∧
 ∀ H' G',Aft K ρ σ H G ρ' H' G'→Q b H'
noncomputable def tH (c:E):TE:=fun σ H Q=>∃ (ρ:Env) (G:Hp) (h:Hd) (ρ':Env),Rel K ρ σ H G∧hd c (ev P C false c ρ) ρ=some (.ok h,ρ') ∧
 ∀ x H' G',Aft K ρ σ H G ρ' H' G'→HRep K H' G' (Own ρ' σ) (Fresh H) σ h x→Q x H'
noncomputable def tDs (cs:List E):TA:=fun σ H Q=>∃ (ρ:Env) (G:Hp) (ds:List D) (ρ':Env),Rel K ρ σ H G∧evs P C cs ρ=some (.ok ds,ρ') ∧
 ∀ xs H' G',Aft K ρ σ H G ρ' H' G'→Reps K G' ds xs→Q xs H'
noncomputable def tHs (cs:List E):TA:=fun σ H Q=>∃ (ρ:Env) (G:Hp) (hs:List Hd) (ρ':Env),Rel K ρ σ H G∧evHs P C cs ρ=some (.ok hs,ρ') ∧
 ∀ xs H' G',Aft K ρ σ H G ρ' H' G'→HReps K H' G' (Own ρ' σ) (Fresh H) σ hs xs→Q xs H'
end
theorem TE.imp_pe {X:Cx} {e:Expr} {t u:TE} (h:PE X e t) (w:∀ σ H Q,u σ H Q→t σ H Q):PE X e u:=fun pins s σ H Q I q=>h pins s σ H Q I (w σ H Q q)
theorem TT.imp_pt {X:Cx} {e:Expr} {t u:TT} (h:PT X e t) (w:∀ σ H Q,u σ H Q→t σ H Q):PT X e u:=fun pins s σ H Q I q=>h pins s σ H Q I (w σ H Q q)
theorem TA.imp_pa {X:Cx} {e:List Expr} {t u:TA} (h:PA X e t) (w:∀ σ H Q,u σ H Q→t σ H Q):PA X e u:=fun pos pins s σ H Q I q=>h pos pins s σ H Q I (w σ H Q q)
theorem bind_ok {α β:Type} {r:Res α} {f:α→Env→Res β} {b:β} {ρ:Env} (h:r.bind f=some (.ok b,ρ)):∃ a ρ1,r=some (.ok a,ρ1)∧f a ρ1=some (.ok b,ρ):=by
 unfold Res.bind at h
 split at h
 ·cases h
 ·cases h
 ·exact ⟨_,_,rfl,h⟩
theorem done_ok {o:Option RV} {ρ ρ':Env} {v:RV} (h:done o ρ=some (.ok v,ρ')):o=some v∧ρ'=ρ:=by
 unfold done at h
 cases o with
 | none=>cases h
 | some u=>simp only [Option.map_some,Option.some.injEq,Prod.mk.injEq,Out.ok.injEq] at h; exact ⟨by rw [h.1],h.2.symm⟩
theorem wrap_false (r:Res RV):wrap false r=r:=rfl
theorem wrap_ok {r:Res RV} {v:RV} {ρ':Env} (h:wrap true r=some (.ok v,ρ')):∃ u b,r=some (.ok u,ρ')∧truthD u.d=some b∧v=.sh (.bl b):=by
 obtain ⟨u,ρ1,h1,h2⟩:=bind_ok h
 cases e:truthD u.d with
 | none=>rw [e] at h2; cases h2
 | some b =>
  rw [e] at h2
  simp only [Option.map_some,Option.some.injEq,Prod.mk.injEq,Out.ok.injEq] at h2
  obtain ⟨h3,h4⟩:=h2
  subst h4
  exact ⟨u,b,h1,e,h3.symm⟩
section
variable {K:PySem.W.Frag} {P:Pins} {C:Calls} {σ:St} {H:Hp}
theorem tE_tH {X:Cx} {e:Expr} {c:E} (h:PE X e (tE K P C c)) (n:∀ i,c≠.var i):PE X e (tH K P C c):=by
 refine TE.imp_pe h fun σ H Q q=>?_
 obtain ⟨ρ,G,hd',ρ',r,e1,k⟩:=q
 have:hd c (ev P C false c ρ) ρ=(ev P C false c ρ).bind fun v ρ'=>some (.ok (.val v.low),ρ'):=by
  cases c <;> first | rfl | exact absurd rfl (n _)
 rw [this] at e1
 obtain ⟨v,ρ1,e2,e3⟩:=bind_ok e1
 cases e3
 exact ⟨ρ,G,v,_,r,e2,fun x H' G' a hv=>k x H' G' a (HRep.of hv)⟩
theorem pe_varE {X:Cx} {e:Expr} {i:Nat} (h:PE X e (tVar i)):PE X e (tE K P C (.var i)):=by
 refine TE.imp_pe h fun σ H Q q=>?_
 obtain ⟨ρ,G,v,ρ',r,e1,k⟩:=q
 simp only [ev] at e1
 unfold freeze at e1
 split at e1
 ·rename_i d hd
  cases e1
  obtain ⟨x,h1,h2⟩:=r.sh i d hd
  exact ⟨x,h1,k x H G (Aft.refl r) h2⟩
 ·rename_i d hd
  cases e1
  obtain ⟨a,h1,g,o⟩:=r.ow i d _ _ hd
  refine ⟨.ref a,h1, ?_⟩
  obtain ⟨ob,hv,hr⟩:=o.put
  have li:i<ρ.length:=(List.getElem?_eq_some_iff.mp hd).1
  have oth:∀ (j:Nat) (sl:Sl),(ρ.set i (.sh d))[j]?=some sl→(j=i∧sl=.sh d)∨(j≠i∧ρ[j]?=some sl):=fun j sl hj=>by
   by_cases hij:j=i
   ·subst hij
    rw [List.getElem?_set_self li] at hj
    exact .inl ⟨rfl,(Option.some.inj hj).symm⟩
   ·rw [List.getElem?_set_ne (fun z=>hij z.symm)] at hj
    exact .inr ⟨hij,hj⟩
  have own':∀ b,Own (ρ.set i (.sh d)) σ b→Own ρ σ b:=fun b ⟨j,d',p,l,h3,h4⟩=>by
   rcases oth j _ h3 with ⟨_,z⟩ | ⟨_,z⟩
   ·cases z
   ·exact ⟨j,d',p,l,z,h4⟩
  refine k (.ref a) H (upd G a ob) ⟨⟨?_,fun b u z=>?_,fun j d' hj=>?_,fun j d' p l hj=>?_,fun j k' d1 p1 l1 d2 p2 l2 b h3 h4 h5 h6=>?_⟩,⟨Same.put g,fun _ _ z _=>z,fun _ z=>z,fun b h3 h4 h5=>?_⟩,Evo.set (by rw [hd]; rfl)⟩ ?_
  ·rw [List.length_set]; exact r.len
  ·by_cases hb:b=a
   ·subst hb; rw [upd_same] at z; rw [hv]; exact z
   ·rw [upd_ne hb] at z; exact r.sub b u z
  ·rcases oth j _ hj with ⟨rfl,z⟩ | ⟨_,z⟩
   ·cases z
    exact ⟨_,h1,hr _ (Same.put g) upd_same⟩
   ·obtain ⟨x,h3,h4⟩:=r.sh j d' z
    exact ⟨x,h3,Rep.mono (Same.put g) d' h4⟩
  ·rcases oth j _ hj with ⟨_,z⟩ | ⟨ne,z⟩
   ·cases z
   ·obtain ⟨b,h3,h4,h5⟩:=r.ow j d' p l z
    have hb:b≠a:=fun e=>by subst e; exact ne (r.inj _ _ _ _ _ _ _ _ _ z hd h3 h1)
    exact ⟨b,h3,by rw [upd_ne hb]; exact h4,h5.mono (Same.put g) fun _ z=>z⟩
  ·rcases oth j _ h3 with ⟨_,z⟩ | ⟨_,z⟩
   ·cases z
   ·rcases oth k' _ h4 with ⟨_,z'⟩ | ⟨_,z'⟩
    ·cases z'
    ·exact r.inj _ _ _ _ _ _ _ _ _ z z' h5 h6
  ·by_cases hb:b=a
   ·subst hb; exact absurd ⟨i,_,_,_,hd,h1⟩ h5
   ·rw [upd_ne hb]; exact h4
  ·exact hr _ (Same.put g) upd_same
 ·cases e1
theorem pe_varH {X:Cx} {e:Expr} {i:Nat} (h:PE X e (tVar i)):PE X e (tH K P C (.var i)):=by
 refine TE.imp_pe h fun σ H Q q=>?_
 obtain ⟨ρ,G,hd',ρ',r,e1,k⟩:=q
 simp only [hd] at e1
 split at e1
 ·rename_i hb
  cases e1
  obtain ⟨x,hx⟩:=r.bound hb
  exact ⟨x,hx,k x H G (Aft.refl r) hx⟩
 ·cases e1
theorem truth_ok {G:Hp} {d:D} {x:V} {b:Bool} (s:Same G H) (h:RepR K H G d x) (e:truthD d=some b):TruV K x H b:=by
 cases d <;> simp only [truthD,Option.some.injEq,reduceCtorEq] at e
 ·have:=h.non; subst this; exact e.symm
 ·have:=h.bl; subst this; exact e.symm
 ·have:=h.int; subst this; exact e.symm
 ·split at e
  ·rename_i hz
   obtain ⟨rfl,_⟩:=h.str
   exact ⟨Nat.le_trans hz (by decide),(Option.some.inj e).symm⟩
  ·cases e
 ·obtain ⟨a,vs,rfl,h1,h2⟩:=h.tup s
  refine .inr (.inl ⟨vs,h1, ?_⟩)
  rw [← e]
  have:=h2.len
  cases vs <;> cases ‹List D› <;> simp_all
 ·obtain ⟨a,vs,rfl,h1,h2⟩:=h.lst s
  refine .inl ⟨vs,h1, ?_⟩
  rw [← e]
  have:=h2.len
  cases vs <;> cases ‹List D› <;> simp_all
theorem pt_of {X:Cx} {e:Expr} {c:E} (hK:X.K=K) (h:PE X e (tE K P C c)) (hw:∀ ρ,ev P C true c ρ=wrap true (ev P C false c ρ))
  (he:∀ whole,isTrue e X.env whole=(do let v ← whole; standAt e.pos; holding [v] (truthy v))):PT X e (tT K P C c):=by
 refine TT.imp_pt (pt_truth h he) fun σ H Q q=>?_
 obtain ⟨ρ,G,b,ρ',r,e1,k⟩:=q
 rw [hw] at e1
 obtain ⟨u,b',e2,e3,e4⟩:=wrap_ok e1
 cases e4
 refine ⟨ρ,G,u,ρ',r,e2,fun x H' G' a hv=>⟨b, ?_,k H' G' a⟩⟩
 rw [hK]
 exact truth_ok a.rel.sub hv.readR e3
end
mutual
theorem eqv_toP:∀ (n:Nat) (d e:D),okD n d=true→okD n e=true→PyData.eqv (toP d) (toP e)=eqD d e
 | n,.non,e,_,h=>by cases e <;> first | (cases n <;> simp [okD] at h; done) | simp [toP,PyData.eqv,eqD]
 | n,.bl b,e,_,h=>by cases e <;> first | (cases n <;> simp [okD] at h; done) | simp [toP,PyData.eqv,eqD]
 | n,.int b,e,_,h=>by cases e <;> first | (cases n <;> simp [okD] at h; done) | simp [toP,PyData.eqv,eqD]
 | n,.str b,e,_,h=>by cases e <;> first | (cases n <;> simp [okD] at h; done) | simp [toP,PyData.eqv,eqD]
 | n+1,.tup ds,e,h,h'=>by
  cases e with
  | tup es =>
   simp only [toP,PyData.eqv,eqD]
   exact eqv_toPs n ds es (by simpa [okD] using h) (by simpa [okD] using h')
  | ins=>simp [okD] at h'
  | dct=>simp [okD] at h'
  | dcs=>simp [okD] at h'
  | exn=>simp [okD] at h'
  | _=>simp [toP,PyData.eqv,eqD]
 | n+1,.lst ds,e,h,h'=>by
  cases e with
  | lst es =>
   simp only [toP,PyData.eqv,eqD]
   exact eqv_toPs n ds es (by simpa [okD] using h) (by simpa [okD] using h')
  | ins=>simp [okD] at h'
  | dct=>simp [okD] at h'
  | dcs=>simp [okD] at h'
  | exn=>simp [okD] at h'
  | _=>simp [toP,PyData.eqv,eqD]
 | 0,.tup ds,e,h,_=>by simp [okD] at h
 | 0,.lst ds,e,h,_=>by simp [okD] at h
 | n,.ins _ _ _,_,h,_=>by cases n <;> simp [okD] at h
 | n,.dct _,_,h,_=>by cases n <;> simp [okD] at h
 | n,.dcs _,_,h,_=>by cases n <;> simp [okD] at h
 | n,.exn _,_,h,_=>by cases n <;> simp [okD] at h
theorem eqv_toPs:∀ (n:Nat) (ds es:List D),(∀ d∈ds,okD n d=true)→(∀ d∈es,okD n d=true)→PyData.eqvAll (toPs ds) (toPs es)=eqDs ds es
 | n,[],[],_,_=>by simp [toPs,PyData.eqvAll,eqDs]
 | n,[],_ :: _,_,_=>by simp [toPs,PyData.eqvAll,eqDs]
 | n,_ :: _,[],_,_=>by simp [toPs,PyData.eqvAll,eqDs]
 | n,d :: ds,e :: es,h,h'=>by
  simp only [toPs,PyData.eqvAll,eqDs]
  rw [eqv_toP n d e (h d (by simp)) (h' e (by simp)),eqv_toPs n ds es (fun x hx=>h x (by simp [hx])) (fun x hx=>h' x (by simp [hx]))]
end
section
variable {X:Cx} {K:PySem.W.Frag} {pins:List (Addr × Obj)} {σ:St} {H G:Hp} {s:Shared}
mutual
theorem reads_rep (I:Inv X pins σ H s) (hK:X.K=K) (sub:Same G H):∀ (n:Nat) (d:D) (x:V) (u:Value),okD n d=true→Rep K G d x→RelV x u→∃ as,Reads s.heap u (toP d) as∧PyData.canLay0 (toP d)=true∧PyData.depth (toP d)≤n
 | n,.non,x,u,_,h,r=>by
  simp only [Rep] at h; subst h; cases r
  exact ⟨_,Reads.none,by simp [toP,PyData.canLay0],by simp [toP,PyData.depth]⟩
 | n,.bl b,x,u,_,h,r=>by
  simp only [Rep] at h; subst h; cases r
  exact ⟨_,Reads.bool b,by simp [toP,PyData.canLay0],by simp [toP,PyData.depth]⟩
 | n,.int b,x,u,_,h,r=>by
  simp only [Rep] at h; subst h; obtain ⟨t,rfl⟩:=r
  exact ⟨_,Reads.int b t,by simp [toP,PyData.canLay0],by simp [toP,PyData.depth]⟩
 | n,.str b,x,u,_,h,r=>by
  simp only [Rep] at h; obtain ⟨rfl,hs⟩:=h; obtain ⟨t,rfl⟩:=r
  exact ⟨_,Reads.str b t,by simpa [toP,PyData.canLay0] using hs,by simp [toP,PyData.depth]⟩
 | n+1,.tup ds,x,u,ok,h,r=>by
  simp only [Rep] at h
  obtain ⟨a,vs,rfl,h1,h2⟩:=h
  cases r
  obtain ⟨its,rv,⟨o,ho,hc,m,hd⟩,hz⟩:=I.tuple (show SqT X.K H a vs from hK ▸ sqT_mono sub h1)
  obtain ⟨as,r1,r2,r3⟩:=reads_reps I hK sub n ds vs its (by simpa [okD] using ok) h2 rv
  exact ⟨_,Reads.tuple ho hc hd (by simpa using r1),by simpa [toP,PyData.canLay0] using r2,by simp [toP,PyData.depth]; omega⟩
 | n+1,.lst ds,x,u,ok,h,r=>by
  simp only [Rep] at h
  obtain ⟨a,vs,rfl,h1,h2⟩:=h
  cases r
  obtain ⟨its,rv,⟨o,m,ho,hc,hn,hd⟩,hz⟩:=I.list (show SqL X.K H a vs from hK ▸ sub.seq h1)
  obtain ⟨as,r1,r2,r3⟩:=reads_reps I hK sub n ds vs its (by simpa [okD] using ok) h2 rv
  exact ⟨_,Reads.list ho hc hd (by simpa using r1),by simpa [toP,PyData.canLay0] using r2,by simp [toP,PyData.depth]; omega⟩
 | 0,.tup ds,_,_,h,_,_=>by simp [okD] at h
 | 0,.lst ds,_,_,h,_,_=>by simp [okD] at h
 | n,.ins _ _ _,_,_,h,_,_=>by cases n <;> simp [okD] at h
 | n,.dct _,_,_,h,_,_=>by cases n <;> simp [okD] at h
 | n,.dcs _,_,_,h,_,_=>by cases n <;> simp [okD] at h
 | n,.exn _,_,_,h,_,_=>by cases n <;> simp [okD] at h
theorem reads_reps (I:Inv X pins σ H s) (hK:X.K=K) (sub:Same G H):∀ (n:Nat) (ds:List D) (xs:List V) (us:List Value),(∀ d∈ds,okD n d=true)→Reps K G ds xs→Vals xs us→∃ as,ReadsAll s.heap us (toPs ds) as∧PyData.canLayAll0 (toPs ds)=true∧PyData.depthAll (toPs ds)≤n
 | n,[],xs,us,_,h,r=>by
  simp only [Reps] at h; subst h; cases r
  exact ⟨_,ReadsAll.nil,by simp [toPs,PyData.canLayAll0],by simp [toPs,PyData.depthAll]⟩
 | n,d :: ds,xs,us,ok,h,r=>by
  simp only [Reps] at h
  obtain ⟨v,r',rfl,h1,h2⟩:=h
  cases r with
  | cons ra rb =>
   obtain ⟨as,a1,a2,a3⟩:=reads_rep I hK sub n d v _ (ok d (by simp)) h1 ra
   obtain ⟨bs,b1,b2,b3⟩:=reads_reps I hK sub n ds r' _ (fun x hx=>ok x (by simp [hx])) h2 rb
   exact ⟨_,ReadsAll.cons a1 b1,by simp [toPs,PyData.canLayAll0,a2,b2],by simp [toPs,PyData.depthAll]; omega⟩
end
theorem reads_repR (I:Inv X pins σ H s) (hK:X.K=K) (sub:Same G H) (n:Nat) (d:D) (x:V) (u:Value) (ok:okD n d=true) (h:RepR K H G d x) (r:RelV x u):∃ as,Reads s.heap u (toP d) as∧PyData.canLay0 (toP d)=true∧PyData.depth (toP d)≤n:=by
 rcases h with h | ⟨a,rfl,h⟩
 ·exact reads_rep I hK sub n d x u ok h r
 ·cases r
  cases d <;> first | exact h.elim | skip
  case dct=>cases n <;> simp [okD] at ok
  case dcs=>cases n <;> simp [okD] at ok
  rename_i ds
  obtain ⟨vs,h1,h2⟩:=h
  cases n with
  | zero=>simp [okD] at ok
  | succ n =>
   obtain ⟨its,rv,⟨o,m,ho,hc,hn,hd⟩,hz⟩:=I.list (SqL.of h1)
   obtain ⟨as,r1,r2,r3⟩:=reads_reps I hK sub n ds vs its (by simpa [okD] using ok) h2 rv
   exact ⟨_,Reads.list ho hc hd (by simpa using r1),by simpa [toP,PyData.canLay0] using r2,by simp [toP,PyData.depth]; omega⟩
def Made (K:PySem.W.Frag) (H G:Hp) (v:RV) (x:V) (H':Hp):Prop :=
 (∃ d,v=.sh d∧Rep K G d x∧H'=H) ∨
 (∃ ds vs p,v=.ow (.lst ds)∧H p=none∧Reps K G ds vs∧x=.ref p∧H'=upd H p (.lst vs)) ∨
 (∃ ds vs p,v=.sh (.tup ds)∧H p=none∧Reps K G ds vs∧x=.ref p∧H'=upd H p (.tup vs))
theorem Aft.made {ρ ρ':Env} {H0 G0 H2:Hp} (a:Aft K ρ σ H0 G0 ρ' H G) {v:RV} {x:V} (m:Made K H G v x H2) :
  ∃ G2,Aft K ρ σ H0 G0 ρ' H2 G2∧VRep K H2 G2 (Own ρ' σ) (Fresh H0) v x:=by
 rcases m with ⟨d,rfl,h,rfl⟩ | ⟨ds,vs,p,rfl,h,r,rfl,rfl⟩ | ⟨ds,vs,p,rfl,h,r,rfl,rfl⟩
 ·exact ⟨G,a,h⟩
 ·exact ⟨_,a.own_new h r⟩
 ·exact ⟨_,a.tup_new h r⟩
noncomputable def rBin (K:PySem.W.Frag) (op:Operator):R2:=fun x y H Q=>∃ G d e v,Same G H∧RepR K H G d x∧RepR K H G e y∧(op=.Mult→∀ ds,d=.lst ds→∃ a vs,x=.ref a∧H a=some (.lst vs)∧Reps K G ds vs)∧binD op d e=some v∧∀ z H',Made K H G v z H'→Q z H'
theorem made_int {i:Int}:Made K H G (.sh (.int i)) (.int i) H:=.inl ⟨_,rfl,by simp [Rep],rfl⟩
theorem made_bl {i:Bool}:Made K H G (.sh (.bl i)) (.bl i) H:=.inl ⟨_,rfl,by simp [Rep],rfl⟩
theorem smallL_ok {n:Nat} (h:smallL n=true):n≤sizeLine:=Nat.le_trans (@of_decide_eq_true _ (cl _) h) (by decide)
theorem sql_get (I:Inv X pins σ H s) {a:Addr} {vs:List V} (h:SqL X.K H a vs):∃ (its:List Value),Vals vs its∧s.heap.IsList a its.toArray∧vs.length≤sizeLine:=by
 obtain ⟨its,r,p,z⟩:=I.list h
 exact ⟨its,r,p.isList,z⟩
theorem OpR.imp {f:Value→Value→Sem Value} {r r':R2} (h:OpR X f r) (w:∀ x y H Q,r' x y H Q→r x y H Q):OpR X f r':=fun pins s σ H x y v u Q I rx ry q=>h pins s σ H x y v u Q I rx ry (w x y H Q q)
noncomputable def rCatS (K:PySem.W.Frag):R2:=fun x y H Q=>∃ l b xs zs,x=.ref l∧y=.ref b∧SqL K H l xs∧SqL K H b zs∧xs.length+zs.length≤sizeLine∧∀ p,H p=none→Q (.ref p) (upd H p (.lst (xs ++ zs)))
theorem op_catS:OpR X (binaryOp .Add) (rCatS X.K):=by
 intro pins s σ H x y v u Q I rx ry h
 obtain ⟨l,b,xs,zs,rfl,rfl,hH,hB,hz,q⟩:=h
 cases rx
 cases ry
 obtain ⟨its,r,hl,z⟩:=sql_get I hH
 obtain ⟨its2,r2,hl2,z2⟩:=sql_get I hB
 have e1:=r.length
 have e2:=r2.length
 obtain ⟨⟨cls,dd,data,sl⟩,ho,hc,n,hd⟩:=id hl
 obtain ⟨⟨cls2,dd2,data2,sl2⟩,ho2,hc2,n2,hd2⟩:=id hl2
 simp only at hc hd hc2 hd2
 subst hc hd hc2 hd2
 refine concat_meets ⟨_,ho,rfl⟩ ⟨_,ho2,rfl⟩ noFill_list_add seq_list_add PySem.F.slot_list_add PySem.F.entry_list_add (PySem.F.args_list_add_2 _ _) (list_addW l b its.toArray its2.toArray n n2 dd dd2 sl sl2 (by simp; omega)) ⟨ho,ho2, ?_⟩
 have ea:its.toArray ++ its2.toArray=(its ++ its2).toArray:=by simp
 rw [ea]
 exact ⟨.ref _,_,I.lnew (t':=s.toks) (r.append r2) (by rw [List.length_append]; omega),rfl,q _ I.fresh⟩
theorem op_fdivB:OpR X (binaryOp .FloorDiv) (rI (fun _ j=>0<j∧j<100000000000000000000000000000000000000000000000000000000000000000000000000000000) fun i j=>.int (i / j)):=opI fun i j _ _ _ _ _ hc q=>by
 have h1:(0:Int)<j:=hc.1
 have h2:j<100000000000000000000000000000000000000000000000000000000000000000000000000000000:=hc.2
 have h3:j.natAbs<2 ^ 300:=Nat.lt_of_lt_of_le (by omega:j.natAbs<100000000000000000000000000000000000000000000000000000000000000000000000000000000) (by decide)
 have h4:j.natAbs.log2<300:=(Nat.log2_lt (by omega)).mpr h3
 exact PyProof.Rows.floordiv_int (by omega) (by rw [Int.fdiv_eq_ediv_of_nonneg i (by omega)]; exact q) (.inl (PyProof.noPylong_of_log2 (by omega)))
theorem no_some {α:Type _} {v:α} (e:none=some v):False:=nomatch e
theorem op_cat0 {X:Cx}:OpR X (binaryOp .Add) (fun x y H Q=>∃ a b ys,x=.ref a∧y=.ref b∧SqT X.K H a []∧SqT X.K H b ys∧Q (.ref b) H):=by
 intro pins s σ H x y v u Q I rx ry h
 obtain ⟨a,b,ys,rfl,rfl,ha,hb,q⟩:=h
 cases rx
 cases ry
 obtain ⟨its,r1,p1,_⟩:=I.tuple ha
 obtain ⟨its2,r2,p2,_⟩:=I.tuple hb
 have e0:its=[]:=r1.nil_iff.mpr rfl
 subst e0
 obtain ⟨⟨cls,dd,data,sl⟩,ho,hc,n,hd⟩:=id p1
 obtain ⟨⟨cls2,dd2,data2,sl2⟩,ho2,hc2,n2,hd2⟩:=id p2
 simp only at hc hd hc2 hd2
 subst hc hd hc2 hd2
 exact concat_meets ⟨_,ho,rfl⟩ ⟨_,ho2,rfl⟩ noFill_tuple_add seq_tuple_add PySem.F.slot_tuple_add PySem.F.entry_tuple_add (PySem.F.args_tuple_add_2 _ _)
  (tuple_addW0 a b [].toArray its2.toArray n n2 dd dd2 sl sl2 rfl) ⟨ho,ho2,⟨.ref b,H,I,rfl,q⟩⟩
theorem strOk_cat {x y:Str} (h1:PyData.strOk x=true) (h2:PyData.strOk y=true):PyData.strOk (x ++ y)=true:=by
 show (x.cps ++ y.cps).all _=true
 rw [Array.all_append,Bool.and_eq_true]
 exact ⟨h1,h2⟩
theorem bin_ok (hK:X.K=K) (op:Operator):OpR X (binaryOp op) (rBin K op):=by
 intro pins s σ H x y v u Q I rx ry h
 obtain ⟨G,d,e,w,sub,hx,hy,hm,eb,k⟩:=h
 subst hK
 cases op with
 | Add =>
  cases d with
  | int =>
   cases e with
   | int =>
    cases hx.int; cases hy.int
    change some _=_ at eb
    cases eb
    exact op_add pins s σ H _ _ _ _ Q I rx ry ⟨_,_,rfl,rfl,k _ _ made_int⟩
   | _=>exact (no_some eb).elim
  | lst xs =>
   cases e with
   | lst ys =>
    change (if smallL (xs.length+ys.length) then some _ else none)=_ at eb
    split at eb
    ·rename_i hz
     cases eb
     obtain ⟨a,vs,rfl,h1,h2⟩:=hx.lst sub
     obtain ⟨b,ws,rfl,h3,h4⟩:=hy.lst sub
     refine op_catS pins s σ H _ _ _ _ Q I rx ry ⟨a,b,vs,ws,rfl,rfl,h1,h3, ?_,fun p hp=>k _ _ (.inr (.inl ⟨_,_,p,rfl,hp,h2.app h4,rfl,rfl⟩))⟩
     rw [h2.len,h4.len]; exact smallL_ok hz
    ·cases eb
   | _=>exact (no_some eb).elim
  | str x0 =>
   cases e with
   | str y0 =>
    change @ite _ (x0.length+y0.length≤1000000) (cl _) _ none=_ at eb
    split at eb
    ·rename_i hz
     cases eb
     obtain ⟨rfl,o1⟩:=hx.str
     obtain ⟨rfl,o2⟩:=hy.str
     exact op_add_str pins s σ H _ _ _ _ Q I rx ry ⟨_,_,rfl,rfl,Nat.le_trans hz (by decide),k _ _ (.inl ⟨_,rfl,by unfold Rep; exact ⟨rfl,strOk_cat o1 o2⟩,rfl⟩)⟩
    ·cases eb
   | _=>exact (no_some eb).elim
  | tup xs =>
   cases xs with
   | nil =>
    cases e with
    | tup ys0 =>
     change some _=_ at eb
     cases eb
     have hy':=hy
     obtain ⟨a,vs,rfl,h1,h2⟩:=hx.tup sub
     obtain ⟨b,ws,rfl,h3,h4⟩:=hy.tup sub
     have e1:vs=[]:=List.length_eq_zero_iff.mp h2.len
     subst e1
     refine op_cat0 pins s σ H _ _ _ _ Q I rx ry ⟨a,b,ws,rfl,rfl,h1,h3, ?_⟩
     rcases hy' with hy' | ⟨_,_,hy'⟩
     ·exact k _ _ (.inl ⟨_,rfl,hy',rfl⟩)
     ·exact hy'.elim
    | _=>exact (no_some eb).elim
   | cons x0 xs0 =>
    cases e with
    | tup ys0 =>
     change (if smallL (xs0.length+1+ys0.length) then some _ else none)=_ at eb
     split at eb
     ·rename_i hz
      cases eb
      have hx':=hx
      obtain ⟨a,vs,rfl,h1,h2⟩:=hx.tup sub
      obtain ⟨b,ws,rfl,h3,h4⟩:=hy.tup sub
      have e1:=h2.len
      have e2:=h4.len
      refine op_catT pins s σ H _ _ _ _ Q I rx ry ⟨a,b,vs,ws,rfl,rfl,h1,h3, ?_, ?_,fun hw=>?_,fun hw p hp=>?_⟩
      ·intro z; subst z; simp at e1
      ·rw [e1,e2]; exact smallL_ok hz
      ·subst hw
       have e3:ys0=[]:=List.length_eq_zero_iff.mp e2.symm
       subst e3
       rcases hx' with hx' | ⟨_,_,hx'⟩
       ·exact k _ _ (.inl ⟨_,rfl,by simpa using hx',rfl⟩)
       ·exact hx'.elim
      ·exact k _ _ (.inr (.inr ⟨_,_,p,rfl,hp,h2.app h4,rfl,rfl⟩))
     ·cases eb
    | _=>exact (no_some eb).elim
  | _=>exact (no_some eb).elim
 | Sub =>
  cases d with
  | int =>
   cases e with
   | int =>
    cases hx.int; cases hy.int
    change some _=_ at eb
    cases eb
    exact op_sub pins s σ H _ _ _ _ Q I rx ry ⟨_,_,rfl,rfl,k _ _ made_int⟩
   | _=>exact (no_some eb).elim
  | _=>exact (no_some eb).elim
 | Mult =>
  cases d with
  | int =>
   cases e with
   | int =>
    cases hx.int; cases hy.int
    change @ite _ _ (cl _) _ none=_ at eb
    split at eb
    ·cases eb
     exact op_mul pins s σ H _ _ _ _ Q I rx ry ⟨_,_,rfl,rfl,‹_›,k _ _ made_int⟩
    ·cases eb
   | _=>exact (no_some eb).elim
  | str x0 =>
   cases e with
   | int n0 =>
    change @ite _ (MulOk x0 n0∧PyData.strOk (Txt.mul x0 n0)=true) (cl _) _ none=_ at eb
    split at eb
    ·rename_i hz
     cases eb
     obtain ⟨rfl,o1⟩:=hx.str
     cases hy.int
     exact op_mul_str pins s σ H _ _ _ _ Q I rx ry ⟨_,_,rfl,rfl,hz.1,k _ _ (.inl ⟨_,rfl,by unfold Rep; exact ⟨rfl,hz.2⟩,rfl⟩)⟩
    ·cases eb
   | _=>exact (no_some eb).elim
  | _=>exact (no_some eb).elim
 | FloorDiv =>
  cases d with
  | int =>
   cases e with
   | int =>
    cases hx.int; cases hy.int
    change @ite _ _ (cl _) _ none=_ at eb
    split at eb
    ·cases eb
     exact op_fdivB pins s σ H _ _ _ _ Q I rx ry ⟨_,_,rfl,rfl,‹_›,k _ _ made_int⟩
    ·cases eb
   | _=>exact (no_some eb).elim
  | _=>exact (no_some eb).elim
 | Mod =>
  cases d with
  | int =>
   cases e with
   | int =>
    cases hx.int; cases hy.int
    change @ite _ _ (cl _) _ none=_ at eb
    split at eb
    ·cases eb
     exact op_mod pins s σ H _ _ _ _ Q I rx ry ⟨_,_,rfl,rfl,‹_›,k _ _ made_int⟩
    ·cases eb
   | _=>exact (no_some eb).elim
  | _=>exact (no_some eb).elim
 | Pow=>exact (no_some eb).elim
 | LShift =>
  cases d with
  | int =>
   cases e with
   | int =>
    cases hx.int; cases hy.int
    change @ite _ _ (cl _) _ none=_ at eb
    split at eb
    ·rename_i hc
     cases eb
     exact op_shl pins s σ H _ _ _ _ Q I rx ry ⟨_,_,rfl,rfl,⟨hc.1,by omega,hc.2.2⟩,k _ _ made_int⟩
    ·cases eb
   | _=>exact (no_some eb).elim
  | _=>exact (no_some eb).elim
 | RShift =>
  cases d with
  | int =>
   cases e with
   | int =>
    cases hx.int; cases hy.int
    change @ite _ _ (cl _) _ none=_ at eb
    split at eb
    ·cases eb
     exact op_shr pins s σ H _ _ _ _ Q I rx ry ⟨_,_,rfl,rfl,‹_›,k _ _ made_int⟩
    ·cases eb
   | _=>exact (no_some eb).elim
  | _=>exact (no_some eb).elim
 | BitAnd =>
  cases d with
  | int =>
   cases e with
   | int =>
    cases hx.int; cases hy.int
    change some _=_ at eb
    cases eb
    exact op_and pins s σ H _ _ _ _ Q I rx ry ⟨_,_,rfl,rfl,k _ _ made_int⟩
   | _=>exact (no_some eb).elim
  | _=>exact (no_some eb).elim
 | BitOr =>
  cases d with
  | int =>
   cases e with
   | int =>
    cases hx.int; cases hy.int
    change some _=_ at eb
    cases eb
    exact op_or pins s σ H _ _ _ _ Q I rx ry ⟨_,_,rfl,rfl,k _ _ made_int⟩
   | _=>exact (no_some eb).elim
  | _=>exact (no_some eb).elim
 | _=>exact (no_some eb).elim
noncomputable def rCmp (K:PySem.W.Frag) (op:CmpOp):R2:=fun x y H Q=>∃ G d e b,Same G H∧RepR K H G d x∧RepR K H G e y∧cmpD op d e=some b∧Q (.bl b) H
theorem flatD_V {d:D} {x:V} (h:Rep K G d x) (f:flatD d=true):flatV x=true∧∀ (e:D) (y:V),Rep K G e y→flatD e=true→eqV y x=eqD e d:=by
 cases d <;> simp only [flatD,Bool.false_eq_true] at f <;> simp only [Rep] at h
 ·subst h
  refine ⟨rfl,fun e y hy fe=>?_⟩
  cases e <;> simp only [flatD,Bool.false_eq_true] at fe <;> simp only [Rep] at hy <;> (first | subst hy | (obtain ⟨rfl,_⟩:=hy)) <;> simp [eqV,eqD]
 ·subst h
  refine ⟨rfl,fun e y hy fe=>?_⟩
  cases e <;> simp only [flatD,Bool.false_eq_true] at fe <;> simp only [Rep] at hy <;> (first | subst hy | (obtain ⟨rfl,_⟩:=hy)) <;> simp [eqV,eqD]
 ·subst h
  refine ⟨rfl,fun e y hy fe=>?_⟩
  cases e <;> simp only [flatD,Bool.false_eq_true] at fe <;> simp only [Rep] at hy <;> (first | subst hy | (obtain ⟨rfl,_⟩:=hy)) <;> simp [eqV,eqD]
 ·obtain ⟨rfl,_⟩:=h
  refine ⟨rfl,fun e y hy fe=>?_⟩
  cases e <;> simp only [flatD,Bool.false_eq_true] at fe <;> simp only [Rep] at hy <;> (first | subst hy | (obtain ⟨rfl,_⟩:=hy)) <;> simp [eqV,eqD]
theorem RepR.flat {d:D} {x:V} (h:RepR K H G d x) (f:flatD d=true):Rep K G d x:=by
 rcases h with h | ⟨a,rfl,h⟩
 ·exact h
 ·cases d <;> first | exact h.elim | cases f
theorem inV_ok {d:D} {x:V} (h:Rep K G d x) (f:flatD d=true):∀ {ds:List D} {vs:List V},Reps K G ds vs→ds.all flatD=true→vs.all flatV=true∧inV x vs=inD d ds
 | [],vs,h2,_=>by simp only [Reps] at h2; subst h2; exact ⟨rfl,rfl⟩
 | e :: ds,vs,h2,fs=>by
  simp only [Reps] at h2
  obtain ⟨y,r,rfl,h3,h4⟩:=h2
  rw [List.all_cons,Bool.and_eq_true] at fs
  obtain ⟨a1,a2⟩:=inV_ok h f h4 fs.2
  obtain ⟨b1,_⟩:=flatD_V h3 fs.1
  have b2:=(flatD_V h f).2 e y h3 fs.1
  refine ⟨by rw [List.all_cons,b1,a1]; rfl, ?_⟩
  unfold inV inD at *
  rw [List.any_cons,List.any_cons,a2,b2]
theorem rc_rep (I:Inv X pins σ H s) (hK:X.K=K) (sub:Same G H) {A:Around} (hu:A.units+20<cLine) {d e:D} {x y:V} {v u:Value} (od:okD 20 d=true) (oe:okD 20 e=true) (hx:RepR K H G d x) (hy:RepR K H G e y) (rx:RelV x v) (ry:RelV y u) :
  SeqAt.RcAt A s v u (eqD d e)∧SeqAt.RcNeAt A s v u (!eqD d e):=by
 obtain ⟨as,a1,a2,a3⟩:=reads_repR I hK sub 20 d x v od hx rx
 obtain ⟨bs,b1,b2,b3⟩:=reads_repR I hK sub 20 e y u oe hy ry
 rw [← eqv_toP 20 d e od oe]
 exact ⟨SeqAt.rcAt_reads a1 b1 a2 b2 (by omega),SeqAt.rcNeAt_reads a1 b1 a2 b2 (by omega)⟩
theorem intsD_of:∀ {ds:List D} {ns:List Int},intsD ds=some ns→ds=ns.map D.int
 | [],ns,h=>by cases h; rfl
 | .int i :: r,ns,h=>by
  replace h:(intsD r).map (i :: ·)=some ns:=h
  cases q:intsD r with
  | none=>rw [q] at h; cases h
  | some ms =>
   rw [q] at h
   cases h
   rw [List.map_cons,← intsD_of q]
 | .non :: _,_,h | .bl _ :: _,_,h | .str _ :: _,_,h | .tup _ :: _,_,h | .lst _ :: _,_,h | .ins _ _ _ :: _,_,h | .dct _ :: _,_,h | .exn _ :: _,_,h | .dcs _ :: _,_,h=>nomatch h
theorem Reps.ints:∀ {ns:List Int} {vs:List V},Reps K G (ns.map D.int) vs→vs=ns.map V.int
 | [],vs,h=>by simp only [List.map_nil,Reps] at h; exact h
 | n :: ns,vs,h=>by
  simp only [List.map_cons,Reps] at h
  obtain ⟨v,r,rfl,h1,h2⟩:=h
  simp only [Rep] at h1
  rw [h1,Reps.ints h2]
  rfl
theorem skey_of {d:D} {k:Int × List Int} (h:skey d=some k):d=.tup [.int k.1,.tup (k.2.map D.int)]:=by
 unfold skey at h
 split at h
 ·rename_i t ds
  cases q:intsD ds with
  | none=>rw [q] at h; cases h
  | some ns =>
   rw [q] at h
   cases h
   rw [intsD_of q]
 ·cases h
theorem key_rep {d:D} {x:V} {k:Int × List Int} (hk:skey d=some k) (h:RepR K H G d x):∃ b,x=.ref b∧KeyAt K G k b:=by
 rw [skey_of hk] at h
 rcases h with h | ⟨_,_,h⟩
 ·simp only [Rep,Reps] at h
  obtain ⟨a,vs,rfl,h1,v1,r1,rfl,rfl,v2,r2,rfl,⟨c,ws,rfl,h2,h3⟩,rfl⟩:=h
  rw [Reps.ints h3] at h2
  exact ⟨a,rfl,c,h1,h2⟩
 ·exact h.elim
abbrev PS2 (kvs:List ((Int × List Int) × Int)) (xs:SXs):Prop:=Paired (fun (p:(Int × List Int) × Int) (q:SKey × Addr × Value)=>p.1=q.1∧∃ t,q.2.2=.int p.2 t) kvs xs
theorem RepR.dcs {kvs:List ((Int × List Int) × Int)} {x:V} (h:RepR K H G (.dcs kvs) x) (sub:Same G H):∃ a xs,x=.ref a∧DS K H a xs∧PS2 kvs xs:=by
 rcases h with h | ⟨a,rfl,xs,h1,h2⟩
 ·simp only [Rep] at h
  obtain ⟨a,xs,rfl,h1,h2⟩:=h
  exact ⟨a,xs,rfl,⟨sub _ _ h1,h2.1,h2.2.1,h2.2.2.1,fun x hx=>KeyAt.mono sub (h2.2.2.2.1 x hx)⟩,h2.2.2.2.2⟩
 ·exact ⟨a,xs,rfl,⟨h1,h2.1,h2.2.1,h2.2.2.1,fun x hx=>KeyAt.mono sub (h2.2.2.2.1 x hx)⟩,h2.2.2.2.2⟩
theorem look_at {kvs:List ((Int × List Int) × Int)} {xs:SXs} (r:PS2 kvs xs) (k:Int × List Int):(atKey xs k=none∧lookS kvs k=none)∨∃ p n t,atKey xs k=some p∧lookS kvs k=some n∧p.2=.int n t:=by
 unfold atKey lookS
 induction r with
 | nil=>exact .inl ⟨rfl,rfl⟩
 | @cons p q ps qs h t ih =>
  obtain ⟨h1,tk,h2⟩:=h
  rw [List.find?_cons,List.find?_cons,h1]
  by_cases e:q.1=k
  ·rw [decide_eq_true e]
   exact .inr ⟨_,_,tk,rfl,rfl,h2⟩
  ·rw [decide_eq_false e]
   exact ih
theorem look_some {kvs:List ((Int × List Int) × Int)} {xs:SXs} (r:PS2 kvs xs) (k:Int × List Int):(atKey xs k).isSome=(lookS kvs k).isSome:=by
 rcases look_at r k with ⟨h1,h2⟩ | ⟨p,n,t,h1,h2,_⟩ <;> rw [h1,h2] <;> rfl
theorem put_map {k:Int × List Int} {m:Int} {t:Tok} {kvs:List ((Int × List Int) × Int)} {xs:SXs} (r:PS2 kvs xs):PS2 (kvs.map fun p=>if p.1=k then (p.1,m) else p) (xs.map (putAt k (.int m t))):=by
 induction r with
 | nil=>exact .nil
 | @cons p q ps qs h tl ih =>
  obtain ⟨h1,tk,h2⟩:=h
  rw [List.map_cons,List.map_cons]
  refine .cons ?_ ih
  unfold putAt
  rw [h1]
  by_cases e:q.1=k
  ·rw [if_pos e,if_pos e]; exact ⟨rfl,t,rfl⟩
  ·rw [if_neg e,if_neg e]; exact ⟨h1,tk,h2⟩
theorem put_ps {kvs:List ((Int × List Int) × Int)} {xs:SXs} (r:PS2 kvs xs) {k:Int × List Int} {b:Addr} {m:Int} {t:Tok}:PS2 (putS kvs k m) (storedH xs k b (.int m t)):=by
 unfold putS storedH
 rw [look_some r k]
 split
 ·exact put_map r
 ·exact Paired.snoc r ⟨rfl,t,rfl⟩
theorem RepR.dct {kvs:List (Int × Int)} {x:V} (h:RepR K H G (.dct kvs) x) (sub:Same G H):∃ a,x=.ref a∧H a=some (.dK (dkv kvs)):=by
 rcases h with h | ⟨a,rfl,h⟩
 ·simp only [Rep] at h
  obtain ⟨a,rfl,h⟩:=h
  exact ⟨a,rfl,sub _ _ h⟩
 ·exact ⟨a,rfl,h⟩
theorem cmp_ok (hK:X.K=K) (hu:X.A.units+64<cLine) (op:CmpOp):OpR X (compareOp op) (rCmp K op):=by
 intro pins s σ H x y v u Q I rx ry h
 obtain ⟨G,d,e,b,sub,hx,hy,eb,k⟩:=h
 cases op with
 | Eq =>
  change (if okD 20 d && okD 20 e then some _ else none)=_ at eb
  split at eb
  ·rename_i hc
   cases eb
   rw [Bool.and_eq_true] at hc
   exact (rc_rep I hK sub (by omega) hc.1 hc.2 hx hy rx ry).1 _ _ _ _ ⟨.bl _,H,I,rfl,k⟩
  ·cases eb
 | NotEq =>
  change (if okD 20 d && okD 20 e then some _ else none)=_ at eb
  split at eb
  ·rename_i hc
   cases eb
   rw [Bool.and_eq_true] at hc
   exact (rc_rep I hK sub (by omega) hc.1 hc.2 hx hy rx ry).2 _ _ _ _ ⟨.bl _,H,I,rfl,k⟩
  ·cases eb
 | Lt =>
  cases d with
  | int =>
   cases e with
   | int =>
    cases hx.int; cases hy.int
    change some _=_ at eb
    cases eb
    exact op_lt pins s σ H _ _ _ _ Q I rx ry ⟨_,_,rfl,rfl,k⟩
   | _=>exact (no_some eb).elim
  | _=>exact (no_some eb).elim
 | LtE =>
  cases d with
  | int =>
   cases e with
   | int =>
    cases hx.int; cases hy.int
    change some _=_ at eb
    cases eb
    exact op_le pins s σ H _ _ _ _ Q I rx ry ⟨_,_,rfl,rfl,k⟩
   | _=>exact (no_some eb).elim
  | _=>exact (no_some eb).elim
 | Gt =>
  cases d with
  | int =>
   cases e with
   | int =>
    cases hx.int; cases hy.int
    change some _=_ at eb
    cases eb
    exact op_gt pins s σ H _ _ _ _ Q I rx ry ⟨_,_,rfl,rfl,k⟩
   | _=>exact (no_some eb).elim
  | _=>exact (no_some eb).elim
 | GtE =>
  cases d with
  | int =>
   cases e with
   | int =>
    cases hx.int; cases hy.int
    change some _=_ at eb
    cases eb
    exact op_ge pins s σ H _ _ _ _ Q I rx ry ⟨_,_,rfl,rfl,k⟩
   | _=>exact (no_some eb).elim
  | _=>exact (no_some eb).elim
 | Is =>
  cases e with
  | non =>
   cases hy.non
   refine op_isN pins s σ H _ _ _ _ Q I rx ry ⟨rfl, ?_⟩
   by_cases hd:d=.non
   ·subst hd
    cases hx.non
    change some _=_ at eb
    cases eb
    simpa using k
   ·have:¬ x=.non:=fun z=>by
     subst z
     rcases hx with hx | ⟨_,z,_⟩
     ·cases d <;> first | exact hd rfl | simp [Rep] at hx
     ·cases z
    cases d with
    | non=>exact absurd rfl hd
    | _ =>
     change some _=_ at eb
     cases eb
     simpa [this] using k
  | bl =>
   cases d with
   | bl =>
    cases hx.bl; cases hy.bl
    change some _=_ at eb
    cases eb
    cases rx; cases ry
    exact is_bool ⟨.bl _,H,I,rfl,k⟩
   | _=>exact (no_some eb).elim
  | _=>cases d <;> exact (no_some eb).elim
 | IsNot =>
  cases e with
  | non =>
   cases hy.non
   refine op_notN pins s σ H _ _ _ _ Q I rx ry ⟨rfl, ?_⟩
   by_cases hd:d=.non
   ·subst hd
    cases hx.non
    change some _=_ at eb
    cases eb
    simpa using k
   ·have:¬ x=.non:=fun z=>by
     subst z
     rcases hx with hx | ⟨_,z,_⟩
     ·cases d <;> first | exact hd rfl | simp [Rep] at hx
     ·cases z
    cases d with
    | non=>exact absurd rfl hd
    | _ =>
     change some _=_ at eb
     cases eb
     simpa [this] using k
  | _=>cases d <;> exact (no_some eb).elim
 | In =>
  cases e with
  | tup ds =>
   change (if flatD d && ds.all flatD then some _ else none)=_ at eb
   split at eb
   ·rename_i hc
    cases eb
    rw [Bool.and_eq_true] at hc
    obtain ⟨a,vs,rfl,h1,h2⟩:=hy.tup sub
    obtain ⟨i1,i2⟩:=inV_ok (hx.flat hc.1) hc.1 h2 hc.2
    refine op_in_seq pins s σ H _ _ _ _ Q I rx ry ⟨a,vs,rfl,.inr (hK ▸ h1),(flatD_V (hx.flat hc.1) hc.1).1,i1, ?_⟩
    simpa [i2] using k
   ·cases eb
  | lst ds =>
   change (if flatD d && ds.all flatD then some _ else none)=_ at eb
   split at eb
   ·rename_i hc
    cases eb
    rw [Bool.and_eq_true] at hc
    obtain ⟨a,vs,rfl,h1,h2⟩:=hy.lst sub
    obtain ⟨i1,i2⟩:=inV_ok (hx.flat hc.1) hc.1 h2 hc.2
    refine op_in_seq pins s σ H _ _ _ _ Q I rx ry ⟨a,vs,rfl,.inl (hK ▸ h1),(flatD_V (hx.flat hc.1) hc.1).1,i1, ?_⟩
    simpa [i2] using k
   ·cases eb
  | str y0 =>
   cases d with
   | str x0 =>
    change some _=_ at eb
    cases eb
    obtain ⟨rfl,_⟩:=hx.str
    obtain ⟨rfl,_⟩:=hy.str
    exact op_in_str pins s σ H _ _ _ _ Q I rx ry ⟨_,_,rfl,rfl,k⟩
   | _=>exact (no_some eb).elim
  | dcs kvs =>
   change inS_ d kvs=_ at eb
   unfold inS_ at eb
   cases hs:skey d with
   | none=>rw [hs] at eb; cases eb
   | some k0 =>
    rw [hs] at eb
    cases eb
    subst hK
    obtain ⟨b0,rfl,kk⟩:=key_rep hs hx
    obtain ⟨a,xs,rfl,ds,pr⟩:=hy.dcs sub
    cases rx
    cases ry
    refine s_in (by omega) I ds (KeyAt.mono sub kk) fun s3 I3=>⟨.bl _,H,I3,rfl, ?_⟩
    rw [look_some pr]
    exact k
  | _=>exact (no_some eb).elim
 | NotIn=>exact (no_some eb).elim
end
section
variable {X:Cx} {K:PySem.W.Frag} {pins:List (Addr × Obj)} {σ:St} {H G:Hp} {s:Shared}
theorem at_ok {ds:List D} {vs:List V} {i:Int} {d:D} (h:Reps K G ds vs) (e:atI ds i=some d):∃ v,atI vs i=some v∧Rep K G d v:=by
 unfold atI at e ⊢
 rw [h.len]
 cases q:ixN ds.length i with
 | none=>rw [q] at e; cases e
 | some j =>
  rw [q] at e
  exact h.get e
noncomputable def rIxD (K:PySem.W.Frag):R2:=fun x y H Q=>∃ G d e r,Same G H∧RepR K H G d x∧RepR K H G e y∧ixD d e=some r∧∀ z,Rep K G r z→Q z H
theorem IxR.imp {r r':R2} (h:IxR X r) (w:∀ x y H Q,r' x y H Q→r x y H Q):IxR X r':=fun va sl pins s σ H x y v u Q I rx ry q hs=>h va sl pins s σ H x y v u Q I rx ry (w x y H Q q) hs
theorem strOk_get {x:Str} (h:PyData.strOk x=true) {i:Int} {c:Nat} (e:atI x.cps.toList i=some c):PyData.strOk ⟨#[c]⟩=true:=by
 unfold PyData.strOk at *
 have hm:c∈x.cps.toList:=by
  unfold atI at e
  cases q:ixN x.cps.toList.length i with
  | none=>rw [q] at e; cases e
  | some j=>rw [q] at e; exact List.mem_of_getElem? e
 have:=Array.all_eq_true'.mp h c (by simpa using hm)
 simpa using this
theorem ix_no:IxR X (fun _ _ _ _=>False):=fun _ _ _ _ _ _ _ _ _ _ _ _ _ _ h _=>h.elim
noncomputable def rIxS (K:PySem.W.Frag):R2:=fun x y H Q=>∃ a b xs k p n t,x=.ref a∧y=.ref b∧DS K H a xs∧KeyAt K H k b∧atKey xs k=some p∧p.2=.int n t∧Q (.int n) H
theorem DS.typeIs {a:Addr} {xs:SXs} (I:Inv X pins σ H s) (d:DS X.K H a xs):s.TypeIs (.ref a) "dict":=by
 obtain ⟨o,es,ep,h1,h2,_⟩:=d.dict I
 exact ⟨o,h1,h2.1⟩
theorem ix_dictS (hu:X.A.units+9<cLine):IxR X (rIxS X.K):=by
 intro value slice pins s σ H x y v u Q I rx ry h hs
 obtain ⟨a,b,xs,k,p,n,t,rfl,rfl,ds,kk,e,en,q⟩:=h
 cases rx
 cases ry
 have hT:=DS.typeIs I ds
 unfold subscriptTail
 refine wpAny_bind ?_
 rw [getitemInPython_of_ne hT.not_modules]
 refine wpAny_bind (wpAny_specialOf hT PySem.F.slot_dict_getitem.lookup ?_)
 have fin:wpAny (model X.prog X.w) X.A (subscripted slice false (.ref a) (.ref b)) (fun r s₃=>wpAny (model X.prog X.w) X.A (letTemporaryGo value (.ref a) r >>= fun _=>pure r) (EP X pins σ Q) X.xe s₃) X.xe s:=by
  rw [hs]
  exact wpAny_operating (s_getItem hu I ds kk e fun s3 I3=>wpAny_bind (wpAny_letTemporaryGo (wpAny_pure ⟨.int n,H,I3,⟨t,en⟩,q⟩)))
 first
  | exact wpAny_pure (wpAny_bind fin)
  | exact wpAny_bind (wpAny_pure (wpAny_bind fin))
  | exact wpAny_bind fin
theorem ix_ok (hK:X.K=K) (hu:X.A.units+9<cLine):IxR X (rIxD K):=by
 refine IxR.imp ((ix_seq.or ix_no).or (ix_dictS hu)) fun x y H Q h=>?_
 obtain ⟨G,d,e,r,sub,hx,hy,er,k⟩:=h
 subst hK
 unfold ixD at er
 split at er
 ·cases hy.int
  obtain ⟨a,vs,rfl,h1,h2⟩:=hx.tup sub
  obtain ⟨v,h3,h4⟩:=at_ok h2 er
  exact .inl (.inl (.inr (.inl ⟨a,vs,_,v,rfl,rfl,h1,h3,k v h4⟩)))
 ·cases hy.int
  obtain ⟨a,vs,rfl,h1,h2⟩:=hx.lst sub
  obtain ⟨v,h3,h4⟩:=at_ok h2 er
  exact .inl (.inl (.inl ⟨a,vs,_,v,rfl,rfl,h1,h3,k v h4⟩))
 ·rename_i kvs
  cases hs:skey e with
  | none=>rw [hs] at er; cases er
  | some k0 =>
   rw [hs] at er
   simp only [Option.bind_some] at er
   obtain ⟨b0,rfl,kk⟩:=key_rep hs hy
   obtain ⟨a,xs,rfl,ds,pr⟩:=hx.dcs sub
   rcases look_at pr k0 with ⟨_,h2⟩ | ⟨p,n,t,h1,h2,h3⟩
   ·rw [h2] at er; cases er
   ·rw [h2] at er
    cases er
    exact .inr ⟨a,b0,xs,k0,p,n,t,rfl,rfl,ds,KeyAt.mono sub kk,h1,h3,k _ (by simp [Rep])⟩
 ·split at er
  ·rename_i hz
   cases hy.int
   obtain ⟨rfl,ok⟩:=hx.str
   cases q:atI ‹Str›.cps.toList ‹Int› with
   | none=>rw [q] at er; cases er
   | some c =>
    rw [q] at er
    cases er
    exact .inl (.inl (.inr (.inr ⟨_,_,c,rfl,rfl,Nat.le_trans hz (by decide),q,k _ (show Rep X.K G (.str _) _ by unfold Rep; exact ⟨rfl,strOk_get ok q⟩)⟩)))
  ·cases er
 ·cases er
theorem made_str {x:Str} (h:PyData.strOk x=true):Made K H G (.sh (.str x)) (.str x) H:=.inl ⟨_,rfl,by simp [Rep,h],rfl⟩
theorem cut_ok {ds:List D} {vs:List V} {lo hi:Option Int} (h:Reps K G ds vs):Reps K G (cutD ds lo hi) (cutV vs lo hi):=by
 unfold cutD cutV
 rw [h.len]
 exact (h.drop _).take _
def rSlD (K:PySem.W.Frag):V→Option Int→Option Int→Hp→VK→Prop:=fun x lo hi H Q=>∃ G d v,Same G H∧RepR K H G d x∧slD d lo hi=some v∧∀ z H',Made K H G v z H'→Q z H'
theorem sl_ok (hK:X.K=K):SlR X (rSlD K):=by
 intro pins s σ H x v vl vu lo hi sl Q I rx hs pl pu h
 obtain ⟨G,d,r,sub,hx,er,k⟩:=h
 subst hK
 by_cases hst:∃ y,d=.str y
 ·obtain ⟨y,rfl⟩:=hst
  change @ite _ (y.length≤1000000∧PyData.strOk (Txt.slice y lo hi)=true) (cl _) _ none=_ at er
  split at er
  ·rename_i hz
   cases er
   obtain ⟨rfl,_⟩:=hx.str
   exact sl_str pins s σ H _ v vl vu lo hi sl Q I rx hs pl pu ⟨_,rfl,hz.1,k _ _ (made_str hz.2)⟩
  ·cases er
 refine SlR.or sl_list sl_tupW pins s σ H x v vl vu lo hi sl Q I rx hs pl pu ?_
 unfold slD at er
 split at er
 ·cases er
  obtain ⟨a,vs,rfl,h1,h2⟩:=hx.lst sub
  exact .inl ⟨a,vs,rfl,h1,fun p hp=>k _ _ (.inr (.inl ⟨_,_,p,rfl,hp,cut_ok h2,rfl,rfl⟩))⟩
 ·rename_i ds
  cases er
  obtain ⟨a,vs,rfl,h1,h2⟩:=hx.tup sub
  refine .inr ⟨a,vs,rfl,h1,fun p hp=>k _ _ (.inr (.inr ⟨_,_,p,rfl,hp,cut_ok h2,rfl,rfl⟩)),fun hw=>k _ _ (.inl ⟨_,rfl, ?_,rfl⟩)⟩
  have hc:cutD ds lo hi=ds:=by
   unfold cutD
   rw [← h2.len,hw.1,hw.2,h2.len,List.drop_zero,Nat.sub_zero,List.take_length]
  rw [hc]
  rcases hx with hx | ⟨_,_,hx⟩
  ·exact hx
  ·exact hx.elim
 ·exact absurd ⟨_,rfl⟩ hst
 ·cases er
def RepRs (K:PySem.W.Frag) (H G:Hp):List D→List V→Prop
 | [],xs=>xs=[]
 | d :: ds,xs=>∃ x r,xs=x :: r∧RepR K H G d x∧RepRs K H G ds r
theorem reprs1 {d:D} {xs:List V} (h:RepRs K H G [d] xs):∃ x,xs=[x]∧RepR K H G d x:=by
 obtain ⟨x,r,rfl,h1,h2⟩:=h
 cases (show r=[] from h2)
 exact ⟨x,rfl,h1⟩
def rBi (K:PySem.W.Frag) (f:BI):List V→Hp→VK→Prop:=fun xs H Q=>∃ G ds v,Same G H∧RepRs K H G ds xs∧biD f ds=some v∧∀ z H',Made K H G v z H'→Q z H'
noncomputable def biV:BI→Value
 | .len=>.builtin "len"
 | .abs=>.builtin "abs"
 | .int=>.type "int"
 | .list=>.type "list"
 | .tuple=>.type "tuple"
 | .min=>.builtin "min"
 | .max=>.builtin "max"
 | .all=>.builtin "all"
 | .repr=>.builtin "repr"
 | .str=>.type "str"
theorem bools_ok:∀ {ds:List D} {vs:List V} {us:List Value} {bs:List Bool},Reps K G ds vs→Vals vs us→boolsD ds=some bs→LSm.BoolsAre us bs
 | [],_,_,_,h,r,e=>by
  simp only [Reps] at h; subst h; cases r; cases e; exact .nil
 | d :: ds,_,_,_,h,r,e=>by
  simp only [Reps] at h
  obtain ⟨v,r',rfl,h1,h2⟩:=h
  cases r with
  | cons ra rb =>
   cases d <;> simp only [boolsD,reduceCtorEq] at e
   rename_i b
   cases q:boolsD ds with
   | none=>rw [q] at e; cases e
   | some bs' =>
    rw [q] at e
    cases e
    simp only [Rep] at h1
    subst h1
    cases ra
    exact .cons b (bools_ok h2 rb q)
theorem call_all (hc:X.A.handled=none):CallR X (.builtin "all") (fun xs H Q=>∃ a vs ds bs G,xs=[.ref a]∧SqL X.K H a vs∧Reps X.K G ds vs∧boolsD ds=some bs∧Q (.bl (bs.all id)) H):=by
 intro pins s σ H xs us Q I r h
 obtain ⟨a,vs,ds,bs,G,rfl,h1,h2,h3,q⟩:=h
 obtain ⟨u,rfl,rx⟩:=vals1 r
 cases rx
 obtain ⟨its,rv,hl,z⟩:=sql_get I h1
 have hb:=bools_ok h2 rv h3
 have hlt:a<s.heap.objs.size:=by obtain ⟨_,e,_⟩:=hl; exact Heap.lt_size e
 refine call_all_walk (wpAny_pyIter_list hl ?_)
 refine ⟨s.heap.objs.size,[s.heap.objs.size,a],[s.heap.objs.size],its.toArray.size,_,_,fun i=>(bs[i]?).getD true,rfl,Walks.list (A:=X.A.in1) hc _ a (Nat.ne_of_lt hlt) its.toArray,
  ⟨⟨_,Heap.get?_push_size _ rfl,rfl,rfl⟩,hl.push _⟩,fun i v s' Q' E' hP hQ=>?_,fun h' tk hk=>?_⟩
 ·obtain ⟨b,e,rfl⟩:=hb.get i v (by simpa using hP)
  simp only [e,Option.getD_some] at hQ
  exact wpAny_truthy_bool hQ
 ·have e:((List.range its.toArray.size).all fun i=>(bs[i]?).getD true)=bs.all id:=by
   rw [List.size_toArray,hb.length]; exact LSm.range_all bs
  rw [e]
  exact ⟨.bl _,H,I.kept (t':=tk) (LSm.kept_iter hk),rfl,q⟩
theorem mt_bits:MtR X "int.bit_length" (fun x xs H Q=>∃ i,x=.int i∧xs=[]∧Q (.int (Builtin.Int.intBits i)) H):=by
 intro pins s σ H x xs v us Q I rx r h
 obtain ⟨i,rfl,rfl,q⟩:=h
 cases r
 obtain ⟨t,rfl⟩:=rx
 exact call_int_bit_length ⟨.int _,H,I.tok _,⟨_,rfl⟩,q⟩
theorem bi_ok (hK:X.K=K) (hc:X.calm=true) (hh:X.A.handled=none) (rm:Room 2 X.A) (f:BI):CallR X (biV f) (rBi K f):=by
 intro pins s σ H xs us Q I r h
 obtain ⟨G,ds,v,sub,hx,e,k⟩:=h
 subst hK
 cases f with
 | len =>
  obtain _ | ⟨d,_ | ⟨_,_⟩⟩:=ds
  ·exact (no_some e).elim
  ·cases d with
   | lst =>
    change some _=_ at e
    cases e
    obtain ⟨x,rfl,h1⟩:=reprs1 hx
    obtain ⟨a,vs,rfl,h2,h3⟩:=h1.lst sub
    exact call_len_seq pins s σ H _ us Q I r ⟨a,vs,rfl,.inl h2,by rw [h3.len]; exact k _ _ made_int⟩
   | tup =>
    change some _=_ at e
    cases e
    obtain ⟨x,rfl,h1⟩:=reprs1 hx
    obtain ⟨a,vs,rfl,h2,h3⟩:=h1.tup sub
    exact call_len_seq pins s σ H _ us Q I r ⟨a,vs,rfl,.inr h2,by rw [h3.len]; exact k _ _ made_int⟩
   | str x =>
    change @ite _ (x.length≤1000000) (cl _) _ none=_ at e
    split at e
    ·rename_i hz
     cases e
     obtain ⟨x,rfl,h1⟩:=reprs1 hx
     obtain ⟨rfl,_⟩:=h1.str
     exact call_len_str pins s σ H _ us Q I r ⟨_,rfl,Nat.le_trans hz (by decide),k _ _ made_int⟩
    ·cases e
   | _=>exact (no_some e).elim
  ·cases d <;> exact (no_some e).elim
 | abs =>
  obtain _ | ⟨d,_ | ⟨_,_⟩⟩:=ds
  ·exact (no_some e).elim
  ·cases d with
   | int =>
    change some _=_ at e
    cases e
    obtain ⟨x,rfl,h1⟩:=reprs1 hx
    cases h1.int
    exact call_abs pins s σ H _ us Q I r ⟨_,rfl,k _ _ made_int⟩
   | _=>exact (no_some e).elim
  ·cases d <;> exact (no_some e).elim
 | int =>
  obtain _ | ⟨d,_ | ⟨_,_⟩⟩:=ds
  ·exact (no_some e).elim
  ·cases d with
   | int =>
    change some _=_ at e
    cases e
    obtain ⟨x,rfl,h1⟩:=reprs1 hx
    cases h1.int
    exact call_int1 pins s σ H _ us Q I r (.inl ⟨_,rfl,k _ _ made_int⟩)
   | bl =>
    change some _=_ at e
    cases e
    obtain ⟨x,rfl,h1⟩:=reprs1 hx
    cases h1.bl
    exact call_int1 pins s σ H _ us Q I r (.inr ⟨_,rfl,k _ _ made_int⟩)
   | str x =>
    change @ite _ (x.length≤640) (cl _) ((PySem.intText? x).map _) none=_ at e
    split at e
    ·rename_i hz
     cases q:PySem.intText? x with
     | none=>rw [q] at e; cases e
     | some n =>
      rw [q] at e
      cases e
      obtain ⟨x,rfl,h1⟩:=reprs1 hx
      obtain ⟨rfl,_⟩:=h1.str
      exact call_int_txt pins s σ H _ us Q I r ⟨_,n,rfl,q,hz,k _ _ made_int⟩
    ·cases e
   | _=>exact (no_some e).elim
  ·cases d <;> exact (no_some e).elim
 | list=>exact (no_some e).elim
 | tuple =>
  obtain _ | ⟨d,_ | ⟨_,_⟩⟩:=ds
  ·exact (no_some e).elim
  ·cases d with
   | lst =>
    change some _=_ at e
    cases e
    obtain ⟨x,rfl,h1⟩:=reprs1 hx
    obtain ⟨a,vs,rfl,h2,h3⟩:=h1.lst sub
    exact call_tuple_of pins s σ H _ us Q I r ⟨a,vs,rfl,.inl ⟨h2,fun p hp=>k _ _ (.inr (.inr ⟨_,_,p,rfl,hp,h3,rfl,rfl⟩))⟩⟩
   | tup =>
    change some _=_ at e
    cases e
    obtain ⟨x,rfl,h1⟩:=reprs1 hx
    have h1':=h1
    obtain ⟨a,vs,rfl,h2,h3⟩:=h1.tup sub
    refine call_tuple_of pins s σ H _ us Q I r ⟨a,vs,rfl,.inr ⟨h2, ?_⟩⟩
    rcases h1' with h1' | ⟨_,_,h1'⟩
    ·exact k _ _ (.inl ⟨_,rfl,h1',rfl⟩)
    ·exact h1'.elim
   | _=>exact (no_some e).elim
  ·cases d <;> exact (no_some e).elim
 | min=>exact (no_some e).elim
 | max=>exact (no_some e).elim
 | all =>
  obtain _ | ⟨d,_ | ⟨_,_⟩⟩:=ds
  ·exact (no_some e).elim
  ·cases d with
   | lst ds =>
    change (boolsD ds).map _=_ at e
    cases q:boolsD ds with
    | none=>rw [q] at e; cases e
    | some bs =>
     rw [q] at e
     cases e
     obtain ⟨x,rfl,h1⟩:=reprs1 hx
     obtain ⟨a,vs,rfl,h2,h3⟩:=h1.lst sub
     exact call_all hh pins s σ H _ us Q I r ⟨a,vs,ds,bs,G,rfl,h2,h3,q,k _ _ made_bl⟩
   | _=>exact (no_some e).elim
  ·cases d <;> exact (no_some e).elim
 | repr=>exact (no_some e).elim
 | str =>
  obtain _ | ⟨d,_ | ⟨_,_⟩⟩:=ds
  ·exact (no_some e).elim
  ·cases d with
   | int i =>
    change @ite _ (i.natAbs.log2<1920∧PyData.strOk (Str.ofString (toString i))=true) (cl _) _ none=_ at e
    split at e
    ·rename_i hz
     cases e
     obtain ⟨x,rfl,h1⟩:=reprs1 hx
     cases h1.int
     exact call_str_int pins s σ H _ us Q I r ⟨_,rfl,hz.1,k _ _ (made_str hz.2)⟩
    ·cases e
   | str y =>
    change some _=_ at e
    cases e
    obtain ⟨x,rfl,h1⟩:=reprs1 hx
    obtain ⟨rfl,hy⟩:=h1.str
    exact call_str_txt pins s σ H _ us Q I r ⟨_,rfl,k _ _ (made_str hy)⟩
   | _=>exact (no_some e).elim
  ·cases d <;> exact (no_some e).elim
noncomputable def tyV1:Ty→V
 | .int=>.ty "int"
 | .bool=>.ty "bool"
 | .str=>.ty "str"
 | .list=>.ty "list"
 | .tuple=>.ty "tuple"
 | .dict=>.ty "dict"
 | .cls _=>.ty "dict"
 | .verr=>.ty "ValueError"
theorem RepR.exn {c:Str} {x:V} (sub:Same G H) (h:RepR K H G (.exn c) x):∃ a C,x=.ref a∧PySem.W.nsIn K mainGlobals c=some (some (.ref C))∧ExcG K C∧H a=some (.ext (ExcO a C)):=by
 rcases h with h | ⟨a,rfl,h⟩
 ·simp only [Rep] at h
  obtain ⟨a,C,e,h1,h2,h3⟩:=h
  exact ⟨a,C,e,h1,h2,sub _ _ h3⟩
 ·exact h.elim
theorem isi_ok (hK:X.K=K) (t:Ty):CallR X (.builtin "isinstance") (fun xs H Q=>∃ G d x b,Same G H∧xs=[x,tyV1 t]∧RepR K H G d x∧isTy t d=some b∧Q (.bl b) H):=by
 intro pins s σ H xs us Q I r h
 obtain ⟨G,d,x,b,sub,rfl,hx,e,q⟩:=h
 subst hK
 obtain ⟨u,w,rfl,rx,rw'⟩:=vals2 r
 have fin:∀ tk,EP X pins σ Q (.bool b) { s with toks:=tk }:=fun tk=>⟨.bl b,H,I.tok tk,rfl,q⟩
 have key:∀ T:String,w=.type T→∀ c:String,(∀ S:Value→Option Bool,True)→True:=fun _ _ _ _=>trivial
 cases t <;> simp only [isTy,reduceCtorEq] at e <;> (try (cases (show w=_ from rw')))
 all_goals
  cases d <;> simp only [Option.some.injEq,reduceCtorEq] at e <;> subst e
  all_goals first
   | (cases hx.non; cases (show u=Value.none from rx); exact PySem.W.kia_one PySem.W.kitx_none I.kIn True.intro (by rfl) (fun z=>nomatch z) fin)
   | (cases hx.bl; cases (show u=Value.bool _ from rx); exact PySem.W.kia_one PySem.W.kitx_bool I.kIn True.intro (by rfl) (fun z=>nomatch z) fin)
   | (cases hx.int; obtain ⟨t,q'⟩:=(show ∃ t,u=Value.int _ t from rx); cases q'; exact PySem.W.kia_one PySem.W.kitx_int I.kIn True.intro (by rfl) (fun z=>nomatch z) fin)
   | (obtain ⟨rfl,_⟩:=hx.str; obtain ⟨t,q'⟩:=(show ∃ t,u=Value.str _ t from rx); cases q'; exact PySem.W.kia_one PySem.W.kitx_str I.kIn True.intro (by rfl) (fun z=>nomatch z) fin)
   | (obtain ⟨a,vs,rfl,h2,h3⟩:=hx.lst sub; cases (show u=Value.ref a from rx); obtain ⟨its,_,⟨o,n,h4,h5,_⟩,_⟩:=I.list h2; exact PySem.W.kia_one PySem.W.kitx_list I.kIn ⟨o,h4,h5⟩ (by rfl) (fun z=>nomatch z) fin)
   | (obtain ⟨a,C,rfl,h2,h3,h4⟩:=hx.exn sub; cases (show u=Value.ref a from rx); exact PySem.W.kia_one (kitx_exc h3) I.kIn (I.hok a _ h4).1 (kit_verr h3) (fun z=>nomatch z) fin)
   | (obtain ⟨a,vs,rfl,h2,h3⟩:=hx.tup sub; cases (show u=Value.ref a from rx); obtain ⟨its,_,⟨o,h4,h5,_⟩,_⟩:=I.tuple h2; exact PySem.W.kia_one PySem.W.kitx_tuple I.kIn ⟨o,h4,h5⟩ (by rfl) (fun z=>nomatch z) fin)
end
section
variable {X:Cx} {pins:List (Addr × Obj)} {σ:L2.St} {H:Hp} {s:Shared} {h':Heap}
theorem inv_drawn {t':Nat} {e it p:Addr} {o:HO} (I:Inv X pins σ H s) (k:∀ b u,b≠e→b≠it→s.heap.get? b=some u→h'.get? b=some u) (fe:FpOk X pins H e) (fi:FpOk X pins H it) (hp:s.heap.objs.size≤p)
  (new:ObjOk X.prog X.w (upd H p o) h' p o):Inv X pins σ (upd H p o) { s with heap:=h',toks:=t' }:=by
 have hn:H p=none:=I.hok.fresh hp
 have ne:∀ {b:Addr} {u:HO},H b=some u→b≠e∧b≠it:=fun q=>⟨ne_of_none q fe.1,ne_of_none q fi.1⟩
 have nc:∀ {b:Addr},b ∉ [e,it]→b≠e∧b≠it:=fun hc=>⟨fun z=>hc (by simp [z]),fun z=>hc (by simp [z])⟩
 refine I.step (g':=s.gens) (d':=s.drawn) (ch:=[e,it]) (fun b hb=>?_) (fun b o _ _ hc q _=>k b o (nc hc).1 (nc hc).2 q) (fun b o _ _ hc q _=>⟨o.slots,k b o (nc hc).1 (nc hc).2 q⟩)
  (fun b o _ q n=>by rw [upd_ne (Nat.ne_of_lt (Nat.lt_of_lt_of_le (Heap.lt_size q) hp))]; exact n)
  (fun b o hc q=>⟨o,k b o (nc hc).1 (nc hc).2 q⟩) (fun b xs q=>by rw [upd_ne (ne_of_none q hn)]; exact q) (fun b o u q=>by rw [upd_ne (ne_of_none q hn)]; exact q) (fun b ps q=>⟨#[],by rw [upd_ne (ne_of_none q hn),q]; simp⟩) (fun m hm=>?_) (fun b u q=>?_) I.bare
 ·have hb:b=e∨b=it:=by simpa using hb
  rcases hb with rfl | rfl
  ·exact ⟨fe.2.2.2.1,fe.2.1,fe.2.2.2.2.1,fe.2.2.2.2.2⟩
  ·exact ⟨fi.2.2.2.1,fi.2.1,fi.2.2.2.2.1,fi.2.2.2.2.2⟩
 ·obtain ⟨o,es,ep,ho,r⟩:=hm
  exact ⟨o,es,ep,k _ o (Ne.symm fe.2.1) (Ne.symm fi.2.1) ho,r⟩
 ·by_cases hb:b=p
  ·subst hb; rw [upd_same] at q; cases q; exact new
  ·rw [upd_ne hb] at q
   refine (I.hok b u q).stay (fun c v hc z=>?_) (fun c q=>by rw [upd_ne (ne_of_none q hn)]; exact q) fun c xs q=>by rw [upd_ne (ne_of_none q hn)]; exact q
   have hc':c≠e∧c≠it:=by
    rcases hc with w | w
    ·rw [w]; exact ne q
    ·exact ne w
   exact k c v hc'.1 hc'.2 z
theorem inv_turned2 {t':Nat} {e it:Addr} (I:Inv X pins σ H s) (k:∀ b u,b≠e→b≠it→s.heap.get? b=some u→h'.get? b=some u) (fe:FpOk X pins H e) (fi:FpOk X pins H it):Inv X pins σ H { s with heap:=h',toks:=t' }:=by
 have ne:∀ {b:Addr} {u:HO},H b=some u→b≠e∧b≠it:=fun q=>⟨ne_of_none q fe.1,ne_of_none q fi.1⟩
 have nc:∀ {b:Addr},b ∉ [e,it]→b≠e∧b≠it:=fun hc=>⟨fun z=>hc (by simp [z]),fun z=>hc (by simp [z])⟩
 refine I.step (g':=s.gens) (d':=s.drawn) (ch:=[e,it]) (fun b hb=>?_) (fun b o _ _ hc q _=>k b o (nc hc).1 (nc hc).2 q) (fun b o _ _ hc q _=>⟨o.slots,k b o (nc hc).1 (nc hc).2 q⟩)
  (fun _ _ _ _ n=>n) (fun b o hc q=>⟨o,k b o (nc hc).1 (nc hc).2 q⟩) (fun _ _ q=>q) (fun _ _ _ q=>q) (fun b ps q=>⟨#[],by rw [q]; simp⟩) (fun m hm=>?_) (fun b u q=>?_) I.bare
 ·have hb:b=e∨b=it:=by simpa using hb
  rcases hb with rfl | rfl
  ·exact ⟨fe.2.2.2.1,fe.2.1,fe.2.2.2.2.1,fe.2.2.2.2.2⟩
  ·exact ⟨fi.2.2.2.1,fi.2.1,fi.2.2.2.2.1,fi.2.2.2.2.2⟩
 ·obtain ⟨o,es,ep,ho,r⟩:=hm
  exact ⟨o,es,ep,k _ o (Ne.symm fe.2.1) (Ne.symm fi.2.1) ho,r⟩
 ·refine (I.hok b u q).stay (fun c v hc z=>?_) (fun _ q=>q) fun _ _ q=>q
  have hc':c≠e∧c≠it:=by
   rcases hc with w | w
   ·rw [w]; exact ne q
   ·exact ne w
  exact k c v hc'.1 hc'.2 z
end
section
variable {prog:Program} {w:World} {A:Around} {E:Value→Shared→Prop} {s:Shared}
theorem en_next {e it l:Addr} {c:Int} {i:Nat} {us:Array Value} {u old:Value} {Q:Value→Shared→Prop} (q1:IsEnum s.heap e it c old) (q2:s.heap.IsListIter it l i) (q3:s.heap.IsList l us) (q4:us[i]?=some u) (ne:e≠it)
  (k:∀ g,IsEnumOut g e it (c+1) u s.heap.objs.size→g.IsListIter it l (i+1)→g.get? s.heap.objs.size=some { cls:=.type "tuple",data:=.seq #[.int c s.toks,u] }→(∀ b o,b≠e→b≠it→s.heap.get? b=some o→g.get? b=some o)→Q (.ref s.heap.objs.size) { s with heap:=g,toks:=s.toks+1 }) :
  wpAny (model prog w) A (Builtin.«enumerate.__next__» ⟨[.ref e],[]⟩) (fun fin s'=>∃ v,fin=.done (.ret v)∧Q v s') E s:=by
 obtain ⟨m0,ge,dr,tk,os⟩:=s
 refine wpAny_bind (m:=field (.ref e) 2) (wpAny_field q1 rfl (x:=.ref it) rfl (wpAny_bind (wpAny_nextOf_list_item q2 q3 q4 fun m1 t1 b1=>?_)))
 have b1:Heap.SameBut it m0 m1:=b1
 have e1:IsEnum m1 e it c old:=(b1.2 e ne).trans q1
 refine wpAny_bind (m:=field (.ref e) 3) (wpAny_field e1 rfl (x:=rawInt c) rfl (wpAny_bind (m:=field (.ref e) 4) (wpAny_field e1 rfl (x:=.none) rfl (wpAny_bind (m:=mkInt c) (wpAny_mkInt ?_)))))
 refine wpAny_bind (m:=setField (.ref e) 3 (rawInt (c+1))) (wpAny_setField_rec e1 (by simp) fun m2 e2 b2=>?_)
 have b2:Heap.SameBut e m1 m2:=b2
 have e2:IsEnum m2 e it (c+1) old:=e2
 refine wpAny_bind (m:=setField (.ref e) 4 .none) (wpAny_setField_rec e2 (by simp) fun m3 e3 b3=>?_)
 have b3:Heap.SameBut e m2 m3:=b3
 have e3:IsEnum m3 e it (c+1) old:=e3
 refine wpAny_bind (m:=newTuple [.int c tk,u]) (wpAny_newTuple ?_)
 have n3:m3.objs.size=m0.objs.size:=by rw [b3.1,b2.1,b1.1]
 have lt:e<m0.objs.size:=Heap.lt_size q1
 obtain ⟨m4,z4⟩:∃ m4,m3.push { cls:=.type "tuple",data:=.seq #[.int c tk,u] }=m4:=⟨_,rfl⟩
 have e4:IsEnum m4 e it (c+1) old:=z4 ▸ Heap.get?_push_of_some _ e3
 have p4:m4.get? m0.objs.size=some { cls:=.type "tuple",data:=.seq #[.int c tk,u] }:=z4 ▸ n3 ▸ Heap.get?_push_size _ rfl
 have k4:∀ b o,b≠e→b≠it→m0.get? b=some o→m4.get? b=some o:=fun b o x y q=>z4 ▸ Heap.get?_push_of_some _ (b3.extBut b o x (b2.extBut b o x (b1.extBut b o y q)))
 have t4:m4.IsListIter it l (i+1):=by
  obtain ⟨o,ho,r⟩:=(t1.extBut b2.extBut ne.symm).extBut b3.extBut ne.symm
  exact ⟨o,z4 ▸ Heap.get?_push_of_some _ ho,r⟩
 rw [n3,z4]
 refine wpAny_bind (m:=Builtin.SmallTypes.ownedTupleIsFree (.ref e)) ?_
 unfold Builtin.SmallTypes.ownedTupleIsFree
 refine wpAny_bind (wpAny_field e4 rfl (x:=.none) rfl (wpAny_pure ?_))
 simp only [if_true]
 refine wpAny_bind (wpAny_rule (wpAny_bind (wpAny_field e4 rfl (x:=old) rfl (wpAny_bind (wpAny_setField_rec e4 (by simp) fun m5 e5 b5=>?_)))))
 have b5:Heap.SameBut e m4 m5:=b5
 have e5:IsEnum m5 e it (c+1) u:=e5
 refine wpAny_bind (m:=Builtin.SmallTypes.ownedTupleHandOut (.ref e) (.ref m0.objs.size)) ?_
 unfold Builtin.SmallTypes.ownedTupleHandOut
 refine wpAny_bind (wpAny_setField_rec e5 (by simp) fun m6 e6 b6=>?_)
 have b6:Heap.SameBut e m5 m6:=b6
 have e6:IsEnumOut m6 e it (c+1) u m0.objs.size:=e6
 refine wpAny_setField_rec e6 (by simp) fun m7 e7 b7=>?_
 have b7:Heap.SameBut e m6 m7:=b7
 have st:∀ b o,b≠e→m4.get? b=some o→m7.get? b=some o:=fun b o x q=>b7.extBut b o x (b6.extBut b o x (b5.extBut b o x q))
 refine wpAny_bind (wpAny_letGo (wpAny_pure ⟨_,rfl,k m7 e7 ?_ (st _ _ (Nat.ne_of_gt lt) p4) fun b o x y q=>st b o x (k4 b o x y q)⟩))
 exact ((t4.extBut b5.extBut ne.symm).extBut b6.extBut ne.symm).extBut b7.extBut ne.symm
theorem en_pyNext {e it l:Addr} {c:Int} {i:Nat} {us:Array Value} {u old:Value} {Q:Option Value→Shared→Prop} (q1:IsEnum s.heap e it c old) (q2:s.heap.IsListIter it l i) (q3:s.heap.IsList l us) (q4:us[i]?=some u) (ne:e≠it)
  (k:∀ g,IsEnumOut g e it (c+1) u s.heap.objs.size→g.IsListIter it l (i+1)→g.get? s.heap.objs.size=some { cls:=.type "tuple",data:=.seq #[.int c s.toks,u] }→(∀ b o,b≠e→b≠it→s.heap.get? b=some o→g.get? b=some o)→Q (some (.ref s.heap.objs.size)) { s with heap:=g,toks:=s.toks+1 }) :
  wpAny (model prog w) A (pyNext (.ref e)) Q E s :=
 have ty:s.TypeIs (.ref e) "enumerate":=⟨_,q1,rfl⟩
 wpAny_bind (wpAny_attempt (wpAny_callSpecial?_slot (name:=Str.ofString "__next__") ty F.slot_enumerate_next (wpAny_call_entry F.slot_enumerate_next ty F.entry_enumerate_next (en_next q1 q2 q3 q4 ne fun g a b c d=>wpAny_pure (k g a b c d)) (F.args_enumerate_next_1 _))))
theorem en_stop {e it l:Addr} {c:Int} {i:Nat} {us:Array Value} {old:Value} {Q:Option Value→Shared→Prop} (hh:A.handled=none) (q1:IsEnum s.heap e it c old) (q2:s.heap.IsListIter it l i) (q3:s.heap.IsList l us) (q4:us[i]?=none)
  (k:∀ g,Heap.ExtBut it s.heap g→Q none { s with heap:=g }):wpAny (model prog w) A (pyNext (.ref e)) Q E s:=by
 have ty:s.TypeIs (.ref e) "enumerate":=⟨_,q1,rfl⟩
 refine wpAny_bind (wpAny_attempt (wpAny_callSpecial?_slot (name:=Str.ofString "__next__") ty F.slot_enumerate_next (wpAny_call_entry F.slot_enumerate_next ty F.entry_enumerate_next ?_ (F.args_enumerate_next_1 _))))
 refine wpAny_bind (m:=field (.ref e) 2) (wpAny_field q1 rfl (x:=.ref it) rfl (wpAny_bind (wpAny_nextOf_list_end hh q2 q3 q4 fun g x ex px=>?_)))
 obtain ⟨o,ho,hc⟩:=px
 exact wpAny_bind (wpAny_isInstance (T:="StopIteration") (b:=true) ⟨o,ho,hc⟩ isSubtype_stop (wpAny_pure (k _ ex)))
end
theorem en_newM (l:Addr) (us:Array Value) (n:Nat) (dct:Option Addr) (sl:Array (Option Value)) (c:Int) (t:Tok) (hc:Builtin.SmallTypes.fitsIndex c=true) :
  Meets (Builtin.«enumerate.__new__» ⟨[.type "enumerate",.ref l],[("start",.int c t)]⟩) (fun _ R s=>s.heap.get? l=some { cls:=.type "list",dict:=dct,data:=.seq us n,slots:=sl } ∧
   R (.ok (.ret (.ref (s.heap.push { cls:=.type "list_iterator",data:=.fields #[.ref l,.int 0 0] }).objs.size)))
    { s with heap:=(s.heap.push { cls:=.type "list_iterator",data:=.fields #[.ref l,.int 0 0] }).push { cls:=.type "enumerate",data:=.fields #[.none,.bool false,.ref s.heap.objs.size,rawInt c,.none,.none] } }) :=
 .of_wp fun prog w A R s h=>by
  obtain ⟨hp,g,d,tk,os⟩:=s; obtain ⟨hl,h⟩:=h
  have sb:=sub_enumerate
  have isl:Heap.IsList (Shared.heap ⟨hp,g,d,tk,os⟩) l us:=⟨_,hl,rfl,n,rfl⟩
  wp_walk using AutoSeq1.wpAny_loadPart' hl
  refine wpAny_stack_any fun st=>wpAny_pure ?_
  split
  ·rename_i v _ _ _ _ _
   cases (v == Value.type "enumerate")
   ·wp_walk using AutoSeq1.wpAny_loadPart' hl,wpAny_pyIter_list isl
    exact ⟨_,rfl,h⟩
   ·wp_walk using AutoSeq1.wpAny_loadPart' hl,wpAny_pyIter_list isl
    exact ⟨_,rfl,h⟩
  ·wp_walk using AutoSeq1.wpAny_loadPart' hl,wpAny_pyIter_list isl
   exact ⟨_,rfl,h⟩
theorem en_chk (a:Value) (c:Int) (t:Tok):checkTypeCall "enumerate" ⟨[a],[("start",.int c t)]⟩=pure ():=by kernel_rfl
theorem en_chk2 (a:Value) (c:Int) (t:Tok):checkBuiltinCall "enumerate.__new__" ⟨[.type "enumerate",a],[("start",.int c t)]⟩=pure ():=by kernel_rfl
theorem en_init {a b:Value} {kw:List (Str × Value)}:Meets (Builtin.«object.__init__» ⟨[a,b],kw⟩) (fun _ R s=>s.TypeIs a "enumerate"∧R (.ok (.ret .none)) s):=by
 refine Meets.of_wp fun prog w A R s hs=>?_
 obtain ⟨ty,hq⟩:=hs
 have hl:typeLookup (.type "enumerate") "__init__"=pure (some (.builtin "object.__init__")):=F.called_enumerate.init.lookup
 have hm:=F.called_enumerate.made
 have hne:(some "enumerate.__new__" != some "object.__new__")=true:=by decide
 repeat (any_goals (first | assumption | wp_step))
 exact ⟨_,rfl,hq⟩
theorem en_args (a b:Value) (c:Int) (t:Tok):argsOk "object.__init__" ⟨[a,b],[("start",.int c t)]⟩:=by
 unfold argsOk
 rw [signature?_of (id:="object.__init__") (n:="__init__".toList.reverse) (o:="object".toList.reverse) (by kernel_rfl) F.owner_object]
 kernel_rfl
section
variable {prog:Program} {w:World} {A:Around} {E:Value→Shared→Prop} {s:Shared}
theorem en_type {l:Addr} {us:Array Value} {c:Int} {t:Tok} {Q:Value→Shared→Prop} (hc:Builtin.SmallTypes.fitsIndex c=true) (q:s.heap.IsList l us)
  (k:∀ g,IsEnum g (s.heap.objs.size+1) s.heap.objs.size c .none→g.IsListIter s.heap.objs.size l 0→(∀ b o,s.heap.get? b=some o→g.get? b=some o)→Q (.ref (s.heap.objs.size+1)) { s with heap:=g }) :
  wpAny (model prog w) A (call (.type "enumerate") [.ref l] [("start",.int c t)]) Q E s:=by
 have ft:=F.called_enumerate
 obtain ⟨c0,tl,hmro⟩:=ft.mro
 have hmade:=ft.made
 have hsub:=ft.sub
 obtain ⟨⟨cl,dct,dt,sl⟩,hl,hcl,n,hd⟩:=q
 have hcl:cl=.type "list":=hcl
 have hd:dt=.seq us n:=hd
 subst hcl hd
 refine wpAny_call (codeAny_of_tree ?_)
 change wpAny _ _ (callAny (.type "enumerate") _) _ _ _
 refine wpAny_pure ⟨Code.quiet_builtin _ (by decide +kernel),codeAny_builtin F.entry_type_call ?_⟩
 rw [Around.under_plain (weight_type_call_type "enumerate" _ _) (units_type_call_type "enumerate" _ _)]
 have h1:=ft.notType
 have h2:=ft.canCreate
 have h3:=en_chk (.ref l) c t
 repeat (any_goals (first | assumption | wp_step))
 refine codeAny_mono (codeAny_call_builtin ft.plain F.entry_enumerate_new (wpAny_of_eq (en_chk2 (.ref l) c t) (en_newM l us n dct sl c t hc prog w A.in1 (wants (fun obj s1=>s1.TypeIs obj "enumerate"∧Q obj s1) E) s ⟨hl, ?_⟩))) fun r s1 hr=>?_
 ·have hz:(s.heap.push { cls:=.type "list_iterator",data:=.fields #[.ref l,.int 0 0] }).objs.size=s.heap.objs.size+1:=Heap.size_push ..
  change _∧_
  rw [hz]
  have he:IsEnum ((s.heap.push { cls:=.type "list_iterator",data:=.fields #[.ref l,.int 0 0] }).push { cls:=.type "enumerate",data:=.fields #[.none,.bool false,.ref s.heap.objs.size,rawInt c,.none,.none] }) (s.heap.objs.size+1) s.heap.objs.size c .none:=by
   have x:=Heap.get?_push_size (s.heap.push { cls:=.type "list_iterator",data:=.fields #[.ref l,.int 0 0] }) (o:={ cls:=.type "enumerate",data:=.fields #[.none,.bool false,.ref s.heap.objs.size,rawInt c,.none,.none] }) rfl
   rwa [hz] at x
  exact ⟨⟨_,he,rfl⟩,k _ he ⟨_,Heap.get?_push_of_some _ (Heap.get?_push_size _ rfl),rfl,rfl⟩ fun b o x=>Heap.get?_push_of_some _ (Heap.get?_push_of_some _ x)⟩
 ·cases r with
  | error e=>exact hr
  | ok fl =>
   cases fl with
   | ret obj =>
    have hT:s1.TypeIs obj "enumerate":=hr.1
    have hli:=ft.init.lookup
    have hbi:=ft.init.bind obj
    repeat (any_goals (first | assumption | wp_step))
    refine codeAny_mono (codeAny_call_builtin ft.init.plain F.entry_object_init (ft.init.check _ _ _ _ _ _ _ _ hT (en_args obj (.ref l) c t) (en_init prog w A.in1 (wants (fun r s2=>r=.none∧Q obj s2) E) s1 ⟨hT,rfl,hr.2⟩))) fun r2 s2 hr2=>?_
    cases r2 with
    | error e=>exact hr2
    | ok fl2 =>
     cases fl2 with
     | ret r =>
      obtain ⟨rfl,hq⟩:=hr2
      repeat (any_goals (first | assumption | wp_step))
     | _=>exact hr2.elim
   | _=>exact hr.elim
end
noncomputable def Ite (K:PySem.W.Frag) (a:Addr) (lo:Int):It :=
 ⟨fun i H=>∃ xs x,SqL K H a xs∧xs[i]?=some x,fun i H x H'=>∃ p y,H p=none∧x=.ref p∧H'=upd H p (.tup [.int (lo+(i:Int)),y])∧∀ xs,SqL K H a xs→xs[i]?=some y,fun i H=>∃ xs,SqL K H a xs∧xs.length≤i⟩
theorem turn_enum {P:Program} {w:World} {K:PySem.W.Frag} {elts:List Expr} {k0:Nat} {pos:Pos} (a e it:Addr) (lo:Int) (hei:e≠it):Turn P w K (.Tuple elts k0 pos) (Ite K a lo) [e,it] e (fun i h=>(∃ old,IsEnum h e it (lo+(i:Int)) old)∧h.IsListIter it a i) where
 mem:=by simp
 obj:=fun i h st b hb=>by
  obtain ⟨⟨old,h1⟩,o,h2,c,d⟩:=st
  have hb:b=e∨b=it:=by simpa using hb
  rcases hb with rfl | rfl
  ·exact ⟨_,h1,fun v z=>by
    have z':Data.fields _=Data.cell v:=z
    cases z'⟩
  ·exact ⟨o,h2,fun v z=>by rw [d] at z; cases z⟩
 keep:=fun i h h' st k=>by
  obtain ⟨⟨old,h1⟩,h2⟩:=st
  exact ⟨⟨old,k e (by simp) _ h1⟩,h2.at fun o q=>k it (by simp) o q⟩
 item:=by
  intro X hP hw hK hc i pins s σ H E I hf st hg
  subst hP hw hK
  obtain ⟨xs,x,hq,hx⟩:=hg
  obtain ⟨its,rv,p,hz⟩:=I.list hq
  obtain ⟨u,hu,ru⟩:=rv.get hx
  obtain ⟨⟨old,he⟩,hit⟩:=st
  have fe:=hf e (by simp)
  have fi:=hf it (by simp)
  refine en_pyNext he hit p.isList (u:=u) (by simpa using hu) hei fun h' ho hit' hT hk=>?_
  refine ⟨_,rfl,wpAny_letOwnedTupleGo_enum ho fun h2 he2 hs2=>?_⟩
  have helt:e<s.heap.objs.size:=Heap.lt_size he
  have hilt:it<s.heap.objs.size:=by obtain ⟨_,q,_⟩:=hit; exact Heap.lt_size q
  have ke:∀ b u,b≠e→b≠it→s.heap.get? b=some u→h2.get? b=some u:=fun b u n1 n2 q=>(hs2.2 b n1).trans (hk b u n1 n2 q)
  have hT2:h2.get? s.heap.objs.size=some { cls:=.type "tuple",data:=.seq #[.int (lo+(i:Int)) s.toks,u] }:=(hs2.2 _ (Nat.ne_of_gt helt)).trans hT
  have hfr:H s.heap.objs.size=none:=I.hok.fresh (Nat.le_refl _)
  have I2:Inv X pins σ (upd H s.heap.objs.size (.tup [.int (lo+(i:Int)),x])) { s with heap:=h2,toks:=s.toks+1 }:=inv_drawn I ke fe fi (Nat.le_refl _) ⟨by rw [sizeLine_eq]; simp,[.int (lo+(i:Int)) s.toks,u],.cons ⟨_,rfl⟩ (.cons ru .nil),⟨_,hT2,rfl,_,rfl⟩⟩
  refine ⟨.ref s.heap.objs.size,upd H s.heap.objs.size (.tup [.int (lo+(i:Int)),x]),I2,rfl,⟨s.heap.objs.size,x,hfr,rfl,rfl,fun ys hy=>by rw [I.list_inj hy hq]; exact hx⟩,⟨⟨_,by rw [Int.natCast_add,Int.natCast_one,← Int.add_assoc]; exact he2⟩,hit'.at fun o q=>(hs2.2 it hei.symm).trans q⟩,fun b hb=>?_⟩
  ·have hb:b=e∨b=it:=by simpa using hb
   rcases hb with rfl | rfl
   ·rw [upd_ne (Nat.ne_of_lt helt)]; exact fe.1
   ·rw [upd_ne (Nat.ne_of_lt hilt)]; exact fi.1
 done:=by
  intro X hP hw hK hc i pins s σ H E I hf st hg
  subst hP hw hK
  obtain ⟨xs,hq,hx⟩:=hg
  obtain ⟨its,rv,p,hz⟩:=I.list hq
  obtain ⟨⟨old,he⟩,hit⟩:=st
  have hl:=rv.length
  exact en_stop (I.ok.hd hc) he hit p.isList (by simp; omega) fun h' eb=>⟨rfl,inv_turned2 (t':=s.toks) I (fun b o _ n2 q=>eb b o n2 q) (hf e (by simp)) (hf it (by simp))⟩
 self:=fun _ _ _ _ _ st h=>by
  obtain ⟨⟨old,he⟩,_⟩:=st
  exact wpAny_pyIter_enum he h
section
variable {X:Cx}
noncomputable def iEnum (K:PySem.W.Frag) (lo:Int) (ta:TA):TI:=fun σ H R=>ta σ H fun vs H1=>∃ a,vs=[.ref a]∧(∃ xs,SqL K H1 a xs)∧R (Ite K a lo) H1
theorem boot_enum:bootBuiltins "enumerate"=some (.type "enumerate"):=by decide +kernel
theorem pi_enum {a:Expr} {ta:TA} {p pos tpos:Pos} {elts:List Expr} {k0:Nat} (hg:Gl X "enumerate") (hm:X.mg "enumerate"=none) (ha:PA X [a] ta) (hs:starEach [a] X.env=[(false,eval a X.env)]:=by rfl):PI X (.Tuple elts k0 tpos) (.Call (.Name "enumerate" p) [a] [] pos) (iEnum X.K 0 ta):=by
 intro pins s σ H R I h
 refine Call_ (ld_blt I hg hm boot_enum (PyProof.Rows.callWith_type1 (thn (ha pos pins s σ H _ I h) fun us s1 ⟨vs,H1,I1,r1,q1⟩=>?_) hs rfl))
 obtain ⟨l,e,⟨xs,hq⟩,q⟩:=q1
 subst e
 cases r1 with
 | cons r rr =>
  cases rr
  cases r
  obtain ⟨its,rv,p,hz⟩:=I1.list hq
  refine call_enumerate_list p.isList fun h' he hit hsz hk=>?_
  have I2:Inv X pins σ H1 { s1 with heap:=h' }:=I1.kept (t':=s1.toks) hk
  refine wpAny_pyIter_enum he ?_
  refine ⟨s1.heap.objs.size+1,[s1.heap.objs.size+1,s1.heap.objs.size],_,_,H1,rfl,I2,turn_enum l _ _ 0 (Nat.succ_ne_self _),⟨⟨_,by simpa using he⟩,hit⟩,fun b hb=>?_,q⟩
  have hb:b=s1.heap.objs.size+1∨b=s1.heap.objs.size:=by simpa using hb
  rcases hb with rfl | rfl
  ·exact I1.fpOk (Nat.le_succ _) (I1.hok.fresh (Nat.le_succ _))
  ·exact I1.fpOk (Nat.le_refl _) (I1.hok.fresh (Nat.le_refl _))
theorem pi_enumS {a:Expr} {ta:TA} {p pos tpos kq kp:Pos} {j:Nat} {elts:List Expr} {k0:Nat} (hg:Gl X "enumerate") (hm:X.mg "enumerate"=none) (ha:PA X [a] ta) (hs:starEach [a] X.env=[(false,eval a X.env)]:=by rfl) :
  PI X (.Tuple elts k0 tpos) (.Call (.Name "enumerate" p) [a] [⟨some "start",.Constant (.int 1) j kq,kp⟩] pos) (iEnum X.K 1 ta):=by
 intro pins s σ H R I h
 refine wpAny_Call_Name_kw (ld_blt I hg hm boot_enum ?_)
 refine PySem.W.callWith_of (P:=fun _=>True) (by rw [hs]; rfl) (fun _ _=>⟨.machine,.inr (.inl rfl),PySem.W.Looks.now⟩) (evalArgs_kw2 rfl (thn (ha pos pins s σ H _ I h) fun us s1 ⟨vs,H1,I1,r1,q1⟩=>?_) hs)
 obtain ⟨l,e,⟨xs,hq⟩,q⟩:=q1
 subst e
 cases r1 with
 | cons r rr =>
  cases rr
  cases r
  refine thn (pk_cons (X:=X) (nm:=some "start") (kpos:=kp) (pe_int (i:=1) (j:=j) (pos:=kq)) pk_nil pos pins s1 σ H1 (fun zs H2=>zs=[.int 1]∧H2=H1) I1 ⟨rfl,rfl⟩) fun ws s2 ⟨zs,H2,I2,rz,ez,eh⟩=>⟨trivial, ?_⟩
  subst ez eh
  cases rz with
  | cons rz rn =>
   cases rn
   obtain ⟨t,rfl⟩:=rz
   obtain ⟨its,rv,p,hz⟩:=I2.list hq
   refine en_type (c:=1) (by decide) p.isList fun h' he hit hk=>?_
   have I3:Inv X pins σ H2 { s2 with heap:=h' }:=I2.kept (t':=s2.toks) hk
   refine wpAny_pyIter_enum he ?_
   refine ⟨s2.heap.objs.size+1,[s2.heap.objs.size+1,s2.heap.objs.size],_,_,H2,rfl,I3,turn_enum l _ _ 1 (Nat.succ_ne_self _),⟨⟨_,by simpa using he⟩,hit⟩,fun b hb=>?_,q⟩
   have hb:b=s2.heap.objs.size+1∨b=s2.heap.objs.size:=by simpa using hb
   rcases hb with rfl | rfl
   ·exact I2.fpOk (Nat.le_succ _) (I2.hok.fresh (Nat.le_succ _))
   ·exact I2.fpOk (Nat.le_refl _) (I2.hok.fresh (Nat.le_refl _))
end
section
variable {K:PySem.W.Frag} {ρ ρ1:Env} {σ:St} {H G H' G':Hp} {own own' new new':Addr→Prop}
theorem set_cases {α:Type} {l:List α} {i j:Nat} {a b:α} (h:(l.set i a)[j]?=some b):(j=i∧b=a∧i<l.length)∨(j≠i∧l[j]?=some b):=by
 by_cases hij:j=i
 ·subst hij
  by_cases hl:j<l.length
  ·rw [List.getElem?_set_self hl] at h
   exact .inl ⟨rfl,(Option.some.inj h).symm,hl⟩
  ·rw [List.getElem?_eq_none (by rw [List.length_set]; omega)] at h
   cases h
 ·rw [List.getElem?_set_ne (fun z=>hij z.symm)] at h
  exact .inr ⟨hij,h⟩
theorem Rel.unset (r:Rel K ρ σ H G) (i:Nat):Rel K (ρ.set i .un) σ H G:=by
 refine ⟨by rw [List.length_set]; exact r.len,r.sub,fun j d h=>?_,fun j d p l h=>?_,fun j k d p l d' p' l' a h1 h2 h3 h4=>?_⟩
 ·rcases set_cases h with ⟨_,z,_⟩ | ⟨_,z⟩
  ·cases z
  ·exact r.sh j d z
 ·rcases set_cases h with ⟨_,z,_⟩ | ⟨_,z⟩
  ·cases z
  ·exact r.ow j d p l z
 ·rcases set_cases h1 with ⟨_,z,_⟩ | ⟨_,z⟩
  ·cases z
  ·rcases set_cases h2 with ⟨_,z',_⟩ | ⟨_,z'⟩
   ·cases z'
   ·exact r.inj _ _ _ _ _ _ _ _ _ z z' h3 h4
theorem Own.unset {i:Nat} {a:Addr} (h:Own (ρ.set i .un) σ a):Own ρ σ a:=by
 obtain ⟨j,d,p,l,h1,h2⟩:=h
 rcases set_cases h1 with ⟨_,z,_⟩ | ⟨_,z⟩
 ·cases z
 ·exact ⟨j,d,p,l,z,h2⟩
theorem Rel.unset_not (r:Rel K ρ σ H G) {i:Nat} {d:D} {p l:Bool} {a:Addr} (h:ρ[i]?=some (.ow d p l)) (hx:σ[i]?=some (some (.ref a))):¬ Own (ρ.set i .un) σ a:=by
 rintro ⟨j,d',p',l',h1,h2⟩
 rcases set_cases h1 with ⟨_,z,_⟩ | ⟨ne,z⟩
 ·cases z
 ·exact ne (r.inj _ _ _ _ _ _ _ _ _ z h h2 hx)
theorem Rel.grow (r:Rel K ρ σ H G) {a:Addr} {ob:HO} (hv:H a=some ob) (g:G a=none) (no:¬ Own ρ σ a):Rel K ρ σ H (upd G a ob):=by
 refine ⟨r.len,fun b u e=>?_,fun i d e=>?_,fun i d p l e=>?_,r.inj⟩
 ·by_cases hb:b=a
  ·subst hb; rw [upd_same] at e; rw [hv]; exact e
  ·rw [upd_ne hb] at e; exact r.sub b u e
 ·obtain ⟨v,h1,h2⟩:=r.sh i d e
  exact ⟨v,h1,Rep.mono (Same.put g) d h2⟩
 ·obtain ⟨b,h1,h2,h3⟩:=r.ow i d p l e
  have hb:b≠a:=fun z=>by subst z; exact no ⟨i,d,p,l,e,h1⟩
  exact ⟨b,h1,by rw [upd_ne hb]; exact h2,h3.mono (Same.put g) fun _ z=>z⟩
theorem Rel.put_sh (r:Rel K (ρ.set i .un) σ H G) {d:D} {v:V} (hx:σ[i]?=some (some v)) (hr:Rep K G d v):Rel K (ρ.set i (.sh d)) σ H G:=by
 have key:∀ (j:Nat) (sl:Sl),(ρ.set i (.sh d))[j]?=some sl→(j=i∧sl=.sh d)∨(ρ.set i .un)[j]?=some sl:=fun j sl h=>by
  rcases set_cases h with ⟨e,z,_⟩ | ⟨ne,z⟩
  ·exact .inl ⟨e,z⟩
  ·exact .inr (by rw [List.getElem?_set_ne (fun q=>ne q.symm)]; exact z)
 refine ⟨by have:=r.len; rw [List.length_set] at this ⊢; exact this,r.sub,fun j d' h=>?_,fun j d' p l h=>?_,fun j k d1 p l d2 p' l' a h1 h2 h3 h4=>?_⟩
 ·rcases key j _ h with ⟨rfl,z⟩ | z
  ·cases z; exact ⟨v,hx,hr⟩
  ·exact r.sh j d' z
 ·rcases key j _ h with ⟨rfl,z⟩ | z
  ·cases z
  ·exact r.ow j d' p l z
 ·rcases key j _ h1 with ⟨rfl,z⟩ | z
  ·cases z
  ·rcases key k _ h2 with ⟨rfl,z'⟩ | z'
   ·cases z'
   ·exact r.inj _ _ _ _ _ _ _ _ _ z z' h3 h4
theorem Rel.put_ow (r:Rel K (ρ.set i .un) σ H G) {d:D} {p l:Bool} {a:Addr} (hx:σ[i]?=some (some (.ref a))) (g:G a=none) (ho:OwRep K H G a d) (no:¬ Own (ρ.set i .un) σ a):Rel K (ρ.set i (.ow d p l)) σ H G:=by
 have key:∀ (j:Nat) (sl:Sl),(ρ.set i (.ow d p l))[j]?=some sl→(j=i∧sl=.ow d p l)∨(ρ.set i .un)[j]?=some sl:=fun j sl h=>by
  rcases set_cases h with ⟨e,z,_⟩ | ⟨ne,z⟩
  ·exact .inl ⟨e,z⟩
  ·exact .inr (by rw [List.getElem?_set_ne (fun q=>ne q.symm)]; exact z)
 refine ⟨by have:=r.len; rw [List.length_set] at this ⊢; exact this,r.sub,fun j d' h=>?_,fun j d' p' l' h=>?_,fun j k d1 p1 l1 d2 p2 l2 b h1 h2 h3 h4=>?_⟩
 ·rcases key j _ h with ⟨rfl,z⟩ | z
  ·cases z
  ·exact r.sh j d' z
 ·rcases key j _ h with ⟨rfl,z⟩ | z
  ·cases z; exact ⟨a,hx,g,ho⟩
  ·exact r.ow j d' p' l' z
 ·rcases key j _ h1 with ⟨rfl,z⟩ | z
  ·rcases key k _ h2 with ⟨rfl,z'⟩ | z'
   ·rfl
   ·rw [hx] at h3; cases h3
    exact absurd ⟨k,_,_,_,z',h4⟩ no
  ·rcases key k _ h2 with ⟨rfl,z'⟩ | z'
   ·rw [hx] at h4; cases h4
    exact absurd ⟨j,_,_,_,z,h3⟩ no
   ·exact r.inj _ _ _ _ _ _ _ _ _ z z' h3 h4
theorem Own.put_sh {i:Nat} {d:D} {a:Addr} (h:Own (ρ.set i (.sh d)) σ a):Own (ρ.set i .un) σ a:=by
 obtain ⟨j,d',p,l,h1,h2⟩:=h
 rcases set_cases h1 with ⟨_,z,_⟩ | ⟨ne,z⟩
 ·cases z
 ·exact ⟨j,d',p,l,by rw [List.getElem?_set_ne (fun q=>ne q.symm)]; exact z,h2⟩
theorem Own.put_ow {i:Nat} {d:D} {p l:Bool} {a b:Addr} (hx:σ[i]?=some (some (.ref b))) (h:Own (ρ.set i (.ow d p l)) σ a):a=b∨Own (ρ.set i .un) σ a:=by
 obtain ⟨j,d',p',l',h1,h2⟩:=h
 rcases set_cases h1 with ⟨rfl,z,_⟩ | ⟨ne,z⟩
 ·rw [hx] at h2; cases h2; exact .inl rfl
 ·exact .inr ⟨j,d',p',l',by rw [List.getElem?_set_ne (fun q=>ne q.symm)]; exact z,h2⟩
theorem HRep.grow {h:Hd} {x:V} (r:HRep K H G own new σ h x) {G2:Hp} (s:Same G G2) (k:∀ a d,h=.val (.ow d)→x=.ref a→G2 a=none) (w:∀ a,own' a→own a):HRep K H G2 own' new σ h x:=by
 cases h with
 | slot i=>exact r
 | val v =>
  cases v with
  | sh d=>exact Rep.mono s d r
  | ow d =>
   obtain ⟨a,rfl,g,o,n,m⟩:=r
   exact ⟨a,rfl,k a d rfl rfl,o.mono s fun _ z=>z,fun z=>n (w a z),m⟩
  | od d=>exact r.elim
theorem HReps.tmp_own:∀ {hs:List Hd} {xs:List V} {a:Addr},HReps K H G own new σ hs xs→Tmp hs xs a→¬ own a∧new a∧H a≠none∧G a=none
 | [],_,_,h,t=>by cases (show _=[] from h); exact t.elim
 | h :: hs,_,a,r,t=>by
  obtain ⟨x,r',rfl,h1,h2,h3⟩:=r
  have tl:Tmp hs r' a→¬ own a∧new a∧H a≠none∧G a=none:=fun t=>HReps.tmp_own h2 t
  cases h with
  | slot i=>exact tl t
  | val v =>
   cases v with
   | sh d=>exact tl t
   | ow d =>
    rcases t with rfl | t
    ·obtain ⟨b,e,g,o,n,m⟩:=h1
     cases e
     obtain ⟨vs,hv⟩:=o.there
     exact ⟨n,m,by rw [hv]; simp,g⟩
    ·exact tl t
   | od d=>exact h1.elim
theorem HReps.grow:∀ {hs:List Hd} {xs:List V},HReps K H G own new σ hs xs→∀ {G2:Hp},Same G G2→(∀ a,Tmp hs xs a→G2 a=none)→(∀ a,own' a→own a)→HReps K H G2 own' new σ hs xs
 | [],_,h,_,_,_,_=>h
 | h :: hs,_,r,G2,s,k,w=>by
  obtain ⟨x,r',rfl,h1,h2,h3⟩:=r
  refine ⟨x,r',rfl,h1.grow s (fun a d e1 e2=>k a (by subst e1; exact .inl e2)) w,HReps.grow h2 s (fun a t=>k a ?_) w,h3⟩
  cases h with
  | slot i=>exact t
  | val v =>
   cases v with
   | sh d=>exact t
   | ow d=>exact .inr t
   | od d=>exact h1.elim
theorem Rel.nil (s:Same G H):Rel K [] [] H G:=⟨rfl,s,fun i d h=>by simp at h,fun i d p l h=>by simp at h,fun i j d p l d' p' l' a h=>by simp at h⟩
theorem Rel.cons_sh {as:List Sl} {τ:St} (r:Rel K as τ H G) {d:D} {x:V} (h:Rep K G d x):Rel K (.sh d :: as) (some x :: τ) H G:=by
 refine ⟨by simp [r.len],r.sub,fun i d' e=>?_,fun i d' p l e=>?_,fun i j d1 p l d2 p' l' a h1 h2 h3 h4=>?_⟩
 ·cases i with
  | zero=>simp at e; subst e; exact ⟨x,rfl,h⟩
  | succ i=>simpa using r.sh i d' (by simpa using e)
 ·cases i with
  | zero=>simp at e
  | succ i=>simpa using r.ow i d' p l (by simpa using e)
 ·cases i with
  | zero=>simp at h1
  | succ i =>
   cases j with
   | zero=>simp at h2
   | succ j=>exact congrArg (·+1) (r.inj i j d1 p l d2 p' l' a (by simpa using h1) (by simpa using h2) (by simpa using h3) (by simpa using h4))
theorem Rel.cons_ow {as:List Sl} {τ:St} (r:Rel K as τ H G) {d:D} {p l:Bool} {a:Addr} (g:G a=none) (o:OwRep K H G a d) (n:¬ Own as τ a):Rel K (.ow d p l :: as) (some (.ref a) :: τ) H G:=by
 refine ⟨by simp [r.len],r.sub,fun i d' e=>?_,fun i d' p l e=>?_,fun i j d1 p1 l1 d2 p' l' b h1 h2 h3 h4=>?_⟩
 ·cases i with
  | zero=>simp at e
  | succ i=>simpa using r.sh i d' (by simpa using e)
 ·cases i with
  | zero =>
   simp only [List.getElem?_cons_zero,Option.some.injEq,Sl.ow.injEq] at e
   obtain ⟨rfl,_,_⟩:=e
   exact ⟨a,rfl,g,o⟩
  | succ i=>simpa using r.ow i d' p l (by simpa using e)
 ·cases i with
  | zero =>
   simp only [List.getElem?_cons_zero,Option.some.injEq,V.ref.injEq] at h3
   subst h3
   cases j with
   | zero=>rfl
   | succ j=>exact absurd ⟨j,d2,p',l',by simpa using h2,by simpa using h4⟩ n
  | succ i =>
   cases j with
   | zero =>
    simp only [List.getElem?_cons_zero,Option.some.injEq,V.ref.injEq] at h4
    subst h4
    exact absurd ⟨i,d1,p1,l1,by simpa using h1,by simpa using h3⟩ n
   | succ j=>exact congrArg (·+1) (r.inj i j d1 p1 l1 d2 p' l' b (by simpa using h1) (by simpa using h2) (by simpa using h3) (by simpa using h4))
theorem Own.cons {as:List Sl} {τ:St} {sl:Sl} {v:Option V} {a:Addr} (h:Own (sl :: as) (v :: τ) a):(∃ d p l,sl=.ow d p l∧v=some (.ref a))∨Own as τ a:=by
 obtain ⟨i,d,p,l,h1,h2⟩:=h
 cases i with
 | zero=>exact .inl ⟨d,p,l,by simpa using h1,by simpa using h2⟩
 | succ i=>exact .inr ⟨i,d,p,l,by simpa using h1,by simpa using h2⟩
structure Lent (K:PySem.W.Frag) (ρ:Env) (σ:St) (H G:Hp) (hs:List Hd) (xs:List V) (as:List Sl) (ρ1:Env) (G2:Hp):Prop where
 gg:Same G G2
 gn:∀ a,G2 a≠none→G a≠none∨Own ρ σ a∨Tmp hs xs a
 ra:Rel K as (xs.map some) H G2
 rc:Rel K ρ1 σ H G2
 ao:∀ a,Own as (xs.map some) a→Own ρ σ a∨Tmp hs xs a
 an:∀ a,Own as (xs.map some) a→¬ Own ρ1 σ a
 ro:∀ a,Own ρ1 σ a→Own ρ σ a
theorem lend_ok:∀ (hs:List Hd) (pins:List Bool) (ρ:Env) (G:Hp) (xs:List V) (as:List Sl) (ρ1:Env),Rel K ρ σ H G→HReps K H G (Own ρ σ) new σ hs xs→lend pins hs ρ=some (as,ρ1) →
  ∃ G2,Lent K ρ σ H G hs xs as ρ1 G2
 | [],pins,ρ,G,xs,as,ρ1,r,h,e=>by
  cases (show xs=[] from h)
  cases pins with
  | cons p ps=>simp [lend] at e
  | nil =>
   simp only [lend,Option.some.injEq,Prod.mk.injEq] at e
   obtain ⟨rfl,rfl⟩:=e
   exact ⟨G,Same.refl _,fun a z=>.inl z,Rel.nil r.sub,r,fun a ⟨i,d,p,l,z,_⟩=>by simp at z,fun a ⟨i,d,p,l,z,_⟩=>by simp at z,fun _ z=>z⟩
 | .val (.sh d) :: hs,pins,ρ,G,xs,as,ρ1,r,h,e=>by
  obtain ⟨x,r',rfl,h1,h2,h3⟩:=h
  cases pins with
  | nil=>simp [lend] at e
  | cons p ps =>
   simp only [lend] at e
   cases q:lend ps hs ρ with
   | none=>rw [q] at e; cases e
   | some y =>
    obtain ⟨as',ρ'⟩:=y
    rw [q] at e
    simp only [Option.map_some,Option.some.injEq,Prod.mk.injEq] at e
    obtain ⟨rfl,rfl⟩:=e
    obtain ⟨G2,L⟩:=lend_ok hs ps ρ G r' as' ρ' r h2 q
    refine ⟨G2,L.gg,L.gn,L.ra.cons_sh (Rep.mono L.gg d h1),L.rc,fun a z=>?_,fun a z=>?_,L.ro⟩
    ·rcases z.cons with ⟨_,_,_,z,_⟩ | z
     ·cases z
     ·exact L.ao a z
    ·rcases z.cons with ⟨_,_,_,z,_⟩ | z
     ·cases z
     ·exact L.an a z
 | .val (.ow d) :: hs,pins,ρ,G,xs,as,ρ1,r,h,e=>by
  obtain ⟨x,r',rfl,h1,h2,h3⟩:=h
  obtain ⟨b,rfl,g,o,n,m⟩:=h1
  have nt:¬ Tmp hs r' b:=h3 d b rfl rfl
  cases pins with
  | nil=>simp [lend] at e
  | cons p ps =>
   simp only [lend] at e
   cases q:lend ps hs ρ with
   | none=>rw [q] at e; cases e
   | some y =>
    obtain ⟨as',ρ'⟩:=y
    rw [q] at e
    simp only [Option.map_some,Option.some.injEq,Prod.mk.injEq] at e
    obtain ⟨rfl,rfl⟩:=e
    cases p with
    | true =>
     obtain ⟨G2,L⟩:=lend_ok hs ps ρ G r' as' ρ' r h2 q
     have g2:G2 b=none:=by
      cases w:G2 b with
      | none=>rfl
      | some o' =>
       rcases L.gn b (by rw [w]; simp) with z | z | z
       ·exact absurd g z
       ·exact absurd z n
       ·exact absurd z nt
     have nb:¬ Own as' (r'.map some) b:=fun z=>by
      rcases L.ao b z with z | z
      ·exact n z
      ·exact nt z
     refine ⟨G2,L.gg,fun a z=>?_,L.ra.cons_ow g2 (o.mono L.gg fun _ z=>z) nb,L.rc,fun a z=>?_,fun a z=>?_,L.ro⟩
     ·rcases L.gn a z with z | z | z
      ·exact .inl z
      ·exact .inr (.inl z)
      ·exact .inr (.inr (.inr z))
     ·rcases z.cons with ⟨_,_,_,_,z⟩ | z
      ·cases z; exact .inr (.inl rfl)
      ·rcases L.ao a z with z | z
       ·exact .inl z
       ·exact .inr (.inr z)
     ·rcases z.cons with ⟨_,_,_,_,z⟩ | z
      ·cases z; exact fun w=>n (L.ro _ w)
      ·exact L.an a z
    | false =>
     obtain ⟨ob,hv,hr⟩:=o.put
     have tb:∀ a,Tmp hs r' a→(upd G b ob) a=none:=fun a z=>by
      have hb:a≠b:=fun w=>by subst w; exact nt z
      rw [upd_ne hb]
      exact (h2.tmp_own z).2.2.2
     obtain ⟨G2,L⟩:=lend_ok hs ps ρ (upd G b ob) r' as' ρ' (r.grow hv g n) (h2.grow (Same.put g) tb fun _ z=>z) q
     refine ⟨G2,(Same.put g).trans L.gg,fun a z=>?_,L.ra.cons_sh ?_,L.rc,fun a z=>?_,fun a z=>?_,L.ro⟩
     ·by_cases hb:a=b
      ·subst hb; exact .inr (.inr (.inl rfl))
      ·rcases L.gn a z with z | z | z
       ·rw [upd_ne hb] at z; exact .inl z
       ·exact .inr (.inl z)
       ·exact .inr (.inr (.inr z))
     ·exact hr _ ((Same.put g).trans L.gg) (L.gg _ _ upd_same)
     ·rcases z.cons with ⟨_,_,_,z,_⟩ | z
      ·simp at z
      ·rcases L.ao a z with z | z
       ·exact .inl z
       ·exact .inr (.inr z)
     ·rcases z.cons with ⟨_,_,_,z,_⟩ | z
      ·simp at z
      ·exact L.an a z
 | .slot i :: hs,pins,ρ,G,xs,as,ρ1,r,h,e=>by
  obtain ⟨x,r',rfl,h1,h2,h3⟩:=h
  have h1:σ[i]?=some (some x):=h1
  cases pins with
  | nil=>simp [lend] at e
  | cons p ps =>
   simp only [lend] at e
   split at e
   ·rename_i d hd
    cases q:lend ps hs ρ with
    | none=>rw [q] at e; cases e
    | some y =>
     obtain ⟨as',ρ'⟩:=y
     rw [q] at e
     simp only [Option.map_some,Option.some.injEq,Prod.mk.injEq] at e
     obtain ⟨rfl,rfl⟩:=e
     obtain ⟨G2,L⟩:=lend_ok hs ps ρ G r' as' ρ' r h2 q
     obtain ⟨v,h4,h5⟩:=r.sh i d hd
     rw [h1] at h4; cases h4
     refine ⟨G2,L.gg,L.gn,L.ra.cons_sh (Rep.mono L.gg d h5),L.rc,fun a z=>?_,fun a z=>?_,L.ro⟩
     ·rcases z.cons with ⟨_,_,_,z,_⟩ | z
      ·cases z
      ·exact L.ao a z
     ·rcases z.cons with ⟨_,_,_,z,_⟩ | z
      ·cases z
      ·exact L.an a z
   ·rename_i d pin lk hd
    obtain ⟨b,h4,g,o⟩:=r.ow i d pin lk hd
    rw [h1] at h4; cases h4
    have hown:Own ρ σ b:=⟨i,d,pin,lk,hd,h1⟩
    have nt:¬ Tmp hs r' b:=fun z=>(h2.tmp_own z).1 hown
    have nu:¬ Own (ρ.set i .un) σ b:=r.unset_not hd h1
    cases p with
    | true =>
     simp only at e
     cases q:lend ps hs (ρ.set i .un) with
     | none=>rw [q] at e; cases e
     | some y =>
      obtain ⟨as',ρ'⟩:=y
      rw [q] at e
      simp only [Option.map_some,Option.some.injEq,Prod.mk.injEq] at e
      obtain ⟨rfl,rfl⟩:=e
      obtain ⟨G2,L⟩:=lend_ok hs ps (ρ.set i .un) G r' as' ρ' (r.unset i) (h2.grow (Same.refl _) (fun a z=>(h2.tmp_own z).2.2.2) fun a z=>z.unset) q
      have g2:G2 b=none:=by
       cases w:G2 b with
       | none=>rfl
       | some o' =>
        rcases L.gn b (by rw [w]; simp) with z | z | z
        ·exact absurd g z
        ·exact absurd z nu
        ·exact absurd z nt
      have nb:¬ Own as' (r'.map some) b:=fun z=>by
       rcases L.ao b z with z | z
       ·exact nu z
       ·exact nt z
      refine ⟨G2,L.gg,fun a z=>?_,L.ra.cons_ow g2 (o.mono L.gg fun _ z=>z) nb,L.rc,fun a z=>?_,fun a z=>?_,fun a z=>(L.ro a z).unset⟩
      ·rcases L.gn a z with z | z | z
       ·exact .inl z
       ·exact .inr (.inl z.unset)
       ·exact .inr (.inr z)
      ·rcases z.cons with ⟨_,_,_,_,z⟩ | z
       ·cases z; exact .inl hown
       ·rcases L.ao a z with z | z
        ·exact .inl z.unset
        ·exact .inr z
      ·rcases z.cons with ⟨_,_,_,_,z⟩ | z
       ·cases z; exact fun w=>nu (L.ro _ w)
       ·exact L.an a z
    | false =>
     simp only at e
     split at e
     ·cases e
     ·cases q:lend ps hs (ρ.set i (.sh d)) with
      | none=>rw [q] at e; cases e
      | some y =>
       obtain ⟨as',ρ'⟩:=y
       rw [q] at e
       simp only [Option.map_some,Option.some.injEq,Prod.mk.injEq] at e
       obtain ⟨rfl,rfl⟩:=e
       obtain ⟨ob,hv,hr⟩:=o.put
       have tb:∀ a,Tmp hs r' a→(upd G b ob) a=none:=fun a z=>by
        have hb:a≠b:=fun w=>by subst w; exact nt z
        rw [upd_ne hb]
        exact (h2.tmp_own z).2.2.2
       have rb:∀ G2,Same (upd G b ob) G2→Rep K G2 d (.ref b):=fun G2 s2=>hr _ ((Same.put g).trans s2) (s2 _ _ upd_same)
       obtain ⟨G2,L⟩:=lend_ok hs ps (ρ.set i (.sh d)) (upd G b ob) r' as' ρ' (((r.unset i).grow hv g nu).put_sh h1 (rb _ (Same.refl _)))
        (h2.grow (Same.put g) tb fun a z=>z.put_sh.unset) q
       refine ⟨G2,(Same.put g).trans L.gg,fun a z=>?_,L.ra.cons_sh (rb G2 L.gg),L.rc,fun a z=>?_,fun a z=>?_,fun a z=>(L.ro a z).put_sh.unset⟩
       ·by_cases hb:a=b
        ·subst hb; exact .inr (.inl hown)
        ·rcases L.gn a z with z | z | z
         ·rw [upd_ne hb] at z; exact .inl z
         ·exact .inr (.inl z.put_sh.unset)
         ·exact .inr (.inr z)
       ·rcases z.cons with ⟨_,_,_,z,_⟩ | z
        ·cases z
        ·rcases L.ao a z with z | z
         ·exact .inl z.put_sh.unset
         ·exact .inr z
       ·rcases z.cons with ⟨_,_,_,z,_⟩ | z
        ·cases z
        ·exact L.an a z
   ·cases e
end
section
variable {K:PySem.W.Frag} {ρ ρ1 ρ0:Env} {σ τ:St} {H G H' G' H0 G0:Hp} {own own' new new':Addr→Prop}
theorem Rel.keep (r:Rel K ρ σ H G) (e:Ext own H G H' G') (n:∀ a,Own ρ σ a→¬ own a) (s:Same G' H'):Rel K ρ σ H' G':=by
 refine ⟨r.len,s,fun i d h=>?_,fun i d p l h=>?_,r.inj⟩
 ·obtain ⟨v,h1,h2⟩:=r.sh i d h
  exact ⟨v,h1,Rep.mono e.gg d h2⟩
 ·obtain ⟨a,h1,g,o⟩:=r.ow i d p l h
  have na:=n a ⟨i,d,p,l,h,h1⟩
  obtain ⟨vs,hv⟩:=o.there
  exact ⟨a,h1,e.gn a (by rw [hv]; simp) g na,o.mono e.gg fun o' h'=>e.hh a o' h' na⟩
theorem Rel.tail {a:Sl} {as:List Sl} {v:Option V} (r:Rel K (a :: as) (v :: τ) H G):Rel K as τ H G:=by
 refine ⟨by have:=r.len; simpa using this,r.sub,fun i d h=>?_,fun i d p l h=>?_,fun i j d p l d' p' l' b h1 h2 h3 h4=>?_⟩
 ·simpa using r.sh (i+1) d (by simpa using h)
 ·simpa using r.ow (i+1) d p l (by simpa using h)
 ·have:=r.inj (i+1) (j+1) d p l d' p' l' b (by simpa using h1) (by simpa using h2) (by simpa using h3) (by simpa using h4)
  omega
theorem Own.tail {a:Sl} {as:List Sl} {v:Option V} {b:Addr} (h:Own as τ b):Own (a :: as) (v :: τ) b:=by
 obtain ⟨i,d,p,l,h1,h2⟩:=h
 exact ⟨i+1,d,p,l,by simpa using h1,by simpa using h2⟩
theorem giveBack_ok:∀ (hs:List Hd) (pins:List Bool) (as:List Sl) (xs:List V) (ρ ρ':Env),Rel K as (xs.map some) H G→Rel K ρ σ H G→(∀ a,Own as (xs.map some) a→¬ Own ρ σ a)→HReps K H0 G0 own new σ hs xs →
  giveBack pins hs as ρ0 ρ=some ρ'→Rel K ρ' σ H G∧∀ a,Own ρ' σ a→Own ρ σ a∨Own ρ0 σ a
 | [],pins,as,xs,ρ,ρ',ra,r,n,h,e=>by
  cases pins with
  | nil =>
   cases as with
   | nil =>
    simp only [giveBack,Option.some.injEq] at e
    subst e
    exact ⟨r,fun _ z=>.inl z⟩
   | cons a as=>simp [giveBack] at e
  | cons p ps=>cases p <;> cases as <;> simp [giveBack] at e
 | h :: hs,pins,as,xs,ρ,ρ',ra,r,n,hh,e=>by
  obtain ⟨x,r',rfl,h1,h2,h3⟩:=hh
  cases pins with
  | nil=>simp [giveBack] at e
  | cons p ps =>
   cases as with
   | nil=>cases p <;> simp [giveBack] at e
   | cons a as' =>
    have skip:giveBack ps hs as' ρ0 ρ=some ρ'→Rel K ρ' σ H G∧∀ a,Own ρ' σ a→Own ρ σ a∨Own ρ0 σ a:=fun e' =>
     giveBack_ok hs ps as' r' ρ ρ' ra.tail r (fun b z=>n b z.tail) h2 e'
    cases p with
    | false=>cases h <;> exact skip (by simpa [giveBack] using e)
    | true =>
     cases h with
     | val v=>exact skip (by simpa [giveBack] using e)
     | slot i =>
      have h1:σ[i]?=some (some x):=h1
      simp only [giveBack] at e
      split at e
      ·rename_i _ pin lk d p' l' hi
       obtain ⟨b,hb,g,o⟩:=ra.ow 0 d p' l' rfl
       simp only [List.map_cons,List.getElem?_cons_zero,Option.some.injEq] at hb
       subst hb
       have nb:¬ Own ρ σ b:=n b ⟨0,d,p',l',rfl,rfl⟩
       have r2:Rel K (ρ.set i (.ow d pin lk)) σ H G:=(r.unset i).put_ow h1 g o fun z=>nb z.unset
       obtain ⟨r3,r4⟩:=giveBack_ok hs ps as' r' (ρ.set i (.ow d pin lk)) ρ' ra.tail r2 (fun c z w=>by
        rcases w.put_ow h1 with rfl | w
        ·obtain ⟨j,d2,p2,l2,z1,z2⟩:=z
         have:=ra.inj 0 (j+1) d p' l' d2 p2 l2 c rfl (by simpa using z1) rfl (by simpa using z2)
         omega
        ·exact n c z.tail w.unset) h2 e
       refine ⟨r3,fun c z=>?_⟩
       rcases r4 c z with z | z
       ·rcases z.put_ow h1 with rfl | z
        ·exact .inr ⟨i,_,pin,lk,hi,h1⟩
        ·exact .inl z.unset
       ·exact .inr z
      ·cases e
      ·exact skip e
def Lends (pins:List Bool) (hs:List Hd) (i:Nat):Prop:=∃ j:Nat,pins[j]?=some true∧hs[j]?=some (.slot i)
theorem Lends.cons {p:Bool} {ps:List Bool} {h:Hd} {hs:List Hd} {i:Nat} (l:Lends ps hs i):Lends (p :: ps) (h :: hs) i:=by
 obtain ⟨j,h1,h2⟩:=l
 exact ⟨j+1,by simpa using h1,by simpa using h2⟩
theorem lend_evo:∀ (hs:List Hd) (pins:List Bool) (ρ:Env) (as:List Sl) (ρ1:Env),lend pins hs ρ=some (as,ρ1)→∀ i:Nat,KindLe ρ[i]? ρ1[i]?∨(Lends pins hs i∧∃ d p l,ρ[i]?=some (.ow d p l))
 | [],pins,ρ,as,ρ1,e,i=>by
  cases pins <;> simp [lend] at e
  obtain ⟨_,rfl⟩:=e
  exact .inl (KindLe.refl _)
 | h :: hs,pins,ρ,as,ρ1,e,i=>by
  cases pins with
  | nil=>cases h with
   | slot i=>simp [lend] at e
   | val v=>cases v <;> simp [lend] at e
  | cons p ps =>
   have fin:∀ {ρ':Env} {g:Sl},(lend ps hs ρ').map (fun (as,ρ')=>(g :: as,ρ'))=some (as,ρ1)→KindLe ρ'[i]? ρ1[i]?∨(Lends ps hs i∧∃ d p l,ρ'[i]?=some (.ow d p l)):=by
    intro ρ' g e
    cases q:lend ps hs ρ' with
    | none=>rw [q] at e; cases e
    | some y =>
     obtain ⟨as',ρ2⟩:=y
     rw [q] at e
     simp only [Option.map_some,Option.some.injEq,Prod.mk.injEq] at e
     obtain ⟨_,rfl⟩:=e
     exact lend_evo hs ps ρ' as' ρ2 q i
   have same:∀ {g:Sl},(lend ps hs ρ).map (fun (as,ρ')=>(g :: as,ρ'))=some (as,ρ1)→KindLe ρ[i]? ρ1[i]?∨(Lends (p :: ps) (h :: hs) i∧∃ d p l,ρ[i]?=some (.ow d p l)):=by
    intro g e
    rcases fin e with z | ⟨z,w⟩
    ·exact .inl z
    ·exact .inr ⟨z.cons,w⟩
   cases h with
   | val v=>cases v <;> first | exact same e | cases e
   | slot i0 =>
    simp only [lend] at e
    split at e
    ·exact same e
    ·rename_i d pin lk hd
     cases p with
     | true =>
      simp only at e
      by_cases hi:i=i0
      ·subst hi
       exact .inr ⟨⟨0,rfl,rfl⟩,d,pin,lk,hd⟩
      ·have:=fin e
       rw [List.getElem?_set_ne (fun z=>hi z.symm)] at this
       rcases this with z | ⟨z,w⟩
       ·exact .inl z
       ·exact .inr ⟨z.cons,w⟩
     | false =>
      simp only at e
      split at e
      ·cases e
      ·rename_i hp
       simp only [Bool.or_eq_true,not_or,Bool.not_eq_true] at hp
       have ev0:Evo ρ (ρ.set i0 (.sh d)):=Evo.set (by rw [hd]; exact hp.1)
       rcases fin e with z | ⟨z,d',p',l',w⟩
       ·exact .inl ((ev0 i).trans z)
       ·have:=ev0 i
        rw [w] at this
        obtain ⟨d2,e2⟩:=this.ow_of
        exact .inr ⟨z.cons,d2,p',l',e2⟩
    ·cases e
theorem giveBack_evo:∀ (hs:List Hd) (pins:List Bool) (as:List Sl) (ρ ρ':Env),giveBack pins hs as ρ0 ρ=some ρ'→∀ i:Nat,(ρ'[i]?=ρ[i]?∨∃ d d' p l,ρ0[i]?=some (.ow d p l)∧ρ'[i]?=some (.ow d' p l)) ∧
  (Lends pins hs i→(∃ d p l,ρ0[i]?=some (.ow d p l))→i<ρ.length→∃ d d' p l,ρ0[i]?=some (.ow d p l)∧ρ'[i]?=some (.ow d' p l))
 | [],pins,as,ρ,ρ',e,i=>by
  cases pins with
  | nil =>
   cases as with
   | nil =>
    simp only [giveBack,Option.some.injEq] at e
    subst e
    exact ⟨.inl rfl,fun ⟨j,h,_⟩=>by simp at h⟩
   | cons a as=>simp [giveBack] at e
  | cons p ps=>cases p <;> cases as <;> simp [giveBack] at e
 | h :: hs,pins,as,ρ,ρ',e,i=>by
  cases pins with
  | nil=>simp [giveBack] at e
  | cons p ps =>
   cases as with
   | nil=>cases p <;> simp [giveBack] at e
   | cons a as' =>
    have uncons:¬ (p=true∧h=.slot i)→Lends (p :: ps) (h :: hs) i→Lends ps hs i:=fun n ⟨j,h1,h2⟩=>by
     cases j with
     | zero =>
      simp only [List.getElem?_cons_zero,Option.some.injEq] at h1 h2
      exact absurd ⟨h1,h2⟩ n
     | succ j=>exact ⟨j,by simpa using h1,by simpa using h2⟩
    have skip:¬ (p=true∧h=.slot i)∨¬ (∃ d p l,ρ0[i]?=some (.ow d p l))→giveBack ps hs as' ρ0 ρ=some ρ'→(ρ'[i]?=ρ[i]?∨∃ d d' p l,ρ0[i]?=some (.ow d p l)∧ρ'[i]?=some (.ow d' p l)) ∧
      (Lends (p :: ps) (h :: hs) i→(∃ d p l,ρ0[i]?=some (.ow d p l))→i<ρ.length→∃ d d' p l,ρ0[i]?=some (.ow d p l)∧ρ'[i]?=some (.ow d' p l)):=fun n e'=>by
     obtain ⟨h1,h2⟩:=giveBack_evo hs ps as' ρ ρ' e' i
     refine ⟨h1,fun l o=>?_⟩
     rcases n with n | n
     ·exact h2 (uncons n l) o
     ·exact absurd o n
    cases p with
    | false=>cases h <;> exact skip (.inl (by simp)) (by simpa [giveBack] using e)
    | true =>
     cases h with
     | val v=>exact skip (.inl (by simp)) (by simpa [giveBack] using e)
     | slot i0 =>
      simp only [giveBack] at e
      split at e
      ·rename_i d0 pin lk d p' l' hi
       obtain ⟨h1,h2⟩:=giveBack_evo hs ps as' _ ρ' e i
       by_cases hii:i=i0
       ·subst hii
        refine ⟨?_,fun l o hl=>?_⟩
        ·rcases h1 with h1 | h1
         ·by_cases hl:i<ρ.length
          ·rw [List.getElem?_set_self hl] at h1
           exact .inr ⟨_,_,_,_,hi,h1⟩
          ·exact .inl (by rw [h1,List.getElem?_eq_none (by rw [List.length_set]; omega),List.getElem?_eq_none (by omega)])
         ·exact .inr h1
        ·rcases h1 with h1 | h1
         ·rw [List.getElem?_set_self hl] at h1
          exact ⟨_,_,_,_,hi,h1⟩
         ·exact h1
       ·rw [List.getElem?_set_ne (fun z=>hii z.symm)] at h1
        refine ⟨h1,fun l o hl=>h2 (uncons (fun z=>hii (by have:=z.2; simp at this; exact this.symm)) l) o (by rw [List.length_set]; exact hl)⟩
      ·cases e
      ·rename_i hn1 hn2
       refine skip ?_ e
       by_cases hii:i=i0
       ·subst hii
        refine .inr fun ⟨d,p,l,z⟩=>?_
        exact hn1 d p l z
       ·exact .inl fun z=>hii (by have:=z.2; simp at this; exact this.symm)
theorem doCall_ok {pins:List Bool} {f:List Sl→Res RV} {hs:List Hd} {xs:List V} {v:RV} {ρ':Env} (a:Aft K ρ0 σ H0 G0 ρ H G) (h:HReps K H G (Own ρ σ) (Fresh H0) σ hs xs) (e:doCall pins f hs ρ=some (.ok v,ρ')) :
  ∃ as G2 as',Rel K as (xs.map some) H G2∧as.length=pins.length∧f as=some (.ok v,as')∧(Same G G2∧∀ c,Own as (xs.map some) c→Own ρ σ c∨Tmp hs xs c)∧∀ x H' G',Aft K as (xs.map some) H G2 as' H' G'→VRep K H' G' (Own as' (xs.map some)) (Fresh H) v x →
   Aft K ρ0 σ H0 G0 ρ' H' G'∧VRep K H' G' (Own ρ' σ) (Fresh H0) v x:=by
 unfold doCall at e
 cases q:lend pins hs ρ with
 | none=>rw [q] at e; cases e
 | some y =>
  obtain ⟨as,ρ1⟩:=y
  rw [q] at e
  simp only at e
  cases q2:f as with
  | none=>rw [q2] at e; cases e
  | some y =>
   obtain ⟨o,as'⟩:=y
   rw [q2] at e
   simp only at e
   cases q3:giveBack pins hs as' ρ ρ1 with
   | none=>rw [q3] at e; cases e
   | some ρ2 =>
    rw [q3] at e
    simp only [Option.map_some,Option.some.injEq,Prod.mk.injEq] at e
    obtain ⟨rfl,rfl⟩:=e
    obtain ⟨G2,L⟩:=lend_ok hs pins ρ G xs as ρ1 a.rel h q
    refine ⟨as,G2,as',L.ra, ?_,q2,⟨L.gg,L.ao⟩,fun x H' G' b hv=>?_⟩
    ·have:∀ (hs:List Hd) (pins:List Bool) (ρ:Env) (as:List Sl) (ρ1:Env),lend pins hs ρ=some (as,ρ1)→as.length=pins.length:=by
      intro hs
      induction hs with
      | nil =>
       intro pins ρ as ρ1 e
       cases pins <;> simp [lend] at e
       obtain ⟨rfl,_⟩:=e
       rfl
      | cons h hs ih =>
       intro pins ρ as ρ1 e
       cases pins with
       | nil=>cases h with
        | slot i=>simp [lend] at e
        | val v=>cases v <;> simp [lend] at e
       | cons p ps =>
        have fin:∀ {o:Option (List Sl × Env)} {g:Sl},(o.map fun (as,ρ')=>(g :: as,ρ'))=some (as,ρ1)→(∀ as' ρ',o=some (as',ρ')→as'.length=ps.length)→as.length=(p :: ps).length:=by
         intro o g e k
         cases o with
         | none=>cases e
         | some y =>
          obtain ⟨as',ρ'⟩:=y
          simp only [Option.map_some,Option.some.injEq,Prod.mk.injEq] at e
          rw [← e.1,List.length_cons,List.length_cons,k as' ρ' rfl]
        cases h with
        | slot i =>
         simp only [lend] at e
         split at e
         ·exact fin e fun as' ρ' z=>ih _ _ _ _ z
         ·split at e
          ·exact fin e fun as' ρ' z=>ih _ _ _ _ z
          ·split at e
           ·cases e
           ·exact fin e fun as' ρ' z=>ih _ _ _ _ z
         ·cases e
        | val v =>
         cases v with
         | sh d=>exact fin e fun as' ρ' z=>ih _ _ _ _ z
         | ow d=>exact fin e fun as' ρ' z=>ih _ _ _ _ z
         | od d=>cases e
     exact this hs pins ρ as ρ1 q
    ·have own_there:∀ c,Own as (xs.map some) c→H c≠none:=fun c z=>(L.ra.owned z).1
     have rc:Rel K ρ1 σ H' G':=L.rc.keep b.ext (fun c z w=>L.an c w z) b.rel.sub
     obtain ⟨r3,r4⟩:=giveBack_ok hs pins as' xs ρ1 ρ2 b.rel rc (fun c z w=>L.an c (b.own c z) w) h q3
     have own2:∀ c,Own ρ2 σ c→Own ρ σ c:=fun c z=>by
      rcases r4 c z with z | z
      ·exact L.ro c z
      ·exact z
     have hown:∀ c,Own as (xs.map some) c→Own ρ0 σ c∨H0 c=none:=fun c z=>by
      rcases L.ao c z with z | z
      ·exact .inl (a.own c z)
      ·exact .inr (h.tmp_own z).2.1
     have evo2:Evo ρ ρ2:=fun i=>by
      obtain ⟨g1,g2⟩:=giveBack_evo hs pins as' ρ1 ρ2 q3 i
      rcases lend_evo hs pins ρ as ρ1 q i with z | ⟨z,o⟩
      ·rcases g1 with g1 | ⟨d,d',p,l,w1,w2⟩
       ·rw [g1]; exact z
       ·rw [w1,w2]; exact ⟨rfl,rfl⟩
      ·have hl:i<ρ1.length:=by
        obtain ⟨d,p,l,o⟩:=o
        rw [L.rc.len,← a.rel.len]
        exact (List.getElem?_eq_some_iff.mp o).1
       obtain ⟨d,d',p,l,w1,w2⟩:=g2 z o hl
       rw [w1,w2]; exact ⟨rfl,rfl⟩
     refine ⟨⟨r3,⟨a.ext.gg.trans (L.gg.trans b.ext.gg),fun c o hc nc=>?_,fun c z=>a.ext.hx c (b.ext.hx c z),fun c hc gc nc=>?_⟩,a.evo.trans evo2⟩, ?_⟩
     ·refine b.ext.hh c o (a.ext.hh c o hc nc) fun z=>?_
      rcases hown c z with z | z
      ·exact nc z
      ·rw [hc] at z; cases z
     ·have hc':H c≠none:=fun z=>hc (a.ext.hx c z)
      have g1:G c=none:=a.ext.gn c hc gc nc
      have g2:G2 c=none:=by
       cases w:G2 c with
       | none=>rfl
       | some o =>
        rcases L.gn c (by rw [w]; simp) with z | z | z
        ·exact absurd g1 z
        ·exact absurd (a.own c z) nc
        ·exact absurd (h.tmp_own z).2.1 hc
      refine b.ext.gn c hc' g2 fun z=>?_
      rcases hown c z with z | z
      ·exact nc z
      ·exact hc z
     ·cases v with
      | sh d=>exact hv
      | ow d =>
       obtain ⟨c,rfl,g,o,n,m⟩:=hv
       exact ⟨c,rfl,g,o,fun z=>(a.rel.owned (own2 c z)).1 m,a.ext.hx c m⟩
      | od d =>
       obtain ⟨c,rfl,g,o,n,m,vs,hv,hr⟩:=hv
       exact ⟨c,rfl,g,o,fun z=>(a.rel.owned (own2 c z)).1 m,a.ext.hx c m,vs,hv,fun x hx=>let ⟨b,ws,h1,h2,h3,h4,h5,h6⟩:=hr x hx; ⟨b,ws,h1,h2,h3,fun z=>(a.rel.owned (own2 b z)).1 h5,a.ext.hx b h5,h6⟩⟩
end
inductive GV where
 | no | con (d:D) | fn (f:String) | blt | cls (ns:List Str) | mth (tb:List (Str × String)) | sub (s n:List Str) | subx (s n:List Str) | exc | exs (cs:List Str)
structure CC where
 N:List Str
 names:List (Str × NameKind)
 gl:Str→GV
 top:Bool
noncomputable def CC.isGl (Γ:CC) (x:Str):Bool:=Γ.names.lookup x == some .globalImplicit
noncomputable def CC.isVis (Γ:CC) (x:Str):Bool:=Γ.names.lookup x == some .local || Γ.names.lookup x == some .cell || Γ.names.lookup x == some .free
noncomputable def badName (x:Str):Bool:=x == ("__debug__":Str) || x == ("__classdict__":Str) || x == ("__name__":Str)
noncomputable def CC.slot (Γ:CC) (x:Str):Option Nat:=if badName x then none else if Γ.isVis x then Γ.N.idxOf? x else none
noncomputable def CC.glob (Γ:CC) (x:Str):GV:=if badName x then .no else if Γ.isGl x then Γ.gl x else .no
noncomputable def cName (Γ:CC) (x:Str):E :=
 match Γ.slot x with
 | some i=>.var i
 | none=>match Γ.glob x with
  | .con d=>.con d
  | _=>.bad
noncomputable def cConst:Const→E
 | .none=>.con .non
 | .bool b=>.con (.bl b)
 | .int i=>.con (.int i)
 | .str s=>if PyData.strOk s then .con (.str s) else .bad
 | _=>.bad
noncomputable def biOf (f:Str):Option BI :=
 if f=("len":Str) then some .len else if f=("abs":Str) then some .abs else if f=("int":Str) then some .int else if f=("list":Str) then some .list
 else if f=("tuple":Str) then some .tuple else if f=("min":Str) then some .min else if f=("max":Str) then some .max else if f=("all":Str) then some .all else if f=("repr":Str) then some .repr else if f=("str":Str) then some .str else none
noncomputable def tyOf (Γ:CC):Expr→Option Ty
 | .Name x _=>match Γ.glob x with
  | .blt=>if x=("int":Str) then some .int else if x=("bool":Str) then some .bool else if x=("str":Str) then some .str else if x=("list":Str) then some .list else if x=("tuple":Str) then some .tuple else if x=("ValueError":Str) then some .verr else none
  | _=>none
 | _=>none
theorem bno {p:Prop} (h:false=true):p:=nomatch h
theorem ono {α:Type} {a:α} {p:Prop} (h:none=some a):p:=nomatch h
noncomputable def nameOf:Expr→Option Str
 | .Name x _=>some x
 | _=>none
noncomputable def noOmit:E→E
 | .omt=>.bad
 | c=>c
noncomputable def notStar:Expr→Bool
 | .Starred _ _=>false
 | _=>true
noncomputable def col (x:Str):Str:=⟨#[58] ++ x.cps⟩
noncomputable def CC.globS (Γ:CC) (x:Str):GV:=if badName x then .no else if Γ.isGl x then Γ.gl (col x) else .no
noncomputable def subXs (Γ:CC):List Expr→Option (List (List Str × List Str))
 | []=>some []
 | .Name x _ :: es=>(match Γ.globS x with
  | .subx s n=>(subXs Γ es).map ((s,n) :: ·)
  | _=>none)
 | _=>none
noncomputable def cat (x:Str):Str:=⟨#[94] ++ x.cps⟩
noncomputable def subC (Γ:CC) (t:Expr) (a:E):E:=match t with
 | .Name x _=>(match Γ.globS x with
  | .sub s n=>.bad
  | .subx s n=>.bad
  | _=>.bad)
 | .Tuple es _ _=>(match subXs Γ es with
  | some sn=>if es.length≤100 then .bad else .bad
  | none=>.bad)
 | _=>.bad
noncomputable def isiC (Γ:CC) (args:List Expr) (cs:List E):E :=
 match args,cs with
 | [_,t],[a,_]=>(match tyOf Γ t with | some ty=>.isi a [ty] | none=>subC Γ t a)
 | _,_=>.bad
noncomputable def dictC (ks:List (Option Expr)) (vs:List Expr) (cs:List E):E:=.bad
noncomputable def dot (m:Str):Str:=⟨#[46] ++ m.cps⟩
noncomputable def strC:Expr→Option Str
 | .Constant (.str s) _ _=>if PyData.strOk s then some s else none
 | _=>none
noncomputable def txtC (Γ:CC) (x m:Str) (apos cpos:Pos) (a:Expr):E :=
 match strC a,Γ.slot x with
 | some s,some i=>if (apos.endLine == cpos.line) && (m == ("split":Str)) then .spl i s else if (apos.endLine == cpos.line) && (m == ("startswith":Str)) then .stw i s else .bad
 | _,_=>.bad
noncomputable def attC (Γ:CC) (x m:Str) (apos cpos:Pos) (args:List Expr) (cs:List E):E :=
 match Γ.gl (dot m) with
 | .mth tb=>if args.all notStar && (apos.endLine == cpos.line) && decide (args.length<29) then (match Γ.slot x with | some i=>.bad | none=>.bad) else .bad
 | _=>match args,cs with
  | [a],[c]=>if notStar a && (apos.endLine == cpos.line) && (m == ("append":Str)) then (match Γ.slot x with | some i=>.app i c | none=>.bad) else if notStar a && (apos.endLine == cpos.line) && (m == ("extend":Str)) then (match Γ.slot x with | some i=>.ext i c | none=>.bad) else txtC Γ x m apos cpos a
  | [],[]=>if (apos.endLine == cpos.line) && (m == ("bit_length":Str)) then .bitl (cName Γ x) else .bad
  | [a,b],[c,c']=>if notStar a && notStar b && (apos.endLine == cpos.line) && (m == ("insert":Str)) then (match Γ.slot x with | some i=>.bad | none=>.bad) else .bad
  | _,_=>.bad
noncomputable def methC (Γ:CC) (m:Str) (apos cpos:Pos) (args:List Expr) (a:E) (cs:List E):E :=
 match Γ.gl (dot m) with
 | .mth tb=>if args.all notStar && (apos.endLine == cpos.line) && decide (args.length<29) then .bad else .bad
 | _=>.bad
noncomputable def lenC (args:List Expr) (cs:List E):E:=.bif .len cs
noncomputable def setC (cs:List E):E:=.bad
noncomputable def listC (args:List Expr) (cs:List E):E:=.bif .list cs
noncomputable def bltC (f:Str) (args:List Expr) (cs:List E):E :=
 if f=("len":Str) then lenC args cs else if f=("set":Str) then setC cs else if f=("range":Str) then .bad else if f=("list":Str) then listC args cs else (match biOf f with | some b=>.bif b cs | none=>.bad)
noncomputable def isLC:Expr→Bool
 | .ListComp _ _ _ _=>true
 | _=>false
noncomputable def notComp:Expr→Bool
 | .ListComp _ _ _ _=>false
 | .SetComp _ _ _ _=>false
 | .DictComp _ _ _ _ _=>false
 | _=>true
noncomputable def notSlice:Expr→Bool
 | .Slice _ _ _ _=>false
 | _=>true
noncomputable def notSet:Expr→Bool
 | .Set _ _ _=>false
 | _=>true
noncomputable def notTup:Expr→Bool
 | .Tuple _ _ _=>false
 | _=>true
noncomputable def CC.isLoc (Γ:CC) (x:Str):Bool:=Γ.names.lookup x == some .local || (Γ.top && Γ.names.lookup x == some .cell)
noncomputable def CC.slotL (Γ:CC) (x:Str):Option Nat:=if Γ.isLoc x then Γ.slot x else none
noncomputable def tgName (Γ:CC):Expr→Option Nat
 | .Name x _=>Γ.slotL x
 | _=>none
noncomputable def tgNames (Γ:CC):List Expr→Option (List Nat)
 | []=>some []
 | e :: es=>(tgName Γ e).bind fun i=>(tgNames Γ es).map (i :: ·)
noncomputable def tgOf (Γ:CC):Expr→Option (Bool × List Nat)
 | .Name x _=>(Γ.slotL x).map fun i=>(true,[i])
 | .Tuple es _ _=>(tgNames Γ es).map fun is=>(false,is)
 | _=>none
noncomputable def itOf (Γ:CC):Expr→Option (ItK × List Expr)
 | .Call (.Name f p) args [] pos=>if (f == ("range":Str)) then
   (match Γ.glob f with
   | .blt=>if args.all notStar && (args.length == 1 || args.length == 2) then some (.rng,args) else none
   | _=>none)
  else if (f == ("enumerate":Str)) then
   (match Γ.glob f with
   | .blt=>if args.all notStar && (args.length == 1) then some (.enum 0,args) else none
   | _=>none)
  else some (.of,[.Call (.Name f p) args [] pos])
 | .Call (.Name f p) [a] [⟨some x,.Constant (.int c) j q,kp⟩] pos=>if f == ("enumerate":Str) && x == ("start":Str) && notStar a && c == 1 then
   (match Γ.glob f with
   | .blt=>some (.enum 1,[a])
   | _=>none)
  else none
 | e=>if notSet e then some (.of,[e]) else none
noncomputable def isRev:Expr→Bool
 | .Slice none none (some (.UnaryOp .USub (.Constant (.int i) _ _) _)) _=>i == 1
 | _=>false
noncomputable def frees (scope:Scope):List Str:=(scope.names.filter fun p=>p.2 == NameKind.free).map (·.1)
noncomputable def locs (scope:Scope):List Str:=(scope.names.filter fun p=>p.2 == NameKind.local).map (·.1)
noncomputable def CC.inner (Γ:CC) (scope:Scope):CC :=
 ⟨frees scope ++ locs scope,scope.names.map fun (n,k)=>if (k == NameKind.free && Γ.names.lookup n == some .cell) then (n,NameKind.cell) else (n,k),Γ.gl,false⟩
noncomputable def CC.imps (Γ:CC):List Str→Option (List Nat)
 | []=>some []
 | x :: xs=>(Γ.N.idxOf? x).bind fun i=>(Γ.imps xs).map (i :: ·)
noncomputable def CC.scOk (Γ:CC) (scope:Scope):Bool:=(scope.kind == ScopeKind.function) && (scope.names.all fun p=>p.2 != NameKind.cell) && (scope.names.all fun p=>p.2 != NameKind.local || scope.names.lookup p.1 == some NameKind.local) &&
 (scope.names.all fun p=>p.2 != NameKind.free || (scope.names.lookup p.1 == some NameKind.free && (Γ.names.lookup p.1 == some NameKind.cell || Γ.names.lookup p.1 == some NameKind.free))) && decide (frees scope ++ locs scope).Nodup
noncomputable def itsC (k:ItK) (ci:E) (cargs:List E):List E:=match k with
 | .of=>[ci]
 | _=>cargs
noncomputable def tgFit (k:ItK) (one:Bool):Bool:=match k with
 | .enum _=>!one
 | _=>true
noncomputable def sigE:Expr→Bool
 | .Name x _=>x == ("figures":Str)
 | _=>false
noncomputable def compC (Γ:CC) (scope:Scope) (tg iter:Expr) (ci:E) (cargs cond:List E) (ce:E):E :=
 if Γ.scOk scope then
  match Γ.imps (frees scope),tgOf (Γ.inner scope) tg,itOf Γ iter with
  | some imp,some (one,is),some (k,_)=>if sigE iter then (if one == (is.length == 1) then .comp ce is .sig [ci] cond imp (locs scope).length else .bad) else if one == (is.length == 1) && tgFit k one && k != .enum 1 then .comp ce is k (itsC k ci cargs) cond imp (locs scope).length else .bad
  | _,_,_=>.bad
 else .bad
noncomputable def joiC (s m:Str) (apos cpos:Pos) (a:Expr) (c:E):E:=if notStar a && (apos.endLine == cpos.line) && (m == ("join":Str)) && PyData.strOk s then .joi s c else .bad
mutual
noncomputable def cE (Γ:CC):Expr→E
 | .Name x _=>cName Γ x
 | .Constant c _ _=>cConst c
 | .Tuple es _ _=>if es.all notStar then .tup (cEs Γ es) else .bad
 | .List es _=>if es.all notStar then .lst (cEs Γ es) else .bad
 | .Dict ks vs _=>dictC ks vs (cOs Γ ks)
 | .BinOp a op b _=>.bin op (cE Γ a) (cE Γ b)
 | .UnaryOp .Not a _=>.not (cE Γ a)
 | .UnaryOp .USub a _=>.neg (cE Γ a)
 | .Compare a [op] [b] _=>if behindInMarks op b then .bad else .cmp op (cE Γ a) (cE Γ b)
 | .Compare a [op,op'] [b,c] _=>if behindInMarks op' c then .bad else .cmp2 op op' (cE Γ a) (cE Γ b) (cE Γ c)
 | .BoolOp .And (a :: b :: r) _=>.and (cE Γ a) (cAnd Γ (b :: r))
 | .BoolOp .Or (a :: b :: r) _=>.or (cE Γ a) (cOr Γ (b :: r))
 | .IfExp c a b _=>.ite (cE Γ c) (cE Γ a) (cE Γ b)
 | .Subscript a (.Slice lo hi none _) _=>.sl (cE Γ a) (cO Γ lo) (cO Γ hi)
 | .Subscript a i _=>if isRev i then .bad else .ix (cE Γ a) (cE Γ i)
 | .Call (.Name f _) args [] _=>if args.all notStar && decide (args≠[]) then
   match Γ.glob f with
   | .fn g=>.call g (cEs Γ args)
   | .cls ns=>.bad
   | .blt=>if f=("isinstance":Str) then isiC Γ args (cEs Γ args)
     else bltC f args (cEs Γ args)
   | _=>.bad
  else .bad
 | .Call (.Attribute (.Name x _) m apos) args [] cpos=>attC Γ x m apos cpos args (cEs Γ args)
 | .Call (.Attribute (.Constant (.str s) k p) m apos) [a] [] cpos=>joiC s m apos cpos a (cE Γ a)
 | .Call (.Attribute (.Call g (a0 :: as0) kw p) m apos) args [] cpos=>methC Γ m apos cpos args (cE Γ (.Call g (a0 :: as0) kw p)) (cEs Γ args)
 | .Attribute (.Name x _) f _=>.bad
 | .ListComp elt [⟨tg,iter,[],0⟩] scope _=>compC Γ scope tg iter (cE Γ iter) (cArgs Γ iter) [] (cE (Γ.inner scope) elt)
 | .ListComp elt [⟨tg,iter,[c],0⟩] scope _=>compC Γ scope tg iter (cE Γ iter) (cArgs Γ iter) [cE (Γ.inner scope) c] (cE (Γ.inner scope) elt)
 | _=>.bad
noncomputable def cArgs (Γ:CC):Expr→List E
 | .Call _ args _ _=>cEs Γ args
 | _=>[]
noncomputable def cEs (Γ:CC):List Expr→List E
 | []=>[]
 | e :: es=>cE Γ e :: cEs Γ es
noncomputable def cOs (Γ:CC):List (Option Expr)→List E
 | []=>[]
 | o :: os=>cO Γ o :: cOs Γ os
noncomputable def cAnd (Γ:CC):List Expr→E
 | []=>.bad
 | [a]=>cE Γ a
 | a :: b :: r=>.and (cE Γ a) (cAnd Γ (b :: r))
noncomputable def cOr (Γ:CC):List Expr→E
 | []=>.bad
 | [a]=>cE Γ a
 | a :: b :: r=>.or (cE Γ a) (cOr Γ (b :: r))
noncomputable def cO (Γ:CC):Option Expr→E
 | none=>.omt
 | some e=>noOmit (cE Γ e)
end
noncomputable def spC (K:PySem.W.Frag) (n:Nat) (run:List Sl→Res RV):Sp:=fun vs H Q _=>vs.length=n∧∃ (as:List Sl) (G:Hp) (v:RV) (as':List Sl),Rel K as (vs.map some) H G∧as.length=n∧run as=some (.ok v,as') ∧
 ∀ x H' G',Aft K as (vs.map some) H G as' H' G'→VRep K H' G' (Own as' (vs.map some)) (Fresh H) v x→Q x H'
structure FnAt (X:Cx) (K:PySem.W.Frag) (x:Str) (n:Nat) (run:List Sl→Res RV):Prop where
 ex:∃ (fa:Addr) (fd:FuncData) (ps:List Str) (k:Nat),FnOk X.prog X.w X.K X.mg X.base CX0 k fa fd ps (spC K n run)∧Room k X.A∧X.mg x=some (.ref fa)∧PySem.W.keepIn X.K (.ref fa)=true∧Binds X.K fd ps []
noncomputable def spInit (K:PySem.W.Frag) (ns:List Str):Sp:=fun vs H Q _=>∃ a C dx xs,vs=.ref a :: xs∧xs.length=ns.length∧H a=some (.ins C dx [])∧ClsF K C ns∧Q .non (upd H a (.ins C dx (ns.zip xs)))
structure MkAt (X:Cx) (K:PySem.W.Frag) (x:Str) (ns:List Str):Prop where
 ex:∃ (Ca fa:Addr) (fd:FuncData) (ps:List Str),PySem.W.nsIn K mainGlobals x=some (some (.ref Ca))∧X.mg x=some (.ref Ca)∧Mk X.K Ca fa∧ClsF K Ca ns∧FnOk X.prog X.w X.K X.mg X.base CX0 1 fa fd ps (spInit K ns)∧Binds X.K fd ps []
structure MethAt (X:Cx) (K:PySem.W.Frag) (c m:Str) (n:Nat) (run:List Sl→Res RV):Prop where
 ex:∃ (Ca fa:Addr) (fd:FuncData) (ps:List Str) (k:Nat),PySem.W.nsIn K mainGlobals c=some (some (.ref Ca))∧Meth X.K Ca m fa∧FnOk X.prog X.w X.K X.mg X.base CX0 k fa fd ps (spC K n run)∧Room k X.A∧Binds X.K fd ps []∧Cls K Ca
structure NotC (K:PySem.W.Frag) (D C:Addr):Prop where
 a:PySem.W.kin_not K D C=true
 b:PySem.W.plainGet K D "__class__"=true
 c:PySem.W.hasDictIn K D=true
 d:PySem.W.findIn K (.ref D) "__class__"=some (some (.builtin "object.__class__"))
 e:PySem.W.specialIn K (.builtin "object.__class__") "__get__"=some (some (.builtin "getset_descriptor.__get__"))
 f:PySem.W.takesIn K (.builtin "object.__class__")=some true
 g:PySem.W.mroIn K D (.type "object")=some true
structure SubAt (K:PySem.W.Frag) (mg:Str→Option Value) (x:Str) (s n:List Str):Prop where
 ex:∃ C,mg x=some (.ref C)∧(∀ c∈s,∀ Ca,PySem.W.nsIn K mainGlobals c=some (some (.ref Ca))→PySem.W.isIn K (.ref Ca) C=true)∧∀ c∈n,∀ Ca,PySem.W.nsIn K mainGlobals c=some (some (.ref Ca))→NotC K Ca C
structure FnAtX (X:Cx) (K:PySem.W.Frag) (x:Str) (n:Nat) (run:List Sl→Res RV):Prop where
 ex:True
structure ExcAt (K:PySem.W.Frag) (mg:Str→Option Value) (x:Str):Prop where
 ex:∃ C,PySem.W.nsIn K mainGlobals x=some (some (.ref C))∧mg x=some (.ref C)∧ExcG K C
structure ExsAt (K:PySem.W.Frag) (mg:Str→Option Value) (x:Str) (cs:List Str):Prop where
 ex:∃ D,mg x=some (.ref D)∧PySem.W.excIn K D bmV "ValueError.__new__"=true∧∀ c∈cs,∀ C,PySem.W.nsIn K mainGlobals c=some (some (.ref C))→PySem.W.mroIn K C (.ref D)=some true
structure SubX (K:PySem.W.Frag) (mg:Str→Option Value) (x:Str) (s n:List Str):Prop where
 ex:∃ D,mg x=some (.ref D)∧(∀ c∈s,∀ C,PySem.W.nsIn K mainGlobals c=some (some (.ref C))→PySem.W.isIn K (.ref C) D=true)∧∀ c∈n,∀ C,PySem.W.nsIn K mainGlobals c=some (some (.ref C))→PySem.W.kin_not K C D=true
structure XOkB (q:Bool) (X:Cx) (K:PySem.W.Frag) (P:Pins) (C:Calls) (Γ:CC):Prop where
 keq:X.K=K
 neq:X.N=Γ.N
 nm:X.env.scope.names=Γ.names
 nd:Γ.N.Nodup
 con:∀ x d,Γ.gl x=.con d→∃ u v,X.mg x=some u∧RelV v u∧∀ G,Rep K G d v
 blt:∀ x,Γ.gl x=.blt→X.mg x=none
 sub:∀ x s n,Γ.gl (col x)=.sub s n→SubAt K X.mg x s n
 subx:∀ x s n,Γ.gl (col x)=.subx s n→SubX K X.mg x s n
 cond:q=true→X.calm=true∧X.A.handled=none∧X.A.units+64<cLine∧(∀ x f,Γ.gl x=.fn f→FnAt X K x (P f).length (C f))∧(∀ x ns,Γ.gl x=.cls ns→MkAt X K x ns) ∧
  (∀ m tb c f,Γ.gl (dot m)=.mth tb→tb.lookup c=some f→MethAt X K c m (P f).length (C f))∧Room 2 X.A∧(∀ x,Γ.gl x=.exc→ExcAt K X.mg x)∧(∀ x cs,Γ.gl (cat x)=.exs cs→ExsAt K X.mg x cs)∧(∀ x f,Γ.gl x=.fn f→FnAtX X K x (P f).length (C f))∧∃ env0 outer0 L,X.stack=env0 :: outer0∧env0.frame=some L∧X.env.frame=some L
abbrev XOk (X:Cx) (K:PySem.W.Frag) (P:Pins) (C:Calls) (Γ:CC):Prop:=XOkB true X K P C Γ
section
variable {X:Cx} {K:PySem.W.Frag} {P:Pins} {C:Calls} {Γ:CC}
theorem XOkB.calm (o:XOkB true X K P C Γ):X.calm=true:=(o.cond rfl).1
theorem XOkB.hh (o:XOkB true X K P C Γ):X.A.handled=none:=(o.cond rfl).2.1
theorem XOkB.hu (o:XOkB true X K P C Γ):X.A.units+64<cLine:=(o.cond rfl).2.2.1
theorem XOkB.fn (o:XOkB true X K P C Γ):∀ x f,Γ.gl x=.fn f→FnAt X K x (P f).length (C f):=(o.cond rfl).2.2.2.1
theorem XOkB.cls (o:XOkB true X K P C Γ):∀ x ns,Γ.gl x=.cls ns→MkAt X K x ns:=(o.cond rfl).2.2.2.2.1
theorem XOkB.mth (o:XOkB true X K P C Γ):∀ m tb c f,Γ.gl (dot m)=.mth tb→tb.lookup c=some f→MethAt X K c m (P f).length (C f):=(o.cond rfl).2.2.2.2.2.1
theorem XOkB.rm (o:XOkB true X K P C Γ):Room 2 X.A:=(o.cond rfl).2.2.2.2.2.2.1
theorem XOkB.exc (o:XOkB true X K P C Γ):∀ x,Γ.gl x=.exc→ExcAt K X.mg x:=(o.cond rfl).2.2.2.2.2.2.2.1
theorem XOkB.exs (o:XOkB true X K P C Γ):∀ x cs,Γ.gl (cat x)=.exs cs→ExsAt K X.mg x cs:=(o.cond rfl).2.2.2.2.2.2.2.2.1
theorem XOkB.fnX (o:XOkB true X K P C Γ):∀ x f,Γ.gl x=.fn f→FnAtX X K x (P f).length (C f):=(o.cond rfl).2.2.2.2.2.2.2.2.2.1
theorem XOkB.tp (o:XOkB true X K P C Γ):∃ env0 outer0 L,X.stack=env0 :: outer0∧env0.frame=some L∧X.env.frame=some L:=(o.cond rfl).2.2.2.2.2.2.2.2.2.2
theorem XOk.of (keq:X.K=K) (neq:X.N=Γ.N) (nm:X.env.scope.names=Γ.names) (nd:Γ.N.Nodup) (calm:X.calm=true) (hh:X.A.handled=none) (hu:X.A.units+64<cLine)
  (con:∀ x d,Γ.gl x=.con d→∃ u v,X.mg x=some u∧RelV v u∧∀ G,Rep K G d v) (blt:∀ x,Γ.gl x=.blt→X.mg x=none) (fn:∀ x f,Γ.gl x=.fn f→FnAt X K x (P f).length (C f)) (cls:∀ x ns,Γ.gl x=.cls ns→MkAt X K x ns)
  (mth:∀ m tb c f,Γ.gl (dot m)=.mth tb→tb.lookup c=some f→MethAt X K c m (P f).length (C f)) (rm:Room 2 X.A) (sub:∀ x s n,Γ.gl (col x)=.sub s n→SubAt K X.mg x s n) (subx:∀ x s n,Γ.gl (col x)=.subx s n→SubX K X.mg x s n)
  (exc:∀ x,Γ.gl x=.exc→ExcAt K X.mg x) (exs:∀ x cs,Γ.gl (cat x)=.exs cs→ExsAt K X.mg x cs) (fnX:∀ x f,Γ.gl x=.fn f→FnAtX X K x (P f).length (C f)) (tp:∃ env0 outer0 L,X.stack=env0 :: outer0∧env0.frame=some L∧X.env.frame=some L):XOk X K P C Γ :=
 ⟨keq,neq,nm,nd,con,blt,sub,subx,fun _=>⟨calm,hh,hu,fn,cls,mth,rm,exc,exs,fnX,tp⟩⟩
end
structure Ok3 (X:Cx) (K:PySem.W.Frag) (P:Pins) (C:Calls) (e:Expr) (c:E):Prop where
 v:PE X e (tE K P C c)
 t:PT X e (tT K P C c)
 h:PE X e (tH K P C c)
section
variable {X:Cx} {K:PySem.W.Frag} {P:Pins} {C:Calls} {Γ:CC}
theorem bad_v {e:Expr} {c:E} (h:∀ t ρ,ev P C t c ρ=none) (n:∀ i,c≠.var i):Ok3 X K P C e c:=by
 have v:PE X e (tE K P C c):=fun pins s σ H Q I ⟨ρ,G,w,ρ',r,z,k⟩=>by rw [h] at z; cases z
 exact ⟨v,(fun pins s σ H Q I ⟨ρ,G,w,ρ',r,z,k⟩=>by rw [h] at z; cases z),tE_tH v n⟩
theorem ok_bad {e:Expr}:Ok3 X K P C e .bad:=bad_v (fun t ρ=>by rw [ev]) fun i z=>nomatch z
theorem mk3 {e:Expr} {c:E} {q:Bool} (xo:XOkB q X K P C Γ) (h:PE X e (tE K P C c)) (n:∀ i,c≠.var i) (hw:∀ ρ,ev P C true c ρ=wrap true (ev P C false c ρ))
  (he:∀ whole,isTrue e X.env whole=(do let v ← whole; standAt e.pos; holding [v] (truthy v))):Ok3 X K P C e c:=⟨h,pt_of xo.keq h hw he,tE_tH h n⟩
theorem idxOf_get {α:Type} [BEq α] [LawfulBEq α] {l:List α} {x:α} {i:Nat} (h:l.idxOf? x=some i):l[i]?=some x:=by
 rw [List.idxOf?,List.findIdx?_eq_some_iff_getElem] at h
 obtain ⟨h1,h2,_⟩:=h
 rw [List.getElem?_eq_getElem h1]
 exact congrArg some (eq_of_beq h2)
theorem CC.slot_ok {q:Bool} (xo:XOkB q X K P C Γ) {x:Str} {i:Nat} (h:Γ.slot x=some i) {pos:Pos}:PE X (.Name x pos) (tVar i):=by
 unfold CC.slot at h
 split at h
 ·cases h
 ·rename_i hb
  split at h
  ·rename_i hv
   simp only [badName,Bool.or_eq_true,not_or,Bool.not_eq_true] at hb
   refine pe_var (by rw [xo.neq]; exact idxOf_get h) ?_ hb.1.1 hb.1.2
   unfold CC.isVis at hv
   simp only [Bool.or_eq_true,beq_iff_eq] at hv
   unfold Vis
   rw [xo.nm]
   rcases hv with (h | h) | h
   ·exact .inl h
   ·exact .inr (.inl h)
   ·exact .inr (.inr h)
  ·cases h
theorem CC.glob_ok {q:Bool} (xo:XOkB q X K P C Γ) {x:Str} {g:GV} (h:Γ.glob x=g) (hg:g≠.no):Gl X x∧Γ.gl x=g∧(x == ("__debug__":Str))=false∧x≠"__name__":=by
 unfold CC.glob at h
 split at h
 ·exact absurd h.symm hg
 ·rename_i hb
  split at h
  ·rename_i hv
   simp only [badName,Bool.or_eq_true,not_or,Bool.not_eq_true] at hb
   refine ⟨?_,h,hb.1.1,fun z=>?_⟩
   ·unfold Gl Env.kindOf
    rw [xo.nm]
    unfold CC.isGl at hv
    simpa using hv
   ·have:=hb.2
    rw [z] at this
    simp at this
  ·exact absurd h.symm hg
theorem ok_con {e:Expr} {d:D} {v:V} {q:Bool} (xo:XOkB q X K P C Γ) (h:PE X e (tC v)) (r:∀ G,Rep K G d v) (he:∀ whole,isTrue e X.env whole=(do let v ← whole; standAt e.pos; holding [v] (truthy v))):Ok3 X K P C e (.con d):=by
 refine mk3 xo (TE.imp_pe h fun σ H Q q=>?_) (fun i z=>nomatch z) (fun ρ=>by simp only [ev,wrap_false]) he
 obtain ⟨ρ,G,w,ρ',r',z,k⟩:=q
 simp only [ev,wrap_false] at z
 cases z
 exact k v H G (Aft.refl r') (r G)
theorem ok_name {q:Bool} (xo:XOkB q X K P C Γ) (x:Str) (pos:Pos):Ok3 X K P C (.Name x pos) (cName Γ x):=by
 unfold cName
 split
 ·rename_i i hi
  have hp:=CC.slot_ok xo hi (pos:=pos)
  refine ⟨pe_varE hp, ?_,pe_varH hp⟩
  -- a test of a local: looked at
  refine TT.imp_pt (pt_truth hp fun _=>rfl) fun σ H Q q=>?_
  obtain ⟨ρ,G,b,ρ',r,e1,k⟩:=q
  simp only [ev] at e1
  obtain ⟨u,b',e2,e3,e4⟩:=wrap_ok e1
  cases e4
  cases w:(ρ[i]?).bind Sl.get with
  | none=>rw [w] at e2; cases e2
  | some d =>
   rw [w] at e2
   simp only [Option.map_some,Option.some.injEq,Prod.mk.injEq,Out.ok.injEq] at e2
   obtain ⟨rfl,rfl⟩:=e2
   obtain ⟨x,hx⟩:=r.bound (i:=i) (by rw [w]; rfl)
   exact ⟨x,hx,b,by rw [xo.keq]; exact truth_ok r.sub (r.get w hx) e3,k H G (Aft.refl r)⟩
 ·split
  ·rename_i d hd
   obtain ⟨h1,h2,h3,h4⟩:=CC.glob_ok xo hd (fun z=>nomatch z)
   obtain ⟨u,v,hm,hr,hrep⟩:=xo.con x d h2
   exact ok_con xo (pe_glob h1 hm hr h3) hrep fun _=>rfl
  ·exact ok_bad
theorem ok_const {q:Bool} (xo:XOkB q X K P C Γ) (c:Const) (k:Nat) (pos:Pos):Ok3 X K P C (.Constant c k pos) (cConst c):=by
 cases c with
 | none=>exact ok_con xo pe_non (fun G=>by simp [Rep]) fun _=>rfl
 | bool b=>exact ok_con xo pe_bl (fun G=>by simp [Rep]) fun _=>rfl
 | int i=>exact ok_con xo pe_int (fun G=>by simp [Rep]) fun _=>rfl
 | str s =>
  simp only [cConst]
  split
  ·rename_i h
   exact ok_con xo pe_str (fun G=>by simp only [Rep]; exact ⟨trivial,h⟩) fun _=>rfl
  ·exact ok_bad
 | _=>exact ok_bad
theorem star_ok {e:Expr} (h:notStar e=true) (es:List Expr) (env:PySem.Env):starEach (e :: es) env=(false,eval e env) :: starEach es env:=by
 cases e <;> first | rfl | cases h
theorem pa_nilD:PA X [] (tDs K P C []):=by
 refine TA.imp_pa pa_nil fun σ H Q q=>?_
 obtain ⟨ρ,G,ds,ρ',r,e,k⟩:=q
 simp only [evs,Option.some.injEq,Prod.mk.injEq,Out.ok.injEq] at e
 obtain ⟨rfl,rfl⟩:=e
 exact k [] H G (Aft.refl r) Reps.nil
theorem pa_consD {e:Expr} {es:List Expr} {c:E} {cs:List E} (h:Ok3 X K P C e c) (t:PA X es (tDs K P C cs)) (ns:notStar e=true):PA X (e :: es) (tDs K P C (c :: cs)):=by
 refine TA.imp_pa (pa_cons h.v t (star_ok ns _ _)) fun σ H Q q=>?_
 obtain ⟨ρ,G,ds,ρ',r,e,k⟩:=q
 rw [evs] at e
 obtain ⟨v,ρ1,e1,e2⟩:=bind_ok e
 obtain ⟨ds',ρ2,e3,e4⟩:=bind_ok e2
 cases e4
 refine ⟨ρ,G,v,ρ1,r,e1,fun x H1 G1 a1 hx=>?_⟩
 obtain ⟨G1',a1',rx⟩:=a1.share hx
 refine ⟨ρ1,G1',ds',_,a1'.rel,e3,fun xs H2 G2 a2 hxs=>?_⟩
 exact k (x :: xs) H2 G2 (a1'.trans a2) (Reps.cons (Rep.mono a2.ext.gg _ rx) hxs)
theorem pa_nilH:PA X [] (tHs K P C []):=by
 refine TA.imp_pa pa_nil fun σ H Q q=>?_
 obtain ⟨ρ,G,ds,ρ',r,e,k⟩:=q
 simp only [evHs,Option.some.injEq,Prod.mk.injEq,Out.ok.injEq] at e
 obtain ⟨rfl,rfl⟩:=e
 exact k [] H G (Aft.refl r) rfl
theorem HReps.new_mono {H G:Hp} {own new new':Addr→Prop} {σ:St} (w:∀ a,new a→new' a):∀ {hs:List Hd} {xs:List V},HReps K H G own new σ hs xs→HReps K H G own new' σ hs xs
 | [],_,h=>h
 | h :: hs,_,r=>by
  obtain ⟨x,r',rfl,h1,h2,h3⟩:=r
  exact ⟨x,r',rfl,h1.new_mono w,HReps.new_mono w h2,h3⟩
theorem pa_consH {e:Expr} {es:List Expr} {c:E} {cs:List E} (h:Ok3 X K P C e c) (t:PA X es (tHs K P C cs)) (ns:notStar e=true):PA X (e :: es) (tHs K P C (c :: cs)):=by
 refine TA.imp_pa (pa_cons h.h t (star_ok ns _ _)) fun σ H Q q=>?_
 obtain ⟨ρ,G,ds,ρ',r,e,k⟩:=q
 rw [evHs] at e
 obtain ⟨v,ρ1,e1,e2⟩:=bind_ok e
 obtain ⟨ds',ρ2,e3,e4⟩:=bind_ok e2
 cases e4
 refine ⟨ρ,G,v,ρ1,r,e1,fun x H1 G1 a1 hx=>⟨ρ1,G1,ds',_,a1.rel,e3,fun xs H2 G2 a2 hxs=>?_⟩⟩
 refine k (x :: xs) H2 G2 (a1.trans a2) ⟨x,xs,rfl,hx.wait a2.ext fun a z=>.inl (a2.own a z),hxs.new_mono fun a z=>a1.ext.hx a z,fun d a hd ha ht=>?_⟩
 subst hd
 obtain ⟨b,e5,g,o,n,m⟩:=hx
 rw [ha] at e5; cases e5
 obtain ⟨vs,hv⟩:=o.there
 have:=(hxs.tmp_own ht).2.1
 rw [show H1 a=none from this] at hv
 cases hv
theorem HReps.getAll {H G:Hp} {own new:Addr→Prop} {σ:St} {ρ:Env} (r:Rel K ρ σ H G):∀ {hs:List Hd} {xs:List V} {ds:List D},HReps K H G own new σ hs xs→getAll hs ρ=some ds→RepRs K H G ds xs
 | [],_,_,h,e=>by cases (show _=[] from h); cases e; rfl
 | h :: hs,_,ds,hh,e=>by
  obtain ⟨x,r',rfl,h1,h2,h3⟩:=hh
  simp only [CI.getAll] at e
  cases q:h.get ρ with
  | none=>rw [q] at e; cases e
  | some d =>
   rw [q] at e
   cases q2:CI.getAll hs ρ with
   | none=>rw [q2] at e; cases e
   | some ds' =>
    rw [q2] at e
    cases e
    exact ⟨x,r',rfl,h1.read r q,HReps.getAll r h2 q2⟩
theorem ok_bin (xo:XOk X K P C Γ) {a b:Expr} {ca cb:E} {op:Operator} {pos:Pos} (ha:Ok3 X K P C a ca) (hb:Ok3 X K P C b cb):Ok3 X K P C (.BinOp a op b pos) (.bin op ca cb):=by
 refine mk3 xo (TE.imp_pe (pe_op (bin_ok xo.keq op) ha.h hb.h) fun σ H Q q=>?_) (fun i z=>nomatch z) (fun ρ=>by simp only [ev,wrap_false]) fun _=>rfl
 obtain ⟨ρ,G,v,ρ',r,e,k⟩:=q
 simp only [ev,wrap_false] at e
 obtain ⟨hx,ρ1,e1,e⟩:=bind_ok e
 obtain ⟨hy,ρ2,e2,e⟩:=bind_ok e
 obtain ⟨e3,rfl⟩:=done_ok e
 refine ⟨ρ,G,hx,ρ1,r,e1,fun x H1 G1 a1 rx=>⟨ρ1,G1,hy,ρ',a1.rel,e2,fun y H2 G2 a2 ry=>?_⟩⟩
 cases q1:hx.get ρ' with
 | none=>rw [q1] at e3; cases e3
 | some d =>
  cases q2:hy.get ρ' with
  | none=>rw [q1,q2] at e3; cases e3
  | some d2 =>
   rw [q1,q2] at e3
   simp only [Option.bind_some] at e3
   split at e3
   ·rename_i hm
    have rx':=rx.wait a2.ext fun a z=>.inl (a2.own a z)
    refine ⟨G2,d,d2,v,a2.rel.sub,rx'.read a2.rel q1,ry.read a2.rel q2,fun ho ds hd=>?_,e3,fun z H3 hm3=>?_⟩
    ·subst ho; subst hd
     cases hx with
     | slot i=>simp [mulOk] at hm
     | val w =>
      cases w with
      | sh _=>simp [mulOk] at hm
      | od _=>simp [mulOk] at hm
      | ow w =>
       simp only [Hd.get,RV.d,Option.some.injEq] at q1
       subst q1
       obtain ⟨c,e5,g,⟨vs,o1,o2⟩,n,m⟩:=rx'
       exact ⟨c,vs,e5,o1,o2⟩
    ·obtain ⟨G3,a3,v3⟩:=(a1.trans a2).made hm3
     exact k z H3 G3 a3 v3
   ·cases e3
theorem ok_neg (xo:XOk X K P C Γ) {a:Expr} {ca:E} {pos:Pos} (ha:Ok3 X K P C a ca):Ok3 X K P C (.UnaryOp .USub a pos) (.neg ca):=by
 refine mk3 xo (TE.imp_pe (pe_un un_neg ha.v) fun σ H Q q=>?_) (fun i z=>nomatch z) (fun ρ=>by simp only [ev,wrap_false]) fun _=>rfl
 obtain ⟨ρ,G,v,ρ',r,e,k⟩:=q
 simp only [ev,wrap_false] at e
 obtain ⟨w,ρ1,e1,e⟩:=bind_ok e
 split at e
 ·rename_i i hi
  cases e
  refine ⟨ρ,G,w,_,r,e1,fun x H1 G1 a1 rx=>?_⟩
  have:=rx.readR
  rw [hi] at this
  cases this.int
  exact ⟨i,rfl,k _ H1 G1 a1 (by show Rep K G1 (.int (-i)) _; simp [Rep])⟩
 ·cases e
theorem pe_notT {a:Expr} {ta:TE} {pos:Pos} (ha:PE X a ta):PE X (.UnaryOp .Not a pos) (fun σ H Q=>ta σ H fun x H'=>∃ k,TruV X.K x H' k∧Q (.bl (!k)) H'):=by
 intro pins s σ H Q I h
 refine UnaryOp_ (thn (ha pins s σ H _ I h) fun v s1 ⟨x,H1,I1,r1,q1⟩=>?_)
 exact not_of (thn (tru_ok pins s1 σ H1 x v (fun k H'=>Q (.bl (!k)) H') I1 r1 q1) fun b s2 ⟨H2,I2,q2⟩=>⟨.bl (!b),H2,I2,rfl,q2⟩)
theorem ok_not (xo:XOk X K P C Γ) {a:Expr} {ca:E} {pos:Pos} (ha:Ok3 X K P C a ca):Ok3 X K P C (.UnaryOp .Not a pos) (.not ca):=by
 have v:PE X (.UnaryOp .Not a pos) (tE K P C (.not ca)):=by
  refine TE.imp_pe (pe_notT ha.h) fun σ H Q q=>?_
  obtain ⟨ρ,G,v,ρ',r,e,k⟩:=q
  simp only [ev] at e
  obtain ⟨w,ρ1,e1,e⟩:=bind_ok e
  obtain ⟨e2,rfl⟩:=done_ok e
  refine ⟨ρ,G,w,ρ',r,e1,fun x H1 G1 a1 rx=>?_⟩
  cases q:w.get ρ' with
  | none=>rw [q] at e2; cases e2
  | some d =>
   rw [q] at e2
   simp only [Option.bind_some] at e2
   cases q2:truthD d with
   | none=>rw [q2] at e2; cases e2
   | some b =>
    rw [q2] at e2
    cases e2
    refine ⟨b, ?_,k _ H1 G1 a1 (by show Rep K G1 (.bl _) _; simp [Rep])⟩
    rw [xo.keq]
    exact truth_ok a1.rel.sub (rx.read a1.rel q) q2
 refine ⟨v, ?_,tE_tH v fun i z=>nomatch z⟩
 refine TT.imp_pt (pt_not ha.t) fun σ H Q q=>?_
 obtain ⟨ρ,G,b,ρ',r,e,k⟩:=q
 simp only [ev] at e
 obtain ⟨w,ρ1,e1,e⟩:=bind_ok e
 split at e
 ·rename_i b'
  cases e
  exact ⟨ρ,G,b',_,r,e1,fun H1 G1 a1=>k H1 G1 a1⟩
 ·cases e
theorem cmp_core {σ:St} {H G H1 G1 H2 G2:Hp} {ρ ρ1 ρ2:Env} {hx hy:Hd} {x y:V} {op:CmpOp} {b:Bool} (a1:Aft K ρ σ H G ρ1 H1 G1) (rx:HRep K H1 G1 (Own ρ1 σ) (Fresh H) σ hx x) (a2:Aft K ρ1 σ H1 G1 ρ2 H2 G2) (ry:HRep K H2 G2 (Own ρ2 σ) (Fresh H1) σ hy y)
  (e:((hx.get ρ2).bind fun d=>(hy.get ρ2).bind fun e=>cmpD op d e)=some b) (Q:VK) (q:Q (.bl b) H2):rCmp K op x y H2 Q:=by
 cases q1:hx.get ρ2 with
 | none=>rw [q1] at e; cases e
 | some d =>
  cases q2:hy.get ρ2 with
  | none=>rw [q1,q2] at e; cases e
  | some d2 =>
   rw [q1,q2] at e
   exact ⟨G2,d,d2,b,a2.rel.sub,(rx.wait a2.ext fun a z=>.inl (a2.own a z)).read a2.rel q1,ry.read a2.rel q2,e,q⟩
theorem map_bl {o:Option Bool} {v:RV} (e:(o.map fun b=>RV.sh (.bl b))=some v):∃ b,o=some b∧v=.sh (.bl b):=by
 cases o with
 | none=>cases e
 | some b=>cases e; exact ⟨b,rfl,rfl⟩
theorem bind2_bl {x y:Option D} {f:D→D→Option Bool} {v:RV} (e:(x.bind fun d=>y.bind fun e=>(f d e).map fun b=>RV.sh (.bl b))=some v):∃ b,(x.bind fun d=>y.bind fun e=>f d e)=some b∧v=.sh (.bl b):=by
 cases x with
 | none=>cases e
 | some d =>
  cases y with
  | none=>cases e
  | some d2=>exact map_bl e
theorem ok_cmp (xo:XOk X K P C Γ) {a b:Expr} {ca cb:E} {op:CmpOp} {pos:Pos} (ha:Ok3 X K P C a ca) (hb:Ok3 X K P C b cb) (hm:behindInMarks op b=false):Ok3 X K P C (.Compare a [op] [b] pos) (.cmp op ca cb):=by
 have core:∀ σ H (Q:VK),(∃ (ρ:Env) (G:Hp) (b:Bool) (ρ':Env),Rel K ρ σ H G∧ev P C false (.cmp op ca cb) ρ=some (.ok (.sh (.bl b)),ρ')∧∀ H' G',Aft K ρ σ H G ρ' H' G'→Q (.bl b) H') →
   tOp (rCmp K op) (tH K P C ca) (tH K P C cb) σ H Q:=fun σ H Q q=>by
  obtain ⟨ρ,G,b,ρ',r,e,k⟩:=q
  simp only [ev] at e
  obtain ⟨hx,ρ1,e1,e⟩:=bind_ok e
  obtain ⟨hy,ρ2,e2,e⟩:=bind_ok e
  obtain ⟨e3,rfl⟩:=done_ok e
  obtain ⟨b',e4,e5⟩:=bind2_bl e3
  cases e5
  exact ⟨ρ,G,hx,ρ1,r,e1,fun x H1 G1 a1 rx=>⟨ρ1,G1,hy,ρ',a1.rel,e2,fun y H2 G2 a2 ry=>cmp_core a1 rx a2 ry e4 Q (k H2 G2 (a1.trans a2))⟩⟩
 have v:PE X (.Compare a [op] [b] pos) (tE K P C (.cmp op ca cb)):=by
  refine TE.imp_pe (pe_cmpR (cmp_ok xo.keq xo.hu op) ha.h hb.h hm) fun σ H Q q=>core σ H Q ?_
  obtain ⟨ρ,G,v,ρ',r,e,k⟩:=q
  have e0:=e
  simp only [ev] at e
  obtain ⟨hx,ρ1,e1,e⟩:=bind_ok e
  obtain ⟨hy,ρ2,e2,e⟩:=bind_ok e
  obtain ⟨e3,rfl⟩:=done_ok e
  obtain ⟨b',e4,rfl⟩:=bind2_bl e3
  exact ⟨ρ,G,b',ρ',r,e0,fun H' G' a=>k _ H' G' a (by show Rep K G' (.bl _) _; simp [Rep])⟩
 refine ⟨v, ?_,tE_tH v fun i z=>nomatch z⟩
 refine TT.imp_pt (pt_cmpR (cmp_ok xo.keq xo.hu op) ha.h hb.h hm) fun σ H Q q=>core σ H _ ?_
 obtain ⟨ρ,G,b',ρ',r,e,k⟩:=q
 exact ⟨ρ,G,b',ρ',r,by simpa only [ev] using e,fun H' G' a=>⟨b',rfl,k H' G' a⟩⟩
theorem ok_cmp2 (xo:XOk X K P C Γ) {a b c:Expr} {ca cb cc:E} {op op':CmpOp} {pos:Pos} (ha:Ok3 X K P C a ca) (hb:Ok3 X K P C b cb) (hc:Ok3 X K P C c cc) (hm:behindInMarks op' c=false):Ok3 X K P C (.Compare a [op,op'] [b,c] pos) (.cmp2 op op' ca cb cc):=by
 have core:∀ σ H (Q:VK),(∃ (ρ:Env) (G:Hp) (b:Bool) (ρ':Env),Rel K ρ σ H G∧ev P C false (.cmp2 op op' ca cb cc) ρ=some (.ok (.sh (.bl b)),ρ')∧∀ H' G',Aft K ρ σ H G ρ' H' G'→Q (.bl b) H') →
   tChain (rCmp K op) (rCmp K op') (tH K P C ca) (tH K P C cb) (tH K P C cc) σ H Q:=fun σ H Q q=>by
  obtain ⟨ρ,G,b,ρ',r,e,k⟩:=q
  simp only [ev] at e
  obtain ⟨hx,ρ1,e1,e⟩:=bind_ok e
  obtain ⟨hy,ρ2,e2,e⟩:=bind_ok e
  refine ⟨ρ,G,hx,ρ1,r,e1,fun x H1 G1 a1 rx=>⟨ρ1,G1,hy,ρ2,a1.rel,e2,fun y H2 G2 a2 ry=>?_⟩⟩
  split at e
  ·cases e
  ·rename_i e4
   cases e
   refine cmp_core a1 rx a2 ry e4 _ ⟨false,rfl, ?_⟩
   rw [if_neg Bool.false_ne_true]
   exact k H2 G2 (a1.trans a2)
  ·rename_i e4
   obtain ⟨hz,ρ3,e5,e⟩:=bind_ok e
   obtain ⟨e6,rfl⟩:=done_ok e
   obtain ⟨b',e7,e8⟩:=bind2_bl e6
   cases e8
   refine cmp_core a1 rx a2 ry e4 _ ⟨true,rfl, ?_⟩
   rw [if_pos rfl]
   exact ⟨ρ2,G2,hz,ρ',a2.rel,e5,fun z H3 G3 a3 rz=>cmp_core (a1.trans a2) (ry.new_mono fun a z=>a1.ext.hx a z) a3 rz e7 Q (k H3 G3 ((a1.trans a2).trans a3))⟩
 have hl:lastMarks [op,op'] [b,c]=false:=hm
 have v:PE X (.Compare a [op,op'] [b,c] pos) (tE K P C (.cmp2 op op' ca cb cc)):=by
  refine TE.imp_pe (pe_chain (cmp_ok xo.keq xo.hu op) (cmp_ok xo.keq xo.hu op') ha.h hb.h hc.h hl) fun σ H Q q=>core σ H Q ?_
  obtain ⟨ρ,G,v,ρ',r,e,k⟩:=q
  have e0:=e
  have:∃ b,v=.sh (.bl b):=by
   simp only [ev] at e
   obtain ⟨hx,ρ1,e1,e⟩:=bind_ok e
   obtain ⟨hy,ρ2,e2,e⟩:=bind_ok e
   split at e
   ·cases e
   ·cases e; exact ⟨_,rfl⟩
   ·obtain ⟨hz,ρ3,e5,e⟩:=bind_ok e
    obtain ⟨e6,rfl⟩:=done_ok e
    obtain ⟨b',e7,e8⟩:=bind2_bl e6
    exact ⟨b',e8⟩
  obtain ⟨b',rfl⟩:=this
  exact ⟨ρ,G,b',ρ',r,e0,fun H' G' a=>k _ H' G' a (by show Rep K G' (.bl _) _; simp [Rep])⟩
 refine ⟨v, ?_,tE_tH v fun i z=>nomatch z⟩
 refine TT.imp_pt (pt_chain (cmp_ok xo.keq xo.hu op) (cmp_ok xo.keq xo.hu op') ha.h hb.h hc.h hl) fun σ H Q q=>core σ H _ ?_
 obtain ⟨ρ,G,b',ρ',r,e,k⟩:=q
 exact ⟨ρ,G,b',ρ',r,by simpa only [ev] using e,fun H' G' a=>⟨b',rfl,k H' G' a⟩⟩
end
section
variable {X:Cx} {K:PySem.W.Frag} {P:Pins} {C:Calls} {Γ:CC}
theorem PW.imp {e:Expr} {t u:TT} (h:PW X e t) (w:∀ σ H Q,u σ H Q→t σ H Q):PW X e u:=fun wh pins s σ H Q I q=>h wh pins s σ H Q I (w σ H Q q)
theorem and_v {σ:St} {H:Hp} {Q:VK} {ca cb:E} (q:tE K P C (.and ca cb) σ H Q):tAndV (tE K P C ca) (tE K P C cb) σ H Q:=by
 obtain ⟨ρ,G,v,ρ',r,e,k⟩:=q
 simp only [ev] at e
 obtain ⟨w,ρ1,e1,e⟩:=bind_ok e
 refine ⟨ρ,G,w,ρ1,r,e1,fun x H1 G1 a1 rx=>?_⟩
 split at e
 ·refine ⟨true,rep_bl (K:=K) (G:=G1) rx, ?_⟩
  refine iteT ?_
  exact ⟨ρ1,G1,v,ρ',a1.rel,e,fun y H2 G2 a2 ry=>k y H2 G2 (a1.trans a2) (ry.new_mono fun a z=>a1.ext.hx a z)⟩
 ·refine ⟨false,rep_bl (K:=K) (G:=G1) rx, ?_⟩
  refine iteF ?_
  cases e
  exact k _ H1 G1 a1 (by show Rep K G1 (.bl _) _; simp [Rep])
 ·cases e
theorem and_t {σ:St} {H:Hp} {Q:Bool→Hp→Prop} {ca cb:E} (q:tT K P C (.and ca cb) σ H Q):tAnd (tT K P C ca) (tT K P C cb) σ H Q:=by
 obtain ⟨ρ,G,b,ρ',r,e,k⟩:=q
 simp only [ev] at e
 obtain ⟨w,ρ1,e1,e⟩:=bind_ok e
 split at e
 ·refine ⟨ρ,G,true,ρ1,r,e1,fun H1 G1 a1=>?_⟩
  refine iteT ?_
  exact ⟨ρ1,G1,b,ρ',a1.rel,e,fun H2 G2 a2=>k H2 G2 (a1.trans a2)⟩
 ·refine ⟨ρ,G,false,ρ1,r,e1,fun H1 G1 a1=>?_⟩
  refine iteF ?_
  cases e
  exact k H1 G1 a1
 ·cases e
theorem or_v {σ:St} {H:Hp} {Q:VK} {ca cb:E} (q:tE K P C (.or ca cb) σ H Q):tOrV (tE K P C ca) (tE K P C cb) σ H Q:=by
 obtain ⟨ρ,G,v,ρ',r,e,k⟩:=q
 simp only [ev] at e
 obtain ⟨w,ρ1,e1,e⟩:=bind_ok e
 refine ⟨ρ,G,w,ρ1,r,e1,fun x H1 G1 a1 rx=>?_⟩
 split at e
 ·refine ⟨true,rep_bl (K:=K) (G:=G1) rx, ?_⟩
  refine iteT ?_
  cases e
  exact k _ H1 G1 a1 (by show Rep K G1 (.bl _) _; simp [Rep])
 ·refine ⟨false,rep_bl (K:=K) (G:=G1) rx, ?_⟩
  refine iteF ?_
  exact ⟨ρ1,G1,v,ρ',a1.rel,e,fun y H2 G2 a2 ry=>k y H2 G2 (a1.trans a2) (ry.new_mono fun a z=>a1.ext.hx a z)⟩
 ·cases e
theorem or_t {σ:St} {H:Hp} {Q:Bool→Hp→Prop} {ca cb:E} (q:tT K P C (.or ca cb) σ H Q):tOr (tT K P C ca) (tT K P C cb) σ H Q:=by
 obtain ⟨ρ,G,b,ρ',r,e,k⟩:=q
 simp only [ev] at e
 obtain ⟨w,ρ1,e1,e⟩:=bind_ok e
 split at e
 ·refine ⟨ρ,G,true,ρ1,r,e1,fun H1 G1 a1=>?_⟩
  refine iteT ?_
  cases e
  exact k H1 G1 a1
 ·refine ⟨ρ,G,false,ρ1,r,e1,fun H1 G1 a1=>?_⟩
  refine iteF ?_
  exact ⟨ρ1,G1,b,ρ',a1.rel,e,fun H2 G2 a2=>k H2 G2 (a1.trans a2)⟩
 ·cases e
structure Ok2 (X:Cx) (K:PySem.W.Frag) (P:Pins) (C:Calls) (op:BoolOp) (vs:List Expr) (c:E):Prop where
 v:∀ pos,PE X (.BoolOp op vs pos) (tE K P C c)
 w:∀ pos,PW X (.BoolOp op vs pos) (tT K P C c)
theorem ok2_and1 {a:Expr} {c:E} (h:Ok3 X K P C a c):Ok2 X K P C .And [a] c:=⟨fun _=>pe_one h.v,fun _=>pw_and1 h.t⟩
theorem ok2_or1 {a:Expr} {c:E} (h:Ok3 X K P C a c):Ok2 X K P C .Or [a] c:=⟨fun _=>pe_one h.v,fun _=>pw_or1 h.t⟩
theorem ok2_and {a b:Expr} {r:List Expr} {ca cb:E} (h:Ok3 X K P C a ca) (t:Ok2 X K P C .And (b :: r) cb):Ok2 X K P C .And (a :: b :: r) (.and ca cb) :=
 ⟨fun pos=>TE.imp_pe (pe_and h.v (t.v pos)) fun _ _ _ q=>and_v q,fun pos=>PW.imp (pw_and h.t (t.w pos)) fun _ _ _ q=>and_t q⟩
theorem ok2_or {a b:Expr} {r:List Expr} {ca cb:E} (h:Ok3 X K P C a ca) (t:Ok2 X K P C .Or (b :: r) cb):Ok2 X K P C .Or (a :: b :: r) (.or ca cb) :=
 ⟨fun pos=>TE.imp_pe (pe_or h.v (t.v pos)) fun _ _ _ q=>or_v q,fun pos=>PW.imp (pw_or h.t (t.w pos)) fun _ _ _ q=>or_t q⟩
theorem Ok2.ok3 {op:BoolOp} {vs:List Expr} {c:E} {pos:Pos} (h:Ok2 X K P C op vs c) (n:∀ i,c≠.var i):Ok3 X K P C (.BoolOp op vs pos) c:=⟨h.v pos,(h.w pos).pt,tE_tH (h.v pos) n⟩
theorem pt_ifExp {c a b:Expr} {tc ta tb:TT} {pos:Pos} (hc:PT X c tc) (ha:PT X a ta) (hb:PT X b tb):PT X (.IfExp c a b pos) (fun σ H Q=>tc σ H fun k H1=>if k=true then ta σ H1 Q else tb σ H1 Q):=by
 intro pins s σ H Q I h
 show wpAny _ _ (do if ← isTrue c X.env (eval c X.env) then isTrue a X.env (eval a X.env) else isTrue b X.env (eval b X.env)) _ _ s
 refine wpAny_bind (thn (hc pins s σ H _ I h) fun k s1 ⟨H1,I1,q1⟩=>?_)
 cases k with
 | true =>
  simp only [if_true] at q1 ⊢
  exact ha pins s1 σ H1 Q I1 q1
 | false =>
  simp only [Bool.false_eq_true,if_false] at q1 ⊢
  exact hb pins s1 σ H1 Q I1 q1
theorem ok_ite {c a b:Expr} {cc ca cb:E} {pos:Pos} (hc:Ok3 X K P C c cc) (ha:Ok3 X K P C a ca) (hb:Ok3 X K P C b cb):Ok3 X K P C (.IfExp c a b pos) (.ite cc ca cb):=by
 have v:PE X (.IfExp c a b pos) (tE K P C (.ite cc ca cb)):=by
  refine TE.imp_pe (pe_ifExp hc.t ha.v hb.v) fun σ H Q q=>?_
  obtain ⟨ρ,G,v,ρ',r,e,k⟩:=q
  simp only [ev] at e
  obtain ⟨w,ρ1,e1,e⟩:=bind_ok e
  split at e
  ·refine ⟨ρ,G,true,ρ1,r,e1,fun H1 G1 a1=>?_⟩
   refine iteT ?_
   exact ⟨ρ1,G1,v,ρ',a1.rel,e,fun y H2 G2 a2 ry=>k y H2 G2 (a1.trans a2) (ry.new_mono fun a z=>a1.ext.hx a z)⟩
  ·refine ⟨ρ,G,false,ρ1,r,e1,fun H1 G1 a1=>?_⟩
   refine iteF ?_
   exact ⟨ρ1,G1,v,ρ',a1.rel,e,fun y H2 G2 a2 ry=>k y H2 G2 (a1.trans a2) (ry.new_mono fun a z=>a1.ext.hx a z)⟩
  ·cases e
 refine ⟨v, ?_,tE_tH v fun i z=>nomatch z⟩
 refine TT.imp_pt (pt_ifExp hc.t ha.t hb.t) fun σ H Q q=>?_
 obtain ⟨ρ,G,b,ρ',r,e,k⟩:=q
 simp only [ev] at e
 obtain ⟨w,ρ1,e1,e⟩:=bind_ok e
 split at e
 ·refine ⟨ρ,G,true,ρ1,r,e1,fun H1 G1 a1=>?_⟩
  refine iteT ?_
  exact ⟨ρ1,G1,b,ρ',a1.rel,e,fun H2 G2 a2=>k H2 G2 (a1.trans a2)⟩
 ·refine ⟨ρ,G,false,ρ1,r,e1,fun H1 G1 a1=>?_⟩
  refine iteF ?_
  exact ⟨ρ1,G1,b,ρ',a1.rel,e,fun H2 G2 a2=>k H2 G2 (a1.trans a2)⟩
 ·cases e
theorem ok_tup (xo:XOk X K P C Γ) {es:List Expr} {cs:List E} {k0:Nat} {pos:Pos} (h:PA X es (tDs K P C cs)):Ok3 X K P C (.Tuple es k0 pos) (.tup cs):=by
 refine mk3 xo (TE.imp_pe (pe_tup h) fun σ H Q q=>?_) (fun i z=>nomatch z) (fun ρ=>by simp only [ev,wrap_false]) fun _=>rfl
 obtain ⟨ρ,G,v,ρ',r,e,k⟩:=q
 simp only [ev,wrap_false] at e
 obtain ⟨ds,ρ1,e1,e⟩:=bind_ok e
 split at e
 ·rename_i hz
  cases e
  refine ⟨ρ,G,ds,_,r,e1,fun xs H1 G1 a1 rx=>⟨by rw [rx.len]; exact smallL_ok hz,fun p hp=>?_⟩⟩
  obtain ⟨a2,v2⟩:=a1.tup_new hp rx
  exact k _ _ _ a2 v2
 ·cases e
theorem ok_lst {q:Bool} (xo:XOkB q X K P C Γ) {es:List Expr} {cs:List E} {pos:Pos} (h:PA X es (tDs K P C cs)):Ok3 X K P C (.List es pos) (.lst cs):=by
 refine mk3 xo (TE.imp_pe (pe_lst h) fun σ H Q q=>?_) (fun i z=>nomatch z) (fun ρ=>by simp only [ev,wrap_false]) fun _=>rfl
 obtain ⟨ρ,G,v,ρ',r,e,k⟩:=q
 simp only [ev,wrap_false] at e
 obtain ⟨ds,ρ1,e1,e⟩:=bind_ok e
 split at e
 ·rename_i hz
  cases e
  refine ⟨ρ,G,ds,_,r,e1,fun xs H1 G1 a1 rx=>⟨by rw [rx.len]; exact smallL_ok hz,fun p hp=>?_⟩⟩
  obtain ⟨a2,v2⟩:=a1.own_new hp rx
  exact k _ _ _ a2 v2
 ·cases e
theorem ok_ix (xo:XOk X K P C Γ) {a b:Expr} {ca cb:E} {pos:Pos} (ha:Ok3 X K P C a ca) (hb:Ok3 X K P C b cb) (hs:PlainIx b):Ok3 X K P C (.Subscript a b pos) (.ix ca cb):=by
 refine mk3 xo (TE.imp_pe (pe_ix (ix_ok xo.keq (by have:=xo.hu; omega)) ha.h hb.v hs) fun σ H Q q=>?_) (fun i z=>nomatch z) (fun ρ=>by simp only [ev,wrap_false]) fun _=>rfl
 obtain ⟨ρ,G,v,ρ',r,e,k⟩:=q
 simp only [ev,wrap_false] at e
 obtain ⟨hx,ρ1,e1,e⟩:=bind_ok e
 obtain ⟨w,ρ2,e2,e⟩:=bind_ok e
 obtain ⟨e3,rfl⟩:=done_ok e
 refine ⟨ρ,G,hx,ρ1,r,e1,fun x H1 G1 a1 rx=>⟨ρ1,G1,w,ρ',a1.rel,e2,fun y H2 G2 a2 ry=>?_⟩⟩
 cases q1:hx.get ρ' with
 | none=>rw [q1] at e3; cases e3
 | some d =>
  rw [q1] at e3
  simp only [Option.bind_some] at e3
  cases q2:ixD d w.d with
  | none=>rw [q2] at e3; cases e3
  | some d2 =>
   rw [q2] at e3
   cases e3
   exact ⟨G2,d,w.d,d2,a2.rel.sub,(rx.wait a2.ext fun a z=>.inl (a2.own a z)).read a2.rel q1,ry.readR,q2,fun z hz=>k z H2 G2 (a1.trans a2) hz⟩
noncomputable def tO (K:PySem.W.Frag) (P:Pins) (C:Calls) (c:E):TO:=fun σ H Q=>∃ (ρ:Env) (G:Hp) (o:Option D) (ρ':Env),Rel K ρ σ H G∧part c (ev P C false c ρ) ρ=some (.ok o,ρ')∧∃ i,partD o=some i∧∀ H' G',Aft K ρ σ H G ρ' H' G'→Q i H'
theorem po_noneC:PO X none (tO K P C .omt):=fun pins s σ H Q I ⟨ρ,G,o,ρ',r,e,i,e2,k⟩=>by
 simp only [part,isOmit,if_true,Option.some.injEq,Prod.mk.injEq,Out.ok.injEq] at e
 obtain ⟨rfl,rfl⟩:=e
 cases e2
 exact po_none pins s σ H Q I (k H G (Aft.refl r))
theorem po_someC {e:Expr} {c:E} (h:Ok3 X K P C e c):PO X (some e) (tO K P C (noOmit c)):=fun pins s σ H Q I ⟨ρ,G,o,ρ',r,e1,i,e2,k⟩=>by
 have key:∀ c',noOmit c=c'→isOmit c'=false→(∀ ρ,ev P C false c' ρ=ev P C false c ρ∨ev P C false c' ρ=none)→wpAny (model X.prog X.w) X.A (evalPart (some e) X.env) (fun u s'=>∃ o H',Inv X pins σ H' s'∧IsPart u o∧Q o H') X.xe s:=fun c' e0 hno he=>by
  rw [e0] at e1
  simp only [part,hno,Bool.false_eq_true,if_false] at e1
  obtain ⟨w,ρ1,e3,e4⟩:=bind_ok e1
  cases e4
  rcases he ρ with he | he
  ·rw [he] at e3
   refine po_some h.v pins s σ H Q I ⟨ρ,G,w,_,r,e3,fun x H1 G1 a1 rx=>?_⟩
   cases q:w.d <;> rw [q] at e2 <;> simp only [partD,reduceCtorEq,Option.some.injEq] at e2
   subst e2
   have:=rx.readR
   rw [q] at this
   exact ⟨_,this.int,k H1 G1 a1⟩
  ·rw [he] at e3; cases e3
 cases c with
 | omt=>exact key .bad rfl rfl fun ρ=>.inr (by rw [ev])
 | _=>exact key _ rfl rfl fun ρ=>.inl rfl
theorem ok_sl (xo:XOk X K P C Γ) {a:Expr} {lo hi:Option Expr} {ca cl ch:E} {pos p2:Pos} (ha:Ok3 X K P C a ca) (hl:PO X lo (tO K P C cl)) (hh:PO X hi (tO K P C ch)):Ok3 X K P C (.Subscript a (.Slice lo hi none p2) pos) (.sl ca cl ch):=by
 refine mk3 xo (TE.imp_pe (pe_slice (sl_ok xo.keq) ha.h hl hh) fun σ H Q q=>?_) (fun i z=>nomatch z) (fun ρ=>by simp only [ev,wrap_false]) fun _=>rfl
 obtain ⟨ρ,G,v,ρ',r,e,k⟩:=q
 simp only [ev,wrap_false] at e
 obtain ⟨hx,ρ1,e1,e⟩:=bind_ok e
 obtain ⟨l,ρ2,e2,e⟩:=bind_ok e
 obtain ⟨h,ρ3,e3,e⟩:=bind_ok e
 obtain ⟨e4,rfl⟩:=done_ok e
 cases q1:hx.get ρ' with
 | none=>rw [q1] at e4; cases e4
 | some d =>
  cases q2:partD l with
  | none=>rw [q1,q2] at e4; cases e4
  | some l' =>
   cases q3:partD h with
   | none=>rw [q1,q2,q3] at e4; cases e4
   | some h' =>
    rw [q1,q2,q3] at e4
    simp only [Option.bind_some] at e4
    refine ⟨ρ,G,hx,ρ1,r,e1,fun x H1 G1 a1 rx=>⟨ρ1,G1,l,ρ2,a1.rel,e2,l',q2,fun H2 G2 a2=>⟨ρ2,G2,h,ρ',a2.rel,e3,h',q3,fun H3 G3 a3=>?_⟩⟩⟩
    have a23:=a2.trans a3
    refine ⟨G3,d,v,a3.rel.sub,(rx.wait a23.ext fun a z=>.inl (a23.own a z)).read a3.rel q1,e4,fun z H4 hm=>?_⟩
    obtain ⟨G4,a4,v4⟩:=(a1.trans a23).made hm
    exact k z H4 G4 a4 v4
theorem star_any {es:List Expr} (h:es.all notStar=true) (env:PySem.Env) (pos:Pos):(backTo pos (starEach es env)).any (·.1)=false∧(backTo pos (starEach es env)).all (fun x=>!x.1)=true:=by
 induction es with
 | nil=>exact ⟨rfl,rfl⟩
 | cons e es ih =>
  rw [List.all_cons,Bool.and_eq_true] at h
  rw [star_ok h.1]
  obtain ⟨i1,i2⟩:=ih h.2
  unfold backTo at *
  refine ⟨?_, ?_⟩
  ·rw [List.map_cons,List.any_cons,i1]; rfl
  ·rw [List.map_cons,List.all_cons,i2]; rfl
theorem ok_call (xo:XOk X K P C Γ) {f:Str} {g:String} {e:Expr} {es:List Expr} {cs:List E} {p pos:Pos} (hf:Γ.glob f=.fn g) (ns:(e :: es).all notStar=true) (ha:PA X (e :: es) (tHs K P C cs)):Ok3 X K P C (.Call (.Name f p) (e :: es) [] pos) (.call g cs):=by
 obtain ⟨h1,h2,h3,h4⟩:=CC.glob_ok xo hf (fun z=>nomatch z)
 obtain ⟨fa,fd,ps,k0,F,hr,hm,hk,hb⟩:=(xo.fn f g h2).ex
 rw [List.all_cons,Bool.and_eq_true] at ns
 refine mk3 xo (TE.imp_pe (pe_call F hr h1 hm hk hb .nil pass0 ha h3 (star_ok ns.1 _ _) (star_any ns.2 _ _).1) fun σ H Q q=>?_) (fun i z=>nomatch z) (fun ρ=>by simp only [ev,wrap_false]) fun _=>rfl
 obtain ⟨ρ,G,v,ρ',r,e,k⟩:=q
 simp only [ev,wrap_false] at e
 obtain ⟨hs,ρ1,e1,e⟩:=bind_ok e
 refine ⟨ρ,G,hs,ρ1,r,e1,fun xs H1 G1 a1 rx=>?_⟩
 obtain ⟨as,G2,as',d1,d2,d3,_,d4⟩:=doCall_ok a1 rx e
 rw [List.append_nil]
 refine ⟨?_,as,G2,v,as',d1,d2,d3,fun x H' G' a hv=>?_⟩
 ·have:=d1.len
  rw [List.length_map] at this
  omega
 ·obtain ⟨a5,v5⟩:=d4 x H' G' a hv
  exact k x H' G' a5 v5
theorem biOf_ok {f:Str} {b:BI} (h:biOf f=some b):bootBuiltins f=some (biV b):=by
 unfold biOf at h
 repeat (split at h; · (rename_i hf; cases h; subst hf; first | exact PySem.boot_len | decide +kernel | rfl))
 cases h
theorem ok_bif (xo:XOk X K P C Γ) {f:Str} {b:BI} {e:Expr} {es:List Expr} {cs:List E} {p pos:Pos} (hf:Γ.glob f=.blt) (hb:biOf f=some b) (ns:(e :: es).all notStar=true) (ha:PA X (e :: es) (tHs K P C cs)):Ok3 X K P C (.Call (.Name f p) (e :: es) [] pos) (.bif b cs):=by
 obtain ⟨h1,h2,h3,h4⟩:=CC.glob_ok xo hf (fun z=>nomatch z)
 have hm:=xo.blt f h2
 have hv:=biOf_ok hb
 rw [List.all_cons,Bool.and_eq_true] at ns
 have hp:PE X (.Call (.Name f p) (e :: es) [] pos) (tCB (rBi K b) (tHs K P C cs)):=by
  have hc:=bi_ok xo.keq xo.calm xo.hh xo.rm b
  cases b <;> first
   | exact pe_callB hc h1 hm hv ha h4 h3 (star_ok ns.1 _ _) (star_any ns.2 _ _).1
   | exact pe_callTy hc h1 hm hv ha h4 h3 (star_ok ns.1 _ _) (star_any ns.2 _ _).1
 refine mk3 xo (TE.imp_pe hp fun σ H Q q=>?_) (fun i z=>nomatch z) (fun ρ=>by simp only [ev,wrap_false]) fun _=>rfl
 obtain ⟨ρ,G,v,ρ',r,e,k⟩:=q
 simp only [ev,wrap_false] at e
 obtain ⟨hs,ρ1,e1,e⟩:=bind_ok e
 obtain ⟨e2,rfl⟩:=done_ok e
 refine ⟨ρ,G,hs,ρ',r,e1,fun xs H1 G1 a1 rx=>?_⟩
 cases q1:getAll hs ρ' with
 | none=>rw [q1] at e2; cases e2
 | some ds =>
  rw [q1] at e2
  refine ⟨G1,ds,v,a1.rel.sub,rx.getAll a1.rel q1,e2,fun z H' hm=>?_⟩
  obtain ⟨G2,a2,v2⟩:=a1.made hm
  exact k z H' G2 a2 v2
end
section
variable {X:Cx} {K:PySem.W.Frag} {P:Pins} {C:Calls} {Γ:CC}
theorem isOw_ok {ρ:Env} {i:Nat} (h:isOw ρ i=true):∃ ds p l,ρ[i]?=some (.ow (.lst ds) p l):=by
 unfold isOw at h
 split at h
 ·rename_i d p l e; exact ⟨d,p,l,e⟩
 ·cases h
theorem Rel.writeO {ρ:Env} {σ:St} {H G:Hp} (r:Rel K ρ σ H G) {i:Nat} {d:D} {p l:Bool} {a:Addr} {d':D} {ob:HO} (h:ρ[i]?=some (.ow d p l)) (hx:σ[i]?=some (some (.ref a))) (hr:OwRep K (upd H a ob) G a d') :
  Aft K ρ σ H G (ρ.set i (.ow d' p l)) (upd H a ob) G:=by
 obtain ⟨b,h1,g,o⟩:=r.ow i d p l h
 rw [hx] at h1; cases h1
 have hn:H a≠none:=(r.owned ⟨i,d,p,l,h,hx⟩).1
 have r0:Rel K (ρ.set i .un) σ (upd H a ob) G:=by
  have ru:=r.unset i
  have nu:=r.unset_not h hx
  refine ⟨ru.len,fun b u e=>?_,ru.sh,fun j d' p' l' hj=>?_,ru.inj⟩
  ·have:b≠a:=fun z=>by subst z; rw [g] at e; cases e
   rw [upd_ne this]; exact ru.sub b u e
  ·obtain ⟨b,h3,h4,h5⟩:=ru.ow j d' p' l' hj
   have hb:b≠a:=fun z=>by subst z; exact nu ⟨j,d',p',l',hj,h3⟩
   exact ⟨b,h3,h4,h5.mono (Same.refl _) fun _ z=>by rw [upd_ne hb]; exact z⟩
 refine ⟨r0.put_ow hx g hr (r.unset_not h hx),⟨Same.refl _,fun b u e nb=>?_,fun b e=>?_,fun b e g' _=>g'⟩,Evo.set (by rw [h]; exact ⟨rfl,rfl⟩)⟩
 ·have:b≠a:=fun z=>by subst z; exact nb ⟨i,d,p,l,h,hx⟩
  rw [upd_ne this]; exact e
 ·by_cases hb:b=a
  ·subst hb; rw [upd_same] at e; cases e
  ·rwa [upd_ne hb] at e
theorem Rel.write {ρ:Env} {σ:St} {H G:Hp} (r:Rel K ρ σ H G) {i:Nat} {d:D} {p l:Bool} {a:Addr} {ds:List D} {vs:List V} (h:ρ[i]?=some (.ow d p l)) (hx:σ[i]?=some (some (.ref a))) (hr:Reps K G ds vs) :
  Aft K ρ σ H G (ρ.set i (.ow (.lst ds) p l)) (upd H a (.lst vs)) G:=r.writeO h hx ⟨vs,upd_same,hr⟩
theorem ok_app (xo:XOk X K P C Γ) {x:Str} {i:Nat} {a:Expr} {ca:E} {p apos cpos:Pos} (hi:Γ.slot x=some i) (hl:(apos.endLine == cpos.line)=true) (ns:notStar a=true) (ha:Ok3 X K P C a ca) :
  Ok3 X K P C (.Call (.Attribute (.Name x p) ("append":Str) apos) [a] [] cpos) (.app i ca):=by
 have hp:PE X (.Name x p) (tVar i):=CC.slot_ok xo hi
 have hpa:PA X [a] (tCons (tE K P C ca) tNil):=pa_cons ha.v pa_nil (star_ok ns _ _)
 have hall:[a].all notStar=true:=by rw [List.all_cons,ns]; rfl
 refine mk3 xo (TE.imp_pe (pe_bm PySem.F.plainAttrs_list PySem.F.slot_list_append PySem.F.type_list_append mt_append hp hpa rfl (by
   rw [Bool.and_eq_true,Bool.and_eq_true]; exact ⟨⟨(star_any hall _ _).2,rfl⟩,rfl⟩) hl (star_ok ns _ _) rfl) fun σ H Q q=>?_) (fun i z=>nomatch z) (fun ρ=>by simp only [ev,wrap_false]) fun _=>rfl
 obtain ⟨ρ,G,v,ρ',r,e,k⟩:=q
 simp only [ev,wrap_false] at e
 split at e
 ·rename_i ho
  obtain ⟨d0,p0,l0,h0⟩:=isOw_ok ho
  obtain ⟨b,hb,g0,o0⟩:=r.ow i _ p0 l0 h0
  obtain ⟨w,ρ1,e1,e⟩:=bind_ok e
  refine ⟨.ref b,hb,.inl ⟨rfl, ?_⟩,ρ,G,w,ρ1,r,e1,fun y H1 G1 a1 ry=>?_⟩
  ·obtain ⟨vs,hv,_⟩:=o0
   exact ⟨vs,SqL.of hv⟩
  ·split at e
   ·rename_i ds p1 h1
    split at e
    ·rename_i hz
     cases e
     obtain ⟨G2,a2,r2⟩:=a1.share ry
     obtain ⟨b',hb',g1,vs,hv,hr⟩:=a2.rel.ow i _ _ _ h1
     rw [hb] at hb'; cases hb'
     have:=hr.len
     refine ⟨b,vs,y,rfl,rfl,hv, ?_, ?_⟩
     ·have:=smallL_ok hz
      omega
     ·have a3:=a2.rel.write h1 hb (hr.app (Reps.cons r2 Reps.nil))
      exact k _ _ _ (a2.trans a3) (by show Rep K G2 .non _; simp [Rep])
    ·cases e
   ·cases e
 ·cases e
theorem ok_ext (xo:XOk X K P C Γ) {x:Str} {i:Nat} {a:Expr} {ca:E} {p apos cpos:Pos} (hi:Γ.slot x=some i) (hl:(apos.endLine == cpos.line)=true) (ns:notStar a=true) (ha:Ok3 X K P C a ca) :
  Ok3 X K P C (.Call (.Attribute (.Name x p) ("extend":Str) apos) [a] [] cpos) (.ext i ca):=by
 have hp:PE X (.Name x p) (tVar i):=CC.slot_ok xo hi
 have hpa:PA X [a] (tCons (tE K P C ca) tNil):=pa_cons ha.v pa_nil (star_ok ns _ _)
 have hall:[a].all notStar=true:=by rw [List.all_cons,ns]; rfl
 refine mk3 xo (TE.imp_pe (pe_bm PySem.F.plainAttrs_list PySem.F.slot_list_extend PySem.F.type_list_extend mt_extend hp hpa rfl (by
   rw [Bool.and_eq_true,Bool.and_eq_true]; exact ⟨⟨(star_any hall _ _).2,rfl⟩,rfl⟩) hl (star_ok ns _ _) rfl) fun σ H Q q=>?_) (fun i z=>nomatch z) (fun ρ=>by simp only [ev,wrap_false]) fun _=>rfl
 obtain ⟨ρ,G,v,ρ',r,e,k⟩:=q
 simp only [ev,wrap_false] at e
 split at e
 ·rename_i ho
  obtain ⟨d0,p0,l0,h0⟩:=isOw_ok ho
  obtain ⟨b,hb,g0,o0⟩:=r.ow i _ p0 l0 h0
  obtain ⟨w,ρ1,e1,e⟩:=bind_ok e
  refine ⟨.ref b,hb,.inl ⟨rfl, ?_⟩,ρ,G,w,ρ1,r,e1,fun y H1 G1 a1 ry=>?_⟩
  ·obtain ⟨vs,hv,_⟩:=o0
   exact ⟨vs,SqL.of hv⟩
  ·split at e
   ·rename_i ds p1 es h1
    split at e
    ·rename_i hz
     cases e
     obtain ⟨c,rfl,gc,⟨zs,hc,hzr⟩,nown,new⟩:=ry
     obtain ⟨b',hb',g1,vs,hv,hr⟩:=a1.rel.ow i _ _ _ h1
     rw [hb] at hb'; cases hb'
     have l1:=hr.len
     have l2:=hzr.len
     refine ⟨b,c,vs,zs,rfl,rfl,hv,hc, ?_, ?_⟩
     ·have:=smallL_ok hz
      omega
     ·exact k _ _ _ (a1.trans (a1.rel.write h1 hb (hr.app hzr))) (by show Rep K G1 .non _; simp [Rep])
    ·cases e
   ·cases e
 ·cases e
theorem Rel.poke {ρ:Env} {σ:St} {H G:Hp} (r:Rel K ρ σ H G) {a:Addr} {o:HO} (g:G a=none) (n:¬ Own ρ σ a):Rel K ρ σ (upd H a o) G:=by
 refine ⟨r.len,fun b u e=>?_,r.sh,fun j d' p' l' hj=>?_,r.inj⟩
 ·have:b≠a:=fun z=>by subst z; rw [g] at e; cases e
  rw [upd_ne this]; exact r.sub b u e
 ·obtain ⟨b,h3,h4,h5⟩:=r.ow j d' p' l' hj
  have hb:b≠a:=fun z=>by subst z; exact n ⟨j,d',p',l',hj,h3⟩
  exact ⟨b,h3,h4,h5.mono (Same.refl _) fun _ z=>by rw [upd_ne hb]; exact z⟩
theorem Aft.poke {ρ ρ':Env} {σ:St} {H G H' G':Hp} (b:Aft K ρ σ H G ρ' H' G') {a:Addr} {o:HO} (h:H a=none) (g:G' a=none) (n:¬ Own ρ' σ a):Aft K ρ σ H G ρ' (upd H' a o) G':=by
 refine ⟨b.rel.poke g n,⟨b.ext.gg,fun c u e nc=>?_,fun c e=>?_,b.ext.gn⟩,b.evo⟩
 ·have:c≠a:=fun z=>by subst z; rw [h] at e; cases e
  rw [upd_ne this]; exact b.ext.hh c u e nc
 ·by_cases hc:c=a
  ·subst hc; rw [upd_same] at e; cases e
  ·rw [upd_ne hc] at e; exact b.ext.hx c e
theorem tyOf_ok {q:Bool} (xo:XOkB q X K P C Γ) {t:Expr} {ty:Ty} (h:tyOf Γ t=some ty):PE X t (tC (tyV1 ty))∧notStar t=true:=by
 cases t <;> simp only [tyOf,reduceCtorEq] at h
 rename_i x pos
 split at h
 ·rename_i hg
  obtain ⟨h1,h2,h3,h4⟩:=CC.glob_ok xo hg (fun z=>nomatch z)
  have hm:=xo.blt x h2
  refine ⟨?_,rfl⟩
  split at h
  ·rename_i hx; cases h; subst hx; exact pe_bltn h1 hm (u:=.type "int") (by decide +kernel) rfl
  ·split at h
   ·rename_i hx; cases h; subst hx; exact pe_bltn h1 hm (u:=.type "bool") (by decide +kernel) rfl
   ·split at h
    ·rename_i hx; cases h; subst hx; exact pe_bltn h1 hm (u:=.type "str") (by decide +kernel) rfl
    ·split at h
     ·rename_i hx; cases h; subst hx; exact pe_bltn h1 hm (u:=.type "list") (by decide +kernel) rfl
     ·split at h
      ·rename_i hx; cases h; subst hx; exact pe_bltn h1 hm (u:=.type "tuple") (by decide +kernel) rfl
      ·split at h
       ·rename_i hx; cases h; subst hx; exact pe_bltn h1 hm (u:=.type "ValueError") (by decide +kernel) rfl
       ·cases h
 ·cases h
theorem ok_isi {q:Bool} (xo:XOkB q X K P C Γ) {a t:Expr} {ca:E} {ty:Ty} {p pos:Pos} (hf:Γ.glob ("isinstance":Str)=.blt) (ht:tyOf Γ t=some ty) (ns:notStar a=true) (ha:Ok3 X K P C a ca) :
  Ok3 X K P C (.Call (.Name ("isinstance":Str) p) [a,t] [] pos) (.isi ca [ty]):=by
 obtain ⟨h1,h2,h3,h4⟩:=CC.glob_ok xo hf (fun z=>nomatch z)
 have hm:=xo.blt _ h2
 obtain ⟨pt,nt⟩:=tyOf_ok xo ht
 have hpa:PA X [a,t] (tCons (tH K P C ca) (tCons (tC (tyV1 ty)) tNil)):=pa_cons ha.h (pa_cons pt pa_nil (star_ok nt _ _)) (star_ok ns _ _)
 have hall:[t].all notStar=true:=by rw [List.all_cons,nt]; rfl
 have hp:=pe_callB (p:=p) (pos:=pos) (isi_ok xo.keq ty) h1 hm (by decide +kernel) hpa h4 h3 (star_ok ns _ _) (star_any hall _ _).1
 refine mk3 xo (TE.imp_pe hp fun σ H Q q=>?_) (fun i z=>nomatch z) (fun ρ=>by simp only [ev,wrap_false]) fun _=>rfl
 obtain ⟨ρ,G,v,ρ',r,e,k⟩:=q
 simp only [ev,wrap_false] at e
 obtain ⟨hx,ρ1,e1,e⟩:=bind_ok e
 obtain ⟨e2,rfl⟩:=done_ok e
 refine ⟨ρ,G,hx,ρ',r,e1,fun x H1 G1 a1 rx=>?_⟩
 cases q1:hx.get ρ' with
 | none=>rw [q1] at e2; cases e2
 | some d =>
  rw [q1] at e2
  simp only [Option.bind_some,isTys] at e2
  cases q2:isTy ty d with
  | none=>rw [q2] at e2; cases e2
  | some b =>
   rw [q2] at e2
   simp only [Option.bind_some,Option.map_some,Bool.or_false,Option.some.injEq] at e2
   subst e2
   exact ⟨G1,d,x,b,a1.rel.sub,rfl,rx.read a1.rel q1,q2,k _ H1 G1 a1 (by show Rep K G1 (.bl _) _; simp [Rep])⟩
theorem plainIx_of {b:Expr} (h:∀ lo hi p,b≠.Slice lo hi none p):PlainIx b:=fun o i=>by
 cases b <;> first
  | rfl
  | (rename_i lo hi st p; cases st with
    | none=>exact absurd rfl (h lo hi p)
    | some s=>rfl)
end
section
variable {X:Cx} {K:PySem.W.Frag} {P:Pins} {C:Calls} {Γ:CC}
theorem ok_bitl (xo:XOk X K P C Γ) {x:Str} {p apos cpos:Pos} (hl:(apos.endLine == cpos.line)=true):Ok3 X K P C (.Call (.Attribute (.Name x p) "bit_length" apos) [] [] cpos) (.bitl (cName Γ x)):=by
 have ha:=ok_name xo x p
 refine mk3 xo (TE.imp_pe (pe_bm0 PySem.F.plainAttrs_int slot_int_bit_length type_int_bit_length mt_bits ha.h rfl hl) fun σ H Q q=>?_) (fun i z=>nomatch z) (fun ρ=>by simp only [ev,wrap_false]) fun _=>rfl
 obtain ⟨ρ,G,v,ρ',r,e,k⟩:=q
 simp only [ev,wrap_false] at e
 obtain ⟨hx,ρ1,e1,e⟩:=bind_ok e
 obtain ⟨e3,rfl⟩:=done_ok e
 refine ⟨ρ,G,hx,ρ',r,e1,fun x H1 G1 a1 rx=>?_⟩
 cases q1:hx.get ρ' with
 | none=>rw [q1] at e3; cases e3
 | some d =>
  rw [q1] at e3
  simp only [Option.bind_some] at e3
  cases d <;> simp only [bitD,reduceCtorEq] at e3
  cases e3
  cases (rx.read a1.rel q1).int
  exact ⟨rfl,_,rfl,rfl,k _ H1 G1 a1 (by show Rep K G1 (.int _) _; simp [Rep])⟩
theorem RepR.ins {H G:Hp} {c:Str} {ns:List Str} {ds:List D} {x:V} (h:RepR K H G (.ins c ns ds) x):Rep K G (.ins c ns ds) x:=by
 rcases h with h | ⟨a,rfl,h⟩
 ·exact h
 ·exact h.elim
inductive XDs (K:PySem.W.Frag):List (List Str × List Str)→List Addr→Prop
 | nil:XDs K [] []
 | cons {s n:List Str} {D:Addr} {sn:List (List Str × List Str)} {Ds:List Addr} (hs:∀ c∈s,∀ C,PySem.W.nsIn K mainGlobals c=some (some (.ref C))→PySem.W.isIn K (.ref C) D=true)
   (hn:∀ c∈n,∀ C,PySem.W.nsIn K mainGlobals c=some (some (.ref C))→PySem.W.kin_not K C D=true) (t:XDs K sn Ds):XDs K ((s,n) :: sn) (D :: Ds)
end
section
variable {X:Cx} {K:PySem.W.Frag} {P:Pins} {C:Calls} {Γ:CC}
theorem strs_rep {G:Hp}:∀ {ds:List D} {vs:List V} {ts:List Str},Reps K G ds vs→strsD ds=some ts→vs=ts.map V.str
 | [],vs,ts,h,e=>by
  simp only [Reps] at h
  subst h
  cases e
  rfl
 | d :: ds,vs,ts,h,e=>by
  simp only [Reps] at h
  obtain ⟨v,r,rfl,h1,h2⟩:=h
  cases d with
  | str x =>
   change (strsD ds).map (x :: ·)=_ at e
   cases q:strsD ds with
   | none=>rw [q] at e; cases e
   | some ts' =>
    rw [q] at e
    cases e
    obtain ⟨rfl,_⟩:=RepR.str (H:=G) (.inl h1)
    rw [strs_rep h2 q]
    rfl
  | _=>cases e
theorem reps_strs {G:Hp}:∀ {ts:List Str},ts.all PyData.strOk=true→Reps K G (ts.map D.str) (ts.map V.str)
 | [],_=>Reps.nil
 | t :: ts,h=>by
  rw [List.all_cons,Bool.and_eq_true] at h
  exact Reps.cons (by unfold Rep; exact ⟨rfl,h.1⟩) (reps_strs h.2)
theorem ok_joi (xo:XOk X K P C Γ) {s:Str} {a:Expr} {ca:E} {j:Nat} {p apos cpos:Pos} (hl:(apos.endLine == cpos.line)=true) (ns:notStar a=true) (ha:Ok3 X K P C a ca) :
  Ok3 X K P C (.Call (.Attribute (.Constant (.str s) j p) ("join":Str) apos) [a] [] cpos) (.joi s ca):=by
 have hpa:PA X [a] (tCons (tH K P C ca) tNil):=pa_cons ha.h pa_nil (star_ok ns _ _)
 have hall:[a].all notStar=true:=by rw [List.all_cons,ns]; rfl
 refine mk3 xo (TE.imp_pe (pe_bm PySem.F.plainAttrs_str PySem.F.slot_str_join PySem.F.type_str_join mt_join pe_str hpa rfl (by
   rw [Bool.and_eq_true,Bool.and_eq_true]; exact ⟨⟨(star_any hall _ _).2,rfl⟩,rfl⟩) hl (star_ok ns _ _) rfl) fun σ H Q q=>?_) (fun i z=>nomatch z) (fun ρ=>by simp only [ev,wrap_false]) fun _=>rfl
 obtain ⟨ρ,G,v,ρ',r,e,k⟩:=q
 simp only [ev,wrap_false] at e
 obtain ⟨x,ρ1,e1,e⟩:=bind_ok e
 obtain ⟨e2,rfl⟩:=done_ok e
 refine ⟨rfl,ρ,G,x,_,r,e1,fun y H1 G1 a1 ry=>?_⟩
 cases q:x.get ρ' with
 | none=>rw [q] at e2; cases e2
 | some d =>
  rw [q] at e2
  have hr:=ry.read a1.rel q
  change joinD s d=some v at e2
  cases d with
  | lst ds =>
   change (match strsD ds with | some ts=>_ | none=>none)=_ at e2
   cases qs:strsD ds with
   | none=>rw [qs] at e2; cases e2
   | some ts =>
    rw [qs] at e2
    simp only at e2
    split at e2
    ·rename_i hc
     cases e2
     obtain ⟨b,vs,rfl,h1,h2⟩:=hr.lst a1.rel.sub
     have:=strs_rep h2 qs
     subst this
     exact ⟨s,b,ts,rfl,rfl,by rw [xo.keq]; exact h1,hc.1,k _ _ _ a1 (by show Rep K G1 (.str _) _; unfold Rep; exact ⟨rfl,hc.2⟩)⟩
    ·cases e2
  | _=>cases e2
theorem ok_spl (xo:XOk X K P C Γ) {x s:Str} {i j:Nat} {p q apos cpos:Pos} (hi:Γ.slot x=some i) (hl:(apos.endLine == cpos.line)=true) :
  Ok3 X K P C (.Call (.Attribute (.Name x p) ("split":Str) apos) [.Constant (.str s) j q] [] cpos) (.spl i s):=by
 have hp:PE X (.Name x p) (tVar i):=CC.slot_ok xo hi
 have hpa:PA X [.Constant (.str s) j q] (tCons (tC (.str s)) tNil):=pa_cons pe_str pa_nil rfl
 refine mk3 xo (TE.imp_pe (pe_bm PySem.F.plainAttrs_str PySem.F.slot_str_split PySem.F.type_str_split mt_split hp hpa rfl (by rfl) hl rfl rfl) fun σ H Q q=>?_) (fun i z=>nomatch z) (fun ρ=>by simp only [ev,wrap_false]) fun _=>rfl
 obtain ⟨ρ,G,v,ρ',r,e,k⟩:=q
 simp only [ev,wrap_false] at e
 unfold splO at e
 split at e
 ·rename_i y hy
  split at e
  ·rename_i hc
   cases e
   obtain ⟨w,h1,h2⟩:=r.sh i _ hy
   obtain ⟨rfl,_⟩:=RepR.str (H:=H) (.inl h2)
   refine ⟨_,h1,rfl,y,s,rfl,rfl,hc.1,hc.2.1,fun l hl=>?_⟩
   obtain ⟨a2,v2⟩:=(Aft.refl r).own_new hl (reps_strs hc.2.2)
   exact k _ _ _ a2 v2
  ·cases e
 ·cases e
theorem ok_stw (xo:XOk X K P C Γ) {x s:Str} {i j:Nat} {p q apos cpos:Pos} (hi:Γ.slot x=some i) (hl:(apos.endLine == cpos.line)=true) :
  Ok3 X K P C (.Call (.Attribute (.Name x p) ("startswith":Str) apos) [.Constant (.str s) j q] [] cpos) (.stw i s):=by
 have hp:PE X (.Name x p) (tVar i):=CC.slot_ok xo hi
 have hpa:PA X [.Constant (.str s) j q] (tCons (tC (.str s)) tNil):=pa_cons pe_str pa_nil rfl
 refine mk3 xo (TE.imp_pe (pe_bm PySem.F.plainAttrs_str PySem.F.slot_str_startswith PySem.F.type_str_startswith mt_stw hp hpa rfl (by rfl) hl rfl rfl) fun σ H Q q=>?_) (fun i z=>nomatch z) (fun ρ=>by simp only [ev,wrap_false]) fun _=>rfl
 obtain ⟨ρ,G,v,ρ',r,e,k⟩:=q
 simp only [ev,wrap_false] at e
 unfold stwO at e
 split at e
 ·rename_i y hy
  cases e
  obtain ⟨w,h1,h2⟩:=r.sh i _ hy
  obtain ⟨rfl,_⟩:=RepR.str (H:=H) (.inl h2)
  exact ⟨_,h1,rfl,y,s,rfl,rfl,k _ _ _ (Aft.refl r) (by show Rep K G (.bl _) _; simp [Rep])⟩
 ·cases e
theorem strC_inv {e:Expr} {s:Str} (h:strC e=some s):∃ j p,e=.Constant (.str s) j p:=by
 cases e with
 | Constant c j p =>
  cases c with
  | str x =>
   change (if PyData.strOk x then some x else none)=_ at h
   split at h
   ·cases h; exact ⟨_,_,rfl⟩
   ·exact ono h
  | _=>exact ono h
 | _=>exact ono h
theorem ok_txt (xo:XOk X K P C Γ) {x m:Str} {a:Expr} {p apos cpos:Pos}:Ok3 X K P C (.Call (.Attribute (.Name x p) m apos) [a] [] cpos) (txtC Γ x m apos cpos a):=by
 unfold txtC
 split
 ·rename_i s i h1 h2
  obtain ⟨j,q,rfl⟩:=strC_inv h1
  split
  ·rename_i hc
   rw [Bool.and_eq_true] at hc
   have hm:=eq_of_beq hc.2
   subst hm
   exact ok_spl xo h2 hc.1
  ·split
   ·rename_i hc
    rw [Bool.and_eq_true] at hc
    have hm:=eq_of_beq hc.2
    subst hm
    exact ok_stw xo h2 hc.1
   ·exact ok_bad
 ·exact ok_bad
theorem ok_joiC (xo:XOk X K P C Γ) {s m:Str} {a:Expr} {ca:E} {j:Nat} {p apos cpos:Pos} (ha:Ok3 X K P C a ca):Ok3 X K P C (.Call (.Attribute (.Constant (.str s) j p) m apos) [a] [] cpos) (joiC s m apos cpos a ca):=by
 unfold joiC
 split
 ·rename_i hc
  rw [Bool.and_eq_true,Bool.and_eq_true,Bool.and_eq_true] at hc
  have hm:=eq_of_beq hc.1.2
  subst hm
  exact ok_joi xo hc.1.1.2 hc.1.1.1 ha
 ·exact ok_bad
end
structure AftS (K:PySem.W.Frag) (ρ:Env) (σ:St) (H G:Hp) (ρ':Env) (σ':St) (H' G':Hp):Prop where
 rel:Rel K ρ' σ' H' G'
 ext:Ext (Own ρ σ) H G H' G'
 own:∀ a,Own ρ' σ' a→Own ρ σ a∨H a=none
 un:∀ i:Nat,ρ'[i]?=some .un→ρ[i]?=some .un∧σ'[i]?=σ[i]?
 pin:∀ (i:Nat) d l,ρ[i]?=some (.ow d true l)→σ'[i]?=σ[i]?∧∃ d',ρ'[i]?=some (.ow d' true l)
 len:ρ'.length=ρ.length
section
variable {K:PySem.W.Frag} {ρ ρ' ρ1 ρ2:Env} {σ σ' σ1 σ2:St} {H G H' G' H1 G1 H2 G2:Hp}
theorem AftS.refl (r:Rel K ρ σ H G):AftS K ρ σ H G ρ σ H G:=⟨r,Ext.refl,fun _ h=>.inl h,fun _ h=>⟨h,rfl⟩,fun _ d _ h=>⟨rfl,d,h⟩,rfl⟩
theorem Aft.s (r:Rel K ρ σ H G) (a:Aft K ρ σ H G ρ' H' G'):AftS K ρ σ H G ρ' σ H' G':=by
 refine ⟨a.rel,a.ext,fun x h=>.inl (a.own x h),fun i h=>⟨?_,rfl⟩,fun i d l h=>⟨rfl, ?_⟩, ?_⟩
 ·have:=a.evo i
  rw [h] at this
  cases e:ρ[i]? with
  | none=>rw [e] at this; exact this.elim
  | some s=>rw [e] at this; cases s <;> first | rfl | exact this.elim
 ·have:=a.evo i
  rw [h] at this
  cases e:ρ'[i]? with
  | none=>rw [e] at this; exact this.elim
  | some s =>
   rw [e] at this
   cases s with
   | ow d' p' l'=>obtain ⟨rfl,rfl⟩:=this; exact ⟨d',rfl⟩
   | sh d'=>exact absurd (show true=false from this) (by simp)
   | _=>exact this.elim
 ·rw [a.rel.len,r.len]
theorem AftS.trans (a:AftS K ρ σ H G ρ1 σ1 H1 G1) (b:AftS K ρ1 σ1 H1 G1 ρ2 σ2 H2 G2):AftS K ρ σ H G ρ2 σ2 H2 G2:=by
 refine ⟨b.rel,a.ext.trans a.own b.ext,fun x h=>?_,fun i h=>?_,fun i d l h=>?_,b.len.trans a.len⟩
 ·rcases b.own x h with z | z
  ·exact a.own x z
  ·exact .inr (a.ext.hx x z)
 ·obtain ⟨h1,h2⟩:=b.un i h
  obtain ⟨h3,h4⟩:=a.un i h1
  exact ⟨h3,h2.trans h4⟩
 ·obtain ⟨h1,d',h2⟩:=a.pin i d l h
  obtain ⟨h3,h4⟩:=b.pin i d' l h2
  exact ⟨h3.trans h1,h4⟩
def FlowK (K:PySem.W.Frag) (ρ:Env) (σ:St) (H G:Hp) (ρ':Env) (D:Ends):Fl→Prop
 | .nx=>∀ σ' H' G',AftS K ρ σ H G ρ' σ' H' G'→D.nx σ' H'
 | .bk=>∀ σ' H' G',AftS K ρ σ H G ρ' σ' H' G'→D.bk σ' H'
 | .ct=>∀ σ' H' G',AftS K ρ σ H G ρ' σ' H' G'→D.ct σ' H'
 | .rt v=>∀ x σ' H' G',AftS K ρ σ H G ρ' σ' H' G'→VRep K H' G' (Own ρ' σ') (fun a=>Own ρ σ a∨H a=none) v x→D.rt x H'
 | .ex _=>False
theorem FlowK.pre {D:Ends} {fl:Fl} (a:AftS K ρ σ H G ρ1 σ1 H1 G1) (h:FlowK K ρ σ H G ρ' D fl):FlowK K ρ1 σ1 H1 G1 ρ' D fl:=by
 cases fl with
 | nx=>exact fun σ' H' G' b=>h σ' H' G' (a.trans b)
 | bk=>exact fun σ' H' G' b=>h σ' H' G' (a.trans b)
 | ct=>exact fun σ' H' G' b=>h σ' H' G' (a.trans b)
 | rt v=>exact fun x σ' H' G' b hv=>h x σ' H' G' (a.trans b) (hv.new_mono fun c z=>by
   rcases z with z | z
   ·exact a.own c z
   ·exact .inr (a.ext.hx c z))
 | ex e=>exact h
end
noncomputable def tS (K:PySem.W.Frag) (P:Pins) (C:Calls) (W:Nat) (c:S):TS:=fun D σ H=>∃ (ρ:Env) (G:Hp) (fl:Fl) (ρ':Env),Rel K ρ σ H G∧ex P C W c ρ=some (fl,ρ')∧FlowK K ρ σ H G ρ' D fl
noncomputable def tSs (K:PySem.W.Frag) (P:Pins) (C:Calls) (W:Nat) (c:List S):TS:=fun D σ H=>∃ (ρ:Env) (G:Hp) (fl:Fl) (ρ':Env),Rel K ρ σ H G∧exs P C W c ρ=some (fl,ρ')∧FlowK K ρ σ H G ρ' D fl
theorem TS.imp_ps {X:Cx} {e:Stmt} {t u:TS} (h:PS X e t) (w:∀ D σ H,u D σ H→t D σ H):PS X e u:=fun pins s σ H D I q=>h pins s σ H D I (w D σ H q)
theorem TS.imp_pss {X:Cx} {e:List Stmt} {t u:TS} (h:PSs X e t) (w:∀ D σ H,u D σ H→t D σ H):PSs X e u:=fun pins s σ H D I q=>h pins s σ H D I (w D σ H q)
section
variable {X:Cx} {K:PySem.W.Frag} {P:Pins} {C:Calls} {W:Nat} {Γ:CC}
theorem flow_ok {α:Type} {r:Res α} {f:α→Env→Run} {fl:Fl} {ρ:Env} (h:r.flow f=some (fl,ρ)) (n:∀ e,fl≠.ex e):∃ a ρ1,r=some (.ok a,ρ1)∧f a ρ1=some (fl,ρ):=by
 unfold Res.flow at h
 split at h
 ·cases h
 ·cases h; exact absurd rfl (n _)
 ·exact ⟨_,_,rfl,h⟩
theorem FlowK.ne {ρ ρ':Env} {σ:St} {H G:Hp} {D:Ends} {fl:Fl} (h:FlowK K ρ σ H G ρ' D fl):∀ e,fl≠.ex e:=fun e z=>by subst z; exact h
theorem pss_nilS:PSs X [] (tSs K P C W []):=TS.imp_pss pss_nil fun D σ H ⟨ρ,G,fl,ρ',r,e,k⟩=>by
 simp only [exs,Option.some.injEq,Prod.mk.injEq] at e
 obtain ⟨rfl,rfl⟩:=e
 exact k σ H G (AftS.refl r)
theorem pss_consS {st:Stmt} {rest:List Stmt} {c:S} {cs:List S} (h1:PS X st (tS K P C W c)) (h2:PSs X rest (tSs K P C W cs)):PSs X (st :: rest) (tSs K P C W (c :: cs)):=by
 refine TS.imp_pss (pss_cons h1 h2) fun D σ H ⟨ρ,G,fl,ρ',r,e,k⟩=>?_
 rw [exs] at e
 cases q:ex P C W c ρ with
 | none=>rw [q] at e; cases e
 | some y =>
  obtain ⟨fl1,ρ1⟩:=y
  rw [q] at e
  refine ⟨ρ,G,fl1,ρ1,r,q, ?_⟩
  cases fl1 with
  | nx=>exact fun σ1 H1 G1 a1=>⟨ρ1,G1,fl,ρ',a1.rel,e,k.pre a1⟩
  | bk=>cases e; exact k
  | ct=>cases e; exact k
  | rt v=>cases e; exact k
  | ex x=>cases e; exact k
theorem Rel.storeR {ρ ρ':Env} {σ:St} {H G:Hp} {new:Addr→Prop} {i:Nat} {v:RV} {x:V} (r:Rel K ρ σ H G) (e:store i v ρ=some ρ') (h:VRep K H G (Own ρ σ) new v x) :
  Rel K ρ' (σ.set i (some x)) H G∧(∀ a,Own ρ' (σ.set i (some x)) a→Own ρ σ a∨new a)∧(∀ j:Nat,ρ'[j]?=some .un→ρ[j]?=some .un∧(σ.set i (some x))[j]?=σ[j]?) ∧
  (∀ (j:Nat) d l,ρ[j]?=some (.ow d true l)→(σ.set i (some x))[j]?=σ[j]?∧∃ d',ρ'[j]?=some (.ow d' true l))∧ρ'.length=ρ.length:=by
 have key:∃ sl,i<ρ.length∧ρ'=ρ.set i sl∧(∀ d l,ρ[i]?≠some (.ow d true l))∧((∃ d,v=.sh d∧sl=.sh d)∨∃ d,v=.ow d∧sl=.ow d false false):=by
  unfold store at e
  split at e
  ·cases e
  ·cases e
  ·cases e
  ·rename_i s h1 h2 h3
   have hnp:∀ d l,ρ[i]?≠some (.ow d true l):=fun d l z=>by rw [h3] at z; cases z; exact h1 _ _ rfl
   have hlt:=(List.getElem?_eq_some_iff.mp h3).1
   cases v with
   | sh d=>cases e; exact ⟨_,hlt,rfl,hnp,.inl ⟨d,rfl,rfl⟩⟩
   | ow d=>cases e; exact ⟨_,hlt,rfl,hnp,.inr ⟨d,rfl,rfl⟩⟩
   | od d=>cases e
 obtain ⟨sl,hi,rfl,np,hs⟩:=key
 have his:i<σ.length:=by rw [← r.len]; exact hi
 have hx:(σ.set i (some x))[i]?=some (some x):=List.getElem?_set_self his
 have ne:∀ j:Nat,j≠i→(σ.set i (some x))[j]?=σ[j]?:=fun j h=>List.getElem?_set_ne (fun z=>h z.symm)
 have oth:∀ (j:Nat) s,(ρ.set i sl)[j]?=some s→(j=i∧s=sl)∨(j≠i∧ρ[j]?=some s):=fun j s h=>by
  rcases set_cases h with ⟨h1,h2,_⟩ | h
  ·exact .inl ⟨h1,h2⟩
  ·exact .inr h
 refine ⟨⟨by rw [List.length_set,List.length_set]; exact r.len,r.sub,fun j d h1=>?_,fun j d p l h1=>?_,fun j k d p l d' p' l' a h1 h2 h3 h4=>?_⟩,fun a ⟨j,d,p,l,h1,h2⟩=>?_,fun j h1=>?_,fun j d l h1=>?_,by rw [List.length_set]⟩
 ·rcases oth j _ h1 with ⟨rfl,z⟩ | ⟨nj,z⟩
  ·rcases hs with ⟨d0,rfl,rfl⟩ | ⟨d0,rfl,rfl⟩
   ·cases z; exact ⟨x,hx,h⟩
   ·cases z
  ·rw [ne j nj]; exact r.sh j d z
 ·rcases oth j _ h1 with ⟨rfl,z⟩ | ⟨nj,z⟩
  ·rcases hs with ⟨d0,rfl,rfl⟩ | ⟨d0,rfl,rfl⟩
   ·cases z
   ·cases z
    obtain ⟨a,rfl,g,o,_,_⟩:=h
    exact ⟨a,hx,g,o⟩
  ·rw [ne j nj]; exact r.ow j d p l z
 ·rcases oth j _ h1 with ⟨rfl,z⟩ | ⟨nj,z⟩
  ·rcases oth k _ h2 with ⟨rfl,z'⟩ | ⟨nk,z'⟩
   ·rfl
   ·rcases hs with ⟨d0,rfl,rfl⟩ | ⟨d0,rfl,rfl⟩
    ·cases z
    ·obtain ⟨b,rfl,g,o,no,_⟩:=h
     rw [hx] at h3; cases h3
     rw [ne k nk] at h4
     exact absurd ⟨k,_,_,_,z',h4⟩ no
  ·rcases oth k _ h2 with ⟨rfl,z'⟩ | ⟨nk,z'⟩
   ·rcases hs with ⟨d0,rfl,rfl⟩ | ⟨d0,rfl,rfl⟩
    ·cases z'
    ·obtain ⟨b,rfl,g,o,no,_⟩:=h
     rw [hx] at h4; cases h4
     rw [ne j nj] at h3
     exact absurd ⟨j,_,_,_,z,h3⟩ no
   ·rw [ne j nj] at h3
    rw [ne k nk] at h4
    exact r.inj _ _ _ _ _ _ _ _ _ z z' h3 h4
 ·rcases oth j _ h1 with ⟨rfl,z⟩ | ⟨nj,z⟩
  ·rcases hs with ⟨d0,rfl,rfl⟩ | ⟨d0,rfl,rfl⟩
   ·cases z
   ·obtain ⟨b,rfl,g,o,no,m⟩:=h
    rw [hx] at h2; cases h2
    exact .inr m
  ·rw [ne j nj] at h2; exact .inl ⟨j,d,p,l,z,h2⟩
 ·rcases oth j _ h1 with ⟨rfl,z⟩ | ⟨nj,z⟩
  ·rcases hs with ⟨d0,rfl,rfl⟩ | ⟨d0,rfl,rfl⟩ <;> cases z
  ·exact ⟨z,ne j nj⟩
 ·by_cases hj:j=i
  ·subst hj; exact absurd h1 (np d l)
  ·exact ⟨ne j hj,d,by rw [List.getElem?_set_ne (fun z=>hj z.symm)]; exact h1⟩
theorem Aft.store {ρ ρ1 ρ':Env} {σ:St} {H G H1 G1:Hp} {i:Nat} {v:RV} {x:V} (r:Rel K ρ σ H G) (a:Aft K ρ σ H G ρ1 H1 G1) (e:store i v ρ1=some ρ') (h:VRep K H1 G1 (Own ρ1 σ) (Fresh H) v x):AftS K ρ σ H G ρ' (σ.set i (some x)) H1 G1:=by
 obtain ⟨h1,h2,h3,h4,h5⟩:=a.rel.storeR e h
 have s:=Aft.s r a
 refine ⟨h1,a.ext,fun b z=>?_,fun j z=>?_,fun j d l z=>?_,h5.trans s.len⟩
 ·rcases h2 b z with z | z
  ·exact s.own b z
  ·exact .inr z
 ·obtain ⟨z1,z2⟩:=h3 j z
  obtain ⟨z3,z4⟩:=s.un j z1
  exact ⟨z3,z2⟩
 ·obtain ⟨_,d',z2⟩:=s.pin j d l z
  exact h4 j d' l z2
theorem Rel.store1 {ρ ρ':Env} {σ:St} {H G:Hp} {i:Nat} {d:D} {x:V} (r:Rel K ρ σ H G) (e:store i (.sh d) ρ=some ρ') (h:Rep K G d x):AftS K ρ σ H G ρ' (σ.set i (some x)) H G :=
 Aft.store r (Aft.refl r) e h
noncomputable def gB (K:PySem.W.Frag) (one:Bool) (is:List Nat):TG:=fun v σ H Q=>∃ (ρ:Env) (G:Hp) (d:D) (ρ':Env),Rel K ρ σ H G∧Rep K G d v∧bindT one is d ρ=some ρ'∧∀ σ',AftS K ρ σ H G ρ' σ' H G→Q σ' H
noncomputable def gBs (K:PySem.W.Frag) (is:List Nat):TGs:=fun vs σ H Q=>∃ (ρ:Env) (G:Hp) (ds:List D) (ρ':Env),Rel K ρ σ H G∧Reps K G ds vs∧stores is ds ρ=some ρ'∧∀ σ',AftS K ρ σ H G ρ' σ' H G→Q σ' H
theorem pg_one {tg:Expr} {i:Nat} (h:PG X tg (gName i)):PG X tg (gB K true [i]):=fun pins s σ H v u Q I rv ⟨ρ,G,d,ρ',r,hd,e,k⟩ =>
 h pins s σ H v u Q I rv (k _ (r.store1 (by simpa only [bindT] using e) hd))
theorem pgs_nilB:PGs X [] (gBs K []):=fun pins s σ H vs us Q I rv ⟨ρ,G,ds,ρ',r,hd,e,k⟩=>by
 cases ds with
 | nil =>
  simp only [stores,Option.some.injEq] at e
  subst e
  simp only [Reps] at hd
  subst hd
  exact pgs_nil pins s σ H [] us Q I rv ⟨rfl,k σ (AftS.refl r)⟩
 | cons d ds=>simp [stores] at e
theorem pgs_consB {e:Expr} {es:List Expr} {i:Nat} {is:List Nat} (h:PG X e (gName i)) (t:PGs X es (gBs K is)) (hs:(assignEach (e :: es) X.env).map (·.2)=assign e X.env :: (assignEach es X.env).map (·.2)):PGs X (e :: es) (gBs K (i :: is)) :=
 fun pins s σ H vs us Q I rv ⟨ρ,G,ds,ρ',r,hd,e,k⟩=>by
  cases ds with
  | nil=>simp [stores] at e
  | cons d ds =>
   simp only [stores] at e
   cases q:store i (.sh d) ρ with
   | none=>rw [q] at e; cases e
   | some ρ1 =>
    rw [q] at e
    simp only [Reps] at hd
    obtain ⟨v,r',rfl,h1,h2⟩:=hd
    have a1:=r.store1 q h1
    exact pgs_cons h t hs pins s σ H (v :: r') us Q I rv ⟨v,r',rfl,ρ1,G,ds,ρ',a1.rel,h2,e,fun σ' a2=>k σ' (a1.trans a2)⟩
theorem stores_len:∀ {is:List Nat} {ds:List D} {ρ ρ':Env},stores is ds ρ=some ρ'→ds.length=is.length
 | [],[],_,_,_=>rfl
 | [],_ :: _,_,_,e=>by simp [stores] at e
 | _ :: _,[],_,_,e=>by simp [stores] at e
 | i :: is,d :: ds,ρ,ρ',e=>by
  simp only [stores] at e
  cases q:store i (.sh d) ρ with
  | none=>rw [q] at e; cases e
  | some ρ1=>rw [q] at e; simp [stores_len e]
theorem pg_many (xo:XOk X K P C Γ) {es:List Expr} {k0:Nat} {pos:Pos} {is:List Nat} (t:PGs X es (gBs K is)) (hn:(assignEach es X.env).length=is.length) (hst:(assignEach es X.env).findIdx? (·.1)=none):PG X (.Tuple es k0 pos) (gB K false is) :=
 fun pins s σ H v u Q I rv ⟨ρ,G,d,ρ',r,hd,e,k⟩=>by
  cases d with
  | tup ds =>
   simp only [bindT] at e
   simp only [Rep] at hd
   obtain ⟨a,vs,rfl,h1,h2⟩:=hd
   refine pg_tup xo.calm t hn hst pins s σ H (.ref a) u Q I rv ⟨a,vs,rfl, ?_, ?_,ρ,G,ds,ρ',r,h2,e,k⟩
   ·rw [xo.keq]; exact sqT_mono r.sub h1
   ·rw [h2.len]; exact stores_len e
  | _=>simp only [bindT,reduceCtorEq] at e
end
mutual
noncomputable def walksS (x:Str):Stmt→Bool
 | .For _ it body _ _=>(nameOf it == some x) || walksSs x body
 | .If _ a b _=>walksSs x a || walksSs x b
 | _=>false
noncomputable def walksSs (x:Str):List Stmt→Bool
 | []=>false
 | s :: r=>walksS x s || walksSs x r
end
noncomputable def itE (Γ:CC) (it:Expr) (body:List Stmt) (cs:List E):List E:=cs
noncomputable def rseC (Γ:CC):Expr→S
 | .Call (.Name x _) args [] _=>if args.all notStar && (decide (args≠[]) && decide (args.length≤100)) then (match Γ.glob x with | .exc=>.rse x (cEs Γ args) | _=>.bad) else .bad
 | _=>.bad
noncomputable def tryO1 (cb:List S) (hs:List ExceptHandler) (o f:List Stmt):S:=match hs with
 | [.ExceptHandler (some _) none [_] _]=>if o.isEmpty && f.isEmpty then .tryO cb else .bad
 | _=>.bad
noncomputable def tryC (Γ:CC) (cb:List S) (hs:List ExceptHandler) (o f:List Stmt):S:=tryO1 cb hs o f
noncomputable def retC (e:Expr) (c:E):S:=.ret c
noncomputable def scrOf (Γ:CC) (s:Stmt) (r:List Stmt):Option (Nat × Nat × E × E):=none
noncomputable def scrW (o:Option (Nat × Nat × E × E)) (c:S) (cs:List S):List S :=
 match o with
 | none=>c :: cs
 | some (i,j,ce,cc)=>.scr i j ce cc :: cs.drop 3
mutual
noncomputable def cS (Γ:CC):Stmt→S
 | .Pass _=>.pass
 | .Break _=>.brk
 | .Continue _=>.cnt
 | .Return (some e) _=>retC e (cE Γ e)
 | .Return none _=>.retN
 | .Expr e _=>if notComp e then .expr (cE Γ e) else .bad
 | .If c a b _=>.ifs (cE Γ c) (cSs Γ a) (cSs Γ b)
 | .While c body [] _=>.bad
 | .For tg it body [] _=>match tgOf Γ tg,itOf Γ it with
  | some (one,is),some (k,its)=>if tgFit k one then .for is one k (itE Γ it body (cEs Γ its)) (cSs Γ body) else .bad
  | _,_=>.bad
 | .Assign [.Name x _] e _=>match Γ.slotL x with
  | some i=>if notComp e || isLC e then .asg i (cE Γ e) else .bad
  | none=>.bad
 | .Assign [.Tuple ts _ _] e _=>match tgNames Γ ts with
  | some is=>if notComp e && notTup e then .asgT is (cE Γ e) else .bad
  | none=>.bad
 | .Assign [.Subscript (.Name x _) k _] e _=>match Γ.slot x with
  | some i=>if notComp e && notSlice k then .set i (cE Γ k) (cE Γ e) else .bad
  | none=>.bad
 | .AugAssign (.Name x _) .Add e _=>(match Γ.slotL x with
  | some i=>if notComp e then .bad else .bad
  | none=>.bad)
 | .Raise (some e) none _=>rseC Γ e
 | .Try body hs o f _=>tryC Γ (cSs Γ body) hs o f
 | _=>.bad
noncomputable def cSs (Γ:CC):List Stmt→List S
 | []=>[]
 | s :: r=>scrW (scrOf Γ s r) (cS Γ s) (cSs Γ r)
end
section
variable {X:Cx} {K:PySem.W.Frag} {P:Pins} {C:Calls} {W:Nat} {Γ:CC}
theorem swaps_ok {e:Expr} (h:notComp e=true) (t:Option Expr) (line:Nat) (env:PySem.Env):swapsWith e t line env=pure false:=by
 cases e <;> first | rfl | cases h
theorem swapsSole_ok {e:Expr} (h:notComp e=true) (t:Expr) (line:Nat) (env:PySem.Env):swapsWithSole [t] e line env=pure false:=swaps_ok h _ _ _
theorem ps_badS {st:Stmt} {c:S} (h:∀ ρ,ex P C W c ρ=none):PS X st (tS K P C W c):=fun pins s σ H D I ⟨ρ,G,fl,ρ',r,e,k⟩=>by rw [h] at e; cases e
theorem ps_bad {st:Stmt}:PS X st (tS K P C W .bad):=ps_badS fun ρ=>by rw [ex]
theorem ps_passS {pos:Pos}:PS X (.Pass pos) (tS K P C W .pass):=TS.imp_ps ps_pass fun D σ H ⟨ρ,G,fl,ρ',r,e,k⟩=>by
 simp only [ex,Option.some.injEq,Prod.mk.injEq] at e
 obtain ⟨rfl,rfl⟩:=e
 exact k σ H G (AftS.refl r)
theorem ps_brkS {pos:Pos}:PS X (.Break pos) (tS K P C W .brk):=TS.imp_ps ps_break fun D σ H ⟨ρ,G,fl,ρ',r,e,k⟩=>by
 simp only [ex,Option.some.injEq,Prod.mk.injEq] at e
 obtain ⟨rfl,rfl⟩:=e
 exact k σ H G (AftS.refl r)
theorem ps_cntS {pos:Pos}:PS X (.Continue pos) (tS K P C W .cnt):=TS.imp_ps ps_continue fun D σ H ⟨ρ,G,fl,ρ',r,e,k⟩=>by
 simp only [ex,Option.some.injEq,Prod.mk.injEq] at e
 obtain ⟨rfl,rfl⟩:=e
 exact k σ H G (AftS.refl r)
theorem ps_exprS {e:Expr} {c:E} {pos:Pos} (h:Ok3 X K P C e c) (n:notComp e=true):PS X (.Expr e pos) (tS K P C W (.expr c)):=by
 refine TS.imp_ps (ps_expr h.v (swaps_ok n _ _ _)) fun D σ H ⟨ρ,G,fl,ρ',r,e,k⟩=>?_
 simp only [ex] at e
 obtain ⟨v,ρ1,e1,e2⟩:=flow_ok e k.ne
 cases e2
 exact ⟨ρ,G,v,_,r,e1,fun x H' G' a hv=>k σ H' G' (Aft.s r a)⟩
theorem ps_retNS {pos:Pos}:PS X (.Return none pos) (tS K P C W .retN):=TS.imp_ps ps_retN fun D σ H ⟨ρ,G,fl,ρ',r,e,k⟩=>by
 simp only [ex,Option.some.injEq,Prod.mk.injEq] at e
 obtain ⟨rfl,rfl⟩:=e
 exact k .non σ H G (AftS.refl r) (by show Rep K G .non _; simp [Rep])
theorem Rel.give {ρ:Env} {σ:St} {H G:Hp} (r:Rel K ρ σ H G) {i:Nat} {d:D} {l:Bool} {a:Addr} (h:ρ[i]?=some (.ow d false l)) (hx:σ[i]?=some (some (.ref a))) :
  AftS K ρ σ H G (ρ.set i .mv) σ H G∧VRep K H G (Own (ρ.set i .mv) σ) (fun a=>Own ρ σ a∨H a=none) (.ow d) (.ref a):=by
 have key:∀ (j:Nat) (sl:Sl),(ρ.set i .mv)[j]?=some sl→(j=i∧sl=.mv)∨(j≠i∧ρ[j]?=some sl):=fun j sl z=>by
  rcases set_cases z with ⟨e,z,_⟩ | z
  ·exact .inl ⟨e,z⟩
  ·exact .inr z
 obtain ⟨b,h1,g,o⟩:=r.ow i d false l h
 rw [hx] at h1; cases h1
 have own':∀ c,Own (ρ.set i .mv) σ c→Own ρ σ c∧c≠a:=fun c ⟨j,d',p',l',z,w⟩=>by
  rcases key j _ z with ⟨_,q⟩ | ⟨nj,q⟩
  ·cases q
  ·refine ⟨⟨j,d',p',l',q,w⟩,fun z=>?_⟩
   subst z
   exact nj (r.inj _ _ _ _ _ _ _ _ _ q h w hx)
 refine ⟨⟨⟨by rw [List.length_set]; exact r.len,r.sub,fun j d' z=>?_,fun j d' p' l' z=>?_,fun j k d1 p1 l1 d2 p2 l2 c z1 z2 z3 z4=>?_⟩,Ext.refl,fun c z=>.inl (own' c z).1,fun j z=>?_,fun j d' l' z=>⟨rfl,d', ?_⟩,by rw [List.length_set]⟩,a,rfl,g,o,fun z=>(own' a z).2 rfl,.inl ⟨i,d,false,l,h,hx⟩⟩
 ·rcases key j _ z with ⟨_,q⟩ | ⟨nj,q⟩
  ·cases q
  ·exact r.sh j d' q
 ·rcases key j _ z with ⟨_,q⟩ | ⟨nj,q⟩
  ·cases q
  ·exact r.ow j d' p' l' q
 ·rcases key j _ z1 with ⟨_,q⟩ | ⟨nj,q⟩
  ·cases q
  ·rcases key k _ z2 with ⟨_,q'⟩ | ⟨nk,q'⟩
   ·cases q'
   ·exact r.inj _ _ _ _ _ _ _ _ _ q q' z3 z4
 ·rcases key j _ z with ⟨_,q⟩ | ⟨nj,q⟩
  ·cases q
  ·exact ⟨q,rfl⟩
 ·have nj:j≠i:=fun w=>by subst w; rw [h] at z; cases z
  rw [List.getElem?_set_ne (fun w=>nj w.symm)]; exact z
theorem ps_retS {e:Expr} {c:E} {pos:Pos} (h:Ok3 X K P C e c):PS X (.Return (some e) pos) (tS K P C W (.ret c)):=by
 by_cases hv:∃ i,c=.var i
 ·obtain ⟨i,rfl⟩:=hv
  refine TS.imp_ps (ps_ret h.h) fun D σ H ⟨ρ,G,fl,ρ',r,e,k⟩=>?_
  simp only [ex] at e
  split at e
  ·rename_i d l hd
   cases e
   obtain ⟨a,h1,g,o⟩:=r.ow i d false l hd
   refine ⟨ρ,G,.slot i,ρ,r,by simp [hd,hd,Sl.get,CI.hd],fun x H' G' a1 hx=>?_⟩
   obtain ⟨a',h1',g',o'⟩:=a1.rel.ow i d false l hd
   have hx:σ[i]?=some (some x):=hx
   rw [hx] at h1'; cases h1'
   obtain ⟨s1,v1⟩:=a1.rel.give hd hx
   exact (k.pre (Aft.s r a1)) _ σ H' G' s1 v1
  ·rename_i d hd
   cases e
   obtain ⟨v,h1,h2⟩:=r.sh i d hd
   refine ⟨ρ,G,.slot i,ρ,r,by simp [hd,Sl.get,CI.hd],fun x H' G' a1 hx=>?_⟩
   obtain ⟨v',h1',h2'⟩:=a1.rel.sh i d hd
   have hx:σ[i]?=some (some x):=hx
   rw [hx] at h1'; cases h1'
   exact k x σ H' G' (Aft.s r a1) h2'
  ·cases e
 ·refine TS.imp_ps (ps_ret h.v) fun D σ H ⟨ρ,G,fl,ρ',r,e,k⟩=>?_
  have e':(ev P C false c ρ).flow (fun v ρ1=>some (.rt v,ρ1))=some (fl,ρ'):=by
   cases c <;> first | exact absurd ⟨_,rfl⟩ hv | (simpa only [ex] using e)
  obtain ⟨v,ρ1,e1,e2⟩:=flow_ok e' k.ne
  cases e2
  exact ⟨ρ,G,v,_,r,e1,fun x H' G' a hv=>k x σ H' G' (Aft.s r a) (hv.new_mono fun a z=>.inr z)⟩
theorem ps_ifS {c:Expr} {a b:List Stmt} {cc:E} {ca cb:List S} {pos:Pos} (hc:Ok3 X K P C c cc) (ha:PSs X a (tSs K P C W ca)) (hb:PSs X b (tSs K P C W cb)):PS X (.If c a b pos) (tS K P C W (.ifs cc ca cb)):=by
 refine TS.imp_ps (ps_if hc.t ha hb) fun D σ H ⟨ρ,G,fl,ρ',r,e,k⟩=>?_
 simp only [ex] at e
 obtain ⟨v,ρ1,e1,e2⟩:=flow_ok e k.ne
 split at e2
 ·refine ⟨ρ,G,true,ρ1,r,e1,fun H1 G1 a1=>?_⟩
  refine iteT ?_
  exact ⟨ρ1,G1,fl,ρ',a1.rel,e2,k.pre (Aft.s r a1)⟩
 ·refine ⟨ρ,G,false,ρ1,r,e1,fun H1 G1 a1=>?_⟩
  refine iteF ?_
  exact ⟨ρ1,G1,fl,ρ',a1.rel,e2,k.pre (Aft.s r a1)⟩
 ·cases e2
theorem slotL_ok {qq:Bool} (xo:XOkB qq X K P C Γ) (hfn:∀ x,Γ.isLoc x=true→X.fn x=true∨X.env.scope.names.lookup x=some .local) {x:Str} {i:Nat} (h:Γ.slotL x=some i) {pos:Pos}:PG X (.Name x pos) (gName i):=by
 unfold CC.slotL at h
 split at h
 ·rename_i hl
  have hN:X.N[i]?=some x:=by
   unfold CC.slot at h
   split at h
   ·cases h
   ·split at h
    ·rw [xo.neq]; exact idxOf_get h
    ·cases h
  refine pg_name (by rw [xo.neq]; exact xo.nd) hN ?_ (hfn x hl)
  unfold L2.Loc
  rw [xo.nm]
  unfold CC.isLoc at hl
  rw [Bool.or_eq_true,Bool.and_eq_true] at hl
  rcases hl with hl | hl
  ·exact .inl (eq_of_beq hl)
  ·exact .inr (eq_of_beq hl.2)
 ·cases h
theorem ps_asgS {qq:Bool} (xo:XOkB qq X K P C Γ) (hfn:∀ x,Γ.isLoc x=true→X.fn x=true∨X.env.scope.names.lookup x=some .local) {x:Str} {i:Nat} {e:Expr} {c:E} {p pos:Pos} (hi:Γ.slotL x=some i) (h:Ok3 X K P C e c) (n:notComp e=true):PS X (.Assign [.Name x p] e pos) (tS K P C W (.asg i c)):=by
 refine TS.imp_ps (ps_asg h.v (slotL_ok xo hfn hi) (swapsSole_ok n _ _ _)) fun D σ H ⟨ρ,G,fl,ρ',r,e,k⟩=>?_
 simp only [ex] at e
 obtain ⟨v,ρ1,e1,e2⟩:=flow_ok e k.ne
 unfold goOn at e2
 cases q:store i v ρ1 with
 | none=>rw [q] at e2; cases e2
 | some ρ2 =>
  rw [q] at e2
  cases e2
  exact ⟨ρ,G,v,ρ1,r,e1,fun x H' G' a hv=>k _ H' G' (Aft.store r a q hv)⟩
theorem tgNames_ok (xo:XOk X K P C Γ) (hfn:∀ x,Γ.isLoc x=true→X.fn x=true∨X.env.scope.names.lookup x=some .local):∀ {ts:List Expr} {is:List Nat},tgNames Γ ts=some is→PGs X ts (gBs K is)∧(assignEach ts X.env).length=is.length∧(assignEach ts X.env).findIdx? (·.1)=none∧ts.length=is.length
 | [],is,h=>by cases h; exact ⟨pgs_nilB,rfl,rfl,rfl⟩
 | e :: es,is,h=>by
  simp only [tgNames] at h
  cases q:tgName Γ e with
  | none=>rw [q] at h; cases h
  | some i =>
   rw [q] at h
   simp only [Option.bind_some] at h
   cases q2:tgNames Γ es with
   | none=>rw [q2] at h; cases h
   | some is' =>
    rw [q2] at h
    cases h
    obtain ⟨h1,h2,h3,h4⟩:=tgNames_ok xo hfn q2
    cases e <;> simp only [tgName,reduceCtorEq] at q
    refine ⟨pgs_consB (slotL_ok xo hfn q) h1 rfl, ?_, ?_,by simp [h4]⟩
    ·show (assignEach es X.env).length+1=is'.length+1
     rw [h2]
    ·show ((false,_) :: assignEach es X.env).findIdx? (·.1)=none
     rw [List.findIdx?_cons,h3]
     rfl
theorem swapped_none {ts:List Expr} {k0:Nat} {p:Pos} {e:Expr} (h:notTup e=true) (env:PySem.Env):swappedStores [.Tuple ts k0 p] e env=pure none:=by
 cases e <;> first | rfl | cases h
theorem ps_asgTS (xo:XOk X K P C Γ) (hfn:∀ x,Γ.isLoc x=true→X.fn x=true∨X.env.scope.names.lookup x=some .local) {ts:List Expr} {is:List Nat} {e:Expr} {c:E} {k0:Nat} {p pos:Pos} (hi:tgNames Γ ts=some is) (h:Ok3 X K P C e c) (n:notComp e=true) (n2:notTup e=true):PS X (.Assign [.Tuple ts k0 p] e pos) (tS K P C W (.asgT is c)):=by
 obtain ⟨h1,h2,h3,h4⟩:=tgNames_ok xo hfn hi
 refine TS.imp_ps (ps_asg h.v (pg_many xo h1 h2 h3) (swapsSole_ok n _ _ _) (swapped_none n2 _)) fun D σ H ⟨ρ,G,fl,ρ',r,e,k⟩=>?_
 simp only [ex] at e
 obtain ⟨v,ρ1,e1,e2⟩:=flow_ok e k.ne
 unfold goOn at e2
 cases q:bindT false is v.d ρ1 with
 | none=>rw [q] at e2; cases e2
 | some ρ2 =>
  rw [q] at e2
  cases e2
  refine ⟨ρ,G,v,ρ1,r,e1,fun x H' G' a hv=>?_⟩
  obtain ⟨G2,a2,r2⟩:=a.share hv
  exact ⟨ρ1,G2,v.d,_,a2.rel,r2,q,fun σ' b=>k σ' H' G2 ((Aft.s r a2).trans b)⟩
theorem isDs_ok {ρ:Env} {i:Nat} (h:isDs ρ i=true):∃ kvs p l,ρ[i]?=some (.ow (.dcs kvs) p l):=by
 unfold isDs at h
 split at h
 ·rename_i d p l e; exact ⟨d,p,l,e⟩
 ·cases h
noncomputable def rSetD (K:PySem.W.Frag):TSet:=fun o i v H Q=>∃ a xs k b,o=.ref a∧i=.ref b∧DS K H a xs∧KeyAt K H k b∧xs.length<sizeLine∧∀ u,RelV v u→((storedH xs k b u).map (·.1)).Nodup→Q (upd H a (.ext (DRaw a (storedH xs k b u))))
noncomputable def rSetM:TSet:=fun _ _ _ _ _=>False
theorem set_both (hu:X.A.units+9<cLine):PSet X (fun o i v H Q=>rSetL o i v H Q∨rSetM o i v H Q∨rSetD X.K o i v H Q):=by
 intro pins s σ H o i v ov iv u Q I ro ri rv h
 rcases h with h | h | ⟨a,xs,k,b,rfl,rfl,d,kk,hl,q⟩
 ·exact set_list pins s σ H o i v ov iv u Q I ro ri rv h
 ·exact h.elim
 ·cases ro
  cases ri
  exact s_setItem hu I d kk hl fun s' I' nd=>⟨_,I',q _ rv nd⟩
theorem ps_setS (xo:XOk X K P C Γ) {x:Str} {i:Nat} {e j:Expr} {c cj:E} {p p2 pos:Pos} (hi:Γ.slot x=some i) (h:Ok3 X K P C e c) (hj:Ok3 X K P C j cj) (n:notComp e=true)
  (ha:∀ v,assign (.Subscript (.Name x p) j p2) X.env v=(do
   let ov ← holding [v] (eval (.Name x p) X.env)
   let iv ← holding [v,ov] (eval j X.env)
   standAt p2
   holding [v,ov,iv] (setItem ov iv v)
   release [v,ov,iv] [])):PS X (.Assign [.Subscript (.Name x p) j p2] e pos) (tS K P C W (.set i cj c)):=by
 have hp:PE X (.Name x p) (tVar i):=CC.slot_ok xo hi
 refine TS.imp_ps (ps_asg h.v (pg_sub hp hj.v (xo.keq ▸ set_both (by have:=xo.hu; omega)) ha) (swapsSole_ok n _ _ _)) fun D σ H ⟨ρ,G,fl,ρ',r,e,k⟩=>?_
 simp only [ex] at e
 obtain ⟨v,ρ1,e1,e2⟩:=flow_ok e k.ne
 split at e2
 ·rename_i ho
  obtain ⟨w,ρ2,e3,e4⟩:=flow_ok e2 k.ne
  split at e4
  ·rename_i ds p1 nn hs hw
   unfold goOn at e4
   cases q:ixN ds.length nn with
   | none=>rw [q] at e4; cases e4
   | some m =>
    rw [q] at e4
    cases e4
    refine ⟨ρ,G,v,ρ1,r,e1,fun y H1 G1 a1 hv=>?_⟩
    obtain ⟨d0,p0,l0,h0⟩:=isOw_ok ho
    obtain ⟨b,hb,g0,o0⟩:=a1.rel.ow i _ p0 l0 h0
    refine ⟨.ref b,hb,ρ1,G1,w,ρ2,a1.rel,e3,fun z H2 G2 a2 hz=>?_⟩
    have hv2:=hv.wait a2.ext fun a z=>.inl (a2.own a z)
    obtain ⟨G3,a3,r3⟩:=(a1.trans a2).share hv2
    obtain ⟨b',hb',g1,vs,hvs,hr⟩:=a3.rel.ow i _ _ _ hs
    rw [hb] at hb'; cases hb'
    have hzi:=hz.readR
    rw [hw] at hzi
    cases hzi.int
    have a4:=a3.rel.write hs hb (hr.set r3 m)
    exact .inl ⟨b,vs,nn,m,rfl,rfl,hvs,by rw [hr.len]; exact q,k σ _ _ (Aft.s r (a3.trans a4))⟩
  ·cases e4
 ·split at e2
  ·rename_i ho
   obtain ⟨w,ρ2,e3,e4⟩:=flow_ok e2 k.ne
   unfold setS at e4
   split at e4
   ·rename_i kvs p1 k0 m hs hk
    split at e4
    ·rename_i hz
     cases e4
     refine ⟨ρ,G,_,ρ1,r,e1,fun y H1 G1 a1 hv=>?_⟩
     obtain ⟨d0,p0,l0,h0⟩:=isDs_ok ho
     obtain ⟨b,hb,g0,o0⟩:=a1.rel.ow i _ p0 l0 h0
     refine ⟨.ref b,hb,ρ1,G1,w,ρ2,a1.rel,e3,fun z H2 G2 a2 hz2=>?_⟩
     have hv:Rep K G1 (.int m) y:=hv
     simp only [Rep] at hv
     subst hv
     obtain ⟨G3,a20,r3⟩:=a2.share hz2
     have a3:=a1.trans a20
     obtain ⟨b0,rfl,kk⟩:=key_rep (H:=H2) hk (.inl r3)
     obtain ⟨b',hb',g1,xs,hx,nd,hl,sm,hks,pr⟩:=a3.rel.ow i _ _ _ hs
     rw [hb] at hb'; cases hb'
     have hsm:xs.length<sizeLine:=by
      have h1:=smallL_ok hz
      have h2:=Paired.length pr
      omega
     refine .inr (.inr ⟨b,xs,k0,b0,rfl,rfl,⟨hx,nd,hl,sm,fun x hx=>KeyAt.mono a3.rel.sub (hks x hx)⟩,KeyAt.mono a3.rel.sub kk,hsm,fun u ru nd2=>?_⟩)
     obtain ⟨t,rfl⟩:=ru
     have a4:=a3.rel.writeO (ob:=.ext (DRaw b (storedH xs k0 b0 (.int m t)))) (d':=.dcs (putS kvs k0 m)) hs hb ⟨_,upd_same,nd2,Nat.le_trans storedH_len hsm,sm,storedH_keys hks kk,put_ps pr⟩
     exact k σ _ _ (Aft.s r (a3.trans a4))
    ·cases e4
   ·cases e4
  ·cases e2
end
section
variable {X:Cx} {K:PySem.W.Frag} {P:Pins} {C:Calls} {W:Nat} {Γ:CC}
theorem takeOut_rel {ρ:Env} {σ:St} {H G:Hp} {o:Option Nat} (r:Rel K ρ σ H G):Rel K (takeOut o ρ) σ H G∧∀ a,Own (takeOut o ρ) σ a→Own ρ σ a:=by
 cases o with
 | none=>exact ⟨r,fun _ z=>z⟩
 | some i=>exact ⟨r.unset i,fun _ z=>z.unset⟩
theorem putBack_aft {ρ1 ρf ρ':Env} {σ σf:St} {H1 G1 Hf Gf:Hp} {o:Option Nat} (r:Rel K ρ1 σ H1 G1) (ho:∀ i,o=some i→∃ d p l,ρ1[i]?=some (.ow d p l)) (e:putBack o ρ1 ρf=some ρ') (a:AftS K (takeOut o ρ1) σ H1 G1 ρf σf Hf Gf) :
  AftS K ρ1 σ H1 G1 ρ' σf Hf Gf∧∀ c,Own ρ' σf c→Own ρf σf c∨(Own ρ1 σ c∧¬ Own (takeOut o ρ1) σ c):=by
 cases o with
 | none =>
  simp only [putBack,Option.some.injEq] at e
  subst e
  exact ⟨a,fun _ z=>.inl z⟩
 | some i =>
  obtain ⟨d,p,l,hi⟩:=ho i rfl
  obtain ⟨b,hb,g,ob⟩:=r.ow i d p l hi
  have hob:Own ρ1 σ b:=⟨i,d,p,l,hi,hb⟩
  have nob:¬ Own (ρ1.set i .un) σ b:=r.unset_not hi hb
  have hne:H1 b≠none:=(r.owned hob).1
  simp only [putBack] at e
  split at e
  ·rename_i sl hf hs
   rw [hi] at hs; cases hs
   cases e
   obtain ⟨hu1,hu2⟩:=a.un i hf
   have hx:σf[i]?=some (some (.ref b)):=hu2.trans hb
   have gb:Gf b=none:=a.ext.gn b hne g nob
   have of:OwRep K Hf Gf b d:=ob.mono a.ext.gg fun o' h'=>a.ext.hh b o' h' nob
   have nf:¬ Own ρf σf b:=fun z=>by
    rcases a.own b z with z | z
    ·exact nob z
    ·exact hne z
   have rf:Rel K (ρf.set i (.ow d p l)) σf Hf Gf:=(a.rel.unset i).put_ow hx gb of fun z=>nf z.unset
   have own':∀ c,Own (ρf.set i (.ow d p l)) σf c→c=b∨Own ρf σf c:=fun c z=>by
    rcases z.put_ow hx with z | z
    ·exact .inl z
    ·exact .inr z.unset
   refine ⟨⟨rf,a.ext.weaken fun c z=>z.unset,fun c z=>?_,fun j z=>?_,fun j d' l' z=>?_,by rw [List.length_set,a.len]; exact List.length_set⟩,fun c z=>?_⟩
   ·rcases own' c z with rfl | z
    ·exact .inl hob
    ·rcases a.own c z with z | z
     ·exact .inl z.unset
     ·exact .inr z
   ·rcases set_cases z with ⟨_,w,_⟩ | ⟨nj,w⟩
    ·cases w
    ·obtain ⟨w1,w2⟩:=a.un j w
     have w1':(ρ1.set i .un)[j]?=some .un:=w1
     rw [List.getElem?_set_ne (fun q=>nj q.symm)] at w1'
     exact ⟨w1',w2⟩
   ·by_cases hj:j=i
    ·subst hj
     rw [hi] at z; cases z
     refine ⟨hu2,d, ?_⟩
     rw [List.getElem?_set_self (List.getElem?_eq_some_iff.mp hf).1]
    ·have z':(takeOut (some i) ρ1)[j]?=some (.ow d' true l'):=by
      show (ρ1.set i .un)[j]?=_
      rw [List.getElem?_set_ne (fun q=>hj q.symm)]; exact z
     obtain ⟨w1,d2,w2⟩:=a.pin j d' l' z'
     exact ⟨w1,d2,by rw [List.getElem?_set_ne (fun q=>hj q.symm)]; exact w2⟩
   ·rcases own' c z with rfl | z
    ·exact .inr ⟨hob,nob⟩
    ·exact .inl z
  ·cases e
theorem FlowK.restore {ρ1 ρf ρ':Env} {σ:St} {H1 G1:Hp} {o:Option Nat} {D:Ends} {fl:Fl} (r:Rel K ρ1 σ H1 G1) (ho:∀ i,o=some i→∃ d p l,ρ1[i]?=some (.ow d p l)) (e:putBack o ρ1 ρf=some ρ') (k:FlowK K ρ1 σ H1 G1 ρ' D fl) :
  FlowK K (takeOut o ρ1) σ H1 G1 ρf D fl:=by
 cases fl with
 | nx=>exact fun σ' H' G' b=>k σ' H' G' (putBack_aft r ho e b).1
 | bk=>exact fun σ' H' G' b=>k σ' H' G' (putBack_aft r ho e b).1
 | ct=>exact fun σ' H' G' b=>k σ' H' G' (putBack_aft r ho e b).1
 | rt v =>
  refine fun x σ' H' G' b hv=>?_
  obtain ⟨b1,b2⟩:=putBack_aft r ho e b
  refine k x σ' H' G' b1 ?_
  cases v with
  | sh d=>exact hv
  | ow d =>
   obtain ⟨c,rfl,g,oo,n,m⟩:=hv
   refine ⟨c,rfl,g,oo,fun z=>?_, ?_⟩
   ·rcases b2 c z with z | ⟨z1,z2⟩
    ·exact n z
    ·rcases m with m | m
     ·exact z2 m
     ·exact (r.owned z1).1 m
   ·rcases m with m | m
    ·exact .inl ((takeOut_rel r).2 c m)
    ·exact .inr m
  | od d =>
   obtain ⟨c,rfl,g,oo,n,m,vs,hvs,hr⟩:=hv
   have key:∀ c,¬ Own ρf σ' c→(Own (takeOut o ρ1) σ c∨H1 c=none)→¬ Own ρ' σ' c∧(Own ρ1 σ c∨H1 c=none):=fun c n m=>by
    refine ⟨fun z=>?_, ?_⟩
    ·rcases b2 c z with z | ⟨z1,z2⟩
     ·exact n z
     ·rcases m with m | m
      ·exact z2 m
      ·exact (r.owned z1).1 m
    ·rcases m with m | m
     ·exact .inl ((takeOut_rel r).2 c m)
     ·exact .inr m
   exact ⟨c,rfl,g,oo,(key c n m).1,(key c n m).2,vs,hvs,fun x hx=>let ⟨b,ws,h1,h2,h3,h4,h5,h6⟩:=hr x hx; ⟨b,ws,h1,h2,h3,(key b h4 h5).1,(key b h4 h5).2,h6⟩⟩
 | ex x=>exact k
def LoopP (K:PySem.W.Frag) (P:Pins) (C:Calls) (W:Nat) (one:Bool) (tg:List Nat) (cb:List S) (ρ0:Env) (σ0:St) (H0 G0:Hp) (fl:Fl) (ρf:Env) (ds:List D) (i:Nat):St→Hp→Prop:=fun σ H =>
 ∃ ρ G,AftS K ρ0 σ0 H0 G0 ρ σ H G∧loopF (bindT one tg) (exs P C W cb) (ds.drop i) ρ=some (fl,ρf)
theorem loop_turn {one:Bool} {tg:List Nat} {cb:List S} {ρ0 ρf:Env} {σ0 σ:St} {H0 G0 H:Hp} {fl:Fl} {ds:List D} {i:Nat} {d:D} {x:V} {D0:Ends} (hk:FlowK K ρ0 σ0 H0 G0 ρf D0 fl) (hd:ds[i]?=some d) (hx:Rep K G0 d x)
  (h:LoopP K P C W one tg cb ρ0 σ0 H0 G0 fl ρf ds i σ H) :
  gB K one tg x σ H fun σ2 H2=>tSs K P C W cb { D0 with nx:=LoopP K P C W one tg cb ρ0 σ0 H0 G0 fl ρf ds (i+1),ct:=LoopP K P C W one tg cb ρ0 σ0 H0 G0 fl ρf ds (i+1),bk:=D0.nx } σ2 H2:=by
 obtain ⟨ρ,G,a,e⟩:=h
 have hl:i<ds.length:=(List.getElem?_eq_some_iff.mp hd).1
 have ed:ds.drop i=d :: ds.drop (i+1):=by
  rw [List.drop_eq_getElem_cons hl]
  congr 1
  rw [List.getElem?_eq_getElem hl] at hd
  exact Option.some.inj hd
 rw [ed] at e
 simp only [loopF] at e
 cases q:bindT one tg d ρ with
 | none=>rw [q] at e; cases e
 | some ρ1 =>
  rw [q] at e
  simp only at e
  refine ⟨ρ,G,d,ρ1,a.rel,Rep.mono a.ext.gg d hx,q,fun σ1 a1=>?_⟩
  have a01:=a.trans a1
  cases q2:exs P C W cb ρ1 with
  | none=>rw [q2] at e; cases e
  | some y =>
   obtain ⟨fl1,ρ2⟩:=y
   rw [q2] at e
   refine ⟨ρ1,G,fl1,ρ2,a1.rel,q2, ?_⟩
   cases fl1 with
   | nx=>exact fun σ2 H2 G2 a2=>⟨ρ2,G2,a01.trans a2,e⟩
   | ct=>exact fun σ2 H2 G2 a2=>⟨ρ2,G2,a01.trans a2,e⟩
   | bk=>cases e; exact fun σ2 H2 G2 a2=>hk σ2 H2 G2 (a01.trans a2)
   | rt v=>cases e; exact hk.pre a01
   | ex x=>cases e; exact hk
theorem loop_turn2 {one:Bool} {tg:List Nat} {cb:List S} {ρ0 ρf:Env} {σ0 σ:St} {H0 G0 H:Hp} {fl:Fl} {ds:List D} {i:Nat} {d:D} {x:V} {D0:Ends} (hk:FlowK K ρ0 σ0 H0 G0 ρf D0 fl) (hd:ds[i]?=some d)
  (h:∃ ρ G,AftS K ρ0 σ0 H0 G0 ρ σ H G∧Rep K G d x∧loopF (bindT one tg) (exs P C W cb) (ds.drop i) ρ=some (fl,ρf)) :
  gB K one tg x σ H fun σ2 H2=>tSs K P C W cb { D0 with nx:=LoopP K P C W one tg cb ρ0 σ0 H0 G0 fl ρf ds (i+1),ct:=LoopP K P C W one tg cb ρ0 σ0 H0 G0 fl ρf ds (i+1),bk:=D0.nx } σ2 H2:=by
 obtain ⟨ρ,G,a,hx,e⟩:=h
 have hl:i<ds.length:=(List.getElem?_eq_some_iff.mp hd).1
 have ed:ds.drop i=d :: ds.drop (i+1):=by
  rw [List.drop_eq_getElem_cons hl]
  congr 1
  rw [List.getElem?_eq_getElem hl] at hd
  exact Option.some.inj hd
 rw [ed] at e
 simp only [loopF] at e
 cases q:bindT one tg d ρ with
 | none=>rw [q] at e; cases e
 | some ρ1 =>
  rw [q] at e
  simp only at e
  refine ⟨ρ,G,d,ρ1,a.rel,hx,q,fun σ1 a1=>?_⟩
  have a01:=a.trans a1
  cases q2:exs P C W cb ρ1 with
  | none=>rw [q2] at e; cases e
  | some y =>
   obtain ⟨fl1,ρ2⟩:=y
   rw [q2] at e
   refine ⟨ρ1,G,fl1,ρ2,a1.rel,q2, ?_⟩
   cases fl1 with
   | nx=>exact fun σ2 H2 G2 a2=>⟨ρ2,G2,a01.trans a2,e⟩
   | ct=>exact fun σ2 H2 G2 a2=>⟨ρ2,G2,a01.trans a2,e⟩
   | bk=>cases e; exact fun σ2 H2 G2 a2=>hk σ2 H2 G2 (a01.trans a2)
   | rt v=>cases e; exact hk.pre a01
   | ex x=>cases e; exact hk
theorem for_enum {a:Addr} {lo:Int} {xs:List V} {g:TG} {tb:TS} {D:Ends} {σ:St} {H:Hp} (Pv:Nat→St→Hp→Prop) (h0:Pv 0 σ H) (hl:∀ i σ H,i≤xs.length→Pv i σ H→SqL K H a xs)
  (hs:∀ i y p σ H,xs[i]?=some y→H p=none→Pv i σ H→g (.ref p) σ (upd H p (.tup [.int (lo+(i:Int)),y])) fun σ2 H2=>tb { D with nx:=Pv (i+1),ct:=Pv (i+1),bk:=D.nx } σ2 H2) (hd:∀ σ H,Pv xs.length σ H→D.nx σ H) :
  ∃ W:Nat→Nat→St→Hp→Prop,(∃ m,W 0 m σ H)∧∀ i m σ H,W i m σ H →
   ((Ite K a lo).stop i H∧D.nx σ H)∨((Ite K a lo).go i H∧∃ N:St→Hp→Prop,(∀ σ' H',N σ' H'→∃ m',m'<m∧W (i+1) m' σ' H')∧∀ x H',(Ite K a lo).yld i H x H'→g x σ H' fun σ2 H2=>tb { D with nx:=N,ct:=N,bk:=D.nx } σ2 H2):=by
 refine ⟨fun i m σ H=>m=xs.length - i∧i≤xs.length∧Pv i σ H,⟨xs.length,by simp,Nat.zero_le _,h0⟩, ?_⟩
 rintro i m σ H ⟨rfl,hi,p⟩
 have q:=hl i σ H hi p
 by_cases hlt:i<xs.length
 ·refine .inr ⟨⟨xs,xs[i],q,by simp [hlt]⟩,Pv (i+1),fun σ' H' p'=>⟨xs.length - (i+1),by omega,rfl,hlt,p'⟩,fun x H' y=>?_⟩
  obtain ⟨p0,y0,hn,rfl,rfl,hy⟩:=y
  exact hs i y0 p0 σ H (hy xs q) hn p
 ·have e:i=xs.length:=by omega
  subst e
  exact .inl ⟨⟨xs,q,Nat.le_refl _⟩,hd σ H p⟩
theorem enumD_len {lo:Int} {ds:List D}:(enumD lo ds).length=ds.length:=by unfold enumD; simp
theorem enumD_get {lo:Int} {ds:List D} {i:Nat} {d:D} (h:ds[i]?=some d):(enumD lo ds)[i]?=some (.tup [.int (lo+(i:Int)),d]):=by
 have hl:i<ds.length:=(List.getElem?_eq_some_iff.mp h).1
 unfold enumD
 rw [List.getElem?_map,List.getElem?_range hl,Option.map_some,List.getD_eq_getElem?_getD,h]
 rfl
theorem enum_rep {G:Hp} {p:Addr} {i:Int} {d:D} {y:V} (hg:G p=none) (h:Rep K G d y):Rep K (upd G p (.tup [.int i,y])) (.tup [.int i,d]) (.ref p):=by
 simp only [Rep]
 exact ⟨p,_,rfl,SqT.of upd_same,Reps.cons (by simp [Rep]) (Reps.cons (Rep.mono (Same.laid hg) d h) Reps.nil)⟩
theorem loop_end {one:Bool} {tg:List Nat} {cb:List S} {ρ0 ρf:Env} {σ0 σ:St} {H0 G0 H:Hp} {fl:Fl} {ds:List D} {D0:Ends} (hk:FlowK K ρ0 σ0 H0 G0 ρf D0 fl) (h:LoopP K P C W one tg cb ρ0 σ0 H0 G0 fl ρf ds ds.length σ H):D0.nx σ H:=by
 obtain ⟨ρ,G,a,e⟩:=h
 rw [List.drop_length] at e
 simp only [loopF,Option.some.injEq,Prod.mk.injEq] at e
 obtain ⟨rfl,rfl⟩:=e
 exact hk σ H G a
def Src (K:PySem.W.Frag) (ρ:Env) (σ:St) (H G:Hp) (a:Addr) (vs:List V):Prop:=SqL K G a vs∨(H a=some (.lst vs)∧G a=none∧¬ Own ρ σ a)
theorem Src.now {ρ ρ':Env} {σ σ':St} {H G H' G':Hp} {a:Addr} {vs:List V} (h:Src K ρ σ H G a vs) (b:AftS K ρ σ H G ρ' σ' H' G'):SqL K H' a vs:=by
 rcases h with h | ⟨h1,h2,h3⟩
 ·exact b.rel.sub.seq (b.ext.gg.seq h)
 ·exact SqL.of (b.ext.hh a _ h1 h3)
theorem for_ok (po:PassesOwn (model X.prog X.w) X.A X.env X.xe) (xo:XOk X K P C Γ) {tg it:Expr} {body:List Stmt} {pos:Pos} {one:Bool} {is:List Nat} {k0:ItK} {its:List E} {cb:List S} {wi:TI} (hg:PG X tg (gB K one is)) (hb:PSs X body (tSs K P C W cb))
  (hs:∀ x,foldedSetIterable it X.env x=pure x) (hi:PI X tg it wi)
  (hw:∀ σ H (R:It→Hp→Prop),(∃ (ρ:Env) (G:Hp) (hs:List Hd) (ρ1:Env) (ds:List D) (o:Option Nat),Rel K ρ σ H G∧evHs P C its ρ=some (.ok hs,ρ1)∧itemsOf k0 hs ρ1=some (ds,o) ∧
   ∀ H1 G1,Aft K ρ σ H G ρ1 H1 G1→(∀ i,o=some i→∃ d p l,ρ1[i]?=some (.ow d p l)) →
    (∀ a vs,Src K (takeOut o ρ1) σ H1 G1 a vs→Reps K G1 ds vs→R (Itl K a) H1)∧(∀ a vs,SqT K G1 a vs→Reps K G1 ds vs→R (Itt K a) H1)∧(∀ (lo:Int) (n:Nat),ds=(List.range n).map (fun (j:Nat)=>D.int (lo+(j:Int)))→R (Itr lo n) H1)∧(∀ a vs ds0 lo,ds=enumD lo ds0→Src K (takeOut o ρ1) σ H1 G1 a vs→Reps K G1 ds0 vs→R (Ite K a lo) H1))→wi σ H R) :
  PS X (.For tg it body [] pos) (tS K P C W (.for is one k0 its cb)):=by
 refine TS.imp_ps (ps_for po xo.calm hi hg hb hs) fun D σ H ⟨ρ,G,fl,ρ',r,e,k⟩=>?_
 simp only [ex] at e
 obtain ⟨hs,ρ1,e1,e2⟩:=flow_ok e k.ne
 cases q:itemsOf k0 hs ρ1 with
 | none=>rw [q] at e2; cases e2
 | some y =>
  obtain ⟨ds,o⟩:=y
  rw [q] at e2
  simp only at e2
  cases q2:loopF (bindT one is) (exs P C W cb) ds (takeOut o ρ1) with
  | none=>rw [q2] at e2; cases e2
  | some y =>
   obtain ⟨fl1,ρf⟩:=y
   rw [q2] at e2
   simp only [Run.restore] at e2
   cases q3:putBack o ρ1 ρf with
   | none=>rw [q3] at e2; cases e2
   | some ρ2 =>
    rw [q3] at e2
    cases e2
    refine hw σ H _ ⟨ρ,G,hs,ρ1,ds,o,r,e1,q,fun H1 G1 a1 ho=>?_⟩
    have k1:FlowK K (takeOut o ρ1) σ H1 G1 ρf D fl:=FlowK.restore a1.rel ho q3 (k.pre (Aft.s r a1))
    have p0:LoopP K P C W one is cb (takeOut o ρ1) σ H1 G1 fl ρf ds 0 σ H1:=⟨takeOut o ρ1,G1,AftS.refl (takeOut_rel a1.rel).1,q2⟩
    refine ⟨fun a vs hsrc hr=>?_,fun a vs ht hr=>?_,fun lo n hds=>?_,fun a vs ds0 lo hds hsrc hr=>?_⟩
    ·refine for_list (K:=K) (a:=a) (xs:=vs) (LoopP K P C W one is cb (takeOut o ρ1) σ H1 G1 fl ρf ds) p0 (fun i σ2 H2 _ ⟨ρ2,G2,b,_⟩=>hsrc.now b) (fun i x σ2 H2 hx hp=>?_) (fun σ2 H2 hp=>?_)
     ·have hl:i<ds.length:=by rw [← hr.len]; exact (List.getElem?_eq_some_iff.mp hx).1
      obtain ⟨x',h1,h2⟩:=hr.get (List.getElem?_eq_getElem hl)
      rw [hx] at h1; cases h1
      exact loop_turn k1 (List.getElem?_eq_getElem hl) h2 hp
     ·rw [hr.len] at hp
      exact loop_end k1 hp
    ·refine for_tup (K:=K) (a:=a) (xs:=vs) (LoopP K P C W one is cb (takeOut o ρ1) σ H1 G1 fl ρf ds) p0 (fun i σ2 H2 _ ⟨ρ2,G2,b,_⟩=>sqT_mono b.rel.sub (sqT_mono b.ext.gg ht)) (fun i x σ2 H2 hx hp=>?_) (fun σ2 H2 hp=>?_)
     ·have hl:i<ds.length:=by rw [← hr.len]; exact (List.getElem?_eq_some_iff.mp hx).1
      obtain ⟨x',h1,h2⟩:=hr.get (List.getElem?_eq_getElem hl)
      rw [hx] at h1; cases h1
      exact loop_turn k1 (List.getElem?_eq_getElem hl) h2 hp
     ·rw [hr.len] at hp
      exact loop_end k1 hp
    ·have hlen:ds.length=n:=by rw [hds]; simp
     refine for_range (lo:=lo) (n:=n) (LoopP K P C W one is cb (takeOut o ρ1) σ H1 G1 fl ρf ds) p0 (fun i σ2 H2 hi hp=>?_) (fun σ2 H2 hp=>?_)
     ·have hd:ds[i]?=some (.int (lo+(i:Int))):=by rw [hds]; simp [hi]
      exact loop_turn k1 hd (by simp [Rep]) hp
     ·rw [← hlen] at hp
      exact loop_end k1 hp
    ·subst hds
     refine for_enum (K:=K) (a:=a) (xs:=vs) (LoopP K P C W one is cb (takeOut o ρ1) σ H1 G1 fl ρf (enumD lo ds0)) p0 (fun i σ2 H2 _ ⟨ρ2,G2,b,_⟩=>hsrc.now b) (fun i y p σ2 H2 hx hn hp=>?_) (fun σ2 H2 hp=>?_)
     ·have hl:i<ds0.length:=by rw [← hr.len]; exact (List.getElem?_eq_some_iff.mp hx).1
      obtain ⟨x',h1,h2⟩:=hr.get (List.getElem?_eq_getElem hl)
      rw [hx] at h1; cases h1
      obtain ⟨ρ2,G2,b,e2⟩:=hp
      have b2:=b.trans (Aft.s b.rel ((Aft.refl b.rel).layG (o:=.tup [.int (lo+(i:Int)),y]) hn))
      exact loop_turn2 k1 (enumD_get (List.getElem?_eq_getElem hl)) ⟨ρ2,_,b2,enum_rep (Same.free b.rel.sub hn) (Rep.mono b.ext.gg _ h2),e2⟩
     ·rw [hr.len,← enumD_len] at hp
      exact loop_end k1 hp
end
section
variable {X:Cx} {K:PySem.W.Frag} {P:Pins} {C:Calls} {W:Nat} {Γ:CC}
theorem PI.or {tg it:Expr} {w w':TI} (h:PI X tg it w) (h':PI X tg it w'):PI X tg it (fun σ H R=>w σ H R∨w' σ H R):=fun pins s σ H R I q=>by
 rcases q with q | q
 ·exact h pins s σ H R I q
 ·exact h' pins s σ H R I q
theorem evHs1 {c:E} {ρ ρ1:Env} {hs:List Hd} (e:evHs P C [c] ρ=some (.ok hs,ρ1)):∃ h,hs=[h]∧hd c (ev P C false c ρ) ρ=some (.ok h,ρ1):=by
 rw [evHs] at e
 obtain ⟨h,ρ2,e1,e2⟩:=bind_ok e
 rw [evHs] at e2
 simp only [Res.bind] at e2
 cases e2
 exact ⟨h,rfl,e1⟩
theorem of_hw (hK:X.K=K) {c:E} (σ:St) (H:Hp) (R:It→Hp→Prop) (q:∃ (ρ:Env) (G:Hp) (hs:List Hd) (ρ1:Env) (ds:List D) (o:Option Nat),Rel K ρ σ H G∧evHs P C [c] ρ=some (.ok hs,ρ1)∧itemsOf .of hs ρ1=some (ds,o) ∧
   ∀ H1 G1,Aft K ρ σ H G ρ1 H1 G1→(∀ i,o=some i→∃ d p l,ρ1[i]?=some (.ow d p l)) →
    (∀ a vs,Src K (takeOut o ρ1) σ H1 G1 a vs→Reps K G1 ds vs→R (Itl K a) H1)∧(∀ a vs,SqT K G1 a vs→Reps K G1 ds vs→R (Itt K a) H1)∧(∀ (lo:Int) (n:Nat),ds=(List.range n).map (fun (j:Nat)=>D.int (lo+(j:Int)))→R (Itr lo n) H1)∧(∀ a vs ds0 lo,ds=enumD lo ds0→Src K (takeOut o ρ1) σ H1 G1 a vs→Reps K G1 ds0 vs→R (Ite K a lo) H1)) :
  iList X.K (tH K P C c) σ H R∨iTup X.K (tH K P C c) σ H R:=by
 obtain ⟨ρ,G,hs,ρ1,ds,o,r,e,ei,k⟩:=q
 obtain ⟨h,rfl,e1⟩:=evHs1 e
 rw [hK]
 cases h with
 | slot i =>
  simp only [itemsOf] at ei
  split at ei
  ·rename_i ds' p l hi
   cases ei
   refine .inl ⟨ρ,G,.slot i,ρ1,r,e1,fun x H1 G1 a1 hx=>?_⟩
   have hx:σ[i]?=some (some x):=hx
   obtain ⟨b,h1,g,vs,hv,hr⟩:=a1.rel.ow i _ _ _ hi
   rw [hx] at h1; cases h1
   exact ⟨b,rfl,⟨vs,SqL.of hv⟩,(k H1 G1 a1 fun j z=>by cases z; exact ⟨_,_,_,hi⟩).1 b vs (.inr ⟨hv,g,a1.rel.unset_not hi hx⟩) hr⟩
  ·rename_i ds' hi
   cases ei
   refine .inl ⟨ρ,G,.slot i,ρ1,r,e1,fun x H1 G1 a1 hx=>?_⟩
   have hx:σ[i]?=some (some x):=hx
   obtain ⟨v,h1,h2⟩:=a1.rel.sh i _ hi
   rw [hx] at h1; cases h1
   simp only [Rep] at h2
   obtain ⟨b,vs,rfl,h3,h4⟩:=h2
   exact ⟨b,rfl,⟨vs,a1.rel.sub.seq h3⟩,(k H1 G1 a1 fun j z=>by cases z).1 b vs (.inl h3) h4⟩
  ·rename_i ds' hi
   cases ei
   refine .inr ⟨ρ,G,.slot i,ρ1,r,e1,fun x H1 G1 a1 hx=>?_⟩
   have hx:σ[i]?=some (some x):=hx
   obtain ⟨v,h1,h2⟩:=a1.rel.sh i _ hi
   rw [hx] at h1; cases h1
   simp only [Rep] at h2
   obtain ⟨b,vs,rfl,h3,h4⟩:=h2
   exact ⟨b,rfl,⟨vs,sqT_mono a1.rel.sub h3⟩,(k H1 G1 a1 fun j z=>by cases z).2.1 b vs h3 h4⟩
  ·cases ei
 | val v =>
  simp only [itemsOf] at ei
  split at ei
  ·rename_i ds' hd
   cases ei
   refine .inl ⟨ρ,G,.val v,ρ1,r,e1,fun x H1 G1 a1 hx=>?_⟩
   cases v with
   | sh d =>
    simp only [RV.d] at hd
    subst hd
    have hx:Rep K G1 (.lst ds) x:=hx
    simp only [Rep] at hx
    obtain ⟨b,vs,rfl,h3,h4⟩:=hx
    exact ⟨b,rfl,⟨vs,a1.rel.sub.seq h3⟩,(k H1 G1 a1 fun j z=>by cases z).1 b vs (.inl h3) h4⟩
   | ow d =>
    simp only [RV.d] at hd
    subst hd
    obtain ⟨b,rfl,g,⟨vs,hv,hr⟩,n,m⟩:=hx
    exact ⟨b,rfl,⟨vs,SqL.of hv⟩,(k H1 G1 a1 fun j z=>by cases z).1 b vs (.inr ⟨hv,g,n⟩) hr⟩
   | od d=>exact hx.elim
  ·rename_i ds' hd
   cases ei
   refine .inr ⟨ρ,G,.val v,ρ1,r,e1,fun x H1 G1 a1 hx=>?_⟩
   cases v with
   | sh d =>
    simp only [RV.d] at hd
    subst hd
    have hx:Rep K G1 (.tup ds) x:=hx
    simp only [Rep] at hx
    obtain ⟨b,vs,rfl,h3,h4⟩:=hx
    exact ⟨b,rfl,⟨vs,sqT_mono a1.rel.sub h3⟩,(k H1 G1 a1 fun j z=>by cases z).2.1 b vs h3 h4⟩
   | ow d =>
    simp only [RV.d] at hd
    subst hd
    obtain ⟨b,rfl,g,o,n,m⟩:=hx
    exact o.elim
   | od d=>exact hx.elim
  ·cases ei
theorem rng1_hw {c:E} (σ:St) (H:Hp) (R:It→Hp→Prop) (q:∃ (ρ:Env) (G:Hp) (hs:List Hd) (ρ1:Env) (ds:List D) (o:Option Nat),Rel K ρ σ H G∧evHs P C [c] ρ=some (.ok hs,ρ1)∧itemsOf .rng hs ρ1=some (ds,o) ∧
   ∀ H1 G1,Aft K ρ σ H G ρ1 H1 G1→(∀ i,o=some i→∃ d p l,ρ1[i]?=some (.ow d p l)) →
    (∀ a vs,Src K (takeOut o ρ1) σ H1 G1 a vs→Reps K G1 ds vs→R (Itl K a) H1)∧(∀ a vs,SqT K G1 a vs→Reps K G1 ds vs→R (Itt K a) H1)∧(∀ (lo:Int) (n:Nat),ds=(List.range n).map (fun (j:Nat)=>D.int (lo+(j:Int)))→R (Itr lo n) H1)∧(∀ a vs ds0 lo,ds=enumD lo ds0→Src K (takeOut o ρ1) σ H1 G1 a vs→Reps K G1 ds0 vs→R (Ite K a lo) H1)) :
  iRng1 (tHs K P C [c]) σ H R:=by
 obtain ⟨ρ,G,hs,ρ1,ds,o,r,e,ei,k⟩:=q
 refine ⟨ρ,G,hs,ρ1,r,e,fun xs H1 G1 a1 hx=>?_⟩
 obtain ⟨h,rfl,e1⟩:=evHs1 e
 obtain ⟨x,r',rfl,h1,h2,_⟩:=hx
 cases (show r'=[] from h2)
 simp only [itemsOf] at ei
 split at ei
 ·rename_i n hn
  split at ei
  ·rename_i hb
   cases ei
   cases (h1.read a1.rel hn).int
   refine ⟨n,rfl,by omega,by omega,(k H1 G1 a1 fun j z=>by cases z).2.2.1 0 n.toNat ?_⟩
   congr 1
   funext j
   rw [Int.zero_add]
  ·cases ei
 ·cases ei
theorem rng2_hw {c c2:E} (σ:St) (H:Hp) (R:It→Hp→Prop) (q:∃ (ρ:Env) (G:Hp) (hs:List Hd) (ρ1:Env) (ds:List D) (o:Option Nat),Rel K ρ σ H G∧evHs P C [c,c2] ρ=some (.ok hs,ρ1)∧itemsOf .rng hs ρ1=some (ds,o) ∧
   ∀ H1 G1,Aft K ρ σ H G ρ1 H1 G1→(∀ i,o=some i→∃ d p l,ρ1[i]?=some (.ow d p l)) →
    (∀ a vs,Src K (takeOut o ρ1) σ H1 G1 a vs→Reps K G1 ds vs→R (Itl K a) H1)∧(∀ a vs,SqT K G1 a vs→Reps K G1 ds vs→R (Itt K a) H1)∧(∀ (lo:Int) (n:Nat),ds=(List.range n).map (fun (j:Nat)=>D.int (lo+(j:Int)))→R (Itr lo n) H1)∧(∀ a vs ds0 lo,ds=enumD lo ds0→Src K (takeOut o ρ1) σ H1 G1 a vs→Reps K G1 ds0 vs→R (Ite K a lo) H1)) :
  iRng2 (tHs K P C [c,c2]) σ H R:=by
 obtain ⟨ρ,G,hs,ρ1,ds,o,r,e,ei,k⟩:=q
 refine ⟨ρ,G,hs,ρ1,r,e,fun xs H1 G1 a1 hx=>?_⟩
 rw [evHs] at e
 obtain ⟨h,ρ2,e1,e2⟩:=bind_ok e
 obtain ⟨hs',ρ3,e3,e4⟩:=bind_ok e2
 obtain ⟨h',rfl,e5⟩:=evHs1 e3
 cases e4
 obtain ⟨x,r',rfl,h1,h2,_⟩:=hx
 obtain ⟨y,r'',rfl,h3,h4,_⟩:=h2
 cases (show r''=[] from h4)
 simp only [itemsOf] at ei
 split at ei
 ·rename_i m n hm hn
  split at ei
  ·rename_i hb
   cases ei
   cases (h1.read a1.rel hm).int
   cases (h3.read a1.rel hn).int
   exact ⟨m,n,rfl,by omega,(k H1 G1 a1 fun j z=>by cases z).2.2.1 m (n - m).toNat rfl⟩
  ·cases ei
 ·cases ei
theorem enum_hw (hK:X.K=K) {c:E} {lo:Int} (σ:St) (H:Hp) (R:It→Hp→Prop) (q:∃ (ρ:Env) (G:Hp) (hs:List Hd) (ρ1:Env) (ds:List D) (o:Option Nat),Rel K ρ σ H G∧evHs P C [c] ρ=some (.ok hs,ρ1)∧itemsOf (.enum lo) hs ρ1=some (ds,o) ∧
   ∀ H1 G1,Aft K ρ σ H G ρ1 H1 G1→(∀ i,o=some i→∃ d p l,ρ1[i]?=some (.ow d p l)) →
    (∀ a vs,Src K (takeOut o ρ1) σ H1 G1 a vs→Reps K G1 ds vs→R (Itl K a) H1)∧(∀ a vs,SqT K G1 a vs→Reps K G1 ds vs→R (Itt K a) H1)∧(∀ (lo:Int) (n:Nat),ds=(List.range n).map (fun (j:Nat)=>D.int (lo+(j:Int)))→R (Itr lo n) H1)∧(∀ a vs ds0 lo,ds=enumD lo ds0→Src K (takeOut o ρ1) σ H1 G1 a vs→Reps K G1 ds0 vs→R (Ite K a lo) H1)) :
  iEnum X.K lo (tHs K P C [c]) σ H R:=by
 obtain ⟨ρ,G,hs,ρ1,ds,o,r,e,ei,k⟩:=q
 rw [hK]
 refine ⟨ρ,G,hs,ρ1,r,e,fun xs H1 G1 a1 hxs=>?_⟩
 obtain ⟨h,rfl,e1⟩:=evHs1 e
 obtain ⟨x,r',rfl,hx,h2,_⟩:=hxs
 cases (show r'=[] from h2)
 cases h with
 | slot i =>
  simp only [itemsOf] at ei
  have hx:σ[i]?=some (some x):=hx
  split at ei
  ·rename_i ds' p l hi
   cases ei
   obtain ⟨b,h1,g,vs,hv,hr⟩:=a1.rel.ow i _ _ _ hi
   rw [hx] at h1; cases h1
   exact ⟨b,rfl,⟨vs,SqL.of hv⟩,(k H1 G1 a1 fun j z=>by cases z; exact ⟨_,_,_,hi⟩).2.2.2 b vs _ lo rfl (.inr ⟨hv,g,a1.rel.unset_not hi hx⟩) hr⟩
  ·rename_i ds' hi
   cases ei
   obtain ⟨v,h1,h2⟩:=a1.rel.sh i _ hi
   rw [hx] at h1; cases h1
   simp only [Rep] at h2
   obtain ⟨b,vs,rfl,h3,h4⟩:=h2
   exact ⟨b,rfl,⟨vs,a1.rel.sub.seq h3⟩,(k H1 G1 a1 fun j z=>by cases z).2.2.2 b vs _ lo rfl (.inl h3) h4⟩
  ·cases ei
 | val v =>
  simp only [itemsOf] at ei
  split at ei
  ·rename_i ds' hd
   cases ei
   cases v with
   | sh d =>
    simp only [RV.d] at hd
    subst hd
    have hx:Rep K G1 (.lst ds') x:=hx
    simp only [Rep] at hx
    obtain ⟨b,vs,rfl,h3,h4⟩:=hx
    exact ⟨b,rfl,⟨vs,a1.rel.sub.seq h3⟩,(k H1 G1 a1 fun j z=>by cases z).2.2.2 b vs _ lo rfl (.inl h3) h4⟩
   | ow d =>
    simp only [RV.d] at hd
    subst hd
    obtain ⟨b,rfl,g,⟨vs,hv,hr⟩,n,m⟩:=hx
    exact ⟨b,rfl,⟨vs,SqL.of hv⟩,(k H1 G1 a1 fun j z=>by cases z).2.2.2 b vs _ lo rfl (.inr ⟨hv,g,n⟩) hr⟩
   | od d=>exact hx.elim
  ·cases ei
theorem folded_ok {e:Expr} (h:notSet e=true) (env:PySem.Env):∀ x,foldedSetIterable e env x=pure x:=fun x=>by
 cases e <;> first | rfl | cases h
theorem tgOf_ok (xo:XOk X K P C Γ) (hfn:∀ x,Γ.isLoc x=true→X.fn x=true∨X.env.scope.names.lookup x=some .local) {tg:Expr} {one:Bool} {is:List Nat} (h:tgOf Γ tg=some (one,is)):PG X tg (gB K one is):=by
 cases tg <;> simp only [tgOf,reduceCtorEq] at h
 ·rename_i x pos
  cases q:Γ.slotL x with
  | none=>rw [q] at h; cases h
  | some i=>rw [q] at h; cases h; exact pg_one (slotL_ok xo hfn q)
 ·rename_i es k0 pos
  cases q:tgNames Γ es with
  | none=>rw [q] at h; cases h
  | some is' =>
   rw [q] at h
   cases h
   obtain ⟨h1,h2,h3,h4⟩:=tgNames_ok xo hfn q
   exact pg_many xo h1 h2 h3
end
section
variable {K:PySem.W.Frag} {σ σ':St} {H G H' G':Hp}
theorem pad_get {as:List Sl} {n i:Nat} {s:Sl} (h:(as ++ List.replicate n Sl.un)[i]?=some s):(as[i]?=some s)∨(as.length≤i∧s=.un):=by
 by_cases hl:i<as.length
 ·rw [List.getElem?_append_left hl] at h; exact .inl h
 ·rw [List.getElem?_append_right (by omega),List.getElem?_replicate] at h
  split at h
  ·cases h; exact .inr ⟨by omega,rfl⟩
  ·cases h
theorem start_get {N:List Str} {vs:List V} {i:Nat} (h:i<vs.length):(L2.start N vs)[i]?=(vs.map some)[i]?:=by
 unfold L2.start
 rw [List.getElem?_append_left (by rw [List.length_map]; exact h)]
theorem Rel.pad {as:List Sl} {vs:List V} {N:List Str} {n:Nat} (r:Rel K as (vs.map some) H G) (hn:N.length=as.length+n):Rel K (as ++ List.replicate n .un) (L2.start N vs) H G∧∀ a,Own (as ++ List.replicate n .un) (L2.start N vs) a→Own as (vs.map some) a:=by
 have hl:as.length=vs.length:=by have:=r.len; rwa [List.length_map] at this
 have st:∀ i:Nat,i<as.length→(L2.start N vs)[i]?=(vs.map some)[i]?:=fun i h=>start_get (by omega)
 have lt:∀ {i:Nat} {s:Sl},as[i]?=some s→i<as.length:=fun h=>(List.getElem?_eq_some_iff.mp h).1
 refine ⟨⟨by unfold L2.start; simp; omega,r.sub,fun i d h=>?_,fun i d p l h=>?_,fun i j d p l d' p' l' a h1 h2 h3 h4=>?_⟩,fun a ⟨i,d,p,l,h1,h2⟩=>?_⟩
 ·rcases pad_get h with h | ⟨_,h⟩
  ·rw [st i (lt h)]; exact r.sh i d h
  ·cases h
 ·rcases pad_get h with h | ⟨_,h⟩
  ·rw [st i (lt h)]; exact r.ow i d p l h
  ·cases h
 ·rcases pad_get h1 with h1 | ⟨_,h1⟩
  ·rcases pad_get h2 with h2 | ⟨_,h2⟩
   ·rw [st i (lt h1)] at h3
    rw [st j (lt h2)] at h4
    exact r.inj _ _ _ _ _ _ _ _ _ h1 h2 h3 h4
   ·cases h2
  ·cases h1
 ·rcases pad_get h1 with h1 | ⟨_,h1⟩
  ·rw [st i (lt h1)] at h2
   exact ⟨i,d,p,l,h1,h2⟩
  ·cases h1
theorem back_get:∀ {as:List Sl} {ρ:Env} (i:Nat),as.length≤ρ.length→(back as ρ)[i]?=(as[i]?).bind fun a=>match a with | .ow _ _ _=>ρ[i]? | a=>some a
 | [],ρ,i,_=>by cases ρ <;> simp [back]
 | a :: as,[],i,h=>by simp at h
 | a :: as,b :: ρ,i,h=>by
  have ih:=fun j=>back_get (as:=as) (ρ:=ρ) j (by simpa using h)
  cases i with
  | zero=>cases a <;> simp [back]
  | succ i=>cases a <;> simp [back,ih i]
theorem back_aft {as:List Sl} {vs:List V} {N:List Str} {n:Nat} {ρ':Env} (r:Rel K as (vs.map some) H G) (hp:as.all pinOk=true) (hn:N.length=as.length+n)
  (a:AftS K (as ++ List.replicate n .un) (L2.start N vs) H G ρ' σ' H' G'):Aft K as (vs.map some) H G (back as ρ') H' G'∧∀ c,Own (back as ρ') (vs.map some) c→Own ρ' σ' c:=by
 have hl:as.length=vs.length:=by have:=r.len; rwa [List.length_map] at this
 have lt:∀ {i:Nat} {s:Sl},as[i]?=some s→i<as.length:=fun h=>(List.getElem?_eq_some_iff.mp h).1
 have st:∀ i:Nat,i<as.length→(L2.start N vs)[i]?=(vs.map some)[i]?:=fun i h=>start_get (by omega)
 have hlen:as.length≤ρ'.length:=by rw [a.len,List.length_append]; omega
 have at0:∀ {i:Nat} {s:Sl},as[i]?=some s→(as ++ List.replicate n .un)[i]?=some s:=fun h=>by rw [List.getElem?_append_left (lt h)]; exact h
 have pin:∀ (i:Nat) d p l,as[i]?=some (.ow d p l)→p=true∧σ'[i]?=(vs.map some)[i]?∧∃ d',ρ'[i]?=some (.ow d' true l):=fun i d p l h=>by
  have h1:=List.all_eq_true.mp hp _ (List.mem_of_getElem? h)
  simp only [pinOk] at h1
  subst h1
  obtain ⟨h2,d',h3⟩:=a.pin i d l (at0 h)
  exact ⟨rfl,h2.trans (st i (lt h)),d',h3⟩
 have oth:∀ {i:Nat} {s:Sl},(back as ρ')[i]?=some s→(∃ d d' l,as[i]?=some (.ow d true l)∧s=.ow d' true l∧ρ'[i]?=some s∧σ'[i]?=(vs.map some)[i]?)∨(as[i]?=some s∧∀ d p l,s≠.ow d p l):=fun {i s} h=>by
  rw [back_get i hlen] at h
  cases e:as[i]? with
  | none=>rw [e] at h; cases h
  | some b =>
   rw [e] at h
   cases b with
   | ow d p l =>
    obtain ⟨rfl,h1,d',h2⟩:=pin i d p l e
    simp only [Option.bind_some] at h
    rw [h2] at h
    cases h
    exact .inl ⟨d,d',l,rfl,rfl,h2,h1⟩
   | un=>cases h; exact .inr ⟨rfl,fun d p l z=>nomatch z⟩
   | mv=>cases h; exact .inr ⟨rfl,fun d p l z=>nomatch z⟩
   | sh d=>cases h; exact .inr ⟨rfl,fun d p l z=>nomatch z⟩
 have blen:(back as ρ').length=as.length:=by
  apply Nat.le_antisymm
  ·refine Nat.le_of_not_lt fun z=>?_
   have:=back_get (as:=as) (ρ:=ρ') as.length hlen
   rw [List.getElem?_eq_getElem z,List.getElem?_eq_none (Nat.le_refl _)] at this
   cases this
  ·refine Nat.le_of_not_lt fun z=>?_
   have h1:=back_get (as:=as) (ρ:=ρ') (back as ρ').length hlen
   rw [List.getElem?_eq_none (Nat.le_refl _),List.getElem?_eq_getElem z] at h1
   cases e:as[(back as ρ').length] with
   | ow d p l =>
    have e':as[(back as ρ').length]?=some (.ow d p l):=by rw [List.getElem?_eq_getElem z,e]
    obtain ⟨_,_,d',h2⟩:=pin _ d p l e'
    rw [e] at h1
    simp only [Option.bind_some] at h1
    rw [h2] at h1
    cases h1
   | un=>rw [e] at h1; cases h1
   | mv=>rw [e] at h1; cases h1
   | sh d=>rw [e] at h1; cases h1
 refine ⟨⟨⟨by rw [blen]; exact r.len,a.rel.sub,fun i d h=>?_,fun i d p l h=>?_,fun i j d p l d' p' l' c h1 h2 h3 h4=>?_⟩,a.ext.weaken fun c z=>(r.pad hn).2 c z,fun i=>?_⟩,fun c ⟨i,d,p,l,h1,h2⟩=>?_⟩
 ·rcases oth h with ⟨_,_,_,_,z,_,_⟩ | ⟨z,_⟩
  ·cases z
  ·obtain ⟨v,h1,h2⟩:=r.sh i d z
   exact ⟨v,h1,Rep.mono a.ext.gg d h2⟩
 ·rcases oth h with ⟨d0,d',l',h1,h2,h3,h4⟩ | ⟨_,z⟩
  ·rw [← h4]; exact a.rel.ow i d p l h3
  ·exact absurd rfl (z d p l)
 ·rcases oth h1 with ⟨_,_,_,_,_,z3,z4⟩ | ⟨_,z⟩
  ·rcases oth h2 with ⟨_,_,_,_,_,w3,w4⟩ | ⟨_,w⟩
   ·rw [← z4] at h3
    rw [← w4] at h4
    exact a.rel.inj _ _ _ _ _ _ _ _ _ z3 w3 h3 h4
   ·exact absurd rfl (w _ _ _)
  ·exact absurd rfl (z _ _ _)
 ·rw [back_get i hlen]
  cases e:as[i]? with
  | none=>trivial
  | some b =>
   cases b with
   | ow d p l =>
    obtain ⟨rfl,_,d',h2⟩:=pin i d p l e
    simp only [Option.bind_some]
    rw [h2]
    exact ⟨rfl,rfl⟩
   | un=>trivial
   | mv=>trivial
   | sh d=>trivial
 ·rcases oth h1 with ⟨_,_,_,_,_,z3,z4⟩ | ⟨_,z⟩
  ·rw [← z4] at h2
   exact ⟨i,d,p,l,z3,h2⟩
  ·exact absurd rfl (z _ _ _)
end
end CI
namespace L2
open PySem PySem.Spec PyProof.Rows
theorem lookup_mem {α β:Type} [BEq α] [LawfulBEq α]:∀ {l:List (α × β)} {x:α} {k:β},l.lookup x=some k→(x,k)∈l
 | [],x,k,h=>by simp at h
 | (y,k') :: r,x,k,h=>by
  rw [List.lookup_cons] at h
  split at h
  ·rename_i e
   have e:=eq_of_beq e
   subst e
   cases h
   exact List.mem_cons_self
  ·exact List.mem_cons_of_mem _ (lookup_mem h)
theorem clos_ok {env:PySem.Env} {scope:Scope} (h:∀ p∈scope.names,p.2=.free→∃ c,env.cells.lookup p.1=some c) :
  ∃ cl,closureFor scope env=pure cl∧(∀ x c,cl.lookup x=some c→env.cells.lookup x=some c)∧∀ p∈scope.names,p.2=.free→∃ c,cl.lookup p.1=some c:=by
 have key:∀ (names:List (Str × NameKind)) (acc:List (Str × Addr)),(∀ p∈names,p.2=.free→∃ c,env.cells.lookup p.1=some c)→(∀ x c,acc.lookup x=some c→env.cells.lookup x=some c) →
   ∃ cl,(forIn names acc fun (p:Str × NameKind) (cs:List (Str × Addr))=>(if (p.2 == NameKind.free)=true then do let a ← cellOf env p.1; pure (ForInStep.yield ((p.1,a) :: cs)) else pure (ForInStep.yield cs):Sem _))=pure cl ∧
    (∀ x c,cl.lookup x=some c→env.cells.lookup x=some c)∧(∀ p∈names,p.2=.free→∃ c,cl.lookup p.1=some c)∧∀ x c,acc.lookup x=some c→∃ c',cl.lookup x=some c':=by
  intro names
  induction names with
  | nil=>intro acc _ h2; exact ⟨acc,by simp,h2,fun p hp=>(nomatch hp),fun x c e=>⟨c,e⟩⟩
  | cons p r ih =>
   intro acc h1 h2
   by_cases hp:p.2=.free
   ·obtain ⟨c,hc⟩:=h1 p List.mem_cons_self hp
    have e:cellOf env p.1=pure c:=by unfold cellOf; rw [hc]
    obtain ⟨cl,q1,q2,q3,q4⟩:=ih ((p.1,c) :: acc) (fun q hq=>h1 q (List.mem_cons_of_mem _ hq)) (fun x c' z=>by
     rw [List.lookup_cons] at z
     split at z
     ·rename_i w; rw [eq_of_beq w,hc]; exact z
     ·exact h2 x c' z)
    refine ⟨cl, ?_,q2,fun q hq hf=>?_,fun x c' z=>?_⟩
    ·rw [List.forIn_cons]
     have hb:(p.2 == NameKind.free)=true:=by rw [hp]; rfl
     rw [if_pos hb,e]
     simp only [pure_bind]
     exact q1
    ·rcases List.mem_cons.mp hq with w | w
     ·subst w
      exact q4 q.1 c (by rw [List.lookup_cons]; simp)
     ·exact q3 q w hf
    ·by_cases w:x=p.1
     ·subst w
      exact q4 p.1 c (by rw [List.lookup_cons]; simp)
     ·refine q4 x c' ?_
      rw [List.lookup_cons]
      have:(x == p.1)=false:=beq_eq_false_iff_ne.mpr w
      rw [this]
      exact z
   ·obtain ⟨cl,q1,q2,q3,q4⟩:=ih acc (fun q hq=>h1 q (List.mem_cons_of_mem _ hq)) h2
    refine ⟨cl, ?_,q2,fun q hq hf=>?_,q4⟩
    ·rw [List.forIn_cons]
     have hb:¬ (p.2 == NameKind.free)=true:=by simpa using hp
     rw [if_neg hb]
     simp only [pure_bind]
     exact q1
    ·rcases List.mem_cons.mp hq with w | w
     ·subst w; exact absurd hf hp
     ·exact q3 q w hf
 obtain ⟨cl,q1,q2,q3,_⟩:=key scope.names [] h (fun x c e=>by simp at e)
 refine ⟨cl, ?_,q2,q3⟩
 unfold closureFor
 have:(forIn scope.names ([]:List (Str × Addr)) fun (x:Str × NameKind) (r:List (Str × Addr))=>(match x with | (name,kind)=>if (kind == NameKind.free)=true then do let a ← cellOf env name; pure (ForInStep.yield ((name,a) :: r)) else pure (ForInStep.yield r):Sem _))=pure cl:=q1
 simp only [this,pure_bind,bind_pure]
 first | rfl | (rw [this]; rfl) | skip
theorem relabel_inv {env:PySem.Env}:∀ {names:List (Str × NameKind)} {x:Str} {k':NameKind},
  (names.map fun (n,k)=>if (k == NameKind.free && env.scope.kind == .function && env.kindOf n == some .cell) then (n,NameKind.cell) else (n,k)).lookup x=some k'→∃ k,names.lookup x=some k∧(k'=k∨(k=.free∧k'=.cell))
 | [],x,k',h=>by simp at h
 | (n,k) :: r,x,k',h=>by
  have ih:=@relabel_inv env r x k'
  have h':List.lookup x ((if (k == NameKind.free && env.scope.kind == .function && env.kindOf n == some .cell)=true then (n,NameKind.cell) else (n,k)) :: (r.map fun (n,k)=>if (k == NameKind.free && env.scope.kind == .function && env.kindOf n == some .cell) then (n,NameKind.cell) else (n,k)))=some k':=h
  by_cases hc:(k == NameKind.free && env.scope.kind == .function && env.kindOf n == some .cell)=true
  ·rw [if_pos hc] at h'
   rw [List.lookup_cons] at h' ⊢
   cases hx:x == n with
   | true=>rw [hx] at h'; cases h'; simp only [Bool.and_eq_true,beq_iff_eq] at hc; exact ⟨k,rfl,.inr ⟨hc.1.1,rfl⟩⟩
   | false=>rw [hx] at h'; exact ih h'
  ·rw [if_neg hc] at h'
   rw [List.lookup_cons] at h' ⊢
   cases hx:x == n with
   | true=>rw [hx] at h'; cases h'; exact ⟨k,rfl,.inl rfl⟩
   | false=>rw [hx] at h'; exact ih h'
theorem relabel_free {env:PySem.Env}:∀ {names:List (Str × NameKind)} {x:Str},names.lookup x=some .free →
  (names.map fun (n,k)=>if (k == NameKind.free && env.scope.kind == .function && env.kindOf n == some .cell) then (n,NameKind.cell) else (n,k)).lookup x=some .cell ∨
  (names.map fun (n,k)=>if (k == NameKind.free && env.scope.kind == .function && env.kindOf n == some .cell) then (n,NameKind.cell) else (n,k)).lookup x=some .free
 | [],x,h=>by simp at h
 | (n,k) :: r,x,h=>by
  have ih:=@relabel_free env r x
  show List.lookup x ((if (k == NameKind.free && env.scope.kind == .function && env.kindOf n == some .cell)=true then (n,NameKind.cell) else (n,k)) :: _)=_∨List.lookup x ((if (k == NameKind.free && env.scope.kind == .function && env.kindOf n == some .cell)=true then (n,NameKind.cell) else (n,k)) :: _)=_
  rw [List.lookup_cons] at h
  by_cases hc:(k == NameKind.free && env.scope.kind == .function && env.kindOf n == some .cell)=true
  ·rw [if_pos hc,List.lookup_cons]
   cases hx:x == n with
   | true=>exact .inl rfl
   | false=>rw [hx] at h; exact ih h
  ·rw [if_neg hc,List.lookup_cons]
   cases hx:x == n with
   | true=>rw [hx] at h; exact .inr h
   | false=>rw [hx] at h; exact ih h
theorem compLoop_any {prog:Program} {w:World} {A:Around} {R:Result→Shared→Prop} {s:Shared} {elt target iter:Expr} {ifs:List Expr} {scope:Scope} {pos:Pos} {it acc:Value} {env:PySem.Env} (I:Nat→Shared→Prop)
  (turn:∀ n s,I n s→wpAny (model prog w) A (pyNext it) (fun r s₁=>match r with
   | none=>R (.ok .next) s₁
   | some v=>wpAny (model prog w) A (letOwnedTupleGo target it v) (fun _ s₁=>wpAny (model prog w) A (assign target env v) (fun _ s₂ =>
     wpAny (model prog w) A (forIn ifs true fun c r=>if r=true then do let ok ← isTrue c env (eval c env); pure (ForInStep.yield ok) else pure (ForInStep.yield r)) (fun ok s₃ =>
      if ok=true then wpAny (model prog w) A (eval elt env) (fun x s₄ =>
       wpAny (model prog w) A (call (.builtin "list.append") [acc,x]) (fun _ s₅=>∃ m,m<n∧I m s₅) (notedBy (model prog w) A env fun e s'=>R (.error e) s') s₄) (notedBy (model prog w) A env fun e s'=>R (.error e) s') s₃
      else ∃ m,m<n∧I m s₃) (notedBy (model prog w) A env fun e s'=>R (.error e) s') s₂) (notedBy (model prog w) A env fun e s'=>R (.error e) s') s₁) (notedBy (model prog w) A env fun e s'=>R (.error e) s') s₁) (notedBy (model prog w) A env fun e s'=>R (.error e) s') s)
  (n:Nat) (h:I n s):codeAny (model prog w) A (.compLoop (.ListComp elt [⟨target,iter,ifs,0⟩] scope pos) 0 it acc env) R s:=by
 refine codeAny_loop rfl I (fun n s hI=>?_) n h
 show wpAny _ A ((compTurn (.ListComp elt [⟨target,iter,ifs,0⟩] scope pos) 0 it acc env).onRaise (fun x=>do noteFrame x env; theTreesLotGoes x)) _ _ s
 refine wpAny_noted ?_
 rw [compTurn_list]
 refine wpAny_bind (wpAny_standAt (wpAny_bind (wpAny_mono (turn n s hI) (fun r s₁ h₁=>?_) fun _ _ h'=>h')))
 cases r with
 | none=>exact wpAny_pure h₁
 | some v =>
  refine wpAny_bind (wpAny_mono h₁ (fun _ s₁' h₁'=>?_) fun _ _ h'=>h')
  refine wpAny_bind (wpAny_mono h₁' (fun _ s₂ h₂=>wpAny_bind (wpAny_mono h₂ (fun ok s₃ h₃=>?_) fun _ _ h'=>h')) fun _ _ h'=>h')
  cases ok with
  | false=>exact wpAny_pure ⟨rfl,h₃⟩
  | true =>
   exact wpAny_bind (wpAny_bind (wpAny_mono h₃ (fun x s₄ h₄=>wpAny_bind (wpAny_mono h₄ (fun _ s₅ h₅=>wpAny_pure (wpAny_pure ⟨rfl,h₅⟩)) fun _ _ h'=>h')) fun _ _ h'=>h'))
noncomputable def blk (X:Cx) (scope:Scope) (cl:List (Str × Addr)) (C:Addr) (N':List Str) (s₃:Shared) (H₃:Hp) (fp:List Addr) (xe:Value→Shared→Prop):Cx :=
 { X with N:=N',s₀:=s₃,H₀:=H₃,env:=compEnvC scope cl C X.env,outer:=X.stack,stack:=X.stack,ex:=fp,fn:=fun _=>false,pn:=[],xe:=xe }
def Blk (X:Cx) (scope:Scope) (N':List Str) (X':Cx):Prop:=∃ cl C s₃ H₃ fp xe,X'=blk X scope cl C N' s₃ H₃ fp xe
section
variable {X:Cx} {pins:List (Addr × Obj)} {σ:St} {H:Hp} {s:Shared}
theorem start_at {N:List Str} {vs:List V} {i:Nat} {v:V} (h:(start N vs)[i]?=some (some v)):vs[i]?=some v:=by
 unfold start at h
 by_cases hl:i<vs.length
 ·rw [List.getElem?_append_left (by rw [List.length_map]; exact hl),List.getElem?_map,List.getElem?_eq_getElem hl] at h
  rw [List.getElem?_eq_getElem hl]
  simpa using h
 ·rw [List.getElem?_append_right (by rw [List.length_map]; omega),List.getElem?_replicate] at h
  split at h
  ·cases h
  ·cases h
theorem Inv.block {scope:Scope} {cl:List (Str × Addr)} {N':List Str} {fp:List Addr} {xe:Value→Shared→Prop} {vs:List V} {h₄:Heap} {tk:Nat} {ob:Obj} (I:Inv X pins σ H s)
  (hkind:scope.kind=.function) (hcell:∀ y∈scope.names,y.2≠.cell) (sub:∀ x c,cl.lookup x=some c→X.env.cells.lookup x=some c) (hasF:∀ p∈scope.names,p.2=.free→∃ c,cl.lookup p.1=some c)
  (hfk:∀ p∈scope.names,p.2=.free→X.env.kindOf p.1=some .cell∨X.env.kindOf p.1=some .free)
  (hf:∀ b∈fp,FpOk X pins H b) (hfo:∀ b∈fp,b<s.heap.objs.size) (hvl:vs.length≤N'.length)
  (himp:∀ (i:Nat) x v,N'[i]?=some x→vs[i]?=some v→∃ j:Nat,X.N[j]?=some x∧σ[j]?=some (some v)∧scope.names.lookup x=some .free)
  (m:Str→Option Value) (hns:h₄.Ns s.heap.objs.size m) (hsb:Heap.SameBut s.heap.objs.size (s.heap.push ob) h₄) :
  Inv (blk X scope cl s.heap.objs.size N' s H fp xe) [] (start N' vs) H { s with heap:=h₄,toks:=tk }:=by
 have old:∀ b o,s.heap.get? b=some o→h₄.get? b=some o:=fun b o e=>(hsb.2 b (Nat.ne_of_lt (Heap.lt_size e))).trans (Heap.get?_push_of_some _ e)
 have freeOf:∀ x,(relabel scope X.env).names.lookup x=some .cell∨(relabel scope X.env).names.lookup x=some .free→scope.names.lookup x=some .free:=fun x hx=>by
  rcases hx with hx | hx
  ·obtain ⟨k,h1,h2⟩:=relabel_inv (env:=X.env) hx
   rcases h2 with h2 | ⟨h2,_⟩
   ·subst h2; exact absurd rfl (hcell _ (lookup_mem h1))
   ·subst h2; exact h1
  ·obtain ⟨k,h1,h2⟩:=relabel_inv (env:=X.env) hx
   rcases h2 with h2 | ⟨_,h2⟩
   ·subst h2; exact h1
   ·cases h2
 have ok:(blk X scope cl s.heap.objs.size N' s H fp xe).Ok:=by
  refine ⟨I.ok.mod,hkind,I.ok.glob,I.ok.blt,Nat.le_refl _,fun x y c h1 h2=>I.ok.inj x y c (sub x c h1) (sub y c h2),fun x hx=>?_,fun x c h=>(nomatch h),I.ok.hd,I.ok.frames,.inl rfl,fun b hb=>⟨Nat.ne_of_lt (hfo b hb),fun x c e=>(hf b hb).2.2.2.2.1 x c (sub x c e)⟩,fun b o e=>I.bs b o e,Nat.le_trans I.ok.bsz I.sz,fun b o e hb=>?_,fun b hb z=>?_,I.stack,I.stkFree⟩
  ·exact hasF (x,.free) (lookup_mem (freeOf x hx)) rfl
  ·rcases (hf b hb).2.2.2.1 with z | z
   ·exact I.ok.noex b o e z
   ·rw [(I.ok.bs b o e).1] at z; cases z
  ·rcases List.mem_cons.mp (I.stkSub b z) with z | z
   ·exact (hf b hb).2.1 z
   ·exact (hf b hb).2.2.1 z
 refine ⟨ok,rfl,I.bare,Un.kept old,⟨m,hns,fun i x v e1 e2 e3=>?_⟩,fun x c e=>?_,I.hok.fresh (Nat.le_refl _),fun x c e=>I.freeC x c (sub x c e),fun p hp=>(nomatch hp),I.hok.kept old, ?_⟩
 ·obtain ⟨j,h1,h2,h3⟩:=himp i x v e1 (start_at e2)
  have hk:=hfk (x,.free) (lookup_mem h3) rfl
  obtain ⟨m0,hn0,hl⟩:=I.loc
  obtain ⟨u,r,lk⟩:=hl j x v h1 h2 (.inr hk)
  refine ⟨u,r, ?_⟩
  rcases lk with ⟨k,_⟩ | ⟨k,c,e,z⟩
  ·rcases hk with hk | hk
   ·rw [hk] at k; cases k
   ·rw [hk] at k; cases k
  ·obtain ⟨c',hc'⟩:=hasF (x,.free) (lookup_mem h3) rfl
   have ec:=sub x c' hc'
   rw [e] at ec
   cases ec
   obtain ⟨o,ho,hd⟩:=z
   exact .inr ⟨relabel_free (env:=X.env) h3,c,hc',o,old c o ho,hd⟩
 ·obtain ⟨v,o,ho,hd⟩:=I.cell x c (sub x c e)
  exact ⟨v,o,old c o ho,hd⟩
 ·show (start N' vs).length=N'.length
  unfold start
  simp
  omega
def PTs (X:Cx) (ifs:List Expr) (t:TT):Prop:=∀ (pins:List (Addr × Obj)) (s:Shared) (σ:St) (H:Hp) (Q:Bool→Hp→Prop),Inv X pins σ H s→t σ H Q →
 wpAny (model X.prog X.w) X.A (forIn ifs true fun c r=>if r=true then do let ok ← isTrue c X.env (eval c X.env); pure (ForInStep.yield ok) else pure (ForInStep.yield r)) (TP X pins σ Q) X.xe s
theorem pts_nil:PTs X [] (fun σ H Q=>Q true H):=fun pins s σ H Q I h=>wpAny_tests_nil ⟨H,I,h⟩
theorem pts_one {c:Expr} {t:TT} (h:PT X c t):PTs X [c] t:=fun pins s σ H Q I q=>wpAny_tests_one (h pins s σ H Q I q)
def tCompJ (N:List Str) (scope:Scope) (N':List Str) (g:TG) (tt:TT) (te:TE) (σ:St) (Q:VK) (J:It) (H1:Hp):Prop:=∃ vs:List V,vs.length≤N'.length ∧
 (∀ (i:Nat) x v,N'[i]?=some x→vs[i]?=some v→∃ j:Nat,N[j]?=some x∧σ[j]?=some (some v)∧scope.names.lookup x=some .free) ∧
 ∀ D,H1 D=none→∃ (n:Nat) (LP:Nat→St→Hp→Prop),LP 0 (start N' vs) (upd H1 D (.lst []))∧∀ i σ' H',LP i σ' H' →
  (J.stop i H'∧Q (.ref D) H')∨(i<n∧J.go i H'∧∀ x H2,J.yld i H' x H2→g x σ' H2 fun σ2 H3=>tt σ2 H3 fun b H4 =>
   if b=true then te σ2 H4 fun y H5=>∃ ys,H5 D=some (.lst ys)∧ys.length<sizeLine∧LP (i+1) σ2 (upd H5 D (.lst (ys ++ [y]))) else LP (i+1) σ2 H4)
noncomputable def tComp (N:List Str) (scope:Scope) (N':List Str) (wi:TI) (g:TG) (tt:TT) (te:TE):TE:=fun σ H Q=>wi σ H (tCompJ N scope N' g tt te σ Q)
theorem comp_core {use:Option (Value→Sem Unit)} {QF:Value→Shared→Prop} {ps:Pos} {Q:VK} {elt tg iter:Expr} {ifs:List Expr} {scope:Scope} {pos:Pos} {N':List Str} {wi:TI} {g:TG} {tt:TT} {te:TE} (hc:X.calm=true) (hi:PI X tg iter wi) (hs:∀ x,foldedSetIterable iter X.env x=pure x)
  (hkind:scope.kind=.function) (hcell:∀ y∈scope.names,y.2≠.cell) (hnames:∀ x∈scope.names,x.2=.local→scope.names.lookup x.1=some .local)
  (hfk:∀ p∈scope.names,p.2=.free→X.env.kindOf p.1=some .cell∨X.env.kindOf p.1=some .free)
  (hg:∀ X',Blk X scope N' X'→PG X' tg g) (ht:∀ X',Blk X scope N' X'→PTs X' ifs tt) (he:∀ X',Blk X scope N' X'→PE X' elt te) (I:Inv X pins σ H s) (h:tComp X.N scope N' wi g tt te σ H Q)
  (fin:∀ (D C:Addr) (H':Hp) (s':Shared),Inv X pins σ H' s'→Q (.ref D) H'→H' C=none→X.s₀.heap.objs.size≤C→C≠X.env.locals→(∀ x c,X.env.cells.lookup x=some c→c≠C)→(∀ p∈X.pn ++ pins,p.1≠C)→(∃ m,s'.heap.Ns C m) →
   compPost (model X.prog X.w) X.A X.xe use QF (.ref D) C (.ok .next) s') :
  wpAny (model X.prog X.w) X.A (comprehension (.ListComp elt [⟨tg,iter,ifs,0⟩] scope pos) scope X.env ps (newList []) false (eval iter X.env) use) QF X.xe s:=by
 obtain ⟨cl,hclos,sub,hasF⟩:=clos_ok (env:=X.env) (scope:=scope) fun p hp hf=>I.ok.has p.1 (hfk p hp hf)
 refine wpAny_comprehension_free (use:=use) rfl hs hclos hkind hnames (thn (hi pins s σ H _ I h) fun v s1 h1=>thn h1 fun itv s2 h2=>?_)
 obtain ⟨it,fp,tn,J,H2,e,I2,T,st2,f2,vs,hvl,himp,hD⟩:=h2
 subst e
 have fpl:∀ b∈fp,b<s2.heap.objs.size:=fun b hb=>by
  obtain ⟨o,e,_⟩:=T.obj _ _ st2 b hb
  exact Heap.lt_size e
 refine wpAny_newObj_type (wpAny_newFunctionEnv hcell (by intro y hy; simp at hy) (fun h₁ hns₁ hsb₁=>?_) hkind)
 dsimp only at hns₁ hsb₁ ⊢
 have I3:Inv X pins σ (upd H2 s2.heap.objs.size (.lst [])) { s2 with heap:=s2.heap.push { cls:=.type "list",dict:=none,data:=.seq ([]:List Value).toArray } }:=I2.lnew (its:=[]) (t':=s2.toks) .nil (Nat.zero_le _)
 obtain ⟨n,LP,l0,turn⟩:=hD s2.heap.objs.size I2.fresh
 generalize hs3:({ s2 with heap:=s2.heap.push { cls:=.type "list",dict:=none,data:=.seq ([]:List Value).toArray } }:Shared)=s3 at I3
 have hh3:s3.heap=s2.heap.push { cls:=.type "list",dict:=none,data:=.seq ([]:List Value).toArray }:=by rw [← hs3]
 rw [← hh3] at hns₁ hsb₁ ⊢
 have f3:∀ b∈fp,FpOk X pins (upd H2 s2.heap.objs.size (.lst [])) b:=fun b hb=>⟨by rw [upd_ne (Nat.ne_of_lt (fpl b hb))]; exact (f2 b hb).1,(f2 b hb).2⟩
 have fpl3:∀ b∈fp,b<s3.heap.objs.size:=fun b hb=>by rw [hh3,Heap.size_push]; exact Nat.lt_succ_of_lt (fpl b hb)
 let R:Result→Shared→Prop:=compPost (model X.prog X.w) X.A X.xe use QF (.ref s2.heap.objs.size) s3.heap.objs.size
 let X':Cx:=blk X scope cl s3.heap.objs.size N' s3 (upd H2 s2.heap.objs.size (.lst [])) fp (notedBy (model X.prog X.w) X.A (compEnvC scope cl s3.heap.objs.size X.env) fun e s'=>R (.error e) s')
 have hX':Blk X scope N' X':=⟨_,_,_,_,_,_,rfl⟩
 have I4:∀ tk,Inv X' [] (start N' vs) (upd H2 s2.heap.objs.size (.lst [])) { s3 with heap:=h₁,toks:=tk }:=fun tk=>I3.block hkind hcell sub hasF hfk f3 fpl3 hvl himp _ hns₁ hsb₁
 have old:∀ b o,s3.heap.get? b=some o→h₁.get? b=some o:=fun b o e=>(hsb₁.2 b (Nat.ne_of_lt (Heap.lt_size e))).trans (Heap.get?_push_of_some _ e)
 have st4:tn 0 h₁:=T.keep _ _ _ st2 fun b hb o e=>old b o (by rw [hh3]; exact Heap.get?_push_of_some _ e)
 have stat:∀ {H':Hp},(∀ b∈fp,H' b=none)→∀ b∈fp,FpOk X' [] H' b:=fun hn b hb=>⟨hn b hb,Nat.ne_of_lt (fpl3 b hb),fun z=>by
  rcases List.mem_cons.mp (I3.stkSub b z) with z | z
  ·exact (f2 b hb).2.1 z
  ·exact (f2 b hb).2.2.1 z,.inl hb,fun x c e=>(f2 b hb).2.2.2.2.1 x c (sub x c e),fun p hp=>(nomatch hp)⟩
 have loop:∀ tk,codeAny (model X.prog X.w) X.A (.compLoop (.ListComp elt [⟨tg,iter,ifs,0⟩] scope pos) 0 (.ref it) (.ref s2.heap.objs.size) (compEnvC scope cl s3.heap.objs.size X.env)) R { s3 with heap:=h₁,toks:=tk }:=by
  intro tk
  refine compLoop_any (fun m s'=>∃ i σ' H',m=n - i∧Inv X' [] σ' H' s'∧tn i s'.heap∧(∀ b∈fp,H' b=none)∧LP i σ' H') ?_ n ⟨0,_,_,by simp,I4 tk,st4,fun b hb=>(f3 b hb).1,l0⟩
  rintro m s5 ⟨i,σ5,H5,rfl,I5,st5,fr5,w5⟩
  rcases turn i σ5 H5 w5 with ⟨stop,qn⟩ | ⟨hin,go,step⟩
  ·refine thn (T.done X' rfl rfl rfl hc i [] s5 σ5 H5 _ I5 (stat fr5) st5 stop) fun r s6 ⟨hr,I6⟩=>?_
   subst hr
   obtain ⟨m6,hn6,_⟩:=I6.loc
   have IX:Inv X pins σ H5 s6:=I3.call' (s':=s6) (ch:=fp) I6.os I6.base I6.hok I6.bare fun b hb=>⟨(f2 b hb).2.2.2.1,(f2 b hb).2.1,(f2 b hb).2.2.2.2.1,(f2 b hb).2.2.2.2.2⟩
   refine fin _ _ H5 s6 IX qn I6.free I3.sz (fun z=>Nat.lt_irrefl _ (Nat.lt_of_lt_of_le I3.lt (Nat.le_of_eq z))) (fun x c e z=>?_) (fun p hp z=>?_) ⟨m6,hn6⟩
   ·obtain ⟨v,o,ho,hd⟩:=I3.cell x c e
    rw [z] at ho
    exact Nat.lt_irrefl _ (Heap.lt_size ho)
   ·have:=(I3.pin p hp).1
    rw [z] at this
    exact Nat.lt_irrefl _ (Heap.lt_size this)
  ·refine thn (T.item X' rfl rfl rfl hc i [] s5 σ5 H5 _ I5 (stat fr5) st5 go) fun r s6 ⟨u,hr,h6⟩=>?_
   subst hr
   refine thn h6 fun _ s7 ⟨x,H7,I7,r7,y7,st7,fr7⟩=>?_
   have I7':=I7.pinned (stat fr7) (T.obj _ _ st7)
   have again:∀ {σ8:St} {H8:Hp} {s8:Shared},Inv X' ([] ++ pinsAt fp s7.heap) σ8 H8 s8→LP (i+1) σ8 H8→∃ m,m<n - i∧∃ i σ' H',m=n - i∧Inv X' [] σ' H' s8∧tn i s8.heap∧(∀ b∈fp,H' b=none)∧LP i σ' H':=fun {σ8 H8 s8} I8 w8=>by
    refine ⟨n - (i+1),by omega,i+1,σ8,H8,rfl,I8.unpinned,T.keep _ _ _ st7 fun b hb o e=>(I8.pin (b,o) (List.mem_append_right _ (List.mem_append_right _ (mem_pinsAt hb e)))).1,fun b hb=>?_,w8⟩
    obtain ⟨o,e,d⟩:=T.obj _ _ st7 b hb
    exact (I8.pin (b,o) (List.mem_append_right _ (List.mem_append_right _ (mem_pinsAt hb e)))).2.1
   refine thn (hg X' hX' _ s7 σ5 H7 x u _ I7' r7 (step x H7 y7)) fun _ s8 ⟨σ8,H8,I8,q8⟩=>?_
   refine thn (ht X' hX' _ s8 σ8 H8 _ I8 q8) fun b s9 ⟨H9,I9,q9⟩=>?_
   cases b with
   | false=>exact again I9 q9
   | true =>
    refine thn (he X' hX' _ s9 σ8 H9 _ I9 q9) fun y s10 ⟨yv,H10,I10,r10,ys,hy,hz,q10⟩=>?_
    refine thn (mt_append (X:=X') _ s10 σ8 H10 (.ref s2.heap.objs.size) [yv] (.ref s2.heap.objs.size) [y] (fun _ H'=>LP (i+1) σ8 H') I10 rfl (.cons r10 .nil) ⟨_,ys,yv,rfl,rfl,hy,hz,q10⟩) fun _ s11 ⟨_,H11,I11,_,q11⟩=>?_
    exact again I11 q11
 subst hs3
 exact codeAny_compStart_list (loop _) (T.self _ 0 _ _ _ st4 (loop _))
theorem pe_comp {elt tg iter:Expr} {ifs:List Expr} {scope:Scope} {pos:Pos} {N':List Str} {wi:TI} {g:TG} {tt:TT} {te:TE} (hc:X.calm=true) (hi:PI X tg iter wi) (hs:∀ x,foldedSetIterable iter X.env x=pure x)
  (hkind:scope.kind=.function) (hcell:∀ y∈scope.names,y.2≠.cell) (hnames:∀ x∈scope.names,x.2=.local→scope.names.lookup x.1=some .local)
  (hfk:∀ p∈scope.names,p.2=.free→X.env.kindOf p.1=some .cell∨X.env.kindOf p.1=some .free)
  (hg:∀ X',Blk X scope N' X'→PG X' tg g) (ht:∀ X',Blk X scope N' X'→PTs X' ifs tt) (he:∀ X',Blk X scope N' X'→PE X' elt te) :
  PE X (.ListComp elt [⟨tg,iter,ifs,0⟩] scope pos) (tComp X.N scope N' wi g tt te):=by
 intro pins s σ H Q I h
 rw [eval_ListComp]
 refine comp_core (use:=none) (QF:=EP X pins σ Q) hc hi hs hkind hcell hnames hfk hg ht he I h fun D C H' s' I' q hC hz hL hcl hp hm=>?_
 obtain ⟨m,hm⟩:=hm
 refine ⟨m,hm,fun h' sb=>⟨.ref D,H',I'.turned (t':=s'.toks) (fun b o hb e=>(sb.2 b hb).trans e) hC hL (.inr (Heap.get?_none_of_le hz)) hcl hp,rfl,q⟩⟩
theorem ps_comp_used {elt tg iter:Expr} {ifs:List Expr} {scope:Scope} {pos py spos:Pos} {y:Str} {i:Nat} {N':List Str} {wi:TI} {g:TG} {tt:TT} {te:TE} (hsw:swapsWith (.ListComp elt [⟨tg,iter,ifs,0⟩] scope pos) (some (.Name y py)) spos.line X.env=pure true)
  (hN:X.N.Nodup) (hy:X.N[i]?=some y) (hx:Loc X.env.scope y) (hf:X.fn y=true∨X.env.scope.names.lookup y=some .local) (hc:X.calm=true) (hi:PI X tg iter wi) (hs:∀ x,foldedSetIterable iter X.env x=pure x)
  (hkind:scope.kind=.function) (hcell:∀ y∈scope.names,y.2≠.cell) (hnames:∀ x∈scope.names,x.2=.local→scope.names.lookup x.1=some .local)
  (hfk:∀ p∈scope.names,p.2=.free→X.env.kindOf p.1=some .cell∨X.env.kindOf p.1=some .free)
  (hg:∀ X',Blk X scope N' X'→PG X' tg g) (ht:∀ X',Blk X scope N' X'→PTs X' ifs tt) (he:∀ X',Blk X scope N' X'→PE X' elt te) :
  PS X (.Assign [.Name y py] (.ListComp elt [⟨tg,iter,ifs,0⟩] scope pos) spos) (tAsg (tComp X.N scope N' wi g tt te) (gName i)):=by
 intro pins s σ H D0 I h
 rw [exec_Assign_Name_used _ _ _ _ hsw]
 refine wpAny_bind (wpAny_standAt (wpAny_bind ?_))
 show wpAny _ X.A (do let _ ← comprehension (.ListComp elt [⟨tg,iter,ifs,0⟩] scope pos) scope X.env _ (newList []) false (eval iter X.env) (some (assign (.Name y py) X.env))) _ _ s
 refine wpAny_bind (wpAny_mono (comp_core (use:=some (assign (.Name y py) X.env)) (QF:=fun _ s'=>SP X pins D0 .next s') hc hi hs hkind hcell hnames hfk hg ht he I h fun D C H' s' I' q hC hz hL hcl hp hm=>?_) (fun _ s' hq=>wpAny_pure (wpAny_pure hq)) fun _ _ e=>e)
 obtain ⟨m,hm⟩:=hm
 refine wpAny_assign_Name (store_ok2 I' hN hy hx (v:=.ref D) rfl (fun s2 I2 ⟨a,sb,ha⟩=>?_) hf)
 have hne:a≠C:=by
  rcases ha with rfl | ha
  ·exact Ne.symm hL
  ·exact hcl _ _ ha
 refine ⟨m,hm.sameBut sb (Ne.symm hne),fun h' sb2=>⟨_,H',I2.turned (t':=s2.toks) (fun b o hb e=>(sb2.2 b hb).trans e) hC hL (.inr (Heap.get?_none_of_le hz)) hcl hp,q⟩⟩
end
end L2
namespace CI
open PySem PySem.Spec PyProof.Rows L2
section
variable {X:Cx} {K:PySem.W.Frag} {P:Pins} {C:Calls} {Γ:CC}
theorem XOk.inner (xo:XOk X K P C Γ) (hk:X.env.scope.kind=.function) {scope:Scope} (nd:(frees scope ++ locs scope).Nodup) {X':Cx} (b:Blk X scope (Γ.inner scope).N X'):XOk X' K P C (Γ.inner scope):=by
 obtain ⟨cl,C0,s₃,H₃,fp,xe,rfl⟩:=b
 refine XOk.of xo.keq rfl ?_ nd xo.calm xo.hh xo.hu xo.con xo.blt (fun x f h=>?_) (fun x ns h=>?_) (fun m tb c f h1 h2=>?_) xo.rm xo.sub xo.subx xo.exc xo.exs (fun x f h=>?_) xo.tp
 ·show (relabel scope X.env).names=(Γ.inner scope).names
  unfold relabel CC.inner
  simp only
  congr 1
  funext p
  obtain ⟨n,k⟩:=p
  have e:X.env.kindOf n=Γ.names.lookup n:=by unfold PySem.Env.kindOf; rw [xo.nm]
  simp only [hk,e]
  simp
 ·obtain ⟨fa,fd,ps,k,h1,h2,h3,h4,h5⟩:=(xo.fn x f h).ex
  exact ⟨⟨fa,fd,ps,k,h1,h2,h3,h4,h5⟩⟩
 ·obtain ⟨Ca,fa,fd,ps,h1,h2,h3,h4,h5,h6⟩:=(xo.cls x ns h).ex
  exact ⟨⟨Ca,fa,fd,ps,h1,h2,h3,h4,h5,h6⟩⟩
 ·obtain ⟨Ca,fa,fd,ps,k,z1,z2,z3,z4,z5,z6⟩:=(xo.mth m tb c f h1 h2).ex
  exact ⟨⟨Ca,fa,fd,ps,k,z1,z2,z3,z4,z5,z6⟩⟩
 ·exact ⟨trivial⟩
noncomputable def tTs (K:PySem.W.Frag) (P:Pins) (C:Calls) (cs:List E):TT:=fun σ H Q=>∃ (ρ:Env) (G:Hp) (b:Bool) (ρ':Env),Rel K ρ σ H G∧evTs P C cs ρ=some (.ok (.sh (.bl b)),ρ') ∧
 ∀ H' G',Aft K ρ σ H G ρ' H' G'→Q b H'
theorem pts_nilC:PTs X [] (tTs K P C []):=fun pins s σ H Q I ⟨ρ,G,b,ρ',r,e,k⟩=>by
 rw [evTs] at e
 cases e
 exact pts_nil pins s σ H Q I (k H G (Aft.refl r))
theorem pts_oneC {c:Expr} {cc:E} (h:Ok3 X K P C c cc):PTs X [c] (tTs K P C [cc]):=fun pins s σ H Q I ⟨ρ,G,b,ρ',r,e,k⟩=>by
 refine pts_one h.t pins s σ H Q I ?_
 rw [evTs] at e
 obtain ⟨v,ρ1,e1,e2⟩:=bind_ok e
 split at e2
 ·rw [evTs] at e2
  cases e2
  exact ⟨ρ,G,true,_,r,e1,k⟩
 ·cases e2
  exact ⟨ρ,G,false,_,r,e1,k⟩
 ·cases e2
theorem AftS.poke {ρ ρ':Env} {σ σ':St} {H G H' G':Hp} (b:AftS K ρ σ H G ρ' σ' H' G') {a:Addr} {o:HO} (h:H a=none) (g:G' a=none) (n:¬ Own ρ' σ' a):AftS K ρ σ H G ρ' σ' (upd H' a o) G':=by
 refine ⟨b.rel.poke g n,⟨b.ext.gg,fun c u e nc=>?_,fun c e=>?_,b.ext.gn⟩,b.own,b.un,b.pin,b.len⟩
 ·have:c≠a:=fun z=>by subst z; rw [h] at e; cases e
  rw [upd_ne this]; exact b.ext.hh c u e nc
 ·by_cases hc:c=a
  ·subst hc; rw [upd_same] at e; cases e
  ·rw [upd_ne hc] at e; exact b.ext.hx c e
theorem compL_len {tests elt:Env→Res RV} {bind:D→Env→Option Env}:∀ {ds acc acc':List D} {ρ ρ':Env},compL tests elt bind ds acc ρ=some (.ok acc',ρ')→acc.length≤acc'.length
 | [],acc,acc',ρ,ρ',e=>by simp only [compL,Option.some.injEq,Prod.mk.injEq,Out.ok.injEq] at e; rw [e.1]; exact Nat.le_refl _
 | d :: ds,acc,acc',ρ,ρ',e=>by
  simp only [compL] at e
  split at e
  ·cases e
  ·obtain ⟨c,ρ2,e1,e2⟩:=bind_ok e
   split at e2
   ·obtain ⟨v,ρ3,e3,e4⟩:=bind_ok e2
    have:=compL_len e4
    simp at this
    omega
   ·exact compL_len e2
   ·cases e2
theorem slots_reps {H G:Hp} {own new:Addr→Prop} {σ:St}:∀ (imp:List Nat) (ρ:Env) (as:List Sl) (ρ1:Env),Rel K ρ σ H G→lend (imp.map fun _=>true) (imp.map Hd.slot) ρ=some (as,ρ1) →
  ∃ xs,HReps K H G own new σ (imp.map Hd.slot) xs∧xs.length=imp.length∧(∀ a,¬ Tmp (imp.map Hd.slot) xs a)∧∀ (j:Nat) v,xs[j]?=some v→∃ i:Nat,imp[j]?=some i∧σ[i]?=some (some v)
 | [],ρ,as,ρ1,r,e=>⟨[],rfl,rfl,fun a z=>z,fun j v h=>by simp at h⟩
 | i :: imp,ρ,as,ρ1,r,e=>by
  have go:∀ (ρ2:Env) (as2:List Sl) (ρ3:Env),Rel K ρ2 σ H G→lend (imp.map fun _=>true) (imp.map Hd.slot) ρ2=some (as2,ρ3)→(∃ v,σ[i]?=some (some v)) →
    ∃ xs,HReps K H G own new σ ((i :: imp).map Hd.slot) xs∧xs.length=(i :: imp).length∧(∀ a,¬ Tmp ((i :: imp).map Hd.slot) xs a)∧∀ (j:Nat) v,xs[j]?=some v→∃ i':Nat,(i :: imp)[j]?=some i'∧σ[i']?=some (some v):=by
   intro ρ2 as2 ρ3 r2 e2 ⟨v,hv⟩
   obtain ⟨xs,h1,h2,h3,h4⟩:=slots_reps imp ρ2 as2 ρ3 r2 e2
   refine ⟨v :: xs,⟨v,xs,rfl,hv,h1,fun d a z=>(nomatch z)⟩,by simp [h2],fun a z=>h3 a z,fun j w hw=>?_⟩
   cases j with
   | zero=>simp only [List.getElem?_cons_zero,Option.some.injEq] at hw; subst hw; exact ⟨i,rfl,hv⟩
   | succ j=>exact h4 j w (by simpa using hw)
  simp only [List.map_cons,lend] at e
  split at e
  ·rename_i d hi
   cases q:lend (imp.map fun _=>true) (imp.map Hd.slot) ρ with
   | none=>rw [q] at e; cases e
   | some y=>exact go ρ y.1 y.2 r q (r.bound (by rw [hi]; rfl))
  ·rename_i d p l hi
   cases q:lend (imp.map fun _=>true) (imp.map Hd.slot) (ρ.set i .un) with
   | none=>rw [q] at e; cases e
   | some y=>exact go _ y.1 y.2 (r.unset i) q (r.bound (by rw [hi]; rfl))
  ·cases e
theorem putBack_evo {ρ1 ρ2 ρ':Env} {o:Option Nat} (ho:∀ i,o=some i→∃ d p l,ρ1[i]?=some (.ow d p l)) (e:putBack o ρ1 ρ2=some ρ') (h:Evo (takeOut o ρ1) ρ2):Evo ρ1 ρ':=by
 cases o with
 | none=>simp only [putBack,Option.some.injEq] at e; subst e; exact h
 | some i =>
  obtain ⟨d,p,l,hi⟩:=ho i rfl
  simp only [putBack] at e
  split at e
  ·rename_i sl hf hs
   rw [hi] at hs; cases hs
   cases e
   intro j
   by_cases hj:j=i
   ·subst hj
    rw [hi,List.getElem?_set_self (List.getElem?_eq_some_iff.mp hf).1]
    exact KindLe.refl _
   ·have:=h j
    rw [List.getElem?_set_ne (fun z=>hj z.symm)]
    have e2:(takeOut (some i) ρ1)[j]?=ρ1[j]?:=by
     show (ρ1.set i .un)[j]?=_
     rw [List.getElem?_set_ne (fun z=>hj z.symm)]
    rw [e2] at this
    exact this
  ·cases e
theorem imps_ok {Γ:CC}:∀ {xs:List Str} {imp:List Nat},Γ.imps xs=some imp→imp.length=xs.length∧∀ (j:Nat) x i,xs[j]?=some x→imp[j]?=some i→Γ.N[i]?=some x
 | [],imp,h=>by simp only [CC.imps,Option.some.injEq] at h; subst h; exact ⟨rfl,fun j x i z=>by simp at z⟩
 | x :: xs,imp,h=>by
  simp only [CC.imps] at h
  cases q:Γ.N.idxOf? x with
  | none=>rw [q] at h; cases h
  | some i =>
   rw [q] at h
   simp only [Option.bind_some] at h
   cases q2:Γ.imps xs with
   | none=>rw [q2] at h; cases h
   | some r =>
    rw [q2] at h
    simp only [Option.map_some,Option.some.injEq] at h
    subst h
    obtain ⟨h1,h2⟩:=imps_ok q2
    refine ⟨by simp [h1],fun j y k hy hk=>?_⟩
    cases j with
    | zero =>
     simp only [List.getElem?_cons_zero,Option.some.injEq] at hy hk
     subst hy hk
     exact idxOf_get q
    | succ j=>exact h2 j y k (by simpa using hy) (by simpa using hk)
structure ScOk (Γ:CC) (scope:Scope):Prop where
 kind:scope.kind=.function
 cell:∀ y∈scope.names,y.2≠.cell
 names:∀ x∈scope.names,x.2=.local→scope.names.lookup x.1=some .local
 free:∀ x∈scope.names,x.2=.free→scope.names.lookup x.1=some .free
 out:∀ p∈scope.names,p.2=.free→Γ.names.lookup p.1=some .cell∨Γ.names.lookup p.1=some .free
 nd:(frees scope ++ locs scope).Nodup
theorem scOk_ok {scope:Scope} (h:Γ.scOk scope=true):ScOk Γ scope:=by
 unfold CC.scOk at h
 simp only [Bool.and_eq_true,List.all_eq_true,decide_eq_true_eq,beq_iff_eq,bne_iff_ne,Bool.or_eq_true,ne_eq] at h
 obtain ⟨⟨⟨⟨h1,h2⟩,h3⟩,h4⟩,h5⟩:=h
 refine ⟨h1,h2,fun x hx hl=>?_,fun x hx hf=>?_,fun x hx hf=>?_,h5⟩
 ·rcases h3 x hx with z | z
  ·exact absurd hl z
  ·exact z
 ·rcases h4 x hx with z | z
  ·exact absurd hf z
  ·exact z.1
 ·rcases h4 x hx with z | z
  ·exact absurd hf z
  ·exact z.2
theorem frees_free {scope:Scope} {x:Str} (sc:ScOk Γ scope) (h:x∈frees scope):scope.names.lookup x=some .free:=by
 unfold frees at h
 obtain ⟨p,hp,rfl⟩:=List.mem_map.mp h
 obtain ⟨h1,h2⟩:=List.mem_filter.mp hp
 exact sc.free p h1 (eq_of_beq h2)
def JOk (K:PySem.W.Frag) (ρ0:Env) (σ0:St) (H1 G2:Hp) (ds:List D) (J:It):Prop:=∀ i H' ρc σ' Gc,AftS K ρ0 σ0 H1 G2 ρc σ' H' Gc→(i=ds.length→J.stop i H')∧(i<ds.length→J.go i H')∧∀ d x H2,ds[i]?=some d→J.yld i H' x H2→∃ Gd,Aft K ρc σ' H' Gc ρc H2 Gd∧Rep K Gd d x
theorem its_ok {ρ1 ρ0:Env} {σ σ0:St} {H1 G1 G2:Hp} {ds:List D} {o:Option Nat} (gg2:Same G1 G2) (own:∀ c,Own ρ0 σ0 c→Own (takeOut o ρ1) σ c) :
  (∀ a vs,Src K (takeOut o ρ1) σ H1 G1 a vs→Reps K G1 ds vs→JOk K ρ0 σ0 H1 G2 ds (Itl K a))∧(∀ a vs,SqT K G1 a vs→Reps K G1 ds vs→JOk K ρ0 σ0 H1 G2 ds (Itt K a))∧(∀ (lo:Int) (n:Nat),ds=(List.range n).map (fun (j:Nat)=>D.int (lo+(j:Int)))→JOk K ρ0 σ0 H1 G2 ds (Itr lo n))∧(∀ a vs ds0 lo,ds=enumD lo ds0→Src K (takeOut o ρ1) σ H1 G1 a vs→Reps K G1 ds0 vs→JOk K ρ0 σ0 H1 G2 ds (Ite K a lo))∧(∀ x,ds=strDs x→PyData.strOk x=true→JOk K ρ0 σ0 H1 G2 ds (Its x)):=by
 refine ⟨fun a vs hsrc hr=>?_,fun a vs ht hr=>?_,fun lo n hds=>?_,fun a vs ds0 lo hds hsrc hr=>?_,fun x hds hok=>?_⟩
 ·intro i H' ρc σ' Gc af
  have hnow:SqL K H' a vs:=by
   rcases hsrc with h | ⟨h1,h2,h3⟩
   ·exact af.rel.sub.seq (af.ext.gg.seq (gg2.seq h))
   ·exact SqL.of (af.ext.hh a _ h1 fun z=>h3 (own a z))
  refine ⟨fun hi=>⟨vs,hnow,by rw [hr.len]; omega⟩,fun hi=>?_,fun d x H2 hd hy=>?_⟩
  ·obtain ⟨x',h1,h2⟩:=hr.get (List.getElem?_eq_getElem hi)
   exact ⟨vs,x',hnow,h1⟩
  ·obtain ⟨rfl,hy⟩:=hy
   obtain ⟨x',h1,h2⟩:=hr.get hd
   have:=hy vs hnow
   rw [h1] at this
   cases this
   exact ⟨_,Aft.refl af.rel,Rep.mono af.ext.gg d (Rep.mono gg2 d h2)⟩
 ·intro i H' ρc σ' Gc af
  have hnow:SqT K H' a vs:=sqT_mono af.rel.sub (sqT_mono af.ext.gg (sqT_mono gg2 ht))
  refine ⟨fun hi=>⟨vs,hnow,by rw [hr.len]; omega⟩,fun hi=>?_,fun d x H2 hd hy=>?_⟩
  ·obtain ⟨x',h1,h2⟩:=hr.get (List.getElem?_eq_getElem hi)
   exact ⟨vs,x',hnow,h1⟩
  ·obtain ⟨rfl,hy⟩:=hy
   obtain ⟨x',h1,h2⟩:=hr.get hd
   have:=hy vs hnow
   rw [h1] at this
   cases this
   exact ⟨_,Aft.refl af.rel,Rep.mono af.ext.gg d (Rep.mono gg2 d h2)⟩
 ·intro i H' ρc σ' Gc af
  have hlen:ds.length=n:=by rw [hds]; simp
  refine ⟨fun hi=>by show n≤i; omega,fun hi=>by show i<n; omega,fun d x H2 hd hy=>?_⟩
  obtain ⟨rfl,hy⟩:=hy
  have hi:i<n:=by rw [← hlen]; exact (List.getElem?_eq_some_iff.mp hd).1
  have hd':ds[i]?=some (.int (lo+(i:Int))):=by rw [hds]; simp [hi]
  rw [hd'] at hd
  cases hd
  subst hy
  exact ⟨_,Aft.refl af.rel,by simp [Rep]⟩
 ·intro i H' ρc σ' Gc af
  subst hds
  have hnow:SqL K H' a vs:=by
   rcases hsrc with h | ⟨h1,h2,h3⟩
   ·exact af.rel.sub.seq (af.ext.gg.seq (gg2.seq h))
   ·exact SqL.of (af.ext.hh a _ h1 fun z=>h3 (own a z))
  refine ⟨fun hi=>⟨vs,hnow,by rw [hr.len,← enumD_len (lo:=lo)]; omega⟩,fun hi=>?_,fun d x H2 hd hy=>?_⟩
  ·obtain ⟨x',h1,h2⟩:=hr.get (List.getElem?_eq_getElem (by rw [enumD_len] at hi; exact hi))
   exact ⟨vs,x',hnow,h1⟩
  ·obtain ⟨p0,y0,hn,rfl,rfl,hy⟩:=hy
   have hl:i<ds0.length:=by rw [← enumD_len (lo:=lo)]; exact (List.getElem?_eq_some_iff.mp hd).1
   obtain ⟨x',h1,h2⟩:=hr.get (List.getElem?_eq_getElem hl)
   have hy:=hy vs hnow
   rw [h1] at hy
   cases hy
   rw [enumD_get (List.getElem?_eq_getElem hl)] at hd
   cases hd
   exact ⟨_,(Aft.refl af.rel).layG hn,enum_rep (Same.free af.rel.sub hn) (Rep.mono af.ext.gg _ (Rep.mono gg2 _ h2))⟩
 ·intro i H' ρc σ' Gc af
  have hlen:ds.length=x.cps.size:=by rw [hds]; simp [strDs]
  refine ⟨fun hi=>by show x.cps.size≤i; omega,fun hi=>by show i<x.cps.size; omega,fun d v H2 hd hy=>?_⟩
  obtain ⟨rfl,c,hc,rfl⟩:=hy
  rw [hds] at hd
  unfold strDs at hd
  rw [List.getElem?_map,Array.getElem?_toList,hc] at hd
  cases hd
  refine ⟨_,Aft.refl af.rel, ?_⟩
  unfold Rep
  refine ⟨rfl, ?_⟩
  unfold PyData.strOk at hok ⊢
  have:=Array.all_eq_true.mp hok i (Array.getElem?_eq_some_iff.mp hc).1
  rw [(Array.getElem?_eq_some_iff.mp hc).2] at this
  simpa using this
abbrev HwE (K:PySem.W.Frag) (P:Pins) (C:Calls) (k0:ItK) (its:List E) (σ:St) (H:Hp) (R:It→Hp→Prop):Prop:=∃ (ρ:Env) (G:Hp) (hs:List Hd) (ρ1:Env) (ds:List D) (o:Option Nat),Rel K ρ σ H G∧evHs P C its ρ=some (.ok hs,ρ1)∧itemsOf k0 hs ρ1=some (ds,o) ∧
   ∀ H1 G1,Aft K ρ σ H G ρ1 H1 G1→(∀ i,o=some i→∃ d p l,ρ1[i]?=some (.ow d p l)) →
    (∀ a vs,Src K (takeOut o ρ1) σ H1 G1 a vs→Reps K G1 ds vs→R (Itl K a) H1)∧(∀ a vs,SqT K G1 a vs→Reps K G1 ds vs→R (Itt K a) H1)∧(∀ (lo:Int) (n:Nat),ds=(List.range n).map (fun (j:Nat)=>D.int (lo+(j:Int)))→R (Itr lo n) H1)∧(∀ a vs ds0 lo,ds=enumD lo ds0→Src K (takeOut o ρ1) σ H1 G1 a vs→Reps K G1 ds0 vs→R (Ite K a lo) H1)∧(∀ x,ds=strDs x→PyData.strOk x=true→R (Its x) H1)
abbrev Hw4 (K:PySem.W.Frag) (P:Pins) (C:Calls) (k0:ItK) (its:List E) (σ:St) (H:Hp) (R:It→Hp→Prop):Prop:=∃ (ρ:Env) (G:Hp) (hs:List Hd) (ρ1:Env) (ds:List D) (o:Option Nat),Rel K ρ σ H G∧evHs P C its ρ=some (.ok hs,ρ1)∧itemsOf k0 hs ρ1=some (ds,o) ∧
   ∀ H1 G1,Aft K ρ σ H G ρ1 H1 G1→(∀ i,o=some i→∃ d p l,ρ1[i]?=some (.ow d p l)) →
    (∀ a vs,Src K (takeOut o ρ1) σ H1 G1 a vs→Reps K G1 ds vs→R (Itl K a) H1)∧(∀ a vs,SqT K G1 a vs→Reps K G1 ds vs→R (Itt K a) H1)∧(∀ (lo:Int) (n:Nat),ds=(List.range n).map (fun (j:Nat)=>D.int (lo+(j:Int)))→R (Itr lo n) H1)∧(∀ a vs ds0 lo,ds=enumD lo ds0→Src K (takeOut o ρ1) σ H1 G1 a vs→Reps K G1 ds0 vs→R (Ite K a lo) H1)
theorem hw4 {K:PySem.W.Frag} {P:Pins} {C:Calls} {k0:ItK} {its:List E} {σ:St} {H:Hp} {R:It→Hp→Prop} (q:HwE K P C k0 its σ H R):Hw4 K P C k0 its σ H R:=by
 obtain ⟨ρ,G,hs,ρ1,ds,o,r,e,ei,k⟩:=q
 refine ⟨ρ,G,hs,ρ1,ds,o,r,e,ei,fun H1 G1 a ho=>?_⟩
 obtain ⟨k1,k2,k3,k4,_⟩:=k H1 G1 a ho
 exact ⟨k1,k2,k3,k4⟩
theorem sig_hw {K:PySem.W.Frag} {P:Pins} {C:Calls} {c:E} (σ:St) (H:Hp) (R:It→Hp→Prop) (q:HwE K P C .sig [c] σ H R):iStr (tH K P C c) σ H R:=by
 obtain ⟨ρ,G,hs,ρ1,ds,o,r,e,ei,k⟩:=q
 simp only [evHs] at e
 obtain ⟨h,ρ2,e1,e2⟩:=bind_ok e
 simp only [Res.bind,Option.some.injEq,Prod.mk.injEq,Out.ok.injEq] at e2
 obtain ⟨rfl,rfl⟩:=e2
 refine ⟨ρ,G,h,_,r,e1,fun v H1 G1 a1 hv=>?_⟩
 simp only [itemsOf] at ei
 cases q:h.get ρ2 with
 | none=>rw [q] at ei; cases ei
 | some d =>
  rw [q] at ei
  cases d with
  | str x =>
   simp only at ei
   split at ei
   ·rename_i hc
    cases ei
    obtain ⟨rfl,_⟩:=(hv.read a1.rel q).str
    exact ⟨x,rfl,hc.1,(k H1 G1 a1 fun i z=>nomatch z).2.2.2.2 x rfl hc.2⟩
   ·cases ei
  | _=>cases ei
theorem comp_gen (xo:XOk X K P C Γ) {scope:Scope} {ce:E} {k0:ItK} {its cond:List E} {imp is:List Nat} {wi:TI} {elt:Env→Res RV} (helt:∀ ρ v ρ',elt ρ=some (.ok v,ρ')→ev P C false ce ρ=some (.ok v,ρ')) (sc:ScOk Γ scope) (himp:Γ.imps (frees scope)=some imp)
  (hw:∀ σ H (R:It→Hp→Prop),HwE K P C k0 its σ H R→wi σ H R)
  {σ:St} {H:Hp} {Q:VK} (h:∃ (ρ:Env) (G:Hp) (v:RV) (ρ':Env),Rel K ρ σ H G∧evG P C elt is k0 its cond imp (locs scope).length ρ=some (.ok v,ρ')∧∀ x H' G',Aft K ρ σ H G ρ' H' G'→VRep K H' G' (Own ρ' σ) (Fresh H) v x→((∀ ρ v ρ',elt ρ=some (.ok v,ρ')→∃ ds,v=.ow (.lst ds)∧ds.length≤1000)→∀ a,x=.ref a→Rows H' (Own ρ' σ) (Fresh H) a)→Q x H'):tComp X.N scope (Γ.inner scope).N wi (gB K (is.length == 1) is) (tTs K P C cond) (tE K P C ce) σ H Q:=by
 obtain ⟨ρ,G,v,ρ',r,e,k⟩:=h
 unfold evG at e
 obtain ⟨hs',ρ1,e1,e2⟩:=bind_ok e
 cases q:itemsOf k0 hs' ρ1 with
 | none=>rw [q] at e2; cases e2
 | some y =>
  obtain ⟨ds,o⟩:=y
  rw [q] at e2
  obtain ⟨v',ρ2,e3,e4⟩:=bind_ok e2
  unfold giveOut at e4
  cases q3:putBack o ρ1 ρ2 with
  | none=>rw [q3] at e4; cases e4
  | some ρ3 =>
   rw [q3] at e4
   simp only [Option.map_some,Option.some.injEq,Prod.mk.injEq,Out.ok.injEq] at e4
   obtain ⟨rfl,rfl⟩:=e4
   unfold tComp
   refine hw σ H _ ⟨ρ,G,hs',ρ1,ds,o,r,e1,q,fun H1 G1 a1 ho=>?_⟩
   have R0:=(takeOut_rel (o:=o) a1.rel).1
   have hld:∃ as ρ4,lend (imp.map fun _=>true) (imp.map Hd.slot) (takeOut o ρ1)=some (as,ρ4):=by
    unfold doCall at e3
    cases q4:lend (imp.map fun _=>true) (imp.map Hd.slot) (takeOut o ρ1) with
    | none=>rw [q4] at e3; cases e3
    | some y=>exact ⟨y.1,y.2,rfl⟩
   obtain ⟨as0,ρ4,hld⟩:=hld
   obtain ⟨xs,hx1,hx2,hx3,hx4⟩:=slots_reps (own:=Own (takeOut o ρ1) σ) (new:=Fresh H1) imp _ _ _ R0 hld
   obtain ⟨as,G2,as',ra,hal,ef,⟨gg2,ao2⟩,kk⟩:=doCall_ok (Aft.refl R0) hx1 e3
   unfold compF at ef
   split at ef
   ·rename_i hp
    obtain ⟨acc,ρi,e5,e6⟩:=bind_ok ef
    split at e6
    ·rename_i hz
     simp only [Option.some.injEq,Prod.mk.injEq,Out.ok.injEq] at e6
     obtain ⟨rfl,rfl⟩:=e6
     obtain ⟨il,ig⟩:=imps_ok himp
     have hNl:(Γ.inner scope).N.length=as.length+(locs scope).length:=by
      show (frees scope ++ locs scope).length=_
      rw [List.length_append,hal,List.length_map,il]
     obtain ⟨rp,op⟩:=ra.pad hNl
     have hsz:=smallL_ok hz
     -- the block's turns
     have turns:∀ (J:It),JOk K (as ++ List.replicate (locs scope).length .un) (start (Γ.inner scope).N xs) H1 G2 ds J→tCompJ X.N scope (Γ.inner scope).N (gB K (is.length == 1) is) (tTs K P C cond) (tE K P C ce) σ Q J H1:=by
      intro J hJ
      refine Exists.intro xs ⟨by rw [hNl,hx2,hal,List.length_map]; omega,fun i x v hN hv=>?_,fun D hD=>?_⟩
      ·obtain ⟨j,hj,hσ⟩:=hx4 i v hv
       have hlt:i<(frees scope).length:=by
        rw [← il]
        exact (List.getElem?_eq_some_iff.mp hj).1
       have hfx:(frees scope)[i]?=some x:=by
        have:(frees scope ++ locs scope)[i]?=some x:=hN
        rwa [List.getElem?_append_left hlt] at this
       exact ⟨j,by rw [xo.neq]; exact ig i x j hfx hj,hσ,frees_free sc (List.mem_of_getElem? hfx)⟩
      ·have fin:∀ σ' H' Gc ys,AftS K (as ++ List.replicate (locs scope).length .un) (start (Γ.inner scope).N xs) H1 G2 ρi σ' H' Gc→H' D=some (.lst ys)→Gc D=none→¬ Own ρi σ' D→Reps K Gc acc ys→((∀ ρ v ρ',elt ρ=some (.ok v,ρ')→∃ ds,v=.ow (.lst ds)∧ds.length≤1000)→RowsI H' (Own ρi σ') (fun b=>H1 b=none∧b≠D) ys)→Q (.ref D) H':=by
        intro σ' H' Gc ys a hHD hGD hnD hr hR
        obtain ⟨b1,b2⟩:=back_aft ra hp hNl a
        obtain ⟨c1,c2⟩:=kk (.ref D) H' Gc b1 ⟨D,rfl,hGD,⟨ys,hHD,hr⟩,fun z=>hnD (b2 D z),hD⟩
        obtain ⟨d1,d2⟩:=putBack_aft a1.rel ho q3 (Aft.s R0 c1)
        have a2:Aft K ρ1 σ H1 G1 ρ3 H' Gc:=⟨d1.rel,d1.ext,putBack_evo ho q3 c1.evo⟩
        obtain ⟨D',e',g',o',n',f'⟩:=c2
        cases e'
        refine k _ _ _ (a1.trans a2) ⟨D,rfl,g',o',fun z=>?_,a1.fresh hD⟩ fun hF c hc=>?_
        ·rcases d2 D z with z | ⟨z,_⟩
         ·exact n' z
         ·exact (a1.rel.owned z).1 hD
        ·cases hc
         refine ⟨ys,hHD,fun x hx=>?_⟩
         obtain ⟨b,ws,z1,z2,z3,_,z5,z6⟩:=hR hF x hx
         exact ⟨b,ws,z1,z2,z3,fun z=>(a1.rel.owned (a2.own b z)).1 z5,a1.fresh z5,z6⟩
       clear kk k q3 R0 ho a1 hp hNl ra hal gg2 ao2 hx1 hx2 hx3 hx4 hld e3 q e1 r himp il ig op
       refine ⟨ds.length,fun i σ' H'=>i≤ds.length∧∃ ρc Gc ac ys,AftS K (as ++ List.replicate (locs scope).length .un) (start (Γ.inner scope).N xs) H1 G2 ρc σ' H' Gc∧H' D=some (.lst ys)∧Gc D=none∧¬ Own ρc σ' D∧Reps K Gc ac ys∧compL (evTs P C cond) elt (bindT (is.length == 1) is) (ds.drop i) ac ρc=some (.ok acc,ρi)∧((∀ ρ v ρ',elt ρ=some (.ok v,ρ')→∃ ds,v=.ow (.lst ds)∧ds.length≤1000)→RowsI H' (Own ρc σ') (fun b=>H1 b=none∧b≠D) ys), ?_, ?_⟩
       ·have g2:G2 D=none:=by
         cases z:G2 D with
         | none=>rfl
         | some u=>have:=rp.sub D u z; rw [hD] at this; cases this
        exact ⟨Nat.zero_le _,_,G2,[],[],Aft.s rp ((Aft.refl rp).layH hD),upd_same,g2,rp.notOwn hD,Reps.nil,e5,fun _ x hx=>nomatch hx⟩
       ·rintro i σ' H' ⟨hil,ρc,Gc,ac,ys,a,hHD,hGD,hnD,hr,ec,hR⟩
        obtain ⟨j1,j2,j3⟩:=hJ i H' ρc σ' Gc a
        by_cases hlt:i<ds.length
        ·refine .inr ⟨hlt,j2 hlt,fun x H2 hy=>?_⟩
         have hd:ds[i]?=some ds[i]:=List.getElem?_eq_getElem hlt
         obtain ⟨Gd,afd,hrep⟩:=j3 _ x H2 hd hy
         have hGD:=afd.ext.gn D (by rw [hHD]; simp) hGD hnD
         have hR:=fun z=>(hR z).step afd.ext.hh fun b w=>.inl (afd.own b w)
         have hHD:=afd.ext.hh D _ hHD hnD
         have hr:=Reps.mono afd.ext.gg _ hr
         have a:=a.trans (Aft.s a.rel afd)
         rw [List.drop_eq_getElem_cons hlt] at ec
         simp only [compL] at ec
         split at ec
         ·cases ec
         ·rename_i ρb hb
          obtain ⟨c,ρt,et,ec⟩:=bind_ok ec
          refine ⟨ρc,Gd,ds[i],ρb,a.rel,hrep,hb,fun σ1 ab=>?_⟩
          have a01:=a.trans ab
          have hR:=fun z=>(hR z).step (fun b o w _=>w) ab.own
          have nb:¬ Own ρb σ1 D:=fun z=>by
           rcases ab.own D z with z | z
           ·exact hnD z
           ·rw [hHD] at z; cases z
          split at ec
          ·obtain ⟨w,ρe,ee,ec⟩:=bind_ok ec
           refine ⟨ρb,Gd,true,ρt,ab.rel,et,fun H3 G3 at3=>?_⟩
           have h3:H3 D=some (.lst ys):=at3.ext.hh D _ hHD nb
           have g3:G3 D=none:=at3.ext.gn D (by rw [hHD]; simp) hGD nb
           have n3:¬ Own ρt σ1 D:=fun z=>nb (at3.own D z)
           dsimp only
           rw [if_pos rfl]
           refine ⟨ρt,G3,w,ρe,at3.rel,helt _ _ _ ee,fun y H4 G4 a4 ry=>?_⟩
           obtain ⟨G5,a5,ry5⟩:=a4.share ry
           have h4:H4 D=some (.lst ys):=a5.ext.hh D _ h3 n3
           have g5:G5 D=none:=a5.ext.gn D (by rw [h3]; simp) g3 n3
           have n5:¬ Own ρe σ1 D:=fun z=>n3 (a5.own D z)
           have hlen:=compL_len ec
           have hyl:=hr.len
           rw [List.length_append] at hlen
           simp only [List.length_cons,List.length_nil] at hlen
           have a05:=(a01.trans (Aft.s ab.rel at3)).trans (Aft.s at3.rel a5)
           refine ⟨ys,h4,by omega,hlt,ρe,G5,ac ++ [w.d],ys ++ [y],a05.poke hD g5 n5,upd_same,g5,n5, ?_,ec,fun hF x hx=>?_⟩
           ·exact (Reps.mono a5.ext.gg _ (Reps.mono at3.ext.gg _ hr)).app (Reps.cons ry5 Reps.nil)
           ·rcases List.mem_append.mp hx with hx | hx
            ·obtain ⟨b,ws,z1,z2,z3,z4,z5,z6⟩:=((hR hF).step at3.ext.hh fun b w=>.inl (at3.own b w)).step a5.ext.hh (fun b w=>.inl (a5.own b w)) x hx
             exact ⟨b,ws,z1,by rw [upd_ne z6]; exact z2,z3,z4,z5,z6⟩
            ·rw [List.mem_singleton.mp hx]
             obtain ⟨dw,rfl,hdw⟩:=hF _ _ _ ee
             obtain ⟨b,rfl,_,⟨ws,z1,z2⟩,z3,z4⟩:=ry
             have hbD:b≠D:=fun z=>by subst z; have:H3 b=none:=z4; rw [h3] at this; cases this
             exact ⟨b,ws,rfl,by rw [upd_ne hbD]; exact z1,by rw [z2.len]; exact hdw,z3,(a01.trans (Aft.s ab.rel at3)).ext.hx b z4,hbD⟩
          ·refine ⟨ρb,Gd,false,ρt,ab.rel,et,fun H3 G3 at3=>?_⟩
           have h3:H3 D=some (.lst ys):=at3.ext.hh D _ hHD nb
           have g3:G3 D=none:=at3.ext.gn D (by rw [hHD]; simp) hGD nb
           have n3:¬ Own ρt σ1 D:=fun z=>nb (at3.own D z)
           dsimp only
           rw [if_neg (by decide)]
           exact ⟨hlt,ρt,G3,ac,ys,a01.trans (Aft.s ab.rel at3),h3,g3,n3,Reps.mono at3.ext.gg _ hr,ec,fun hF=>(hR hF).step at3.ext.hh fun b w=>.inl (at3.own b w)⟩
          ·cases ec
        ·have hie:i=ds.length:=by omega
         refine .inl ⟨j1 hie, ?_⟩
         subst hie
         rw [List.drop_length] at ec
         simp only [compL,Option.some.injEq,Prod.mk.injEq,Out.ok.injEq] at ec
         obtain ⟨rfl,rfl⟩:=ec
         exact fin _ _ _ _ a hHD hGD hnD hr hR
     have noTmp:∀ c,Own as (xs.map some) c→Own (takeOut o ρ1) σ c:=fun c z=>by
      rcases ao2 c z with z | z
      ·exact z
      ·exact absurd z (hx3 c)
     obtain ⟨w1,w2,w3,w4,w5⟩:=its_ok (K:=K) (ρ1:=ρ1) (σ:=σ) (H1:=H1) (ds:=ds) (o:=o) gg2 fun c z=>noTmp c (op c z)
     exact ⟨fun a vs h1 h2=>turns _ (w1 a vs h1 h2),fun a vs h1 h2=>turns _ (w2 a vs h1 h2),fun lo n h1=>turns _ (w3 lo n h1),fun a vs ds0 lo h1 h2 h3=>turns _ (w4 a vs ds0 lo h1 h2 h3),fun x h1 h2=>turns _ (w5 x h1 h2)⟩
    ·cases e6
   ·cases ef
theorem comp_imp (xo:XOk X K P C Γ) {scope:Scope} {ce:E} {k0:ItK} {its cond:List E} {imp is:List Nat} {wi:TI} (sc:ScOk Γ scope) (himp:Γ.imps (frees scope)=some imp)
  (hw:∀ σ H (R:It→Hp→Prop),HwE K P C k0 its σ H R→wi σ H R)
  {σ:St} {H:Hp} {Q:VK} (h:tE K P C (.comp ce is k0 its cond imp (locs scope).length) σ H Q):tComp X.N scope (Γ.inner scope).N wi (gB K (is.length == 1) is) (tTs K P C cond) (tE K P C ce) σ H Q:=by
 obtain ⟨ρ,G,v,ρ',r,e,k⟩:=h
 simp only [ev,wrap_false] at e
 exact comp_gen xo (elt:=ev P C false ce) (fun _ _ _ z=>z) sc himp hw ⟨ρ,G,v,ρ',r,e,fun x H' G' a hv _=>k x H' G' a hv⟩
theorem comp_impD (xo:XOk X K P C Γ) {scope:Scope} {ce:E} {k0:ItK} {its:List E} {imp is:List Nat} {wi:TI} (sc:ScOk Γ scope) (himp:Γ.imps (frees scope)=some imp)
  (hw:∀ σ H (R:It→Hp→Prop),HwE K P C k0 its σ H R→wi σ H R)
  {σ:St} {H:Hp} {Q:VK} (h:∃ (ρ:Env) (G:Hp) (d:D) (ρ':Env),Rel K ρ σ H G∧evD P C ce is k0 its imp (locs scope).length ρ=some (.ok (.ow d),ρ')∧∀ x H' G',Aft K ρ σ H G ρ' H' G'→VRep K H' G' (Own ρ' σ) (Fresh H) (.od d) x→Q x H'):tComp X.N scope (Γ.inner scope).N wi (gB K (is.length == 1) is) (tTs K P C []) (tE K P C ce) σ H Q:=by
 obtain ⟨ρ,G,d,ρ',r,e,k⟩:=h
 have hO:∀ ρ v ρ',odO (ev P C false ce ρ)=some (.ok v,ρ')→ev P C false ce ρ=some (.ok v,ρ')∧∃ ds,v=.ow (.lst ds)∧ds.length≤1000:=fun ρ v ρ' z=>by
  unfold odO at z
  split at z
  ·rename_i q
   split at z
   ·rename_i hl
    cases z
    exact ⟨q,_,rfl,hl⟩
   ·cases z
  ·cases z
 refine comp_gen xo (elt:=fun ρ=>odO (ev P C false ce ρ)) (fun ρ v ρ' z=>(hO ρ v ρ' z).1) sc himp hw ⟨ρ,G,.ow d,ρ',r,e,fun x H' G' a hv hR=>k x H' G' a ?_⟩
 obtain ⟨c,rfl,g,o,n,m⟩:=hv
 exact ⟨c,rfl,g,o,n,m,hR (fun ρ v ρ' z=>(hO ρ v ρ' z).2) c rfl⟩
noncomputable def tDE (K:PySem.W.Frag) (P:Pins) (C:Calls) (c:E):TE:=fun σ H Q=>match c with
 | .comp ce is k0 its [] imp nl=>∃ (ρ:Env) (G:Hp) (d:D) (ρ':Env),Rel K ρ σ H G∧evD P C ce is k0 its imp nl ρ=some (.ok (.ow d),ρ')∧∀ x H' G',Aft K ρ σ H G ρ' H' G'→VRep K H' G' (Own ρ' σ) (Fresh H) (.od d) x→Q x H'
 | _=>False
def OkU (X:Cx) (K:PySem.W.Frag) (P:Pins) (C:Calls) (e:Expr) (c:E):Prop:=∀ (x:Str) (i:Nat) (p pos:Pos),X.N.Nodup→X.N[i]?=some x→Loc X.env.scope x→(X.fn x=true∨X.env.scope.names.lookup x=some .local) →
 PS X (.Assign [.Name x p] e pos) (tAsg (tE K P C c) (gName i))
theorem okU_bad {e:Expr}:OkU X K P C e .bad:=fun x i p pos _ _ _ _ pins s σ H D I h=>by
 obtain ⟨ρ,G,v,ρ',r,e,k⟩:=h
 rw [ev] at e
 cases e
theorem ok_comp (xo:XOk X K P C Γ) {elt tg iter:Expr} {ifs:List Expr} {scope:Scope} {pos:Pos} {ce:E} {k0:ItK} {its cond:List E} {imp is:List Nat} {wi:TI} (sc:ScOk Γ scope) (himp:Γ.imps (frees scope)=some imp) (htg:tgOf (Γ.inner scope) tg=some (is.length == 1,is))
  (hi:PI X tg iter wi) (hs:∀ x,foldedSetIterable iter X.env x=pure x)
  (hw:∀ σ H (R:It→Hp→Prop),HwE K P C k0 its σ H R→wi σ H R)
  (he:∀ X',XOk X' K P C (Γ.inner scope)→Ok3 X' K P C elt ce) (ht:∀ X',XOk X' K P C (Γ.inner scope)→PTs X' ifs (tTs K P C cond)) :
  Ok3 X K P C (.ListComp elt [⟨tg,iter,ifs,0⟩] scope pos) (.comp ce is k0 its cond imp (locs scope).length)∧OkU X K P C (.ListComp elt [⟨tg,iter,ifs,0⟩] scope pos) (.comp ce is k0 its cond imp (locs scope).length)∧PE X (.ListComp elt [⟨tg,iter,ifs,0⟩] scope pos) (tDE K P C (.comp ce is k0 its cond imp (locs scope).length)):=by
 have all:X.env.scope.kind=.function→(∀ X',Blk X scope (Γ.inner scope).N X'→PG X' tg (gB K (is.length == 1) is))∧(∀ X',Blk X scope (Γ.inner scope).N X'→PTs X' ifs (tTs K P C cond))∧∀ X',Blk X scope (Γ.inner scope).N X'→PE X' elt (tE K P C ce):=by
  intro hk
  have xi:∀ X',Blk X scope (Γ.inner scope).N X'→XOk X' K P C (Γ.inner scope):=fun X' b=>xo.inner hk sc.nd b
  have hfn:∀ X',Blk X scope (Γ.inner scope).N X'→∀ x,(Γ.inner scope).isLoc x=true→X'.fn x=true∨X'.env.scope.names.lookup x=some .local:=fun X' b x hx=>by
   rw [(xi X' b).nm]
   unfold CC.isLoc at hx
   rw [Bool.or_eq_true,Bool.and_eq_true] at hx
   rcases hx with hx | hx
   ·exact .inr (eq_of_beq hx)
   ·exact absurd hx.1 (by simp [CC.inner])
  exact ⟨fun X' b=>tgOf_ok (xi X' b) (hfn X' b) htg,fun X' b=>ht X' (xi X' b),fun X' b=>(he X' (xi X' b)).v⟩
 have hfk:∀ p∈scope.names,p.2=.free→X.env.kindOf p.1=some .cell∨X.env.kindOf p.1=some .free:=fun p hp hf=>by unfold PySem.Env.kindOf; rw [xo.nm]; exact sc.out p hp hf
 have hPE:PE X (.ListComp elt [⟨tg,iter,ifs,0⟩] scope pos) (tE K P C (.comp ce is k0 its cond imp (locs scope).length)):=fun pins s σ H Q I h=>by
  obtain ⟨h1,h2,h3⟩:=all I.ok.kind
  exact pe_comp (N':=(Γ.inner scope).N) xo.calm hi hs sc.kind sc.cell sc.names hfk h1 h2 h3 pins s σ H Q I (comp_imp xo sc himp hw h)
 refine ⟨mk3 xo hPE (fun i z=>nomatch z) (fun ρ=>by simp only [ev,wrap_false]) fun _=>rfl,fun x i p spos hN hx hl hf=>?_,fun pins s σ H Q I h=>?_⟩
 case refine_2 =>
  obtain ⟨h1,h2,h3⟩:=all I.ok.kind
  cases cond with
  | nil=>exact pe_comp (N':=(Γ.inner scope).N) xo.calm hi hs sc.kind sc.cell sc.names hfk h1 h2 h3 pins s σ H Q I (comp_impD xo sc himp hw h)
  | cons _ _=>exact h.elim
 obtain ⟨b,hb⟩:∃ b:Bool,swapsWith (.ListComp elt [⟨tg,iter,ifs,0⟩] scope pos) (some (.Name x p)) spos.line X.env=pure b:=⟨_,rfl⟩
 cases b with
 | false=>exact ps_asg hPE (pg_name hN hx hl hf) hb
 | true =>
  intro pins s σ H D I h
  obtain ⟨h1,h2,h3⟩:=all I.ok.kind
  exact ps_comp_used hb hN hx hl hf xo.calm hi hs sc.kind sc.cell sc.names hfk h1 h2 h3 pins s σ H D I (comp_imp xo sc himp hw h)
end
structure ArgsOk (X:Cx) (K:PySem.W.Frag) (P:Pins) (C:Calls) (e:Expr) (cs:List E):Prop where
 h:∀ (f:Str) (p:Pos) (args:List Expr) (kw:List _) (pos:Pos),e=.Call (.Name f p) args kw pos→args.all notStar=true→PA X args (tHs K P C cs)∧cs.length=args.length
theorem cEs_len {Γ:CC}:∀ (es:List Expr),(cEs Γ es).length=es.length
 | []=>by rw [cEs]; rfl
 | e :: es=>by rw [cEs,List.length_cons,List.length_cons,cEs_len es]
section
variable {X:Cx} {K:PySem.W.Frag} {P:Pins} {C:Calls} {Γ:CC}
theorem tgOf_many {Γ:CC} {tg:Expr} {one:Bool} {is:List Nat} (h:tgOf Γ tg=some (one,is)) (n:one=false):∃ elts k p,tg=.Tuple elts k p:=by
 cases tg <;> simp only [tgOf,reduceCtorEq] at h
 ·rename_i x pos
  cases q:Γ.slotL x with
  | none=>rw [q] at h; cases h
  | some i=>rw [q] at h; cases h; cases n
 ·exact ⟨_,_,_,rfl⟩
theorem comp_elim (xo:XOk X K P C Γ) {tg iter:Expr} {scope:Scope} {ci ce:E} {cargs cond:List E} (hci:Ok3 X K P C iter ci) (hca:ArgsOk X K P C iter cargs) {Φ:E→Prop} (bad:Φ .bad)
  (good:∀ {k0:ItK} {its:List E} {imp is:List Nat} {wi:TI},ScOk Γ scope→Γ.imps (frees scope)=some imp→tgOf (Γ.inner scope) tg=some (is.length == 1,is)→PI X tg iter wi→(∀ x,foldedSetIterable iter X.env x=pure x) →
   (∀ σ H (R:It→Hp→Prop),HwE K P C k0 its σ H R→wi σ H R)→Φ (.comp ce is k0 its cond imp (locs scope).length)) :
  Φ (compC Γ scope tg iter ci cargs cond ce):=by
 unfold compC
 split
 ·rename_i hsc
  have sc:=scOk_ok hsc
  split
  ·rename_i imp one is k0 its0 q1 q2 q3
   split
   ·rename_i hsg
    split
    ·rename_i hone
     have hone:=eq_of_beq hone
     subst hone
     exact good sc q1 q2 (pi_str hci.h) (folded_ok (by cases iter <;> first | rfl | cases hsg) _) (fun σ H R q=>sig_hw σ H R q)
    ·exact bad
   split
   ·rename_i hone
    rw [Bool.and_eq_true,Bool.and_eq_true] at hone
    obtain ⟨⟨hone,hfit⟩,hns⟩:=hone
    have hone:=eq_of_beq hone
    subst hone
    have gen:∀ e:Expr,iter=e→notSet e=true→some (ItK.of,[e])=some (k0,its0)→Φ (.comp ce is k0 (itsC k0 ci cargs) cond imp (locs scope).length):=fun e he' hn hq=>by
     subst he'
     cases hq
     exact good sc q1 q2 (PI.or (pi_list hci.h) (pi_tup hci.h)) (folded_ok hn _) (fun σ H R q=>of_hw xo.keq σ H R (hw4 q))
    unfold itOf at q3
    split at q3
    ·rename_i f p args pos'
     split at q3
     ·rename_i hf
      have hf:=eq_of_beq hf
      subst hf
      split at q3
      ·rename_i hgl
       split at q3
       ·rename_i hc
        cases q3
        rw [Bool.and_eq_true] at hc
        obtain ⟨h1,h2,h3,h4⟩:=CC.glob_ok xo hgl (fun z=>nomatch z)
        have hm:=xo.blt _ h2
        obtain ⟨hpa,hcl⟩:=hca.h _ _ _ _ _ rfl hc.1
        match its0,cargs,hc,hpa,hcl with
        | [a],[c1],hc,hpa,_ =>
         have ns:=hc.1
         rw [List.all_cons,Bool.and_eq_true] at ns
         exact good sc q1 q2 (pi_range1 h1 hm hpa (by rw [star_ok ns.1]; rfl)) (fun _=>rfl) (fun σ H R q=>rng1_hw σ H R (hw4 q))
        | [a,b],[c1,c2],hc,hpa,_ =>
         have ns:=hc.1
         rw [List.all_cons,Bool.and_eq_true,List.all_cons,Bool.and_eq_true] at ns
         exact good sc q1 q2 (pi_range2 h1 hm hpa (by rw [star_ok ns.1,star_ok ns.2.1]; rfl) (by rw [star_ok ns.2.1]; rfl)) (fun _=>rfl) (fun σ H R q=>rng2_hw σ H R (hw4 q))
        | [],_,hc,_,_=>simp at hc
        | _ :: _ :: _ :: _,_,hc,_,_=>simp at hc
       ·cases q3
      ·cases q3
     ·split at q3
      ·rename_i hf
       have hf:=eq_of_beq hf
       subst hf
       split at q3
       ·rename_i hgl
        split at q3
        ·rename_i hc
         cases q3
         rw [Bool.and_eq_true] at hc
         obtain ⟨h1,h2,h3,h4⟩:=CC.glob_ok xo hgl (fun z=>nomatch z)
         have hm:=xo.blt _ h2
         obtain ⟨hpa,hcl⟩:=hca.h _ _ _ _ _ rfl hc.1
         match its0,cargs,hc,hpa,hcl with
         | [a],[c1],hc,hpa,_ =>
          have ns:=hc.1
          rw [List.all_cons,Bool.and_eq_true] at ns
          obtain ⟨elts,kk,tp,rfl⟩:=tgOf_many q2 (by simpa [tgFit] using hfit)
          exact good sc q1 q2 (pi_enum h1 hm hpa (by rw [star_ok ns.1]; rfl)) (fun _=>rfl) (fun σ H R q=>enum_hw xo.keq σ H R (hw4 q))
         | [],_,hc,_,_=>simp at hc
         | _ :: _ :: _,_,hc,_,_=>simp at hc
        ·cases q3
       ·cases q3
      ·exact gen _ rfl rfl q3
    ·split at q3
     ·split at q3
      ·cases q3; exact absurd hns (by decide)
      ·cases q3
     ·cases q3
    ·split at q3
     ·exact gen _ rfl ‹_› q3
     ·cases q3
   ·exact bad
  ·exact bad
 ·exact bad
theorem comp_case (xo:XOk X K P C Γ) {elt tg iter:Expr} {ifs:List Expr} {scope:Scope} {pos:Pos} {ci ce:E} {cargs cond:List E} (hci:Ok3 X K P C iter ci) (hca:ArgsOk X K P C iter cargs)
  (he:∀ X',XOk X' K P C (Γ.inner scope)→Ok3 X' K P C elt ce) (ht:∀ X',XOk X' K P C (Γ.inner scope)→PTs X' ifs (tTs K P C cond)) :
  Ok3 X K P C (.ListComp elt [⟨tg,iter,ifs,0⟩] scope pos) (compC Γ scope tg iter ci cargs cond ce)∧OkU X K P C (.ListComp elt [⟨tg,iter,ifs,0⟩] scope pos) (compC Γ scope tg iter ci cargs cond ce)∧PE X (.ListComp elt [⟨tg,iter,ifs,0⟩] scope pos) (tDE K P C (compC Γ scope tg iter ci cargs cond ce)) :=
 comp_elim xo hci hca (Φ:=fun c=>Ok3 X K P C (.ListComp elt [⟨tg,iter,ifs,0⟩] scope pos) c∧OkU X K P C (.ListComp elt [⟨tg,iter,ifs,0⟩] scope pos) c∧PE X (.ListComp elt [⟨tg,iter,ifs,0⟩] scope pos) (tDE K P C c)) ⟨ok_bad,okU_bad,fun pins s σ H Q I h=>h.elim⟩ fun sc q1 q2 hi hs hw=>ok_comp xo sc q1 q2 hi hs hw he ht
end
def RevI (i:Expr):Prop:=∃ k p1 p2 p3,i=.Slice none none (some (.UnaryOp .USub (.Constant (.int 1) k p1) p2)) p3
theorem isRev_inv {i:Expr} (h:isRev i=true):RevI i:=by
 cases i with
 | Slice lo hi st q =>
  obtain _ | _:=lo
  ·obtain _ | _:=hi
   ·obtain _ | st:=st
    ·exact bno h
    ·cases st with
     | UnaryOp op a p =>
      cases op with
      | USub =>
       cases a with
       | Constant c k p1 =>
        cases c with
        | int n =>
         have h:=eq_of_beq (show (n == 1)=true from h)
         subst h
         exact Exists.intro _ ⟨_,_,_,rfl⟩
        | _=>exact bno h
       | _=>exact bno h
      | _=>exact bno h
     | _=>exact bno h
   ·exact bno h
  ·exact bno h
 | _=>exact bno h
theorem ix_or (Γ:CC) (a i:Expr) (p:Pos):(∃ lo hi q,i=.Slice lo hi none q)∨((∀ lo hi q,i≠.Slice lo hi none q)∧cE Γ (.Subscript a i p)=if isRev i then .bad else .ix (cE Γ a) (cE Γ i)):=by
 cases i with
 | Slice lo hi st q =>
  cases st with
  | none=>exact .inl ⟨_,_,_,rfl⟩
  | some _=>exact .inr ⟨(fun _ _ _ z=>nomatch z),rfl⟩
 | _=>exact .inr ⟨(fun _ _ _ z=>nomatch z),rfl⟩
def IhE (K:PySem.W.Frag) (P:Pins) (C:Calls) (n:Nat):Prop:=∀ (X:Cx) (Γ:CC),XOk X K P C Γ→∀ e:Expr,sizeOf e<n→Ok3 X K P C e (cE Γ e)
theorem lt_sz {a b n:Nat} (h:a<b) (k:b<n+1):a<n:=Nat.lt_of_lt_of_le h (Nat.le_of_lt_succ k)
section
variable {X:Cx} {K:PySem.W.Frag} {P:Pins} {C:Calls} {Γ:CC} {n:Nat}
theorem sz_hd {e:Expr} {r:List Expr} (h:sizeOf (e :: r)<n):sizeOf e<n:=Nat.lt_trans (by simp; omega) h
theorem sz_tl {e:Expr} {r:List Expr} (h:sizeOf (e :: r)<n):sizeOf r<n:=Nat.lt_trans (by simp; omega) h
theorem esD_n (ih:IhE K P C n) (xo:XOk X K P C Γ):∀ es:List Expr,sizeOf es<n→es.all notStar=true→PA X es (tDs K P C (cEs Γ es))
 | [],_,_=>pa_nilD
 | e :: r,hs,h=>by
  rw [List.all_cons,Bool.and_eq_true] at h
  exact pa_consD (ih _ _ xo e (sz_hd hs)) (esD_n ih xo r (sz_tl hs) h.2) h.1
theorem esH_n (ih:IhE K P C n) (xo:XOk X K P C Γ):∀ es:List Expr,sizeOf es<n→es.all notStar=true→PA X es (tHs K P C (cEs Γ es))
 | [],_,_=>pa_nilH
 | e :: r,hs,h=>by
  rw [List.all_cons,Bool.and_eq_true] at h
  exact pa_consH (ih _ _ xo e (sz_hd hs)) (esH_n ih xo r (sz_tl hs) h.2) h.1
theorem and_n (ih:IhE K P C n) (xo:XOk X K P C Γ):∀ vs:List Expr,sizeOf vs<n→vs≠[]→Ok2 X K P C .And vs (cAnd Γ vs)
 | [],_,h=>absurd rfl h
 | [a],hs,_=>ok2_and1 (ih _ _ xo a (sz_hd hs))
 | a :: b :: r,hs,_=>ok2_and (ih _ _ xo a (sz_hd hs)) (and_n ih xo (b :: r) (sz_tl hs) (fun z=>nomatch z))
theorem or_n (ih:IhE K P C n) (xo:XOk X K P C Γ):∀ vs:List Expr,sizeOf vs<n→vs≠[]→Ok2 X K P C .Or vs (cOr Γ vs)
 | [],_,h=>absurd rfl h
 | [a],hs,_=>ok2_or1 (ih _ _ xo a (sz_hd hs))
 | a :: b :: r,hs,_=>ok2_or (ih _ _ xo a (sz_hd hs)) (or_n ih xo (b :: r) (sz_tl hs) (fun z=>nomatch z))
theorem o_n (ih:IhE K P C n) (xo:XOk X K P C Γ):∀ o:Option Expr,sizeOf o<n→PO X o (tO K P C (cO Γ o))
 | none,_=>po_noneC
 | some e,hs=>po_someC (ih _ _ xo e (Nat.lt_trans (by simp) hs))
theorem args_n (ih:IhE K P C n) (xo:XOk X K P C Γ) (e:Expr) (hs:sizeOf e<n):ArgsOk X K P C e (cArgs Γ e):=by
 cases e <;> first
  | (rename_i f args kw pos; exact ⟨fun f' p' args' kw' pos' z ns=>by cases z; exact ⟨esH_n ih xo args (Nat.lt_trans (by simp; omega) hs) ns,cEs_len args⟩⟩)
  | exact ⟨fun f' p' args' kw' pos' z ns=>by cases z⟩
end
theorem cE_step {X:Cx} {K:PySem.W.Frag} {P:Pins} {C:Calls} {Γ:CC} {n:Nat} (ih:IhE K P C n) (xo:XOk X K P C Γ) (e:Expr) (hsz:sizeOf e<n+1):Ok3 X K P C e (cE Γ e):=by
 cases e with
 | Name x p =>
  exact ok_name xo _ _
 | Constant c k p =>
  exact ok_const xo _ _ _
 | Tuple es k p =>
  show Ok3 X K P C _ (if es.all notStar then .tup (cEs Γ es) else .bad)
  split
  ·exact ok_tup xo (esD_n ih xo _ (lt_sz (by simp; omega) hsz) ‹_›)
  ·exact ok_bad
 | List es p =>
  show Ok3 X K P C _ (if es.all notStar then .lst (cEs Γ es) else .bad)
  split
  ·exact ok_lst xo (esD_n ih xo _ (lt_sz (by simp; omega) hsz) ‹_›)
  ·exact ok_bad
 | Dict ks vs p=>exact ok_bad
 | BinOp a op b p =>
  exact ok_bin xo (ih _ _ xo _ (lt_sz (by simp; omega) hsz)) (ih _ _ xo _ (lt_sz (by simp; omega) hsz))
 | UnaryOp op a p =>
  cases op with
  | Not =>
   exact ok_not xo (ih _ _ xo _ (lt_sz (by simp; omega) hsz))
  | USub =>
   exact ok_neg xo (ih _ _ xo _ (lt_sz (by simp; omega) hsz))
  | _=>exact ok_bad
 | Compare a ops cs p =>
  obtain _ | ⟨op,_ | ⟨op',_ | ⟨_,_⟩⟩⟩:=ops
  ·exact ok_bad
  ·obtain _ | ⟨b,_ | ⟨_,_⟩⟩:=cs
   ·exact ok_bad
   ·show Ok3 X K P C _ (if behindInMarks op b then .bad else .cmp op (cE Γ a) (cE Γ b))
    split
    ·exact ok_bad
    ·exact ok_cmp xo (ih _ _ xo _ (lt_sz (by simp; omega) hsz)) (ih _ _ xo _ (lt_sz (by simp; omega) hsz)) (by rename_i h; simpa using h)
   ·exact ok_bad
  ·obtain _ | ⟨b,_ | ⟨c,_ | ⟨_,_⟩⟩⟩:=cs
   ·exact ok_bad
   ·exact ok_bad
   ·show Ok3 X K P C _ (if behindInMarks op' c then .bad else .cmp2 op op' (cE Γ a) (cE Γ b) (cE Γ c))
    split
    ·exact ok_bad
    ·exact ok_cmp2 xo (ih _ _ xo _ (lt_sz (by simp; omega) hsz)) (ih _ _ xo _ (lt_sz (by simp; omega) hsz)) (ih _ _ xo _ (lt_sz (by simp; omega) hsz)) (by rename_i h; simpa using h)
   ·exact ok_bad
  ·exact ok_bad
 | BoolOp op vs p =>
  obtain _ | ⟨a,_ | ⟨b,r⟩⟩:=vs
  ·cases op <;> exact ok_bad
  ·cases op <;> exact ok_bad
  ·cases op with
   | And =>
    exact (ok2_and (ih _ _ xo _ (lt_sz (by simp; omega) hsz)) (and_n ih xo _ (lt_sz (by simp; omega) hsz) (by simp))).ok3 fun i z=>nomatch z
   | Or =>
    exact (ok2_or (ih _ _ xo _ (lt_sz (by simp; omega) hsz)) (or_n ih xo _ (lt_sz (by simp; omega) hsz) (by simp))).ok3 fun i z=>nomatch z
 | IfExp c a b p =>
  exact ok_ite (ih _ _ xo _ (lt_sz (by simp; omega) hsz)) (ih _ _ xo _ (lt_sz (by simp; omega) hsz)) (ih _ _ xo _ (lt_sz (by simp; omega) hsz))
 | Subscript a i p =>
  rcases ix_or Γ a i p with ⟨lo,hi,q,rfl⟩ | ⟨hn,e⟩
  ·exact ok_sl xo (ih _ _ xo _ (lt_sz (by simp; omega) hsz)) (o_n ih xo _ (lt_sz (by simp; omega) hsz)) (o_n ih xo _ (lt_sz (by simp; omega) hsz))
  ·rw [e]
   split
   ·rename_i hr
    obtain ⟨k,p1,p2,p3,rfl⟩:=isRev_inv hr
    exact ok_bad
   ·exact ok_ix xo (ih _ _ xo _ (lt_sz (by simp; omega) hsz)) (ih _ _ xo _ (lt_sz (by simp; omega) hsz)) (plainIx_of hn)
 | Call fn args kw pos =>
  cases fn with
  | Name f p =>
   cases kw with
   | nil =>
    show Ok3 X K P C _ (if args.all notStar && decide (args≠[]) then (match Γ.glob f with | .fn g=>.call g (cEs Γ args) | .cls ns=>.bad | .blt=>if f=("isinstance":Str) then isiC Γ args (cEs Γ args) else bltC f args (cEs Γ args) | _=>.bad) else .bad)
    split
    ·rename_i hc
     rw [Bool.and_eq_true] at hc
     obtain ⟨ns,ne⟩:=hc
     cases args with
     | nil=>simp at ne
     | cons a r =>
      split
      ·rename_i g hg
       exact ok_call xo hg ns (esH_n ih xo _ (lt_sz (by simp; omega) hsz) ns)
      ·rename_i g hg
       exact ok_bad
      ·rename_i hg
       split
       ·rename_i hf
        subst hf
        unfold isiC
        split
        ·rename_i t a' _ e1 e2
         split
         ·rename_i ty hty
          simp only [cEs,List.cons.injEq] at e1 e2
          obtain ⟨rfl,rfl⟩:=e1
          obtain ⟨rfl,_⟩:=e2
          rw [List.all_cons,Bool.and_eq_true] at ns
          exact ok_isi xo hg hty ns.1 (ih _ _ xo _ (lt_sz (by simp; omega) hsz))
         ·simp only [cEs,List.cons.injEq] at e1 e2
          obtain ⟨rfl,rfl⟩:=e1
          obtain ⟨rfl,_⟩:=e2
          rw [List.all_cons,Bool.and_eq_true] at ns
          (unfold subC; repeat' split) <;> exact ok_bad
        ·exact ok_bad
       ·unfold bltC
        split
        ·rename_i hf2
         subst hf2
         exact ok_bif xo hg (b:=.len) rfl ns (esH_n ih xo _ (lt_sz (by simp; omega) hsz) ns)
        ·split
         ·exact ok_bad
         ·split
          ·exact ok_bad
          ·split
           ·rename_i hf2
            subst hf2
            exact ok_bif xo hg (b:=.list) rfl ns (esH_n ih xo _ (lt_sz (by simp; omega) hsz) ns)
           ·split
            ·rename_i b hb
             exact ok_bif xo hg hb ns (esH_n ih xo _ (lt_sz (by simp; omega) hsz) ns)
            ·exact ok_bad
      ·exact ok_bad
    ·exact ok_bad
   | cons _ _=>exact ok_bad
  | Attribute o m apos =>
   cases o with
   | Name x p =>
    cases kw with
    | nil =>
     show Ok3 X K P C _ (attC Γ x m apos pos args (cEs Γ args))
     unfold attC
     split
     ·rename_i tb hm
      split
      ·rename_i hc
       rw [Bool.and_eq_true,Bool.and_eq_true] at hc
       obtain ⟨⟨ns,hl⟩,hf⟩:=hc
       split
       ·exact ok_bad
       ·exact ok_bad
      ·exact ok_bad
     ·split
      ·rename_i a c hcs
       split
       ·rename_i hc
        rw [Bool.and_eq_true,Bool.and_eq_true] at hc
        obtain ⟨⟨ns,hl⟩,hm⟩:=hc
        have hm:=eq_of_beq hm
        subst hm
        split
        ·simp only [cEs,List.cons.injEq] at hcs
         obtain ⟨rfl,_⟩:=hcs
         exact ok_app xo ‹_› hl ns (ih _ _ xo _ (lt_sz (by simp; omega) hsz))
        ·exact ok_bad
       ·split
        ·rename_i hc
         rw [Bool.and_eq_true,Bool.and_eq_true] at hc
         obtain ⟨⟨ns,hl⟩,hm⟩:=hc
         have hm:=eq_of_beq hm
         subst hm
         split
         ·simp only [cEs,List.cons.injEq] at hcs
          obtain ⟨rfl,_⟩:=hcs
          exact ok_ext xo ‹_› hl ns (ih _ _ xo _ (lt_sz (by simp; omega) hsz))
         ·exact ok_bad
        ·exact ok_txt xo
      ·split
       ·rename_i hc
        rw [Bool.and_eq_true] at hc
        obtain ⟨hl,hm⟩:=hc
        have hm:=eq_of_beq hm
        subst hm
        exact ok_bitl xo hl
       ·exact ok_bad
      ·rename_i a b c c' hcs
       split
       ·rename_i hc
        rw [Bool.and_eq_true,Bool.and_eq_true,Bool.and_eq_true] at hc
        obtain ⟨⟨⟨ns,ns2⟩,hl⟩,hm⟩:=hc
        have hm:=eq_of_beq hm
        subst hm
        split
        ·simp only [cEs,List.cons.injEq] at hcs
         obtain ⟨rfl,rfl,_⟩:=hcs
         exact ok_bad
        ·exact ok_bad
       ·exact ok_bad
      ·exact ok_bad
    | cons _ _=>exact ok_bad
   | Constant c0 j0 p0 =>
    cases c0 with
    | str s0 =>
     obtain _ | ⟨a0,_ | ⟨_,_⟩⟩:=args
     ·cases kw <;> exact ok_bad
     ·cases kw with
      | nil=>exact ok_joiC xo (ih _ _ xo _ (lt_sz (by simp; omega) hsz))
      | cons _ _=>exact ok_bad
     ·cases kw <;> exact ok_bad
    | _=>exact ok_bad
   | Call g as kw2 p2 =>
    cases as with
    | nil=>exact ok_bad
    | cons a0 as0 =>
     cases kw with
     | nil =>
      show Ok3 X K P C _ (methC Γ m apos pos args (cE Γ (.Call g (a0 :: as0) kw2 p2)) (cEs Γ args))
      unfold methC
      split
      ·rename_i tb hm
       split
       ·rename_i hc
        rw [Bool.and_eq_true,Bool.and_eq_true] at hc
        exact ok_bad
       ·exact ok_bad
      ·exact ok_bad
     | cons _ _=>exact ok_bad
   | _=>exact ok_bad
  | _=>exact ok_bad
 | Attribute o f p =>
  cases o with
  | Name x q =>
   exact ok_bad
  | _=>exact ok_bad
 | ListComp elt gs scope pos =>
  obtain _ | ⟨⟨tg,iter,ifs,m⟩,_ | ⟨_,_⟩⟩:=gs
  ·exact ok_bad
  ·obtain _ | ⟨c,_ | ⟨_,_⟩⟩:=ifs <;> obtain (_ | _) | _:=m
   ·exact (comp_case xo (ih _ _ xo _ (lt_sz (by simp; omega) hsz)) (args_n ih xo _ (lt_sz (by simp; omega) hsz)) (fun X' xo'=>ih _ _ xo' _ (lt_sz (by simp; omega) hsz)) (fun X' xo'=>pts_nilC)).1
   ·exact ok_bad
   ·exact ok_bad
   ·exact (comp_case xo (ih _ _ xo _ (lt_sz (by simp; omega) hsz)) (args_n ih xo _ (lt_sz (by simp; omega) hsz)) (fun X' xo'=>ih _ _ xo' _ (lt_sz (by simp; omega) hsz)) (fun X' xo'=>pts_oneC (ih _ _ xo' _ (lt_sz (by simp; omega) hsz)))).1
   all_goals exact ok_bad
  ·obtain _ | ⟨c,_ | ⟨_,_⟩⟩:=ifs <;> obtain (_ | _) | _:=m <;> exact ok_bad
 | _=>exact ok_bad
theorem ihE_all {K:PySem.W.Frag} {P:Pins} {C:Calls}:∀ n:Nat,IhE K P C n
 | 0=>fun _ _ _ _ h=>absurd h (Nat.not_lt_zero _)
 | n+1=>fun _ _ xo e h=>cE_step (ihE_all n) xo e h
section
variable {X:Cx} {K:PySem.W.Frag} {P:Pins} {C:Calls} {Γ:CC}
theorem cE_ok (xo:XOk X K P C Γ) (e:Expr):Ok3 X K P C e (cE Γ e):=ihE_all _ _ _ xo e (Nat.lt_succ_self _)
theorem cArgs_ok (xo:XOk X K P C Γ) (e:Expr):ArgsOk X K P C e (cArgs Γ e):=args_n (ihE_all _) xo e (Nat.lt_succ_self _)
theorem cEs_okH (xo:XOk X K P C Γ) (es:List Expr) (h:es.all notStar=true):PA X es (tHs K P C (cEs Γ es)):=esH_n (ihE_all _) xo es (Nat.lt_succ_self _) h
end
theorem okU_of {X:Cx} {K:PySem.W.Frag} {P:Pins} {C:Calls} {Γ:CC} (xo:XOk X K P C Γ) (e:Expr) (h:isLC e=true):OkU X K P C e (cE Γ e):=by
 cases e <;> simp only [isLC,Bool.false_eq_true] at h
 rename_i elt gs scope pos
 obtain _ | ⟨⟨tg,iter,ifs,n⟩,_ | ⟨_,_⟩⟩:=gs
 ·exact okU_bad
 ·obtain _ | ⟨c,_ | ⟨_,_⟩⟩:=ifs <;> obtain (_ | _) | _:=n
  ·exact (comp_case xo (cE_ok xo iter) (cArgs_ok xo iter) (fun X' xo'=>cE_ok xo' elt) (fun X' xo'=>pts_nilC)).2.1
  ·exact okU_bad
  ·exact okU_bad
  ·exact (comp_case xo (cE_ok xo iter) (cArgs_ok xo iter) (fun X' xo'=>cE_ok xo' elt) (fun X' xo'=>pts_oneC (cE_ok xo' c))).2.1
  all_goals exact okU_bad
 ·obtain _ | ⟨c,_ | ⟨_,_⟩⟩:=ifs <;> obtain (_ | _) | _:=n <;> exact okU_bad
section
variable {X:Cx} {K:PySem.W.Frag} {P:Pins} {C:Calls} {W:Nat} {Γ:CC}
def XFl (X:Cx) (K:PySem.W.Frag) (ρ:Env) (σ:St) (H G:Hp) (ρ':Env) (x:Exc):Prop:=∀ pins σ' H' G' s' a Ca,AftS K ρ σ H G ρ' σ' H' G'→Inv X pins σ' H' s'→FlyO X pins H' s'.heap a Ca→PySem.W.nsIn K mainGlobals x.cls=some (some (.ref Ca))→ExcG K Ca→X.xe (.ref a) s'
theorem XFl.pre {ρ ρ1 ρ':Env} {σ σ1:St} {H G H1 G1:Hp} {x:Exc} (a:AftS K ρ σ H G ρ1 σ1 H1 G1) (h:XFl X K ρ σ H G ρ' x):XFl X K ρ1 σ1 H1 G1 ρ' x:=fun pins σ' H' G' s' b Ca q=>h pins σ' H' G' s' b Ca (a.trans q)
theorem pe_or {e:Expr} {t u:TE} (h1:PE X e t) (h2:PE X e u):PE X e (fun σ H Q=>t σ H Q∨u σ H Q):=fun pins s σ H Q I q=>q.elim (h1 pins s σ H Q I) (h2 pins s σ H Q I)
end
section
variable {X:Cx} {pins:List (Addr × Obj)} {σ:L2.St} {H:Hp} {s:Shared}
end
section
variable {K:PySem.W.Frag} {ρ0 ρ:Env} {σ:St} {H0 G0 H G:Hp}
end
section
variable {X:Cx} {K:PySem.W.Frag} {P:Pins} {C:Calls} {Γ:CC}
end
section
variable {X:Cx} {K:PySem.W.Frag} {P:Pins} {C:Calls} {W:Nat} {Γ:CC}
def CallR (Γ:CC) (e:Expr):Prop:=(∃ f p a r pos g,e=.Call (.Name f p) (a :: r) [] pos∧Γ.glob f=.fn g∧(a :: r).all notStar=true∧cE Γ e=.call g (cEs Γ (a :: r)))∨∃ elt tg iter ifs sc pos,e=.ListComp elt [⟨tg,iter,ifs,0⟩] sc pos∧(ifs=[]∨∃ c1,ifs=[c1])
end
section
variable {X:Cx} {K:PySem.W.Frag} {P:Pins} {C:Calls} {W:Nat} {Γ:CC} {pins pins':List (Addr × Obj)} {σ:St} {H G:Hp} {s:Shared}
abbrev Cx.re (X:Cx) (E:Value→Shared→Prop) (pn:List (Addr × Obj)):Cx:={ X with xe:=E,pn:=pn }
abbrev Cx.ma (X:Cx) (v:Value):Cx:={ X with A:=X.A.mark (some v),calm:=false,xe:=fun _ _=>False }
theorem ok_re {E:Value→Shared→Prop} {pn:List (Addr × Obj)} (o:X.Ok):(Cx.re X E pn).Ok :=
 ⟨o.mod,o.kind,o.glob,o.blt,o.above,o.inj,o.has,o.cab,o.hd,o.frames,o.stk,o.exf,o.bs,o.bsz,o.noex,o.exfs,o.funs,o.frf⟩
theorem ok_un {E:Value→Shared→Prop} {pn:List (Addr × Obj)} (o:(Cx.re X E pn).Ok):X.Ok :=
 ⟨o.mod,o.kind,o.glob,o.blt,o.above,o.inj,o.has,o.cab,o.hd,o.frames,o.stk,o.exf,o.bs,o.bsz,o.noex,o.exfs,o.funs,o.frf⟩
theorem inv_re {E:Value→Shared→Prop} (I:Inv X pins σ H s):Inv (Cx.re X E (X.pn ++ pins)) [] σ H s :=
 ⟨ok_re I.ok,I.os,I.bare,I.base,I.loc,I.cell,I.free,I.freeC,fun p hp=>I.pin p (by simpa using hp),I.hok,I.len⟩
theorem inv_un {E:Value→Shared→Prop} (I:Inv (Cx.re X E (X.pn ++ pins)) pins' σ H s):Inv X pins σ H s :=
 ⟨ok_un I.ok,I.os,I.bare,I.base,I.loc,I.cell,I.free,I.freeC,fun p hp=>I.pin p (List.mem_append_left _ hp),I.hok,I.len⟩
theorem XOk.re {E:Value→Shared→Prop} {pn:List (Addr × Obj)} (xo:XOk X K P C Γ):XOk (Cx.re X E pn) K P C Γ :=
 XOk.of xo.keq xo.neq xo.nm xo.nd xo.calm xo.hh xo.hu xo.con xo.blt (fun x f h=>⟨(xo.fn x f h).ex⟩) (fun x ns h=>⟨(xo.cls x ns h).ex⟩) (fun m tb c f h1 h2=>⟨(xo.mth m tb c f h1 h2).ex⟩) xo.rm xo.sub xo.subx xo.exc xo.exs (fun x f h=>⟨(xo.fnX x f h).ex⟩) xo.tp
theorem ps_tryO1 {body o f:List Stmt} {hs:List ExceptHandler} {cb:List S} {pos:Pos}
  (hb:∀ E pn,PassesOwn (model X.prog X.w) X.A X.env E→PSs (Cx.re X E pn) body (tSs K P C W cb)):PS X (.Try body hs o f pos) (tS K P C W (tryO1 cb hs o f)):=by
 unfold tryO1
 split
 ·split
  ·rename_i hof
   rw [Bool.and_eq_true] at hof
   obtain rfl:=List.isEmpty_iff.mp hof.1
   obtain rfl:=List.isEmpty_iff.mp hof.2
   intro pins s σ H D I ⟨ρ,G,fl,ρ',r,e,k⟩
   simp only [ex] at e
   refine wpAny_Try_except ?_
   refine wpAny_mono (hb _ (X.pn ++ pins) PassesOwn.looking [] s σ H D (inv_re I) ⟨ρ,G,fl,ρ',r,e,k⟩) (fun f s1 h1=>?_) fun _ _ z=>z
   cases f with
   | next =>
    obtain ⟨σ',H',J,z⟩:=h1
    exact wpAny_execs_nil ⟨σ',H',inv_un J,z⟩
   | brk=>obtain ⟨σ',H',J,z⟩:=h1; exact ⟨σ',H',inv_un J,z⟩
   | cont=>obtain ⟨σ',H',J,z⟩:=h1; exact ⟨σ',H',inv_un J,z⟩
   | ret u=>obtain ⟨v,σ',H',J,w,z⟩:=h1; exact ⟨v,σ',H',inv_un J,w,z⟩
  ·exact ps_bad
 ·exact ps_bad
theorem XOk.ma {E:Value→Shared→Prop} {pn:List (Addr × Obj)} {v:Value} (xo:XOk X K P C Γ):XOkB false (Cx.ma (Cx.re X E pn) v) K P C Γ:=⟨xo.keq,xo.neq,xo.nm,xo.nd,xo.con,xo.blt,xo.sub,xo.subx,fun z=>nomatch z⟩
end
section
variable {X:Cx} {K:PySem.W.Frag} {P:Pins} {C:Calls} {W:Nat} {Γ:CC}
end
section
variable {X:Cx} {K:PySem.W.Frag} {P:Pins} {C:Calls} {W:Nat} {Γ:CC}
theorem slotL_at (xo:XOk X K P C Γ) {x:Str} {i:Nat} (h:Γ.slotL x=some i):X.N[i]?=some x∧L2.Loc X.env.scope x∧Γ.isLoc x=true:=by
 unfold CC.slotL at h
 split at h
 ·rename_i hl
  have hN:X.N[i]?=some x:=by
   unfold CC.slot at h
   split at h
   ·cases h
   ·split at h
    ·rw [xo.neq]; exact idxOf_get h
    ·cases h
  refine ⟨hN, ?_,hl⟩
  unfold L2.Loc
  rw [xo.nm]
  unfold CC.isLoc at hl
  rw [Bool.or_eq_true,Bool.and_eq_true] at hl
  rcases hl with hl | hl
  ·exact .inl (eq_of_beq hl)
  ·exact .inr (eq_of_beq hl.2)
 ·cases h
theorem ps_asgU (xo:XOk X K P C Γ) (hfn:∀ x,Γ.isLoc x=true→X.fn x=true∨X.env.scope.names.lookup x=some .local) {x:Str} {i:Nat} {e:Expr} {c:E} {p pos:Pos} (hi:Γ.slotL x=some i) (h:OkU X K P C e c):PS X (.Assign [.Name x p] e pos) (tS K P C W (.asg i c)):=by
 obtain ⟨h1,h2,h3⟩:=slotL_at xo hi
 refine TS.imp_ps (h x i p pos (by rw [xo.neq]; exact xo.nd) h1 h2 (hfn x h3)) fun D σ H ⟨ρ,G,fl,ρ',r,e,k⟩=>?_
 simp only [ex] at e
 obtain ⟨v,ρ1,e1,e2⟩:=flow_ok e k.ne
 unfold goOn at e2
 cases q:store i v ρ1 with
 | none=>rw [q] at e2; cases e2
 | some ρ2 =>
  rw [q] at e2
  cases e2
  exact ⟨ρ,G,v,ρ1,r,e1,fun x H' G' a hv=>k _ H' G' (Aft.store r a q hv)⟩
theorem for_okE (po:PassesOwn (model X.prog X.w) X.A X.env X.xe) (xo:XOk X K P C Γ) (hfn:∀ x,Γ.isLoc x=true→X.fn x=true∨X.env.scope.names.lookup x=some .local) {tg it:Expr} {body:List Stmt} {pos:Pos} {one:Bool} {is:List Nat} {k0:ItK} {its:List Expr} {cb:List S}
  (ht:tgOf Γ tg=some (one,is)) (hi:itOf Γ it=some (k0,its)) (hfit:tgFit k0 one=true) (hb:PSs X body (tSs K P C W cb)):PS X (.For tg it body [] pos) (tS K P C W (.for is one k0 (cEs Γ its) cb)):=by
 have hg:=tgOf_ok xo hfn ht
 have gen:∀ e:Expr,it=e→notSet e=true→some (ItK.of,[e])=some (k0,its)→PS X (.For tg it body [] pos) (tS K P C W (.for is one k0 (cEs Γ its) cb)):=fun e he hn hq=>by
  subst he
  cases hq
  exact for_ok po xo hg hb (folded_ok hn _) (PI.or (pi_list (cE_ok xo it).h) (pi_tup (cE_ok xo it).h)) fun σ H R q=>of_hw xo.keq σ H R q
 unfold itOf at hi
 split at hi
 ·rename_i f p args pos'
  split at hi
  ·rename_i hf
   have hf:=eq_of_beq hf
   subst hf
   split at hi
   ·rename_i hgl
    split at hi
    ·rename_i hc
     cases hi
     rw [Bool.and_eq_true] at hc
     obtain ⟨h1,h2,h3,h4⟩:=CC.glob_ok xo hgl (fun z=>nomatch z)
     have hm:=xo.blt _ h2
     match its,hc with
     | [a],hc =>
      have ns:=hc.1
      rw [List.all_cons,Bool.and_eq_true] at ns
      exact for_ok po xo hg hb (fun _=>rfl) (pi_range1 h1 hm (cEs_okH xo [a] hc.1) (by rw [star_ok ns.1]; rfl)) fun σ H R q=>rng1_hw σ H R q
     | [a,b],hc =>
      have ns:=hc.1
      rw [List.all_cons,Bool.and_eq_true,List.all_cons,Bool.and_eq_true] at ns
      exact for_ok po xo hg hb (fun _=>rfl) (pi_range2 h1 hm (cEs_okH xo [a,b] hc.1) (by rw [star_ok ns.1,star_ok ns.2.1]; rfl) (by rw [star_ok ns.2.1]; rfl)) fun σ H R q=>rng2_hw σ H R q
     | [],hc=>simp at hc
     | _ :: _ :: _ :: _,hc=>simp at hc
    ·cases hi
   ·cases hi
  ·split at hi
   ·rename_i hf
    have hf:=eq_of_beq hf
    subst hf
    split at hi
    ·rename_i hgl
     split at hi
     ·rename_i hc
      cases hi
      rw [Bool.and_eq_true] at hc
      obtain ⟨h1,h2,h3,h4⟩:=CC.glob_ok xo hgl (fun z=>nomatch z)
      have hm:=xo.blt _ h2
      match its,hc with
      | [a],hc =>
       have ns:=hc.1
       rw [List.all_cons,Bool.and_eq_true] at ns
       obtain ⟨elts,kk,tp,rfl⟩:=tgOf_many ht (by simpa [tgFit] using hfit)
       exact for_ok po xo hg hb (fun _=>rfl) (pi_enum h1 hm (cEs_okH xo [a] hc.1) (by rw [star_ok ns.1]; rfl)) fun σ H R q=>enum_hw xo.keq σ H R q
      | [],hc=>simp at hc
      | _ :: _ :: _,hc=>simp at hc
     ·cases hi
    ·cases hi
   ·exact gen _ rfl rfl hi
 ·split at hi
  ·rename_i hc
   rw [Bool.and_eq_true,Bool.and_eq_true,Bool.and_eq_true] at hc
   obtain ⟨⟨⟨hf,hx⟩,ns⟩,h1⟩:=hc
   have hf:=eq_of_beq hf
   have hx:=eq_of_beq hx
   have h1:=eq_of_beq h1
   subst hf hx h1
   split at hi
   ·rename_i hgl
    cases hi
    obtain ⟨h1,h2,h3,h4⟩:=CC.glob_ok xo hgl (fun z=>nomatch z)
    have hm:=xo.blt _ h2
    obtain ⟨elts,kk,tp,rfl⟩:=tgOf_many ht (by simpa [tgFit] using hfit)
    exact for_ok po xo hg hb (fun _=>rfl) (pi_enumS h1 hm (cEs_okH xo [_] (by rw [List.all_cons,ns]; rfl)) (by rw [star_ok ns]; rfl)) fun σ H R q=>enum_hw xo.keq σ H R q
   ·cases hi
  ·cases hi
 ·split at hi
  ·exact gen _ rfl ‹_› hi
  ·cases hi
theorem for_okF (po:PassesOwn (model X.prog X.w) X.A X.env X.xe) (xo:XOk X K P C Γ) (hfn:∀ x,Γ.isLoc x=true→X.fn x=true∨X.env.scope.names.lookup x=some .local) {tg it:Expr} {body:List Stmt} {pos:Pos} {one:Bool} {is:List Nat} {k0:ItK} {its:List Expr} {cb:List S}
  (ht:tgOf Γ tg=some (one,is)) (hi:itOf Γ it=some (k0,its)) (hfit:tgFit k0 one=true) (hb:PSs X body (tSs K P C W cb)):PS X (.For tg it body [] pos) (tS K P C W (.for is one k0 (itE Γ it body (cEs Γ its)) cb)):=by
 exact for_okE po xo hfn ht hi hfit hb
mutual
theorem cS_ok {X:Cx} (po:PassesOwn (model X.prog X.w) X.A X.env X.xe) (xo:XOk X K P C Γ) (hfn:∀ x,Γ.isLoc x=true→X.fn x=true∨X.env.scope.names.lookup x=some .local) (sk:Γ.top=true→X.stack=X.env :: X.outer∧X.env.frame=some X.env.locals) (st:Stmt):PS X st (tS K P C W (cS Γ st)):=by
 cases st with
 | Pass _=>exact ps_passS
 | Break _=>exact ps_brkS
 | Continue _=>exact ps_cntS
 | Return e _ =>
  cases e with
  | some e=>exact ps_retS (cE_ok xo e)
  | none=>exact ps_retNS
 | Expr e _ =>
  show PS X _ (tS K P C W (if notComp e then .expr (cE Γ e) else .bad))
  split
  ·exact ps_exprS (cE_ok xo _) ‹_›
  ·exact ps_bad
 | If c a b _=>exact ps_ifS (cE_ok xo _) (cSs_ok po xo hfn sk a) (cSs_ok po xo hfn sk b)
 | While c b o _ =>
  cases o with
  | nil=>exact ps_bad
  | cons _ _=>exact ps_bad
 | For tg it b o _ =>
  cases o with
  | nil =>
   show PS X _ (tS K P C W (match tgOf Γ tg,itOf Γ it with
    | some (one,is),some (k,its)=>if tgFit k one then .for is one k (itE Γ it b (cEs Γ its)) (cSs Γ b) else .bad
    | _,_=>.bad))
   cases h1:tgOf Γ tg with
   | none=>exact ps_bad
   | some t =>
    cases h2:itOf Γ it with
    | none=>exact ps_bad
    | some u =>
     show PS X _ (tS K P C W (if tgFit u.1 t.1 then .for t.2 t.1 u.1 (itE Γ it b (cEs Γ u.2)) (cSs Γ b) else .bad))
     split
     ·exact for_okF po xo hfn h1 h2 ‹_› (cSs_ok po xo hfn sk b)
     ·exact ps_bad
  | cons _ _=>exact ps_bad
 | Assign ts e _ =>
  obtain _ | ⟨t,_ | ⟨_,_⟩⟩:=ts
  ·exact ps_bad
  ·cases t with
   | Name x p =>
    show PS X _ (tS K P C W (match Γ.slotL x with | some i=>if notComp e || isLC e then .asg i (cE Γ e) else .bad | none=>.bad))
    split
    ·split
     ·rename_i hc
      rw [Bool.or_eq_true] at hc
      rcases hc with hc | hc
      ·exact ps_asgS xo hfn ‹_› (cE_ok xo _) hc
      ·exact ps_asgU xo hfn ‹_› (okU_of xo _ hc)
     ·exact ps_bad
    ·exact ps_bad
   | Tuple ts _ _ =>
    show PS X _ (tS K P C W (match tgNames Γ ts with | some is=>if notComp e && notTup e then .asgT is (cE Γ e) else .bad | none=>.bad))
    split
    ·split
     ·rename_i h
      rw [Bool.and_eq_true] at h
      exact ps_asgTS xo hfn ‹_› (cE_ok xo _) h.1 h.2
     ·exact ps_bad
    ·exact ps_bad
   | Subscript a k _ =>
    cases a with
    | Name x p =>
     show PS X _ (tS K P C W (match Γ.slot x with | some i=>if notComp e && notSlice k then .set i (cE Γ k) (cE Γ e) else .bad | none=>.bad))
     split
     ·split
      ·rename_i h
       rw [Bool.and_eq_true] at h
       refine ps_setS xo ‹_› (cE_ok xo _) (cE_ok xo _) h.1 fun v=>?_
       have h2:=h.2
       cases k <;> first | rfl | cases h2
      ·exact ps_bad
     ·exact ps_bad
    | _=>exact ps_bad
   | _=>exact ps_bad
  ·cases t with
   | Subscript a _ _=>cases a <;> exact ps_bad
   | _=>exact ps_bad
 | AugAssign t op e _ =>
  cases t with
  | Name x p =>
   cases op with
   | Add =>
    show PS X _ (tS K P C W (match Γ.slotL x with | some i=>if notComp e then .bad else .bad | none=>.bad))
    split
    ·split
     ·exact ps_bad
     ·exact ps_bad
    ·exact ps_bad
   | _=>exact ps_bad
  | _=>exact ps_bad
 | Raise e c _ =>
  cases e with
  | none=>exact ps_bad
  | some e =>
   cases c with
   | none =>
    show PS X _ (tS K P C W (rseC Γ e))
    unfold rseC
    split
    ·split
     ·split
      ·exact ps_badS fun ρ=>by rw [ex]
      ·exact ps_bad
     ·exact ps_bad
    ·exact ps_bad
   | some _=>exact ps_bad
 | Try body hs o f _=>exact ps_tryO1 fun E pn po'=>cSs_ok (X:=Cx.re X E pn) po' xo.re hfn sk body
 | _=>exact ps_bad
theorem cSs_ok {X:Cx} (po:PassesOwn (model X.prog X.w) X.A X.env X.xe) (xo:XOk X K P C Γ) (hfn:∀ x,Γ.isLoc x=true→X.fn x=true∨X.env.scope.names.lookup x=some .local) (sk:Γ.top=true→X.stack=X.env :: X.outer∧X.env.frame=some X.env.locals) (sts:List Stmt):PSs X sts (tSs K P C W (cSs Γ sts)):=by
 cases sts with
 | nil=>exact pss_nilS
 | cons s r=>exact pss_consS (cS_ok po xo hfn sk s) (cSs_ok po xo hfn sk r)
end
end
structure EntB (K:PySem.W.Frag) (T:Tab) (gl:Str→GV) (f:String) (fa:Addr) (fd:FuncData) (ps:List Str):Prop where
 bd:Binds K fd ps []
 ex:∃ (y qual:Str) (st:Stmt) (N:List Str) (fn:Fn),Fun K y qual st fa fd∧FnScope N ps (defScope st)∧N.Nodup∧T f=some fn∧fn.body=cSs ⟨N,(defScope st).names,gl,true⟩ (defBody st)∧N.length=fn.pins.length+fn.nl∧ps.length=fn.pins.length
structure Entry (K:PySem.W.Frag) (mg:Str→Option Value) (T:Tab) (gl:Str→GV) (x:Str) (f:String) (fa:Addr) (fd:FuncData) (ps:List Str):Prop where
 mgx:mg x=some (.ref fa)
 kp:PySem.W.keepIn K (.ref fa)=true
 b:EntB K T gl f fa fd ps
structure ClsE (K:PySem.W.Frag) (mg:Str→Option Value) (x:Str) (ns:List Str):Prop where
 ex:False
structure MthE (K:PySem.W.Frag) (T:Tab) (gl:Str→GV) (c m:Str) (f:String):Prop where
 ex:False
structure Globs (K:PySem.W.Frag) (mg:Str→Option Value) (T:Tab) (gl:Str→GV):Prop where
 con:∀ x d,gl x=.con d→∃ u v,mg x=some u∧RelV v u∧∀ G,Rep K G d v
 blt:∀ x,gl x=.blt→mg x=none
 fn:∀ x f,gl x=.fn f→∃ fa fd ps,Entry K mg T gl x f fa fd ps
 cls:∀ x ns,gl x=.cls ns→ClsE K mg x ns
 mth:∀ m tb c f,gl (dot m)=.mth tb→tb.lookup c=some f→MthE K T gl c m f
 sub:∀ x s n,gl (col x)=.sub s n→SubAt K mg x s n
 subx:∀ x s n,gl (col x)=.subx s n→SubX K mg x s n
 exc:∀ x,gl x=.exc→ExcAt K mg x
 exs:∀ x cs,gl (cat x)=.exs cs→ExsAt K mg x cs
theorem rs_no {b:Bool} {o:Option (Exc × Env)} {as as':List Sl} {v:RV} (h:(if b=true then (match o with | some (x,ρ)=>(some (Out.ex x,back as ρ):Res RV) | none=>none) else none)=some (.ok v,as')):False:=by
 split at h
 ·split at h <;> cases h
 ·cases h
theorem fns_ok {Pr:Program} {w:World} {K:PySem.W.Frag} {mg:Str→Option Value} {base:Heap} {T:Tab} {gl:Str→GV} (W:Nat) (g:Globs K mg T gl):∀ (d:Nat) (f:String) (fa:Addr) (fd:FuncData) (ps:List Str),
  EntB K T gl f fa fd ps→FnOk Pr w K mg base CX0 (d+2) fa fd ps (spC K (T.pins f).length (run T W d f))∧True
 | 0,f,fa,fd,ps,e=>⟨⟨fun vs H Q E h=>by obtain ⟨_,as,G,v,as',_,_,z,_⟩:=h; simp [run] at z,fun A outer s H args us vs Q E _ _ _ _ h=>by obtain ⟨_,as,G,v,as',_,_,z,_⟩:=h; simp [run] at z⟩,trivial⟩
 | d+1,f,fa,fd,ps,e=>by
  obtain ⟨y,qual,st,N,fn,F,S,nd,hT,hb,hN,hps⟩:=e.ex
  have hpin:T.pins f=fn.pins:=by unfold Tab.pins; rw [hT]
  refine ⟨F.ok S (fun vs H Q E h=>by rw [h.1,hpin,hps]) fun cdv A outer s H vs Q E hr h=>?_, ?_⟩
  ·obtain ⟨hl,as,G,v,as',rel,hal,er,k⟩:=h
   let X:Cx:=(cxOf CX0 Pr w K mg base N qual (defScope st) fa cdv A outer s H E).nox
   let Γ:CC:=⟨N,(defScope st).names,gl,true⟩
   have xo:XOk X K T.pins (run T W d) Γ:=by
    refine XOk.of rfl rfl rfl nd rfl hr.hd hr.units g.con g.blt (fun x' f' hx=>?_) (fun x' ns hx=>?_) (fun m tb c f' h1 h2=>?_) (hr.mono (by omega)) g.sub g.subx g.exc g.exs (fun x' f' hx=>?_) ⟨_,_,_,rfl,rfl,rfl⟩
    ·obtain ⟨fa',fd',ps',e'⟩:=g.fn x' f' hx
     exact ⟨fa',fd',ps',d+2,(fns_ok W g d f' fa' fd' ps' e'.b).1,hr,e'.mgx,e'.kp,e'.b.bd⟩
    ·exact (g.cls x' ns hx).ex.elim
    ·exact (g.mth m tb c f' h1 h2).ex.elim
    ·exact ⟨trivial⟩
   refine ⟨_,cSs_ok (W:=W) (X:=X) (Γ:=Γ) PassesOwn.never xo (fun _ _=>.inl rfl) (fun _=>⟨rfl,rfl⟩) (defBody st), ?_⟩
   simp only [run,hT] at er
   split at er
   ·rename_i hc
    rw [hb] at er
    have hNa:N.length=as.length+fn.nl:=by rw [hN,hc.1]
    have hpad:=rel.pad hNa
    cases q:exs T.pins (run T W d) W (cSs ⟨N,(defScope st).names,gl,true⟩ (defBody st)) (as ++ List.replicate fn.nl .un) with
    | none=>rw [q] at er; exact (rs_no er).elim
    | some y =>
     obtain ⟨fl,ρ'⟩:=y
     rw [q] at er
     refine ⟨as ++ List.replicate fn.nl .un,G,fl,ρ',hpad.1,q, ?_⟩
     cases fl with
     | nx =>
      cases er
      intro σ' H' G' a
      obtain ⟨b1,b2⟩:=back_aft rel hc.2 hNa a
      exact k .non H' G' b1 (by show Rep K G' .non _; simp [Rep])
     | rt v' =>
      cases er
      intro x' σ' H' G' a hv
      obtain ⟨b1,b2⟩:=back_aft rel hc.2 hNa a
      refine k x' H' G' b1 ?_
      have key:∀ c,¬ Own ρ' σ' c→(Own (as ++ List.replicate fn.nl .un) (start N vs) c∨H c=none)→H c=none:=fun c nc mc=>by
       rcases mc with mc | mc
       ·have:=hpad.2 c mc
        obtain ⟨i,d1,p1,l1,h1,h2⟩:=this
        refine absurd ?_ nc
        apply b2 c
        have hp:=List.all_eq_true.mp hc.2 _ (List.mem_of_getElem? h1)
        simp only [pinOk] at hp
        subst hp
        have:=b1.evo i
        rw [h1] at this
        cases q3:(back as ρ')[i]? with
        | none=>rw [q3] at this; exact this.elim
        | some s =>
         rw [q3] at this
         cases s with
         | ow d2 p2 l2=>exact ⟨i,d2,p2,l2,q3,h2⟩
         | sh d2=>exact absurd (show true=false from this) (by simp)
         | un=>exact this.elim
         | mv=>exact this.elim
       ·exact mc
      cases v with
      | sh d0=>exact hv
      | ow d0 =>
       obtain ⟨c,rfl,gc,oc,nc,mc⟩:=hv
       exact ⟨c,rfl,gc,oc,fun z=>nc (b2 c z),key c nc mc⟩
      | od d0 =>
       obtain ⟨c,rfl,gc,oc,nc,mc,ys,hy,hr⟩:=hv
       exact ⟨c,rfl,gc,oc,fun z=>nc (b2 c z),key c nc mc,ys,hy,fun x hx=>let ⟨b,ws,h1,h2,h3,h4,h5,h6⟩:=hr x hx; ⟨b,ws,h1,h2,h3,fun z=>h4 (b2 b z),key b h4 h5,h6⟩⟩
     | bk=>exact (rs_no er).elim
     | ct=>exact (rs_no er).elim
     | ex x'=>exact (rs_no er).elim
   ·cases er
  ·trivial
noncomputable def psOf (st:Stmt):List Str:=(defArgs st).args.map (·.arg)
noncomputable def nOf (st:Stmt):List Str:=psOf st ++ (((defScope st).names.filter fun y=>(y.2 == .local || y.2 == .cell) && !(psOf st).contains y.1).map (·.1))
noncomputable def coreOf (gl:Str→GV) (st:Stmt):List S:=cSs ⟨nOf st,(defScope st).names,gl,true⟩ (defBody st)
structure MthAt (K:PySem.W.Frag) (x m qual:Str) (st:Stmt):Prop where
 ex:∃ (Ca f:Addr) (oc:Value) (od an:Option Addr) (kV doc pm cdv ct:Value) (osl:Array (Option Value)),PySem.W.nsIn K mainGlobals x=some (some (.ref Ca))∧PySem.W.findIn K (.ref Ca) m=some (some (.ref f))∧PySem.W.isFn K (.ref f)=true ∧
  K.lookup f=some ⟨oc,od,.func (PySem.W.fnOf m qual (defArgs st) (defBody st) (defScope st) .none kV doc pm an cdv ct),osl⟩∧PySem.W.codeIn K cdv qual=true∧PySem.W.keepIn K (.ref f)=true
structure ClsAt (K:PySem.W.Frag) (x:Str):Prop where
 ex:∃ Ca:Addr,PySem.W.nsIn K mainGlobals x=some (some (.ref Ca))∧Cls K Ca∧PySem.W.makesIn K Ca=true∧PySem.W.keepIn K (.ref Ca)=true
structure DefAt (K:PySem.W.Frag) (x:Str) (st:Stmt):Prop where
 ex:∃ (f:Addr) (oc:Value) (od an:Option Addr) (kV doc pm cdv ct:Value) (osl:Array (Option Value)),PySem.W.nsIn K mainGlobals x=some (some (.ref f)) ∧
  K.lookup f=some ⟨oc,od,.func (PySem.W.fnOf x x (defArgs st) (defBody st) (defScope st) .none kV doc pm an cdv ct),osl⟩∧PySem.W.codeIn K cdv x=true∧PySem.W.keepIn K (.ref f)=true
theorem def_at {K:PySem.W.Frag} {x:Str} {st:Stmt} {f:Addr} {oc:Value} {od an:Option Addr} {kV doc pm cdv ct:Value} {osl:Array (Option Value)} (a:PySem.W.nsIn K mainGlobals x=some (some (.ref f)))
  (l:K.lookup f=some ⟨oc,od,.func (PySem.W.fnOf x x (defArgs st) (defBody st) (defScope st) .none kV doc pm an cdv ct),osl⟩) (c:PySem.W.codeIn K cdv x=true) (k:PySem.W.keepIn K (.ref f)=true):DefAt K x st :=
 ⟨f,oc,od,an,kV,doc,pm,cdv,ct,osl,a,l,c,k⟩
structure DefOkQ (gl:Str→GV) (st:Stmt) (x qual:Str) (fn:Fn):Prop where
 sc:FnScope (nOf st) (psOf st) (defScope st)
 body:fn.body=coreOf gl st
 len:(nOf st).length=fn.pins.length+fn.nl
 pl:(psOf st).length=fn.pins.length
 bind:∀ (kV doc pm:Value) (an:Option Addr) (cdv ct:Value) (us:List Value),us.length=(psOf st).length→bindArgs (PySem.W.fnOf x qual (defArgs st) (defBody st) (defScope st) .none kV doc pm an cdv ct) ⟨us,[]⟩=pure ((psOf st).zip us)
abbrev DefOk (gl:Str→GV) (st:Stmt) (x:Str) (fn:Fn):Prop:=DefOkQ gl st x x fn
theorem entb_of {K:PySem.W.Frag} {T:Tab} {gl:Str→GV} {x qual:Str} {f:String} {st:Stmt} {fn:Fn} {fa:Addr} {fd:FuncData} (F:Fun K x qual st fa fd) (O:DefOkQ gl st x qual fn) (hT:T f=some fn):EntB K T gl f fa fd (psOf st) :=
 ⟨F.binds O.bind,x,qual,st,nOf st,fn,F,O.sc,O.sc.nd,hT,O.body,O.len,O.pl⟩
theorem entry_of {K:PySem.W.Frag} {mg:Str→Option Value} {h:Heap} {T:Tab} {gl:Str→GV} {x:Str} {f:String} {st:Stmt} {fn:Fn} (X:K.In h) (G:h.Ns mainGlobals mg) (D:DefAt K x st) (O:DefOk gl st x fn) (hT:T f=some fn):∃ fa fd ps,Entry K mg T gl x f fa fd ps:=by
 obtain ⟨fa,oc,od,an,kV,doc,pm,cdv,ct,osl,a,l,c,k⟩:=D.ex
 have F:=fun_mk (st:=st) l c k
 exact ⟨fa,_,psOf st,PySem.W.mg_of X G a,k,entb_of F O hT⟩
noncomputable def glOf (L:List (Str × GV)) (x:Str):GV:=(L.lookup x).getD .no
theorem lookup_mem {α β:Type} [BEq α] [LawfulBEq α]:∀ {L:List (α × β)} {x:α} {v:β},L.lookup x=some v→(x,v)∈L
 | [],_,_,h=>by simp at h
 | (y,w) :: L,x,v,h=>by
  rw [List.lookup_cons] at h
  split at h
  ·rename_i hb
   cases h
   rw [eq_of_beq hb]
   exact List.mem_cons_self
  ·exact List.mem_cons_of_mem _ (lookup_mem h)
theorem glOf_mem {L:List (Str × GV)} {x:Str} {v:GV} (h:glOf L x=v) (n:v≠.no):(x,v)∈L:=by
 unfold glOf at h
 cases q:L.lookup x with
 | none=>rw [q] at h; exact absurd h.symm n
 | some w =>
  rw [q] at h
  cases h
  exact lookup_mem q
def GlAt (K:PySem.W.Frag) (mg:Str→Option Value) (T:Tab) (gl:Str→GV):Str × GV→Prop
 | (x,.cls ns)=>ClsE K mg x ns
 | (x,.mth tb)=>∃ m,x=dot m∧∀ p∈tb,MthE K T gl p.1 m p.2
 | (x,.con d)=>∃ u v,mg x=some u∧RelV v u∧∀ G,Rep K G d v
 | (x,.blt)=>mg x=none
 | (x,.fn f)=>∃ fa fd ps,Entry K mg T gl x f fa fd ps
 | (x,.sub s n)=>∃ m,x=col m∧SubAt K mg m s n
 | (x,.subx s n)=>∃ m,x=col m∧SubX K mg m s n
 | (x,.exc)=>ExcAt K mg x
 | (x,.exs cs)=>∃ m,x=cat m∧ExsAt K mg m cs
 | (_,.no)=>True
theorem pre_inj {p:Array Nat} {x y:Str} (h:(⟨p ++ x.cps⟩:Str)=⟨p ++ y.cps⟩):x=y:=by
 have e6:=congrArg Array.toList (congrArg Str.cps h)
 simp only [Array.toList_append] at e6
 have e5:=Array.toList_inj.mp (List.append_cancel_left e6)
 cases x; cases y
 simp only at e5
 rw [e5]
theorem globs_of {K:PySem.W.Frag} {mg:Str→Option Value} {T:Tab} {L:List (Str × GV)} (h:∀ p∈L,GlAt K mg T (glOf L) p):Globs K mg T (glOf L) :=
 ⟨fun x d e=>h _ (glOf_mem e (fun z=>nomatch z)),fun x e=>h _ (glOf_mem e (fun z=>nomatch z)),fun x f e=>h _ (glOf_mem e (fun z=>nomatch z)),fun x ns e=>h _ (glOf_mem e (fun z=>nomatch z)),fun m tb c f e e2=>by
  obtain ⟨m',e3,k⟩:=h _ (glOf_mem e (fun z=>nomatch z))
  have:m'=m:=by
   unfold dot at e3
   have e4:(#[46] ++ m.cps:Array Nat)=#[46] ++ m'.cps:=congrArg Str.cps e3
   have e5:m.cps=m'.cps:=by
    have e6:=congrArg Array.toList e4
    rw [Array.toList_append,Array.toList_append] at e6
    exact Array.toList_inj.mp (List.append_cancel_left e6)
   cases m; cases m'
   simp only at e5
   rw [e5]
  subst this
  exact k _ (lookup_mem e2),fun x s n e=>by
  obtain ⟨m',e3,k⟩:=h _ (glOf_mem e (fun z=>nomatch z))
  have:m'=x:=by
   unfold col at e3
   have e5:x.cps=m'.cps:=by
    have e6:=congrArg Array.toList (congrArg Str.cps e3)
    simp only [Array.toList_append] at e6
    exact Array.toList_inj.mp (List.append_cancel_left e6)
   cases x; cases m'
   simp only at e5
   rw [e5]
  subst this
  exact k,fun x s n e=>by
  obtain ⟨m',e3,k⟩:=h _ (glOf_mem e (fun z=>nomatch z))
  rw [pre_inj e3]
  exact k,fun x e=>h _ (glOf_mem e (fun z=>nomatch z)),fun x cs e=>by
  obtain ⟨m',e3,k⟩:=h _ (glOf_mem e (fun z=>nomatch z))
  rw [pre_inj e3]
  exact k⟩
theorem con_int {K:PySem.W.Frag} {mg:Str→Option Value} {h:Heap} {T:Tab} {gl:Str→GV} {x:Str} {i:Int} {t:Tok} (X:K.In h) (G:h.Ns mainGlobals mg) (a:PySem.W.nsIn K mainGlobals x=some (some (.int i t))):GlAt K mg T gl (x,.con (.int i)) :=
 ⟨_,.int i,PySem.W.mg_of X G a,⟨t,rfl⟩,fun G=>by simp [Rep]⟩
theorem blt_of {K:PySem.W.Frag} {mg:Str→Option Value} {h:Heap} {T:Tab} {gl:Str→GV} {x:Str} (X:K.In h) (G:h.Ns mainGlobals mg) (a:PySem.W.nsIn K mainGlobals x=some none):GlAt K mg T gl (x,.blt):=PySem.W.mg_none_of X G a
structure KinN (K:PySem.W.Frag) (c x:Str):Prop where
 ex:∃ Ca C:Addr,PySem.W.nsIn K mainGlobals c=some (some (.ref Ca))∧PySem.W.nsIn K mainGlobals x=some (some (.ref C))∧PySem.W.kin_not K Ca C=true
structure KinI (K:PySem.W.Frag) (c x:Str):Prop where
 ex:∃ Ca C:Addr,PySem.W.nsIn K mainGlobals c=some (some (.ref Ca))∧PySem.W.nsIn K mainGlobals x=some (some (.ref C))∧PySem.W.isIn K (.ref Ca) C=true
structure KinC (K:PySem.W.Frag) (c:Str):Prop where
 ex:∃ D:Addr,PySem.W.nsIn K mainGlobals c=some (some (.ref D))∧PySem.W.plainGet K D "__class__"=true∧PySem.W.hasDictIn K D=true∧PySem.W.findIn K (.ref D) "__class__"=some (some (.builtin "object.__class__")) ∧
  PySem.W.specialIn K (.builtin "object.__class__") "__get__"=some (some (.builtin "getset_descriptor.__get__"))∧PySem.W.takesIn K (.builtin "object.__class__")=some true∧PySem.W.mroIn K D (.type "object")=some true
structure KinX (K:PySem.W.Frag) (x:Str):Prop where
 ex:∃ C:Addr,PySem.W.nsIn K mainGlobals x=some (some (.ref C))
structure ExcK (K:PySem.W.Frag) (x:Str):Prop where
 ex:∃ C:Addr,PySem.W.nsIn K mainGlobals x=some (some (.ref C))∧ExcG K C
structure MroK (K:PySem.W.Frag) (c x:Str):Prop where
 ex:∃ C D:Addr,PySem.W.nsIn K mainGlobals c=some (some (.ref C))∧PySem.W.nsIn K mainGlobals x=some (some (.ref D))∧PySem.W.mroIn K C (.ref D)=some true
theorem law_walk {l:PySem.W.OpenLaw} {q:Program} {loose:List Str} {XP:(Str→Option Value)→Heap→Prop} {YP:World→Heap→Prop} {d:DefRec} {K:Params→PySem.W.Frag} {T:Tab} {L:List (Str × GV)} {st:Stmt} {fn:Fn} {W n:Nat} {x p:Str} {f:String}
  (hn:l.most=some 63) (hdf:d.params.defaults=[]) (hr:Room (n+2) callerA) (hx:d.name=x) (hT:T f=some fn) (O:DefOk (glOf L) st x fn) (hp:psOf st=[p])
  (hY:∀ (w:World) (h:Heap),YP w h→(K w.params).In h)
  (F:∀ (w:World) (mg:Str→Option Value) (h:Heap),(K w.params).In h→h.Ns mainGlobals mg→DefAt (K w.params) x st∧∀ p∈L,GlAt (K w.params) mg T (glOf L) p)
  (M:∀ ns:List Int,ns.length≤63→∃ as',run T W n f [.sh (.lst (ns.map .int))]=some (.ok (.sh (.bl true)),as')) :
  PySem.W.WalkO q loose XP YP l.row.toRowW d [] (fun f vs=>PySem.call f vs):=by
 refine L2.walk_of (n:=63) (k:=n+2) (x:=p) (CX:=fun _=>CX0) (sp:=fun w=>spC (K w.params) 1 (run T W n f)) hn (by decide) hdf hr hY (fun w mg fa h KX G hmg=>?_) (fun w H a ns hl hO hS=>?_) fun _ _ _ _ _ z=>z
 ·obtain ⟨D,hG⟩:=F w mg h KX G
  have g:=globs_of hG
  obtain ⟨fa',oc,od,an,kV,doc,pm,cdv,ct,osl,a,lk,c,k⟩:=D.ex
  have hm:=PySem.W.mg_of KX G a
  rw [hx,hm] at hmg
  cases hmg
  have Fu:=fun_mk (st:=st) lk c k
  have E:Entry (K w.params) mg T (glOf L) x f fa _ (psOf st):=⟨hm,k,entb_of Fu O hT⟩
  have hpins:(T.pins f).length=1:=by
   unfold Tab.pins
   rw [hT]
   show fn.pins.length=1
   rw [← O.pl,hp]
   rfl
  refine ⟨PySem.W.fnOf x x (defArgs st) (defBody st) (defScope st) .none kV doc pm an cdv ct,fun s u=>?_,fun base kb nb=>?_⟩
  rotate_left
  ·have:=(fns_ok (Pr:=l.prog) (w:=w) (base:=base) W g n f fa _ (psOf st) E.b).1
   rw [hpins] at this
   rw [hp] at this
   exact this
  ·have:=O.bind kV doc pm an cdv ct [u] (by rw [hp]; rfl)
   rw [hp] at this
   exact .of_eq this
 ·obtain ⟨as',e⟩:=M ns hl
  have hr1:Reps (K w.params) H (ns.map .int) (ns.map V.int):=by
   induction ns with
   | nil=>exact Reps.nil
   | cons i r ih=>exact Reps.cons (by simp [Rep]) (by
     clear e hS hl ih
     induction r with
     | nil=>exact Reps.nil
     | cons i r ih=>exact Reps.cons (by simp [Rep]) ih)
  refine ⟨rfl,[.sh (.lst (ns.map .int))],H,.sh (.bl true),as',Rel.cons_sh (Rel.nil (Same.refl _)) ?_,rfl,e,fun x H' G' _ hv=>rep_bl (K:=K w.params) (G:=G') hv⟩
  simp only [Rep]
  exact ⟨a,_,rfl,hS,hr1⟩
end CI
namespace CI
open PySem (Operator CmpOp)
noncomputable section
variable {α β:Type} {P:Pins} {C:Calls} {W:Nat} {t:Bool} {ρ ρ1 ρ2:Env}
theorem rb_ok {a:α} {f:α→Env→Res β}:Res.bind (some (.ok a,ρ)) f=f a ρ:=rfl
theorem fl_ok {a:α} {f:α→Env→Run}:Res.flow (some (.ok a,ρ)) f=f a ρ:=rfl
theorem nx_nx {f:Env→Run}:Run.next (some (.nx,ρ)) f=f ρ:=rfl
theorem nx_rt {f:Env→Run} {v:RV}:Run.next (some (.rt v,ρ)) f=some (.rt v,ρ):=rfl
theorem go_some:goOn (some ρ)=some (.nx,ρ):=rfl
theorem done_some {v:RV}:done (some v) ρ=some (.ok v,ρ):=rfl
theorem d_sh {d:D}:(RV.sh d).d=d:=rfl
theorem d_ow {d:D}:(RV.ow d).d=d:=rfl
theorem g_sh {d:D}:(Sl.sh d).get=some d:=rfl
theorem g_ow {d:D} {p l:Bool}:(Sl.ow d p l).get=some d:=rfl
theorem hg_val {v:RV}:(Hd.val v).get ρ=some v.d:=rfl
theorem hg_slot {i:Nat}:(Hd.slot i).get ρ=(ρ[i]?).bind Sl.get:=rfl
noncomputable def kTr (ρ:Env) (o:Option Bool):Res RV:=o.map fun b=>(.ok (.sh (.bl b)),ρ)
theorem kTr_some {b:Bool}:kTr ρ (some b)=some (.ok (.sh (.bl b)),ρ):=rfl
theorem wr_f {r:Res RV}:wrap false r=r:=rfl
theorem wr_t {v:RV}:wrap true (some (.ok v,ρ))=kTr ρ (truthD v.d):=rfl
noncomputable def kFz (i:Nat) (ρ:Env):Option Sl→Res RV
 | some (.sh d)=>some (.ok (.sh d),ρ)
 | some (.ow d false false)=>some (.ok (.sh d),ρ.set i (.sh d))
 | _=>none
theorem kFz_sh {i:Nat} {d:D}:kFz i ρ (some (.sh d))=some (.ok (.sh d),ρ):=rfl
theorem ev_varF {i:Nat}:ev P C false (.var i) ρ=kFz i ρ ρ[i]?:=rfl
theorem ev_con {d:D}:ev P C t (.con d) ρ=wrap t (some (.ok (.sh d),ρ)):=rfl
noncomputable def kSm (b:Bool) (v:RV) (ρ:Env):Res RV:=if b then some (.ok v,ρ) else none
theorem kSm_t {v:RV}:kSm true v ρ=some (.ok v,ρ):=rfl
theorem sm_le {n:Nat} (h:n≤1000000):smallL n=true:=@decide_eq_true _ (cl _) h
theorem sm_0:smallL 0=true:=sm_le (by decide)
theorem sm_1:smallL 1=true:=sm_le (by decide)
theorem sm_2:smallL 2=true:=sm_le (by decide)
theorem sm_3:smallL 3=true:=sm_le (by decide)
theorem sm_4:smallL 4=true:=sm_le (by decide)
theorem sm_5:smallL 5=true:=sm_le (by decide)
noncomputable def kTup (ds:List D) (ρ:Env):Res RV:=kSm (smallL ds.length) (.sh (.tup ds)) ρ
noncomputable def kLst (ds:List D) (ρ:Env):Res RV:=kSm (smallL ds.length) (.ow (.lst ds)) ρ
theorem kTup_ {ds:List D}:kTup ds ρ=kSm (smallL ds.length) (.sh (.tup ds)) ρ:=rfl
theorem kLst_ {ds:List D}:kLst ds ρ=kSm (smallL ds.length) (.ow (.lst ds)) ρ:=rfl
theorem ev_tup {es:List E}:ev P C t (.tup es) ρ=wrap t ((evs P C es ρ).bind kTup):=rfl
theorem ev_lst {es:List E}:ev P C t (.lst es) ρ=wrap t ((evs P C es ρ).bind kLst):=rfl
theorem evs_nil:evs P C [] ρ=some (.ok [],ρ):=rfl
noncomputable def kCons2 (v:RV) (ds:List D) (ρ:Env):Res (List D):=some (.ok (v.d :: ds),ρ)
noncomputable def kCons1 (P:Pins) (C:Calls) (es:List E) (v:RV) (ρ:Env):Res (List D):=(evs P C es ρ).bind (kCons2 v)
theorem kCons2_ {v:RV} {ds:List D}:kCons2 v ds ρ=some (.ok (v.d :: ds),ρ):=rfl
theorem kCons1_ {es:List E} {v:RV}:kCons1 P C es v ρ=(evs P C es ρ).bind (kCons2 v):=rfl
theorem evs_cons {e:E} {es:List E}:evs P C (e :: es) ρ=(ev P C false e ρ).bind (kCons1 P C es):=rfl
theorem evHs_nil:evHs P C [] ρ=some (.ok [],ρ):=rfl
noncomputable def kHCons2 (v:Hd) (ds:List Hd) (ρ:Env):Res (List Hd):=some (.ok (v :: ds),ρ)
noncomputable def kHCons1 (P:Pins) (C:Calls) (es:List E) (v:Hd) (ρ:Env):Res (List Hd):=(evHs P C es ρ).bind (kHCons2 v)
theorem kHCons2_ {v:Hd} {ds:List Hd}:kHCons2 v ds ρ=some (.ok (v :: ds),ρ):=rfl
theorem kHCons1_ {es:List E} {v:Hd}:kHCons1 P C es v ρ=(evHs P C es ρ).bind (kHCons2 v):=rfl
noncomputable def opd (P:Pins) (C:Calls) (e:E) (ρ:Env):Res Hd:=hd e (ev P C false e ρ) ρ
noncomputable def kVal (v:RV) (ρ:Env):Res Hd:=some (.ok (.val v.low),ρ)
theorem kVal_ {d:D}:kVal (.sh d) ρ=some (.ok (.val (.sh d)),ρ):=rfl
theorem kValO_ {d:D}:kVal (.ow d) ρ=some (.ok (.val (.ow d)),ρ):=rfl
noncomputable def kSlot (i:Nat) (ρ:Env) (b:Bool):Res Hd:=if b then some (.ok (.slot i),ρ) else none
theorem kSlot_t {i:Nat}:kSlot i ρ true=some (.ok (.slot i),ρ):=rfl
theorem opd_var {i:Nat}:opd P C (.var i) ρ=kSlot i ρ ((ρ[i]?).bind Sl.get).isSome:=rfl
theorem opd_con {d:D}:opd P C (.con d) ρ=some (.ok (.val (.sh d)),ρ):=rfl
theorem opd_tup {es:List E}:opd P C (.tup es) ρ=(ev P C false (.tup es) ρ).bind kVal:=rfl
theorem opd_lst {es:List E}:opd P C (.lst es) ρ=(ev P C false (.lst es) ρ).bind kVal:=rfl
theorem opd_bin {op:Operator} {a b:E}:opd P C (.bin op a b) ρ=(ev P C false (.bin op a b) ρ).bind kVal:=rfl
theorem opd_neg {a:E}:opd P C (.neg a) ρ=(ev P C false (.neg a) ρ).bind kVal:=rfl
theorem opd_cmp {op:CmpOp} {a b:E}:opd P C (.cmp op a b) ρ=(ev P C false (.cmp op a b) ρ).bind kVal:=rfl
theorem opd_ix {a b:E}:opd P C (.ix a b) ρ=(ev P C false (.ix a b) ρ).bind kVal:=rfl
theorem opd_sl {a b c:E}:opd P C (.sl a b c) ρ=(ev P C false (.sl a b c) ρ).bind kVal:=rfl
theorem opd_call {f:String} {es:List E}:opd P C (.call f es) ρ=(ev P C false (.call f es) ρ).bind kVal:=rfl
theorem opd_bif {f:BI} {es:List E}:opd P C (.bif f es) ρ=(ev P C false (.bif f es) ρ).bind kVal:=rfl
theorem opd_isi {a:E} {ts:List Ty}:opd P C (.isi a ts) ρ=(ev P C false (.isi a ts) ρ).bind kVal:=rfl
theorem opd_comp {elt:E} {tg:List Nat} {k:ItK} {its cond:List E} {imp:List Nat} {nl:Nat}:opd P C (.comp elt tg k its cond imp nl) ρ=(ev P C false (.comp elt tg k its cond imp nl) ρ).bind kVal:=rfl
theorem evHs_cons {e:E} {es:List E}:evHs P C (e :: es) ρ=(opd P C e ρ).bind (kHCons1 P C es):=rfl
noncomputable def binO (op:Operator) (x:Hd) (a b:Option D):Option RV:=a.bind fun d=>b.bind fun e=>if mulOk op x d then binD op d e else none
noncomputable def kBin2 (op:Operator) (x y:Hd) (ρ:Env):Res RV:=done (binO op x (x.get ρ) (y.get ρ)) ρ
noncomputable def kBin1 (P:Pins) (C:Calls) (op:Operator) (b:E) (x:Hd) (ρ:Env):Res RV:=(opd P C b ρ).bind (kBin2 op x)
theorem kBin2_ {op:Operator} {x y:Hd}:kBin2 op x y ρ=done (binO op x (x.get ρ) (y.get ρ)) ρ:=rfl
theorem kBin1_ {op:Operator} {b:E} {x:Hd}:kBin1 P C op b x ρ=(opd P C b ρ).bind (kBin2 op x):=rfl
theorem ev_bin {op:Operator} {a b:E}:ev P C t (.bin op a b) ρ=wrap t ((opd P C a ρ).bind (kBin1 P C op b)):=rfl
theorem binO_i {op:Operator} {x:Hd} {i:Int} {e:D}:binO op x (some (.int i)) (some e)=binD op (.int i) e:=by
 unfold binO mulOk; cases op <;> rfl
theorem binO_t {op:Operator} {x:Hd} {ds:List D} {e:D}:binO op x (some (.tup ds)) (some e)=binD op (.tup ds) e:=by
 unfold binO mulOk; cases op <;> rfl
theorem binO_s {op:Operator} {x:Hd} {s:PySem.Str} {e:D}:binO op x (some (.str s)) (some e)=binD op (.str s) e:=by
 unfold binO mulOk; cases op <;> rfl
theorem binO_l {x:Hd} {ds:List D} {e:D}:binO .Add x (some (.lst ds)) (some e)=binD .Add (.lst ds) e:=rfl
theorem b_add {i j:Int}:binD .Add (.int i) (.int j)=some (.sh (.int (i+j))):=rfl
theorem b_sub {i j:Int}:binD .Sub (.int i) (.int j)=some (.sh (.int (i - j))):=rfl
theorem b_mul {i j:Int} (h:(-(2 ^ 64)<i∧i<2 ^ 64)∨(-(2 ^ 64)<j∧j<2 ^ 64)):binD .Mult (.int i) (.int j)=some (.sh (.int (i*j))):=if_pos h
theorem b_mulR {i j:Int} (h1:-18446744073709551616<j) (h2:j<18446744073709551616):binD .Mult (.int i) (.int j)=some (.sh (.int (i*j))):=b_mul (.inr ⟨h1,h2⟩)
theorem b_mulL {i j:Int} (h1:-18446744073709551616<i) (h2:i<18446744073709551616):binD .Mult (.int i) (.int j)=some (.sh (.int (i*j))):=b_mul (.inl ⟨h1,h2⟩)
theorem b_div {i j:Int} (h:0<j∧j<100000000000000000000000000000000000000000000000000000000000000000000000000000000):binD .FloorDiv (.int i) (.int j)=some (.sh (.int (i / j))):=if_pos h
theorem b_mod {i j:Int} (h:0<j):binD .Mod (.int i) (.int j)=some (.sh (.int (i % j))):=if_pos h
theorem b_shl1 {j:Int} (h:0≤j) (h2:j≤1000):binD .LShift (.int 1) (.int j)=some (.sh (.int (2 ^ j.toNat))):=by
 show @ite _ _ (cl _) _ _=_
 rw [if_pos ⟨h,h2,by decide⟩,Int.one_mul]
theorem b_shr {i j:Int} (h:0≤j):binD .RShift (.int i) (.int j)=some (.sh (.int (i / 2 ^ j.toNat))):=if_pos h
theorem b_or {i j:Int}:binD .BitOr (.int i) (.int j)=some (.sh (.int (PySem.Builtin.bitOr i j))):=rfl
theorem b_and {i j:Int}:binD .BitAnd (.int i) (.int j)=some (.sh (.int (PySem.Builtin.bitAnd i j))):=rfl
theorem b_cat {xs ys:List D} (h:smallL (xs.length+ys.length)=true):binD .Add (.lst xs) (.lst ys)=some (.ow (.lst (xs ++ ys))):=if_pos h
theorem b_cat0 {ys:List D}:binD .Add (.tup []) (.tup ys)=some (.sh (.tup ys)):=rfl
theorem b_catT {x:D} {xs ys:List D} (h:smallL (xs.length+1+ys.length)=true):binD .Add (.tup (x :: xs)) (.tup ys)=some (.sh (.tup (x :: xs ++ ys))):=if_pos h
noncomputable def kNeg (v:RV) (ρ:Env):Res RV:=match v.d with
 | .int i=>some (.ok (.sh (.int (-i))),ρ)
 | _=>none
theorem kNeg_ {i:Int}:kNeg (.sh (.int i)) ρ=some (.ok (.sh (.int (-i))),ρ):=rfl
theorem ev_neg {a:E}:ev P C t (.neg a) ρ=wrap t ((ev P C false a ρ).bind kNeg):=rfl
noncomputable def kNotT (v:RV) (ρ:Env):Res RV:=match v with
 | .sh (.bl b)=>some (.ok (.sh (.bl (!b))),ρ)
 | _=>none
theorem kNotT_ {b:Bool}:kNotT (.sh (.bl b)) ρ=some (.ok (.sh (.bl (!b))),ρ):=rfl
theorem ev_notT {a:E}:ev P C true (.not a) ρ=(ev P C true a ρ).bind kNotT:=rfl
noncomputable def notO (o:Option D):Option RV:=o.bind fun d=>(truthD d).map fun b=>.sh (.bl (!b))
noncomputable def kNotF (x:Hd) (ρ:Env):Res RV:=done (notO (x.get ρ)) ρ
theorem kNotF_ {x:Hd}:kNotF x ρ=done (notO (x.get ρ)) ρ:=rfl
theorem notO_bl {b:Bool}:notO (some (.bl b))=some (.sh (.bl (!b))):=rfl
theorem ev_notF {a:E}:ev P C false (.not a) ρ=(opd P C a ρ).bind kNotF:=rfl
noncomputable def cmpO (op:CmpOp) (a b:Option D):Option RV:=a.bind fun d=>b.bind fun e=>(cmpD op d e).map fun b=>.sh (.bl b)
theorem cmpO_ {op:CmpOp} {d e:D}:cmpO op (some d) (some e)=(cmpD op d e).map fun b=>.sh (.bl b):=rfl
noncomputable def cmpB (op:CmpOp) (a b:Option D):Option Bool:=a.bind fun d=>b.bind fun e=>cmpD op d e
theorem cmpB_ {op:CmpOp} {d e:D}:cmpB op (some d) (some e)=cmpD op d e:=rfl
noncomputable def kCmp2 (op:CmpOp) (x y:Hd) (ρ:Env):Res RV:=done (cmpO op (x.get ρ) (y.get ρ)) ρ
noncomputable def kCmp1 (P:Pins) (C:Calls) (op:CmpOp) (b:E) (x:Hd) (ρ:Env):Res RV:=(opd P C b ρ).bind (kCmp2 op x)
theorem kCmp2_ {op:CmpOp} {x y:Hd}:kCmp2 op x y ρ=done (cmpO op (x.get ρ) (y.get ρ)) ρ:=rfl
theorem kCmp1_ {op:CmpOp} {b:E} {x:Hd}:kCmp1 P C op b x ρ=(opd P C b ρ).bind (kCmp2 op x):=rfl
theorem ev_cmp {op:CmpOp} {a b:E}:ev P C t (.cmp op a b) ρ=(opd P C a ρ).bind (kCmp1 P C op b):=rfl
noncomputable def kCh3 (op:CmpOp) (y z:Hd) (ρ:Env):Res RV:=done (cmpO op (y.get ρ) (z.get ρ)) ρ
theorem kCh3_ {op:CmpOp} {x y:Hd}:kCh3 op x y ρ=done (cmpO op (x.get ρ) (y.get ρ)) ρ:=rfl
noncomputable def kCh (P:Pins) (C:Calls) (op':CmpOp) (y:Hd) (c:E) (ρ:Env):Option Bool→Res RV
 | none=>none
 | some false=>some (.ok (.sh (.bl false)),ρ)
 | some true=>(opd P C c ρ).bind (kCh3 op' y)
theorem kCh_b {op':CmpOp} {y:Hd} {c:E} {b:Bool}:kCh P C op' y c ρ (some b)=if b=true then (opd P C c ρ).bind (kCh3 op' y) else some (.ok (.sh (.bl false)),ρ):=by cases b <;> rfl
noncomputable def kCh2 (P:Pins) (C:Calls) (op op':CmpOp) (c:E) (x y:Hd) (ρ:Env):Res RV:=kCh P C op' y c ρ (cmpB op (x.get ρ) (y.get ρ))
noncomputable def kCh1 (P:Pins) (C:Calls) (op op':CmpOp) (b c:E) (x:Hd) (ρ:Env):Res RV:=(opd P C b ρ).bind (kCh2 P C op op' c x)
theorem kCh2_ {op op':CmpOp} {c:E} {x y:Hd}:kCh2 P C op op' c x y ρ=kCh P C op' y c ρ (cmpB op (x.get ρ) (y.get ρ)):=rfl
theorem kCh1_ {op op':CmpOp} {b c:E} {x:Hd}:kCh1 P C op op' b c x ρ=(opd P C b ρ).bind (kCh2 P C op op' c x):=rfl
theorem ev_cmp2 {op op':CmpOp} {a b c:E}:ev P C t (.cmp2 op op' a b c) ρ=(opd P C a ρ).bind (kCh1 P C op op' b c):=rfl
theorem c_lt {i j:Int}:cmpD .Lt (.int i) (.int j)=some (decide (i<j)):=rfl
theorem c_le {i j:Int}:cmpD .LtE (.int i) (.int j)=some (decide (i≤j)):=rfl
theorem c_gt {i j:Int}:cmpD .Gt (.int i) (.int j)=some (decide (j<i)):=rfl
theorem c_ge {i j:Int}:cmpD .GtE (.int i) (.int j)=some (decide (j≤i)):=rfl
theorem c_eqi {i j:Int}:cmpD .Eq (.int i) (.int j)=some (decide (i=j)):=rfl
theorem c_nei {i j:Int}:cmpD .NotEq (.int i) (.int j)=some (!decide (i=j)):=rfl
theorem c_eq {d e:D} (h1:okD 20 d=true) (h2:okD 20 e=true):cmpD .Eq d e=some (eqD d e):=by
 show (if (okD 20 d && okD 20 e)=true then some (eqD d e) else none)=_
 rw [h1,h2]; rfl
theorem c_ne {d e:D} (h1:okD 20 d=true) (h2:okD 20 e=true):cmpD .NotEq d e=some (!eqD d e):=by
 show (if (okD 20 d && okD 20 e)=true then some (!eqD d e) else none)=_
 rw [h1,h2]; rfl
theorem c_eqs {a b:PySem.Str}:cmpD .Eq (.str a) (.str b)=some (a == b):=rfl
theorem c_nes {a b:PySem.Str}:cmpD .NotEq (.str a) (.str b)=some (!(a == b)):=rfl
theorem t_bl {b:Bool}:truthD (.bl b)=some b:=rfl
noncomputable def kAnd (P:Pins) (C:Calls) (t:Bool) (b:E) (v:RV) (ρ:Env):Res RV:=match v with
 | .sh (.bl true)=>ev P C t b ρ
 | .sh (.bl false)=>some (.ok (.sh (.bl false)),ρ)
 | _=>none
noncomputable def kOr (P:Pins) (C:Calls) (t:Bool) (b:E) (v:RV) (ρ:Env):Res RV:=match v with
 | .sh (.bl true)=>some (.ok (.sh (.bl true)),ρ)
 | .sh (.bl false)=>ev P C t b ρ
 | _=>none
noncomputable def kIte (P:Pins) (C:Calls) (t:Bool) (a b:E) (v:RV) (ρ:Env):Res RV:=match v with
 | .sh (.bl true)=>ev P C t a ρ
 | .sh (.bl false)=>ev P C t b ρ
 | _=>none
theorem ev_and {a b:E}:ev P C t (.and a b) ρ=(ev P C t a ρ).bind (kAnd P C t b):=rfl
theorem ev_or {a b:E}:ev P C t (.or a b) ρ=(ev P C t a ρ).bind (kOr P C t b):=rfl
theorem ev_ite {c a b:E}:ev P C t (.ite c a b) ρ=(ev P C true c ρ).bind (kIte P C t a b):=rfl
theorem kAnd_b {b:E} {x:Bool}:kAnd P C t b (.sh (.bl x)) ρ=if x=true then ev P C t b ρ else some (.ok (.sh (.bl false)),ρ):=by cases x <;> rfl
theorem kOr_b {b:E} {x:Bool}:kOr P C t b (.sh (.bl x)) ρ=if x=true then some (.ok (.sh (.bl true)),ρ) else ev P C t b ρ:=by cases x <;> rfl
theorem kIte_b {a b:E} {x:Bool}:kIte P C t a b (.sh (.bl x)) ρ=if x=true then ev P C t a ρ else ev P C t b ρ:=by cases x <;> rfl
noncomputable def ixO (a:Option D) (k:D):Option RV:=a.bind fun d=>(ixD d k).map .sh
noncomputable def kIx2 (x:Hd) (k:RV) (ρ:Env):Res RV:=done (ixO (x.get ρ) k.d) ρ
noncomputable def kIx1 (P:Pins) (C:Calls) (i:E) (x:Hd) (ρ:Env):Res RV:=(ev P C false i ρ).bind (kIx2 x)
theorem kIx2_ {x:Hd} {k:RV}:kIx2 x k ρ=done (ixO (x.get ρ) k.d) ρ:=rfl
theorem kIx1_ {i:E} {x:Hd}:kIx1 P C i x ρ=(ev P C false i ρ).bind (kIx2 x):=rfl
theorem ev_ix {a i:E}:ev P C t (.ix a i) ρ=wrap t ((opd P C a ρ).bind (kIx1 P C i)):=rfl
theorem ixO_l {ds:List D} {i:Int} {d:D} (h:L2.atI ds i=some d):ixO (some (.lst ds)) (.int i)=some (.sh d):=by
 show (L2.atI ds i).map RV.sh=_
 rw [h]; rfl
theorem ixO_tI {ds:List D} {i:Int}:ixO (some (.tup ds)) (.int i)=(L2.atI ds i).map RV.sh:=rfl
theorem ixO_lI {ds:List D} {i:Int}:ixO (some (.lst ds)) (.int i)=(L2.atI ds i).map RV.sh:=rfl
theorem at_nat {α:Type} {xs:List α} {n:Nat}:L2.atI xs (OfNat.ofNat n)=xs[n]?:=by
 show L2.atI xs ((n:Nat):Int)=_
 cases h:xs[n]? with
 | some v=>exact L2.atI_nat h
 | none =>
  unfold L2.atI L2.ixN
  have:=List.getElem?_eq_none_iff.mp h
  rw [if_pos (by omega),if_neg (by omega)]
  rfl
theorem at_0 {α:Type} {xs:List α}:L2.atI xs 0=xs[0]?:=at_nat (n:=0)
theorem at_1 {α:Type} {xs:List α}:L2.atI xs 1=xs[1]?:=at_nat (n:=1)
theorem at_2 {α:Type} {xs:List α}:L2.atI xs 2=xs[2]?:=at_nat (n:=2)
theorem ixl_0 {a:D} {l:List D}:ixO (some (.lst (a :: l))) (.int 0)=some (.sh a):=ixO_l (by rw [at_0]; rfl)
noncomputable def slO (a l h:Option D):Option RV:=a.bind fun d=>(partD l).bind fun l=>(partD h).bind fun h=>slD d l h
noncomputable def kSl3 (x:Hd) (l h:Option D) (ρ:Env):Res RV:=done (slO (x.get ρ) l h) ρ
noncomputable def prt (P:Pins) (C:Calls) (e:E) (ρ:Env):Res (Option D):=part e (ev P C false e ρ) ρ
noncomputable def kSl2 (P:Pins) (C:Calls) (hi:E) (x:Hd) (l:Option D) (ρ:Env):Res RV:=(prt P C hi ρ).bind (kSl3 x l)
noncomputable def kSl1 (P:Pins) (C:Calls) (lo hi:E) (x:Hd) (ρ:Env):Res RV:=(prt P C lo ρ).bind (kSl2 P C hi x)
theorem kSl3_ {x:Hd} {l h:Option D}:kSl3 x l h ρ=done (slO (x.get ρ) l h) ρ:=rfl
theorem kSl2_ {hi:E} {x:Hd} {l:Option D}:kSl2 P C hi x l ρ=(prt P C hi ρ).bind (kSl3 x l):=rfl
theorem kSl1_ {lo hi:E} {x:Hd}:kSl1 P C lo hi x ρ=(prt P C lo ρ).bind (kSl2 P C hi x):=rfl
theorem prt_omt:prt P C .omt ρ=some (.ok none,ρ):=rfl
noncomputable def kPart (v:RV) (ρ:Env):Res (Option D):=some (.ok (some v.d),ρ)
theorem kPart_ {v:RV}:kPart v ρ=some (.ok (some v.d),ρ):=rfl
theorem prt_con {d:D}:prt P C (.con d) ρ=some (.ok (some d),ρ):=rfl
theorem prt_var {i:Nat}:prt P C (.var i) ρ=(ev P C false (.var i) ρ).bind kPart:=rfl
theorem prt_bin {op:Operator} {a b:E}:prt P C (.bin op a b) ρ=(ev P C false (.bin op a b) ρ).bind kPart:=rfl
theorem ev_sl {a lo hi:E}:ev P C t (.sl a lo hi) ρ=wrap t ((opd P C a ρ).bind (kSl1 P C lo hi)):=rfl
noncomputable def kCall (P:Pins) (C:Calls) (f:String) (hs:List Hd) (ρ:Env):Res RV:=doCall (P f) (C f) hs ρ
theorem kCall_ {f:String} {hs:List Hd}:kCall P C f hs ρ=doCall (P f) (C f) hs ρ:=rfl
theorem ev_call {f:String} {es:List E}:ev P C t (.call f es) ρ=wrap t ((evHs P C es ρ).bind (kCall P C f)):=rfl
noncomputable def kCl2 (pins:List Bool) (hs:List Hd) (ρ ρ1:Env):Res RV→Res RV
 | none=>none
 | some (o,as')=>(giveBack pins hs as' ρ ρ1).map fun ρ'=>(o,ρ')
noncomputable def kCl1 (pins:List Bool) (f:List Sl→Res RV) (hs:List Hd) (ρ:Env):Option (List Sl × Env)→Res RV
 | none=>none
 | some (as,ρ1)=>kCl2 pins hs ρ ρ1 (f as)
theorem doCall_ {pins:List Bool} {f:List Sl→Res RV} {hs:List Hd}:doCall pins f hs ρ=kCl1 pins f hs ρ (lend pins hs ρ):=rfl
theorem kCl1_ {pins:List Bool} {f:List Sl→Res RV} {hs:List Hd} {as:List Sl}:kCl1 pins f hs ρ (some (as,ρ1))=kCl2 pins hs ρ ρ1 (f as):=rfl
noncomputable def kCl3 (o:Out RV) (x:Option Env):Res RV:=x.map fun ρ'=>(o,ρ')
theorem kCl3_ {o:Out RV}:kCl3 o (some ρ)=some (o,ρ):=rfl
theorem kCl2_ {pins:List Bool} {hs:List Hd} {o:Out RV} {as':List Sl}:kCl2 pins hs ρ ρ1 (some (o,as'))=kCl3 o (giveBack pins hs as' ρ ρ1):=rfl
noncomputable def kLd (a:Sl) (o:Option (List Sl × Env)):Option (List Sl × Env):=o.map fun (as,ρ')=>(a :: as,ρ')
theorem kLd_ {a:Sl} {as:List Sl}:kLd a (some (as,ρ))=some (a :: as,ρ):=rfl
theorem ld_nil:lend [] [] ρ=some ([],ρ):=rfl
theorem ld_sh {p:Bool} {ps:List Bool} {d:D} {r:List Hd}:lend (p :: ps) (.val (.sh d) :: r) ρ=kLd (.sh d) (lend ps r ρ):=rfl
theorem ld_owT {ps:List Bool} {d:D} {r:List Hd}:lend (true :: ps) (.val (.ow d) :: r) ρ=kLd (.ow d true false) (lend ps r ρ):=rfl
theorem ld_owF {ps:List Bool} {d:D} {r:List Hd}:lend (false :: ps) (.val (.ow d) :: r) ρ=kLd (.sh d) (lend ps r ρ):=rfl
noncomputable def kLs (p:Bool) (ps:List Bool) (i:Nat) (r:List Hd) (ρ:Env):Option Sl→Option (List Sl × Env)
 | some (.sh d)=>kLd (.sh d) (lend ps r ρ)
 | some (.ow d pin lk)=>match p with
  | true=>kLd (.ow d true lk) (lend ps r (ρ.set i .un))
  | false=>if pin || lk then none else kLd (.sh d) (lend ps r (ρ.set i (.sh d)))
 | _=>none
theorem ld_slot {p:Bool} {ps:List Bool} {i:Nat} {r:List Hd}:lend (p :: ps) (.slot i :: r) ρ=kLs p ps i r ρ ρ[i]?:=rfl
theorem kLs_sh {p:Bool} {ps:List Bool} {i:Nat} {r:List Hd} {d:D}:kLs p ps i r ρ (some (.sh d))=kLd (.sh d) (lend ps r ρ):=rfl
theorem kLs_owT {ps:List Bool} {i:Nat} {r:List Hd} {d:D} {pin lk:Bool}:kLs true ps i r ρ (some (.ow d pin lk))=kLd (.ow d true lk) (lend ps r (ρ.set i .un)):=rfl
theorem kLs_owF {ps:List Bool} {i:Nat} {r:List Hd} {d:D}:kLs false ps i r ρ (some (.ow d false false))=kLd (.sh d) (lend ps r (ρ.set i (.sh d))):=rfl
theorem gb_nil {ρ0:Env}:giveBack [] [] [] ρ0 ρ=some ρ:=rfl
theorem gb_f {ps:List Bool} {i:Nat} {hs:List Hd} {a:Sl} {as:List Sl} {ρ0:Env}:giveBack (false :: ps) (.slot i :: hs) (a :: as) ρ0 ρ=giveBack ps hs as ρ0 ρ:=rfl
theorem gb_fv {ps:List Bool} {v:RV} {hs:List Hd} {a:Sl} {as:List Sl} {ρ0:Env}:giveBack (false :: ps) (.val v :: hs) (a :: as) ρ0 ρ=giveBack ps hs as ρ0 ρ:=rfl
theorem gb_val {ps:List Bool} {v:RV} {hs:List Hd} {a:Sl} {as:List Sl} {ρ0:Env}:giveBack (true :: ps) (.val v :: hs) (a :: as) ρ0 ρ=giveBack ps hs as ρ0 ρ:=rfl
noncomputable def kGb (ps:List Bool) (i:Nat) (hs:List Hd) (a:Sl) (as:List Sl) (ρ0 ρ:Env) (o:Option Sl):Option Env :=
  match o,a with
  | some (.ow _ pin lk),.ow d _ _=>giveBack ps hs as ρ0 (ρ.set i (.ow d pin lk))
  | some (.ow _ _ _),_=>none
  | _,_=>giveBack ps hs as ρ0 ρ
theorem gb_slot {ps:List Bool} {i:Nat} {hs:List Hd} {a:Sl} {as:List Sl} {ρ0:Env}:giveBack (true :: ps) (.slot i :: hs) (a :: as) ρ0 ρ=kGb ps i hs a as ρ0 ρ ρ0[i]?:=rfl
theorem kGb_ow {ps:List Bool} {i:Nat} {hs:List Hd} {as:List Sl} {ρ0:Env} {d d':D} {p l p' l':Bool}:kGb ps i hs (.ow d p l) as ρ0 ρ (some (.ow d' p' l'))=giveBack ps hs as ρ0 (ρ.set i (.ow d p' l')):=rfl
theorem kGb_sh {ps:List Bool} {i:Nat} {hs:List Hd} {a:Sl} {as:List Sl} {ρ0:Env} {d:D}:kGb ps i hs a as ρ0 ρ (some (.sh d))=giveBack ps hs as ρ0 ρ:=rfl
noncomputable def kBif (f:BI) (hs:List Hd) (ρ:Env):Res RV:=done ((getAll hs ρ).bind (biD f)) ρ
theorem kBif_ {f:BI} {hs:List Hd}:kBif f hs ρ=done ((getAll hs ρ).bind (biD f)) ρ:=rfl
theorem ev_bif {f:BI} {es:List E}:ev P C t (.bif f es) ρ=wrap t ((evHs P C es ρ).bind (kBif f)):=rfl
theorem ga_nil:getAll [] ρ=some []:=rfl
noncomputable def gaC (a:Option D) (b:Option (List D)):Option (List D):=a.bind fun d=>b.map (d :: ·)
theorem gaC_ {d:D} {ds:List D}:gaC (some d) (some ds)=some (d :: ds):=rfl
theorem ga_cons {h:Hd} {r:List Hd}:getAll (h :: r) ρ=gaC (h.get ρ) (getAll r ρ):=rfl
theorem f_lenL {ds:List D}:biD .len [.lst ds]=some (.sh (.int ds.length)):=rfl
theorem f_lenT {ds:List D}:biD .len [.tup ds]=some (.sh (.int ds.length)):=rfl
theorem f_intB {b:Bool}:biD .int [.bl b]=some (.sh (.int (if b then 1 else 0))):=rfl
theorem f_tupL {ds:List D}:biD .tuple [.lst ds]=some (.sh (.tup ds)):=rfl
noncomputable def isiO (ts:List Ty):Option D→Option RV
 | some d=>(isTys ts d).map fun b=>.sh (.bl b)
 | none=>none
noncomputable def kIsi (ts:List Ty) (x:Hd) (ρ:Env):Res RV:=done (isiO ts (x.get ρ)) ρ
theorem kIsi_ {ts:List Ty} {x:Hd}:kIsi ts x ρ=done (isiO ts (x.get ρ)) ρ:=rfl
theorem ev_isi {a:E} {ts:List Ty}:ev P C t (.isi a ts) ρ=wrap t ((opd P C a ρ).bind (kIsi ts)):=by
 rw [ev]
 show wrap t ((opd P C a ρ).bind _)=_
 congr 2
 funext x ρ1
 unfold kIsi
 cases x.get ρ1 <;> rfl
theorem io_int_non:isiO [.int] (some (.non))=some (.sh (.bl false)):=rfl
theorem io_int_bl {b:Bool}:isiO [.int] (some (.bl b))=some (.sh (.bl true)):=rfl
theorem io_int_int {i:Int}:isiO [.int] (some (.int i))=some (.sh (.bl true)):=rfl
theorem io_int_str {x:PySem.Str}:isiO [.int] (some (.str x))=some (.sh (.bl false)):=rfl
theorem io_int_tup {ds:List D}:isiO [.int] (some (.tup ds))=some (.sh (.bl false)):=rfl
theorem io_int_lst {ds:List D}:isiO [.int] (some (.lst ds))=some (.sh (.bl false)):=rfl
theorem io_bool_non:isiO [.bool] (some (.non))=some (.sh (.bl false)):=rfl
theorem io_bool_bl {b:Bool}:isiO [.bool] (some (.bl b))=some (.sh (.bl true)):=rfl
theorem io_bool_int {i:Int}:isiO [.bool] (some (.int i))=some (.sh (.bl false)):=rfl
theorem io_bool_str {x:PySem.Str}:isiO [.bool] (some (.str x))=some (.sh (.bl false)):=rfl
theorem io_bool_tup {ds:List D}:isiO [.bool] (some (.tup ds))=some (.sh (.bl false)):=rfl
theorem io_bool_lst {ds:List D}:isiO [.bool] (some (.lst ds))=some (.sh (.bl false)):=rfl
theorem io_str_non:isiO [.str] (some (.non))=some (.sh (.bl false)):=rfl
theorem io_str_bl {b:Bool}:isiO [.str] (some (.bl b))=some (.sh (.bl false)):=rfl
theorem io_str_int {i:Int}:isiO [.str] (some (.int i))=some (.sh (.bl false)):=rfl
theorem io_str_str {x:PySem.Str}:isiO [.str] (some (.str x))=some (.sh (.bl true)):=rfl
theorem io_str_tup {ds:List D}:isiO [.str] (some (.tup ds))=some (.sh (.bl false)):=rfl
theorem io_str_lst {ds:List D}:isiO [.str] (some (.lst ds))=some (.sh (.bl false)):=rfl
theorem io_tuple_bl {b:Bool}:isiO [.tuple] (some (.bl b))=some (.sh (.bl false)):=rfl
theorem io_tuple_int {i:Int}:isiO [.tuple] (some (.int i))=some (.sh (.bl false)):=rfl
theorem io_tuple_str {x:PySem.Str}:isiO [.tuple] (some (.str x))=some (.sh (.bl false)):=rfl
theorem io_tuple_tup {ds:List D}:isiO [.tuple] (some (.tup ds))=some (.sh (.bl true)):=rfl
noncomputable def kApp (i:Nat) (d:D) (ρ:Env) (o:Option Sl):Res RV:=match o with
 | some (.ow (.lst ds) p false)=>if smallL (ds.length+1) then some (.ok (.sh .non),ρ.set i (.ow (.lst (ds ++ [d])) p false)) else none
 | _=>none
noncomputable def kApp1 (i:Nat) (v:RV) (ρ:Env):Res RV:=kApp i v.d ρ ρ[i]?
theorem kApp1_ {i:Nat} {v:RV}:kApp1 i v ρ=kApp i v.d ρ ρ[i]?:=rfl
theorem kApp_ {i:Nat} {d:D} {ds:List D} {p:Bool}:kApp i d ρ (some (.ow (.lst ds) p false))=kSm (smallL (ds.length+1)) (.sh .non) (ρ.set i (.ow (.lst (ds ++ [d])) p false)):=rfl
noncomputable def kIf0 (r:Res RV) (b:Bool):Res RV:=if b then r else none
theorem kIf0_t {r:Res RV}:kIf0 r true=r:=rfl
theorem ev_app {i:Nat} {a:E}:ev P C t (.app i a) ρ=wrap t (kIf0 ((ev P C false a ρ).bind (kApp1 i)) (isOw ρ i)):=rfl
noncomputable def isOwO:Option Sl→Bool
 | some (.ow (.lst _) _ _)=>true
 | _=>false
theorem isOw_:isOw ρ i=isOwO ρ[i]?:=rfl
theorem isOwO_ow {ds:List D} {p l:Bool}:isOwO (some (.ow (.lst ds) p l))=true:=rfl
noncomputable def kAsg (i:Nat) (v:RV) (ρ:Env):Run:=goOn (store i v ρ)
theorem kAsg_ {i:Nat} {v:RV}:kAsg i v ρ=goOn (store i v ρ):=rfl
theorem ex_asg {i:Nat} {e:E}:ex P C W (.asg i e) ρ=(ev P C false e ρ).flow (kAsg i):=rfl
noncomputable def stO (i:Nat) (v:RV) (ρ:Env) (o:Option Sl):Option Env:=match o with
 | none=>none
 | some (.ow _ true _)=>none
 | some (.ow _ _ true)=>none
 | some _=>match v with
  | .sh d=>some (ρ.set i (.sh d))
  | .ow d=>some (ρ.set i (.ow d false false))
  | .od _=>none
theorem st_ {i:Nat} {v:RV}:store i v ρ=stO i v ρ ρ[i]?:=rfl
theorem stO_unS {i:Nat} {d:D}:stO i (.sh d) ρ (some .un)=some (ρ.set i (.sh d)):=rfl
theorem stO_unO {i:Nat} {d:D}:stO i (.ow d) ρ (some .un)=some (ρ.set i (.ow d false false)):=rfl
theorem stO_shS {i:Nat} {d d':D}:stO i (.sh d) ρ (some (.sh d'))=some (ρ.set i (.sh d)):=rfl
noncomputable def okS:Sl→Bool
 | .un=>true
 | .mv=>true
 | .sh _=>true
 | .ow _ false false=>true
 | _=>false
theorem stO_okS {i:Nat} {d:D} {s:Sl} (h:okS s=true):stO i (.sh d) ρ (some s)=some (ρ.set i (.sh d)):=by
 cases s with
 | ow d p l=>cases p <;> cases l <;> first | rfl | cases h
 | _=>rfl
theorem okS_un:okS .un=true:=rfl
theorem okS_sh {d:D}:okS (.sh d)=true:=rfl
noncomputable def kAsgT (is:List Nat) (v:RV) (ρ:Env):Run:=goOn (bindT false is v.d ρ)
theorem kAsgT_ {is:List Nat} {v:RV}:kAsgT is v ρ=goOn (bindT false is v.d ρ):=rfl
theorem ex_asgT {is:List Nat} {e:E}:ex P C W (.asgT is e) ρ=(ev P C false e ρ).flow (kAsgT is):=rfl
theorem bt_one {i:Nat} {d:D}:bindT true [i] d ρ=store i (.sh d) ρ:=rfl
theorem bt_many {i:Nat} {is:List Nat} {ds:List D}:bindT false (i :: is) (.tup ds) ρ=stores (i :: is) ds ρ:=rfl
theorem ss_nil:stores [] [] ρ=some ρ:=rfl
noncomputable def kSs (is:List Nat) (ds:List D) (o:Option Env):Option Env:=o.bind (stores is ds)
theorem ss_cons {i:Nat} {is:List Nat} {d:D} {ds:List D}:stores (i :: is) (d :: ds) ρ=kSs is ds (store i (.sh d) ρ):=rfl
theorem kSs_ {is:List Nat} {ds:List D}:kSs is ds (some ρ)=stores is ds ρ:=rfl
noncomputable def setO (i:Nat) (v:D) (ρ:Env):Option Sl→D→Run
 | some (.ow (.lst ds) p false),.int n=>goOn ((L2.ixN ds.length n).map fun m=>ρ.set i (.ow (.lst (ds.set m v)) p false))
 | _,_=>none
noncomputable def kSet2 (i:Nat) (v:RV) (j:RV) (ρ:Env):Run:=setO i v.d ρ ρ[i]? j.d
noncomputable def kIf1 (r:Run) (b:Bool):Run:=if b then r else none
noncomputable def putO (i:Nat) (v j:RV) (ρ:Env):Option Sl→Run
 | o=>match o,j,v with
  | some (.ow (.dct kvs) p false),.sh (.int n),.sh (.int m)=>if smallL (kvs.length+1) then some (.nx,ρ.set i (.ow (.dct (putI kvs n m)) p false)) else none
  | _,_,_=>none
noncomputable def kPut2 (i:Nat) (v:RV) (j:RV) (ρ:Env):Run:=putO i v j ρ ρ[i]?
theorem kPut2_ {i:Nat} {v j:RV}:kPut2 i v j ρ=putO i v j ρ ρ[i]?:=rfl
noncomputable def isDcO:Option Sl→Bool
 | some (.ow (.dct _) _ _)=>true
 | _=>false
theorem isDc_ {i:Nat}:isDc ρ i=isDcO ρ[i]?:=rfl
noncomputable def kIf2 (r r':Run) (b:Bool):Run:=if b then r else r'
theorem kIf2_t {r r':Run}:kIf2 r r' true=r:=rfl
noncomputable def kPS (i:Nat) (v:RV) (j:RV) (ρ:Env):Run:=setS i ρ ρ[i]? (skey j.d) v
theorem kPS_ {i:Nat} {v j:RV}:kPS i v j ρ=setS i ρ ρ[i]? (skey j.d) v:=rfl
noncomputable def isDsO:Option Sl→Bool
 | some (.ow (.dcs _) _ _)=>true
 | _=>false
theorem isDs_ {i:Nat}:isDs ρ i=isDsO ρ[i]?:=rfl
noncomputable def kPutS (P:Pins) (C:Calls) (i:Nat) (k:E) (v:RV) (ρ:Env):Run:=kIf1 ((ev P C false k ρ).flow (kPS i v)) (isDs ρ i)
theorem kPutS_ {i:Nat} {k:E} {v:RV}:kPutS P C i k v ρ=kIf1 ((ev P C false k ρ).flow (kPS i v)) (isDs ρ i):=rfl
noncomputable def kSet1 (P:Pins) (C:Calls) (i:Nat) (k:E) (v:RV) (ρ:Env):Run:=kIf2 ((ev P C false k ρ).flow (kSet2 i v)) (kPutS P C i k v ρ) (isOw ρ i)
theorem kSet2_ {i:Nat} {v j:RV}:kSet2 i v j ρ=setO i v.d ρ ρ[i]? j.d:=rfl
theorem kSet1_ {i:Nat} {k:E} {v:RV}:kSet1 P C i k v ρ=kIf2 ((ev P C false k ρ).flow (kSet2 i v)) (kPutS P C i k v ρ) (isOw ρ i):=rfl
theorem ex_set {i:Nat} {k e:E}:ex P C W (.set i k e) ρ=(ev P C false e ρ).flow (kSet1 P C i k):=rfl
theorem ixN_1 {n:Nat}:L2.ixN (n+2) 1=some 1:=by unfold L2.ixN; rw [if_pos (by omega),if_pos (by omega)]; rfl
theorem setO_1 {i:Nat} {v a b:D} {ds:List D} {p:Bool}:setO i v ρ (some (.ow (.lst (a :: b :: ds)) p false)) (.int 1)=some (.nx,ρ.set i (.ow (.lst (a :: v :: ds)) p false)):=by
 show goOn ((L2.ixN (ds.length+2) 1).map _)=_
 rw [ixN_1]; rfl
theorem setO_ {i:Nat} {v:D} {ds:List D} {p:Bool} {n:Int} {m:Nat} (h:L2.ixN ds.length n=some m):setO i v ρ (some (.ow (.lst ds) p false)) (.int n)=some (.nx,ρ.set i (.ow (.lst (ds.set m v)) p false)):=by
 show goOn ((L2.ixN ds.length n).map _)=_
 rw [h]; rfl
noncomputable def kDrop (v:RV) (ρ:Env):Run:=some (.nx,ρ)
theorem kDrop_ {v:RV}:kDrop v ρ=some (.nx,ρ):=rfl
theorem ex_expr {e:E}:ex P C W (.expr e) ρ=(ev P C false e ρ).flow kDrop:=rfl
noncomputable def retO (i:Nat) (ρ:Env):Option Sl→Run
 | some (.ow d false _)=>some (.rt (.ow d),ρ.set i .mv)
 | some (.sh d)=>some (.rt (.sh d),ρ)
 | _=>none
theorem retO_sh {i:Nat} {d:D}:retO i ρ (some (.sh d))=some (.rt (.sh d),ρ):=rfl
noncomputable def kRet (v:RV) (ρ:Env):Run:=some (.rt v,ρ)
theorem kRet_ {v:RV}:kRet v ρ=some (.rt v,ρ):=rfl
theorem ex_retV {i:Nat}:ex P C W (.ret (.var i)) ρ=retO i ρ ρ[i]?:=rfl
theorem er_con {d:D}:ex P C W (.ret (.con d)) ρ=(ev P C false (.con d) ρ).flow kRet:=rfl
theorem er_tup {es:List E}:ex P C W (.ret (.tup es)) ρ=(ev P C false (.tup es) ρ).flow kRet:=rfl
theorem er_lst {es:List E}:ex P C W (.ret (.lst es)) ρ=(ev P C false (.lst es) ρ).flow kRet:=rfl
theorem er_bin {op:Operator} {a b:E}:ex P C W (.ret (.bin op a b)) ρ=(ev P C false (.bin op a b) ρ).flow kRet:=rfl
theorem er_cmp {op:CmpOp} {a b:E}:ex P C W (.ret (.cmp op a b)) ρ=(ev P C false (.cmp op a b) ρ).flow kRet:=rfl
theorem er_and {a b:E}:ex P C W (.ret (.and a b)) ρ=(ev P C false (.and a b) ρ).flow kRet:=rfl
theorem er_ite {a b c:E}:ex P C W (.ret (.ite a b c)) ρ=(ev P C false (.ite a b c) ρ).flow kRet:=rfl
theorem er_call {f:String} {es:List E}:ex P C W (.ret (.call f es)) ρ=(ev P C false (.call f es) ρ).flow kRet:=rfl
theorem er_bif {f:BI} {es:List E}:ex P C W (.ret (.bif f es)) ρ=(ev P C false (.bif f es) ρ).flow kRet:=rfl
theorem er_comp {elt:E} {tg:List Nat} {k:ItK} {its cond:List E} {imp:List Nat} {nl:Nat}:ex P C W (.ret (.comp elt tg k its cond imp nl)) ρ=(ev P C false (.comp elt tg k its cond imp nl) ρ).flow kRet:=rfl
noncomputable def kIf (P:Pins) (C:Calls) (W:Nat) (a b:List S) (v:RV) (ρ:Env):Run:=match v with
 | .sh (.bl true)=>exs P C W a ρ
 | .sh (.bl false)=>exs P C W b ρ
 | _=>none
theorem kIf_b {a b:List S} {x:Bool}:kIf P C W a b (.sh (.bl x)) ρ=if x=true then exs P C W a ρ else exs P C W b ρ:=by cases x <;> rfl
theorem ex_ifs {c:E} {a b:List S}:ex P C W (.ifs c a b) ρ=(ev P C true c ρ).flow (kIf P C W a b):=rfl
noncomputable def forO (P:Pins) (C:Calls) (W:Nat) (tg:List Nat) (one:Bool) (body:List S) (ρ:Env):Option (List D × Option Nat)→Run
 | none=>none
 | some (ds,o)=>(loopF (bindT one tg) (exs P C W body) ds (takeOut o ρ)).restore o ρ
theorem forO_ {tg:List Nat} {one:Bool} {body:List S} {ds:List D} {o:Option Nat}:forO P C W tg one body ρ (some (ds,o))=(loopF (bindT one tg) (exs P C W body) ds (takeOut o ρ)).restore o ρ:=rfl
noncomputable def kFor (P:Pins) (C:Calls) (W:Nat) (tg:List Nat) (one:Bool) (k:ItK) (body:List S) (hs:List Hd) (ρ:Env):Run:=forO P C W tg one body ρ (itemsOf k hs ρ)
theorem kFor_ {tg:List Nat} {one:Bool} {k:ItK} {body:List S} {hs:List Hd}:kFor P C W tg one k body hs ρ=forO P C W tg one body ρ (itemsOf k hs ρ):=rfl
theorem ex_for {tg:List Nat} {one:Bool} {k:ItK} {its:List E} {body:List S}:ex P C W (.for tg one k its body) ρ=(evHs P C its ρ).flow (kFor P C W tg one k body):=rfl
theorem exs_nil:exs P C W [] ρ=some (.nx,ρ):=rfl
theorem exs_cons {s:S} {r:List S}:exs P C W (s :: r) ρ=(ex P C W s ρ).next (exs P C W r):=rfl
theorem rs_none {r:Run} {ρ0:Env}:r.restore none ρ0=r:=by cases r with | none=>rfl | some y=>obtain ⟨fl,ρ⟩:=y; rfl
theorem to_none:takeOut none ρ=ρ:=rfl
theorem it_r1 {a:Hd} {n:Int} (h:a.get ρ=some (.int n)) (h1:-1000000≤n) (h2:n≤1000000):itemsOf .rng [a] ρ=some ((List.range n.toNat).map fun (j:Nat)=>.int (j:Int),none):=by
 simp only [itemsOf,h]; exact if_pos ⟨h1,h2⟩
theorem it_lv {v:RV} {ds:List D} (h:v.d=.lst ds):itemsOf .of [.val v] ρ=some (ds,none):=by simp only [itemsOf,h]
theorem it_tv {v:RV} {ds:List D} (h:v.d=.tup ds):itemsOf .of [.val v] ρ=some (ds,none):=by simp only [itemsOf,h]
theorem it_ls {i:Nat} {ds:List D} (h:ρ[i]?=some (.sh (.lst ds))):itemsOf .of [.slot i] ρ=some (ds,none):=by simp only [itemsOf,h]
theorem it_ts {i:Nat} {ds:List D} (h:ρ[i]?=some (.sh (.tup ds))):itemsOf .of [.slot i] ρ=some (ds,none):=by simp only [itemsOf,h]
theorem loopF_inv {bind:D→Env→Option Env} {body:Env→Run} (I:Env→Prop) {ds:List D} (h:∀ d∈ds,∀ ρ,I ρ→∃ ρ1,bind d ρ=some ρ1∧∃ ρ2,body ρ1=some (.nx,ρ2)∧I ρ2):∀ {ρ:Env},I ρ→∃ ρ',loopF bind body ds ρ=some (.nx,ρ')∧I ρ':=by
 induction ds with
 | nil=>exact fun hρ=>⟨_,rfl,hρ⟩
 | cons d ds ih =>
  intro ρ hρ
  obtain ⟨ρ1,e1,ρ2,e2,h2⟩:=h d (by simp) ρ hρ
  obtain ⟨ρ',e3,h3⟩:=ih (fun d' hd'=>h d' (by simp [hd'])) h2
  exact ⟨ρ',by simp only [loopF,e1,e2,e3],h3⟩
theorem loopF_inv' {bind:D→Env→Option Env} {body:Env→Run} (I:List D→Env→Prop) {ds:List D} (h:∀ pre d post,ds=pre ++ d :: post→∀ ρ,I pre ρ→∃ ρ1,bind d ρ=some ρ1∧∃ ρ2,body ρ1=some (.nx,ρ2)∧I (pre ++ [d]) ρ2) {ρ:Env} (h0:I [] ρ):∃ ρ',loopF bind body ds ρ=some (.nx,ρ')∧I ds ρ':=by
 have key:∀ (post pre:List D) (ρ:Env),ds=pre ++ post→I pre ρ→∃ ρ',loopF bind body post ρ=some (.nx,ρ')∧I ds ρ':=by
  intro post
  induction post with
  | nil=>intro pre ρ e hp; rw [List.append_nil] at e; subst e; exact ⟨ρ,rfl,hp⟩
  | cons d post ih =>
   intro pre ρ e hp
   obtain ⟨ρ1,e1,ρ2,e2,h2⟩:=h pre d post e ρ hp
   obtain ⟨ρ',e3,h3⟩:=ih (pre ++ [d]) ρ2 (by rw [e]; simp) h2
   exact ⟨ρ',by simp only [loopF,e1,e2,e3],h3⟩
 exact key ds [] ρ rfl h0
noncomputable def kRun (as:List Sl):Run→Res RV
 | some (.nx,ρ)=>some (.ok (.sh .non),back as ρ)
 | some (.rt v,ρ)=>some (.ok v,back as ρ)
 | _=>none
theorem kRun_nx {as:List Sl}:kRun as (some (.nx,ρ))=some (.ok (.sh .non),back as ρ):=rfl
theorem kRun_rt {as:List Sl} {v:RV}:kRun as (some (.rt v,ρ))=some (.ok v,back as ρ):=rfl
theorem run_ {T:Tab} {n:Nat} {f:String} {as:List Sl} {fn:Fn} (hT:T f=some fn) (h1:as.length=fn.pins.length) (h2:as.all pinOk=true) (h3:fn.rs=false:=by rfl):run T W (n+1) f as=kRun as (exs T.pins (run T W n) W fn.body (as ++ List.replicate fn.nl .un)):=by
 simp only [run,hT]
 rw [if_pos ⟨h1,h2⟩,h3]
 generalize exs T.pins (run T W n) W fn.body (as ++ List.replicate fn.nl .un)=r
 obtain _ | ⟨fl,ρ⟩:=r
 ·rfl
 ·cases fl <;> rfl
end
end CI
namespace CI
open PySem PySem.Spec PyProof.Rows L2
noncomputable def conOk:D→Value→Bool
 | .non,.none=>true
 | .bl a,.bool b=>a == b
 | .int i,.int j _=>i == j
 | .str x,.str y _=>x == y && PyData.strOk x
 | _,_=>false
noncomputable def conOks:List D→List Value→Bool
 | [],[]=>true
 | d :: ds,v :: vs=>conOk d v && conOks ds vs
 | _,_=>false
theorem conOk_ok {K:PySem.W.Frag} {d:D} {u:Value} (h:conOk d u=true):∃ v,RelV v u∧∀ G,Rep K G d v:=by
 cases d <;> cases u <;> simp only [conOk,Bool.false_eq_true] at h
 ·exact ⟨.non,rfl,fun G=>by simp [Rep]⟩
 ·exact ⟨.bl _,rfl,fun G=>by simp [Rep,eq_of_beq h]⟩
 ·rename_i i j t
  exact ⟨.int i,⟨t,by rw [eq_of_beq h]⟩,fun G=>by simp [Rep]⟩
 ·rename_i x y t
  rw [Bool.and_eq_true] at h
  exact ⟨.str x,⟨t,by rw [eq_of_beq h.1]⟩,fun G=>by simp [Rep,h.2]⟩
theorem conOks_ok {K:PySem.W.Frag}:∀ {ds:List D} {us:List Value},conOks ds us=true→∃ vs,Vals vs us∧∀ G,Reps K G ds vs
 | [],[],_=>⟨[],.nil,fun G=>Reps.nil⟩
 | d :: ds,u :: us,h=>by
  simp only [conOks,Bool.and_eq_true] at h
  obtain ⟨v,h1,h2⟩:=conOk_ok (K:=K) h.1
  obtain ⟨vs,h3,h4⟩:=conOks_ok (K:=K) h.2
  exact ⟨v :: vs,.cons h1 h3,fun G=>Reps.cons (h2 G) (h4 G)⟩
 | [],_ :: _,h=>by simp [conOks] at h
 | _ :: _,[],h=>by simp [conOks] at h
theorem con_tup {K:PySem.W.Frag} {mg:Str→Option Value} {h:Heap} {T:Tab} {gl:Str→GV} {x:Str} {a:Addr} {its:Array Value} {n:Nat} {dd:Option Addr} {sl} {ds:List D} (X:K.In h) (G:h.Ns mainGlobals mg)
  (ha:PySem.W.nsIn K mainGlobals x=some (some (.ref a))) (hl:K.lookup a=some ⟨.type "tuple",dd,.seq its n,sl⟩) (hc:conOks ds its.toList=true) (hz:decide (its.size≤1000)=true):GlAt K mg T gl (x,.con (.tup ds)):=by
 obtain ⟨vs,h1,h2⟩:=conOks_ok (K:=K) hc
 refine ⟨_,.ref a,PySem.W.mg_of X G ha,rfl,fun G=>?_⟩
 simp only [Rep]
 exact ⟨a,vs,rfl,.inr ⟨_,its,n,hl,rfl,rfl,Nat.le_trans (of_decide_eq_true hz) (by decide),h1⟩,h2 G⟩
noncomputable section
variable {P:Pins} {C:Calls} {t:Bool} {ρ ρ1:Env}
noncomputable def kComp (P:Pins) (C:Calls) (elt:E) (tg:List Nat) (k:ItK) (cond:List E) (imp:List Nat) (nl:Nat) (hs:List Hd) (ρ1:Env):Res RV :=
 match itemsOf k hs ρ1 with
 | none=>none
 | some (ds,o)=>(doCall (imp.map fun _=>true) (compF (evTs P C cond) (ev P C false elt) (bindT (tg.length == 1) tg) ds nl) (imp.map Hd.slot) (takeOut o ρ1)).bind (giveOut o ρ1)
theorem ev_comp {elt:E} {tg:List Nat} {k:ItK} {its cond:List E} {imp:List Nat} {nl:Nat}:ev P C t (.comp elt tg k its cond imp nl) ρ=wrap t ((evHs P C its ρ).bind (kComp P C elt tg k cond imp nl)):=rfl
theorem kComp_n {elt:E} {tg:List Nat} {k:ItK} {cond:List E} {imp:List Nat} {nl:Nat} {hs:List Hd} {ds:List D} (h:itemsOf k hs ρ1=some (ds,none)) :
  kComp P C elt tg k cond imp nl hs ρ1=(doCall (imp.map fun _=>true) (compF (evTs P C cond) (ev P C false elt) (bindT (tg.length == 1) tg) ds nl) (imp.map Hd.slot) ρ1).bind (giveOut none ρ1):=by
 unfold kComp; rw [h]; rfl
theorem giveOut_n {v:RV} {ρ2:Env}:giveOut none ρ1 v ρ2=some (.ok v,ρ2):=rfl
noncomputable def kCmpF (as:List Sl) (acc:List D) (ρi:Env):Res RV:=if smallL acc.length then some (.ok (.ow (.lst acc)),back as ρi) else none
theorem compF_ {tests elt:Env→Res RV} {bind:D→Env→Option Env} {ds:List D} {nl:Nat} {as:List Sl} (h:as.all pinOk=true):compF tests elt bind ds nl as=(compL tests elt bind ds [] (as ++ List.replicate nl .un)).bind (kCmpF as):=by
 unfold compF; rw [if_pos h]; rfl
theorem kCmpF_ {as:List Sl} {acc:List D} {ρi:Env} (h:smallL acc.length=true):kCmpF as acc ρi=some (.ok (.ow (.lst acc)),back as ρi):=by unfold kCmpF; rw [if_pos h]
theorem evTs_nil:evTs P C [] ρ=some (.ok (.sh (.bl true)),ρ):=rfl
noncomputable def kTs (P:Pins) (C:Calls) (es:List E) (v:RV) (ρ1:Env):Res RV:=match v with
 | .sh (.bl true)=>evTs P C es ρ1
 | .sh (.bl false)=>some (.ok (.sh (.bl false)),ρ1)
 | _=>none
theorem evTs_cons {e:E} {es:List E}:evTs P C (e :: es) ρ=(ev P C true e ρ).bind (kTs P C es):=rfl
theorem kTs_1 {b:Bool}:kTs P C [] (.sh (.bl b)) ρ1=some (.ok (.sh (.bl b)),ρ1):=by
 cases b
 ·rfl
 ·show evTs P C [] ρ1=_
  exact evTs_nil
theorem pinOk_sh {d:D}:pinOk (.sh d)=true:=rfl
theorem compL_inv {tests elt:Env→Res RV} {bind:D→Env→Option Env} {ds:List D} (I:Nat→List D→Env→Prop)
  (step:∀ (j:Nat) (d:D),ds[j]?=some d→∀ acc ρ,I j acc ρ→∃ ρ1 c ρ2,bind d ρ=some ρ1∧tests ρ1=some (.ok (.sh (.bl c)),ρ2)∧(c=true→∃ v ρ3,elt ρ2=some (.ok v,ρ3)∧I (j+1) (acc ++ [v.d]) ρ3)∧(c=false→I (j+1) acc ρ2)) :
  ∀ acc ρ,I 0 acc ρ→∃ acc' ρ',compL tests elt bind ds acc ρ=some (.ok acc',ρ')∧I ds.length acc' ρ'∧acc'.length≤acc.length+ds.length:=by
 have key:∀ (es:List D) (j:Nat),ds.drop j=es→∀ acc ρ,I j acc ρ→∃ acc' ρ',compL tests elt bind es acc ρ=some (.ok acc',ρ')∧I (j+es.length) acc' ρ'∧acc'.length≤acc.length+es.length:=by
  intro es
  induction es with
  | nil=>intro j _ acc ρ h; exact ⟨acc,ρ,rfl,h,by simp⟩
  | cons d es ih =>
   intro j hj acc ρ h
   have hd:ds[j]?=some d:=by
    have:(ds.drop j)[0]?=some d:=by rw [hj]; rfl
    simpa using this
   have hj':ds.drop (j+1)=es:=by
    have:(ds.drop j).drop 1=es:=by rw [hj]; rfl
    rw [List.drop_drop] at this
    exact this
   obtain ⟨ρ1,c,ρ2,h1,h2,h3,h4⟩:=step j d hd acc ρ h
   simp only [compL,h1,h2,Res.bind]
   cases c with
   | false =>
    obtain ⟨acc',ρ',e1,e2,e3⟩:=ih (j+1) hj' acc ρ2 (h4 rfl)
    refine ⟨acc',ρ',e1, ?_,by simp only [List.length_cons]; omega⟩
    have:j+(d :: es).length=j+1+es.length:=by simp only [List.length_cons]; omega
    rw [this]; exact e2
   | true =>
    obtain ⟨v,ρ3,h5,h6⟩:=h3 rfl
    obtain ⟨acc',ρ',e1,e2,e3⟩:=ih (j+1) hj' (acc ++ [v.d]) ρ3 h6
    simp only [h5]
    refine ⟨acc',ρ',e1, ?_,by simp only [List.length_append,List.length_cons,List.length_nil] at e3 ⊢; omega⟩
    have:j+(d :: es).length=j+1+es.length:=by simp only [List.length_cons]; omega
    rw [this]; exact e2
 intro acc ρ h
 have:=key ds 0 rfl acc ρ h
 simpa using this
theorem smallL_ {n:Nat} (h:n≤1000000):smallL n=true:=sm_le h
end
end CI
namespace CI
open PySem (Operator CmpOp Str)
noncomputable section
variable {P:Pins} {C:Calls} {W:Nat} {t:Bool} {ρ ρ1 ρ2:Env}
theorem opd_bitl {a:E}:opd P C (.bitl a) ρ=(ev P C false (.bitl a) ρ).bind kVal:=rfl
noncomputable def bitO (o:Option D):Option RV:=o.bind bitD
theorem bitO_ {i:Int}:bitO (some (.int i))=some (.sh (.int (PySem.Builtin.Int.intBits i))):=rfl
noncomputable def kBit (x:Hd) (ρ:Env):Res RV:=done (bitO (x.get ρ)) ρ
theorem kBit_ {x:Hd}:kBit x ρ=done (bitO (x.get ρ)) ρ:=rfl
theorem ev_bitl {a:E}:ev P C t (.bitl a) ρ=wrap t ((opd P C a ρ).bind kBit):=rfl
theorem opd_spl {x:PySem.Str} {i:Nat}:opd P C (.spl i x) ρ=(ev P C false (.spl i x) ρ).bind kVal:=rfl
noncomputable def joiO (x:PySem.Str) (o:Option D):Option RV:=o.bind (joinD x)
noncomputable def kJoi (x:PySem.Str) (h:Hd) (ρ:Env):Res RV:=done (joiO x (h.get ρ)) ρ
theorem kJoi_ {x:PySem.Str} {h:Hd}:kJoi x h ρ=done (joiO x (h.get ρ)) ρ:=rfl
theorem ev_joi {x:PySem.Str} {a:E}:ev P C t (.joi x a) ρ=wrap t ((opd P C a ρ).bind (kJoi x)):=rfl
theorem ev_spl {x:PySem.Str} {i:Nat}:ev P C t (.spl i x) ρ=wrap t (splO x ρ ρ[i]?):=rfl
theorem ev_stw {x:PySem.Str} {i:Nat}:ev P C t (.stw i x) ρ=wrap t (stwO x ρ ρ[i]?):=rfl
theorem stwO_ {x y:PySem.Str}:stwO x ρ (some (.sh (.str y)))=some (.ok (.sh (.bl (PySem.Txt.startswith y x))),ρ):=rfl
theorem er_joi {x:PySem.Str} {a:E}:ex P C W (.ret (.joi x a)) ρ=(ev P C false (.joi x a) ρ).flow kRet:=rfl
theorem joiO_ {x:PySem.Str} {ds:List D} {ts:List PySem.Str} (h:strsD ds=some ts) (h1:PySem.JoinOk x ts=true) (h2:PySem.PyData.strOk (PySem.Txt.join x ts)=true):joiO x (some (.lst ds))=some (.sh (.str (PySem.Txt.join x ts))):=by
 show (match strsD ds with | some ts=>_ | none=>none)=_
 rw [h]
 exact if_pos ⟨h1,h2⟩
theorem splO_ {x y:PySem.Str} (h1:(x.length == 0)=false) (h2:y.length≤1000000) (h3:(PySem.Txt.split y x).all PySem.PyData.strOk=true):splO x ρ (some (.sh (.str y)))=some (.ok (.ow (.lst ((PySem.Txt.split y x).map D.str))),ρ):=if_pos ⟨h1,h2,h3⟩
theorem b_addS {x y:PySem.Str} (h:x.length+y.length≤1000000):binD .Add (.str x) (.str y)=some (.sh (.str (x ++ y))):=if_pos h
theorem f_strS {x:PySem.Str}:biD .str [.str x]=some (.sh (.str x)):=rfl
theorem f_str {i:Int} (h1:i.natAbs.log2<1920) (h2:PySem.PyData.strOk (PySem.Str.ofString (toString i))=true):biD .str [.int i]=some (.sh (.str (PySem.Str.ofString (toString i)))):=if_pos ⟨h1,h2⟩
theorem f_intS {x:PySem.Str} {n:Int} (h1:x.length≤640) (h2:PySem.intText? x=some n):biD .int [.str x]=some (.sh (.int n)):=by
 show @ite _ _ (cl _) _ none=_
 rw [if_pos h1,h2]
 rfl
theorem sl_S {x:PySem.Str} {lo hi:Option Int} (h1:x.length≤1000000) (h2:PySem.PyData.strOk (PySem.Txt.slice x lo hi)=true):slD (.str x) lo hi=some (.sh (.str (PySem.Txt.slice x lo hi))):=if_pos ⟨h1,h2⟩
theorem it_sig {a:Hd} {x:PySem.Str} (h:a.get ρ=some (.str x)) (h1:x.cps.all (·<128)=true) (h2:PySem.PyData.strOk x=true):itemsOf .sig [a] ρ=some (strDs x,none):=by
 show (match a.get ρ with | some (.str x)=>_ | _=>none)=_
 rw [h]
 exact if_pos ⟨h1,h2⟩
theorem zg0 {α:Type} {a:α} {l:List α}:(a :: l)[0]?=some a:=rfl
theorem zg1 {α:Type} {a:α} {l:List α} {n:Nat}:(a :: l)[n+1]?=l[n]?:=rfl
theorem zs0 {α:Type} {a b:α} {l:List α}:(a :: l).set 0 b=b :: l:=rfl
theorem zs1 {α:Type} {a b:α} {l:List α} {n:Nat}:(a :: l).set (n+1) b=a :: l.set n b:=rfl
theorem zb {α β:Type} {a:α} {f:α→Option β}:(some a).bind f=f a:=rfl
theorem zm {α β:Type} {a:α} {f:α→β}:(some a).map f=some (f a):=rfl
theorem zi {α:Type} {a:α}:(some a).isSome=true:=rfl
theorem zc {α:Type} {a:α} {l m:List α}:(a :: l) ++ m=a :: (l ++ m):=rfl
theorem zn {α:Type} {l:List α}:[] ++ l=l:=rfl
theorem zr0 {α:Type} {a:α}:List.replicate 0 a=[]:=rfl
theorem zr1 {α:Type} {a:α} {n:Nat}:List.replicate (n+1) a=a :: List.replicate n a:=rfl
theorem zl0 {α:Type}:([]:List α).length=0:=rfl
theorem zl1 {α:Type} {a:α} {l:List α}:(a :: l).length=l.length+1:=rfl
theorem znt:(!true)=false:=rfl
theorem znf:(!false)=true:=rfl
theorem zko {d:D} {p l:Bool} {as:List Sl} {b:Sl} {bs:Env}:back (.ow d p l :: as) (b :: bs)=b :: back as bs:=rfl
theorem zks {d:D} {as:List Sl} {b:Sl} {bs:Env}:back (.sh d :: as) (b :: bs)=.sh d :: back as bs:=rfl
theorem zkn {bs:Env}:back [] bs=[]:=rfl
end
theorem len1 {α:Type} {Q:List α→Prop} (h:∀ a0,Q [a0]) (us:List α) (hl:us.length=1):Q us:=by
 obtain _ | ⟨a0,r0⟩:=us
 ·simp at hl
 obtain _ | ⟨x,y⟩:=r0
 ·exact h a0
 ·simp at hl
theorem len2 {α:Type} {Q:List α→Prop} (h:∀ a0 a1,Q [a0,a1]) (us:List α) (hl:us.length=2):Q us:=by
 obtain _ | ⟨a0,r0⟩:=us
 ·simp at hl
 obtain _ | ⟨a1,r1⟩:=r0
 ·simp at hl
 obtain _ | ⟨x,y⟩:=r1
 ·exact h a0 a1
 ·simp at hl
theorem len3 {α:Type} {Q:List α→Prop} (h:∀ a0 a1 a2,Q [a0,a1,a2]) (us:List α) (hl:us.length=3):Q us:=by
 obtain _ | ⟨a0,r0⟩:=us
 ·simp at hl
 obtain _ | ⟨a1,r1⟩:=r0
 ·simp at hl
 obtain _ | ⟨a2,r2⟩:=r1
 ·simp at hl
 obtain _ | ⟨x,y⟩:=r2
 ·exact h a0 a1 a2
 ·simp at hl
theorem len4 {α:Type} {Q:List α→Prop} (h:∀ a0 a1 a2 a3,Q [a0,a1,a2,a3]) (us:List α) (hl:us.length=4):Q us:=by
 obtain _ | ⟨a0,r0⟩:=us
 ·simp at hl
 obtain _ | ⟨a1,r1⟩:=r0
 ·simp at hl
 obtain _ | ⟨a2,r2⟩:=r1
 ·simp at hl
 obtain _ | ⟨a3,r3⟩:=r2
 ·simp at hl
 obtain _ | ⟨x,y⟩:=r3
 ·exact h a0 a1 a2 a3
 ·simp at hl
theorem len5 {α:Type} {Q:List α→Prop} (h:∀ a0 a1 a2 a3 a4,Q [a0,a1,a2,a3,a4]) (us:List α) (hl:us.length=5):Q us:=by
 obtain _ | ⟨a0,r0⟩:=us
 ·simp at hl
 obtain _ | ⟨a1,r1⟩:=r0
 ·simp at hl
 obtain _ | ⟨a2,r2⟩:=r1
 ·simp at hl
 obtain _ | ⟨a3,r3⟩:=r2
 ·simp at hl
 obtain _ | ⟨a4,r4⟩:=r3
 ·simp at hl
 obtain _ | ⟨x,y⟩:=r4
 ·exact h a0 a1 a2 a3 a4
 ·simp at hl
open PySem PySem.Spec PyProof.Rows L2 in
def BQ (x qual:PySem.Str) (st:PySem.Stmt) (kV doc pm:PySem.Value) (an:Option PySem.Addr) (cdv ct:PySem.Value) (us:List PySem.Value):Prop:=PySem.bindArgs (PySem.W.fnOf x qual (defArgs st) (defBody st) (defScope st) .none kV doc pm an cdv ct) ⟨us,[]⟩=pure ((psOf st).zip us)
theorem fc {α:Type} {P:α→Prop} {a:α} {l:List α} (h:P a) (t:∀ x∈l,P x):∀ x∈a :: l,P x:=List.forall_mem_cons.mpr ⟨h,t⟩
section
open PySem PySem.Spec PyProof.Rows L2
abbrev Sc4 (st:Stmt):Prop:=(nOf st).Nodup∧(nOf st).take (psOf st).length=psOf st∧(∀ x∈psOf st,(defScope st).names.lookup x=some .local∨(defScope st).names.lookup x=some .cell)∧∀ y∈(defScope st).names,y.2≠.free
abbrev BnA (x qual:PySem.Str) (st:PySem.Stmt):Prop:=∀ (kV doc pm:PySem.Value) (an:Option PySem.Addr) (cdv ct:PySem.Value) (us:List PySem.Value),us.length=(psOf st).length→BQ x qual st kV doc pm an cdv ct us
theorem mkD {gl:PySem.Str→GV} {st:Stmt} {x qual:PySem.Str} {fn:Fn} (h1:(defScope st).kind=.function) (h2:(defScope st).isCoroutine=false) (h3:(defScope st).isGenerator=false) (h:Sc4 st∧(nOf st).length=fn.pins.length+fn.nl∧(psOf st).length=fn.pins.length) (b:fn.body=coreOf gl st) (q:BnA x qual st):DefOkQ gl st x qual fn :=
 ⟨⟨h1,h2,h3,h.1.1,h.1.2.1,h.1.2.2.1,h.1.2.2.2⟩,b,h.2.1,h.2.2,q⟩
variable {x qual:PySem.Str} {st:Stmt}
theorem bn1 (hn:(psOf st).length=1) (h:∀ kV doc pm an cdv ct a0,BQ x qual st kV doc pm an cdv ct [a0]):BnA x qual st:=fun kV doc pm an cdv ct us hl=>len1 (h kV doc pm an cdv ct) us (hl.trans hn)
theorem bn2 (hn:(psOf st).length=2) (h:∀ kV doc pm an cdv ct a0 a1,BQ x qual st kV doc pm an cdv ct [a0,a1]):BnA x qual st:=fun kV doc pm an cdv ct us hl=>len2 (h kV doc pm an cdv ct) us (hl.trans hn)
theorem bn3 (hn:(psOf st).length=3) (h:∀ kV doc pm an cdv ct a0 a1 a2,BQ x qual st kV doc pm an cdv ct [a0,a1,a2]):BnA x qual st:=fun kV doc pm an cdv ct us hl=>len3 (h kV doc pm an cdv ct) us (hl.trans hn)
theorem bn4 (hn:(psOf st).length=4) (h:∀ kV doc pm an cdv ct a0 a1 a2 a3,BQ x qual st kV doc pm an cdv ct [a0,a1,a2,a3]):BnA x qual st:=fun kV doc pm an cdv ct us hl=>len4 (h kV doc pm an cdv ct) us (hl.trans hn)
theorem bn5 (hn:(psOf st).length=5) (h:∀ kV doc pm an cdv ct a0 a1 a2 a3 a4,BQ x qual st kV doc pm an cdv ct [a0,a1,a2,a3,a4]):BnA x qual st:=fun kV doc pm an cdv ct us hl=>len5 (h kV doc pm an cdv ct) us (hl.trans hn)
end
noncomputable def kExt (i:Nat) (v:RV) (ρ:Env) (o:Option Sl):Res RV:=match o,v with
 | some (.ow (.lst ds) p false),.ow (.lst es)=>if smallL (ds.length+es.length) then some (.ok (.sh .non),ρ.set i (.ow (.lst (ds ++ es)) p false)) else none
 | _,_=>none
noncomputable def kExt1 (i:Nat) (v:RV) (ρ:Env):Res RV:=kExt i v ρ ρ[i]?
theorem kExt1_ {i:Nat} {v:RV}:kExt1 i v ρ=kExt i v ρ ρ[i]?:=rfl
theorem kExt_ {i:Nat} {ds es:List D} {p:Bool}:kExt i (.ow (.lst es)) ρ (some (.ow (.lst ds) p false))=kSm (smallL (ds.length+es.length)) (.sh .non) (ρ.set i (.ow (.lst (ds ++ es)) p false)):=rfl
theorem ev_ext {i:Nat} {a:E}:ev P C t (.ext i a) ρ=wrap t (kIf0 ((ev P C false a ρ).bind (kExt1 i)) (isOw ρ i)):=rfl
theorem ex_tryO {b:List S}:ex P C W (.tryO b) ρ=exs P C W b ρ:=rfl
open PySem in
theorem con_str {K:PySem.W.Frag} {mg:Str→Option Value} {h:Heap} {T:Tab} {gl:Str→GV} {x y:Str} {t:Tok} (X:K.In h) (G:h.Ns mainGlobals mg) (a:PySem.W.nsIn K mainGlobals x=some (some (.str y t))) (ok:PyData.strOk y=true):GlAt K mg T gl (x,.con (.str y)) :=
 ⟨_,.str y,PySem.W.mg_of X G a,⟨t,rfl⟩,fun G=>by unfold Rep; exact ⟨rfl,ok⟩⟩
end CI
namespace Tx
open PySem PySem.Spec PyProof.Rows L2 CI
noncomputable def top (i:Nat):Stmt:=PySem.Challenge.pw_canonwright_k63_houses_written_and_read.main.body.getD i (.Pass ⟨0,0,0,0⟩)
noncomputable def L:List (Str × GV):=[((Str.ofString "WAYS",GV.con (.tup [(.str ("like":Str)),(.str ("against":Str)),(.str ("aside":Str)),(.str ("any":Str))])):Str × GV),((Str.ofString "NOTES",GV.con (.int 0)):Str × GV),((Str.ofString "BAR",GV.con (.int 1)):Str × GV),((Str.ofString "OCTAVE",GV.con (.int 2)):Str × GV),((Str.ofString "VOICES",GV.con (.int 3)):Str × GV),((Str.ofString "RULES",GV.con (.int 4)):Str × GV),((Str.ofString "LATE",GV.con (.int 0)):Str × GV),((Str.ofString "SHIFT",GV.con (.int 1)):Str × GV),((Str.ofString "TURNED",GV.con (.int 2)):Str × GV),((Str.ofString "FIGURES",GV.con (.str ("0123456789":Str))):Str × GV),((Str.ofString "MOST_FIGURES",GV.con (.int 60)):Str × GV),((Str.ofString "GREATEST_SPAN",GV.con (.int 11)):Str × GV),((Str.ofString "is_whole",GV.fn "is_whole"):Str × GV),((Str.ofString "is_within",GV.fn "is_within"):Str × GV),((Str.ofString "are_within",GV.fn "are_within"):Str × GV),((Str.ofString "is_follower",GV.fn "is_follower"):Str × GV),((Str.ofString "is_way",GV.fn "is_way"):Str × GV),((Str.ofString "are_spans",GV.fn "are_spans"):Str × GV),((Str.ofString "is_rule",GV.fn "is_rule"):Str × GV),((Str.ofString "check_frame",GV.fn "check_frame"):Str × GV),((Str.ofString "house_of",GV.fn "house_of"):Str × GV),((Str.ofString "show_row",GV.fn "show_row"):Str × GV),((Str.ofString "show_follower",GV.fn "show_follower"):Str × GV),((Str.ofString "show_spans",GV.fn "show_spans"):Str × GV),((Str.ofString "show_rule",GV.fn "show_rule"):Str × GV),((Str.ofString "show_house",GV.fn "show_house"):Str × GV),((Str.ofString "read_number",GV.fn "read_number"):Str × GV),((Str.ofString "read_numbers",GV.fn "read_numbers"):Str × GV),((Str.ofString "read_spans",GV.fn "read_spans"):Str × GV),((Str.ofString "read_follower",GV.fn "read_follower"):Str × GV),((Str.ofString "read_rule",GV.fn "read_rule"):Str × GV),((Str.ofString "made_of",GV.fn "made_of"):Str × GV),((Str.ofString "read_house",GV.fn "read_house"):Str × GV),((Str.ofString "_law_pen",GV.fn "L_pen"):Str × GV),((Str.ofString "_law_draw",GV.fn "L_draw"):Str × GV),((Str.ofString "_law_rule",GV.fn "L_rule"):Str × GV),((Str.ofString "_law_house",GV.fn "L_house"):Str × GV),((Str.ofString "_law_same",GV.fn "L_same"):Str × GV),((Str.ofString "_law_rule_text",GV.fn "L_rule_text"):Str × GV),((Str.ofString "_law_text",GV.fn "L_text"):Str × GV),((Str.ofString "_law_bent",GV.fn "L_bent"):Str × GV),((Str.ofString "law",GV.fn "law"):Str × GV),((Str.ofString "all",GV.blt):Str × GV),((Str.ofString "bool",GV.blt):Str × GV),((Str.ofString "enumerate",GV.blt):Str × GV),((Str.ofString "int",GV.blt):Str × GV),((Str.ofString "isinstance",GV.blt):Str × GV),((Str.ofString "len",GV.blt):Str × GV),((Str.ofString "range",GV.blt):Str × GV),((Str.ofString "str",GV.blt):Str × GV),((Str.ofString "tuple",GV.blt):Str × GV)]
noncomputable def el_are_within_0:E:=(.call "is_within" [(.var 3),(.var 1),(.var 0)])
noncomputable def el_show_row_0:E:=(.bif .str [(.var 1)])
noncomputable def el_show_spans_0:E:=(.bif .str [(.var 2)])
noncomputable def el_show_house_0:E:=(.call "show_follower" [(.var 1)])
noncomputable def el_show_house_1:E:=(.call "show_rule" [(.var 1)])
noncomputable def el_read_number_0:E:=(.cmp .In (.var 1) (.con (.str ("0123456789":Str))))
noncomputable def el_read_numbers_0:E:=(.call "read_number" [(.var 1)])
noncomputable def el_read_rule_0:E:=(.call "read_spans" [(.var 1)])
noncomputable def el_made_of_0:E:=(.ix (.var 1) (.neg (.con (.int 1))))
noncomputable def el_made_of_1:E:=(.call "read_follower" [(.var 1)])
noncomputable def el_made_of_2:E:=(.call "read_rule" [(.var 1)])
noncomputable def el_read_house_0:E:=(.spl 1 (" ":Str))
noncomputable def el_L_same_0:E:=(.call "L_same" [(.ix (.var 1) (.var 3)),(.ix (.var 0) (.var 3))])
noncomputable def el_L_rule_text_0:E:=(.bif .str [(.var 1)])
noncomputable def el_L_rule_text_1:E:=(.bif .str [(.var 2)])
noncomputable def el_L_text_0:E:=(.call "L_rule_text" [(.var 1)])
noncomputable def bd_house_of_0:List S:=[(.ifs (.not (.call "is_follower" [(.var 6)])) [.bad] [])]
noncomputable def bd_house_of_1:List S:=[(.ifs (.not (.call "is_rule" [(.var 1),(.var 2),(.bif .len [(.var 3)]),(.var 6)])) [.bad] [])]
noncomputable def bd_read_spans_0:List S:=[(.ifs (.not (.call "is_within" [(.var 2),(.con (.int 0)),(.con (.int 11))])) [(.ret (.con .non))] []),(.asg 1 (.bin .BitOr (.var 1) (.bin .LShift (.con (.int 1)) (.var 2))))]
noncomputable def bd_L_house_0:List S:=[(.asg 8 (.call "L_draw" [(.var 0),(.ix (.lst [(.con (.int 2)),(.con (.int 5))]) (.bif .int [(.var 1)]))])),(.expr (.app 6 (.tup [(.var 8),(.bin .Sub (.call "L_draw" [(.var 0),(.con (.int 25))]) (.con (.int 12))),(.cmp .Eq (.call "L_draw" [(.var 0),(.con (.int 4))]) (.con (.int 0)))])))]
noncomputable def bd_L_house_1:List S:=[(.expr (.app 9 (.call "L_rule" [(.var 0),(.var 2),(.var 3),(.var 4),(.var 5)])))]
noncomputable def bd_L_text_0:List S:=[(.expr (.app 6 (.bin .Add (.bin .Add (.bin .Add (.bin .Add (.con (.str ("voice ":Str))) (.bif .str [(.var 7)])) (.con (.str (" ":Str)))) (.bif .str [(.var 8)])) (.ix (.lst [(.con (.str ("":Str))),(.con (.str (" turned":Str)))]) (.bif .int [(.var 9)])))))]
noncomputable def bd_law_0:List S:=[(.asg 5 (.call "show_house" [(.var 4)])),(.ifs (.or (.not (.isi (.var 5) [.str])) (.or (.cmp .NotEq (.var 5) (.call "L_text" [(.var 4)])) (.not (.call "L_same" [(.call "read_house" [(.var 5)]),(.var 4)])))) [(.ret (.con (.bl false)))] [])]
noncomputable def st_L_rule_0:S:=(.asg 5 (.call "L_draw" [(.var 0),(.con (.int 9))]))
theorem x_st_L_rule_0 {P:Pins} {C:Calls} {W:Nat} {ρ:CI.Env}:ex P C W st_L_rule_0 ρ=ex P C W (.asg 5 (.call "L_draw" [(.var 0),(.con (.int 9))])) ρ:=(rfl)
noncomputable def st_L_rule_1:S:=(.ifs (.cmp .Lt (.var 5) (.con (.int 2))) [(.ret (.tup [(.con (.str ("span":Str))),(.call "L_draw" [(.var 0),(.var 2)]),(.call "L_draw" [(.var 0),(.bin .LShift (.con (.int 1)) (.var 3))])]))] [])
theorem x_st_L_rule_1 {P:Pins} {C:Calls} {W:Nat} {ρ:CI.Env}:ex P C W st_L_rule_1 ρ=ex P C W (.ifs (.cmp .Lt (.var 5) (.con (.int 2))) [(.ret (.tup [(.con (.str ("span":Str))),(.call "L_draw" [(.var 0),(.var 2)]),(.call "L_draw" [(.var 0),(.bin .LShift (.con (.int 1)) (.var 3))])]))] []) ρ:=(rfl)
noncomputable def st_L_rule_2:S:=(.ifs (.cmp .Eq (.var 5) (.con (.int 2))) [(.ret (.tup [(.con (.str ("span":Str))),(.call "L_draw" [(.var 0),(.var 2)]),(.bin .Sub (.bin .Sub (.bin .LShift (.con (.int 1)) (.var 3)) (.con (.int 1))) (.bin .LShift (.con (.int 1)) (.call "L_draw" [(.var 0),(.var 3)])))]))] [])
theorem x_st_L_rule_2 {P:Pins} {C:Calls} {W:Nat} {ρ:CI.Env}:ex P C W st_L_rule_2 ρ=ex P C W (.ifs (.cmp .Eq (.var 5) (.con (.int 2))) [(.ret (.tup [(.con (.str ("span":Str))),(.call "L_draw" [(.var 0),(.var 2)]),(.bin .Sub (.bin .Sub (.bin .LShift (.con (.int 1)) (.var 3)) (.con (.int 1))) (.bin .LShift (.con (.int 1)) (.call "L_draw" [(.var 0),(.var 3)])))]))] []) ρ:=(rfl)
noncomputable def st_L_rule_3:S:=(.ifs (.cmp .Eq (.var 5) (.con (.int 3))) [(.ret (.tup [(.con (.str ("leap":Str))),(.call "L_draw" [(.var 0),(.ix (.lst [(.con (.int 13)),(.bin .Add (.var 1) (.con (.int 1)))]) (.call "L_draw" [(.var 0),(.con (.int 2))]))])]))] [])
theorem x_st_L_rule_3 {P:Pins} {C:Calls} {W:Nat} {ρ:CI.Env}:ex P C W st_L_rule_3 ρ=ex P C W (.ifs (.cmp .Eq (.var 5) (.con (.int 3))) [(.ret (.tup [(.con (.str ("leap":Str))),(.call "L_draw" [(.var 0),(.ix (.lst [(.con (.int 13)),(.bin .Add (.var 1) (.con (.int 1)))]) (.call "L_draw" [(.var 0),(.con (.int 2))]))])]))] []) ρ:=(rfl)
noncomputable def st_L_rule_4:S:=(.ifs (.cmp .Eq (.var 5) (.con (.int 4))) [(.ret (.tup [(.con (.str ("back":Str))),(.bin .Add (.con (.int 1)) (.call "L_draw" [(.var 0),(.con (.int 12))])),(.bin .Add (.con (.int 1)) (.call "L_draw" [(.var 0),(.con (.int 12))]))]))] [])
theorem x_st_L_rule_4 {P:Pins} {C:Calls} {W:Nat} {ρ:CI.Env}:ex P C W st_L_rule_4 ρ=ex P C W (.ifs (.cmp .Eq (.var 5) (.con (.int 4))) [(.ret (.tup [(.con (.str ("back":Str))),(.bin .Add (.con (.int 1)) (.call "L_draw" [(.var 0),(.con (.int 12))])),(.bin .Add (.con (.int 1)) (.call "L_draw" [(.var 0),(.con (.int 12))]))]))] []) ρ:=(rfl)
noncomputable def st_L_rule_5:S:=(.ifs (.cmp .Eq (.var 5) (.con (.int 5))) [(.ret (.tup [(.con (.str ("again":Str))),(.bin .Add (.con (.int 1)) (.call "L_draw" [(.var 0),(.con (.int 3))]))]))] [])
theorem x_st_L_rule_5 {P:Pins} {C:Calls} {W:Nat} {ρ:CI.Env}:ex P C W st_L_rule_5 ρ=ex P C W (.ifs (.cmp .Eq (.var 5) (.con (.int 5))) [(.ret (.tup [(.con (.str ("again":Str))),(.bin .Add (.con (.int 1)) (.call "L_draw" [(.var 0),(.con (.int 3))]))]))] []) ρ:=(rfl)
noncomputable def st_L_rule_6:S:=(.ifs (.cmp .Eq (.var 5) (.con (.int 6))) [(.asg 6 (.ix (.lst [(.bin .Sub (.call "L_draw" [(.var 0),(.con (.int 121))]) (.con (.int 60))),(.bin .Sub (.call "L_draw" [(.var 0),(.con (.int 20))]) (.con (.int 12)))]) (.call "L_draw" [(.var 0),(.con (.int 2))]))),(.ret (.tup [(.con (.str ("range":Str))),(.var 6),(.bin .Add (.var 6) (.call "L_draw" [(.var 0),(.bin .Sub (.con (.int 61)) (.var 6))]))]))] [])
theorem x_st_L_rule_6 {P:Pins} {C:Calls} {W:Nat} {ρ:CI.Env}:ex P C W st_L_rule_6 ρ=ex P C W (.ifs (.cmp .Eq (.var 5) (.con (.int 6))) [(.asg 6 (.ix (.lst [(.bin .Sub (.call "L_draw" [(.var 0),(.con (.int 121))]) (.con (.int 60))),(.bin .Sub (.call "L_draw" [(.var 0),(.con (.int 20))]) (.con (.int 12)))]) (.call "L_draw" [(.var 0),(.con (.int 2))]))),(.ret (.tup [(.con (.str ("range":Str))),(.var 6),(.bin .Add (.var 6) (.call "L_draw" [(.var 0),(.bin .Sub (.con (.int 61)) (.var 6))]))]))] []) ρ:=(rfl)
noncomputable def st_L_rule_7:S:=(.ifs (.cmp .Eq (.var 5) (.con (.int 7))) [(.asg 7 (.call "L_draw" [(.var 0),(.bin .Add (.var 4) (.con (.int 1)))])),(.ret (.tup [(.con (.str ("above":Str))),(.var 7),(.bin .Mod (.bin .Add (.bin .Add (.var 7) (.con (.int 1))) (.call "L_draw" [(.var 0),(.var 4)])) (.bin .Add (.var 4) (.con (.int 1))))]))] [])
theorem x_st_L_rule_7 {P:Pins} {C:Calls} {W:Nat} {ρ:CI.Env}:ex P C W st_L_rule_7 ρ=ex P C W (.ifs (.cmp .Eq (.var 5) (.con (.int 7))) [(.asg 7 (.call "L_draw" [(.var 0),(.bin .Add (.var 4) (.con (.int 1)))])),(.ret (.tup [(.con (.str ("above":Str))),(.var 7),(.bin .Mod (.bin .Add (.bin .Add (.var 7) (.con (.int 1))) (.call "L_draw" [(.var 0),(.var 4)])) (.bin .Add (.var 4) (.con (.int 1))))]))] []) ρ:=(rfl)
noncomputable def st_L_rule_8:S:=(.asg 8 (.tup [(.con (.str ("like":Str))),(.con (.str ("against":Str))),(.con (.str ("aside":Str))),(.con (.str ("any":Str)))]))
theorem x_st_L_rule_8 {P:Pins} {C:Calls} {W:Nat} {ρ:CI.Env}:ex P C W st_L_rule_8 ρ=ex P C W (.asg 8 (.tup [(.con (.str ("like":Str))),(.con (.str ("against":Str))),(.con (.str ("aside":Str))),(.con (.str ("any":Str)))])) ρ:=(rfl)
noncomputable def st_L_rule_9:S:=(.ret (.tup [(.con (.str ("never":Str))),(.call "L_draw" [(.var 0),(.var 3)]),(.call "L_draw" [(.var 0),(.var 3)]),(.ix (.var 8) (.call "L_draw" [(.var 0),(.con (.int 4))]))]))
theorem x_st_L_rule_9 {P:Pins} {C:Calls} {W:Nat} {ρ:CI.Env}:ex P C W st_L_rule_9 ρ=ex P C W (.ret (.tup [(.con (.str ("never":Str))),(.call "L_draw" [(.var 0),(.var 3)]),(.call "L_draw" [(.var 0),(.var 3)]),(.ix (.var 8) (.call "L_draw" [(.var 0),(.con (.int 4))]))])) ρ:=(rfl)
noncomputable def fn_is_whole:Fn:=⟨[true],0,[(.ret (.and (.isi (.var 0) [.int]) (.not (.isi (.var 0) [.bool]))))],false⟩
noncomputable def fn_is_within:Fn:=⟨[true,true,true],0,[(.ret (.and (.call "is_whole" [(.var 0)]) (.cmp2 .LtE .LtE (.var 1) (.var 0) (.var 2))))],false⟩
noncomputable def fn_are_within:Fn:=⟨[true,true,true,true],0,[(.ret (.and (.cmp .Eq (.bif .len [(.var 0)]) (.var 1)) (.bif .all [(.comp el_are_within_0 [3] .of [(.var 0)] [] [3,2] 2)])))],false⟩
noncomputable def fn_is_follower:Fn:=⟨[true],0,[(.ifs (.or (.not (.isi (.var 0) [.tuple])) (.cmp .NotEq (.bif .len [(.var 0)]) (.con (.int 3)))) [(.ret (.con (.bl false)))] []),(.ret (.and (.call "is_within" [(.ix (.var 0) (.con (.int 0))),(.con (.int 0)),(.con (.int 4))]) (.and (.call "is_within" [(.ix (.var 0) (.con (.int 1))),(.neg (.con (.int 12))),(.con (.int 12))]) (.isi (.ix (.var 0) (.con (.int 2))) [.bool]))))],false⟩
noncomputable def fn_is_way:Fn:=⟨[true],0,[(.ret (.and (.isi (.var 0) [.str]) (.cmp .In (.var 0) (.con (.tup [(.str ("like":Str)),(.str ("against":Str)),(.str ("aside":Str)),(.str ("any":Str))])))))],false⟩
noncomputable def fn_are_spans:Fn:=⟨[true,true],0,[(.ret (.and (.call "is_whole" [(.var 0)]) (.and (.cmp .GtE (.var 0) (.con (.int 0))) (.cmp .LtE (.bitl (.var 0)) (.var 1)))))],false⟩
noncomputable def fn_is_rule:Fn:=⟨[true,true,true,true],2,[(.ifs (.or (.not (.isi (.var 3) [.tuple])) (.or (.cmp .Eq (.bif .len [(.var 3)]) (.con (.int 0))) (.not (.isi (.ix (.var 3) (.con (.int 0))) [.str])))) [(.ret (.con (.bl false)))] []),(.asg 4 (.ix (.var 3) (.con (.int 0)))),(.asg 5 (.sl (.var 3) (.con (.int 1)) .omt)),(.ifs (.cmp .Eq (.var 4) (.con (.str ("span":Str)))) [(.ret (.and (.cmp .Eq (.bif .len [(.var 5)]) (.con (.int 2))) (.and (.call "is_within" [(.ix (.var 5) (.con (.int 0))),(.con (.int 0)),(.bin .Sub (.var 0) (.con (.int 1)))]) (.call "are_spans" [(.ix (.var 5) (.con (.int 1))),(.var 1)]))))] []),(.ifs (.cmp .Eq (.var 4) (.con (.str ("leap":Str)))) [(.ret (.call "are_within" [(.var 5),(.con (.int 1)),(.con (.int 0)),(.con (.int 12))]))] []),(.ifs (.cmp .Eq (.var 4) (.con (.str ("back":Str)))) [(.ret (.call "are_within" [(.var 5),(.con (.int 2)),(.con (.int 1)),(.con (.int 12))]))] []),(.ifs (.cmp .Eq (.var 4) (.con (.str ("again":Str)))) [(.ret (.call "are_within" [(.var 5),(.con (.int 1)),(.con (.int 1)),(.con (.int 3))]))] []),(.ifs (.cmp .Eq (.var 4) (.con (.str ("range":Str)))) [(.ret (.and (.call "are_within" [(.var 5),(.con (.int 2)),(.neg (.con (.int 60))),(.con (.int 60))]) (.cmp .LtE (.ix (.var 5) (.con (.int 0))) (.ix (.var 5) (.con (.int 1))))))] []),(.ifs (.cmp .Eq (.var 4) (.con (.str ("above":Str)))) [(.ret (.and (.call "are_within" [(.var 5),(.con (.int 2)),(.con (.int 0)),(.var 2)]) (.cmp .NotEq (.ix (.var 5) (.con (.int 0))) (.ix (.var 5) (.con (.int 1))))))] []),(.ifs (.cmp .Eq (.var 4) (.con (.str ("never":Str)))) [(.ret (.and (.cmp .Eq (.bif .len [(.var 5)]) (.con (.int 3))) (.and (.call "are_within" [(.sl (.var 5) .omt (.con (.int 2))),(.con (.int 2)),(.con (.int 0)),(.bin .Sub (.var 1) (.con (.int 1)))]) (.call "is_way" [(.ix (.var 5) (.con (.int 2)))]))))] []),(.ret (.con (.bl false)))],false⟩
noncomputable def fn_check_frame:Fn:=⟨[true,true,true,true,true],0,[(.ifs (.not (.call "is_within" [(.var 0),(.con (.int 1)),(.con (.int 7))])) [.bad] []),(.ifs (.not (.call "is_within" [(.var 1),(.con (.int 1)),(.con (.int 4))])) [.bad] []),(.ifs (.not (.call "is_within" [(.var 2),(.con (.int 1)),(.con (.int 12))])) [.bad] []),(.ifs (.not (.cmp2 .LtE .LtE (.con (.int 1)) (.bif .len [(.var 3)]) (.con (.int 3)))) [.bad] []),(.ifs (.cmp .Gt (.bif .len [(.var 4)]) (.con (.int 8))) [.bad] [])],false⟩
noncomputable def fn_house_of:Fn:=⟨[false,false,false,true,true],2,[(.expr (.call "check_frame" [(.var 0),(.var 1),(.var 2),(.var 3),(.var 4)])),(.for [5,6] false (.enum 1) [(.var 3)] bd_house_of_0),(.for [5,6] false (.enum 0) [(.var 4)] bd_house_of_1),(.ret (.tup [(.var 0),(.var 1),(.var 2),(.bif .tuple [(.var 3)]),(.bif .tuple [(.var 4)])]))],false⟩
noncomputable def fn_show_row:Fn:=⟨[false],0,[(.ret (.joi (" ":Str) (.comp el_show_row_0 [1] .of [(.var 0)] [] [] 2)))],false⟩
noncomputable def fn_show_follower:Fn:=⟨[true],1,[(.asg 1 (.call "show_row" [(.lst [(.con (.str ("voice":Str))),(.ix (.var 0) (.con (.int 0))),(.ix (.var 0) (.con (.int 1)))])])),(.ret (.ite (.ix (.var 0) (.con (.int 2))) (.bin .Add (.var 1) (.con (.str (" turned":Str)))) (.var 1)))],false⟩
noncomputable def fn_show_spans:Fn:=⟨[true],0,[(.ifs (.cmp .Eq (.var 0) (.con (.int 0))) [(.ret (.con (.str ("-":Str))))] []),(.ret (.joi (",":Str) (.comp el_show_spans_0 [2] .rng [(.bitl (.var 0))] [(.cmp .Eq (.bin .BitAnd (.bin .RShift (.var 0) (.var 2)) (.con (.int 1))) (.con (.int 1)))] [0] 2)))],false⟩
noncomputable def fn_show_rule:Fn:=⟨[false],0,[(.ifs (.cmp .Eq (.ix (.var 0) (.con (.int 0))) (.con (.str ("span":Str)))) [(.ret (.call "show_row" [(.lst [(.con (.str ("span":Str))),(.ix (.var 0) (.con (.int 1))),(.call "show_spans" [(.ix (.var 0) (.con (.int 2)))])])]))] []),(.ret (.call "show_row" [(.var 0)]))],false⟩
noncomputable def fn_show_house:Fn:=⟨[true],1,[(.asg 1 (.lst [(.call "show_row" [(.lst [(.con (.str ("notes":Str))),(.ix (.var 0) (.con (.int 0)))])]),(.call "show_row" [(.lst [(.con (.str ("bar":Str))),(.ix (.var 0) (.con (.int 1)))])]),(.call "show_row" [(.lst [(.con (.str ("octave":Str))),(.ix (.var 0) (.con (.int 2)))])])])),(.expr (.ext 1 (.comp el_show_house_0 [1] .of [(.ix (.var 0) (.con (.int 3)))] [] [] 2))),(.expr (.ext 1 (.comp el_show_house_1 [1] .of [(.ix (.var 0) (.con (.int 4)))] [] [] 2))),(.ret (.joi ("\n":Str) (.var 1)))],false⟩
noncomputable def fn_read_number:Fn:=⟨[false],2,[(.asg 1 (.ite (.stw 0 ("-":Str)) (.sl (.var 0) (.con (.int 1)) .omt) (.var 0))),(.ifs (.or (.not (.cmp2 .LtE .LtE (.con (.int 1)) (.bif .len [(.var 1)]) (.con (.int 60)))) (.not (.bif .all [(.comp el_read_number_0 [1] .sig [(.var 1)] [] [] 2)]))) [(.ret (.con .non))] []),(.asg 2 (.bif .int [(.var 0)])),(.ret (.ite (.cmp .Eq (.bif .str [(.var 2)]) (.var 0)) (.var 2) (.con .non)))],false⟩
noncomputable def fn_read_numbers:Fn:=⟨[false],0,[(.ret (.comp el_read_numbers_0 [1] .of [(.var 0)] [] [] 2))],false⟩
noncomputable def fn_read_spans:Fn:=⟨[false],2,[(.ifs (.cmp .Eq (.var 0) (.con (.str ("-":Str)))) [(.ret (.con (.int 0)))] []),(.asg 1 (.con (.int 0))),(.for [2] true .of [(.call "read_numbers" [(.spl 0 (",":Str))])] bd_read_spans_0),(.ret (.var 1))],false⟩
noncomputable def fn_read_follower:Fn:=⟨[false],0,[(.ret (.bif .tuple [(.bin .Add (.call "read_numbers" [(.sl (.var 0) (.con (.int 1)) (.con (.int 3)))]) (.lst [(.cmp .Eq (.sl (.var 0) (.con (.int 3)) .omt) (.lst [(.con (.str ("turned":Str)))]))]))]))],false⟩
noncomputable def fn_read_rule:Fn:=⟨[false],0,[(.ifs (.cmp .Eq (.ix (.var 0) (.con (.int 0))) (.con (.str ("span":Str)))) [(.ret (.bif .tuple [(.bin .Add (.bin .Add (.lst [(.con (.str ("span":Str)))]) (.call "read_numbers" [(.sl (.var 0) (.con (.int 1)) (.con (.int 2)))])) (.comp el_read_rule_0 [1] .of [(.sl (.var 0) (.con (.int 2)) .omt)] [] [] 2))]))] []),(.ifs (.cmp .Eq (.ix (.var 0) (.con (.int 0))) (.con (.str ("never":Str)))) [(.ret (.bif .tuple [(.bin .Add (.bin .Add (.lst [(.con (.str ("never":Str)))]) (.call "read_numbers" [(.sl (.var 0) (.con (.int 1)) (.con (.int 3)))])) (.sl (.var 0) (.con (.int 3)) .omt))]))] []),(.ret (.bif .tuple [(.bin .Add (.sl (.var 0) .omt (.con (.int 1))) (.call "read_numbers" [(.sl (.var 0) (.con (.int 1)) .omt)]))]))],false⟩
noncomputable def fn_made_of:Fn:=⟨[false],3,[(.asg 1 (.call "read_numbers" [(.comp el_made_of_0 [1] .of [(.sl (.var 0) .omt (.con (.int 3)))] [] [] 2)])),(.asg 2 (.comp el_made_of_1 [1] .of [(.sl (.var 0) (.con (.int 3)) .omt)] [(.cmp .Eq (.ix (.var 1) (.con (.int 0))) (.con (.str ("voice":Str))))] [] 2)),(.asg 3 (.comp el_made_of_2 [1] .of [(.sl (.var 0) (.con (.int 3)) .omt)] [(.cmp .NotEq (.ix (.var 1) (.con (.int 0))) (.con (.str ("voice":Str))))] [] 2)),(.tryO [(.ret (.call "house_of" [(.ix (.var 1) (.con (.int 0))),(.ix (.var 1) (.con (.int 1))),(.ix (.var 1) (.con (.int 2))),(.var 2),(.var 3)]))])],false⟩
noncomputable def fn_read_house:Fn:=⟨[true],2,[(.ifs (.not (.isi (.var 0) [.str])) [.bad] []),(.asg 1 (.comp el_read_house_0 [1] .of [(.spl 0 ("\n":Str))] [] [] 2)),(.ifs (.cmp .Lt (.bif .len [(.var 1)]) (.con (.int 3))) [.bad] []),(.asg 2 (.call "made_of" [(.var 1)])),(.ifs (.cmp .NotEq (.call "show_house" [(.var 2)]) (.var 0)) [.bad] []),(.ret (.var 2))],false⟩
noncomputable def fn_L_pen:Fn:=⟨[true,false],1,[(.ifs (.and (.cmp .Lt (.var 1) (.bif .len [(.var 0)])) (.cmp .Eq (.bin .Mod (.ix (.var 0) (.con (.int 0))) (.con (.int 2))) (.con (.int 0)))) [(.ret (.lst [(.con (.int 0)),(.ix (.var 0) (.var 1))]))] []),(.asg 2 (.bin .Add (.bin .Mult (.con (.int 30011)) (.var 1)) (.con (.int 7)))),(.ifs (.cmp .Gt (.bif .len [(.var 0)]) (.con (.int 0))) [(.asg 2 (.bin .Mod (.ix (.var 0) (.bin .Mod (.var 1) (.bif .len [(.var 0)]))) (.con (.int 2147483587)))),(.asg 2 (.bin .Add (.bin .Add (.var 2) (.bin .Mult (.con (.int 48611)) (.bin .FloorDiv (.var 1) (.bif .len [(.var 0)])))) (.bin .Mult (.con (.int 3)) (.var 1))))] []),(.ret (.lst [(.con (.int 1)),(.bin .Mod (.bin .Add (.bin .Add (.bin .Mult (.var 2) (.con (.int 48271))) (.bin .Mult (.con (.int 11)) (.var 1))) (.con (.int 1))) (.con (.int 2147483647)))]))],false⟩
noncomputable def fn_L_draw:Fn:=⟨[true,true],3,[(.ifs (.cmp .Eq (.ix (.var 0) (.con (.int 0))) (.con (.int 0))) [(.asg 2 (.bin .Mod (.ix (.var 0) (.con (.int 1))) (.var 1))),(.set 0 (.con (.int 1)) (.bin .FloorDiv (.ix (.var 0) (.con (.int 1))) (.var 1))),(.ret (.var 2))] []),(.set 0 (.con (.int 1)) (.bin .Mod (.bin .Add (.bin .Mult (.ix (.var 0) (.con (.int 1))) (.con (.int 69621))) (.con (.int 7))) (.con (.int 2147483629)))),(.asg 3 (.bin .Mod (.ix (.var 0) (.con (.int 1))) (.con (.int 65521)))),(.asg 4 (.bin .FloorDiv (.ix (.var 0) (.con (.int 1))) (.con (.int 65521)))),(.ret (.bin .Mod (.bin .FloorDiv (.bin .Mod (.bin .Mult (.bin .Add (.bin .Add (.bin .Mult (.var 3) (.con (.int 40503))) (.var 4)) (.con (.int 1))) (.con (.int 16807))) (.con (.int 2147483647))) (.con (.int 13))) (.var 1)))],false⟩
noncomputable def fn_L_rule:Fn:=⟨[true,true,true,true,true],4,[st_L_rule_0,st_L_rule_1,st_L_rule_2,st_L_rule_3,st_L_rule_4,st_L_rule_5,st_L_rule_6,st_L_rule_7,st_L_rule_8,st_L_rule_9],false⟩
noncomputable def fn_L_house:Fn:=⟨[true],9,[(.asg 1 (.cmp .Eq (.call "L_draw" [(.var 0),(.con (.int 2))]) (.con (.int 0)))),(.asg 2 (.bin .Add (.con (.int 1)) (.call "L_draw" [(.var 0),(.ix (.lst [(.con (.int 4)),(.con (.int 7))]) (.bif .int [(.var 1)]))]))),(.asg 3 (.bin .Add (.con (.int 1)) (.call "L_draw" [(.var 0),(.ix (.lst [(.con (.int 2)),(.con (.int 4))]) (.bif .int [(.var 1)]))]))),(.asg 4 (.bin .Add (.con (.int 1)) (.call "L_draw" [(.var 0),(.con (.int 12))]))),(.asg 5 (.bin .Add (.con (.int 1)) (.call "L_draw" [(.var 0),(.ix (.lst [(.con (.int 2)),(.con (.int 3))]) (.bif .int [(.var 1)]))]))),(.asg 6 (.lst [])),(.for [7] true .rng [(.var 5)] bd_L_house_0),(.asg 9 (.lst [])),(.for [7] true .rng [(.call "L_draw" [(.var 0),(.con (.int 9))])] bd_L_house_1),(.ret (.tup [(.var 2),(.var 3),(.var 4),(.bif .tuple [(.var 6)]),(.bif .tuple [(.var 9)])]))],false⟩
noncomputable def fn_L_same:Fn:=⟨[true,true],0,[(.ifs (.isi (.var 1) [.tuple]) [(.ifs (.or (.not (.isi (.var 0) [.tuple])) (.cmp .NotEq (.bif .len [(.var 0)]) (.bif .len [(.var 1)]))) [(.ret (.con (.bl false)))] []),(.ret (.bif .all [(.comp el_L_same_0 [3] .rng [(.bif .len [(.var 1)])] [] [1,0] 2)]))] []),(.ifs (.cmp .NotEq (.isi (.var 1) [.bool]) (.isi (.var 0) [.bool])) [(.ret (.con (.bl false)))] []),(.ret (.and (.cmp .Eq (.isi (.var 0) [.int]) (.isi (.var 1) [.int])) (.cmp .Eq (.var 0) (.var 1))))],false⟩
noncomputable def fn_L_rule_text:Fn:=⟨[true],1,[(.asg 1 (.comp el_L_rule_text_0 [1] .of [(.var 0)] [] [] 2)),(.ifs (.cmp .Eq (.ix (.var 0) (.con (.int 0))) (.con (.str ("span":Str)))) [(.set 1 (.con (.int 2)) (.joi (",":Str) (.comp el_L_rule_text_1 [2] .rng [(.con (.int 12))] [(.cmp .Eq (.bin .Mod (.bin .FloorDiv (.ix (.var 0) (.con (.int 2))) (.bin .LShift (.con (.int 1)) (.var 2))) (.con (.int 2))) (.con (.int 1)))] [0] 2))),(.ifs (.cmp .Eq (.ix (.var 1) (.con (.int 2))) (.con (.str ("":Str)))) [(.set 1 (.con (.int 2)) (.con (.str ("-":Str))))] [])] []),(.ret (.joi (" ":Str) (.var 1)))],false⟩
noncomputable def fn_L_text:Fn:=⟨[false],9,[(.asgT [1,2,3,4,5] (.var 0)),(.asg 6 (.lst [(.bin .Add (.con (.str ("notes ":Str))) (.bif .str [(.var 1)])),(.bin .Add (.con (.str ("bar ":Str))) (.bif .str [(.var 2)])),(.bin .Add (.con (.str ("octave ":Str))) (.bif .str [(.var 3)]))])),(.for [7,8,9] false .of [(.var 4)] bd_L_text_0),(.ret (.joi ("\n":Str) (.bin .Add (.var 6) (.comp el_L_text_0 [1] .of [(.var 5)] [] [] 2))))],false⟩
noncomputable def fn_L_bent:Fn:=⟨[true,false],11,[(.asgT [2,3,4,5,6] (.var 1)),(.asg 7 (.call "L_draw" [(.var 0),(.bif .len [(.var 5)])])),(.asgT [8,9,10] (.ix (.var 5) (.var 7))),(.asg 11 (.ix (.lst [(.tup [(.var 8),(.var 9),(.not (.var 10))]),(.tup [(.var 8),(.bin .Sub (.con (.int 0)) (.var 9)),(.var 10)]),(.tup [(.bin .Sub (.con (.int 4)) (.var 8)),(.var 9),(.var 10)])]) (.call "L_draw" [(.var 0),(.con (.int 3))]))),(.ifs (.cmp .Eq (.call "L_draw" [(.var 0),(.con (.int 2))]) (.con (.int 0))) [(.ret (.tup [(.var 2),(.var 3),(.var 4),(.bin .Add (.bin .Add (.sl (.var 5) .omt (.var 7)) (.tup [(.var 11)])) (.sl (.var 5) (.bin .Add (.var 7) (.con (.int 1))) .omt)),(.var 6)]))] []),(.asg 7 (.call "L_draw" [(.var 0),(.bin .Add (.bif .len [(.var 6)]) (.con (.int 1)))])),(.asg 12 (.call "L_rule" [(.var 0),(.var 2),(.var 3),(.var 4),(.bif .len [(.var 5)])])),(.ret (.tup [(.var 2),(.var 3),(.var 4),(.var 5),(.bin .Add (.bin .Add (.sl (.var 6) .omt (.var 7)) (.tup [(.var 12)])) (.sl (.var 6) (.bin .Add (.var 7) (.con (.int 1))) .omt))]))],false⟩
noncomputable def fn_law:Fn:=⟨[true],5,[(.asg 1 (.call "L_house" [(.call "L_pen" [(.var 0),(.con (.int 1))])])),(.asg 2 (.call "L_pen" [(.var 0),(.con (.int 2))])),(.asg 3 (.call "L_bent" [(.var 2),(.var 1)])),(.ifs (.cmp .Eq (.call "L_draw" [(.var 2),(.con (.int 4))]) (.con (.int 0))) [(.asg 3 (.call "L_house" [(.var 2)]))] []),(.ifs (.cmp .Gt (.bif .len [(.ix (.var 3) (.con (.int 4)))]) (.con (.int 8))) [(.asg 3 (.var 1))] []),(.for [4] true .of [(.lst [(.var 1),(.var 3)])] bd_law_0),(.ret (.cmp .Eq (.cmp .Eq (.call "show_house" [(.var 1)]) (.call "show_house" [(.var 3)])) (.cmp .Eq (.var 1) (.var 3))))],false⟩
noncomputable def TL:List (String × Fn):=[("is_whole",fn_is_whole),("is_within",fn_is_within),("are_within",fn_are_within),("is_follower",fn_is_follower),("is_way",fn_is_way),("are_spans",fn_are_spans),("is_rule",fn_is_rule),("check_frame",fn_check_frame),("house_of",fn_house_of),("show_row",fn_show_row),("show_follower",fn_show_follower),("show_spans",fn_show_spans),("show_rule",fn_show_rule),("show_house",fn_show_house),("read_number",fn_read_number),("read_numbers",fn_read_numbers),("read_spans",fn_read_spans),("read_follower",fn_read_follower),("read_rule",fn_read_rule),("made_of",fn_made_of),("read_house",fn_read_house),("L_pen",fn_L_pen),("L_draw",fn_L_draw),("L_rule",fn_L_rule),("L_house",fn_L_house),("L_same",fn_L_same),("L_rule_text",fn_L_rule_text),("L_text",fn_L_text),("L_bent",fn_L_bent),("law",fn_law)]
noncomputable def T:Tab:=fun f=>TL.lookup f
theorem T_is_whole:T "is_whole"=some fn_is_whole:=rfl
theorem P_is_whole:T.pins "is_whole"=[true]:=rfl
theorem T_is_within:T "is_within"=some fn_is_within:=rfl
theorem P_is_within:T.pins "is_within"=[true,true,true]:=rfl
theorem T_are_within:T "are_within"=some fn_are_within:=rfl
theorem P_are_within:T.pins "are_within"=[true,true,true,true]:=rfl
theorem T_is_follower:T "is_follower"=some fn_is_follower:=rfl
theorem P_is_follower:T.pins "is_follower"=[true]:=rfl
theorem T_is_way:T "is_way"=some fn_is_way:=rfl
theorem P_is_way:T.pins "is_way"=[true]:=rfl
theorem T_are_spans:T "are_spans"=some fn_are_spans:=rfl
theorem P_are_spans:T.pins "are_spans"=[true,true]:=rfl
theorem T_is_rule:T "is_rule"=some fn_is_rule:=rfl
theorem P_is_rule:T.pins "is_rule"=[true,true,true,true]:=rfl
theorem T_check_frame:T "check_frame"=some fn_check_frame:=rfl
theorem P_check_frame:T.pins "check_frame"=[true,true,true,true,true]:=rfl
theorem T_house_of:T "house_of"=some fn_house_of:=rfl
theorem P_house_of:T.pins "house_of"=[false,false,false,true,true]:=rfl
theorem T_show_row:T "show_row"=some fn_show_row:=rfl
theorem P_show_row:T.pins "show_row"=[false]:=rfl
theorem T_show_follower:T "show_follower"=some fn_show_follower:=rfl
theorem P_show_follower:T.pins "show_follower"=[true]:=rfl
theorem T_show_spans:T "show_spans"=some fn_show_spans:=rfl
theorem P_show_spans:T.pins "show_spans"=[true]:=rfl
theorem T_show_rule:T "show_rule"=some fn_show_rule:=rfl
theorem P_show_rule:T.pins "show_rule"=[false]:=rfl
theorem T_show_house:T "show_house"=some fn_show_house:=rfl
theorem P_show_house:T.pins "show_house"=[true]:=rfl
theorem T_read_number:T "read_number"=some fn_read_number:=rfl
theorem P_read_number:T.pins "read_number"=[false]:=rfl
theorem T_read_numbers:T "read_numbers"=some fn_read_numbers:=rfl
theorem P_read_numbers:T.pins "read_numbers"=[false]:=rfl
theorem T_read_spans:T "read_spans"=some fn_read_spans:=rfl
theorem P_read_spans:T.pins "read_spans"=[false]:=rfl
theorem T_read_follower:T "read_follower"=some fn_read_follower:=rfl
theorem P_read_follower:T.pins "read_follower"=[false]:=rfl
theorem T_read_rule:T "read_rule"=some fn_read_rule:=rfl
theorem P_read_rule:T.pins "read_rule"=[false]:=rfl
theorem T_made_of:T "made_of"=some fn_made_of:=rfl
theorem P_made_of:T.pins "made_of"=[false]:=rfl
theorem T_read_house:T "read_house"=some fn_read_house:=rfl
theorem P_read_house:T.pins "read_house"=[true]:=rfl
theorem T_L_pen:T "L_pen"=some fn_L_pen:=rfl
theorem P_L_pen:T.pins "L_pen"=[true,false]:=rfl
theorem T_L_draw:T "L_draw"=some fn_L_draw:=rfl
theorem P_L_draw:T.pins "L_draw"=[true,true]:=rfl
theorem T_L_rule:T "L_rule"=some fn_L_rule:=rfl
theorem P_L_rule:T.pins "L_rule"=[true,true,true,true,true]:=rfl
theorem T_L_house:T "L_house"=some fn_L_house:=rfl
theorem P_L_house:T.pins "L_house"=[true]:=rfl
theorem T_L_same:T "L_same"=some fn_L_same:=rfl
theorem P_L_same:T.pins "L_same"=[true,true]:=rfl
theorem T_L_rule_text:T "L_rule_text"=some fn_L_rule_text:=rfl
theorem P_L_rule_text:T.pins "L_rule_text"=[true]:=rfl
theorem T_L_text:T "L_text"=some fn_L_text:=rfl
theorem P_L_text:T.pins "L_text"=[false]:=rfl
theorem T_L_bent:T "L_bent"=some fn_L_bent:=rfl
theorem P_L_bent:T.pins "L_bent"=[true,false]:=rfl
theorem T_law:T "law"=some fn_law:=rfl
theorem ok_is_whole:DefOk (glOf L) (top 16) "is_whole" fn_is_whole:=mkD rfl rfl rfl (by decide +kernel) (by kernel_rfl) (bn1 rfl fun _ _ _ _ _ _ _=>rfl)
theorem ok_is_within:DefOk (glOf L) (top 17) "is_within" fn_is_within:=mkD rfl rfl rfl (by decide +kernel) (by kernel_rfl) (bn3 rfl fun _ _ _ _ _ _ _ _ _=>rfl)
theorem ok_are_within:DefOk (glOf L) (top 18) "are_within" fn_are_within:=mkD rfl rfl rfl (by decide +kernel) (by kernel_rfl) (bn4 rfl fun _ _ _ _ _ _ _ _ _ _=>rfl)
theorem ok_is_follower:DefOk (glOf L) (top 19) "is_follower" fn_is_follower:=mkD rfl rfl rfl (by decide +kernel) (by kernel_rfl) (bn1 rfl fun _ _ _ _ _ _ _=>rfl)
theorem ok_is_way:DefOk (glOf L) (top 20) "is_way" fn_is_way:=mkD rfl rfl rfl (by decide +kernel) (by kernel_rfl) (bn1 rfl fun _ _ _ _ _ _ _=>rfl)
theorem ok_are_spans:DefOk (glOf L) (top 21) "are_spans" fn_are_spans:=mkD rfl rfl rfl (by decide +kernel) (by kernel_rfl) (bn2 rfl fun _ _ _ _ _ _ _ _=>rfl)
theorem ok_is_rule:DefOk (glOf L) (top 22) "is_rule" fn_is_rule:=mkD rfl rfl rfl (by decide +kernel) (by kernel_rfl) (bn4 rfl fun _ _ _ _ _ _ _ _ _ _=>rfl)
theorem ok_check_frame:DefOk (glOf L) (top 23) "check_frame" fn_check_frame:=mkD rfl rfl rfl (by decide +kernel) (by kernel_rfl) (bn5 rfl fun _ _ _ _ _ _ _ _ _ _ _=>rfl)
theorem ok_house_of:DefOk (glOf L) (top 24) "house_of" fn_house_of:=mkD rfl rfl rfl (by decide +kernel) (by kernel_rfl) (bn5 rfl fun _ _ _ _ _ _ _ _ _ _ _=>rfl)
theorem ok_show_row:DefOk (glOf L) (top 29) "show_row" fn_show_row:=mkD rfl rfl rfl (by decide +kernel) (by kernel_rfl) (bn1 rfl fun _ _ _ _ _ _ _=>rfl)
theorem ok_show_follower:DefOk (glOf L) (top 30) "show_follower" fn_show_follower:=mkD rfl rfl rfl (by decide +kernel) (by kernel_rfl) (bn1 rfl fun _ _ _ _ _ _ _=>rfl)
theorem ok_show_spans:DefOk (glOf L) (top 31) "show_spans" fn_show_spans:=mkD rfl rfl rfl (by decide +kernel) (by kernel_rfl) (bn1 rfl fun _ _ _ _ _ _ _=>rfl)
theorem ok_show_rule:DefOk (glOf L) (top 32) "show_rule" fn_show_rule:=mkD rfl rfl rfl (by decide +kernel) (by kernel_rfl) (bn1 rfl fun _ _ _ _ _ _ _=>rfl)
theorem ok_show_house:DefOk (glOf L) (top 33) "show_house" fn_show_house:=mkD rfl rfl rfl (by decide +kernel) (by kernel_rfl) (bn1 rfl fun _ _ _ _ _ _ _=>rfl)
theorem ok_read_number:DefOk (glOf L) (top 34) "read_number" fn_read_number:=mkD rfl rfl rfl (by decide +kernel) (by kernel_rfl) (bn1 rfl fun _ _ _ _ _ _ _=>rfl)
theorem ok_read_numbers:DefOk (glOf L) (top 35) "read_numbers" fn_read_numbers:=mkD rfl rfl rfl (by decide +kernel) (by kernel_rfl) (bn1 rfl fun _ _ _ _ _ _ _=>rfl)
theorem ok_read_spans:DefOk (glOf L) (top 36) "read_spans" fn_read_spans:=mkD rfl rfl rfl (by decide +kernel) (by kernel_rfl) (bn1 rfl fun _ _ _ _ _ _ _=>rfl)
theorem ok_read_follower:DefOk (glOf L) (top 37) "read_follower" fn_read_follower:=mkD rfl rfl rfl (by decide +kernel) (by kernel_rfl) (bn1 rfl fun _ _ _ _ _ _ _=>rfl)
theorem ok_read_rule:DefOk (glOf L) (top 38) "read_rule" fn_read_rule:=mkD rfl rfl rfl (by decide +kernel) (by kernel_rfl) (bn1 rfl fun _ _ _ _ _ _ _=>rfl)
theorem ok_made_of:DefOk (glOf L) (top 39) "made_of" fn_made_of:=mkD rfl rfl rfl (by decide +kernel) (by kernel_rfl) (bn1 rfl fun _ _ _ _ _ _ _=>rfl)
theorem ok_read_house:DefOk (glOf L) (top 40) "read_house" fn_read_house:=mkD rfl rfl rfl (by decide +kernel) (by kernel_rfl) (bn1 rfl fun _ _ _ _ _ _ _=>rfl)
theorem ok_L_pen:DefOk (glOf L) (top 42) "_law_pen" fn_L_pen:=mkD rfl rfl rfl (by decide +kernel) (by kernel_rfl) (bn2 rfl fun _ _ _ _ _ _ _ _=>rfl)
theorem ok_L_draw:DefOk (glOf L) (top 43) "_law_draw" fn_L_draw:=mkD rfl rfl rfl (by decide +kernel) (by kernel_rfl) (bn2 rfl fun _ _ _ _ _ _ _ _=>rfl)
theorem ok_L_rule:DefOk (glOf L) (top 44) "_law_rule" fn_L_rule:=mkD rfl rfl rfl (by decide +kernel) (by kernel_rfl) (bn5 rfl fun _ _ _ _ _ _ _ _ _ _ _=>rfl)
theorem ok_L_house:DefOk (glOf L) (top 45) "_law_house" fn_L_house:=mkD rfl rfl rfl (by decide +kernel) (by kernel_rfl) (bn1 rfl fun _ _ _ _ _ _ _=>rfl)
theorem ok_L_same:DefOk (glOf L) (top 46) "_law_same" fn_L_same:=mkD rfl rfl rfl (by decide +kernel) (by kernel_rfl) (bn2 rfl fun _ _ _ _ _ _ _ _=>rfl)
theorem ok_L_rule_text:DefOk (glOf L) (top 47) "_law_rule_text" fn_L_rule_text:=mkD rfl rfl rfl (by decide +kernel) (by kernel_rfl) (bn1 rfl fun _ _ _ _ _ _ _=>rfl)
theorem ok_L_text:DefOk (glOf L) (top 48) "_law_text" fn_L_text:=mkD rfl rfl rfl (by decide +kernel) (by kernel_rfl) (bn1 rfl fun _ _ _ _ _ _ _=>rfl)
theorem ok_L_bent:DefOk (glOf L) (top 49) "_law_bent" fn_L_bent:=mkD rfl rfl rfl (by decide +kernel) (by kernel_rfl) (bn2 rfl fun _ _ _ _ _ _ _ _=>rfl)
theorem ok_law:DefOk (glOf L) (top 50) "law" fn_law:=mkD rfl rfl rfl (by decide +kernel) (by kernel_rfl) (bn1 rfl fun _ _ _ _ _ _ _=>rfl)
end Tx
namespace Mx
open CI Tx
set_option compiler.extract_closed false
local macro_rules | `(tactic| walk_at $s:str) => do if !s.getString.startsWith "!" then Lean.Macro.throwUnsupported else `(tactic| simp only [$[$((("rb_ok ex_tryO b_or fl_ok nx_nx nx_rt go_some done_some d_sh d_ow g_sh g_ow hg_val hg_slot kTr_some wr_f wr_t kFz_sh ev_varF ev_con kSm_t sm_0 sm_1 sm_2 sm_3 sm_4 sm_5 kTup_ kLst_ ev_tup ev_lst evs_nil kCons2_ kCons1_ evs_cons evHs_nil kHCons2_ kHCons1_ kVal_ kValO_ kSlot_t opd_var opd_con opd_tup opd_lst opd_bin opd_neg opd_cmp opd_ix opd_sl opd_call opd_bif opd_isi opd_comp evHs_cons kBin2_ kBin1_ ev_bin binO_i binO_t binO_s binO_l b_add b_sub b_mulR b_mulL b_div b_mod b_shl1 b_shr b_and b_cat b_catT kNeg_ ev_neg kNotT_ ev_notT kNotF_ notO_bl ev_notF cmpO_ cmpB_ kCmp2_ kCmp1_ ev_cmp kCh3_ kCh_b kCh2_ kCh1_ ev_cmp2 c_lt c_le c_gt c_ge c_eqi c_nei c_eqs c_nes t_bl ev_and ev_or ev_ite kAnd_b kOr_b kIte_b kIx2_ kIx1_ ev_ix ixO_tI ixO_lI at_0 at_1 at_2 kSl3_ kSl2_ kSl1_ prt_omt kPart_ prt_con prt_var prt_bin ev_sl kCall_ doCall_ kCl1_ kCl3_ kCl2_ kLd_ ld_nil ld_sh ld_owT ld_owF ld_slot kLs_sh kLs_owT kLs_owF gb_nil gb_f gb_fv gb_val gb_slot kGb_ow kGb_sh kBif_ ev_bif ga_nil gaC_ ga_cons f_lenL f_lenT f_intB f_tupL kIsi_ ev_isi io_int_non io_int_bl io_int_int io_int_str io_int_tup io_int_lst io_bool_non io_bool_bl io_bool_int io_bool_str io_bool_tup io_bool_lst io_str_non io_str_bl io_str_int io_str_str io_str_tup io_str_lst io_tuple_bl io_tuple_int io_tuple_str io_tuple_tup kApp1_ kApp_ kIf0_t ev_app isOw_ isOwO_ow kAsg_ ex_asg st_ stO_unS stO_unO stO_shS stO_okS okS_un okS_sh kAsgT_ ex_asgT bt_many ss_nil ss_cons kSs_ kSet2_ kSet1_ ex_set setO_1 kDrop_ ex_expr retO_sh kRet_ ex_retV er_con er_tup er_lst er_bin er_cmp er_and er_ite er_call er_bif er_comp kIf_b ex_ifs forO_ kFor_ ex_for exs_nil exs_cons rs_none to_none kRun_nx kRun_rt ev_comp giveOut_n evTs_cons pinOk_sh opd_bitl bitO_ kBit_ ev_bitl zg0 zg1 zs0 zs1 zb zm zi zc zn zr0 zr1 zl0 zl1 znt znf zko zks zkn ev_call kExt1_ kExt_ ev_ext kPut2_ isDc_ kIf2_t b_cat0 kPS_ isDs_ kPutS_ opd_spl kJoi_ ev_joi ev_spl ev_stw stwO_ er_joi P_is_whole P_is_within P_are_within P_is_follower P_is_way P_are_spans P_is_rule P_check_frame P_house_of P_show_row P_show_follower P_show_spans P_show_rule P_show_house P_read_number P_read_numbers P_read_spans P_read_follower P_read_rule P_made_of P_read_house P_L_pen P_L_draw P_L_rule P_L_house P_L_same P_L_rule_text P_L_text P_L_bent if_true if_false Bool.false_eq_true decide_true decide_false Bool.true_eq_false not_true_eq_false not_false_eq_true and_self and_true true_and or_true true_or List.length_append reduceIte Int.reduceLT Int.reduceLE Int.reduceGT Int.reduceNeg Nat.reduceAdd Nat.reduceLT Nat.reduceLeDiff Int.reduceEq Int.reduceNe Nat.reduceBEq List.map_cons List.map_nil List.all_cons List.all_nil Bool.and_true Bool.true_and Bool.false_and Bool.and_false List.length_nil List.length_cons beq_self_eq_true compF_ kCmpF_ kTs_1 List.take_succ_cons List.take_zero List.drop_succ_cons List.drop_zero".splitOn " ") ++ (((s.getString.drop 1).toString.replace "%" "List.length_map").replace "&" "Bool.or_false Bool.false_or Bool.or_true Bool.true_or" |>.splitOn " ")).filter (· ≠ "") |>.toArray.map fun x => Lean.mkIdent x.toName):term],*, *])
theorem cib:type_of% (And.intro @bt_one (And.intro @st_ (And.intro @List.getElem?_cons_zero.{0} (And.intro @List.getElem?_cons_succ.{0} (And.intro @List.set_cons_zero.{0} (And.intro @List.set_cons_succ.{0} (And.intro @bt_many (And.intro @ss_cons (And.intro @ss_nil @kSs_))))))))):=(And.intro @bt_one (And.intro @st_ (And.intro @List.getElem?_cons_zero.{0} (And.intro @List.getElem?_cons_succ.{0} (And.intro @List.set_cons_zero.{0} (And.intro @List.set_cons_succ.{0} (And.intro @bt_many (And.intro @ss_cons (And.intro @ss_nil @kSs_)))))))))
noncomputable def drawS (k s m:Int):Int:=if k=0 then s / m else (s*69621+7) % 2147483629
noncomputable def drawV (k s m:Int):Int:=if k=0 then s % m else ((((s*69621+7) % 2147483629) % 65521*40503+((s*69621+7) % 2147483629) / 65521+1)*16807 % 2147483647) / 13 % m
theorem draw_spec {W n:Nat} {k s m:Int} (h1:0<m) (h2:m<100000000000000000000000000000000000000000000000000000000000000000000000000000000):run T W (n+1) "L_draw" [.ow (.lst [.int k,.int s]) true false,.sh (.int m)]=some (.ok (.sh (.int (drawV k s m))),[.ow (.lst [.int k,.int (drawS k s m)]) true false,.sh (.int m)]):=by
 rw [run_ T_L_draw rfl rfl]
 unfold fn_L_draw
 by_cases hk:k=0
 ·subst hk
  unfold drawS drawV
  walk_at "!"
 ·unfold drawS drawV
  walk_at "!"
theorem drawV_lo {k s m:Int} (h:0<m):0≤drawV k s m:=by unfold drawV; split <;> exact Int.emod_nonneg _ (by omega)
theorem drawV_hi {k s m:Int} (h:0<m):drawV k s m<m:=by unfold drawV; split <;> exact Int.emod_lt_of_pos _ h
noncomputable def thD:D→Bool
 | .non=>true | .bl _=>true | .int _=>true | .str _=>true | .tup _=>true | .lst _=>true
 | _=>false
noncomputable def whD:D→Bool
 | .int _=>true
 | _=>false
theorem iswhole_spec {W n:Nat} {d:D} (h:thD d=true):run T W (n+1) "is_whole" [.sh d]=some (.ok (.sh (.bl (whD d))),[.sh d]):=by
 rw [run_ T_is_whole rfl rfl]
 unfold fn_is_whole
 cases d <;> first | (simp only [thD,Bool.false_eq_true] at h; done) | (walk_at "!"; rfl) | (walk_at "!"; done)
noncomputable def wiD (lo hi:Int):D→Bool
 | .int i=>decide (lo≤i) && decide (i≤hi)
 | _=>false
theorem within_spec {W n:Nat} {d:D} {lo hi:Int} (h:thD d=true):run T W (n+2) "is_within" [.sh d,.sh (.int lo),.sh (.int hi)]=some (.ok (.sh (.bl (wiD lo hi d))),[.sh d,.sh (.int lo),.sh (.int hi)]):=by
 rw [run_ T_is_within rfl rfl]
 unfold fn_is_within
 walk_at "!"
 try (simp only [P_is_whole]; walk_at "!")
 simp only [iswhole_spec h]
 walk_at "!"
 by_cases hw:whD d=true
 ·obtain ⟨i,rfl⟩:∃ i,d=.int i:=by cases d <;> first | exact ⟨_,rfl⟩ | cases hw
  simp only [whD]
  walk_at "!"
  simp only [wiD]
  by_cases h1:lo≤i <;> by_cases h2:i≤hi <;> simp only [h1,h2] <;> walk_at "!" <;> rfl
 ·have hw:whD d=false:=by cases e:whD d; rfl; exact absurd e hw
  have hv:wiD lo hi d=false:=by cases d <;> first | rfl | cases hw
  simp only [hw,hv]
  walk_at "!"
noncomputable def penV (ns:List Int) (k:Nat):Int × Int :=
 if k<ns.length∧ns.headD 0 % 2=0 then (0,ns.getD k 0)
 else (1,((if 0<ns.length then ns.getD (k % ns.length) 0 % 2147483587+48611*((k / ns.length:Nat):Int)+3*(k:Int) else 30011*(k:Int)+7)*48271+11*(k:Int)+1) % 2147483647)
theorem at_map {ns:List Int} {k:Nat} (h:k<ns.length):L2.atI (ns.map D.int) (k:Int)=some (.int (ns.getD k 0)):=by
 apply L2.atI_nat
 rw [List.getElem?_map,List.getElem?_eq_getElem h]
 simp [h]
theorem pen_spec {W n:Nat} {ns:List Int} {k:Nat} (hn:ns.length≤63) (hk:k≤100000):run T W (n+1) "L_pen" [.sh (.lst (ns.map .int)),.sh (.int (k:Int))]=some (.ok (.ow (.lst [.int (penV ns k).1,.int (penV ns k).2])),[.sh (.lst (ns.map .int)),.sh (.int (k:Int))]):=by
 rw [run_ T_L_pen rfl rfl]
 unfold fn_L_pen
 by_cases h0:ns=[]
 ·subst h0
  have hb:decide ((k:Int)<((0:Nat):Int))=false:=decide_eq_false (by omega)
  have hb':decide (((0:Nat):Int) > 0)=false:=rfl
  have hb2:decide (0<((0:Nat):Int))=false:=rfl
  have hb3:decide ((k:Int)<0)=false:=decide_eq_false (by omega)
  have ev:penV [] k=(1,((30011*(k:Int)+7)*48271+11*(k:Int)+1) % 2147483647):=by
   unfold penV; rw [if_neg (by simp),if_neg (by simp)]
  walk_at "!%"
 ·have hpos:0<ns.length:=List.length_pos_iff.mpr h0
  have hb2:decide (0<(ns.length:Int))=true:=decide_eq_true (by omega)
  have e0:(ns.map D.int)[0]?=some (.int (ns.headD 0)):=by cases ns with | nil=>exact absurd rfl h0 | cons a r=>rfl
  have e1:(0:Int)<(ns.length:Int):=by omega
  have e2:(ns.length:Int)<100000000000000000000000000000000000000000000000000000000000000000000000000000000:=by omega
  have e3:(k:Int) / (ns.length:Int)=((k / ns.length:Nat):Int):=by rw [Int.natCast_ediv]
  have e4:(k:Int) % (ns.length:Int)=((k % ns.length:Nat):Int):=by rw [Int.natCast_emod]
  have e5:=at_map (ns:=ns) (k:=k % ns.length) (Nat.mod_lt _ hpos)
  by_cases hk2:k<ns.length
  ·have hb:decide ((k:Int)<(ns.length:Int))=true:=decide_eq_true (by omega)
   have e6:=at_map hk2
   by_cases hm:ns.headD 0 % 2=0
   ·have ev:penV ns k=(0,ns.getD k 0):=by unfold penV; rw [if_pos ⟨hk2,hm⟩]
    clear hk2
    walk_at "!%"
   ·have hm':decide (ns.headD 0 % 2=0)=false:=decide_eq_false hm
    have ev:penV ns k=(1,((ns.getD (k % ns.length) 0 % 2147483587+48611*((k / ns.length:Nat):Int)+3*(k:Int))*48271+11*(k:Int)+1) % 2147483647):=by
     unfold penV; rw [if_neg (fun z=>hm z.2),if_pos hpos]
    clear hk2 hm
    walk_at "!%"
  ·have hb:decide ((k:Int)<(ns.length:Int))=false:=decide_eq_false (by omega)
   have ev:penV ns k=(1,((ns.getD (k % ns.length) 0 % 2147483587+48611*((k / ns.length:Nat):Int)+3*(k:Int))*48271+11*(k:Int)+1) % 2147483647):=by
    unfold penV; rw [if_neg (fun z=>hk2 z.1),if_pos hpos]
   clear hk2
   walk_at "!%"
theorem sw_span_leap:((PySem.Str.ofString "span") == (PySem.Str.ofString "leap"))=false:=by decide +kernel
theorem sw_span_back:((PySem.Str.ofString "span") == (PySem.Str.ofString "back"))=false:=by decide +kernel
theorem sw_span_again:((PySem.Str.ofString "span") == (PySem.Str.ofString "again"))=false:=by decide +kernel
theorem sw_span_range:((PySem.Str.ofString "span") == (PySem.Str.ofString "range"))=false:=by decide +kernel
theorem sw_span_above:((PySem.Str.ofString "span") == (PySem.Str.ofString "above"))=false:=by decide +kernel
theorem sw_span_never:((PySem.Str.ofString "span") == (PySem.Str.ofString "never"))=false:=by decide +kernel
theorem sw_in_span:cmpD .In (.str (PySem.Str.ofString "span")) (.tup [.str (PySem.Str.ofString "leap"),.str (PySem.Str.ofString "back"),.str (PySem.Str.ofString "again")])=some false:=(rfl)
theorem sw_leap_span:((PySem.Str.ofString "leap") == (PySem.Str.ofString "span"))=false:=by decide +kernel
theorem sw_leap_back:((PySem.Str.ofString "leap") == (PySem.Str.ofString "back"))=false:=by decide +kernel
theorem sw_leap_again:((PySem.Str.ofString "leap") == (PySem.Str.ofString "again"))=false:=by decide +kernel
theorem sw_leap_range:((PySem.Str.ofString "leap") == (PySem.Str.ofString "range"))=false:=by decide +kernel
theorem sw_leap_above:((PySem.Str.ofString "leap") == (PySem.Str.ofString "above"))=false:=by decide +kernel
theorem sw_leap_never:((PySem.Str.ofString "leap") == (PySem.Str.ofString "never"))=false:=by decide +kernel
theorem sw_in_leap:cmpD .In (.str (PySem.Str.ofString "leap")) (.tup [.str (PySem.Str.ofString "leap"),.str (PySem.Str.ofString "back"),.str (PySem.Str.ofString "again")])=some true:=(rfl)
theorem sw_back_span:((PySem.Str.ofString "back") == (PySem.Str.ofString "span"))=false:=by decide +kernel
theorem sw_back_leap:((PySem.Str.ofString "back") == (PySem.Str.ofString "leap"))=false:=by decide +kernel
theorem sw_back_again:((PySem.Str.ofString "back") == (PySem.Str.ofString "again"))=false:=by decide +kernel
theorem sw_back_range:((PySem.Str.ofString "back") == (PySem.Str.ofString "range"))=false:=by decide +kernel
theorem sw_back_above:((PySem.Str.ofString "back") == (PySem.Str.ofString "above"))=false:=by decide +kernel
theorem sw_back_never:((PySem.Str.ofString "back") == (PySem.Str.ofString "never"))=false:=by decide +kernel
theorem sw_in_back:cmpD .In (.str (PySem.Str.ofString "back")) (.tup [.str (PySem.Str.ofString "leap"),.str (PySem.Str.ofString "back"),.str (PySem.Str.ofString "again")])=some true:=(rfl)
theorem sw_again_span:((PySem.Str.ofString "again") == (PySem.Str.ofString "span"))=false:=by decide +kernel
theorem sw_again_leap:((PySem.Str.ofString "again") == (PySem.Str.ofString "leap"))=false:=by decide +kernel
theorem sw_again_back:((PySem.Str.ofString "again") == (PySem.Str.ofString "back"))=false:=by decide +kernel
theorem sw_again_range:((PySem.Str.ofString "again") == (PySem.Str.ofString "range"))=false:=by decide +kernel
theorem sw_again_above:((PySem.Str.ofString "again") == (PySem.Str.ofString "above"))=false:=by decide +kernel
theorem sw_again_never:((PySem.Str.ofString "again") == (PySem.Str.ofString "never"))=false:=by decide +kernel
theorem sw_in_again:cmpD .In (.str (PySem.Str.ofString "again")) (.tup [.str (PySem.Str.ofString "leap"),.str (PySem.Str.ofString "back"),.str (PySem.Str.ofString "again")])=some true:=(rfl)
theorem sw_range_span:((PySem.Str.ofString "range") == (PySem.Str.ofString "span"))=false:=by decide +kernel
theorem sw_range_leap:((PySem.Str.ofString "range") == (PySem.Str.ofString "leap"))=false:=by decide +kernel
theorem sw_range_back:((PySem.Str.ofString "range") == (PySem.Str.ofString "back"))=false:=by decide +kernel
theorem sw_range_again:((PySem.Str.ofString "range") == (PySem.Str.ofString "again"))=false:=by decide +kernel
theorem sw_range_above:((PySem.Str.ofString "range") == (PySem.Str.ofString "above"))=false:=by decide +kernel
theorem sw_range_never:((PySem.Str.ofString "range") == (PySem.Str.ofString "never"))=false:=by decide +kernel
theorem sw_in_range:cmpD .In (.str (PySem.Str.ofString "range")) (.tup [.str (PySem.Str.ofString "leap"),.str (PySem.Str.ofString "back"),.str (PySem.Str.ofString "again")])=some false:=(rfl)
theorem sw_above_span:((PySem.Str.ofString "above") == (PySem.Str.ofString "span"))=false:=by decide +kernel
theorem sw_above_leap:((PySem.Str.ofString "above") == (PySem.Str.ofString "leap"))=false:=by decide +kernel
theorem sw_above_back:((PySem.Str.ofString "above") == (PySem.Str.ofString "back"))=false:=by decide +kernel
theorem sw_above_again:((PySem.Str.ofString "above") == (PySem.Str.ofString "again"))=false:=by decide +kernel
theorem sw_above_range:((PySem.Str.ofString "above") == (PySem.Str.ofString "range"))=false:=by decide +kernel
theorem sw_above_never:((PySem.Str.ofString "above") == (PySem.Str.ofString "never"))=false:=by decide +kernel
theorem sw_in_above:cmpD .In (.str (PySem.Str.ofString "above")) (.tup [.str (PySem.Str.ofString "leap"),.str (PySem.Str.ofString "back"),.str (PySem.Str.ofString "again")])=some false:=(rfl)
theorem sw_never_span:((PySem.Str.ofString "never") == (PySem.Str.ofString "span"))=false:=by decide +kernel
theorem sw_never_leap:((PySem.Str.ofString "never") == (PySem.Str.ofString "leap"))=false:=by decide +kernel
theorem sw_never_back:((PySem.Str.ofString "never") == (PySem.Str.ofString "back"))=false:=by decide +kernel
theorem sw_never_again:((PySem.Str.ofString "never") == (PySem.Str.ofString "again"))=false:=by decide +kernel
theorem sw_never_range:((PySem.Str.ofString "never") == (PySem.Str.ofString "range"))=false:=by decide +kernel
theorem sw_never_above:((PySem.Str.ofString "never") == (PySem.Str.ofString "above"))=false:=by decide +kernel
theorem sw_in_never:cmpD .In (.str (PySem.Str.ofString "never")) (.tup [.str (PySem.Str.ofString "leap"),.str (PySem.Str.ofString "back"),.str (PySem.Str.ofString "again")])=some false:=(rfl)
theorem sw_all:type_of% (And.intro @sw_span_leap (And.intro @sw_span_back (And.intro @sw_span_again (And.intro @sw_span_range (And.intro @sw_span_above (And.intro @sw_span_never (And.intro @sw_in_span (And.intro @sw_leap_span (And.intro @sw_leap_back (And.intro @sw_leap_again (And.intro @sw_leap_range (And.intro @sw_leap_above (And.intro @sw_leap_never (And.intro @sw_in_leap (And.intro @sw_back_span (And.intro @sw_back_leap (And.intro @sw_back_again (And.intro @sw_back_range (And.intro @sw_back_above (And.intro @sw_back_never (And.intro @sw_in_back (And.intro @sw_again_span (And.intro @sw_again_leap (And.intro @sw_again_back (And.intro @sw_again_range (And.intro @sw_again_above (And.intro @sw_again_never (And.intro @sw_in_again (And.intro @sw_range_span (And.intro @sw_range_leap (And.intro @sw_range_back (And.intro @sw_range_again (And.intro @sw_range_above (And.intro @sw_range_never (And.intro @sw_in_range (And.intro @sw_above_span (And.intro @sw_above_leap (And.intro @sw_above_back (And.intro @sw_above_again (And.intro @sw_above_range (And.intro @sw_above_never (And.intro @sw_in_above (And.intro @sw_never_span (And.intro @sw_never_leap (And.intro @sw_never_back (And.intro @sw_never_again (And.intro @sw_never_range (And.intro @sw_never_above @sw_in_never)))))))))))))))))))))))))))))))))))))))))))))))):=(And.intro @sw_span_leap (And.intro @sw_span_back (And.intro @sw_span_again (And.intro @sw_span_range (And.intro @sw_span_above (And.intro @sw_span_never (And.intro @sw_in_span (And.intro @sw_leap_span (And.intro @sw_leap_back (And.intro @sw_leap_again (And.intro @sw_leap_range (And.intro @sw_leap_above (And.intro @sw_leap_never (And.intro @sw_in_leap (And.intro @sw_back_span (And.intro @sw_back_leap (And.intro @sw_back_again (And.intro @sw_back_range (And.intro @sw_back_above (And.intro @sw_back_never (And.intro @sw_in_back (And.intro @sw_again_span (And.intro @sw_again_leap (And.intro @sw_again_back (And.intro @sw_again_range (And.intro @sw_again_above (And.intro @sw_again_never (And.intro @sw_in_again (And.intro @sw_range_span (And.intro @sw_range_leap (And.intro @sw_range_back (And.intro @sw_range_again (And.intro @sw_range_above (And.intro @sw_range_never (And.intro @sw_in_range (And.intro @sw_above_span (And.intro @sw_above_leap (And.intro @sw_above_back (And.intro @sw_above_again (And.intro @sw_above_range (And.intro @sw_above_never (And.intro @sw_in_above (And.intro @sw_never_span (And.intro @sw_never_leap (And.intro @sw_never_back (And.intro @sw_never_again (And.intro @sw_never_range (And.intro @sw_never_above @sw_in_never))))))))))))))))))))))))))))))))))))))))))))))))
noncomputable def awV (k lo hi:Int) (ps:List D):Bool:=decide ((ps.length:Int)=k) && ps.all (wiD lo hi)
noncomputable def wayD:D→Bool
 | .str x=>inD (.str x) [.str (PySem.Str.ofString "like"),.str (PySem.Str.ofString "against"),.str (PySem.Str.ofString "aside"),.str (PySem.Str.ofString "any")]
 | _=>false
noncomputable def spV (ba oc:Int):List D→Bool
 | [a,b]=>wiD 0 (ba - 1) a && wiD 0 (2 ^ oc.toNat - 1) b
 | _=>false
noncomputable def leI:List D→Bool
 | [.int i,.int j]=>decide (i≤j)
 | _=>false
noncomputable def neI:List D→Bool
 | [.int i,.int j]=>!decide (i=j)
 | _=>false
noncomputable def neV (oc:Int):List D→Bool
 | [a,b,c]=>wiD 0 (oc - 1) a && (wiD 0 (oc - 1) b && wayD c)
 | _=>false
theorem f_allD {Z:List D} {p:D→Bool}:biD .all [.lst (Z.map fun z=>.bl (p z))]=some (.sh (.bl (Z.all p))):=by
 have h:boolsD (Z.map fun z=>.bl (p z))=some (Z.map p):=by
  induction Z with
  | nil=>rfl
  | cons z Z ih=>simp [boolsD,ih]
 show (boolsD _).map _=_
 rw [h]
 simp [List.all_map]
theorem wi_int {lo hi:Int} {d:D} (h:wiD lo hi d=true):∃ i,d=.int i∧lo≤i∧i≤hi:=by
 cases d with
 | int i =>
  simp only [wiD,Bool.and_eq_true,decide_eq_true_eq] at h
  exact ⟨i,rfl,h.1,h.2⟩
 | _=>cases h
theorem wh_no {lo hi:Int} {d:D} (h:whD d=false):wiD lo hi d=false:=by cases d <;> first | rfl | cases h
theorem wh_int {d:D} (h:whD d=true):∃ i,d=.int i:=by cases d <;> first | exact ⟨_,rfl⟩ | cases h
theorem are_within_spec {W n:Nat} {k lo hi:Int} {ps:List D} (hl:ps.length≤1000) (hy:ps.all thD=true) :
  run T W (n+3) "are_within" [.sh (.tup ps),.sh (.int k),.sh (.int lo),.sh (.int hi)]=some (.ok (.sh (.bl (awV k lo hi ps))),[.sh (.tup ps),.sh (.int k),.sh (.int lo),.sh (.int hi)]):=by
 rw [run_ T_are_within rfl rfl]
 unfold fn_are_within
 have hi':itemsOf .of [.slot 0] [.sh (.tup ps),.sh (.int k),.sh (.int lo),.sh (.int hi)]=some (ps,none):=it_ts rfl
 obtain ⟨acc,ρi,e,⟨t1,rfl,ht1,rfl⟩,_⟩:=compL_inv (tests:=evTs T.pins (run T W (n+2)) []) (elt:=ev T.pins (run T W (n+2)) false el_are_within_0) (bind:=bindT true [3]) (ds:=ps)
  (fun j acc ρ=>∃ (t1:Sl),ρ=[.sh (.int hi),.sh (.int lo),.un,t1]∧okS t1=true∧acc=(ps.take j).map fun y=>.bl (wiD lo hi y))
  (fun j d hd acc ρ hρ=>by
   obtain ⟨t1,rfl,ht1,rfl⟩:=hρ
   have hw:=within_spec (W:=W) (n:=n) (lo:=lo) (hi:=hi) (List.all_eq_true.mp hy d (List.mem_of_getElem? hd))
   refine ⟨_,true,_,by simp only [cib,stO_okS ht1] <;> rfl,evTs_nil,fun _=>?_,fun z=>nomatch z⟩
   refine ⟨.sh (.bl (wiD lo hi d)),[.sh (.int hi),.sh (.int lo),.un,.sh d], ?_,_,rfl,rfl,by rw [List.take_succ,hd,List.map_append]; rfl⟩
   unfold el_are_within_0
   clear hd hy hi' ht1 hl
   walk_at "!within_spec f_allD %")
  [] [.sh (.int hi),.sh (.int lo),.un,.un] ⟨_,rfl,rfl,rfl⟩
 rw [List.take_length] at e
 have hsm:smallL ps.length=true:=smallL_ (by omega)
 cases c:decide ((ps.length:Int)=k)
 ·have hv:awV k lo hi ps=false:=by unfold awV; rw [c]; rfl
  clear hy hl ht1
  walk_at "!within_spec f_allD %"
 ·have hv:awV k lo hi ps=ps.all (wiD lo hi):=by unfold awV; rw [c]; rfl
  clear hy hl ht1
  walk_at "!within_spec f_allD %"
  rw [kComp_n hi']
  walk_at "!within_spec f_allD %"
  all_goals (rw [compF_ rfl]; walk_at "!within_spec f_allD %")
theorem spans_b {i oc:Int} (h0:0≤i) (h1:0≤oc):decide ((PySem.Builtin.Int.intBits i:Int)≤oc)=decide (i≤2 ^ oc.toNat - 1):=by
 apply decide_eq_decide.mpr
 obtain ⟨m,rfl⟩:∃ m:Nat,oc=m:=⟨oc.toNat,by omega⟩
 have h:=PySem.intBits_le_iff (m:=m) (x:=i)
 have e:((2 ^ m:Nat):Int)=(2:Int) ^ m:=by norm_cast
 rw [Int.toNat_natCast,← e]
 constructor
 ·intro q
  have:=h.mp (by omega)
  omega
 ·intro q
  have:=h.mpr (by omega)
  omega
theorem are_spans_spec {W n:Nat} {oc:Int} {d:D} (h1:0≤oc) (hd:thD d=true) :
  run T W (n+2) "are_spans" [.sh d,.sh (.int oc)]=some (.ok (.sh (.bl (wiD 0 (2 ^ oc.toNat - 1) d))),[.sh d,.sh (.int oc)]):=by
 rw [run_ T_are_spans rfl rfl]
 unfold fn_are_spans
 have hw:=iswhole_spec (W:=W) (n:=n) hd
 cases c:whD d
 ·rw [wh_no c]
  rw [c] at hw
  clear c hd h1
  walk_at "!iswhole_spec"
 ·obtain ⟨i,rfl⟩:=wh_int c
  rw [c] at hw
  by_cases c1:0≤i
  ·have c1':decide (0≤i)=true:=decide_eq_true c1
   have hs:=spans_b c1 h1
   have hv:wiD 0 (2 ^ oc.toNat - 1) (.int i)=decide (i≤2 ^ oc.toNat - 1):=by
    show (decide (0≤i) && _)=_
    rw [c1',Bool.true_and]
   rw [hv,← hs]
   clear c hd c1 hs hv h1
   walk_at "!iswhole_spec"
  ·have c1':decide (0≤i)=false:=decide_eq_false c1
   have hv:wiD 0 (2 ^ oc.toNat - 1) (.int i)=false:=by
    show (decide (0≤i) && _)=_
    rw [c1',Bool.false_and]
   clear c hd c1 h1
   walk_at "!iswhole_spec"
theorem c_inW {x:PySem.Str}:cmpD .In (.str x) (.tup [.str (PySem.Str.ofString "like"),.str (PySem.Str.ofString "against"),.str (PySem.Str.ofString "aside"),.str (PySem.Str.ofString "any")])=some (wayD (.str x)):=(rfl)
theorem is_way_spec {W n:Nat} {d:D} (hd:thD d=true):run T W (n+1) "is_way" [.sh d]=some (.ok (.sh (.bl (wayD d))),[.sh d]):=by
 rw [run_ T_is_way rfl rfl]
 unfold fn_is_way
 cases d <;> first | (simp only [thD,Bool.false_eq_true] at hd; done) | (clear hd; walk_at "!c_inW"; rfl) | (clear hd; walk_at "!c_inW"; done)
theorem sl_t1 {a:D} {ps:List D}:slO (some (.tup (a :: ps))) (some (.int 1)) none=some (.sh (.tup ps)):=by
 show slD (.tup (a :: ps)) (some 1) none=_
 have e:HT.sIx (a :: ps).length 0 (some 1)=1:=by
  have h:=HT.sIx_nat (a :: ps).length 0 1
  rw [show ((1:Nat):Int)=1 from rfl] at h
  rw [h,List.length_cons]
  omega
 first
  | show some (RV.sh (.tup (cutD (a :: ps) (some 1) none)))=_
  | (show (if HT.sIx (a :: ps).length 0 (some 1)=0∧HT.sIx (a :: ps).length (a :: ps).length none=(a :: ps).length then none else some (RV.sh (.tup (cutD (a :: ps) (some 1) none))))=_; rw [e,if_neg (fun z=>absurd z.1 (by decide))])
 unfold cutD
 rw [e,HT.sIx_none,List.drop_one,List.tail_cons,List.take_of_length_le (by simp)]
theorem sl_32 {a b c:D}:slO (some (.tup [a,b,c])) none (some (.int 2))=some (.sh (.tup [a,b])):=(rfl)
theorem aw2 {lo hi:Int} {ps:List D} (h:awV 2 lo hi ps=true):∃ i j,ps=[.int i,.int j]∧lo≤i∧i≤hi∧lo≤j∧j≤hi:=by
 unfold awV at h
 simp only [Bool.and_eq_true,decide_eq_true_eq] at h
 match ps,h with
 | [a,b],h =>
  simp only [List.all_cons,List.all_nil,Bool.and_true,Bool.and_eq_true] at h
  obtain ⟨i,rfl,i1,i2⟩:=wi_int h.2.1
  obtain ⟨j,rfl,j1,j2⟩:=wi_int h.2.2
  exact ⟨i,j,rfl,i1,i2,j1,j2⟩
 | [],h=>simp at h
 | [_],h=>simp at h
 | _ :: _ :: _ :: _,h=>simp only [List.length_cons] at h; omega
theorem q22:decide (((2:Nat):Int)=2)=true:=(rfl)
theorem q33:decide (((3:Nat):Int)=3)=true:=(rfl)
theorem q20:decide (((2:Nat):Int)=0)=false:=(rfl)
theorem rule_aw {W n:Nat} {ba oc ma:D} {ps:List D} (hl:ps.length≤1000) (hy:ps.all thD=true) :
  (run T W (n+4) "is_rule" [.sh ba,.sh oc,.sh ma,.sh (.tup (.str (PySem.Str.ofString "leap") :: ps))]=some (.ok (.sh (.bl (awV 1 0 12 ps))),[.sh ba,.sh oc,.sh ma,.sh (.tup (.str (PySem.Str.ofString "leap") :: ps))])) ∧
  (run T W (n+4) "is_rule" [.sh ba,.sh oc,.sh ma,.sh (.tup (.str (PySem.Str.ofString "back") :: ps))]=some (.ok (.sh (.bl (awV 2 1 12 ps))),[.sh ba,.sh oc,.sh ma,.sh (.tup (.str (PySem.Str.ofString "back") :: ps))])) ∧
  (run T W (n+4) "is_rule" [.sh ba,.sh oc,.sh ma,.sh (.tup (.str (PySem.Str.ofString "again") :: ps))]=some (.ok (.sh (.bl (awV 1 1 3 ps))),[.sh ba,.sh oc,.sh ma,.sh (.tup (.str (PySem.Str.ofString "again") :: ps))])):=by
 have l0:decide (((ps.length+1:Nat):Int)=0)=false:=decide_eq_false (by omega)
 have h1:=are_within_spec (W:=W) (n:=n) (k:=1) (lo:=0) (hi:=12) hl hy
 have h2:=are_within_spec (W:=W) (n:=n) (k:=2) (lo:=1) (hi:=12) hl hy
 have h3:=are_within_spec (W:=W) (n:=n) (k:=1) (lo:=1) (hi:=3) hl hy
 clear hl hy
 refine ⟨?_, ?_, ?_⟩
 all_goals
  rw [run_ T_is_rule rfl rfl]
  unfold fn_is_rule
  walk_at "!sw_all sl_t1 sl_32 q22 q33 q20"
theorem rule_span {W n:Nat} {ba oc:Int} {ma:D} {ps:List D} (ho:0≤oc) (hy:ps.all thD=true) :
  run T W (n+4) "is_rule" [.sh (.int ba),.sh (.int oc),.sh ma,.sh (.tup (.str (PySem.Str.ofString "span") :: ps))]=some (.ok (.sh (.bl (spV ba oc ps))),[.sh (.int ba),.sh (.int oc),.sh ma,.sh (.tup (.str (PySem.Str.ofString "span") :: ps))]):=by
 have l0:decide (((ps.length+1:Nat):Int)=0)=false:=decide_eq_false (by omega)
 rw [run_ T_is_rule rfl rfl]
 unfold fn_is_rule
 by_cases c:∃ a b,ps=[a,b]
 ·obtain ⟨a,b,rfl⟩:=c
  simp only [List.all_cons,List.all_nil,Bool.and_true,Bool.and_eq_true] at hy
  have h1:=within_spec (W:=W) (n:=n+1) (lo:=0) (hi:=ba - 1) hy.1
  have h2:=are_spans_spec (W:=W) (n:=n+1) ho hy.2
  have l3:decide (((3:Nat):Int)=0)=false:=rfl
  have hv:spV ba oc [a,b]=(wiD 0 (ba - 1) a && wiD 0 (2 ^ oc.toNat - 1) b):=rfl
  clear hy ho
  cases c1:wiD 0 (ba - 1) a
  ·rw [c1] at h1 hv
   have hv:spV ba oc [a,b]=false:=hv
   walk_at "!sw_all sl_t1 sl_32 q22 q33 q20"
  ·rw [c1] at h1 hv
   have hv:spV ba oc [a,b]=wiD 0 (2 ^ oc.toNat - 1) b:=hv
   walk_at "!sw_all sl_t1 sl_32 q22 q33 q20"
 ·have l2:decide ((ps.length:Int)=2)=false:=decide_eq_false fun z=>c (by
   match ps,z with
   | [a,b],_=>exact ⟨a,b,rfl⟩
   | [],z=>simp at z
   | [_],z=>simp at z
   | _ :: _ :: _ :: _,z=>simp only [List.length_cons] at z; omega)
  have hv:spV ba oc ps=false:=by
   unfold spV
   split
   ·exact absurd ⟨_,_,rfl⟩ c
   ·rfl
  clear c hy ho
  walk_at "!sw_all sl_t1 sl_32 q22 q33 q20"
theorem rule_two {W n:Nat} {ba oc:D} {ma:Int} {ps:List D} (hl:ps.length≤1000) (hy:ps.all thD=true) :
  (run T W (n+4) "is_rule" [.sh ba,.sh oc,.sh (.int ma),.sh (.tup (.str (PySem.Str.ofString "range") :: ps))]=some (.ok (.sh (.bl (awV 2 (-60) 60 ps && leI ps))),[.sh ba,.sh oc,.sh (.int ma),.sh (.tup (.str (PySem.Str.ofString "range") :: ps))])) ∧
  (run T W (n+4) "is_rule" [.sh ba,.sh oc,.sh (.int ma),.sh (.tup (.str (PySem.Str.ofString "above") :: ps))]=some (.ok (.sh (.bl (awV 2 0 ma ps && neI ps))),[.sh ba,.sh oc,.sh (.int ma),.sh (.tup (.str (PySem.Str.ofString "above") :: ps))])):=by
 have l0:decide (((ps.length+1:Nat):Int)=0)=false:=decide_eq_false (by omega)
 have h1:=are_within_spec (W:=W) (n:=n) (k:=2) (lo:=-60) (hi:=60) hl hy
 have h2:=are_within_spec (W:=W) (n:=n) (k:=2) (lo:=0) (hi:=ma) hl hy
 clear hl hy
 have l3:decide (((3:Nat):Int)=0)=false:=rfl
 constructor
 ·rw [run_ T_is_rule rfl rfl]
  unfold fn_is_rule
  clear h2
  walk_at "!sw_all sl_t1 sl_32 q22 q33 q20"
  cases c:awV 2 (-60) 60 ps
  ·walk_at "!"
   all_goals rfl
  ·clear h1
   obtain ⟨i,j,rfl,_⟩:=aw2 c
   have hv:(true && leI [.int i,.int j])=decide (i≤j):=rfl
   clear c
   walk_at "!sw_all sl_t1 sl_32 q22 q33 q20"
 ·rw [run_ T_is_rule rfl rfl]
  unfold fn_is_rule
  clear h1
  walk_at "!sw_all sl_t1 sl_32 q22 q33 q20"
  cases c:awV 2 0 ma ps
  ·walk_at "!"
   all_goals rfl
  ·clear h2
   obtain ⟨i,j,rfl,_⟩:=aw2 c
   have hv:(true && neI [.int i,.int j])=!decide (i=j):=rfl
   clear c
   walk_at "!sw_all sl_t1 sl_32 q22 q33 q20"
theorem rule_never {W n:Nat} {ba ma:D} {oc:Int} {ps:List D} (hy:ps.all thD=true) :
  run T W (n+4) "is_rule" [.sh ba,.sh (.int oc),.sh ma,.sh (.tup (.str (PySem.Str.ofString "never") :: ps))]=some (.ok (.sh (.bl (neV oc ps))),[.sh ba,.sh (.int oc),.sh ma,.sh (.tup (.str (PySem.Str.ofString "never") :: ps))]):=by
 have l0:decide (((ps.length+1:Nat):Int)=0)=false:=decide_eq_false (by omega)
 rw [run_ T_is_rule rfl rfl]
 unfold fn_is_rule
 by_cases c:∃ a b d,ps=[a,b,d]
 ·obtain ⟨a,b,d,rfl⟩:=c
  simp only [List.all_cons,List.all_nil,Bool.and_true,Bool.and_eq_true] at hy
  have h1:=are_within_spec (W:=W) (n:=n) (k:=2) (lo:=0) (hi:=oc - 1) (ps:=[a,b]) (by simp) (by simp [hy.1,hy.2.1])
  have h2:=is_way_spec (W:=W) (n:=n+2) hy.2.2
  have l4:decide (((4:Nat):Int)=0)=false:=rfl
  have hv:neV oc [a,b,d]=(awV 2 0 (oc - 1) [a,b] && wayD d):=by
   unfold neV awV
   simp [Bool.and_assoc]
  clear hy
  cases c1:awV 2 0 (oc - 1) [a,b]
  ·rw [c1] at h1 hv
   have hv:neV oc [a,b,d]=false:=hv
   walk_at "!sw_all sl_t1 sl_32 q22 q33 q20"
  ·rw [c1] at h1 hv
   have hv:neV oc [a,b,d]=wayD d:=hv
   walk_at "!sw_all sl_t1 sl_32 q22 q33 q20"
 ·have l2:decide ((ps.length:Int)=3)=false:=decide_eq_false fun z=>c (by
   match ps,z with
   | [a,b,d],_=>exact ⟨a,b,d,rfl⟩
   | [],z=>simp at z
   | [_],z=>simp at z
   | [_,_],z=>simp at z
   | _ :: _ :: _ :: _ :: _,z=>simp only [List.length_cons] at z; omega)
  have hv:neV oc ps=false:=by
   unfold neV
   split
   ·exact absurd ⟨_,_,_,rfl⟩ c
   ·rfl
  clear c hy
  walk_at "!sw_all sl_t1 sl_32 q22 q33 q20"
theorem pw {j:Int} (h1:0≤j) (h2:j≤12):(0:Int)<2 ^ j.toNat∧(2:Int) ^ j.toNat<100000000000000000000000000000000000000000000000000000000000000000000000000000000:=by
 have h:j.toNat≤12:=by omega
 generalize j.toNat=q at h
 have h3:2 ^ q≤2 ^ 12:=Nat.pow_le_pow_right (by decide) h
 have h4:(2:Int) ^ q≤4096:=by exact_mod_cast h3
 exact ⟨Int.pow_pos (by decide),Int.lt_of_le_of_lt h4 (by decide)⟩
inductive RuleD (no ba oc ma:Int):D→Prop
 | span (a b:Int) (h1:0≤a) (h2:a<ba) (h3:0≤b) (h4:b<2 ^ oc.toNat):RuleD no ba oc ma (.tup [.str "span",.int a,.int b])
 | leap (a:Int) (h1:0≤a) (h2:a≤12):RuleD no ba oc ma (.tup [.str "leap",.int a])
 | back (a b:Int) (h1:1≤a) (h2:a≤12) (h3:1≤b) (h4:b≤12):RuleD no ba oc ma (.tup [.str "back",.int a,.int b])
 | again (a:Int) (h1:1≤a) (h2:a≤3):RuleD no ba oc ma (.tup [.str "again",.int a])
 | range (a b:Int) (h1:-60≤a) (h2:a≤b) (h3:b≤60):RuleD no ba oc ma (.tup [.str "range",.int a,.int b])
 | above (v w:Nat) (h1:(v:Int)≤ma) (h2:(w:Int)≤ma) (h3:v≠w):RuleD no ba oc ma (.tup [.str "above",.int (v:Int),.int (w:Int)])
 | never (a b:Int) (x:PySem.Str) (h1:0≤a) (h2:a<oc) (h3:0≤b) (h4:b<oc) (h5:x="like"∨x="against"∨x="aside"∨x="any"):RuleD no ba oc ma (.tup [.str "never",.int a,.int b,.str x])
section
variable {P:Pins} {C:Calls} {W:Nat} {k s no ba oc ma w:Int} {u6 u7 u8:Sl}
noncomputable def envR (k s no ba oc ma w:Int) (u6 u7 u8:Sl):Env:=[.ow (.lst [.int k,.int s]) true false,.sh (.int no),.sh (.int ba),.sh (.int oc),.sh (.int ma),.sh (.int w),u6,u7,u8]
theorem ifR {a:List S} {i:Int}:ex P C W (.ifs (.cmp .Eq (.var 5) (.con (.int i))) a []) (envR k s no ba oc ma w u6 u7 u8)=if w=i then exs P C W a (envR k s no ba oc ma w u6 u7 u8) else some (.nx,envR k s no ba oc ma w u6 u7 u8):=by
 unfold envR
 by_cases h:w=i
 ·have h':decide (w=i)=true:=decide_eq_true h
  rw [if_pos h]
  clear h
  walk_at "!"
 ·have h':decide (w=i)=false:=decide_eq_false h
  rw [if_neg h]
  clear h
  walk_at "!"
end
theorem at2 {a b:Int} {c:Int} (h1:0≤c) (h2:c<2):L2.atI [D.int a,D.int b] c=some (.int (if c=0 then a else b)):=by
 have:c=0∨c=1:=by omega
 rcases this with rfl | rfl <;> rfl
theorem atW {c:Int} (h1:0≤c) (h2:c<4):∃ x:PySem.Str,L2.atI [D.str "like",D.str "against",D.str "aside",D.str "any"] c=some (.str x)∧(x="like"∨x="against"∨x="aside"∨x="any"):=by
 have:c=0∨c=1∨c=2∨c=3:=by omega
 rcases this with rfl | rfl | rfl | rfl
 ·exact ⟨_,rfl,.inl rfl⟩
 ·exact ⟨_,rfl,.inr (.inl rfl)⟩
 ·exact ⟨_,rfl,.inr (.inr (.inl rfl))⟩
 ·exact ⟨_,rfl,.inr (.inr (.inr rfl))⟩
theorem rule_spec {W n:Nat} {k s0 no ba oc ma:Int} (n1:1≤no) (n2:no≤7) (b1:1≤ba) (b2:ba≤4) (o1:1≤oc) (o2:oc≤12) (m1:1≤ma) (m2:ma≤3) :
  ∃ s' d,run T W (n+2) "L_rule" [.ow (.lst [.int k,.int s0]) true false,.sh (.int no),.sh (.int ba),.sh (.int oc),.sh (.int ma)]=some (.ok (.sh d),[.ow (.lst [.int k,.int s']) true false,.sh (.int no),.sh (.int ba),.sh (.int oc),.sh (.int ma)])∧RuleD no ba oc ma d:=by
 rw [run_ T_L_rule rfl rfl]
 unfold fn_L_rule
 have g1:0<ba:=by omega
 have g2:ba<100000000000000000000000000000000000000000000000000000000000000000000000000000000:=by omega
 have g3:0<oc:=by omega
 have g4:oc<100000000000000000000000000000000000000000000000000000000000000000000000000000000:=by omega
 have g5:0≤oc:=by omega
 have g6:oc≤1000:=by omega
 obtain ⟨g7,g8⟩:=pw g5 o2
 have g9:0<ma:=by omega
 have g10:ma<100000000000000000000000000000000000000000000000000000000000000000000000000000000:=by omega
 have g11:0<ma+1:=by omega
 have g12:ma+1<100000000000000000000000000000000000000000000000000000000000000000000000000000000:=by omega
 have v1:=drawV_lo (k:=k) (s:=s0) (m:=9) (by decide)
 have v2:=drawV_hi (k:=k) (s:=s0) (m:=9) (by decide)
 have e0:ex T.pins (run T W (n+1)) W st_L_rule_0 ([.ow (.lst [.int k,.int s0]) true false,.sh (.int no),.sh (.int ba),.sh (.int oc),.sh (.int ma)] ++ List.replicate 4 .un)=some (.nx,envR k (drawS k s0 9) no ba oc ma (drawV k s0 9) .un .un .un):=by
  unfold envR
  rw [x_st_L_rule_0]
  clear g1 g2 g3 g4 g5 g6 g7 g8 g9 g10 g11 g12 v1 v2 n1 n2 b1 b2 o1 o2 m1 m2
  walk_at "!draw_spec"
 generalize drawV k s0 9=w at *
 generalize drawS k s0 9=s at *
 rw [exs_cons,e0,nx_nx,exs_cons]
 clear e0
 -- a return of a statement ends the def
 have fin:∀ {st:S} {r:List S} {s':Int} {d:D} {u6 u7 u8:Sl},ex T.pins (run T W (n+1)) W st (envR k s no ba oc ma w .un .un .un)=some (.rt (.sh d),envR k s' no ba oc ma w u6 u7 u8)→RuleD no ba oc ma d →
   ∃ s'' d,kRun [.ow (.lst [.int k,.int s0]) true false,.sh (.int no),.sh (.int ba),.sh (.int oc),.sh (.int ma)] ((ex T.pins (run T W (n+1)) W st (envR k s no ba oc ma w .un .un .un)).next (exs T.pins (run T W (n+1)) W r))=some (.ok (.sh d),[.ow (.lst [.int k,.int s'']) true false,.sh (.int no),.sh (.int ba),.sh (.int oc),.sh (.int ma)])∧RuleD no ba oc ma d:=fun h hd=>by
  rw [h,nx_rt,kRun_rt]
  exact ⟨_,_,rfl,hd⟩
 by_cases c0:w<2
 ·refine fin (s':=drawS k (drawS k s ba) (2 ^ oc.toNat)) (d:=.tup [.str "span",.int (drawV k s ba),.int (drawV k (drawS k s ba) (2 ^ oc.toNat))]) (u6:=.un) (u7:=.un) (u8:=.un) ?_ (.span _ _ (drawV_lo g1) (drawV_hi g1) (drawV_lo g7) (drawV_hi g7))
  have c0':decide (w<2)=true:=decide_eq_true c0
  rw [x_st_L_rule_1]
  unfold envR
  clear n1 n2 b1 b2 o1 o2 m1 m2 v1 v2 c0 fin
  walk_at "!draw_spec"
 have e1:ex T.pins (run T W (n+1)) W st_L_rule_1 (envR k s no ba oc ma w .un .un .un)=some (.nx,envR k s no ba oc ma w .un .un .un):=by
  have c0':decide (w<2)=false:=decide_eq_false c0
  rw [x_st_L_rule_1]
  unfold envR
  clear n1 n2 b1 b2 o1 o2 m1 m2 v1 v2 c0 fin
  walk_at "!draw_spec"
 rw [e1,nx_nx,exs_cons]
 clear e1
 by_cases c2:w=2
 ·have x1:=drawV_lo (k:=k) (s:=drawS k s ba) (m:=oc) g3
  have x2:=drawV_hi (k:=k) (s:=drawS k s ba) (m:=oc) g3
  have x3:drawV k (drawS k s ba) oc≤1000:=by omega
  have h4:(2:Int) ^ (drawV k (drawS k s ba) oc).toNat≤2 ^ oc.toNat - 1:=by
   have h1:(drawV k (drawS k s ba) oc).toNat+1≤oc.toNat:=by omega
   have h2:(2:Int) ^ ((drawV k (drawS k s ba) oc).toNat+1)≤2 ^ oc.toNat:=by
    have h3:2 ^ ((drawV k (drawS k s ba) oc).toNat+1)≤2 ^ oc.toNat:=Nat.pow_le_pow_right (by decide) h1
    exact_mod_cast h3
   have h4:(2:Int) ^ ((drawV k (drawS k s ba) oc).toNat+1)=2 ^ (drawV k (drawS k s ba) oc).toNat*2:=Int.pow_succ _ _
   have h5:(0:Int)<2 ^ (drawV k (drawS k s ba) oc).toNat:=Int.pow_pos (by decide)
   omega
  have h5:(0:Int)<2 ^ (drawV k (drawS k s ba) oc).toNat:=Int.pow_pos (by decide)
  refine fin (s':=drawS k (drawS k s ba) oc) (d:=.tup [.str "span",.int (drawV k s ba),.int (2 ^ oc.toNat - 1 - 2 ^ (drawV k (drawS k s ba) oc).toNat)]) (u6:=.un) (u7:=.un) (u8:=.un) ?_ (.span _ _ (drawV_lo g1) (drawV_hi g1) (by omega) (by omega))
  rw [x_st_L_rule_2,ifR,if_pos c2]
  unfold envR
  clear n1 n2 b1 b2 o1 o2 m1 m2 v1 v2 c0 fin h4 h5 x2
  walk_at "!draw_spec"
 rw [x_st_L_rule_2,ifR,if_neg c2,nx_nx,exs_cons]
 by_cases c3:w=3
 ·have x1:=drawV_lo (k:=k) (s:=s) (m:=2) (by decide)
  have x2:=drawV_hi (k:=k) (s:=s) (m:=2) (by decide)
  have hat:=at2 (a:=13) (b:=no+1) x1 x2
  obtain ⟨q,hq⟩:∃ q,q=(if drawV k s 2=0 then 13 else no+1):=⟨_,rfl⟩
  rw [← hq] at hat
  have q1:0<q:=by rw [hq]; split <;> omega
  have q2:q≤13:=by rw [hq]; split <;> omega
  have q3:q<100000000000000000000000000000000000000000000000000000000000000000000000000000000:=by omega
  refine fin (s':=drawS k (drawS k s 2) q) (d:=.tup [.str "leap",.int (drawV k (drawS k s 2) q)]) (u6:=.un) (u7:=.un) (u8:=.un) ?_ (.leap _ (drawV_lo q1) (by have:=drawV_hi (k:=k) (s:=drawS k s 2) q1; omega))
  rw [x_st_L_rule_3,ifR,if_pos c3]
  unfold envR
  clear n1 n2 b1 b2 o1 o2 m1 m2 v1 v2 c0 fin q2 hq x1 x2
  walk_at "!draw_spec"
 rw [x_st_L_rule_3,ifR,if_neg c3,nx_nx,exs_cons]
 by_cases c4:w=4
 ·have x1:=drawV_lo (k:=k) (s:=s) (m:=12) (by decide)
  have x2:=drawV_hi (k:=k) (s:=s) (m:=12) (by decide)
  have x3:=drawV_lo (k:=k) (s:=drawS k s 12) (m:=12) (by decide)
  have x4:=drawV_hi (k:=k) (s:=drawS k s 12) (m:=12) (by decide)
  refine fin (s':=drawS k (drawS k s 12) 12) (d:=.tup [.str "back",.int (1+drawV k s 12),.int (1+drawV k (drawS k s 12) 12)]) (u6:=.un) (u7:=.un) (u8:=.un) ?_ (.back _ _ (by omega) (by omega) (by omega) (by omega))
  rw [x_st_L_rule_4,ifR,if_pos c4]
  unfold envR
  clear n1 n2 b1 b2 o1 o2 m1 m2 v1 v2 c0 fin x1 x2 x3 x4
  walk_at "!draw_spec"
 rw [x_st_L_rule_4,ifR,if_neg c4,nx_nx,exs_cons]
 by_cases c5:w=5
 ·have x1:=drawV_lo (k:=k) (s:=s) (m:=3) (by decide)
  have x2:=drawV_hi (k:=k) (s:=s) (m:=3) (by decide)
  refine fin (s':=drawS k s 3) (d:=.tup [.str "again",.int (1+drawV k s 3)]) (u6:=.un) (u7:=.un) (u8:=.un) ?_ (.again _ (by omega) (by omega))
  rw [x_st_L_rule_5,ifR,if_pos c5]
  unfold envR
  clear n1 n2 b1 b2 o1 o2 m1 m2 v1 v2 c0 fin x1 x2
  walk_at "!draw_spec"
 rw [x_st_L_rule_5,ifR,if_neg c5,nx_nx,exs_cons]
 by_cases c6:w=6
 ·have u1:=drawV_lo (k:=k) (s:=s) (m:=121) (by decide)
  have u2:=drawV_hi (k:=k) (s:=s) (m:=121) (by decide)
  have u3:=drawV_lo (k:=k) (s:=drawS k s 121) (m:=20) (by decide)
  have u4:=drawV_hi (k:=k) (s:=drawS k s 121) (m:=20) (by decide)
  have u5:=drawV_lo (k:=k) (s:=drawS k (drawS k s 121) 20) (m:=2) (by decide)
  have u6:=drawV_hi (k:=k) (s:=drawS k (drawS k s 121) 20) (m:=2) (by decide)
  have hat:=at2 (a:=drawV k s 121 - 60) (b:=drawV k (drawS k s 121) 20 - 12) u5 u6
  obtain ⟨lo,hlo⟩:∃ lo,lo=(if drawV k (drawS k (drawS k s 121) 20) 2=0 then drawV k s 121 - 60 else drawV k (drawS k s 121) 20 - 12):=⟨_,rfl⟩
  rw [← hlo] at hat
  have q1:lo≤60:=by rw [hlo]; split <;> omega
  have q2:-60≤lo:=by rw [hlo]; split <;> omega
  have y1:0<61 - lo:=by omega
  have y2:61 - lo<100000000000000000000000000000000000000000000000000000000000000000000000000000000:=by omega
  obtain ⟨s1,hs1⟩:∃ s1,s1=drawS k (drawS k (drawS k s 121) 20) 2:=⟨_,rfl⟩
  have z1:=drawV_lo (k:=k) (s:=s1) y1
  have z2:=drawV_hi (k:=k) (s:=s1) y1
  refine fin (s':=drawS k s1 (61 - lo)) (d:=.tup [.str "range",.int lo,.int (lo+drawV k s1 (61 - lo))]) (u6:=.sh (.int lo)) (u7:=.un) (u8:=.un) ?_ (.range _ _ q2 (by omega) (by omega))
  rw [x_st_L_rule_6,ifR,if_pos c6]
  have hs1':=hs1.symm
  unfold envR
  clear n1 n2 b1 b2 o1 o2 m1 m2 v1 v2 c0 fin u1 u2 u3 u4 u5 u6 q1 q2 z1 z2 hlo hs1
  walk_at "!draw_spec"
 rw [x_st_L_rule_6,ifR,if_neg c6,nx_nx,exs_cons]
 by_cases c7:w=7
 ·have x1:=drawV_lo (k:=k) (s:=s) g11
  have x2:=drawV_hi (k:=k) (s:=s) g11
  have x3:=drawV_lo (k:=k) (s:=drawS k s (ma+1)) g9
  have x4:=drawV_hi (k:=k) (s:=drawS k s (ma+1)) g9
  obtain ⟨a,ha⟩:∃ a:Nat,drawV k s (ma+1)=(a:Int):=⟨_,(Int.toNat_of_nonneg x1).symm⟩
  have y1:=Int.emod_nonneg ((a:Int)+1+drawV k (drawS k s (ma+1)) ma) (b:=ma+1) (by omega)
  have y2:=Int.emod_lt_of_pos ((a:Int)+1+drawV k (drawS k s (ma+1)) ma) (b:=ma+1) (by omega)
  obtain ⟨b,hb⟩:∃ b:Nat,((a:Int)+1+drawV k (drawS k s (ma+1)) ma) % (ma+1)=(b:Int):=⟨_,(Int.toNat_of_nonneg y1).symm⟩
  have hne:a≠b:=fun z=>by
   subst z
   rcases Int.lt_or_le ((a:Int)+1+drawV k (drawS k s (ma+1)) ma) (ma+1) with h | h
   ·rw [Int.emod_eq_of_lt (by omega) h] at hb
    omega
   ·have h2:((a:Int)+1+drawV k (drawS k s (ma+1)) ma) % (ma+1)=((a:Int)+1+drawV k (drawS k s (ma+1)) ma - (ma+1)):=by
     rw [← Int.sub_emod_right,Int.emod_eq_of_lt (by omega) (by omega)]
    omega
  refine fin (s':=drawS k (drawS k s (ma+1)) ma) (d:=.tup [.str "above",.int (a:Int),.int (b:Int)]) (u6:=.un) (u7:=.sh (.int (a:Int))) (u8:=.un) ?_ (.above _ _ (by omega) (by omega) hne)
  rw [x_st_L_rule_7,ifR,if_pos c7]
  unfold envR
  clear n1 n2 b1 b2 o1 o2 m1 m2 v1 v2 c0 fin x1 x2 x3 x4 y1 y2 hne
  walk_at "!draw_spec"
 rw [x_st_L_rule_7,ifR,if_neg c7,nx_nx,exs_cons,x_st_L_rule_8]
 have x1:=drawV_lo (k:=k) (s:=drawS k (drawS k s oc) oc) (m:=4) (by decide)
 have x2:=drawV_hi (k:=k) (s:=drawS k (drawS k s oc) oc) (m:=4) (by decide)
 obtain ⟨x,hat,hx⟩:=atW x1 x2
 refine ⟨drawS k (drawS k (drawS k s oc) oc) 4,.tup [.str "never",.int (drawV k s oc),.int (drawV k (drawS k s oc) oc),.str x], ?_,.never _ _ _ (drawV_lo g3) (drawV_hi g3) (drawV_lo g3) (drawV_hi g3) hx⟩
 unfold envR
 clear n1 n2 b1 b2 o1 o2 m1 m2 v1 v2 c0 fin x1 x2 hx
 walk_at "!x_st_L_rule_9 draw_spec"
noncomputable def toD (f:Int × Int × Bool):D:=.tup [.int f.1,.int f.2.1,.bl f.2.2]
theorem atb2 {g:Bool} {a b:Int}:L2.atI [D.int a,D.int b] (if g=true then 1 else 0)=some (.int (if g=true then b else a)):=by cases g <;> rfl
theorem ifp {g:Bool} {a b:Int} (ha:0<a) (hb:0<b):0<(if g=true then b else a):=by cases g <;> simpa
theorem ifh {g:Bool} {a b c:Int} (ha:a<c) (hb:b<c):(if g=true then b else a)<c:=by cases g <;> simpa
structure HouseOk (no ba oc:Int) (fs:List (Int × Int × Bool)):Prop where
 n1:1≤no
 n2:no≤7
 b1:1≤ba
 b2:ba≤4
 o1:1≤oc
 o2:oc≤12
 l1:1≤fs.length
 l2:fs.length≤3
 f:∀ f∈fs,0≤f.1∧f.1≤4∧-12≤f.2.1∧f.2.1≤12
theorem house_spec {W n:Nat} {k s:Int}:∃ s' no ba oc fs rs,run T W (n+3) "L_house" [.ow (.lst [.int k,.int s]) true false]=some (.ok (.sh (.tup [.int no,.int ba,.int oc,.tup (fs.map toD),.tup rs])),[.ow (.lst [.int k,.int s']) true false])∧HouseOk no ba oc fs∧rs.length≤8∧∀ d∈rs,RuleD no ba oc (fs.length:Int) d:=by
 rw [run_ T_L_house rfl rfl]
 unfold fn_L_house
 generalize hg:decide (drawV k s 2=0)=g
 have p1:=ifp (g:=g) (a:=4) (b:=7) (by decide) (by decide)
 have p2:=ifh (g:=g) (a:=4) (b:=7) (c:=100000000000000000000000000000000000000000000000000000000000000000000000000000000) (by decide) (by decide)
 have p3:=ifp (g:=g) (a:=2) (b:=4) (by decide) (by decide)
 have p4:=ifh (g:=g) (a:=2) (b:=4) (c:=100000000000000000000000000000000000000000000000000000000000000000000000000000000) (by decide) (by decide)
 have p5:=ifp (g:=g) (a:=2) (b:=3) (by decide) (by decide)
 have p6:=ifh (g:=g) (a:=2) (b:=3) (c:=100000000000000000000000000000000000000000000000000000000000000000000000000000000) (by decide) (by decide)
 have p7:=ifp (g:=g) (a:=2) (b:=5) (by decide) (by decide)
 have p8:=ifh (g:=g) (a:=2) (b:=5) (c:=100000000000000000000000000000000000000000000000000000000000000000000000000000000) (by decide) (by decide)
 obtain ⟨s1,hs1⟩:∃ s1,s1=drawS k s 2:=⟨_,rfl⟩
 obtain ⟨no,hno⟩:∃ no,no=1+drawV k s1 (if g=true then 7 else 4):=⟨_,rfl⟩
 obtain ⟨s2,hs2⟩:∃ s2,s2=drawS k s1 (if g=true then 7 else 4):=⟨_,rfl⟩
 obtain ⟨ba,hba⟩:∃ ba,ba=1+drawV k s2 (if g=true then 4 else 2):=⟨_,rfl⟩
 obtain ⟨s3,hs3⟩:∃ s3,s3=drawS k s2 (if g=true then 4 else 2):=⟨_,rfl⟩
 obtain ⟨oc,hoc⟩:∃ oc,oc=1+drawV k s3 12:=⟨_,rfl⟩
 obtain ⟨s4,hs4⟩:∃ s4,s4=drawS k s3 12:=⟨_,rfl⟩
 obtain ⟨ma,hma⟩:∃ ma,ma=1+drawV k s4 (if g=true then 3 else 2):=⟨_,rfl⟩
 obtain ⟨s5,hs5⟩:∃ s5,s5=drawS k s4 (if g=true then 3 else 2):=⟨_,rfl⟩
 have n1:1≤no:=by have:=drawV_lo (k:=k) (s:=s1) p1; omega
 have n2:no≤7:=by
  have:=drawV_hi (k:=k) (s:=s1) p1
  have:(if g=true then (7:Int) else 4)≤7:=by cases g <;> decide
  omega
 have b1:1≤ba:=by have:=drawV_lo (k:=k) (s:=s2) p3; omega
 have b2:ba≤4:=by
  have:=drawV_hi (k:=k) (s:=s2) p3
  have:(if g=true then (4:Int) else 2)≤4:=by cases g <;> decide
  omega
 have o1:1≤oc:=by have:=drawV_lo (k:=k) (s:=s3) (m:=12) (by decide); omega
 have o2:oc≤12:=by have:=drawV_hi (k:=k) (s:=s3) (m:=12) (by decide); omega
 have m1:1≤ma:=by have:=drawV_lo (k:=k) (s:=s4) p5; omega
 have m2:ma≤3:=by
  have:=drawV_hi (k:=k) (s:=s4) p5
  have:(if g=true then (3:Int) else 2)≤3:=by cases g <;> decide
  omega
 have hi1:itemsOf .rng [.slot 5] [.ow (.lst [.int k,.int s5]) true false,.sh (.bl g),.sh (.int no),.sh (.int ba),.sh (.int oc),.sh (.int ma),.ow (.lst []) false false,.un,.un,.un]=some ((List.range ma.toNat).map fun (j:Nat)=>.int (j:Int),none):=it_r1 rfl (by omega) (by omega)
 have key1:=loopF_inv' (bind:=bindT true [7]) (body:=exs T.pins (run T W (n+2)) W bd_L_house_0)
  (fun pre ρ=>∃ s6 fs t7 t8,ρ=[.ow (.lst [.int k,.int s6]) true false,.sh (.bl g),.sh (.int no),.sh (.int ba),.sh (.int oc),.sh (.int ma),.ow (.lst (fs.map toD)) false false,t7,t8,.un]∧okS t7=true∧okS t8=true∧fs.length=pre.length∧∀ f∈fs,0≤f.1∧f.1≤4∧-12≤f.2.1∧f.2.1≤12)
  (ds:=(List.range ma.toNat).map fun (j:Nat)=>.int (j:Int)) (fun pre d post hds ρ hρ=>by
   obtain ⟨s6,fs,t7,t8,rfl,h7,h8,hl,hf⟩:=hρ
   have hlen:pre.length<ma.toNat:=by
    have:=congrArg List.length hds
    simp at this
    omega
   refine ⟨_,by simp only [cib,stO_okS h7] <;> rfl, ?_⟩
   have hsm:smallL ((fs.map toD).length+1)=true:=smallL_ (by simp; omega)
   have la:=drawV_lo (k:=k) (s:=s6) p7
   have lb:=drawV_hi (k:=k) (s:=s6) p7
   have lc:(if g=true then (5:Int) else 2)≤5:=by cases g <;> decide
   have sa:=drawV_lo (k:=k) (s:=drawS k s6 (if g=true then 5 else 2)) (m:=25) (by decide)
   have sb:=drawV_hi (k:=k) (s:=drawS k s6 (if g=true then 5 else 2)) (m:=25) (by decide)
   refine ⟨[.ow (.lst [.int k,.int (drawS k (drawS k (drawS k s6 (if g=true then 5 else 2)) 25) 4)]) true false,.sh (.bl g),.sh (.int no),.sh (.int ba),.sh (.int oc),.sh (.int ma),.ow (.lst ((fs ++ [(drawV k s6 (if g=true then 5 else 2),drawV k (drawS k s6 (if g=true then 5 else 2)) 25 - 12,decide (drawV k (drawS k (drawS k s6 (if g=true then 5 else 2)) 25) 4=0))]).map toD)) false false,.sh d,.sh (.int (drawV k s6 (if g=true then 5 else 2))),.un], ?_,_,_,_,_,rfl,rfl,rfl,by simp [hl],fun f hm=>?_⟩
   ·unfold bd_L_house_0
    clear hf hds la lb lc sa sb hg hno hs2 hba hs3 hoc hs4 hma hs5 n1 n2 b1 b2 o1 o2 m1 m2 hlen hl hi1 hs1
    walk_at "!atb2 draw_spec"
    simp only [List.map_append,List.map_cons,List.map_nil,toD]
   ·rcases List.mem_append.mp hm with hm | hm
    ·exact hf f hm
    ·rw [List.mem_singleton.mp hm]
     refine ⟨la, ?_, ?_, ?_⟩ <;> simp only <;> omega)
  (ρ:=[.ow (.lst [.int k,.int s5]) true false,.sh (.bl g),.sh (.int no),.sh (.int ba),.sh (.int oc),.sh (.int ma),.ow (.lst []) false false,.un,.un,.un]) ⟨_,[],_,_,rfl,rfl,rfl,rfl,fun f h=>nomatch h⟩
 obtain ⟨ρ1,el1,s6,fs,t7,t8,rfl,h7,h8,hl,hf⟩:=key1
 have hl:fs.length=ma.toNat:=by rw [hl]; simp
 have hr1:=drawV_lo (k:=k) (s:=s6) (m:=9) (by decide)
 have hr2:=drawV_hi (k:=k) (s:=s6) (m:=9) (by decide)
 have hi2:itemsOf .rng [.val (.sh (.int (drawV k s6 9)))] [.ow (.lst [.int k,.int (drawS k s6 9)]) true false,.sh (.bl g),.sh (.int no),.sh (.int ba),.sh (.int oc),.sh (.int ma),.ow (.lst (fs.map toD)) false false,t7,t8,.ow (.lst []) false false]=some ((List.range (drawV k s6 9).toNat).map fun (j:Nat)=>.int (j:Int),none):=it_r1 rfl (by omega) (by omega)
 have key2:=loopF_inv' (bind:=bindT true [7]) (body:=exs T.pins (run T W (n+2)) W bd_L_house_1)
  (fun pre ρ=>∃ s7 rs t7,ρ=[.ow (.lst [.int k,.int s7]) true false,.sh (.bl g),.sh (.int no),.sh (.int ba),.sh (.int oc),.sh (.int ma),.ow (.lst (fs.map toD)) false false,t7,t8,.ow (.lst rs) false false]∧okS t7=true∧rs.length=pre.length∧∀ d∈rs,RuleD no ba oc ma d)
  (ds:=(List.range (drawV k s6 9).toNat).map fun (j:Nat)=>.int (j:Int)) (fun pre d post hds ρ hρ=>by
   obtain ⟨s7,rs,t7,rfl,h7,hl,hR⟩:=hρ
   have hlen:pre.length<(drawV k s6 9).toNat:=by
    have:=congrArg List.length hds
    simp at this
    omega
   refine ⟨_,by simp only [cib,stO_okS h7] <;> rfl, ?_⟩
   have hsm:smallL (rs.length+1)=true:=smallL_ (by omega)
   obtain ⟨s8,dr,er,hrd⟩:=rule_spec (W:=W) (n:=n) (k:=k) (s0:=s7) n1 n2 b1 b2 o1 o2 m1 m2
   refine ⟨[.ow (.lst [.int k,.int s8]) true false,.sh (.bl g),.sh (.int no),.sh (.int ba),.sh (.int oc),.sh (.int ma),.ow (.lst (fs.map toD)) false false,.sh d,t8,.ow (.lst (rs ++ [dr])) false false], ?_,_,_,_,rfl,rfl,by simp [hl],fun d hd=>(List.mem_append.mp hd).elim (hR d) fun q=>by rw [List.mem_singleton.mp q]; exact hrd⟩
   unfold bd_L_house_1
   clear hR hrd hf hds hg hno hs2 hba hs3 hoc hs4 hma hs5 n1 n2 b1 b2 o1 o2 m1 m2 hlen hl hi1 hs1 el1 hi2 hr1 hr2
   walk_at "!draw_spec atb2")
  (ρ:=[.ow (.lst [.int k,.int (drawS k s6 9)]) true false,.sh (.bl g),.sh (.int no),.sh (.int ba),.sh (.int oc),.sh (.int ma),.ow (.lst (fs.map toD)) false false,t7,t8,.ow (.lst []) false false]) ⟨_,[],_,rfl,h7,rfl,fun _ z=>nomatch z⟩
 obtain ⟨ρ2,el2,s7,rs,t7',rfl,h7',hlr,hR⟩:=key2
 have hlr2:rs.length≤8:=by rw [hlr]; simp; omega
 have hlm:(fs.length:Int)=ma:=by omega
 refine ⟨s7,no,ba,oc,fs,rs, ?_,⟨n1,n2,b1,b2,o1,o2,by omega,by omega,hf⟩,hlr2,by rw [hlm]; exact hR⟩
 clear hf n1 n2 b1 b2 o1 o2 m1 m2 hl hlr hr1 hr2 hR hlr2 hlm
 have e1:=hno.symm
 have e2:=hs2.symm
 have e3:=hba.symm
 have e4:=hs3.symm
 have e5:=hoc.symm
 have e6:=hs4.symm
 have e7:=hma.symm
 have e8:=hs5.symm
 have e9:=hs1.symm
 clear hno hs2 hba hs3 hoc hs4 hma hs5 hs1
 walk_at "!atb2 draw_spec"
noncomputable def houseD (no ba oc:Int) (fs:List (Int × Int × Bool)) (rs:List D):D:=.tup [.int no,.int ba,.int oc,.tup (fs.map toD),.tup rs]
theorem is_whole_int {W n:Nat} {i:Int}:run T W (n+1) "is_whole" [.sh (.int i)]=some (.ok (.sh (.bl true)),[.sh (.int i)]):=by
 rw [run_ T_is_whole rfl rfl]
 unfold fn_is_whole
 walk_at "!"
theorem within_ok {W n:Nat} {i a b:Int} (h1:a≤i) (h2:i≤b):run T W (n+2) "is_within" [.sh (.int i),.sh (.int a),.sh (.int b)]=some (.ok (.sh (.bl true)),[.sh (.int i),.sh (.int a),.sh (.int b)]):=by
 rw [run_ T_is_within rfl rfl]
 unfold fn_is_within
 have c1:decide (a≤i)=true:=decide_eq_true h1
 have c2:decide (i≤b)=true:=decide_eq_true h2
 clear h1 h2
 walk_at "!is_whole_int"
theorem f_allT {n:Nat}:biD .all [.lst (List.replicate n (.bl true))]=some (.sh (.bl true)):=by
 have h:boolsD (List.replicate n (.bl true))=some (List.replicate n true):=by
  induction n with
  | zero=>rfl
  | succ n ih=>simp [List.replicate_succ,boolsD,ih]
 show (boolsD _).map _=_
 rw [h]
 simp
mutual
theorem eqD_refl:∀ (n:Nat) (d:D),okD n d=true→eqD d d=true
 | _,.non,_=>by simp [eqD]
 | _,.bl _,_=>by simp [eqD]
 | _,.int _,_=>by simp [eqD]
 | _,.str _,_=>by simp [eqD]
 | 0,.tup _,h=>by simp [okD] at h
 | 0,.lst _,h=>by simp [okD] at h
 | n+1,.tup ds,h=>by simp only [okD] at h; simp only [eqD]; exact eqDs_refl n ds h
 | n+1,.lst ds,h=>by simp only [okD] at h; simp only [eqD]; exact eqDs_refl n ds h
 | _,.ins _ _ _,h=>by simp [okD] at h
 | _,.dct _,h=>by simp [okD] at h
 | _,.exn _,h=>by simp [okD] at h
 | _,.dcs _,h=>by simp [okD] at h
theorem eqDs_refl:∀ (n:Nat) (ds:List D),ds.all (okD n)=true→eqDs ds ds=true
 | _,[],_=>by simp [eqDs]
 | n,d :: ds,h=>by
  simp only [List.all_cons,Bool.and_eq_true] at h
  simp only [eqDs,eqD_refl n d h.1,eqDs_refl n ds h.2,Bool.and_self]
end
theorem c_neR {d:D} (h:okD 20 d=true):cmpD .NotEq d d=some false:=by rw [c_ne h h,eqD_refl 20 d h]; rfl
theorem c_eqR {d:D} (h:okD 20 d=true):cmpD .Eq d d=some true:=by rw [c_eq h h,eqD_refl 20 d h]
theorem it_n {ρ:Env} {k:Nat} (h:k≤1000):itemsOf .rng [.val (.sh (.int (k:Int)))] ρ=some ((List.range k).map fun (j:Nat)=>.int (j:Int),none):=by
 refine Eq.trans (it_r1 (n:=(k:Int)) rfl (by omega) (by omega)) ?_
 rw [Int.toNat_natCast]
noncomputable def plD:Nat→D→Bool
 | _,.bl _=>true
 | _,.int _=>true
 | _,.str _=>true
 | n+1,.tup ds=>decide (ds.length≤1000) && ds.all (plD n)
 | _,_=>false
theorem same_spec {W:Nat}:∀ (j:Nat) (n:Nat) (d:D),plD j d=true→j≤10→run T W (n+j+1) "L_same" [.sh d,.sh d]=some (.ok (.sh (.bl true)),[.sh d,.sh d])
 | j,n,.bl b,_,_=>by
  rw [run_ T_L_same rfl rfl]
  unfold fn_L_same
  have e:=c_eqR (d:=.bl b) rfl
  have e1:cmpD .NotEq (.bl true) (.bl true)=some false:=rfl
  have e2:cmpD .Eq (.bl true) (.bl true)=some true:=rfl
  walk_at "!f_allT"
 | j,n,.int b,_,_=>by
  rw [run_ T_L_same rfl rfl]
  unfold fn_L_same
  have e:=c_eqR (d:=.int b) rfl
  have e1:cmpD .NotEq (.bl false) (.bl false)=some false:=rfl
  have e2:cmpD .Eq (.bl true) (.bl true)=some true:=rfl
  walk_at "!f_allT"
 | j,n,.str b,_,_=>by
  rw [run_ T_L_same rfl rfl]
  unfold fn_L_same
  have e:=c_eqR (d:=.str b) rfl
  have e1:cmpD .NotEq (.bl false) (.bl false)=some false:=rfl
  have e2:cmpD .Eq (.bl false) (.bl false)=some true:=rfl
  walk_at "!f_allT"
 | 0,_,.tup _,h,_=>by simp [plD] at h
 | j+1,n,.tup ds,h,hj=>by
  simp only [plD,Bool.and_eq_true,decide_eq_true_eq] at h
  have ih:∀ d∈ds,run T W (n+j+1) "L_same" [.sh d,.sh d]=some (.ok (.sh (.bl true)),[.sh d,.sh d]):=fun d hd=>same_spec j n d (List.all_eq_true.mp h.2 d hd) (by omega)
  rw [show n+(j+1)+1=(n+j+1)+1 by omega,run_ T_L_same rfl rfl]
  unfold fn_L_same
  have hi:itemsOf .rng [.val (.sh (.int (ds.length:Int)))] [.sh (.tup ds),.sh (.tup ds)]=some ((List.range ds.length).map fun (j:Nat)=>.int (j:Int),none):=by
   refine Eq.trans (it_r1 (n:=(ds.length:Int)) rfl (by omega) (by omega)) ?_
   rw [Int.toNat_natCast]
  obtain ⟨acc,ρi,e,⟨t1,rfl,ht1,rfl⟩,_⟩:=compL_inv (tests:=evTs T.pins (run T W (n+j+1)) []) (elt:=ev T.pins (run T W (n+j+1)) false el_L_same_0) (bind:=bindT true [3]) (ds:=(List.range ds.length).map fun (j:Nat)=>.int (j:Int))
   (fun i acc ρ=>∃ (t1:Sl),ρ=[.sh (.tup ds),.sh (.tup ds),.un,t1]∧okS t1=true∧acc=List.replicate i (.bl true))
   (fun i d hd acc ρ hρ=>by
    obtain ⟨t1,rfl,ht1,rfl⟩:=hρ
    have hil:i<ds.length:=by
     have:=(List.getElem?_eq_some_iff.mp hd).1
     simpa using this
    obtain rfl:d=.int (i:Int):=by
     rw [List.getElem?_map,List.getElem?_range hil] at hd
     exact (Option.some.inj hd).symm
    refine ⟨_,true,_,by simp only [cib,stO_okS ht1] <;> rfl,evTs_nil,fun _=>?_,fun z=>nomatch z⟩
    have hx:ixO (some (.tup ds)) (.int (i:Int))=some (.sh ds[i]):=by
     show (ixD _ _).map _=_
     have:atD ds (i:Int)=some ds[i]:=L2.atI_nat (List.getElem?_eq_getElem hil)
     show (atD ds (i:Int)).map _=_
     rw [this]
     rfl
    have hs:=ih ds[i] (List.getElem_mem hil)
    refine ⟨.sh (.bl true),[.sh (.tup ds),.sh (.tup ds),.un,.sh (.int (i:Int))], ?_,_,rfl,rfl,by rw [List.replicate_succ']; rfl⟩
    unfold el_L_same_0
    clear hd hi ih h ht1
    walk_at "!f_allT")
   [] [.sh (.tup ds),.sh (.tup ds),.un,.un] ⟨_,rfl,rfl,rfl⟩
  rw [List.length_map,List.length_range] at e
  have hsm:smallL (List.replicate ds.length (D.bl true)).length=true:=sm_le (by rw [List.length_replicate]; omega)
  have hne:cmpD .NotEq (.int (ds.length:Int)) (.int (ds.length:Int))=some false:=c_neR rfl
  clear h ih ht1
  walk_at "!f_allT"
  rw [kComp_n hi]
  walk_at "!f_allT"
  all_goals (try (rw [compF_ rfl]; walk_at "!f_allT"))
 | _,_,.non,h,_=>by simp [plD] at h
 | _,_,.lst _,h,_=>by simp [plD] at h
 | _,_,.ins _ _ _,h,_=>by simp [plD] at h
 | _,_,.dct _,h,_=>by simp [plD] at h
 | _,_,.exn _,h,_=>by simp [plD] at h
 | _,_,.dcs _,h,_=>by simp [plD] at h
def rsOk (no ba oc ma:Int) (rs:List D):Prop:=rs.length≤8∧∀ d∈rs,RuleD no ba oc ma d
theorem okD_rule {no ba oc ma:Int} {d:D} {n:Nat} (h:RuleD no ba oc ma d):okD (n+1) d=true:=by cases h <;> simp [okD]
theorem okD_house {no ba oc ma:Int} {fs:List (Int × Int × Bool)} {rs:List D} (h:rsOk no ba oc ma rs):okD 20 (houseD no ba oc fs rs)=true:=by
 have h1:(fs.map toD).all (okD 18)=true:=List.all_eq_true.mpr fun d hd=>by obtain ⟨f,_,rfl⟩:=List.mem_map.mp hd; rfl
 have h2:rs.all (okD 18)=true:=List.all_eq_true.mpr fun d hd=>okD_rule (h.2 d hd)
 show (true && (true && (true && ((fs.map toD).all (okD 18) && (rs.all (okD 18) && true)))))=true
 rw [h1,h2]
 rfl
theorem rule_yes {W n:Nat} {no ba oc ma:Int} {d:D} (o1:1≤oc) (h:RuleD no ba oc ma d):run T W (n+4) "is_rule" [.sh (.int ba),.sh (.int oc),.sh (.int ma),.sh d]=some (.ok (.sh (.bl true)),[.sh (.int ba),.sh (.int oc),.sh (.int ma),.sh d]):=by
 have dt:∀ {p:Prop} [Decidable p],p→decide p=true:=fun h=>decide_eq_true h
 cases h with
 | span a b h1 h2 h3 h4 =>
  have e:=rule_span (W:=W) (n:=n) (ba:=ba) (oc:=oc) (ma:=.int ma) (ps:=[.int a,.int b]) (by omega) rfl
  rwa [show spV ba oc [.int a,.int b]=true by simp only [spV,wiD,Bool.and_eq_true]; exact ⟨⟨dt h1,dt (by omega)⟩,dt h3,dt (by omega)⟩] at e
 | leap a h1 h2 =>
  have e:=(rule_aw (W:=W) (n:=n) (ba:=.int ba) (oc:=.int oc) (ma:=.int ma) (ps:=[.int a]) (by simp) rfl).1
  rwa [show awV 1 0 12 [.int a]=true by simp only [awV,wiD,List.all_cons,List.all_nil,Bool.and_true,Bool.and_eq_true]; exact ⟨rfl,dt h1,dt h2⟩] at e
 | back a b h1 h2 h3 h4 =>
  have e:=(rule_aw (W:=W) (n:=n) (ba:=.int ba) (oc:=.int oc) (ma:=.int ma) (ps:=[.int a,.int b]) (by simp) rfl).2.1
  rwa [show awV 2 1 12 [.int a,.int b]=true by simp only [awV,wiD,List.all_cons,List.all_nil,Bool.and_true,Bool.and_eq_true]; exact ⟨rfl,⟨dt h1,dt h2⟩,dt h3,dt h4⟩] at e
 | again a h1 h2 =>
  have e:=(rule_aw (W:=W) (n:=n) (ba:=.int ba) (oc:=.int oc) (ma:=.int ma) (ps:=[.int a]) (by simp) rfl).2.2
  rwa [show awV 1 1 3 [.int a]=true by simp only [awV,wiD,List.all_cons,List.all_nil,Bool.and_true,Bool.and_eq_true]; exact ⟨rfl,dt h1,dt h2⟩] at e
 | range a b h1 h2 h3 =>
  have e:=(rule_two (W:=W) (n:=n) (ba:=.int ba) (oc:=.int oc) (ma:=ma) (ps:=[.int a,.int b]) (by simp) rfl).1
  rwa [show (awV 2 (-60) 60 [.int a,.int b] && leI [.int a,.int b])=true by simp only [awV,leI,wiD,List.all_cons,List.all_nil,Bool.and_true,Bool.and_eq_true]; exact ⟨⟨rfl,⟨dt h1,dt (by omega)⟩,dt (by omega),dt h3⟩,dt h2⟩] at e
 | above v w h1 h2 h3 =>
  have e:=(rule_two (W:=W) (n:=n) (ba:=.int ba) (oc:=.int oc) (ma:=ma) (ps:=[.int v,.int w]) (by simp) rfl).2
  rwa [show (awV 2 0 ma [.int v,.int w] && neI [.int v,.int w])=true by simp only [awV,neI,wiD,List.all_cons,List.all_nil,Bool.and_true,Bool.and_eq_true]; exact ⟨⟨rfl,⟨dt (by omega),dt h1⟩,dt (by omega),dt h2⟩,by rw [decide_eq_false (by omega)]; rfl⟩] at e
 | never a b x h1 h2 h3 h4 h5 =>
  have e:=rule_never (W:=W) (n:=n) (ba:=.int ba) (ma:=.int ma) (oc:=oc) (ps:=[.int a,.int b,.str x]) rfl
  have hx:wayD (.str x)=true:=by rcases h5 with rfl | rfl | rfl | rfl <;> decide +kernel
  rwa [show neV oc [.int a,.int b,.str x]=true by simp only [neV,wiD,hx,Bool.and_true,Bool.and_eq_true]; exact ⟨⟨dt h1,dt (by omega)⟩,dt h3,dt (by omega)⟩] at e
theorem fol_yes {W n:Nat} {f:Int × Int × Bool} (h:0≤f.1∧f.1≤4∧-12≤f.2.1∧f.2.1≤12):run T W (n+3) "is_follower" [.sh (toD f)]=some (.ok (.sh (.bl true)),[.sh (toD f)]):=by
 rw [run_ T_is_follower rfl rfl]
 unfold fn_is_follower toD
 have h1:=within_ok (W:=W) (n:=n) (i:=f.1) (a:=0) (b:=4) h.1 h.2.1
 have h2:=within_ok (W:=W) (n:=n) (i:=f.2.1) (a:=-12) (b:=12) h.2.2.1 h.2.2.2
 have e6:decide (((3:Nat):Int)=3)=true:=rfl
 clear h
 walk_at "!within_ok"
theorem frame_yes {W n:Nat} {no ba oc:Int} {fs:List (Int × Int × Bool)} {vs rs:List D} (ho:HouseOk no ba oc fs) (hv:vs.length=fs.length) (hr:rs.length≤8) :
  run T W (n+3) "check_frame" [.sh (.int no),.sh (.int ba),.sh (.int oc),.ow (.lst vs) true false,.ow (.lst rs) true false]=some (.ok (.sh .non),[.sh (.int no),.sh (.int ba),.sh (.int oc),.ow (.lst vs) true false,.ow (.lst rs) true false]):=by
 rw [run_ T_check_frame rfl rfl]
 unfold fn_check_frame
 have h1:=within_ok (W:=W) (n:=n) (i:=no) (a:=1) (b:=7) ho.n1 ho.n2
 have h2:=within_ok (W:=W) (n:=n) (i:=ba) (a:=1) (b:=4) ho.b1 ho.b2
 have h3:=within_ok (W:=W) (n:=n) (i:=oc) (a:=1) (b:=12) ho.o1 ho.o2
 have q1:=ho.l1
 have q2:=ho.l2
 have h4:decide ((1:Int)≤(vs.length:Int))=true:=decide_eq_true (by omega)
 have h5:decide ((vs.length:Int)≤3)=true:=decide_eq_true (by omega)
 have h6:decide ((8:Int)<(rs.length:Int))=false:=decide_eq_false (by omega)
 clear ho hv hr q1 q2
 walk_at "!within_ok"
theorem it_e1 {ρ:Env} {i:Nat} {lo:Int} {ds:List D} {p l:Bool} (h:ρ[i]?=some (.ow (.lst ds) p l)):itemsOf (.enum lo) [.slot i] ρ=some (enumD lo ds,some i):=by simp only [itemsOf,h]
theorem enum_mem {lo:Int} {ds:List D} {d:D} (h:d∈enumD lo ds):∃ (j:Int) (x:D),d=.tup [.int j,x]∧x∈ds:=by
 unfold enumD at h
 obtain ⟨j,hj,rfl⟩:=List.mem_map.mp h
 have hj:j<ds.length:=List.mem_range.mp hj
 exact ⟨_,_,rfl,by rw [List.getD_eq_getElem?_getD,List.getElem?_eq_getElem hj]; exact List.getElem_mem hj⟩
theorem house_of_spec {W n:Nat} {no ba oc:Int} {fs:List (Int × Int × Bool)} {rs:List D} (ho:HouseOk no ba oc fs) (hr:rsOk no ba oc fs.length rs) :
  run T W (n+5) "house_of" [.sh (.int no),.sh (.int ba),.sh (.int oc),.ow (.lst (fs.map toD)) true false,.ow (.lst rs) true false]=some (.ok (.sh (houseD no ba oc fs rs)),[.sh (.int no),.sh (.int ba),.sh (.int oc),.ow (.lst (fs.map toD)) true false,.ow (.lst rs) true false]):=by
 rw [run_ T_house_of rfl rfl]
 unfold fn_house_of
 have hf:=frame_yes (W:=W) (n:=n+1) (vs:=fs.map toD) ho (by simp) hr.1
 have hi1:itemsOf (.enum 1) [.slot 3] [.sh (.int no),.sh (.int ba),.sh (.int oc),.ow (.lst (fs.map toD)) true false,.ow (.lst rs) true false,.un,.un]=some (enumD 1 (fs.map toD),some 3):=it_e1 rfl
 obtain ⟨ρ1,e1,t5,t6,rfl,ht5,ht6⟩:=loopF_inv (bind:=bindT false [5,6]) (body:=exs T.pins (run T W (n+4)) W bd_house_of_0)
  (fun ρ=>∃ t5 t6,ρ=[.sh (.int no),.sh (.int ba),.sh (.int oc),.un,.ow (.lst rs) true false,t5,t6]∧okS t5=true∧okS t6=true)
  (ds:=enumD 1 (fs.map toD)) (fun d hd ρ hρ=>by
   obtain ⟨t5,t6,rfl,h5,h6⟩:=hρ
   obtain ⟨j,x,rfl,hx⟩:=enum_mem hd
   obtain ⟨f,hff,rfl⟩:=List.mem_map.mp hx
   refine ⟨_,by simp only [cib,stO_okS h5,stO_okS h6] <;> rfl, ?_⟩
   have hw:=fol_yes (W:=W) (n:=n+1) (ho.f f hff)
   unfold bd_house_of_0
   clear hd hx hff ho hr hf hi1 h5 h6
   walk_at "!"
   refine ⟨_,rfl,_,_,rfl,rfl,rfl⟩)
  (ρ:=[.sh (.int no),.sh (.int ba),.sh (.int oc),.un,.ow (.lst rs) true false,.un,.un]) ⟨_,_,rfl,rfl,rfl⟩
 have hi2:itemsOf (.enum 0) [.slot 4] [.sh (.int no),.sh (.int ba),.sh (.int oc),.ow (.lst (fs.map toD)) true false,.ow (.lst rs) true false,t5,t6]=some (enumD 0 rs,some 4):=it_e1 rfl
 obtain ⟨ρ2,e2,t5',t6',rfl,ht5',ht6'⟩:=loopF_inv (bind:=bindT false [5,6]) (body:=exs T.pins (run T W (n+4)) W bd_house_of_1)
  (fun ρ=>∃ t5 t6,ρ=[.sh (.int no),.sh (.int ba),.sh (.int oc),.ow (.lst (fs.map toD)) true false,.un,t5,t6]∧okS t5=true∧okS t6=true)
  (ds:=enumD 0 rs) (fun d hd ρ hρ=>by
   obtain ⟨t5,t6,rfl,h5,h6⟩:=hρ
   obtain ⟨j,x,rfl,hx⟩:=enum_mem hd
   refine ⟨_,by simp only [cib,stO_okS h5,stO_okS h6] <;> rfl, ?_⟩
   have hw:=rule_yes (W:=W) (n:=n) ho.o1 (hr.2 x hx)
   have hl:((fs.map toD).length:Int)=(fs.length:Int):=by rw [List.length_map]
   unfold bd_house_of_1
   clear hd hx ho hr hf hi1 hi2 h5 h6 e1
   walk_at "!"
   refine ⟨_,rfl,_,_,rfl,rfl,rfl⟩)
  (ρ:=[.sh (.int no),.sh (.int ba),.sh (.int oc),.ow (.lst (fs.map toD)) true false,.un,t5,t6]) ⟨_,_,rfl,ht5,ht6⟩
 unfold houseD
 clear ho hr ht5 ht6
 walk_at "!"
 simp only [takeOut,List.set_cons_zero,List.set_cons_succ,e1,Run.restore,putBack,List.getElem?_cons_zero,List.getElem?_cons_succ,Option.map_some]
 walk_at "!"
 simp only [takeOut,List.set_cons_zero,List.set_cons_succ,e2,Run.restore,putBack,List.getElem?_cons_zero,List.getElem?_cons_succ,Option.map_some]
 walk_at "!"
theorem compL_fg {α:Type} {tests elt:Env→Res RV} {bind:D→Env→Option Env} {xs:List α} (f:α→D) (keep:α→Bool) (g:α→D) (J:Env→Prop)
  (step:∀ x∈xs,∀ ρ,J ρ→∃ ρ1 ρ2,bind (f x) ρ=some ρ1∧tests ρ1=some (.ok (.sh (.bl (keep x))),ρ2)∧(keep x=true→∃ v ρ3,elt ρ2=some (.ok v,ρ3)∧v.d=g x∧J ρ3)∧(keep x=false→J ρ2)) {ρ:Env} (h:J ρ) :
  ∃ ρ',compL tests elt bind (xs.map f) [] ρ=some (.ok ((xs.filter keep).map g),ρ')∧J ρ':=by
 obtain ⟨acc,ρ',e,⟨rfl,hJ⟩,_⟩:=compL_inv (tests:=tests) (elt:=elt) (bind:=bind) (ds:=xs.map f) (fun j acc ρ=>acc=((xs.take j).filter keep).map g∧J ρ)
  (fun j d hd acc ρ ⟨ha,hJ⟩=>by
   rw [List.getElem?_map] at hd
   cases hq:xs[j]? with
   | none=>rw [hq] at hd; cases hd
   | some x =>
    rw [hq] at hd
    cases hd
    obtain ⟨ρ1,ρ2,h1,h2,h3,h4⟩:=step x (List.mem_of_getElem? hq) ρ hJ
    refine ⟨ρ1,keep x,ρ2,h1,h2,fun hk=>?_,fun hk=>⟨?_,h4 hk⟩⟩
    ·obtain ⟨v,ρ3,h5,h6,h7⟩:=h3 hk
     refine ⟨v,ρ3,h5, ?_,h7⟩
     rw [ha,h6,List.take_add_one,hq]
     simp [List.filter_append,hk]
    ·rw [ha,List.take_add_one,hq]
     simp [List.filter_append,hk]) [] ρ ⟨by simp,h⟩
 refine ⟨ρ', ?_,hJ⟩
 rw [e,List.length_map,List.take_length]
theorem compL_g {α:Type} {P:Pins} {C:Calls} {elt:Env→Res RV} {bind:D→Env→Option Env} {xs:List α} (f g:α→D) (J:Env→Prop)
  (step:∀ x∈xs,∀ ρ,J ρ→∃ ρ1 v ρ3,bind (f x) ρ=some ρ1∧elt ρ1=some (.ok v,ρ3)∧v.d=g x∧J ρ3) {ρ:Env} (h:J ρ) :
  ∃ ρ',compL (evTs P C []) elt bind (xs.map f) [] ρ=some (.ok (xs.map g),ρ')∧J ρ':=by
 obtain ⟨ρ',e,hJ⟩:=compL_fg (tests:=evTs P C []) (elt:=elt) (bind:=bind) (xs:=xs) f (fun _=>true) g J (fun x hx ρ hρ=>by
  obtain ⟨ρ1,v,ρ3,h1,h2,h3,h4⟩:=step x hx ρ hρ
  exact ⟨ρ1,ρ1,h1,evTs_nil,fun _=>⟨v,ρ3,h2,h3,h4⟩,fun z=>nomatch z⟩) h
 refine ⟨ρ', ?_,hJ⟩
 rw [e,List.filter_eq_self.mpr fun _ _=>rfl]
noncomputable def jS (c:Nat):List (List Nat)→List Nat
 | []=>[]
 | [a]=>a
 | a :: b :: r=>a ++ c :: jS c (b :: r)
open PySem in
theorem join_jS (c:Nat):∀ ws:List Str,(Str.join ⟨#[c]⟩ ws).cps.toList=jS c (ws.map fun w=>w.cps.toList)
 | []=>rfl
 | [a]=>rfl
 | a :: b :: r=>by
  have ih:=join_jS c (b :: r)
  show ((a ++ (⟨#[c]⟩:Str)) ++ Str.join ⟨#[c]⟩ (b :: r)).cps.toList=a.cps.toList ++ c :: jS c ((b :: r).map fun w=>w.cps.toList)
  rw [← ih]
  show (a.cps ++ #[c] ++ (Str.join ⟨#[c]⟩ (b :: r)).cps).toList=_
  simp
theorem cut_inj {c:Nat}:∀ {a a' s s':List Nat},c ∉ a→c ∉ a'→a ++ c :: s=a' ++ c :: s'→a=a'∧s=s'
 | [],[],s,s',_,_,h=>by simpa using h
 | [],x :: a',s,s',_,h2,h=>by
  simp only [List.nil_append,List.cons_append,List.cons.injEq] at h
  exact absurd (by rw [h.1]; exact List.mem_cons_self) h2
 | x :: a,[],s,s',h1,_,h=>by
  simp only [List.nil_append,List.cons_append,List.cons.injEq] at h
  exact absurd (by rw [h.1]; exact List.mem_cons_self) h1
 | x :: a,y :: a',s,s',h1,h2,h=>by
  simp only [List.cons_append,List.cons.injEq] at h
  obtain ⟨e1,e2⟩:=cut_inj (fun z=>h1 (List.mem_cons_of_mem _ z)) (fun z=>h2 (List.mem_cons_of_mem _ z)) h.2
  exact ⟨by rw [h.1,e1],e2⟩
theorem jS_inj {c:Nat}:∀ {as bs:List (List Nat)},as≠[]→bs≠[]→(∀ a∈as,c ∉ a)→(∀ b∈bs,c ∉ b)→jS c as=jS c bs→as=bs
 | [],_,h,_,_,_,_=>absurd rfl h
 | _,[],_,h,_,_,_=>absurd rfl h
 | [a],[b],_,_,_,_,h=>by rw [show a=b from h]
 | [a],b :: b2 :: r,_,_,ha,_,h=>by
  have h:a=b ++ c :: jS c (b2 :: r):=h
  exact absurd (by rw [h]; simp) (ha a List.mem_cons_self)
 | a :: a2 :: r,[b],_,_,_,hb,h=>by
  have h:a ++ c :: jS c (a2 :: r)=b:=h
  exact absurd (by rw [← h]; simp) (hb b List.mem_cons_self)
 | a :: a2 :: r,b :: b2 :: r',_,_,ha,hb,h=>by
  obtain ⟨rfl,e⟩:=cut_inj (ha a List.mem_cons_self) (hb b List.mem_cons_self) h
  rw [jS_inj (by simp) (by simp) (fun x hx=>ha x (List.mem_cons_of_mem _ hx)) (fun x hx=>hb x (List.mem_cons_of_mem _ hx)) e]
open PySem in
theorem str_inj {a b:Str} (h:a.cps.toList=b.cps.toList):a=b:=by
 cases a; cases b
 simp only [Array.toList_inj] at h
 rw [h]
open PySem in
theorem map_inj_str:∀ {as bs:List Str},(as.map fun w=>w.cps.toList)=(bs.map fun w=>w.cps.toList)→as=bs
 | [],[],_=>rfl
 | [],_ :: _,h=>nomatch h
 | _ :: _,[],h=>nomatch h
 | a :: as,b :: bs,h=>by
  simp only [List.map_cons,List.cons.injEq] at h
  rw [str_inj h.1,map_inj_str h.2]
open PySem in
theorem split_jS {c:Nat} {s:Str} (hs:s=⟨#[c]⟩) {ws:List Str} (hn:ws≠[]) (hf:∀ w∈ws,c ∉ w.cps.toList):Txt.split (Txt.join s ws) s=ws:=by
 subst hs
 have ej:Txt.join ⟨#[c]⟩ ws=Str.join ⟨#[c]⟩ ws:=StrLaws.glued_eq_join _ _
 rw [ej]
 have h1:=StrLaws.join_split (Str.join ⟨#[c]⟩ ws) ⟨#[c]⟩
 have h2:=StrLaws.split_free (Str.join ⟨#[c]⟩ ws) c
 have h3:=PyProof.Rows.split_pos (Str.join ⟨#[c]⟩ ws) ⟨#[c]⟩
 generalize Txt.split (Str.join ⟨#[c]⟩ ws) ⟨#[c]⟩=ps at *
 have e:=congrArg (fun x:Str=>x.cps.toList) h1
 simp only [join_jS] at e
 refine map_inj_str (jS_inj ?_ ?_ ?_ ?_ e)
 ·intro z
  rw [List.map_eq_nil_iff] at z
  subst z
  simp at h3
 ·intro z
  exact hn (List.map_eq_nil_iff.mp z)
 ·intro a ha
  obtain ⟨w,hw,rfl⟩:=List.mem_map.mp ha
  exact h2 w hw
 ·intro a ha
  obtain ⟨w,hw,rfl⟩:=List.mem_map.mp ha
  exact hf w hw
open PySem in
structure TG (n:Nat) (w:Str):Prop where
 len:w.length≤n
 asc:w.cps.all (·<128)=true
open PySem in
theorem ok_of_asc {w:Str} (h:w.cps.all (·<128)=true):PyData.strOk w=true:=by
 unfold PyData.strOk
 rw [Array.all_eq_true] at h ⊢
 intro i hi
 have:=h i hi
 simp only [decide_eq_true_eq] at this ⊢
 omega
theorem jS_mem {c:Nat}:∀ {as:List (List Nat)} {x:Nat},x∈jS c as→x=c∨∃ a∈as,x∈a
 | [],x,h=>nomatch h
 | [a],x,h=>.inr ⟨a,List.mem_cons_self,h⟩
 | a :: b :: r,x,h=>by
  have h:x∈a ++ c :: jS c (b :: r):=h
  rcases List.mem_append.mp h with h | h
  ·exact .inr ⟨a,List.mem_cons_self,h⟩
  ·rcases List.mem_cons.mp h with h | h
   ·exact .inl h
   ·rcases jS_mem h with h | ⟨d,hd,h⟩
    ·exact .inl h
    ·exact .inr ⟨d,List.mem_cons_of_mem _ hd,h⟩
open PySem in
theorem join_mem {c:Nat} {s:Str} (hs:s=⟨#[c]⟩) {ws:List Str} {x:Nat} (h:x∈(Txt.join s ws).cps.toList):x=c∨∃ w∈ws,x∈w.cps.toList:=by
 subst hs
 rw [show Txt.join ⟨#[c]⟩ ws=Str.join ⟨#[c]⟩ ws from StrLaws.glued_eq_join _ _,join_jS] at h
 rcases jS_mem h with h | ⟨a,ha,h⟩
 ·exact .inl h
 ·obtain ⟨w,hw,rfl⟩:=List.mem_map.mp ha
  exact .inr ⟨w,hw,h⟩
open PySem in
theorem join_tg {c B N:Nat} {s:Str} (hs:s=⟨#[c]⟩) (hc:c<128) {ws:List Str} (h:∀ w∈ws,TG B w) (hl:ws.length*(B+1)≤N) (hN:N≤1000000) :
  TG N (Txt.join s ws)∧JoinOk s ws=true:=by
 have h1:s.length=1:=by rw [hs]; rfl
 have h2:ws.length*(B+1)=ws.length*B+ws.length:=Nat.mul_succ _ _
 refine ⟨⟨?_, ?_⟩, ?_⟩
 ·rw [show Txt.join s ws=Str.join s ws from StrLaws.glued_eq_join _ _]
  refine Nat.le_trans (StrLaws.join_length_le _ _) ?_
  have h3:(ws.map (·.length)).sum≤ws.length*B:=by
   clear hl h2
   induction ws with
   | nil=>simp
   | cons a r ih =>
    have h4:=(h a List.mem_cons_self).len
    have h5:=ih fun w hw=>h w (List.mem_cons_of_mem _ hw)
    have h6:(r.length+1)*B=r.length*B+B:=Nat.succ_mul _ _
    simp only [List.map_cons,List.sum_cons,List.length_cons]
    omega
  rw [h1]
  omega
 ·rw [Array.all_eq_true']
  intro x hx
  rcases join_mem hs (by simpa using hx) with rfl | ⟨w,hw,hx⟩
  ·exact decide_eq_true hc
  ·have h4:=(h w hw).asc
   rw [Array.all_eq_true'] at h4
   exact h4 x (by simpa using hx)
 ·unfold JoinOk
  rw [Bool.not_eq_true']
  refine StrLaws.joinFits (B:=B) (fun y hy=>(h y hy).len) ?_
  rw [h1]
  omega
theorem strs_map {ts:List PySem.Str}:strsD (ts.map D.str)=some ts:=by
 induction ts with
 | nil=>rfl
 | cons a r ih =>
  show (strsD (r.map D.str)).map (a :: ·)=_
  rw [ih]; rfl
open PySem in
theorem blk_eq:(" ":Str)=⟨#[32]⟩:=by decide +kernel
open PySem in
theorem nl_eq:("\n":Str)=⟨#[10]⟩:=by decide +kernel
open PySem in
theorem com_eq:(",":Str)=⟨#[44]⟩:=by decide +kernel
open PySem in
theorem spl_jS {c B N:Nat} {s:Str} {ρ:CI.Env} (hs:s=⟨#[c]⟩) (hc:c<128) {ws:List Str} (h:∀ w∈ws,TG B w) (hl:ws.length*(B+1)≤N) (hN:N≤1000000) (hn:ws≠[]) (hf:∀ w∈ws,c ∉ w.cps.toList) :
  splO s ρ (some (.sh (.str (Txt.join s ws))))=some (.ok (.ow (.lst (ws.map D.str))),ρ):=by
 have e:=split_jS hs hn hf
 have ht:=(join_tg hs hc h hl hN).1
 have:=splO_ (ρ:=ρ) (x:=s) (y:=Txt.join s ws) (by rw [hs]; rfl) (Nat.le_trans ht.len hN) (by
  rw [e,List.all_eq_true]
  exact fun w hw=>ok_of_asc (h w hw).asc)
 rw [this,e]
open PySem in
theorem joi_jS {c B N:Nat} {s:Str} (hs:s=⟨#[c]⟩) (hc:c<128) {ws:List Str} (h:∀ w∈ws,TG B w) (hl:ws.length*(B+1)≤N) (hN:N≤1000000):joiO s (some (.lst (ws.map D.str)))=some (.sh (.str (Txt.join s ws))):=by
 obtain ⟨h1,h2⟩:=join_tg hs hc h hl hN
 exact joiO_ strs_map h2 (ok_of_asc h1.asc)
noncomputable def fig (c:Nat):Bool:=!(PySem.Builtin.Str.occurrences ("0123456789":PySem.Str) ⟨#[c]⟩ 0 ("0123456789":PySem.Str).length 1).isEmpty
open PySem in
noncomputable def num (i:Int):Str:=Str.ofString (toString i)
open PySem in
noncomputable def fgOf (w:Str):Str:=if Txt.startswith w ("-":Str)=true then Txt.slice w (some 1) none else w
open PySem in
noncomputable def strB (i:Int):Bool:=decide (i.natAbs.log2<1920) && PyData.strOk (num i)
open PySem in
noncomputable def plainB (w:Str):Bool:=w.cps.all fun c=>decide (c<128) && (decide (c≠32) && (decide (c≠10) && decide (c≠44)))
open PySem in
noncomputable def numB (i:Int):Bool:=strB i && (decide ((num i).length≤3) && (plainB (num i) && (decide (1≤(fgOf (num i)).length) && (decide ((fgOf (num i)).length≤3) && ((fgOf (num i)).cps.all (·<128) && ((fgOf (num i)).cps.toList.all fig && decide (intText? (num i)=some i)))))))
theorem numB_all:(List.range 121).all (fun n=>numB ((n:Int) - 60))=true:=by decide +kernel
open PySem in
structure NumOk (i:Int):Prop where
 s:biD .str [.int i]=some (.sh (.str (num i)))
 tg:TG 3 (num i)
 f32:32 ∉ (num i).cps.toList
 f10:10 ∉ (num i).cps.toList
 f44:44 ∉ (num i).cps.toList
 l1:1≤(fgOf (num i)).length
 l2:(fgOf (num i)).length≤3
 fa:(fgOf (num i)).cps.all (·<128)=true
 ff:(fgOf (num i)).cps.toList.all fig=true
 it:intText? (num i)=some i
open PySem in
theorem plain_of {w:Str} (h:plainB w=true):w.cps.all (·<128)=true∧32 ∉ w.cps.toList∧10 ∉ w.cps.toList∧44 ∉ w.cps.toList:=by
 unfold plainB at h
 rw [Array.all_eq_true'] at h
 have h:∀ x∈w.cps,x<128∧x≠32∧x≠10∧x≠44:=fun x hx=>by simpa using h x hx
 refine ⟨by rw [Array.all_eq_true']; exact fun x hx=>decide_eq_true (h x hx).1,fun z=>(h 32 (by simpa using z)).2.1 rfl,fun z=>(h 10 (by simpa using z)).2.2.1 rfl,fun z=>(h 44 (by simpa using z)).2.2.2 rfl⟩
theorem str_i {i:Int} (h:strB i=true):biD .str [.int i]=some (.sh (.str (num i))):=by
 unfold strB at h
 rw [Bool.and_eq_true,decide_eq_true_eq] at h
 exact f_str h.1 h.2
theorem num_ok {i:Int} (h1:-60≤i) (h2:i≤60):NumOk i:=by
 have h:numB i=true:=by
  have:=List.all_eq_true.mp numB_all (i+60).toNat (List.mem_range.mpr (by omega))
  rwa [show (((i+60).toNat:Int) - 60)=i by omega] at this
 unfold numB at h
 simp only [Bool.and_eq_true,decide_eq_true_eq] at h
 obtain ⟨a,b,c,d,e,f,g,k⟩:=h
 obtain ⟨p1,p2,p3,p4⟩:=plain_of c
 exact ⟨str_i a,⟨b,p1⟩,p2,p3,p4,d,e,f,g,k⟩
open PySem in
theorem nat_asc (n:Nat):(num (n:Int)).cps.all (·<128)=true:=by
 unfold num
 rw [Str.ofString_eq_toList,Array.all_eq_true']
 intro x hx
 have hx:x∈(toString (n:Int)).toList.map Char.toNat:=by simpa using hx
 obtain ⟨c,hc,rfl⟩:=List.mem_map.mp hx
 have hc:c∈Nat.toDigits 10 n:=by
  have e:(toString (n:Int)).toList=Nat.toDigits 10 n:=String.toList_ofList
  rwa [e] at hc
 have hd:=Nat.isDigit_of_mem_toDigits (by decide) (by decide) hc
 unfold Char.isDigit at hd
 rw [Bool.and_eq_true,decide_eq_true_eq,decide_eq_true_eq] at hd
 have h2:c.val.toNat≤57:=hd.2
 exact decide_eq_true (show c.val.toNat<128 by omega)
theorem str_b {b:Int} (h1:0≤b) (h2:b<4096):biD .str [.int b]=some (.sh (.str (num b))):=by
 obtain ⟨n,rfl⟩:∃ n:Nat,b=(n:Int):=⟨b.toNat,by omega⟩
 refine f_str ?_ (ok_of_asc (nat_asc n))
 rw [Int.natAbs_natCast]
 by_cases h0:n=0
 ·subst h0; decide
 ·rw [Nat.log2_lt h0]
  exact Nat.lt_of_lt_of_le (show n<2 ^ 12 by omega) (Nat.pow_le_pow_right (i:=12) (j:=1920) (by decide) (by decide))
noncomputable def p2 (k:Nat):Int:=((2 ^ k:Nat):Int)
theorem p2_eq (k:Nat):(2:Int) ^ k=p2 k:=by unfold p2; rw [Int.natCast_pow]; rfl
noncomputable def bitT (n k:Nat):Bool:=decide (n / 2 ^ k % 2=1)
noncomputable def bitsN (n:Nat):List Nat:=(List.range 12).filter (bitT n)
theorem div_p2 (n k:Nat):(n:Int) / 2 ^ k=((n / 2 ^ k:Nat):Int):=by rw [p2_eq,Int.natCast_ediv]; rfl
theorem testL (n k:Nat):decide ((n:Int) / 2 ^ k % 2=1)=bitT n k:=by
 rw [div_p2]
 unfold bitT
 rw [Bool.eq_iff_iff,decide_eq_true_eq,decide_eq_true_eq]
 omega
theorem testP (n k:Nat):decide (PySem.Builtin.bitAnd ((n:Int) / 2 ^ k) 1=1)=bitT n k:=by rw [PyProof.Rows.bitAnd_m1,testL]
theorem range_filt {p:Nat→Bool} {m:Nat} (h:∀ k,m≤k→p k=false):∀ d,(List.range (m+d)).filter p=(List.range m).filter p
 | 0=>rfl
 | d+1=>by rw [show m+(d+1)=(m+d)+1 by omega,List.range_succ,List.filter_append,range_filt h d,List.filter_cons,h (m+d) (by omega)]; simp
theorem bits_pos {n:Nat} (h0:n≠0):PySem.Builtin.Int.intBits (n:Int)=n.log2+1:=by
 unfold PySem.Builtin.Int.intBits
 rw [if_neg (by simpa using h0),Int.natAbs_natCast]
theorem bits_le {n:Nat} (h:n<4096):n.log2+1≤12:=by
 by_cases h0:n=0
 ·subst h0; decide
 ·have:=(Nat.log2_lt h0 (k:=12)).mpr h
  omega
theorem bits_prog {n:Nat} (h:n<4096):(List.range (n.log2+1)).filter (bitT n)=bitsN n:=by
 unfold bitsN
 have e:=range_filt (p:=bitT n) (m:=n.log2+1) (fun k hk=>by
  unfold bitT
  have h1:n<2 ^ k:=Nat.lt_of_lt_of_le Nat.lt_log2_self (Nat.pow_le_pow_right (by decide) hk)
  rw [Nat.div_eq_of_lt h1]
  rfl) (12 - (n.log2+1))
 rw [show n.log2+1+(12 - (n.log2+1))=12 by have:=bits_le h; omega] at e
 exact e.symm
theorem or_bits (a k:Nat) (h:a<2 ^ k):PySem.Builtin.bitOr (a:Int) (p2 k)=((a+2 ^ k:Nat):Int):=by
 unfold p2
 have e:a &&& 2 ^ k=0:=Nat.eq_of_testBit_eq fun i=>by
  rw [Nat.testBit_and,Nat.testBit_two_pow,Nat.zero_testBit]
  by_cases c:k=i
  ·subst c; rw [Nat.testBit_lt_two_pow h]; rfl
  ·rw [decide_eq_false c,Bool.and_false]
 rw [PyProof.Rows.bitOr_and,PyProof.Rows.bitAnd_pp (by omega) (by omega),Int.toNat_natCast,Int.toNat_natCast,e]
 omega
theorem fold_bits (n:Nat):∀ m,((List.range m).filter (bitT n)).foldl (fun a k=>PySem.Builtin.bitOr a (p2 k)) 0=((n % 2 ^ m:Nat):Int)
 | 0=>by simp [Nat.mod_one]
 | m+1=>by
  rw [List.range_succ,List.filter_append,List.foldl_append,fold_bits n m,List.filter_cons,Nat.mod_pow_succ]
  cases h:bitT n m with
  | true =>
   have h:n / 2 ^ m % 2=1:=of_decide_eq_true h
   rw [h]
   simp only [if_true,List.filter_nil,List.foldl_cons,List.foldl_nil]
   rw [or_bits _ _ (Nat.mod_lt _ (Nat.pow_pos (by decide))),Nat.mul_one]
  | false =>
   have h:¬ n / 2 ^ m % 2=1:=of_decide_eq_false h
   rw [show n / 2 ^ m % 2=0 by omega]
   simp
theorem bits_back {n:Nat} (h:n<4096):(bitsN n).foldl (fun a k=>PySem.Builtin.bitOr a (p2 k)) 0=(n:Int):=by
 unfold bitsN
 rw [fold_bits,Nat.mod_eq_of_lt (show n<2 ^ 12 from h)]
theorem bits_ne {n:Nat} (h:n<4096) (h0:n≠0):bitsN n≠[]:=fun z=>by
 have:=bits_back h
 rw [z] at this
 simp only [List.foldl_nil] at this
 omega
open PySem in
noncomputable def bitW (n:Nat):List Str:=(bitsN n).map fun (k:Nat)=>num (k:Int)
open PySem in
noncomputable def spW (n:Nat):Str:=if n=0 then ("-":Str) else Txt.join (",":Str) (bitW n)
theorem bits_lt {b:Nat} {k:Nat} (h:k∈bitsN b):k<12:=by
 unfold bitsN at h
 exact List.mem_range.mp (List.mem_filter.mp h).1
theorem bits_len (b:Nat):(bitsN b).length≤12:=by
 unfold bitsN
 exact Nat.le_trans (List.length_filter_le _ _) (by simp)
open PySem in
noncomputable def wd:D→Str
 | .int i=>num i
 | .str x=>x
 | _=>("":Str)
open PySem in
structure WO (w:Str):Prop where
 tg:TG 60 w
 f32:32 ∉ w.cps.toList
 f10:10 ∉ w.cps.toList
theorem TG.up {n m:Nat} {w:PySem.Str} (h:TG n w) (k:n≤m):TG m w:=⟨Nat.le_trans h.len k,h.asc⟩
theorem num_wo {i:Int} (h1:-60≤i) (h2:i≤60):WO (num i):=have h:=num_ok h1 h2; ⟨h.tg.up (by decide),h.f32,h.f10⟩
open PySem in
noncomputable def rowT (ws:List Str):Str:=Txt.join (" ":Str) ws
theorem str_comp {W n:Nat} {el:E} (hel:el=.bif .str [.var 1]) {ds:List D} (hd:∀ d∈ds,biD .str [d]=some (.sh (.str (wd d)))) :
  ∃ t,compL (evTs T.pins (run T W n) []) (ev T.pins (run T W n) false el) (bindT true [1]) ds [] [.un,.un]=some (.ok ((ds.map wd).map D.str),[.un,t]):=by
 obtain ⟨ρ',e,t,rfl,ht⟩:=compL_g (P:=T.pins) (C:=run T W n) (elt:=ev T.pins (run T W n) false el) (bind:=bindT true [1]) (xs:=ds) id (fun d=>D.str (wd d)) (fun ρ=>∃ t,ρ=[.un,t]∧okS t=true)
  (fun d hm ρ hρ=>by
   obtain ⟨t,rfl,ht⟩:=hρ
   have hs:=hd d hm
   refine ⟨[.un,.sh d],.sh (.str (wd d)),[.un,.sh d],by simp only [cib,stO_okS ht] <;> rfl, ?_,rfl,_,rfl,rfl⟩
   rw [hel]
   generalize wd d=w at *
   clear hm hd ht hel
   walk_at "!") (ρ:=[.un,.un]) ⟨_,rfl,rfl⟩
 refine ⟨t, ?_⟩
 rw [List.map_id] at e
 rw [e,List.map_map]
 rfl
theorem row_ok {ws:List PySem.Str} (hw:∀ w∈ws,WO w) (hl:ws.length≤20):TG 2000 (rowT ws)∧10 ∉ (rowT ws).cps.toList:=by
 refine ⟨(join_tg blk_eq (by decide) (fun w h=>(hw w h).tg) (by omega) (by decide)).1,fun z=>?_⟩
 rcases join_mem blk_eq z with h | ⟨w,h1,h2⟩
 ·cases h
 ·exact (hw w h1).f10 h2
theorem row_spec {W n:Nat} {s:Sl} {ds:List D} (hs:s=.sh (.lst ds)∨s=.sh (.tup ds)) (hd:∀ d∈ds,biD .str [d]=some (.sh (.str (wd d)))) (hw:∀ w∈ds.map wd,WO w) (hl:ds.length≤20) :
  run T W (n+1) "show_row" [s]=some (.ok (.sh (.str (rowT (ds.map wd)))),[s]):=by
 rw [run_ T_show_row rfl (by rcases hs with rfl | rfl <;> rfl)]
 unfold fn_show_row
 obtain ⟨t,e⟩:=str_comp (W:=W) (n:=n) (el:=el_show_row_0) rfl hd
 have ho:=joi_jS blk_eq (by decide) (B:=60) (N:=2000) (ws:=ds.map wd) (fun w h=>(hw w h).tg) (by rw [List.length_map]; omega) (by decide)
 have hsm:smallL ((ds.map wd).map D.str).length=true:=smallL_ (by simp; omega)
 have hi:itemsOf .of [.slot 0] [s]=some (ds,none):=by
  rcases hs with rfl | rfl
  ·exact it_ls rfl
  ·exact it_ts rfl
 unfold rowT
 generalize (ds.map wd).map D.str=L at *
 generalize PySem.Txt.join _ (ds.map wd)=tx at *
 clear hd hw hl
 rcases hs with rfl | rfl
 ·walk_at "!"
  rw [kComp_n hi]
  walk_at "!"
  all_goals (first | done | (rw [compF_ rfl]; walk_at "!"))
 ·walk_at "!"
  rw [kComp_n hi]
  walk_at "!"
  all_goals (first | done | (rw [compF_ rfl]; walk_at "!"))
open PySem in
theorem app_l {x y:Str}:(x ++ y).cps.toList=x.cps.toList ++ y.cps.toList:=by
 show (x.cps ++ y.cps).toList=_
 simp
open PySem in
theorem row_l (ws:List Str):(rowT ws).cps.toList=jS 32 (ws.map fun w=>w.cps.toList):=by
 unfold rowT
 rw [blk_eq,show Txt.join ⟨#[32]⟩ ws=Str.join ⟨#[32]⟩ ws from StrLaws.glued_eq_join _ _,join_jS]
open PySem in
noncomputable def vW (f:Int × Int × Bool):List Str:=("voice":Str) :: num f.1 :: num f.2.1 :: (if f.2.2=true then [("turned":Str)] else [])
open PySem in
theorem l_turned:(" turned":Str).cps.toList=32 :: ("turned":Str).cps.toList:=by decide +kernel
open PySem in
theorem l_voice:("voice ":Str).cps.toList=("voice":Str).cps.toList ++ [32]:=by decide +kernel
open PySem in
theorem l_notes:("notes ":Str).cps.toList=("notes":Str).cps.toList ++ [32]:=by decide +kernel
open PySem in
theorem l_bar:("bar ":Str).cps.toList=("bar":Str).cps.toList ++ [32]:=by decide +kernel
open PySem in
theorem l_octave:("octave ":Str).cps.toList=("octave":Str).cps.toList ++ [32]:=by decide +kernel
open PySem in
theorem l_blk:(" ":Str).cps.toList=[32]:=by decide +kernel
open PySem in
theorem l_emp:("":Str).cps.toList=[]:=by decide +kernel
open PySem in
theorem t_turned {a b c:Str}:rowT [a,b,c] ++ (" turned":Str)=rowT [a,b,c,("turned":Str)]:=str_inj (by
 rw [app_l,row_l,row_l,l_turned]
 simp [jS])
open PySem in
theorem t_two {a p q:Str} (h:p.cps.toList=q.cps.toList ++ [32]):p ++ a=rowT [q,a]:=str_inj (by
 rw [app_l,row_l,h]
 simp [jS])
open PySem in
theorem t_voice {a b:Str} (c:Bool):((((("voice ":Str) ++ a) ++ (" ":Str)) ++ b) ++ (if c=true then (" turned":Str) else ("":Str)))=rowT (("voice":Str) :: a :: b :: (if c=true then [("turned":Str)] else [])):=str_inj (by
 cases c
 ·rw [if_neg (by decide),if_neg (by decide),app_l,app_l,app_l,app_l,row_l,l_voice,l_blk,l_emp]
  simp [jS]
 ·rw [if_pos rfl,if_pos rfl,app_l,app_l,app_l,app_l,row_l,l_voice,l_blk,l_turned]
  simp [jS])
open PySem in
theorem wo_lit {w:Str} (h:(decide (w.length≤60) && plainB w)=true):WO w:=by
 rw [Bool.and_eq_true,decide_eq_true_eq] at h
 obtain ⟨h1,h2,h3,_⟩:=plain_of h.2
 exact ⟨⟨h.1,h1⟩,h2,h3⟩
open PySem in
theorem wo_voice:WO ("voice":Str):=wo_lit (by decide +kernel)
open PySem in
theorem wo_turned:WO ("turned":Str):=wo_lit (by decide +kernel)
open PySem in
theorem wo_head:WO ("notes":Str)∧WO ("bar":Str)∧WO ("octave":Str):=⟨wo_lit (by decide +kernel),wo_lit (by decide +kernel),wo_lit (by decide +kernel)⟩
def FolOk (f:Int × Int × Bool):Prop:=0≤f.1∧f.1≤4∧-12≤f.2.1∧f.2.1≤12
theorem vW_wo {f:Int × Int × Bool} (h:FolOk f):(∀ w∈vW f,WO w)∧(vW f).length≤20:=by
 obtain ⟨a,b,c⟩:=f
 obtain ⟨h1,h2,h3,h4⟩:=h
 have n1:=num_wo (i:=a) (by simp at h1; omega) (by simp at h2; omega)
 have n2:=num_wo (i:=b) (by simp at h3; omega) (by simp at h4; omega)
 unfold vW
 cases c
 ·refine ⟨?_,by simp⟩
  dsimp only
  rw [if_neg (by decide)]
  exact fc wo_voice (fc n1 (fc n2 fun _ h=>nomatch h))
 ·refine ⟨?_,by simp⟩
  dsimp only
  rw [if_pos rfl]
  exact fc wo_voice (fc n1 (fc n2 (fc wo_turned fun _ h=>nomatch h)))
theorem fol_shown {W n:Nat} {f:Int × Int × Bool} (h:FolOk f):run T W (n+2) "show_follower" [.sh (toD f)]=some (.ok (.sh (.str (rowT (vW f)))),[.sh (toD f)]):=by
 rw [run_ T_show_follower rfl rfl]
 unfold fn_show_follower
 obtain ⟨a,b,c⟩:=f
 obtain ⟨h1,h2,h3,h4⟩:=h
 have k1:=num_ok (i:=a) (by simp at h1; omega) (by simp at h2; omega)
 have k2:=num_ok (i:=b) (by simp at h3; omega) (by simp at h4; omega)
 have w1:=num_wo (i:=a) (by simp at h1; omega) (by simp at h2; omega)
 have w2:=num_wo (i:=b) (by simp at h3; omega) (by simp at h4; omega)
 have hws:∀ w∈[D.str "voice",.int a,.int b].map wd,WO w:=fc wo_voice (fc w1 (fc w2 fun _ h=>nomatch h))
 have hr:=row_spec (W:=W) (n:=n) (s:=.sh (.lst [.str "voice",.int a,.int b])) (.inl rfl) (fc f_strS (fc k1.s (fc k2.s fun _ h=>nomatch h))) hws (by simp)
 have ht:=(row_ok hws (by simp)).1.len
 replace hr:run T W (n+1) "show_row" [.sh (.lst [.str "voice",.int a,.int b])]=some (.ok (.sh (.str (rowT ["voice",num a,num b]))),[.sh (.lst [.str "voice",.int a,.int b])]):=hr
 replace ht:(rowT ["voice",num a,num b]).length≤2000:=ht
 unfold toD vW
 cases c
 ·dsimp only
  rw [if_neg (by decide)]
  clear h1 h2 h3 h4 k1 k2 w1 w2 hws ht
  generalize rowT _=r at *
  walk_at "!"
 ·dsimp only
  rw [if_pos rfl,← t_turned]
  have hlen:((" turned":PySem.Str)).length=7:=by decide +kernel
  have hb:=b_addS (x:=rowT ["voice",num a,num b]) (y:=" turned") (by omega)
  clear h1 h2 h3 h4 k1 k2 w1 w2 hws ht hlen
  generalize rowT _=r at *
  walk_at "!"
theorem exs_cut {P:Pins} {C:Calls} {W:Nat} {ρ':Env}:∀ {j:Nat} {l:List S} {ρ:Env},exs P C W (l.take j) ρ=some (.nx,ρ')→exs P C W l ρ=exs P C W (l.drop j) ρ'
 | 0,l,ρ,h=>by
  rw [List.take_zero,exs_nil] at h
  cases h; rfl
 | j+1,[],ρ,h=>by
  rw [List.take_nil,exs_nil] at h
  cases h; rfl
 | j+1,s :: l,ρ,h=>by
  rw [List.take_succ_cons,exs_cons] at h
  rw [exs_cons,List.drop_succ_cons]
  generalize ex P C W s ρ=r at *
  obtain _ | ⟨fl,ρ1⟩:=r
  ·cases h
  ·cases fl with
   | nx=>exact exs_cut (j:=j) h
   | _=>cases h
open PySem in
theorem spW_pos {n:Nat} (h0:n≠0):spW n=Txt.join (",":Str) (bitW n):=by unfold spW; rw [if_neg h0]
theorem bitW_num {n:Nat} {w:PySem.Str} (h:w∈bitW n):∃ k:Nat,k<12∧w=num (k:Int):=by
 unfold bitW at h
 obtain ⟨k,hk,rfl⟩:=List.mem_map.mp h
 exact ⟨k,bits_lt hk,rfl⟩
theorem bitW_tg {n:Nat}:∀ w∈bitW n,TG 3 w:=fun w h=>by
 obtain ⟨k,hk,rfl⟩:=bitW_num h
 exact (num_ok (by omega) (by omega)).tg
theorem bitW_len (n:Nat):(bitW n).length≤12:=by unfold bitW; rw [List.length_map]; exact bits_len n
theorem spW_tg (n:Nat):WO (spW n):=by
 by_cases h0:n=0
 ·subst h0
  exact wo_lit (w:=spW 0) (by decide +kernel)
 ·rw [spW_pos h0]
  have hl:=bitW_len n
  refine ⟨(join_tg com_eq (by decide) bitW_tg (by omega) (by decide)).1.up (Nat.le_refl 60),fun z=>?_,fun z=>?_⟩
  ·rcases join_mem com_eq z with h | ⟨w,h1,h2⟩
   ·cases h
   ·obtain ⟨k,hk,rfl⟩:=bitW_num h1
    exact (num_ok (i:=(k:Int)) (by omega) (by omega)).f32 h2
  ·rcases join_mem com_eq z with h | ⟨w,h1,h2⟩
   ·cases h
   ·obtain ⟨k,hk,rfl⟩:=bitW_num h1
    exact (num_ok (i:=(k:Int)) (by omega) (by omega)).f10 h2
theorem spans_shown {W m n:Nat} (hn:n<4096):run T W (m+1) "show_spans" [.sh (.int (n:Int))]=some (.ok (.sh (.str (spW n))),[.sh (.int (n:Int))]):=by
 rw [run_ T_show_spans rfl rfl]
 unfold fn_show_spans
 by_cases h0:n=0
 ·subst h0
  have e:decide (((0:Nat):Int)=0)=true:=rfl
  have e2:spW 0=("-":PySem.Str):=rfl
  rw [e2]
  clear hn e2
  walk_at "!"
 ·have e:decide ((n:Int)=0)=false:=decide_eq_false (by omega)
  obtain ⟨ρ',ec,t,rfl,ht⟩:=compL_fg (tests:=evTs T.pins (run T W m) [(.cmp .Eq (.bin .BitAnd (.bin .RShift (.var 0) (.var 2)) (.con (.int 1))) (.con (.int 1)))]) (elt:=ev T.pins (run T W m) false el_show_spans_0) (bind:=bindT true [2]) (xs:=List.range (n.log2+1))
   (fun (k:Nat)=>D.int (k:Int)) (bitT n) (fun (k:Nat)=>D.str (num (k:Int))) (fun ρ=>∃ t,ρ=[.sh (.int (n:Int)),.un,t]∧okS t=true)
   (fun k hk ρ hρ=>by
    obtain ⟨t,rfl,ht⟩:=hρ
    have hk:k<n.log2+1:=List.mem_range.mp hk
    have hb:=bits_le hn
    have h1:(0:Int)≤(k:Int):=by omega
    have h2:=testP n k
    have h3:((k:Int)).toNat=k:=Int.toNat_natCast k
    have hs:=(num_ok (i:=(k:Int)) (by omega) (by omega)).s
    refine ⟨[.sh (.int (n:Int)),.un,.sh (.int (k:Int))],[.sh (.int (n:Int)),.un,.sh (.int (k:Int))],by simp only [cib,stO_okS ht] <;> rfl, ?_,fun _=>⟨.sh (.str (num (k:Int))),[.sh (.int (n:Int)),.un,.sh (.int (k:Int))], ?_,rfl,_,rfl,rfl⟩,fun _=>⟨_,rfl,rfl⟩⟩
    ·generalize bitT n k=b at *
     clear hs hk hb e h0 hn ht
     cases b <;> walk_at "!"
    ·unfold el_show_spans_0
     generalize num (k:Int)=w at *
     clear hk hb e h0 hn ht h2 h3 h1
     walk_at "!") (ρ:=[.sh (.int (n:Int)),.un,.un]) ⟨_,rfl,rfl⟩
  have hbits:=bits_prog hn
  rw [hbits] at ec
  have hmap:(bitsN n).map (fun (k:Nat)=>D.str (num (k:Int)))=(bitW n).map D.str:=by unfold bitW; rw [List.map_map]; rfl
  rw [hmap] at ec
  have hbl:=bits_le hn
  have hi:∀ ρ,itemsOf .rng [.val (.sh (.int ((n.log2+1:Nat):Int)))] ρ=some ((List.range (n.log2+1)).map fun (j:Nat)=>.int (j:Int),none):=fun ρ=>it_n (by omega)
  have hbo:bitO (some (.int (n:Int)))=some (.sh (.int ((n.log2+1:Nat):Int))):=by
   show some (RV.sh (.int ((PySem.Builtin.Int.intBits (n:Int):Nat):Int)))=_
   rw [bits_pos h0]
  have ho:=joi_jS com_eq (by decide) (B:=3) (N:=60) (ws:=bitW n) bitW_tg (by have:=bitW_len n; omega) (by decide)
  have hsm:smallL ((bitW n).map D.str).length=true:=smallL_ (by rw [List.length_map]; have:=bitW_len n; omega)
  rw [spW_pos h0]
  generalize (bitW n).map D.str=L at *
  generalize PySem.Txt.join _ (bitW n)=tx at *
  generalize n.log2+1=q at *
  clear hn h0 hbits hmap hbl ht
  walk_at "!"
  rw [kComp_n (hi _)]
  walk_at "!"
  all_goals (first | done | (rw [compF_ rfl]; walk_at "!"))
theorem c_inF {c:Nat}:cmpD .In (.str ⟨#[c]⟩) (.str ("0123456789":PySem.Str))=some (fig c):=rfl
theorem f_allN {Z:List Nat} {p:Nat→Bool}:biD .all [.lst (Z.map fun z=>.bl (p z))]=some (.sh (.bl (Z.all p))):=by
 have h:boolsD (Z.map fun z=>D.bl (p z))=some (Z.map p):=by
  induction Z with
  | nil=>rfl
  | cons a r ih =>
   show (boolsD (r.map fun z=>D.bl (p z))).map (p a :: ·)=_
   rw [ih]; rfl
 show (boolsD _).map _=_
 rw [h]
 simp [List.all_map,Function.comp_def]
theorem signs_comp {W n:Nat} {fg:PySem.Str}:∃ t,compL (evTs T.pins (run T W n) []) (ev T.pins (run T W n) false el_read_number_0) (bindT true [1]) (strDs fg) [] [.un,.un]=some (.ok (fg.cps.toList.map fun c=>.bl (fig c)),[.un,t]):=by
 obtain ⟨ρ',e,t,rfl,ht⟩:=compL_g (P:=T.pins) (C:=run T W n) (elt:=ev T.pins (run T W n) false el_read_number_0) (bind:=bindT true [1]) (xs:=fg.cps.toList) (fun c=>D.str ⟨#[c]⟩) (fun c=>D.bl (fig c)) (fun ρ=>∃ t,ρ=[.un,t]∧okS t=true)
  (fun c hc ρ hρ=>by
   obtain ⟨t,rfl,ht⟩:=hρ
   have hin:=c_inF (c:=c)
   refine ⟨[.un,.sh (.str ⟨#[c]⟩)],.sh (.bl (fig c)),[.un,.sh (.str ⟨#[c]⟩)],by simp only [cib,stO_okS ht] <;> rfl, ?_,rfl,_,rfl,rfl⟩
   unfold el_read_number_0
   clear hc ht
   walk_at "!") (ρ:=[.un,.un]) ⟨_,rfl,rfl⟩
 exact ⟨t,e⟩
open PySem in
theorem rdn {W n:Nat} {i:Int} (h:NumOk i):run T W (n+1) "read_number" [.sh (.str (num i))]=some (.ok (.sh (.int i)),[.sh (.str (num i))]):=by
 rw [run_ T_read_number rfl rfl]
 obtain ⟨hs,htg,_,_,_,hl1,hl2,hfa,hff,hit⟩:=h
 have hwl:=htg.len
 have hin:=f_intS (by omega:(num i).length≤640) hit
 have hqe:(num i == num i)=true:=beq_self_eq_true _
 obtain ⟨fg,hfg⟩:∃ fg,fg=fgOf (num i):=⟨_,rfl⟩
 rw [← hfg] at hl1 hl2 hfa hff
 have hA:exs T.pins (run T W n) W (fn_read_number.body.take 1) ([.sh (.str (num i))] ++ List.replicate fn_read_number.nl .un)=some (.nx,[.sh (.str (num i)),.sh (.str fg),.un]):=by
  unfold fn_read_number
  unfold fgOf at hfg
  cases hb:Txt.startswith (num i) ("-":Str) with
  | true =>
   rw [hb,if_pos rfl] at hfg
   have hsl:slO (some (.str (num i))) (some (.int 1)) none=some (.sh (.str fg)):=by
    show slD (.str (num i)) (some 1) none=_
    rw [hfg]
    exact sl_S (by omega) (by rw [← hfg]; exact ok_of_asc hfa)
   clear hfg hs htg hl1 hl2 hfa hff hit hwl hin hqe
   walk_at "!"
  | false =>
   rw [hb,if_neg (by decide)] at hfg
   subst hfg
   clear hs htg hl1 hl2 hfa hff hit hwl hin hqe
   walk_at "!"
 rw [exs_cut hA]
 clear hA
 obtain ⟨t,hc⟩:=signs_comp (W:=W) (n:=n) (fg:=fg)
 have hlen:biD .len [.str fg]=some (.sh (.int (fg.length:Int))):=if_pos (by omega)
 have hi:itemsOf .sig [.slot 1] [.sh (.str (num i)),.sh (.str fg),.un]=some (strDs fg,none):=it_sig rfl hfa (ok_of_asc hfa)
 have hal:=f_allN (Z:=fg.cps.toList) (p:=fig)
 rw [hff] at hal
 have hsm:smallL (fg.cps.toList.map fun c=>D.bl (fig c)).length=true:=smallL_ (by rw [List.length_map,Array.length_toList]; exact Nat.le_trans hl2 (by decide))
 have e1:decide ((1:Int)≤(fg.length:Int))=true:=decide_eq_true (by omega)
 have e2:decide ((fg.length:Int)≤60)=true:=decide_eq_true (by omega)
 unfold fn_read_number
 generalize (fg.cps.toList.map fun c=>D.bl (fig c))=L at *
 generalize num i=w at *
 clear hfg htg hl1 hl2 hfa hff hit hwl
 walk_at "!"
 rw [kComp_n hi]
 walk_at "!"
 all_goals (first | done | (rw [compF_ rfl]; walk_at "!"))
noncomputable def wsD (ws:List PySem.Str):D:=.lst (ws.map D.str)
theorem rdns {W n:Nat} {is:List Int} (h:∀ i∈is,NumOk i) (hl:is.length≤1000) :
  run T W (n+2) "read_numbers" [.sh (wsD (is.map num))]=some (.ok (.ow (.lst (is.map D.int))),[.sh (wsD (is.map num))]):=by
 rw [run_ T_read_numbers rfl rfl]
 unfold fn_read_numbers
 obtain ⟨ρ',e,t,rfl,ht⟩:=compL_g (P:=T.pins) (C:=run T W (n+1)) (elt:=ev T.pins (run T W (n+1)) false el_read_numbers_0) (bind:=bindT true [1]) (xs:=is) (fun i=>D.str (num i)) D.int (fun ρ=>∃ t,ρ=[.un,t]∧okS t=true)
  (fun i hi ρ hρ=>by
   obtain ⟨t,rfl,ht⟩:=hρ
   have hr:=rdn (W:=W) (n:=n) (h i hi)
   refine ⟨[.un,.sh (.str (num i))],.sh (.int i),[.un,.sh (.str (num i))],by simp only [cib,stO_okS ht] <;> rfl, ?_,rfl,_,rfl,rfl⟩
   unfold el_read_numbers_0
   clear h hl hi ht
   walk_at "!") (ρ:=[.un,.un]) ⟨_,rfl,rfl⟩
 have hm:is.map (fun i=>D.str (num i))=(is.map num).map D.str:=by rw [List.map_map]; rfl
 rw [hm] at e
 have hi:itemsOf .of [.slot 0] [.sh (wsD (is.map num))]=some ((is.map num).map D.str,none):=it_ls rfl
 have hsm:smallL (is.map D.int).length=true:=smallL_ (by rw [List.length_map]; omega)
 unfold wsD at *
 generalize (is.map num).map D.str=L at *
 generalize is.map D.int=M at *
 clear h hl ht hm
 walk_at "!"
 rw [kComp_n hi]
 walk_at "!"
 all_goals (first | done | (rw [compF_ rfl]; walk_at "!"))
open PySem in
theorem no_minus {k:Nat} (h:k<12):45 ∉ (num (k:Int)).cps.toList:=by
 have:∀ k<12,(num ((k:Nat):Int)).cps.toList.contains 45=false:=by decide +kernel
 intro z
 have:=this k h
 rw [List.contains_eq_mem,decide_eq_false_iff_not] at this
 exact this z
theorem spans_read {W m n:Nat} (hn:n<4096):run T W (m+3) "read_spans" [.sh (.str (spW n))]=some (.ok (.sh (.int (n:Int))),[.sh (.str (spW n))]):=by
 rw [run_ T_read_spans rfl rfl]
 unfold fn_read_spans
 by_cases h0:n=0
 ·subst h0
  have e2:spW 0=("-":PySem.Str):=rfl
  have e3:(("-":PySem.Str) == ("-":PySem.Str))=true:=beq_self_eq_true _
  have e4:((0:Nat):Int)=0:=rfl
  rw [e2,e4]
  clear hn e2 e4
  walk_at "!"
 ·have hne:(spW n == ("-":PySem.Str))=false:=by
   rw [beq_eq_false_iff_ne]
   intro z
   have h45:45∈(spW n).cps.toList:=by rw [z]; decide +kernel
   rw [spW_pos h0] at h45
   rcases join_mem com_eq h45 with h | ⟨w,h1,h2⟩
   ·cases h
   ·obtain ⟨k,hk,rfl⟩:=bitW_num h1
    exact no_minus hk h2
  have hnn:bitW n≠[]:=fun z=>bits_ne hn h0 (List.map_eq_nil_iff.mp z)
  have hsp:∀ ρ,splO (",":PySem.Str) ρ (some (.sh (.str (spW n))))=some (.ok (.ow (.lst ((bitW n).map D.str))),ρ):=fun ρ=>by
   rw [spW_pos h0]
   refine spl_jS com_eq (by decide) (B:=3) (N:=60) bitW_tg (by have:=bitW_len n; omega) (by decide) hnn fun w hw=>?_
   obtain ⟨k,hk,rfl⟩:=bitW_num hw
   exact (num_ok (i:=(k:Int)) (by omega) (by omega)).f44
  have hr:=rdns (W:=W) (n:=m) (is:=(bitsN n).map fun (k:Nat)=>(k:Int)) (fun i hi=>by
   obtain ⟨k,hk,rfl⟩:=List.mem_map.mp hi
   have:=bits_lt hk
   exact num_ok (by omega) (by omega)) (by rw [List.length_map]; have:=bits_len n; omega)
  have hm1:((bitsN n).map fun (k:Nat)=>(k:Int)).map num=bitW n:=by unfold bitW; rw [List.map_map]; rfl
  have hm2:((bitsN n).map fun (k:Nat)=>(k:Int)).map D.int=(bitsN n).map fun (k:Nat)=>D.int (k:Int):=by rw [List.map_map]; rfl
  rw [hm1,hm2] at hr
  unfold wsD at hr
  obtain ⟨ρ1,el,t,rfl,ht⟩:=loopF_inv' (bind:=bindT true [2]) (body:=exs T.pins (run T W (m+2)) W bd_read_spans_0)
   (fun pre ρ=>∃ t,ρ=[.sh (.str (spW n)),.sh (.int ((pre.map fun d=>match d with | .int k=>k.toNat | _=>0).foldl (fun a k=>PySem.Builtin.bitOr a (p2 k)) 0)),t]∧okS t=true)
   (ds:=(bitsN n).map fun (k:Nat)=>D.int (k:Int)) (fun pre d post hds ρ hρ=>by
    obtain ⟨t,rfl,ht⟩:=hρ
    obtain ⟨k,hk,rfl⟩:∃ k∈bitsN n,D.int (k:Int)=d:=List.mem_map.mp (by rw [hds]; simp)
    have hk:=bits_lt hk
    have hw:=within_ok (W:=W) (n:=m) (i:=(k:Int)) (a:=0) (b:=11) (by omega) (by omega)
    have h1:(0:Int)≤(k:Int):=by omega
    have h2:(k:Int)≤1000:=by omega
    refine ⟨_,by simp only [cib,stO_okS ht] <;> rfl, ?_⟩
    rw [List.map_append,List.foldl_append]
    simp only [List.map_cons,List.map_nil,List.foldl_cons,List.foldl_nil,Int.toNat_natCast,← p2_eq]
    generalize (pre.map fun d=>match d with | .int k=>k.toNat | _=>0).foldl (fun a k=>PySem.Builtin.bitOr a ((2:Int) ^ k)) 0=acc at *
    generalize spW n=w at *
    have h3:((k:Int)).toNat=k:=Int.toNat_natCast k
    unfold bd_read_spans_0
    clear hds hk ht hn h0 hne hnn hsp hr hm1 hm2
    walk_at "!"
    exact ⟨_,rfl,_,rfl,rfl⟩)
   (ρ:=[.sh (.str (spW n)),.sh (.int 0),.un]) ⟨_,rfl,rfl⟩
  have hfold:(((bitsN n).map fun (k:Nat)=>D.int (k:Int)).map fun d=>match d with | .int k=>k.toNat | _=>0)=bitsN n:=by
   rw [List.map_map]
   exact List.map_id'' (fun x=>by simp) _
  rw [hfold,bits_back hn] at el
  have hi:∀ ρ,itemsOf .of [.val (.ow (.lst ((bitsN n).map fun (k:Nat)=>D.int (k:Int))))] ρ=some ((bitsN n).map fun (k:Nat)=>D.int (k:Int),none):=fun ρ=>it_lv rfl
  generalize (bitsN n).map (fun (k:Nat)=>D.int (k:Int))=L at *
  generalize (bitW n).map D.str=M at *
  generalize spW n=w at *
  clear hfold hnn hm1 hm2 ht h0 hn
  walk_at "!"
theorem sl_toD {L:List D} {c:Nat}:slO (some (.lst L)) none (some (.int (c:Int)))=some (.ow (.lst (L.take c))):=by
 show some (RV.ow (.lst (cutD L none (some (c:Int)))))=_
 unfold cutD
 rw [HT.sIx_nat,HT.sIx_none,List.drop_zero,Nat.sub_zero]
 by_cases h:c≤L.length
 ·rw [Nat.min_eq_left h]
 ·rw [Nat.min_eq_right (by omega),List.take_of_length_le (Nat.le_refl _),List.take_of_length_le (by omega)]
theorem sl_onD {L:List D} {c:Nat}:slO (some (.lst L)) (some (.int (c:Int))) none=some (.ow (.lst (L.drop c))):=by
 show some (RV.ow (.lst (cutD L (some (c:Int)) none)))=_
 unfold cutD
 rw [HT.sIx_nat,HT.sIx_none]
 by_cases h:c≤L.length
 ·rw [Nat.min_eq_left h,List.take_of_length_le (by rw [List.length_drop]; omega)]
 ·rw [Nat.min_eq_right (by omega),Nat.sub_self,List.take_zero,List.drop_of_length_le (by omega)]
open PySem in
noncomputable def spL:List D→List Str
 | [.int a,.int b]=>[num a,spW b.toNat]
 | _=>[]
open PySem in
noncomputable def rW:D→List Str
 | .tup (.str x :: ps)=>x :: (if (x == ("span":Str))=true then spL ps else ps.map wd)
 | _=>[]
structure RT (d:D):Prop where
 sh:∀ W n,run T W (n+2) "show_rule" [.sh d]=some (.ok (.sh (.str (rowT (rW d)))),[.sh d])
 tx:∀ W n,run T W (n+1) "L_rule_text" [.sh d]=some (.ok (.sh (.str (rowT (rW d)))),[.sh d])
 rd:∀ W n,run T W (n+4) "read_rule" [.sh (wsD (rW d))]=some (.ok (.sh d),[.sh (wsD (rW d))])
 wo:∀ w∈rW d,WO w
 ln:(rW d).length≤20
 nv:∃ x r,rW d=x :: r∧(x == ("voice":PySem.Str))=false
theorem rule_row {x:PySem.Str} {ps:List D} (hx:(x == ("span":PySem.Str))=false) (hd:∀ d∈D.str x :: ps,biD .str [d]=some (.sh (.str (wd d)))) (hw:∀ w∈x :: ps.map wd,WO w) (hl:ps.length≤10) :
  rW (.tup (.str x :: ps))=x :: ps.map wd∧(∀ W n,run T W (n+2) "show_rule" [.sh (.tup (.str x :: ps))]=some (.ok (.sh (.str (rowT (x :: ps.map wd)))),[.sh (.tup (.str x :: ps))])) ∧
  ∀ W n,run T W (n+1) "L_rule_text" [.sh (.tup (.str x :: ps))]=some (.ok (.sh (.str (rowT (x :: ps.map wd)))),[.sh (.tup (.str x :: ps))]):=by
 have hwl:((D.str x :: ps).map wd)=x :: ps.map wd:=rfl
 refine ⟨?_,fun W n=>?_,fun W n=>?_⟩
 ·show x :: (if (x == ("span":PySem.Str))=true then spL ps else ps.map wd)=_
  rw [hx,if_neg (by decide)]
 ·rw [run_ T_show_rule rfl rfl]
  unfold fn_show_rule
  have hr:=row_spec (W:=W) (n:=n) (s:=.sh (.tup (.str x :: ps))) (.inr rfl) hd hw (by simp; omega)
  rw [hwl] at hr
  generalize rowT _=t at *
  clear hd hw hl hwl
  walk_at "!"
 ·rw [run_ T_L_rule_text rfl rfl]
  unfold fn_L_rule_text
  obtain ⟨t,e⟩:=str_comp (W:=W) (n:=n) (el:=el_L_rule_text_0) rfl hd
  have ho:=joi_jS blk_eq (by decide) (B:=60) (N:=2000) (ws:=(D.str x :: ps).map wd) (fun w h=>(hw w h).tg) (by rw [List.length_map,List.length_cons]; omega) (by decide)
  have hsm:smallL (((D.str x :: ps).map wd).map D.str).length=true:=smallL_ (by simp; omega)
  have hi:itemsOf .of [.slot 0] [.sh (.tup (.str x :: ps)),.un]=some (.str x :: ps,none):=it_ts rfl
  rw [← hwl]
  unfold rowT
  generalize ((D.str x :: ps).map wd).map D.str=L at *
  generalize PySem.Txt.join _ ((D.str x :: ps).map wd)=tx at *
  clear hd hw hl hwl
  walk_at "!"
  rw [kComp_n hi]
  walk_at "!"
  all_goals (first | done | (rw [compF_ rfl]; walk_at "!"))
theorem sl_01 {L:List D} {a:D}:slO (some (.lst (a :: L))) none (some (.int 1))=some (.ow (.lst [a])):=by
 have h:=sl_toD (L:=a :: L) (c:=1)
 rwa [List.take_succ_cons,List.take_zero] at h
theorem sl_1 {L:List D} {a:D}:slO (some (.lst (a :: L))) (some (.int 1)) none=some (.ow (.lst L)):=sl_onD (L:=a :: L) (c:=1)
theorem sl_2 {L:List D} {a b:D}:slO (some (.lst (a :: b :: L))) (some (.int 2)) none=some (.ow (.lst L)):=sl_onD (L:=a :: b :: L) (c:=2)
theorem sl_3 {L:List D} {a b c:D}:slO (some (.lst (a :: b :: c :: L))) (some (.int 3)) none=some (.ow (.lst L)):=sl_onD (L:=a :: b :: c :: L) (c:=3)
theorem sl_12 {L:List D} {a b c:D}:slO (some (.lst [a,b,c])) (some (.int 1)) (some (.int 2))=some (.ow (.lst [b])):=rfl
theorem sl_13 {a b c:D}:slO (some (.lst [a,b,c])) (some (.int 1)) (some (.int 3))=some (.ow (.lst [b,c])):=rfl
theorem sl_134 {a b c d:D}:slO (some (.lst [a,b,c,d])) (some (.int 1)) (some (.int 3))=some (.ow (.lst [b,c])):=rfl
theorem rt_plain {x:PySem.Str} {is:List Int} (hx:(x == ("span":PySem.Str))=false) (hy:(x == ("never":PySem.Str))=false) (hz:(x == ("voice":PySem.Str))=false) (hwx:WO x) (hi:∀ i∈is,-60≤i∧i≤60) (hl:is.length≤10):RT (.tup (.str x :: is.map D.int)):=by
 have hmw:(is.map D.int).map wd=is.map num:=by rw [List.map_map]; rfl
 have hw:∀ w∈x :: (is.map D.int).map wd,WO w:=fc hwx (by
  rw [hmw]
  intro w hw
  obtain ⟨i,h,rfl⟩:=List.mem_map.mp hw
  exact num_wo (hi i h).1 (hi i h).2)
 obtain ⟨h1,h2,h3⟩:=rule_row (x:=x) (ps:=is.map D.int) hx (fc f_strS fun d hd=>by
  obtain ⟨i,h,rfl⟩:=List.mem_map.mp hd
  exact (num_ok (hi i h).1 (hi i h).2).s) hw (by simpa using hl)
 rw [hmw] at h1 h2 h3 hw
 refine ⟨fun W n=>by rw [h1]; exact h2 W n,fun W n=>by rw [h1]; exact h3 W n,fun W n=>?_,by rw [h1]; exact hw,by rw [h1]; simp; omega,⟨_,_,h1,hz⟩⟩
 rw [h1,run_ T_read_rule rfl rfl]
 unfold fn_read_rule
 have hr:=rdns (W:=W) (n:=n+1) (is:=is) (fun i h=>num_ok (hi i h).1 (hi i h).2) (by omega)
 have hw1:wsD (x :: is.map num)=.lst (.str x :: (is.map num).map D.str):=rfl
 rw [hw1]
 unfold wsD at hr
 have s1:=sl_01 (L:=(is.map num).map D.str) (a:=.str x)
 have s2:=sl_1 (L:=(is.map num).map D.str) (a:=.str x)
 have hsm:smallL ([D.str x].length+(is.map D.int).length)=true:=smallL_ (by simp; omega)
 have hb:=b_cat hsm
 generalize (is.map num).map D.str=L at *
 generalize is.map D.int=M at *
 clear h1 h2 h3 hw hmw hi hl hwx hz hw1 hsm
 walk_at "!"
theorem rt_never {a b:Int} {x:PySem.Str} (ha:-60≤a∧a≤60) (hb:-60≤b∧b≤60) (hx:WO x):RT (.tup [.str "never",.int a,.int b,.str x]):=by
 have k1:=num_ok ha.1 ha.2
 have k2:=num_ok hb.1 hb.2
 have w1:=num_wo ha.1 ha.2
 have w2:=num_wo hb.1 hb.2
 have n1:(("never":PySem.Str) == ("span":PySem.Str))=false:=by decide +kernel
 have n2:(("never":PySem.Str) == ("never":PySem.Str))=true:=beq_self_eq_true _
 have hw:∀ w∈("never":PySem.Str) :: [D.int a,.int b,.str x].map wd,WO w:=fc (wo_lit (by decide +kernel)) (fc w1 (fc w2 (fc hx fun _ h=>nomatch h)))
 obtain ⟨h1,h2,h3⟩:=rule_row (x:=("never":PySem.Str)) (ps:=[.int a,.int b,.str x]) n1 (fc f_strS (fc k1.s (fc k2.s (fc f_strS fun _ h=>nomatch h)))) hw (by simp)
 refine ⟨fun W n=>by rw [h1]; exact h2 W n,fun W n=>by rw [h1]; exact h3 W n,fun W n=>?_,by rw [h1]; exact hw,by rw [h1]; simp,⟨_,_,h1,by decide +kernel⟩⟩
 rw [h1,run_ T_read_rule rfl rfl]
 unfold fn_read_rule
 have hr:=rdns (W:=W) (n:=n+1) (is:=[a,b]) (fc k1 (fc k2 fun _ h=>nomatch h)) (by simp)
 have hw1:wsD ("never" :: [D.int a,.int b,.str x].map wd)=.lst [.str "never",.str (num a),.str (num b),.str x]:=rfl
 rw [hw1]
 replace hr:run T W (n+1+2) "read_numbers" [.sh (.lst [.str (num a),.str (num b)])]=some (.ok (.ow (.lst [.int a,.int b])),[.sh (.lst [.str (num a),.str (num b)])]):=hr
 have s1:=sl_134 (a:=.str "never") (b:=.str (num a)) (c:=.str (num b)) (d:=.str x)
 have s2:=sl_3 (L:=[.str x]) (a:=.str "never") (b:=.str (num a)) (c:=.str (num b))
 have b1:binD .Add (.lst [.str "never"]) (.lst [.int a,.int b])=some (.ow (.lst [.str "never",.int a,.int b])):=b_cat (smallL_ (by simp))
 have b2:binD .Add (.lst [.str "never",.int a,.int b]) (.lst [.str x])=some (.ow (.lst [.str "never",.int a,.int b,.str x])):=b_cat (smallL_ (by simp))
 generalize num a=p at *
 generalize num b=q at *
 clear h1 h2 h3 hw ha hb hx hw1 k1 k2 w1 w2
 walk_at "!"
open PySem in
theorem emp_join:Txt.join (",":Str) []=("":Str):=by decide +kernel
open PySem in
theorem num_ne {k:Nat} (h:k<12):(num (k:Int)).cps.toList≠[]:=by
 have:∀ k<12,(num ((k:Nat):Int)).cps.toList.isEmpty=false:=by decide +kernel
 intro z
 have:=this k h
 rw [z] at this
 cases this
open PySem in
theorem join_ne {n:Nat} (hn:n<4096) (h0:n≠0):(Txt.join (",":Str) (bitW n) == ("":Str))=false:=by
 rw [beq_eq_false_iff_ne]
 intro z
 have e:=congrArg (fun x:Str=>x.cps.toList) z
 simp only [l_emp] at e
 rw [com_eq,show Txt.join ⟨#[44]⟩ (bitW n)=Str.join ⟨#[44]⟩ (bitW n) from StrLaws.glued_eq_join _ _,join_jS] at e
 cases hb:bitW n with
 | nil=>exact bits_ne hn h0 (List.map_eq_nil_iff.mp hb)
 | cons w r =>
  obtain ⟨k,hk,rfl⟩:=bitW_num (n:=n) (w:=w) (by rw [hb]; exact List.mem_cons_self)
  rw [hb] at e
  cases r with
  | nil=>exact num_ne hk e
  | cons v r =>
   have e:(num (k:Int)).cps.toList ++ 44 :: jS 44 ((v :: r).map fun w=>w.cps.toList)=[]:=e
   simp at e
theorem law_bits {W m n:Nat} {a:Int} (hn:n<4096):∃ t,compL (evTs T.pins (run T W m) [(.cmp .Eq (.bin .Mod (.bin .FloorDiv (.ix (.var 0) (.con (.int 2))) (.bin .LShift (.con (.int 1)) (.var 2))) (.con (.int 2))) (.con (.int 1)))]) (ev T.pins (run T W m) false el_L_rule_text_1) (bindT true [2]) ((List.range 12).map fun (j:Nat)=>.int (j:Int)) [] [.sh (.tup [.str "span",.int a,.int (n:Int)]),.un,.un]=some (.ok ((bitW n).map D.str),[.sh (.tup [.str "span",.int a,.int (n:Int)]),.un,t]):=by
 obtain ⟨ρ',ec,t,rfl,ht⟩:=compL_fg (tests:=evTs T.pins (run T W m) [(.cmp .Eq (.bin .Mod (.bin .FloorDiv (.ix (.var 0) (.con (.int 2))) (.bin .LShift (.con (.int 1)) (.var 2))) (.con (.int 2))) (.con (.int 1)))]) (elt:=ev T.pins (run T W m) false el_L_rule_text_1) (bind:=bindT true [2]) (xs:=List.range 12)
   (fun (k:Nat)=>D.int (k:Int)) (bitT n) (fun (k:Nat)=>D.str (num (k:Int))) (fun ρ=>∃ t,ρ=[.sh (.tup [.str "span",.int a,.int (n:Int)]),.un,t]∧okS t=true)
   (fun k hk ρ hρ=>by
    obtain ⟨t,rfl,ht⟩:=hρ
    have hk:k<12:=List.mem_range.mp hk
    have h1:(0:Int)≤(k:Int):=by omega
    have h1':(k:Int)≤1000:=by omega
    have h2:=testL n k
    have h3:((k:Int)).toNat=k:=Int.toNat_natCast k
    obtain ⟨h4,h5⟩:=pw (j:=(k:Int)) h1 (by omega)
    rw [h3] at h4 h5
    have hs:=(num_ok (i:=(k:Int)) (by omega) (by omega)).s
    refine ⟨[.sh (.tup [.str "span",.int a,.int (n:Int)]),.un,.sh (.int (k:Int))],[.sh (.tup [.str "span",.int a,.int (n:Int)]),.un,.sh (.int (k:Int))],by simp only [cib,stO_okS ht] <;> rfl, ?_,fun _=>⟨.sh (.str (num (k:Int))),[.sh (.tup [.str "span",.int a,.int (n:Int)]),.un,.sh (.int (k:Int))], ?_,rfl,_,rfl,rfl⟩,fun _=>⟨_,rfl,rfl⟩⟩
    ·generalize bitT n k=b at *
     clear hs hk hn ht
     cases b <;> walk_at "!"
    ·unfold el_L_rule_text_1
     generalize num (k:Int)=w at *
     clear hk hn ht h2 h3 h1 h1' h4 h5
     walk_at "!") (ρ:=[.sh (.tup [.str "span",.int a,.int (n:Int)]),.un,.un]) ⟨_,rfl,rfl⟩
 refine ⟨t, ?_⟩
 rw [ec]
 unfold bitW bitsN
 rw [List.map_map]
 rfl
theorem setO_2 {ρ:Env} {i:Nat} {v a b c:D} {ds:List D} {p:Bool}:setO i v ρ (some (.ow (.lst (a :: b :: c :: ds)) p false)) (.int 2)=some (.nx,ρ.set i (.ow (.lst (a :: b :: v :: ds)) p false)):=by
 refine setO_ (m:=2) ?_
 show L2.ixN (ds.length+3) 2=some 2
 unfold L2.ixN
 simp
 omega
theorem rt_span {a:Int} {n:Nat} (ha:-60≤a∧a≤60) (hn:n<4096):RT (.tup [.str "span",.int a,.int (n:Int)]):=by
 have k1:=num_ok ha.1 ha.2
 have w1:=num_wo ha.1 ha.2
 have n1:(("span":PySem.Str) == ("span":PySem.Str))=true:=beq_self_eq_true _
 have h1:rW (.tup [.str "span",.int a,.int (n:Int)])=[("span":PySem.Str),num a,spW n]:=by
  show ("span":PySem.Str) :: (if (("span":PySem.Str) == ("span":PySem.Str))=true then [num a,spW ((n:Int)).toNat] else _)=_
  rw [n1,if_pos rfl,Int.toNat_natCast]
 have hw:∀ w∈[("span":PySem.Str),num a,spW n],WO w:=fc (wo_lit (by decide +kernel)) (fc w1 (fc (spW_tg n) fun _ h=>nomatch h))
 rw [show (["span",num a,spW n]:List PySem.Str)=[D.str "span",.int a,.str (spW n)].map wd from rfl] at hw
 refine ⟨fun W m=>?_,fun W m=>?_,fun W m=>?_,by rw [h1]; exact hw,by rw [h1]; simp,⟨_,_,h1,by decide +kernel⟩⟩
 ·rw [h1,run_ T_show_rule rfl rfl]
  unfold fn_show_rule
  have hr:=row_spec (W:=W) (n:=m) (s:=.sh (.lst [.str "span",.int a,.str (spW n)])) (.inl rfl) (fc f_strS (fc k1.s (fc f_strS fun _ h=>nomatch h))) hw (by simp)
  replace hr:run T W (m+1) "show_row" [.sh (.lst [.str "span",.int a,.str (spW n)])]=some (.ok (.sh (.str (rowT [("span":PySem.Str),num a,spW n]))),[.sh (.lst [.str "span",.int a,.str (spW n)])]):=hr
  have hs:=spans_shown (W:=W) (m:=m) hn
  generalize rowT _=t at *
  generalize spW n=p at *
  clear h1 hw ha hn k1 w1
  walk_at "!"
 ·rw [h1,run_ T_L_rule_text rfl rfl]
  obtain ⟨t,e⟩:=str_comp (W:=W) (n:=m) (el:=el_L_rule_text_0) (ds:=[.str "span",.int a,.int (n:Int)]) rfl (fc f_strS (fc k1.s (fc (str_b (by omega) (by omega)) fun _ h=>nomatch h)))
  replace e:compL (evTs T.pins (run T W m) []) (ev T.pins (run T W m) false el_L_rule_text_0) (bindT true [1]) [.str "span",.int a,.int (n:Int)] [] [.un,.un]=some (.ok [.str "span",.str (num a),.str (num (n:Int))],[.un,t]):=e
  have hi:itemsOf .of [.slot 0] [.sh (.tup [.str "span",.int a,.int (n:Int)]),.un]=some ([.str "span",.int a,.int (n:Int)],none):=it_ts rfl
  have hA:exs T.pins (run T W m) W (fn_L_rule_text.body.take 1) ([.sh (.tup [.str "span",.int a,.int (n:Int)])] ++ List.replicate fn_L_rule_text.nl .un)=some (.nx,[.sh (.tup [.str "span",.int a,.int (n:Int)]),.ow (.lst [.str "span",.str (num a),.str (num (n:Int))]) false false]):=by
   unfold fn_L_rule_text
   clear h1 hw ha hn k1 w1
   walk_at "!"
   rw [kComp_n hi]
   walk_at "!"
   all_goals (first | done | (rw [compF_ rfl]; walk_at "!"))
  rw [exs_cut hA]
  clear hA e hi
  obtain ⟨t2,e2⟩:=law_bits (W:=W) (m:=m) (n:=n) (a:=a) hn
  have hi2:itemsOf .rng [.val (.sh (.int 12))] [.sh (.tup [.str "span",.int a,.int (n:Int)]),.ow (.lst [.str "span",.str (num a),.str (num (n:Int))]) false false]=some ((List.range 12).map fun (j:Nat)=>.int (j:Int),none):=it_n (k:=12) (by decide)
  have ho:=joi_jS com_eq (by decide) (B:=3) (N:=60) (ws:=bitW n) bitW_tg (by have:=bitW_len n; omega) (by decide)
  have hsm:smallL ((bitW n).map D.str).length=true:=smallL_ (by rw [List.length_map]; have:=bitW_len n; omega)
  have hrow:=joi_jS blk_eq (by decide) (B:=60) (N:=2000) (ws:=[("span":PySem.Str),num a,spW n]) (fun w h=>(hw w h).tg) (by simp) (by decide)
  have i2:∀ {x y z:D},ixO (some (.lst [x,y,z])) (.int 2)=some (.sh z):=fun {_ _ _}=>rfl
  unfold fn_L_rule_text rowT
  by_cases h0:n=0
  ·subst h0
   have e3:bitW 0=[]:=by decide +kernel
   rw [e3] at ho e2 hsm
   rw [emp_join] at ho
   have e4:spW 0=("-":PySem.Str):=rfl
   rw [e4] at hrow ⊢
   have e5:(("":PySem.Str) == ("":PySem.Str))=true:=beq_self_eq_true _
   have e6:([]:List PySem.Str).map D.str=[]:=rfl
   have e7:[("span":PySem.Str),num a,("-":PySem.Str)].map D.str=[.str "span",.str (num a),.str ("-":PySem.Str)]:=rfl
   rw [e6] at e2 ho hsm
   rw [e7] at hrow
   generalize PySem.Txt.join _ [("span":PySem.Str),num a,("-":PySem.Str)]=tx at *
   generalize num a=p at *
   generalize (List.range 12).map (fun (j:Nat)=>D.int (j:Int))=R at *
   generalize num ((0:Nat):Int)=q at *
   have hs2:=@setO_2
   clear h1 hw ha hn k1 w1 e3 e4 e6 e7
   walk_at "!"
   rw [kComp_n hi2]
   walk_at "!"
   all_goals (first | done | (rw [compF_ rfl]; walk_at "!"))
  ·have e3:=join_ne hn h0
   have e4:=spW_pos h0
   rw [e4] at hrow ⊢
   have e7:[("span":PySem.Str),num a,PySem.Txt.join (",":PySem.Str) (bitW n)].map D.str=[.str "span",.str (num a),.str (PySem.Txt.join (",":PySem.Str) (bitW n))]:=rfl
   rw [e7] at hrow
   generalize PySem.Txt.join _ [("span":PySem.Str),num a,PySem.Txt.join (",":PySem.Str) (bitW n)]=tx at *
   generalize PySem.Txt.join (",":PySem.Str) (bitW n)=ty at *
   generalize (bitW n).map D.str=L at *
   generalize num a=p at *
   generalize (List.range 12).map (fun (j:Nat)=>D.int (j:Int))=R at *
   generalize num (n:Int)=q at *
   have hs2:=@setO_2
   clear h1 hw ha hn k1 w1 e4 e7
   walk_at "!"
   rw [kComp_n hi2]
   walk_at "!"
   all_goals (first | done | (rw [compF_ rfl]; walk_at "!"))
 ·rw [h1,run_ T_read_rule rfl rfl]
  unfold fn_read_rule
  have hr:=rdns (W:=W) (n:=m+1) (is:=[a]) (fc k1 fun _ h=>nomatch h) (by simp)
  replace hr:run T W (m+1+2) "read_numbers" [.sh (.lst [.str (num a)])]=some (.ok (.ow (.lst [.int a])),[.sh (.lst [.str (num a)])]):=hr
  have hs:=spans_read (W:=W) (m:=m) hn
  obtain ⟨ρ',e,t,rfl,ht⟩:=compL_g (P:=T.pins) (C:=run T W (m+3)) (elt:=ev T.pins (run T W (m+3)) false el_read_rule_0) (bind:=bindT true [1]) (xs:=[n]) (fun n=>D.str (spW n)) (fun n=>D.int (n:Int)) (fun ρ=>∃ t,ρ=[.un,t]∧okS t=true)
   (fun i hi ρ hρ=>by
    obtain ⟨t,rfl,ht⟩:=hρ
    obtain rfl:=List.mem_singleton.mp hi
    refine ⟨[.un,.sh (.str (spW i))],.sh (.int (i:Int)),[.un,.sh (.str (spW i))],by simp only [cib,stO_okS ht] <;> rfl, ?_,rfl,_,rfl,rfl⟩
    unfold el_read_rule_0
    generalize spW i=p at *
    clear hi ht hr hn h1 hw ha k1 w1
    walk_at "!") (ρ:=[.un,.un]) ⟨_,rfl,rfl⟩
  replace e:compL (evTs T.pins (run T W (m+3)) []) (ev T.pins (run T W (m+3)) false el_read_rule_0) (bindT true [1]) [.str (spW n)] [] [.un,.un]=some (.ok [.int (n:Int)],[.un,t]):=e
  have hw1:wsD [("span":PySem.Str),num a,spW n]=.lst [.str "span",.str (num a),.str (spW n)]:=rfl
  rw [hw1]
  have s1:=sl_12 (L:=[]) (a:=.str "span") (b:=.str (num a)) (c:=.str (spW n))
  have s2:=sl_2 (L:=[.str (spW n)]) (a:=.str "span") (b:=.str (num a))
  have b1:binD .Add (.lst [.str "span"]) (.lst [.int a])=some (.ow (.lst [.str "span",.int a])):=b_cat (smallL_ (by simp))
  have b2:binD .Add (.lst [.str "span",.int a]) (.lst [.int (n:Int)])=some (.ow (.lst [.str "span",.int a,.int (n:Int)])):=b_cat (smallL_ (by simp))
  have hi:∀ ρ,itemsOf .of [.val (.ow (.lst [.str (spW n)]))] ρ=some ([.str (spW n)],none):=fun ρ=>it_lv rfl
  generalize num a=p at *
  generalize spW n=q at *
  clear h1 hw ha hn hw1 k1 w1 hs ht
  walk_at "!"
  rw [kComp_n (hi _)]
  walk_at "!"
  all_goals (first | done | (rw [compF_ rfl]; walk_at "!"))
theorem rt_of {no ba oc ma:Int} {d:D} (o2:oc≤12) (b2:ba≤4) (m2:ma≤3) (h:RuleD no ba oc ma d):RT d:=by
 cases h with
 | span a b h1 h2 h3 h4 =>
  obtain ⟨n,rfl⟩:∃ n:Nat,b=(n:Int):=⟨b.toNat,by omega⟩
  have hp:(2:Int) ^ oc.toNat≤4096:=by
   have h:oc.toNat≤12:=by omega
   have h3:2 ^ oc.toNat≤2 ^ 12:=Nat.pow_le_pow_right (by decide) h
   exact_mod_cast h3
  exact rt_span ⟨by omega,by omega⟩ (by omega)
 | leap a h1 h2=>exact rt_plain (x:=("leap":PySem.Str)) (is:=[a]) (by decide +kernel) (by decide +kernel) (by decide +kernel) (wo_lit (by decide +kernel)) (fc ⟨by omega,by omega⟩ fun _ h=>nomatch h) (by simp)
 | back a b h1 h2 h3 h4=>exact rt_plain (x:=("back":PySem.Str)) (is:=[a,b]) (by decide +kernel) (by decide +kernel) (by decide +kernel) (wo_lit (by decide +kernel)) (fc ⟨by omega,by omega⟩ (fc ⟨by omega,by omega⟩ fun _ h=>nomatch h)) (by simp)
 | again a h1 h2=>exact rt_plain (x:=("again":PySem.Str)) (is:=[a]) (by decide +kernel) (by decide +kernel) (by decide +kernel) (wo_lit (by decide +kernel)) (fc ⟨by omega,by omega⟩ fun _ h=>nomatch h) (by simp)
 | range a b h1 h2 h3=>exact rt_plain (x:=("range":PySem.Str)) (is:=[a,b]) (by decide +kernel) (by decide +kernel) (by decide +kernel) (wo_lit (by decide +kernel)) (fc ⟨by omega,by omega⟩ (fc ⟨by omega,by omega⟩ fun _ h=>nomatch h)) (by simp)
 | above v w h1 h2 h3=>exact rt_plain (x:=("above":PySem.Str)) (is:=[(v:Int),(w:Int)]) (by decide +kernel) (by decide +kernel) (by decide +kernel) (wo_lit (by decide +kernel)) (fc ⟨by omega,by omega⟩ (fc ⟨by omega,by omega⟩ fun _ h=>nomatch h)) (by simp)
 | never a b x h1 h2 h3 h4 h5 =>
  refine rt_never ⟨by omega,by omega⟩ ⟨by omega,by omega⟩ ?_
  rcases h5 with rfl | rfl | rfl | rfl <;> exact wo_lit (by decide +kernel)
theorem fol_read {W n:Nat} {f:Int × Int × Bool} (h:FolOk f):run T W (n+3) "read_follower" [.sh (wsD (vW f))]=some (.ok (.sh (toD f)),[.sh (wsD (vW f))]):=by
 rw [run_ T_read_follower rfl rfl]
 unfold fn_read_follower
 obtain ⟨a,b,c⟩:=f
 obtain ⟨h1,h2,h3,h4⟩:=h
 have k1:=num_ok (i:=a) (by simp at h1; omega) (by simp at h2; omega)
 have k2:=num_ok (i:=b) (by simp at h3; omega) (by simp at h4; omega)
 have hr:=rdns (W:=W) (n:=n) (is:=[a,b]) (fc k1 (fc k2 fun _ h=>nomatch h)) (by simp)
 replace hr:run T W (n+2) "read_numbers" [.sh (.lst [.str (num a),.str (num b)])]=some (.ok (.ow (.lst [.int a,.int b])),[.sh (.lst [.str (num a),.str (num b)])]):=hr
 have b1:∀ x:Bool,binD .Add (.lst [.int a,.int b]) (.lst [.bl x])=some (.ow (.lst [.int a,.int b,.bl x])):=fun x=>b_cat (smallL_ (by simp))
 unfold toD
 cases c
 ·have hw1:wsD (vW (a,b,false))=.lst [.str "voice",.str (num a),.str (num b)]:=rfl
  rw [hw1]
  have s1:=sl_13 (a:=.str "voice") (b:=.str (num a)) (c:=.str (num b))
  have s2:=sl_3 (L:=[]) (a:=.str "voice") (b:=.str (num a)) (c:=.str (num b))
  have hc:cmpD .Eq (.lst []) (.lst [.str "turned"])=some false:=by simp [cmpD,okD,eqD,eqDs]
  generalize num a=p at *
  generalize num b=q at *
  clear h1 h2 h3 h4 k1 k2 hw1
  walk_at "!"
 ·have hw1:wsD (vW (a,b,true))=.lst [.str "voice",.str (num a),.str (num b),.str "turned"]:=rfl
  rw [hw1]
  have s1:=sl_134 (a:=.str "voice") (b:=.str (num a)) (c:=.str (num b)) (d:=.str "turned")
  have s2:=sl_3 (L:=[.str "turned"]) (a:=.str "voice") (b:=.str (num a)) (c:=.str (num b))
  have hc:cmpD .Eq (.lst [.str "turned"]) (.lst [.str "turned"])=some true:=c_eqR rfl
  generalize num a=p at *
  generalize num b=q at *
  clear h1 h2 h3 h4 k1 k2 hw1
  walk_at "!"
open PySem in
noncomputable def hd3 (no ba oc:Int):List (List Str):=[[("notes":Str),num no],[("bar":Str),num ba],[("octave":Str),num oc]]
abbrev FD:=(Int × Int × Bool) ⊕ D
noncomputable def wFD:FD→List PySem.Str
 | .inl f=>vW f
 | .inr d=>rW d
noncomputable def fds (fs:List (Int × Int × Bool)) (rs:List D):List FD:=fs.map .inl ++ rs.map .inr
noncomputable def hW (no ba oc:Int) (fs:List (Int × Int × Bool)) (rs:List D):List (List PySem.Str):=hd3 no ba oc ++ (fds fs rs).map wFD
open PySem in
noncomputable def txH (no ba oc:Int) (fs:List (Int × Int × Bool)) (rs:List D):Str:=Txt.join ("\n":Str) ((hW no ba oc fs rs).map rowT)
structure HX (no ba oc:Int) (fs:List (Int × Int × Bool)) (rs:List D):Prop where
 ho:HouseOk no ba oc fs
 rr:rsOk no ba oc fs.length rs
theorem HX.r {no ba oc:Int} {fs:List (Int × Int × Bool)} {rs:List D} (h:HX no ba oc fs rs):∀ d∈rs,RT d:=fun d hd=>rt_of h.ho.o2 h.ho.b2 (by have:=h.ho.l2; omega) (h.rr.2 d hd)
theorem HX.hd {no ba oc:Int} {fs:List (Int × Int × Bool)} {rs:List D} (h:HX no ba oc fs rs):NumOk no∧NumOk ba∧NumOk oc∧WO (num no)∧WO (num ba)∧WO (num oc):=by
 obtain ⟨n1,n2,b1,b2,o1,o2,_⟩:=h.ho
 exact ⟨num_ok (by omega) (by omega),num_ok (by omega) (by omega),num_ok (by omega) (by omega),num_wo (by omega) (by omega),num_wo (by omega) (by omega),num_wo (by omega) (by omega)⟩
theorem HX.wo {no ba oc:Int} {fs:List (Int × Int × Bool)} {rs:List D} (h:HX no ba oc fs rs):∀ ws∈hW no ba oc fs rs,(∀ w∈ws,WO w)∧ws.length≤20∧ws≠[]:=by
 obtain ⟨_,_,_,w1,w2,w3⟩:=h.hd
 obtain ⟨l1,l2,l3⟩:=wo_head
 intro ws hm
 rcases List.mem_append.mp hm with hm | hm
 ·unfold hd3 at hm
  simp only [List.mem_cons,List.not_mem_nil,or_false] at hm
  rcases hm with rfl | rfl | rfl
  ·exact ⟨fc l1 (fc w1 fun _ h=>nomatch h),by simp,by simp⟩
  ·exact ⟨fc l2 (fc w2 fun _ h=>nomatch h),by simp,by simp⟩
  ·exact ⟨fc l3 (fc w3 fun _ h=>nomatch h),by simp,by simp⟩
 ·obtain ⟨x,hx,rfl⟩:=List.mem_map.mp hm
  rcases List.mem_append.mp hx with hx | hx
  ·obtain ⟨f,hf,rfl⟩:=List.mem_map.mp hx
   exact ⟨(vW_wo (h.ho.f f hf)).1,(vW_wo (h.ho.f f hf)).2,by unfold wFD vW; simp⟩
  ·obtain ⟨d,hd,rfl⟩:=List.mem_map.mp hx
   obtain ⟨x,r,e,_⟩:=(h.r d hd).nv
   exact ⟨(h.r d hd).wo,(h.r d hd).ln,by show rW d≠[]; rw [e]; simp⟩
theorem HX.row {no ba oc:Int} {fs:List (Int × Int × Bool)} {rs:List D} (h:HX no ba oc fs rs):∀ w∈(hW no ba oc fs rs).map rowT,TG 2000 w∧10 ∉ w.cps.toList:=fun w hw=>by
 obtain ⟨ws,hm,rfl⟩:=List.mem_map.mp hw
 exact row_ok (h.wo ws hm).1 (h.wo ws hm).2.1
theorem HX.len {no ba oc:Int} {fs:List (Int × Int × Bool)} {rs:List D} (h:HX no ba oc fs rs):(hW no ba oc fs rs).length=3+(fs.length+rs.length)∧fs.length≤3∧rs.length≤8:=by
 refine ⟨?_,h.ho.l2,h.rr.1⟩
 unfold hW hd3 fds
 simp
 omega
theorem HX.joi {no ba oc:Int} {fs:List (Int × Int × Bool)} {rs:List D} (h:HX no ba oc fs rs):joiO ("\n":PySem.Str) (some (.lst (((hW no ba oc fs rs).map rowT).map D.str)))=some (.sh (.str (txH no ba oc fs rs)))∧PySem.PyData.strOk (txH no ba oc fs rs)=true:=by
 obtain ⟨l1,l2,l3⟩:=h.len
 refine ⟨joi_jS nl_eq (by decide) (B:=2000) (N:=100000) (fun w hw=>(h.row w hw).1) (by rw [List.length_map,l1]; omega) (by decide), ?_⟩
 exact ok_of_asc (join_tg nl_eq (by decide) (B:=2000) (N:=100000) (fun w hw=>(h.row w hw).1) (by rw [List.length_map,l1]; omega) (by decide)).1.asc
theorem house_shown {W n:Nat} {no ba oc:Int} {fs:List (Int × Int × Bool)} {rs:List D} (h:HX no ba oc fs rs) :
  run T W (n+3) "show_house" [.sh (houseD no ba oc fs rs)]=some (.ok (.sh (.str (txH no ba oc fs rs))),[.sh (houseD no ba oc fs rs)]):=by
 rw [run_ T_show_house rfl rfl]
 unfold fn_show_house
 obtain ⟨k1,k2,k3,w1,w2,w3⟩:=h.hd
 obtain ⟨v1,v2,v3⟩:=wo_head
 obtain ⟨l1,l2,l3⟩:=h.len
 have r1:=row_spec (W:=W) (n:=n+1) (s:=.sh (.lst [.str "notes",.int no])) (.inl rfl) (fc f_strS (fc k1.s fun _ h=>nomatch h)) (fc v1 (fc w1 fun _ h=>nomatch h)) (by simp)
 have r2:=row_spec (W:=W) (n:=n+1) (s:=.sh (.lst [.str "bar",.int ba])) (.inl rfl) (fc f_strS (fc k2.s fun _ h=>nomatch h)) (fc v2 (fc w2 fun _ h=>nomatch h)) (by simp)
 have r3:=row_spec (W:=W) (n:=n+1) (s:=.sh (.lst [.str "octave",.int oc])) (.inl rfl) (fc f_strS (fc k3.s fun _ h=>nomatch h)) (fc v3 (fc w3 fun _ h=>nomatch h)) (by simp)
 obtain ⟨ρ1,e1,t1,rfl,ht1⟩:=compL_g (P:=T.pins) (C:=run T W (n+2)) (elt:=ev T.pins (run T W (n+2)) false el_show_house_0) (bind:=bindT true [1]) (xs:=fs) toD (fun f=>D.str (rowT (vW f))) (fun ρ=>∃ t,ρ=[.un,t]∧okS t=true)
  (fun f hf ρ hρ=>by
   obtain ⟨t,rfl,ht⟩:=hρ
   have hr:=fol_shown (W:=W) (n:=n) (h.ho.f f hf)
   refine ⟨[.un,.sh (toD f)],.sh (.str (rowT (vW f))),[.un,.sh (toD f)],by simp only [cib,stO_okS ht] <;> rfl, ?_,rfl,_,rfl,rfl⟩
   unfold el_show_house_0
   generalize rowT _=p at *
   generalize toD f=q at *
   clear hf ht h k1 k2 k3 w1 w2 w3 v1 v2 v3 l1 l2 l3 r1 r2 r3
   walk_at "!") (ρ:=[.un,.un]) ⟨_,rfl,rfl⟩
 obtain ⟨ρ2,e2,t2,rfl,ht2⟩:=compL_g (P:=T.pins) (C:=run T W (n+2)) (elt:=ev T.pins (run T W (n+2)) false el_show_house_1) (bind:=bindT true [1]) (xs:=rs) id (fun d=>D.str (rowT (rW d))) (fun ρ=>∃ t,ρ=[.un,t]∧okS t=true)
  (fun d hd ρ hρ=>by
   obtain ⟨t,rfl,ht⟩:=hρ
   have hr:=(h.r d hd).sh W n
   refine ⟨[.un,.sh d],.sh (.str (rowT (rW d))),[.un,.sh d],by simp only [cib,stO_okS ht] <;> rfl, ?_,rfl,_,rfl,rfl⟩
   unfold el_show_house_1
   generalize rowT _=p at *
   clear hd ht h k1 k2 k3 w1 w2 w3 v1 v2 v3 l1 l2 l3 r1 r2 r3 e1
   walk_at "!") (ρ:=[.un,.un]) ⟨_,rfl,rfl⟩
 rw [List.map_id] at e2
 have hT1:=h.joi.1
 have hsp:((hW no ba oc fs rs).map rowT).map D.str=D.str (rowT [("notes":PySem.Str),num no]) :: .str (rowT [("bar":PySem.Str),num ba]) :: .str (rowT [("octave":PySem.Str),num oc]) :: (fs.map (fun f=>D.str (rowT (vW f))) ++ rs.map (fun d=>D.str (rowT (rW d)))):=by
  unfold hW hd3 fds
  simp [wFD,Function.comp_def]
 rw [hsp] at hT1
 have i3:∀ ρ,itemsOf .of [.val (.sh (.tup (fs.map toD)))] ρ=some (fs.map toD,none):=fun ρ=>it_tv rfl
 have i4:∀ ρ,itemsOf .of [.val (.sh (.tup rs))] ρ=some (rs,none):=fun ρ=>it_tv rfl
 have x0:ixO (some (houseD no ba oc fs rs)) (.int 0)=some (.sh (.int no)):=rfl
 have x1:ixO (some (houseD no ba oc fs rs)) (.int 1)=some (.sh (.int ba)):=rfl
 have x2:ixO (some (houseD no ba oc fs rs)) (.int 2)=some (.sh (.int oc)):=rfl
 have x3:ixO (some (houseD no ba oc fs rs)) (.int 3)=some (.sh (.tup (fs.map toD))):=rfl
 have x4:ixO (some (houseD no ba oc fs rs)) (.int 4)=some (.sh (.tup rs)):=rfl
 have m1:smallL (fs.map (fun f=>D.str (rowT (vW f)))).length=true:=smallL_ (by rw [List.length_map]; omega)
 have m2:smallL (rs.map (fun d=>D.str (rowT (rW d)))).length=true:=smallL_ (by rw [List.length_map]; omega)
 replace r1:run T W (n+1+1) "show_row" [.sh (.lst [.str "notes",.int no])]=some (.ok (.sh (.str (rowT [("notes":PySem.Str),num no]))),[.sh (.lst [.str "notes",.int no])]):=r1
 replace r2:run T W (n+1+1) "show_row" [.sh (.lst [.str "bar",.int ba])]=some (.ok (.sh (.str (rowT [("bar":PySem.Str),num ba]))),[.sh (.lst [.str "bar",.int ba])]):=r2
 replace r3:run T W (n+1+1) "show_row" [.sh (.lst [.str "octave",.int oc])]=some (.ok (.sh (.str (rowT [("octave":PySem.Str),num oc]))),[.sh (.lst [.str "octave",.int oc])]):=r3
 generalize hF:fs.map (fun f=>D.str (rowT (vW f)))=F at *
 generalize hR:rs.map (fun d=>D.str (rowT (rW d)))=R at *
 have lF:F.length≤3:=by rw [← hF,List.length_map]; exact l2
 have lR:R.length≤8:=by rw [← hR,List.length_map]; exact l3
 generalize rowT [("notes":PySem.Str),num no]=q1 at *
 generalize rowT [("bar":PySem.Str),num ba]=q2 at *
 generalize rowT [("octave":PySem.Str),num oc]=q3 at *
 have m3:smallL (3+F.length)=true:=smallL_ (by omega)
 have m4:smallL (([D.str q1,.str q2,.str q3] ++ F).length+R.length)=true:=smallL_ (by simp; omega)
 have m5:smallL (3+F.length+R.length)=true:=smallL_ (by omega)
 have m6:smallL (F.length+3+R.length)=true:=smallL_ (by omega)
 generalize txH no ba oc fs rs=tt at *
 generalize houseD no ba oc fs rs=hh at *
 generalize fs.map toD=V at *
 clear h k1 k2 k3 w1 w2 w3 v1 v2 v3 l1 l2 l3 hsp hF hR lF lR ht1 ht2
 walk_at "!"
 rw [kComp_n (i3 _)]
 walk_at "!"
 all_goals (first | done | (rw [compF_ rfl]; walk_at "!"))
 all_goals (try (rw [kComp_n (i4 _)]; walk_at "!"))
 all_goals (first | done | (rw [compF_ rfl]; walk_at "!"))
noncomputable def lnD:D→D
 | .tup [.int a,.int b,.bl c]=>.str (rowT (vW (a,b,c)))
 | _=>.non
theorem at_bt {a b:D} {c:Bool}:L2.atI [a,b] (if c=true then 1 else 0)=some (if c=true then b else a):=by cases c <;> rfl
theorem if_str {x y:PySem.Str} {c:Bool}:(if c=true then D.str x else D.str y)=.str (if c=true then x else y):=by cases c <;> rfl
theorem num_len {i:Int} (h:NumOk i):(num i).length≤3:=h.tg.len
open PySem in
theorem len_app {x y:Str}:(x ++ y).length=x.length+y.length:=by
 show (x.cps ++ y.cps).size=_
 simp
 rfl
open PySem in
theorem len_lits:("voice ":Str).length=6∧(" ":Str).length=1∧(" turned":Str).length=7∧("":Str).length=0∧("notes ":Str).length=6∧("bar ":Str).length=4∧("octave ":Str).length=7:=by decide +kernel
theorem text_spec {W n:Nat} {no ba oc:Int} {fs:List (Int × Int × Bool)} {rs:List D} (h:HX no ba oc fs rs) :
  run T W (n+2) "L_text" [.sh (houseD no ba oc fs rs)]=some (.ok (.sh (.str (txH no ba oc fs rs))),[.sh (houseD no ba oc fs rs)]):=by
 rw [run_ T_L_text rfl rfl]
 obtain ⟨k1,k2,k3,w1,w2,w3⟩:=h.hd
 obtain ⟨l1,l2,l3⟩:=h.len
 obtain ⟨z1,z2,z3,z4,z5,z6,z7⟩:=len_lits
 have hA:exs T.pins (run T W (n+1)) W (fn_L_text.body.take 2) ([.sh (houseD no ba oc fs rs)] ++ List.replicate fn_L_text.nl .un)=some (.nx,[.sh (houseD no ba oc fs rs),.sh (.int no),.sh (.int ba),.sh (.int oc),.sh (.tup (fs.map toD)),.sh (.tup rs),.ow (.lst [.str (rowT [("notes":PySem.Str),num no]),.str (rowT [("bar":PySem.Str),num ba]),.str (rowT [("octave":PySem.Str),num oc])]) false false,.un,.un,.un]):=by
  unfold fn_L_text houseD
  have s1:=k1.s
  have s2:=k2.s
  have s3:=k3.s
  have b1:=b_addS (x:=("notes ":PySem.Str)) (y:=num no) (by have:=num_len k1; omega)
  have b2:=b_addS (x:=("bar ":PySem.Str)) (y:=num ba) (by have:=num_len k2; omega)
  have b3:=b_addS (x:=("octave ":PySem.Str)) (y:=num oc) (by have:=num_len k3; omega)
  rw [t_two l_notes] at b1
  rw [t_two l_bar] at b2
  rw [t_two l_octave] at b3
  generalize rowT [("notes":PySem.Str),num no]=q1 at *
  generalize rowT [("bar":PySem.Str),num ba]=q2 at *
  generalize rowT [("octave":PySem.Str),num oc]=q3 at *
  clear h k1 k2 k3 w1 w2 w3 l1 l2 l3 z1 z2 z3 z4 z5 z6 z7
  walk_at "!"
 rw [exs_cut hA]
 clear hA
 generalize hq1:D.str (rowT [("notes":PySem.Str),num no])=q1 at *
 generalize hq2:D.str (rowT [("bar":PySem.Str),num ba])=q2 at *
 generalize hq3:D.str (rowT [("octave":PySem.Str),num oc])=q3 at *
 obtain ⟨ρ1,el,t7,t8,t9,rfl,ht7,ht8,ht9⟩:=loopF_inv' (bind:=bindT false [7,8,9]) (body:=exs T.pins (run T W (n+1)) W bd_L_text_0)
  (fun pre ρ=>∃ t7 t8 t9,ρ=[.sh (houseD no ba oc fs rs),.sh (.int no),.sh (.int ba),.sh (.int oc),.sh (.tup (fs.map toD)),.sh (.tup rs),.ow (.lst (q1 :: q2 :: q3 :: pre.map lnD)) false false,t7,t8,t9]∧okS t7=true∧okS t8=true∧okS t9=true)
  (ds:=fs.map toD) (fun pre d post hds ρ hρ=>by
   obtain ⟨t7,t8,t9,rfl,h7,h8,h9⟩:=hρ
   have hpl:pre.length≤3:=by
    have:=congrArg List.length hds
    simp at this
    omega
   obtain ⟨f,hf,rfl⟩:∃ f∈fs,toD f=d:=List.mem_map.mp (by rw [hds]; simp)
   obtain ⟨a,b,c⟩:=f
   obtain ⟨f1,f2,f3,f4⟩:=h.ho.f _ hf
   have j1:=num_ok (i:=a) (by simp at f1; omega) (by simp at f2; omega)
   have j2:=num_ok (i:=b) (by simp at f3; omega) (by simp at f4; omega)
   have s1:=j1.s
   have s2:=j2.s
   have g1:=num_len j1
   have g2:=num_len j2
   refine ⟨[.sh (houseD no ba oc fs rs),.sh (.int no),.sh (.int ba),.sh (.int oc),.sh (.tup (fs.map toD)),.sh (.tup rs),.ow (.lst (q1 :: q2 :: q3 :: pre.map lnD)) false false,.sh (.int a),.sh (.int b),.sh (.bl c)],by unfold toD; simp only [cib,stO_okS h7,stO_okS h8,stO_okS h9] <;> rfl, ?_⟩
   have b1:=b_addS (x:=("voice ":PySem.Str)) (y:=num a) (by omega)
   have e1:(("voice ":PySem.Str) ++ num a).length≤9:=by rw [len_app]; omega
   have b2:=b_addS (x:=("voice ":PySem.Str) ++ num a) (y:=(" ":PySem.Str)) (by omega)
   have e2:((("voice ":PySem.Str) ++ num a) ++ (" ":PySem.Str)).length≤10:=by rw [len_app]; omega
   have b3:=b_addS (x:=(("voice ":PySem.Str) ++ num a) ++ (" ":PySem.Str)) (y:=num b) (by omega)
   have e3:(((("voice ":PySem.Str) ++ num a) ++ (" ":PySem.Str)) ++ num b).length≤13:=by rw [len_app]; omega
   have e4:(if c=true then (" turned":PySem.Str) else ("":PySem.Str)).length≤7:=by cases c <;> simp <;> omega
   have b4:=b_addS (x:=((("voice ":PySem.Str) ++ num a) ++ (" ":PySem.Str)) ++ num b) (y:=if c=true then (" turned":PySem.Str) else ("":PySem.Str)) (by omega)
   rw [t_voice] at b4
   have hln:lnD (toD (a,b,c))=.str (rowT (vW (a,b,c))):=rfl
   have hvw:rowT (("voice":PySem.Str) :: num a :: num b :: (if c=true then [("turned":PySem.Str)] else []))=rowT (vW (a,b,c)):=rfl
   rw [hvw] at b4
   rw [List.map_append,List.map_cons,List.map_nil,hln]
   have hat:=at_bt (a:=D.str "") (b:=D.str " turned") (c:=c)
   rw [if_str] at hat
   have hsm:smallL ((q1 :: q2 :: q3 :: pre.map lnD).length+1)=true:=smallL_ (by simp; omega)
   have hsm2:smallL ((pre.map lnD).length+4)=true:=smallL_ (by simp; omega)
   generalize (if c=true then (" turned":PySem.Str) else ("":PySem.Str))=tu at *
   generalize (((("voice ":PySem.Str) ++ num a) ++ (" ":PySem.Str)) ++ num b)=x4 at *
   generalize ((("voice ":PySem.Str) ++ num a) ++ (" ":PySem.Str))=x3 at *
   generalize (("voice ":PySem.Str) ++ num a)=x2 at *
   generalize num a=na at *
   generalize num b=nb at *
   generalize rowT (vW (a,b,c))=rw1 at *
   generalize pre.map lnD=PL at *
   generalize houseD no ba oc fs rs=hh at *
   generalize fs.map toD=V at *
   unfold bd_L_text_0
   clear h k1 k2 k3 w1 w2 w3 l1 l2 l3 z1 z2 z3 z4 z5 z6 z7 hds hpl hf f1 f2 f3 f4 j1 j2 g1 g2 e1 e2 e3 e4 hln hvw hq1 hq2 hq3 h7 h8 h9
   walk_at "!"
   exact ⟨_,rfl,_,_,_,rfl,rfl,rfl,rfl⟩)
  (ρ:=[.sh (houseD no ba oc fs rs),.sh (.int no),.sh (.int ba),.sh (.int oc),.sh (.tup (fs.map toD)),.sh (.tup rs),.ow (.lst [q1,q2,q3]) false false,.un,.un,.un]) ⟨_,_,_,rfl,rfl,rfl,rfl⟩
 have hmap:(fs.map toD).map lnD=fs.map fun f=>D.str (rowT (vW f)):=by rw [List.map_map]; rfl
 rw [hmap] at el
 obtain ⟨ρ2,e2,t2,rfl,ht2⟩:=compL_g (P:=T.pins) (C:=run T W (n+1)) (elt:=ev T.pins (run T W (n+1)) false el_L_text_0) (bind:=bindT true [1]) (xs:=rs) id (fun d=>D.str (rowT (rW d))) (fun ρ=>∃ t,ρ=[.un,t]∧okS t=true)
  (fun d hd ρ hρ=>by
   obtain ⟨t,rfl,ht⟩:=hρ
   have hr:=(h.r d hd).tx W n
   refine ⟨[.un,.sh d],.sh (.str (rowT (rW d))),[.un,.sh d],by simp only [cib,stO_okS ht] <;> rfl, ?_,rfl,_,rfl,rfl⟩
   unfold el_L_text_0
   generalize rowT _=p at *
   clear hd ht h k1 k2 k3 w1 w2 w3 l1 l2 l3 z1 z2 z3 z4 z5 z6 z7 el hq1 hq2 hq3 hmap
   walk_at "!") (ρ:=[.un,.un]) ⟨_,rfl,rfl⟩
 rw [List.map_id] at e2
 have hT1:=h.joi.1
 have hsp:((hW no ba oc fs rs).map rowT).map D.str=D.str (rowT [("notes":PySem.Str),num no]) :: .str (rowT [("bar":PySem.Str),num ba]) :: .str (rowT [("octave":PySem.Str),num oc]) :: (fs.map (fun f=>D.str (rowT (vW f))) ++ rs.map (fun d=>D.str (rowT (rW d)))):=by
  unfold hW hd3 fds
  simp [wFD,Function.comp_def]
 rw [hsp,hq1,hq2,hq3] at hT1
 have m2:smallL (rs.map (fun d=>D.str (rowT (rW d)))).length=true:=smallL_ (by rw [List.length_map]; omega)
 have m3:smallL ((q1 :: q2 :: q3 :: fs.map (fun f=>D.str (rowT (vW f)))).length+(rs.map (fun d=>D.str (rowT (rW d)))).length)=true:=smallL_ (by simp; omega)
 have b5:=b_cat m3
 have i4:∀ ρ,itemsOf .of [.val (.sh (.tup (fs.map toD)))] ρ=some (fs.map toD,none):=fun ρ=>it_tv rfl
 have i4':itemsOf .of [.slot 4] [.sh (houseD no ba oc fs rs),.sh (.int no),.sh (.int ba),.sh (.int oc),.sh (.tup (fs.map toD)),.sh (.tup rs),.ow (.lst [q1,q2,q3]) false false,.un,.un,.un]=some (fs.map toD,none):=it_ts rfl
 have i5:itemsOf .of [.slot 5] [.sh (houseD no ba oc fs rs),.sh (.int no),.sh (.int ba),.sh (.int oc),.sh (.tup (fs.map toD)),.sh (.tup rs),.ow (.lst (q1 :: q2 :: q3 :: fs.map fun f=>D.str (rowT (vW f)))) false false,t7,t8,t9]=some (rs,none):=it_ts rfl
 generalize fs.map (fun f=>D.str (rowT (vW f)))=F at *
 generalize rs.map (fun d=>D.str (rowT (rW d)))=R at *
 generalize txH no ba oc fs rs=tt at *
 generalize houseD no ba oc fs rs=hh at *
 generalize fs.map toD=V at *
 unfold fn_L_text
 clear h k1 k2 k3 w1 w2 w3 l1 l2 l3 z1 z2 z3 z4 z5 z6 z7 hq1 hq2 hq3 hmap hsp ht7 ht8 ht9 ht2 m3
 walk_at "!"
 rw [kComp_n i5]
 walk_at "!"
 all_goals (first | done | (rw [compF_ rfl]; walk_at "!"))
noncomputable def isV:FD→Bool
 | .inl _=>true
 | .inr _=>false
noncomputable def rowD (x:FD):D:=wsD (wFD x)
noncomputable def valD:FD→D
 | .inl f=>toD f
 | .inr d=>d
theorem row_head {no ba oc:Int} {fs:List (Int × Int × Bool)} {rs:List D} (h:HX no ba oc fs rs) {x:FD} (hx:x∈fds fs rs):∃ w r,rowD x=.lst (.str w :: r)∧(w == ("voice":PySem.Str))=isV x:=by
 rcases List.mem_append.mp hx with hx | hx
 ·obtain ⟨f,hf,rfl⟩:=List.mem_map.mp hx
  exact ⟨_,_,rfl,beq_self_eq_true _⟩
 ·obtain ⟨d,hd,rfl⟩:=List.mem_map.mp hx
  obtain ⟨w,r,e,hv⟩:=(h.r d hd).nv
  exact ⟨w,r.map D.str,by show wsD (rW d)=_; rw [e]; rfl,hv⟩
theorem fds_l (fs:List (Int × Int × Bool)) (rs:List D):((fds fs rs).filter isV).map valD=fs.map toD:=by
 unfold fds
 rw [List.filter_append,List.filter_eq_self.mpr,List.filter_eq_nil_iff.mpr,List.append_nil,List.map_map]
 ·rfl
 ·intro x hx; obtain ⟨d,_,rfl⟩:=List.mem_map.mp hx; simp [isV]
 ·intro x hx; obtain ⟨d,_,rfl⟩:=List.mem_map.mp hx; rfl
theorem fds_r (fs:List (Int × Int × Bool)) (rs:List D):((fds fs rs).filter fun x=>!isV x).map valD=rs:=by
 unfold fds
 rw [List.filter_append,List.filter_eq_nil_iff.mpr,List.filter_eq_self.mpr,List.nil_append,List.map_map]
 ·exact List.map_id'' (fun _=>rfl) _
 ·intro x hx; obtain ⟨d,_,rfl⟩:=List.mem_map.mp hx; rfl
 ·intro x hx; obtain ⟨d,_,rfl⟩:=List.mem_map.mp hx; simp [isV]
theorem made_spec {W n:Nat} {no ba oc:Int} {fs:List (Int × Int × Bool)} {rs:List D} (h:HX no ba oc fs rs) :
  run T W (n+6) "made_of" [.sh (.lst ((hW no ba oc fs rs).map wsD))]=some (.ok (.sh (houseD no ba oc fs rs)),[.sh (.lst ((hW no ba oc fs rs).map wsD))]):=by
 rw [run_ T_made_of rfl rfl]
 obtain ⟨k1,k2,k3,w1,w2,w3⟩:=h.hd
 obtain ⟨l1,l2,l3⟩:=h.len
 have hrows:(hW no ba oc fs rs).map wsD=.lst [.str "notes",.str (num no)] :: .lst [.str "bar",.str (num ba)] :: .lst [.str "octave",.str (num oc)] :: (fds fs rs).map rowD:=by
  unfold hW hd3
  rw [List.map_append,List.map_map]
  rfl
 have lfd:(fds fs rs).length≤11:=by unfold fds; simp; omega
 rw [hrows]
 have s1:=sl_toD (L:=.lst [.str "notes",.str (num no)] :: .lst [.str "bar",.str (num ba)] :: .lst [.str "octave",.str (num oc)] :: (fds fs rs).map rowD) (c:=3)
 rw [List.take_succ_cons,List.take_succ_cons,List.take_succ_cons,List.take_zero] at s1
 have s2:=sl_3 (L:=(fds fs rs).map rowD) (a:=.lst [.str "notes",.str (num no)]) (b:=.lst [.str "bar",.str (num ba)]) (c:=.lst [.str "octave",.str (num oc)])
 replace s1:slO (some (.lst (.lst [.str "notes",.str (num no)] :: .lst [.str "bar",.str (num ba)] :: .lst [.str "octave",.str (num oc)] :: (fds fs rs).map rowD))) none (some (.int 3))=some (.ow (.lst [.lst [.str "notes",.str (num no)],.lst [.str "bar",.str (num ba)],.lst [.str "octave",.str (num oc)]])):=s1
 -- the numbers
 obtain ⟨ρ0,e0,t0,rfl,ht0⟩:=compL_g (P:=T.pins) (C:=run T W (n+5)) (elt:=ev T.pins (run T W (n+5)) false el_made_of_0) (bind:=bindT true [1]) (xs:=[(("notes":PySem.Str),num no),(("bar":PySem.Str),num ba),(("octave":PySem.Str),num oc)]) (fun p=>D.lst [.str p.1,.str p.2]) (fun p=>D.str p.2) (fun ρ=>∃ t,ρ=[.un,t]∧okS t=true)
  (fun p hp ρ hρ=>by
   obtain ⟨t,rfl,ht⟩:=hρ
   have hx:ixO (some (.lst [.str p.1,.str p.2])) (.int (-1))=some (.sh (.str p.2)):=rfl
   refine ⟨[.un,.sh (.lst [.str p.1,.str p.2])],.sh (.str p.2),[.un,.sh (.lst [.str p.1,.str p.2])],by simp only [cib,stO_okS ht] <;> rfl, ?_,rfl,_,rfl,rfl⟩
   unfold el_made_of_0
   clear hp ht h k1 k2 k3 w1 w2 w3 l1 l2 l3 hrows s1 s2 lfd
   walk_at "!") (ρ:=[.un,.un]) ⟨_,rfl,rfl⟩
 replace e0:compL (evTs T.pins (run T W (n+5)) []) (ev T.pins (run T W (n+5)) false el_made_of_0) (bindT true [1]) [.lst [.str "notes",.str (num no)],.lst [.str "bar",.str (num ba)],.lst [.str "octave",.str (num oc)]] [] [.un,.un]=some (.ok [.str (num no),.str (num ba),.str (num oc)],[.un,t0]):=e0
 have hr:=rdns (W:=W) (n:=n+3) (is:=[no,ba,oc]) (fc k1 (fc k2 (fc k3 fun _ h=>nomatch h))) (by simp)
 replace hr:run T W (n+3+2) "read_numbers" [.sh (.lst [.str (num no),.str (num ba),.str (num oc)])]=some (.ok (.ow (.lst [.int no,.int ba,.int oc])),[.sh (.lst [.str (num no),.str (num ba),.str (num oc)])]):=hr
 have i0:∀ ρ,itemsOf .of [.val (.ow (.lst [.lst [.str "notes",.str (num no)],.lst [.str "bar",.str (num ba)],.lst [.str "octave",.str (num oc)]]))] ρ=some ([.lst [.str "notes",.str (num no)],.lst [.str "bar",.str (num ba)],.lst [.str "octave",.str (num oc)]],none):=fun ρ=>it_lv rfl
 -- the voices
 obtain ⟨ρ1,e1,t1,rfl,ht1⟩:=compL_fg (tests:=evTs T.pins (run T W (n+5)) [(.cmp .Eq (.ix (.var 1) (.con (.int 0))) (.con (.str ("voice":PySem.Str))))]) (elt:=ev T.pins (run T W (n+5)) false el_made_of_1) (bind:=bindT true [1]) (xs:=fds fs rs) rowD isV valD (fun ρ=>∃ t,ρ=[.un,t]∧okS t=true)
  (fun x hx ρ hρ=>by
   obtain ⟨t,rfl,ht⟩:=hρ
   obtain ⟨w,r,hw,hv⟩:=row_head h hx
   have hx0:ixO (some (rowD x)) (.int 0)=some (.sh (.str w)):=by rw [hw]; exact ixl_0
   refine ⟨[.un,.sh (rowD x)],[.un,.sh (rowD x)],by simp only [cib,stO_okS ht] <;> rfl, ?_,fun hk=>⟨.sh (valD x),[.un,.sh (rowD x)], ?_,rfl,_,rfl,rfl⟩,fun _=>⟨_,rfl,rfl⟩⟩
   ·generalize isV x=b at *
    generalize rowD x=rx at *
    clear hx hw ht h k1 k2 k3 w1 w2 w3 l1 l2 l3 hrows s1 s2 lfd e0 hr i0 ht0
    cases b <;> walk_at "!"
   ·obtain f | d:=x
    ·have hf:f∈fs:=by
      rcases List.mem_append.mp hx with hx | hx
      ·obtain ⟨g,hg,e⟩:=List.mem_map.mp hx; cases e; exact hg
      ·obtain ⟨g,_,e⟩:=List.mem_map.mp hx; cases e
     have hrd:=fol_read (W:=W) (n:=n+2) (h.ho.f f hf)
     show ev T.pins (run T W (n+5)) false el_made_of_1 [.un,.sh (wsD (vW f))]=some (.ok (.sh (toD f)),[.un,.sh (wsD (vW f))])
     unfold el_made_of_1
     generalize wsD (vW f)=q at *
     generalize toD f=q2 at *
     clear hx hw ht h k1 k2 k3 w1 w2 w3 l1 l2 l3 hrows s1 s2 lfd e0 hr i0 ht0 hx0 hv hk hf
     walk_at "!"
    ·cases hk) (ρ:=[.un,.un]) ⟨_,rfl,rfl⟩
 rw [fds_l] at e1
 -- the rules
 obtain ⟨ρ2,e2,t2,rfl,ht2⟩:=compL_fg (tests:=evTs T.pins (run T W (n+5)) [(.cmp .NotEq (.ix (.var 1) (.con (.int 0))) (.con (.str ("voice":PySem.Str))))]) (elt:=ev T.pins (run T W (n+5)) false el_made_of_2) (bind:=bindT true [1]) (xs:=fds fs rs) rowD (fun x=>!isV x) valD (fun ρ=>∃ t,ρ=[.un,t]∧okS t=true)
  (fun x hx ρ hρ=>by
   obtain ⟨t,rfl,ht⟩:=hρ
   obtain ⟨w,r,hw,hv⟩:=row_head h hx
   have hx0:ixO (some (rowD x)) (.int 0)=some (.sh (.str w)):=by rw [hw]; exact ixl_0
   refine ⟨[.un,.sh (rowD x)],[.un,.sh (rowD x)],by simp only [cib,stO_okS ht] <;> rfl, ?_,fun hk=>⟨.sh (valD x),[.un,.sh (rowD x)], ?_,rfl,_,rfl,rfl⟩,fun _=>⟨_,rfl,rfl⟩⟩
   ·generalize isV x=b at *
    generalize rowD x=rx at *
    clear hx hw ht h k1 k2 k3 w1 w2 w3 l1 l2 l3 hrows s1 s2 lfd e0 hr i0 ht0 e1 ht1
    cases b <;> walk_at "!"
   ·obtain f | d:=x
    ·cases hk
    ·have hd:d∈rs:=by
      rcases List.mem_append.mp hx with hx | hx
      ·obtain ⟨g,_,e⟩:=List.mem_map.mp hx; cases e
      ·obtain ⟨g,hg,e⟩:=List.mem_map.mp hx; cases e; exact hg
     have hrd:=(h.r d hd).rd W (n+1)
     show ev T.pins (run T W (n+5)) false el_made_of_2 [.un,.sh (wsD (rW d))]=some (.ok (.sh d),[.un,.sh (wsD (rW d))])
     unfold el_made_of_2
     generalize wsD (rW d)=q at *
     clear hx hw ht h k1 k2 k3 w1 w2 w3 l1 l2 l3 hrows s1 s2 lfd e0 hr i0 ht0 hx0 hv hk hd e1 ht1
     walk_at "!") (ρ:=[.un,.un]) ⟨_,rfl,rfl⟩
 rw [fds_r] at e2
 have iA:∀ ρ,itemsOf .of [.val (.ow (.lst ((fds fs rs).map rowD)))] ρ=some ((fds fs rs).map rowD,none):=fun ρ=>it_lv rfl
 have hh:=house_of_spec (W:=W) (n:=n) h.ho h.rr
 have m0:smallL 3=true:=sm_3
 have m1:smallL (fs.map toD).length=true:=smallL_ (by rw [List.length_map]; omega)
 have m2:smallL rs.length=true:=smallL_ (by omega)
 generalize houseD no ba oc fs rs=HH at *
 generalize (fds fs rs).map rowD=FR at *
 generalize fs.map toD=V at *
 generalize D.lst [.str "notes",.str (num no)]=r1 at *
 generalize D.lst [.str "bar",.str (num ba)]=r2 at *
 generalize D.lst [.str "octave",.str (num oc)]=r3 at *
 unfold fn_made_of
 clear h k1 k2 k3 w1 w2 w3 l1 l2 l3 hrows lfd ht0 ht1 ht2
 walk_at "!"
 rw [kComp_n (i0 _)]
 walk_at "!"
 all_goals (try (rw [compF_ rfl]; walk_at "!"))
 all_goals (try (rw [kComp_n (iA _)]; walk_at "!"))
 all_goals (try (rw [compF_ rfl]; walk_at "!"))
 all_goals (try (rw [kComp_n (iA _)]; walk_at "!"))
 all_goals (try (rw [compF_ rfl]; walk_at "!"))
theorem house_read {W n:Nat} {no ba oc:Int} {fs:List (Int × Int × Bool)} {rs:List D} (h:HX no ba oc fs rs) :
  run T W (n+7) "read_house" [.sh (.str (txH no ba oc fs rs))]=some (.ok (.sh (houseD no ba oc fs rs)),[.sh (.str (txH no ba oc fs rs))]):=by
 rw [run_ T_read_house rfl rfl]
 obtain ⟨l1,l2,l3⟩:=h.len
 have hsp:∀ ρ,splO ("\n":PySem.Str) ρ (some (.sh (.str (txH no ba oc fs rs))))=some (.ok (.ow (.lst (((hW no ba oc fs rs).map rowT).map D.str))),ρ):=fun ρ =>
  spl_jS nl_eq (by decide) (B:=2000) (N:=100000) (fun w hw=>(h.row w hw).1) (by rw [List.length_map,l1]; omega) (by decide) (fun z=>by have h0:=congrArg List.length z; rw [List.length_map,l1,List.length_nil] at h0; omega) fun w hw=>(h.row w hw).2
 obtain ⟨ρ0,e0,t0,rfl,ht0⟩:=compL_g (P:=T.pins) (C:=run T W (n+6)) (elt:=ev T.pins (run T W (n+6)) false el_read_house_0) (bind:=bindT true [1]) (xs:=hW no ba oc fs rs) (fun ws=>D.str (rowT ws)) wsD (fun ρ=>∃ t,ρ=[.un,t]∧okS t=true)
  (fun ws hm ρ hρ=>by
   obtain ⟨t,rfl,ht⟩:=hρ
   obtain ⟨h1,h2,h3⟩:=h.wo ws hm
   have hs:∀ ρ,splO (" ":PySem.Str) ρ (some (.sh (.str (rowT ws))))=some (.ok (.ow (.lst (ws.map D.str))),ρ):=fun ρ=>spl_jS blk_eq (by decide) (B:=60) (N:=2000) (fun w hw=>(h1 w hw).tg) (by omega) (by decide) h3 fun w hw=>(h1 w hw).f32
   refine ⟨[.un,.sh (.str (rowT ws))],.ow (.lst (ws.map D.str)),[.un,.sh (.str (rowT ws))],by simp only [cib,stO_okS ht] <;> rfl, ?_,rfl,_,rfl,rfl⟩
   unfold el_read_house_0
   generalize rowT ws=q at *
   generalize ws.map D.str=q2 at *
   clear hm ht h h1 h2 h3 l1 l2 l3 hsp
   walk_at "!") (ρ:=[.un,.un]) ⟨_,rfl,rfl⟩
 have hm:(hW no ba oc fs rs).map (fun ws=>D.str (rowT ws))=((hW no ba oc fs rs).map rowT).map D.str:=by rw [List.map_map]; rfl
 rw [hm] at e0
 have hmade:=made_spec (W:=W) (n:=n) h
 have hshow:=house_shown (W:=W) (n:=n+3) h
 have hne:=c_neR (d:=.str (txH no ba oc fs rs)) rfl
 have hne2:(txH no ba oc fs rs == txH no ba oc fs rs)=true:=beq_self_eq_true _
 have i0:∀ ρ,itemsOf .of [.val (.ow (.lst (((hW no ba oc fs rs).map rowT).map D.str)))] ρ=some (((hW no ba oc fs rs).map rowT).map D.str,none):=fun ρ=>it_lv rfl
 have hl:((hW no ba oc fs rs).map wsD).length=3+(fs.length+rs.length):=by rw [List.length_map]; exact l1
 have hsm:smallL (3+(fs.length+rs.length))=true:=smallL_ (by omega)
 have hlt:decide (((3+(fs.length+rs.length):Nat):Int)<3)=false:=decide_eq_false (by omega)
 generalize ((hW no ba oc fs rs).map rowT).map D.str=RS at *
 generalize (hW no ba oc fs rs).map wsD=WS at *
 generalize txH no ba oc fs rs=tt at *
 generalize houseD no ba oc fs rs=HH at *
 generalize 3+(fs.length+rs.length)=q at *
 unfold fn_read_house
 clear h hm l1 l2 l3 ht0
 walk_at "!"
 rw [kComp_n (i0 _)]
 walk_at "!"
 all_goals (try (rw [compF_ rfl]; walk_at "!"))
theorem sl_takeT {ds:List D} {c:Nat}:slO (some (.tup ds)) none (some (.int (c:Int)))=some (.sh (.tup (ds.take c))):=by
 show some (RV.sh (.tup (cutD ds none (some (c:Int)))))=_
 unfold cutD
 rw [HT.sIx_nat,HT.sIx_none,List.drop_zero,Nat.sub_zero]
 by_cases h:c≤ds.length
 ·rw [Nat.min_eq_left h]
 ·rw [Nat.min_eq_right (by omega),List.take_of_length_le (Nat.le_refl _),List.take_of_length_le (by omega)]
theorem sl_dropT {ds:List D} {c:Nat}:slO (some (.tup ds)) (some (.int ((c:Int)+1))) none=some (.sh (.tup (ds.drop (c+1)))):=by
 show some (RV.sh (.tup (cutD ds (some ((c+1:Nat):Int)) none)))=_
 unfold cutD
 rw [HT.sIx_nat,HT.sIx_none]
 by_cases h:c+1≤ds.length
 ·rw [Nat.min_eq_left h,List.take_of_length_le (by rw [List.length_drop]; omega)]
 ·rw [Nat.min_eq_right (by omega),Nat.sub_self,List.take_zero,List.drop_of_length_le (by omega)]
theorem cat_tup {xs ys:List D} (h:xs.length+ys.length≤1000):binD .Add (.tup xs) (.tup ys)=some (.sh (.tup (xs ++ ys))):=by
 cases xs with
 | nil=>rfl
 | cons a r=>exact if_pos (smallL_ (by simp at h; omega))
theorem at3 {a b c:D} {i:Int} (h1:0≤i) (h2:i<3):∃ x,L2.atI [a,b,c] i=some x∧(x=a∨x=b∨x=c):=by
 have:i=0∨i=1∨i=2:=by omega
 rcases this with rfl | rfl | rfl
 ·exact ⟨_,rfl,.inl rfl⟩
 ·exact ⟨_,rfl,.inr (.inl rfl)⟩
 ·exact ⟨_,rfl,.inr (.inr rfl)⟩
theorem bent_spec {W n:Nat} {k s no ba oc:Int} {fs:List (Int × Int × Bool)} {rs:List D} (h:HX no ba oc fs rs) :
  ∃ s' fs' rs',run T W (n+3) "L_bent" [.ow (.lst [.int k,.int s]) true false,.sh (houseD no ba oc fs rs)]=some (.ok (.sh (houseD no ba oc fs' rs')),[.ow (.lst [.int k,.int s']) true false,.sh (houseD no ba oc fs rs)])∧HouseOk no ba oc fs'∧∀ d∈rs',RuleD no ba oc (fs'.length:Int) d:=by
 rw [run_ T_L_bent rfl rfl]
 obtain ⟨n1,n2,b1,b2,o1,o2,l1,l2,hf⟩:=h.ho
 obtain ⟨r1,r2⟩:=h.rr
 have V0:(fs.map toD).length=fs.length:=List.length_map _
 obtain ⟨m,hm⟩:∃ m,m=fs.length:=⟨_,rfl⟩
 rw [← hm] at V0
 have q1:(0:Int)<(m:Int):=by omega
 have q2:(m:Int)<100000000000000000000000000000000000000000000000000000000000000000000000000000000:=by omega
 have d1:=drawV_lo (k:=k) (s:=s) q1
 have d2:=drawV_hi (k:=k) (s:=s) q1
 obtain ⟨j,hj⟩:∃ j:Nat,drawV k s m=(j:Int):=⟨(drawV k s m).toNat,by omega⟩
 have hjl:j<fs.length:=by omega
 have hat:L2.atI (fs.map toD) (j:Int)=some (toD fs[j]):=L2.atI_nat (by rw [List.getElem?_map,List.getElem?_eq_getElem hjl]; rfl)
 have hfj:=hf fs[j] (List.getElem_mem hjl)
 generalize fs[j]=f at *
 obtain ⟨a,b,c⟩:=f
 obtain ⟨f1,f2,f3,f4⟩:=hfj
 replace f1:0≤a:=f1
 replace f2:a≤4:=f2
 replace f3:-12≤b:=f3
 replace f4:b≤12:=f4
 obtain ⟨x,hx,hxx⟩:=at3 (a:=.tup [.int a,.int b,.bl (!c)]) (b:=.tup [.int a,.int (0 - b),.bl c]) (c:=.tup [.int (4 - a),.int b,.bl c]) (drawV_lo (k:=k) (s:=drawS k s m) (m:=3) (by decide)) (drawV_hi (k:=k) (s:=drawS k s m) (m:=3) (by decide))
 obtain ⟨g,rfl,hg⟩:∃ g,x=toD g∧FolOk g:=by
  rcases hxx with rfl | rfl | rfl
  ·exact ⟨(a,b,!c),rfl,f1,f2,f3,f4⟩
  ·exact ⟨(a,0 - b,c),rfl,f1,f2,by show -12≤0 - b; omega,by show 0 - b≤12; omega⟩
  ·exact ⟨(4 - a,b,c),rfl,by show 0≤4 - a; omega,by show 4 - a≤4; omega,f3,f4⟩
 clear hxx
 have hA:exs T.pins (run T W (n+2)) W (fn_L_bent.body.take 4) ([.ow (.lst [.int k,.int s]) true false,.sh (houseD no ba oc fs rs)] ++ List.replicate fn_L_bent.nl .un)=some (.nx,[.ow (.lst [.int k,.int (drawS k (drawS k s m) 3)]) true false,.sh (houseD no ba oc fs rs),.sh (.int no),.sh (.int ba),.sh (.int oc),.sh (.tup (fs.map toD)),.sh (.tup rs),.sh (.int (j:Int)),.sh (.int a),.sh (.int b),.sh (.bl c),.sh (toD g),.un]):=by
  unfold fn_L_bent houseD
  have hto:toD (a,b,c)=.tup [.int a,.int b,.bl c]:=rfl
  rw [hto] at hat
  generalize toD g=G at *
  generalize fs.map toD=V at *
  clear h n1 n2 b1 b2 o1 o2 l1 l2 hf r1 r2 hm d1 d2 hjl f1 f2 f3 f4 hg hto
  walk_at "!draw_spec"
 rw [exs_cut hA]
 clear hA
 generalize hs3:drawS k (drawS k s m) 3=s3 at *
 by_cases c2:drawV k s3 2=0
 ·have c2':decide (drawV k s3 2=0)=true:=decide_eq_true c2
  refine ⟨drawS k s3 2,fs.take j ++ g :: fs.drop (j+1),rs, ?_,⟨n1,n2,b1,b2,o1,o2,by simp; omega,by simp; omega,fun f hfm=>?_⟩, ?_⟩
  ·have y1:=sl_takeT (ds:=fs.map toD) (c:=j)
   have y2:=sl_dropT (ds:=fs.map toD) (c:=j)
   have y3:=cat_tup (xs:=(fs.map toD).take j) (ys:=[toD g]) (by simp; omega)
   have y4:=cat_tup (xs:=(fs.map toD).take j ++ [toD g]) (ys:=(fs.map toD).drop (j+1)) (by simp; omega)
   have y5:(fs.take j ++ g :: fs.drop (j+1)).map toD=((fs.map toD).take j ++ [toD g]) ++ (fs.map toD).drop (j+1):=by simp
   unfold fn_L_bent houseD
   rw [y5]
   generalize (fs.map toD).drop (j+1)=V2 at *
   generalize (fs.map toD).take j=V1 at *
   generalize fs.map toD=V at *
   generalize toD g=G at *
   clear h n1 n2 b1 b2 o1 o2 l1 l2 hf r1 r2 hm d1 d2 hjl f1 f2 f3 f4 hg hx hat y5 c2
   walk_at "!draw_spec"
  ·rcases List.mem_append.mp hfm with z | z
   ·exact hf f (List.mem_of_mem_take z)
   ·rcases List.mem_cons.mp z with rfl | z
    ·exact hg
    ·exact hf f (List.mem_of_mem_drop z)
  ·have:(fs.take j ++ g :: fs.drop (j+1)).length=fs.length:=by simp; omega
   rw [this]
   exact r2
 ·have c2':decide (drawV k s3 2=0)=false:=decide_eq_false c2
  have p1:(0:Int)<(rs.length:Int)+1:=by omega
  have p2:(rs.length:Int)+1<100000000000000000000000000000000000000000000000000000000000000000000000000000000:=by omega
  have d3:=drawV_lo (k:=k) (s:=drawS k s3 2) p1
  have d4:=drawV_hi (k:=k) (s:=drawS k s3 2) p1
  obtain ⟨i,hi⟩:∃ i:Nat,drawV k (drawS k s3 2) ((rs.length:Int)+1)=(i:Int):=⟨(drawV k (drawS k s3 2) ((rs.length:Int)+1)).toNat,by omega⟩
  obtain ⟨s5,dr,er,hdr⟩:=rule_spec (W:=W) (n:=n) (k:=k) (s0:=drawS k (drawS k s3 2) ((rs.length:Int)+1)) (no:=no) (ba:=ba) (oc:=oc) (ma:=(m:Int)) n1 n2 b1 b2 o1 o2 (by omega) (by omega)
  refine ⟨s5,fs,rs.take i ++ dr :: rs.drop (i+1), ?_,h.ho,fun d hd=>?_⟩
  ·have y1:=sl_takeT (ds:=rs) (c:=i)
   have y2:=sl_dropT (ds:=rs) (c:=i)
   have y3:=cat_tup (xs:=rs.take i) (ys:=[dr]) (by simp; omega)
   have y4:=cat_tup (xs:=rs.take i ++ [dr]) (ys:=rs.drop (i+1)) (by simp; omega)
   have y5:rs.take i ++ dr :: rs.drop (i+1)=(rs.take i ++ [dr]) ++ rs.drop (i+1):=by simp
   have hB:exs T.pins (run T W (n+2)) W ((fn_L_bent.body.drop 4).take 2) [.ow (.lst [.int k,.int s3]) true false,.sh (houseD no ba oc fs rs),.sh (.int no),.sh (.int ba),.sh (.int oc),.sh (.tup (fs.map toD)),.sh (.tup rs),.sh (.int (j:Int)),.sh (.int a),.sh (.int b),.sh (.bl c),.sh (toD g),.un]=some (.nx,[.ow (.lst [.int k,.int (drawS k (drawS k s3 2) ((rs.length:Int)+1))]) true false,.sh (houseD no ba oc fs rs),.sh (.int no),.sh (.int ba),.sh (.int oc),.sh (.tup (fs.map toD)),.sh (.tup rs),.sh (.int (i:Int)),.sh (.int a),.sh (.int b),.sh (.bl c),.sh (toD g),.un]):=by
    unfold fn_L_bent
    generalize houseD no ba oc fs rs=HH at *
    generalize fs.map toD=V at *
    generalize toD g=G at *
    clear h n1 n2 b1 b2 o1 o2 l1 l2 hf r1 r2 hm d1 d2 hjl f1 f2 f3 f4 hg hx hat y5 c2 d3 d4 er hdr y1 y2 y3 y4
    walk_at "!draw_spec"
   rw [exs_cut hB]
   clear hB
   unfold fn_L_bent
   rw [y5]
   unfold houseD
   generalize drawS k (drawS k s3 2) ((rs.length:Int)+1)=s4 at *
   generalize rs.drop (i+1)=V2 at *
   generalize rs.take i=V1 at *
   generalize fs.map toD=V at *
   generalize toD g=G at *
   clear h n1 n2 b1 b2 o1 o2 l1 l2 hf r1 r2 hm d1 d2 hjl f1 f2 f3 f4 hg hx hat y5 c2 c2' d3 d4 hdr p1 p2 hi hj q1 q2
   walk_at "!draw_spec"
  ·rw [← hm]
   rcases List.mem_append.mp hd with z | z
   ·have:=r2 d (List.mem_of_mem_take z); rwa [← hm] at this
   ·rcases List.mem_cons.mp z with rfl | z
    ·exact hdr
    ·have:=r2 d (List.mem_of_mem_drop z); rwa [← hm] at this
noncomputable def nbD:Nat→D→Bool
 | _,.int _=>true
 | _,.str _=>true
 | n+1,.tup ds=>ds.all (nbD n)
 | _,_=>false
mutual
theorem eqD_nb:∀ (n:Nat) (d e:D),eqD d e=true→nbD n d=true→nbD n e=true→d=e
 | _,.int i,e,h,_,k=>by cases e <;> simp [eqD,nbD] at h k; rw [h]
 | _,.str i,e,h,_,k=>by cases e <;> simp [eqD,nbD] at h k; rw [h]
 | 0,.tup _,_,_,h,_=>by simp [nbD] at h
 | n+1,.tup ds,e,h,hd,k=>by
  cases e <;> simp only [eqD,Bool.false_eq_true] at h
  rename_i es
  rw [eqDs_nb n ds es h hd k]
 | _,.non,_,_,h,_=>by simp [nbD] at h
 | _,.bl _,_,_,h,_=>by simp [nbD] at h
 | _,.lst _,_,_,h,_=>by simp [nbD] at h
 | _,.ins _ _ _,_,_,h,_=>by simp [nbD] at h
 | _,.dct _,_,_,h,_=>by simp [nbD] at h
 | _,.exn _,_,_,h,_=>by simp [nbD] at h
 | _,.dcs _,_,_,h,_=>by simp [nbD] at h
theorem eqDs_nb:∀ (n:Nat) (ds es:List D),eqDs ds es=true→ds.all (nbD n)=true→es.all (nbD n)=true→ds=es
 | _,[],[],_,_,_=>rfl
 | _,[],_ :: _,h,_,_=>by simp [eqDs] at h
 | _,_ :: _,[],h,_,_=>by simp [eqDs] at h
 | n,d :: ds,e :: es,h,h1,h2=>by
  simp only [eqDs,Bool.and_eq_true] at h
  simp only [List.all_cons,Bool.and_eq_true] at h1 h2
  rw [eqD_nb n d e h.1 h1.1 h2.1,eqDs_nb n ds es h.2 h1.2 h2.2]
end
theorem eqDs_fol:∀ (fs gs:List (Int × Int × Bool)),eqDs (fs.map toD) (gs.map toD)=true→fs=gs
 | [],[],_=>rfl
 | [],_ :: _,h=>by simp [eqDs] at h
 | _ :: _,[],h=>by simp [eqDs] at h
 | (a,b,c) :: fs,(a',b',c') :: gs,h=>by
  simp only [List.map_cons,eqDs,toD,eqD,Bool.and_eq_true,Bool.and_true,beq_iff_eq] at h
  obtain ⟨⟨rfl,rfl,rfl⟩,h2⟩:=h
  rw [eqDs_fol fs gs h2]
theorem nb_rule {no ba oc ma:Int} {d:D} (h:RuleD no ba oc ma d):nbD 1 d=true:=by cases h <;> simp [nbD]
theorem pl_rule {no ba oc ma:Int} {d:D} (h:RuleD no ba oc ma d):plD 2 d=true:=by cases h <;> simp [plD]
theorem pl_houseX {no ba oc:Int} {fs:List (Int × Int × Bool)} {rs:List D} (h:HX no ba oc fs rs):plD 4 (houseD no ba oc fs rs)=true:=by
 obtain ⟨_,l2,l3⟩:=h.len
 have h1:(fs.map toD).all (plD 2)=true:=List.all_eq_true.mpr fun d hd=>by obtain ⟨f,_,rfl⟩:=List.mem_map.mp hd; simp [toD,plD]
 have h2:rs.all (plD 2)=true:=List.all_eq_true.mpr fun d hd=>pl_rule (h.rr.2 d hd)
 unfold houseD
 simp only [plD,List.all_cons,List.all_nil,h1,h2,List.length_map]
 rw [decide_eq_true (show fs.length≤1000 by omega),decide_eq_true (show rs.length≤1000 by omega)]
 rfl
theorem eq_houses {no ba oc no' ba' oc':Int} {fs fs':List (Int × Int × Bool)} {rs rs':List D} (h:HX no ba oc fs rs) (h':HX no' ba' oc' fs' rs') (e:eqD (houseD no ba oc fs rs) (houseD no' ba' oc' fs' rs')=true):houseD no ba oc fs rs=houseD no' ba' oc' fs' rs':=by
 unfold houseD at *
 simp only [eqD,eqDs,Bool.and_eq_true,Bool.and_true,beq_iff_eq] at e
 obtain ⟨rfl,rfl,rfl,e1,e2⟩:=e
 rw [eqDs_fol fs fs' e1,eqDs_nb 1 rs rs' e2 (List.all_eq_true.mpr fun d hd=>nb_rule (h.rr.2 d hd)) (List.all_eq_true.mpr fun d hd=>nb_rule (h'.rr.2 d hd))]
theorem eq_texts {no ba oc no' ba' oc':Int} {fs fs':List (Int × Int × Bool)} {rs rs':List D} (h:HX no ba oc fs rs) (h':HX no' ba' oc' fs' rs'):cmpD .Eq (houseD no ba oc fs rs) (houseD no' ba' oc' fs' rs')=some (txH no ba oc fs rs == txH no' ba' oc' fs' rs'):=by
 rw [c_eq (okD_house h.rr) (okD_house h'.rr)]
 congr 1
 rw [Bool.eq_iff_iff,beq_iff_eq]
 constructor
 ·intro e
  have e:=eq_houses h h' e
  have s1:=house_shown (W:=0) (n:=0) h
  have s2:=house_shown (W:=0) (n:=0) h'
  rw [e,s2] at s1
  simpa using s1.symm
 ·intro e
  have s1:=house_read (W:=0) (n:=0) h
  have s2:=house_read (W:=0) (n:=0) h'
  rw [e,s2] at s1
  have e:houseD no' ba' oc' fs' rs'=houseD no ba oc fs rs:=by simpa using s1
  rw [e]
  exact eqD_refl 20 _ (okD_house h.rr)
theorem other_spec {W:Nat} {ns:List Int} (hn:ns.length≤63) {s1:Int} {no ba oc:Int} {fs:List (Int × Int × Bool)} {rs:List D} (h:HX no ba oc fs rs)
  (h1:run T W (26+3) "L_house" [.ow (.lst [.int (penV ns 1).1,.int (penV ns 1).2]) true false]=some (.ok (.sh (houseD no ba oc fs rs)),[.ow (.lst [.int (penV ns 1).1,.int s1]) true false])) :
  ∃ k s no' ba' oc' fs' rs',HX no' ba' oc' fs' rs'∧exs T.pins (run T W 29) W (fn_law.body.take 5) ([.sh (.lst (ns.map .int))] ++ List.replicate fn_law.nl .un)=some (.nx,[.sh (.lst (ns.map .int)),.sh (houseD no ba oc fs rs),.ow (.lst [.int k,.int s]) false false,.sh (houseD no' ba' oc' fs' rs'),.un,.un]):=by
 have hp1:=pen_spec (W:=W) (n:=28) (ns:=ns) (k:=1) hn (by omega)
 have hp2:=pen_spec (W:=W) (n:=28) (ns:=ns) (k:=2) hn (by omega)
 have k1:((1:Nat):Int)=1:=rfl
 have k2:((2:Nat):Int)=2:=rfl
 rw [k1] at hp1
 rw [k2] at hp2
 generalize (penV ns 1).1=p1 at *
 generalize (penV ns 1).2=p2 at *
 generalize (penV ns 2).1=k at *
 generalize (penV ns 2).2=s at *
 obtain ⟨s2,fb,rb,eb,hob,hrb⟩:=bent_spec (W:=W) (n:=26) (k:=k) (s:=s) h
 obtain ⟨s4,no3,ba3,oc3,fs3,rs3,eh,ho3,hr3⟩:=house_spec (W:=W) (n:=26) (k:=k) (s:=drawS k s2 4)
 replace eh:run T W (26+3) "L_house" [.ow (.lst [.int k,.int (drawS k s2 4)]) true false]=some (.ok (.sh (houseD no3 ba3 oc3 fs3 rs3)),[.ow (.lst [.int k,.int s4]) true false]):=eh
 have hA:exs T.pins (run T W 29) W (fn_law.body.take 3) ([.sh (.lst (ns.map .int))] ++ List.replicate fn_law.nl .un)=some (.nx,[.sh (.lst (ns.map .int)),.sh (houseD no ba oc fs rs),.ow (.lst [.int k,.int s2]) false false,.sh (houseD no ba oc fb rb),.un,.un]):=by
  unfold fn_law
  generalize houseD no ba oc fs rs=HH at *
  generalize houseD no ba oc fb rb=HB at *
  generalize houseD no3 ba3 oc3 fs3 rs3=H3 at *
  generalize ns.map D.int=N at *
  clear h hn k1 k2 hob hrb ho3 hr3 eh
  walk_at "!draw_spec"
 have hA':exs T.pins (run T W 29) W ((fn_law.body.take 5).take 3) ([.sh (.lst (ns.map .int))] ++ List.replicate fn_law.nl .un)=some (.nx,[.sh (.lst (ns.map .int)),.sh (houseD no ba oc fs rs),.ow (.lst [.int k,.int s2]) false false,.sh (houseD no ba oc fb rb),.un,.un]):=hA
 rw [exs_cut hA']
 clear hA hA'
 have x4:∀ {no ba oc:Int} {fs:List (Int × Int × Bool)} {rs:List D},ixO (some (houseD no ba oc fs rs)) (.int 4)=some (.sh (.tup rs)):=fun {_ _ _ _ _}=>rfl
 have last:∀ (s5 no5 ba5 oc5:Int) (fs5:List (Int × Int × Bool)) (rs5:List D),HouseOk no5 ba5 oc5 fs5→(∀ d∈rs5,RuleD no5 ba5 oc5 (fs5.length:Int) d) →
   ∃ k' s no' ba' oc' fs' rs',HX no' ba' oc' fs' rs'∧exs T.pins (run T W 29) W (((fn_law.body.take 5).drop 3).drop 1) [.sh (.lst (ns.map .int)),.sh (houseD no ba oc fs rs),.ow (.lst [.int k,.int s5]) false false,.sh (houseD no5 ba5 oc5 fs5 rs5),.un,.un]=some (.nx,[.sh (.lst (ns.map .int)),.sh (houseD no ba oc fs rs),.ow (.lst [.int k',.int s]) false false,.sh (houseD no' ba' oc' fs' rs'),.un,.un]):=by
  intro s5 no5 ba5 oc5 fs5 rs5 ho5 hr5
  unfold fn_law
  have y4:=x4 (no:=no5) (ba:=ba5) (oc:=oc5) (fs:=fs5) (rs:=rs5)
  by_cases c:8<rs5.length
  ·refine ⟨k,s5,no,ba,oc,fs,rs,h, ?_⟩
   have c':decide ((8:Int)<(rs5.length:Int))=true:=decide_eq_true (by omega)
   generalize houseD no ba oc fs rs=HH at *
   generalize houseD no5 ba5 oc5 fs5 rs5=H5 at *
   generalize ns.map D.int=N at *
   clear h hn k1 k2 hob hrb ho3 hr3 eh ho5 hr5 eb h1 hp1 hp2 c x4
   walk_at "!draw_spec"
  ·refine ⟨k,s5,no5,ba5,oc5,fs5,rs5,⟨ho5,by omega,hr5⟩, ?_⟩
   have c':decide ((8:Int)<(rs5.length:Int))=false:=decide_eq_false (by omega)
   generalize houseD no ba oc fs rs=HH at *
   generalize houseD no5 ba5 oc5 fs5 rs5=H5 at *
   generalize ns.map D.int=N at *
   clear h hn k1 k2 hob hrb ho3 hr3 eh ho5 hr5 eb h1 hp1 hp2 c x4
   walk_at "!draw_spec"
 by_cases c4:drawV k s2 4=0
 ·have c4':decide (drawV k s2 4=0)=true:=decide_eq_true c4
  have hB:exs T.pins (run T W 29) W (((fn_law.body.take 5).drop 3).take 1) [.sh (.lst (ns.map .int)),.sh (houseD no ba oc fs rs),.ow (.lst [.int k,.int s2]) false false,.sh (houseD no ba oc fb rb),.un,.un]=some (.nx,[.sh (.lst (ns.map .int)),.sh (houseD no ba oc fs rs),.ow (.lst [.int k,.int s4]) false false,.sh (houseD no3 ba3 oc3 fs3 rs3),.un,.un]):=by
   unfold fn_law
   generalize houseD no ba oc fs rs=HH at *
   generalize houseD no ba oc fb rb=HB at *
   generalize houseD no3 ba3 oc3 fs3 rs3=H3 at *
   generalize ns.map D.int=N at *
   clear h hn k1 k2 hob hrb ho3 hr3 eb h1 hp1 hp2 c4 x4 last
   walk_at "!draw_spec"
  rw [exs_cut hB]
  exact last _ _ _ _ _ _ ho3 hr3.2
 ·have c4':decide (drawV k s2 4=0)=false:=decide_eq_false c4
  have hB:exs T.pins (run T W 29) W (((fn_law.body.take 5).drop 3).take 1) [.sh (.lst (ns.map .int)),.sh (houseD no ba oc fs rs),.ow (.lst [.int k,.int s2]) false false,.sh (houseD no ba oc fb rb),.un,.un]=some (.nx,[.sh (.lst (ns.map .int)),.sh (houseD no ba oc fs rs),.ow (.lst [.int k,.int (drawS k s2 4)]) false false,.sh (houseD no ba oc fb rb),.un,.un]):=by
   unfold fn_law
   generalize houseD no ba oc fs rs=HH at *
   generalize houseD no ba oc fb rb=HB at *
   generalize ns.map D.int=N at *
   clear h hn k1 k2 hob hrb ho3 hr3 eh eb h1 hp1 hp2 c4 x4 last
   walk_at "!draw_spec"
  rw [exs_cut hB]
  exact last _ _ _ _ _ _ hob hrb
theorem law_spec (W:Nat) (ns:List Int) (hn:ns.length≤63):∃ as',run T W 30 "law" [.sh (.lst (ns.map .int))]=some (.ok (.sh (.bl true)),as'):=by
 rw [run_ T_law rfl rfl]
 obtain ⟨s1,no,ba,oc,fs,rs,h1,ho,hr⟩:=house_spec (W:=W) (n:=26) (k:=(penV ns 1).1) (s:=(penV ns 1).2)
 have h:HX no ba oc fs rs:=⟨ho,hr⟩
 obtain ⟨k,s,no',ba',oc',fs',rs',h',hA⟩:=other_spec hn h h1
 rw [exs_cut hA]
 clear hA h1
 have one:∀ {no ba oc:Int} {fs:List (Int × Int × Bool)} {rs:List D},HX no ba oc fs rs→run T W 29 "show_house" [.sh (houseD no ba oc fs rs)]=some (.ok (.sh (.str (txH no ba oc fs rs))),[.sh (houseD no ba oc fs rs)]):=fun h=>house_shown (n:=26) h
 have e1:=one h
 have e2:=one h'
 have hcmp:=eq_texts h h'
 have hcb:cmpD .Eq (.bl (txH no ba oc fs rs == txH no' ba' oc' fs' rs')) (.bl (txH no ba oc fs rs == txH no' ba' oc' fs' rs'))=some true:=c_eqR rfl
 obtain ⟨ρ1,el,t4,t5,rfl,ht4,ht5⟩:=loopF_inv (bind:=bindT true [4]) (body:=exs T.pins (run T W 29) W bd_law_0)
  (fun ρ=>∃ t4 t5,ρ=[.sh (.lst (ns.map .int)),.sh (houseD no ba oc fs rs),.ow (.lst [.int k,.int s]) false false,.sh (houseD no' ba' oc' fs' rs'),t4,t5]∧okS t4=true∧okS t5=true)
  (ds:=[houseD no ba oc fs rs,houseD no' ba' oc' fs' rs']) (fun d hd ρ hρ=>by
   obtain ⟨t4,t5,rfl,h4,h5⟩:=hρ
   obtain ⟨na,bb,oa,fa,ra,hx,rfl⟩:∃ na bb oa fa ra,HX na bb oa fa ra∧d=houseD na bb oa fa ra:=by
    simp only [List.mem_cons,List.not_mem_nil,or_false] at hd
    rcases hd with rfl | rfl
    ·exact ⟨_,_,_,_,_,h,rfl⟩
    ·exact ⟨_,_,_,_,_,h',rfl⟩
   have q1:=one hx
   have q2:=text_spec (W:=W) (n:=27) hx
   have q3:=house_read (W:=W) (n:=22) hx
   have q4:=same_spec (W:=W) 4 24 _ (pl_houseX hx) (by decide)
   have q5:=c_neR (d:=.str (txH na bb oa fa ra)) rfl
   have q6:(txH na bb oa fa ra == txH na bb oa fa ra)=true:=beq_self_eq_true _
   refine ⟨_,by simp only [cib,stO_okS h4] <;> rfl, ?_⟩
   generalize houseD na bb oa fa ra=HX1 at *
   generalize txH na bb oa fa ra=TX1 at *
   generalize houseD no ba oc fs rs=H1 at *
   generalize houseD no' ba' oc' fs' rs'=H2 at *
   generalize ns.map D.int=N at *
   unfold bd_law_0
   clear h h' hx hd ho hr one e1 e2 hcmp hcb h4 hn
   walk_at "!draw_spec"
   exact ⟨_,rfl,_,_,rfl,rfl,rfl⟩)
  (ρ:=[.sh (.lst (ns.map .int)),.sh (houseD no ba oc fs rs),.ow (.lst [.int k,.int s]) false false,.sh (houseD no' ba' oc' fs' rs'),.un,.un]) ⟨_,_,rfl,rfl,rfl⟩
 have hi:∀ ρ,itemsOf .of [.val (.ow (.lst [houseD no ba oc fs rs,houseD no' ba' oc' fs' rs']))] ρ=some ([houseD no ba oc fs rs,houseD no' ba' oc' fs' rs'],none):=fun ρ=>it_lv rfl
 generalize txH no ba oc fs rs=T1 at *
 generalize txH no' ba' oc' fs' rs'=T2 at *
 generalize houseD no ba oc fs rs=H1 at *
 generalize houseD no' ba' oc' fs' rs'=H2 at *
 generalize ns.map D.int=N at *
 generalize hbb:(T1 == T2)=bb at *
 unfold fn_law
 clear h h' ho hr one ht4 ht5 hn
 walk_at "!draw_spec"
 exact ⟨_,rfl⟩
end Mx
namespace PySem.W.Fast
def tw10024399897605771992:=0
def tw10137528463654735345:=0
def tw10662437669600771667:=0
def tw1067978059031770651:=0
def tw10688888633542298731:=0
def tw10770063478559047507:=0
def tw10773629427210745827:=0
def tw1080665260069756747:=0
def tw10948091390654407939:=0
def tw11130296554863861772:=0
def tw11197595258694979006:=0
def tw11219353465834971056:=0
def tw11324467648048768594:=0
def tw11357554200935459866:=0
def tw11451934711095126138:=0
def tw11605938858470485681:=0
def tw116136065142431455:=0
def tw1164101787268347985:=0
def tw11651821524340564266:=0
def tw11681620807056300771:=0
def tw11792625718444140911:=0
def tw1195946639963982:=0
def tw12037610036730318741:=0
def tw12171287688176708280:=0
def tw12198653951861805680:=0
def tw12258308051445892:=0
def tw12588033028147731613:=0
def tw12636159953382081400:=0
def tw1290654768127601330:=0
def tw13002524626913673585:=0
def tw13029553898437935244:=0
def tw13070352378523941469:=0
def tw1313515441358006149:=0
def tw13255098146073855442:=0
def tw13492736088153642349:=0
def tw14091997028499511024:=0
def tw14095086821191055352:=0
def tw1409919517291360749:=0
def tw14217508721895164116:=0
def tw14320216957114027598:=0
def tw14540071365275392135:=0
def tw14558109051319912097:=0
def tw14852838519908691061:=0
def tw149917762492002111:=0
def tw15086296108972733014:=0
def tw15091995635920185086:=0
def tw15131191583911502138:=0
def tw1521334016995017626:=0
def tw15292027843477735604:=0
def tw15578431743448156464:=0
def tw15604572777117966245:=0
def tw15714473298215245813:=0
def tw15994176751745179417:=0
def tw16020444274220267814:=0
def tw16095575393634615634:=0
def tw16189376912141148036:=0
def tw16228204531501838206:=0
def tw16358859940071967798:=0
def tw16447258669866235503:=0
def tw16472116092118081085:=0
def tw16494005226326309268:=0
def tw16522680379675952719:=0
def tw16609043536110698155:=0
def tw1670813394022016349:=0
def tw16776910657098808762:=0
def tw16816506778040692065:=0
def tw16883196300337370108:=0
def tw16884956175193371930:=0
def tw16906934113916031960:=0
def tw16977481385743463284:=0
def tw17018836501536013568:=0
def tw17022422155970319541:=0
def tw17317836785570492658:=0
def tw17395473433723351100:=0
def tw17417079209251230470:=0
def tw17491846740648450424:=0
def tw17505485872649643826:=0
def tw17527263348050431633:=0
def tw17550876138065652690:=0
def tw1766850792682939031:=0
def tw17778688311525524641:=0
def tw17783192338643069729:=0
def tw17897304032202128130:=0
def tw17913774139227238107:=0
def tw18075732851914713659:=0
def tw18082349295034148853:=0
def tw18098572692876950089:=0
def tw18192450002466353572:=0
def tw18289700229190733363:=0
def tw2043553684765589000:=0
def tw2057803100053019205:=0
def tw2092594210560151153:=0
def tw2177009403137018036:=0
def tw2178791899875982092:=0
def tw221171149354410299:=0
def tw2407457417823353891:=0
def tw2517507468662794026:=0
def tw2518345278491046022:=0
def tw2560451821163462345:=0
def tw2656070404878461945:=0
def tw2687220314908423370:=0
def tw2700530673205857368:=0
def tw2854512850056379296:=0
def tw2886850772538875829:=0
def tw3015586449584964574:=0
def tw308480504573009387:=0
def tw3142720525461363801:=0
def tw3245138658595826462:=0
def tw3467521969738187223:=0
def tw3608112962732734301:=0
def tw385150833877881916:=0
def tw4032474780776051582:=0
def tw4034870932278348312:=0
def tw4057634085222341973:=0
def tw4198993965584504350:=0
def tw4268043843254573572:=0
def tw4367437301980728822:=0
def tw4592396270467097432:=0
def tw4762440126382152110:=0
def tw4938547502013126357:=0
def tw5018463676125359623:=0
def tw5036339742989559005:=0
def tw5136673291884369807:=0
def tw5136730760580002196:=0
def tw5331184766083319843:=0
def tw5343279477000954467:=0
def tw558924961038087901:=0
def tw5711526914480663172:=0
def tw5824840557002660649:=0
def tw6005628860484691673:=0
def tw6120209203254009385:=0
def tw6199972946809811506:=0
def tw628814510854069988:=0
def tw6290859432165937263:=0
def tw6308963936251609275:=0
def tw6333646302898874003:=0
def tw6336854933211261185:=0
def tw6405761519990118573:=0
def tw6461667848682306187:=0
def tw6544412893280901679:=0
def tw664476559133063374:=0
def tw682492342194948351:=0
def tw7268412623457436466:=0
def tw7535061054533592632:=0
def tw7591512838797111427:=0
def tw7657544631280807440:=0
def tw7741868980913222855:=0
def tw7801930023235596698:=0
def tw7957585951368064734:=0
def tw7984268353528816510:=0
def tw8193944514251783889:=0
def tw8361581346406264810:=0
def tw845233348019382396:=0
def tw8585025832435780311:=0
def tw8960492834045884474:=0
def tw9005207959042903178:=0
def tw9180585178157100526:=0
def tw9205897574073462332:=0
def tw9359782689495679659:=0
def tw9589170762290884227:=0
def tw9627287072109551675:=0
def tw9652807496815868661:=0
def tw9724366471303412369:=0
def tw9803495389195223699:=0
def tw9810868229874105159:=0
def tw9855266199507843656:=0
def tw9945230648163654598:=0
end PySem.W.Fast
open PySem PySem.W PyProof.Rows
set_option maxRecDepth 100000 in
set_option maxHeartbeats 0 in
theorem PySem.Challenge.cw_canonwright_k63_houses_written_and_read_holds : PySem.Challenge.rw_canonwright_k63_houses_written_and_read.Holds := by
 w_on; o_law; k_head; (case hw=>w_witness2)
 k_fill
 refine CI.law_walk (l:=PySem.Challenge.rw_canonwright_k63_houses_written_and_read) (T:=Tx.T) (L:=Tx.L) (st:=Tx.top 50) (fn:=Tx.fn_law) (W:=1000000) (n:=30) (x:="law") (p:="_law_script") (f:="law") rfl rfl ⟨rfl,by decide,by decide,rfl⟩ rfl Tx.T_law Tx.ok_law (by decide +kernel) (fun w h Y=>PySem.W.kIn_of Y) ?factF ?mathM
 case mathM=>exact Mx.law_spec _
 case factF =>
  intro w mg h KX G
  have D_is_whole:CI.DefAt (L2.KOf KX) "is_whole" (Tx.top 16):=by
   refine' CI.def_at ?a ?l ?c ?k
   (case a | l | c | k=>dsimp only [L2.KOf]; k_is)
  have D_is_within:CI.DefAt (L2.KOf KX) "is_within" (Tx.top 17):=by
   refine' CI.def_at ?a ?l ?c ?k
   (case a | l | c | k=>dsimp only [L2.KOf]; k_is)
  have D_are_within:CI.DefAt (L2.KOf KX) "are_within" (Tx.top 18):=by
   refine' CI.def_at ?a ?l ?c ?k
   (case a | l | c | k=>dsimp only [L2.KOf]; k_is)
  have D_is_follower:CI.DefAt (L2.KOf KX) "is_follower" (Tx.top 19):=by
   refine' CI.def_at ?a ?l ?c ?k
   (case a | l | c | k=>dsimp only [L2.KOf]; k_is)
  have D_is_way:CI.DefAt (L2.KOf KX) "is_way" (Tx.top 20):=by
   refine' CI.def_at ?a ?l ?c ?k
   (case a | l | c | k=>dsimp only [L2.KOf]; k_is)
  have D_are_spans:CI.DefAt (L2.KOf KX) "are_spans" (Tx.top 21):=by
   refine' CI.def_at ?a ?l ?c ?k
   (case a | l | c | k=>dsimp only [L2.KOf]; k_is)
  have D_is_rule:CI.DefAt (L2.KOf KX) "is_rule" (Tx.top 22):=by
   refine' CI.def_at ?a ?l ?c ?k
   (case a | l | c | k=>dsimp only [L2.KOf]; k_is)
  have D_check_frame:CI.DefAt (L2.KOf KX) "check_frame" (Tx.top 23):=by
   refine' CI.def_at ?a ?l ?c ?k
   (case a | l | c | k=>dsimp only [L2.KOf]; k_is)
  have D_house_of:CI.DefAt (L2.KOf KX) "house_of" (Tx.top 24):=by
   refine' CI.def_at ?a ?l ?c ?k
   (case a | l | c | k=>dsimp only [L2.KOf]; k_is)
  have D_show_row:CI.DefAt (L2.KOf KX) "show_row" (Tx.top 29):=by
   refine' CI.def_at ?a ?l ?c ?k
   (case a | l | c | k=>dsimp only [L2.KOf]; k_is)
  have D_show_follower:CI.DefAt (L2.KOf KX) "show_follower" (Tx.top 30):=by
   refine' CI.def_at ?a ?l ?c ?k
   (case a | l | c | k=>dsimp only [L2.KOf]; k_is)
  have D_show_spans:CI.DefAt (L2.KOf KX) "show_spans" (Tx.top 31):=by
   refine' CI.def_at ?a ?l ?c ?k
   (case a | l | c | k=>dsimp only [L2.KOf]; k_is)
  have D_show_rule:CI.DefAt (L2.KOf KX) "show_rule" (Tx.top 32):=by
   refine' CI.def_at ?a ?l ?c ?k
   (case a | l | c | k=>dsimp only [L2.KOf]; k_is)
  have D_show_house:CI.DefAt (L2.KOf KX) "show_house" (Tx.top 33):=by
   refine' CI.def_at ?a ?l ?c ?k
   (case a | l | c | k=>dsimp only [L2.KOf]; k_is)
  have D_read_number:CI.DefAt (L2.KOf KX) "read_number" (Tx.top 34):=by
   refine' CI.def_at ?a ?l ?c ?k
   (case a | l | c | k=>dsimp only [L2.KOf]; k_is)
  have D_read_numbers:CI.DefAt (L2.KOf KX) "read_numbers" (Tx.top 35):=by
   refine' CI.def_at ?a ?l ?c ?k
   (case a | l | c | k=>dsimp only [L2.KOf]; k_is)
  have D_read_spans:CI.DefAt (L2.KOf KX) "read_spans" (Tx.top 36):=by
   refine' CI.def_at ?a ?l ?c ?k
   (case a | l | c | k=>dsimp only [L2.KOf]; k_is)
  have D_read_follower:CI.DefAt (L2.KOf KX) "read_follower" (Tx.top 37):=by
   refine' CI.def_at ?a ?l ?c ?k
   (case a | l | c | k=>dsimp only [L2.KOf]; k_is)
  have D_read_rule:CI.DefAt (L2.KOf KX) "read_rule" (Tx.top 38):=by
   refine' CI.def_at ?a ?l ?c ?k
   (case a | l | c | k=>dsimp only [L2.KOf]; k_is)
  have D_made_of:CI.DefAt (L2.KOf KX) "made_of" (Tx.top 39):=by
   refine' CI.def_at ?a ?l ?c ?k
   (case a | l | c | k=>dsimp only [L2.KOf]; k_is)
  have D_read_house:CI.DefAt (L2.KOf KX) "read_house" (Tx.top 40):=by
   refine' CI.def_at ?a ?l ?c ?k
   (case a | l | c | k=>dsimp only [L2.KOf]; k_is)
  have D_L_pen:CI.DefAt (L2.KOf KX) "_law_pen" (Tx.top 42):=by
   refine' CI.def_at ?a ?l ?c ?k
   (case a | l | c | k=>dsimp only [L2.KOf]; k_is)
  have D_L_draw:CI.DefAt (L2.KOf KX) "_law_draw" (Tx.top 43):=by
   refine' CI.def_at ?a ?l ?c ?k
   (case a | l | c | k=>dsimp only [L2.KOf]; k_is)
  have D_L_rule:CI.DefAt (L2.KOf KX) "_law_rule" (Tx.top 44):=by
   refine' CI.def_at ?a ?l ?c ?k
   (case a | l | c | k=>dsimp only [L2.KOf]; k_is)
  have D_L_house:CI.DefAt (L2.KOf KX) "_law_house" (Tx.top 45):=by
   refine' CI.def_at ?a ?l ?c ?k
   (case a | l | c | k=>dsimp only [L2.KOf]; k_is)
  have D_L_same:CI.DefAt (L2.KOf KX) "_law_same" (Tx.top 46):=by
   refine' CI.def_at ?a ?l ?c ?k
   (case a | l | c | k=>dsimp only [L2.KOf]; k_is)
  have D_L_rule_text:CI.DefAt (L2.KOf KX) "_law_rule_text" (Tx.top 47):=by
   refine' CI.def_at ?a ?l ?c ?k
   (case a | l | c | k=>dsimp only [L2.KOf]; k_is)
  have D_L_text:CI.DefAt (L2.KOf KX) "_law_text" (Tx.top 48):=by
   refine' CI.def_at ?a ?l ?c ?k
   (case a | l | c | k=>dsimp only [L2.KOf]; k_is)
  have D_L_bent:CI.DefAt (L2.KOf KX) "_law_bent" (Tx.top 49):=by
   refine' CI.def_at ?a ?l ?c ?k
   (case a | l | c | k=>dsimp only [L2.KOf]; k_is)
  have D_law:CI.DefAt (L2.KOf KX) "law" (Tx.top 50):=by
   refine' CI.def_at ?a ?l ?c ?k
   (case a | l | c | k=>dsimp only [L2.KOf]; k_is)
  have C_WAYS:CI.GlAt (L2.KOf KX) mg Tx.T (CI.glOf Tx.L) ("WAYS",.con (.tup [(.str ("like":Str)),(.str ("against":Str)),(.str ("aside":Str)),(.str ("any":Str))])):=by
   refine' CI.con_tup KX G ?a ?l ?c ?z
   (case a | l=>dsimp only [L2.KOf]; k_is)
   (case c=>first | rfl | decide +kernel)
   (case z=>rfl)
  have C_NOTES:CI.GlAt (L2.KOf KX) mg Tx.T (CI.glOf Tx.L) ("NOTES",.con (.int 0)):=by
   refine' CI.con_int KX G ?a
   (case a=>dsimp only [L2.KOf]; k_is)
  have C_BAR:CI.GlAt (L2.KOf KX) mg Tx.T (CI.glOf Tx.L) ("BAR",.con (.int 1)):=by
   refine' CI.con_int KX G ?a
   (case a=>dsimp only [L2.KOf]; k_is)
  have C_OCTAVE:CI.GlAt (L2.KOf KX) mg Tx.T (CI.glOf Tx.L) ("OCTAVE",.con (.int 2)):=by
   refine' CI.con_int KX G ?a
   (case a=>dsimp only [L2.KOf]; k_is)
  have C_VOICES:CI.GlAt (L2.KOf KX) mg Tx.T (CI.glOf Tx.L) ("VOICES",.con (.int 3)):=by
   refine' CI.con_int KX G ?a
   (case a=>dsimp only [L2.KOf]; k_is)
  have C_RULES:CI.GlAt (L2.KOf KX) mg Tx.T (CI.glOf Tx.L) ("RULES",.con (.int 4)):=by
   refine' CI.con_int KX G ?a
   (case a=>dsimp only [L2.KOf]; k_is)
  have C_LATE:CI.GlAt (L2.KOf KX) mg Tx.T (CI.glOf Tx.L) ("LATE",.con (.int 0)):=by
   refine' CI.con_int KX G ?a
   (case a=>dsimp only [L2.KOf]; k_is)
  have C_SHIFT:CI.GlAt (L2.KOf KX) mg Tx.T (CI.glOf Tx.L) ("SHIFT",.con (.int 1)):=by
   refine' CI.con_int KX G ?a
   (case a=>dsimp only [L2.KOf]; k_is)
  have C_TURNED:CI.GlAt (L2.KOf KX) mg Tx.T (CI.glOf Tx.L) ("TURNED",.con (.int 2)):=by
   refine' CI.con_int KX G ?a
   (case a=>dsimp only [L2.KOf]; k_is)
  have C_FIGURES:CI.GlAt (L2.KOf KX) mg Tx.T (CI.glOf Tx.L) ("FIGURES",.con (.str ("0123456789":Str))):=by
   refine' CI.con_str KX G ?a ?ok
   (case a=>dsimp only [L2.KOf]; k_is)
   (case ok=>decide +kernel)
  have C_MOST_FIGURES:CI.GlAt (L2.KOf KX) mg Tx.T (CI.glOf Tx.L) ("MOST_FIGURES",.con (.int 60)):=by
   refine' CI.con_int KX G ?a
   (case a=>dsimp only [L2.KOf]; k_is)
  have C_GREATEST_SPAN:CI.GlAt (L2.KOf KX) mg Tx.T (CI.glOf Tx.L) ("GREATEST_SPAN",.con (.int 11)):=by
   refine' CI.con_int KX G ?a
   (case a=>dsimp only [L2.KOf]; k_is)
  have B_all:CI.GlAt (L2.KOf KX) mg Tx.T (CI.glOf Tx.L) ("all",.blt):=by
   refine' CI.blt_of KX G ?a
   (case a=>dsimp only [L2.KOf]; k_is)
  have B_bool:CI.GlAt (L2.KOf KX) mg Tx.T (CI.glOf Tx.L) ("bool",.blt):=by
   refine' CI.blt_of KX G ?a
   (case a=>dsimp only [L2.KOf]; k_is)
  have B_enumerate:CI.GlAt (L2.KOf KX) mg Tx.T (CI.glOf Tx.L) ("enumerate",.blt):=by
   refine' CI.blt_of KX G ?a
   (case a=>dsimp only [L2.KOf]; k_is)
  have B_int:CI.GlAt (L2.KOf KX) mg Tx.T (CI.glOf Tx.L) ("int",.blt):=by
   refine' CI.blt_of KX G ?a
   (case a=>dsimp only [L2.KOf]; k_is)
  have B_isinstance:CI.GlAt (L2.KOf KX) mg Tx.T (CI.glOf Tx.L) ("isinstance",.blt):=by
   refine' CI.blt_of KX G ?a
   (case a=>dsimp only [L2.KOf]; k_is)
  have B_len:CI.GlAt (L2.KOf KX) mg Tx.T (CI.glOf Tx.L) ("len",.blt):=by
   refine' CI.blt_of KX G ?a
   (case a=>dsimp only [L2.KOf]; k_is)
  have B_range:CI.GlAt (L2.KOf KX) mg Tx.T (CI.glOf Tx.L) ("range",.blt):=by
   refine' CI.blt_of KX G ?a
   (case a=>dsimp only [L2.KOf]; k_is)
  have B_str:CI.GlAt (L2.KOf KX) mg Tx.T (CI.glOf Tx.L) ("str",.blt):=by
   refine' CI.blt_of KX G ?a
   (case a=>dsimp only [L2.KOf]; k_is)
  have B_tuple:CI.GlAt (L2.KOf KX) mg Tx.T (CI.glOf Tx.L) ("tuple",.blt):=by
   refine' CI.blt_of KX G ?a
   (case a=>dsimp only [L2.KOf]; k_is)
  refine ⟨D_law, ?_⟩
  unfold Tx.L
  refine CI.fc (C_WAYS) ?_
  refine CI.fc (C_NOTES) ?_
  refine CI.fc (C_BAR) ?_
  refine CI.fc (C_OCTAVE) ?_
  refine CI.fc (C_VOICES) ?_
  refine CI.fc (C_RULES) ?_
  refine CI.fc (C_LATE) ?_
  refine CI.fc (C_SHIFT) ?_
  refine CI.fc (C_TURNED) ?_
  refine CI.fc (C_FIGURES) ?_
  refine CI.fc (C_MOST_FIGURES) ?_
  refine CI.fc (C_GREATEST_SPAN) ?_
  refine CI.fc (CI.entry_of KX G D_is_whole Tx.ok_is_whole Tx.T_is_whole) ?_
  refine CI.fc (CI.entry_of KX G D_is_within Tx.ok_is_within Tx.T_is_within) ?_
  refine CI.fc (CI.entry_of KX G D_are_within Tx.ok_are_within Tx.T_are_within) ?_
  refine CI.fc (CI.entry_of KX G D_is_follower Tx.ok_is_follower Tx.T_is_follower) ?_
  refine CI.fc (CI.entry_of KX G D_is_way Tx.ok_is_way Tx.T_is_way) ?_
  refine CI.fc (CI.entry_of KX G D_are_spans Tx.ok_are_spans Tx.T_are_spans) ?_
  refine CI.fc (CI.entry_of KX G D_is_rule Tx.ok_is_rule Tx.T_is_rule) ?_
  refine CI.fc (CI.entry_of KX G D_check_frame Tx.ok_check_frame Tx.T_check_frame) ?_
  refine CI.fc (CI.entry_of KX G D_house_of Tx.ok_house_of Tx.T_house_of) ?_
  refine CI.fc (CI.entry_of KX G D_show_row Tx.ok_show_row Tx.T_show_row) ?_
  refine CI.fc (CI.entry_of KX G D_show_follower Tx.ok_show_follower Tx.T_show_follower) ?_
  refine CI.fc (CI.entry_of KX G D_show_spans Tx.ok_show_spans Tx.T_show_spans) ?_
  refine CI.fc (CI.entry_of KX G D_show_rule Tx.ok_show_rule Tx.T_show_rule) ?_
  refine CI.fc (CI.entry_of KX G D_show_house Tx.ok_show_house Tx.T_show_house) ?_
  refine CI.fc (CI.entry_of KX G D_read_number Tx.ok_read_number Tx.T_read_number) ?_
  refine CI.fc (CI.entry_of KX G D_read_numbers Tx.ok_read_numbers Tx.T_read_numbers) ?_
  refine CI.fc (CI.entry_of KX G D_read_spans Tx.ok_read_spans Tx.T_read_spans) ?_
  refine CI.fc (CI.entry_of KX G D_read_follower Tx.ok_read_follower Tx.T_read_follower) ?_
  refine CI.fc (CI.entry_of KX G D_read_rule Tx.ok_read_rule Tx.T_read_rule) ?_
  refine CI.fc (CI.entry_of KX G D_made_of Tx.ok_made_of Tx.T_made_of) ?_
  refine CI.fc (CI.entry_of KX G D_read_house Tx.ok_read_house Tx.T_read_house) ?_
  refine CI.fc (CI.entry_of KX G D_L_pen Tx.ok_L_pen Tx.T_L_pen) ?_
  refine CI.fc (CI.entry_of KX G D_L_draw Tx.ok_L_draw Tx.T_L_draw) ?_
  refine CI.fc (CI.entry_of KX G D_L_rule Tx.ok_L_rule Tx.T_L_rule) ?_
  refine CI.fc (CI.entry_of KX G D_L_house Tx.ok_L_house Tx.T_L_house) ?_
  refine CI.fc (CI.entry_of KX G D_L_same Tx.ok_L_same Tx.T_L_same) ?_
  refine CI.fc (CI.entry_of KX G D_L_rule_text Tx.ok_L_rule_text Tx.T_L_rule_text) ?_
  refine CI.fc (CI.entry_of KX G D_L_text Tx.ok_L_text Tx.T_L_text) ?_
  refine CI.fc (CI.entry_of KX G D_L_bent Tx.ok_L_bent Tx.T_L_bent) ?_
  refine CI.fc (CI.entry_of KX G D_law Tx.ok_law Tx.T_law) ?_
  refine CI.fc (B_all) ?_
  refine CI.fc (B_bool) ?_
  refine CI.fc (B_enumerate) ?_
  refine CI.fc (B_int) ?_
  refine CI.fc (B_isinstance) ?_
  refine CI.fc (B_len) ?_
  refine CI.fc (B_range) ?_
  refine CI.fc (B_str) ?_
  refine CI.fc (B_tuple) ?_
  exact fun _ h=>nomatch h
