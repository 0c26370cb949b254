import PyProof.Rows.All
import Wide.All
import OpenK.AllK
import Wide.FinOn
import Lean
import PyProof.EqAt
import PyProof.EqKinds
import PyProof.TupleCall
import OpenK.KOwn
import PyProof.NsDelKeeps
import KE.KIsAll
import PyProof.ExcArgsOwn
import PyProof.ExcAttrAll.ValueError
import PyProof.NeData
import PySem.Challenge.RW_canonwright_k60_whole_turned_over
set_option Elab.async false
set_option linter.all false
set_option maxRecDepth 100000
namespace L2
open PySem PySem.Spec PyProof.Rows
abbrev bP:=Sum Int Str
noncomputable def tW:bP→Value→Bool
 | .inl k,v=>Value.isInt k v
 | .inr x,v=>Value.isStrOf x v
noncomputable def aEU (w:World):bP→Int
 | .inl k=>hashInt k
 | .inr x=>hashStr w x
theorem dI:∀ {k:bP} {v:Value},tW k v=true→(∃ i t,k=Sum.inl i∧v=Value.int i t)∨(∃ x t,k=Sum.inr x∧v=Value.str x t)
 | .inl i,v,h=>by
  obtain ⟨t,e⟩:=Value.isInt_shape (k:=i) (v:=v) h;exact .inl ⟨i,t,rfl,e⟩
 | .inr x,v,h=>by
  obtain ⟨t,e⟩:=Value.isStrOf_shape (x:=x) (v:=v) h;exact .inr ⟨x,t,rfl,e⟩
theorem LR (i:Int) (t:Tok):tW (.inl i) (.int i t)=true:=by simp [tW,Value.isInt]
theorem M3 (x:Str) (t:Tok):tW (.inr x) (.str x t)=true:=by simp [tW,Value.isStrOf]
theorem YZ (a b:Int):decide ((Sum.inl a:bP)=Sum.inl b)=(a == b):=by
 by_cases e:a=b
 ·subst e; simp
 ·have h:¬ (Sum.inl a:bP)=Sum.inl b:=fun q=>e (Sum.inl.inj q)
  rw [decide_eq_false h];exact (beq_eq_false_iff_ne.mpr e).symm
theorem Y4 (a b:Str):decide ((Sum.inr a:bP)=Sum.inr b)=decide (a=b):=by
 by_cases e:a=b
 ·subst e; simp
 ·have h:¬ (Sum.inr a:bP)=Sum.inr b:=fun q=>e (Sum.inr.inj q)
  rw [decide_eq_false h,decide_eq_false e]
theorem aAA (a:Int) (b:Str):decide ((Sum.inl a:bP)=Sum.inr b)=false:=decide_eq_false (fun q=>nomatch q)
theorem ZM (a:Str) (b:Int):decide ((Sum.inr a:bP)=Sum.inl b)=false:=decide_eq_false (fun q=>nomatch q)
noncomputable def dW (prog:Program) (w:World):PySem.KeyKind prog w bP where
 is:=tW
 hash:=aEU w
 inj:=fun v a b ha hb=>by
  rcases dI ha with ⟨i,t,rfl,rfl⟩ | ⟨x,t,rfl,rfl⟩
  ·rcases dI hb with ⟨j,u,rfl,e⟩ | ⟨y,u,rfl,e⟩
   ·injection e with e1 _; rw [e1]
   ·exact nomatch e
  ·rcases dI hb with ⟨j,u,rfl,e⟩ | ⟨y,u,rfl,e⟩
   ·exact nomatch e
   ·injection e with e1 _; rw [e1]
 byValue:=fun k v h=>by
  rcases dI h with ⟨i,t,rfl,rfl⟩ | ⟨x,t,rfl,rfl⟩ <;> rfl
 pyHash:=fun hv h=>by
  rcases dI hv with ⟨i,t,rfl,rfl⟩ | ⟨x,t,rfl,rfl⟩
  ·exact wpAny_pyHash_int h
  ·exact wpAny_pyHash_str h
 eqBool:=fun hu hv h=>by
  rcases dI hu with ⟨i,t,rfl,rfl⟩ | ⟨x,t,rfl,rfl⟩
  ·rcases dI hv with ⟨j,u,rfl,rfl⟩ | ⟨y,u,rfl,rfl⟩
   ·rw [YZ] at h; exact wpAny_eqBool_int h
   ·rw [aAA] at h; exact SeqAt.EqAt.int_str i t y u _ _ _ _ h
  ·rcases dI hv with ⟨j,u,rfl,rfl⟩ | ⟨y,u,rfl,rfl⟩
   ·rw [ZM] at h; exact SeqAt.EqAt.str_int x t j u _ _ _ _ h
   ·rw [Y4] at h; exact wpAny_eqBool_str h
 «strs»:=fun k x t v h=>by
  rcases dI h with ⟨i,u,rfl,e⟩ | ⟨y,u,rfl,e⟩
  ·exact nomatch e
  ·injection e with e1 _
   subst e1;cases v <;> rfl
theorem EU (prog:Program) (w:World) (i:Int) (t:Tok):(dW prog w).is (.inl i) (.int i t)=true:=LR i t
theorem E3 (prog:Program) (w:World) (x:Str) (t:Tok):(dW prog w).is (.inr x) (.str x t)=true:=M3 x t
inductive V where
 | non | bl (b:Bool) | int (i:Int) | str (x:Str) | byt (b:Array UInt8) | flt (b:UInt64) | ref (a:Addr) | ty (n:String)
 deriving DecidableEq
def a7:V→Value→Prop
 | .non,u=>u=Value.none
 | .bl b,u=>u=Value.bool b
 | .int i,u=>∃ t,u=Value.int i t
 | .str x,u=>∃ t,u=Value.str x t
 | .byt b,u=>∃ t,u=Value.bytes b t
 | .flt b,u=>∃ t,u=Value.float b t
 | .ref a,u=>u=Value.ref a
 | .ty n,u=>u=Value.type n
abbrev aU:List V→List Value→Prop:=Paired a7
theorem aU.length {xs:List V} {us:List Value} (r:aU xs us):xs.length=us.length:=Paired.length r
theorem aU.get:∀ {xs:List V} {us:List Value} {i:Nat} {x:V},aU xs us→xs[i]?=some x→∃ u,us[i]?=some u∧a7 x u
 | _,_,_,_,.nil,e=>by simp at e
 | _,_,0,_,.cons r _,e=>by simp at e; subst e; exact ⟨_,rfl,r⟩
 | _,_,i+1,x,.cons _ t,e=>by
  obtain ⟨u,h1,h2⟩:=aU.get (i:=i) (x:=x) t (by simpa using e);exact ⟨u,by simpa using h1,h2⟩
theorem aU.set {x:V} {u:Value} (r:a7 x u):∀ {xs:List V} {us:List Value} (i:Nat),aU xs us→aU (xs.set i x) (us.set i u)
 | _,_,_,.nil=>.nil
 | _,_,0,.cons _ t=>.cons r t
 | _,_,i+1,.cons q t=>.cons q (aU.set r i t)
theorem aU.append:∀ {xs ys:List V} {us ws:List Value},aU xs us→aU ys ws→aU (xs ++ ys) (us ++ ws)
 | _,_,_,_,.nil,s=>s
 | _,_,_,_,.cons r t,s=>.cons r (aU.append t s)
theorem aU.take:∀ {xs:List V} {us:List Value} (n:Nat),aU xs us→aU (xs.take n) (us.take n)
 | _,_,0,_=>.nil
 | _,_,_+1,.nil=>.nil
 | _,_,n+1,.cons r t=>.cons r (aU.take n t)
theorem aU.drop:∀ {xs:List V} {us:List Value} (n:Nat),aU xs us→aU (xs.drop n) (us.drop n)
 | _,_,0,r=>r
 | _,_,_+1,.nil=>.nil
 | _,_,n+1,.cons _ t=>aU.drop n t
def gH:Option V→Option Value→Prop
 | some v,some u=>a7 v u
 | none,none=>True
 | _,_=>False
def KV {κ:Type}:List (κ × V)→List (κ × Value)→Prop:=Paired fun (p:κ × V) (q:κ × Value)=>p.1=q.1∧a7 p.2 q.2
noncomputable def kV:bP→V
 | .inl i=>.int i
 | .inr x=>.str x
inductive HO where
 | lst (xs:List V)
 | tup (xs:List V)
 | dK (kvs:List (bP × V)) | dT (kvs:List (List bP × V))
 | set (S:Int→Bool) (n:Nat)
 | ins (C dx:Addr) (fs:List (Str × V))
 | own (x:Addr)
 | xd (fs:List (Str × V))
 | met (f x:Addr)
 | rng (lo hi:Int)
 | frz (o:Obj) (u:HO)
 | tbl (ps:Array Value)
 | ext (φ:Heap→Prop)
abbrev Hp:=Addr→Option HO
noncomputable def aV (H:Hp) (a:Addr) (o:HO):Hp:=fun b=>if b=a then some o else H b
theorem bC {H:Hp} {a:Addr} {o:HO}:aV H a o a=some o:=by unfold aV; rw [if_pos rfl]
theorem aN {H:Hp} {a b:Addr} {o:HO} (h:b≠a):aV H a o b=H b:=by unfold aV; rw [if_neg h]
theorem aDB {H:Hp} {a b:Addr} {o u:HO} (h:H a=some o) (h':H b=some u) (d:o≠u):a≠b:=by
 intro e; subst e; rw [h] at h'; exact d (Option.some.inj h')
theorem bR {H:Hp} {a b:Addr} {o:HO} (h:H a=some o) (h':H b=none):a≠b:=by
 intro e; subst e; rw [h] at h'; cases h'
section
variable (P:Program) (w:World)
def dD (H:Hp) (h:Heap) (a:Addr):HO→Prop
 | .lst xs=>xs.length≤sizeLine∧∃ (its:List Value) (n:Nat),aU xs its∧h.get? a=some { cls:=.type "list",data:=.seq its.toArray n }
 | .tup xs=>xs.length≤sizeLine∧∃ its:List Value,aU xs its∧IsTup h a its.toArray
 | .dK kvs=>kvs.length≤sizeLine∧(a == sysModules)=false∧∃ vs,KV kvs vs∧h.DictOf (dW P w) a vs
 | .dT kvs=>kvs.length≤sizeLine∧(a == sysModules)=false∧∃ xs:List (List bP × Addr × Value),
   Paired (fun (p:List bP × V) (q:List bP × Addr × Value)=>p.1=q.1∧H q.2.1=some (.tup (p.1.map kV))∧a7 p.2 q.2.2) kvs xs ∧
   ∃ o es ep,h.get? a=some o∧o.ExactDict∧o.data=.dict es ep∧es.toList=xs.map (entryOfKey (tupleKind (dW P w)))∧(xs.map (·.1)).Nodup
 | .set S n=>h.SetOf (intKind P w) a S n
 | .ins C dx fs=>H dx=some (.own a)∧fs.length≤1000∧dx≠a∧h.get? a=some (PySem.W.instObj C dx) ∧
   ∃ mA,h.Ns1 dx mA∧(∀ f,gH (fs.lookup f) (mA f))∧PySem.Within mA (fs.map (·.1))
 | .own _=>∃ o,h.get? a=some o
 | .xd fs=>∃ mA,h.Ns1 a mA∧∀ f,gH (fs.lookup f) (mA f)
 | .rng lo hi=>∃ t u v,h.get? a=some { cls:=.type "range",data:=.fields #[.int lo t,.int hi u,.int 1 v] }
 | .frz o u=>h.get? a=some o∧dD H h a u
 | .tbl ps=>h.get? a=some { cls:=.none,data:=.fields ps }
 | .met f x=>h.get? a=some (PySem.W.methodObj (.ref f) (.ref x))
 | .ext φ=>φ h∧(∃ o,h.get? a=some o)∧∀ h1 h2:Heap,φ h1→(∀ o,h1.get? a=some o→h2.get? a=some o)→φ h2
def eD (H:Hp) (h:Heap):Prop:=∀ a o,H a=some o→dD P w H h a o
end
section
variable {P:Program} {w:World} {H H':Hp} {h h':Heap} {a:Addr} {o:HO}
theorem dD.lt (x:dD P w H h a o):a<h.objs.size:=by
 cases o with
 | lst xs=>obtain ⟨_,_,_,_,e⟩:=x; exact Heap.lt_size e
 | tup xs=>obtain ⟨_,_,_,p⟩:=x; exact p.lt
 | dK kvs=>obtain ⟨_,_,_,_,o,_,_,e,_⟩:=x; exact Heap.lt_size e
 | dT kvs=>obtain ⟨_,_,_,_,o,_,_,e,_⟩:=x; exact Heap.lt_size e
 | set S n=>obtain ⟨o,_,_,_,e,_⟩:=x; exact Heap.lt_size e
 | ins C dx fs=>obtain ⟨_,_,_,e,_⟩:=x; exact Heap.lt_size e
 | own y=>obtain ⟨_,e⟩:=x; exact Heap.lt_size e
 | xd fs=>obtain ⟨_,⟨_,_,_,e,_⟩,_⟩:=x; exact Heap.lt_size e
 | rng lo hi=>obtain ⟨_,_,_,e⟩:=x; exact Heap.lt_size e
 | frz ob u=>obtain ⟨e,_⟩:=x; exact Heap.lt_size e
 | tbl ps=>exact Heap.lt_size (show h.get? a=some _ from x)
 | met f y=>exact Heap.lt_size (show h.get? a=some _ from x)
 | ext φ=>obtain ⟨_,⟨_,e⟩,_⟩:=x; exact Heap.lt_size e
theorem Paired.mapP {α β:Type} {F G:α→β→Prop}:∀ {l₁:List α} {l₂:List β},Paired F l₁ l₂→(∀ a b,F a b→G a b)→Paired G l₁ l₂
 | _,_,.nil,_=>.nil
 | _,_,.cons r t,f=>.cons (f _ _ r) (Paired.mapP t f)
theorem dD.stay (x:dD P w H h a o) (k:∀ b u,(b=a∨H b=some (.own a))→h.get? b=some u→h'.get? b=some u)
  (ho:∀ b,H b=some (.own a)→H' b=some (.own a)) (ht:∀ b xs,H b=some (.tup xs)→H' b=some (.tup xs)):dD P w H' h' a o:=by
 induction o with
 | lst xs=>obtain ⟨z,its,n,r,e⟩:=x; exact ⟨z,its,n,r,k _ _ (.inl rfl) e⟩
 | tup xs=>obtain ⟨z,its,r,ob,e,c⟩:=x; exact ⟨z,its,r,ob,k _ _ (.inl rfl) e,c⟩
 | dK kvs=>obtain ⟨z,y,vs,r,ob,es,ep,e,c⟩:=x; exact ⟨z,y,vs,r,ob,es,ep,k _ _ (.inl rfl) e,c⟩
 | dT kvs =>
  obtain ⟨z,y,xs,r,ob,es,ep,e,c⟩:=x;exact ⟨z,y,xs,Paired.mapP r fun p q z=>⟨z.1,ht _ _ z.2.1,z.2.2⟩,ob,es,ep,k _ _ (.inl rfl) e,c⟩
 | set S n=>obtain ⟨ob,es,ep,t,e,c⟩:=x; exact ⟨ob,es,ep,t,k _ _ (.inl rfl) e,c⟩
 | ins C dx fs =>
  obtain ⟨d,z,ne,e,mA,⟨od,es,ep,e2,c⟩,r⟩:=x;exact ⟨ho _ d,z,ne,k _ _ (.inl rfl) e,mA,⟨od,es,ep,k _ _ (.inr d) e2,c⟩,r⟩
 | own y=>obtain ⟨ob,e⟩:=x; exact ⟨ob,k _ _ (.inl rfl) e⟩
 | xd fs=>obtain ⟨mA,⟨od,es,ep,e,c⟩,r⟩:=x; exact ⟨mA,⟨od,es,ep,k _ _ (.inl rfl) e,c⟩,r⟩
 | rng lo hi=>obtain ⟨t,u,v,e⟩:=x; exact ⟨t,u,v,k _ _ (.inl rfl) e⟩
 | frz ob u ih=>obtain ⟨e,q⟩:=x; exact ⟨k _ _ (.inl rfl) e,ih q⟩
 | tbl ps =>
  have e:h.get? a=some { cls:=.none,data:=.fields ps }:=x;show h'.get? a=some { cls:=.none,data:=.fields ps };exact k a _ (.inl rfl) e
 | met f y =>
  have e:h.get? a=some (PySem.W.methodObj (.ref f) (.ref y)):=x;show h'.get? a=some (PySem.W.methodObj (.ref f) (.ref y));exact k a _ (.inl rfl) e
 | ext φ=>obtain ⟨p,⟨o,e⟩,st⟩:=x; exact ⟨st _ _ p fun o q=>k _ _ (.inl rfl) q,⟨o,k _ _ (.inl rfl) e⟩,st⟩
theorem eD.lt (x:eD P w H h) (e:H a=some o):a<h.objs.size:=(x a o e).lt
theorem eD.fresh (x:eD P w H h) (e:h.objs.size≤a):H a=none:=by
 cases q:H a with
 | none=>rfl
 | some u=>exact absurd (Nat.lt_of_lt_of_le (x.lt q) e) (Nat.lt_irrefl _)
theorem eD.kept (x:eD P w H h) (k:∀ b u,h.get? b=some u→h'.get? b=some u):eD P w H h':=fun a o e =>
 (x a o e).stay (fun b u _ q=>k b u q) (fun _ q=>q) fun _ _ q=>q
theorem eD.laid (x:eD P w H h) (k:∀ b u,h.get? b=some u→h'.get? b=some u) (hp:h.objs.size≤a) (new:dD P w (aV H a o) h' a o):eD P w (aV H a o) h':=fun b u e=>by
 have hn:=x.fresh hp;by_cases hb:b=a
 ·subst hb; rw [bC] at e; cases e; exact new
 ·rw [aN hb] at e;exact (x b u e).stay (fun c v _ q=>k c v q) (fun c q=>by rw [aN (bR q hn)]; exact q) fun c xs q=>by rw [aN (bR q hn)]; exact q
end
def Rd (H:Hp) (a:Addr) (u:HO):Prop:=H a=some u∨∃ o,H a=some (.frz o u)
theorem Rd.ok {P:Program} {w:World} {H:Hp} {h:Heap} {a:Addr} {u:HO} (r:Rd H a u) (x:eD P w H h):dD P w H h a u:=by
 rcases r with r | ⟨o,r⟩
 ·exact x a u r
 ·obtain ⟨_,q⟩:=x a _ r;exact q
def LF:Option HO→Prop
 | some (.lst _)=>True
 | some (.dK _)=>True
 | some (.dT _)=>True
 | some (.set _ _)=>True
 | some (.ins _ _ _)=>True
 | some (.ext _)=>True
 | _=>False
section
variable {P:Program} {w:World} {H:Hp} {h h':Heap} {x e:Addr} {o':HO}
theorem eD.write (ok:eD P w H h) (mu:LF (H x)) (he:e=x∨H e=some (.own x)) (k:∀ b u,b≠e→h.get? b=some u→h'.get? b=some u) (heo:∃ u,h'.get? e=some u)
  (new:dD P w (aV H x o') h' x o'):eD P w (aV H x o') h':=fun b u q=>by
 have nown:∀ c y,H c=some (.own y)→c≠x:=fun c y r z=>by subst z; rw [r] at mu; exact mu
 have ntup:∀ c xs,H c=some (.tup xs)→c≠x:=fun c xs r z=>by subst z; rw [r] at mu; exact mu
 by_cases hb:b=x
 ·subst hb; rw [bC] at q; cases q; exact new
 ·rw [aN hb] at q;by_cases hbe:b=e
  ·have q':H b=some (.own x):=by
    rcases he with z | z
    ·exact absurd (hbe.trans z) hb
    ·rw [hbe]; exact z
   rw [q] at q'; cases q';obtain ⟨v,hv⟩:=heo;exact ⟨v,by rw [hbe]; exact hv⟩
  ·refine (ok b u q).stay (fun c v hc r=>k c v ?_ r) (fun c r=>by rw [aN (nown c b r)]; exact r) fun c xs r=>by rw [aN (ntup c xs r)]; exact r
   rcases hc with rfl | hc
   ·exact hbe
   ·rintro rfl
    rcases he with z | z
    ·exact nown c b hc z
    ·rw [hc] at z; cases z; exact hb rfl
end
structure Un (fs ex:List Addr) (H H':Hp) (h h':Heap):Prop where
 keep:∀ b o,h.get? b=some o→H b=none→b ∉ fs→b ∉ ex→h'.get? b=some o
 slot:∀ b o,h.get? b=some o→H b=none→b∈fs→b ∉ ex→∃ sl,h'.get? b=some { o with slots:=sl }
 free:∀ b o,h.get? b=some o→H b=none→b ∉ ex→H' b=none
 there:∀ b o,h.get? b=some o→b ∉ ex→∃ o',h'.get? b=some o'
 tups:∀ b xs,H b=some (.tup xs)→H' b=some (.tup xs)
 frzs:∀ b o u,H b=some (.frz o u)→H' b=some (.frz o u)
 tbls:∀ b ps,H b=some (.tbl ps)→∃ more,H' b=some (.tbl (ps ++ more))
section
variable {fs fs' ex ex':List Addr} {H H1 H2:Hp} {h h1 h2 h':Heap} {a x e:Addr} {o:HO}
theorem Un.any (u:Un fs ex H H1 h h1) {b:Addr} {ob:Obj} (q:h.get? b=some ob) (n:H b=none) (hx:b ∉ ex):∃ sl,h1.get? b=some { ob with slots:=sl }:=by
 by_cases hb:b∈fs
 ·exact u.slot b ob q n hb hx
 ·exact ⟨ob.slots,u.keep b ob q n hb hx⟩
theorem Un.kept (k:∀ b u,h.get? b=some u→h'.get? b=some u):Un fs ex H H h h' :=
 ⟨fun b ob q _ _ _=>k b ob q,fun b ob q _ _ _=>⟨ob.slots,k b ob q⟩,fun _ _ _ n _=>n,fun b ob q _=>⟨ob,k b ob q⟩,fun _ _ q=>q,fun _ _ _ q=>q,fun _ ps q=>⟨#[],by rw [q]; simp⟩⟩
theorem Un.refl:Un fs ex H H h h:=Un.kept fun _ _ q=>q
theorem Un.laid (k:∀ b u,h.get? b=some u→h'.get? b=some u) (hp:h.objs.size≤a) (hn:H a=none):Un fs ex H (aV H a o) h h' where
 keep:=fun b u q _ _ _=>k b u q
 slot:=fun b u q _ _ _=>⟨u.slots,k b u q⟩
 free:=fun b u q n _=>by rw [aN (Nat.ne_of_lt (Nat.lt_of_lt_of_le (Heap.lt_size q) hp))]; exact n
 there:=fun b u q _=>⟨u,k b u q⟩
 tups:=fun b xs q=>by rw [aN (bR q hn)]; exact q
 frzs:=fun b u xs q=>by rw [aN (bR q hn)]; exact q
 tbls:=fun b ps q=>⟨#[],by rw [aN (bR q hn),q]; simp⟩
theorem Un.write (mu:LF (H x)) (he:e=x∨H e=some (.own x)) (k:∀ b u,b≠e→h.get? b=some u→h'.get? b=some u) (heo:∃ u,h'.get? e=some u):Un fs ex H (aV H x o) h h':=by
 have hx:∀ b,H b=none→b≠x:=fun b n z=>by subst z; rw [n] at mu; exact mu
 have hb:∀ b,H b=none→b≠e:=fun b n z=>by
  subst z;rcases he with r | r
  ·exact hx b n r
  ·rw [n] at r; cases r
 have hm:∀ b u,H b=some u→¬ LF (some u)→b≠x:=fun b u q nm z=>by subst z; rw [q] at mu; exact nm mu
 refine ⟨fun b u q n _ _=>k b u (hb b n) q,fun b u q n _ _=>⟨u.slots,k b u (hb b n) q⟩,fun b u q n _=>by rw [aN (hx b n)]; exact n,fun b u q _=>?_,
  fun b xs q=>by rw [aN (hm b _ q fun z=>z)]; exact q,fun b u xs q=>by rw [aN (hm b _ q fun z=>z)]; exact q,fun b ps q=>⟨#[],by rw [aN (hm b _ q fun z=>z),q]; simp⟩⟩
 by_cases hbe:b=e
 ·subst hbe; exact heo
 ·exact ⟨u,k b u hbe q⟩
end
noncomputable def RY (h:Heap) (H:Hp):List Addr:=(List.range h.objs.size).filter fun a=>(H a).isSome
noncomputable def pR (h:Heap) (H:Hp):Heap:=PySem.W.hideAll h (RY h H)
theorem JZ (h:Heap) (H:Hp):(pR h H).objs.size=h.objs.size:=PySem.W.hideAll_size _ _
theorem O9 {h:Heap} {H:Hp} {b:Addr} {o:Obj} (e:h.get? b=some o) (n:H b=none):(pR h H).get? b=some o :=
 PySem.W.hideAll_get _ e fun hm=>by
  have q:(H b).isSome=true:=(List.mem_filter.mp hm).2;rw [n] at q; simp at q
theorem U7 {h:Heap} {H:Hp} {b:Addr} {o:Obj} (e:(pR h H).get? b=some o):h.get? b=some o∧H b=none:=by
 have e':h.get? b=some o:=PySem.W.of_hideAll (RY h H) e;refine ⟨e', ?_⟩
 cases q:H b with
 | none=>rfl
 | some x =>
  have hm:b∈RY h H:=List.mem_filter.mpr ⟨List.mem_range.mpr (Heap.lt_size e'),by simp [q]⟩;have z:(pR h H).get? b=none:=PySem.W.hideAll_none (RY h H) hm;rw [z] at e; cases e
noncomputable def VY (g h:Heap) (L:Addr):List (Addr × Obj):=(List.range h.objs.size).filterMap fun a=>if a=L∨(g.get? a).isSome=true then none else (h.get? a).map fun o=>(a,o)
noncomputable def d9 (g h:Heap) (L d:Addr):List (Addr × Obj):=(VY g h L).filter fun p=>decide (p.1≠d)
structure Mod (K:PySem.W.Frag) (mg:Str→Option Value) (base:Heap):Prop where
 kin:K.In base
 glob:base.Ns mainGlobals mg
 blt:∃ mb,base.Ns builtinsNs mb∧∀ x:Str,x≠"__name__"→mb x=bootBuiltins x
 nolimit:base.NoLimit
structure Cx where
 prog:Program
 w:World
 K:PySem.W.Frag
 mg:Str→Option Value
 base:Heap
 A:Around
 N:List Str
 s₀:Shared
 H₀:Hp
 env:Env
 outer:List Env
 stack:List Env
 ex:List Addr
 fn:Str→Bool
 calm:Bool
 pn:List (Addr × Obj)
 xe:Value→Shared→Prop
def fU (l:List Env):List Addr:=l.filterMap (·.frame)
abbrev Cx.fs (X:Cx):List Addr:=fU X.outer
def GU (sc:Scope) (x:Str):Prop:=sc.names.lookup x=some .local∨sc.names.lookup x=some .cell∨sc.names.lookup x=some .free
def rQ (sc:Scope) (x:Str):Prop:=sc.names.lookup x=some .local∨sc.names.lookup x=some .cell
def aEH (env:Env) (h:Heap) (m:Str→Option Value) (x:Str) (u:Value):Prop :=
 (env.kindOf x=some .local∧m x=some u)∨((env.kindOf x=some .cell∨env.kindOf x=some .free)∧∃ c,env.cells.lookup x=some c∧h.IsCell c (some u))
structure Cx.Ok (X:Cx):Prop where
 mod:Mod X.K X.mg X.base
 kind:X.env.scope.kind=.function
 glob:X.env.globals=mainGlobals
 blt:X.env.builtins=builtinsNs
 above:X.s₀.heap.objs.size≤X.env.locals
 inj:∀ x y c,X.env.cells.lookup x=some c→X.env.cells.lookup y=some c→x=y
 has:∀ x,(X.env.kindOf x=some .cell∨X.env.kindOf x=some .free)→∃ c,X.env.cells.lookup x=some c
 cab:∀ x c,X.fn x=true→X.env.cells.lookup x=some c→X.s₀.heap.objs.size≤c
 hd:X.calm=true→X.A.handled=none
 frames:X.A.frames=some X.stack
 stk:X.stack=X.outer∨(X.stack=X.env :: X.outer∧X.env.frame=some X.env.locals)
 exf:∀ b∈X.ex,b≠X.env.locals∧∀ x c,X.env.cells.lookup x=some c→c≠b
 bs:∀ b o,X.base.get? b=some o→X.s₀.heap.get? b=some o∧X.H₀ b=none
 bsz:X.base.objs.size≤X.s₀.heap.objs.size
 noex:∀ b o,X.base.get? b=some o→b ∉ X.ex
 exfs:∀ b∈X.ex,b ∉ X.fs
 funs:X.s₀.heap.FunFrames X.base X.outer
 frf:∀ b∈X.fs,X.H₀ b=none
structure Inv (X:Cx) (pins:List (Addr × Obj)) (σ:List (Option V)) (H:Hp) (s:Shared):Prop where
 ok:X.Ok
 os:s.os=X.s₀.os
 bare:AllBare s.gens
 base:Un X.fs X.ex X.H₀ H X.s₀.heap s.heap
 loc:∃ m,s.heap.Ns X.env.locals m∧∀ (i:Nat) (x:Str) (v:V),X.N[i]?=some x→σ[i]?=some (some v)→GU X.env.scope x→∃ u,a7 v u∧aEH X.env s.heap m x u
 cell:∀ x c,X.env.cells.lookup x=some c→∃ v,s.heap.IsCell c v
 free:H X.env.locals=none
 freeC:∀ x c,X.env.cells.lookup x=some c→H c=none
 pin:∀ p∈X.pn ++ pins,s.heap.get? p.1=some p.2∧H p.1=none∧p.1≠X.env.locals∧p.1 ∉ X.fs∧∀ v,p.2.data≠.cell v
 hok:eD X.prog X.w H s.heap
 len:σ.length=X.N.length
section
variable {X:Cx} {pins:List (Addr × Obj)} {σ:List (Option V)} {H H':Hp} {s:Shared} {h':Heap}
theorem Cx.Ok.nofr (ok:X.Ok) {b:Addr} {o:Obj} (e:X.base.get? b=some o):b ∉ X.fs:=fun hb=>by
 have:=(ok.funs.mem hb).1
 rw [e] at this; cases this
theorem Inv.bs (I:Inv X pins σ H s):∀ b o,X.base.get? b=some o→s.heap.get? b=some o∧H b=none:=fun b o e =>
 ⟨I.base.keep b o (I.ok.bs b o e).1 (I.ok.bs b o e).2 (I.ok.nofr e) (I.ok.noex b o e),I.base.free b o (I.ok.bs b o e).1 (I.ok.bs b o e).2 (I.ok.noex b o e)⟩
theorem Inv.bk (I:Inv X pins σ H s):∀ b o,X.base.get? b=some o→s.heap.get? b=some o:=fun b o e=>(I.bs b o e).1
theorem Inv.mod (I:Inv X pins σ H s):Mod X.K X.mg X.base:=I.ok.mod
theorem Inv.kIn (I:Inv X pins σ H s):X.K.In s.heap:=I.ok.mod.kin.keeps I.bk
theorem Inv.lt (I:Inv X pins σ H s):X.env.locals<s.heap.objs.size:=let ⟨_,hn,_⟩:=I.loc; hn.lt
theorem Inv.sz (I:Inv X pins σ H s):X.s₀.heap.objs.size≤s.heap.objs.size:=Nat.le_trans I.ok.above (Nat.le_of_lt I.lt)
theorem Inv.nofs (I:Inv X pins σ H s) {a:Addr} (h:s.heap.objs.size≤a):a ∉ X.fs:=fun hb=>by
 obtain ⟨_,o,ho,_⟩:=I.ok.funs.mem hb;exact absurd (Nat.lt_of_lt_of_le (Heap.lt_size ho) (Nat.le_trans I.sz h)) (Nat.lt_irrefl _)
theorem Inv.cne (I:Inv X pins σ H s):∀ x c,X.env.cells.lookup x=some c→c≠X.env.locals:=fun x c e z=>by
 obtain ⟨v,o,ho,hd⟩:=I.cell x c e;obtain ⟨m,⟨o',es,ep,ho',hd',_⟩,_⟩:=I.loc;rw [z,ho'] at ho; cases ho; rw [hd'] at hd; cases hd
theorem Inv.funs (I:Inv X pins σ H s):s.heap.FunFrames X.base X.outer:=by
 have all:∀ (l:List Env),(∀ b∈fU l,b∈X.fs)→X.s₀.heap.FunFrames X.base l→s.heap.FunFrames X.base l:=by
  intro l
  induction l with
  | nil=>intro _ _; trivial
  | cons env r ih =>
   intro hs hl;obtain ⟨hk,⟨L,o,hf,hn,ho,hd⟩,hr⟩:=hl;have hL:L∈X.fs:=hs L (by unfold fU; rw [List.filterMap_cons,hf]; exact List.mem_cons_self);obtain ⟨sl,e⟩:=I.base.slot L o ho (I.ok.frf L hL) hL fun z=>I.ok.exfs L z hL
   exact ⟨hk,⟨L,_,hf,hn,e,hd⟩,ih (fun b hb=>hs b (by unfold fU; rw [List.filterMap_cons,hf]; exact List.mem_cons_of_mem _ hb)) hr⟩
 exact all X.outer (fun _ hb=>hb) I.ok.funs
theorem Inv.stack (I:Inv X pins σ H s):s.heap.FunFrames X.base X.stack:=by
 rcases I.ok.stk with e | ⟨e,hf⟩
 ·rw [e]; exact I.funs
 ·rw [e];obtain ⟨m,hn,_⟩:=I.loc;refine .cons (by rw [I.ok.kind]; decide) hf hn ?_ I.funs;exact Heap.get?_none_of_le (Nat.le_trans I.ok.bsz I.ok.above)
theorem Inv.stkSub (I:Inv X pins σ H s):∀ b∈fU X.stack,b∈X.env.locals :: X.fs:=fun b hb=>by
 rcases I.ok.stk with e | ⟨e,hf⟩
 ·rw [e] at hb; exact List.mem_cons_of_mem _ hb
 ·rw [e] at hb;unfold fU at hb;rw [List.filterMap_cons,hf] at hb;exact hb
theorem Inv.stkFree (I:Inv X pins σ H s):∀ b∈fU X.stack,H b=none:=fun b hb=>by
 rcases List.mem_cons.mp (I.stkSub b hb) with e | hb
 ·rw [e]; exact I.free
 ·obtain ⟨_,o,ho,_⟩:=I.ok.funs.mem hb;exact I.base.free b o ho (I.ok.frf b hb) fun z=>I.ok.exfs b z hb
theorem Inv.step {g':Array GenState} {t':Nat} {d':Drawn} {ch:List Addr} (I:Inv X pins σ H s)
  (hch:∀ b∈ch,(b∈X.ex∨X.s₀.heap.get? b=none)∧b≠X.env.locals∧(∀ x c,X.env.cells.lookup x=some c→c≠b)∧∀ p∈X.pn ++ pins,p.1≠b)
  (keep:∀ b o,b≠X.env.locals→b ∉ X.fs→b ∉ ch→s.heap.get? b=some o→H b=none→h'.get? b=some o)
  (slot:∀ b o,b≠X.env.locals→b∈X.fs→b ∉ ch→s.heap.get? b=some o→H b=none→∃ sl,h'.get? b=some { o with slots:=sl }) (free:∀ b o,b ∉ ch→s.heap.get? b=some o→H b=none→H' b=none)
  (there:∀ b o,b ∉ ch→s.heap.get? b=some o→∃ o',h'.get? b=some o')
  (tups:∀ b xs,H b=some (.tup xs)→H' b=some (.tup xs)) (frzs:∀ b o u,H b=some (.frz o u)→H' b=some (.frz o u)) (tbls:∀ b ps,H b=some (.tbl ps)→∃ more,H' b=some (.tbl (ps ++ more)))
  (ns:∀ m,s.heap.Ns X.env.locals m→h'.Ns X.env.locals m) (hok:eD X.prog X.w H' h') (hg:AllBare g') :
  Inv X pins σ H' { s with heap:=h',gens:=g',drawn:=d',toks:=t' }:=by
 have neL:∀ b o,X.s₀.heap.get? b=some o→b≠X.env.locals:=fun b o e=>Nat.ne_of_lt (Nat.lt_of_lt_of_le (Heap.lt_size e) I.ok.above)
 have neC:∀ b o,X.s₀.heap.get? b=some o→b ∉ X.ex→b ∉ ch:=fun b o e hx hb=>by
  rcases (hch b hb).1 with z | z
  ·exact hx z
  ·rw [z] at e; cases e
 have cellK:∀ x c,X.env.cells.lookup x=some c→∀ v,s.heap.IsCell c v→h'.IsCell c v:=fun x c e v ⟨o,ho,hd⟩=>by
  have nch:c ∉ ch:=fun z=>(hch c z).2.2.1 x c e rfl
  by_cases hc:c∈X.fs
  ·obtain ⟨sl,q⟩:=slot c o (I.cne x c e) hc nch ho (I.freeC x c e);exact ⟨_,q,hd⟩
  ·exact ⟨o,keep c o (I.cne x c e) hc nch ho (I.freeC x c e),hd⟩
 refine ⟨I.ok,I.os,hg,⟨fun b o e n hb hx=>?_,fun b o e n hb hx=>?_,fun b o e n hx=>?_,fun b o e hx=>?_,fun b xs e=>tups b xs (I.base.tups b xs e),fun b o xs e=>frzs b o xs (I.base.frzs b o xs e),fun b ps e=>?_⟩, ?_,fun x c e=>?_, ?_,fun x c e=>?_,fun p hp=>?_,hok,I.len⟩
 ·exact keep b o (neL b o e) hb (neC b o e hx) (I.base.keep b o e n hb hx) (I.base.free b o e n hx)
 ·obtain ⟨sl,e1⟩:=I.base.slot b o e n hb hx;obtain ⟨sl',e2⟩:=slot b _ (neL b o e) hb (neC b o e hx) e1 (I.base.free b o e n hx);exact ⟨sl',e2⟩
 ·obtain ⟨o',e1⟩:=I.base.there b o e hx;exact free b o' (neC b o e hx) e1 (I.base.free b o e n hx)
 ·obtain ⟨o',e1⟩:=I.base.there b o e hx;exact there b o' (neC b o e hx) e1
 ·obtain ⟨m1,e1⟩:=I.base.tbls b ps e;obtain ⟨m2,e2⟩:=tbls b _ e1;exact ⟨m1 ++ m2,by rw [e2,Array.append_assoc]⟩
 ·obtain ⟨m,hn,hl⟩:=I.loc;refine ⟨m,ns m hn,fun i x v e1 e2 e3=>?_⟩;obtain ⟨u,r,l⟩:=hl i x v e1 e2 e3;refine ⟨u,r, ?_⟩;rcases l with l | ⟨k,c,e,z⟩
  ·exact .inl l
  ·exact .inr ⟨k,c,e,cellK x c e _ z⟩
 ·obtain ⟨v,z⟩:=I.cell x c e;exact ⟨v,cellK x c e v z⟩
 ·obtain ⟨m,⟨o,_,_,ho,_⟩,_⟩:=I.loc;exact free _ o (fun z=>(hch _ z).2.1 rfl) ho I.free
 ·obtain ⟨v,o,ho,hd⟩:=I.cell x c e;exact free c o (fun z=>(hch c z).2.2.1 x c e rfl) ho (I.freeC x c e)
 ·obtain ⟨e,n,ne,nf,d⟩:=I.pin p hp;have nch:p.1 ∉ ch:=fun z=>(hch p.1 z).2.2.2 p hp rfl
  exact ⟨keep p.1 p.2 ne nf nch e n,free p.1 p.2 nch e n,ne,nf,d⟩
theorem Inv.un {t':Nat} (I:Inv X pins σ H s) (u:Un X.fs [] H H' s.heap h') (hok:eD X.prog X.w H' h'):Inv X pins σ H' { s with heap:=h',toks:=t' }:=by
 obtain ⟨m,⟨o,es,ep,ho,r⟩,_⟩:=id I.loc;obtain ⟨sl,hL⟩:=u.any ho I.free (by simp)
 exact I.step (g':=s.gens) (d':=s.drawn) (ch:=[]) (fun _ z=>nomatch z) (fun b o _ hb _ e n=>u.keep b o e n hb (by simp)) (fun b o _ hb _ e n=>u.slot b o e n hb (by simp)) (fun b o _ e n=>u.free b o e n (by simp)) (fun b o _ e=>u.there b o e (by simp)) u.tups u.frzs u.tbls (fun m' hm=>by
  obtain ⟨o',es',ep',ho',r'⟩:=hm;rw [ho] at ho'; cases ho'
  exact ⟨_,es',ep',hL,r'⟩) hok I.bare
theorem Inv.call {g':Array GenState} {t':Nat} {d':Drawn} {ch:List Addr} (I:Inv X pins σ H s) (u:Un (fU X.stack) ch H H' s.heap h') (hok:eD X.prog X.w H' h') (hg:AllBare g')
  (hch:∀ b∈ch,(b∈X.ex∨X.s₀.heap.get? b=none)∧b≠X.env.locals∧(∀ x c,X.env.cells.lookup x=some c→c≠b)∧∀ p∈X.pn ++ pins,p.1≠b) :
  Inv X pins σ H' { s with heap:=h',gens:=g',drawn:=d',toks:=t' }:=by
 obtain ⟨m,⟨o,es,ep,ho,r⟩,_⟩:=id I.loc;obtain ⟨sl,hL⟩:=u.any ho I.free fun z=>(hch _ z).2.1 rfl
 exact I.step (ch:=ch) hch (fun b o hL hb hc e n=>u.keep b o e n (fun z=>(List.mem_cons.mp (I.stkSub b z)).elim hL hb) hc) (fun b o _ _ hc e n=>u.any e n hc) (fun b o hc e n=>u.free b o e n hc) (fun b o hc e=>u.there b o e hc) u.tups u.frzs u.tbls (fun m' hm=>by
  obtain ⟨o',es',ep',ho',r'⟩:=hm;rw [ho] at ho'; cases ho'
  exact ⟨_,es',ep',hL,r'⟩) hok hg
theorem Inv.turned {t':Nat} {it:Addr} (I:Inv X pins σ H s) (k:∀ b o,b≠it→s.heap.get? b=some o→h'.get? b=some o) (hn:H it=none) (hL:it≠X.env.locals)
  (h1:it∈X.ex∨X.s₀.heap.get? it=none) (h2:∀ x c,X.env.cells.lookup x=some c→c≠it) (h3:∀ p∈X.pn ++ pins,p.1≠it):Inv X pins σ H { s with heap:=h',toks:=t' }:=by
 have nit:∀ b u,H b=some u→b≠it:=fun b u e z=>by rw [z,hn] at e; cases e
 refine I.step (g':=s.gens) (d':=s.drawn) (ch:=[it]) (fun b hb=>?_) (fun b o _ _ hc e _=>k b o (fun z=>hc (by simp [z])) e) (fun b o _ _ hc e _=>⟨o.slots,k b o (fun z=>hc (by simp [z])) e⟩) (fun _ _ _ _ n=>n)
  (fun b o hc e=>⟨o,k b o (fun z=>hc (by simp [z])) e⟩) (fun _ _ e=>e) (fun _ _ _ e=>e) (fun b ps e=>⟨#[],by rw [e]; simp⟩) (fun m hm=>?_) (fun b u e=>?_) I.bare
 ·have e:b=it:=by simpa using hb
  subst e;exact ⟨h1,hL,h2,h3⟩
 ·obtain ⟨o,es,ep,ho,r⟩:=hm;exact ⟨o,es,ep,k _ o (Ne.symm hL) ho,r⟩
 ·refine (I.hok b u e).stay (fun c v hc q=>k c v ?_ q) (fun _ q=>q) fun _ _ q=>q
  rcases hc with z | z
  ·rw [z]; exact nit b u e
  ·exact nit c _ z
theorem Inv.tok (I:Inv X pins σ H s) (t:Nat):Inv X pins σ H { s with toks:=t }:=I.un (h':=s.heap) (t':=t) Un.refl I.hok
theorem Inv.kept {t':Nat} (I:Inv X pins σ H s) (k:∀ b u,s.heap.get? b=some u→h'.get? b=some u):Inv X pins σ H { s with heap:=h',toks:=t' }:=I.un (Un.kept k) (I.hok.kept k)
theorem Inv.laid {a:Addr} {o:HO} {t':Nat} (I:Inv X pins σ H s) (k:∀ b u,s.heap.get? b=some u→h'.get? b=some u) (hp:s.heap.objs.size≤a) (new:dD X.prog X.w (aV H a o) h' a o) :
  Inv X pins σ (aV H a o) { s with heap:=h',toks:=t' }:=I.un (Un.laid k hp (I.hok.fresh hp)) (I.hok.laid k hp new)
theorem Inv.write {x e:Addr} {o:HO} {t':Nat} (I:Inv X pins σ H s) (mu:LF (H x)) (he:e=x∨H e=some (.own x)) (k:∀ b u,b≠e→s.heap.get? b=some u→h'.get? b=some u) (heo:∃ u,h'.get? e=some u)
  (new:dD X.prog X.w (aV H x o) h' x o):Inv X pins σ (aV H x o) { s with heap:=h',toks:=t' }:=I.un (Un.write mu he k heo) (I.hok.write mu he k heo new)
theorem Inv.pins_of {pins':List (Addr × Obj)} (I:Inv X pins σ H s) (h:∀ p∈pins',s.heap.get? p.1=some p.2∧H p.1=none∧p.1≠X.env.locals∧p.1 ∉ X.fs∧∀ v,p.2.data≠.cell v):Inv X pins' σ H s :=
 ⟨I.ok,I.os,I.bare,I.base,I.loc,I.cell,I.free,I.freeC,fun p hp=>(List.mem_append.mp hp).elim (fun z=>I.pin p (List.mem_append_left _ z)) (h p),I.hok,I.len⟩
theorem DL {N:List Str} (hN:N.Nodup) {i j:Nat} {x:Str} (a:N[i]?=some x) (b:N[j]?=some x):i=j:=by
 obtain ⟨h1,e1⟩:=List.getElem?_eq_some_iff.mp a;obtain ⟨h2,e2⟩:=List.getElem?_eq_some_iff.mp b;exact (List.getElem_inj hN).mp (e1.trans e2.symm)
theorem sW {M:Model} {A:Around} {E:Value→Shared→Prop} {i:Nat} {x:Str} {v:V} {u:Value} {Q:Unit→Shared→Prop} (I:Inv X pins σ H s) (hN:X.N.Nodup) (hi:X.N[i]?=some x) (hx:rQ X.env.scope x) (r:a7 v u)
  (h:∀ s',Inv X pins (σ.set i (some v)) H s'→(∃ a,Heap.SameBut a s.heap s'.heap∧(a=X.env.locals∨X.env.cells.lookup x=some a))→Q () s') (hf:X.fn x=true∨X.env.scope.names.lookup x=some .local:=by first | exact .inl rfl | exact .inr rfl | assumption):wpAny M A (storeName X.env x u) Q E s:=by
 obtain ⟨m,hn,hl⟩:=id I.loc;have hcls:(X.env.scope.kind == .class || (X.env.scope.kind == .module && X.env.locals != X.env.globals))=false:=by rw [I.ok.kind]; rfl
 have hiσ:i<σ.length:=by rw [I.len]; exact (List.getElem?_eq_some_iff.mp hi).1
 have cne:=I.cne
 have tracked:∀ {a:Addr} {h':Heap},(∃ o,s.heap.get? a=some o∧H a=none)→Heap.SameBut a s.heap h'→eD X.prog X.w H h':=fun {a h'} ha hs b ob e=>by
  obtain ⟨_,_,hfree⟩:=ha;refine (I.hok b ob e).stay (fun c w' hc q=>(hs.2 c ?_).trans q) (fun _ q=>q) fun _ _ q=>q
  rintro rfl
  rcases hc with rfl | hc
  ·rw [hfree] at e; cases e
  ·rw [hfree] at hc; cases hc
 rcases hx with hk | hk
 ·refine wpAny_storeName_local hk hn (fun h' hn' hs=>?_) hcls;obtain ⟨oL,_,_,hoL,_⟩:=id hn;refine h _ ⟨I.ok,I.os,I.bare,⟨fun b o e n hb hx=>?_,fun b o e n hb hx=>?_,I.base.free,fun b o e hx=>?_,I.base.tups,I.base.frzs,I.base.tbls⟩,⟨_,hn',fun j y v' e1 e2 e3=>?_⟩,fun y c e=>?_,I.free,I.freeC,fun p hp=>?_,tracked ⟨oL,hoL,I.free⟩ hs,by simpa using I.len⟩ ⟨_,hs,.inl rfl⟩
  ·exact (hs.2 b (Nat.ne_of_lt (Nat.lt_of_lt_of_le (Heap.lt_size e) I.ok.above))).trans (I.base.keep b o e n hb hx)
  ·obtain ⟨sl,e1⟩:=I.base.slot b o e n hb hx;exact ⟨sl,(hs.2 b (Nat.ne_of_lt (Nat.lt_of_lt_of_le (Heap.lt_size e) I.ok.above))).trans e1⟩
  ·obtain ⟨o',e1⟩:=I.base.there b o e hx;exact ⟨o',(hs.2 b (Nat.ne_of_lt (Nat.lt_of_lt_of_le (Heap.lt_size e) I.ok.above))).trans e1⟩
  ·by_cases hj:j=i
   ·subst hj;rw [hi] at e1; cases e1;rw [List.getElem?_set_self hiσ] at e2;cases e2;exact ⟨u,r,.inl ⟨hk,by simp⟩⟩
   ·rw [List.getElem?_set_ne (Ne.symm hj)] at e2;obtain ⟨u',r',q⟩:=hl j y v' e1 e2 e3;refine ⟨u',r', ?_⟩;rcases q with ⟨k,e⟩ | ⟨k,c,e,z⟩
    ·refine .inl ⟨k, ?_⟩
     have:y≠x:=fun e=>hj (DL hN e1 (e ▸ hi))
     simp [this,e]
    ·exact .inr ⟨k,c,e,z.sameBut hs (cne y c e)⟩
  ·obtain ⟨w',z⟩:=I.cell y c e;exact ⟨w',z.sameBut hs (cne y c e)⟩
  ·obtain ⟨e,n,ne,nf,d⟩:=I.pin p hp;exact ⟨(hs.2 p.1 ne).trans e,n,ne,nf,d⟩
 ·have hfn:X.fn x=true:=by
   rcases hf with z | z
   ·exact z
   ·rw [z] at hk; cases hk
  obtain ⟨c,hc⟩:=I.ok.has x (.inl hk);obtain ⟨w',z⟩:=I.cell x c hc;refine wpAny_storeName_cell I.ok.kind hk hc z (fun h' hc' hs=>?_);obtain ⟨oc,hoc,hocd⟩:=id z;refine h { s with heap:=h' } ⟨I.ok,I.os,I.bare,⟨fun b o e n hb hx=>?_,fun b o e n hb hx=>?_,I.base.free,fun b o e hx=>?_,I.base.tups,I.base.frzs,I.base.tbls⟩,⟨m,hn.sameBut hs (Ne.symm (cne x c hc)),fun j y v' e1 e2 e3=>?_⟩,fun y c' e=>?_,I.free,I.freeC,fun p hp=>?_,tracked ⟨oc,hoc,I.freeC x c hc⟩ hs,by simpa using I.len⟩ ⟨c,hs,.inr hc⟩
  ·exact (hs.2 b (Nat.ne_of_lt (Nat.lt_of_lt_of_le (Heap.lt_size e) (I.ok.cab x c hfn hc)))).trans (I.base.keep b o e n hb hx)
  ·obtain ⟨sl,e1⟩:=I.base.slot b o e n hb hx;exact ⟨sl,(hs.2 b (Nat.ne_of_lt (Nat.lt_of_lt_of_le (Heap.lt_size e) (I.ok.cab x c hfn hc)))).trans e1⟩
  ·obtain ⟨o',e1⟩:=I.base.there b o e hx;exact ⟨o',(hs.2 b (Nat.ne_of_lt (Nat.lt_of_lt_of_le (Heap.lt_size e) (I.ok.cab x c hfn hc)))).trans e1⟩
  ·by_cases hj:j=i
   ·subst hj;rw [hi] at e1; cases e1;rw [List.getElem?_set_self hiσ] at e2;cases e2;exact ⟨u,r,.inr ⟨.inl hk,c,hc,hc'⟩⟩
   ·rw [List.getElem?_set_ne (Ne.symm hj)] at e2;obtain ⟨u',r',q⟩:=hl j y v' e1 e2 e3;refine ⟨u',r', ?_⟩;rcases q with q | ⟨k,c',e,z'⟩
    ·exact .inl q
    ·refine .inr ⟨k,c',e,z'.sameBut hs ?_⟩
     rintro rfl
     exact hj (DL hN e1 (I.ok.inj _ _ _ e hc ▸ hi))
  ·by_cases hcc:c'=c
   ·subst hcc; exact ⟨_,hc'⟩
   ·obtain ⟨w2,z2⟩:=I.cell y c' e;exact ⟨w2,z2.sameBut hs hcc⟩
  ·obtain ⟨e,n,ne,nf,d⟩:=I.pin p hp;refine ⟨(hs.2 p.1 ?_).trans e,n,ne,nf,d⟩;intro q;rw [q,hoc] at e;have q':oc=p.2:=Option.some.inj e;exact d w' (by rw [← q']; exact hocd)
theorem vK {M:Model} {A:Around} {E:Value→Shared→Prop} {i:Nat} {x:Str} {v:V} {u:Value} {Q:Unit→Shared→Prop} (I:Inv X pins σ H s) (hN:X.N.Nodup) (hi:X.N[i]?=some x) (hx:rQ X.env.scope x) (r:a7 v u)
  (h:∀ s',Inv X pins (σ.set i (some v)) H s'→Q () s') (hf:X.fn x=true∨X.env.scope.names.lookup x=some .local:=by first | exact .inl rfl | exact .inr rfl | assumption):wpAny M A (storeName X.env x u) Q E s :=
 sW I hN hi hx r (fun s' I' _=>h s' I') hf
theorem Inv.call' {s':Shared} {ch:List Addr} (I:Inv X pins σ H s) (ho:s'.os=s.os) (u:Un (fU X.stack) ch H H' s.heap s'.heap) (hok:eD X.prog X.w H' s'.heap) (hg:AllBare s'.gens)
  (hch:∀ b∈ch,(b∈X.ex∨X.s₀.heap.get? b=none)∧b≠X.env.locals∧(∀ x c,X.env.cells.lookup x=some c→c≠b)∧∀ p∈X.pn ++ pins,p.1≠b):Inv X pins σ H' s':=by
 obtain ⟨h',g',d',t',o'⟩:=s';have e:o'=s.os:=ho;subst e;exact I.call (g':=g') (t':=t') (d':=d') u hok hg hch
end
abbrev XK:=Value→Option Addr→Hp→Prop
abbrev St:=List (Option V)
abbrev VK:=V→Hp→Prop
abbrev TE:=St→Hp→VK→Prop
abbrev TT:=St→Hp→(Bool→Hp→Prop)→Prop
abbrev TA:=St→Hp→(List V→Hp→Prop)→Prop
structure Ends where
 nx:St→Hp→Prop
 rt:VK
 bk:St→Hp→Prop:=fun _ _=>False
 ct:St→Hp→Prop:=fun _ _=>False
abbrev TS:=Ends→St→Hp→Prop
def EP (X:Cx) (pins:List (Addr × Obj)) (σ:St) (Q:VK) (u:Value) (s':Shared):Prop:=∃ v H',Inv X pins σ H' s'∧a7 v u∧Q v H'
def TP (X:Cx) (pins:List (Addr × Obj)) (σ:St) (Q:Bool→Hp→Prop) (b:Bool) (s':Shared):Prop:=∃ H',Inv X pins σ H' s'∧Q b H'
def AP (X:Cx) (pins:List (Addr × Obj)) (σ:St) (Q:List V→Hp→Prop) (us:List Value) (s':Shared):Prop:=∃ vs H',Inv X pins σ H' s'∧aU vs us∧Q vs H'
def SP (X:Cx) (pins:List (Addr × Obj)) (D:Ends) (f:Flow) (s':Shared):Prop :=
 match f with
 | .next=>∃ σ' H',Inv X pins σ' H' s'∧D.nx σ' H'
 | .brk=>∃ σ' H',Inv X pins σ' H' s'∧D.bk σ' H'
 | .cont=>∃ σ' H',Inv X pins σ' H' s'∧D.ct σ' H'
 | .ret u=>∃ v σ' H',Inv X pins σ' H' s'∧a7 v u∧D.rt v H'
def PE (X:Cx) (e:Expr) (t:TE):Prop :=
 ∀ (pins:List (Addr × Obj)) (s:Shared) (σ:St) (H:Hp) (Q:VK),Inv X pins σ H s→t σ H Q→wpAny (model X.prog X.w) X.A (eval e X.env) (EP X pins σ Q) X.xe s
def PT (X:Cx) (e:Expr) (t:TT):Prop :=
 ∀ (pins:List (Addr × Obj)) (s:Shared) (σ:St) (H:Hp) (Q:Bool→Hp→Prop),Inv X pins σ H s→t σ H Q→wpAny (model X.prog X.w) X.A (isTrue e X.env (eval e X.env)) (TP X pins σ Q) X.xe s
def PW (X:Cx) (e:Expr) (t:TT):Prop :=
 ∀ (whole:Sem Value) (pins:List (Addr × Obj)) (s:Shared) (σ:St) (H:Hp) (Q:Bool→Hp→Prop),Inv X pins σ H s→t σ H Q→wpAny (model X.prog X.w) X.A (isTrue e X.env whole) (TP X pins σ Q) X.xe s
theorem PW.pt {X:Cx} {e:Expr} {t:TT} (h:PW X e t):PT X e t:=h _
def PA (X:Cx) (es:List Expr) (t:TA):Prop :=
 ∀ (pos:Pos) (pins:List (Addr × Obj)) (s:Shared) (σ:St) (H:Hp) (Q:List V→Hp→Prop),Inv X pins σ H s→t σ H Q→wpAny (model X.prog X.w) X.A (spliced (backTo pos (starEach es X.env))) (AP X pins σ Q) X.xe s
def PS (X:Cx) (st:Stmt) (t:TS):Prop :=
 ∀ (pins:List (Addr × Obj)) (s:Shared) (σ:St) (H:Hp) (D:Ends),Inv X pins σ H s→t D σ H→wpAny (model X.prog X.w) X.A (exec st X.env) (SP X pins D) X.xe s
def fE (X:Cx) (st:List Stmt) (t:TS):Prop :=
 ∀ (pins:List (Addr × Obj)) (s:Shared) (σ:St) (H:Hp) (D:Ends),Inv X pins σ H s→t D σ H→wpAny (model X.prog X.w) X.A (execs st X.env) (SP X pins D) X.xe s
theorem a6 {α:Type} {t:Sem α} {Q Q':α→Shared→Prop} {M:Model} {A:Around} {E:Value→Shared→Prop} {s:Shared} (h:wpAny M A t Q E s) (hQ:∀ a s,Q a s→Q' a s):wpAny M A t Q' E s:=wpAny_mono h hQ fun _ _ x=>x
section
variable {X:Cx}
theorem bin {a b:Expr} {ta tb:TE} (ha:PE X a ta) (hb:PE X b tb) {pins:List (Addr × Obj)} {s:Shared} {σ:St} {H:Hp} {R:V→V→Hp→Prop} (I:Inv X pins σ H s) (h:ta σ H fun x H1=>tb σ H1 fun y H2=>R x y H2)
  {α:Type} {Q:α→Shared→Prop} {f:Value→Value→Sem α}
  (hf:∀ v u s2 x y H2,Inv X pins σ H2 s2→a7 x v→a7 y u→R x y H2→wpAny (model X.prog X.w) X.A (f v u) Q X.xe s2) :
  wpAny (model X.prog X.w) X.A (eval a X.env) (fun v s₁=>wpAny (model X.prog X.w) X.A (eval b X.env) (fun u s₂=>wpAny (model X.prog X.w) X.A (f v u) Q X.xe s₂) X.xe s₁) X.xe s:=by
 refine a6 (ha pins s σ H _ I h) fun v s1 ⟨x,H1,I1,r1,q1⟩=>?_
 refine a6 (hb pins s1 σ H1 _ I1 q1) fun u s2 ⟨y,H2,I2,r2,q2⟩=>?_
 exact hf v u s2 x y H2 I2 r1 r2 q2
noncomputable def r6 (i:Nat):TE:=fun σ H Q=>∃ v,σ[i]?=some (some v)∧Q v H
noncomputable def tC (v:V):TE:=fun _ H Q=>Q v H
theorem DX {i:Nat} {x:Str} {pos:Pos} (hN:X.N[i]?=some x) (hv:GU X.env.scope x) (hd:(x == ("__debug__":Str))=false:=by decide) (hcd:(x == ("__classdict__":Str))=false:=by decide):PE X (.Name x pos) (r6 i):=by
 intro pins s σ H Q I h;obtain ⟨v,e,h⟩:=h;obtain ⟨m,hn,hl⟩:=I.loc;obtain ⟨u,r,l⟩:=hl i x v hN e hv;have fin:EP X pins σ Q u s:=⟨v,H,I,r,h⟩
 rcases l with ⟨hk,hm⟩ | ⟨hk,c,hc,hcell⟩
 ·exact wpAny_Name (wpAny_loadName_local I.ok.kind hk hn hm fin) hd
 ·rcases hk with hk | hk
  ·exact wpAny_Name (wpAny_loadName_cell I.ok.kind hk hc hcell fin) hd
  ·exact wpAny_Name (wpAny_loadName_free I.ok.kind hk hc hcell fin hcd) hd
theorem KL {i j pos}:PE X (.Constant (.int i) j pos) (tC (.int i)):=fun _ _ _ H _ I h=>wpAny_Constant_int ⟨.int i,H,I.tok _,⟨_,rfl⟩,h⟩
theorem aB6 {b j pos}:PE X (.Constant (.bool b) j pos) (tC (.bl b)):=fun _ _ _ H _ I h=>Constant_bool ⟨.bl b,H,I,rfl,h⟩
theorem MG {j pos}:PE X (.Constant .none j pos) (tC .non):=fun _ _ _ H _ I h=>Constant_none ⟨.non,H,I,rfl,h⟩
theorem aBG {x j pos}:PE X (.Constant (.str x) j pos) (tC (.str x)):=fun _ _ _ H _ I h=>Calls.Constant_str ⟨.str x,H,I.tok _,⟨_,rfl⟩,h⟩
def Gl (X:Cx) (x:Str):Prop:=X.env.kindOf x=some .globalImplicit
theorem lZ {E:Value→Shared→Prop} {pins:List (Addr × Obj)} {s:Shared} {σ:St} {H:Hp} {x:Str} {u:Value} {pos:Pos} {Q:Value→Shared→Prop} (I:Inv X pins σ H s) (hg:Gl X x) (hm:X.mg x=some u) (h:Q u s)
  (hd:(x == ("__debug__":Str))=false:=by decide):wpAny (model X.prog X.w) X.A (eval (.Name x pos) X.env) Q E s :=
 Calls.Name_function_global I.ok.kind hg (Calls.loadGlobal_global (by rw [I.ok.glob]; exact I.mod.glob.keeps I.bk) hm h) hd
theorem mI {E:Value→Shared→Prop} {pins:List (Addr × Obj)} {s:Shared} {σ:St} {H:Hp} {x:Str} {u:Value} {pos:Pos} {Q:Value→Shared→Prop} (I:Inv X pins σ H s) (hg:Gl X x) (hm:X.mg x=none) (hv:bootBuiltins x=some u) (h:Q u s)
  (hn:x≠"__name__":=by decide) (hd:(x == ("__debug__":Str))=false:=by decide):wpAny (model X.prog X.w) X.A (eval (.Name x pos) X.env) Q E s:=by
 obtain ⟨mb,h1,h2⟩:=I.mod.blt;exact Calls.Name_function_global I.ok.kind hg (Calls.loadGlobal_builtin (by rw [I.ok.glob]; exact I.mod.glob.keeps I.bk) hm (by rw [I.ok.blt]; exact h1.keeps I.bk) ((h2 x hn).trans hv) h) hd
theorem UC {x:Str} {v:V} {u:Value} {pos:Pos} (hg:Gl X x) (hm:X.mg x=some u) (r:a7 v u) (hd:(x == ("__debug__":Str))=false:=by decide):PE X (.Name x pos) (tC v) :=
 fun _ _ _ H _ I h=>lZ I hg hm ⟨v,H,I,r,h⟩ hd
theorem l4 {x:Str} {v:V} {u:Value} {pos:Pos} (hg:Gl X x) (hm:X.mg x=none) (hv:bootBuiltins x=some u) (r:a7 v u) (hn:x≠"__name__":=by decide) (hd:(x == ("__debug__":Str))=false:=by decide):PE X (.Name x pos) (tC v) :=
 fun _ _ _ H _ I h=>mI I hg hm hv ⟨v,H,I,r,h⟩ hn hd
variable {a b:Expr} {ta tb:TE} {pos:Pos}
variable {tA tB':TT} {d9:List Expr}
noncomputable def Y2 (t u:TT):TT:=fun σ H Q=>t σ H fun c H1=>if c=true then u σ H1 Q else Q false H1
noncomputable def tOr (t u:TT):TT:=fun σ H Q=>t σ H fun c H1=>if c=true then Q true H1 else u σ H1 Q
noncomputable def aEs (t:TT):TT:=fun σ H Q=>t σ H fun c H1=>Q (!c) H1
theorem VA (ha:PT X a tA):PW X (.BoolOp .And [a] pos) tA:=by
 intro wh pins s σ H Q I h;refine isTrue_and (a6 (ha pins s σ H Q I h) fun c s1 e=>?_)
 cases c with
 | true=>exact isTrue_and_nil e
 | false=>exact e
theorem aBV (ha:PT X a tA):PW X (.BoolOp .Or [a] pos) tA:=by
 intro wh pins s σ H Q I h;refine isTrue_or (a6 (ha pins s σ H Q I h) fun c s1 e=>?_)
 cases c with
 | false=>exact isTrue_or_nil e
 | true=>exact e
theorem XT (ha:PT X a tA) (hb:PW X (.BoolOp .And (b :: d9) pos) tB'):PW X (.BoolOp .And (a :: b :: d9) pos) (Y2 tA tB'):=by
 intro wh pins s σ H Q I h;refine isTrue_and (a6 (ha pins s σ H _ I h) fun c s1 ⟨H1,I1,q1⟩=>?_)
 cases c with
 | true=>exact hb wh pins s1 σ H1 Q I1 q1
 | false=>exact ⟨H1,I1,q1⟩
theorem aCl (ha:PT X a tA) (hb:PW X (.BoolOp .Or (b :: d9) pos) tB'):PW X (.BoolOp .Or (a :: b :: d9) pos) (tOr tA tB'):=by
 intro wh pins s σ H Q I h;refine isTrue_or (a6 (ha pins s σ H _ I h) fun c s1 ⟨H1,I1,q1⟩=>?_)
 cases c with
 | true=>exact ⟨H1,I1,q1⟩
 | false=>exact hb wh pins s1 σ H1 Q I1 q1
theorem Z7 (ha:PT X a tA):PT X (.UnaryOp .Not a pos) (aEs tA):=by
 intro pins s σ H Q I h;exact isTrue_not (ha pins s σ H (fun c H1=>Q (!c) H1) I h)
noncomputable def RF (ta tb:TE):TE:=fun σ H Q=>ta σ H fun x H1=>∃ c,x=.bl c∧if c=true then tb σ H1 Q else Q (.bl false) H1
noncomputable def aAr (ta tb:TE):TE:=fun σ H Q=>ta σ H fun x H1=>∃ c,x=.bl c∧if c=true then Q (.bl true) H1 else tb σ H1 Q
theorem LJ {op} {t:TE} (h:PE X a t):PE X (.BoolOp op [a] pos) t:=fun pins s σ H Q I hw=>BoolOp_one (h pins s σ H Q I hw)
theorem aAC (ha:PE X a ta) (hb:PE X (.BoolOp .And (b :: d9) pos) tb):PE X (.BoolOp .And (a :: b :: d9) pos) (RF ta tb):=by
 intro pins s σ H Q I h;refine BoolOp_and (a6 (ha pins s σ H _ I h) fun v s1 ⟨x,H1,I1,r1,q1⟩=>?_);obtain ⟨c,rfl,q1⟩:=q1;cases r1;refine wpAny_truthy_bool ?_
 cases c with
 | true=>exact hb pins s1 σ H1 Q I1 q1
 | false=>exact ⟨.bl false,H1,I1,rfl,q1⟩
theorem BJ (ha:PE X a ta) (hb:PE X (.BoolOp .Or (b :: d9) pos) tb):PE X (.BoolOp .Or (a :: b :: d9) pos) (aAr ta tb):=by
 intro pins s σ H Q I h;refine BoolOp_or (a6 (ha pins s σ H _ I h) fun v s1 ⟨x,H1,I1,r1,q1⟩=>?_);obtain ⟨c,rfl,q1⟩:=q1;cases r1;refine wpAny_truthy_bool ?_
 cases c with
 | false=>exact hb pins s1 σ H1 Q I1 q1
 | true=>exact ⟨.bl true,H1,I1,rfl,q1⟩
end
def cB (K:PySem.W.Frag) (H:Hp) (a:Addr) (xs:List V):Prop :=
 Rd H a (.lst xs) ∨
  ∃ (o:Obj) (its:Array Value) (n:Nat),K.lookup a=some o∧o.cls=.type "list"∧o.dict=none∧o.data=.seq its n∧its.size≤sizeLine∧aU xs its.toList
def d6 (K:PySem.W.Frag) (H:Hp) (a:Addr) (xs:List V):Prop :=
 Rd H a (.tup xs) ∨
  ∃ (o:Obj) (its:Array Value) (n:Nat),K.lookup a=some o∧o.cls=.type "tuple"∧o.data=.seq its n∧its.size≤sizeLine∧aU xs its.toList
noncomputable def aEF:Value→Option V
 | .none=>some .non
 | .bool b=>some (.bl b)
 | .int i _=>some (.int i)
 | .str x _=>some (.str x)
 | .bytes b _=>some (.byt b)
 | .float b _=>some (.flt b)
 | .ref a=>some (.ref a)
 | .type n=>some (.ty n)
 | _=>none
theorem a7.abs {x:V} {u:Value} (r:a7 x u):aEF u=some x:=by
 cases x with
 | non=>cases r; rfl
 | bl _=>cases r; rfl
 | int _=>obtain ⟨t,rfl⟩:=r; rfl
 | str _=>obtain ⟨t,rfl⟩:=r; rfl
 | byt _=>obtain ⟨t,rfl⟩:=r; rfl
 | flt _=>obtain ⟨t,rfl⟩:=r; rfl
 | ref _=>cases r; rfl
 | ty _=>cases r; rfl
theorem a7.inj {x y:V} {u:Value} (r:a7 x u) (q:a7 y u):x=y:=Option.some.inj (r.abs.symm.trans q.abs)
theorem aU.inj:∀ {xs ys:List V} {us:List Value},aU xs us→aU ys us→xs=ys
 | _,_,_,.nil,.nil=>rfl
 | _,_,_,.cons r t,.cons r' t'=>by rw [r.inj r',aU.inj t t']
section
variable {X:Cx} {pins:List (Addr × Obj)} {σ:St} {H:Hp} {s:Shared} {a:Addr} {xs ys:List V}
theorem cB.of {K:PySem.W.Frag} (h:H a=some (.lst xs)):cB K H a xs:=.inl (.inl h)
theorem d6.of {K:PySem.W.Frag} (h:H a=some (.tup xs)):d6 K H a xs:=.inl (.inl h)
theorem Inv.list (I:Inv X pins σ H s) (h:cB X.K H a xs):∃ its:List Value,aU xs its∧PlainL s.heap a its.toArray∧xs.length≤sizeLine:=by
 rcases h with h | ⟨o,its,n,hk,hc,hd,hs,hz,r⟩
 ·obtain ⟨z,its,n,r,e⟩:=h.ok I.hok;exact ⟨its,r,⟨_,n,e,rfl,rfl,rfl⟩,z⟩
 ·refine ⟨its.toList,r,⟨o,n,I.kIn a o hk,hc,hd,by simpa using hs⟩, ?_⟩;have e:=r.length;simp only [Array.length_toList] at e;omega
theorem Inv.tuple (I:Inv X pins σ H s) (h:d6 X.K H a xs):∃ its:List Value,aU xs its∧IsTup s.heap a its.toArray∧xs.length≤sizeLine:=by
 rcases h with h | ⟨o,its,n,hk,hc,hs,hz,r⟩
 ·obtain ⟨z,its,r,p⟩:=h.ok I.hok;exact ⟨its,r,p,z⟩
 ·refine ⟨its.toList,r,⟨o,I.kIn a o hk,hc,n,by simpa using hs⟩, ?_⟩;have e:=r.length;simp only [Array.length_toList] at e;omega
theorem Inv.list_inj (I:Inv X pins σ H s) (h:cB X.K H a xs) (h':cB X.K H a ys):xs=ys:=by
 obtain ⟨its,r,⟨o,n,e,_,_,d⟩,_⟩:=I.list h;obtain ⟨its',r',⟨o',n',e',_,_,d'⟩,_⟩:=I.list h';rw [e] at e'; cases e';rw [d] at d'
 injection d' with d1 _
 have:its=its':=by simpa using congrArg Array.toList d1
 subst this;exact r.inj r'
theorem Inv.tuple_inj (I:Inv X pins σ H s) (h:d6 X.K H a xs) (h':d6 X.K H a ys):xs=ys:=by
 obtain ⟨its,r,⟨o,e,_,n,d⟩,_⟩:=I.tuple h;obtain ⟨its',r',⟨o',e',_,n',d'⟩,_⟩:=I.tuple h';rw [e] at e'; cases e';rw [d] at d'
 injection d' with d1 _
 have:its=its':=by simpa using congrArg Array.toList d1
 subst this;exact r.inj r'
end
abbrev Cx.wish (X:Cx) (E:Value→Shared→Prop):Cx:={ X with xe:=E }
abbrev Cx.nox (X:Cx):Cx:=X.wish fun _ _=>False
theorem Cx.Ok.wish {X:Cx} (ok:X.Ok) (E:Value→Shared→Prop):(X.wish E).Ok :=
 ⟨ok.mod,ok.kind,ok.glob,ok.blt,ok.above,ok.inj,ok.has,ok.cab,ok.hd,ok.frames,ok.stk,ok.exf,ok.bs,ok.bsz,ok.noex,ok.exfs,ok.funs,ok.frf⟩
theorem Cx.Ok.unwish {X:Cx} {E:Value→Shared→Prop} (ok:(X.wish E).Ok):X.Ok :=
 ⟨ok.mod,ok.kind,ok.glob,ok.blt,ok.above,ok.inj,ok.has,ok.cab,ok.hd,ok.frames,ok.stk,ok.exf,ok.bs,ok.bsz,ok.noex,ok.exfs,ok.funs,ok.frf⟩
section
variable {X:Cx} {pins:List (Addr × Obj)} {σ:St} {H:Hp} {s:Shared} {E:Value→Shared→Prop}
theorem Inv.wish (I:Inv X pins σ H s) (E:Value→Shared→Prop):Inv (X.wish E) pins σ H s:=⟨I.ok.wish E,I.os,I.bare,I.base,I.loc,I.cell,I.free,I.freeC,I.pin,I.hok,I.len⟩
theorem Inv.unwish (I:Inv (X.wish E) pins σ H s):Inv X pins σ H s:=⟨I.ok.unwish,I.os,I.bare,I.base,I.loc,I.cell,I.free,I.freeC,I.pin,I.hok,I.len⟩
theorem SP.unwish {D:Ends} {f:Flow} {s':Shared} (h:SP (X.wish E) pins D f s'):SP X pins D f s':=by
 cases f with
 | next=>obtain ⟨σ',H',I,q⟩:=h; exact ⟨σ',H',I.unwish,q⟩
 | brk=>obtain ⟨σ',H',I,q⟩:=h; exact ⟨σ',H',I.unwish,q⟩
 | cont=>obtain ⟨σ',H',I,q⟩:=h; exact ⟨σ',H',I.unwish,q⟩
 | ret u=>obtain ⟨v,σ',H',I,r,q⟩:=h; exact ⟨v,σ',H',I.unwish,r,q⟩
theorem fE.nox {st:List Stmt} {t:TS} (h:fE X.nox st t):fE X st t:=fun pins s σ H D I hw =>
 wpAny_mono (h pins s σ H D (I.wish _) hw) (fun _ _ q=>q.unwish) fun _ _ z=>False.elim z
end
section
variable {X:Cx} {st:Stmt} {d9:List Stmt} {t u:TS} {e:Expr} {te:TE} {pos:Pos}
noncomputable def IU:TS:=fun D σ H=>D.nx σ H
noncomputable def aEQ (t u:TS):TS:=fun D σ H=>t { D with nx:=u D } σ H
theorem FX:fE X [] IU:=fun _ _ σ H _ I h=>wpAny_execs_nil ⟨σ,H,I,h⟩
theorem vU (h1:PS X st t) (h2:fE X d9 u):fE X (st :: d9) (aEQ t u):=by
 intro pins s σ H D I h;refine wpAny_execs_cons (a6 (h1 pins s σ H { D with nx:=u D } I h) fun f s1 q=>?_)
 cases f with
 | next =>
  obtain ⟨σ',H',I',q⟩:=q;exact h2 pins s1 σ' H' D I' q
 | ret v=>exact q
 | brk=>exact q
 | cont=>exact q
theorem UB (h1:PS X st t):fE X [st] t:=by
 intro pins s σ H D I h;refine wpAny_execs_cons (a6 (h1 pins s σ H D I h) fun f s1 q=>?_)
 cases f with
 | next=>exact wpAny_execs_nil q
 | ret v=>exact q
 | brk=>exact q
 | cont=>exact q
noncomputable def aAU:TS:=fun D σ H=>D.bk σ H
noncomputable def aCj:TS:=fun D σ H=>D.ct σ H
theorem S3:PS X (.Pass pos) IU:=fun _ _ σ H _ I h=>wpAny_Pass ⟨σ,H,I,h⟩
theorem OZ:PS X (.Break pos) aAU:=fun _ _ σ H _ I h=>wpAny_Break ⟨σ,H,I,h⟩
theorem E1:PS X (.Continue pos) aCj:=fun _ _ σ H _ I h=>wpAny_Continue ⟨σ,H,I,h⟩
theorem Inv.quiet {pins:List (Addr × Obj)} {σ:St} {H:Hp} {s:Shared} (I:Inv X pins σ H s):interactive X.env=false:=by simp [interactive,I.ok.kind]
noncomputable def aDn (te:TE):TS:=fun D σ H=>te σ H fun _ H1=>D.nx σ H1
theorem FP (he:PE X e te) (hs:swapsWith e none pos.line X.env=pure false:=by rfl):PS X (.Expr e pos) (aDn te):=by
 intro pins s σ H D I h;exact wpAny_Expr_any (a6 (he pins s σ H _ I h) fun v s1 ⟨x,H1,I1,r1,q1⟩=>⟨σ,H1,I1,q1⟩) I.quiet hs
noncomputable def aEZ (te:TE):TS:=fun D σ H=>te σ H D.rt
theorem x8 (he:PE X e te):PS X (.Return (some e) pos) (aEZ te):=by
 intro pins s σ H D I h;exact wpAny_Return_some (a6 (he pins s σ H _ I h) fun v s1 ⟨x,H1,I1,r1,q1⟩=>⟨x,σ,H1,I1,r1,q1⟩)
noncomputable def aCB:TS:=fun D _ H=>D.rt .non H
theorem UJ:PS X (.Return none pos) aCB:=fun _ _ σ H _ I h=>wpAny_Return_none ⟨.non,σ,H,I,rfl,h⟩
noncomputable def aFe (c:TT) (t u:TS):TS:=fun D σ H=>c σ H fun b H1=>if b=true then t D σ H1 else u D σ H1
theorem RC {c:Expr} {a b:List Stmt} {tc:TT} (hc:PT X c tc) (ha:fE X a t) (hb:fE X b u):PS X (.If c a b pos) (aFe tc t u):=by
 intro pins s σ H D I h;refine wpAny_If (a6 (hc pins s σ H _ I h) fun d s1 ⟨H1,I1,q1⟩=>?_)
 cases d with
 | true=>exact ha pins s1 σ H1 D I1 q1
 | false=>exact hb pins s1 σ H1 D I1 q1
end
abbrev TG:=V→St→Hp→(St→Hp→Prop)→Prop
abbrev zX:=List V→St→Hp→(St→Hp→Prop)→Prop
def PG (X:Cx) (target:Expr) (t:TG):Prop :=
 ∀ (pins:List (Addr × Obj)) (s:Shared) (σ:St) (H:Hp) (v:V) (u:Value) (Q:St→Hp→Prop),Inv X pins σ H s→a7 v u→t v σ H Q →
  wpAny (model X.prog X.w) X.A (assign target X.env u) (fun _ s'=>∃ σ' H',Inv X pins σ' H' s'∧Q σ' H') X.xe s
def xJ (X:Cx) (ts:List Expr) (t:zX):Prop :=
 ∀ (pins:List (Addr × Obj)) (s:Shared) (σ:St) (H:Hp) (vs:List V) (us:List Value) (Q:St→Hp→Prop),Inv X pins σ H s→aU vs us→t vs σ H Q →
  wpAny (model X.prog X.w) X.A (assignInOrder ((assignEach ts X.env).map (·.2)) us) (fun _ s'=>∃ σ' H',Inv X pins σ' H' s'∧Q σ' H') X.xe s
abbrev G8:=V→V→V→Hp→(Hp→Prop)→Prop
def P1 (X:Cx) (t:G8):Prop :=
 ∀ (pins:List (Addr × Obj)) (s:Shared) (σ:St) (H:Hp) (o i v:V) (ov iv u:Value) (Q:Hp→Prop),Inv X pins σ H s→a7 o ov→a7 i iv→a7 v u→t o i v H Q →
  wpAny (model X.prog X.w) X.A (setItem ov iv u) (fun _ s'=>∃ H',Inv X pins σ H' s'∧Q H') X.xe s
abbrev RI:=V→V→Hp→VK→Prop
def PIp (X:Cx) (op:Operator) (t:RI):Prop :=
 ∀ (pins:List (Addr × Obj)) (s:Shared) (σ:St) (H:Hp) (x y:V) (v u:Value) (Q:VK),Inv X pins σ H s→a7 x v→a7 y u→t x y H Q →
  wpAny (model X.prog X.w) X.A (inplaceOp op v u) (EP X pins σ Q) X.xe s
section
variable {X:Cx} {pos:Pos}
noncomputable def lN (i:Nat):TG:=fun v σ H Q=>Q (σ.set i (some v)) H
theorem yT {i:Nat} {x:Str} (hN:X.N.Nodup) (hi:X.N[i]?=some x) (hx:rQ X.env.scope x) (hf:X.fn x=true∨X.env.scope.names.lookup x=some .local:=by first | exact .inl rfl | exact .inr rfl | assumption):PG X (.Name x pos) (lN i):=by
 intro pins s σ H v u Q I r h;exact wpAny_assign_Name (vK I hN hi hx r (fun s' I'=>⟨_,H,I',h⟩) hf)
noncomputable def aEN:zX:=fun vs σ H Q=>vs=[]∧Q σ H
noncomputable def aC0 (t:TG) (u:zX):zX:=fun vs σ H Q=>∃ v r,vs=v :: r∧t v σ H fun σ' H'=>u r σ' H' Q
theorem S9:xJ X [] aEN:=by
 intro pins s σ H vs us Q I r h;obtain ⟨e,h⟩:=h;subst e;cases r;exact assignInOrder_nil ⟨σ,H,I,h⟩
theorem O6 {e:Expr} {es:List Expr} {t:TG} {u:zX} (h1:PG X e t) (h2:xJ X es u)
  (hs:(assignEach (e :: es) X.env).map (·.2)=assign e X.env :: (assignEach es X.env).map (·.2):=by rfl):xJ X (e :: es) (aC0 t u):=by
 intro pins s σ H vs us Q I r h;obtain ⟨v,vr,e1,h⟩:=h;subst e1
 cases r with
 | cons r rr =>
  rw [hs];refine assignInOrder_cons (a6 (h1 pins s σ H _ _ _ I r h) fun _ s1 ⟨σ1,H1,I1,q1⟩=>?_);exact h2 pins s1 σ1 H1 _ _ Q I1 rr q1
noncomputable def aEz (K:PySem.W.Frag) (n:Nat) (t:zX):TG:=fun v σ H Q=>∃ a xs,v=.ref a∧d6 K H a xs∧xs.length=n∧t xs σ H Q
theorem aBn {es:List Expr} {k:Nat} {t:zX} {n:Nat} (hc:X.calm=true) (h:xJ X es t)
  (hn:(assignEach es X.env).length=n:=by rfl) (hst:(assignEach es X.env).findIdx? (·.1)=none:=by rfl):PG X (.Tuple es k pos) (aEz X.K n t):=by
 intro pins s σ H v u Q I r hw;obtain ⟨a,xs,e1,hq,hl,hw⟩:=hw;subst e1;cases r;obtain ⟨its,rv,ht,hz⟩:=I.tuple hq;refine assign_Tuple_tuple (I.ok.hd hc) ht (by simp [hn,← hl,rv.length]) hst fun h' hx=>?_
 have I1:Inv X pins σ H { s with heap:=h' }:=I.kept (t':=s.toks) fun b o e=>hx b o (Nat.ne_of_lt (Heap.lt_size e)) e
 exact h pins _ σ H xs _ Q I1 (by simpa using rv) hw
noncomputable def aEJ (to ti:TE) (t:G8):TG:=fun v σ H Q=>to σ H fun o H1=>ti σ H1 fun i H2=>t o i v H2 fun H3=>Q σ H3
theorem aAt {o i:Expr} {to ti:TE} {t:G8} (ho:PE X o to) (hi:PE X i ti) (hs:P1 X t)
  (ha:∀ v,assign (.Subscript o i pos) X.env v=(do
   let ov ← holding [v] (eval o X.env)
   let iv ← holding [v,ov] (eval i X.env)
   standAt pos
   holding [v,ov,iv] (setItem ov iv v)
   release [v,ov,iv] []):=by intro _; rfl):PG X (.Subscript o i pos) (aEJ to ti t):=by
 intro pins s σ H v u Q I r h;rw [ha];refine wpAny_bind (wpAny_holding (a6 (ho pins s σ H _ I h) fun ov s1 ⟨x,H1,I1,r1,q1⟩=>?_));refine wpAny_bind (wpAny_holding (a6 (hi pins s1 σ H1 _ I1 q1) fun iv s2 ⟨y,H2,I2,r2,q2⟩=>?_));refine wpAny_bind (wpAny_standAt (wpAny_bind (wpAny_holding (a6 (hs pins s2 σ H2 x y v ov iv u _ I2 r1 r2 r q2) fun _ s3 ⟨H3,I3,q3⟩=>?_))));exact wpAny_release ⟨σ,H3,I3,q3⟩
noncomputable def yY (te:TE) (g:TG):TS:=fun D σ H=>te σ H fun x H1=>g x σ H1 D.nx
theorem sC {tg e:Expr} {te:TE} {g:TG} (he:PE X e te) (hg:PG X tg g) (hs:swapsWithSole [tg] e pos.line X.env=pure false:=by rfl) (hw:swappedStores [tg] e X.env=pure none:=by rfl)
  (h1:(assignEach [tg] X.env).map (·.2)=[assign tg X.env]:=by rfl):PS X (.Assign [tg] e pos) (yY te g):=by
 intro pins s σ H D I h;refine wpAny_Assign_stores (a6 (he pins s σ H _ I h) fun v s1 ⟨x,H1,I1,r1,q1⟩=>?_) hs hw;rw [h1];exact a6 (hg pins s1 σ H1 x v _ I1 r1 q1) fun _ s2 q=>q
theorem aBI {i:Nat} {x:Str} {e:Expr} {te:TE} {pos':Pos} (hN:X.N.Nodup) (hi:X.N[i]?=some x) (hx:rQ X.env.scope x) (he:PE X e te) (hs:swapsWith e (some (.Name x pos')) pos.line X.env=pure false:=by rfl) (hf:X.fn x=true∨X.env.scope.names.lookup x=some .local:=by first | exact .inl rfl | exact .inr rfl | assumption) :
  PS X (.Assign [.Name x pos'] e pos) (yY te (lN i)):=by
 intro pins s σ H D I h;refine wpAny_Assign_Name (a6 (he pins s σ H _ I h) fun v s1 ⟨y,H1,I1,r1,q1⟩=>?_) hs;exact vK I1 hN hi hx r1 (fun s2 I2=>⟨_,H1,I2,q1⟩) hf
noncomputable def aFd (i:Nat) (te:TE) (ti:RI):TS:=fun D σ H=>∃ x,σ[i]?=some (some x)∧te σ H fun y H1=>ti x y H1 fun z H2=>D.nx (σ.set i (some z)) H2
theorem YE {i:Nat} {x:Str} {e:Expr} {te:TE} {op:Operator} {ti:RI} {pos':Pos} (hN:X.N.Nodup) (hi:X.N[i]?=some x) (hx:rQ X.env.scope x) (he:PE X e te) (ho:PIp X op ti) (hf:X.fn x=true∨X.env.scope.names.lookup x=some .local:=by first | exact .inl rfl | exact .inr rfl | assumption) :
  PS X (.AugAssign (.Name x pos') op e pos) (aFd i te ti):=by
 intro pins s σ H D I h;obtain ⟨v,e1,h⟩:=h;obtain ⟨m,hn,hl⟩:=I.loc
 have vis:GU X.env.scope x:=by rcases hx with k | k; exact .inl k; exact .inr (.inl k)
 obtain ⟨u,r,l⟩:=hl i x v hi e1 vis;refine wpAny_AugAssign_Name ?_
 have go:wpAny (model X.prog X.w) X.A (eval e X.env) (fun w s₂=>wpAny (model X.prog X.w) X.A (inplaceOp op u w) (fun r s₃=>wpAny (model X.prog X.w) X.A (storeName X.env x r) (fun _=>SP X pins D .next) X.xe s₃) X.xe s₂) X.xe s:=by
  refine a6 (he pins s σ H _ I h) fun w s1 ⟨y,H1,I1,r1,q1⟩=>?_
  refine a6 (ho pins s1 σ H1 v y u w _ I1 r r1 q1) fun z s2 ⟨zv,H2,I2,r2,q2⟩=>?_
  exact vK I2 hN hi hx r2 (fun s3 I3=>⟨_,H2,I3,q2⟩) hf
 rcases l with ⟨hk,hm⟩ | ⟨hk,c,hc,hcell⟩
 ·exact wpAny_loadName_local I.ok.kind hk hn hm go
 ·rcases hk with hk | hk
  ·exact wpAny_loadName_cell I.ok.kind hk hc hcell go
  ·rcases hx with k | k
   ·have:X.env.scope.names.lookup x=some .free:=hk
    rw [k] at this; cases this
   ·have:X.env.scope.names.lookup x=some .free:=hk
    rw [k] at this; cases this
noncomputable def ipI (f:Int→Int→Int):RI:=fun x y H Q=>∃ i j,x=.int i∧y=.int j∧Q (.int (f i j)) H
theorem aBU:PIp X .Add (ipI fun i j=>i+j):=by
 intro pins s σ H x y v u Q I r1 r2 h;obtain ⟨i,j,e1,e2,q⟩:=h;subst e1; subst e2;obtain ⟨t,rfl⟩:=r1;obtain ⟨t',rfl⟩:=r2;exact iadd_int ⟨.int _,H,I.tok _,⟨_,rfl⟩,q⟩
end
section
variable {X:Cx} {pos:Pos}
end
structure It where
 go:Nat→Hp→Prop
 yld:Nat→Hp→V→Hp→Prop
 stop:Nat→Hp→Prop
def cR (X:Cx) (pins:List (Addr × Obj)) (H:Hp) (b:Addr):Prop :=
 H b=none∧b≠X.env.locals∧b ∉ X.fs∧(b∈X.ex∨X.s₀.heap.get? b=none)∧(∀ x c,X.env.cells.lookup x=some c→c≠b)∧∀ p∈X.pn ++ pins,p.1≠b
theorem Inv.fpOk {X:Cx} {pins:List (Addr × Obj)} {σ:St} {H H':Hp} {s:Shared} {b:Addr} (I:Inv X pins σ H s) (hb:s.heap.objs.size≤b) (hn:H' b=none):cR X pins H' b:=by
 refine ⟨hn,Nat.ne_of_gt (Nat.lt_of_lt_of_le I.lt hb),I.nofs hb,.inr (Heap.get?_none_of_le (Nat.le_trans I.sz hb)),fun x c e z=>?_,fun p hp z=>?_⟩
 ·obtain ⟨v,q⟩:=I.cell x c e;exact absurd (Nat.lt_of_lt_of_le q.lt (by rw [z]; exact hb)) (Nat.lt_irrefl _)
 ·exact absurd (Nat.lt_of_lt_of_le (Heap.lt_size (I.pin p hp).1) (by rw [z]; exact hb)) (Nat.lt_irrefl _)
structure Turn (P:Program) (w:World) (K:PySem.W.Frag) (tg:Expr) (J:It) (fp:List Addr) (it:Addr) (tn:Nat→Heap→Prop):Prop where
 mem:it∈fp
 obj:∀ i h,tn i h→∀ b∈fp,∃ o,h.get? b=some o∧∀ v,o.data≠.cell v
 keep:∀ i h h',tn i h→(∀ b∈fp,∀ o,h.get? b=some o→h'.get? b=some o)→tn i h'
 item:∀ (X:Cx),X.prog=P→X.w=w→X.K=K→X.calm=true→∀ (i:Nat) (pins:List (Addr × Obj)) (s:Shared) (σ:St) (H:Hp) (E:Value→Shared→Prop),Inv X pins σ H s→(∀ b∈fp,cR X pins H b)→tn i s.heap→J.go i H →
  wpAny (model P w) X.A (pyNext (.ref it)) (fun r s1=>∃ u,r=some u ∧
   wpAny (model P w) X.A (letOwnedTupleGo tg (.ref it) u) (fun _ s2=>∃ x H',Inv X pins σ H' s2∧a7 x u∧J.yld i H x H'∧tn (i+1) s2.heap∧∀ b∈fp,H' b=none) E s1) E s
 done:∀ (X:Cx),X.prog=P→X.w=w→X.K=K→X.calm=true→∀ (i:Nat) (pins:List (Addr × Obj)) (s:Shared) (σ:St) (H:Hp) (E:Value→Shared→Prop),Inv X pins σ H s→(∀ b∈fp,cR X pins H b)→tn i s.heap→J.stop i H →
  wpAny (model P w) X.A (pyNext (.ref it)) (fun r s1=>r=none∧Inv X pins σ H s1) E s
 self:∀ (A:Around) (i:Nat) (s:Shared) (Q:Value→Shared→Prop) (E:Value→Shared→Prop),tn i s.heap→Q (.ref it) s→wpAny (model P w) A (pyIter (.ref it)) Q E s
abbrev TI:=St→Hp→(It→Hp→Prop)→Prop
def PIE (X:Cx) (pins:List (Addr × Obj)) (σ:St) (tg:Expr) (R:It→Hp→Prop) (itv:Value) (s2:Shared):Prop :=
 ∃ (it:Addr) (fp:List Addr) (tn:Nat→Heap→Prop) (J:It) (H':Hp),itv=.ref it∧Inv X pins σ H' s2∧Turn X.prog X.w X.K tg J fp it tn∧tn 0 s2.heap∧(∀ b∈fp,cR X pins H' b)∧R J H'
def PI (X:Cx) (tg iter:Expr) (wi:TI):Prop :=
 ∀ (pins:List (Addr × Obj)) (s:Shared) (σ:St) (H:Hp) (R:It→Hp→Prop),Inv X pins σ H s→wi σ H R →
  wpAny (model X.prog X.w) X.A (eval iter X.env) (fun v s1=>wpAny (model X.prog X.w) X.A (pyIter v) (PIE X pins σ tg R) X.xe s1) X.xe s
theorem HV {M:Model} {A:Around} {E:Value→Shared→Prop} {s:Shared} {tg:Expr} {it:Addr} {u:Value} {o:Obj} {n:String} {vs:Array Value} {Q:Unit→Shared→Prop} (ho:s.heap.get? it=some o) (hc:o.cls=.type n) (hd:o.data=.fields vs)
  (hn:["enumerate","zip","dict_itemiterator","dict_reverseitemiterator","odict_iterator","itertools.zip_longest","itertools.pairwise"].contains n=false) (hQ:Q () s):wpAny M A (letOwnedTupleGo tg (.ref it) u) Q E s:=by
 unfold letOwnedTupleGo
 cases tg <;> first
  | exact wpAny_pure hQ
  | (cases u <;> first
    | exact wpAny_pure hQ
    | (refine wpAny_bind (wpAny_load ho ?_)
       rw [hc,hd];show wpAny M A (if (["enumerate","zip","dict_itemiterator","dict_reverseitemiterator","odict_iterator","itertools.zip_longest","itertools.pairwise"].contains n && vs[0]? == some (rawInt _))=true then _ else _) Q E s;rw [if_neg (by intro h; rw [hn,Bool.false_and] at h; cases h)]
       exact wpAny_pure hQ))
noncomputable def qO (K:PySem.W.Frag) (a:Addr):It :=
 ⟨fun i H=>∃ xs x,cB K H a xs∧xs[i]?=some x,fun i H x H'=>H'=H∧∀ xs,cB K H a xs→xs[i]?=some x,fun i H=>∃ xs,cB K H a xs∧xs.length≤i⟩
noncomputable def rH (K:PySem.W.Frag) (a:Addr):It :=
 ⟨fun i H=>∃ xs x,d6 K H a xs∧xs[i]?=some x,fun i H x H'=>H'=H∧∀ xs,d6 K H a xs→xs[i]?=some x,fun i H=>∃ xs,d6 K H a xs∧xs.length≤i⟩
noncomputable def nE (lo:Int) (n:Nat):It:=⟨fun i _=>i<n,fun i H x H'=>H'=H∧x=.int (lo+i),fun i _=>n≤i⟩
theorem KG {P:Program} {w:World} {K:PySem.W.Frag} {tg:Expr} (a it:Addr):Turn P w K tg (qO K a) [it] it (fun i h=>h.IsListIter it a i) where
 mem:=by simp
 obj:=fun i h st b hb=>by
  have e:b=it:=by simpa using hb
  subst e;obtain ⟨o,e,c,d⟩:=st;exact ⟨o,e,fun v z=>by rw [d] at z; cases z⟩
 keep:=fun i h h' st k=>st.at fun o e=>k it (by simp) o e
 item:=by
  intro X hP hw hK hc i pins s σ H E I hf st hg;subst hP hw hK;obtain ⟨xs,x,hq,hx⟩:=hg;obtain ⟨its,rv,p,hz⟩:=I.list hq;obtain ⟨u,hu,ru⟩:=rv.get hx;obtain ⟨f0,f1,f2,f3,f4,f5⟩:=hf it (by simp);refine wpAny_pyNext_list_item st p.isList (x:=u) (by simpa using hu) fun h' st' sb=>?_
  have I1:Inv X pins σ H { s with heap:=h' }:=I.turned (t':=s.toks) (fun b o hb e=>(sb.2 b hb).trans e) f0 f1 f3 f4 f5;obtain ⟨o,e,c,d⟩:=id st';exact ⟨u,rfl,HV (s:={ s with heap:=h' }) e c d (by decide) ⟨x,H,I1,ru,⟨rfl,fun ys hy=>by rw [I.list_inj hy hq]; exact hx⟩,st',fun b hb=>(hf b hb).1⟩⟩
 done:=by
  intro X hP hw hK hc i pins s σ H E I hf st hg;subst hP hw hK;obtain ⟨xs,hq,hx⟩:=hg;obtain ⟨its,rv,p,hz⟩:=I.list hq;obtain ⟨f0,f1,f2,f3,f4,f5⟩:=hf it (by simp);have hl:=rv.length;exact wpAny_pyNext_list_end (I.ok.hd hc) st p.isList (by simp; omega) fun h' eb=>⟨rfl,I.turned (t':=s.toks) (fun b o hb e=>eb b o hb e) f0 f1 f3 f4 f5⟩
 self:=fun _ _ _ _ _ st h=>wpAny_pyIter_listiter st h
theorem JT {P:Program} {w:World} {K:PySem.W.Frag} {tg:Expr} (a it:Addr):Turn P w K tg (rH K a) [it] it (fun i h=>h.IsTupleIter it a i) where
 mem:=by simp
 obj:=fun i h st b hb=>by
  have e:b=it:=by simpa using hb
  subst e;obtain ⟨o,e,c,d⟩:=st;exact ⟨o,e,fun v z=>by rw [d] at z; cases z⟩
 keep:=fun i h h' st k=>st.at fun o e=>k it (by simp) o e
 item:=by
  intro X hP hw hK hc i pins s σ H E I hf st hg;subst hP hw hK;obtain ⟨xs,x,hq,hx⟩:=hg;obtain ⟨its,rv,p,hz⟩:=I.tuple hq;obtain ⟨u,hu,ru⟩:=rv.get hx;obtain ⟨f0,f1,f2,f3,f4,f5⟩:=hf it (by simp);refine wpAny_pyNext_tuple_item st (show s.heap.IsTuple a its.toArray from p) (x:=u) (by simpa using hu) fun h' st' sb=>?_
  have I1:Inv X pins σ H { s with heap:=h' }:=I.turned (t':=s.toks) (fun b o hb e=>(sb.2 b hb).trans e) f0 f1 f3 f4 f5;obtain ⟨o,e,c,d⟩:=id st';exact ⟨u,rfl,HV (s:={ s with heap:=h' }) e c d (by decide) ⟨x,H,I1,ru,⟨rfl,fun ys hy=>by rw [I.tuple_inj hy hq]; exact hx⟩,st',fun b hb=>(hf b hb).1⟩⟩
 done:=by
  intro X hP hw hK hc i pins s σ H E I hf st hg;subst hP hw hK;obtain ⟨xs,hq,hx⟩:=hg;obtain ⟨its,rv,p,hz⟩:=I.tuple hq;obtain ⟨f0,f1,f2,f3,f4,f5⟩:=hf it (by simp);have hl:=rv.length;exact wpAny_pyNext_tuple_end (I.ok.hd hc) st (show s.heap.IsTuple a its.toArray from p) (by simp; omega) fun h' eb=>⟨rfl,I.turned (t':=s.toks) (fun b o hb e=>eb b o hb e) f0 f1 f3 f4 f5⟩
 self:=fun _ _ _ _ _ st h=>wpAny_pyIter_tupleiter st h
theorem HN {P:Program} {w:World} {K:PySem.W.Frag} {tg:Expr} (it:Addr) (lo:Int) (n:Nat):Turn P w K tg (nE lo n) [it] it (fun i h=>IsRangeIter h it (lo+(i:Nat)*1) ((n:Int) - (i:Nat)) 1) where
 mem:=by simp
 obj:=fun i h st b hb=>by
  have e:b=it:=by simpa using hb
  subst e
  exact ⟨_,st,fun v z=>by
   have z':Data.fields _=Data.cell v:=z
   cases z'⟩
 keep:=fun i h h' st k=>k it (by simp) _ st
 item:=by
  intro X hP hw hK hc i pins s σ H E I hf st hg;subst hP hw hK;obtain ⟨f0,f1,f2,f3,f4,f5⟩:=hf it (by simp);have W:=Walks.range (prog:=X.prog) (w:=X.w) (I.ok.hd hc) it lo 1 n;refine W.item i s _ _ hg st fun v h' tk hv st' kk=>?_
  obtain ⟨t,rfl⟩:=hv;have I1:Inv X pins σ H { s with heap:=h',toks:=tk }:=I.turned (fun b o hb e=>kk b o (by simpa using hb) e) f0 f1 f3 f4 f5;refine ⟨_,rfl,HV (s:={ s with heap:=h',toks:=tk }) (n:="range_iterator") st' rfl rfl (by decide) ⟨.int (lo+i),H,I1,⟨t, ?_⟩,⟨rfl,rfl⟩,st',fun b hb=>(hf b hb).1⟩⟩;rw [Int.mul_one]
 done:=by
  intro X hP hw hK hc i pins s σ H E I hf st hg;subst hP hw hK;obtain ⟨f0,f1,f2,f3,f4,f5⟩:=hf it (by simp);exact wpAny_pyNext_range_end (I.ok.hd hc) st (by have:n≤i:=hg; omega) fun h' eb=>⟨rfl,I.turned (t':=s.toks) (fun b o hb e=>eb b o hb e) f0 f1 f3 f4 f5⟩
 self:=fun _ _ _ _ _ st h=>wpAny_pyIter_rangeiter st h
section
variable {X:Cx} {tg:Expr}
noncomputable def Q6 (K:PySem.W.Frag) (tl:TE):TI:=fun σ H R=>tl σ H fun x H1=>∃ a,x=.ref a∧(∃ xs,cB K H1 a xs)∧R (qO K a) H1
noncomputable def aBc (K:PySem.W.Frag) (tl:TE):TI:=fun σ H R=>tl σ H fun x H1=>∃ a,x=.ref a∧(∃ xs,d6 K H1 a xs)∧R (rH K a) H1
theorem GJ {l:Expr} {tl:TE} (hl:PE X l tl):PI X tg l (Q6 X.K tl):=by
 intro pins s σ H R I h;refine a6 (hl pins s σ H _ I h) fun v s1 ⟨x,H1,I1,r1,q1⟩=>?_
 obtain ⟨a,e,⟨xs,hq⟩,q⟩:=q1;subst e;cases r1;obtain ⟨its,rv,p,hz⟩:=I1.list hq;refine wpAny_pyIter_list p.isList ?_;refine ⟨s1.heap.objs.size,[s1.heap.objs.size],_,_,H1,rfl,I1.kept (t':=s1.toks) fun b o e=>Heap.get?_push_of_some _ e,KG a _,⟨_,Heap.get?_push_size _ rfl,rfl,rfl⟩,fun b hb=>?_,q⟩;have e:b=s1.heap.objs.size:=by simpa using hb
 subst e;exact I1.fpOk (Nat.le_refl _) (I1.hok.fresh (Nat.le_refl _))
theorem J3 {l:Expr} {tl:TE} (hl:PE X l tl):PI X tg l (aBc X.K tl):=by
 intro pins s σ H R I h;refine a6 (hl pins s σ H _ I h) fun v s1 ⟨x,H1,I1,r1,q1⟩=>?_
 obtain ⟨a,e,⟨xs,hq⟩,q⟩:=q1;subst e;cases r1;obtain ⟨its,rv,p,hz⟩:=I1.tuple hq;refine wpAny_pyIter_tuple (show s1.heap.IsTuple a its.toArray from p) ?_;refine ⟨s1.heap.objs.size,[s1.heap.objs.size],_,_,H1,rfl,I1.kept (t':=s1.toks) fun b o e=>Heap.get?_push_of_some _ e,JT a _,⟨_,Heap.get?_push_size _ rfl,rfl,rfl⟩,fun b hb=>?_,q⟩;have e:b=s1.heap.objs.size:=by simpa using hb
 subst e;exact I1.fpOk (Nat.le_refl _) (I1.hok.fresh (Nat.le_refl _))
theorem DP {pins:List (Addr × Obj)} {σ:St} {H:Hp} {s:Shared} {R:It→Hp→Prop} {E:Value→Shared→Prop} {lo hi:Int} {t u v:Tok} {tk:Nat} (I:Inv X pins σ H s) (h1:-(2 ^ 62)≤lo) (h2:lo<2 ^ 62) (h3:-(2 ^ 62)≤hi) (h4:hi<2 ^ 62)
  (q:R (nE lo (hi - lo).toNat) H):wpAny (model X.prog X.w) X.A (pyIter (.ref s.heap.objs.size)) (PIE X pins σ tg R) E { s with heap:=s.heap.push { cls:=.type "range",data:=.fields #[.int lo t,.int hi u,.int 1 v] },toks:=tk }:=by
 refine wpAny_pyIter_range (IsRange.new ..) (small_one h1 h2 h3 h4) ?_;have I1:Inv X pins σ H { s with heap:=s.heap.push { cls:=.type "range",data:=.fields #[.int lo t,.int hi u,.int 1 v] },toks:=tk }:=I.kept fun b o e=>Heap.get?_push_of_some _ e
 refine ⟨(s.heap.push { cls:=.type "range",data:=.fields #[.int lo t,.int hi u,.int 1 v] }).objs.size,[(s.heap.push { cls:=.type "range",data:=.fields #[.int lo t,.int hi u,.int 1 v] }).objs.size],_,_,H,rfl,
  I1.kept (t':=tk) fun b o e=>Heap.get?_push_of_some _ e,HN _ lo (hi - lo).toNat, ?_,fun b hb=>?_,q⟩
 ·have e1:lo+((0:Nat):Int)*1=lo:=by simp
  have e2:(((hi - lo).toNat:Nat):Int) - ((0:Nat):Int)=Builtin.Range.rangeSize lo hi 1:=by rw [rangeSize_one]; split <;> omega
  show IsRangeIter _ _ (lo+((0:Nat):Int)*1) ((((hi - lo).toNat:Nat):Int) - ((0:Nat):Int)) 1;rw [e1,e2];exact Heap.get?_push_size _ rfl
 ·have e:b=(s.heap.push { cls:=.type "range",data:=.fields #[.int lo t,.int hi u,.int 1 v] }).objs.size:=by simpa using hb
  subst e;exact I1.fpOk (Nat.le_refl _) (I1.hok.fresh (Nat.le_refl _))
noncomputable def R9 (ta:TA):TI:=fun σ H R=>ta σ H fun vs H1=>∃ j:Int,vs=[.int j]∧-(2 ^ 62)≤j∧j<2 ^ 62∧R (nE 0 j.toNat) H1
noncomputable def Q3 (ta:TA):TI:=fun σ H R=>ta σ H fun vs H1=>∃ i j:Int,vs=[.int i,.int j]∧(-(2 ^ 62)≤i∧i<2 ^ 62∧-(2 ^ 62)≤j∧j<2 ^ 62)∧R (nE i (j - i).toNat) H1
theorem AE {a:Expr} {ta:TA} {p pos:Pos} (hg:Gl X "range") (hm:X.mg "range"=none) (ha:PA X [a] ta) (hs:starEach [a] X.env=[(false,eval a X.env)]:=by rfl):PI X tg (.Call (.Name "range" p) [a] [] pos) (R9 ta):=by
 intro pins s σ H R I h;refine Call_ (mI I hg hm boot_range (PyProof.Rows.callWith_type1 (a6 (ha pos pins s σ H _ I h) fun us s1 ⟨vs,H1,I1,r1,q1⟩=>?_) hs rfl));obtain ⟨j,e,q1,q2,q⟩:=q1;subst e
 cases r1 with
 | cons r rr =>
  cases rr;obtain ⟨t,rfl⟩:=r;exact call_range_1 (DP I1 (by omega) (by omega) q1 q2 (by simpa using q))
theorem AJ {a b:Expr} {ta:TA} {p pos:Pos} (hg:Gl X "range") (hm:X.mg "range"=none) (ha:PA X [a,b] ta) (hs:starEach [a,b] X.env=[(false,eval a X.env),(false,eval b X.env)]:=by rfl) (hs2:starEach [b] X.env=[(false,eval b X.env)]:=by rfl) :
  PI X tg (.Call (.Name "range" p) [a,b] [] pos) (Q3 ta):=by
 intro pins s σ H R I h;refine Call_ (mI I hg hm boot_range (PyProof.Rows.callWith_type1 (a6 (ha pos pins s σ H _ I h) fun us s1 ⟨vs,H1,I1,r1,q1⟩=>?_) (by rw [hs,hs2]) (by rw [hs2]; rfl)));obtain ⟨i,j,e,⟨q1,q2,q3,q4⟩,q⟩:=q1;subst e
 cases r1 with
 | cons r rr =>
  cases rr with
  | cons r' rr =>
   cases rr;obtain ⟨t,rfl⟩:=r;obtain ⟨t',rfl⟩:=r';exact call_range_2 (DP I1 q1 q2 q3 q4 q)
noncomputable def aEt (wi:TI) (g:TG) (tb:TS):TS:=fun D σ H=>wi σ H fun J H1=>∃ W:Nat→Nat→St→Hp→Prop,(∃ m,W 0 m σ H1)∧∀ i m σ H,W i m σ H →
 (J.stop i H∧D.nx σ H)∨(J.go i H∧∃ N:St→Hp→Prop,(∀ σ' H',N σ' H'→∃ m',m'<m∧W (i+1) m' σ' H')∧∀ x H',J.yld i H x H'→g x σ H' fun σ2 H2=>tb { D with nx:=N,ct:=N,bk:=D.nx } σ2 H2)
noncomputable def nX (fp:List Addr) (h:Heap):List (Addr × Obj):=fp.filterMap fun b=>(h.get? b).map fun o=>(b,o)
theorem iF {fp:List Addr} {h:Heap} {b:Addr} {o:Obj} (hb:b∈fp) (e:h.get? b=some o):(b,o)∈nX fp h:=List.mem_filterMap.mpr ⟨b,hb,by rw [e]; rfl⟩
theorem MW {fp:List Addr} {h:Heap} {p:Addr × Obj} (hp:p∈nX fp h):p.1∈fp∧h.get? p.1=some p.2:=by
 obtain ⟨b,hb,e⟩:=List.mem_filterMap.mp hp
 cases q:h.get? b with
 | none=>rw [q] at e; cases e
 | some o =>
  rw [q] at e;have e':(b,o)=p:=Option.some.inj e;subst e';exact ⟨hb,q⟩
theorem Inv.pinned {pins:List (Addr × Obj)} {σ:St} {H:Hp} {s:Shared} {fp:List Addr} (I:Inv X pins σ H s) (hf:∀ b∈fp,cR X pins H b) (ho:∀ b∈fp,∃ o,s.heap.get? b=some o∧∀ v,o.data≠.cell v):Inv X (pins ++ nX fp s.heap) σ H s :=
 I.pins_of fun p hp=>(List.mem_append.mp hp).elim (fun z=>I.pin p (List.mem_append_right _ z)) fun z=>by
  obtain ⟨hb,e⟩:=MW z;obtain ⟨f0,f1,f2,_⟩:=hf p.1 hb;obtain ⟨o,e',d⟩:=ho p.1 hb;rw [e] at e'; cases e';exact ⟨e,f0,f1,f2,d⟩
theorem Inv.unpinned {pins pl:List (Addr × Obj)} {σ:St} {H:Hp} {s:Shared} (I:Inv X (pins ++ pl) σ H s):Inv X pins σ H s:=I.pins_of fun p hp=>I.pin p (List.mem_append_right _ (List.mem_append_left _ hp))
theorem XU {iter:Expr} {body:List Stmt} {wi:TI} {g:TG} {tb:TS} {pos:Pos} (hp:PassesOwn (model X.prog X.w) X.A X.env X.xe) (hc:X.calm=true) (hi:PI X tg iter wi) (hg:PG X tg g) (hb:fE X body tb)
  (hs:∀ x,foldedSetIterable iter X.env x=pure x:=by intro _; rfl):PS X (.For tg iter body [] pos) (aEt wi g tb):=by
 intro pins s σ H D I h;refine wpAny_For (a6 (hi pins s σ H _ I h) fun v s1 h1=>a6 h1 fun itv s2 h2=>?_) hs;obtain ⟨it,fp,tn,J,H2,e,I2,T,st2,f2,W,⟨m0,w0⟩,turn⟩:=h2;subst e
 -- what stays true of the iterator's objects through the loop
 have stat:∀ {H':Hp},(∀ b∈fp,H' b=none)→∀ b∈fp,cR X pins H' b:=fun hn b hb=>⟨hn b hb,(f2 b hb).2⟩
 refine codeAny_forLoop_any (fun n s'=>∃ i σ' H',Inv X pins σ' H' s'∧tn i s'.heap∧(∀ b∈fp,H' b=none)∧W i n σ' H') ?_ m0 ⟨0,σ,H2,I2,st2,fun b hb=>(f2 b hb).1,w0⟩
 rintro n s3 ⟨i,σ3,H3,I3,st3,fr3,w3⟩
 rcases turn i n σ3 H3 w3 with ⟨stop,qn⟩ | ⟨go,N,hN,step⟩
 ·refine wpAny_passesOwn hp (a6 (T.done X rfl rfl rfl hc i pins s3 σ3 H3 X.xe I3 (stat fr3) st3 stop) fun r s4 ⟨hr,I4⟩=>?_);subst hr;exact wpAny_execs_nil ⟨σ3,H3,I4,qn⟩
 ·refine wpAny_passesOwn hp (a6 (T.item X rfl rfl rfl hc i pins s3 σ3 H3 X.xe I3 (stat fr3) st3 go) fun r s4 ⟨u,hr,h4⟩=>?_);subst hr;refine wpAny_passesOwn hp (a6 h4 fun _ s5 ⟨x,H5,I5,r5,y5,st5,fr5⟩=>?_);have I5':=I5.pinned (stat fr5) (T.obj _ _ st5);refine wpAny_passesOwn hp (a6 (hg _ s5 σ3 H5 x u _ I5' r5 (step x H5 y5)) fun _ s6 ⟨σ6,H6,I6,q6⟩=>?_);refine wpAny_passesOwn hp (a6 (hb _ s6 σ6 H6 _ I6 q6) fun f s7 q7=>?_)
  have again:∀ {σ7:St} {H7:Hp},Inv X (pins ++ nX fp s5.heap) σ7 H7 s7→N σ7 H7→∃ m,m<n∧∃ i σ' H',Inv X pins σ' H' s7∧tn i s7.heap∧(∀ b∈fp,H' b=none)∧W i m σ' H':=fun {σ7 H7} I7 n7=>by
   obtain ⟨m',hm,w7⟩:=hN σ7 H7 n7;refine ⟨m',hm,i+1,σ7,H7,I7.unpinned,T.keep _ _ _ st5 fun b hb o e=>(I7.pin (b,o) (List.mem_append_right _ (List.mem_append_right _ (iF hb e)))).1,fun b hb=>?_,w7⟩;obtain ⟨o,e,d⟩:=T.obj _ _ st5 b hb;exact (I7.pin (b,o) (List.mem_append_right _ (List.mem_append_right _ (iF hb e)))).2.1
  cases f with
  | next=>obtain ⟨σ7,H7,I7,n7⟩:=q7; exact again I7 n7
  | cont=>obtain ⟨σ7,H7,I7,n7⟩:=q7; exact again I7 n7
  | brk=>obtain ⟨σ7,H7,I7,q7⟩:=q7; exact ⟨σ7,H7,I7.unpinned,q7⟩
  | ret v=>obtain ⟨x7,σ7,H7,I7,r7,q7⟩:=q7; exact ⟨x7,σ7,H7,I7.unpinned,r7,q7⟩
end
theorem PQ {K:PySem.W.Frag} {a:Addr} {xs:List V} {g:TG} {tb:TS} {D:Ends} {σ:St} {H:Hp} (Pv:Nat→St→Hp→Prop) (h0:Pv 0 σ H) (hl:∀ i σ H,i≤xs.length→Pv i σ H→cB K H a xs)
  (hs:∀ i x σ H,xs[i]?=some x→Pv i σ H→g x σ H fun σ2 H2=>tb { D with nx:=Pv (i+1),ct:=Pv (i+1),bk:=D.nx } σ2 H2) (hd:∀ σ H,Pv xs.length σ H→D.nx σ H) :
  ∃ W:Nat→Nat→St→Hp→Prop,(∃ m,W 0 m σ H)∧∀ i m σ H,W i m σ H →
   ((qO K a).stop i H∧D.nx σ H)∨((qO K a).go i H∧∃ N:St→Hp→Prop,(∀ σ' H',N σ' H'→∃ m',m'<m∧W (i+1) m' σ' H')∧∀ x H',(qO K a).yld i H x H'→g x σ H' fun σ2 H2=>tb { D with nx:=N,ct:=N,bk:=D.nx } σ2 H2):=by
 refine ⟨fun i m σ H=>m=xs.length - i∧i≤xs.length∧Pv i σ H,⟨xs.length,by simp,Nat.zero_le _,h0⟩, ?_⟩
 rintro i m σ H ⟨rfl,hi,p⟩
 have q:=hl i σ H hi p;by_cases hlt:i<xs.length
 ·refine .inr ⟨⟨xs,xs[i],q,by simp [hlt]⟩,Pv (i+1),fun σ' H' p'=>⟨xs.length - (i+1),by omega,rfl,hlt,p'⟩,fun x H' y=>?_⟩;obtain ⟨e,y⟩:=y;subst e;exact hs i x σ _ (y xs q) p
 ·have e:i=xs.length:=by omega
  subst e;exact .inl ⟨⟨xs,q,Nat.le_refl _⟩,hd σ H p⟩
theorem VJ {K:PySem.W.Frag} {a:Addr} {xs:List V} {g:TG} {tb:TS} {D:Ends} {σ:St} {H:Hp} (Pv:Nat→St→Hp→Prop) (h0:Pv 0 σ H) (hl:∀ i σ H,i≤xs.length→Pv i σ H→d6 K H a xs)
  (hs:∀ i x σ H,xs[i]?=some x→Pv i σ H→g x σ H fun σ2 H2=>tb { D with nx:=Pv (i+1),ct:=Pv (i+1),bk:=D.nx } σ2 H2) (hd:∀ σ H,Pv xs.length σ H→D.nx σ H) :
  ∃ W:Nat→Nat→St→Hp→Prop,(∃ m,W 0 m σ H)∧∀ i m σ H,W i m σ H →
   ((rH K a).stop i H∧D.nx σ H)∨((rH K a).go i H∧∃ N:St→Hp→Prop,(∀ σ' H',N σ' H'→∃ m',m'<m∧W (i+1) m' σ' H')∧∀ x H',(rH K a).yld i H x H'→g x σ H' fun σ2 H2=>tb { D with nx:=N,ct:=N,bk:=D.nx } σ2 H2):=by
 refine ⟨fun i m σ H=>m=xs.length - i∧i≤xs.length∧Pv i σ H,⟨xs.length,by simp,Nat.zero_le _,h0⟩, ?_⟩
 rintro i m σ H ⟨rfl,hi,p⟩
 have q:=hl i σ H hi p;by_cases hlt:i<xs.length
 ·refine .inr ⟨⟨xs,xs[i],q,by simp [hlt]⟩,Pv (i+1),fun σ' H' p'=>⟨xs.length - (i+1),by omega,rfl,hlt,p'⟩,fun x H' y=>?_⟩;obtain ⟨e,y⟩:=y;subst e;exact hs i x σ _ (y xs q) p
 ·have e:i=xs.length:=by omega
  subst e;exact .inl ⟨⟨xs,q,Nat.le_refl _⟩,hd σ H p⟩
theorem LH {lo:Int} {n:Nat} {g:TG} {tb:TS} {D:Ends} {σ:St} {H:Hp} (Pv:Nat→St→Hp→Prop) (h0:Pv 0 σ H)
  (hs:∀ i σ H,i<n→Pv i σ H→g (.int (lo+i)) σ H fun σ2 H2=>tb { D with nx:=Pv (i+1),ct:=Pv (i+1),bk:=D.nx } σ2 H2) (hd:∀ σ H,Pv n σ H→D.nx σ H) :
  ∃ W:Nat→Nat→St→Hp→Prop,(∃ m,W 0 m σ H)∧∀ i m σ H,W i m σ H →
   ((nE lo n).stop i H∧D.nx σ H)∨((nE lo n).go i H∧∃ N:St→Hp→Prop,(∀ σ' H',N σ' H'→∃ m',m'<m∧W (i+1) m' σ' H')∧∀ x H',(nE lo n).yld i H x H'→g x σ H' fun σ2 H2=>tb { D with nx:=N,ct:=N,bk:=D.nx } σ2 H2):=by
 refine ⟨fun i m σ H=>m=n - i∧i≤n∧Pv i σ H,⟨n,by simp,Nat.zero_le _,h0⟩, ?_⟩
 rintro i m σ H ⟨rfl,hi,p⟩
 by_cases hlt:i<n
 ·refine .inr ⟨hlt,Pv (i+1),fun σ' H' p'=>⟨n - (i+1),by omega,rfl,hlt,p'⟩,fun x H' y=>?_⟩;obtain ⟨e,y⟩:=y;subst e y;exact hs i σ _ hlt p
 ·have e:i=n:=by omega
  subst e;exact .inl ⟨Nat.le_refl _,hd σ H p⟩
abbrev R2:=V→V→Hp→VK→Prop
def eT (X:Cx) (f:Value→Value→Sem Value) (r:R2):Prop :=
 ∀ (pins:List (Addr × Obj)) (s:Shared) (σ:St) (H:Hp) (x y:V) (v u:Value) (Q:VK),Inv X pins σ H s→a7 x v→a7 y u→r x y H Q →
  wpAny (model X.prog X.w) X.A (f v u) (EP X pins σ Q) X.xe s
def Z9 (X:Cx) (f:Value→Sem Value) (r:V→Hp→VK→Prop):Prop :=
 ∀ (pins:List (Addr × Obj)) (s:Shared) (σ:St) (H:Hp) (x:V) (v:Value) (Q:VK),Inv X pins σ H s→a7 x v→r x H Q →
  wpAny (model X.prog X.w) X.A (f v) (EP X pins σ Q) X.xe s
def fP (X:Cx) (f:Value) (r:List V→Hp→VK→Prop):Prop :=
 ∀ (pins:List (Addr × Obj)) (s:Shared) (σ:St) (H:Hp) (xs:List V) (us:List Value) (Q:VK),Inv X pins σ H s→aU xs us→r xs H Q →
  wpAny (model X.prog X.w) X.A (call f us) (EP X pins σ Q) X.xe s
def aEq (X:Cx) (r:V→Hp→(Bool→Hp→Prop)→Prop):Prop :=
 ∀ (pins:List (Addr × Obj)) (s:Shared) (σ:St) (H:Hp) (x:V) (v:Value) (Q:Bool→Hp→Prop),Inv X pins σ H s→a7 x v→r x H Q →
  wpAny (model X.prog X.w) X.A (truthy v) (TP X pins σ Q) X.xe s
noncomputable def LY (r:R2) (ta tb:TE):TE:=fun σ H Q=>ta σ H fun x H1=>tb σ H1 fun y H2=>r x y H2 Q
noncomputable def tUn (r:V→Hp→VK→Prop) (ta:TE):TE:=fun σ H Q=>ta σ H fun x H1=>r x H1 Q
noncomputable def rI (C:Int→Int→Prop) (g:Int→Int→V):R2:=fun x y H Q=>∃ i j,x=.int i∧y=.int j∧C i j∧Q (g i j) H
noncomputable def x9 (g:Int→Int→V):R2:=fun x y H Q=>∃ i j,x=.int i∧y=.int j∧Q (g i j) H
def rU (g:Int→V):V→Hp→VK→Prop:=fun x H Q=>∃ i,x=.int i∧Q (g i) H
section
variable {X:Cx} {a b c:Expr} {ta tb tc:TE} {pos:Pos}
theorem M8 (ha:PE X a ta) (hb:PE X b tb) {pins:List (Addr × Obj)} {s:Shared} {σ:St} {H:Hp} {R:V→V→Hp→Prop} (I:Inv X pins σ H s)
  (h:ta σ H fun x H1=>tb σ H1 fun y H2=>R x y H2) {Q:Value→Shared→Prop} {f:Value→Value→Sem Value}
  (hf:∀ v u s2 x y H2,Inv X pins σ H2 s2→a7 x v→a7 y u→R x y H2→wpAny (model X.prog X.w) X.A (f v u) Q X.xe s2) :
  wpAny (model X.prog X.w) X.A (eval a X.env) (fun v s₁=>wpAny (model X.prog X.w) X.A (eval b X.env) (fun u s₂=>wpAny (model X.prog X.w) X.A (f v u) Q X.xe s₂) X.xe s₁) X.xe s:=by
 refine a6 (ha pins s σ H _ I h) fun v s1 ⟨x,H1,I1,r1,q1⟩=>?_
 refine a6 (hb pins s1 σ H1 _ I1 q1) fun u s2 ⟨y,H2,I2,r2,q2⟩=>?_
 exact hf v u s2 x y H2 I2 r1 r2 q2
theorem aC3 {op:Operator} {r:R2} (ho:eT X (binaryOp op) r) (ha:PE X a ta) (hb:PE X b tb):PE X (.BinOp a op b pos) (LY r ta tb):=by
 intro pins s σ H Q I h;exact wpAny_BinOp (M8 ha hb I h fun v u s2 x y H2 I2 rx ry q=>ho pins s2 σ H2 x y v u Q I2 rx ry q)
theorem aCy {op:UnaryOp} {r:V→Hp→VK→Prop} (ho:Z9 X (unaryOp op) r) (ha:PE X a ta):PE X (.UnaryOp op a pos) (tUn r ta):=by
 intro pins s σ H Q I h;exact UnaryOp_ (a6 (ha pins s σ H _ I h) fun v s1 ⟨x,H1,I1,r1,q1⟩=>ho pins s1 σ H1 x v Q I1 r1 q1)
theorem MC {f:Value→Value→Sem Value} {C:Int→Int→Prop} {g:Int→Int→Int}
  (rule:∀ (i j:Int) (t u:Tok) (s:Shared) (Q:Value→Shared→Prop) (E:Value→Shared→Prop),C i j→Q (.int (g i j) s.toks) { s with toks:=s.toks+1 }→wpAny (model X.prog X.w) X.A (f (.int i t) (.int j u)) Q E s) :
  eT X f (rI C fun i j=>.int (g i j)):=by
 intro pins s σ H x y v u Q I rx ry h;obtain ⟨i,j,rfl,rfl,hc,q⟩:=h;obtain ⟨t,rfl⟩:=rx;obtain ⟨t',rfl⟩:=ry;exact rule i j t t' s _ _ hc ⟨.int (g i j),H,I.tok _,⟨_,rfl⟩,q⟩
theorem QC {f:Value→Value→Sem Value} {g:Int→Int→Int}
  (rule:∀ (i j:Int) (t u:Tok) (s:Shared) (Q:Value→Shared→Prop) (E:Value→Shared→Prop),Q (.int (g i j) s.toks) { s with toks:=s.toks+1 }→wpAny (model X.prog X.w) X.A (f (.int i t) (.int j u)) Q E s) :
  eT X f (x9 fun i j=>.int (g i j)):=by
 intro pins s σ H x y v u Q I rx ry h;obtain ⟨i,j,rfl,rfl,q⟩:=h;obtain ⟨t,rfl⟩:=rx;obtain ⟨t',rfl⟩:=ry;exact rule i j t t' s _ _ ⟨.int (g i j),H,I.tok _,⟨_,rfl⟩,q⟩
theorem HX {f:Value→Value→Sem Value} {g:Int→Int→Bool}
  (rule:∀ (i j:Int) (t u:Tok) (s:Shared) (Q:Value→Shared→Prop) (E:Value→Shared→Prop),Q (.bool (g i j)) s→wpAny (model X.prog X.w) X.A (f (.int i t) (.int j u)) Q E s) :
  eT X f (x9 fun i j=>.bl (g i j)):=by
 intro pins s σ H x y v u Q I rx ry h;obtain ⟨i,j,rfl,rfl,q⟩:=h;obtain ⟨t,rfl⟩:=rx;obtain ⟨t',rfl⟩:=ry;exact rule i j t t' s _ _ ⟨.bl (g i j),H,I,rfl,q⟩
def aEf (i j:Int):Prop:=0≤j∧j≤1000000∧i.natAbs<2 ^ 64
def OP (i j:Int):Prop:=(-(2 ^ 64)<i∧i<2 ^ 64)∨(-(2 ^ 64)<j∧j<2 ^ 64)
theorem OP.ok {i j:Int} (h:OP i j):IntMulOk i j:=by
 rcases h with ⟨h1,h2⟩ | ⟨h1,h2⟩
 ·exact .of_left (intBits_le_64 h1 h2)
 ·exact .of_right (intBits_le_64 h1 h2)
theorem two_pow_nn (k:Nat):(0:Int)≤2 ^ k:=by
 rw [two_pow_cast];exact Int.natCast_nonneg _
theorem aAy:eT X (binaryOp .Add) (x9 fun i j=>.int (i+j)):=QC fun _ _ _ _ _ _ _ q=>add_int q
theorem aAj:eT X (binaryOp .Sub) (x9 fun i j=>.int (i - j)):=QC fun _ _ _ _ _ _ _ q=>sub_int q
theorem aBE:eT X (binaryOp .Mult) (rI OP fun i j=>.int (i*j)):=MC fun _ _ _ _ _ _ _ hc q=>mul_int q hc.ok
theorem aBg:eT X (binaryOp .Mod) (rI (fun _ j=>0<j) fun i j=>.int (i % j)):=MC fun i j _ _ _ _ _ hc q=>by
 have h1:(0:Int)<j:=hc;exact mod_int' (by omega) (by rw [Int.fmod_eq_emod_of_nonneg i (by omega)]; exact q)
theorem aAs:eT X (binaryOp .LShift) (rI aEf fun i j=>.int (i*2 ^ j.toNat)):=MC fun _ _ _ _ _ _ _ hc q=>lshift_int_small hc.1 hc.2.1 hc.2.2 q
theorem aAn:eT X (binaryOp .RShift) (rI (fun _ j=>0≤j) fun i j=>.int (i / 2 ^ j.toNat)):=MC fun i j _ _ _ _ _ hc q =>
 rshift_int hc (by rw [Int.fdiv_eq_ediv_of_nonneg i (two_pow_nn _)]; exact q)
theorem XI:eT X (binaryOp .BitAnd) (x9 fun i j=>.int (Builtin.bitAnd i j)):=QC fun _ _ _ _ _ _ _ q=>and_int q
theorem unI {f:Value→Sem Value} {g:Int→Int}
  (rule:∀ (i:Int) (t:Tok) (s:Shared) (Q:Value→Shared→Prop) (E:Value→Shared→Prop),Q (.int (g i) s.toks) { s with toks:=s.toks+1 }→wpAny (model X.prog X.w) X.A (f (.int i t)) Q E s) :
  Z9 X f (rU fun i=>.int (g i)):=by
 intro pins s σ H x v Q I rx h;obtain ⟨i,rfl,q⟩:=h;obtain ⟨t,rfl⟩:=rx;exact rule i t s _ _ ⟨.int (g i),H,I.tok _,⟨_,rfl⟩,q⟩
theorem aAS:Z9 X (unaryOp .USub) (rU fun i=>.int (-i)):=unI fun _ _ _ _ _ q=>neg_int q
end
section
variable {X:Cx} {a b c:Expr} {ta tb tc:TE} {pos:Pos}
theorem LO {pins:List (Addr × Obj)} {σ:St} {H:Hp} {s:Shared} {Q:VK} {k k':Bool} (I:Inv X pins σ H s) (q:Q (.bl k) H) (e:k=k'):EP X pins σ Q (.bool k') s:=by
 subst e;exact ⟨.bl k,H,I,rfl,q⟩
theorem aC7:eT X (compareOp .Lt) (x9 fun i j=>.bl (decide (i<j))):=HX fun _ _ _ _ _ _ _ q=>lt_int q
theorem aCb:eT X (compareOp .LtE) (x9 fun i j=>.bl (decide (i≤j))):=HX fun _ _ _ _ _ _ _ q=>le_int q
theorem aCJ:eT X (compareOp .Gt) (x9 fun i j=>.bl (decide (j<i))):=HX fun _ _ _ _ _ _ _ q=>gt_int q
theorem aCu:eT X (compareOp .GtE) (x9 fun i j=>.bl (decide (j≤i))):=HX fun _ _ _ _ _ _ _ q=>ge_int q
theorem YK:eT X (compareOp .Is) (fun x y H Q=>y=.non∧Q (.bl (decide (x=.non))) H):=by
 intro pins s σ H x y v u Q I rx ry h;obtain ⟨rfl,q⟩:=h;cases ry;refine is_none_gen (LO I q ?_)
 cases x <;> first
  | (cases rx; rfl)
  | (obtain ⟨t,rfl⟩:=rx; rfl)
theorem UP:eT X (compareOp .IsNot) (fun x y H Q=>y=.non∧Q (.bl (!decide (x=.non))) H):=by
 intro pins s σ H x y v u Q I rx ry h;obtain ⟨rfl,q⟩:=h;cases ry;refine isnot_none_gen (LO I q ?_)
 cases x <;> first
  | (cases rx; rfl)
  | (obtain ⟨t,rfl⟩:=rx; rfl)
theorem TK {op:CmpOp} {r:R2} (ho:eT X (compareOp op) r) (ha:PE X a ta) (hb:PE X b tb) (hm:behindInMarks op b=false):PE X (.Compare a [op] [b] pos) (LY r ta tb):=by
 intro pins s σ H Q I h;exact wpAny_Compare1 (M8 ha hb I h fun v u s2 x y H2 I2 rx ry q=>ho pins s2 σ H2 x y v u Q I2 rx ry q) hm
noncomputable def SA (t:TE):TT:=fun σ H Q=>t σ H fun x H'=>∃ k,x=.bl k∧Q k H'
theorem SQ {op:CmpOp} {r:R2} (ho:eT X (compareOp op) r) (ha:PE X a ta) (hb:PE X b tb) (hm:behindInMarks op b=false):PT X (.Compare a [op] [b] pos) (SA (LY r ta tb)):=by
 intro pins s σ H Q I h
 refine wpAny_isTrue_Compare1 (a6 (ha pins s σ H _ I h) fun v s1 ⟨x,H1,I1,r1,q1⟩=>a6 (hb pins s1 σ H1 _ I1 q1) fun u s2 ⟨y,H2,I2,r2,q2⟩ =>
  a6 (ho pins s2 σ H2 x y v u _ I2 r1 r2 q2) fun c s3 ⟨z,H3,I3,r3,k,e,q3⟩=>?_) hm
 subst e;cases r3;exact wpAny_truthy_bool ⟨H3,I3,q3⟩
noncomputable def CW (r r':R2) (ta tb tc:TE):TE:=fun σ H Q=>ta σ H fun x H1=>tb σ H1 fun y H2=>r x y H2 fun z H3=>∃ k,z=.bl k ∧
 (if k=true then tc σ H3 fun w' H4=>r' y w' H4 Q else Q (.bl false) H3)
theorem O1 {op op':CmpOp} {r r':R2} (ho:eT X (compareOp op) r) (ho':eT X (compareOp op') r') (ha:PE X a ta) (hb:PE X b tb) (hc:PE X c tc)
  (hm:lastMarks [op,op'] [b,c]=false:=by with_unfolding_all rfl):PE X (.Compare a [op,op'] [b,c] pos) (CW r r' ta tb tc):=by
 intro pins s σ H Q I h
 refine Compare_chain (a6 (ha pins s σ H _ I h) fun v s1 ⟨x,H1,I1,r1,q1⟩=>chain_link (a6 (hb pins s1 σ H1 _ I1 q1) fun u s2 ⟨y,H2,I2,r2,q2⟩ =>
  a6 (ho pins s2 σ H2 x y v u _ I2 r1 r2 q2) fun d s3 ⟨z,H3,I3,r3,k,e,q3⟩=>?_)) hm
 subst e;cases r3;refine wpAny_truthy_bool ?_
 cases k with
 | false=>exact ite_ff ⟨.bl false,H3,I3,rfl,q3⟩
 | true=>exact ite_tt (chain_last (a6 (hc pins s3 σ H3 _ I3 q3) fun w' s4 ⟨z',H4,I4,r4,q4⟩=>ho' pins s4 σ H4 y z' u w' Q I4 r2 r4 q4))
theorem O5 {op op':CmpOp} {r r':R2} (ho:eT X (compareOp op) r) (ho':eT X (compareOp op') r') (ha:PE X a ta) (hb:PE X b tb) (hc:PE X c tc)
  (hm:lastMarks [op,op'] [b,c]=false:=by with_unfolding_all rfl):PT X (.Compare a [op,op'] [b,c] pos) (SA (CW r r' ta tb tc)):=by
 intro pins s σ H Q I h
 refine isTrue_chain (a6 (ha pins s σ H _ I h) fun v s1 ⟨x,H1,I1,r1,q1⟩=>test_link (a6 (hb pins s1 σ H1 _ I1 q1) fun u s2 ⟨y,H2,I2,r2,q2⟩ =>
  a6 (ho pins s2 σ H2 x y v u _ I2 r1 r2 q2) fun d s3 ⟨z,H3,I3,r3,k,e,q3⟩=>?_)) hm
 subst e;cases r3;refine wpAny_truthy_bool ?_
 cases k with
 | false =>
  obtain ⟨k',e',q'⟩:=q3;cases e';exact ite_ff ⟨H3,I3,q'⟩
 | true =>
  refine ite_tt (test_last (a6 (hc pins s3 σ H3 _ I3 q3) fun w' s4 ⟨z',H4,I4,r4,q4⟩=>a6 (ho' pins s4 σ H4 y z' u w' _ I4 r2 r4 q4) fun d' s5 ⟨z2,H5,I5,r5,k2,e2,q5⟩=>?_));subst e2;cases r5;exact wpAny_truthy_bool ⟨H5,I5,q5⟩
def HB (K:PySem.W.Frag) (x:V) (H:Hp) (k:Bool):Prop :=
 match x with
 | .non=>k=false
 | .bl b=>k=b
 | .int i=>k=(i != 0)
 | .str y=>y.length≤sizeLine∧k=((y.length:Int) != 0)
 | .byt y=>y.size≤sizeLine∧k=((y.size:Int) != 0)
 | .ref p=>(∃ xs,cB K H p xs∧k=!xs.isEmpty)∨(∃ xs,d6 K H p xs∧k=!xs.isEmpty)∨∃ kvs,H p=some (.dK kvs)∧k=!kvs.isEmpty
 | _=>False
theorem IG {κ:Type} {kvs:List (κ × V)} {vs:List (κ × Value)} (r:KV kvs vs):(!vs.isEmpty)=!kvs.isEmpty:=by
 cases r <;> rfl
theorem xD {xs:List V} {its:List Value} (r:aU xs its):(!its.toArray.isEmpty)=!xs.isEmpty:=by
 cases r <;> simp
theorem mS:(sizeLine:Nat)<2 ^ 63:=by rw [sizeLine_eq]; decide
theorem MV:aEq X (fun x H Q=>∃ k,HB X.K x H k∧Q k H):=by
 intro pins s σ H x v Q I rx h;obtain ⟨k,e,q⟩:=h;have hl:=mS;have hs:sizeLine=16777216:=sizeLine_eq
 cases x with
 | non =>
  cases rx;have e':k=false:=e;subst e';exact truthy_none ⟨H,I,q⟩
 | bl b =>
  cases rx;have e':k=b:=e;subst e';exact wpAny_truthy_bool ⟨H,I,q⟩
 | int i =>
  obtain ⟨t,rfl⟩:=rx;have e':k=(i != 0):=e;subst e';exact PySem.P.truthy_int ⟨H,I,q⟩
 | str y =>
  obtain ⟨t,rfl⟩:=rx;obtain ⟨hy,e'⟩:y.length≤sizeLine∧k=((y.length:Int) != 0):=e;subst e';exact PySem.P.truthy_str (by omega) ⟨H,I.tok _,q⟩
 | byt y =>
  obtain ⟨t,rfl⟩:=rx;obtain ⟨hy,e'⟩:y.size≤sizeLine∧k=((y.size:Int) != 0):=e;subst e';exact PySem.W.truthy_bytes (by omega) ⟨H,I.tok _,q⟩
 | ref p =>
  cases rx;have e':(∃ xs,cB X.K H p xs∧k=!xs.isEmpty)∨(∃ xs,d6 X.K H p xs∧k=!xs.isEmpty)∨∃ kvs,H p=some (.dK kvs)∧k=!kvs.isEmpty:=e
  rcases e' with ⟨xs,hx,e'⟩ | ⟨xs,hx,e'⟩ | ⟨kvs,hx,e'⟩
  ·subst e';obtain ⟨its,r,pl,hz⟩:=I.list hx;have hlen:=r.length;exact wpAny_truthy_list pl.isList (by simp only [List.size_toArray]; omega) ⟨H,I.tok _,by rw [xD r]; exact q⟩
  ·subst e';obtain ⟨its,r,pl,hz⟩:=I.tuple hx;have hlen:=r.length;exact truthy_tuple pl (by simp only [List.size_toArray]; omega) ⟨H,I.tok _,by rw [xD r]; exact q⟩
  ·subst e';obtain ⟨hz,hS,vs,r,m⟩:kvs.length≤sizeLine∧(p == sysModules)=false∧∃ vs,KV kvs vs∧s.heap.DictOf (dW X.prog X.w) p vs:=I.hok p _ hx
   have hlen:kvs.length=vs.length:=Paired.length r;exact wpAny_truthy_dict hS m (by omega) ⟨H,I.tok _,by rw [IG r]; exact q⟩
 | _=>exact (show False from e).elim
theorem BW (ha:PE X a ta) (he:∀ whole,isTrue a X.env whole=(do let v ← whole; standAt a.pos; holding [v] (truthy v))) :
  PT X a (fun σ H Q=>ta σ H fun x H'=>∃ k,HB X.K x H' k∧Q k H'):=by
 intro pins s σ H Q I h;exact isTrue_plain (a6 (ha pins s σ H _ I h) fun v s1 ⟨x,H1,I1,r1,q1⟩=>MV pins s1 σ H1 x v Q I1 r1 q1) (he _)
theorem nO {x:V} {us:List Value} (r:aU [x] us):∃ u,us=[u]∧a7 x u:=by
 cases r with
 | cons r1 r2=>cases r2; exact ⟨_,rfl,r1⟩
theorem JI {x y:V} {us:List Value} (r:aU [x,y] us):∃ u w',us=[u,w']∧a7 x u∧a7 y w':=by
 cases r with
 | cons r1 r2 =>
  cases r2 with
  | cons r3 r4=>cases r4; exact ⟨_,_,rfl,r1,r3⟩
theorem PR:fP X (.builtin "abs") (fun xs H Q=>∃ i,xs=[.int i]∧Q (.int (if i<0 then -i else i)) H):=by
 intro pins s σ H xs us Q I r h;obtain ⟨i,rfl,q⟩:=h;obtain ⟨u,rfl,t,rfl⟩:=nO r;exact call_abs_int fun u tk=>⟨.int (if i<0 then -i else i),H,I.tok _,⟨_,rfl⟩,q⟩
theorem LC (hc:X.calm=true):fP X (.builtin "max") (fun xs H Q=>∃ i j,xs=[.int i,.int j]∧Q (.int (if j > i then j else i)) H):=by
 intro pins s σ H xs us Q I r h;obtain ⟨i,j,rfl,q⟩:=h;obtain ⟨u,w',rfl,⟨t,rfl⟩,⟨t',rfl⟩⟩:=JI r;refine max_two_ints (I.ok.hd hc) fun h' tk k=>⟨_,H,I.kept k, ?_,q⟩
 by_cases hj:j > i
 ·rw [if_pos hj,if_pos hj]; exact ⟨_,rfl⟩
 ·rw [if_neg hj,if_neg hj]; exact ⟨_,rfl⟩
theorem KD (hc:X.calm=true):fP X (.builtin "min") (fun xs H Q=>∃ i j,xs=[.int i,.int j]∧Q (.int (if j<i then j else i)) H):=by
 intro pins s σ H xs us Q I r h;obtain ⟨i,j,rfl,q⟩:=h;obtain ⟨u,w',rfl,⟨t,rfl⟩,⟨t',rfl⟩⟩:=JI r;refine min_two_ints (I.ok.hd hc) fun h' tk k=>⟨_,H,I.kept k, ?_,q⟩
 by_cases hj:j<i
 ·rw [if_pos hj,if_pos hj]; exact ⟨_,rfl⟩
 ·rw [if_neg hj,if_neg hj]; exact ⟨_,rfl⟩
theorem zV:fP X (.type "int") (fun xs H Q=>(∃ i,xs=[.int i]∧Q (.int i) H)∨∃ k,xs=[.bl k]∧Q (.int (if k then 1 else 0)) H):=by
 intro pins s σ H xs us Q I r h;rcases h with ⟨i,rfl,q⟩ | ⟨k,rfl,q⟩
 ·obtain ⟨u,rfl,t,rfl⟩:=nO r;exact call_int_int ⟨.int i,H,I,⟨_,rfl⟩,q⟩
 ·obtain ⟨u,rfl,r1⟩:=nO r;cases r1;exact call_int_bool ⟨.int (if k then 1 else 0),H,I.tok _,⟨_,rfl⟩,q⟩
end
structure ObjM (h:Heap) (x dx C:Addr) (mA:Str→Option Value):Prop where
 obj:h.get? x=some (PySem.W.instObj C dx)
 ns:h.Ns1 dx mA
 ne:dx≠x
theorem K3 {h:Heap} {dx:Addr} {mA:Str→Option Value} (n:h.Ns1 dx mA):∃ od,h.get? dx=some od∧∀ name,PySem.W.lookIn name od=some (mA name):=by
 obtain ⟨o,es,ep,ho,hd,hk,_,hm⟩:=n;refine ⟨o,ho,fun name=>?_⟩;have e:=hm name;unfold nsFind findBy at e;rw [← Array.find?_toList] at e;unfold PySem.W.lookIn;rw [hd];dsimp only;split
 ·rename_i y q;rw [q] at e;exact congrArg some e
 ·rename_i q;rw [q] at e
  have a:es.toList.any (·.refKey)=false:=by
   rw [List.any_eq_false];intro y hy;obtain ⟨z,t,hkey⟩:=hk y (Array.mem_toList_iff.mp hy);simp [DictEntry.refKey,hkey]
  have a':¬ es.toList.any (·.refKey)=true:=by rw [a]; exact Bool.false_ne_true
  rw [if_neg a'];exact congrArg some e
theorem ObjM.look {h:Heap} {x dx C:Addr} {mA:Str→Option Value} (I:ObjM h x dx C mA):∃ od,PySem.W.InstAt h x (PySem.W.instObj C dx) C (some od)∧∀ name,PySem.W.lookIn name od=some (mA name) :=
 let ⟨od,ho,hl⟩:=K3 I.ns
 ⟨od,⟨I.obj,rfl,rfl,ho⟩,hl⟩
section
variable {prog:Program} {w:World} {A:Around} {E:Value→Shared→Prop} {s:Shared} {K:PySem.W.Frag} {x dx C f:Addr} {mA:Str→Option Value} {name:Str} {v:Value}
theorem UI {expr:Bool} {Q:Value→Shared→Prop} (X:K.In s.heap) (I:ObjM s.heap x dx C mA) (hg:PySem.W.plainGet K C name=true) (hh:PySem.W.hasDictIn K C=true)
  (ha:PySem.W.findIn K (.ref C) name=some none) (hv:mA name=some v) (hv':PySem.W.handedIn v=true) (h:Q v { s with toks:=s.toks+1 }) :
  wpAny (model prog w) A (getAttr (.ref x) name expr) Q E s:=by
 obtain ⟨od,J,hl⟩:=I.look;exact PySem.W.get_value X J (PySem.W.plainGet_of hg).1 (PySem.W.findObj_own hh ha rfl (by rw [hl,hv])) hv' h
theorem OG {pl:Sem Bool} {Q:Value × List Value→Shared→Prop} (X:K.In s.heap) (I:ObjM s.heap x dx C mA) (hg:PySem.W.plainGet K C name=true)
  (hf:PySem.W.findIn K (.ref C) name=some (some (.ref f))) (ht:PySem.W.isFn K (.ref f)=true) (hv:mA name=none) (h:Q (.ref f,[.ref x]) s) :
  wpAny (model prog w) A (getMethod (.ref x) name pl) Q E s:=by
 obtain ⟨od,J,hl⟩:=I.look;exact PySem.W.method_fn X J (PySem.W.plainGet_of hg).1 (PySem.W.plainGet_of hg).2 hf (beq_iff_eq.mp ht) (by show (PySem.W.lookIn name od).map (·.isSome)=some false; rw [hl,hv]; rfl) h
theorem T9 {ns:List Str} {Q:Unit→Shared→Prop} (X:K.In s.heap) (I:ObjM s.heap x dx C mA)
  (hs:PySem.W.findIn K (.ref C) "__setattr__"=some (some (.builtin "object.__setattr__"))) (hp:PySem.W.plainOver K C=true) (ht:PySem.W.takerIn K C name=some none) (hh:PySem.W.hasDictIn K C=true)
  (hw:PySem.Within mA ns) (hsz:ns.length≤sizeLine)
  (h:∀ h',ObjM h' x dx C (fun y=>if y=name then some v else mA y)→Heap.SameBut dx s.heap h'→Q () { s with heap:=h',toks:=s.toks+2 }) :
  wpAny (model prog w) A (setAttr (.ref x) name v) Q E s:=by
 obtain ⟨od,J,hl⟩:=I.look;refine PySem.W.set_plain X J hs (PySem.W.osa_open (s:={ s with toks:=s.toks+1 }) (r:=none) X J hp ht fun b=>?_);obtain ⟨cd,hc,hd'⟩:=PySem.W.any_some hh;have hx:s.heap.get? x=some ⟨.ref C,some dx,.plain,#[]⟩:=I.obj;refine wpAny_bind (wpAny_pure (wpAny_bind (wpAny_bind (wpAny_loadPart hx (wpAny_bind (PySem.W.Looks.here (s:={ s with toks:=s.toks+1 }) (PySem.W.looks_clsIn X hc) ?_))))));rw [hd'];refine wpAny_pure (a:=some dx) (wpAny_bind (wpAny_pure (wpAny_bind ?_)));refine wpAny_nsSet1 (s:={ s with toks:=s.toks+1 }) I.ns fun h' hn2 hs2=>?_
 obtain ⟨oD,esD,epD,hoD,LW,hcD⟩:=hn2.count (PySem.Within.cons name v hw);refine wpAny_bind (wpAny_lookBehind hoD (by rw [LW]; exact pastItsLine_dict (Nat.le_trans hcD (by rw [List.length_cons]; omega))) ?_);exact wpAny_pure (h _ ⟨(hs2.2 _ (Ne.symm I.ne)).trans I.obj,hn2,I.ne⟩ hs2)
theorem NH {R:Result→Shared→Prop} {vs:List Value} {kw:List (Str × Value)} (X:K.In s.heap) (hm:PySem.W.makesIn K C=true)
  (hi:PySem.W.findIn K (.ref C) "__init__"=some (some (.ref f))) (hf:PySem.W.typeIn K (.ref f)=some (.type "function"))
  (h:codeAny (model prog w) (A.under (.builtin "type.__call__" ⟨.ref C :: vs,kw⟩)) (.call (.ref f) ⟨.ref (s.heap.objs.size+1) :: vs,kw⟩) (PySem.W.InitBack (s.heap.objs.size+1) R)
   { s with heap:=(s.heap.push PySem.W.emptyDict).push (PySem.W.instObj C s.heap.objs.size) }) :
  codeAny (model prog w) A (.call (.ref C) ⟨vs,kw⟩) R s:=by
 obtain ⟨hh,g,d,t,os⟩:=s;exact PySem.W.make_core (PySem.W.makes_of X hm) (PySem.W.looks_findIn X hi) (fun self=>PySem.W.bind_fn X self hf) (.inl rfl) h
end
noncomputable def gC (f:Str) (v:V):List (Str × V)→List (Str × V)
 | []=>[(f,v)]
 | (g,x) :: r=>if g=f then (g,v) :: r else (g,x) :: gC f v r
theorem vA (f g:Str) (v:V):∀ fs:List (Str × V),(gC f v fs).lookup g=if g=f then some v else fs.lookup g
 | []=>by
  show List.lookup g [(f,v)]=_;by_cases h:g=f
  ·have hb:(g == f)=true:=beq_iff_eq.mpr h;simp only [List.lookup,hb,if_pos h]
  ·have hb:(g == f)=false:=beq_eq_false_iff_ne.mpr h;simp only [List.lookup,hb,if_neg h]
 | (k,x) :: r=>by
  have ih:=vA f g v r;rw [show gC f v ((k,x) :: r)=(if k=f then (k,v) :: r else (k,x) :: gC f v r) from rfl];by_cases hk:k=f
  ·rw [if_pos hk];by_cases h:g=k
   ·have hb:(g == k)=true:=beq_iff_eq.mpr h;simp only [List.lookup,hb,if_pos (h.trans hk)]
   ·have hb:(g == k)=false:=beq_eq_false_iff_ne.mpr h;simp only [List.lookup,hb,if_neg (fun e:g=f=>h (e.trans hk.symm))]
  ·rw [if_neg hk];by_cases h:g=k
   ·have hb:(g == k)=true:=beq_iff_eq.mpr h;simp only [List.lookup,hb,if_neg (fun e:g=f=>hk (h.symm.trans e))]
   ·have hb:(g == k)=false:=beq_eq_false_iff_ne.mpr h;simp only [List.lookup,hb];exact ih
theorem sT (f:Str) (v:V):∀ fs:List (Str × V),f∈(gC f v fs).map (·.1)∧∀ g,g∈fs.map (·.1)→g∈(gC f v fs).map (·.1)
 | []=>⟨by simp [gC],fun g h=>by simp at h⟩
 | (k,x) :: r=>by
  obtain ⟨i1,i2⟩:=sT f v r;rw [show gC f v ((k,x) :: r)=(if k=f then (k,v) :: r else (k,x) :: gC f v r) from rfl];by_cases hk:k=f
  ·rw [if_pos hk];subst hk;exact ⟨by simp,fun g h=>by simpa using h⟩
  ·rw [if_neg hk];refine ⟨?_,fun g h=>?_⟩
   ·rw [List.map_cons];exact List.mem_cons_of_mem _ i1
   ·rw [List.map_cons] at h ⊢;rcases List.mem_cons.mp h with e | e
    ·exact List.mem_cons.mpr (.inl e)
    ·exact List.mem_cons_of_mem _ (i2 g e)
theorem uV (f:Str) (v:V):∀ fs:List (Str × V),(gC f v fs).length≤fs.length+1
 | []=>by simp [gC]
 | (k,x) :: r=>by
  have ih:=uV f v r;rw [show gC f v ((k,x) :: r)=(if k=f then (k,v) :: r else (k,x) :: gC f v r) from rfl];by_cases hk:k=f
  ·rw [if_pos hk,List.length_cons,List.length_cons]; omega
  ·rw [if_neg hk,List.length_cons,List.length_cons]; omega
theorem gH.some_of {v:V} {o:Option Value} (r:gH (some v) o):∃ u,o=some u∧a7 v u:=by
 cases o with
 | none=>exact (show False from r).elim
 | some u=>exact ⟨u,rfl,r⟩
theorem gH.none_of {o:Option Value} (r:gH none o):o=none:=by
 cases o with
 | none=>rfl
 | some u=>exact (show False from r).elim
theorem K4 {v:V} {u:Value} (r:a7 v u):PySem.W.handedIn u=true:=by
 cases v with
 | non=>cases (show u=Value.none from r); rfl
 | bl b=>cases (show u=Value.bool b from r); rfl
 | int i=>obtain ⟨t,e⟩:=(show ∃ t,u=Value.int i t from r); cases e; rfl
 | str x=>obtain ⟨t,e⟩:=(show ∃ t,u=Value.str x t from r); cases e; rfl
 | byt b=>obtain ⟨t,e⟩:=(show ∃ t,u=Value.bytes b t from r); cases e; rfl
 | flt b=>obtain ⟨t,e⟩:=(show ∃ t,u=Value.float b t from r); cases e; rfl
 | ref a=>cases (show u=Value.ref a from r); rfl
 | ty n=>cases (show u=Value.type n from r); rfl
section
variable {P:Program} {w:World} {H H':Hp} {h h':Heap} {a C dx:Addr} {fs fs':List (Str × V)}
theorem y8 (hok:eD P w H h) (e:H a=some (.ins C dx fs)):∃ mA,ObjM h a dx C mA∧(∀ f,gH (fs.lookup f) (mA f))∧PySem.Within mA (fs.map (·.1))∧fs.length≤1000∧H dx=some (.own a):=by
 obtain ⟨d,z,ne,ob,mA,n,r,q⟩:=(show dD P w H h a (.ins C dx fs) from hok a _ e)
 exact ⟨mA,⟨ob,n,ne⟩,r,q,z,d⟩
end
structure Cls (K:PySem.W.Frag) (C:Addr):Prop where
 pg:PySem.W.plainGet K C Str.empty=true
 hd:PySem.W.hasDictIn K C=true
 po:PySem.W.plainOver K C=true
 sa:PySem.W.findIn K (.ref C) "__setattr__"=some (some (.builtin "object.__setattr__"))
theorem Cls.get {K:PySem.W.Frag} {C:Addr} (c:Cls K C) (f:Str):PySem.W.plainGet K C f=true:=c.pg
def kO (K:PySem.W.Frag) (C:Addr) (f:Str):Prop:=PySem.W.findIn K (.ref C) f=some none
theorem kO.taker {K:PySem.W.Frag} {C:Addr} {f:Str} (n:kO K C f):PySem.W.takerIn K C f=some none:=by
 unfold PySem.W.takerIn;rw [show PySem.W.findIn K (.ref C) f=some none from n];rfl
structure Con (K:PySem.W.Frag) (C:Addr) (f:Str) (v:V) (u:Value):Prop where
 at_:PySem.W.findIn K (.ref C) f=some (some u)
 rel:a7 v u
 get:PySem.W.specialIn K u "__get__"=some none
 cp:PySem.W.copiedNames.contains f=false
structure Meth (K:PySem.W.Frag) (C:Addr) (m:Str) (f:Addr):Prop where
 at_:PySem.W.findIn K (.ref C) m=some (some (.ref f))
 fn:PySem.W.isFn K (.ref f)=true
 kp:PySem.W.keepIn K (.ref f)=true
section
variable {X:Cx} {pins:List (Addr × Obj)} {σ:St} {H:Hp} {s:Shared} {a C dx:Addr} {fs:List (Str × V)} {f:Str} {v:V} {A:Around} {E:Value→Shared→Prop}
theorem JL {b:Bool} {Q:Value→Shared→Prop} (I:Inv X pins σ H s) (e:H a=some (.ins C dx fs)) (c:Cls X.K C) (n:kO X.K C f) (l:fs.lookup f=some v)
  (h:∀ u s',Inv X pins σ H s'→a7 v u→Q u s'):wpAny (model X.prog X.w) A (getAttr (.ref a) f b) Q E s:=by
 obtain ⟨mA,O,r,_,_,_⟩:=y8 I.hok e;obtain ⟨u,hu,ru⟩:=gH.some_of (v:=v) (o:=mA f) (by rw [← l]; exact r f);exact UI I.kIn O (c.get f) c.hd n hu (K4 ru) (h u _ (I.tok _) ru)
theorem wX {m:Str} {g:Addr} {pl:Sem Bool} {Q:Value × List Value→Shared→Prop} (I:Inv X pins σ H s) (e:H a=some (.ins C dx fs)) (c:Cls X.K C) (k:Meth X.K C m g) (l:fs.lookup m=none)
  (h:Q (.ref g,[.ref a]) s):wpAny (model X.prog X.w) A (getMethod (.ref a) m pl) Q E s:=by
 obtain ⟨mA,O,r,_,_,_⟩:=y8 I.hok e;have hn:mA m=none:=gH.none_of (by rw [← l]; exact r m);exact OG I.kIn O (c.get m) k.at_ k.fn hn h
theorem HL {y:V} {u:Value} {Q:Unit→Shared→Prop} (I:Inv X pins σ H s) (e:H a=some (.ins C dx fs)) (c:Cls X.K C) (n:kO X.K C f) (hl:fs.length<1000) (ry:a7 y u)
  (h:∀ s',Inv X pins σ (aV H a (.ins C dx (gC f y fs))) s'→Q () s'):wpAny (model X.prog X.w) A (setAttr (.ref a) f u) Q E s:=by
 obtain ⟨mA,O,r,wi,_,ho⟩:=y8 I.hok e;have hz:(fs.map (·.1)).length≤sizeLine:=by rw [List.length_map,sizeLine_eq]; omega
 refine T9 I.kIn O c.sa c.po n.taker c.hd wi hz fun h' O' sb=>h _ ?_
 have hd:∃ o,h'.get? dx=some o:=let ⟨o,_,_,e',_⟩:=O'.ns; ⟨o,e'⟩
 refine I.write (x:=a) (e:=dx) (by rw [e]; exact True.intro) (.inr ho) (fun b q hb z=>(sb.2 b hb).trans z) hd ?_;refine ⟨by rw [aN O.ne]; exact ho, ?_,O.ne,O'.obj,_,O'.ns,fun g=>?_,fun g hg=>?_⟩
 ·have:=uV f y fs; omega
 ·show gH ((gC f y fs).lookup g) (if g=f then some u else mA g);rw [vA];by_cases q:g=f
  ·rw [if_pos q,if_pos q]; exact ry
  ·rw [if_neg q,if_neg q]; exact r g
 ·by_cases q:g=f
  ·rw [q]; exact (sT f y fs).1
  ·refine (sT f y fs).2 g (wi g fun z=>hg ?_);show (if g=f then some u else mA g)=none;rw [if_neg q]; exact z
theorem Inv.made (I:Inv X pins σ H s):Inv X pins σ (aV (aV H s.heap.objs.size (.own (s.heap.objs.size+1))) (s.heap.objs.size+1) (.ins C s.heap.objs.size []))
  { s with heap:=(s.heap.push PySem.W.emptyDict).push (PySem.W.instObj C s.heap.objs.size) }:=by
 have e1:(s.heap.push PySem.W.emptyDict).get? s.heap.objs.size=some PySem.W.emptyDict:=Heap.get?_push_size s.heap rfl
 have e2:((s.heap.push PySem.W.emptyDict).push (PySem.W.instObj C s.heap.objs.size)).get? (s.heap.objs.size+1)=some (PySem.W.instObj C s.heap.objs.size):=by
  have:=Heap.get?_push_size (s.heap.push PySem.W.emptyDict) (o:=PySem.W.instObj C s.heap.objs.size) rfl
  rwa [Heap.size_push] at this
 have e3:(s.heap.push PySem.W.emptyDict).Ns s.heap.objs.size (fun _=>none):=⟨PySem.W.emptyDict,#[],_,e1,rfl,(fun e he=>absurd he (by simp)),fun _=>rfl⟩
 have I1:=I.laid (a:=s.heap.objs.size) (o:=.own (s.heap.objs.size+1)) (h':=s.heap.push PySem.W.emptyDict) (t':=s.toks) (fun b u q=>Heap.get?_push_of_some _ q) (Nat.le_refl _) ⟨_,e1⟩;refine I1.laid (a:=s.heap.objs.size+1) (o:=.ins C s.heap.objs.size []) (t':=s.toks) (fun b u q=>Heap.get?_push_of_some _ q) (Nat.le_of_eq (Heap.size_push _ _)) ?_;have ne:s.heap.objs.size≠s.heap.objs.size+1:=Nat.ne_of_lt (Nat.lt_succ_self _);refine ⟨by rw [aN ne,bC],Nat.zero_le _,ne,e2,fun _=>none,(Heap.Ns1.of_empty e3).at fun o q=>Heap.get?_push_of_some _ q,fun _=>True.intro,fun y hy=>absurd rfl hy⟩
theorem VE {prog:Program} {w:World} {env:Env} {e:Expr} {f:Str} {pos:Pos} {s:Shared} {Q:Value→Shared→Prop} (hb:attributeBase e f env (eval e env)=eval e env)
  (h:wpAny (model prog w) A (eval e env) (fun o s₁=>wpAny (model prog w) A (getAttr o f true) Q E s₁) E s):wpAny (model prog w) A (eval (.Attribute e f pos) env) Q E s :=
 Attribute_any_ h (by rw [arm_eval_Attribute,hb])
end
noncomputable def aEx (K:PySem.W.Frag) (ta:TE) (f:Str):TE:=fun σ H Q=>ta σ H fun x H1=>∃ a C dx fs v,x=.ref a∧H1 a=some (.ins C dx fs)∧Cls K C∧kO K C f∧fs.lookup f=some v∧Q v H1
noncomputable def aET (K:PySem.W.Frag) (ta tv:TE) (f:Str):TS:=fun D σ H=>tv σ H fun y H1=>ta σ H1 fun x H2=>∃ a C dx fs,x=.ref a∧H2 a=some (.ins C dx fs)∧Cls K C∧kO K C f∧fs.length<1000 ∧
 D.nx σ (aV H2 a (.ins C dx (gC f y fs)))
section
variable {X:Cx} {o e value:Expr} {f:Str} {pos pos' tpos:Pos} {ta tv:TE}
theorem aBq (he:PE X e ta) (hb:attributeBase e f X.env (eval e X.env)=eval e X.env):PE X (.Attribute e f pos) (aEx X.K ta f):=by
 intro pins s σ H Q I h;refine VE hb (a6 (he pins s σ H _ I h) fun u s1 ⟨x,H1,I1,rx,a,C,dx,fs,v,ex,ea,c,n,l,q⟩=>?_);subst ex;obtain rfl:u=Value.ref a:=rx;exact JL I1 ea c n l fun u' s2 I2 ru=>⟨v,H1,I2,ru,q⟩
theorem XJ (ha:PE X o ta) (hv:PE X value tv) (hs:swapsWith value (some (.Attribute o f pos')) pos.line X.env=pure false):PS X (.Assign [.Attribute o f pos'] value pos) (aET X.K ta tv f):=by
 intro pins s σ H D I h;refine plainObj_wpAny_Assign_Attribute (a6 (hv pins s σ H _ I h) fun u s1 ⟨y,H1,I1,ry,q⟩=>a6 (ha pins s1 σ H1 _ I1 q) fun ov s2 ⟨x,H2,I2,rx,a,C,dx,fs,ex,ea,c,n,l,q2⟩=>?_) hs;subst ex;obtain rfl:ov=Value.ref a:=rx;exact HL I2 ea c n l ry fun s3 I3=>⟨σ,_,I3,q2⟩
end
section
variable {X:Cx} {pins:List (Addr × Obj)} {σ:St} {H:Hp} {s:Shared} {A:Around} {E:Value→Shared→Prop} {Q:Value→Shared→Prop} {c:Value} {b:Bool}
inductive TyOf (K:PySem.W.Frag) (H:Hp):V→Value→Prop where
 | non:TyOf K H .non (.type "NoneType")
 | bl (x:Bool):TyOf K H (.bl x) (.type "bool")
 | int (i:Int):TyOf K H (.int i) (.type "int")
 | str (x:Str):TyOf K H (.str x) (.type "str")
 | flt (x:UInt64):TyOf K H (.flt x) (.type "float")
 | lst {a:Addr} {xs:List V} (e:H a=some (.lst xs)):TyOf K H (.ref a) (.type "list")
 | frz {a:Addr} {o:Obj} {xs:List V} (e:H a=some (.frz o (.lst xs))):TyOf K H (.ref a) (.type "list")
 | tup {a:Addr} {xs:List V} (e:H a=some (.tup xs)):TyOf K H (.ref a) (.type "tuple")
 | dK {a:Addr} {kvs:List (bP × V)} (e:H a=some (.dK kvs)):TyOf K H (.ref a) (.type "dict")
 | dT {a:Addr} {kvs:List (List bP × V)} (e:H a=some (.dT kvs)):TyOf K H (.ref a) (.type "dict")
 | ins {a C dx:Addr} {fs:List (Str × V)} (e:H a=some (.ins C dx fs)) (cl:Cls K C) (ha:PySem.W.findIn K (.ref C) "__class__"=some (some (.builtin "object.__class__")))
   (hn:PySem.W.specialIn K (.builtin "object.__class__") "__get__"=some (some (.builtin "getset_descriptor.__get__"))) (htk:PySem.W.takesIn K (.builtin "object.__class__")=some true)
   (hm:PySem.W.mroIn K C (.type "object")=some true):TyOf K H (.ref a) (.ref C)
end
structure Room (k:Nat) (A:Around):Prop where
 hd:A.handled=none
 dp:A.depth+3*k+5<recursionLimit
 un:A.units+16*k+200<cLine
 gs:A.guards=some []
theorem Room.mono {j k:Nat} {A:Around} (r:Room k A) (h:j≤k):Room j A:=⟨r.hd,by have:=r.dp; omega,by have:=r.un; omega,by first | exact r.gs | simpa [Around.deeper,Around.under,Code.guards,Code.isGuard,pushGuards,guardIds] using r.gs⟩
theorem Room.deeper {k:Nat} {A:Around} (r:Room (k+1) A) (env:Env):Room k (A.deeper env) :=
 ⟨r.hd,by have:=r.dp; show A.depth+1+3*k+5<_; omega,by have:=r.un; show A.units+3+16*k+200<_; omega,by first | exact r.gs | simpa [Around.deeper,Around.under,Code.guards,Code.isGuard,pushGuards,guardIds] using r.gs⟩
theorem HA {A:Around} {C:Addr} {us:List Value} {kw:List (Str × Value)}:(A.under (.builtin "type.__call__" ⟨.ref C :: us,kw⟩)).depth=A.depth+1:=by
 first | rfl | simp [Around.under,Code.weight,Code.isCreation,Code.isGuard,Code.isCaller,Code.frames,Code.isFrame,guardIds]
theorem HF {A:Around} {C:Addr} {us:List Value} {kw:List (Str × Value)}:(A.under (.builtin "type.__call__" ⟨.ref C :: us,kw⟩)).units=A.units+1:=by
 first | rfl | simp [Around.under,Code.cUnits,Code.frames,Code.isFrame]
theorem Room.make {k:Nat} {A:Around} (r:Room (k+1) A) (C:Addr) (us:List Value) (kw:List (Str × Value)):Room k (A.under (.builtin "type.__call__" ⟨.ref C :: us,kw⟩)) :=
 ⟨r.hd,by have:=r.dp; rw [HA]; omega,by have:=r.un; rw [HF]; omega,by first | exact r.gs | simpa [Around.deeper,Around.under,Code.guards,Code.isGuard,pushGuards,guardIds] using r.gs⟩
theorem Room.depth {k:Nat} {A:Around} (r:Room k A):A.depth<recursionLimit:=by have:=r.dp; omega
theorem Room.units {k:Nat} {A:Around} (r:Room k A):A.units+64<cLine:=by have:=r.un; omega
noncomputable def zH:TA:=fun _ H Q=>Q [] H
noncomputable def tN (ta:TE) (tr:TA):TA:=fun σ H Q=>ta σ H fun x H1=>tr σ H1 fun xs H2=>Q (x :: xs) H2
section
variable {X:Cx} {e:Expr} {es:List Expr} {te:TE} {t:TA} {pos:Pos}
theorem sG:PA X [] zH:=fun _ _ _ _ H Q I h=>Calls.spliced_nil ⟨[],H,I,.nil,h⟩
theorem kC (ha:PE X e te) (hr:PA X es t) (hs:starEach (e :: es) X.env=(false,eval e X.env) :: starEach es X.env:=by rfl):PA X (e :: es) (tN te t):=by
 intro pos pins s σ H Q I h;rw [hs];show wpAny _ _ (spliced ((false,eval e X.env) :: backTo pos (starEach es X.env))) _ _ s;refine Calls.spliced_cons (a6 (ha pins s σ H _ I h) fun u s1 ⟨x,H1,I1,r1,q1⟩=>?_);exact a6 (hr pos pins s1 σ H1 _ I1 q1) fun us s2 ⟨xs,H2,I2,r2,q2⟩=>⟨x :: xs,H2,I2,.cons r1 r2,q2⟩
noncomputable def aEr (t:TA):TE:=fun σ H Q=>t σ H fun xs H1=>xs.length≤sizeLine∧∀ p,H1 p=none→Q (.ref p) (aV H1 p (.tup xs))
noncomputable def aES (t:TA):TE:=fun σ H Q=>t σ H fun xs H1=>xs.length≤sizeLine∧∀ p,H1 p=none→Q (.ref p) (aV H1 p (.lst xs))
theorem aAk {x1} (h:PA X es t):PE X (.Tuple es x1 pos) (aEr t):=by
 intro pins s σ H Q I hq;refine wpAny_Tuple_spliced (a6 (h pos pins s σ H _ I hq) fun us s1 ⟨xs,H1,I1,r,z,q⟩=>⟨by rw [← r.length]; exact z, ?_⟩);have hf:H1 s1.heap.objs.size=none:=I1.hok.fresh (Nat.le_refl _);refine ⟨.ref s1.heap.objs.size,aV H1 s1.heap.objs.size (.tup xs),I1.laid (t':=s1.toks) (fun b u e=>Heap.get?_push_of_some _ e) (Nat.le_refl _) ?_,rfl,q _ hf⟩;exact ⟨z,us,r,⟨_,Heap.get?_push_size _ rfl,rfl,_,rfl⟩⟩
theorem aBC (h:PA X es t):PE X (.List es pos) (aES t):=by
 intro pins s σ H Q I hq;refine wpAny_List_spliced (a6 (h pos pins s σ H _ I hq) fun us s1 ⟨xs,H1,I1,r,z,q⟩=>⟨by rw [← r.length]; exact z, ?_⟩);have hf:H1 s1.heap.objs.size=none:=I1.hok.fresh (Nat.le_refl _);refine ⟨.ref s1.heap.objs.size,aV H1 s1.heap.objs.size (.lst xs),I1.laid (t':=s1.toks) (fun b u e=>Heap.get?_push_of_some _ e) (Nat.le_refl _) ?_,rfl,q _ hf⟩;exact ⟨z,us,0,r,Heap.get?_push_size _ rfl⟩
end
abbrev Sp:=List V→Hp→VK→XK→Prop
abbrev rJ:=List Env→Hp→Shared→XK→Value→Shared→Prop
structure Env0 (P:Program) (w:World) (K:PySem.W.Frag) (mg:Str→Option Value) (base:Heap) (A:Around) (outer:List Env) (s:Shared) (H:Hp):Prop where
 frames:A.frames=some outer
 mod:Mod K mg base
 bs:∀ b o,base.get? b=some o→s.heap.get? b=some o∧H b=none
 bsz:base.objs.size≤s.heap.objs.size
 funs:s.heap.FunFrames base outer
 frf:∀ b∈fU outer,H b=none
 hok:eD P w H s.heap
 bare:AllBare s.gens
def CE (outer:List Env) (P:Program) (w:World) (H:Hp) (s:Shared) (Q:VK) (u:Value) (s':Shared):Prop :=
 ∃ v H',s'.os=s.os∧AllBare s'.gens∧Un (fU outer) [] H H' s.heap s'.heap∧eD P w H' s'.heap∧a7 v u∧Q v H'
def CR (CX:rJ) (outer:List Env) (P:Program) (w:World) (H:Hp) (s:Shared) (Q:VK) (E:XK) (r:Result) (s':Shared):Prop :=
 match r with
 | .ok (.ret u)=>CE outer P w H s Q u s'
 | .ok _=>False
 | .error e=>CX outer H s E e s'
structure FnOk (P:Program) (w:World) (K:PySem.W.Frag) (mg:Str→Option Value) (base:Heap) (CX:rJ) (k:Nat) (f:Addr) (fd:FuncData) (ps:List Str) (sp:Sp):Prop where
 len:∀ vs H Q E,sp vs H Q E→vs.length=ps.length
 run:∀ (A:Around) (outer:List Env) (s:Shared) (H:Hp) (args:Args) (us:List Value) (vs:List V) (Q:VK) (E:XK),Room k A→Env0 P w K mg base A outer s H→BindsTo s fd args (ps.zip us)→aU vs us→sp vs H Q E →
  codeAny (model P w) A (.call (.ref f) args) (CR CX outer P w H s Q E) s
theorem Env0.make {P:Program} {w:World} {K:PySem.W.Frag} {mg:Str→Option Value} {base:Heap} {A:Around} {outer:List Env} {s:Shared} {H:Hp} (e:Env0 P w K mg base A outer s H) (C:Addr) (us:List Value) (kw:List (Str × Value)) :
  Env0 P w K mg base (A.under (.builtin "type.__call__" ⟨.ref C :: us,kw⟩)) outer s H:=⟨by first | exact e.frames | (simpa [Around.under,Code.envs,Code.isFrame,pushEnvs] using e.frames),e.mod,e.bs,e.bsz,e.funs,e.frf,e.hok,e.bare⟩
section
variable {X:Cx} {pins:List (Addr × Obj)} {σ:St} {H:Hp} {s s':Shared}
theorem Inv.env0 (I:Inv X pins σ H s):Env0 X.prog X.w X.K X.mg X.base X.A X.stack s H :=
 ⟨I.ok.frames,I.ok.mod,I.bs,Nat.le_trans I.ok.bsz I.sz,I.stack,I.stkFree,I.hok,I.bare⟩
theorem Inv.after {Q:VK} {u:Value} (I:Inv X pins σ H s) (h:CE X.stack X.prog X.w H s Q u s'):EP X pins σ Q u s':=by
 obtain ⟨v,H',os,bare,un,hok,r,q⟩:=h;obtain ⟨hh,g,d,t,os'⟩:=s';obtain rfl:os'=s.os:=os;exact ⟨v,H',I.call (h':=hh) (g':=g) (d':=d) (t':=t) (ch:=[]) un hok bare (fun b z=>absurd z (by simp)),r,q⟩
end
noncomputable def aB4 (sp:Sp) (dvs:List V) (E:XK) (t:TA):TE:=fun σ H Q=>t σ H fun vs H1=>sp (vs ++ dvs) H1 Q E
noncomputable def HP (C:Addr) (m:Str) (sp:Sp) (dvs:List V) (E:XK) (ta:TE) (t:TA):TE:=fun σ H Q=>ta σ H fun x H1=>∃ a dx fs,x=.ref a∧H1 a=some (.ins C dx fs)∧fs.lookup m=none ∧
 t σ H1 fun vs H2=>sp (x :: (vs ++ dvs)) H2 Q E
noncomputable def aCz (C:Addr) (sp:Sp) (dvs:List V) (E:XK) (t:TA):TE:=fun σ H Q=>t σ H fun vs H1=>∀ x dx,H1 x=none→H1 dx=none→dx≠x →
 sp (.ref x :: (vs ++ dvs)) (aV (aV H1 dx (.own x)) x (.ins C dx [])) (fun v H2=>v=.non∧Q (.ref x) H2) E
def eS (K:PySem.W.Frag) (fd:FuncData) (ps:List Str) (ds:List Value):Prop :=
 ∀ (s:Shared) (us:List Value),K.In s.heap→(us ++ ds).length=ps.length→BindsTo s fd ⟨us,[]⟩ (ps.zip (us ++ ds))
theorem eS.all {K:PySem.W.Frag} {fd:FuncData} {ps:List Str} (h:∀ us:List Value,us.length=ps.length→bindArgs fd ⟨us,[]⟩=pure (ps.zip us)):eS K fd ps []:=fun s us _ hl=>by
 rw [List.append_nil] at hl ⊢;exact .of_eq (h us hl)
def l6 (CX:rJ) (X:Cx) (E:XK):Prop:=∀ (pins:List (Addr × Obj)) (σ:St) (H:Hp) (s:Shared) (e:Value) (s':Shared),Inv X pins σ H s→CX X.stack H s E e s'→X.xe e s'
section
variable {X:Cx} {CX:rJ} {k:Nat} {f C:Addr} {fd:FuncData} {ps:List Str} {sp:Sp} {dvs:List V} {ds:List Value} {E:XK} {x m:Str} {p pos apos:Pos} {e o:Expr} {es:List Expr} {ta:TE} {t:TA}
theorem C1 {pins:List (Addr × Obj)} {σ:St} {H:Hp} {s:Shared} {Q:VK} {us:List Value} {vs:List V} (F:FnOk X.prog X.w X.K X.mg X.base CX k f fd ps sp) (hr:Room k X.A) (hb:eS X.K fd ps ds) (hd:aU dvs ds) (hx:l6 CX X E)
  (I:Inv X pins σ H s) (r:aU vs us) (h:sp (vs ++ dvs) H Q E):wpAny (model X.prog X.w) X.A (call (.ref f) us) (EP X pins σ Q) X.xe s:=by
 have r2:aU (vs ++ dvs) (us ++ ds):=r.append hd;have hl:(us ++ ds).length=ps.length:=by rw [← r2.length]; exact F.len _ _ _ _ h
 refine wpAny_call (codeAny_mono (F.run X.A X.stack s H ⟨us,[]⟩ (us ++ ds) (vs ++ dvs) Q E hr I.env0 (hb s us I.kIn hl) r2 h) fun r s' hq=>?_)
 cases r with
 | error e=>exact hx pins σ H s e s' I hq
 | ok fl =>
  cases fl with
  | ret u=>exact I.after hq
  | next=>exact False.elim hq
  | brk=>exact False.elim hq
  | cont=>exact False.elim hq
theorem W8 (F:FnOk X.prog X.w X.K X.mg X.base CX k f fd ps sp) (hr:Room k X.A) (hg:Gl X x) (hm:X.mg x=some (.ref f)) (hk:PySem.W.keepIn X.K (.ref f)=true) (hb:eS X.K fd ps ds) (hd:aU dvs ds) (hx:l6 CX X E)
  (ha:PA X (e :: es) t) (hdb:(x == ("__debug__":Str))=false:=by decide) (he:starEach (e :: es) X.env=(false,eval e X.env) :: starEach es X.env:=by rfl) (hpl:(backTo pos (starEach es X.env)).any (·.1)=false:=by rfl) :
  PE X (.Call (.Name x p) (e :: es) [] pos) (aB4 sp dvs E t):=by
 intro pins s σ H Q I h;refine wpAny_Call_Name_kw (lZ I hg hm ?_ hdb);refine PySem.W.callWith_K (h₀:=X.base) I.ok.mod.kin hk (a6 (ha pos pins s σ H _ I h) fun us s1 ⟨vs,H1,I1,r,q⟩=>⟨I1.kIn, ?_⟩) he hpl;exact C1 F hr hb hd hx I1 r q
theorem WV {pl:Sem Bool} (he:PE X o ta) (c:Cls X.K C) (hm:Meth X.K C m f) (F:FnOk X.prog X.w X.K X.mg X.base CX k f fd ps sp) (hr:Room k X.A) (hb:eS X.K fd ps ds) (hd:aU dvs ds) (hx:l6 CX X E) (ha:PA X (e :: es) t)
  (hst:starEach (e :: es) X.env=(false,eval e X.env) :: starEach es X.env:=by rfl) (hpl:(backTo pos (starEach es X.env)).any (·.1)=false:=by rfl)
  (ht:eval (.Call (.Attribute o m apos) (e :: es) [] pos) X.env=(do
   let ov ← eval o X.env
   standAt apos.atName
   let (f,first) ← holding [ov] (getMethod ov m pl)
   callWith pos f first (backTo pos (starEach (e :: es) X.env)) (backToKw pos (keywordEach [] X.env))):=by rfl) :
  PE X (.Call (.Attribute o m apos) (e :: es) [] pos) (HP C m sp dvs E ta t):=by
 intro pins s σ H Q I h;refine PySem.W.methodCall_KW (pl:=pl) (a6 (he pins s σ H _ I h) fun u s1 ⟨x,H1,I1,rx,a,dx,fs,ex,ea,l,q⟩=>?_) ht;subst ex;obtain rfl:u=Value.ref a:=rx;refine wX I1 ea c hm l ?_;refine PySem.W.callWith_K (first:=[.ref a]) (h₀:=X.base) I.ok.mod.kin hm.kp (a6 (ha pos pins s1 σ H1 _ I1 q) fun us s2 ⟨vs,H2,I2,r,q2⟩=>⟨I2.kIn, ?_⟩) hst hpl;exact C1 (us:=.ref a :: us) (vs:=.ref a :: vs) F hr hb hd hx I2 (.cons rfl r) q2
theorem OW {pl:Sem Bool} (he:PE X o ta) (c:Cls X.K C) (hm:Meth X.K C m f) (F:FnOk X.prog X.w X.K X.mg X.base CX k f fd ps sp) (hr:Room k X.A) (hb:eS X.K fd ps ds) (hd:aU dvs ds) (hx:l6 CX X E)
  (ht:eval (.Call (.Attribute o m apos) [] [] pos) X.env=(do
   let ov ← eval o X.env
   standAt apos.atName
   let (f,first) ← holding [ov] (getMethod ov m pl)
   callWith pos f first (backTo pos (starEach [] X.env)) (backToKw pos (keywordEach [] X.env))):=by rfl) :
  PE X (.Call (.Attribute o m apos) [] [] pos) (HP C m sp dvs E ta zH):=by
 intro pins s σ H Q I h;refine PySem.W.methodCall_KW (pl:=pl) (a6 (he pins s σ H _ I h) fun u s1 ⟨x,H1,I1,rx,a,dx,fs,ex,ea,l,q⟩=>?_) ht;subst ex;obtain rfl:u=Value.ref a:=rx;refine wX I1 ea c hm l ?_;exact PySem.W.callWith_K0 (first:=[.ref a]) I1.kIn hm.kp (C1 (us:=[.ref a]) (vs:=[.ref a]) F hr hb hd hx I1 (.cons rfl .nil) q)
structure Mk (K:PySem.W.Frag) (C f:Addr):Prop where
 makes:PySem.W.makesIn K C=true
 init:PySem.W.findIn K (.ref C) "__init__"=some (some (.ref f))
 fn:PySem.W.isFn K (.ref f)=true
 kp:PySem.W.keepIn K (.ref C)=true
theorem N3 {pins:List (Addr × Obj)} {σ:St} {H:Hp} {s:Shared} {Q:VK} {us:List Value} {vs:List V} (M:Mk X.K C f) (F:FnOk X.prog X.w X.K X.mg X.base CX k f fd ps sp) (hr:Room (k+1) X.A) (hb:eS X.K fd ps ds) (hd:aU dvs ds)
  (hx:l6 CX X E) (I:Inv X pins σ H s) (r:aU vs us)
  (h:∀ x dx,H x=none→H dx=none→dx≠x→sp (.ref x :: (vs ++ dvs)) (aV (aV H dx (.own x)) x (.ins C dx [])) (fun v H2=>v=.non∧Q (.ref x) H2) E) :
  wpAny (model X.prog X.w) X.A (call (.ref C) us) (EP X pins σ Q) X.xe s:=by
 have hq:=h (s.heap.objs.size+1) s.heap.objs.size (I.hok.fresh (Nat.le_succ _)) (I.hok.fresh (Nat.le_refl _)) (Nat.ne_of_lt (Nat.lt_succ_self _));have I2:=Inv.made (C:=C) I;have r2:aU (V.ref (s.heap.objs.size+1) :: (vs ++ dvs)) (Value.ref (s.heap.objs.size+1) :: (us ++ ds)):=.cons rfl (r.append hd)
 have hl:(Value.ref (s.heap.objs.size+1) :: us ++ ds).length=ps.length:=by
  have e:=r2.length;rw [F.len _ _ _ _ hq] at e;exact e.symm
 refine wpAny_call (NH (f:=f) I.kIn M.makes M.init (beq_iff_eq.mp M.fn) (codeAny_mono (F.run _ X.stack _ _ ⟨Value.ref (s.heap.objs.size+1) :: us,[]⟩ (Value.ref (s.heap.objs.size+1) :: (us ++ ds)) _ _ E (hr.make C us [])
  (I2.env0.make C us []) (hb _ (Value.ref (s.heap.objs.size+1) :: us) I2.kIn hl) r2 hq) fun r s' hq'=>?_))
 cases r with
 | error e=>exact hx pins σ _ _ e s' I2 hq'
 | ok fl =>
  cases fl with
  | ret u =>
   obtain ⟨v,H',I3,rv,ev,q3⟩:=I2.after hq';subst ev;exact ⟨rv,⟨V.ref (s.heap.objs.size+1),H',I3,rfl,q3⟩⟩
  | next=>exact False.elim hq'
  | brk=>exact False.elim hq'
  | cont=>exact False.elim hq'
theorem WJ (M:Mk X.K C f) (F:FnOk X.prog X.w X.K X.mg X.base CX k f fd ps sp) (hr:Room (k+1) X.A) (hg:Gl X x) (hm:X.mg x=some (.ref C)) (hb:eS X.K fd ps ds) (hd:aU dvs ds) (hx:l6 CX X E)
  (ha:PA X (e :: es) t) (hdb:(x == ("__debug__":Str))=false:=by decide) (he:starEach (e :: es) X.env=(false,eval e X.env) :: starEach es X.env:=by rfl) (hpl:(backTo pos (starEach es X.env)).any (·.1)=false:=by rfl) :
  PE X (.Call (.Name x p) (e :: es) [] pos) (aCz C sp dvs E t):=by
 intro pins s σ H Q I h;refine wpAny_Call_Name_kw (lZ I hg hm ?_ hdb);refine PySem.W.callWith_K (h₀:=X.base) I.ok.mod.kin M.kp (a6 (ha pos pins s σ H _ I h) fun us s1 ⟨vs,H1,I1,r,q⟩=>⟨I1.kIn, ?_⟩) he hpl;exact N3 M F hr hb hd hx I1 r q
end
def PK (X:Cx) (kws:List Keyword) (t:TA):Prop :=
 ∀ (pos:Pos) (pins:List (Addr × Obj)) (s:Shared) (σ:St) (H:Hp) (Q:List V→Hp→Prop),Inv X pins σ H s→t σ H Q→wpAny (model X.prog X.w) X.A (evalAll ((backToKw pos (keywordEach kws X.env)).map (·.2))) (AP X pins σ Q) X.xe s
section
variable {X:Cx} {CX:rJ} {k:Nat} {f C:Addr} {fd:FuncData} {ps ks:List Str} {sp:Sp} {E:XK} {x m:Str} {p pos apos kpos:Pos} {e o:Expr} {es:List Expr} {kws:List Keyword} {te ta:TE} {t tk:TA} {nm:Option Str}
theorem aBB:PK X [] zH:=fun _ _ _ _ H Q I h=>wpAny_evalAll_nil ⟨[],H,I,.nil,h⟩
theorem TV (ha:PE X e te) (hr:PK X kws t):PK X (⟨nm,e,kpos⟩ :: kws) (tN te t):=by
 intro pos pins s σ H Q I h;show wpAny _ _ (evalAll ((do let v ← eval e X.env; standAt pos; pure v) :: (backToKw pos (keywordEach kws X.env)).map (·.2))) _ _ s;refine wpAny_evalAll_cons (wpAny_bind (a6 (ha pins s σ H _ I h) fun u s1 ⟨x,H1,I1,r1,q1⟩=>wpAny_bind (wpAny_standAt (wpAny_pure ?_))));exact a6 (hr pos pins s1 σ H1 _ I1 q1) fun us s2 ⟨xs,H2,I2,r2,q2⟩=>⟨x :: xs,H2,I2,.cons r1 r2,q2⟩
structure KBinds (K:PySem.W.Frag) (fd:FuncData) (ps ks:List Str) (g:List Value→List Value→List Value) (gV:List V→List V→List V):Prop where
 to:∀ (s:Shared) (us ws:List Value),K.In s.heap→(g us ws).length=ps.length→BindsTo s fd ⟨us,ks.zip ws⟩ (ps.zip (g us ws))
 rel:∀ {vs:List V} {us:List Value} {zs:List V} {ws:List Value},aU vs us→aU zs ws→aU (gV vs zs) (g us ws)
variable {g:List Value→List Value→List Value} {gV:List V→List V→List V}
end
structure FnScope (N P:List Str) (sc:Scope):Prop where
 kind:sc.kind=.function
 co:sc.isCoroutine=false
 gen:sc.isGenerator=false
 nd:N.Nodup
 pre:N.take P.length=P
 par:∀ x∈P,sc.names.lookup x=some .local∨sc.names.lookup x=some .cell
 nofree:∀ y∈sc.names,y.2≠.free
theorem AG {kindOf:Str→Option NameKind} {x:Str}:∀ {binds:List (Str × Value)} {m:Str→Option Value},(∀ v,(x,v) ∉ binds)→bindL kindOf binds m x=m x
 | [],_,_=>rfl
 | (n,v) :: r,m,h=>by
  unfold bindL;rw [AG fun w hw=>h w (List.mem_cons_of_mem _ hw)];split
  ·have:x≠n:=by rintro rfl; exact h v List.mem_cons_self
   simp [this]
  ·rfl
theorem zY {kindOf:Str→Option NameKind} {x:Str}:∀ {binds:List (Str × Value)} {m:Str→Option Value},(∀ v,(x,v) ∉ binds)→bindC kindOf binds m x=m x
 | [],_,_=>rfl
 | (n,v) :: r,m,h=>by
  unfold bindC;rw [zY fun w hw=>h w (List.mem_cons_of_mem _ hw)];split
  ·rfl
  ·have:x≠n:=by rintro rfl; exact h v List.mem_cons_self
   simp [this]
theorem AB {kindOf:Str→Option NameKind} {x:Str} {v:Value}:∀ {P:List Str} {vs:List Value} {i:Nat} {m:Str→Option Value},P.Nodup→P[i]?=some x→vs[i]?=some v→kindOf x=some .local →
  bindL kindOf (P.zip vs) m x=some v
 | [],_,_,_,_,h,_,_=>by simp at h
 | _ :: _,[],_,_,_,_,h,_=>by simp at h
 | p :: P,w :: vs,0,m,nd,h1,h2,hk=>by
  simp at h1 h2; subst h1; subst h2;show bindL kindOf ((p,w) :: P.zip vs) m p=_;unfold bindL;rw [AG fun v hv=>(List.nodup_cons.mp nd).1 (List.of_mem_zip hv).1,if_pos hk];simp
 | p :: P,w :: vs,i+1,m,nd,h1,h2,hk=>by
  show bindL kindOf ((p,w) :: P.zip vs) m x=_;unfold bindL;exact AB (i:=i) (List.nodup_cons.mp nd).2 (by simpa using h1) (by simpa using h2) hk
theorem zK {kindOf:Str→Option NameKind} {x:Str} {v:Value}:∀ {P:List Str} {vs:List Value} {i:Nat} {m:Str→Option Value},P.Nodup→P[i]?=some x→vs[i]?=some v→kindOf x≠some .local →
  bindC kindOf (P.zip vs) m x=some v
 | [],_,_,_,_,h,_,_=>by simp at h
 | _ :: _,[],_,_,_,_,h,_=>by simp at h
 | p :: P,w :: vs,0,m,nd,h1,h2,hk=>by
  simp at h1 h2; subst h1; subst h2;show bindC kindOf ((p,w) :: P.zip vs) m p=_;unfold bindC;rw [zY fun v hv=>(List.nodup_cons.mp nd).1 (List.of_mem_zip hv).1,if_neg hk];simp
 | p :: P,w :: vs,i+1,m,nd,h1,h2,hk=>by
  show bindC kindOf ((p,w) :: P.zip vs) m x=_;unfold bindC;exact zK (i:=i) (List.nodup_cons.mp nd).2 (by simpa using h1) (by simpa using h2) hk
noncomputable def b0 (N:List Str) (vs:List V):St:=vs.map some ++ List.replicate (N.length - vs.length) none
noncomputable def kD (CX:rJ) (P:Program) (w:World) (K:PySem.W.Frag) (mg:Str→Option Value) (base:Heap) (N:List Str) (qual:Str) (scope:Scope) (f:Addr) (cd:Value) (A:Around) (outer:List Env) (s:Shared) (H:Hp) (E:XK):Cx where
 prog:=P
 w:=w
 K:=K
 mg:=mg
 base:=base
 A:=A.deeper (envOfC qual scope s.heap.objs.size f cd)
 N:=N
 s₀:=s
 H₀:=H
 env:=envOfC qual scope s.heap.objs.size f cd
 outer:=outer
 stack:=envOfC qual scope s.heap.objs.size f cd :: outer
 ex:=[]
 calm:=true
 fn:=fun _=>true
 pn:=[]
 xe:=fun e s'=>wpAny (model P w) (A.deeper (envOfC qual scope s.heap.objs.size f cd)) (leaving (envOfC qual scope s.heap.objs.size f cd) e) (fun _ s''=>CX outer H s E e s'') (fun e' s''=>CX outer H s E e' s'') s'
theorem DQ {sc:Scope} {n:Nat} {x:Str} (h:sc.names.lookup x=some .cell):∃ c,(cellsFrom n sc.names []).lookup x=some c:=by
 have q:=PySem.W.cellsFrom_some sc.names n [] (.inl h);exact Option.isSome_iff_exists.mp q
theorem LA {CX:rJ} {P:Program} {w:World} {K:PySem.W.Frag} {mg:Str→Option Value} {base:Heap} {N ps:List Str} {qual:Str} {scope:Scope} {f:Addr} {cd:Value} {A:Around} {outer:List Env} {s s1:Shared} {H:Hp} {E:XK} {us:List Value} {vs:List V}
  (S:FnScope N ps scope) (hd:A.handled=none) (e0:Env0 P w K mg base A outer s H) (hl:vs.length=ps.length) (r:aU vs us)
  (x:InCallC s s.heap.objs.size (bindL (envOfC qual scope s.heap.objs.size f cd).kindOf (ps.zip us) fun _=>none) (cellsFrom (s.heap.objs.size+1) scope.names []) (bindC (envOfC qual scope s.heap.objs.size f cd).kindOf (ps.zip us) fun _=>none) s1) :
  Inv (kD CX P w K mg base N qual scope f cd A outer s H E) [] (b0 N vs) H s1:=by
 have hpl:ps.length≤N.length:=by have:=congrArg List.length S.pre; rw [List.length_take] at this; omega
 obtain ⟨h1,tk,rfl,hk⟩:=x.done;have noA:∀ b:Addr,b ∉ (kD CX P w K mg base N qual scope f cd A outer s H E).ex:=fun b z=>absurd (show b∈([]:List Addr) from z) (by simp)
 refine ⟨⟨e0.mod,S.kind,rfl,rfl,Nat.le_refl _,fun y z c h1 h2=>?_,fun y hy=>?_,fun y c _ h=>?_,fun _=>hd,Around.frames_deeper e0.frames,.inr ⟨rfl,rfl⟩,fun b z=>absurd z (noA b),e0.bs,e0.bsz,fun b _ _=>noA b,fun b z=>absurd z (noA b),e0.funs,e0.frf⟩,
  rfl,e0.bare,Un.kept hk,⟨_,x.toInCall.ns,fun i y v h1 h2 h3=>?_⟩,fun y c h=>⟨_,x.cell y c h⟩,e0.hok.fresh (Nat.le_refl _),fun y c h=>?_,fun p hp=>absurd (show p∈([]:List (Addr × Obj)) from hp) (by simp),e0.hok.kept hk, ?_⟩
 ·exact name_of_addr x.apart (PySem.mem_of_lookup h1) (PySem.mem_of_lookup h2)
 ·have hy:scope.names.lookup y=some .cell∨scope.names.lookup y=some .free:=hy;rcases hy with hy | hy
  ·exact DQ hy
  ·exact absurd rfl (S.nofree _ (PySem.mem_of_lookup hy))
 ·exact Nat.le_of_lt (x.above y c (PySem.mem_of_lookup h))
 ·have hi:i<vs.length:=by
   unfold b0 at h2;by_cases hi:i<vs.length
   ·exact hi
   ·rw [List.getElem?_append_right (by simpa using hi)] at h2;rw [List.getElem?_replicate] at h2;split at h2 <;> cases h2
  have ha:vs[i]?=some v:=by
   unfold b0 at h2;rw [List.getElem?_append_left (by simpa using hi),List.getElem?_map] at h2
   cases e:vs[i]? with
   | none=>rw [e] at h2; cases h2
   | some a=>rw [e] at h2; cases h2; rfl
  obtain ⟨u,hu,rv⟩:=r.get ha
  have hp:ps[i]?=some y:=by
   rw [← S.pre,List.getElem?_take_of_lt (by omega)]; exact h1
  have ndP:ps.Nodup:=by rw [← S.pre]; exact S.nd.sublist (List.take_sublist _ _)
  refine ⟨u,rv, ?_⟩;rcases S.par y (List.mem_of_getElem? hp) with k | k
  ·exact .inl ⟨k,AB ndP hp hu k⟩
  ·obtain ⟨c,e⟩:=DQ (n:=s.heap.objs.size+1) k;refine .inr ⟨.inl k,c,e, ?_⟩;have q:=x.cell y c e;rw [zK ndP hp hu (by show scope.names.lookup y≠_; rw [k]; decide)] at q;exact q
 ·exact e0.hok.fresh (Nat.le_of_lt (x.above y c (PySem.mem_of_lookup h)))
 ·unfold b0;show _=N.length;rw [List.length_append,List.length_map,List.length_replicate];omega
theorem RZ {CX:rJ} {P:Program} {w:World} {K:PySem.W.Frag} {mg:Str→Option Value} {base:Heap} {k:Nat} {f:Addr} {name qual:Str} {params:Arguments} {body:List Stmt} {scope:Scope} {dV kV doc pm cdv ct oc:Value} {an od:Option Addr}
  {osl:Array (Option Value)} {N ps:List Str} {sp:Sp} (lk:K.lookup f=some ⟨oc,od,.func (PySem.W.fnOf name qual params body scope dV kV doc pm an cdv ct),osl⟩) (hcd:PySem.W.codeIn K cdv qual=true) (S:FnScope N ps scope)
  (len:∀ vs H Q E,sp vs H Q E→vs.length=ps.length)
  (hbody:∀ (A:Around) (outer:List Env) (s:Shared) (H:Hp) (vs:List V) (Q:VK) (E:XK),Room k (A.deeper (envOfC qual scope s.heap.objs.size f cdv))→sp vs H Q E →
   ∃ t,fE (kD CX P w K mg base N qual scope f cdv A outer s H E) body t∧t { nx:=fun _ H'=>Q .non H',rt:=Q } (b0 N vs) H) :
  FnOk P w K mg base CX (k+1) f (PySem.W.fnOf name qual params body scope dV kV doc pm an cdv ct) ps sp:=by
 refine ⟨len,fun A outer s H args us vs Q E hr e0 hb r hsp=>?_⟩;have hl:=len _ _ _ _ hsp;have KX:K.In s.heap:=e0.mod.kin.keeps fun b o e=>(e0.bs b o e).1
 have lim:s.heap.NoLimit:=e0.mod.nolimit.keeps fun b o e=>(e0.bs b o e).1
 have hkind:∀ y∈ps.zip us,scope.names.lookup y.1=some .local∨(scope.names.lookup y.1=some .cell∧((cellsFrom (s.heap.objs.size+1) scope.names []).lookup y.1).isSome=true):=fun ⟨n,v⟩ hy=>by
  rcases S.par n (List.of_mem_zip hy).1 with q | q
  ·exact .inl q
  ·exact .inr ⟨q,PySem.W.cellsFrom_some _ _ _ (.inl q)⟩
 refine codeAny_call_function hr.depth (KX _ _ lk) rfl S.co S.gen rfl (PySem.W.codeRec_of KX hcd) (hb _ _ _ _ ?_);refine wpAny_newFunctionEnv_cells S.kind hkind fun env he s1 x=>?_
 subst he;refine ⟨lim.keeps x.toInCall.keep,codeAny_func ?_⟩;obtain ⟨t,ht,hq⟩:=hbody A outer s H vs Q E (hr.deeper _) hsp;have I:Inv (kD CX P w K mg base N qual scope f cdv A outer s H E) [] (b0 N vs) H s1:=LA S hr.hd e0 hl r x;refine wpAny_mono (ht [] s1 (b0 N vs) H _ I hq) (fun fl s' hs=>?_) fun e s' hs=>hs
 have fin:∀ {σ':St} {H':Hp} {v:V} {u:Value},Inv (kD CX P w K mg base N qual scope f cdv A outer s H E) [] σ' H' s'→a7 v u→Q v H'→CE outer P w H s Q u s' :=
  fun {σ' H' v u} J rv q=>⟨v,H',J.os,J.bare,J.base,J.hok,rv,q⟩
 cases fl with
 | ret u =>
  obtain ⟨v,σ',H',J,rv,q⟩:=hs;exact fin J rv q
 | next =>
  obtain ⟨σ',H',J,q⟩:=hs;exact fin (v:=V.non) (u:=Value.none) J rfl q
 | brk =>
  obtain ⟨_,_,_,q⟩:=hs;exact False.elim q
 | cont =>
  obtain ⟨_,_,_,q⟩:=hs;exact False.elim q
section
variable {X:Cx} {x:Str} {p pos:Pos} {e:Expr} {es:List Expr} {t:TA} {id T:String} {r:List V→Hp→VK→Prop}
noncomputable def Z8 (r:List V→Hp→VK→Prop) (t:TA):TE:=fun σ H Q=>t σ H fun vs H1=>r vs H1 Q
theorem CK (hc:fP X (.builtin id) r) (hg:Gl X x) (hm:X.mg x=none) (hv:bootBuiltins x=some (.builtin id)) (ha:PA X (e :: es) t) (hn:x≠"__name__":=by decide) (hdb:(x == ("__debug__":Str))=false:=by decide)
  (he:starEach (e :: es) X.env=(false,eval e X.env) :: starEach es X.env:=by rfl) (hpl:(backTo pos (starEach es X.env)).any (·.1)=false:=by rfl):PE X (.Call (.Name x p) (e :: es) [] pos) (Z8 r t):=by
 intro pins s σ H Q I h;refine wpAny_Call_Name_kw (mI I hg hm hv ?_ hn hdb);exact PyProof.Rows.callWith_builtin1 (a6 (ha pos pins s σ H _ I h) fun us s1 ⟨vs,H1,I1,r1,q1⟩=>hc pins s1 σ H1 vs us Q I1 r1 q1) he hpl
theorem J5 (hc:fP X (.type T) r) (hg:Gl X x) (hm:X.mg x=none) (hv:bootBuiltins x=some (.type T)) (ha:PA X (e :: es) t) (hn:x≠"__name__":=by decide) (hdb:(x == ("__debug__":Str))=false:=by decide)
  (he:starEach (e :: es) X.env=(false,eval e X.env) :: starEach es X.env:=by rfl) (hpl:(backTo pos (starEach es X.env)).any (·.1)=false:=by rfl):PE X (.Call (.Name x p) (e :: es) [] pos) (Z8 r t):=by
 intro pins s σ H Q I h;refine wpAny_Call_Name_kw (mI I hg hm hv ?_ hn hdb);exact PyProof.Rows.callWith_type1 (a6 (ha pos pins s σ H _ I h) fun us s1 ⟨vs,H1,I1,r1,q1⟩=>hc pins s1 σ H1 vs us Q I1 r1 q1) he hpl
end
end L2
namespace HT
open PySem PyProof.Rows
section
open PySem.SeqAt
open PySem.AutoSeq1 (wpAny_loadPart')
open PySem.MeetsSeq PySem.MeetsSeq2 PySem.MeetsSeq3
end
section
variable {prog:Program} {w:World} {A:Around} {E:Value→Shared→Prop} {s:Shared}
noncomputable def bS (n d:Nat):Option Int→Nat
 | none=>d
 | some v=>if v<0 then (v+(n:Int)).toNat else min v.toNat n
theorem E8 (n d k:Nat):bS n d (some (k:Int))=min k n:=by
 show (if (k:Int)<0 then ((k:Int)+(n:Int)).toNat else min (k:Int).toNat n)=min k n;rw [if_neg (by omega),Int.toNat_natCast]
theorem aAd (n d:Nat) (hd:d≤n) (o:Option Int):bS n d o≤n:=by
 cases o with
 | none=>exact hd
 | some v =>
  show (if v<0 then (v+(n:Int)).toNat else min v.toNat n)≤n;by_cases hv:v<0
  ·rw [if_pos hv]; omega
  ·rw [if_neg hv]; exact Nat.min_le_right _ _
theorem FA (v:Int) (n d:Nat):(if v<0 then max (v+(n:Int)) 0 else min v (n:Int))=((bS n d (some v):Nat):Int):=by
 show (if v<0 then max (v+(n:Int)) 0 else min v (n:Int))=(((if v<0 then (v+(n:Int)).toNat else min v.toNat n):Nat):Int);by_cases hv:v<0
 ·simp only [if_pos hv]; omega
 ·simp only [if_neg hv]; omega
theorem JE (lo hi:Option Int) (n:Nat):Builtin.Slice.sliceAdjust lo hi 1 (n:Int)=(((bS n 0 lo:Nat):Int),((bS n n hi:Nat):Int)):=by
 have h1:¬ ((1:Int)<0):=by omega
 unfold Builtin.Slice.sliceAdjust;simp only [h1,if_false];refine Prod.ext ?_ ?_
 ·cases lo with
  | none=>rfl
  | some v=>exact FA v n 0
 ·cases hi with
  | none=>rfl
  | some v=>exact FA v n n
theorem JU (i j:Nat):Builtin.Slice.slicePlaces (i:Int) (j:Int) 1=j - i:=by
 unfold Builtin.Slice.slicePlaces;have h1:(1:Int) > 0:=by omega
 simp only [h1,if_true,Int.ediv_one]
 split <;> omega
theorem pG {v:Value} {o:Option Int} {Q:Option Int→Shared→Prop} (p:IsPart v o) (h:Q o s):wpAny (model prog w) A (Builtin.Slice.slicePartIndex v) Q E s:=by
 cases p with
 | none=>exact slicePart_none h
 | int i t=>exact slicePart_int h
theorem wC {sl:Addr} {vl vu:Value} {lo hi:Option Int} {n:Nat} {Q:Int × Int × Nat→Shared→Prop} (hs:s.heap.IsSliceOf sl vl vu .none) (pl:IsPart vl lo) (pu:IsPart vu hi)
  (h:Q (((bS n 0 lo:Nat):Int),1,bS n n hi - bS n 0 lo) s):wpAny (model prog w) A (Builtin.Slice.sliceApplied (.ref sl) (pure (n:Int))) Q E s:=by
 obtain ⟨os,hos,hcs,hds⟩:=id hs;unfold Builtin.Slice.sliceApplied Builtin.Slice.sliceFields;refine wpAny_bind (wpAny_bind (wpAny_field hos hds (x:=vl) rfl (wpAny_bind (wpAny_field hos hds (x:=vu) rfl (wpAny_bind (wpAny_field hos hds (x:=.none) rfl (wpAny_pure ?_)))))));refine wpAny_bind (slicePart_none ?_);show wpAny _ _ (if ((1:Int) == 0)=true then _ else _) _ _ s;rw [if_neg (by decide)];refine wpAny_bind (pG pl (wpAny_bind (pG pu (wpAny_bind (wpAny_pure ?_)))));show wpAny _ _ (match Builtin.Slice.sliceAdjust lo hi 1 (n:Int) with | (lo,hi)=>pure (lo,(1:Int),Builtin.Slice.slicePlaces lo hi 1)) _ _ s;rw [JE lo hi n];show wpAny _ _ (pure (((bS n 0 lo:Nat):Int),(1:Int),Builtin.Slice.slicePlaces ((bS n 0 lo:Nat):Int) ((bS n n hi:Nat):Int) 1)) _ _ s;rw [JU];exact wpAny_pure h
theorem N7 (xs:Array Value) (i k:Nat):((List.range k).filterMap fun (m:Nat)=>xs[((i:Int)+(m:Int)*1).toNat]?).toArray=((xs.toList.drop i).take k).toArray:=by
 have e:(fun (m:Nat)=>xs[((i:Int)+(m:Int)*1).toNat]?)=fun m=>xs[i+m]?:=by
  funext m
  have:((i:Int)+(m:Int)*1).toNat=i+m:=by omega
  rw [this]
 rw [e]
 have:=pick_run xs i k
 rw [List.filterMap_map] at this;have e2:((fun x=>xs[x]?) ∘ fun x=>i+x)=fun m=>xs[i+m]?:=rfl
 rw [e2] at this;rw [this]
theorem uA {t sl:Addr} {items:Array Value} {vl vu:Value} {lo hi:Option Int} {Q:Value→Shared→Prop} (ht:IsTup s.heap t items) (hs:s.heap.IsSliceOf sl vl vu .none) (pl:IsPart vl lo) (pu:IsPart vu hi)
  (hw:¬ (bS items.size 0 lo=0∧bS items.size items.size hi=items.size))
  (h:Q (.ref s.heap.objs.size) { s with heap:=s.heap.push { cls:=.type "tuple",data:=.seq ((items.toList.drop (bS items.size 0 lo)).take (bS items.size items.size hi - bS items.size 0 lo)).toArray } })
  (hsz:items.size≤sizeLine):wpAny (model prog w) A (getItem (.ref t) (.ref sl)) Q E s:=by
 have htake:sizeOk (.seq ((items.toList.drop (bS items.size 0 lo)).take (bS items.size items.size hi - bS items.size 0 lo)).toArray):=by
  show ((items.toList.drop (bS items.size 0 lo)).take (bS items.size items.size hi - bS items.size 0 lo)).toArray.size≤sizeLine;rw [List.size_toArray,List.length_take,List.length_drop,Array.length_toList];omega
 have hj:bS items.size items.size hi≤items.size:=aAd _ _ (Nat.le_refl _) hi;obtain ⟨os,hos,hcs,hds⟩:=id hs;have hTs:s.TypeIs (.ref sl) "slice":=⟨os,hos,hcs⟩
 unfold getItem
 try with_reducible refine wpAny_holding ?_
 first | refine wpAny_bind (wpAny_pure ?_) | skip
 refine wpAny_bind (wpAny_sequenceKey ht.typeIs (by decide) ?_)
 refine wpAny_bind (wpAny_callSpecial?_slot (name:=Str.ofString "__getitem__") ht.typeIs PyProof.Rows.slot_tuple_getitem
  (wpAny_call_entry PyProof.Rows.slot_tuple_getitem ht.typeIs entry_tuple_getitem ?_ (args_tuple_getitem _ _)))
 show wpAny _ _ (Builtin.Tuple.tupleItemsOf (.ref t) >>= _) _ _ s;refine wpAny_bind (tupleItemsOf_ ht ?_);refine wpAny_bind (wpAny_typeOf hTs ?_);rw [if_pos (by decide)];refine wpAny_bind (wC hs pl pu ?_)
 have hno:¬ ((((bS items.size 0 lo:Nat):Int) == 0 && (1:Int) == 1 && (bS items.size items.size hi - bS items.size 0 lo) == items.size)=true):=by
  intro q;rw [Bool.and_eq_true,Bool.and_eq_true] at q;have q1:((bS items.size 0 lo:Nat):Int)=0:=eq_of_beq q.1.1;have q2:bS items.size items.size hi - bS items.size 0 lo=items.size:=eq_of_beq q.2;exact hw ⟨by omega,by omega⟩
 show wpAny _ _ (if (((bS items.size 0 lo:Nat):Int) == 0 && (1:Int) == 1 && (bS items.size items.size hi - bS items.size 0 lo) == items.size)=true then _ else _) _ _ s;rw [if_neg hno,N7]
 first
  | exact wpAny_bind (m:=Builtin.Tuple.tupleExact _) (wpAny_newObj_type (wpAny_pure ⟨_,rfl,wpAny_pure h⟩) htake)
  | exact wpAny_bind (m:=Builtin.Tuple.tupleExact _) (wpAny_newObj_type (wpAny_bind (wpAny_pure (wpAny_pure ⟨_,rfl,wpAny_pure h⟩))) htake)
  | exact wpAny_bind (wpAny_bind (m:=Builtin.Tuple.tupleExact _) (wpAny_newObj_type (wpAny_pure (wpAny_pure ⟨_,rfl,wpAny_pure h⟩)) htake))
  | exact wpAny_bind (wpAny_bind (m:=Builtin.Tuple.tupleExact _) (wpAny_newObj_type (wpAny_pure ⟨_,rfl,wpAny_pure h⟩) htake))
end
end HT
namespace L2
open PySem PySem.Spec PyProof.Rows
abbrev TO:=St→Hp→(Option Int→Hp→Prop)→Prop
def PO (X:Cx) (e:Option Expr) (t:TO):Prop :=
 ∀ (pins:List (Addr × Obj)) (s:Shared) (σ:St) (H:Hp) (Q:Option Int→Hp→Prop),Inv X pins σ H s→t σ H Q →
  wpAny (model X.prog X.w) X.A (evalPart e X.env) (fun u s'=>∃ o H',Inv X pins σ H' s'∧IsPart u o∧Q o H') X.xe s
noncomputable def T2:TO:=fun _ H Q=>Q none H
noncomputable def aDu (t:TE):TO:=fun σ H Q=>t σ H fun x H1=>∃ i,x=.int i∧Q (some i) H1
section
variable {X:Cx} {e:Expr} {te:TE} {lo hi:Option Expr} {tl th:TO} {pos p2:Pos}
theorem SS:PO X none T2:=by
 intro pins s σ H Q I h;rw [evalPart_none];exact wpAny_pure ⟨none,H,I,.none,h⟩
theorem V0 (h:PE X e te):PO X (some e) (aDu te):=by
 intro pins s σ H Q I hw;rw [evalPart_some];refine a6 (h pins s σ H _ I hw) fun u s1 ⟨x,H1,I1,r1,q1⟩=>?_
 obtain ⟨i,rfl,q⟩:=q1;obtain ⟨t,rfl⟩:=r1;exact ⟨some i,H1,I1,.int i t,q⟩
def xE (X:Cx) (r:V→Option Int→Option Int→Hp→VK→Prop):Prop :=
 ∀ (pins:List (Addr × Obj)) (s:Shared) (σ:St) (H:Hp) (x:V) (v vl vu:Value) (lo hi:Option Int) (sl:Addr) (Q:VK),Inv X pins σ H s→a7 x v→s.heap.IsSliceOf sl vl vu .none→IsPart vl lo→IsPart vu hi→r x lo hi H Q →
  ∃ T id,typeLookup (.type T) "__getitem__"=pure (some (.builtin id))∧s.TypeIs v T∧wpAny (model X.prog X.w) X.A (getItem v (.ref sl)) (EP X pins σ Q) X.xe s
theorem xE.or {r r':V→Option Int→Option Int→Hp→VK→Prop} (h:xE X r) (h':xE X r'):xE X (fun x lo hi H Q=>r x lo hi H Q∨r' x lo hi H Q):=by
 intro pins s σ H x v vl vu lo hi sl Q I rx hs pl pu q;rcases q with q | q
 ·exact h pins s σ H x v vl vu lo hi sl Q I rx hs pl pu q
 ·exact h' pins s σ H x v vl vu lo hi sl Q I rx hs pl pu q
noncomputable def tSl (r:V→Option Int→Option Int→Hp→VK→Prop) (te:TE) (tl th:TO):TE:=fun σ H Q=>te σ H fun x H1=>tl σ H1 fun l H2=>th σ H2 fun u H3=>r x l u H3 Q
theorem M9 {r:V→Option Int→Option Int→Hp→VK→Prop} (hr:xE X r) (he:PE X e te) (hl:PO X lo tl) (hu:PO X hi th):PE X (.Subscript e (.Slice lo hi none p2) pos) (tSl r te tl th):=by
 intro pins s σ H Q I h;refine Subscript_ (a6 (he pins s σ H _ I h) fun v s1 ⟨x,H1,I1,r1,q1⟩=>?_);refine wpAny_Slice (a6 (hl pins s1 σ H1 _ I1 q1) fun vl s2 ⟨l,H2,I2,pl,q2⟩=>a6 (hu pins s2 σ H2 _ I2 q2) fun vu s3 ⟨u,H3,I3,pu,q3⟩=>?_);rw [evalPart_none];refine wpAny_pure ?_;have I4:Inv X pins σ H3 { s3 with heap:=s3.heap.push { cls:=.type "slice",data:=.fields #[vl,vu,.none] } }:=I3.kept (t':=s3.toks) fun b ob q=>Heap.get?_push_of_some _ q
 obtain ⟨T,id,hT,ht,hg⟩:=hr pins { s3 with heap:=s3.heap.push { cls:=.type "slice",data:=.fields #[vl,vu,.none] } } σ H3 x v vl vu l u s3.heap.objs.size Q I4 r1 (Heap.IsSliceOf.new ..) pl pu q3;show wpAny (model X.prog X.w) X.A (subscriptTail e (.Slice lo hi none p2) v (.ref s3.heap.objs.size)) (EP X pins σ Q) X.xe { s3 with heap:=s3.heap.push { cls:=.type "slice",data:=.fields #[vl,vu,.none] } };exact tail_any (ops:=[.ref s3.heap.objs.size,v]) ht hT hg (by with_unfolding_all rfl)
noncomputable def tF (xs:List V) (lo hi:Option Int):List V:=(xs.drop (HT.bS xs.length 0 lo)).take (HT.bS xs.length xs.length hi - HT.bS xs.length 0 lo)
theorem uJ (xs:List V) (lo hi:Option Int):(tF xs lo hi).length≤xs.length:=by
 unfold tF;rw [List.length_take,List.length_drop];omega
def aEe (K:PySem.W.Frag):V→Option Int→Option Int→Hp→VK→Prop:=fun x lo hi H Q=>∃ a xs,x=.ref a∧d6 K H a xs ∧
 ¬ (HT.bS xs.length 0 lo=0∧HT.bS xs.length xs.length hi=xs.length)∧∀ p,H p=none→Q (.ref p) (aV H p (.tup (tF xs lo hi)))
theorem aBa:xE X (aEe X.K):=by
 intro pins s σ H x v vl vu lo hi sl Q I rx hs pl pu h;obtain ⟨a,xs,rfl,hx,hw,q⟩:=h;cases rx;obtain ⟨its,r,ht,hz⟩:=I.tuple hx;have hlen:its.toArray.size=xs.length:=by rw [List.size_toArray]; exact r.length.symm
 refine ⟨"tuple",_,PyProof.Rows.slot_tuple_getitem.lookup,ht.typeIs, ?_⟩;refine HT.uA ht hs pl pu (by rw [hlen]; exact hw) ?_ (by rw [hlen]; exact hz);rw [hlen];refine ⟨.ref s.heap.objs.size,_,I.laid (t':=s.toks) (o:=.tup (tF xs lo hi)) (fun b ob q=>Heap.get?_push_of_some _ q) (Nat.le_refl _) ?_,rfl,q _ (I.hok.fresh (Nat.le_refl _))⟩;exact ⟨Nat.le_trans (uJ xs lo hi) hz,_,(r.drop (HT.bS xs.length 0 lo)).take (HT.bS xs.length xs.length hi - HT.bS xs.length 0 lo),IsTup.new _ _⟩
end
noncomputable def lI (n:Nat) (i:Int):Option Nat:=if 0≤i then (if i<n then some i.toNat else none) else if -(n:Int)≤i then some (i+n).toNat else none
noncomputable def cX {α:Type} (xs:List α) (i:Int):Option α:=(lI xs.length i).bind fun j=>xs[j]?
theorem GQ {n:Nat} {i:Int} {j:Nat} (h:lI n i=some j):seqIndex? i n=some j∧j<n∧-(n:Int)≤i∧i<n:=by
 unfold lI at h;by_cases h0:0≤i
 ·rw [if_pos h0] at h;by_cases h1:i<n
  ·rw [if_pos h1] at h;have e:i.toNat=j:=Option.some.inj h;exact ⟨by rw [seqIndex_of h0 h1,e],by omega,by omega,h1⟩
  ·rw [if_neg h1] at h; cases h
 ·rw [if_neg h0] at h;by_cases h1:-(n:Int)≤i
  ·rw [if_pos h1] at h;have e:(i+n).toNat=j:=Option.some.inj h;exact ⟨by rw [seqIndex_neg (by omega) h1,e],by omega,h1,by omega⟩
  ·rw [if_neg h1] at h; cases h
theorem yL {α:Type} {xs:List α} {i:Int} {v:α} (h:cX xs i=some v):∃ j,seqIndex? i xs.length=some j∧xs[j]?=some v∧j<xs.length∧-(xs.length:Int)≤i∧i<xs.length:=by
 unfold cX at h
 cases e:lI xs.length i with
 | none=>rw [e] at h; cases h
 | some j =>
  rw [e] at h;obtain ⟨h1,h2,h3,h4⟩:=GQ e;exact ⟨j,h1,h,h2,h3,h4⟩
theorem oU {α:Type} {xs:List α} {j:Nat} {v:α} (h:xs[j]?=some v):cX xs (j:Int)=some v:=by
 have hj:j<xs.length:=(List.getElem?_eq_some_iff.mp h).1
 have e:lI xs.length (j:Int)=some j:=by
  unfold lI;rw [if_pos (by omega),if_pos (by omega)]; simp
 unfold cX; rw [e]; exact h
def zA (b:Expr):Prop:=∀ o i,subscripted b false o i=operate [o,i] (getItem o i)
def mQ (X:Cx) (r:R2):Prop :=
 ∀ (value slice:Expr) (pins:List (Addr × Obj)) (s:Shared) (σ:St) (H:Hp) (x y:V) (v u:Value) (Q:VK),Inv X pins σ H s→a7 x v→a7 y u→r x y H Q →
  subscripted slice false v u=operate [v,u] (getItem v u)→wpAny (model X.prog X.w) X.A (subscriptTail value slice v u) (EP X pins σ Q) X.xe s
def MtR (X:Cx) (id:String) (r:V→List V→Hp→VK→Prop):Prop :=
 ∀ (pins:List (Addr × Obj)) (s:Shared) (σ:St) (H:Hp) (x:V) (xs:List V) (v:Value) (us:List Value) (Q:VK),Inv X pins σ H s→a7 x v→aU xs us→r x xs H Q →
  wpAny (model X.prog X.w) X.A (call (.builtin id) (v :: us)) (EP X pins σ Q) X.xe s
section
variable {X:Cx} {a b:Expr} {ta tb:TE} {pos:Pos}
theorem mQ.or {r r':R2} (h:mQ X r) (h':mQ X r'):mQ X (fun x y H Q=>r x y H Q∨r' x y H Q):=by
 intro value slice pins s σ H x y v u Q I rx ry q hs;rcases q with q | q
 ·exact h value slice pins s σ H x y v u Q I rx ry q hs
 ·exact h' value slice pins s σ H x y v u Q I rx ry q hs
theorem aCG {r:R2} (hr:mQ X r) (ha:PE X a ta) (hb:PE X b tb) (hs:zA b):PE X (.Subscript a b pos) (LY r ta tb):=by
 intro pins s σ H Q I h;exact Subscript_ (M8 ha hb I h fun v u s2 x y H2 I2 rx ry q=>hr a b pins s2 σ H2 x y v u Q I2 rx ry q (hs _ _))
noncomputable def Y7 (K:PySem.W.Frag):R2:=fun x y H Q=>∃ p xs i v,x=.ref p∧y=.int i∧cB K H p xs∧cX xs i=some v∧Q v H
noncomputable def X3 (K:PySem.W.Frag):R2:=fun x y H Q=>∃ p xs i v,x=.ref p∧y=.int i∧d6 K H p xs∧cX xs i=some v∧Q v H
noncomputable def ZF:R2:=fun x y H Q=>∃ z i c,x=.str z∧y=.int i∧z.length≤sizeLine∧cX z.cps.toList i=some c∧Q (.str ⟨#[c]⟩) H
theorem WC:mQ X (Y7 X.K):=by
 intro value slice pins s σ H x y v u Q I rx ry h hs;obtain ⟨p,xs,i,z,rfl,rfl,hq,he,q⟩:=h;cases rx;obtain ⟨t,rfl⟩:=ry;obtain ⟨its,r,pl,hz⟩:=I.list hq;obtain ⟨j,h1,h2,h3,h4,h5⟩:=yL he;obtain ⟨w,ew,rw'⟩:=r.get h2;have hl:=r.length;have hn:=mS;have fin:EP X pins σ Q w s:=⟨z,H,I,rw',q⟩
 by_cases h0:0≤i
 ·have hj:i.toNat=j:=by
   rw [seqIndex_of h0 h5] at h1;exact Option.some.inj h1
  exact item_listR pl.isList h0 (by omega) (by rw [hj]; simpa using ew) fin hs
 ·have hj:(i+(its.toArray.size:Int)).toNat=j:=by
   rw [seqIndex_neg (by omega) h4] at h1;rw [List.size_toArray,← hl];exact Option.some.inj h1
  exact subscriptTail_builtinR (x:=w) pl.isList.typeIs slot_list_getitem.lookup
   (wpAny_getItem_list_neg (Q:=fun r s'=>r=w∧EP X pins σ Q r s') pl.isList (by omega) (by rw [List.size_toArray] <;> omega) (by omega) (by rw [hj]; simpa using ew) ⟨rfl,fin⟩) hs
theorem aAe:mQ X (X3 X.K):=by
 intro value slice pins s σ H x y v u Q I rx ry h hs;obtain ⟨p,xs,i,z,rfl,rfl,hq,he,q⟩:=h;cases rx;obtain ⟨t,rfl⟩:=ry;obtain ⟨its,r,pl,hz⟩:=I.tuple hq;obtain ⟨j,h1,h2,h3,h4,h5⟩:=yL he;obtain ⟨w,ew,rw'⟩:=r.get h2;have hl:=r.length;have hn:=mS;have fin:EP X pins σ Q w s:=⟨z,H,I,rw',q⟩
 exact subscriptTail_builtinR (x:=w) pl.typeIs slot_tuple_getitem.lookup
  (getItem_tuple (j:=j) (Q:=fun r s'=>r=w∧EP X pins σ Q r s') pl (by omega) (by omega) (by rw [List.size_toArray,← hl]; exact h1) (by simpa using ew) ⟨rfl,fin⟩) hs
theorem YY:mQ X ZF:=by
 intro value slice pins s σ H x y v u Q I rx ry h hs;obtain ⟨z,i,c,rfl,rfl,hz,he,q⟩:=h;obtain ⟨t,rfl⟩:=rx;obtain ⟨t',rfl⟩:=ry;obtain ⟨j,h1,h2,h3,h4,h5⟩:=yL he;have hl:z.cps.toList.length=z.length:=by simp [Str.length]
 rw [hl] at h1 h4 h5;have hn:=mS
 exact tail_any (typeIs_str s z t) slot_str_getitem.lookup (getItem_str (c:=c) (by
  have e1:decide (i < -(2 ^ 63:Int))=false:=decide_eq_false (by omega);have e2:decide (i ≥ 2 ^ 63)=false:=decide_eq_false (by omega)
  rw [e1,e2,Bool.or_false]) (by rw [h1]; simpa using h2) ⟨.str ⟨#[c]⟩,H,I.tok _,⟨_,rfl⟩,q⟩) hs
noncomputable def rIx (K:PySem.W.Frag):R2:=fun x y H Q=>Y7 K x y H Q∨X3 K x y H Q∨ZF x y H Q
theorem ZV:mQ X (rIx X.K):=WC.or (aAe.or YY)
theorem I0 (its:List Value) (n j:Nat) (u:Value):Obj.mapSeq (·.setIfInBounds j u) { cls:=.type "list",data:=.seq its.toArray n }={ cls:=.type "list",data:=.seq (its.set j u).toArray n }:=by
 simp [Obj.mapSeq]
theorem Inv.lst {pins:List (Addr × Obj)} {σ:St} {H:Hp} {s:Shared} {p:Addr} {xs:List V} (I:Inv X pins σ H s) (h:H p=some (.lst xs)) :
  ∃ (its:List Value) (n:Nat),aU xs its∧s.heap.get? p=some { cls:=.type "list",data:=.seq its.toArray n }∧xs.length≤sizeLine:=by
 obtain ⟨z,its,n,r,e⟩:=I.hok p _ h;exact ⟨its,n,r,e,z⟩
theorem Inv.lstUpd {pins:List (Addr × Obj)} {σ:St} {H:Hp} {s:Shared} {p:Addr} {xs ys:List V} {its its':List Value} {n n':Nat} {f:Obj→Obj} (I:Inv X pins σ H s) (h:H p=some (.lst xs))
  (ho:s.heap.get? p=some { cls:=.type "list",data:=.seq its.toArray n }) (hf:f { cls:=.type "list",data:=.seq its.toArray n }={ cls:=.type "list",data:=.seq its'.toArray n' }) (r:aU ys its') (hz:ys.length≤sizeLine) (t:Nat) :
  Inv X pins σ (aV H p (.lst ys)) { s with heap:=s.heap.update p f,toks:=t }:=by
 have e:(s.heap.update p f).get? p=some { cls:=.type "list",data:=.seq its'.toArray n' }:=by
  rw [Heap.get?_update_self f ho (by rw [hf] <;> rfl),hf]
 refine I.write (x:=p) (e:=p) (by rw [h]; trivial) (.inl rfl) (fun b u hb q=>(Heap.get?_update_other _ _ (Ne.symm hb)).trans q) ⟨_,e⟩ ?_;exact ⟨hz,its',n',r,e⟩
def SD:V→V→V→Hp→(Hp→Prop)→Prop:=fun o i v H Q=>∃ p xs k j,o=.ref p∧i=.int k∧H p=some (.lst xs)∧lI xs.length k=some j∧Q (aV H p (.lst (xs.set j v)))
theorem OK:P1 X SD:=by
 intro pins s σ H o i v ov iv u Q I ro ri rv h;obtain ⟨p,xs,k,j,rfl,rfl,hp,hj,q⟩:=h;cases ro;obtain ⟨t,rfl⟩:=ri;obtain ⟨its,n,r,ho,hz⟩:=I.lst hp;obtain ⟨h1,h2,h3,h4⟩:=GQ hj;have hl:=r.length;have hn:=mS
 have I':Inv X pins σ (aV H p (.lst (xs.set j v))) { s with heap:=s.heap.update p (Obj.mapSeq (·.setIfInBounds j u)) } :=
  I.lstUpd hp ho (I0 its n j u) (r.set rv j) (by rw [List.length_set]; exact hz) s.toks
 by_cases h0:0≤k
 ·have hk:k.toNat=j:=by
   rw [seqIndex_of h0 h4] at h1;exact Option.some.inj h1
  exact PySem.W.ki_setAt ho h0 (by omega) (by rw [List.size_toArray,← hl]; exact h4) (by rw [hk]; exact ⟨_,I',q⟩)
 ·have hk:(k+(its.toArray.size:Int)).toNat=j:=by
   rw [seqIndex_neg (by omega) h3] at h1;rw [List.size_toArray,← hl];exact Option.some.inj h1
  exact PySem.W.ki_setBack ho (by omega) (by rw [List.size_toArray,← hl]; exact h3) (by omega) (by rw [hk]; exact ⟨_,I',q⟩)
theorem DM (lo hi:Option Int) (n:Nat):(sliceBounds lo hi none n).1=((HT.bS n 0 lo:Nat):Int)∧(sliceBounds lo hi none n).2.1=((HT.bS n n hi:Nat):Int)∧(sliceBounds lo hi none n).2.2=1:=by
 refine ⟨?_, ?_,rfl⟩
 ·cases lo with
  | none=>simp [sliceBounds,HT.bS]
  | some i =>
   simp only [sliceBounds,HT.bS,Option.getD_none,show (1:Int) > 0 by decide,if_true];by_cases h:i<0
   ·simp only [h,if_true] <;> omega
   ·simp only [h,if_false] <;> omega
 ·cases hi with
  | none=>simp [sliceBounds,HT.bS]
  | some i =>
   simp only [sliceBounds,HT.bS,Option.getD_none,show (1:Int) > 0 by decide,if_true];by_cases h:i<0
   ·simp only [h,if_true] <;> omega
   ·simp only [h,if_false] <;> omega
theorem AQ (its:List Value) (lo hi:Option Int):slicePick its.toArray lo hi none=((its.drop (HT.bS its.length 0 lo)).take (HT.bS its.length its.length hi - HT.bS its.length 0 lo)).toArray:=by
 obtain ⟨h1,h2,h3⟩:=DM lo hi its.toArray.size;unfold slicePick;rw [h1,h2,h3];simp only [sliceRange_one,pick_run,List.size_toArray] <;> rfl
def aFf (K:PySem.W.Frag):V→Option Int→Option Int→Hp→VK→Prop:=fun x lo hi H Q=>∃ a xs,x=.ref a∧cB K H a xs∧∀ p,H p=none→Q (.ref p) (aV H p (.lst (tF xs lo hi)))
theorem TY:xE X (aFf X.K):=by
 intro pins s σ H x v vl vu lo hi sl Q I rx hs pl pu h;obtain ⟨a,xs,rfl,hx,q⟩:=h;cases rx;obtain ⟨its,r,ht,hz⟩:=I.list hx;have hlen:=r.length;refine ⟨"list",_,slot_list_getitem.lookup,ht.isList.typeIs, ?_⟩;refine wpAny_getItem_list_slice ht.isList hs pl pu .none (by simp) ?_ (by rw [List.size_toArray] <;> omega);rw [AQ,← hlen];refine ⟨.ref s.heap.objs.size,_,I.laid (t':=s.toks) (o:=.lst (tF xs lo hi)) (fun b ob q=>Heap.get?_push_of_some _ q) (Nat.le_refl _) ?_,rfl,q _ (I.hok.fresh (Nat.le_refl _))⟩;exact ⟨Nat.le_trans (uJ xs lo hi) hz,_,0,(r.drop (HT.bS xs.length 0 lo)).take (HT.bS xs.length xs.length hi - HT.bS xs.length 0 lo),Heap.get?_push_size _ rfl⟩
theorem sF:fP X (.builtin "len") (fun xs H Q=>∃ p ys,xs=[.ref p]∧(cB X.K H p ys∨d6 X.K H p ys)∧Q (.int ys.length) H):=by
 intro pins s σ H xs us Q I r h;obtain ⟨p,ys,rfl,hq,q⟩:=h;obtain ⟨u,rfl,rx⟩:=nO r;cases rx;have hn:=mS;rcases hq with hq | hq
 ·obtain ⟨its,r',pl,hz⟩:=I.list hq;have hlen:=r'.length;exact Calls.call_len_list pl.isList (by simp only [List.size_toArray] <;> omega) ⟨.int ys.length,H,I.tok _,⟨s.toks+1,by rw [List.size_toArray,hlen]⟩,q⟩
 ·obtain ⟨its,r',pl,hz⟩:=I.tuple hq;have hlen:=r'.length;exact len_tuple pl (by simp only [List.size_toArray] <;> omega) ⟨.int ys.length,H,I.tok _,⟨s.toks+1,by rw [List.size_toArray,hlen]⟩,q⟩
theorem B8:fP X (.builtin "len") (fun xs H Q=>∃ z,xs=[.str z]∧z.length≤sizeLine∧Q (.int z.length) H):=by
 intro pins s σ H xs us Q I r h;obtain ⟨z,rfl,hz,q⟩:=h;obtain ⟨u,rfl,t,rfl⟩:=nO r;have hn:=mS;exact len_str (by omega) ⟨.int z.length,H,I.tok _,⟨_,rfl⟩,q⟩
theorem rB:fP X (.type "tuple") (fun xs H Q=>∃ p ys,xs=[.ref p]∧((cB X.K H p ys∧∀ l,H l=none→Q (.ref l) (aV H l (.tup ys)))∨(d6 X.K H p ys∧Q (.ref p) H))):=by
 intro pins s σ H xs us Q I r h;obtain ⟨p,ys,rfl,h⟩:=h;obtain ⟨u,rfl,rx⟩:=nO r;cases rx;rcases h with ⟨hq,q⟩ | ⟨hq,q⟩
 ·obtain ⟨its,r',pl,hz⟩:=I.list hq;have hlen:=r'.length;refine call_tuple_list pl.isList (fun h' kp=>?_) (by simp only [List.size_toArray] <;> omega);have I1:Inv X pins σ H { s with heap:=h' }:=I.kept (t':=s.toks) kp
  have I2:Inv X pins σ (aV H h'.objs.size (.tup ys)) { s with heap:=h'.push { cls:=.type "tuple",data:=.seq its.toArray } } :=
   I1.laid (t':=s.toks) (fun b o e=>Heap.get?_push_of_some _ e) (Nat.le_refl _) (show dD X.prog X.w _ _ _ (.tup ys) from ⟨hz,its,r',IsTup.new _ _⟩)
  exact ⟨.ref h'.objs.size,_,I2,rfl,q _ (I1.hok.fresh (Nat.le_refl _))⟩
 ·obtain ⟨its,r',pl,hz⟩:=I.tuple hq;exact call_tuple_same pl ⟨.ref p,H,I,rfl,q⟩
def tyV (K:PySem.W.Frag) (T:String) (x:V) (H:Hp):Prop:=match x with
 | .str _=>T="str"
 | .int _=>T="int"
 | .ref p=>(T="list"∧∃ xs,cB K H p xs)∨(T="tuple"∧∃ o,K.lookup p=some o∧o.cls=.type "tuple"∧o.dict=none) ∨
   (T="dict"∧((∃ kvs,H p=some (.dK kvs))∨∃ kvs,H p=some (.dT kvs)))∨(T="set"∧∃ S n,H p=some (.set S n))
 | _=>False
theorem ZG {pins:List (Addr × Obj)} {σ:St} {H:Hp} {s:Shared} {T:String} {x:V} {v:Value} (I:Inv X pins σ H s) (r:a7 x v) (ty:tyV X.K T x H) :
  s.TypeIs v T∧∀ a,v=.ref a→∃ ob,s.heap.get? a=some ob∧ob.dict=none:=by
 cases x with
 | str z =>
  obtain ⟨t,rfl⟩:=r;cases (show T="str" from ty);exact ⟨typeIs_str s z t,fun _ e=>nomatch e⟩
 | int i =>
  obtain ⟨t,rfl⟩:=r;cases (show T="int" from ty);exact ⟨typeIs_int s i t,fun _ e=>nomatch e⟩
 | ref p =>
  cases r;rcases ty with ⟨rfl,xs,hq⟩ | ⟨rfl,o,hk,hc,hd⟩ | ⟨rfl,hk⟩ | ⟨rfl,S,n,hk⟩
  ·obtain ⟨its,_,pl,_⟩:=I.list hq;refine ⟨pl.isList.typeIs,fun a e=>?_⟩;cases e;obtain ⟨o,n,e,c,hd,_⟩:=pl;exact ⟨o,e,hd⟩
  ·refine ⟨⟨o,I.kIn p o hk,hc⟩,fun a e=>?_⟩;cases e;exact ⟨o,I.kIn _ o hk,hd⟩
  ·have z:∃ o,s.heap.get? p=some o∧o.ExactDict:=by
    rcases hk with ⟨kvs,hk⟩ | ⟨kvs,hk⟩
    ·obtain ⟨_,_,_,_,o,_,_,e,ex,_⟩:=I.hok p _ hk;exact ⟨o,e,ex⟩
    ·obtain ⟨_,_,_,_,o,_,_,e,ex,_⟩:=I.hok p _ hk;exact ⟨o,e,ex⟩
   obtain ⟨o,e,ex⟩:=z;refine ⟨⟨o,e,ex.1⟩,fun a e2=>?_⟩;cases e2;exact ⟨o,e,ex.2.1⟩
  ·obtain ⟨o,_,_,_,e,ex,_⟩:=I.hok p _ hk;refine ⟨⟨o,e,ex.1⟩,fun a e2=>?_⟩;cases e2;exact ⟨o,e,ex.2.1⟩
 | _=>exact False.elim ty
noncomputable def tBM (K:PySem.W.Frag) (T:String) (r:V→List V→Hp→VK→Prop) (to:TE) (t:TA):TE:=fun σ H Q=>to σ H fun x H1=>tyV K T x H1∧t σ H1 fun xs H2=>r x xs H2 Q
variable {o e:Expr} {es:List Expr} {to:TE} {t:TA} {name:Str} {apos cpos:Pos} {T id:String} {r:V→List V→Hp→VK→Prop}
theorem Q8 (pa:PlainAttrs T) (slot:Slot T name id) (hty:typeOf (.builtin id)=pure (.type "method_descriptor")) (hm:MtR X id r) (ho:PE X o to) (ha:PA X (e :: es) t)
  (hbase:attributeBase o name X.env (eval o X.env)=eval o X.env:=by rfl)
  (hfew:((backTo cpos (starEach (e :: es) X.env)).all (fun x=>!x.1) && (backToKw cpos (keywordEach [] X.env)).all (fun x=>x.1.isSome)
   && decide ((e :: es).length+([]:List Keyword).length+(if ([]:List Keyword).isEmpty then 0 else 1)<30))=true:=by rfl)
  (hline:(apos.endLine == cpos.line)=true:=by rfl) (hs:starEach (e :: es) X.env=(false,eval e X.env) :: starEach es X.env:=by rfl) (hplain:(backTo cpos (starEach es X.env)).any (·.1)=false:=by rfl) :
  PE X (.Call (.Attribute o name apos) (e :: es) [] cpos) (tBM X.K T r to t):=by
 intro pins s σ H Q I h;refine wpAny_Call_method_late hbase hfew hline rfl (a6 (ho pins s σ H _ I h) fun v s1 ⟨x,H1,I1,r1,ty,q1⟩=>?_);obtain ⟨h1,h2⟩:=ZG I1 r1 ty;refine ⟨T,id,pa,slot,hty,h1,h2, ?_⟩;have hA:=ha cpos pins s1 σ H1 _ I1 q1;rw [hs] at hA ⊢;refine Calls.callWith_builtin (by show (false || (backTo cpos (starEach es X.env)).any (·.1))=false; rw [hplain] <;> rfl) (Calls.evalArgs_plain ?_);exact a6 hA fun us s2 ⟨vs,H2,I2,r2,q2⟩=>hm pins s2 σ H2 x vs v us Q I2 r1 r2 q2
end
def MtM (X:Cx) (id:String) (r:V→List V→Hp→VK→Prop):Prop :=
 ∀ (pins:List (Addr × Obj)) (s:Shared) (σ:St) (H:Hp) (x:V) (xs:List V) (v:Value) (us:List Value) (Q:VK),Inv X pins σ H s→a7 x v→aU xs us→r x xs H Q →
  wpAny (model X.prog X.w) X.A (call (.builtin id) (v :: us)) (EP X pins σ Q) X.xe s
theorem aU.one:∀ {x:V} {us:List Value},aU [x] us→∃ u,us=[u]∧a7 x u
 | _,_,.cons r .nil=>⟨_,rfl,r⟩
theorem aU.rep {xs:List V} {us:List Value} (h:aU xs us):∀ k:Nat,aU (List.replicate k xs).flatten (List.replicate k us).flatten
 | 0=>.nil
 | k+1=>by
  rw [List.replicate_succ,List.replicate_succ,List.flatten_cons,List.flatten_cons];exact aU.append h (aU.rep h k)
section
variable {X:Cx} {pins:List (Addr × Obj)} {σ:St} {H:Hp} {s:Shared} {l b:Addr} {xs ys zs:List V}
theorem Inv.lset {its its':List Value} {n:Nat} {f:Array Value→Array Value} {t':Nat} (I:Inv X pins σ H s) (hH:H l=some (.lst xs))
  (e:s.heap.get? l=some { cls:=.type "list",data:=.seq its.toArray n }) (hf:f its.toArray=its'.toArray) (hv:aU ys its') (hz:ys.length≤sizeLine) :
  Inv X pins σ (aV H l (.lst ys)) { s with heap:=s.heap.update l (Obj.mapSeq f),toks:=t' }:=by
 have q:=PySem.IsL.update e f;rw [hf] at q;refine I.write (x:=l) (e:=l) (by rw [hH]; exact trivial) (.inl rfl) (fun b' u hb hu=>(Heap.get?_update_other s.heap (Obj.mapSeq f) (Ne.symm hb)).trans hu) ⟨_,q⟩ ?_;exact ⟨hz,its',_,hv,q⟩
theorem Inv.lnew {its:List Value} {t':Nat} (I:Inv X pins σ H s) (hv:aU ys its) (hz:ys.length≤sizeLine) :
  Inv X pins σ (aV H s.heap.objs.size (.lst ys)) { s with heap:=s.heap.push { cls:=.type "list",data:=.seq its.toArray },toks:=t' } :=
 I.laid (fun _ _ q=>Heap.get?_push_of_some _ q) (Nat.le_refl _) ⟨hz,its,0,hv,Heap.get?_push_size _ rfl⟩
theorem Inv.fresh (I:Inv X pins σ H s):H s.heap.objs.size=none:=I.hok.fresh (Nat.le_refl _)
theorem Inv.lstM (I:Inv X pins σ H s) (hH:H l=some (.lst xs)):xs.length≤sizeLine∧∃ (its:List Value) (n:Nat),aU xs its∧xs.length=its.length∧s.heap.get? l=some { cls:=.type "list",data:=.seq its.toArray n }:=by
 obtain ⟨z,its,n,r,e⟩:=I.hok l _ hH;exact ⟨z,its,n,r,r.length,e⟩
theorem O2 {n:Nat} (h:n≤sizeLine):Builtin.List.listTooLong n=false:=by
 unfold Builtin.List.listTooLong;exact decide_eq_false (by omega)
end
section
variable {X:Cx}
def V3:V→List V→Hp→VK→Prop:=fun x vs H Q=>∃ l xs y,x=.ref l∧vs=[y]∧H l=some (.lst xs)∧xs.length<sizeLine∧Q .non (aV H l (.lst (xs ++ [y])))
theorem sJ:MtM X "list.append" V3:=by
 intro pins s σ H x vs v us Q I rx rv h;obtain ⟨l,xs,y,rfl,rfl,hH,hz,q⟩:=h;cases rx;obtain ⟨u,rfl,ru⟩:=rv.one;obtain ⟨z,its,n,r,hl,e⟩:=I.lstM hH;refine call_meets F.slot_list_append ⟨_,e,rfl⟩ F.entry_list_append (F.args_list_append_2 _ _) (PySem.list_append l its.toArray n u (by rw [List.size_toArray]; omega)) ⟨e, ?_⟩;refine ⟨.non,_,I.lset (its':=its ++ [u]) hH e (by simp) (r.append (.cons ru .nil)) ?_,rfl,q⟩;rw [List.length_append,List.length_singleton];omega
def XH:V→List V→Hp→VK→Prop:=fun x vs H Q=>∃ l b xs zs,x=.ref l∧vs=[.ref b]∧H l=some (.lst xs)∧H b=some (.lst zs)∧xs.length+zs.length≤sizeLine∧Q .non (aV H l (.lst (xs ++ zs)))
theorem LD:MtM X "list.extend" XH:=by
 intro pins s σ H x vs v us Q I rx rv h;obtain ⟨l,b,xs,zs,rfl,rfl,hH,hB,hz,q⟩:=h;cases rx;obtain ⟨u,rfl,ru⟩:=rv.one;cases ru;obtain ⟨z,its,n,r,hl,e⟩:=I.lstM hH;obtain ⟨z2,its2,n2,r2,hl2,e2⟩:=I.lstM hB;have hsz:its.toArray.size+its2.toArray.size≤sizeLine:=by rw [List.size_toArray,List.size_toArray]; omega
 have hlong:¬ (!its.toArray.isEmpty && Builtin.List.listTooLong (its.toArray.size+its2.toArray.size))=true:=by
  rw [O2 hsz,Bool.and_false];exact Bool.false_ne_true
 refine call_meets F.slot_list_extend ⟨_,e,rfl⟩ F.entry_list_extend (F.args_list_extend_2 _ _)
  (AutoSeq1.list_extend_list_list_0 l its.toArray n b its2.toArray n2 hlong (by rw [List.size_toArray]; omega) (by omega)) ⟨e,e2, ?_⟩
 refine ⟨.non,_,I.lset (its':=its ++ its2) hH e (by simp) (r.append r2) ?_,rfl,q⟩;rw [List.length_append];omega
end
section
variable {prog:Program} {w:World} {A:Around} {E:Value→Shared→Prop} {s:Shared}
end
section
variable {X:Cx}
end
end L2
namespace Att
open PySem PySem.W PySem.Calls PyProof.Rows
theorem xT {P:Params} {h:Heap}:∀ (ns:List Int) (vs:List Value),WellAll P h vs (ns.map WData.int)→IntsAre vs ns:=by
 intro ns
 induction ns with
 | nil =>
  intro vs w;rw [List.map_nil] at w;cases w;exact .nil
 | cons n ns ih =>
  intro vs w;rw [List.map_cons] at w
  cases w with
  | cons a b =>
   cases a;exact .cons _ _ (ih _ b)
theorem MK {l:OpenLaw} {n:Nat} (hn:l.most=some n) {P:Params} {h:Heap} {args:List WData} {vals:List Value}
  (hpre:l.row.toRowW.claim.pre args=true) (hwl:WellAll P h vals args) :
  ∃ a vs ns,vals=[Value.ref a]∧args=[WData.list (ns.map WData.int)]∧h.get? a=some { cls:=.type "list",data:=.seq vs.toArray }∧IntsAre vs ns∧ns.length≤n:=by
 have hsh:WShape.hasAll [] args [.list .int]=true:=(pre_splitW hpre).1;have hc:l.pre.holds [] { args:=args }=true:=(pre_splitW hpre).2;obtain ⟨d,r,rfl,h1,h2⟩:=hasAllW_cons hsh;obtain rfl:=hasAllW_nil h2;obtain ⟨xs,rfl,h3⟩:=hasW_list h1;obtain ⟨ns,rfl⟩:=items_int h3
 have hlen:ns.length≤n:=by
  unfold OpenLaw.pre at hc
  have h4:(WTm.not (.lt (.lit (.int (n:Int))) (.len (.arg 0)))).holds [] { args:=[.list (ns.map .int)] }=true:=by
   have h4:=(holds_andW hc).1;rw [hn] at h4;exact h4
  have h5:=condW_of h4 (w_not (w_lt w_lit (w_len_list (w_arg rfl))));rw [List.length_map] at h5;refine Nat.le_of_not_lt fun q=>?_
  have q':(n:Int)<((ns.length:Nat):Int):=by omega
  first
   | (rw [decide_eq_true q'] at h5; exact absurd h5 (by decide))
   | (simp at h5; omega)
 cases hwl with
 | cons w1 w2 =>
  cases w2
  cases w1 with
  | list ho hall=>exact ⟨_,_,ns,rfl,rfl,ho,xT ns _ hall,hlen⟩
theorem MX (l:OpenLaw) (args:List WData):l.row.toRowW.claim.post args (.bool true) args=true :=
 postW_of (r:=l.row.toRowW) (X:=(true == true))
  (show WShape.has [] (.bool true) .bool=true by first | rfl | decide | simp [WShape.has,WShape.arms,WShape.armsAll])
  (show (WTm.eq .res (.lit (.bool true))).value [] { args:=args,res:=some (.bool true),after:=args }=some (.bool (true == true)) from w_eq_bool (w_res rfl) w_lit) rfl
theorem EO {l:OpenLaw} {n:Nat} {q:Program} {loose:List Str} {XP:(Str→Option Value)→Heap→Prop} {YP:World→Heap→Prop} {d:DefRec}
  (hn:l.most=some n) (hdf:d.params.defaults=[])
  (call:∀ (w:World) (s₀ s₁:Shared) (mg mb:Str→Option Value) (fa:Addr) (o:Obj) (pm cd doc:Value) (a:Addr) (vs:List Value) (ns:List Int),
   Ground q loose [] XP w s₀ mg mb s₁.heap→YP w s₁.heap →
   s₁.heap.get? fa=some o→o.data=.func (docDef d.name d.params d.body d.scope pm cd doc)→s₁.heap.CodeRec cd d.name→mg d.name=some (.ref fa) →
   s₁.heap.get? a=some { cls:=.type "list",data:=.seq vs.toArray }→IntsAre vs ns→ns.length≤n→s₁.gens=#[] →
   codeAny (model l.prog w) callerA (.call (.ref fa) ⟨[.ref a],[]⟩) (fun r s'=>r=.ok (.ret (.bool true))∧OldK s₁.heap s'.heap∧s'.os=s₁.os∧AllBare s'.gens) s₁) :
  WalkO q loose XP YP l.row.toRowW d [] (fun f vs=>PySem.call f vs):=by
 intro w s₀ s₁ mg mb G Y fa o pm cd doc dV kV ho hd hcd hD hmg hg args vals as hpre hlay hrd hwl hlo;obtain rfl:dV=.none:=Dflts.none hD hdf;obtain rfl:kV=.none:=Dflts.noKw hD;obtain ⟨a,vs,ns,rfl,rfl,hobj,hints,hlen⟩:=MK hn hpre hwl;refine enter_call (codeAny_mono (call w s₀ s₁ mg mb fa o pm cd doc a vs ns G Y ho (fd_plain hd) hcd hmg hobj hints hlen hg) fun r s' hq=>?_);obtain ⟨rfl,h2,h3,h4⟩:=hq;exact ⟨.inl ⟨.bool true,.bool true,[],rfl,fun _=>rfl,.bool true,MX l _,fun _=>⟨List.Pairwise.nil,fun _ hm=>(nomatch hm)⟩⟩,h2,h3,h4⟩
section
variable {prog:Program} {w:World} {A:Around} {E:Value→Shared→Prop} {s:Shared} {K:Frag}
end
end Att
namespace L2
open PySem PySem.Spec PyProof.Rows
theorem zQ:∀ {vs:List Value} {ns:List Int},IntsAre vs ns→aU (ns.map V.int) vs
 | _,_,.nil=>.nil
 | _,_,.cons n t h=>.cons ⟨t,rfl⟩ (zQ h)
def QO (H:Hp):Prop:=∀ b,H b=none∨∃ o xs,H b=some (.frz o (.lst xs))
theorem PL {P:Program} {w:World} {K:PySem.W.Frag} {mg mb:Str→Option Value} {CX:rJ} {k:Nat} {fa a:Addr} {fd:FuncData} {x:Str} {sp:Sp} {s₁:Shared} {vs:List Value} {ns:List Int}
  (KX:K.In s₁.heap) (hns:s₁.heap.Ns mainGlobals mg) (hb:s₁.heap.Ns builtinsNs mb) (hbb:∀ x:Str,x≠"__name__"→mb x=bootBuiltins x) (hlim:s₁.heap.NoLimit) (hg:s₁.gens=#[])
  (ha:s₁.heap.get? a=some { cls:=.type "list",data:=.seq vs.toArray }) (hi:IntsAre vs ns) (hl:ns.length≤sizeLine) (hr:Room k callerA)
  (F:∀ base:Heap,K.In base→base.Ns mainGlobals mg→FnOk P w K mg base CX k fa fd [x] sp) (hbind:∀ (s:Shared) (u:Value),BindsTo s fd ⟨[u],[]⟩ [(x,u)])
  (hsp:∀ H:Hp,QO H→cB K H a (ns.map V.int)→sp [.ref a] H (fun v _=>v=.bl true) fun _ _ _=>False)
  (hCX:∀ H e s',CX [] H s₁ (fun _ _ _=>False) e s'→False) :
  codeAny (model P w) callerA (.call (.ref fa) ⟨[.ref a],[]⟩) (fun r s'=>r=.ok (.ret (.bool true))∧OldK s₁.heap s'.heap∧s'.os=s₁.os∧AllBare s'.gens) s₁:=by
 have rv:=zQ hi;have lenV:=hi.length
 -- from an abstract heap in which nothing but the script may be tracked
 have core:∀ H:Hp,QO H→cB K H a (ns.map V.int)→eD P w H s₁.heap→(∀ b,H b≠none→b=a)→(H a≠none→K.lookup a=none) →
   codeAny (model P w) callerA (.call (.ref fa) ⟨[.ref a],[]⟩) (fun r s'=>r=.ok (.ret (.bool true))∧OldK s₁.heap s'.heap∧s'.os=s₁.os∧AllBare s'.gens) s₁:=by
  intro H hO hS hok hA hK;have base_of:∀ {b:Addr} {o:Obj},s₁.heap.get? b=some o→H b=none→(pR s₁.heap H).get? b=some o:=fun e n=>O9 e n
  have noA:∀ {b:Addr} {o:Obj} {es:Array DictEntry} {ep:Nat},s₁.heap.get? b=some o→o.data=.dict es ep→H b=none:=fun {b o es ep} e d=>by
   cases q:H b with
   | none=>rfl
   | some u =>
    have e':b=a:=hA b (by rw [q]; simp);subst e';rw [ha] at e; cases e;have d':Data.seq vs.toArray _=Data.dict es ep:=d;cases d'
  have nsK:∀ {b:Addr} {m:Str→Option Value},s₁.heap.Ns b m→(pR s₁.heap H).Ns b m:=fun {b m} ⟨o,es,ep,e,d,r⟩=>⟨o,es,ep,base_of e (noA e d),d,r⟩
  have hKb:K.In (pR s₁.heap H):=fun b o e=>base_of (KX b o e) (by
   cases q:H b with
   | none=>rfl
   | some u =>
    have e':b=a:=hA b (by rw [q]; simp);subst e'
    rw [hK (by rw [q]; simp)] at e; cases e)
  have hM:Mod K mg (pR s₁.heap H):=⟨hKb,nsK hns,⟨mb,nsK hb,hbb⟩,let ⟨mc,h1,h2⟩:=hlim; ⟨mc,nsK h1,h2⟩⟩
  have e0:Env0 P w K mg (pR s₁.heap H) callerA [] s₁ H:=⟨rfl,hM,fun b o e=>U7 e,Nat.le_of_eq (JZ _ _),trivial,fun b hb=>absurd (show b∈([]:List Addr) from hb) (by simp),hok,.of_eq hg⟩
  refine codeAny_mono ((F _ hKb (nsK hns)).run callerA [] s₁ H ⟨[.ref a],[]⟩ [.ref a] [.ref a] _ _ hr e0 (hbind s₁ (.ref a)) (.cons rfl .nil) (hsp H hO hS)) fun r s' h=>?_
  cases r with
  | error e=>exact (hCX H e s' h).elim
  | ok fl =>
   cases fl with
   | next=>exact False.elim h
   | brk=>exact False.elim h
   | cont=>exact False.elim h
   | ret u =>
    obtain ⟨v,H',os,bare,un,hok',r',q⟩:=h;have q':v=.bl true:=q;subst q';obtain rfl:u=Value.bool true:=r';refine ⟨rfl,OldK.of_keep fun b o e=>?_,os,bare⟩
    cases q:H b with
    | none=>exact un.keep b o e q (by intro z; exact absurd (show b∈([]:List Addr) from z) (by simp)) (by simp)
    | some u =>
     rcases hO b with z | ⟨ob,xs,z⟩
     ·rw [q] at z; cases z
     ·have z2:=un.frzs b ob _ z;obtain ⟨e1,_⟩:=hok b _ z;obtain ⟨e2,_⟩:=hok' b _ z2;rw [e] at e1; cases e1;exact e2
 cases hk:K.lookup a with
 | some o =>
  -- the script is one of the module's own objects
  have e:=KX a o hk;rw [ha] at e;cases e;refine core (fun _=>none) (fun _=>.inl rfl) (.inr ⟨_,vs.toArray,_,hk,rfl,rfl,rfl,by rw [List.size_toArray,lenV]; exact hl,by simpa using rv⟩) (fun b u z=>by have z':(none:Option HO)=some u:=z; cases z') (fun b z=>absurd rfl z) fun z=>absurd rfl z
 | none =>
  refine core (fun b=>if b=a then some (.frz { cls:=.type "list",data:=.seq vs.toArray } (.lst (ns.map V.int))) else none) (fun b=>?_) (.inl (.inr ⟨{ cls:=.type "list",data:=.seq vs.toArray },if_pos rfl⟩)) (fun b u z=>?_) (fun b z=>?_) fun _=>hk
  ·by_cases hb:b=a
   ·exact .inr ⟨_,_,if_pos hb⟩
   ·exact .inl (if_neg hb)
  ·by_cases hb:b=a
   ·have z':=(if_pos hb).symm.trans z;cases z';subst hb;exact ⟨ha,by rw [List.length_map]; exact hl,vs,_,rv,ha⟩
   ·have z':=(if_neg hb).symm.trans z;cases z'
  ·by_cases hb:b=a
   ·exact hb
   ·exact absurd (if_neg hb) z
abbrev aC {K:PySem.W.Frag} {h:Heap} (_:K.In h):PySem.W.Frag:=K
theorem UZ {l:PySem.W.OpenLaw} {n k:Nat} {q:Program} {loose:List Str} {XP:(Str→Option Value)→Heap→Prop} {YP:World→Heap→Prop} {d:DefRec} {K:Params→PySem.W.Frag} {CX:World→rJ} {sp:World→Sp} {x:Str}
  (hn:l.most=some n) (hn2:n≤sizeLine) (hdf:d.params.defaults=[]) (hr:Room k callerA)
  (hY:∀ (w:World) (h:Heap),YP w h→(K w.params).In h)
  (F:∀ (w:World) (mg:Str→Option Value) (fa:Addr) (h:Heap),(K w.params).In h→h.Ns mainGlobals mg→mg d.name=some (.ref fa) →
   ∃ fd:FuncData,(∀ (s:Shared) (u:Value),BindsTo s fd ⟨[u],[]⟩ [(x,u)]) ∧
    ∀ base:Heap,(K w.params).In base→base.Ns mainGlobals mg→FnOk l.prog w (K w.params) mg base (CX w) k fa fd [x] (sp w))
  (hsp:∀ (w:World) (H:Hp) (a:Addr) (ns:List Int),ns.length≤n→QO H→cB (K w.params) H a (ns.map V.int)→sp w [.ref a] H (fun v _=>v=.bl true) fun _ _ _=>False)
  (hCX:∀ (w:World) (H:Hp) (s:Shared) (e:Value) (s':Shared),CX w [] H s (fun _ _ _=>False) e s'→False) :
  PySem.W.WalkO q loose XP YP l.row.toRowW d [] (fun f vs=>PySem.call f vs):=by
 refine Att.EO hn hdf fun w s₀ s₁ mg mb fa o pm cd doc a vs ns G Y ho hd hcd hmg hobj hints hlen hg=>?_
 have KX:=hY w _ Y;obtain ⟨fd,hb,hF⟩:=F w mg fa _ KX G.T.g hmg;exact PL KX G.T.g G.T.b G.T.builtins G.T.nolimit hg hobj hints (Nat.le_trans hlen hn2) hr hF hb (fun H hO hS=>hsp w H a ns hlen hO hS) fun H e s'=>hCX w H s₁ e s'
noncomputable def eK (s:Stmt):Arguments:=match s with
 | .FunctionDef _ a _ _ _ _ _ _ _ _=>a
 | _=>{ posonlyargs:=[],args:=[],vararg:=none,kwonlyargs:=[],kw_defaults:=[],kwarg:=none,defaults:=[] }
noncomputable def bU (s:Stmt):List Stmt:=match s with
 | .FunctionDef _ _ b _ _ _ _ _ _ _=>b
 | _=>[]
noncomputable def aT (s:Stmt):Scope:=match s with
 | .FunctionDef _ _ _ _ _ _ sc _ _ _=>sc
 | _=>{ kind:=.function,names:=[],isGenerator:=false,isCoroutine:=false }
abbrev sL:rJ:=fun _ _ _ _ _ _=>False
abbrev E0:XK:=fun _ _ _=>False
theorem BE {X:Cx}:l6 sL X E0:=fun _ _ _ _ _ _ _ h=>h.elim
structure Fun (K:PySem.W.Frag) (x qual:Str) (st:Stmt) (f:Addr) (fd:FuncData):Prop where
 ex:∃ (oc:Value) (od:Option Addr) (kV doc pm:Value) (an:Option Addr) (cdv ct:Value) (osl:Array (Option Value)),
  fd=PySem.W.fnOf x qual (eK st) (bU st) (aT st) .none kV doc pm an cdv ct∧K.lookup f=some ⟨oc,od,.func fd,osl⟩∧PySem.W.codeIn K cdv qual=true
 kp:PySem.W.keepIn K (.ref f)=true
section
variable {P:Program} {w:World} {K:PySem.W.Frag} {mg:Str→Option Value} {base:Heap}
theorem Fun.ok {x qual:Str} {st:Stmt} {f:Addr} {fd:FuncData} {N ps:List Str} {k:Nat} {sp:Sp} (F:Fun K x qual st f fd) (S:FnScope N ps (aT st)) (len:∀ vs H Q E,sp vs H Q E→vs.length=ps.length)
  (hbody:∀ (cdv:Value) (A:Around) (outer:List Env) (s:Shared) (H:Hp) (vs:List V) (Q:VK) (E:XK),Room k (A.deeper (envOfC qual (aT st) s.heap.objs.size f cdv))→sp vs H Q E →
   ∃ t,fE (kD sL P w K mg base N qual (aT st) f cdv A outer s H E).nox (bU st) t∧t { nx:=fun _ H'=>Q .non H',rt:=Q } (b0 N vs) H):FnOk P w K mg base sL (k+1) f fd ps sp:=by
 obtain ⟨oc,od,kV,doc,pm,an,cdv,ct,osl,rfl,lk,hcd⟩:=F.ex;refine RZ lk hcd S len fun A outer s H vs Q E hr hsp=>?_
 obtain ⟨t,h,q⟩:=hbody cdv A outer s H vs Q E hr hsp;exact ⟨t,h.nox,q⟩
theorem Fun.binds {x qual:Str} {st:Stmt} {f:Addr} {fd:FuncData} {ps:List Str} (F:Fun K x qual st f fd)
  (h:∀ (kV doc pm:Value) (an:Option Addr) (cdv ct:Value) (us:List Value),us.length=ps.length→bindArgs (PySem.W.fnOf x qual (eK st) (bU st) (aT st) .none kV doc pm an cdv ct) ⟨us,[]⟩=pure (ps.zip us)):eS K fd ps []:=by
 obtain ⟨oc,od,kV,doc,pm,an,cdv,ct,osl,rfl,lk,hcd⟩:=F.ex;exact .all (h kV doc pm an cdv ct)
theorem xM {x qual:Str} {st:Stmt} {f:Addr} {oc:Value} {od an:Option Addr} {osl:Array (Option Value)} {kV doc pm cdv ct:Value} (l:K.lookup f=some ⟨oc,od,.func (PySem.W.fnOf x qual (eK st) (bU st) (aT st) .none kV doc pm an cdv ct),osl⟩)
  (c:PySem.W.codeIn K cdv qual=true) (k:PySem.W.keepIn K (.ref f)=true):Fun K x qual st f (PySem.W.fnOf x qual (eK st) (bU st) (aT st) .none kV doc pm an cdv ct):=⟨⟨oc,od,kV,doc,pm,an,cdv,ct,osl,rfl,l,c⟩,k⟩
end
section
variable {X:Cx}
end
theorem C4 {A B:Prop} (h:B):if false=true then A else B:=by
 rw [if_neg Bool.false_ne_true];exact h
theorem C6 {A B:Prop} (h:A):if true=true then A else B:=by
 rw [if_pos rfl];exact h
def aM (H H':Hp):Prop:=∀ b o,H b=some o→H' b=some o
theorem aM.refl (H:Hp):aM H H:=fun _ _ h=>h
theorem aM.trans {H H1 H2:Hp} (a:aM H H1) (b:aM H1 H2):aM H H2:=fun c o h=>b c o (a c o h)
theorem aM.free {H H':Hp} (e:aM H H') {l:Addr} (h:H' l=Option.none):H l=Option.none:=by
 cases q:H l with
 | none=>rfl
 | some o =>
  rw [e l o q] at h;cases h
theorem aM.seq {K:PySem.W.Frag} {H H':Hp} {a:Addr} {xs:List V} (e:aM H H') (h:cB K H a xs):cB K H' a xs:=by
 rcases h with (h | ⟨o,h⟩) | h
 ·exact .inl (.inl (e _ _ h))
 ·exact .inl (.inr ⟨o,e _ _ h⟩)
 ·exact .inr h
end L2
set_option maxHeartbeats 4000000
namespace L2
open PySem PySem.Spec PyProof.Rows
section
variable {κ:Type} [DecidableEq κ]
noncomputable def jW (kvs:List (κ × V)) (k:κ):Option V:=(kvs.find? fun kv=>decide (kv.1=k)).map (·.2)
noncomputable def jT (kvs:List (κ × V)) (k:κ) (v:V):List (κ × V) :=
 if (kvs.any fun kv=>decide (kv.1=k))=true then kvs.map (fun kv=>if kv.1=k then (kv.1,v) else kv) else kvs ++ [(k,v)]
noncomputable def QZ (kvs:List (κ × V)) (k:κ):List (κ × V):=kvs.filter fun kv=>decide (kv.1≠k)
theorem vO {p:κ × V} {r:List (κ × V)} {k:κ} (e:p.1=k):jW (p :: r) k=some p.2:=by simp [jW,List.find?_cons,e]
theorem vT {p:κ × V} {r:List (κ × V)} {k:κ} (e:¬ p.1=k):jW (p :: r) k=jW r k:=by simp [jW,List.find?_cons,e]
theorem DB (k:κ):∀ kvs:List (κ × V),(kvs.any fun kv=>decide (kv.1=k))=(jW kvs k).isSome
 | []=>rfl
 | p :: r=>by
  rw [List.any_cons];by_cases e:p.1=k
  ·simp only [vO e,decide_eq_true e,Bool.true_or,Option.isSome_some]
  ·rw [vT e,decide_eq_false e,Bool.false_or]; exact DB k r
theorem uM (kvs:List (κ × V)) (k:κ) (v:V):(jT kvs k v).length≤kvs.length+1:=by
 unfold jT;split
 ·rw [List.length_map]; omega
 ·rw [List.length_append,List.length_cons,List.length_nil]; omega
theorem gH.isSome_eq {o:Option V} {u:Option Value} (r:gH o u):o.isSome=u.isSome:=by
 cases o with
 | none=>cases u with
  | none=>rfl
  | some _=>exact (show False from r).elim
 | some _=>cases u with
  | none=>exact (show False from r).elim
  | some _=>rfl
theorem gH.getD {o:Option V} {u:Option Value} {d:V} {d':Value} (r:gH o u) (rd:a7 d d'):a7 (o.getD d) (u.getD d'):=by
 cases o with
 | none=>cases u with
  | none=>exact rd
  | some _=>exact (show False from r).elim
 | some _=>cases u with
  | none=>exact (show False from r).elim
  | some _=>exact r
theorem KV.val {kvs:List (κ × V)} {vs:List (κ × Value)} (r:KV kvs vs) (k:κ):gH (jW kvs k) (valueAt vs k):=by
 unfold KV at r
 induction r with
 | nil=>exact True.intro
 | @cons p q ps qs h t ih =>
  obtain ⟨h1,h2⟩:=h;by_cases e:p.1=k
  ·have e':q.1=k:=h1.symm.trans e;have b:valueAt (q :: qs) k=some q.2:=by simp [valueAt,List.find?_cons,e']
   rw [vO e,b]; exact h2
  ·have e':¬ q.1=k:=fun z=>e (h1.trans z)
   have b:valueAt (q :: qs) k=valueAt qs k:=by simp [valueAt,List.find?_cons,e']
   rw [vT e,b]; exact ih
theorem KV.any {kvs:List (κ × V)} {vs:List (κ × Value)} (r:KV kvs vs) (k:κ):(kvs.any fun kv=>decide (kv.1=k))=vs.any fun kv=>decide (kv.1=k):=by
 unfold KV at r
 induction r with
 | nil=>rfl
 | cons h t ih=>rw [List.any_cons,List.any_cons,ih,h.1]
theorem KV.repl {kvs:List (κ × V)} {vs:List (κ × Value)} (r:KV kvs vs) (k:κ) {y:V} {u:Value} (ry:a7 y u) :
  KV (kvs.map fun kv=>if kv.1=k then (kv.1,y) else kv) (vs.map fun kv=>if kv.1=k then (kv.1,u) else kv):=by
 unfold KV at r ⊢
 induction r with
 | nil=>exact .nil
 | @cons p q ps qs h t ih =>
  rw [List.map_cons,List.map_cons];refine .cons ?_ ih;obtain ⟨h1,h2⟩:=h;by_cases e:p.1=k
  ·rw [if_pos e,if_pos (h1.symm.trans e)]; exact ⟨h1,ry⟩
  ·rw [if_neg e,if_neg (fun z=>e (h1.trans z))]; exact ⟨h1,h2⟩
theorem KV.put {kvs:List (κ × V)} {vs:List (κ × Value)} (r:KV kvs vs) (k:κ) {y:V} {u:Value} (ry:a7 y u):KV (jT kvs k y) (stored vs k u):=by
 unfold jT stored;rw [r.any k];by_cases e:(vs.any fun kv=>decide (kv.1=k))=true
 ·rw [if_pos e,if_pos e]; exact r.repl k ry
 ·rw [if_neg e,if_neg e]; exact Paired.snoc r ⟨rfl,ry⟩
theorem KV.drop {kvs:List (κ × V)} {vs:List (κ × Value)} (r:KV kvs vs) (k:κ):KV (QZ kvs k) (without vs k):=by
 unfold KV at r ⊢;unfold QZ without
 induction r with
 | nil=>exact .nil
 | @cons p q ps qs h t ih =>
  obtain ⟨h1,h2⟩:=h;rw [List.filter_cons,List.filter_cons];by_cases e:p.1=k
  ·have a:¬ decide (p.1≠k)=true:=by simp [e]
   have b:¬ decide (q.1≠k)=true:=by simp [h1.symm.trans e]
   rw [if_neg a,if_neg b]; exact ih
  ·have e':¬ q.1=k:=fun z=>e (h1.trans z)
   have a:decide (p.1≠k)=true:=by simp [e]
   have b:decide (q.1≠k)=true:=by simp [e']
   rw [if_pos a,if_pos b]; exact .cons ⟨h1,h2⟩ ih
theorem KV.keys {kvs:List (κ × V)} {vs:List (κ × Value)} (r:KV kvs vs):kvs.map (·.1)=vs.map (·.1):=by
 unfold KV at r
 induction r with
 | nil=>rfl
 | cons h t ih=>rw [List.map_cons,List.map_cons,ih,h.1]
theorem KV.length {kvs:List (κ × V)} {vs:List (κ × Value)} (r:KV kvs vs):kvs.length=vs.length:=Paired.length r
end
theorem HW {P:Program} {w:World} {k:bP} {u:Value} (r:a7 (kV k) u):(dW P w).is k u=true:=by
 cases k with
 | inl i=>obtain ⟨t,e⟩:=(show ∃ t,u=Value.int i t from r); subst e; exact EU P w i t
 | inr x=>obtain ⟨t,e⟩:=(show ∃ t,u=Value.str x t from r); subst e; exact E3 P w x t
theorem zU {P:Program} {w:World}:∀ {ks:List bP} {us:List Value},aU (ks.map kV) us→ItemsAre (dW P w) ks us
 | [],_,r=>by rw [List.map_nil] at r; cases r; exact .nil
 | k :: ks,_,r=>by
  rw [List.map_cons] at r
  cases r with
  | cons h t=>exact .cons (HW h) (zU t)
abbrev KT (H:Hp):List (List bP × V)→List (List bP × Addr × Value)→Prop:=Paired fun p q=>p.1=q.1∧H q.2.1=some (.tup (p.1.map kV))∧a7 p.2 q.2.2
theorem KT.val {H:Hp} {kvs:List (List bP × V)} {xs:List (List bP × Addr × Value)} (r:KT H kvs xs) (k:List bP):gH (jW kvs k) ((atKey xs k).map (·.2)):=by
 induction r with
 | nil=>exact True.intro
 | @cons p q ps qs h t ih =>
  obtain ⟨h1,_,h2⟩:=h;by_cases e:p.1=k
  ·have e':q.1=k:=h1.symm.trans e;have b:atKey (q :: qs) k=some q.2:=by simp [atKey,List.find?_cons,e']
   rw [vO e,b]; exact h2
  ·have e':¬ q.1=k:=fun z=>e (h1.trans z)
   have b:atKey (q :: qs) k=atKey qs k:=by simp [atKey,List.find?_cons,e']
   rw [vT e,b]; exact ih
theorem KT.repl {H:Hp} {kvs:List (List bP × V)} {xs:List (List bP × Addr × Value)} (r:KT H kvs xs) (k:List bP) {y:V} {u:Value} (ry:a7 y u) :
  KT H (kvs.map fun kv=>if kv.1=k then (kv.1,y) else kv) (xs.map (putAt k u)):=by
 induction r with
 | nil=>exact .nil
 | @cons p q ps qs h t ih =>
  rw [List.map_cons,List.map_cons];refine .cons ?_ ih;obtain ⟨h1,h2,h3⟩:=h;unfold putAt;by_cases e:p.1=k
  ·rw [if_pos e,if_pos (h1.symm.trans e)]; exact ⟨h1,h2,ry⟩
  ·rw [if_neg e,if_neg (fun z=>e (h1.trans z))]; exact ⟨h1,h2,h3⟩
theorem KT.put {H:Hp} {kvs:List (List bP × V)} {xs:List (List bP × Addr × Value)} (r:KT H kvs xs) (k:List bP) {b:Addr} {y:V} {u:Value} (hb:H b=some (.tup (k.map kV))) (ry:a7 y u) :
  KT H (jT kvs k y) (storedH xs k b u):=by
 have e:(kvs.any fun kv=>decide (kv.1=k))=(atKey xs k).isSome:=by
  rw [DB,(r.val k).isSome_eq,Option.isSome_map]
 unfold jT storedH;rw [e];by_cases q:(atKey xs k).isSome=true
 ·rw [if_pos q,if_pos q]; exact r.repl k ry
 ·rw [if_neg q,if_neg q]; exact Paired.snoc r ⟨rfl,hb,ry⟩
theorem KT.keeps {H H':Hp} {kvs:List (List bP × V)} {xs:List (List bP × Addr × Value)} (r:KT H kvs xs) (ht:∀ b ys,H b=some (.tup ys)→H' b=some (.tup ys)):KT H' kvs xs :=
 Paired.mapP r fun _ _ z=>⟨z.1,ht _ _ z.2.1,z.2.2⟩
section
variable {P:Program} {w:World} {H:Hp} {h:Heap} {a:Addr}
theorem Q2 {u:HO} (ok:eD P w H h) (e:Rd H a u):dD P w H h a u:=e.ok ok
theorem GZ {kvs:List (bP × V)} (ok:eD P w H h) (e:Rd H a (.dK kvs)):kvs.length≤sizeLine∧(a == sysModules)=false∧∃ vs,KV kvs vs∧h.DictOf (dW P w) a vs :=
 show dD P w H h a (.dK kvs) from Q2 ok e
theorem aCI {kvs:List (bP × V)} (ok:eD P w H h) (e:H a=some (.dK kvs)):kvs.length≤sizeLine∧(a == sysModules)=false∧∃ vs,KV kvs vs∧h.DictOf (dW P w) a vs:=GZ ok (.inl e)
theorem DV {ks:List bP} (ok:eD P w H h) (e:H a=some (.tup (ks.map kV))):(tupleKind (dW P w)).is h ks a:=by
 obtain ⟨_,its,r,o,h1,h2,n,h3⟩:=(show dD P w H h a (.tup (ks.map kV)) from ok a _ e)
 exact ⟨o,its.toArray,n,h1,h2,h3,by simpa using zU r⟩
theorem JD {kvs:List (List bP × V)} (ok:eD P w H h) (e:Rd H a (.dT kvs)):kvs.length≤sizeLine∧(a == sysModules)=false ∧
  ∃ xs,KT H kvs xs∧h.DictOfH (tupleKind (dW P w)) a xs:=by
 obtain ⟨z,y,xs,r,o,es,ep,h1,h2,h3,h4,h5⟩:=(show dD P w H h a (.dT kvs) from Q2 ok e)
 refine ⟨z,y,xs,r,o,es,ep,h1,h2,h3,h4,fun x hx=>?_,h5⟩
 have all:∀ {l:List (List bP × V)} {m:List (List bP × Addr × Value)},KT H l m→∀ x∈m,(tupleKind (dW P w)).is h x.1 x.2.1:=by
  intro l m q
  induction q with
  | nil=>intro x hx; exact nomatch hx
  | @cons p q ps qs hq t ih =>
   intro x hx;rcases List.mem_cons.mp hx with e | hx
   ·subst e;exact DV ok (by rw [← hq.1]; exact hq.2.1)
   ·exact ih x hx
 exact all r x hx
theorem aB0 {kvs:List (List bP × V)} (ok:eD P w H h) (e:H a=some (.dT kvs)):kvs.length≤sizeLine∧(a == sysModules)=false ∧
  ∃ xs,KT H kvs xs∧h.DictOfH (tupleKind (dW P w)) a xs:=JD ok (.inl e)
end
def r8 (H:Hp) (a:Addr) (y:V) (r:Option V):Prop :=
 (∃ kvs k,Rd H a (.dK kvs)∧y=kV k∧r=jW kvs k)∨∃ kvs k b,Rd H a (.dT kvs)∧y=.ref b∧H b=some (.tup (k.map kV))∧r=jW kvs k
def vQ (H:Hp) (a:Addr) (y v:V) (H':Hp):Prop :=
 (∃ kvs k,H a=some (.dK kvs)∧y=kV k∧kvs.length<sizeLine∧H'=aV H a (.dK (jT kvs k v))) ∨
 ∃ kvs k b,H a=some (.dT kvs)∧y=.ref b∧H b=some (.tup (k.map kV))∧kvs.length<sizeLine∧H'=aV H a (.dT (jT kvs k v))
theorem r8.k {H:Hp} {a:Addr} {kvs:List (bP × V)} {k:bP} (e:H a=some (.dK kvs)):r8 H a (kV k) (jW kvs k):=.inl ⟨kvs,k,.inl e,rfl,rfl⟩
theorem r8.t {H:Hp} {a b:Addr} {kvs:List (List bP × V)} {k:List bP} (e:H a=some (.dT kvs)) (eb:H b=some (.tup (k.map kV))):r8 H a (.ref b) (jW kvs k):=.inr ⟨kvs,k,b,.inl e,rfl,eb,rfl⟩
theorem vQ.k {H:Hp} {a:Addr} {kvs:List (bP × V)} {k:bP} {v:V} (e:H a=some (.dK kvs)) (hl:kvs.length<sizeLine):vQ H a (kV k) v (aV H a (.dK (jT kvs k v))):=.inl ⟨kvs,k,e,rfl,hl,rfl⟩
theorem vQ.t {H:Hp} {a b:Addr} {kvs:List (List bP × V)} {k:List bP} {v:V} (e:H a=some (.dT kvs)) (eb:H b=some (.tup (k.map kV))) (hl:kvs.length<sizeLine) :
  vQ H a (.ref b) v (aV H a (.dT (jT kvs k v))):=.inr ⟨kvs,k,b,e,rfl,eb,hl,rfl⟩
section
variable {X:Cx} {pins:List (Addr × Obj)} {σ:St} {H:Hp} {s:Shared} {a:Addr} {y v:V} {u r:Value} {o:Option V} {A:Around} {E:Value→Shared→Prop}
theorem MJ {Q:Value→Shared→Prop} (hu:A.units+1<cLine) (I:Inv X pins σ H s) (g:r8 H a y (some v)) (ry:a7 y u) (h:∀ w' s',Inv X pins σ H s'→a7 v w'→Q w' s') :
  wpAny (model X.prog X.w) A (getItem (.ref a) u) Q E s:=by
 rcases g with ⟨kvs,k,e,ey,l⟩ | ⟨kvs,k,b,e,ey,eb,l⟩
 ·subst ey;obtain ⟨z,hd,vs,rel,dd⟩:=GZ I.hok e;obtain ⟨w',hw,rw'⟩:=gH.some_of (v:=v) (o:=valueAt vs k) (by rw [l]; exact rel.val k);exact wpAny_getItem_of (HW ry) dd.mapOf hw (h w' _ (I.tok _) rw')
 ·subst ey;cases (show u=Value.ref b from ry);obtain ⟨z,hd,xs,rel,dd⟩:=JD I.hok e;obtain ⟨w',hw,rw'⟩:=gH.some_of (v:=v) (o:=(atKey xs k).map (·.2)) (by rw [l]; exact rel.val k);obtain ⟨p,hp,hp2⟩:=Option.map_eq_some_iff.mp hw;refine wpAny_getItem_heap (tupleKind_room_in1 hu) (DV I.hok eb) dd hp ?_;rw [hp2];exact h w' _ (I.tok _) rw'
theorem FZ {h':Heap} {t':Nat} {ob:HO} (I:Inv X pins σ H s) (mu:LF (H a)) (hs:Heap.SameBut a s.heap h') (he:∃ q,h'.get? a=some q) (new:dD X.prog X.w (aV H a ob) h' a ob) :
  Inv X pins σ (aV H a ob) { s with heap:=h',toks:=t' } :=
 I.write (x:=a) (e:=a) mu (.inl rfl) (fun b q hb z=>(hs.2 b hb).trans z) he new
theorem XX {P:Program} {w:World} {H':Hp} {h':Heap} {kvs:List (bP × V)} {vs:List (bP × Value)} (z:kvs.length≤sizeLine) (hd:(a == sysModules)=false) (rel:KV kvs vs) (dd:h'.DictOf (dW P w) a vs) :
  dD P w H' h' a (.dK kvs):=⟨z,hd,vs,rel,dd⟩
theorem L8 {H':Hp} {Q:Unit→Shared→Prop} (hu:A.units+1<cLine) (I:Inv X pins σ H s) (g:vQ H a y v H') (ry:a7 y u) (rv:a7 v r) (h:∀ s',Inv X pins σ H' s'→Q () s') :
  wpAny (model X.prog X.w) A (setItem (.ref a) u r) Q E s:=by
 rcases g with ⟨kvs,k,e,ey,l,eH⟩ | ⟨kvs,k,b,e,ey,eb,l,eH⟩
 ·subst ey eH;obtain ⟨z,hd,vs,rel,dd⟩:=aCI I.hok e;have hz:vs.length≤sizeLine:=by rw [← rel.length]; exact z
  have hl:(jT kvs k v).length≤sizeLine:=by have:=uM kvs k v; omega
  refine wpAny_setItem_pairs (hsz:=hz) (HW ry) dd fun h' dd' hs=>h _ ?_
  have he:∃ q,h'.get? a=some q:=let ⟨q,_,_,hq,_⟩:=dd'; ⟨q,hq⟩
  exact FZ I (by rw [e]; exact True.intro) hs he (XX hl hd (rel.put k rv) dd')
 ·subst ey eH;cases (show u=Value.ref b from ry);obtain ⟨z,hd,xs,rel,dd⟩:=aB0 I.hok e;have hz:xs.length≤sizeLine:=by rw [← Paired.length rel]; exact z
  have hl:(jT kvs k v).length≤sizeLine:=by have:=uM kvs k v; omega
  refine wpAny_setItem_heap (hsz:=hz) (tupleKind_room_in1 hu) (DV I.hok eb) dd fun h' dd' hs=>h _ ?_
  obtain ⟨q,es,ep,hq,h2,h3,h4,_,h5⟩:=dd';refine FZ I (by rw [e]; exact True.intro) hs ⟨q,hq⟩ ⟨hl,hd,_,(rel.put k eb rv).keeps fun c ys ec=>?_,q,es,ep,hq,h2,h3,h4,h5⟩;rw [aN (aDB ec e (fun z=>nomatch z))];exact ec
end
section
variable {X:Cx} {pins:List (Addr × Obj)} {σ:St} {H:Hp} {s:Shared} {a:Addr} {kvs:List (bP × V)} {k:bP} {u:Value} {A:Around} {E:Value→Shared→Prop}
end
theorem EY {X:Cx} {pins:List (Addr × Obj)} {σ:St} {H:Hp} {s:Shared} {a:Addr} {y:V} {o:Option V} (I:Inv X pins σ H s) (g:r8 H a y o):s.TypeIs (.ref a) "dict":=by
 rcases g with ⟨kvs,k,e,_,_⟩ | ⟨kvs,k,b,e,_,_,_⟩
 ·obtain ⟨_,_,vs,_,dd⟩:=GZ I.hok e;exact dd.typeIs
 ·obtain ⟨_,_,xs,_,dd⟩:=JD I.hok e;exact dd.typeIs
section
variable {X:Cx} {o i e value:Expr} {pos pos' tpos:Pos} {td ty tv:TE}
end
section
variable {X:Cx} {pos:Pos}
end
structure M1 (X:Cx) (o:Expr) (m:Str) (apos:Pos) (e:Expr) (cpos:Pos):Prop where
 base:attributeBase o m X.env (eval o X.env)=eval o X.env
 few:((backTo cpos (starEach [e] X.env)).all (fun x=>!x.1) && (backToKw cpos (keywordEach [] X.env)).all (fun x=>x.1.isSome)
  && decide (([e]:List Expr).length+([]:List Keyword).length+(if ([]:List Keyword).isEmpty then 0 else 1)<30))=true
 line:(apos.endLine == cpos.line)=true
 trees:backTo cpos (starEach [e] X.env)=[(false,eval e X.env)]
structure M2 (X:Cx) (o:Expr) (m:Str) (apos:Pos) (e f:Expr) (cpos:Pos):Prop where
 base:attributeBase o m X.env (eval o X.env)=eval o X.env
 few:((backTo cpos (starEach [e,f] X.env)).all (fun x=>!x.1) && (backToKw cpos (keywordEach [] X.env)).all (fun x=>x.1.isSome)
  && decide (([e,f]:List Expr).length+([]:List Keyword).length+(if ([]:List Keyword).isEmpty then 0 else 1)<30))=true
 line:(apos.endLine == cpos.line)=true
 trees:backTo cpos (starEach [e,f] X.env)=[(false,eval e X.env),(false,eval f X.env)]
section
variable {X:Cx} {pins:List (Addr × Obj)} {σ:St} {H:Hp} {s:Shared} {a:Addr} {y d:V} {u r:Value} {o:Option V} {A:Around} {E:Value→Shared→Prop}
end
section
variable {X:Cx} {o e f:Expr} {apos cpos:Pos} {td ty tx:TE}
end
section
variable {X:Cx} {pins:List (Addr × Obj)} {σ:St} {H:Hp} {s:Shared} {a:Addr} {kvs:List (bP × V)} {A:Around} {E:Value→Shared→Prop}
end
section
variable {X:Cx} {pins:List (Addr × Obj)} {σ:St} {H:Hp} {s:Shared} {a:Addr} {y:V} {u:Value} {A:Around} {E:Value→Shared→Prop}
end
end L2
namespace HT
open PySem PySem.Spec PyProof.Rows
section
variable {prog:Program} {w:World} {A:Around} {E:Value→Shared→Prop} {s:Shared}
theorem IY (n:Nat):Builtin.Slice.slicePlaces ((n:Int) - 1) (-1) (-1)=n:=by
 unfold Builtin.Slice.slicePlaces;rw [if_neg (by decide)];by_cases h:n=0
 ·subst h; rfl
 ·rw [if_pos (by omega),show ((n:Int) - 1 - -1 - 1)=(n:Int) - 1 by omega,show -(-1:Int)=1 by decide,Int.ediv_one];omega
theorem vY {sl:Addr} {vs:Value} {n:Nat} {Q:Int × Int × Nat→Shared→Prop} (hs:s.heap.IsSliceOf sl .none .none vs) (p:IsPart vs (some (-1))) (h:Q ((n:Int) - 1,-1,n) s):wpAny (model prog w) A (Builtin.Slice.sliceApplied (.ref sl) (pure (n:Int))) Q E s:=by
 obtain ⟨os,hos,hcs,hds⟩:=id hs;unfold Builtin.Slice.sliceApplied Builtin.Slice.sliceFields;refine wpAny_bind (wpAny_bind (wpAny_field hos hds (x:=.none) rfl (wpAny_bind (wpAny_field hos hds (x:=.none) rfl (wpAny_bind (wpAny_field hos hds (x:=vs) rfl (wpAny_pure ?_)))))));refine wpAny_bind (pG p ?_);show wpAny _ _ (if ((-1:Int) == 0)=true then _ else _) _ _ s;rw [if_neg (by decide)];refine wpAny_bind (slicePart_none (wpAny_bind (slicePart_none (wpAny_bind (wpAny_pure ?_)))));show wpAny _ _ (pure ((n:Int) - 1,(-1:Int),Builtin.Slice.slicePlaces ((n:Int) - 1) (-1) (-1))) _ _ s;rw [IY];exact wpAny_pure h
theorem FL {α β:Type} {f:α→Option β} {g:α→β}:∀ (l:List α),(∀ a∈l,f a=some (g a))→l.filterMap f=l.map g
 | [],_=>rfl
 | a :: l,h=>by
  rw [List.filterMap_cons,h a (List.mem_cons_self ..)];show g a :: l.filterMap f=g a :: l.map g;rw [FL l fun b hb=>h b (List.mem_cons_of_mem _ hb)]
theorem N1 (xs:Array Value):((List.range xs.size).filterMap fun (m:Nat)=>xs[((xs.size:Int) - 1+(m:Int)*-1).toNat]?).toArray=xs.toList.reverse.toArray:=by
 congr 1
 apply List.ext_getElem?
 intro i
 have e:((List.range xs.size).filterMap fun (m:Nat)=>xs[((xs.size:Int) - 1+(m:Int)*-1).toNat]?)=(List.range xs.size).map fun m=>(xs.toList.reverse).getD m .none:=by
  refine FL _ fun m hm=>?_
  have hm:=List.mem_range.mp hm
  have:((xs.size:Int) - 1+(m:Int)*-1).toNat=xs.size - 1 - m:=by omega
  rw [this];rw [List.getD_eq_getElem?_getD,List.getElem?_reverse (by simpa using hm),Array.length_toList,Array.getElem?_toList,Array.getElem?_eq_getElem (by omega)];rfl
 rw [e];by_cases hi:i<xs.size
 ·rw [List.getElem?_map,List.getElem?_range hi];show some (xs.toList.reverse.getD i .none)=_;rw [List.getD_eq_getElem?_getD,List.getElem?_eq_getElem (by simpa using hi)];rfl
 ·rw [List.getElem?_eq_none (by simpa using hi),List.getElem?_eq_none (by simpa using hi)]
theorem uC {t sl:Addr} {items:Array Value} {vs:Value} {Q:Value→Shared→Prop} (ht:IsTup s.heap t items) (hs:s.heap.IsSliceOf sl .none .none vs) (p:IsPart vs (some (-1)))
  (h:Q (.ref s.heap.objs.size) { s with heap:=s.heap.push { cls:=.type "tuple",data:=.seq items.toList.reverse.toArray } })
  (hsz:items.size≤sizeLine):wpAny (model prog w) A (getItem (.ref t) (.ref sl)) Q E s:=by
 have htake:sizeOk (.seq items.toList.reverse.toArray):=by
  show items.toList.reverse.toArray.size≤sizeLine;rw [List.size_toArray,List.length_reverse,Array.length_toList];exact hsz
 obtain ⟨os,hos,hcs,hds⟩:=id hs;have hTs:s.TypeIs (.ref sl) "slice":=⟨os,hos,hcs⟩
 unfold getItem
 try with_reducible refine wpAny_holding ?_
 first | refine wpAny_bind (wpAny_pure ?_) | skip
 refine wpAny_bind (wpAny_sequenceKey ht.typeIs (by decide) ?_)
 refine wpAny_bind (wpAny_callSpecial?_slot (name:=Str.ofString "__getitem__") ht.typeIs PyProof.Rows.slot_tuple_getitem
  (wpAny_call_entry PyProof.Rows.slot_tuple_getitem ht.typeIs entry_tuple_getitem ?_ (args_tuple_getitem _ _)))
 show wpAny _ _ (Builtin.Tuple.tupleItemsOf (.ref t) >>= _) _ _ s;refine wpAny_bind (tupleItemsOf_ ht ?_);refine wpAny_bind (wpAny_typeOf hTs ?_);rw [if_pos (by decide)];refine wpAny_bind (vY hs p ?_)
 have hno:¬ ((((items.size:Int) - 1) == 0 && (-1:Int) == 1 && items.size == items.size)=true):=by
  intro q;rw [Bool.and_eq_true,Bool.and_eq_true] at q;exact absurd q.1.2 (by decide)
 show wpAny _ _ (if (((items.size:Int) - 1) == 0 && (-1:Int) == 1 && items.size == items.size)=true then _ else _) _ _ s;rw [if_neg hno,N1]
 first
  | exact wpAny_bind (m:=Builtin.Tuple.tupleExact _) (wpAny_newObj_type (wpAny_pure ⟨_,rfl,wpAny_pure h⟩) htake)
  | exact wpAny_bind (m:=Builtin.Tuple.tupleExact _) (wpAny_newObj_type (wpAny_bind (wpAny_pure (wpAny_pure ⟨_,rfl,wpAny_pure h⟩))) htake)
  | exact wpAny_bind (wpAny_bind (m:=Builtin.Tuple.tupleExact _) (wpAny_newObj_type (wpAny_pure (wpAny_pure ⟨_,rfl,wpAny_pure h⟩)) htake))
  | exact wpAny_bind (wpAny_bind (m:=Builtin.Tuple.tupleExact _) (wpAny_newObj_type (wpAny_pure ⟨_,rfl,wpAny_pure h⟩) htake))
end
end HT
namespace L2
open PySem PySem.Spec PyProof.Rows
section
variable {X:Cx} {e st:Expr} {te tst:TE} {pos p2:Pos}
theorem aU.rev {xs:List V} {us:List Value} (r:aU xs us):aU xs.reverse us.reverse:=by
 induction r with
 | nil=>exact .nil
 | cons r1 r2 ih =>
  rw [List.reverse_cons,List.reverse_cons];exact ih.append (.cons r1 .nil)
noncomputable def aE5 (K:PySem.W.Frag) (te tst:TE):TE:=fun σ H Q=>te σ H fun x H1=>tst σ H1 fun y H2=>y=.int (-1)∧∃ a xs,x=.ref a∧d6 K H2 a xs∧∀ p,H2 p=none→Q (.ref p) (aV H2 p (.tup xs.reverse))
theorem Y0 (he:PE X e te) (hu:PE X st tst):PE X (.Subscript e (.Slice none none (some st) p2) pos) (aE5 X.K te tst):=by
 intro pins s σ H Q I h;refine Subscript_ (a6 (he pins s σ H _ I h) fun v s1 ⟨x,H1,I1,r1,q1⟩=>?_);refine wpAny_Slice ?_;rw [evalPart_none];refine wpAny_pure (wpAny_pure ?_);rw [evalPart_some];refine a6 (hu pins s1 σ H1 _ I1 q1) fun vs s3 ⟨y,H3,I3,ry,q2⟩=>?_
 obtain ⟨rfl,a,xs,rfl,hx,q⟩:=q2;obtain ⟨tk,rfl⟩:=ry;cases r1;have I4:Inv X pins σ H3 { s3 with heap:=s3.heap.push { cls:=.type "slice",data:=.fields #[.none,.none,.int (-1) tk] } }:=I3.kept (t':=s3.toks) fun b ob q=>Heap.get?_push_of_some _ q
 obtain ⟨its,r,ht,hz⟩:=I4.tuple hx;have hlen:its.toArray.size=xs.length:=by rw [List.size_toArray]; exact r.length.symm
 show wpAny (model X.prog X.w) X.A (subscriptTail e (.Slice none none (some st) p2) (.ref a) (.ref s3.heap.objs.size)) (EP X pins σ Q) X.xe { s3 with heap:=s3.heap.push { cls:=.type "slice",data:=.fields #[.none,.none,.int (-1) tk] } };refine tail_any (ops:=[.ref a,.ref s3.heap.objs.size]) ht.typeIs PyProof.Rows.slot_tuple_getitem.lookup ?_ (by with_unfolding_all rfl);refine HT.uC ht (Heap.IsSliceOf.new ..) (.int (-1) tk) ?_ (by rw [hlen]; exact hz);refine ⟨.ref _,_,I4.laid (t':=s3.toks) (o:=.tup xs.reverse) (fun b ob q=>Heap.get?_push_of_some _ q) (Nat.le_refl _) ?_,rfl,q _ (I4.hok.fresh (Nat.le_refl _))⟩;exact ⟨by rw [List.length_reverse]; exact hz,_,r.rev,IsTup.new _ _⟩
end
end L2
namespace CI
open PySem PySem.Spec PyProof.Rows L2
section
variable {X:Cx} {pins:List (Addr × Obj)} {σ:L2.St} {H H':Hp} {s:Shared} {h':Heap} {a C:Addr}
theorem MR {P:Program} {w:World} {h:Heap} {b:Addr} {o:HO} (x:dD P w H h b o):∃ ob,h.get? b=some ob:=by
 cases o with
 | lst xs=>obtain ⟨_,_,_,_,e⟩:=x; exact ⟨_,e⟩
 | tup xs=>obtain ⟨_,_,_,ob,e,_⟩:=x; exact ⟨_,e⟩
 | dK kvs=>obtain ⟨_,_,_,_,o,_,_,e,_⟩:=x; exact ⟨_,e⟩
 | dT kvs=>obtain ⟨_,_,_,_,o,_,_,e,_⟩:=x; exact ⟨_,e⟩
 | set S n=>obtain ⟨o,_,_,_,e,_⟩:=x; exact ⟨_,e⟩
 | ins C dx fs=>obtain ⟨_,_,_,e,_⟩:=x; exact ⟨_,e⟩
 | own y=>obtain ⟨_,e⟩:=x; exact ⟨_,e⟩
 | xd fs=>obtain ⟨_,⟨_,_,_,e,_⟩,_⟩:=x; exact ⟨_,e⟩
 | rng lo hi=>obtain ⟨_,_,_,e⟩:=x; exact ⟨_,e⟩
 | frz ob u=>obtain ⟨e,_⟩:=x; exact ⟨_,e⟩
 | tbl ps=>exact ⟨_,show h.get? b=some _ from x⟩
 | met f y=>exact ⟨_,show h.get? b=some _ from x⟩
 | ext φ=>obtain ⟨_,⟨_,e⟩,_⟩:=x; exact ⟨_,e⟩
theorem sA (I:Inv X pins σ H s) {b:Addr} (hb:s.heap.get? b=none) (hn:H' b=none):cR X pins H' b:=by
 refine ⟨hn,fun z=>?_,fun z=>?_, ?_,fun x c e z=>?_,fun p hp z=>?_⟩
 ·obtain ⟨m,⟨o,_,_,ho,_⟩,_⟩:=I.loc;rw [← z,hb] at ho; cases ho
 ·obtain ⟨_,o,ho,_⟩:=I.funs.mem z;rw [hb] at ho; cases ho
 ·by_cases hx:b∈X.ex
  ·exact .inl hx
  ·refine .inr ?_
   cases q:X.s₀.heap.get? b with
   | none=>rfl
   | some o =>
    obtain ⟨o',e⟩:=I.base.there b o q hx;rw [hb] at e; cases e
 ·obtain ⟨v,o,ho,_⟩:=I.cell x c e;rw [z,hb] at ho; cases ho
 ·have:=(I.pin p hp).1
  rw [z,hb] at this; cases this
theorem D3 (I:Inv X pins σ H s) {b:Addr} (hb:s.heap.get? b=none):H b=none:=by
 cases q:H b with
 | none=>rfl
 | some u =>
  obtain ⟨ob,e⟩:=MR (I.hok b u q);rw [hb] at e; cases e
theorem nC {as:List Addr} (I:Inv X pins σ H s) (fp:∀ b∈as,cR X pins H b) (k:(PySem.W.hideAll s.heap (as ++ fU X.stack)).StaysIn h')
  (sl:∀ b o,s.heap.get? b=some o→(∀ vs,o.data≠.fields vs)→∃ sl,h'.get? b=some { o with slots:=sl }):Inv X pins σ H { s with heap:=h' }:=by
 have kp:∀ b o,b ∉ as→b ∉ fU X.stack→s.heap.get? b=some o→h'.get? b=some o:=fun b o h1 h2 e=>k b o (PySem.W.hideAll_get _ e (by simp [h1,h2]))
 have tr:∀ b u,H b=some u→b ∉ as∧b ∉ fU X.stack:=fun b u e=>⟨(fun z=>by rw [(fp b z).1] at e; cases e),(fun z=>by rw [I.stkFree b z] at e; cases e)⟩
 have fr:∀ b∈fU X.stack,∀ o,s.heap.get? b=some o→∃ sl,h'.get? b=some { o with slots:=sl }:=fun b hb o e=>by
  obtain ⟨_,o',e',nf⟩:=I.stack.mem hb;rw [e] at e'; cases e';exact sl b o e nf
 have hok:eD X.prog X.w H h':=fun b u e=>(I.hok b u e).stay (fun c v hc q=>by
  have z:c ∉ as∧c ∉ fU X.stack:=by
   rcases hc with rfl | hc
   ·exact tr _ u e
   ·exact tr c _ hc
  exact kp c v z.1 z.2 q) (fun _ q=>q) fun _ _ q=>q
 have u:Un (fU X.stack) as H H s.heap h':=⟨fun b o e n hf hx=>kp b o hx hf e,fun b o e n hf hx=>fr b hf o e,fun b o e n hx=>n,fun b o e hx=>by
  by_cases hf:b∈fU X.stack
  ·obtain ⟨_,z⟩:=fr b hf o e; exact ⟨_,z⟩
  ·exact ⟨o,kp b o hx hf e⟩,fun _ _ e=>e,fun _ _ _ e=>e,fun b ps e=>⟨#[],by rw [e]; simp⟩⟩
 exact I.call (g':=s.gens) (t':=s.toks) (d':=s.drawn) (ch:=as) u hok I.bare fun b hb=>⟨(fp b hb).2.2.2.1,(fp b hb).2.1,(fp b hb).2.2.2.2.1,(fp b hb).2.2.2.2.2⟩
def xN (X:Cx) (pins:List (Addr × Obj)) (H:Hp) (h:Heap) (a C:Addr) (fl:Value):Prop :=
 ∃ oe vs a0 T oT ts,h.get? a=some oe∧oe.cls=.ref C∧oe.data=.fields vs∧vs[0]?=some a0∧cR X pins H T∧vs[1]?=some (.ref T)∧T≠a∧h.get? T=some oT∧oT.data=.fields ts∧ts[3]?=some fl
def MdO (h:Heap) (a C:Addr):Prop:=∃ oe vs a0,h.get? a=some oe∧oe.cls=.ref C∧oe.data=.fields vs∧vs[0]?=some a0∧vs[1]?=some .none
def mH (X:Cx) (pins:List (Addr × Obj)) (H:Hp) (h:Heap) (a C:Addr):Prop:=cR X pins H a∧(MdO h a C∨∃ fl,xN X pins H h a C fl)
theorem XS (I:Inv X pins σ H s) {as:List Addr} (fp:∀ b∈as,cR X pins H b) {T:Addr} {oT:Obj} {ts:Array Value} (hB:(PySem.W.hideAll s.heap (as ++ fU X.stack)).get? T=none) (hT:h'.get? T=some oT) (hd:oT.data=.fields ts)
  (sl:∀ b o,s.heap.get? b=some o→(∀ vs,o.data≠.fields vs)→∃ sl,h'.get? b=some { o with slots:=sl }):cR X pins H T:=by
 by_cases h1:T∈as
 ·exact fp T h1
 ·by_cases h2:T∈fU X.stack
  ·obtain ⟨_,o,e,nf⟩:=I.stack.mem h2;obtain ⟨sl',e'⟩:=sl T o e nf;rw [hT] at e'; cases e';exact absurd hd (nf ts)
  ·have hn:s.heap.get? T=none:=by
    cases q:s.heap.get? T with
    | none=>rfl
    | some o=>rw [PySem.W.hideAll_get _ q (by simp [h1,h2])] at hB; cases hB
   exact sA I hn (D3 I hn)
theorem pL (I:Inv X pins σ H s) (as:List Addr):s.heap.FunFrames (PySem.W.hideAll s.heap (as ++ fU X.stack)) X.stack :=
 PySem.W.funFrames_hide I.stack fun env he b hb=>List.mem_append_right _ (List.mem_filterMap.mpr ⟨env,he,hb⟩)
theorem C9 (I:Inv X pins σ H s) {as:List Addr} (fp:∀ b∈as,cR X pins H b) {a0 fl:Value} (t:h'.TracedAtW (PySem.W.hideAll s.heap (as ++ fU X.stack)) a (.ref C) a0 fl)
  (sl:∀ b o,s.heap.get? b=some o→(∀ vs,o.data≠.fields vs)→∃ sl,h'.get? b=some { o with slots:=sl }):xN X pins H h' a C fl:=by
 obtain ⟨oe,vs,T,oT,ts,he,⟨hc,h0⟩,hd,h1,hB,hne,hT,hdT,h3⟩:=t;exact ⟨oe,vs,a0,T,oT,ts,he,hc,hd,h0,XS I fp hB hT hdT sl,h1,hne,hT,hdT,h3⟩
variable {M:Model} {A:Around} {E:Value→Shared→Prop} {Q:Unit→Shared→Prop}
theorem TC {base:Heap} {env:Env} {outer:List Env} {L e:Addr} {cls a0 fl:Value} (hfr:A.frames=some (env :: outer)) (hl:s.heap.FunFrames base (env :: outer)) (hf:env.frame=some L) (ht:s.heap.TracedAtW base e cls a0 fl) (hn:¬ (fl == rawInt L)=true) (hkb:base.StaysIn s.heap) (hen:base.get? e=none)
  (h:∀ h',Heap.NotedW base (env :: outer) e cls a0 (rawInt L) s.heap h'→Q () { s with heap:=h' }):wpAny M A (noteFrame (.ref e) env) Q E s:=by
 obtain ⟨oe,vs,T,oT,ts,he,⟨hcls,h0⟩,hd,h1,hnT,hTe,hT,hdT,h3⟩:=ht;subst hcls;unfold noteFrame;simp only [hf];refine wpAny_bind (wpAny_field he hd h1 ?_);rw [if_pos (show (Value.ref T != Value.none)=true from by simp)];refine wpAny_bind (wpAny_field hT hdT h3 ?_);rw [if_neg hn];refine wpAny_bind (wpAny_setField hT hdT (Array.getElem?_eq_some_iff.mp h3).1 ?_);have other:∀ b,b≠T→(s.heap.update T (Obj.mapFields (·.setIfInBounds 3 Value.none))).get? b=s.heap.get? b:=fun b hb=>Heap.get?_update_other _ _ (Ne.symm hb)
 have noRecord:∀ b o,s.heap.get? b=some o→(∀ vs,o.data≠.fields vs)→b≠T:=fun b o hb hnf q=>by
  rw [q,hT] at hb; injection hb with hb; subst hb; exact hnf ts hdT
 refine wpAny_entryW hfr (hl.of_keeps fun b o hb hnf=>⟨o,(other b (noRecord b o hb hnf)).trans hb,rfl⟩) hf ((other e (Ne.symm hTe)).trans he)
  (fun b o hbo=>(other b fun q=>by rw [q,hnT] at hbo; cases hbo).trans (hkb b o hbo)) hen hd (Array.getElem?_eq_some_iff.mp h1).1 h0
  fun h' ⟨x1,x2,x3,x4⟩=>h h' ⟨x1,x2,x3,fun b o hb hnf=>x4 b o ((other b (noRecord b o hb hnf)).trans hb) hnf⟩
theorem yK (I:Inv X pins σ H s) {env:Env} {outer:List Env} {L:Addr} (hs:X.stack=env :: outer) (hf:env.frame=some L) (F:mH X pins H s.heap a C)
  (h:∀ h',Inv X pins σ H { s with heap:=h' }→xN X pins H h' a C (rawInt L)→Q () { s with heap:=h' }):wpAny M X.A (noteFrame (.ref a) env) Q E s:=by
 have hfr:X.A.frames=some (env :: outer):=by rw [← hs]; exact I.ok.frames
 obtain ⟨fa,F⟩:=F;rcases F with ⟨oe,vs,a0,he,hc,hd,h0,h1⟩ | ⟨fl,oe,vs,a0,T,oT,ts,he,hc,hd,h0,fT,h1,hne,hT,hdT,h3⟩
 ·have fp:∀ b∈[a],cR X pins H b:=fun b hb=>by rw [List.mem_singleton.mp hb]; exact fa
  have hl:=pL I [a];rw [hs] at hl;unfold noteFrame;simp only [hf];refine wpAny_bind (wpAny_field he hd h1 ?_);rw [if_neg (by decide)];refine wpAny_entryW hfr hl hf he (fun b o e=>PySem.W.of_hideAll _ e) (PySem.W.hideAll_none _ (by simp)) hd (Array.getElem?_eq_some_iff.mp h1).1 h0 fun h' N=>?_
  obtain ⟨k1,k2,k3,k4⟩:=N;rw [← hs] at k1 k3;rw [hc] at k3;exact h h' (nC I fp k1 k4) (C9 I fp k3 k4)
 ·have fp:∀ b∈[a,T],cR X pins H b:=fun b hb=>by
   rcases List.mem_cons.mp hb with rfl | hb
   ·exact fa
   ·rw [List.mem_singleton.mp hb]; exact fT
  have hl:=pL I [a,T];rw [hs] at hl;by_cases hfl:(fl == rawInt L)=true
  ·have hfl:=eq_of_beq hfl;subst hfl;exact wpAny_noteFrame_againW (base:=PySem.W.hideAll s.heap ([a,T] ++ fU (env :: outer))) hf ⟨oe,vs,T,oT,ts,he,⟨hc,h0⟩,hd,h1,PySem.W.hideAll_none _ (by simp),hne,hT,hdT,h3⟩ (h s.heap I ⟨oe,vs,a0,T,oT,ts,he,hc,hd,h0,fT,h1,hne,hT,hdT,h3⟩)
  refine TC hfr hl hf ⟨oe,vs,T,oT,ts,he,⟨hc,h0⟩,hd,h1,PySem.W.hideAll_none _ (by simp),hne,hT,hdT,h3⟩ hfl (fun b o e=>PySem.W.of_hideAll _ e) (PySem.W.hideAll_none _ (by simp)) fun h' N=>?_
  obtain ⟨k1,k2,k3,k4⟩:=N;rw [← hs] at k1 k3;exact h h' (nC I fp k1 k4) (C9 I fp k3 k4)
theorem rT (I:Inv X pins σ H s) {fl:Value} (fa:cR X pins H a) (F:xN X pins H s.heap a C fl)
  (h:∀ h',Inv X pins σ H { s with heap:=h' }→xN X pins H h' a C .none→Q () { s with heap:=h' }):wpAny M A (setFlight (.ref a) none) Q E s:=by
 obtain ⟨oe,vs,a0,T,oT,ts,he,hc,hd,h0,fT,h1,hne,hT,hdT,h3⟩:=F
 have fp:∀ b∈[a,T],cR X pins H b:=fun b hb=>by
  rcases List.mem_cons.mp hb with rfl | hb
  ·exact fa
  ·rw [List.mem_singleton.mp hb]; exact fT
 refine wpAny_setFlight_noneW (base:=PySem.W.hideAll s.heap ([a,T] ++ fU X.stack)) (fun b o e=>PySem.W.of_hideAll _ e) (pL I [a,T]) ⟨oe,vs,T,oT,ts,he,⟨hc,h0⟩,hd,h1,PySem.W.hideAll_none _ (by simp),hne,hT,hdT,h3⟩ fun h' k1 k2 k3 k4=>?_
 have k4':∀ b o,s.heap.get? b=some o→(∀ vs,o.data≠.fields vs)→∃ sl,h'.get? b=some { o with slots:=sl }:=fun b o e nf=>⟨o.slots,k4 b o e nf⟩
 exact h h' (nC I fp k1 k4') (C9 I fp k3 k4')
theorem SY (I:Inv X pins σ H s) {fl:Value} {w:String} {env:Env} {α:Type} {Q:α→Shared→Prop} (fa:cR X pins H a) (F:xN X pins H s.heap a C fl)
  (h:∀ h' fl',Inv X pins σ H { s with heap:=h' }→xN X pins H h' a C fl'→E (.ref a) { s with heap:=h' }):wpAny M A (PySem.passOn w (.ref a) env:Sem α) Q E s:=by
 obtain ⟨oe,vs,a0,T,oT,ts,he,hc,hd,h0,fT,h1,hne,hT,hdT,h3⟩:=F
 have fp:∀ b∈[a,T],cR X pins H b:=fun b hb=>by
  rcases List.mem_cons.mp hb with rfl | hb
  ·exact fa
  ·rw [List.mem_singleton.mp hb]; exact fT
 have hsz3:3<ts.size:=(Array.getElem?_eq_some_iff.mp h3).1;unfold PySem.passOn;refine wpAny_bind (wpAny_field he hd h1 ?_);rw [if_neg (show ¬ ((Value.ref T == Value.none)=true) from by simp)];refine wpAny_bind ?_;unfold setFlight;refine wpAny_bind (wpAny_field he hd h1 ?_);rw [if_pos (show (Value.ref T != Value.none)=true from by simp)];refine wpAny_setField hT hdT hsz3 (wpAny_throw ?_);have other:∀ b,b≠T→(s.heap.update T (Obj.mapFields (·.setIfInBounds 3 (env.frame.elim Value.none fun f=>rawInt f)))).get? b=s.heap.get? b:=fun b hb=>Heap.get?_update_other _ _ (Ne.symm hb)
 refine h _ (env.frame.elim Value.none fun f=>rawInt f) (nC I fp (fun b o e=>?_) fun b o e nf=>⟨o.slots, ?_⟩) ⟨oe,vs,a0,T,_,_,(other a (Ne.symm hne)).trans he,hc,hd,h0,fT,h1,hne,Heap.get?_update_self _ hT (Obj.isFreed_of_fields (Obj.data_mapFields hdT _)),Obj.data_mapFields hdT _,by simp [hsz3]⟩
 ·have hb:b≠T:=fun z=>by rw [z,PySem.W.hideAll_none _ (by simp)] at e; cases e
  exact (other b hb).trans (PySem.W.of_hideAll _ e)
 ·have hb:b≠T:=fun z=>by rw [z,hT] at e; cases e; exact nf ts hdT
  exact (other b hb).trans e
theorem OU (I:Inv X pins σ H s) (hs:X.stack=X.env :: X.outer) (hf:X.env.frame=some X.env.locals) (F:mH X pins H s.heap a C)
  (h:∀ h',Inv X pins σ H { s with heap:=h' }→xN X pins H h' a C .none→Q () { s with heap:=h' }):wpAny M X.A (leaving X.env (.ref a)) Q E s:=by
 unfold leaving;exact wpAny_bind (yK I hs hf F fun h1 I1 F1=>rT I1 F.1 F1 fun h2 I2 F2=>h h2 I2 F2)
end
noncomputable def uH (P:Program) (w:World):rJ:=fun outer H s E v s'=>∃ a C H',v=.ref a∧s'.os=s.os∧AllBare s'.gens∧Un (fU outer) [] H H' s.heap s'.heap∧eD P w H' s'.heap∧s.heap.get? a=none∧H' a=none ∧
 (∃ oe vs a0 T oT ts,s'.heap.get? a=some oe∧oe.cls=.ref C∧oe.data=.fields vs∧vs[0]?=some a0∧s.heap.get? T=none∧H' T=none∧vs[1]?=some (.ref T)∧T≠a∧s'.heap.get? T=some oT∧oT.data=.fields ts∧ts[3]?=some .none)∧E (.ref C) none H'
theorem NJ {P:Program} {w:World} {K:PySem.W.Frag} {mg:Str→Option Value} {base:Heap} {N:List Str} {qual:Str} {scope:Scope} {f:Addr} {cd:Value} {A:Around} {outer:List Env} {s₀:Shared} {H₀:Hp} {E:XK}
  {pins:List (Addr × Obj)} {σ:L2.St} {H:Hp} {s:Shared} {a C:Addr} (I:Inv (kD (uH P w) P w K mg base N qual scope f cd A outer s₀ H₀ E) pins σ H s) (F:mH (kD (uH P w) P w K mg base N qual scope f cd A outer s₀ H₀ E) pins H s.heap a C) (h:E (.ref C) none H) :
  (kD (uH P w) P w K mg base N qual scope f cd A outer s₀ H₀ E).xe (.ref a) s:=by
 refine OU I rfl rfl F fun h' I2 F2=>?_
 obtain ⟨oe,vs,a0,T,oT,ts,he,hc,hd,h0,fT,h1,hne,hT,hdT,h3⟩:=F2
 have nn:∀ b,cR (kD (uH P w) P w K mg base N qual scope f cd A outer s₀ H₀ E) pins H b→s₀.heap.get? b=none:=fun b fb=>by
  rcases fb.2.2.2.1 with z | z
  ·exact absurd (show b∈([]:List Addr) from z) (by simp)
  ·exact z
 exact ⟨a,C,H,rfl,I2.os,I2.bare,I2.base,I2.hok,nn a F.1,F.1.1,⟨oe,vs,a0,T,oT,ts,he,hc,hd,h0,nn T fT,fT.1,h1,hne,hT,hdT,h3⟩,h⟩
section
variable {X:Cx} {pins:List (Addr × Obj)} {σ:L2.St} {H:Hp} {s s':Shared}
theorem PM {E:XK} {v:Value} (I:Inv X pins σ H s) (h:uH X.prog X.w X.stack H s E v s'):∃ a C H',v=.ref a∧Inv X pins σ H' s'∧mH X pins H' s'.heap a C∧E (.ref C) none H':=by
 obtain ⟨a,C,H',rfl,os,bare,un,hok,na,ha,⟨oe,vs,a0,T,oT,ts,he,hc,hd,h0,nT,hT0,h1,hne,hT,hdT,h3⟩,e⟩:=h;refine ⟨a,C,H',rfl,I.call' (ch:=[]) os un hok bare (fun b z=>absurd z (by simp)),⟨sA I na ha,.inr ⟨_,oe,vs,a0,T,oT,ts,he,hc,hd,h0,sA I nT hT0,h1,hne,hT,hdT,h3⟩⟩,e⟩
theorem S4 {k:Nat} {f:Addr} {fd:FuncData} {ps:List Str} {sp:Sp} {E:XK} {Q:VK} {us:List Value} {vs:List V} (F:FnOk X.prog X.w X.K X.mg X.base (uH X.prog X.w) k f fd ps sp) (hr:Room k X.A) (hb:eS X.K fd ps [])
  (I:Inv X pins σ H s) (r:aU vs us) (h:sp vs H Q E) (hx:∀ pins a C H' s',Inv X pins σ H' s'→mH X pins H' s'.heap a C→E (.ref C) none H'→X.xe (.ref a) s'):wpAny (model X.prog X.w) X.A (call (.ref f) us) (EP X pins σ Q) X.xe s:=by
 have hl:us.length=ps.length:=by rw [← r.length]; exact F.len _ _ _ _ h
 have hb':=hb s us I.kIn (by rw [List.append_nil]; exact hl);rw [List.append_nil] at hb';refine wpAny_call (codeAny_mono (F.run X.A X.stack s H ⟨us,[]⟩ us vs Q E hr I.env0 hb' r h) fun r s' hq=>?_)
 cases r with
 | error e =>
  obtain ⟨a,C,H',rfl,I',F',e'⟩:=PM I hq;exact hx pins a C H' s' I' F' e'
 | ok fl =>
  cases fl with
  | ret u=>exact I.after hq
  | next=>exact False.elim hq
  | brk=>exact False.elim hq
  | cont=>exact False.elim hq
noncomputable def aAH (X:Cx) (sp:Sp) (t:TA):TE:=fun σ H Q=>t σ H fun vs H1=>∃ E:XK,sp vs H1 Q E∧∀ pins a C H' s',Inv X pins σ H' s'→mH X pins H' s'.heap a C→E (.ref C) none H'→X.xe (.ref a) s'
theorem CS {k:Nat} {f:Addr} {fd:FuncData} {ps:List Str} {sp:Sp} {x:Str} {p pos:Pos} {e:Expr} {es:List Expr} {t:TA} (F:FnOk X.prog X.w X.K X.mg X.base (uH X.prog X.w) k f fd ps sp) (hr:Room k X.A) (hg:Gl X x) (hm:X.mg x=some (.ref f)) (hk:PySem.W.keepIn X.K (.ref f)=true) (hb:eS X.K fd ps [])
  (ha:PA X (e :: es) t) (hdb:(x == ("__debug__":Str))=false) (he:starEach (e :: es) X.env=(false,eval e X.env) :: starEach es X.env) (hpl:(backTo pos (starEach es X.env)).any (·.1)=false) :
  PE X (.Call (.Name x p) (e :: es) [] pos) (aAH X sp t):=by
 intro pins s σ H Q I h;refine wpAny_Call_Name_kw (lZ I hg hm ?_ hdb);refine PySem.W.callWith_K (h₀:=X.base) I.ok.mod.kin hk (a6 (ha pos pins s σ H _ I h) fun us s1 ⟨vs,H1,I1,r,E,q,hx⟩=>⟨I1.kIn, ?_⟩) he hpl;exact S4 F hr hb I1 r q hx
end
abbrev uZ:List Value:=[.type "ValueError",.type "Exception",.type "BaseException",.type "object"]
theorem oM {K:PySem.W.Frag} {C:Addr} {n:String} (q:PySem.W.excIn K C uZ n=true):∃ (tl:List Value) (N:Addr),(∀ v,PySem.W.mroIn K C v=some ((Value.ref C :: tl).contains v)) ∧
  ∀ {h:Heap},K.In h→∃ (nm qn:Str) (bs:List Value) (hd:Bool) (sn:List Str) (sub:List Value) (ab:Bool) (col:Option Bool) (dd:Option Addr) (k0 k1 k2 k3 k5:Option Value),
   h.get? C=some (excClassObj nm qn C N bs tl hd sn sub ab col dd k0 k1 k2 k3 k5 n)∧h.Ns N (h.nsMap N)∧h.nsMap N "__init__"=none∧OwnTail h uZ tl:=by
 unfold PySem.W.excIn at q;split at q
 ·rename_i dd cd sl lk;split at q
  ·rename_i C' tl k0 k1 k2 k3 n' k5 e1 e2;rw [Bool.and_eq_true,Bool.and_eq_true,Bool.and_eq_true,Bool.and_eq_true,Bool.and_eq_true] at q;obtain ⟨⟨⟨⟨⟨q1,q2⟩,q3⟩,q4⟩,q5⟩,q6⟩:=q;have q1:=beq_iff_eq.mp q1;have q2:=beq_iff_eq.mp q2;have q6:=beq_iff_eq.mp q6;subst q1 q2;refine ⟨tl,cd.ns,fun v=>?_,fun {h} X=>?_⟩
   ·unfold PySem.W.mroIn PySem.W.clsIn;rw [lk];simp only [Option.bind_some];rw [e1,if_neg (by simp)]
   ·refine ⟨cd.name,cd.qualname,cd.bases,cd.hasDict,cd.slotNames,cd.subclasses,cd.abstract,cd.collection,dd,k0,k1,k2,k3,k5, ?_,.of_isNs (PySem.W.isNs_of_in X q5),PySem.W.nsMap_none_of_in X q5 q6,PySem.W.tail_of_in X q4⟩;rw [X _ _ lk];have e3:sl=#[k0,k1,k2,k3,some (.builtin n'),k5]:=Array.toList_inj.mp e2;rw [e3];obtain ⟨c1,c2,c3,c4,c5,c6,c7,c8,c9,c10,c11⟩:=cd;simp only [Bool.not_eq_true'] at q3;simp only at e1;subst e1 q3;rfl
  ·cases q
 ·cases q
structure ExcN (K:PySem.W.Frag) (mg:Str→Option Value) (c:Str):Prop where
 ex:∃ C,PySem.W.nsIn K mainGlobals c=some (some (.ref C))∧mg c=some (.ref C)∧PySem.W.excIn K C uZ "ValueError.__new__"=true
section
variable {X:Cx} {pins:List (Addr × Obj)} {σ:L2.St} {H:Hp} {s:Shared} {h':Heap} {a C:Addr}
noncomputable def aBD (X:Cx) (C:Addr) (t:TA):TS:=fun _ σ H=>t σ H fun vs H1=>vs.length≤sizeLine∧∀ pins a s',Inv X pins σ H1 s'→mH X pins H1 s'.heap a C→X.xe (.ref a) s'
theorem N2 {x:Str} {np cpos pos:Pos} {e:Expr} {es:List Expr} {t:TA} (hh:X.A.handled=none) (hg:Gl X x) (hm:X.mg x=some (.ref C)) (q:PySem.W.excIn X.K C uZ "ValueError.__new__"=true) (ha:PA X (e :: es) t)
  (hdb:(x == ("__debug__":Str))=false) (he:starEach (e :: es) X.env=(false,eval e X.env) :: starEach es X.env) (hpl:(backTo cpos (starEach es X.env)).any (·.1)=false) :
  PS X (.Raise (some (.Call (.Name x np) (e :: es) [] cpos)) none pos) (aBD X C t):=by
 intro pins s σ H D I h;obtain ⟨tl,N,_,k⟩:=oM q;obtain ⟨nm,qn,bs,hd,sn,sub,ab,col,dd,k0,k1,k2,k3,k5,hC,hN,hni,T⟩:=k I.ok.mod.kin
 refine wpAny_Raise_call_subT (C:=C) (nm:=nm) (q:=qn) (N:=N) (bs:=bs) (bm:=tl) (hdct:=hd) (sn:=sn) (sub:=sub) (ab:=ab) (col:=col) (dd:=dd) (k0:=k0) (k1:=k1) (k2:=k2) (k3:=k3) (k5:=k5)
  PySem.F.excBase_ValueError (mN:=X.base.nsMap N) (T.hasType PySem.F.excBase_ValueError.hasBase) hh (by rw [he]; unfold backTo at *; rw [List.map_cons,List.any_cons,hpl]; rfl) hni (lZ I hg hm ⟨rfl, ?_⟩ hdb)
 have h2:=ha cpos pins s σ H _ I h;rw [he] at h2 ⊢;refine Calls.evalArgs_plain (wpAny_mono h2 (fun us s2 h3=>?_) fun _ _ y=>y);obtain ⟨vs,H1,I1,r,hl,hx⟩:=h3;refine ⟨rfl,by rw [← r.length]; exact hl,I1.bk _ _ hC,hN.keeps I1.bk,T.keeps I1.bk,fun h' e hM=>?_⟩;obtain ⟨t0,he0,_,_⟩:=hM.there;have I2:Inv X pins σ H1 { s2 with heap:=h' }:=I1.kept (t':=s2.toks) hM.keeps;exact hx pins e _ I2 ⟨sA I1 hM.new (D3 I1 hM.new),.inl ⟨_,_,_,he0,rfl,rfl,rfl,rfl⟩⟩
theorem aEG {M:Model} {A:Around} {E:Value→Shared→Prop} {K:PySem.W.Frag} {D:Addr} {oe:Obj} {Q:Bool→Shared→Prop} (X:K.In s.heap) (qC:PySem.W.excIn K C uZ "ValueError.__new__"=true) (qD:PySem.W.excIn K D uZ "ValueError.__new__"=true)
  (hm:PySem.W.mroIn K C (.ref D)=some true) (he:s.heap.get? a=some oe) (hc:oe.cls=.ref C) (h:Q true s):wpAny M A (excMatches (.ref a) (.ref D)) Q E s:=by
 obtain ⟨tl,N,m1,k⟩:=oM qC;obtain ⟨nm,qn,bs,hd,sn,sub,ab,col,dd,k0,k1,k2,k3,k5,hC,hN,hni,T⟩:=k X;obtain ⟨tl',N',m1',k'⟩:=oM qD;obtain ⟨nm',qn',bs',hd',sn',sub',ab',col',dd',k0',k1',k2',k3',k5',hD,hN',hni',T'⟩:=k' X;have b1:(Value.ref C :: tl).contains (.ref D)=true:=Option.some.inj ((m1 _).symm.trans hm);have b2:(Value.ref D :: tl').contains (.type "BaseException")=true:=by rw [List.contains_cons,T'.hasType (X:="BaseException") (b:=true) (by decide)]; rfl
 obtain ⟨hp,g,d,tk,os⟩:=s;have f:=tc_notTuple;unfold excMatches
 repeat (first | (with_reducible refine wpAny_loadPart_at he ?_; rw [hc]) | with_reducible refine wpAny_loadPart_at hD ?_ | (with_reducible refine wpAny_isSubtype_exc hC ?_; rw [b1]) | (with_reducible refine wpAny_isSubtype_exc hD ?_; rw [b2]) | wp_step)
 exact h
end
end CI
namespace CI
open PySem PySem.Spec PySem.Calls PyProof.Rows L2 PySem.W PySem.Builtin PySem.Builtin.ObjectAttr PySem.Builtin.Getset_descriptor
def o7 (a C:Addr) (h:Heap):Prop:=∃ oe vs,h.get? a=some oe∧oe.cls=.ref C∧oe.data=.fields vs
theorem o7.ty {a C:Addr} {h:Heap} {M:Model} (x:o7 a C h):Looks M h (typeOf (.ref a)) (.ref C):=by
 obtain ⟨oe,vs,e,c,_⟩:=x;rw [← c];exact (Looks.ld e).andThen .now
structure ExcG (K:Frag) (C:Addr):Prop where
 q:excIn K C uZ "ValueError.__new__"=true
 ga:findIn K (.ref C) "__getattribute__"=some (some (.builtin "BaseException.__getattribute__"))
 no:findIn K (.ref C) "__getattr__"=some none
 cl:findIn K (.ref C) "__class__"=some (some (.builtin "object.__class__"))
 gt:specialIn K (.builtin "object.__class__") "__get__"=some (some (.builtin "getset_descriptor.__get__"))
 tk:takesIn K (.builtin "object.__class__")=some true
 mo:mroIn K C (.type "object")=some true
 mb:mroIn K C (.type "BaseException")=some true
 mv:mroIn K C (.type "ValueError")=some true
section
variable {prog:Program} {w:World} {A:Around} {E:Value→Shared→Prop} {s:Shared} {K:Frag} {a C:Addr}
theorem SK {tp:Value} {R:Result→Shared→Prop} (X:K.In s.heap) (G:ExcG K C) (x:o7 a C s.heap) (h:R (.ok (.ret (.ref C))) s) :
  codeAny (model prog w) A (.call (.builtin "getset_descriptor.__get__") ⟨[.builtin "object.__class__",.ref a,tp],[]⟩) R s:=by
 obtain ⟨hh,g,dr,t,os⟩:=s;have L0:=x.ty (M:=model prog w);have L1:=looks_mroIn (M:=model prog w) X G.mo;refine codeAny_call_builtin KF.slot_gs.plain KF.entry_gs (KF.slot_gs.check _ _ _ _ _ _ _ _ KF.type_class (KF.args_gs _ _ _) ?_);unfold Builtin.«getset_descriptor.__get__»; unfold descrGet;rw [dga_obj];refine wpAny_bind (wpAny_pure ?_);unfold descrGetter; unfold descrCheckInstance; unfold descrNameAndClass; unfold isInstance;simp only [KF.owner_class]
 repeat lk
 refine ⟨Code.quiet_builtin _ (by decide +kernel),codeAny_builtin KF.entry_class ?_⟩;unfold Builtin.«object.__class__»; unfold shownTypeOf
 repeat lk
 exact h
theorem OQ {M:Model} {h:Heap} (X:K.In h) (G:ExcG K C):Looks M h (find (.ref a) (.ref C) "__class__") (.bind (.builtin "getset_descriptor.__get__") (.builtin "object.__class__")):=by
 have L3:=looks_takesIn (M:=M) X G.tk;refine (looks_findIn X G.cl).andThen ((looks_specialIn X G.gt).andThen ?_);exact (show Looks M h (dataDescriptor? (some (.builtin "object.__class__")) (some (.builtin "getset_descriptor.__get__"))) (some (.builtin "getset_descriptor.__get__",.builtin "object.__class__")) from L3.andThen .now).andThen (Looks.tag .now)
theorem LQ {tk:Tok} {Q:Fin→Shared→Prop} (X:K.In s.heap) (G:ExcG K C) (x:o7 a C s.heap) (h:Q (.done (.ret (.ref C))) s) :
  wpAny (model prog w) A (Builtin.«object.__getattribute__» ⟨[.ref a,.str "__class__" tk],[]⟩) Q E s:=by
 obtain ⟨hh,g,dr,t,os⟩:=s;have L0:=x.ty (M:=model prog w);have L1:=OQ (M:=model prog w) (a:=a) X G
 repeat (any_goals (first | assumption | with_reducible refine Looks.at (by assumption) ?_ | wp_step))
 refine SK X G x ?_
 repeat (any_goals (first | assumption | wp_step))
theorem KS {v:Value} {Q:Unit→Shared→Prop} (X:K.In s.heap) (G:ExcG K C) (x:o7 a C s.heap) (h:Q () s):wpAny (model prog w) A (checkBuiltinCall "BaseException.__getattribute__" ⟨[.ref a,v],[]⟩) Q E s:=by
 obtain ⟨hh,g,dr,t,os⟩:=s;have L0:=x.ty (M:=model prog w);have L3:=looks_mroIn (M:=model prog w) X G.mb;have z:=PySem.F.args_bexc_ga (.ref a) v;simp only [checkBuiltinCall,show builtinKind "BaseException.__getattribute__"=some .slot from by decide +kernel,show splitId "BaseException.__getattribute__"=some ("BaseException","__getattribute__") from by decide +kernel];refine wpAny_bind ?_;unfold isInstance
 repeat (any_goals (first | assumption | with_reducible refine Looks.at (by assumption) ?_ | wp_step))
theorem W3 {Q:Option Value→Shared→Prop} (X:K.In s.heap) (G:ExcG K C) (x:o7 a C s.heap) (h:Q (some (.ref C)) { s with toks:=s.toks+1 }):wpAny (model prog w) A (getAttr? (.ref a) "__class__") Q E s:=by
 obtain ⟨hh,g,dr,t,os⟩:=s;have L0:=x.ty (M:=model prog w);have L1:=looks_findIn (M:=model prog w) X G.ga;have L2:=looks_findIn (M:=model prog w) X G.no;have L3:=looks_mroIn (M:=model prog w) X G.mb;have f3:=PySem.F.excAttr_ValueError.ga.bind (.ref a);unfold getAttr? getAttrBy? getAttrBy;refine wpAny_bind (wpAny_mkText (wpAny_bind (wpAny_attempt (wpAny_holding (wpAny_bind (L0.at (wpAny_bind (L1.at ?_))))))));have n1:(onTheHeap (Value.ref C) && Value.builtin "BaseException.__getattribute__" == Value.builtin "object.__getattribute__")=false:=by rw [show (Value.builtin "BaseException.__getattribute__" == Value.builtin "object.__getattribute__")=false from by decide +kernel,Bool.and_false]
 dsimp only;rw [if_neg (by rw [n1]; exact Bool.false_ne_true)];unfold getAttrByItsOwn
 repeat (any_goals (first | assumption | with_reducible refine Looks.at (by assumption) ?_ | wp_step))
 refine codeAny_call_builtin PySem.F.attr_ValueError.ga.plain PySem.F.entry_bexc_ga (KS (s:=⟨hh,g,dr,t+1,os⟩) X G x (LQ (s:=⟨hh,g,dr,t+1,os⟩) X G x ?_))
 repeat (any_goals (first | assumption | wp_step))
theorem OJ (G:ExcG K C):KitX K (.ref a) (.ref C) (o7 a C) where
 ty:=fun _ _ _ x=>x.ty
 it:=fun _ _ X _=>by
  obtain ⟨tl,N,_,k⟩:=oM G.q;obtain ⟨nm,qn,bs,hd,sn,sub,ab,col,dd,k0,k1,k2,k3,k5,hC,_⟩:=k X;intro A' Q' E' s' k' q;unfold isType loadHead;exact wpAny_bind (wpAny_loadPart (k' _ _ hC) (wpAny_pure q))
 ne:=fun h tp dd its n sl X htp=>by
  obtain ⟨tl,N,_,k⟩:=oM G.q;obtain ⟨nm,qn,bs,hd,sn,sub,ab,col,dd,k0,k1,k2,k3,k5,hC,_⟩:=k X;refine Bool.eq_false_iff.mpr fun q=>?_
  have e:C=tp:=Value.ref.inj (beq_iff_eq.mp q);subst e;rw [hC] at htp;have z:=congrArg Obj.data (Option.some.inj htp);cases z
 ca:=fun X x k=>W3 X G x k
theorem OF (G:ExcG K C):kitOne K (.ref C) (.type "ValueError")=some true:=by
 unfold kitOne kitCls;rw [if_neg (by simp)];show (if kitMeta "ValueError"=true then subIn K (.ref C) (.type "ValueError") else none)=some true;rw [if_pos (by decide +kernel)];exact G.mv
end
end CI
namespace CI
open PySem
inductive D where
 | non | bl (b:Bool) | int (i:Int) | str (x:Str) | tup (ds:List D) | lst (ds:List D)
 | ins (c:Str) (ns:List Str) (ds:List D) | dct (kvs:List (Int × Int)) | exn (c:Str)
 deriving Inhabited
inductive RV where
 | sh (d:D) | ow (d:D)
noncomputable def RV.d:RV→D
 | .sh d=>d
 | .ow d=>d
inductive Sl where
 | un | mv | sh (d:D) | ow (d:D) (pin lk:Bool)
noncomputable def Sl.get:Sl→Option D
 | .un=>none
 | .mv=>none
 | .sh d=>some d
 | .ow d _ _=>some d
structure Exc where
 cls:Str
inductive Out (α:Type) where
 | ok (a:α) | ex (e:Exc)
abbrev Env:=List Sl
abbrev aE (α:Type):=Option (Out α × Env)
noncomputable def aE.bind {α β:Type} (r:aE α) (f:α→Env→aE β):aE β :=
 match r with
 | none=>none
 | some (.ex e,ρ)=>some (.ex e,ρ)
 | some (.ok a,ρ)=>f a ρ
inductive Hd where
 | slot (i:Nat) | val (v:RV)
noncomputable def Hd.get (h:Hd) (ρ:Env):Option D :=
 match h with
 | .slot i=>(ρ[i]?).bind Sl.get
 | .val v=>some v.d
noncomputable def getAll:List Hd→Env→Option (List D)
 | [],_=>some []
 | h :: r,ρ=>(h.get ρ).bind fun d=>(getAll r ρ).map (d :: ·)
inductive Ty where
 | int | bool | str | list | tuple | dict | cls (c:Nat) | verr
inductive BI where
 | len | abs | int | list | tuple | min | max | all | repr
 deriving DecidableEq
inductive ItK where
 | rng | of | enum (lo:Int)
 deriving DecidableEq
inductive E where
 | bad | omt
 | var (i:Nat)
 | con (d:D)
 | tup (es:List E) | lst (es:List E)
 | bin (op:Operator) (a b:E)
 | neg (a:E) | not (a:E)
 | cmp (op:CmpOp) (a b:E)
 | cmp2 (op op':CmpOp) (a b c:E)
 | and (a b:E) | or (a b:E)
 | ite (c a b:E)
 | ix (a i:E)
 | sl (a lo hi:E)
 | rev (a:E)
 | call (f:String) (args:List E)
 | bif (f:BI) (args:List E)
 | isi (a:E) (ts:List Ty)
 | isC (a:E) (s n:List Str)
 | isX (a:E) (sn:List (List Str × List Str))
 | app (i:Nat) (a:E)
 | ext (i:Nat) (a:E)
 | dict (kvs:List (Int × Int))
 | insr (i:Nat) (k a:E)
 | frz (i:Nat)
 | bitl (a:E)
 | mkset (a:E) | nset (a:E)
 | mkrng (es:List E) | lrng (es:List E)
 | fld (a:E) (f:Str)
 | make (c:Str) (ns:List Str) (args:List E)
 | meth (i:Nat) (m:Str) (tb:List (Str × String)) (args:List E)
 | methE (a:E) (m:Str) (tb:List (Str × String)) (args:List E)
 | comp (elt:E) (tg:List Nat) (k:ItK) (its:List E) (cond:List E) (imp:List Nat) (nl:Nat)
inductive S where
 | bad | pass | brk | cnt
 | asg (i:Nat) (e:E)
 | asgT (is:List Nat) (e:E)
 | set (i:Nat) (k e:E)
 | expr (e:E)
 | ret (e:E) | retN
 | ifs (c:E) (a b:List S)
 | for (tg:List Nat) (one:Bool) (k:ItK) (its:List E) (body:List S)
 | whl (c:E) (body:List S)
 | rse (c:Str) (args:List E)
 | tryA (body:List S) (cs:List Str) (i j:Nat)
 | tryB (body:List S) (cs:List Str) (i:Nat) (ss:List S)
 | tryN (body:List S) (cs:List Str)
 | aug (i:Nat) (e:E)
noncomputable def bD:Nat→D→Bool
 | _,.non=>true
 | _,.bl _=>true
 | _,.int _=>true
 | _,.str _=>true
 | n+1,.tup ds=>ds.all (bD n)
 | n+1,.lst ds=>ds.all (bD n)
 | _,_=>false
mutual
noncomputable def fH:D→D→Bool
 | .non,.non=>true
 | .bl a,.bl b=>a == b
 | .bl a,.int b=>(if a then 1 else 0) == b
 | .int a,.bl b=>a == (if b then 1 else 0)
 | .int a,.int b=>a == b
 | .str a,.str b=>a == b
 | .tup a,.tup b=>mL a b
 | .lst a,.lst b=>mL a b
 | _,_=>false
noncomputable def mL:List D→List D→Bool
 | [],[]=>true
 | a :: as,b :: bs=>fH a b && mL as bs
 | _,_=>false
end
noncomputable def cl (p:Prop):Decidable p:=Classical.propDecidable p
noncomputable section
noncomputable def iN:D→Option Bool
 | .non=>some false
 | .bl b=>some b
 | .int i=>some (i != 0)
 | .str x=>@ite _ (x.length≤1000000) (cl _) (some ((x.length:Int) != 0)) none
 | .tup ds=>some (!ds.isEmpty)
 | .lst ds=>some (!ds.isEmpty)
 | _=>none
noncomputable def aZ (n:Nat):Bool:=@decide (n≤1000000) (cl _)
noncomputable def jX:Operator→D→D→Option RV
 | .Add,.int i,.int j=>some (.sh (.int (i+j)))
 | .Sub,.int i,.int j=>some (.sh (.int (i - j)))
 | .Mult,.int i,.int j=>@ite _ ((-(2 ^ 64)<i∧i<2 ^ 64)∨(-(2 ^ 64)<j∧j<2 ^ 64)) (cl _) (some (.sh (.int (i*j)))) none
 | .FloorDiv,.int i,.int j=>@ite _ (0<j∧j<100000000000000000000000000000000000000000000000000000000000000000000000000000000) (cl _) (some (.sh (.int (i / j)))) none
 | .Mod,.int i,.int j=>@ite _ (0<j) (cl _) (some (.sh (.int (i % j)))) none
 | .LShift,.int i,.int j=>@ite _ (0≤j∧j≤1000∧i.natAbs<2 ^ 64) (cl _) (some (.sh (.int (i*2 ^ j.toNat)))) none
 | .RShift,.int i,.int j=>@ite _ (0≤j) (cl _) (some (.sh (.int (i / 2 ^ j.toNat)))) none
 | .BitAnd,.int i,.int j=>some (.sh (.int (Builtin.bitAnd i j)))
 | _,_,_=>none
noncomputable def BF (kvs:List (Int × Int)) (i:Int):Option Int:=(kvs.find? fun p=>decide (p.1=i)).map (·.2)
noncomputable def y9 (kvs:List (Int × Int)) (n m:Int):List (Int × Int):=if (kvs.any fun p=>decide (p.1=n))=true then kvs.map (fun p=>if p.1=n then (p.1,m) else p) else kvs ++ [(n,m)]
noncomputable def cN:CmpOp→D→D→Option Bool
 | .Eq,x,y=>if bD 20 x && bD 20 y then some (fH x y) else none
 | .NotEq,x,y=>if bD 20 x && bD 20 y then some (!fH x y) else none
 | .Lt,.int i,.int j=>some (decide (i<j))
 | .LtE,.int i,.int j=>some (decide (i≤j))
 | .Gt,.int i,.int j=>some (decide (j<i))
 | .GtE,.int i,.int j=>some (decide (j≤i))
 | .Is,.bl a,.bl b=>some (a == b)
 | .Is,.non,.non=>some true
 | .Is,_,.non=>some false
 | .IsNot,.non,.non=>some false
 | .IsNot,_,.non=>some true
 | _,_,_=>none
noncomputable def RN (ds:List D) (i:Int):Option D:=L2.cX ds i
noncomputable def KQ:D→D→Option D
 | .tup ds,.int i=>RN ds i
 | .lst ds,.int i=>RN ds i
 | .dct kvs,.int i=>(BF kvs i).map .int
 | .str x,.int i=>@ite _ (x.length≤1000000) (cl _) ((L2.cX x.cps.toList i).map fun c=>.str ⟨#[c]⟩) none
 | _,_=>none
noncomputable def yW (ds:List D) (lo hi:Option Int):List D:=(ds.drop (HT.bS ds.length 0 lo)).take (HT.bS ds.length ds.length hi - HT.bS ds.length 0 lo)
noncomputable def nA:Option D→Option (Option Int)
 | none=>some none
 | some (.int i)=>some (some i)
 | _=>none
noncomputable def R6:D→Option Int→Option Int→Option RV
 | .lst ds,lo,hi=>some (.ow (.lst (yW ds lo hi)))
 | .tup ds,lo,hi=>if HT.bS ds.length 0 lo=0∧HT.bS ds.length ds.length hi=ds.length then none else some (.sh (.tup (yW ds lo hi)))
 | _,_,_=>none
noncomputable def aA4:D→Option RV
 | .tup ds=>some (.sh (.tup ds.reverse))
 | _=>none
noncomputable def nN:List D→Option (List Int)
 | []=>some []
 | .int i :: r=>(nN r).map (i :: ·)
 | _=>none
noncomputable def gZ:List D→Option (List Bool)
 | []=>some []
 | .bl b :: r=>(gZ r).map (b :: ·)
 | _=>none
mutual
noncomputable def eN:D→PyData
 | .non=>.none
 | .bl b=>.bool b
 | .int i=>.int i
 | .str x=>.str x
 | .tup ds=>.tuple (iJ ds)
 | .lst ds=>.list (iJ ds)
 | .ins _ _ _=>.none
 | .dct _=>.none
 | .exn _=>.none
noncomputable def iJ:List D→List PyData
 | []=>[]
 | d :: ds=>eN d :: iJ ds
end
noncomputable def qH:BI→List D→Option RV
 | .len,[.lst ds]=>some (.sh (.int ds.length))
 | .len,[.tup ds]=>some (.sh (.int ds.length))
 | .len,[.str x]=>@ite _ (x.length≤1000000) (cl _) (some (.sh (.int x.length))) none
 | .abs,[.int i]=>some (.sh (.int (if i<0 then -i else i)))
 | .int,[.int i]=>some (.sh (.int i))
 | .int,[.bl b]=>some (.sh (.int (if b then 1 else 0)))
 | .tuple,[.lst ds]=>some (.sh (.tup ds))
 | .tuple,[.tup ds]=>some (.sh (.tup ds))
 | .min,[.int i,.int j]=>some (.sh (.int (if j<i then j else i)))
 | .max,[.int i,.int j]=>some (.sh (.int (if j > i then j else i)))
 | .max,[.lst ds]=>match nN ds with
  | some (i :: r)=>some (.sh (.int (r.foldl (fun m y=>if y > m then y else m) i)))
  | _=>none
 | .all,[.lst ds]=>(gZ ds).map fun bs=>.sh (.bl (bs.all id))
 | _,_=>none
noncomputable def IB:Ty→D→Option Bool
 | .int,d=>match d with
  | .int _=>some true | .bl _=>some true | .non=>some false | .str _=>some false | .tup _=>some false | .lst _=>some false
  | _=>none
 | .bool,d=>match d with
  | .bl _=>some true | .int _=>some false | .non=>some false | .str _=>some false | .tup _=>some false | .lst _=>some false
  | _=>none
 | .str,d=>match d with
  | .str _=>some true | .bl _=>some false | .int _=>some false | .non=>some false | .tup _=>some false | .lst _=>some false
  | _=>none
 | .list,d=>match d with
  | .lst _=>some true | .bl _=>some false | .int _=>some false | .non=>some false | .tup _=>some false | .str _=>some false
  | _=>none
 | .tuple,d=>match d with
  | .tup _=>some true | .bl _=>some false | .int _=>some false | .non=>some false | .lst _=>some false | .str _=>some false
  | _=>none
 | .verr,d=>match d with
  | .exn _=>some true
  | _=>none
 | _,_=>none
noncomputable def BM:List Ty→D→Option Bool
 | [],_=>some false
 | t :: r,d=>(IB t d).bind fun b=>(BM r d).map fun c=>b || c
noncomputable def aEO (s n:List Str):D→Option RV
 | .ins c _ _=>if s.contains c then some (.sh (.bl true)) else if n.contains c then some (.sh (.bl false)) else none
 | _=>none
noncomputable def aAZ (c:Str):List (List Str × List Str)→Option Bool
 | []=>some false
 | (s,n) :: r=>if s.contains c then some true else if n.contains c then aAZ c r else none
noncomputable def aEv (sn:List (List Str × List Str)):D→Option RV
 | .exn c=>(aAZ c sn).map fun b=>.sh (.bl b)
 | _=>none
noncomputable def aEw:D→Option RV
 | .int i=>some (.sh (.int (Builtin.Int.intBits i)))
 | _=>none
noncomputable def aCP:D→Option RV
 | .lst ds=>match nN ds with
  | some is=>@ite _ (is.length≤1000) (cl _) (some (.sh (.int (PyProof.Rows.firstMet (fun i=>is.getD i 0) is.length).length))) none
  | none=>none
 | _=>none
noncomputable def aCZ:List D→Option RV
 | [.int i,.int j]=>@ite _ ((-1000000≤i∧i≤1000000)∧(-1000000≤j∧j≤1000000)) (cl _) (some (.ow (.lst ((List.range (j - i).toNat).map fun (n:Nat)=>.int (i+(n:Int)))))) none
 | _=>none
noncomputable def NS:D→Str→Option D
 | .ins _ ns ds,f=>(ns.zip ds).lookup f
 | _,_=>none
noncomputable def fK (c:Str) (ns:List Str) (m:Str) (tb:List (Str × String)):Option String:=if ns.contains m then none else tb.lookup c
noncomputable def bJ (t:Bool) (r:aE RV):aE RV :=
 match t with
 | false=>r
 | true=>r.bind fun v ρ=>(iN v.d).map fun b=>(.ok (.sh (.bl b)),ρ)
noncomputable def hd (e:E) (r:aE RV) (ρ:Env):aE Hd :=
 match e with
 | .var i=>if ((ρ[i]?).bind Sl.get).isSome then some (.ok (.slot i),ρ) else none
 | _=>r.bind fun v ρ'=>some (.ok (.val v),ρ')
noncomputable def EB:E→Bool
 | .omt=>true
 | _=>false
noncomputable def yX (e:E) (r:aE RV) (ρ:Env):aE (Option D) :=
 if EB e then some (.ok none,ρ) else r.bind fun v ρ'=>some (.ok (some v.d),ρ')
noncomputable def x6 (op:Operator) (x:Hd) (d:D):Bool :=
 match op,d with
 | .Mult,.lst _=>match x with
  | .val (.ow _)=>true
  | _=>false
 | _,_=>true
noncomputable def mU (ρ:Env) (i:Nat):Bool :=
 match ρ[i]? with
 | some (.ow (.lst _) _ _)=>true
 | _=>false
noncomputable def yZ (ρ:Env) (i:Nat):Bool :=
 match ρ[i]? with
 | some (.ow (.dct _) _ _)=>true
 | _=>false
noncomputable def DI (i:Nat) (ρ:Env):aE RV :=
 match ρ[i]? with
 | some (.sh d)=>some (.ok (.sh d),ρ)
 | some (.ow d false false)=>some (.ok (.sh d),ρ.set i (.sh d))
 | _=>none
noncomputable def done (o:Option RV) (ρ:Env):aE RV:=o.map fun v=>(.ok v,ρ)
noncomputable def store (i:Nat) (v:RV) (ρ:Env):Option Env :=
 match ρ[i]? with
 | none=>none
 | some (.ow _ true _)=>none
 | some (.ow _ _ true)=>none
 | some _=>some (ρ.set i (match v with | .sh d=>.sh d | .ow d=>.ow d false false))
noncomputable def dZ:List Nat→List D→Env→Option Env
 | [],[],ρ=>some ρ
 | i :: is,d :: ds,ρ=>(store i (.sh d) ρ).bind (dZ is ds)
 | _,_,_=>none
noncomputable def a8 (one:Bool) (tg:List Nat) (d:D) (ρ:Env):Option Env :=
 match one,tg,d with
 | true,[i],d=>store i (.sh d) ρ
 | false,is,.tup ds=>dZ is ds ρ
 | _,_,_=>none
abbrev Calls:=String→List Sl→aE RV
noncomputable def bE (pins:List Bool) (hs:List Hd) (ρ:Env):Option (List Sl × Env) :=
 match pins,hs with
 | [],[]=>some ([],ρ)
 | p :: ps,.val (.sh d) :: r=>(bE ps r ρ).map fun (as,ρ')=>(.sh d :: as,ρ')
 | p :: ps,.val (.ow d) :: r=>(bE ps r ρ).map fun (as,ρ')=>((if p then .ow d true false else .sh d) :: as,ρ')
 | p :: ps,.slot i :: r =>
  match ρ[i]? with
  | some (.sh d)=>(bE ps r ρ).map fun (as,ρ')=>(.sh d :: as,ρ')
  | some (.ow d pin lk) =>
   match p with
   | true=>(bE ps r (ρ.set i .un)).map fun (as,ρ')=>(.ow d true lk :: as,ρ')
   | false=>if pin || lk then none else (bE ps r (ρ.set i (.sh d))).map fun (as,ρ')=>(.sh d :: as,ρ')
  | _=>none
 | _,_=>none
noncomputable def aR (pins:List Bool) (hs:List Hd) (as:List Sl) (ρ0 ρ:Env):Option Env :=
 match pins,hs,as with
 | [],[],[]=>some ρ
 | true :: ps,.slot i :: r,a :: as =>
  match ρ0[i]?,a with
  | some (.ow _ pin lk),.ow d _ _=>aR ps r as ρ0 (ρ.set i (.ow d pin lk))
  | some (.ow _ _ _),_=>none
  | _,_=>aR ps r as ρ0 ρ
 | _ :: ps,_ :: r,_ :: as=>aR ps r as ρ0 ρ
 | _,_,_=>none
noncomputable def bZ (pins:List Bool) (f:List Sl→aE RV) (hs:List Hd) (ρ:Env):aE RV :=
 match bE pins hs ρ with
 | none=>none
 | some (as,ρ1) =>
  match f as with
  | none=>none
  | some (o,as')=>(aR pins hs as' ρ ρ1).map fun ρ'=>(o,ρ')
noncomputable def dJ (lo:Int) (ds:List D):List D:=(List.range ds.length).map fun (j:Nat)=>.tup [.int (lo+(j:Int)),ds.getD j .non]
noncomputable def aI (k:ItK) (hs:List Hd) (ρ:Env):Option (List D × Option Nat) :=
 match k,hs with
 | .rng,[a]=>match a.get ρ with
  | some (.int n)=>@ite _ (-1000000≤n∧n≤1000000) (cl _) (some ((List.range n.toNat).map fun (j:Nat)=>.int (j:Int),none)) none
  | _=>none
 | .rng,[a,b]=>match a.get ρ,b.get ρ with
  | some (.int m),some (.int n)=>@ite _ ((-1000000≤m∧m≤1000000)∧(-1000000≤n∧n≤1000000)) (cl _) (some ((List.range (n - m).toNat).map fun (j:Nat)=>.int (m+(j:Int)),none)) none
  | _,_=>none
 | .enum lo,[.slot i]=>match ρ[i]? with
  | some (.ow (.lst ds) _ _)=>some (dJ lo ds,some i)
  | some (.sh (.lst ds))=>some (dJ lo ds,none)
  | _=>none
 | .enum lo,[.val v]=>match v.d with
  | .lst ds=>some (dJ lo ds,none)
  | _=>none
 | .of,[.slot i]=>match ρ[i]? with
  | some (.ow (.lst ds) _ _)=>some (ds,some i)
  | some (.sh (.lst ds))=>some (ds,none)
  | some (.sh (.tup ds))=>some (ds,none)
  | _=>none
 | .of,[.val v]=>match v.d with
  | .lst ds=>some (ds,none)
  | .tup ds=>some (ds,none)
  | _=>none
 | _,_=>none
noncomputable def aO (o:Option Nat) (ρ:Env):Env :=
 match o with
 | none=>ρ
 | some i=>ρ.set i .un
noncomputable def dB (o:Option Nat) (ρ0 ρ:Env):Option Env :=
 match o with
 | none=>some ρ
 | some i=>match ρ[i]?,ρ0[i]? with
  | some .un,some sl=>some (ρ.set i sl)
  | _,_=>none
noncomputable def d8 (tests:Env→aE RV) (elt:Env→aE RV) (bind:D→Env→Option Env):List D→List D→Env→aE (List D)
 | [],acc,ρ=>some (.ok acc,ρ)
 | d :: ds,acc,ρ=>match bind d ρ with
  | none=>none
  | some ρ1=>(tests ρ1).bind fun c ρ2=>match c with
   | .sh (.bl true)=>(elt ρ2).bind fun v ρ3=>d8 tests elt bind ds (acc ++ [v.d]) ρ3
   | .sh (.bl false)=>d8 tests elt bind ds acc ρ2
   | _=>none
noncomputable def back:List Sl→Env→List Sl
 | .ow _ _ _ :: as,b :: bs=>b :: back as bs
 | a :: as,_ :: bs=>a :: back as bs
 | _,_=>[]
noncomputable def iT:Sl→Bool
 | .ow _ p _=>p
 | .sh _=>true
 | _=>false
noncomputable def pN (tests:Env→aE RV) (elt:Env→aE RV) (bind:D→Env→Option Env) (ds:List D) (nl:Nat) (as:List Sl):aE RV :=
 if as.all iT=true then (d8 tests elt bind ds [] (as ++ List.replicate nl .un)).bind fun acc ρi =>
  if aZ acc.length then some (.ok (.ow (.lst acc)),back as ρi) else none
 else none
noncomputable def iR (tests:Env→aE RV) (elt:Env→aE RV) (eltX:Env→Option (Exc × Env)) (bind:D→Env→Option Env):List D→Env→Option (Exc × Env)
 | [],_=>none
 | d :: ds,ρ=>match bind d ρ with
  | none=>none
  | some ρ1=>match tests ρ1 with
   | some (.ok (.sh (.bl true)),ρ2)=>(match elt ρ2 with
    | some (.ok _,ρ3)=>iR tests elt eltX bind ds ρ3
    | _=>eltX ρ2)
   | some (.ok (.sh (.bl false)),ρ2)=>iR tests elt eltX bind ds ρ2
   | _=>none
noncomputable def oF (tests:Env→aE RV) (elt:Env→aE RV) (eltX:Env→Option (Exc × Env)) (bind:D→Env→Option Env) (ds:List D) (nl:Nat) (as:List Sl):aE RV :=
 if as.all iT=true∧aZ ds.length=true then match iR tests elt eltX bind ds (as ++ List.replicate nl .un) with
  | some (x,ρi)=>some (.ex x,back as ρi)
  | none=>none
 else none
noncomputable def BS (o:Option Nat) (ρ1:Env) (r:aE RV):Option (Exc × Env):=match r with
 | some (.ex x,ρ2)=>(dB o ρ1 ρ2).map fun ρ'=>(x,ρ')
 | _=>none
noncomputable def kA (o:Option Nat) (ρ1:Env) (v:RV) (ρ2:Env):aE RV:=(dB o ρ1 ρ2).map fun ρ'=>(.ok v,ρ')
structure Fn where
 pins:List Bool
 nl:Nat
 body:List S
 rs:Bool
abbrev aK:=String→List Bool
mutual
noncomputable def ev (P:aK) (C:Calls) (t:Bool):E→Env→aE RV
 | .bad,_=>none
 | .omt,_=>none
 | .var i,ρ=>match t with
  | true=>bJ true (((ρ[i]?).bind Sl.get).map fun d=>(.ok (.sh d),ρ))
  | false=>DI i ρ
 | .con d,ρ=>bJ t (some (.ok (.sh d),ρ))
 | .tup es,ρ=>bJ t ((jJ P C es ρ).bind fun ds ρ'=>if aZ ds.length then some (.ok (.sh (.tup ds)),ρ') else none)
 | .lst es,ρ=>bJ t ((jJ P C es ρ).bind fun ds ρ'=>if aZ ds.length then some (.ok (.ow (.lst ds)),ρ') else none)
 | .bin op a b,ρ=>bJ t ((hd a (ev P C false a ρ) ρ).bind fun x ρ1=>(hd b (ev P C false b ρ1) ρ1).bind fun y ρ2 =>
   done ((x.get ρ2).bind fun d=>(y.get ρ2).bind fun e=>if x6 op x d then jX op d e else none) ρ2)
 | .neg a,ρ=>bJ t ((ev P C false a ρ).bind fun v ρ1=>match v.d with
  | .int i=>some (.ok (.sh (.int (-i))),ρ1)
  | _=>none)
 | .not a,ρ=>match t with
  | true=>(ev P C true a ρ).bind fun v ρ1=>match v with
   | .sh (.bl b)=>some (.ok (.sh (.bl (!b))),ρ1)
   | _=>none
  | false=>(hd a (ev P C false a ρ) ρ).bind fun x ρ1=>done ((x.get ρ1).bind fun d=>(iN d).map fun b=>.sh (.bl (!b))) ρ1
 | .cmp op a b,ρ=>(hd a (ev P C false a ρ) ρ).bind fun x ρ1=>(hd b (ev P C false b ρ1) ρ1).bind fun y ρ2 =>
   done ((x.get ρ2).bind fun d=>(y.get ρ2).bind fun e=>(cN op d e).map fun b=>.sh (.bl b)) ρ2
 | .cmp2 op op' a b c,ρ=>(hd a (ev P C false a ρ) ρ).bind fun x ρ1=>(hd b (ev P C false b ρ1) ρ1).bind fun y ρ2 =>
   match (x.get ρ2).bind fun d=>(y.get ρ2).bind fun e=>cN op d e with
   | none=>none
   | some false=>some (.ok (.sh (.bl false)),ρ2)
   | some true=>(hd c (ev P C false c ρ2) ρ2).bind fun z ρ3 =>
    done ((y.get ρ3).bind fun d=>(z.get ρ3).bind fun e=>(cN op' d e).map fun b=>.sh (.bl b)) ρ3
 | .and a b,ρ=>(ev P C t a ρ).bind fun v ρ1=>match v with
  | .sh (.bl true)=>ev P C t b ρ1
  | .sh (.bl false)=>some (.ok (.sh (.bl false)),ρ1)
  | _=>none
 | .or a b,ρ=>(ev P C t a ρ).bind fun v ρ1=>match v with
  | .sh (.bl true)=>some (.ok (.sh (.bl true)),ρ1)
  | .sh (.bl false)=>ev P C t b ρ1
  | _=>none
 | .ite c a b,ρ=>(ev P C true c ρ).bind fun v ρ1=>match v with
  | .sh (.bl true)=>ev P C t a ρ1
  | .sh (.bl false)=>ev P C t b ρ1
  | _=>none
 | .ix a i,ρ=>bJ t ((hd a (ev P C false a ρ) ρ).bind fun x ρ1=>(ev P C false i ρ1).bind fun k ρ2 =>
   done ((x.get ρ2).bind fun d=>(KQ d k.d).map .sh) ρ2)
 | .sl a lo hi,ρ=>bJ t ((hd a (ev P C false a ρ) ρ).bind fun x ρ1 =>
   (yX lo (ev P C false lo ρ1) ρ1).bind fun l ρ2=>(yX hi (ev P C false hi ρ2) ρ2).bind fun h ρ3 =>
   done ((x.get ρ3).bind fun d=>(nA l).bind fun l=>(nA h).bind fun h=>R6 d l h) ρ3)
 | .rev a,ρ=>bJ t ((hd a (ev P C false a ρ) ρ).bind fun x ρ1=>done ((x.get ρ1).bind aA4) ρ1)
 | .call f es,ρ=>bJ t ((cD P C es ρ).bind fun hs ρ1=>bZ (P f) (C f) hs ρ1)
 | .bif f es,ρ=>bJ t ((cD P C es ρ).bind fun hs ρ1=>done ((getAll hs ρ1).bind (qH f)) ρ1)
 | .isi a ts,ρ=>bJ t ((hd a (ev P C false a ρ) ρ).bind fun x ρ1 =>
   done ((x.get ρ1).bind fun d=>(BM ts d).map fun b=>.sh (.bl b)) ρ1)
 | .isX a sn,ρ=>bJ t ((hd a (ev P C false a ρ) ρ).bind fun x ρ1=>done ((x.get ρ1).bind (aEv sn)) ρ1)
 | .isC a s n,ρ=>bJ t ((hd a (ev P C false a ρ) ρ).bind fun x ρ1=>done ((x.get ρ1).bind (aEO s n)) ρ1)
 | .app i a,ρ=>bJ t (if mU ρ i then (ev P C false a ρ).bind fun v ρ1=>match ρ1[i]? with
  | some (.ow (.lst ds) p false)=>if aZ (ds.length+1) then some (.ok (.sh .non),ρ1.set i (.ow (.lst (ds ++ [v.d])) p false)) else none
  | _=>none
  else none)
 | .insr i k a,ρ=>bJ t (if mU ρ i then (ev P C false k ρ).bind fun j ρ1=>(ev P C false a ρ1).bind fun v ρ2=>match ρ2[i]?,j with
  | some (.ow (.lst ds) p false),.sh (.int n)=>@ite _ ((0≤n∧n≤1000000)∧aZ (ds.length+1)=true) (cl _) (some (.ok (.sh .non),ρ2.set i (.ow (.lst (ds.take n.toNat ++ v.d :: ds.drop n.toNat)) p false))) none
  | _,_=>none
  else none)
 | .dict kvs,ρ=>bJ t (some (.ok (.ow (.dct kvs)),ρ))
 | .ext i a,ρ=>bJ t (if mU ρ i then (ev P C false a ρ).bind fun v ρ1=>match ρ1[i]?,v with
  | some (.ow (.lst ds) p false),.ow (.lst es)=>if aZ (ds.length+es.length) then some (.ok (.sh .non),ρ1.set i (.ow (.lst (ds ++ es)) p false)) else none
  | _,_=>none
  else none)
 | .frz i,ρ=>bJ t (DI i ρ)
 | .bitl a,ρ=>bJ t ((hd a (ev P C false a ρ) ρ).bind fun x ρ1=>done ((x.get ρ1).bind aEw) ρ1)
 | .mkset _,_=>none
 | .mkrng _,_=>none
 | .lrng es,ρ=>bJ t ((cD P C es ρ).bind fun hs ρ1=>done ((getAll hs ρ1).bind aCZ) ρ1)
 | .nset a,ρ=>bJ t ((hd a (ev P C false a ρ) ρ).bind fun x ρ1=>done ((x.get ρ1).bind aCP) ρ1)
 | .fld a f,ρ=>bJ t ((hd a (ev P C false a ρ) ρ).bind fun x ρ1=>done ((x.get ρ1).bind fun d=>(NS d f).map .sh) ρ1)
 | .make c ns es,ρ=>bJ t ((jJ P C es ρ).bind fun ds ρ1=>if ds.length=ns.length then some (.ok (.sh (.ins c ns ds)),ρ1) else none)
 | .meth i m tb es,ρ=>bJ t (match ρ[i]? with
  | some (.sh (.ins c ns ds))=>(match fK c ns m tb with
   | some f=>(cD P C es ρ).bind fun hs ρ1=>bZ (P f) (C f) (.val (.sh (.ins c ns ds)) :: hs) ρ1
   | none=>none)
  | _=>none)
 | .methE a m tb es,ρ=>bJ t ((ev P C false a ρ).bind fun v ρ0=>match v with
  | .sh (.ins c ns ds)=>(match fK c ns m tb with
   | some f=>(cD P C es ρ0).bind fun hs ρ1=>bZ (P f) (C f) (.val (.sh (.ins c ns ds)) :: hs) ρ1
   | none=>none)
  | _=>none)
 | .comp elt tg k its cond imp nl,ρ=>bJ t ((cD P C its ρ).bind fun hs ρ1 =>
   match aI k hs ρ1 with
   | none=>none
   | some (ds,o)=>(bZ (imp.map fun _=>true) (pN (dC P C cond) (ev P C false elt) (a8 (tg.length == 1) tg) ds nl) (imp.map Hd.slot) (aO o ρ1)).bind (kA o ρ1))
noncomputable def jJ (P:aK) (C:Calls):List E→Env→aE (List D)
 | [],ρ=>some (.ok [],ρ)
 | e :: es,ρ=>(ev P C false e ρ).bind fun v ρ1=>(jJ P C es ρ1).bind fun ds ρ2=>some (.ok (v.d :: ds),ρ2)
noncomputable def cD (P:aK) (C:Calls):List E→Env→aE (List Hd)
 | [],ρ=>some (.ok [],ρ)
 | e :: es,ρ=>(hd e (ev P C false e ρ) ρ).bind fun v ρ1=>(cD P C es ρ1).bind fun ds ρ2=>some (.ok (v :: ds),ρ2)
noncomputable def dC (P:aK) (C:Calls):List E→Env→aE RV
 | [],ρ=>some (.ok (.sh (.bl true)),ρ)
 | e :: es,ρ=>(ev P C true e ρ).bind fun v ρ1=>match v with
  | .sh (.bl true)=>dC P C es ρ1
  | .sh (.bl false)=>some (.ok (.sh (.bl false)),ρ1)
  | _=>none
end
mutual
noncomputable def iS (P:aK) (C:Calls):E→Env→Option (Exc × Env)
 | .call f es,ρ=>match cD P C es ρ with
  | some (.ok hs,ρ1)=>match bZ (P f) (C f) hs ρ1 with
   | some (.ex x,ρ')=>some (x,ρ')
   | _=>none
  | _=>pP P C es ρ
 | .comp elt tg k its cond imp nl,ρ=>match cD P C its ρ with
  | some (.ok hs,ρ1)=>(match aI k hs ρ1 with
   | none=>none
   | some (ds,o)=>BS o ρ1 (bZ (imp.map fun _=>true) (oF (dC P C cond) (ev P C false elt) (iS P C elt) (a8 (tg.length == 1) tg) ds nl) (imp.map Hd.slot) (aO o ρ1)))
  | _=>none
 | _,_=>none
noncomputable def pP (P:aK) (C:Calls):List E→Env→Option (Exc × Env)
 | [],_=>none
 | e :: es,ρ=>match hd e (ev P C false e ρ) ρ with
  | some (.ok _,ρ1)=>pP P C es ρ1
  | _=>iS P C e ρ
end
inductive Fl where
 | nx | bk | ct | rt (v:RV) | ex (e:Exc)
abbrev bN:=Option (Fl × Env)
noncomputable def aE.flow {α:Type} (r:aE α) (f:α→Env→bN):bN :=
 match r with
 | none=>none
 | some (.ex e,ρ)=>some (.ex e,ρ)
 | some (.ok a,ρ)=>f a ρ
noncomputable def bN.next (r:bN) (f:Env→bN):bN :=
 match r with
 | some (.nx,ρ)=>f ρ
 | r=>r
noncomputable def bN.restore (r:bN) (o:Option Nat) (ρ0:Env):bN :=
 match r with
 | none=>none
 | some (fl,ρ)=>(dB o ρ0 ρ).map fun ρ'=>(fl,ρ')
noncomputable def jC (o:Option Env):bN:=o.map fun ρ=>(.nx,ρ)
noncomputable def cQ (bind:D→Env→Option Env) (body:Env→bN):List D→Env→bN
 | [],ρ=>some (.nx,ρ)
 | d :: ds,ρ=>match bind d ρ with
  | none=>none
  | some ρ1=>match body ρ1 with
   | some (.nx,ρ2)=>cQ bind body ds ρ2
   | some (.ct,ρ2)=>cQ bind body ds ρ2
   | some (.bk,ρ2)=>some (.nx,ρ2)
   | r=>r
noncomputable def IA (test:Env→aE RV) (body:Env→bN):Nat→Env→bN
 | 0,_=>none
 | n+1,ρ=>(test ρ).flow fun v ρ1=>match v with
  | .sh (.bl true)=>match body ρ1 with
   | some (.nx,ρ2)=>IA test body n ρ2
   | some (.ct,ρ2)=>IA test body n ρ2
   | some (.bk,ρ2)=>some (.nx,ρ2)
   | r=>r
  | .sh (.bl false)=>some (.nx,ρ1)
  | _=>none
noncomputable def HS (i:Nat) (o:Option Sl) (r:aE RV):bN :=
 match o,r with
 | some (.sh (.int a)),some (.ok (.sh (.int b)),ρ1)=>jC (store i (.sh (.int (a+b))) ρ1)
 | _,_=>none
noncomputable def aFc (cs:List Str) (i:Nat) (o:Option (Exc × Env)):Option Env :=
 match o with
 | none=>none
 | some (x,ρ1)=>if cs.contains x.cls then store i (.sh (.exn x.cls)) ρ1 else none
noncomputable def aEm (i:Nat) (r:bN):bN :=
 match r with
 | some (.nx,ρ)=>(match ρ[i]? with | some (.sh _)=>some (.nx,ρ.set i .mv) | _=>none)
 | _=>none
noncomputable def aBf (cs:List Str) (i j:Nat) (o:Option (Exc × Env)):bN :=
 match o with
 | none=>none
 | some (x,ρ1)=>if cs.contains x.cls∧i≠j then (store i (.sh (.exn x.cls)) ρ1).bind fun ρ2=>(store j (.sh (.exn x.cls)) ρ2).map fun ρ3=>(.nx,ρ3.set i .mv) else none
noncomputable def j7 (cs:List Str) (o:Option (Exc × Env)):bN :=
 match o with
 | none=>none
 | some (x,ρ1)=>if cs.contains x.cls then some (.rt (.sh .non),ρ1) else none
mutual
noncomputable def ex (P:aK) (C:Calls) (W:Nat):S→Env→bN
 | .bad,_=>none
 | .pass,ρ=>some (.nx,ρ)
 | .brk,ρ=>some (.bk,ρ)
 | .cnt,ρ=>some (.ct,ρ)
 | .asg i e,ρ=>(ev P C false e ρ).flow fun v ρ1=>jC (store i v ρ1)
 | .asgT is e,ρ=>(ev P C false e ρ).flow fun v ρ1=>jC (a8 false is v.d ρ1)
 | .set i k e,ρ=>(ev P C false e ρ).flow fun v ρ1=>if mU ρ1 i then (ev P C false k ρ1).flow fun j ρ2=>match ρ2[i]?,j.d with
  | some (.ow (.lst ds) p false),.int n=>jC ((L2.lI ds.length n).map fun m=>ρ2.set i (.ow (.lst (ds.set m v.d)) p false))
  | _,_=>none
  else if yZ ρ1 i then (ev P C false k ρ1).flow fun j ρ2=>match ρ2[i]?,j,v with
  | some (.ow (.dct kvs) p false),.sh (.int n),.sh (.int m)=>if aZ (kvs.length+1) then some (.nx,ρ2.set i (.ow (.dct (y9 kvs n m)) p false)) else none
  | _,_,_=>none
  else none
 | .expr e,ρ=>(ev P C false e ρ).flow fun _ ρ1=>some (.nx,ρ1)
 | .ret e,ρ=>match e with
  | .var i=>match ρ[i]? with
   | some (.ow d false _)=>some (.rt (.ow d),ρ.set i .mv)
   | some (.sh d)=>some (.rt (.sh d),ρ)
   | _=>none
  | e=>(ev P C false e ρ).flow fun v ρ1=>some (.rt v,ρ1)
 | .retN,ρ=>some (.rt (.sh .non),ρ)
 | .ifs c a b,ρ=>(ev P C true c ρ).flow fun v ρ1=>match v with
  | .sh (.bl true)=>exs P C W a ρ1
  | .sh (.bl false)=>exs P C W b ρ1
  | _=>none
 | .for tg one k its body,ρ=>(cD P C its ρ).flow fun hs ρ1 =>
  match aI k hs ρ1 with
  | none=>none
  | some (ds,o)=>(cQ (a8 one tg) (exs P C W body) ds (aO o ρ1)).restore o ρ1
 | .whl c body,ρ=>IA (ev P C true c) (exs P C W body) W ρ
 | .rse _ _,_=>none
 | .aug i e,ρ=>HS i ρ[i]? (ev P C false e ρ)
 | .tryA body cs i j,ρ=>match exs P C W body ρ with
  | some (.nx,ρ1)=>some (.nx,ρ1)
  | _=>aBf cs i j (hU P C W body ρ)
 | .tryB body cs i ss,ρ=>match exs P C W body ρ with
  | some (.nx,ρ1)=>some (.nx,ρ1)
  | _=>match aFc cs i (hU P C W body ρ) with
   | some ρ2=>aEm i (exs P C W ss ρ2)
   | none=>none
 | .tryN body cs,ρ=>match exs P C W body ρ with
  | some (.nx,ρ1)=>some (.nx,ρ1)
  | some (.rt v,ρ1)=>some (.rt v,ρ1)
  | _=>j7 cs (hU P C W body ρ)
noncomputable def exs (P:aK) (C:Calls) (W:Nat):List S→Env→bN
 | [],ρ=>some (.nx,ρ)
 | s :: r,ρ=>(ex P C W s ρ).next (exs P C W r)
noncomputable def fJ (P:aK) (C:Calls) (W:Nat):S→Env→Option (Exc × Env)
 | .asg _ e,ρ=>iS P C e ρ
 | .expr e,ρ=>iS P C e ρ
 | .ret e,ρ=>iS P C e ρ
 | .rse c es,ρ=>match jJ P C es ρ with
  | some (.ok _,ρ1)=>some (⟨c⟩,ρ1)
  | _=>none
 | .ifs c a b,ρ=>match ev P C true c ρ with
  | some (.ok (.sh (.bl true)),ρ1)=>hU P C W a ρ1
  | some (.ok (.sh (.bl false)),ρ1)=>hU P C W b ρ1
  | _=>none
 | _,_=>none
noncomputable def hU (P:aK) (C:Calls) (W:Nat):List S→Env→Option (Exc × Env)
 | [],_=>none
 | s :: r,ρ=>match ex P C W s ρ with
  | some (.nx,ρ1)=>hU P C W r ρ1
  | _=>fJ P C W s ρ
end
abbrev fX:=String→Option Fn
noncomputable def fX.pins (T:fX):aK:=fun f=>match T f with
 | some fn=>fn.pins
 | none=>[]
noncomputable def run (T:fX) (W:Nat):Nat→Calls
 | 0=>fun _ _=>none
 | n+1=>fun f as=>match T f with
  | none=>none
  | some fn=>if as.length=fn.pins.length∧as.all iT=true then
    match exs T.pins (run T W n) W fn.body (as ++ List.replicate fn.nl .un) with
    | some (.nx,ρ)=>some (.ok (.sh .non),back as ρ)
    | some (.rt v,ρ)=>some (.ok v,back as ρ)
    | _=>if fn.rs then match hU T.pins (run T W n) W fn.body (as ++ List.replicate fn.nl .un) with
     | some (x,ρ)=>some (.ex x,back as ρ)
     | none=>none
     else none
   else none
end
end CI
namespace CI
open PySem PySem.Spec PyProof.Rows L2
abbrev St:=L2.St
structure ClsF (K:PySem.W.Frag) (C:Addr) (ns:List Str):Prop where
 cl:Cls K C
 no:∀ f∈ns,kO K C f
noncomputable def sE (kvs:List (Int × Int)):List (bP × V):=kvs.map fun p=>(Sum.inl p.1,.int p.2)
mutual
def aD (K:PySem.W.Frag) (G:Hp):D→V→Prop
 | .non,v=>v=.non
 | .bl b,v=>v=.bl b
 | .int i,v=>v=.int i
 | .str x,v=>v=.str x∧PyData.strOk x=true
 | .tup ds,v=>∃ a vs,v=.ref a∧d6 K G a vs∧aB K G ds vs
 | .lst ds,v=>∃ a vs,v=.ref a∧cB K G a vs∧aB K G ds vs
 | .ins c ns ds,v=>∃ a C dx vs,v=.ref a∧PySem.W.nsIn K mainGlobals c=some (some (.ref C))∧G a=some (.ins C dx (ns.zip vs))∧aB K G ds vs∧ClsF K C ns∧ns.length=vs.length
 | .dct kvs,v=>∃ a,v=.ref a∧G a=some (.dK (sE kvs))
 | .exn c,v=>∃ a C,v=.ref a∧PySem.W.nsIn K mainGlobals c=some (some (.ref C))∧ExcG K C∧G a=some (.ext (o7 a C))
def aB (K:PySem.W.Frag) (G:Hp):List D→List V→Prop
 | [],vs=>vs=[]
 | d :: ds,vs=>∃ v r,vs=v :: r∧aD K G d v∧aB K G ds r
end
theorem eM {K:PySem.W.Frag} {G G':Hp} (s:aM G G') {a:Addr} {vs:List V} (h:d6 K G a vs):d6 K G' a vs:=by
 rcases h with (h | ⟨o,h⟩) | h
 ·exact .inl (.inl (s _ _ h))
 ·exact .inl (.inr ⟨o,s _ _ h⟩)
 ·exact .inr h
mutual
theorem aD.mono {K:PySem.W.Frag} {G G':Hp} (s:aM G G'):∀ (d:D) {v:V},aD K G d v→aD K G' d v
 | .non,_,h=>by simpa [aD] using h
 | .bl _,_,h=>by simpa [aD] using h
 | .int _,_,h=>by simpa [aD] using h
 | .str _,_,h=>by simpa [aD] using h
 | .tup ds,_,h=>by
  simp only [aD] at h ⊢;obtain ⟨a,vs,e,h1,h2⟩:=h;exact ⟨a,vs,e,eM s h1,aB.mono s ds h2⟩
 | .lst ds,_,h=>by
  simp only [aD] at h ⊢;obtain ⟨a,vs,e,h1,h2⟩:=h;exact ⟨a,vs,e,s.seq h1,aB.mono s ds h2⟩
 | .ins c ns ds,_,h=>by
  simp only [aD] at h ⊢;obtain ⟨a,C,dx,vs,e,h1,h2,h3,h4,h5⟩:=h;exact ⟨a,C,dx,vs,e,h1,s _ _ h2,aB.mono s ds h3,h4,h5⟩
 | .dct kvs,_,h=>by
  simp only [aD] at h ⊢;obtain ⟨a,e,h1⟩:=h;exact ⟨a,e,s _ _ h1⟩
 | .exn c,_,h=>by
  simp only [aD] at h ⊢;obtain ⟨a,C,e,h1,h2,h3⟩:=h;exact ⟨a,C,e,h1,h2,s _ _ h3⟩
theorem aB.mono {K:PySem.W.Frag} {G G':Hp} (s:aM G G'):∀ (ds:List D) {vs:List V},aB K G ds vs→aB K G' ds vs
 | [],_,h=>by simpa [aB] using h
 | d :: ds,_,h=>by
  simp only [aB] at h ⊢;obtain ⟨v,r,e,h1,h2⟩:=h;exact ⟨v,r,e,aD.mono s d h1,aB.mono s ds h2⟩
end
theorem aB.len {K:PySem.W.Frag} {G:Hp}:∀ {ds:List D} {vs:List V},aB K G ds vs→vs.length=ds.length
 | [],_,h=>by simp only [aB] at h; subst h; rfl
 | d :: ds,_,h=>by
  simp only [aB] at h;obtain ⟨v,r,rfl,_,h2⟩:=h;simp [aB.len h2]
theorem aB.nil {K:PySem.W.Frag} {G:Hp}:aB K G [] []:=by simp [aB]
theorem aB.cons {K:PySem.W.Frag} {G:Hp} {d:D} {ds:List D} {v:V} {vs:List V} (h:aD K G d v) (t:aB K G ds vs):aB K G (d :: ds) (v :: vs):=by
 simp only [aB]; exact ⟨v,vs,rfl,h,t⟩
theorem aB.app {K:PySem.W.Frag} {G:Hp}:∀ {ds es:List D} {vs ws:List V},aB K G ds vs→aB K G es ws→aB K G (ds ++ es) (vs ++ ws)
 | [],_,_,_,h,h'=>by simp only [aB] at h; subst h; exact h'
 | d :: ds,_,_,_,h,h'=>by
  simp only [aB] at h;obtain ⟨v,r,rfl,h1,h2⟩:=h;exact aB.cons h1 (aB.app h2 h')
theorem aB.rev {K:PySem.W.Frag} {G:Hp}:∀ {ds:List D} {vs:List V},aB K G ds vs→aB K G ds.reverse vs.reverse
 | [],vs,h=>by
  cases (show vs=[] from h);exact (show aB K G [] [] from rfl)
 | d :: ds,vs,h=>by
  obtain ⟨v,r,rfl,h1,h2⟩:=(show ∃ v r,vs=v :: r∧aD K G d v∧aB K G ds r from h)
  rw [List.reverse_cons,List.reverse_cons];exact h2.rev.app (show aB K G [d] [v] from ⟨v,[],rfl,h1,rfl⟩)
theorem aB.get {K:PySem.W.Frag} {G:Hp}:∀ {ds:List D} {vs:List V} {i:Nat} {d:D},aB K G ds vs→ds[i]?=some d→∃ v,vs[i]?=some v∧aD K G d v
 | [],_,_,_,_,e=>by simp at e
 | d :: ds,_,0,_,h,e=>by
  simp only [aB] at h;obtain ⟨v,r,rfl,h1,h2⟩:=h;simp at e; subst e;exact ⟨v,rfl,h1⟩
 | d :: ds,_,i+1,_,h,e=>by
  simp only [aB] at h;obtain ⟨v,r,rfl,h1,h2⟩:=h
  have:=aB.get (i:=i) h2 (by simpa using e)
  simpa using this
theorem aB.set {K:PySem.W.Frag} {G:Hp} {d:D} {v:V} (hv:aD K G d v):∀ {ds:List D} {vs:List V} (i:Nat),aB K G ds vs→aB K G (ds.set i d) (vs.set i v)
 | [],_,_,h=>by simp only [aB] at h; subst h; simp [aB]
 | e :: ds,_,0,h=>by
  simp only [aB] at h;obtain ⟨u,r,rfl,h1,h2⟩:=h;exact aB.cons hv h2
 | e :: ds,_,i+1,h=>by
  simp only [aB] at h;obtain ⟨u,r,rfl,h1,h2⟩:=h;exact aB.cons h1 (aB.set hv i h2)
theorem aB.take {K:PySem.W.Frag} {G:Hp}:∀ {ds:List D} {vs:List V} (n:Nat),aB K G ds vs→aB K G (ds.take n) (vs.take n)
 | _,_,0,_=>by simp [aB]
 | [],_,_+1,h=>by simp only [aB] at h; subst h; simp [aB]
 | e :: ds,_,n+1,h=>by
  simp only [aB] at h;obtain ⟨u,r,rfl,h1,h2⟩:=h;exact aB.cons h1 (aB.take n h2)
theorem aB.drop {K:PySem.W.Frag} {G:Hp}:∀ {ds:List D} {vs:List V} (n:Nat),aB K G ds vs→aB K G (ds.drop n) (vs.drop n)
 | _,_,0,h=>h
 | [],_,_+1,h=>by simp only [aB] at h; subst h; simp [aB]
 | e :: ds,_,n+1,h=>by
  simp only [aB] at h;obtain ⟨u,r,rfl,h1,h2⟩:=h;exact aB.drop n h2
theorem aB.rep {K:PySem.W.Frag} {G:Hp} {ds:List D} {vs:List V} (h:aB K G ds vs):∀ n,aB K G (List.replicate n ds).flatten (List.replicate n vs).flatten
 | 0=>aB.nil
 | n+1=>by
  rw [List.replicate_succ,List.replicate_succ,List.flatten_cons,List.flatten_cons];exact aB.app h (aB.rep h n)
def gM (K:PySem.W.Frag) (H G:Hp) (a:Addr):D→Prop
 | .lst ds=>∃ vs,H a=some (.lst vs)∧aB K G ds vs
 | .dct kvs=>H a=some (.dK (sE kvs))
 | _=>False
def aL (ρ:Env) (σ:St) (a:Addr):Prop:=∃ (i:Nat) (d:D) (p l:Bool),ρ[i]?=some (.ow d p l)∧σ[i]?=some (some (.ref a))
structure Rel (K:PySem.W.Frag) (ρ:Env) (σ:St) (H G:Hp):Prop where
 len:ρ.length=σ.length
 sub:aM G H
 sh:∀ (i:Nat) (d:D),ρ[i]?=some (.sh d)→∃ v,σ[i]?=some (some v)∧aD K G d v
 ow:∀ (i:Nat) (d:D) (p l:Bool),ρ[i]?=some (.ow d p l)→∃ a,σ[i]?=some (some (.ref a))∧G a=none∧gM K H G a d
 inj:∀ (i j:Nat) (d:D) (p l:Bool) (d':D) (p' l':Bool) (a:Addr),ρ[i]?=some (.ow d p l)→ρ[j]?=some (.ow d' p' l')→σ[i]?=some (some (.ref a))→σ[j]?=some (some (.ref a))→i=j
structure Ext (own:Addr→Prop) (H G H' G':Hp):Prop where
 gg:aM G G'
 hh:∀ a o,H a=some o→¬ own a→H' a=some o
 hx:∀ a,H' a=none→H a=none
 gn:∀ a,H a≠none→G a=none→¬ own a→G' a=none
theorem Ext.refl {own:Addr→Prop} {H G:Hp}:Ext own H G H G:=⟨aM.refl _,fun _ _ h _=>h,fun _ h=>h,fun _ _ h _=>h⟩
theorem Ext.trans {own own1:Addr→Prop} {H G H1 G1 H2 G2:Hp} (a:Ext own H G H1 G1) (w:∀ x,own1 x→own x∨H x=none) (b:Ext own1 H1 G1 H2 G2):Ext own H G H2 G2:=by
 refine ⟨a.gg.trans b.gg,fun x o h n=>?_,fun x h=>a.hx x (b.hx x h),fun x h g n=>?_⟩
 ·refine b.hh x o (a.hh x o h n) fun z=>?_
  rcases w x z with z | z
  ·exact n z
  ·rw [h] at z; cases z
 ·have h1:H1 x≠none:=fun z=>h (a.hx x z)
  refine b.gn x h1 (a.gn x h g n) fun z=>?_
  rcases w x z with z | z
  ·exact n z
  ·exact h z
theorem Ext.weaken {own own':Addr→Prop} {H G H1 G1:Hp} (a:Ext own H G H1 G1) (w:∀ x,own x→own' x):Ext own' H G H1 G1 :=
 ⟨a.gg,fun x o h n=>a.hh x o h fun z=>n (w x z),a.hx,fun x h g n=>a.gn x h g fun z=>n (w x z)⟩
def dO (K:PySem.W.Frag) (H G:Hp) (own:Addr→Prop) (new:Addr→Prop):RV→V→Prop
 | .sh d,v=>aD K G d v
 | .ow d,v=>∃ a,v=.ref a∧G a=none∧gM K H G a d∧¬ own a∧new a
def cA (K:PySem.W.Frag) (H G:Hp) (d:D) (v:V):Prop:=aD K G d v∨∃ a,v=.ref a∧gM K H G a d
def jF (K:PySem.W.Frag) (H G:Hp) (own:Addr→Prop) (new:Addr→Prop) (σ:St):Hd→V→Prop
 | .slot i,v=>σ[i]?=some (some v)
 | .val r,v=>dO K H G own new r v
section
variable {K:PySem.W.Frag} {ρ:Env} {σ:St} {H G H' G':Hp} {own own' new new':Addr→Prop}
theorem gM.mono {a:Addr} {d:D} (h:gM K H G a d) (s:aM G G') (e:∀ o,H a=some o→H' a=some o):gM K H' G' a d:=by
 cases d with
 | lst ds =>
  obtain ⟨vs,h1,h2⟩:=h;exact ⟨vs,e _ h1,aB.mono s _ h2⟩
 | dct kvs=>exact e _ h
 | _=>exact h
theorem gM.put {a:Addr} {d:D} (h:gM K H G a d):∃ o,H a=some o∧∀ G',aM G G'→G' a=some o→aD K G' d (.ref a):=by
 cases d with
 | lst ds =>
  obtain ⟨vs,h1,h2⟩:=h;exact ⟨_,h1,fun G' s e=>by simp only [aD]; exact ⟨a,vs,rfl,cB.of e,aB.mono s ds h2⟩⟩
 | dct kvs=>exact ⟨_,h,fun G' s e=>by simp only [aD]; exact ⟨a,rfl,e⟩⟩
 | _=>exact h.elim
theorem gM.there {a:Addr} {d:D} (h:gM K H G a d):∃ o,H a=some o:=let ⟨o,h,_⟩:=h.put; ⟨o,h⟩
theorem Rel.owned (r:Rel K ρ σ H G) {a:Addr} (o:aL ρ σ a):H a≠none∧G a=none:=by
 obtain ⟨i,d,p,l,h1,h2⟩:=o;obtain ⟨b,e,g,h⟩:=r.ow i d p l h1;rw [h2] at e; cases e;obtain ⟨vs,h⟩:=h.there;exact ⟨by rw [h]; simp,g⟩
theorem dO.wait {v:RV} {x:V} (h:dO K H G own new v x) (e:Ext own H G H' G') (w:∀ a,own' a→own a∨H a=none):dO K H' G' own' new v x:=by
 cases v with
 | sh d=>exact aD.mono e.gg d h
 | ow d =>
  obtain ⟨a,rfl,g,o,n,m⟩:=h;obtain ⟨vs,hv⟩:=o.there;have ne:H a≠none:=by rw [hv]; simp
  refine ⟨a,rfl,e.gn a ne g n,o.mono e.gg fun o' h'=>e.hh a o' h' n,fun z=>?_,m⟩;rcases w a z with z | z
  ·exact n z
  ·exact ne z
theorem jF.wait {v:Hd} {x:V} (h:jF K H G own new σ v x) (e:Ext own H G H' G') (w:∀ a,own' a→own a∨H a=none):jF K H' G' own' new σ v x:=by
 cases v with
 | slot i=>exact h
 | val r=>exact dO.wait h e w
theorem dO.new_mono {v:RV} {x:V} (h:dO K H G own new v x) (w:∀ a,new a→new' a):dO K H G own new' v x:=by
 cases v with
 | sh d=>exact h
 | ow d =>
  obtain ⟨a,rfl,g,o,n,m⟩:=h;exact ⟨a,rfl,g,o,n,w a m⟩
theorem jF.new_mono {v:Hd} {x:V} (h:jF K H G own new σ v x) (w:∀ a,new a→new' a):jF K H G own new' σ v x:=by
 cases v with
 | slot i=>exact h
 | val r=>exact dO.new_mono h w
theorem dO.readR {v:RV} {x:V} (h:dO K H G own new v x):cA K H G v.d x:=by
 cases v with
 | sh d=>exact .inl h
 | ow d =>
  obtain ⟨a,rfl,g,o,n,m⟩:=h;exact .inr ⟨a,rfl,o⟩
theorem Rel.get (r:Rel K ρ σ H G) {i:Nat} {d:D} {x:V} (h:(ρ[i]?).bind Sl.get=some d) (hx:σ[i]?=some (some x)):cA K H G d x:=by
 cases e:ρ[i]? with
 | none=>rw [e] at h; cases h
 | some sl =>
  rw [e] at h
  cases sl with
  | un=>cases h
  | mv=>cases h
  | sh d' =>
   cases h;obtain ⟨v,h1,h2⟩:=r.sh i _ e;rw [hx] at h1; cases h1;exact .inl h2
  | ow d' p l =>
   cases h;obtain ⟨a,h1,_,h2⟩:=r.ow i _ p l e;rw [hx] at h1; cases h1;exact .inr ⟨a,rfl,h2⟩
theorem jF.read {v:Hd} {x:V} {d:D} (h:jF K H G own new σ v x) (r:Rel K ρ σ H G) (e:v.get ρ=some d):cA K H G d x:=by
 cases v with
 | slot i=>exact r.get e h
 | val u =>
  simp only [Hd.get,Option.some.injEq] at e;subst e;exact dO.readR h
theorem Rel.bound (r:Rel K ρ σ H G) {i:Nat} (h:((ρ[i]?).bind Sl.get).isSome=true):∃ v,σ[i]?=some (some v):=by
 cases e:ρ[i]? with
 | none=>rw [e] at h; cases h
 | some sl =>
  rw [e] at h
  cases sl with
  | un=>cases h
  | mv=>cases h
  | sh d' =>
   obtain ⟨v,h1,h2⟩:=r.sh i _ e;exact ⟨v,h1⟩
  | ow d' p l =>
   obtain ⟨a,h1,_,h2⟩:=r.ow i _ p l e;exact ⟨_,h1⟩
theorem cA.lst {ds:List D} {x:V} (s:aM G H) (h:cA K H G (.lst ds) x):∃ a vs,x=.ref a∧cB K H a vs∧aB K G ds vs:=by
 rcases h with h | ⟨a,rfl,h⟩
 ·simp only [aD] at h;obtain ⟨a,vs,e,h1,h2⟩:=h;exact ⟨a,vs,e,s.seq h1,h2⟩
 ·obtain ⟨vs,h1,h2⟩:=h;exact ⟨a,vs,rfl,cB.of h1,h2⟩
theorem cA.tup {ds:List D} {x:V} (s:aM G H) (h:cA K H G (.tup ds) x):∃ a vs,x=.ref a∧d6 K H a vs∧aB K G ds vs:=by
 rcases h with h | ⟨a,rfl,h⟩
 ·simp only [aD] at h;obtain ⟨a,vs,e,h1,h2⟩:=h;exact ⟨a,vs,e,eM s h1,h2⟩
 ·exact h.elim
theorem cA.int {i:Int} {x:V} (h:cA K H G (.int i) x):x=.int i:=by
 rcases h with h | ⟨a,rfl,h⟩
 ·simpa [aD] using h
 ·exact h.elim
theorem cA.bl {i:Bool} {x:V} (h:cA K H G (.bl i) x):x=.bl i:=by
 rcases h with h | ⟨a,rfl,h⟩
 ·simpa [aD] using h
 ·exact h.elim
theorem cA.str {i:Str} {x:V} (h:cA K H G (.str i) x):x=.str i∧PyData.strOk i=true:=by
 rcases h with h | ⟨a,rfl,h⟩
 ·simpa [aD] using h
 ·exact h.elim
theorem cA.non {x:V} (h:cA K H G .non x):x=.non:=by
 rcases h with h | ⟨a,rfl,h⟩
 ·simpa [aD] using h
 ·exact h.elim
theorem tG {i:Bool} {x:V} (h:aD K G (.bl i) x):x=.bl i:=by simpa [aD] using h
theorem aM.laid {a:Addr} {o:HO} (h:H a=none):aM H (aV H a o):=fun b u e=>by rw [aN (bR e h)]; exact e
theorem Rel.layG (r:Rel K ρ σ H G) {a:Addr} {o:HO} (h:H a=none):Rel K ρ σ (aV H a o) (aV G a o):=by
 have hg:G a=none:=aM.free r.sub h;refine ⟨r.len,fun b u e=>?_,fun i d e=>?_,fun i d p l e=>?_,r.inj⟩
 ·by_cases hb:b=a
  ·subst hb; rw [bC] at e ⊢; exact e
  ·rw [aN hb] at e ⊢; exact r.sub b u e
 ·obtain ⟨v,h1,h2⟩:=r.sh i d e;exact ⟨v,h1,aD.mono (aM.laid hg) d h2⟩
 ·obtain ⟨b,h1,h2,h3⟩:=r.ow i d p l e;obtain ⟨vs,hv⟩:=h3.there;have hb:b≠a:=bR hv h;refine ⟨b,h1,by rw [aN hb]; exact h2,h3.mono (aM.laid hg) fun o' h'=>by rw [aN hb]; exact h'⟩
theorem Ext.layG {a:Addr} {o:HO} (s:aM G H) (h:H a=none):Ext own H G (aV H a o) (aV G a o):=by
 have hg:G a=none:=aM.free s h;refine ⟨aM.laid hg,fun b u e _=>aM.laid h b u e,fun b e=>?_,fun b e g _=>?_⟩
 ·by_cases hb:b=a
  ·subst hb; exact h
  ·rwa [aN hb] at e
 ·by_cases hb:b=a
  ·subst hb; exact absurd h e
  ·rw [aN hb]; exact g
theorem Rel.layH (r:Rel K ρ σ H G) {a:Addr} {o:HO} (h:H a=none):Rel K ρ σ (aV H a o) G:=by
 refine ⟨r.len,r.sub.trans (aM.laid h),r.sh,fun i d p l e=>?_,r.inj⟩;obtain ⟨b,h1,h2,h3⟩:=r.ow i d p l e;obtain ⟨vs,hv⟩:=h3.there;have hb:b≠a:=bR hv h;exact ⟨b,h1,h2,h3.mono (aM.refl _) fun o' h'=>by rw [aN hb]; exact h'⟩
theorem Ext.layH {a:Addr} {o:HO} (h:H a=none):Ext own H G (aV H a o) G:=by
 refine ⟨aM.refl _,fun b u e _=>aM.laid h b u e,fun b e=>?_,fun b e g _=>g⟩;by_cases hb:b=a
 ·subst hb; exact h
 ·rwa [aN hb] at e
theorem Rel.notOwn (r:Rel K ρ σ H G) {a:Addr} (h:H a=none):¬ aL ρ σ a:=fun o=>(r.owned o).1 h
theorem aM.put {a:Addr} {o:HO} (h:G a=none):aM G (aV G a o):=aM.laid h
theorem dO.share {v:RV} {x:V} (h:dO K H G (aL ρ σ) new v x) (r:Rel K ρ σ H G) (hn:∀ a,new a→own a∨new' a) :
  ∃ G',Rel K ρ σ H G'∧aM G G'∧(∀ a,G' a≠none→G a≠none∨new a)∧aD K G' v.d x:=by
 cases v with
 | sh d=>exact ⟨G,r,aM.refl _,fun a z=>.inl z,h⟩
 | ow d =>
  obtain ⟨a,rfl,g,o,n,m⟩:=h;obtain ⟨ob,hv,hr⟩:=o.put;refine ⟨aV G a ob,⟨r.len,fun b u e=>?_,fun i d e=>?_,fun i d p l e=>?_,r.inj⟩,aM.put g,fun b z=>?_, ?_⟩
  ·by_cases hb:b=a
   ·subst hb; rw [bC] at e; rw [hv]; exact e
   ·rw [aN hb] at e; exact r.sub b u e
  ·obtain ⟨v,h1,h2⟩:=r.sh i d e;exact ⟨v,h1,aD.mono (aM.put g) d h2⟩
  ·obtain ⟨b,h1,h2,h3⟩:=r.ow i d p l e;have hb:b≠a:=fun z=>by subst z; exact n ⟨i,d,p,l,e,h1⟩
   exact ⟨b,h1,by rw [aN hb]; exact h2,h3.mono (aM.put g) fun _ z=>z⟩
  ·by_cases hb:b=a
   ·subst hb; exact .inr m
   ·rw [aN hb] at z; exact .inl z
  ·exact hr _ (aM.put g) bC
end
def dE:Option Sl→Option Sl→Prop
 | some (.ow _ p l),some (.ow _ p' l')=>p=p'∧l=l'
 | some (.ow _ p _),some (.sh _)=>p=false
 | some .un,some .un=>True
 | some .mv,some .mv=>True
 | some (.sh _),some (.sh _)=>True
 | none,none=>True
 | _,_=>False
theorem dE.refl (a:Option Sl):dE a a:=by
 cases a with
 | none=>trivial
 | some s=>cases s <;> first | trivial | exact ⟨rfl,rfl⟩
theorem dE.trans {a b c:Option Sl} (h:dE a b) (h':dE b c):dE a c:=by
 cases a with
 | none =>
  cases b with
  | none=>exact h'
  | some t=>cases t <;> exact h.elim
 | some s =>
  cases b with
  | none=>cases s <;> exact h.elim
  | some t =>
   cases c with
   | none=>cases t <;> exact h'.elim
   | some u=>cases s <;> cases t <;> cases u <;> simp_all [dE]
theorem dE.ow_of {a:Option Sl} {d:D} {p l:Bool} (h:dE a (some (.ow d p l))):∃ d',a=some (.ow d' p l):=by
 cases a with
 | none=>exact h.elim
 | some s=>cases s <;> first | exact h.elim | (obtain ⟨rfl,rfl⟩:=h; exact ⟨_,rfl⟩)
def iO (ρ ρ':Env):Prop:=∀ i:Nat,dE ρ[i]? ρ'[i]?
theorem iO.refl (ρ:Env):iO ρ ρ:=fun _=>dE.refl _
theorem iO.trans {a b c:Env} (h:iO a b) (h':iO b c):iO a c:=fun i=>(h i).trans (h' i)
theorem iO.own {ρ ρ':Env} {σ:St} (h:iO ρ ρ') (a:Addr) (o:aL ρ' σ a):aL ρ σ a:=by
 obtain ⟨i,d,p,l,h1,h2⟩:=o
 have:=h i
 rw [h1] at this;obtain ⟨d',e⟩:=this.ow_of;exact ⟨i,d',p,l,e,h2⟩
theorem iO.set {ρ:Env} {i:Nat} {s:Sl} (h:dE ρ[i]? (some s)):iO ρ (ρ.set i s):=fun j=>by
 by_cases hij:j=i
 ·subst hij;by_cases hl:j<ρ.length
  ·rw [List.getElem?_set_self hl]; exact h
  ·rw [List.getElem?_eq_none (by omega)] at h;cases s <;> exact h.elim
 ·rw [List.getElem?_set_ne (fun z=>hij z.symm)];exact dE.refl _
structure Aft (K:PySem.W.Frag) (ρ:Env) (σ:St) (H G:Hp) (ρ':Env) (H' G':Hp):Prop where
 rel:Rel K ρ' σ H' G'
 ext:Ext (aL ρ σ) H G H' G'
 evo:iO ρ ρ'
section
variable {K:PySem.W.Frag} {ρ ρ' ρ1 ρ2:Env} {σ:St} {H G H' G' H1 G1 H2 G2:Hp}
theorem Aft.own (a:Aft K ρ σ H G ρ' H' G'):∀ a,aL ρ' σ a→aL ρ σ a:=fun x h=>a.evo.own x h
theorem Aft.refl (r:Rel K ρ σ H G):Aft K ρ σ H G ρ H G:=⟨r,Ext.refl,iO.refl _⟩
theorem Aft.trans (a:Aft K ρ σ H G ρ1 H1 G1) (b:Aft K ρ1 σ H1 G1 ρ2 H2 G2):Aft K ρ σ H G ρ2 H2 G2 :=
 ⟨b.rel,a.ext.trans (fun x h=>.inl (a.own x h)) b.ext,a.evo.trans b.evo⟩
abbrev dU (H:Hp):Addr→Prop:=fun a=>H a=none
theorem Aft.fresh (a:Aft K ρ σ H G ρ1 H1 G1) {x:Addr} (h:H1 x=none):H x=none:=a.ext.hx x h
theorem Aft.share (a:Aft K ρ σ H G ρ' H' G') {v:RV} {x:V} (h:dO K H' G' (aL ρ' σ) (dU H) v x):∃ G2,Aft K ρ σ H G ρ' H' G2∧aD K G2 v.d x:=by
 obtain ⟨G2,r2,s2,n2,h2⟩:=h.share (own:=fun _=>False) (new':=dU H) a.rel (fun _ z=>.inr z);refine ⟨G2,⟨r2,⟨a.ext.gg.trans s2,a.ext.hh,a.ext.hx,fun b hb gb nb=>?_⟩,a.evo⟩,h2⟩
 cases e:G2 b with
 | none=>rfl
 | some o =>
  rcases n2 b (by rw [e]; simp) with z | z
  ·exact absurd (a.ext.gn b hb gb nb) z
  ·exact absurd z hb
theorem Aft.layG (a:Aft K ρ σ H G ρ' H' G') {p:Addr} {o:HO} (h:H' p=none):Aft K ρ σ H G ρ' (aV H' p o) (aV G' p o) :=
 a.trans ⟨a.rel.layG h,Ext.layG a.rel.sub h,iO.refl _⟩
theorem Aft.layH (a:Aft K ρ σ H G ρ' H' G') {p:Addr} {o:HO} (h:H' p=none):Aft K ρ σ H G ρ' (aV H' p o) G' :=
 a.trans ⟨a.rel.layH h,Ext.layH h,iO.refl _⟩
theorem Aft.own_new (a:Aft K ρ σ H G ρ' H' G') {p:Addr} {ds:List D} {vs:List V} (h:H' p=none) (r:aB K G' ds vs) :
  Aft K ρ σ H G ρ' (aV H' p (.lst vs)) G'∧dO K (aV H' p (.lst vs)) G' (aL ρ' σ) (dU H) (.ow (.lst ds)) (.ref p) :=
 ⟨a.layH h,p,rfl,aM.free a.rel.sub h,⟨vs,bC,r⟩,a.rel.notOwn h,a.fresh h⟩
theorem Aft.tup_new (a:Aft K ρ σ H G ρ' H' G') {p:Addr} {ds:List D} {vs:List V} (h:H' p=none) (r:aB K G' ds vs) :
  Aft K ρ σ H G ρ' (aV H' p (.tup vs)) (aV G' p (.tup vs))∧dO K (aV H' p (.tup vs)) (aV G' p (.tup vs)) (aL ρ' σ) (dU H) (.sh (.tup ds)) (.ref p):=by
 refine ⟨a.layG h, ?_⟩;show aD K _ (.tup ds) _;simp only [aD];exact ⟨p,vs,rfl,d6.of bC,aB.mono (aM.laid (aM.free a.rel.sub h)) ds r⟩
end
def lK:List Hd→List V→Addr→Prop
 | .val (.ow _) :: hs,x :: xs,a=>x=.ref a∨lK hs xs a
 | _ :: hs,_ :: xs,a=>lK hs xs a
 | _,_,_=>False
def cV (K:PySem.W.Frag) (H G:Hp) (own new:Addr→Prop) (σ:St):List Hd→List V→Prop
 | [],xs=>xs=[]
 | h :: hs,xs=>∃ x r,xs=x :: r∧jF K H G own new σ h x∧cV K H G own new σ hs r∧∀ d a,h=.val (.ow d)→x=.ref a→¬ lK hs r a
section
variable (K:PySem.W.Frag) (P:aK) (C:Calls)
noncomputable def tE (c:E):TE:=fun σ H Q=>∃ (ρ:Env) (G:Hp) (v:RV) (ρ':Env),Rel K ρ σ H G∧ev P C false c ρ=some (.ok v,ρ') ∧
 ∀ x H' G',Aft K ρ σ H G ρ' H' G'→dO K H' G' (aL ρ' σ) (dU H) v x→Q x H'
noncomputable def tT (c:E):TT:=fun σ H Q=>∃ (ρ:Env) (G:Hp) (b:Bool) (ρ':Env),Rel K ρ σ H G∧ev P C true c ρ=some (.ok (.sh (.bl b)),ρ') ∧
 ∀ H' G',Aft K ρ σ H G ρ' H' G'→Q b H'
noncomputable def tH (c:E):TE:=fun σ H Q=>∃ (ρ:Env) (G:Hp) (h:Hd) (ρ':Env),Rel K ρ σ H G∧hd c (ev P C false c ρ) ρ=some (.ok h,ρ') ∧
 ∀ x H' G',Aft K ρ σ H G ρ' H' G'→jF K H' G' (aL ρ' σ) (dU H) σ h x→Q x H'
noncomputable def AH (cs:List E):TA:=fun σ H Q=>∃ (ρ:Env) (G:Hp) (ds:List D) (ρ':Env),Rel K ρ σ H G∧jJ P C cs ρ=some (.ok ds,ρ') ∧
 ∀ xs H' G',Aft K ρ σ H G ρ' H' G'→aB K G' ds xs→Q xs H'
noncomputable def mX (cs:List E):TA:=fun σ H Q=>∃ (ρ:Env) (G:Hp) (hs:List Hd) (ρ':Env),Rel K ρ σ H G∧cD P C cs ρ=some (.ok hs,ρ') ∧
 ∀ xs H' G',Aft K ρ σ H G ρ' H' G'→cV K H' G' (aL ρ' σ) (dU H) σ hs xs→Q xs H'
end
theorem TE.imp_pe {X:Cx} {e:Expr} {t u:TE} (h:PE X e t) (w:∀ σ H Q,u σ H Q→t σ H Q):PE X e u:=fun pins s σ H Q I q=>h pins s σ H Q I (w σ H Q q)
theorem TT.imp_pt {X:Cx} {e:Expr} {t u:TT} (h:PT X e t) (w:∀ σ H Q,u σ H Q→t σ H Q):PT X e u:=fun pins s σ H Q I q=>h pins s σ H Q I (w σ H Q q)
theorem TA.imp_pa {X:Cx} {e:List Expr} {t u:TA} (h:PA X e t) (w:∀ σ H Q,u σ H Q→t σ H Q):PA X e u:=fun pos pins s σ H Q I q=>h pos pins s σ H Q I (w σ H Q q)
theorem aJ {α β:Type} {r:aE α} {f:α→Env→aE β} {b:β} {ρ:Env} (h:r.bind f=some (.ok b,ρ)):∃ a ρ1,r=some (.ok a,ρ1)∧f a ρ1=some (.ok b,ρ):=by
 unfold aE.bind at h;split at h
 ·cases h
 ·cases h
 ·exact ⟨_,_,rfl,h⟩
theorem eR {o:Option RV} {ρ ρ':Env} {v:RV} (h:done o ρ=some (.ok v,ρ')):o=some v∧ρ'=ρ:=by
 unfold done at h
 cases o with
 | none=>cases h
 | some u=>simp only [Option.map_some,Option.some.injEq,Prod.mk.injEq,Out.ok.injEq] at h; exact ⟨by rw [h.1],h.2.symm⟩
theorem aQ (r:aE RV):bJ false r=r:=rfl
theorem GD {r:aE RV} {v:RV} {ρ':Env} (h:bJ true r=some (.ok v,ρ')):∃ u b,r=some (.ok u,ρ')∧iN u.d=some b∧v=.sh (.bl b):=by
 obtain ⟨u,ρ1,h1,h2⟩:=aJ h
 cases e:iN u.d with
 | none=>rw [e] at h2; cases h2
 | some b =>
  rw [e] at h2;simp only [Option.map_some,Option.some.injEq,Prod.mk.injEq,Out.ok.injEq] at h2;obtain ⟨h3,h4⟩:=h2;subst h4;exact ⟨u,b,h1,e,h3.symm⟩
section
variable {K:PySem.W.Frag} {P:aK} {C:Calls} {σ:St} {H:Hp}
theorem tV {X:Cx} {e:Expr} {c:E} (h:PE X e (tE K P C c)) (n:∀ i,c≠.var i):PE X e (tH K P C c):=by
 refine TE.imp_pe h fun σ H Q q=>?_
 obtain ⟨ρ,G,hd',ρ',r,e1,k⟩:=q
 have:hd c (ev P C false c ρ) ρ=(ev P C false c ρ).bind fun v ρ'=>some (.ok (.val v),ρ'):=by
  cases c <;> first | rfl | exact absurd rfl (n _)
 rw [this] at e1;obtain ⟨v,ρ1,e2,e3⟩:=aJ e1;cases e3;exact ⟨ρ,G,v,_,r,e2,fun x H' G' a hv=>k x H' G' a hv⟩
theorem U6 {X:Cx} {e:Expr} {i:Nat} (h:PE X e (r6 i)):PE X e (tE K P C (.var i)):=by
 refine TE.imp_pe h fun σ H Q q=>?_
 obtain ⟨ρ,G,v,ρ',r,e1,k⟩:=q;simp only [ev] at e1;unfold DI at e1;split at e1
 ·rename_i d hd;cases e1;obtain ⟨x,h1,h2⟩:=r.sh i d hd;exact ⟨x,h1,k x H G (Aft.refl r) h2⟩
 ·rename_i d hd;cases e1;obtain ⟨a,h1,g,o⟩:=r.ow i d _ _ hd;refine ⟨.ref a,h1, ?_⟩;obtain ⟨ob,hv,hr⟩:=o.put;have li:i<ρ.length:=(List.getElem?_eq_some_iff.mp hd).1
  have oth:∀ (j:Nat) (sl:Sl),(ρ.set i (.sh d))[j]?=some sl→(j=i∧sl=.sh d)∨(j≠i∧ρ[j]?=some sl):=fun j sl hj=>by
   by_cases hij:j=i
   ·subst hij;rw [List.getElem?_set_self li] at hj;exact .inl ⟨rfl,(Option.some.inj hj).symm⟩
   ·rw [List.getElem?_set_ne (fun z=>hij z.symm)] at hj;exact .inr ⟨hij,hj⟩
  have own':∀ b,aL (ρ.set i (.sh d)) σ b→aL ρ σ b:=fun b ⟨j,d',p,l,h3,h4⟩=>by
   rcases oth j _ h3 with ⟨_,z⟩ | ⟨_,z⟩
   ·cases z
   ·exact ⟨j,d',p,l,z,h4⟩
  refine k (.ref a) H (aV G a ob) ⟨⟨?_,fun b u z=>?_,fun j d' hj=>?_,fun j d' p l hj=>?_,fun j k' d1 p1 l1 d2 p2 l2 b h3 h4 h5 h6=>?_⟩,⟨aM.put g,fun _ _ z _=>z,fun _ z=>z,fun b h3 h4 h5=>?_⟩,iO.set (by rw [hd]; rfl)⟩ ?_
  ·rw [List.length_set]; exact r.len
  ·by_cases hb:b=a
   ·subst hb; rw [bC] at z; rw [hv]; exact z
   ·rw [aN hb] at z; exact r.sub b u z
  ·rcases oth j _ hj with ⟨rfl,z⟩ | ⟨_,z⟩
   ·cases z;exact ⟨_,h1,hr _ (aM.put g) bC⟩
   ·obtain ⟨x,h3,h4⟩:=r.sh j d' z;exact ⟨x,h3,aD.mono (aM.put g) d' h4⟩
  ·rcases oth j _ hj with ⟨_,z⟩ | ⟨ne,z⟩
   ·cases z
   ·obtain ⟨b,h3,h4,h5⟩:=r.ow j d' p l z;have hb:b≠a:=fun e=>by subst e; exact ne (r.inj _ _ _ _ _ _ _ _ _ z hd h3 h1)
    exact ⟨b,h3,by rw [aN hb]; exact h4,h5.mono (aM.put g) fun _ z=>z⟩
  ·rcases oth j _ h3 with ⟨_,z⟩ | ⟨_,z⟩
   ·cases z
   ·rcases oth k' _ h4 with ⟨_,z'⟩ | ⟨_,z'⟩
    ·cases z'
    ·exact r.inj _ _ _ _ _ _ _ _ _ z z' h5 h6
  ·by_cases hb:b=a
   ·subst hb; exact absurd ⟨i,_,_,_,hd,h1⟩ h5
   ·rw [aN hb]; exact h4
  ·exact hr _ (aM.put g) bC
 ·cases e1
theorem S7 {X:Cx} {e:Expr} {i:Nat} (h:PE X e (r6 i)):PE X e (tH K P C (.var i)):=by
 refine TE.imp_pe h fun σ H Q q=>?_
 obtain ⟨ρ,G,hd',ρ',r,e1,k⟩:=q;simp only [hd] at e1;split at e1
 ·rename_i hb;cases e1;obtain ⟨x,hx⟩:=r.bound hb;exact ⟨x,hx,k x H G (Aft.refl r) hx⟩
 ·cases e1
theorem vG {G:Hp} {d:D} {x:V} {b:Bool} (s:aM G H) (h:cA K H G d x) (e:iN d=some b):HB K x H b:=by
 cases d <;> simp only [iN,Option.some.injEq,reduceCtorEq] at e
 ·have:=h.non; subst this; exact e.symm
 ·have:=h.bl; subst this; exact e.symm
 ·have:=h.int; subst this; exact e.symm
 ·split at e
  ·rename_i hz;obtain ⟨rfl,_⟩:=h.str;exact ⟨Nat.le_trans hz (by decide),(Option.some.inj e).symm⟩
  ·cases e
 ·obtain ⟨a,vs,rfl,h1,h2⟩:=h.tup s;refine .inr (.inl ⟨vs,h1, ?_⟩);rw [← e]
  have:=h2.len
  cases vs <;> cases ‹List D› <;> simp_all
 ·obtain ⟨a,vs,rfl,h1,h2⟩:=h.lst s;refine .inl ⟨vs,h1, ?_⟩;rw [← e]
  have:=h2.len
  cases vs <;> cases ‹List D› <;> simp_all
theorem aCL {X:Cx} {e:Expr} {c:E} (hK:X.K=K) (h:PE X e (tE K P C c)) (hw:∀ ρ,ev P C true c ρ=bJ true (ev P C false c ρ))
  (he:∀ whole,isTrue e X.env whole=(do let v ← whole; standAt e.pos; holding [v] (truthy v))):PT X e (tT K P C c):=by
 refine TT.imp_pt (BW h he) fun σ H Q q=>?_
 obtain ⟨ρ,G,b,ρ',r,e1,k⟩:=q;rw [hw] at e1;obtain ⟨u,b',e2,e3,e4⟩:=GD e1;cases e4;refine ⟨ρ,G,u,ρ',r,e2,fun x H' G' a hv=>⟨b, ?_,k H' G' a⟩⟩;rw [hK];exact vG a.rel.sub hv.readR e3
end
mutual
theorem FJ:∀ (n:Nat) (d e:D),bD n d=true→bD n e=true→PyData.eqv (eN d) (eN e)=fH d e
 | n,.non,e,_,h=>by cases e <;> first | (cases n <;> simp [bD] at h; done) | simp [eN,PyData.eqv,fH]
 | n,.bl b,e,_,h=>by cases e <;> first | (cases n <;> simp [bD] at h; done) | simp [eN,PyData.eqv,fH]
 | n,.int b,e,_,h=>by cases e <;> first | (cases n <;> simp [bD] at h; done) | simp [eN,PyData.eqv,fH]
 | n,.str b,e,_,h=>by cases e <;> first | (cases n <;> simp [bD] at h; done) | simp [eN,PyData.eqv,fH]
 | n+1,.tup ds,e,h,h'=>by
  cases e with
  | tup es =>
   simp only [eN,PyData.eqv,fH];exact vE n ds es (by simpa [bD] using h) (by simpa [bD] using h')
  | ins=>simp [bD] at h'
  | dct=>simp [bD] at h'
  | exn=>simp [bD] at h'
  | _=>simp [eN,PyData.eqv,fH]
 | n+1,.lst ds,e,h,h'=>by
  cases e with
  | lst es =>
   simp only [eN,PyData.eqv,fH];exact vE n ds es (by simpa [bD] using h) (by simpa [bD] using h')
  | ins=>simp [bD] at h'
  | dct=>simp [bD] at h'
  | exn=>simp [bD] at h'
  | _=>simp [eN,PyData.eqv,fH]
 | 0,.tup ds,e,h,_=>by simp [bD] at h
 | 0,.lst ds,e,h,_=>by simp [bD] at h
 | n,.ins _ _ _,_,h,_=>by cases n <;> simp [bD] at h
 | n,.dct _,_,h,_=>by cases n <;> simp [bD] at h
 | n,.exn _,_,h,_=>by cases n <;> simp [bD] at h
theorem vE:∀ (n:Nat) (ds es:List D),(∀ d∈ds,bD n d=true)→(∀ d∈es,bD n d=true)→PyData.eqvAll (iJ ds) (iJ es)=mL ds es
 | n,[],[],_,_=>by simp [iJ,PyData.eqvAll,mL]
 | n,[],_ :: _,_,_=>by simp [iJ,PyData.eqvAll,mL]
 | n,_ :: _,[],_,_=>by simp [iJ,PyData.eqvAll,mL]
 | n,d :: ds,e :: es,h,h'=>by
  simp only [iJ,PyData.eqvAll,mL];rw [FJ n d e (h d (by simp)) (h' e (by simp)),vE n ds es (fun x hx=>h x (by simp [hx])) (fun x hx=>h' x (by simp [hx]))]
end
section
variable {X:Cx} {K:PySem.W.Frag} {pins:List (Addr × Obj)} {σ:St} {H G:Hp} {s:Shared}
mutual
theorem zM (I:Inv X pins σ H s) (hK:X.K=K) (sub:aM G H):∀ (n:Nat) (d:D) (x:V) (u:Value),bD n d=true→aD K G d x→a7 x u→∃ as,Reads s.heap u (eN d) as∧PyData.canLay0 (eN d)=true∧PyData.depth (eN d)≤n
 | n,.non,x,u,_,h,r=>by
  simp only [aD] at h; subst h; cases r;exact ⟨_,Reads.none,by simp [eN,PyData.canLay0],by simp [eN,PyData.depth]⟩
 | n,.bl b,x,u,_,h,r=>by
  simp only [aD] at h; subst h; cases r;exact ⟨_,Reads.bool b,by simp [eN,PyData.canLay0],by simp [eN,PyData.depth]⟩
 | n,.int b,x,u,_,h,r=>by
  simp only [aD] at h; subst h; obtain ⟨t,rfl⟩:=r;exact ⟨_,Reads.int b t,by simp [eN,PyData.canLay0],by simp [eN,PyData.depth]⟩
 | n,.str b,x,u,_,h,r=>by
  simp only [aD] at h; obtain ⟨rfl,hs⟩:=h; obtain ⟨t,rfl⟩:=r;exact ⟨_,Reads.str b t,by simpa [eN,PyData.canLay0] using hs,by simp [eN,PyData.depth]⟩
 | n+1,.tup ds,x,u,ok,h,r=>by
  simp only [aD] at h;obtain ⟨a,vs,rfl,h1,h2⟩:=h;cases r;obtain ⟨its,rv,⟨o,ho,hc,m,hd⟩,hz⟩:=I.tuple (show d6 X.K H a vs from hK ▸ eM sub h1);obtain ⟨as,r1,r2,r3⟩:=lU I hK sub n ds vs its (by simpa [bD] using ok) h2 rv;exact ⟨_,Reads.tuple ho hc hd (by simpa using r1),by simpa [eN,PyData.canLay0] using r2,by simp [eN,PyData.depth]; omega⟩
 | n+1,.lst ds,x,u,ok,h,r=>by
  simp only [aD] at h;obtain ⟨a,vs,rfl,h1,h2⟩:=h;cases r;obtain ⟨its,rv,⟨o,m,ho,hc,hn,hd⟩,hz⟩:=I.list (show cB X.K H a vs from hK ▸ sub.seq h1);obtain ⟨as,r1,r2,r3⟩:=lU I hK sub n ds vs its (by simpa [bD] using ok) h2 rv;exact ⟨_,Reads.list ho hc hd (by simpa using r1),by simpa [eN,PyData.canLay0] using r2,by simp [eN,PyData.depth]; omega⟩
 | 0,.tup ds,_,_,h,_,_=>by simp [bD] at h
 | 0,.lst ds,_,_,h,_,_=>by simp [bD] at h
 | n,.ins _ _ _,_,_,h,_,_=>by cases n <;> simp [bD] at h
 | n,.dct _,_,_,h,_,_=>by cases n <;> simp [bD] at h
 | n,.exn _,_,_,h,_,_=>by cases n <;> simp [bD] at h
theorem lU (I:Inv X pins σ H s) (hK:X.K=K) (sub:aM G H):∀ (n:Nat) (ds:List D) (xs:List V) (us:List Value),(∀ d∈ds,bD n d=true)→aB K G ds xs→aU xs us→∃ as,ReadsAll s.heap us (iJ ds) as∧PyData.canLayAll0 (iJ ds)=true∧PyData.depthAll (iJ ds)≤n
 | n,[],xs,us,_,h,r=>by
  simp only [aB] at h; subst h; cases r;exact ⟨_,ReadsAll.nil,by simp [iJ,PyData.canLayAll0],by simp [iJ,PyData.depthAll]⟩
 | n,d :: ds,xs,us,ok,h,r=>by
  simp only [aB] at h;obtain ⟨v,r',rfl,h1,h2⟩:=h
  cases r with
  | cons ra rb =>
   obtain ⟨as,a1,a2,a3⟩:=zM I hK sub n d v _ (ok d (by simp)) h1 ra;obtain ⟨bs,b1,b2,b3⟩:=lU I hK sub n ds r' _ (fun x hx=>ok x (by simp [hx])) h2 rb;exact ⟨_,ReadsAll.cons a1 b1,by simp [iJ,PyData.canLayAll0,a2,b2],by simp [iJ,PyData.depthAll]; omega⟩
end
theorem xK (I:Inv X pins σ H s) (hK:X.K=K) (sub:aM G H) (n:Nat) (d:D) (x:V) (u:Value) (ok:bD n d=true) (h:cA K H G d x) (r:a7 x u):∃ as,Reads s.heap u (eN d) as∧PyData.canLay0 (eN d)=true∧PyData.depth (eN d)≤n:=by
 rcases h with h | ⟨a,rfl,h⟩
 ·exact zM I hK sub n d x u ok h r
 ·cases r
  cases d <;> first | exact h.elim | skip
  rotate_left
  ·cases n <;> simp [bD] at ok
  rename_i ds;obtain ⟨vs,h1,h2⟩:=h
  cases n with
  | zero=>simp [bD] at ok
  | succ n =>
   obtain ⟨its,rv,⟨o,m,ho,hc,hn,hd⟩,hz⟩:=I.list (cB.of h1);obtain ⟨as,r1,r2,r3⟩:=lU I hK sub n ds vs its (by simpa [bD] using ok) h2 rv;exact ⟨_,Reads.list ho hc hd (by simpa using r1),by simpa [eN,PyData.canLay0] using r2,by simp [eN,PyData.depth]; omega⟩
def yU (K:PySem.W.Frag) (H G:Hp) (v:RV) (x:V) (H':Hp):Prop :=
 (∃ d,v=.sh d∧aD K G d x∧H'=H) ∨
 (∃ ds vs p,v=.ow (.lst ds)∧H p=none∧aB K G ds vs∧x=.ref p∧H'=aV H p (.lst vs)) ∨
 (∃ ds vs p,v=.sh (.tup ds)∧H p=none∧aB K G ds vs∧x=.ref p∧H'=aV H p (.tup vs))
theorem Aft.made {ρ ρ':Env} {H0 G0 H2:Hp} (a:Aft K ρ σ H0 G0 ρ' H G) {v:RV} {x:V} (m:yU K H G v x H2) :
  ∃ G2,Aft K ρ σ H0 G0 ρ' H2 G2∧dO K H2 G2 (aL ρ' σ) (dU H0) v x:=by
 rcases m with ⟨d,rfl,h,rfl⟩ | ⟨ds,vs,p,rfl,h,r,rfl,rfl⟩ | ⟨ds,vs,p,rfl,h,r,rfl,rfl⟩
 ·exact ⟨G,a,h⟩
 ·exact ⟨_,a.own_new h r⟩
 ·exact ⟨_,a.tup_new h r⟩
noncomputable def aEo (K:PySem.W.Frag) (op:Operator):R2:=fun x y H Q=>∃ G d e v,aM G H∧cA K H G d x∧cA K H G e y∧(op=.Mult→∀ ds,d=.lst ds→∃ a vs,x=.ref a∧H a=some (.lst vs)∧aB K G ds vs)∧jX op d e=some v∧∀ z H',yU K H G v z H'→Q z H'
theorem cG {i:Int}:yU K H G (.sh (.int i)) (.int i) H:=.inl ⟨_,rfl,by simp [aD],rfl⟩
theorem VM {i:Bool}:yU K H G (.sh (.bl i)) (.bl i) H:=.inl ⟨_,rfl,by simp [aD],rfl⟩
theorem hV {n:Nat} (h:aZ n=true):n≤sizeLine:=Nat.le_trans (@of_decide_eq_true _ (cl _) h) (by decide)
theorem FY (I:Inv X pins σ H s) {a:Addr} {vs:List V} (h:cB X.K H a vs):∃ (its:List Value),aU vs its∧s.heap.IsList a its.toArray∧vs.length≤sizeLine:=by
 obtain ⟨its,r,p,z⟩:=I.list h;exact ⟨its,r,p.isList,z⟩
theorem eT.imp {f:Value→Value→Sem Value} {r r':R2} (h:eT X f r) (w:∀ x y H Q,r' x y H Q→r x y H Q):eT X f r':=fun pins s σ H x y v u Q I rx ry q=>h pins s σ H x y v u Q I rx ry (w x y H Q q)
theorem ON:eT X (binaryOp .FloorDiv) (rI (fun _ j=>0<j∧j<100000000000000000000000000000000000000000000000000000000000000000000000000000000) fun i j=>.int (i / j)):=MC fun i j _ _ _ _ _ hc q=>by
 have h1:(0:Int)<j:=hc.1;have h2:j<100000000000000000000000000000000000000000000000000000000000000000000000000000000:=hc.2;have h3:j.natAbs<2 ^ 300:=Nat.lt_of_lt_of_le (by omega:j.natAbs<100000000000000000000000000000000000000000000000000000000000000000000000000000000) (by decide);have h4:j.natAbs.log2<300:=(Nat.log2_lt (by omega)).mpr h3;exact PyProof.Rows.floordiv_int (by omega) (by rw [Int.fdiv_eq_ediv_of_nonneg i (by omega)]; exact q) (.inl (PyProof.noPylong_of_log2 (by omega)))
theorem aF {α:Type _} {v:α} (e:none=some v):False:=nomatch e
theorem aBe (hK:X.K=K) (op:Operator):eT X (binaryOp op) (aEo K op):=by
 intro pins s σ H x y v u Q I rx ry h;obtain ⟨G,d,e,w,sub,hx,hy,hm,eb,k⟩:=h;subst hK
 cases op with
 | Add =>
  cases d with
  | int =>
   cases e with
   | int =>
    cases hx.int; cases hy.int;change some _=_ at eb;cases eb;exact aAy pins s σ H _ _ _ _ Q I rx ry ⟨_,_,rfl,rfl,k _ _ cG⟩
   | _=>exact (aF eb).elim
  | _=>exact (aF eb).elim
 | Sub =>
  cases d with
  | int =>
   cases e with
   | int =>
    cases hx.int; cases hy.int;change some _=_ at eb;cases eb;exact aAj pins s σ H _ _ _ _ Q I rx ry ⟨_,_,rfl,rfl,k _ _ cG⟩
   | _=>exact (aF eb).elim
  | _=>exact (aF eb).elim
 | Mult =>
  cases d with
  | int =>
   cases e with
   | int =>
    cases hx.int; cases hy.int;change @ite _ _ (cl _) _ none=_ at eb;split at eb
    ·cases eb;exact aBE pins s σ H _ _ _ _ Q I rx ry ⟨_,_,rfl,rfl,‹_›,k _ _ cG⟩
    ·cases eb
   | _=>exact (aF eb).elim
  | _=>exact (aF eb).elim
 | FloorDiv =>
  cases d with
  | int =>
   cases e with
   | int =>
    cases hx.int; cases hy.int;change @ite _ _ (cl _) _ none=_ at eb;split at eb
    ·cases eb;exact ON pins s σ H _ _ _ _ Q I rx ry ⟨_,_,rfl,rfl,‹_›,k _ _ cG⟩
    ·cases eb
   | _=>exact (aF eb).elim
  | _=>exact (aF eb).elim
 | Mod =>
  cases d with
  | int =>
   cases e with
   | int =>
    cases hx.int; cases hy.int;change @ite _ _ (cl _) _ none=_ at eb;split at eb
    ·cases eb;exact aBg pins s σ H _ _ _ _ Q I rx ry ⟨_,_,rfl,rfl,‹_›,k _ _ cG⟩
    ·cases eb
   | _=>exact (aF eb).elim
  | _=>exact (aF eb).elim
 | Pow=>exact (aF eb).elim
 | LShift =>
  cases d with
  | int =>
   cases e with
   | int =>
    cases hx.int; cases hy.int;change @ite _ _ (cl _) _ none=_ at eb;split at eb
    ·rename_i hc;cases eb;exact aAs pins s σ H _ _ _ _ Q I rx ry ⟨_,_,rfl,rfl,⟨hc.1,by omega,hc.2.2⟩,k _ _ cG⟩
    ·cases eb
   | _=>exact (aF eb).elim
  | _=>exact (aF eb).elim
 | RShift =>
  cases d with
  | int =>
   cases e with
   | int =>
    cases hx.int; cases hy.int;change @ite _ _ (cl _) _ none=_ at eb;split at eb
    ·cases eb;exact aAn pins s σ H _ _ _ _ Q I rx ry ⟨_,_,rfl,rfl,‹_›,k _ _ cG⟩
    ·cases eb
   | _=>exact (aF eb).elim
  | _=>exact (aF eb).elim
 | BitAnd =>
  cases d with
  | int =>
   cases e with
   | int =>
    cases hx.int; cases hy.int;change some _=_ at eb;cases eb;exact XI pins s σ H _ _ _ _ Q I rx ry ⟨_,_,rfl,rfl,k _ _ cG⟩
   | _=>exact (aF eb).elim
  | _=>exact (aF eb).elim
 | _=>exact (aF eb).elim
noncomputable def C7 (K:PySem.W.Frag) (op:CmpOp):R2:=fun x y H Q=>∃ G d e b,aM G H∧cA K H G d x∧cA K H G e y∧cN op d e=some b∧Q (.bl b) H
theorem L7 (I:Inv X pins σ H s) (hK:X.K=K) (sub:aM G H) {A:Around} (hu:A.units+20<cLine) {d e:D} {x y:V} {v u:Value} (od:bD 20 d=true) (oe:bD 20 e=true) (hx:cA K H G d x) (hy:cA K H G e y) (rx:a7 x v) (ry:a7 y u) :
  SeqAt.RcAt A s v u (fH d e)∧SeqAt.RcNeAt A s v u (!fH d e):=by
 obtain ⟨as,a1,a2,a3⟩:=xK I hK sub 20 d x v od hx rx;obtain ⟨bs,b1,b2,b3⟩:=xK I hK sub 20 e y u oe hy ry;rw [← FJ 20 d e od oe];exact ⟨SeqAt.rcAt_reads a1 b1 a2 b2 (by omega),SeqAt.rcNeAt_reads a1 b1 a2 b2 (by omega)⟩
theorem NM {kvs:List (Int × Int)} {i:Int}:jW (sE kvs) (Sum.inl i)=(BF kvs i).map V.int:=by
 unfold jW BF sE
 induction kvs with
 | nil=>rfl
 | cons p kvs ih =>
  simp only [List.map_cons,List.find?_cons];by_cases h:p.1=i
  ·rw [decide_eq_true (show (Sum.inl p.1:bP)=Sum.inl i by rw [h]),decide_eq_true h];rfl
  ·rw [decide_eq_false (fun z=>h (Sum.inl.inj z)),decide_eq_false h];exact ih
theorem cA.dct {kvs:List (Int × Int)} {x:V} (h:cA K H G (.dct kvs) x) (sub:aM G H):∃ a,x=.ref a∧H a=some (.dK (sE kvs)):=by
 rcases h with h | ⟨a,rfl,h⟩
 ·simp only [aD] at h;obtain ⟨a,rfl,h⟩:=h;exact ⟨a,rfl,sub _ _ h⟩
 ·exact ⟨a,rfl,h⟩
theorem nZ (hK:X.K=K) (hu:X.A.units+64<cLine) (op:CmpOp):eT X (compareOp op) (C7 K op):=by
 intro pins s σ H x y v u Q I rx ry h;obtain ⟨G,d,e,b,sub,hx,hy,eb,k⟩:=h
 cases op with
 | Eq =>
  change (if bD 20 d && bD 20 e then some _ else none)=_ at eb;split at eb
  ·rename_i hc;cases eb;rw [Bool.and_eq_true] at hc;exact (L7 I hK sub (by omega) hc.1 hc.2 hx hy rx ry).1 _ _ _ _ ⟨.bl _,H,I,rfl,k⟩
  ·cases eb
 | NotEq =>
  change (if bD 20 d && bD 20 e then some _ else none)=_ at eb;split at eb
  ·rename_i hc;cases eb;rw [Bool.and_eq_true] at hc;exact (L7 I hK sub (by omega) hc.1 hc.2 hx hy rx ry).2 _ _ _ _ ⟨.bl _,H,I,rfl,k⟩
  ·cases eb
 | Lt =>
  cases d with
  | int =>
   cases e with
   | int =>
    cases hx.int; cases hy.int;change some _=_ at eb;cases eb;exact aC7 pins s σ H _ _ _ _ Q I rx ry ⟨_,_,rfl,rfl,k⟩
   | _=>exact (aF eb).elim
  | _=>exact (aF eb).elim
 | LtE =>
  cases d with
  | int =>
   cases e with
   | int =>
    cases hx.int; cases hy.int;change some _=_ at eb;cases eb;exact aCb pins s σ H _ _ _ _ Q I rx ry ⟨_,_,rfl,rfl,k⟩
   | _=>exact (aF eb).elim
  | _=>exact (aF eb).elim
 | Gt =>
  cases d with
  | int =>
   cases e with
   | int =>
    cases hx.int; cases hy.int;change some _=_ at eb;cases eb;exact aCJ pins s σ H _ _ _ _ Q I rx ry ⟨_,_,rfl,rfl,k⟩
   | _=>exact (aF eb).elim
  | _=>exact (aF eb).elim
 | GtE =>
  cases d with
  | int =>
   cases e with
   | int =>
    cases hx.int; cases hy.int;change some _=_ at eb;cases eb;exact aCu pins s σ H _ _ _ _ Q I rx ry ⟨_,_,rfl,rfl,k⟩
   | _=>exact (aF eb).elim
  | _=>exact (aF eb).elim
 | Is =>
  cases e with
  | non =>
   cases hy.non;refine YK pins s σ H _ _ _ _ Q I rx ry ⟨rfl, ?_⟩;by_cases hd:d=.non
   ·subst hd;cases hx.non;change some _=_ at eb;cases eb;simpa using k
   ·have:¬ x=.non:=fun z=>by
     subst z;rcases hx with hx | ⟨_,z,_⟩
     ·cases d <;> first | exact hd rfl | simp [aD] at hx
     ·cases z
    cases d with
    | non=>exact absurd rfl hd
    | _ =>
     change some _=_ at eb;cases eb;simpa [this] using k
  | bl =>
   cases d with
   | bl =>
    cases hx.bl; cases hy.bl;change some _=_ at eb;cases eb;cases rx; cases ry;exact is_bool ⟨.bl _,H,I,rfl,k⟩
   | _=>exact (aF eb).elim
  | _=>cases d <;> exact (aF eb).elim
 | IsNot =>
  cases e with
  | non =>
   cases hy.non;refine UP pins s σ H _ _ _ _ Q I rx ry ⟨rfl, ?_⟩;by_cases hd:d=.non
   ·subst hd;cases hx.non;change some _=_ at eb;cases eb;simpa using k
   ·have:¬ x=.non:=fun z=>by
     subst z;rcases hx with hx | ⟨_,z,_⟩
     ·cases d <;> first | exact hd rfl | simp [aD] at hx
     ·cases z
    cases d with
    | non=>exact absurd rfl hd
    | _ =>
     change some _=_ at eb;cases eb;simpa [this] using k
  | _=>cases d <;> exact (aF eb).elim
 | In=>exact (aF eb).elim
 | NotIn=>exact (aF eb).elim
end
section
variable {X:Cx} {K:PySem.W.Frag} {pins:List (Addr × Obj)} {σ:St} {H G:Hp} {s:Shared}
theorem RO {ds:List D} {vs:List V} {i:Int} {d:D} (h:aB K G ds vs) (e:cX ds i=some d):∃ v,cX vs i=some v∧aD K G d v:=by
 unfold cX at e ⊢;rw [h.len]
 cases q:lI ds.length i with
 | none=>rw [q] at e; cases e
 | some j =>
  rw [q] at e;exact h.get e
noncomputable def aEk (K:PySem.W.Frag):R2:=fun x y H Q=>∃ G d e r,aM G H∧cA K H G d x∧cA K H G e y∧KQ d e=some r∧∀ z,aD K G r z→Q z H
theorem mQ.imp {r r':R2} (h:mQ X r) (w:∀ x y H Q,r' x y H Q→r x y H Q):mQ X r':=fun va sl pins s σ H x y v u Q I rx ry q hs=>h va sl pins s σ H x y v u Q I rx ry (w x y H Q q) hs
theorem MZ {x:Str} (h:PyData.strOk x=true) {i:Int} {c:Nat} (e:cX x.cps.toList i=some c):PyData.strOk ⟨#[c]⟩=true:=by
 unfold PyData.strOk at *
 have hm:c∈x.cps.toList:=by
  unfold cX at e
  cases q:lI x.cps.toList.length i with
  | none=>rw [q] at e; cases e
  | some j=>rw [q] at e; exact List.mem_of_getElem? e
 have:=Array.all_eq_true'.mp h c (by simpa using hm)
 simpa using this
noncomputable def aEP:R2:=fun x y H Q=>∃ a v,x=.ref a∧r8 H a y (some v)∧Q v H
theorem VL (hu:X.A.units+1<cLine):mQ X aEP:=by
 intro value slice pins s σ H x y v u Q I rx ry h hs;obtain ⟨a,z,rfl,g,q⟩:=h;cases rx;have hT:=EY I g;unfold subscriptTail;refine wpAny_bind ?_;rw [getitemInPython_of_ne hT.not_modules];refine wpAny_bind (wpAny_specialOf hT PySem.F.slot_dict_getitem.lookup ?_)
 have fin:wpAny (model X.prog X.w) X.A (subscripted slice false (.ref a) u) (fun r s₃=>wpAny (model X.prog X.w) X.A (letTemporaryGo value (.ref a) r >>= fun _=>pure r) (EP X pins σ Q) X.xe s₃) X.xe s:=by
  rw [hs];exact wpAny_operating (MJ hu I g ry fun w' s3 I3 rw'=>wpAny_bind (wpAny_letTemporaryGo (wpAny_pure ⟨z,H,I3,rw',q⟩)))
 first
  | exact wpAny_pure (wpAny_bind fin)
  | exact wpAny_bind (wpAny_pure (wpAny_bind fin))
  | exact wpAny_bind fin
theorem aCU (hK:X.K=K) (hu:X.A.units+1<cLine):mQ X (aEk K):=by
 refine mQ.imp (ZV.or (VL hu)) fun x y H Q h=>?_
 obtain ⟨G,d,e,r,sub,hx,hy,er,k⟩:=h;subst hK;unfold KQ at er;split at er
 ·cases hy.int;obtain ⟨a,vs,rfl,h1,h2⟩:=hx.tup sub;obtain ⟨v,h3,h4⟩:=RO h2 er;exact .inl (.inr (.inl ⟨a,vs,_,v,rfl,rfl,h1,h3,k v h4⟩))
 ·cases hy.int;obtain ⟨a,vs,rfl,h1,h2⟩:=hx.lst sub;obtain ⟨v,h3,h4⟩:=RO h2 er;exact .inl (.inl ⟨a,vs,_,v,rfl,rfl,h1,h3,k v h4⟩)
 ·rename_i kvs i;cases hy.int;obtain ⟨a,rfl,h1⟩:=hx.dct sub
  cases q:BF kvs i with
  | none=>rw [q] at er; cases er
  | some n =>
   rw [q] at er;cases er;refine .inr ⟨a,.int n,rfl, ?_,k _ (by simp [aD])⟩;have g:=r8.k (k:=Sum.inl i) h1;rw [NM,q] at g;exact g
 ·split at er
  ·rename_i hz;cases hy.int;obtain ⟨rfl,ok⟩:=hx.str
   cases q:cX ‹Str›.cps.toList ‹Int› with
   | none=>rw [q] at er; cases er
   | some c =>
    rw [q] at er;cases er;exact .inl (.inr (.inr ⟨_,_,c,rfl,rfl,Nat.le_trans hz (by decide),q,k _ (show aD X.K G (.str _) _ by unfold aD; exact ⟨rfl,MZ ok q⟩)⟩))
  ·cases er
 ·cases er
theorem MU {ds:List D} {vs:List V} {lo hi:Option Int} (h:aB K G ds vs):aB K G (yW ds lo hi) (tF vs lo hi):=by
 unfold yW tF;rw [h.len];exact (h.drop _).take _
def aE9 (K:PySem.W.Frag):V→Option Int→Option Int→Hp→VK→Prop:=fun x lo hi H Q=>∃ G d v,aM G H∧cA K H G d x∧R6 d lo hi=some v∧∀ z H',yU K H G v z H'→Q z H'
theorem aCo (hK:X.K=K):xE X (aE9 K):=by
 intro pins s σ H x v vl vu lo hi sl Q I rx hs pl pu h;refine xE.or TY aBa pins s σ H x v vl vu lo hi sl Q I rx hs pl pu ?_;obtain ⟨G,d,r,sub,hx,er,k⟩:=h;subst hK;unfold R6 at er;split at er
 ·cases er;obtain ⟨a,vs,rfl,h1,h2⟩:=hx.lst sub;exact .inl ⟨a,vs,rfl,h1,fun p hp=>k _ _ (.inr (.inl ⟨_,_,p,rfl,hp,MU h2,rfl,rfl⟩))⟩
 ·split at er
  ·cases er
  ·rename_i hw;cases er;obtain ⟨a,vs,rfl,h1,h2⟩:=hx.tup sub;exact .inr ⟨a,vs,rfl,h1,by rw [h2.len]; exact hw,fun p hp=>k _ _ (.inr (.inr ⟨_,_,p,rfl,hp,MU h2,rfl,rfl⟩))⟩
 ·cases er
def xG (K:PySem.W.Frag) (H G:Hp):List D→List V→Prop
 | [],xs=>xs=[]
 | d :: ds,xs=>∃ x r,xs=x :: r∧cA K H G d x∧xG K H G ds r
theorem gU {d:D} {xs:List V} (h:xG K H G [d] xs):∃ x,xs=[x]∧cA K H G d x:=by
 obtain ⟨x,r,rfl,h1,h2⟩:=h;cases (show r=[] from h2);exact ⟨x,rfl,h1⟩
theorem MS {d e:D} {xs:List V} (h:xG K H G [d,e] xs):∃ x y,xs=[x,y]∧cA K H G d x∧cA K H G e y:=by
 obtain ⟨x,r,rfl,h1,h2⟩:=h;obtain ⟨y,rfl,h3⟩:=gU h2;exact ⟨x,y,rfl,h1,h3⟩
def rBi (K:PySem.W.Frag) (f:BI):List V→Hp→VK→Prop:=fun xs H Q=>∃ G ds v,aM G H∧xG K H G ds xs∧qH f ds=some v∧∀ z H',yU K H G v z H'→Q z H'
noncomputable def biV:BI→Value
 | .len=>.builtin "len"
 | .abs=>.builtin "abs"
 | .int=>.type "int"
 | .list=>.type "list"
 | .tuple=>.type "tuple"
 | .min=>.builtin "min"
 | .max=>.builtin "max"
 | .all=>.builtin "all"
 | .repr=>.builtin "repr"
theorem EC:∀ {ds:List D} {vs:List V} {us:List Value} {bs:List Bool},aB K G ds vs→aU vs us→gZ ds=some bs→LSm.BoolsAre us bs
 | [],_,_,_,h,r,e=>by
  simp only [aB] at h; subst h; cases r; cases e; exact .nil
 | d :: ds,_,_,_,h,r,e=>by
  simp only [aB] at h;obtain ⟨v,r',rfl,h1,h2⟩:=h
  cases r with
  | cons ra rb =>
   cases d <;> simp only [gZ,reduceCtorEq] at e;rename_i b
   cases q:gZ ds with
   | none=>rw [q] at e; cases e
   | some bs' =>
    rw [q] at e;cases e;simp only [aD] at h1;subst h1;cases ra;exact .cons b (EC h2 rb q)
theorem NX (hc:X.A.handled=none):fP X (.builtin "all") (fun xs H Q=>∃ a vs ds bs G,xs=[.ref a]∧cB X.K H a vs∧aB X.K G ds vs∧gZ ds=some bs∧Q (.bl (bs.all id)) H):=by
 intro pins s σ H xs us Q I r h;obtain ⟨a,vs,ds,bs,G,rfl,h1,h2,h3,q⟩:=h;obtain ⟨u,rfl,rx⟩:=nO r;cases rx;obtain ⟨its,rv,hl,z⟩:=FY I h1;have hb:=EC h2 rv h3;have hlt:a<s.heap.objs.size:=by obtain ⟨_,e,_⟩:=hl; exact Heap.lt_size e
 refine call_all_walk (wpAny_pyIter_list hl ?_)
 refine ⟨s.heap.objs.size,[s.heap.objs.size,a],[s.heap.objs.size],its.toArray.size,_,_,fun i=>(bs[i]?).getD true,rfl,Walks.list (A:=X.A.in1) hc _ a (Nat.ne_of_lt hlt) its.toArray,
  ⟨⟨_,Heap.get?_push_size _ rfl,rfl,rfl⟩,hl.push _⟩,fun i v s' Q' E' hP hQ=>?_,fun h' tk hk=>?_⟩
 ·obtain ⟨b,e,rfl⟩:=hb.get i v (by simpa using hP);simp only [e,Option.getD_some] at hQ;exact wpAny_truthy_bool hQ
 ·have e:((List.range its.toArray.size).all fun i=>(bs[i]?).getD true)=bs.all id:=by
   rw [List.size_toArray,hb.length]; exact LSm.range_all bs
  rw [e];exact ⟨.bl _,H,I.kept (t':=tk) (LSm.kept_iter hk),rfl,q⟩
theorem FH:∀ {ds:List D} {vs:List V} {us:List Value} {is:List Int},aB K G ds vs→aU vs us→nN ds=some is→IntsAre us is
 | [],_,_,_,h,r,e=>by
  simp only [aB] at h; subst h; cases r; cases e; exact .nil
 | d :: ds,_,_,_,h,r,e=>by
  simp only [aB] at h;obtain ⟨v,r',rfl,h1,h2⟩:=h
  cases r with
  | cons ra rb =>
   cases d <;> simp only [nN,reduceCtorEq] at e;rename_i b
   cases q:nN ds with
   | none=>rw [q] at e; cases e
   | some bs' =>
    rw [q] at e;cases e;simp only [aD] at h1;subst h1;obtain ⟨t,rfl⟩:=ra;exact .cons _ _ (FH h2 rb q)
theorem aFa (i:Int):∀ (r:List Int),(r.foldl (fun m y=>if y > m then y else m) i)∈i :: r∧∀ a∈i :: r,a≤r.foldl (fun m y=>if y > m then y else m) i:=by
 intro r
 induction r generalizing i with
 | nil=>exact ⟨by simp,fun a ha=>by simp at ha; simp; omega⟩
 | cons y r ih =>
  simp only [List.foldl_cons];obtain ⟨h1,h2⟩:=ih (if y > i then y else i);refine ⟨?_,fun a ha=>?_⟩
  ·rcases List.mem_cons.mp h1 with h | h
   ·rw [h];split
    ·simp
    ·simp
   ·exact List.mem_cons_of_mem _ (List.mem_cons_of_mem _ h)
  ·have h3:=h2 (if y > i then y else i) (by simp);have h4:i≤(if y > i then y else i):=by split <;> omega
   have h5:y≤(if y > i then y else i):=by split <;> omega
   rcases List.mem_cons.mp ha with h | h
   ·rw [h]; exact Int.le_trans h4 h3
   ·rcases List.mem_cons.mp h with h | h
    ·rw [h]; exact Int.le_trans h5 h3
    ·exact h2 a (List.mem_cons_of_mem _ h)
theorem J2 (hc:X.calm=true):fP X (.builtin "max") (fun xs H Q=>∃ a vs ds i r G,xs=[.ref a]∧cB X.K H a vs∧aB X.K G ds vs∧nN ds=some (i :: r)∧Q (.int (r.foldl (fun m y=>if y > m then y else m) i)) H):=by
 intro pins s σ H xs us Q I r h;obtain ⟨a,vs,ds,i,ns,G,rfl,h1,h2,h3,q⟩:=h;obtain ⟨u,rfl,rx⟩:=nO r;cases rx;obtain ⟨its,rv,hl,z⟩:=FY I h1;have hi:=FH h2 rv h3;obtain ⟨xs,e⟩:=hi.allInts.items
 have hns:i :: ns=xs.toList.map (·.1):=by
  rw [← hi.numsOf,← nums_intItems,← e]
 have hsz:0<xs.size:=by
  have h3:0<(i :: ns).length:=by simp
  rw [hns,List.length_map,Array.length_toList] at h3; exact h3
 rw [e] at hl;refine max_intList (I.ok.hd hc) hl hsz fun v h' tk hv hk=>?_
 obtain ⟨t,rfl⟩:=intItems_at hv;obtain ⟨k1,k2⟩:=argBest_gt (numAt xs) (xs.size - 1)
 have m1:numAt xs (argBest (fun i j=>decide (numAt xs i > numAt xs j)) (xs.size - 1))∈i :: ns:=by
  rw [hns,numAt_eq]; exact getD_mem (by rw [List.length_map,Array.length_toList]; omega)
 have m2:∀ b∈i :: ns,b≤numAt xs (argBest (fun i j=>decide (numAt xs i > numAt xs j)) (xs.size - 1)):=fun b ha=>by
  rw [hns] at ha;obtain ⟨j,hj,rfl⟩:=mem_getD ha;rw [List.length_map,Array.length_toList] at hj;rw [← numAt_eq]; exact k2 j (by omega)
 obtain ⟨m3,m4⟩:=aFa i ns;have e2:numAt xs (argBest (fun i j=>decide (numAt xs i > numAt xs j)) (xs.size - 1))=ns.foldl (fun m y=>if y > m then y else m) i:=Int.le_antisymm (m4 _ m1) (m2 _ m3);refine ⟨.int _,H,I.kept hk,⟨t,rfl⟩, ?_⟩;rw [e2]; exact q
theorem aCk (hK:X.K=K) (hc:X.calm=true) (hh:X.A.handled=none) (rm:Room 2 X.A) (f:BI):fP X (biV f) (rBi K f):=by
 intro pins s σ H xs us Q I r h;obtain ⟨G,ds,v,sub,hx,e,k⟩:=h;subst hK
 cases f with
 | len =>
  obtain _ | ⟨d,_ | ⟨_,_⟩⟩:=ds
  ·exact (aF e).elim
  ·cases d with
   | lst =>
    change some _=_ at e;cases e;obtain ⟨x,rfl,h1⟩:=gU hx;obtain ⟨a,vs,rfl,h2,h3⟩:=h1.lst sub;exact sF pins s σ H _ us Q I r ⟨a,vs,rfl,.inl h2,by rw [h3.len]; exact k _ _ cG⟩
   | tup =>
    change some _=_ at e;cases e;obtain ⟨x,rfl,h1⟩:=gU hx;obtain ⟨a,vs,rfl,h2,h3⟩:=h1.tup sub;exact sF pins s σ H _ us Q I r ⟨a,vs,rfl,.inr h2,by rw [h3.len]; exact k _ _ cG⟩
   | str x =>
    change @ite _ (x.length≤1000000) (cl _) _ none=_ at e;split at e
    ·rename_i hz;cases e;obtain ⟨x,rfl,h1⟩:=gU hx;obtain ⟨rfl,_⟩:=h1.str;exact B8 pins s σ H _ us Q I r ⟨_,rfl,Nat.le_trans hz (by decide),k _ _ cG⟩
    ·cases e
   | _=>exact (aF e).elim
  ·cases d <;> exact (aF e).elim
 | abs =>
  obtain _ | ⟨d,_ | ⟨_,_⟩⟩:=ds
  ·exact (aF e).elim
  ·cases d with
   | int =>
    change some _=_ at e;cases e;obtain ⟨x,rfl,h1⟩:=gU hx;cases h1.int;exact PR pins s σ H _ us Q I r ⟨_,rfl,k _ _ cG⟩
   | _=>exact (aF e).elim
  ·cases d <;> exact (aF e).elim
 | int =>
  obtain _ | ⟨d,_ | ⟨_,_⟩⟩:=ds
  ·exact (aF e).elim
  ·cases d with
   | int =>
    change some _=_ at e;cases e;obtain ⟨x,rfl,h1⟩:=gU hx;cases h1.int;exact zV pins s σ H _ us Q I r (.inl ⟨_,rfl,k _ _ cG⟩)
   | bl =>
    change some _=_ at e;cases e;obtain ⟨x,rfl,h1⟩:=gU hx;cases h1.bl;exact zV pins s σ H _ us Q I r (.inr ⟨_,rfl,k _ _ cG⟩)
   | _=>exact (aF e).elim
  ·cases d <;> exact (aF e).elim
 | list=>exact (aF e).elim
 | tuple =>
  obtain _ | ⟨d,_ | ⟨_,_⟩⟩:=ds
  ·exact (aF e).elim
  ·cases d with
   | lst =>
    change some _=_ at e;cases e;obtain ⟨x,rfl,h1⟩:=gU hx;obtain ⟨a,vs,rfl,h2,h3⟩:=h1.lst sub;exact rB pins s σ H _ us Q I r ⟨a,vs,rfl,.inl ⟨h2,fun p hp=>k _ _ (.inr (.inr ⟨_,_,p,rfl,hp,h3,rfl,rfl⟩))⟩⟩
   | tup =>
    change some _=_ at e;cases e;obtain ⟨x,rfl,h1⟩:=gU hx;have h1':=h1;obtain ⟨a,vs,rfl,h2,h3⟩:=h1.tup sub;refine rB pins s σ H _ us Q I r ⟨a,vs,rfl,.inr ⟨h2, ?_⟩⟩;rcases h1' with h1' | ⟨_,_,h1'⟩
    ·exact k _ _ (.inl ⟨_,rfl,h1',rfl⟩)
    ·exact h1'.elim
   | _=>exact (aF e).elim
  ·cases d <;> exact (aF e).elim
 | min =>
  obtain _ | ⟨d,_ | ⟨d2,_ | ⟨_,_⟩⟩⟩:=ds
  ·exact (aF e).elim
  ·cases d <;> exact (aF e).elim
  ·cases d with
   | int =>
    cases d2 with
    | int =>
     change some _=_ at e;cases e;obtain ⟨x,y,rfl,h1,h2⟩:=MS hx;cases h1.int; cases h2.int;exact KD hc pins s σ H _ us Q I r ⟨_,_,rfl,k _ _ cG⟩
    | _=>exact (aF e).elim
   | _=>exact (aF e).elim
  ·cases d with
   | int=>cases d2 <;> exact (aF e).elim
   | _=>exact (aF e).elim
 | max =>
  obtain _ | ⟨d,_ | ⟨d2,_ | ⟨_,_⟩⟩⟩:=ds
  ·exact (aF e).elim
  ·cases d with
   | lst ds =>
    change (match nN ds with | some (i :: r)=>some (RV.sh (.int (r.foldl (fun m y=>if y > m then y else m) i))) | _=>none)=_ at e;split at e
    ·rename_i i r' q;cases e;obtain ⟨x,rfl,h1⟩:=gU hx;obtain ⟨a,vs,rfl,h2,h3⟩:=h1.lst sub;exact J2 hc pins s σ H _ us Q I r ⟨a,vs,ds,i,r',G,rfl,h2,h3,q,k _ _ cG⟩
    ·cases e
   | _=>exact (aF e).elim
  ·cases d with
   | int =>
    cases d2 with
    | int =>
     change some _=_ at e;cases e;obtain ⟨x,y,rfl,h1,h2⟩:=MS hx;cases h1.int; cases h2.int;exact LC hc pins s σ H _ us Q I r ⟨_,_,rfl,k _ _ cG⟩
    | _=>exact (aF e).elim
   | _=>exact (aF e).elim
  ·cases d with
   | int=>cases d2 <;> exact (aF e).elim
   | _=>exact (aF e).elim
 | all =>
  obtain _ | ⟨d,_ | ⟨_,_⟩⟩:=ds
  ·exact (aF e).elim
  ·cases d with
   | lst ds =>
    change (gZ ds).map _=_ at e
    cases q:gZ ds with
    | none=>rw [q] at e; cases e
    | some bs =>
     rw [q] at e;cases e;obtain ⟨x,rfl,h1⟩:=gU hx;obtain ⟨a,vs,rfl,h2,h3⟩:=h1.lst sub;exact NX hh pins s σ H _ us Q I r ⟨a,vs,ds,bs,G,rfl,h2,h3,q,k _ _ VM⟩
   | _=>exact (aF e).elim
  ·cases d <;> exact (aF e).elim
 | repr=>exact (aF e).elim
noncomputable def QU:Ty→V
 | .int=>.ty "int"
 | .bool=>.ty "bool"
 | .str=>.ty "str"
 | .list=>.ty "list"
 | .tuple=>.ty "tuple"
 | .dict=>.ty "dict"
 | .cls _=>.ty "dict"
 | .verr=>.ty "ValueError"
theorem cA.exn {c:Str} {x:V} (sub:aM G H) (h:cA K H G (.exn c) x):∃ a C,x=.ref a∧PySem.W.nsIn K mainGlobals c=some (some (.ref C))∧ExcG K C∧H a=some (.ext (o7 a C)):=by
 rcases h with h | ⟨a,rfl,h⟩
 ·simp only [aD] at h;obtain ⟨a,C,e,h1,h2,h3⟩:=h;exact ⟨a,C,e,h1,h2,sub _ _ h3⟩
 ·exact h.elim
theorem Z4 (hK:X.K=K) (t:Ty):fP X (.builtin "isinstance") (fun xs H Q=>∃ G d x b,aM G H∧xs=[x,QU t]∧cA K H G d x∧IB t d=some b∧Q (.bl b) H):=by
 intro pins s σ H xs us Q I r h;obtain ⟨G,d,x,b,sub,rfl,hx,e,q⟩:=h;subst hK;obtain ⟨u,w,rfl,rx,rw'⟩:=JI r;have fin:∀ tk,EP X pins σ Q (.bool b) { s with toks:=tk }:=fun tk=>⟨.bl b,H,I.tok tk,rfl,q⟩
 have key:∀ T:String,w=.type T→∀ c:String,(∀ S:Value→Option Bool,True)→True:=fun _ _ _ _=>trivial
 cases t <;> simp only [IB,reduceCtorEq] at e <;> (try (cases (show w=_ from rw')))
 all_goals
  cases d <;> simp only [Option.some.injEq,reduceCtorEq] at e <;> subst e
  all_goals first
   | (cases hx.non; cases (show u=Value.none from rx); exact PySem.W.kia_one PySem.W.kitx_none I.kIn True.intro (by rfl) (fun z=>nomatch z) fin)
   | (cases hx.bl; cases (show u=Value.bool _ from rx); exact PySem.W.kia_one PySem.W.kitx_bool I.kIn True.intro (by rfl) (fun z=>nomatch z) fin)
   | (cases hx.int; obtain ⟨t,q'⟩:=(show ∃ t,u=Value.int _ t from rx); cases q'; exact PySem.W.kia_one PySem.W.kitx_int I.kIn True.intro (by rfl) (fun z=>nomatch z) fin)
   | (obtain ⟨rfl,_⟩:=hx.str; obtain ⟨t,q'⟩:=(show ∃ t,u=Value.str _ t from rx); cases q'; exact PySem.W.kia_one PySem.W.kitx_str I.kIn True.intro (by rfl) (fun z=>nomatch z) fin)
   | (obtain ⟨a,vs,rfl,h2,h3⟩:=hx.lst sub; cases (show u=Value.ref a from rx); obtain ⟨its,_,⟨o,n,h4,h5,_⟩,_⟩:=I.list h2; exact PySem.W.kia_one PySem.W.kitx_list I.kIn ⟨o,h4,h5⟩ (by rfl) (fun z=>nomatch z) fin)
   | (obtain ⟨a,C,rfl,h2,h3,h4⟩:=hx.exn sub; cases (show u=Value.ref a from rx); exact PySem.W.kia_one (OJ h3) I.kIn (I.hok a _ h4).1 (OF h3) (fun z=>nomatch z) fin)
   | (obtain ⟨a,vs,rfl,h2,h3⟩:=hx.tup sub; cases (show u=Value.ref a from rx); obtain ⟨its,_,⟨o,h4,h5,_⟩,_⟩:=I.tuple h2; exact PySem.W.kia_one PySem.W.kitx_tuple I.kIn ⟨o,h4,h5⟩ (by rfl) (fun z=>nomatch z) fin)
end
section
variable {X:Cx} {pins:List (Addr × Obj)} {σ:L2.St} {H:Hp} {s:Shared} {h':Heap}
theorem LI {t':Nat} {e it p:Addr} {o:HO} (I:Inv X pins σ H s) (k:∀ b u,b≠e→b≠it→s.heap.get? b=some u→h'.get? b=some u) (fe:cR X pins H e) (fi:cR X pins H it) (hp:s.heap.objs.size≤p)
  (new:dD X.prog X.w (aV H p o) h' p o):Inv X pins σ (aV H p o) { s with heap:=h',toks:=t' }:=by
 have hn:H p=none:=I.hok.fresh hp;have ne:∀ {b:Addr} {u:HO},H b=some u→b≠e∧b≠it:=fun q=>⟨bR q fe.1,bR q fi.1⟩
 have nc:∀ {b:Addr},b ∉ [e,it]→b≠e∧b≠it:=fun hc=>⟨fun z=>hc (by simp [z]),fun z=>hc (by simp [z])⟩
 refine I.step (g':=s.gens) (d':=s.drawn) (ch:=[e,it]) (fun b hb=>?_) (fun b o _ _ hc q _=>k b o (nc hc).1 (nc hc).2 q) (fun b o _ _ hc q _=>⟨o.slots,k b o (nc hc).1 (nc hc).2 q⟩)
  (fun b o _ q n=>by rw [aN (Nat.ne_of_lt (Nat.lt_of_lt_of_le (Heap.lt_size q) hp))]; exact n)
  (fun b o hc q=>⟨o,k b o (nc hc).1 (nc hc).2 q⟩) (fun b xs q=>by rw [aN (bR q hn)]; exact q) (fun b o u q=>by rw [aN (bR q hn)]; exact q) (fun b ps q=>⟨#[],by rw [aN (bR q hn),q]; simp⟩) (fun m hm=>?_) (fun b u q=>?_) I.bare
 ·have hb:b=e∨b=it:=by simpa using hb
  rcases hb with rfl | rfl
  ·exact ⟨fe.2.2.2.1,fe.2.1,fe.2.2.2.2.1,fe.2.2.2.2.2⟩
  ·exact ⟨fi.2.2.2.1,fi.2.1,fi.2.2.2.2.1,fi.2.2.2.2.2⟩
 ·obtain ⟨o,es,ep,ho,r⟩:=hm;exact ⟨o,es,ep,k _ o (Ne.symm fe.2.1) (Ne.symm fi.2.1) ho,r⟩
 ·by_cases hb:b=p
  ·subst hb; rw [bC] at q; cases q; exact new
  ·rw [aN hb] at q;refine (I.hok b u q).stay (fun c v hc z=>?_) (fun c q=>by rw [aN (bR q hn)]; exact q) fun c xs q=>by rw [aN (bR q hn)]; exact q
   have hc':c≠e∧c≠it:=by
    rcases hc with w | w
    ·rw [w]; exact ne q
    ·exact ne w
   exact k c v hc'.1 hc'.2 z
theorem EN {t':Nat} {e it:Addr} (I:Inv X pins σ H s) (k:∀ b u,b≠e→b≠it→s.heap.get? b=some u→h'.get? b=some u) (fe:cR X pins H e) (fi:cR X pins H it):Inv X pins σ H { s with heap:=h',toks:=t' }:=by
 have ne:∀ {b:Addr} {u:HO},H b=some u→b≠e∧b≠it:=fun q=>⟨bR q fe.1,bR q fi.1⟩
 have nc:∀ {b:Addr},b ∉ [e,it]→b≠e∧b≠it:=fun hc=>⟨fun z=>hc (by simp [z]),fun z=>hc (by simp [z])⟩
 refine I.step (g':=s.gens) (d':=s.drawn) (ch:=[e,it]) (fun b hb=>?_) (fun b o _ _ hc q _=>k b o (nc hc).1 (nc hc).2 q) (fun b o _ _ hc q _=>⟨o.slots,k b o (nc hc).1 (nc hc).2 q⟩)
  (fun _ _ _ _ n=>n) (fun b o hc q=>⟨o,k b o (nc hc).1 (nc hc).2 q⟩) (fun _ _ q=>q) (fun _ _ _ q=>q) (fun b ps q=>⟨#[],by rw [q]; simp⟩) (fun m hm=>?_) (fun b u q=>?_) I.bare
 ·have hb:b=e∨b=it:=by simpa using hb
  rcases hb with rfl | rfl
  ·exact ⟨fe.2.2.2.1,fe.2.1,fe.2.2.2.2.1,fe.2.2.2.2.2⟩
  ·exact ⟨fi.2.2.2.1,fi.2.1,fi.2.2.2.2.1,fi.2.2.2.2.2⟩
 ·obtain ⟨o,es,ep,ho,r⟩:=hm;exact ⟨o,es,ep,k _ o (Ne.symm fe.2.1) (Ne.symm fi.2.1) ho,r⟩
 ·refine (I.hok b u q).stay (fun c v hc z=>?_) (fun _ q=>q) fun _ _ q=>q
  have hc':c≠e∧c≠it:=by
   rcases hc with w | w
   ·rw [w]; exact ne q
   ·exact ne w
  exact k c v hc'.1 hc'.2 z
end
section
variable {prog:Program} {w:World} {A:Around} {E:Value→Shared→Prop} {s:Shared}
theorem S0 {e it l:Addr} {c:Int} {i:Nat} {us:Array Value} {u old:Value} {Q:Value→Shared→Prop} (q1:IsEnum s.heap e it c old) (q2:s.heap.IsListIter it l i) (q3:s.heap.IsList l us) (q4:us[i]?=some u) (ne:e≠it)
  (k:∀ g,IsEnumOut g e it (c+1) u s.heap.objs.size→g.IsListIter it l (i+1)→g.get? s.heap.objs.size=some { cls:=.type "tuple",data:=.seq #[.int c s.toks,u] }→(∀ b o,b≠e→b≠it→s.heap.get? b=some o→g.get? b=some o)→Q (.ref s.heap.objs.size) { s with heap:=g,toks:=s.toks+1 }) :
  wpAny (model prog w) A (Builtin.«enumerate.__next__» ⟨[.ref e],[]⟩) (fun fin s'=>∃ v,fin=.done (.ret v)∧Q v s') E s:=by
 obtain ⟨m0,ge,dr,tk,os⟩:=s;refine wpAny_bind (m:=field (.ref e) 2) (wpAny_field q1 rfl (x:=.ref it) rfl (wpAny_bind (wpAny_nextOf_list_item q2 q3 q4 fun m1 t1 b1=>?_)));have b1:Heap.SameBut it m0 m1:=b1;have e1:IsEnum m1 e it c old:=(b1.2 e ne).trans q1;refine wpAny_bind (m:=field (.ref e) 3) (wpAny_field e1 rfl (x:=rawInt c) rfl (wpAny_bind (m:=field (.ref e) 4) (wpAny_field e1 rfl (x:=.none) rfl (wpAny_bind (m:=mkInt c) (wpAny_mkInt ?_)))));refine wpAny_bind (m:=setField (.ref e) 3 (rawInt (c+1))) (wpAny_setField_rec e1 (by simp) fun m2 e2 b2=>?_);have b2:Heap.SameBut e m1 m2:=b2;have e2:IsEnum m2 e it (c+1) old:=e2;refine wpAny_bind (m:=setField (.ref e) 4 .none) (wpAny_setField_rec e2 (by simp) fun m3 e3 b3=>?_);have b3:Heap.SameBut e m2 m3:=b3;have e3:IsEnum m3 e it (c+1) old:=e3;refine wpAny_bind (m:=newTuple [.int c tk,u]) (wpAny_newTuple ?_);have n3:m3.objs.size=m0.objs.size:=by rw [b3.1,b2.1,b1.1]
 have lt:e<m0.objs.size:=Heap.lt_size q1;obtain ⟨m4,z4⟩:∃ m4,m3.push { cls:=.type "tuple",data:=.seq #[.int c tk,u] }=m4:=⟨_,rfl⟩
 have e4:IsEnum m4 e it (c+1) old:=z4 ▸ Heap.get?_push_of_some _ e3;have p4:m4.get? m0.objs.size=some { cls:=.type "tuple",data:=.seq #[.int c tk,u] }:=z4 ▸ n3 ▸ Heap.get?_push_size _ rfl;have k4:∀ b o,b≠e→b≠it→m0.get? b=some o→m4.get? b=some o:=fun b o x y q=>z4 ▸ Heap.get?_push_of_some _ (b3.extBut b o x (b2.extBut b o x (b1.extBut b o y q)))
 have t4:m4.IsListIter it l (i+1):=by
  obtain ⟨o,ho,r⟩:=(t1.extBut b2.extBut ne.symm).extBut b3.extBut ne.symm;exact ⟨o,z4 ▸ Heap.get?_push_of_some _ ho,r⟩
 rw [n3,z4];refine wpAny_bind (m:=Builtin.SmallTypes.ownedTupleIsFree (.ref e)) ?_;unfold Builtin.SmallTypes.ownedTupleIsFree;refine wpAny_bind (wpAny_field e4 rfl (x:=.none) rfl (wpAny_pure ?_));simp only [if_true];refine wpAny_bind (wpAny_rule (wpAny_bind (wpAny_field e4 rfl (x:=old) rfl (wpAny_bind (wpAny_setField_rec e4 (by simp) fun m5 e5 b5=>?_)))));have b5:Heap.SameBut e m4 m5:=b5;have e5:IsEnum m5 e it (c+1) u:=e5;refine wpAny_bind (m:=Builtin.SmallTypes.ownedTupleHandOut (.ref e) (.ref m0.objs.size)) ?_;unfold Builtin.SmallTypes.ownedTupleHandOut;refine wpAny_bind (wpAny_setField_rec e5 (by simp) fun m6 e6 b6=>?_);have b6:Heap.SameBut e m5 m6:=b6;have e6:IsEnumOut m6 e it (c+1) u m0.objs.size:=e6;refine wpAny_setField_rec e6 (by simp) fun m7 e7 b7=>?_
 have b7:Heap.SameBut e m6 m7:=b7;have st:∀ b o,b≠e→m4.get? b=some o→m7.get? b=some o:=fun b o x q=>b7.extBut b o x (b6.extBut b o x (b5.extBut b o x q))
 refine wpAny_bind (wpAny_letGo (wpAny_pure ⟨_,rfl,k m7 e7 ?_ (st _ _ (Nat.ne_of_gt lt) p4) fun b o x y q=>st b o x (k4 b o x y q)⟩));exact ((t4.extBut b5.extBut ne.symm).extBut b6.extBut ne.symm).extBut b7.extBut ne.symm
theorem MT {e it l:Addr} {c:Int} {i:Nat} {us:Array Value} {u old:Value} {Q:Option Value→Shared→Prop} (q1:IsEnum s.heap e it c old) (q2:s.heap.IsListIter it l i) (q3:s.heap.IsList l us) (q4:us[i]?=some u) (ne:e≠it)
  (k:∀ g,IsEnumOut g e it (c+1) u s.heap.objs.size→g.IsListIter it l (i+1)→g.get? s.heap.objs.size=some { cls:=.type "tuple",data:=.seq #[.int c s.toks,u] }→(∀ b o,b≠e→b≠it→s.heap.get? b=some o→g.get? b=some o)→Q (some (.ref s.heap.objs.size)) { s with heap:=g,toks:=s.toks+1 }) :
  wpAny (model prog w) A (pyNext (.ref e)) Q E s :=
 have ty:s.TypeIs (.ref e) "enumerate":=⟨_,q1,rfl⟩
 wpAny_bind (wpAny_attempt (wpAny_callSpecial?_slot (name:=Str.ofString "__next__") ty F.slot_enumerate_next (wpAny_call_entry F.slot_enumerate_next ty F.entry_enumerate_next (S0 q1 q2 q3 q4 ne fun g a b c d=>wpAny_pure (k g a b c d)) (F.args_enumerate_next_1 _))))
theorem UY {e it l:Addr} {c:Int} {i:Nat} {us:Array Value} {old:Value} {Q:Option Value→Shared→Prop} (hh:A.handled=none) (q1:IsEnum s.heap e it c old) (q2:s.heap.IsListIter it l i) (q3:s.heap.IsList l us) (q4:us[i]?=none)
  (k:∀ g,Heap.ExtBut it s.heap g→Q none { s with heap:=g }):wpAny (model prog w) A (pyNext (.ref e)) Q E s:=by
 have ty:s.TypeIs (.ref e) "enumerate":=⟨_,q1,rfl⟩
 refine wpAny_bind (wpAny_attempt (wpAny_callSpecial?_slot (name:=Str.ofString "__next__") ty F.slot_enumerate_next (wpAny_call_entry F.slot_enumerate_next ty F.entry_enumerate_next ?_ (F.args_enumerate_next_1 _))));refine wpAny_bind (m:=field (.ref e) 2) (wpAny_field q1 rfl (x:=.ref it) rfl (wpAny_bind (wpAny_nextOf_list_end hh q2 q3 q4 fun g x ex px=>?_)));obtain ⟨o,ho,hc⟩:=px;exact wpAny_bind (wpAny_isInstance (T:="StopIteration") (b:=true) ⟨o,ho,hc⟩ isSubtype_stop (wpAny_pure (k _ ex)))
end
theorem UM (l:Addr) (us:Array Value) (n:Nat) (dct:Option Addr) (sl:Array (Option Value)) (c:Int) (t:Tok) (hc:Builtin.SmallTypes.fitsIndex c=true) :
  Meets (Builtin.«enumerate.__new__» ⟨[.type "enumerate",.ref l],[("start",.int c t)]⟩) (fun _ R s=>s.heap.get? l=some { cls:=.type "list",dict:=dct,data:=.seq us n,slots:=sl } ∧
   R (.ok (.ret (.ref (s.heap.push { cls:=.type "list_iterator",data:=.fields #[.ref l,.int 0 0] }).objs.size)))
    { s with heap:=(s.heap.push { cls:=.type "list_iterator",data:=.fields #[.ref l,.int 0 0] }).push { cls:=.type "enumerate",data:=.fields #[.none,.bool false,.ref s.heap.objs.size,rawInt c,.none,.none] } }) :=
 .of_wp fun prog w A R s h=>by
  obtain ⟨hp,g,d,tk,os⟩:=s; obtain ⟨hl,h⟩:=h;have sb:=sub_enumerate;have isl:Heap.IsList (Shared.heap ⟨hp,g,d,tk,os⟩) l us:=⟨_,hl,rfl,n,rfl⟩
  wp_walk using AutoSeq1.wpAny_loadPart' hl
  refine wpAny_stack_any fun st=>wpAny_pure ?_
  split
  ·rename_i v _ _ _ _ _;cases (v == Value.type "enumerate")
   ·wp_walk using AutoSeq1.wpAny_loadPart' hl,wpAny_pyIter_list isl
    exact ⟨_,rfl,h⟩
   ·wp_walk using AutoSeq1.wpAny_loadPart' hl,wpAny_pyIter_list isl
    exact ⟨_,rfl,h⟩
  ·wp_walk using AutoSeq1.wpAny_loadPart' hl,wpAny_pyIter_list isl
   exact ⟨_,rfl,h⟩
theorem aBH (a:Value) (c:Int) (t:Tok):checkTypeCall "enumerate" ⟨[a],[("start",.int c t)]⟩=pure ():=by kernel_rfl
theorem UU (a:Value) (c:Int) (t:Tok):checkBuiltinCall "enumerate.__new__" ⟨[.type "enumerate",a],[("start",.int c t)]⟩=pure ():=by kernel_rfl
theorem WL {a b:Value} {kw:List (Str × Value)}:Meets (Builtin.«object.__init__» ⟨[a,b],kw⟩) (fun _ R s=>s.TypeIs a "enumerate"∧R (.ok (.ret .none)) s):=by
 refine Meets.of_wp fun prog w A R s hs=>?_
 obtain ⟨ty,hq⟩:=hs;have hl:typeLookup (.type "enumerate") "__init__"=pure (some (.builtin "object.__init__")):=F.called_enumerate.init.lookup;have hm:=F.called_enumerate.made;have hne:(some "enumerate.__new__" != some "object.__new__")=true:=by decide
 repeat (any_goals (first | assumption | wp_step))
 exact ⟨_,rfl,hq⟩
theorem T1 (a b:Value) (c:Int) (t:Tok):argsOk "object.__init__" ⟨[a,b],[("start",.int c t)]⟩:=by
 unfold argsOk;rw [signature?_of (id:="object.__init__") (n:="__init__".toList.reverse) (o:="object".toList.reverse) (by kernel_rfl) F.owner_object]
 kernel_rfl
section
variable {prog:Program} {w:World} {A:Around} {E:Value→Shared→Prop} {s:Shared}
theorem WR {l:Addr} {us:Array Value} {c:Int} {t:Tok} {Q:Value→Shared→Prop} (hc:Builtin.SmallTypes.fitsIndex c=true) (q:s.heap.IsList l us)
  (k:∀ g,IsEnum g (s.heap.objs.size+1) s.heap.objs.size c .none→g.IsListIter s.heap.objs.size l 0→(∀ b o,s.heap.get? b=some o→g.get? b=some o)→Q (.ref (s.heap.objs.size+1)) { s with heap:=g }) :
  wpAny (model prog w) A (call (.type "enumerate") [.ref l] [("start",.int c t)]) Q E s:=by
 have ft:=F.called_enumerate;obtain ⟨c0,tl,hmro⟩:=ft.mro;have hmade:=ft.made;have hsub:=ft.sub;obtain ⟨⟨cl,dct,dt,sl⟩,hl,hcl,n,hd⟩:=q;have hcl:cl=.type "list":=hcl;have hd:dt=.seq us n:=hd;subst hcl hd;refine wpAny_call (codeAny_of_tree ?_);change wpAny _ _ (callAny (.type "enumerate") _) _ _ _;refine wpAny_pure ⟨Code.quiet_builtin _ (by decide +kernel),codeAny_builtin F.entry_type_call ?_⟩;rw [Around.under_plain (weight_type_call_type "enumerate" _ _) (units_type_call_type "enumerate" _ _)];have h1:=ft.notType;have h2:=ft.canCreate;have h3:=aBH (.ref l) c t
 repeat (any_goals (first | assumption | wp_step))
 refine codeAny_mono (codeAny_call_builtin ft.plain F.entry_enumerate_new (wpAny_of_eq (UU (.ref l) c t) (UM l us n dct sl c t hc prog w A.in1 (wants (fun obj s1=>s1.TypeIs obj "enumerate"∧Q obj s1) E) s ⟨hl, ?_⟩))) fun r s1 hr=>?_
 ·have hz:(s.heap.push { cls:=.type "list_iterator",data:=.fields #[.ref l,.int 0 0] }).objs.size=s.heap.objs.size+1:=Heap.size_push ..;change _∧_;rw [hz]
  have he:IsEnum ((s.heap.push { cls:=.type "list_iterator",data:=.fields #[.ref l,.int 0 0] }).push { cls:=.type "enumerate",data:=.fields #[.none,.bool false,.ref s.heap.objs.size,rawInt c,.none,.none] }) (s.heap.objs.size+1) s.heap.objs.size c .none:=by
   have x:=Heap.get?_push_size (s.heap.push { cls:=.type "list_iterator",data:=.fields #[.ref l,.int 0 0] }) (o:={ cls:=.type "enumerate",data:=.fields #[.none,.bool false,.ref s.heap.objs.size,rawInt c,.none,.none] }) rfl
   rwa [hz] at x
  exact ⟨⟨_,he,rfl⟩,k _ he ⟨_,Heap.get?_push_of_some _ (Heap.get?_push_size _ rfl),rfl,rfl⟩ fun b o x=>Heap.get?_push_of_some _ (Heap.get?_push_of_some _ x)⟩
 ·cases r with
  | error e=>exact hr
  | ok fl =>
   cases fl with
   | ret obj =>
    have hT:s1.TypeIs obj "enumerate":=hr.1;have hli:=ft.init.lookup;have hbi:=ft.init.bind obj
    repeat (any_goals (first | assumption | wp_step))
    refine codeAny_mono (codeAny_call_builtin ft.init.plain F.entry_object_init (ft.init.check _ _ _ _ _ _ _ _ hT (T1 obj (.ref l) c t) (WL prog w A.in1 (wants (fun r s2=>r=.none∧Q obj s2) E) s1 ⟨hT,rfl,hr.2⟩))) fun r2 s2 hr2=>?_
    cases r2 with
    | error e=>exact hr2
    | ok fl2 =>
     cases fl2 with
     | ret r =>
      obtain ⟨rfl,hq⟩:=hr2
      repeat (any_goals (first | assumption | wp_step))
     | _=>exact hr2.elim
   | _=>exact hr.elim
end
noncomputable def rM (K:PySem.W.Frag) (a:Addr) (lo:Int):It :=
 ⟨fun i H=>∃ xs x,cB K H a xs∧xs[i]?=some x,fun i H x H'=>∃ p y,H p=none∧x=.ref p∧H'=aV H p (.tup [.int (lo+(i:Int)),y])∧∀ xs,cB K H a xs→xs[i]?=some y,fun i H=>∃ xs,cB K H a xs∧xs.length≤i⟩
theorem AL {P:Program} {w:World} {K:PySem.W.Frag} {elts:List Expr} {k0:Nat} {pos:Pos} (a e it:Addr) (lo:Int) (hei:e≠it):Turn P w K (.Tuple elts k0 pos) (rM K a lo) [e,it] e (fun i h=>(∃ old,IsEnum h e it (lo+(i:Int)) old)∧h.IsListIter it a i) where
 mem:=by simp
 obj:=fun i h st b hb=>by
  obtain ⟨⟨old,h1⟩,o,h2,c,d⟩:=st;have hb:b=e∨b=it:=by simpa using hb
  rcases hb with rfl | rfl
  ·exact ⟨_,h1,fun v z=>by
    have z':Data.fields _=Data.cell v:=z
    cases z'⟩
  ·exact ⟨o,h2,fun v z=>by rw [d] at z; cases z⟩
 keep:=fun i h h' st k=>by
  obtain ⟨⟨old,h1⟩,h2⟩:=st;exact ⟨⟨old,k e (by simp) _ h1⟩,h2.at fun o q=>k it (by simp) o q⟩
 item:=by
  intro X hP hw hK hc i pins s σ H E I hf st hg;subst hP hw hK;obtain ⟨xs,x,hq,hx⟩:=hg;obtain ⟨its,rv,p,hz⟩:=I.list hq;obtain ⟨u,hu,ru⟩:=rv.get hx;obtain ⟨⟨old,he⟩,hit⟩:=st;have fe:=hf e (by simp);have fi:=hf it (by simp);refine MT he hit p.isList (u:=u) (by simpa using hu) hei fun h' ho hit' hT hk=>?_
  refine ⟨_,rfl,wpAny_letOwnedTupleGo_enum ho fun h2 he2 hs2=>?_⟩;have helt:e<s.heap.objs.size:=Heap.lt_size he;have hilt:it<s.heap.objs.size:=by obtain ⟨_,q,_⟩:=hit; exact Heap.lt_size q
  have ke:∀ b u,b≠e→b≠it→s.heap.get? b=some u→h2.get? b=some u:=fun b u n1 n2 q=>(hs2.2 b n1).trans (hk b u n1 n2 q)
  have hT2:h2.get? s.heap.objs.size=some { cls:=.type "tuple",data:=.seq #[.int (lo+(i:Int)) s.toks,u] }:=(hs2.2 _ (Nat.ne_of_gt helt)).trans hT;have hfr:H s.heap.objs.size=none:=I.hok.fresh (Nat.le_refl _);have I2:Inv X pins σ (aV H s.heap.objs.size (.tup [.int (lo+(i:Int)),x])) { s with heap:=h2,toks:=s.toks+1 }:=LI I ke fe fi (Nat.le_refl _) ⟨by rw [sizeLine_eq]; simp,[.int (lo+(i:Int)) s.toks,u],.cons ⟨_,rfl⟩ (.cons ru .nil),⟨_,hT2,rfl,_,rfl⟩⟩;refine ⟨.ref s.heap.objs.size,aV H s.heap.objs.size (.tup [.int (lo+(i:Int)),x]),I2,rfl,⟨s.heap.objs.size,x,hfr,rfl,rfl,fun ys hy=>by rw [I.list_inj hy hq]; exact hx⟩,⟨⟨_,by rw [Int.natCast_add,Int.natCast_one,← Int.add_assoc]; exact he2⟩,hit'.at fun o q=>(hs2.2 it hei.symm).trans q⟩,fun b hb=>?_⟩
  ·have hb:b=e∨b=it:=by simpa using hb
   rcases hb with rfl | rfl
   ·rw [aN (Nat.ne_of_lt helt)]; exact fe.1
   ·rw [aN (Nat.ne_of_lt hilt)]; exact fi.1
 done:=by
  intro X hP hw hK hc i pins s σ H E I hf st hg;subst hP hw hK;obtain ⟨xs,hq,hx⟩:=hg;obtain ⟨its,rv,p,hz⟩:=I.list hq;obtain ⟨⟨old,he⟩,hit⟩:=st;have hl:=rv.length;exact UY (I.ok.hd hc) he hit p.isList (by simp; omega) fun h' eb=>⟨rfl,EN (t':=s.toks) I (fun b o _ n2 q=>eb b o n2 q) (hf e (by simp)) (hf it (by simp))⟩
 self:=fun _ _ _ _ _ st h=>by
  obtain ⟨⟨old,he⟩,_⟩:=st;exact wpAny_pyIter_enum he h
section
variable {X:Cx}
noncomputable def IW (K:PySem.W.Frag) (lo:Int) (ta:TA):TI:=fun σ H R=>ta σ H fun vs H1=>∃ a,vs=[.ref a]∧(∃ xs,cB K H1 a xs)∧R (rM K a lo) H1
theorem zS:bootBuiltins "enumerate"=some (.type "enumerate"):=by decide +kernel
theorem FT {a:Expr} {ta:TA} {p pos tpos:Pos} {elts:List Expr} {k0:Nat} (hg:Gl X "enumerate") (hm:X.mg "enumerate"=none) (ha:PA X [a] ta) (hs:starEach [a] X.env=[(false,eval a X.env)]:=by rfl):PI X (.Tuple elts k0 tpos) (.Call (.Name "enumerate" p) [a] [] pos) (IW X.K 0 ta):=by
 intro pins s σ H R I h;refine Call_ (mI I hg hm zS (PyProof.Rows.callWith_type1 (a6 (ha pos pins s σ H _ I h) fun us s1 ⟨vs,H1,I1,r1,q1⟩=>?_) hs rfl));obtain ⟨l,e,⟨xs,hq⟩,q⟩:=q1;subst e
 cases r1 with
 | cons r rr =>
  cases rr;cases r;obtain ⟨its,rv,p,hz⟩:=I1.list hq;refine call_enumerate_list p.isList fun h' he hit hsz hk=>?_
  have I2:Inv X pins σ H1 { s1 with heap:=h' }:=I1.kept (t':=s1.toks) hk;refine wpAny_pyIter_enum he ?_;refine ⟨s1.heap.objs.size+1,[s1.heap.objs.size+1,s1.heap.objs.size],_,_,H1,rfl,I2,AL l _ _ 0 (Nat.succ_ne_self _),⟨⟨_,by simpa using he⟩,hit⟩,fun b hb=>?_,q⟩;have hb:b=s1.heap.objs.size+1∨b=s1.heap.objs.size:=by simpa using hb
  rcases hb with rfl | rfl
  ·exact I1.fpOk (Nat.le_succ _) (I1.hok.fresh (Nat.le_succ _))
  ·exact I1.fpOk (Nat.le_refl _) (I1.hok.fresh (Nat.le_refl _))
theorem QK {a:Expr} {ta:TA} {p pos tpos kq kp:Pos} {j:Nat} {elts:List Expr} {k0:Nat} (hg:Gl X "enumerate") (hm:X.mg "enumerate"=none) (ha:PA X [a] ta) (hs:starEach [a] X.env=[(false,eval a X.env)]:=by rfl) :
  PI X (.Tuple elts k0 tpos) (.Call (.Name "enumerate" p) [a] [⟨some "start",.Constant (.int 1) j kq,kp⟩] pos) (IW X.K 1 ta):=by
 intro pins s σ H R I h;refine wpAny_Call_Name_kw (mI I hg hm zS ?_);refine PySem.W.callWith_of (P:=fun _=>True) (by rw [hs]; rfl) (fun _ _=>⟨.machine,.inr (.inl rfl),PySem.W.Looks.now⟩) (evalArgs_kw2 rfl (a6 (ha pos pins s σ H _ I h) fun us s1 ⟨vs,H1,I1,r1,q1⟩=>?_) hs);obtain ⟨l,e,⟨xs,hq⟩,q⟩:=q1;subst e
 cases r1 with
 | cons r rr =>
  cases rr;cases r;refine a6 (TV (X:=X) (nm:=some "start") (kpos:=kp) (KL (i:=1) (j:=j) (pos:=kq)) aBB pos pins s1 σ H1 (fun zs H2=>zs=[.int 1]∧H2=H1) I1 ⟨rfl,rfl⟩) fun ws s2 ⟨zs,H2,I2,rz,ez,eh⟩=>⟨trivial, ?_⟩
  subst ez eh
  cases rz with
  | cons rz rn =>
   cases rn;obtain ⟨t,rfl⟩:=rz;obtain ⟨its,rv,p,hz⟩:=I2.list hq;refine WR (c:=1) (by decide) p.isList fun h' he hit hk=>?_
   have I3:Inv X pins σ H2 { s2 with heap:=h' }:=I2.kept (t':=s2.toks) hk;refine wpAny_pyIter_enum he ?_;refine ⟨s2.heap.objs.size+1,[s2.heap.objs.size+1,s2.heap.objs.size],_,_,H2,rfl,I3,AL l _ _ 1 (Nat.succ_ne_self _),⟨⟨_,by simpa using he⟩,hit⟩,fun b hb=>?_,q⟩;have hb:b=s2.heap.objs.size+1∨b=s2.heap.objs.size:=by simpa using hb
   rcases hb with rfl | rfl
   ·exact I2.fpOk (Nat.le_succ _) (I2.hok.fresh (Nat.le_succ _))
   ·exact I2.fpOk (Nat.le_refl _) (I2.hok.fresh (Nat.le_refl _))
end
section
variable {K:PySem.W.Frag} {ρ ρ1:Env} {σ:St} {H G H' G':Hp} {own own' new new':Addr→Prop}
theorem cU {α:Type} {l:List α} {i j:Nat} {a b:α} (h:(l.set i a)[j]?=some b):(j=i∧b=a∧i<l.length)∨(j≠i∧l[j]?=some b):=by
 by_cases hij:j=i
 ·subst hij;by_cases hl:j<l.length
  ·rw [List.getElem?_set_self hl] at h;exact .inl ⟨rfl,(Option.some.inj h).symm,hl⟩
  ·rw [List.getElem?_eq_none (by rw [List.length_set]; omega)] at h;cases h
 ·rw [List.getElem?_set_ne (fun z=>hij z.symm)] at h;exact .inr ⟨hij,h⟩
theorem Rel.unset (r:Rel K ρ σ H G) (i:Nat):Rel K (ρ.set i .un) σ H G:=by
 refine ⟨by rw [List.length_set]; exact r.len,r.sub,fun j d h=>?_,fun j d p l h=>?_,fun j k d p l d' p' l' a h1 h2 h3 h4=>?_⟩
 ·rcases cU h with ⟨_,z,_⟩ | ⟨_,z⟩
  ·cases z
  ·exact r.sh j d z
 ·rcases cU h with ⟨_,z,_⟩ | ⟨_,z⟩
  ·cases z
  ·exact r.ow j d p l z
 ·rcases cU h1 with ⟨_,z,_⟩ | ⟨_,z⟩
  ·cases z
  ·rcases cU h2 with ⟨_,z',_⟩ | ⟨_,z'⟩
   ·cases z'
   ·exact r.inj _ _ _ _ _ _ _ _ _ z z' h3 h4
theorem aL.unset {i:Nat} {a:Addr} (h:aL (ρ.set i .un) σ a):aL ρ σ a:=by
 obtain ⟨j,d,p,l,h1,h2⟩:=h;rcases cU h1 with ⟨_,z,_⟩ | ⟨_,z⟩
 ·cases z
 ·exact ⟨j,d,p,l,z,h2⟩
theorem Rel.unset_not (r:Rel K ρ σ H G) {i:Nat} {d:D} {p l:Bool} {a:Addr} (h:ρ[i]?=some (.ow d p l)) (hx:σ[i]?=some (some (.ref a))):¬ aL (ρ.set i .un) σ a:=by
 rintro ⟨j,d',p',l',h1,h2⟩
 rcases cU h1 with ⟨_,z,_⟩ | ⟨ne,z⟩
 ·cases z
 ·exact ne (r.inj _ _ _ _ _ _ _ _ _ z h h2 hx)
theorem Rel.grow (r:Rel K ρ σ H G) {a:Addr} {ob:HO} (hv:H a=some ob) (g:G a=none) (no:¬ aL ρ σ a):Rel K ρ σ H (aV G a ob):=by
 refine ⟨r.len,fun b u e=>?_,fun i d e=>?_,fun i d p l e=>?_,r.inj⟩
 ·by_cases hb:b=a
  ·subst hb; rw [bC] at e; rw [hv]; exact e
  ·rw [aN hb] at e; exact r.sub b u e
 ·obtain ⟨v,h1,h2⟩:=r.sh i d e;exact ⟨v,h1,aD.mono (aM.put g) d h2⟩
 ·obtain ⟨b,h1,h2,h3⟩:=r.ow i d p l e;have hb:b≠a:=fun z=>by subst z; exact no ⟨i,d,p,l,e,h1⟩
  exact ⟨b,h1,by rw [aN hb]; exact h2,h3.mono (aM.put g) fun _ z=>z⟩
theorem Rel.put_sh (r:Rel K (ρ.set i .un) σ H G) {d:D} {v:V} (hx:σ[i]?=some (some v)) (hr:aD K G d v):Rel K (ρ.set i (.sh d)) σ H G:=by
 have key:∀ (j:Nat) (sl:Sl),(ρ.set i (.sh d))[j]?=some sl→(j=i∧sl=.sh d)∨(ρ.set i .un)[j]?=some sl:=fun j sl h=>by
  rcases cU h with ⟨e,z,_⟩ | ⟨ne,z⟩
  ·exact .inl ⟨e,z⟩
  ·exact .inr (by rw [List.getElem?_set_ne (fun q=>ne q.symm)]; exact z)
 refine ⟨by have:=r.len; rw [List.length_set] at this ⊢; exact this,r.sub,fun j d' h=>?_,fun j d' p l h=>?_,fun j k d1 p l d2 p' l' a h1 h2 h3 h4=>?_⟩
 ·rcases key j _ h with ⟨rfl,z⟩ | z
  ·cases z; exact ⟨v,hx,hr⟩
  ·exact r.sh j d' z
 ·rcases key j _ h with ⟨rfl,z⟩ | z
  ·cases z
  ·exact r.ow j d' p l z
 ·rcases key j _ h1 with ⟨rfl,z⟩ | z
  ·cases z
  ·rcases key k _ h2 with ⟨rfl,z'⟩ | z'
   ·cases z'
   ·exact r.inj _ _ _ _ _ _ _ _ _ z z' h3 h4
theorem Rel.put_ow (r:Rel K (ρ.set i .un) σ H G) {d:D} {p l:Bool} {a:Addr} (hx:σ[i]?=some (some (.ref a))) (g:G a=none) (ho:gM K H G a d) (no:¬ aL (ρ.set i .un) σ a):Rel K (ρ.set i (.ow d p l)) σ H G:=by
 have key:∀ (j:Nat) (sl:Sl),(ρ.set i (.ow d p l))[j]?=some sl→(j=i∧sl=.ow d p l)∨(ρ.set i .un)[j]?=some sl:=fun j sl h=>by
  rcases cU h with ⟨e,z,_⟩ | ⟨ne,z⟩
  ·exact .inl ⟨e,z⟩
  ·exact .inr (by rw [List.getElem?_set_ne (fun q=>ne q.symm)]; exact z)
 refine ⟨by have:=r.len; rw [List.length_set] at this ⊢; exact this,r.sub,fun j d' h=>?_,fun j d' p' l' h=>?_,fun j k d1 p1 l1 d2 p2 l2 b h1 h2 h3 h4=>?_⟩
 ·rcases key j _ h with ⟨rfl,z⟩ | z
  ·cases z
  ·exact r.sh j d' z
 ·rcases key j _ h with ⟨rfl,z⟩ | z
  ·cases z; exact ⟨a,hx,g,ho⟩
  ·exact r.ow j d' p' l' z
 ·rcases key j _ h1 with ⟨rfl,z⟩ | z
  ·rcases key k _ h2 with ⟨rfl,z'⟩ | z'
   ·rfl
   ·rw [hx] at h3; cases h3;exact absurd ⟨k,_,_,_,z',h4⟩ no
  ·rcases key k _ h2 with ⟨rfl,z'⟩ | z'
   ·rw [hx] at h4; cases h4;exact absurd ⟨j,_,_,_,z,h3⟩ no
   ·exact r.inj _ _ _ _ _ _ _ _ _ z z' h3 h4
theorem aL.put_sh {i:Nat} {d:D} {a:Addr} (h:aL (ρ.set i (.sh d)) σ a):aL (ρ.set i .un) σ a:=by
 obtain ⟨j,d',p,l,h1,h2⟩:=h;rcases cU h1 with ⟨_,z,_⟩ | ⟨ne,z⟩
 ·cases z
 ·exact ⟨j,d',p,l,by rw [List.getElem?_set_ne (fun q=>ne q.symm)]; exact z,h2⟩
theorem aL.put_ow {i:Nat} {d:D} {p l:Bool} {a b:Addr} (hx:σ[i]?=some (some (.ref b))) (h:aL (ρ.set i (.ow d p l)) σ a):a=b∨aL (ρ.set i .un) σ a:=by
 obtain ⟨j,d',p',l',h1,h2⟩:=h;rcases cU h1 with ⟨rfl,z,_⟩ | ⟨ne,z⟩
 ·rw [hx] at h2; cases h2; exact .inl rfl
 ·exact .inr ⟨j,d',p',l',by rw [List.getElem?_set_ne (fun q=>ne q.symm)]; exact z,h2⟩
theorem jF.grow {h:Hd} {x:V} (r:jF K H G own new σ h x) {G2:Hp} (s:aM G G2) (k:∀ a d,h=.val (.ow d)→x=.ref a→G2 a=none) (w:∀ a,own' a→own a):jF K H G2 own' new σ h x:=by
 cases h with
 | slot i=>exact r
 | val v =>
  cases v with
  | sh d=>exact aD.mono s d r
  | ow d =>
   obtain ⟨a,rfl,g,o,n,m⟩:=r;exact ⟨a,rfl,k a d rfl rfl,o.mono s fun _ z=>z,fun z=>n (w a z),m⟩
theorem cV.tmp_own:∀ {hs:List Hd} {xs:List V} {a:Addr},cV K H G own new σ hs xs→lK hs xs a→¬ own a∧new a∧H a≠none∧G a=none
 | [],_,_,h,t=>by cases (show _=[] from h); exact t.elim
 | h :: hs,_,a,r,t=>by
  obtain ⟨x,r',rfl,h1,h2,h3⟩:=r;have tl:lK hs r' a→¬ own a∧new a∧H a≠none∧G a=none:=fun t=>cV.tmp_own h2 t
  cases h with
  | slot i=>exact tl t
  | val v =>
   cases v with
   | sh d=>exact tl t
   | ow d =>
    rcases t with rfl | t
    ·obtain ⟨b,e,g,o,n,m⟩:=h1;cases e;obtain ⟨vs,hv⟩:=o.there;exact ⟨n,m,by rw [hv]; simp,g⟩
    ·exact tl t
theorem cV.grow:∀ {hs:List Hd} {xs:List V},cV K H G own new σ hs xs→∀ {G2:Hp},aM G G2→(∀ a,lK hs xs a→G2 a=none)→(∀ a,own' a→own a)→cV K H G2 own' new σ hs xs
 | [],_,h,_,_,_,_=>h
 | h :: hs,_,r,G2,s,k,w=>by
  obtain ⟨x,r',rfl,h1,h2,h3⟩:=r;refine ⟨x,r',rfl,h1.grow s (fun a d e1 e2=>k a (by subst e1; exact .inl e2)) w,cV.grow h2 s (fun a t=>k a ?_) w,h3⟩
  cases h with
  | slot i=>exact t
  | val v =>
   cases v with
   | sh d=>exact t
   | ow d=>exact .inr t
theorem Rel.nil (s:aM G H):Rel K [] [] H G:=⟨rfl,s,fun i d h=>by simp at h,fun i d p l h=>by simp at h,fun i j d p l d' p' l' a h=>by simp at h⟩
theorem Rel.cons_sh {as:List Sl} {τ:St} (r:Rel K as τ H G) {d:D} {x:V} (h:aD K G d x):Rel K (.sh d :: as) (some x :: τ) H G:=by
 refine ⟨by simp [r.len],r.sub,fun i d' e=>?_,fun i d' p l e=>?_,fun i j d1 p l d2 p' l' a h1 h2 h3 h4=>?_⟩
 ·cases i with
  | zero=>simp at e; subst e; exact ⟨x,rfl,h⟩
  | succ i=>simpa using r.sh i d' (by simpa using e)
 ·cases i with
  | zero=>simp at e
  | succ i=>simpa using r.ow i d' p l (by simpa using e)
 ·cases i with
  | zero=>simp at h1
  | succ i =>
   cases j with
   | zero=>simp at h2
   | succ j=>exact congrArg (·+1) (r.inj i j d1 p l d2 p' l' a (by simpa using h1) (by simpa using h2) (by simpa using h3) (by simpa using h4))
theorem Rel.cons_ow {as:List Sl} {τ:St} (r:Rel K as τ H G) {d:D} {p l:Bool} {a:Addr} (g:G a=none) (o:gM K H G a d) (n:¬ aL as τ a):Rel K (.ow d p l :: as) (some (.ref a) :: τ) H G:=by
 refine ⟨by simp [r.len],r.sub,fun i d' e=>?_,fun i d' p l e=>?_,fun i j d1 p1 l1 d2 p' l' b h1 h2 h3 h4=>?_⟩
 ·cases i with
  | zero=>simp at e
  | succ i=>simpa using r.sh i d' (by simpa using e)
 ·cases i with
  | zero =>
   simp only [List.getElem?_cons_zero,Option.some.injEq,Sl.ow.injEq] at e;obtain ⟨rfl,_,_⟩:=e;exact ⟨a,rfl,g,o⟩
  | succ i=>simpa using r.ow i d' p l (by simpa using e)
 ·cases i with
  | zero =>
   simp only [List.getElem?_cons_zero,Option.some.injEq,V.ref.injEq] at h3;subst h3
   cases j with
   | zero=>rfl
   | succ j=>exact absurd ⟨j,d2,p',l',by simpa using h2,by simpa using h4⟩ n
  | succ i =>
   cases j with
   | zero =>
    simp only [List.getElem?_cons_zero,Option.some.injEq,V.ref.injEq] at h4;subst h4;exact absurd ⟨i,d1,p1,l1,by simpa using h1,by simpa using h3⟩ n
   | succ j=>exact congrArg (·+1) (r.inj i j d1 p1 l1 d2 p' l' b (by simpa using h1) (by simpa using h2) (by simpa using h3) (by simpa using h4))
theorem aL.cons {as:List Sl} {τ:St} {sl:Sl} {v:Option V} {a:Addr} (h:aL (sl :: as) (v :: τ) a):(∃ d p l,sl=.ow d p l∧v=some (.ref a))∨aL as τ a:=by
 obtain ⟨i,d,p,l,h1,h2⟩:=h
 cases i with
 | zero=>exact .inl ⟨d,p,l,by simpa using h1,by simpa using h2⟩
 | succ i=>exact .inr ⟨i,d,p,l,by simpa using h1,by simpa using h2⟩
structure Lent (K:PySem.W.Frag) (ρ:Env) (σ:St) (H G:Hp) (hs:List Hd) (xs:List V) (as:List Sl) (ρ1:Env) (G2:Hp):Prop where
 gg:aM G G2
 gn:∀ a,G2 a≠none→G a≠none∨aL ρ σ a∨lK hs xs a
 ra:Rel K as (xs.map some) H G2
 rc:Rel K ρ1 σ H G2
 ao:∀ a,aL as (xs.map some) a→aL ρ σ a∨lK hs xs a
 an:∀ a,aL as (xs.map some) a→¬ aL ρ1 σ a
 ro:∀ a,aL ρ1 σ a→aL ρ σ a
theorem j5:∀ (hs:List Hd) (pins:List Bool) (ρ:Env) (G:Hp) (xs:List V) (as:List Sl) (ρ1:Env),Rel K ρ σ H G→cV K H G (aL ρ σ) new σ hs xs→bE pins hs ρ=some (as,ρ1) →
  ∃ G2,Lent K ρ σ H G hs xs as ρ1 G2
 | [],pins,ρ,G,xs,as,ρ1,r,h,e=>by
  cases (show xs=[] from h)
  cases pins with
  | cons p ps=>simp [bE] at e
  | nil =>
   simp only [bE,Option.some.injEq,Prod.mk.injEq] at e;obtain ⟨rfl,rfl⟩:=e;exact ⟨G,aM.refl _,fun a z=>.inl z,Rel.nil r.sub,r,fun a ⟨i,d,p,l,z,_⟩=>by simp at z,fun a ⟨i,d,p,l,z,_⟩=>by simp at z,fun _ z=>z⟩
 | .val (.sh d) :: hs,pins,ρ,G,xs,as,ρ1,r,h,e=>by
  obtain ⟨x,r',rfl,h1,h2,h3⟩:=h
  cases pins with
  | nil=>simp [bE] at e
  | cons p ps =>
   simp only [bE] at e
   cases q:bE ps hs ρ with
   | none=>rw [q] at e; cases e
   | some y =>
    obtain ⟨as',ρ'⟩:=y;rw [q] at e;simp only [Option.map_some,Option.some.injEq,Prod.mk.injEq] at e;obtain ⟨rfl,rfl⟩:=e;obtain ⟨G2,L⟩:=j5 hs ps ρ G r' as' ρ' r h2 q;refine ⟨G2,L.gg,L.gn,L.ra.cons_sh (aD.mono L.gg d h1),L.rc,fun a z=>?_,fun a z=>?_,L.ro⟩
    ·rcases z.cons with ⟨_,_,_,z,_⟩ | z
     ·cases z
     ·exact L.ao a z
    ·rcases z.cons with ⟨_,_,_,z,_⟩ | z
     ·cases z
     ·exact L.an a z
 | .val (.ow d) :: hs,pins,ρ,G,xs,as,ρ1,r,h,e=>by
  obtain ⟨x,r',rfl,h1,h2,h3⟩:=h;obtain ⟨b,rfl,g,o,n,m⟩:=h1;have nt:¬ lK hs r' b:=h3 d b rfl rfl
  cases pins with
  | nil=>simp [bE] at e
  | cons p ps =>
   simp only [bE] at e
   cases q:bE ps hs ρ with
   | none=>rw [q] at e; cases e
   | some y =>
    obtain ⟨as',ρ'⟩:=y;rw [q] at e;simp only [Option.map_some,Option.some.injEq,Prod.mk.injEq] at e;obtain ⟨rfl,rfl⟩:=e
    cases p with
    | true =>
     obtain ⟨G2,L⟩:=j5 hs ps ρ G r' as' ρ' r h2 q
     have g2:G2 b=none:=by
      cases w:G2 b with
      | none=>rfl
      | some o' =>
       rcases L.gn b (by rw [w]; simp) with z | z | z
       ·exact absurd g z
       ·exact absurd z n
       ·exact absurd z nt
     have nb:¬ aL as' (r'.map some) b:=fun z=>by
      rcases L.ao b z with z | z
      ·exact n z
      ·exact nt z
     refine ⟨G2,L.gg,fun a z=>?_,L.ra.cons_ow g2 (o.mono L.gg fun _ z=>z) nb,L.rc,fun a z=>?_,fun a z=>?_,L.ro⟩
     ·rcases L.gn a z with z | z | z
      ·exact .inl z
      ·exact .inr (.inl z)
      ·exact .inr (.inr (.inr z))
     ·rcases z.cons with ⟨_,_,_,_,z⟩ | z
      ·cases z; exact .inr (.inl rfl)
      ·rcases L.ao a z with z | z
       ·exact .inl z
       ·exact .inr (.inr z)
     ·rcases z.cons with ⟨_,_,_,_,z⟩ | z
      ·cases z; exact fun w=>n (L.ro _ w)
      ·exact L.an a z
    | false =>
     obtain ⟨ob,hv,hr⟩:=o.put
     have tb:∀ a,lK hs r' a→(aV G b ob) a=none:=fun a z=>by
      have hb:a≠b:=fun w=>by subst w; exact nt z
      rw [aN hb];exact (h2.tmp_own z).2.2.2
     obtain ⟨G2,L⟩:=j5 hs ps ρ (aV G b ob) r' as' ρ' (r.grow hv g n) (h2.grow (aM.put g) tb fun _ z=>z) q;refine ⟨G2,(aM.put g).trans L.gg,fun a z=>?_,L.ra.cons_sh ?_,L.rc,fun a z=>?_,fun a z=>?_,L.ro⟩
     ·by_cases hb:a=b
      ·subst hb; exact .inr (.inr (.inl rfl))
      ·rcases L.gn a z with z | z | z
       ·rw [aN hb] at z; exact .inl z
       ·exact .inr (.inl z)
       ·exact .inr (.inr (.inr z))
     ·exact hr _ ((aM.put g).trans L.gg) (L.gg _ _ bC)
     ·rcases z.cons with ⟨_,_,_,z,_⟩ | z
      ·simp at z
      ·rcases L.ao a z with z | z
       ·exact .inl z
       ·exact .inr (.inr z)
     ·rcases z.cons with ⟨_,_,_,z,_⟩ | z
      ·simp at z
      ·exact L.an a z
 | .slot i :: hs,pins,ρ,G,xs,as,ρ1,r,h,e=>by
  obtain ⟨x,r',rfl,h1,h2,h3⟩:=h;have h1:σ[i]?=some (some x):=h1
  cases pins with
  | nil=>simp [bE] at e
  | cons p ps =>
   simp only [bE] at e;split at e
   ·rename_i d hd
    cases q:bE ps hs ρ with
    | none=>rw [q] at e; cases e
    | some y =>
     obtain ⟨as',ρ'⟩:=y;rw [q] at e;simp only [Option.map_some,Option.some.injEq,Prod.mk.injEq] at e;obtain ⟨rfl,rfl⟩:=e;obtain ⟨G2,L⟩:=j5 hs ps ρ G r' as' ρ' r h2 q;obtain ⟨v,h4,h5⟩:=r.sh i d hd;rw [h1] at h4; cases h4;refine ⟨G2,L.gg,L.gn,L.ra.cons_sh (aD.mono L.gg d h5),L.rc,fun a z=>?_,fun a z=>?_,L.ro⟩
     ·rcases z.cons with ⟨_,_,_,z,_⟩ | z
      ·cases z
      ·exact L.ao a z
     ·rcases z.cons with ⟨_,_,_,z,_⟩ | z
      ·cases z
      ·exact L.an a z
   ·rename_i d pin lk hd;obtain ⟨b,h4,g,o⟩:=r.ow i d pin lk hd;rw [h1] at h4; cases h4;have hown:aL ρ σ b:=⟨i,d,pin,lk,hd,h1⟩
    have nt:¬ lK hs r' b:=fun z=>(h2.tmp_own z).1 hown
    have nu:¬ aL (ρ.set i .un) σ b:=r.unset_not hd h1
    cases p with
    | true =>
     simp only at e
     cases q:bE ps hs (ρ.set i .un) with
     | none=>rw [q] at e; cases e
     | some y =>
      obtain ⟨as',ρ'⟩:=y;rw [q] at e;simp only [Option.map_some,Option.some.injEq,Prod.mk.injEq] at e;obtain ⟨rfl,rfl⟩:=e;obtain ⟨G2,L⟩:=j5 hs ps (ρ.set i .un) G r' as' ρ' (r.unset i) (h2.grow (aM.refl _) (fun a z=>(h2.tmp_own z).2.2.2) fun a z=>z.unset) q
      have g2:G2 b=none:=by
       cases w:G2 b with
       | none=>rfl
       | some o' =>
        rcases L.gn b (by rw [w]; simp) with z | z | z
        ·exact absurd g z
        ·exact absurd z nu
        ·exact absurd z nt
      have nb:¬ aL as' (r'.map some) b:=fun z=>by
       rcases L.ao b z with z | z
       ·exact nu z
       ·exact nt z
      refine ⟨G2,L.gg,fun a z=>?_,L.ra.cons_ow g2 (o.mono L.gg fun _ z=>z) nb,L.rc,fun a z=>?_,fun a z=>?_,fun a z=>(L.ro a z).unset⟩
      ·rcases L.gn a z with z | z | z
       ·exact .inl z
       ·exact .inr (.inl z.unset)
       ·exact .inr (.inr z)
      ·rcases z.cons with ⟨_,_,_,_,z⟩ | z
       ·cases z; exact .inl hown
       ·rcases L.ao a z with z | z
        ·exact .inl z.unset
        ·exact .inr z
      ·rcases z.cons with ⟨_,_,_,_,z⟩ | z
       ·cases z; exact fun w=>nu (L.ro _ w)
       ·exact L.an a z
    | false =>
     simp only at e;split at e
     ·cases e
     ·cases q:bE ps hs (ρ.set i (.sh d)) with
      | none=>rw [q] at e; cases e
      | some y =>
       obtain ⟨as',ρ'⟩:=y;rw [q] at e;simp only [Option.map_some,Option.some.injEq,Prod.mk.injEq] at e;obtain ⟨rfl,rfl⟩:=e;obtain ⟨ob,hv,hr⟩:=o.put
       have tb:∀ a,lK hs r' a→(aV G b ob) a=none:=fun a z=>by
        have hb:a≠b:=fun w=>by subst w; exact nt z
        rw [aN hb];exact (h2.tmp_own z).2.2.2
       have rb:∀ G2,aM (aV G b ob) G2→aD K G2 d (.ref b):=fun G2 s2=>hr _ ((aM.put g).trans s2) (s2 _ _ bC)
       obtain ⟨G2,L⟩:=j5 hs ps (ρ.set i (.sh d)) (aV G b ob) r' as' ρ' (((r.unset i).grow hv g nu).put_sh h1 (rb _ (aM.refl _)))
        (h2.grow (aM.put g) tb fun a z=>z.put_sh.unset) q
       refine ⟨G2,(aM.put g).trans L.gg,fun a z=>?_,L.ra.cons_sh (rb G2 L.gg),L.rc,fun a z=>?_,fun a z=>?_,fun a z=>(L.ro a z).put_sh.unset⟩
       ·by_cases hb:a=b
        ·subst hb; exact .inr (.inl hown)
        ·rcases L.gn a z with z | z | z
         ·rw [aN hb] at z; exact .inl z
         ·exact .inr (.inl z.put_sh.unset)
         ·exact .inr (.inr z)
       ·rcases z.cons with ⟨_,_,_,z,_⟩ | z
        ·cases z
        ·rcases L.ao a z with z | z
         ·exact .inl z.put_sh.unset
         ·exact .inr z
       ·rcases z.cons with ⟨_,_,_,z,_⟩ | z
        ·cases z
        ·exact L.an a z
   ·cases e
end
section
variable {K:PySem.W.Frag} {ρ ρ1 ρ0:Env} {σ τ:St} {H G H' G' H0 G0:Hp} {own own' new new':Addr→Prop}
theorem Rel.keep (r:Rel K ρ σ H G) (e:Ext own H G H' G') (n:∀ a,aL ρ σ a→¬ own a) (s:aM G' H'):Rel K ρ σ H' G':=by
 refine ⟨r.len,s,fun i d h=>?_,fun i d p l h=>?_,r.inj⟩
 ·obtain ⟨v,h1,h2⟩:=r.sh i d h;exact ⟨v,h1,aD.mono e.gg d h2⟩
 ·obtain ⟨a,h1,g,o⟩:=r.ow i d p l h;have na:=n a ⟨i,d,p,l,h,h1⟩;obtain ⟨vs,hv⟩:=o.there;exact ⟨a,h1,e.gn a (by rw [hv]; simp) g na,o.mono e.gg fun o' h'=>e.hh a o' h' na⟩
theorem Rel.tail {a:Sl} {as:List Sl} {v:Option V} (r:Rel K (a :: as) (v :: τ) H G):Rel K as τ H G:=by
 refine ⟨by have:=r.len; simpa using this,r.sub,fun i d h=>?_,fun i d p l h=>?_,fun i j d p l d' p' l' b h1 h2 h3 h4=>?_⟩
 ·simpa using r.sh (i+1) d (by simpa using h)
 ·simpa using r.ow (i+1) d p l (by simpa using h)
 ·have:=r.inj (i+1) (j+1) d p l d' p' l' b (by simpa using h1) (by simpa using h2) (by simpa using h3) (by simpa using h4)
  omega
theorem aL.tail {a:Sl} {as:List Sl} {v:Option V} {b:Addr} (h:aL as τ b):aL (a :: as) (v :: τ) b:=by
 obtain ⟨i,d,p,l,h1,h2⟩:=h;exact ⟨i+1,d,p,l,by simpa using h1,by simpa using h2⟩
theorem nS:∀ (hs:List Hd) (pins:List Bool) (as:List Sl) (xs:List V) (ρ ρ':Env),Rel K as (xs.map some) H G→Rel K ρ σ H G→(∀ a,aL as (xs.map some) a→¬ aL ρ σ a)→cV K H0 G0 own new σ hs xs →
  aR pins hs as ρ0 ρ=some ρ'→Rel K ρ' σ H G∧∀ a,aL ρ' σ a→aL ρ σ a∨aL ρ0 σ a
 | [],pins,as,xs,ρ,ρ',ra,r,n,h,e=>by
  cases pins with
  | nil =>
   cases as with
   | nil =>
    simp only [aR,Option.some.injEq] at e;subst e;exact ⟨r,fun _ z=>.inl z⟩
   | cons a as=>simp [aR] at e
  | cons p ps=>cases p <;> cases as <;> simp [aR] at e
 | h :: hs,pins,as,xs,ρ,ρ',ra,r,n,hh,e=>by
  obtain ⟨x,r',rfl,h1,h2,h3⟩:=hh
  cases pins with
  | nil=>simp [aR] at e
  | cons p ps =>
   cases as with
   | nil=>cases p <;> simp [aR] at e
   | cons a as' =>
    have skip:aR ps hs as' ρ0 ρ=some ρ'→Rel K ρ' σ H G∧∀ a,aL ρ' σ a→aL ρ σ a∨aL ρ0 σ a:=fun e' =>
     nS hs ps as' r' ρ ρ' ra.tail r (fun b z=>n b z.tail) h2 e'
    cases p with
    | false=>cases h <;> exact skip (by simpa [aR] using e)
    | true =>
     cases h with
     | val v=>exact skip (by simpa [aR] using e)
     | slot i =>
      have h1:σ[i]?=some (some x):=h1;simp only [aR] at e;split at e
      ·rename_i _ pin lk d p' l' hi;obtain ⟨b,hb,g,o⟩:=ra.ow 0 d p' l' rfl;simp only [List.map_cons,List.getElem?_cons_zero,Option.some.injEq] at hb;subst hb;have nb:¬ aL ρ σ b:=n b ⟨0,d,p',l',rfl,rfl⟩;have r2:Rel K (ρ.set i (.ow d pin lk)) σ H G:=(r.unset i).put_ow h1 g o fun z=>nb z.unset
       obtain ⟨r3,r4⟩:=nS hs ps as' r' (ρ.set i (.ow d pin lk)) ρ' ra.tail r2 (fun c z w=>by
        rcases w.put_ow h1 with rfl | w
        ·obtain ⟨j,d2,p2,l2,z1,z2⟩:=z
         have:=ra.inj 0 (j+1) d p' l' d2 p2 l2 c rfl (by simpa using z1) rfl (by simpa using z2)
         omega
        ·exact n c z.tail w.unset) h2 e
       refine ⟨r3,fun c z=>?_⟩;rcases r4 c z with z | z
       ·rcases z.put_ow h1 with rfl | z
        ·exact .inr ⟨i,_,pin,lk,hi,h1⟩
        ·exact .inl z.unset
       ·exact .inr z
      ·cases e
      ·exact skip e
def kL (pins:List Bool) (hs:List Hd) (i:Nat):Prop:=∃ j:Nat,pins[j]?=some true∧hs[j]?=some (.slot i)
theorem kL.cons {p:Bool} {ps:List Bool} {h:Hd} {hs:List Hd} {i:Nat} (l:kL ps hs i):kL (p :: ps) (h :: hs) i:=by
 obtain ⟨j,h1,h2⟩:=l;exact ⟨j+1,by simpa using h1,by simpa using h2⟩
theorem D4:∀ (hs:List Hd) (pins:List Bool) (ρ:Env) (as:List Sl) (ρ1:Env),bE pins hs ρ=some (as,ρ1)→∀ i:Nat,dE ρ[i]? ρ1[i]?∨(kL pins hs i∧∃ d p l,ρ[i]?=some (.ow d p l))
 | [],pins,ρ,as,ρ1,e,i=>by
  cases pins <;> simp [bE] at e;obtain ⟨_,rfl⟩:=e;exact .inl (dE.refl _)
 | h :: hs,pins,ρ,as,ρ1,e,i=>by
  cases pins with
  | nil=>cases h with
   | slot i=>simp [bE] at e
   | val v=>cases v <;> simp [bE] at e
  | cons p ps =>
   have fin:∀ {ρ':Env} {g:Sl},(bE ps hs ρ').map (fun (as,ρ')=>(g :: as,ρ'))=some (as,ρ1)→dE ρ'[i]? ρ1[i]?∨(kL ps hs i∧∃ d p l,ρ'[i]?=some (.ow d p l)):=by
    intro ρ' g e
    cases q:bE ps hs ρ' with
    | none=>rw [q] at e; cases e
    | some y =>
     obtain ⟨as',ρ2⟩:=y;rw [q] at e;simp only [Option.map_some,Option.some.injEq,Prod.mk.injEq] at e;obtain ⟨_,rfl⟩:=e;exact D4 hs ps ρ' as' ρ2 q i
   have same:∀ {g:Sl},(bE ps hs ρ).map (fun (as,ρ')=>(g :: as,ρ'))=some (as,ρ1)→dE ρ[i]? ρ1[i]?∨(kL (p :: ps) (h :: hs) i∧∃ d p l,ρ[i]?=some (.ow d p l)):=by
    intro g e;rcases fin e with z | ⟨z,w⟩
    ·exact .inl z
    ·exact .inr ⟨z.cons,w⟩
   cases h with
   | val v=>cases v <;> exact same e
   | slot i0 =>
    simp only [bE] at e;split at e
    ·exact same e
    ·rename_i d pin lk hd
     cases p with
     | true =>
      simp only at e;by_cases hi:i=i0
      ·subst hi;exact .inr ⟨⟨0,rfl,rfl⟩,d,pin,lk,hd⟩
      ·have:=fin e
       rw [List.getElem?_set_ne (fun z=>hi z.symm)] at this;rcases this with z | ⟨z,w⟩
       ·exact .inl z
       ·exact .inr ⟨z.cons,w⟩
     | false =>
      simp only at e;split at e
      ·cases e
      ·rename_i hp;simp only [Bool.or_eq_true,not_or,Bool.not_eq_true] at hp;have ev0:iO ρ (ρ.set i0 (.sh d)):=iO.set (by rw [hd]; exact hp.1);rcases fin e with z | ⟨z,d',p',l',w⟩
       ·exact .inl ((ev0 i).trans z)
       ·have:=ev0 i
        rw [w] at this;obtain ⟨d2,e2⟩:=this.ow_of;exact .inr ⟨z.cons,d2,p',l',e2⟩
    ·cases e
theorem mP:∀ (hs:List Hd) (pins:List Bool) (as:List Sl) (ρ ρ':Env),aR pins hs as ρ0 ρ=some ρ'→∀ i:Nat,(ρ'[i]?=ρ[i]?∨∃ d d' p l,ρ0[i]?=some (.ow d p l)∧ρ'[i]?=some (.ow d' p l)) ∧
  (kL pins hs i→(∃ d p l,ρ0[i]?=some (.ow d p l))→i<ρ.length→∃ d d' p l,ρ0[i]?=some (.ow d p l)∧ρ'[i]?=some (.ow d' p l))
 | [],pins,as,ρ,ρ',e,i=>by
  cases pins with
  | nil =>
   cases as with
   | nil =>
    simp only [aR,Option.some.injEq] at e;subst e;exact ⟨.inl rfl,fun ⟨j,h,_⟩=>by simp at h⟩
   | cons a as=>simp [aR] at e
  | cons p ps=>cases p <;> cases as <;> simp [aR] at e
 | h :: hs,pins,as,ρ,ρ',e,i=>by
  cases pins with
  | nil=>simp [aR] at e
  | cons p ps =>
   cases as with
   | nil=>cases p <;> simp [aR] at e
   | cons a as' =>
    have uncons:¬ (p=true∧h=.slot i)→kL (p :: ps) (h :: hs) i→kL ps hs i:=fun n ⟨j,h1,h2⟩=>by
     cases j with
     | zero =>
      simp only [List.getElem?_cons_zero,Option.some.injEq] at h1 h2;exact absurd ⟨h1,h2⟩ n
     | succ j=>exact ⟨j,by simpa using h1,by simpa using h2⟩
    have skip:¬ (p=true∧h=.slot i)∨¬ (∃ d p l,ρ0[i]?=some (.ow d p l))→aR ps hs as' ρ0 ρ=some ρ'→(ρ'[i]?=ρ[i]?∨∃ d d' p l,ρ0[i]?=some (.ow d p l)∧ρ'[i]?=some (.ow d' p l)) ∧
      (kL (p :: ps) (h :: hs) i→(∃ d p l,ρ0[i]?=some (.ow d p l))→i<ρ.length→∃ d d' p l,ρ0[i]?=some (.ow d p l)∧ρ'[i]?=some (.ow d' p l)):=fun n e'=>by
     obtain ⟨h1,h2⟩:=mP hs ps as' ρ ρ' e' i;refine ⟨h1,fun l o=>?_⟩;rcases n with n | n
     ·exact h2 (uncons n l) o
     ·exact absurd o n
    cases p with
    | false=>cases h <;> exact skip (.inl (by simp)) (by simpa [aR] using e)
    | true =>
     cases h with
     | val v=>exact skip (.inl (by simp)) (by simpa [aR] using e)
     | slot i0 =>
      simp only [aR] at e;split at e
      ·rename_i d0 pin lk d p' l' hi;obtain ⟨h1,h2⟩:=mP hs ps as' _ ρ' e i;by_cases hii:i=i0
       ·subst hii;refine ⟨?_,fun l o hl=>?_⟩
        ·rcases h1 with h1 | h1
         ·by_cases hl:i<ρ.length
          ·rw [List.getElem?_set_self hl] at h1;exact .inr ⟨_,_,_,_,hi,h1⟩
          ·exact .inl (by rw [h1,List.getElem?_eq_none (by rw [List.length_set]; omega),List.getElem?_eq_none (by omega)])
         ·exact .inr h1
        ·rcases h1 with h1 | h1
         ·rw [List.getElem?_set_self hl] at h1;exact ⟨_,_,_,_,hi,h1⟩
         ·exact h1
       ·rw [List.getElem?_set_ne (fun z=>hii z.symm)] at h1;refine ⟨h1,fun l o hl=>h2 (uncons (fun z=>hii (by have:=z.2; simp at this; exact this.symm)) l) o (by rw [List.length_set]; exact hl)⟩
      ·cases e
      ·rename_i hn1 hn2;refine skip ?_ e;by_cases hii:i=i0
       ·subst hii;refine .inr fun ⟨d,p,l,z⟩=>?_
        exact hn1 d p l z
       ·exact .inl fun z=>hii (by have:=z.2; simp at this; exact this.symm)
theorem kP {pins:List Bool} {f:List Sl→aE RV} {hs:List Hd} {xs:List V} {v:RV} {ρ':Env} (a:Aft K ρ0 σ H0 G0 ρ H G) (h:cV K H G (aL ρ σ) (dU H0) σ hs xs) (e:bZ pins f hs ρ=some (.ok v,ρ')) :
  ∃ as G2 as',Rel K as (xs.map some) H G2∧as.length=pins.length∧f as=some (.ok v,as')∧(aM G G2∧∀ c,aL as (xs.map some) c→aL ρ σ c∨lK hs xs c)∧∀ x H' G',Aft K as (xs.map some) H G2 as' H' G'→dO K H' G' (aL as' (xs.map some)) (dU H) v x →
   Aft K ρ0 σ H0 G0 ρ' H' G'∧dO K H' G' (aL ρ' σ) (dU H0) v x:=by
 unfold bZ at e
 cases q:bE pins hs ρ with
 | none=>rw [q] at e; cases e
 | some y =>
  obtain ⟨as,ρ1⟩:=y;rw [q] at e;simp only at e
  cases q2:f as with
  | none=>rw [q2] at e; cases e
  | some y =>
   obtain ⟨o,as'⟩:=y;rw [q2] at e;simp only at e
   cases q3:aR pins hs as' ρ ρ1 with
   | none=>rw [q3] at e; cases e
   | some ρ2 =>
    rw [q3] at e;simp only [Option.map_some,Option.some.injEq,Prod.mk.injEq] at e;obtain ⟨rfl,rfl⟩:=e;obtain ⟨G2,L⟩:=j5 hs pins ρ G xs as ρ1 a.rel h q;refine ⟨as,G2,as',L.ra, ?_,q2,⟨L.gg,L.ao⟩,fun x H' G' b hv=>?_⟩
    ·have:∀ (hs:List Hd) (pins:List Bool) (ρ:Env) (as:List Sl) (ρ1:Env),bE pins hs ρ=some (as,ρ1)→as.length=pins.length:=by
      intro hs
      induction hs with
      | nil =>
       intro pins ρ as ρ1 e;cases pins <;> simp [bE] at e;obtain ⟨rfl,_⟩:=e;rfl
      | cons h hs ih =>
       intro pins ρ as ρ1 e
       cases pins with
       | nil=>cases h with
        | slot i=>simp [bE] at e
        | val v=>cases v <;> simp [bE] at e
       | cons p ps =>
        have fin:∀ {o:Option (List Sl × Env)} {g:Sl},(o.map fun (as,ρ')=>(g :: as,ρ'))=some (as,ρ1)→(∀ as' ρ',o=some (as',ρ')→as'.length=ps.length)→as.length=(p :: ps).length:=by
         intro o g e k
         cases o with
         | none=>cases e
         | some y =>
          obtain ⟨as',ρ'⟩:=y;simp only [Option.map_some,Option.some.injEq,Prod.mk.injEq] at e;rw [← e.1,List.length_cons,List.length_cons,k as' ρ' rfl]
        cases h with
        | slot i =>
         simp only [bE] at e;split at e
         ·exact fin e fun as' ρ' z=>ih _ _ _ _ z
         ·split at e
          ·exact fin e fun as' ρ' z=>ih _ _ _ _ z
          ·split at e
           ·cases e
           ·exact fin e fun as' ρ' z=>ih _ _ _ _ z
         ·cases e
        | val v =>
         cases v with
         | sh d=>exact fin e fun as' ρ' z=>ih _ _ _ _ z
         | ow d=>exact fin e fun as' ρ' z=>ih _ _ _ _ z
     exact this hs pins ρ as ρ1 q
    ·have own_there:∀ c,aL as (xs.map some) c→H c≠none:=fun c z=>(L.ra.owned z).1
     have rc:Rel K ρ1 σ H' G':=L.rc.keep b.ext (fun c z w=>L.an c w z) b.rel.sub;obtain ⟨r3,r4⟩:=nS hs pins as' xs ρ1 ρ2 b.rel rc (fun c z w=>L.an c (b.own c z) w) h q3
     have own2:∀ c,aL ρ2 σ c→aL ρ σ c:=fun c z=>by
      rcases r4 c z with z | z
      ·exact L.ro c z
      ·exact z
     have hown:∀ c,aL as (xs.map some) c→aL ρ0 σ c∨H0 c=none:=fun c z=>by
      rcases L.ao c z with z | z
      ·exact .inl (a.own c z)
      ·exact .inr (h.tmp_own z).2.1
     have evo2:iO ρ ρ2:=fun i=>by
      obtain ⟨g1,g2⟩:=mP hs pins as' ρ1 ρ2 q3 i;rcases D4 hs pins ρ as ρ1 q i with z | ⟨z,o⟩
      ·rcases g1 with g1 | ⟨d,d',p,l,w1,w2⟩
       ·rw [g1]; exact z
       ·rw [w1,w2]; exact ⟨rfl,rfl⟩
      ·have hl:i<ρ1.length:=by
        obtain ⟨d,p,l,o⟩:=o;rw [L.rc.len,← a.rel.len];exact (List.getElem?_eq_some_iff.mp o).1
       obtain ⟨d,d',p,l,w1,w2⟩:=g2 z o hl;rw [w1,w2]; exact ⟨rfl,rfl⟩
     refine ⟨⟨r3,⟨a.ext.gg.trans (L.gg.trans b.ext.gg),fun c o hc nc=>?_,fun c z=>a.ext.hx c (b.ext.hx c z),fun c hc gc nc=>?_⟩,a.evo.trans evo2⟩, ?_⟩
     ·refine b.ext.hh c o (a.ext.hh c o hc nc) fun z=>?_
      rcases hown c z with z | z
      ·exact nc z
      ·rw [hc] at z; cases z
     ·have hc':H c≠none:=fun z=>hc (a.ext.hx c z)
      have g1:G c=none:=a.ext.gn c hc gc nc
      have g2:G2 c=none:=by
       cases w:G2 c with
       | none=>rfl
       | some o =>
        rcases L.gn c (by rw [w]; simp) with z | z | z
        ·exact absurd g1 z
        ·exact absurd (a.own c z) nc
        ·exact absurd (h.tmp_own z).2.1 hc
      refine b.ext.gn c hc' g2 fun z=>?_
      rcases hown c z with z | z
      ·exact nc z
      ·exact hc z
     ·cases v with
      | sh d=>exact hv
      | ow d =>
       obtain ⟨c,rfl,g,o,n,m⟩:=hv;exact ⟨c,rfl,g,o,fun z=>(a.rel.owned (own2 c z)).1 m,a.ext.hx c m⟩
noncomputable def yS (x:Exc) (o:aE RV):aE RV :=
 match o with
 | some (Out.ex y,as')=>@ite _ (y=x) (cl _) (some (Out.ok (.sh .non),as')) none
 | _=>none
theorem CO {x:Exc} {o:aE RV} {v:RV} {as':Env} (h:yS x o=some (.ok v,as')):o=some (.ex x,as'):=by
 unfold yS at h;split at h
 ·split at h
  ·rename_i hy;cases h;rw [hy]
  ·cases h
 ·cases h
theorem LG {pins:List Bool} {f:List Sl→aE RV} {hs:List Hd} {xs:List V} {x:Exc} {ρ':Env} (a:Aft K ρ0 σ H0 G0 ρ H G) (h:cV K H G (aL ρ σ) (dU H0) σ hs xs) (e:bZ pins f hs ρ=some (.ex x,ρ')) :
  ∃ as G2 as',Rel K as (xs.map some) H G2∧as.length=pins.length∧f as=some (.ex x,as')∧∀ H' G',Aft K as (xs.map some) H G2 as' H' G'→Aft K ρ0 σ H0 G0 ρ' H' G':=by
 have e':bZ pins (fun as=>yS x (f as)) hs ρ=some (.ok (.sh .non),ρ'):=by
  unfold bZ at e ⊢
  cases q:bE pins hs ρ with
  | none=>rw [q] at e; cases e
  | some y =>
   obtain ⟨as,ρ1⟩:=y;rw [q] at e;simp only at e ⊢
   cases q2:f as with
   | none=>rw [q2] at e; cases e
   | some y =>
    obtain ⟨o,as'⟩:=y;rw [q2] at e;simp only at e
    cases q3:aR pins hs as' ρ ρ1 with
    | none=>rw [q3] at e; cases e
    | some ρ2 =>
     rw [q3] at e;simp only [Option.map_some,Option.some.injEq,Prod.mk.injEq] at e;obtain ⟨rfl,rfl⟩:=e;have z:yS x (some (.ex x,as'))=some (.ok (.sh .non),as'):=if_pos rfl;rw [z];simp only [q3,Option.map_some]
 obtain ⟨as,G2,as',h1,h2,h3,_,h4⟩:=kP a h e';exact ⟨as,G2,as',h1,h2,CO h3,fun H' G' b=>(h4 .non H' G' b (by show aD K G' .non _; simp [aD])).1⟩
end
inductive GV where
 | no | con (d:D) | fn (f:String) | blt | cls (ns:List Str) | mth (tb:List (Str × String)) | sub (s n:List Str) | subx (s n:List Str) | exc | exs (cs:List Str)
structure CC where
 N:List Str
 names:List (Str × NameKind)
 gl:Str→GV
 top:Bool
noncomputable def CC.isGl (Γ:CC) (x:Str):Bool:=Γ.names.lookup x == some .globalImplicit
noncomputable def CC.isVis (Γ:CC) (x:Str):Bool:=Γ.names.lookup x == some .local || Γ.names.lookup x == some .cell || Γ.names.lookup x == some .free
noncomputable def gA (x:Str):Bool:=x == ("__debug__":Str) || x == ("__classdict__":Str) || x == ("__name__":Str)
noncomputable def CC.slot (Γ:CC) (x:Str):Option Nat:=if gA x then none else if Γ.isVis x then Γ.N.idxOf? x else none
noncomputable def CC.glob (Γ:CC) (x:Str):GV:=if gA x then .no else if Γ.isGl x then Γ.gl x else .no
noncomputable def o9 (Γ:CC) (x:Str):E :=
 match Γ.slot x with
 | some i=>.var i
 | none=>match Γ.glob x with
  | .con d=>.con d
  | _=>.bad
noncomputable def wF:Const→E
 | .none=>.con .non
 | .bool b=>.con (.bl b)
 | .int i=>.con (.int i)
 | .str s=>if PyData.strOk s then .con (.str s) else .bad
 | _=>.bad
noncomputable def IE (f:Str):Option BI :=
 if f=("len":Str) then some .len else if f=("abs":Str) then some .abs else if f=("int":Str) then some .int else if f=("list":Str) then some .list
 else if f=("tuple":Str) then some .tuple else if f=("min":Str) then some .min else if f=("max":Str) then some .max else if f=("all":Str) then some .all else if f=("repr":Str) then some .repr else none
noncomputable def JJ (Γ:CC):Expr→Option Ty
 | .Name x _=>match Γ.glob x with
  | .blt=>if x=("int":Str) then some .int else if x=("bool":Str) then some .bool else if x=("str":Str) then some .str else if x=("list":Str) then some .list else if x=("tuple":Str) then some .tuple else if x=("ValueError":Str) then some .verr else none
  | _=>none
 | _=>none
theorem dA {p:Prop} (h:false=true):p:=nomatch h
theorem lL {α:Type} {a:α} {p:Prop} (h:none=some a):p:=nomatch h
noncomputable def iP:Expr→Option Str
 | .Name x _=>some x
 | _=>none
noncomputable def DC:E→E
 | .omt=>.bad
 | c=>c
noncomputable def aW:Expr→Bool
 | .Starred _ _=>false
 | _=>true
noncomputable def col (x:Str):Str:=⟨#[58] ++ x.cps⟩
noncomputable def CC.globS (Γ:CC) (x:Str):GV:=if gA x then .no else if Γ.isGl x then Γ.gl (col x) else .no
noncomputable def RB (Γ:CC):List Expr→Option (List (List Str × List Str))
 | []=>some []
 | .Name x _ :: es=>(match Γ.globS x with
  | .subx s n=>(RB Γ es).map ((s,n) :: ·)
  | _=>none)
 | _=>none
noncomputable def AD (x:Str):Str:=⟨#[94] ++ x.cps⟩
noncomputable def CC.globE (Γ:CC) (x:Str):GV:=if gA x then .no else if Γ.isGl x then Γ.gl (AD x) else .no
noncomputable def HI (Γ:CC) (t:Expr) (a:E):E:=match t with
 | .Name x _=>(match Γ.globS x with
  | .sub s n=>.bad
  | .subx s n=>.bad
  | _=>.bad)
 | .Tuple es _ _=>(match RB Γ es with
  | some sn=>if es.length≤100 then .bad else .bad
  | none=>.bad)
 | _=>.bad
noncomputable def vL (Γ:CC) (args:List Expr) (cs:List E):E :=
 match args,cs with
 | [_,t],[a,_]=>(match JJ Γ t with | some ty=>.isi a [ty] | none=>HI Γ t a)
 | _,_=>.bad
noncomputable def IH (ks:List (Option Expr)) (vs:List Expr):E:=.bad
noncomputable def rD (m:Str):Str:=⟨#[46] ++ m.cps⟩
noncomputable def CA (Γ:CC) (x m:Str) (apos cpos:Pos) (args:List Expr) (cs:List E):E :=
 match Γ.gl (rD m) with
 | .mth tb=>if args.all aW && (apos.endLine == cpos.line) && decide (args.length<29) then (match Γ.slot x with | some i=>.meth i m tb cs | none=>.bad) else .bad
 | _=>match args,cs with
  | [a],[c]=>if aW a && (apos.endLine == cpos.line) && (m == ("append":Str)) then (match Γ.slot x with | some i=>.app i c | none=>.bad) else if aW a && (apos.endLine == cpos.line) && (m == ("extend":Str)) then (match Γ.slot x with | some i=>.ext i c | none=>.bad) else .bad
  | [],[]=>if (apos.endLine == cpos.line) && (m == ("bit_length":Str)) then .bad else .bad
  | [a,b],[c,c']=>if aW a && aW b && (apos.endLine == cpos.line) && (m == ("insert":Str)) then (match Γ.slot x with | some i=>.bad | none=>.bad) else .bad
  | _,_=>.bad
noncomputable def wV (Γ:CC) (m:Str) (apos cpos:Pos) (args:List Expr) (a:E) (cs:List E):E :=
 match Γ.gl (rD m) with
 | .mth tb=>if args.all aW && (apos.endLine == cpos.line) && decide (args.length<29) then .bad else .bad
 | _=>.bad
noncomputable def P5 (args:List Expr) (cs:List E):E:=.bif .len cs
noncomputable def aAz (cs:List E):E:=.bad
noncomputable def HC (args:List Expr) (cs:List E):E:=.bif .list cs
noncomputable def v9 (f:Str) (args:List Expr) (cs:List E):E :=
 if f=("len":Str) then P5 args cs else if f=("set":Str) then aAz cs else if f=("range":Str) then .bad else if f=("list":Str) then HC args cs else (match IE f with | some b=>.bif b cs | none=>.bad)
noncomputable def DJ:Expr→Bool
 | .ListComp _ _ _ _=>true
 | _=>false
noncomputable def b4:Expr→Bool
 | .ListComp _ _ _ _=>false
 | .SetComp _ _ _ _=>false
 | .DictComp _ _ _ _ _=>false
 | _=>true
noncomputable def v7:Expr→Bool
 | .Slice _ _ _ _=>false
 | _=>true
noncomputable def xB:Expr→Bool
 | .Set _ _ _=>false
 | _=>true
noncomputable def r9:Expr→Bool
 | .Tuple _ _ _=>false
 | _=>true
noncomputable def CC.isLoc (Γ:CC) (x:Str):Bool:=Γ.names.lookup x == some .local || (Γ.top && Γ.names.lookup x == some .cell)
noncomputable def CC.slotL (Γ:CC) (x:Str):Option Nat:=if Γ.isLoc x then Γ.slot x else none
noncomputable def DR (Γ:CC):Expr→Option Nat
 | .Name x _=>Γ.slotL x
 | _=>none
noncomputable def fZ (Γ:CC):List Expr→Option (List Nat)
 | []=>some []
 | e :: es=>(DR Γ e).bind fun i=>(fZ Γ es).map (i :: ·)
noncomputable def jK (Γ:CC):Expr→Option (Bool × List Nat)
 | .Name x _=>(Γ.slotL x).map fun i=>(true,[i])
 | .Tuple es _ _=>(fZ Γ es).map fun is=>(false,is)
 | _=>none
noncomputable def pV (Γ:CC):Expr→Option (ItK × List Expr)
 | .Call (.Name f p) args [] pos=>if (f == ("range":Str)) then
   (match Γ.glob f with
   | .blt=>if args.all aW && (args.length == 1 || args.length == 2) then some (.rng,args) else none
   | _=>none)
  else if (f == ("enumerate":Str)) then
   (match Γ.glob f with
   | .blt=>if args.all aW && (args.length == 1) then some (.enum 0,args) else none
   | _=>none)
  else some (.of,[.Call (.Name f p) args [] pos])
 | .Call (.Name f p) [a] [⟨some x,.Constant (.int c) j q,kp⟩] pos=>if f == ("enumerate":Str) && x == ("start":Str) && aW a && c == 1 then
   (match Γ.glob f with
   | .blt=>some (.enum 1,[a])
   | _=>none)
  else none
 | e=>if xB e then some (.of,[e]) else none
noncomputable def JF:Expr→Bool
 | .Slice none none (some (.UnaryOp .USub (.Constant (.int i) _ _) _)) _=>i == 1
 | _=>false
noncomputable def dS (scope:Scope):List Str:=(scope.names.filter fun p=>p.2 == NameKind.free).map (·.1)
noncomputable def dG (scope:Scope):List Str:=(scope.names.filter fun p=>p.2 == NameKind.local).map (·.1)
noncomputable def CC.inner (Γ:CC) (scope:Scope):CC :=
 ⟨dS scope ++ dG scope,scope.names.map fun (n,k)=>if (k == NameKind.free && Γ.names.lookup n == some .cell) then (n,NameKind.cell) else (n,k),Γ.gl,false⟩
noncomputable def CC.imps (Γ:CC):List Str→Option (List Nat)
 | []=>some []
 | x :: xs=>(Γ.N.idxOf? x).bind fun i=>(Γ.imps xs).map (i :: ·)
noncomputable def CC.scOk (Γ:CC) (scope:Scope):Bool:=(scope.kind == ScopeKind.function) && (scope.names.all fun p=>p.2 != NameKind.cell) && (scope.names.all fun p=>p.2 != NameKind.local || scope.names.lookup p.1 == some NameKind.local) &&
 (scope.names.all fun p=>p.2 != NameKind.free || (scope.names.lookup p.1 == some NameKind.free && (Γ.names.lookup p.1 == some NameKind.cell || Γ.names.lookup p.1 == some NameKind.free))) && decide (dS scope ++ dG scope).Nodup
noncomputable def X7 (k:ItK) (ci:E) (cargs:List E):List E:=match k with
 | .of=>[ci]
 | _=>cargs
noncomputable def kM (k:ItK) (one:Bool):Bool:=match k with
 | .enum _=>!one
 | _=>true
noncomputable def nH (Γ:CC) (scope:Scope) (tg iter:Expr) (ci:E) (cargs cond:List E) (ce:E):E :=
 if Γ.scOk scope then
  match Γ.imps (dS scope),jK (Γ.inner scope) tg,pV Γ iter with
  | some imp,some (one,is),some (k,_)=>if one == (is.length == 1) && kM k one && k != .enum 1 then .comp ce is k (X7 k ci cargs) cond imp (dG scope).length else .bad
  | _,_,_=>.bad
 else .bad
mutual
noncomputable def cE (Γ:CC):Expr→E
 | .Name x _=>o9 Γ x
 | .Constant c _ _=>wF c
 | .Tuple es _ _=>if es.all aW then .tup (bT Γ es) else .bad
 | .List es _=>if es.all aW then .lst (bT Γ es) else .bad
 | .Dict ks vs _=>IH ks vs
 | .BinOp a op b _=>.bin op (cE Γ a) (cE Γ b)
 | .UnaryOp .Not a _=>.not (cE Γ a)
 | .UnaryOp .USub a _=>.neg (cE Γ a)
 | .Compare a [op] [b] _=>if behindInMarks op b then .bad else .cmp op (cE Γ a) (cE Γ b)
 | .Compare a [op,op'] [b,c] _=>if behindInMarks op' c then .bad else .cmp2 op op' (cE Γ a) (cE Γ b) (cE Γ c)
 | .BoolOp .And (a :: b :: r) _=>.and (cE Γ a) (QE Γ (b :: r))
 | .BoolOp .Or (a :: b :: r) _=>.or (cE Γ a) (X1 Γ (b :: r))
 | .IfExp c a b _=>.bad
 | .Subscript a (.Slice lo hi none _) _=>.sl (cE Γ a) (cO Γ lo) (cO Γ hi)
 | .Subscript a i _=>if JF i then .rev (cE Γ a) else .ix (cE Γ a) (cE Γ i)
 | .Call (.Name f _) args [] _=>if args.all aW && decide (args≠[]) then
   match Γ.glob f with
   | .fn g=>.call g (bT Γ args)
   | .cls ns=>.make f ns (bT Γ args)
   | .blt=>if f=("isinstance":Str) then vL Γ args (bT Γ args)
     else v9 f args (bT Γ args)
   | _=>.bad
  else .bad
 | .Call (.Attribute (.Name x _) m apos) args [] cpos=>CA Γ x m apos cpos args (bT Γ args)
 | .Call (.Attribute (.Call g (a0 :: as0) kw p) m apos) args [] cpos=>wV Γ m apos cpos args (cE Γ (.Call g (a0 :: as0) kw p)) (bT Γ args)
 | .Attribute (.Name x _) f _=>.fld (o9 Γ x) f
 | .ListComp elt [⟨tg,iter,[],0⟩] scope _=>nH Γ scope tg iter (cE Γ iter) (BL Γ iter) [] (cE (Γ.inner scope) elt)
 | .ListComp elt [⟨tg,iter,[c],0⟩] scope _=>nH Γ scope tg iter (cE Γ iter) (BL Γ iter) [cE (Γ.inner scope) c] (cE (Γ.inner scope) elt)
 | _=>.bad
noncomputable def BL (Γ:CC):Expr→List E
 | .Call _ args _ _=>bT Γ args
 | _=>[]
noncomputable def bT (Γ:CC):List Expr→List E
 | []=>[]
 | e :: es=>cE Γ e :: bT Γ es
noncomputable def QE (Γ:CC):List Expr→E
 | []=>.bad
 | [a]=>cE Γ a
 | a :: b :: r=>.and (cE Γ a) (QE Γ (b :: r))
noncomputable def X1 (Γ:CC):List Expr→E
 | []=>.bad
 | [a]=>cE Γ a
 | a :: b :: r=>.or (cE Γ a) (X1 Γ (b :: r))
noncomputable def cO (Γ:CC):Option Expr→E
 | none=>.omt
 | some e=>DC (cE Γ e)
end
noncomputable def K0 (K:PySem.W.Frag) (n:Nat) (run:List Sl→aE RV):Sp:=fun vs H Q _=>vs.length=n∧∃ (as:List Sl) (G:Hp) (v:RV) (as':List Sl),Rel K as (vs.map some) H G∧as.length=n∧run as=some (.ok v,as') ∧
 ∀ x H' G',Aft K as (vs.map some) H G as' H' G'→dO K H' G' (aL as' (vs.map some)) (dU H) v x→Q x H'
structure FnAt (X:Cx) (K:PySem.W.Frag) (x:Str) (n:Nat) (run:List Sl→aE RV):Prop where
 ex:∃ (fa:Addr) (fd:FuncData) (ps:List Str) (k:Nat),FnOk X.prog X.w X.K X.mg X.base sL k fa fd ps (K0 K n run)∧Room k X.A∧X.mg x=some (.ref fa)∧PySem.W.keepIn X.K (.ref fa)=true∧eS X.K fd ps []
noncomputable def K2 (K:PySem.W.Frag) (ns:List Str):Sp:=fun vs H Q _=>∃ a C dx xs,vs=.ref a :: xs∧xs.length=ns.length∧H a=some (.ins C dx [])∧ClsF K C ns∧Q .non (aV H a (.ins C dx (ns.zip xs)))
structure MkAt (X:Cx) (K:PySem.W.Frag) (x:Str) (ns:List Str):Prop where
 ex:∃ (Ca fa:Addr) (fd:FuncData) (ps:List Str),PySem.W.nsIn K mainGlobals x=some (some (.ref Ca))∧X.mg x=some (.ref Ca)∧Mk X.K Ca fa∧ClsF K Ca ns∧FnOk X.prog X.w X.K X.mg X.base sL 1 fa fd ps (K2 K ns)∧eS X.K fd ps []
structure MethAt (X:Cx) (K:PySem.W.Frag) (c m:Str) (n:Nat) (run:List Sl→aE RV):Prop where
 ex:∃ (Ca fa:Addr) (fd:FuncData) (ps:List Str) (k:Nat),PySem.W.nsIn K mainGlobals c=some (some (.ref Ca))∧Meth X.K Ca m fa∧FnOk X.prog X.w X.K X.mg X.base sL k fa fd ps (K0 K n run)∧Room k X.A∧eS X.K fd ps []∧Cls K Ca
structure NotC (K:PySem.W.Frag) (D C:Addr):Prop where
 a:PySem.W.kin_not K D C=true
 b:PySem.W.plainGet K D "__class__"=true
 c:PySem.W.hasDictIn K D=true
 d:PySem.W.findIn K (.ref D) "__class__"=some (some (.builtin "object.__class__"))
 e:PySem.W.specialIn K (.builtin "object.__class__") "__get__"=some (some (.builtin "getset_descriptor.__get__"))
 f:PySem.W.takesIn K (.builtin "object.__class__")=some true
 g:PySem.W.mroIn K D (.type "object")=some true
structure SubAt (K:PySem.W.Frag) (mg:Str→Option Value) (x:Str) (s n:List Str):Prop where
 ex:∃ C,mg x=some (.ref C)∧(∀ c∈s,∀ Ca,PySem.W.nsIn K mainGlobals c=some (some (.ref Ca))→PySem.W.isIn K (.ref Ca) C=true)∧∀ c∈n,∀ Ca,PySem.W.nsIn K mainGlobals c=some (some (.ref Ca))→NotC K Ca C
noncomputable def spX (K:PySem.W.Frag) (n:Nat) (run:List Sl→aE RV):Sp:=fun vs H _ E=>vs.length=n∧∃ (as:List Sl) (G:Hp) (x:Exc) (as':List Sl),Rel K as (vs.map some) H G∧as.length=n∧run as=some (.ex x,as') ∧
 ∀ H' G' C,Aft K as (vs.map some) H G as' H' G'→PySem.W.nsIn K mainGlobals x.cls=some (some (.ref C))→ExcG K C→E (.ref C) none H'
structure FnAtX (X:Cx) (K:PySem.W.Frag) (x:Str) (n:Nat) (run:List Sl→aE RV):Prop where
 ex:∃ (fa:Addr) (fd:FuncData) (ps:List Str) (k:Nat),FnOk X.prog X.w X.K X.mg X.base (uH X.prog X.w) k fa fd ps (spX K n run)∧Room k X.A∧X.mg x=some (.ref fa)∧PySem.W.keepIn X.K (.ref fa)=true∧eS X.K fd ps []
structure ExcAt (K:PySem.W.Frag) (mg:Str→Option Value) (x:Str):Prop where
 ex:∃ C,PySem.W.nsIn K mainGlobals x=some (some (.ref C))∧mg x=some (.ref C)∧ExcG K C
structure ExsAt (K:PySem.W.Frag) (mg:Str→Option Value) (x:Str) (cs:List Str):Prop where
 ex:∃ D,mg x=some (.ref D)∧PySem.W.excIn K D uZ "ValueError.__new__"=true∧∀ c∈cs,∀ C,PySem.W.nsIn K mainGlobals c=some (some (.ref C))→PySem.W.mroIn K C (.ref D)=some true
structure SubX (K:PySem.W.Frag) (mg:Str→Option Value) (x:Str) (s n:List Str):Prop where
 ex:∃ D,mg x=some (.ref D)∧(∀ c∈s,∀ C,PySem.W.nsIn K mainGlobals c=some (some (.ref C))→PySem.W.isIn K (.ref C) D=true)∧∀ c∈n,∀ C,PySem.W.nsIn K mainGlobals c=some (some (.ref C))→PySem.W.kin_not K C D=true
structure XOkB (q:Bool) (X:Cx) (K:PySem.W.Frag) (P:aK) (C:Calls) (Γ:CC):Prop where
 keq:X.K=K
 neq:X.N=Γ.N
 nm:X.env.scope.names=Γ.names
 nd:Γ.N.Nodup
 con:∀ x d,Γ.gl x=.con d→∃ u v,X.mg x=some u∧a7 v u∧∀ G,aD K G d v
 blt:∀ x,Γ.gl x=.blt→X.mg x=none
 sub:∀ x s n,Γ.gl (col x)=.sub s n→SubAt K X.mg x s n
 subx:∀ x s n,Γ.gl (col x)=.subx s n→SubX K X.mg x s n
 cond:q=true→X.calm=true∧X.A.handled=none∧X.A.units+64<cLine∧(∀ x f,Γ.gl x=.fn f→FnAt X K x (P f).length (C f))∧(∀ x ns,Γ.gl x=.cls ns→MkAt X K x ns) ∧
  (∀ m tb c f,Γ.gl (rD m)=.mth tb→tb.lookup c=some f→MethAt X K c m (P f).length (C f))∧Room 2 X.A∧(∀ x,Γ.gl x=.exc→ExcAt K X.mg x)∧(∀ x cs,Γ.gl (AD x)=.exs cs→ExsAt K X.mg x cs)∧(∀ x f,Γ.gl x=.fn f→FnAtX X K x (P f).length (C f))∧∃ env0 outer0 L,X.stack=env0 :: outer0∧env0.frame=some L∧X.env.frame=some L
abbrev bA (X:Cx) (K:PySem.W.Frag) (P:aK) (C:Calls) (Γ:CC):Prop:=XOkB true X K P C Γ
section
variable {X:Cx} {K:PySem.W.Frag} {P:aK} {C:Calls} {Γ:CC}
theorem XOkB.calm (o:XOkB true X K P C Γ):X.calm=true:=(o.cond rfl).1
theorem XOkB.hh (o:XOkB true X K P C Γ):X.A.handled=none:=(o.cond rfl).2.1
theorem XOkB.hu (o:XOkB true X K P C Γ):X.A.units+64<cLine:=(o.cond rfl).2.2.1
theorem XOkB.fn (o:XOkB true X K P C Γ):∀ x f,Γ.gl x=.fn f→FnAt X K x (P f).length (C f):=(o.cond rfl).2.2.2.1
theorem XOkB.cls (o:XOkB true X K P C Γ):∀ x ns,Γ.gl x=.cls ns→MkAt X K x ns:=(o.cond rfl).2.2.2.2.1
theorem XOkB.mth (o:XOkB true X K P C Γ):∀ m tb c f,Γ.gl (rD m)=.mth tb→tb.lookup c=some f→MethAt X K c m (P f).length (C f):=(o.cond rfl).2.2.2.2.2.1
theorem XOkB.rm (o:XOkB true X K P C Γ):Room 2 X.A:=(o.cond rfl).2.2.2.2.2.2.1
theorem XOkB.exc (o:XOkB true X K P C Γ):∀ x,Γ.gl x=.exc→ExcAt K X.mg x:=(o.cond rfl).2.2.2.2.2.2.2.1
theorem XOkB.exs (o:XOkB true X K P C Γ):∀ x cs,Γ.gl (AD x)=.exs cs→ExsAt K X.mg x cs:=(o.cond rfl).2.2.2.2.2.2.2.2.1
theorem XOkB.fnX (o:XOkB true X K P C Γ):∀ x f,Γ.gl x=.fn f→FnAtX X K x (P f).length (C f):=(o.cond rfl).2.2.2.2.2.2.2.2.2.1
theorem XOkB.tp (o:XOkB true X K P C Γ):∃ env0 outer0 L,X.stack=env0 :: outer0∧env0.frame=some L∧X.env.frame=some L:=(o.cond rfl).2.2.2.2.2.2.2.2.2.2
theorem bA.of (keq:X.K=K) (neq:X.N=Γ.N) (nm:X.env.scope.names=Γ.names) (nd:Γ.N.Nodup) (calm:X.calm=true) (hh:X.A.handled=none) (hu:X.A.units+64<cLine)
  (con:∀ x d,Γ.gl x=.con d→∃ u v,X.mg x=some u∧a7 v u∧∀ G,aD K G d v) (blt:∀ x,Γ.gl x=.blt→X.mg x=none) (fn:∀ x f,Γ.gl x=.fn f→FnAt X K x (P f).length (C f)) (cls:∀ x ns,Γ.gl x=.cls ns→MkAt X K x ns)
  (mth:∀ m tb c f,Γ.gl (rD m)=.mth tb→tb.lookup c=some f→MethAt X K c m (P f).length (C f)) (rm:Room 2 X.A) (sub:∀ x s n,Γ.gl (col x)=.sub s n→SubAt K X.mg x s n) (subx:∀ x s n,Γ.gl (col x)=.subx s n→SubX K X.mg x s n)
  (exc:∀ x,Γ.gl x=.exc→ExcAt K X.mg x) (exs:∀ x cs,Γ.gl (AD x)=.exs cs→ExsAt K X.mg x cs) (fnX:∀ x f,Γ.gl x=.fn f→FnAtX X K x (P f).length (C f)) (tp:∃ env0 outer0 L,X.stack=env0 :: outer0∧env0.frame=some L∧X.env.frame=some L):bA X K P C Γ :=
 ⟨keq,neq,nm,nd,con,blt,sub,subx,fun _=>⟨calm,hh,hu,fn,cls,mth,rm,exc,exs,fnX,tp⟩⟩
end
structure Ok3 (X:Cx) (K:PySem.W.Frag) (P:aK) (C:Calls) (e:Expr) (c:E):Prop where
 v:PE X e (tE K P C c)
 t:PT X e (tT K P C c)
 h:PE X e (tH K P C c)
section
variable {X:Cx} {K:PySem.W.Frag} {P:aK} {C:Calls} {Γ:CC}
theorem aDs {e:Expr} {c:E} (h:∀ t ρ,ev P C t c ρ=none) (n:∀ i,c≠.var i):Ok3 X K P C e c:=by
 have v:PE X e (tE K P C c):=fun pins s σ H Q I ⟨ρ,G,w,ρ',r,z,k⟩=>by rw [h] at z; cases z
 exact ⟨v,(fun pins s σ H Q I ⟨ρ,G,w,ρ',r,z,k⟩=>by rw [h] at z; cases z),tV v n⟩
theorem aS {e:Expr}:Ok3 X K P C e .bad:=aDs (fun t ρ=>by rw [ev]) fun i z=>nomatch z
theorem kR {e:Expr} {c:E} {q:Bool} (xo:XOkB q X K P C Γ) (h:PE X e (tE K P C c)) (n:∀ i,c≠.var i) (hw:∀ ρ,ev P C true c ρ=bJ true (ev P C false c ρ))
  (he:∀ whole,isTrue e X.env whole=(do let v ← whole; standAt e.pos; holding [v] (truthy v))):Ok3 X K P C e c:=⟨h,aCL xo.keq h hw he,tV h n⟩
theorem nL {α:Type} [BEq α] [LawfulBEq α] {l:List α} {x:α} {i:Nat} (h:l.idxOf? x=some i):l[i]?=some x:=by
 rw [List.idxOf?,List.findIdx?_eq_some_iff_getElem] at h;obtain ⟨h1,h2,_⟩:=h;rw [List.getElem?_eq_getElem h1];exact congrArg some (eq_of_beq h2)
theorem CC.slot_ok {q:Bool} (xo:XOkB q X K P C Γ) {x:Str} {i:Nat} (h:Γ.slot x=some i) {pos:Pos}:PE X (.Name x pos) (r6 i):=by
 unfold CC.slot at h;split at h
 ·cases h
 ·rename_i hb;split at h
  ·rename_i hv;simp only [gA,Bool.or_eq_true,not_or,Bool.not_eq_true] at hb;refine DX (by rw [xo.neq]; exact nL h) ?_ hb.1.1 hb.1.2;unfold CC.isVis at hv;simp only [Bool.or_eq_true,beq_iff_eq] at hv;unfold GU;rw [xo.nm];rcases hv with (h | h) | h
   ·exact .inl h
   ·exact .inr (.inl h)
   ·exact .inr (.inr h)
  ·cases h
theorem CC.glob_ok {q:Bool} (xo:XOkB q X K P C Γ) {x:Str} {g:GV} (h:Γ.glob x=g) (hg:g≠.no):Gl X x∧Γ.gl x=g∧(x == ("__debug__":Str))=false∧x≠"__name__":=by
 unfold CC.glob at h;split at h
 ·exact absurd h.symm hg
 ·rename_i hb;split at h
  ·rename_i hv;simp only [gA,Bool.or_eq_true,not_or,Bool.not_eq_true] at hb;refine ⟨?_,h,hb.1.1,fun z=>?_⟩
   ·unfold Gl Env.kindOf;rw [xo.nm];unfold CC.isGl at hv;simpa using hv
   ·have:=hb.2
    rw [z] at this;simp at this
  ·exact absurd h.symm hg
theorem tI {e:Expr} {d:D} {v:V} {q:Bool} (xo:XOkB q X K P C Γ) (h:PE X e (tC v)) (r:∀ G,aD K G d v) (he:∀ whole,isTrue e X.env whole=(do let v ← whole; standAt e.pos; holding [v] (truthy v))):Ok3 X K P C e (.con d):=by
 refine kR xo (TE.imp_pe h fun σ H Q q=>?_) (fun i z=>nomatch z) (fun ρ=>by simp only [ev,aQ]) he;obtain ⟨ρ,G,w,ρ',r',z,k⟩:=q;simp only [ev,aQ] at z;cases z;exact k v H G (Aft.refl r') (r G)
theorem GB {q:Bool} (xo:XOkB q X K P C Γ) (x:Str) (pos:Pos):Ok3 X K P C (.Name x pos) (o9 Γ x):=by
 unfold o9;split
 ·rename_i i hi;have hp:=CC.slot_ok xo hi (pos:=pos);refine ⟨U6 hp, ?_,S7 hp⟩
  -- a test of a local: looked at
  refine TT.imp_pt (BW hp fun _=>rfl) fun σ H Q q=>?_
  obtain ⟨ρ,G,b,ρ',r,e1,k⟩:=q;simp only [ev] at e1;obtain ⟨u,b',e2,e3,e4⟩:=GD e1;cases e4
  cases w:(ρ[i]?).bind Sl.get with
  | none=>rw [w] at e2; cases e2
  | some d =>
   rw [w] at e2;simp only [Option.map_some,Option.some.injEq,Prod.mk.injEq,Out.ok.injEq] at e2;obtain ⟨rfl,rfl⟩:=e2;obtain ⟨x,hx⟩:=r.bound (i:=i) (by rw [w]; rfl);exact ⟨x,hx,b,by rw [xo.keq]; exact vG r.sub (r.get w hx) e3,k H G (Aft.refl r)⟩
 ·split
  ·rename_i d hd;obtain ⟨h1,h2,h3,h4⟩:=CC.glob_ok xo hd (fun z=>nomatch z);obtain ⟨u,v,hm,hr,hrep⟩:=xo.con x d h2;exact tI xo (UC h1 hm hr h3) hrep fun _=>rfl
  ·exact aS
theorem DE {q:Bool} (xo:XOkB q X K P C Γ) (c:Const) (k:Nat) (pos:Pos):Ok3 X K P C (.Constant c k pos) (wF c):=by
 cases c with
 | none=>exact tI xo MG (fun G=>by simp [aD]) fun _=>rfl
 | bool b=>exact tI xo aB6 (fun G=>by simp [aD]) fun _=>rfl
 | int i=>exact tI xo KL (fun G=>by simp [aD]) fun _=>rfl
 | str s =>
  simp only [wF];split
  ·rename_i h;exact tI xo aBG (fun G=>by simp only [aD]; exact ⟨trivial,h⟩) fun _=>rfl
  ·exact aS
 | _=>exact aS
theorem bI {e:Expr} (h:aW e=true) (es:List Expr) (env:PySem.Env):starEach (e :: es) env=(false,eval e env) :: starEach es env:=by
 cases e <;> first | rfl | cases h
theorem TJ:PA X [] (AH K P C []):=by
 refine TA.imp_pa sG fun σ H Q q=>?_
 obtain ⟨ρ,G,ds,ρ',r,e,k⟩:=q;simp only [jJ,Option.some.injEq,Prod.mk.injEq,Out.ok.injEq] at e;obtain ⟨rfl,rfl⟩:=e;exact k [] H G (Aft.refl r) aB.nil
theorem NT {e:Expr} {es:List Expr} {c:E} {cs:List E} (h:Ok3 X K P C e c) (t:PA X es (AH K P C cs)) (ns:aW e=true):PA X (e :: es) (AH K P C (c :: cs)):=by
 refine TA.imp_pa (kC h.v t (bI ns _ _)) fun σ H Q q=>?_
 obtain ⟨ρ,G,ds,ρ',r,e,k⟩:=q;rw [jJ] at e;obtain ⟨v,ρ1,e1,e2⟩:=aJ e;obtain ⟨ds',ρ2,e3,e4⟩:=aJ e2;cases e4;refine ⟨ρ,G,v,ρ1,r,e1,fun x H1 G1 a1 hx=>?_⟩;obtain ⟨G1',a1',rx⟩:=a1.share hx;refine ⟨ρ1,G1',ds',_,a1'.rel,e3,fun xs H2 G2 a2 hxs=>?_⟩;exact k (x :: xs) H2 G2 (a1'.trans a2) (aB.cons (aD.mono a2.ext.gg _ rx) hxs)
theorem TR:PA X [] (mX K P C []):=by
 refine TA.imp_pa sG fun σ H Q q=>?_
 obtain ⟨ρ,G,ds,ρ',r,e,k⟩:=q;simp only [cD,Option.some.injEq,Prod.mk.injEq,Out.ok.injEq] at e;obtain ⟨rfl,rfl⟩:=e;exact k [] H G (Aft.refl r) rfl
theorem cV.new_mono {H G:Hp} {own new new':Addr→Prop} {σ:St} (w:∀ a,new a→new' a):∀ {hs:List Hd} {xs:List V},cV K H G own new σ hs xs→cV K H G own new' σ hs xs
 | [],_,h=>h
 | h :: hs,_,r=>by
  obtain ⟨x,r',rfl,h1,h2,h3⟩:=r;exact ⟨x,r',rfl,h1.new_mono w,cV.new_mono w h2,h3⟩
theorem NQ {e:Expr} {es:List Expr} {c:E} {cs:List E} (h:Ok3 X K P C e c) (t:PA X es (mX K P C cs)) (ns:aW e=true):PA X (e :: es) (mX K P C (c :: cs)):=by
 refine TA.imp_pa (kC h.h t (bI ns _ _)) fun σ H Q q=>?_
 obtain ⟨ρ,G,ds,ρ',r,e,k⟩:=q;rw [cD] at e;obtain ⟨v,ρ1,e1,e2⟩:=aJ e;obtain ⟨ds',ρ2,e3,e4⟩:=aJ e2;cases e4;refine ⟨ρ,G,v,ρ1,r,e1,fun x H1 G1 a1 hx=>⟨ρ1,G1,ds',_,a1.rel,e3,fun xs H2 G2 a2 hxs=>?_⟩⟩;refine k (x :: xs) H2 G2 (a1.trans a2) ⟨x,xs,rfl,hx.wait a2.ext fun a z=>.inl (a2.own a z),hxs.new_mono fun a z=>a1.ext.hx a z,fun d a hd ha ht=>?_⟩;subst hd;obtain ⟨b,e5,g,o,n,m⟩:=hx;rw [ha] at e5; cases e5;obtain ⟨vs,hv⟩:=o.there
 have:=(hxs.tmp_own ht).2.1
 rw [show H1 a=none from this] at hv;cases hv
theorem cV.getAll {H G:Hp} {own new:Addr→Prop} {σ:St} {ρ:Env} (r:Rel K ρ σ H G):∀ {hs:List Hd} {xs:List V} {ds:List D},cV K H G own new σ hs xs→getAll hs ρ=some ds→xG K H G ds xs
 | [],_,_,h,e=>by cases (show _=[] from h); cases e; rfl
 | h :: hs,_,ds,hh,e=>by
  obtain ⟨x,r',rfl,h1,h2,h3⟩:=hh;simp only [CI.getAll] at e
  cases q:h.get ρ with
  | none=>rw [q] at e; cases e
  | some d =>
   rw [q] at e
   cases q2:CI.getAll hs ρ with
   | none=>rw [q2] at e; cases e
   | some ds' =>
    rw [q2] at e;cases e;exact ⟨x,r',rfl,h1.read r q,cV.getAll r h2 q2⟩
theorem YJ (xo:bA X K P C Γ) {a b:Expr} {ca cb:E} {op:Operator} {pos:Pos} (ha:Ok3 X K P C a ca) (hb:Ok3 X K P C b cb):Ok3 X K P C (.BinOp a op b pos) (.bin op ca cb):=by
 refine kR xo (TE.imp_pe (aC3 (aBe xo.keq op) ha.h hb.h) fun σ H Q q=>?_) (fun i z=>nomatch z) (fun ρ=>by simp only [ev,aQ]) fun _=>rfl
 obtain ⟨ρ,G,v,ρ',r,e,k⟩:=q;simp only [ev,aQ] at e;obtain ⟨hx,ρ1,e1,e⟩:=aJ e;obtain ⟨hy,ρ2,e2,e⟩:=aJ e;obtain ⟨e3,rfl⟩:=eR e;refine ⟨ρ,G,hx,ρ1,r,e1,fun x H1 G1 a1 rx=>⟨ρ1,G1,hy,ρ',a1.rel,e2,fun y H2 G2 a2 ry=>?_⟩⟩
 cases q1:hx.get ρ' with
 | none=>rw [q1] at e3; cases e3
 | some d =>
  cases q2:hy.get ρ' with
  | none=>rw [q1,q2] at e3; cases e3
  | some d2 =>
   rw [q1,q2] at e3;simp only [Option.bind_some] at e3;split at e3
   ·rename_i hm;have rx':=rx.wait a2.ext fun a z=>.inl (a2.own a z)
    refine ⟨G2,d,d2,v,a2.rel.sub,rx'.read a2.rel q1,ry.read a2.rel q2,fun ho ds hd=>?_,e3,fun z H3 hm3=>?_⟩
    ·subst ho; subst hd
     cases hx with
     | slot i=>simp [x6] at hm
     | val w =>
      cases w with
      | sh _=>simp [x6] at hm
      | ow w =>
       simp only [Hd.get,RV.d,Option.some.injEq] at q1;subst q1;obtain ⟨c,e5,g,⟨vs,o1,o2⟩,n,m⟩:=rx';exact ⟨c,vs,e5,o1,o2⟩
    ·obtain ⟨G3,a3,v3⟩:=(a1.trans a2).made hm3;exact k z H3 G3 a3 v3
   ·cases e3
theorem K6 (xo:bA X K P C Γ) {a:Expr} {ca:E} {pos:Pos} (ha:Ok3 X K P C a ca):Ok3 X K P C (.UnaryOp .USub a pos) (.neg ca):=by
 refine kR xo (TE.imp_pe (aCy aAS ha.v) fun σ H Q q=>?_) (fun i z=>nomatch z) (fun ρ=>by simp only [ev,aQ]) fun _=>rfl
 obtain ⟨ρ,G,v,ρ',r,e,k⟩:=q;simp only [ev,aQ] at e;obtain ⟨w,ρ1,e1,e⟩:=aJ e;split at e
 ·rename_i i hi;cases e;refine ⟨ρ,G,w,_,r,e1,fun x H1 G1 a1 rx=>?_⟩
  have:=rx.readR
  rw [hi] at this;cases this.int;exact ⟨i,rfl,k _ H1 G1 a1 (by show aD K G1 (.int (-i)) _; simp [aD])⟩
 ·cases e
theorem UE {a:Expr} {ta:TE} {pos:Pos} (ha:PE X a ta):PE X (.UnaryOp .Not a pos) (fun σ H Q=>ta σ H fun x H'=>∃ k,HB X.K x H' k∧Q (.bl (!k)) H'):=by
 intro pins s σ H Q I h;refine UnaryOp_ (a6 (ha pins s σ H _ I h) fun v s1 ⟨x,H1,I1,r1,q1⟩=>?_);exact not_of (a6 (MV pins s1 σ H1 x v (fun k H'=>Q (.bl (!k)) H') I1 r1 q1) fun b s2 ⟨H2,I2,q2⟩=>⟨.bl (!b),H2,I2,rfl,q2⟩)
theorem aAi (xo:bA X K P C Γ) {a:Expr} {ca:E} {pos:Pos} (ha:Ok3 X K P C a ca):Ok3 X K P C (.UnaryOp .Not a pos) (.not ca):=by
 have v:PE X (.UnaryOp .Not a pos) (tE K P C (.not ca)):=by
  refine TE.imp_pe (UE ha.h) fun σ H Q q=>?_
  obtain ⟨ρ,G,v,ρ',r,e,k⟩:=q;simp only [ev] at e;obtain ⟨w,ρ1,e1,e⟩:=aJ e;obtain ⟨e2,rfl⟩:=eR e;refine ⟨ρ,G,w,ρ',r,e1,fun x H1 G1 a1 rx=>?_⟩
  cases q:w.get ρ' with
  | none=>rw [q] at e2; cases e2
  | some d =>
   rw [q] at e2;simp only [Option.bind_some] at e2
   cases q2:iN d with
   | none=>rw [q2] at e2; cases e2
   | some b =>
    rw [q2] at e2;cases e2;refine ⟨b, ?_,k _ H1 G1 a1 (by show aD K G1 (.bl _) _; simp [aD])⟩;rw [xo.keq];exact vG a1.rel.sub (rx.read a1.rel q) q2
 refine ⟨v, ?_,tV v fun i z=>nomatch z⟩;refine TT.imp_pt (Z7 ha.t) fun σ H Q q=>?_
 obtain ⟨ρ,G,b,ρ',r,e,k⟩:=q;simp only [ev] at e;obtain ⟨w,ρ1,e1,e⟩:=aJ e;split at e
 ·rename_i b';cases e;exact ⟨ρ,G,b',_,r,e1,fun H1 G1 a1=>k H1 G1 a1⟩
 ·cases e
theorem pT {σ:St} {H G H1 G1 H2 G2:Hp} {ρ ρ1 ρ2:Env} {hx hy:Hd} {x y:V} {op:CmpOp} {b:Bool} (a1:Aft K ρ σ H G ρ1 H1 G1) (rx:jF K H1 G1 (aL ρ1 σ) (dU H) σ hx x) (a2:Aft K ρ1 σ H1 G1 ρ2 H2 G2) (ry:jF K H2 G2 (aL ρ2 σ) (dU H1) σ hy y)
  (e:((hx.get ρ2).bind fun d=>(hy.get ρ2).bind fun e=>cN op d e)=some b) (Q:VK) (q:Q (.bl b) H2):C7 K op x y H2 Q:=by
 cases q1:hx.get ρ2 with
 | none=>rw [q1] at e; cases e
 | some d =>
  cases q2:hy.get ρ2 with
  | none=>rw [q1,q2] at e; cases e
  | some d2 =>
   rw [q1,q2] at e;exact ⟨G2,d,d2,b,a2.rel.sub,(rx.wait a2.ext fun a z=>.inl (a2.own a z)).read a2.rel q1,ry.read a2.rel q2,e,q⟩
theorem aBo {o:Option Bool} {v:RV} (e:(o.map fun b=>RV.sh (.bl b))=some v):∃ b,o=some b∧v=.sh (.bl b):=by
 cases o with
 | none=>cases e
 | some b=>cases e; exact ⟨b,rfl,rfl⟩
theorem pM {x y:Option D} {f:D→D→Option Bool} {v:RV} (e:(x.bind fun d=>y.bind fun e=>(f d e).map fun b=>RV.sh (.bl b))=some v):∃ b,(x.bind fun d=>y.bind fun e=>f d e)=some b∧v=.sh (.bl b):=by
 cases x with
 | none=>cases e
 | some d =>
  cases y with
  | none=>cases e
  | some d2=>exact aBo e
theorem aAm (xo:bA X K P C Γ) {a b:Expr} {ca cb:E} {op:CmpOp} {pos:Pos} (ha:Ok3 X K P C a ca) (hb:Ok3 X K P C b cb) (hm:behindInMarks op b=false):Ok3 X K P C (.Compare a [op] [b] pos) (.cmp op ca cb):=by
 have core:∀ σ H (Q:VK),(∃ (ρ:Env) (G:Hp) (b:Bool) (ρ':Env),Rel K ρ σ H G∧ev P C false (.cmp op ca cb) ρ=some (.ok (.sh (.bl b)),ρ')∧∀ H' G',Aft K ρ σ H G ρ' H' G'→Q (.bl b) H') →
   LY (C7 K op) (tH K P C ca) (tH K P C cb) σ H Q:=fun σ H Q q=>by
  obtain ⟨ρ,G,b,ρ',r,e,k⟩:=q;simp only [ev] at e;obtain ⟨hx,ρ1,e1,e⟩:=aJ e;obtain ⟨hy,ρ2,e2,e⟩:=aJ e;obtain ⟨e3,rfl⟩:=eR e;obtain ⟨b',e4,e5⟩:=pM e3;cases e5;exact ⟨ρ,G,hx,ρ1,r,e1,fun x H1 G1 a1 rx=>⟨ρ1,G1,hy,ρ',a1.rel,e2,fun y H2 G2 a2 ry=>pT a1 rx a2 ry e4 Q (k H2 G2 (a1.trans a2))⟩⟩
 have v:PE X (.Compare a [op] [b] pos) (tE K P C (.cmp op ca cb)):=by
  refine TE.imp_pe (TK (nZ xo.keq xo.hu op) ha.h hb.h hm) fun σ H Q q=>core σ H Q ?_
  obtain ⟨ρ,G,v,ρ',r,e,k⟩:=q;have e0:=e;simp only [ev] at e;obtain ⟨hx,ρ1,e1,e⟩:=aJ e;obtain ⟨hy,ρ2,e2,e⟩:=aJ e;obtain ⟨e3,rfl⟩:=eR e;obtain ⟨b',e4,rfl⟩:=pM e3;exact ⟨ρ,G,b',ρ',r,e0,fun H' G' a=>k _ H' G' a (by show aD K G' (.bl _) _; simp [aD])⟩
 refine ⟨v, ?_,tV v fun i z=>nomatch z⟩;refine TT.imp_pt (SQ (nZ xo.keq xo.hu op) ha.h hb.h hm) fun σ H Q q=>core σ H _ ?_
 obtain ⟨ρ,G,b',ρ',r,e,k⟩:=q;exact ⟨ρ,G,b',ρ',r,by simpa only [ev] using e,fun H' G' a=>⟨b',rfl,k H' G' a⟩⟩
theorem TH (xo:bA X K P C Γ) {a b c:Expr} {ca cb cc:E} {op op':CmpOp} {pos:Pos} (ha:Ok3 X K P C a ca) (hb:Ok3 X K P C b cb) (hc:Ok3 X K P C c cc) (hm:behindInMarks op' c=false):Ok3 X K P C (.Compare a [op,op'] [b,c] pos) (.cmp2 op op' ca cb cc):=by
 have core:∀ σ H (Q:VK),(∃ (ρ:Env) (G:Hp) (b:Bool) (ρ':Env),Rel K ρ σ H G∧ev P C false (.cmp2 op op' ca cb cc) ρ=some (.ok (.sh (.bl b)),ρ')∧∀ H' G',Aft K ρ σ H G ρ' H' G'→Q (.bl b) H') →
   CW (C7 K op) (C7 K op') (tH K P C ca) (tH K P C cb) (tH K P C cc) σ H Q:=fun σ H Q q=>by
  obtain ⟨ρ,G,b,ρ',r,e,k⟩:=q;simp only [ev] at e;obtain ⟨hx,ρ1,e1,e⟩:=aJ e;obtain ⟨hy,ρ2,e2,e⟩:=aJ e;refine ⟨ρ,G,hx,ρ1,r,e1,fun x H1 G1 a1 rx=>⟨ρ1,G1,hy,ρ2,a1.rel,e2,fun y H2 G2 a2 ry=>?_⟩⟩;split at e
  ·cases e
  ·rename_i e4;cases e;refine pT a1 rx a2 ry e4 _ ⟨false,rfl, ?_⟩;rw [if_neg Bool.false_ne_true];exact k H2 G2 (a1.trans a2)
  ·rename_i e4;obtain ⟨hz,ρ3,e5,e⟩:=aJ e;obtain ⟨e6,rfl⟩:=eR e;obtain ⟨b',e7,e8⟩:=pM e6;cases e8;refine pT a1 rx a2 ry e4 _ ⟨true,rfl, ?_⟩;rw [if_pos rfl];exact ⟨ρ2,G2,hz,ρ',a2.rel,e5,fun z H3 G3 a3 rz=>pT (a1.trans a2) (ry.new_mono fun a z=>a1.ext.hx a z) a3 rz e7 Q (k H3 G3 ((a1.trans a2).trans a3))⟩
 have hl:lastMarks [op,op'] [b,c]=false:=hm
 have v:PE X (.Compare a [op,op'] [b,c] pos) (tE K P C (.cmp2 op op' ca cb cc)):=by
  refine TE.imp_pe (O1 (nZ xo.keq xo.hu op) (nZ xo.keq xo.hu op') ha.h hb.h hc.h hl) fun σ H Q q=>core σ H Q ?_
  obtain ⟨ρ,G,v,ρ',r,e,k⟩:=q;have e0:=e
  have:∃ b,v=.sh (.bl b):=by
   simp only [ev] at e;obtain ⟨hx,ρ1,e1,e⟩:=aJ e;obtain ⟨hy,ρ2,e2,e⟩:=aJ e;split at e
   ·cases e
   ·cases e; exact ⟨_,rfl⟩
   ·obtain ⟨hz,ρ3,e5,e⟩:=aJ e;obtain ⟨e6,rfl⟩:=eR e;obtain ⟨b',e7,e8⟩:=pM e6;exact ⟨b',e8⟩
  obtain ⟨b',rfl⟩:=this;exact ⟨ρ,G,b',ρ',r,e0,fun H' G' a=>k _ H' G' a (by show aD K G' (.bl _) _; simp [aD])⟩
 refine ⟨v, ?_,tV v fun i z=>nomatch z⟩;refine TT.imp_pt (O5 (nZ xo.keq xo.hu op) (nZ xo.keq xo.hu op') ha.h hb.h hc.h hl) fun σ H Q q=>core σ H _ ?_
 obtain ⟨ρ,G,b',ρ',r,e,k⟩:=q;exact ⟨ρ,G,b',ρ',r,by simpa only [ev] using e,fun H' G' a=>⟨b',rfl,k H' G' a⟩⟩
end
section
variable {X:Cx} {K:PySem.W.Frag} {P:aK} {C:Calls} {Γ:CC}
theorem PW.imp {e:Expr} {t u:TT} (h:PW X e t) (w:∀ σ H Q,u σ H Q→t σ H Q):PW X e u:=fun wh pins s σ H Q I q=>h wh pins s σ H Q I (w σ H Q q)
theorem aCx {σ:St} {H:Hp} {Q:VK} {ca cb:E} (q:tE K P C (.and ca cb) σ H Q):RF (tE K P C ca) (tE K P C cb) σ H Q:=by
 obtain ⟨ρ,G,v,ρ',r,e,k⟩:=q;simp only [ev] at e;obtain ⟨w,ρ1,e1,e⟩:=aJ e;refine ⟨ρ,G,w,ρ1,r,e1,fun x H1 G1 a1 rx=>?_⟩;split at e
 ·refine ⟨true,tG (K:=K) (G:=G1) rx, ?_⟩;refine C6 ?_;exact ⟨ρ1,G1,v,ρ',a1.rel,e,fun y H2 G2 a2 ry=>k y H2 G2 (a1.trans a2) (ry.new_mono fun a z=>a1.ext.hx a z)⟩
 ·refine ⟨false,tG (K:=K) (G:=G1) rx, ?_⟩;refine C4 ?_;cases e;exact k _ H1 G1 a1 (by show aD K G1 (.bl _) _; simp [aD])
 ·cases e
theorem aCa {σ:St} {H:Hp} {Q:Bool→Hp→Prop} {ca cb:E} (q:tT K P C (.and ca cb) σ H Q):Y2 (tT K P C ca) (tT K P C cb) σ H Q:=by
 obtain ⟨ρ,G,b,ρ',r,e,k⟩:=q;simp only [ev] at e;obtain ⟨w,ρ1,e1,e⟩:=aJ e;split at e
 ·refine ⟨ρ,G,true,ρ1,r,e1,fun H1 G1 a1=>?_⟩;refine C6 ?_;exact ⟨ρ1,G1,b,ρ',a1.rel,e,fun H2 G2 a2=>k H2 G2 (a1.trans a2)⟩
 ·refine ⟨ρ,G,false,ρ1,r,e1,fun H1 G1 a1=>?_⟩;refine C4 ?_;cases e;exact k H1 G1 a1
 ·cases e
theorem aEX {σ:St} {H:Hp} {Q:VK} {ca cb:E} (q:tE K P C (.or ca cb) σ H Q):aAr (tE K P C ca) (tE K P C cb) σ H Q:=by
 obtain ⟨ρ,G,v,ρ',r,e,k⟩:=q;simp only [ev] at e;obtain ⟨w,ρ1,e1,e⟩:=aJ e;refine ⟨ρ,G,w,ρ1,r,e1,fun x H1 G1 a1 rx=>?_⟩;split at e
 ·refine ⟨true,tG (K:=K) (G:=G1) rx, ?_⟩;refine C6 ?_;cases e;exact k _ H1 G1 a1 (by show aD K G1 (.bl _) _; simp [aD])
 ·refine ⟨false,tG (K:=K) (G:=G1) rx, ?_⟩;refine C4 ?_;exact ⟨ρ1,G1,v,ρ',a1.rel,e,fun y H2 G2 a2 ry=>k y H2 G2 (a1.trans a2) (ry.new_mono fun a z=>a1.ext.hx a z)⟩
 ·cases e
theorem aEd {σ:St} {H:Hp} {Q:Bool→Hp→Prop} {ca cb:E} (q:tT K P C (.or ca cb) σ H Q):tOr (tT K P C ca) (tT K P C cb) σ H Q:=by
 obtain ⟨ρ,G,b,ρ',r,e,k⟩:=q;simp only [ev] at e;obtain ⟨w,ρ1,e1,e⟩:=aJ e;split at e
 ·refine ⟨ρ,G,true,ρ1,r,e1,fun H1 G1 a1=>?_⟩;refine C6 ?_;cases e;exact k H1 G1 a1
 ·refine ⟨ρ,G,false,ρ1,r,e1,fun H1 G1 a1=>?_⟩;refine C4 ?_;exact ⟨ρ1,G1,b,ρ',a1.rel,e,fun H2 G2 a2=>k H2 G2 (a1.trans a2)⟩
 ·cases e
structure Ok2 (X:Cx) (K:PySem.W.Frag) (P:aK) (C:Calls) (op:BoolOp) (vs:List Expr) (c:E):Prop where
 v:∀ pos,PE X (.BoolOp op vs pos) (tE K P C c)
 w:∀ pos,PW X (.BoolOp op vs pos) (tT K P C c)
theorem QI {a:Expr} {c:E} (h:Ok3 X K P C a c):Ok2 X K P C .And [a] c:=⟨fun _=>LJ h.v,fun _=>VA h.t⟩
theorem VF {a:Expr} {c:E} (h:Ok3 X K P C a c):Ok2 X K P C .Or [a] c:=⟨fun _=>LJ h.v,fun _=>aBV h.t⟩
theorem GR {a b:Expr} {r:List Expr} {ca cb:E} (h:Ok3 X K P C a ca) (t:Ok2 X K P C .And (b :: r) cb):Ok2 X K P C .And (a :: b :: r) (.and ca cb) :=
 ⟨fun pos=>TE.imp_pe (aAC h.v (t.v pos)) fun _ _ _ q=>aCx q,fun pos=>PW.imp (XT h.t (t.w pos)) fun _ _ _ q=>aCa q⟩
theorem MP {a b:Expr} {r:List Expr} {ca cb:E} (h:Ok3 X K P C a ca) (t:Ok2 X K P C .Or (b :: r) cb):Ok2 X K P C .Or (a :: b :: r) (.or ca cb) :=
 ⟨fun pos=>TE.imp_pe (BJ h.v (t.v pos)) fun _ _ _ q=>aEX q,fun pos=>PW.imp (aCl h.t (t.w pos)) fun _ _ _ q=>aEd q⟩
theorem Ok2.ok3 {op:BoolOp} {vs:List Expr} {c:E} {pos:Pos} (h:Ok2 X K P C op vs c) (n:∀ i,c≠.var i):Ok3 X K P C (.BoolOp op vs pos) c:=⟨h.v pos,(h.w pos).pt,tV (h.v pos) n⟩
theorem X5 (xo:bA X K P C Γ) {es:List Expr} {cs:List E} {k0:Nat} {pos:Pos} (h:PA X es (AH K P C cs)):Ok3 X K P C (.Tuple es k0 pos) (.tup cs):=by
 refine kR xo (TE.imp_pe (aAk h) fun σ H Q q=>?_) (fun i z=>nomatch z) (fun ρ=>by simp only [ev,aQ]) fun _=>rfl
 obtain ⟨ρ,G,v,ρ',r,e,k⟩:=q;simp only [ev,aQ] at e;obtain ⟨ds,ρ1,e1,e⟩:=aJ e;split at e
 ·rename_i hz;cases e;refine ⟨ρ,G,ds,_,r,e1,fun xs H1 G1 a1 rx=>⟨by rw [rx.len]; exact hV hz,fun p hp=>?_⟩⟩;obtain ⟨a2,v2⟩:=a1.tup_new hp rx;exact k _ _ _ a2 v2
 ·cases e
theorem ZT {q:Bool} (xo:XOkB q X K P C Γ) {es:List Expr} {cs:List E} {pos:Pos} (h:PA X es (AH K P C cs)):Ok3 X K P C (.List es pos) (.lst cs):=by
 refine kR xo (TE.imp_pe (aBC h) fun σ H Q q=>?_) (fun i z=>nomatch z) (fun ρ=>by simp only [ev,aQ]) fun _=>rfl
 obtain ⟨ρ,G,v,ρ',r,e,k⟩:=q;simp only [ev,aQ] at e;obtain ⟨ds,ρ1,e1,e⟩:=aJ e;split at e
 ·rename_i hz;cases e;refine ⟨ρ,G,ds,_,r,e1,fun xs H1 G1 a1 rx=>⟨by rw [rx.len]; exact hV hz,fun p hp=>?_⟩⟩;obtain ⟨a2,v2⟩:=a1.own_new hp rx;exact k _ _ _ a2 v2
 ·cases e
theorem aCr (xo:bA X K P C Γ) {a b:Expr} {ca cb:E} {pos:Pos} (ha:Ok3 X K P C a ca) (hb:Ok3 X K P C b cb) (hs:zA b):Ok3 X K P C (.Subscript a b pos) (.ix ca cb):=by
 refine kR xo (TE.imp_pe (aCG (aCU xo.keq (by have:=xo.hu; omega)) ha.h hb.v hs) fun σ H Q q=>?_) (fun i z=>nomatch z) (fun ρ=>by simp only [ev,aQ]) fun _=>rfl
 obtain ⟨ρ,G,v,ρ',r,e,k⟩:=q;simp only [ev,aQ] at e;obtain ⟨hx,ρ1,e1,e⟩:=aJ e;obtain ⟨w,ρ2,e2,e⟩:=aJ e;obtain ⟨e3,rfl⟩:=eR e;refine ⟨ρ,G,hx,ρ1,r,e1,fun x H1 G1 a1 rx=>⟨ρ1,G1,w,ρ',a1.rel,e2,fun y H2 G2 a2 ry=>?_⟩⟩
 cases q1:hx.get ρ' with
 | none=>rw [q1] at e3; cases e3
 | some d =>
  rw [q1] at e3;simp only [Option.bind_some] at e3
  cases q2:KQ d w.d with
  | none=>rw [q2] at e3; cases e3
  | some d2 =>
   rw [q2] at e3;cases e3;exact ⟨G2,d,w.d,d2,a2.rel.sub,(rx.wait a2.ext fun a z=>.inl (a2.own a z)).read a2.rel q1,ry.readR,q2,fun z hz=>k z H2 G2 (a1.trans a2) hz⟩
noncomputable def tO (K:PySem.W.Frag) (P:aK) (C:Calls) (c:E):TO:=fun σ H Q=>∃ (ρ:Env) (G:Hp) (o:Option D) (ρ':Env),Rel K ρ σ H G∧yX c (ev P C false c ρ) ρ=some (.ok o,ρ')∧∃ i,nA o=some i∧∀ H' G',Aft K ρ σ H G ρ' H' G'→Q i H'
theorem NP:PO X none (tO K P C .omt):=fun pins s σ H Q I ⟨ρ,G,o,ρ',r,e,i,e2,k⟩=>by
 simp only [yX,EB,if_true,Option.some.injEq,Prod.mk.injEq,Out.ok.injEq] at e;obtain ⟨rfl,rfl⟩:=e;cases e2;exact SS pins s σ H Q I (k H G (Aft.refl r))
theorem NA {e:Expr} {c:E} (h:Ok3 X K P C e c):PO X (some e) (tO K P C (DC c)):=fun pins s σ H Q I ⟨ρ,G,o,ρ',r,e1,i,e2,k⟩=>by
 have key:∀ c',DC c=c'→EB c'=false→(∀ ρ,ev P C false c' ρ=ev P C false c ρ∨ev P C false c' ρ=none)→wpAny (model X.prog X.w) X.A (evalPart (some e) X.env) (fun u s'=>∃ o H',Inv X pins σ H' s'∧IsPart u o∧Q o H') X.xe s:=fun c' e0 hno he=>by
  rw [e0] at e1;simp only [yX,hno,Bool.false_eq_true,if_false] at e1;obtain ⟨w,ρ1,e3,e4⟩:=aJ e1;cases e4;rcases he ρ with he | he
  ·rw [he] at e3;refine V0 h.v pins s σ H Q I ⟨ρ,G,w,_,r,e3,fun x H1 G1 a1 rx=>?_⟩;cases q:w.d <;> rw [q] at e2 <;> simp only [nA,reduceCtorEq,Option.some.injEq] at e2;subst e2
   have:=rx.readR
   rw [q] at this;exact ⟨_,this.int,k H1 G1 a1⟩
  ·rw [he] at e3; cases e3
 cases c with
 | omt=>exact key .bad rfl rfl fun ρ=>.inr (by rw [ev])
 | _=>exact key _ rfl rfl fun ρ=>.inl rfl
theorem aDJ (xo:bA X K P C Γ) {a:Expr} {lo hi:Option Expr} {ca cl ch:E} {pos p2:Pos} (ha:Ok3 X K P C a ca) (hl:PO X lo (tO K P C cl)) (hh:PO X hi (tO K P C ch)):Ok3 X K P C (.Subscript a (.Slice lo hi none p2) pos) (.sl ca cl ch):=by
 refine kR xo (TE.imp_pe (M9 (aCo xo.keq) ha.h hl hh) fun σ H Q q=>?_) (fun i z=>nomatch z) (fun ρ=>by simp only [ev,aQ]) fun _=>rfl
 obtain ⟨ρ,G,v,ρ',r,e,k⟩:=q;simp only [ev,aQ] at e;obtain ⟨hx,ρ1,e1,e⟩:=aJ e;obtain ⟨l,ρ2,e2,e⟩:=aJ e;obtain ⟨h,ρ3,e3,e⟩:=aJ e;obtain ⟨e4,rfl⟩:=eR e
 cases q1:hx.get ρ' with
 | none=>rw [q1] at e4; cases e4
 | some d =>
  cases q2:nA l with
  | none=>rw [q1,q2] at e4; cases e4
  | some l' =>
   cases q3:nA h with
   | none=>rw [q1,q2,q3] at e4; cases e4
   | some h' =>
    rw [q1,q2,q3] at e4;simp only [Option.bind_some] at e4;refine ⟨ρ,G,hx,ρ1,r,e1,fun x H1 G1 a1 rx=>⟨ρ1,G1,l,ρ2,a1.rel,e2,l',q2,fun H2 G2 a2=>⟨ρ2,G2,h,ρ',a2.rel,e3,h',q3,fun H3 G3 a3=>?_⟩⟩⟩;have a23:=a2.trans a3;refine ⟨G3,d,v,a3.rel.sub,(rx.wait a23.ext fun a z=>.inl (a23.own a z)).read a3.rel q1,e4,fun z H4 hm=>?_⟩;obtain ⟨G4,a4,v4⟩:=(a1.trans a23).made hm;exact k z H4 G4 a4 v4
theorem YW (xo:bA X K P C Γ) {a:Expr} {ca:E} {k1:Nat} {p1 p2 p3 pos:Pos} (ha:Ok3 X K P C a ca):Ok3 X K P C (.Subscript a (.Slice none none (some (.UnaryOp .USub (.Constant (.int 1) k1 p1) p2)) p3) pos) (.rev ca):=by
 have hm:PE X (.UnaryOp .USub (.Constant (.int 1) k1 p1) p2) (tE K P C (.neg (.con (.int 1)))):=(K6 xo (DE xo _ _ _)).v;refine kR xo (TE.imp_pe (Y0 ha.h hm) fun σ H Q q=>?_) (fun i z=>nomatch z) (fun ρ=>by simp only [ev,aQ]) fun _=>rfl
 obtain ⟨ρ,G,v,ρ',r,e,k⟩:=q;simp only [ev,aQ] at e;obtain ⟨hx,ρ1,e1,e⟩:=aJ e;obtain ⟨e2,rfl⟩:=eR e
 cases q1:hx.get ρ' with
 | none=>rw [q1] at e2; cases e2
 | some d =>
  rw [q1] at e2
  cases d with
  | tup ds =>
   cases e2;refine ⟨ρ,G,hx,ρ',r,e1,fun x H1 G1 a1 rx=>⟨ρ',G1,.sh (.int (-1)),ρ',a1.rel,rfl,fun y H2 G2 a2 ry=>⟨ry, ?_⟩⟩⟩;have rr:=(rx.wait a2.ext fun a z=>.inl (a2.own a z)).read a2.rel q1;obtain ⟨b,vs,rfl,h1,h2⟩:=rr.tup a2.rel.sub;refine ⟨b,vs,rfl,by rw [xo.keq]; exact h1,fun p hp=>?_⟩;obtain ⟨G4,a4,v4⟩:=(a1.trans a2).made (v:=.sh (.tup ds.reverse)) (.inr (.inr ⟨_,_,p,rfl,hp,h2.rev,rfl,rfl⟩));exact k _ _ G4 a4 v4
  | _=>cases e2
theorem dX {es:List Expr} (h:es.all aW=true) (env:PySem.Env) (pos:Pos):(backTo pos (starEach es env)).any (·.1)=false∧(backTo pos (starEach es env)).all (fun x=>!x.1)=true:=by
 induction es with
 | nil=>exact ⟨rfl,rfl⟩
 | cons e es ih =>
  rw [List.all_cons,Bool.and_eq_true] at h;rw [bI h.1];obtain ⟨i1,i2⟩:=ih h.2
  unfold backTo at *
  refine ⟨?_, ?_⟩
  ·rw [List.map_cons,List.any_cons,i1]; rfl
  ·rw [List.map_cons,List.all_cons,i2]; rfl
theorem TN (xo:bA X K P C Γ) {f:Str} {g:String} {e:Expr} {es:List Expr} {cs:List E} {p pos:Pos} (hf:Γ.glob f=.fn g) (ns:(e :: es).all aW=true) (ha:PA X (e :: es) (mX K P C cs)):Ok3 X K P C (.Call (.Name f p) (e :: es) [] pos) (.call g cs):=by
 obtain ⟨h1,h2,h3,h4⟩:=CC.glob_ok xo hf (fun z=>nomatch z);obtain ⟨fa,fd,ps,k0,F,hr,hm,hk,hb⟩:=(xo.fn f g h2).ex;rw [List.all_cons,Bool.and_eq_true] at ns;refine kR xo (TE.imp_pe (W8 F hr h1 hm hk hb .nil BE ha h3 (bI ns.1 _ _) (dX ns.2 _ _).1) fun σ H Q q=>?_) (fun i z=>nomatch z) (fun ρ=>by simp only [ev,aQ]) fun _=>rfl
 obtain ⟨ρ,G,v,ρ',r,e,k⟩:=q;simp only [ev,aQ] at e;obtain ⟨hs,ρ1,e1,e⟩:=aJ e;refine ⟨ρ,G,hs,ρ1,r,e1,fun xs H1 G1 a1 rx=>?_⟩;obtain ⟨as,G2,as',d1,d2,d3,_,d4⟩:=kP a1 rx e;rw [List.append_nil];refine ⟨?_,as,G2,v,as',d1,d2,d3,fun x H' G' a hv=>?_⟩
 ·have:=d1.len
  rw [List.length_map] at this;omega
 ·obtain ⟨a5,v5⟩:=d4 x H' G' a hv;exact k x H' G' a5 v5
theorem VN {f:Str} {b:BI} (h:IE f=some b):bootBuiltins f=some (biV b):=by
 unfold IE at h
 repeat (split at h; · (rename_i hf; cases h; subst hf; first | exact PySem.boot_len | decide +kernel | rfl))
 cases h
theorem DY (xo:bA X K P C Γ) {f:Str} {b:BI} {e:Expr} {es:List Expr} {cs:List E} {p pos:Pos} (hf:Γ.glob f=.blt) (hb:IE f=some b) (ns:(e :: es).all aW=true) (ha:PA X (e :: es) (mX K P C cs)):Ok3 X K P C (.Call (.Name f p) (e :: es) [] pos) (.bif b cs):=by
 obtain ⟨h1,h2,h3,h4⟩:=CC.glob_ok xo hf (fun z=>nomatch z);have hm:=xo.blt f h2;have hv:=VN hb;rw [List.all_cons,Bool.and_eq_true] at ns
 have hp:PE X (.Call (.Name f p) (e :: es) [] pos) (Z8 (rBi K b) (mX K P C cs)):=by
  have hc:=aCk xo.keq xo.calm xo.hh xo.rm b
  cases b <;> first
   | exact CK hc h1 hm hv ha h4 h3 (bI ns.1 _ _) (dX ns.2 _ _).1
   | exact J5 hc h1 hm hv ha h4 h3 (bI ns.1 _ _) (dX ns.2 _ _).1
 refine kR xo (TE.imp_pe hp fun σ H Q q=>?_) (fun i z=>nomatch z) (fun ρ=>by simp only [ev,aQ]) fun _=>rfl
 obtain ⟨ρ,G,v,ρ',r,e,k⟩:=q;simp only [ev,aQ] at e;obtain ⟨hs,ρ1,e1,e⟩:=aJ e;obtain ⟨e2,rfl⟩:=eR e;refine ⟨ρ,G,hs,ρ',r,e1,fun xs H1 G1 a1 rx=>?_⟩
 cases q1:getAll hs ρ' with
 | none=>rw [q1] at e2; cases e2
 | some ds =>
  rw [q1] at e2;refine ⟨G1,ds,v,a1.rel.sub,rx.getAll a1.rel q1,e2,fun z H' hm=>?_⟩;obtain ⟨G2,a2,v2⟩:=a1.made hm;exact k z H' G2 a2 v2
end
section
variable {X:Cx} {K:PySem.W.Frag} {P:aK} {C:Calls} {Γ:CC}
theorem yM {ρ:Env} {i:Nat} (h:mU ρ i=true):∃ ds p l,ρ[i]?=some (.ow (.lst ds) p l):=by
 unfold mU at h;split at h
 ·rename_i d p l e; exact ⟨d,p,l,e⟩
 ·cases h
theorem Rel.writeO {ρ:Env} {σ:St} {H G:Hp} (r:Rel K ρ σ H G) {i:Nat} {d:D} {p l:Bool} {a:Addr} {d':D} {ob:HO} (h:ρ[i]?=some (.ow d p l)) (hx:σ[i]?=some (some (.ref a))) (hr:gM K (aV H a ob) G a d') :
  Aft K ρ σ H G (ρ.set i (.ow d' p l)) (aV H a ob) G:=by
 obtain ⟨b,h1,g,o⟩:=r.ow i d p l h;rw [hx] at h1; cases h1;have hn:H a≠none:=(r.owned ⟨i,d,p,l,h,hx⟩).1
 have r0:Rel K (ρ.set i .un) σ (aV H a ob) G:=by
  have ru:=r.unset i;have nu:=r.unset_not h hx;refine ⟨ru.len,fun b u e=>?_,ru.sh,fun j d' p' l' hj=>?_,ru.inj⟩
  ·have:b≠a:=fun z=>by subst z; rw [g] at e; cases e
   rw [aN this]; exact ru.sub b u e
  ·obtain ⟨b,h3,h4,h5⟩:=ru.ow j d' p' l' hj;have hb:b≠a:=fun z=>by subst z; exact nu ⟨j,d',p',l',hj,h3⟩
   exact ⟨b,h3,h4,h5.mono (aM.refl _) fun _ z=>by rw [aN hb]; exact z⟩
 refine ⟨r0.put_ow hx g hr (r.unset_not h hx),⟨aM.refl _,fun b u e nb=>?_,fun b e=>?_,fun b e g' _=>g'⟩,iO.set (by rw [h]; exact ⟨rfl,rfl⟩)⟩
 ·have:b≠a:=fun z=>by subst z; exact nb ⟨i,d,p,l,h,hx⟩
  rw [aN this]; exact e
 ·by_cases hb:b=a
  ·subst hb; rw [bC] at e; cases e
  ·rwa [aN hb] at e
theorem Rel.write {ρ:Env} {σ:St} {H G:Hp} (r:Rel K ρ σ H G) {i:Nat} {d:D} {p l:Bool} {a:Addr} {ds:List D} {vs:List V} (h:ρ[i]?=some (.ow d p l)) (hx:σ[i]?=some (some (.ref a))) (hr:aB K G ds vs) :
  Aft K ρ σ H G (ρ.set i (.ow (.lst ds) p l)) (aV H a (.lst vs)) G:=r.writeO h hx ⟨vs,bC,hr⟩
theorem aA8 (xo:bA X K P C Γ) {x:Str} {i:Nat} {a:Expr} {ca:E} {p apos cpos:Pos} (hi:Γ.slot x=some i) (hl:(apos.endLine == cpos.line)=true) (ns:aW a=true) (ha:Ok3 X K P C a ca) :
  Ok3 X K P C (.Call (.Attribute (.Name x p) ("append":Str) apos) [a] [] cpos) (.app i ca):=by
 have hp:PE X (.Name x p) (r6 i):=CC.slot_ok xo hi;have hpa:PA X [a] (tN (tE K P C ca) zH):=kC ha.v sG (bI ns _ _);have hall:[a].all aW=true:=by rw [List.all_cons,ns]; rfl
 refine kR xo (TE.imp_pe (Q8 PySem.F.plainAttrs_list PySem.F.slot_list_append PySem.F.type_list_append sJ hp hpa rfl (by
   rw [Bool.and_eq_true,Bool.and_eq_true]; exact ⟨⟨(dX hall _ _).2,rfl⟩,rfl⟩) hl (bI ns _ _) rfl) fun σ H Q q=>?_) (fun i z=>nomatch z) (fun ρ=>by simp only [ev,aQ]) fun _=>rfl
 obtain ⟨ρ,G,v,ρ',r,e,k⟩:=q;simp only [ev,aQ] at e;split at e
 ·rename_i ho;obtain ⟨d0,p0,l0,h0⟩:=yM ho;obtain ⟨b,hb,g0,o0⟩:=r.ow i _ p0 l0 h0;obtain ⟨w,ρ1,e1,e⟩:=aJ e;refine ⟨.ref b,hb,.inl ⟨rfl, ?_⟩,ρ,G,w,ρ1,r,e1,fun y H1 G1 a1 ry=>?_⟩
  ·obtain ⟨vs,hv,_⟩:=o0;exact ⟨vs,cB.of hv⟩
  ·split at e
   ·rename_i ds p1 h1;split at e
    ·rename_i hz;cases e;obtain ⟨G2,a2,r2⟩:=a1.share ry;obtain ⟨b',hb',g1,vs,hv,hr⟩:=a2.rel.ow i _ _ _ h1;rw [hb] at hb'; cases hb'
     have:=hr.len
     refine ⟨b,vs,y,rfl,rfl,hv, ?_, ?_⟩
     ·have:=hV hz
      omega
     ·have a3:=a2.rel.write h1 hb (hr.app (aB.cons r2 aB.nil));exact k _ _ _ (a2.trans a3) (by show aD K G2 .non _; simp [aD])
    ·cases e
   ·cases e
 ·cases e
theorem aBt (xo:bA X K P C Γ) {x:Str} {i:Nat} {a:Expr} {ca:E} {p apos cpos:Pos} (hi:Γ.slot x=some i) (hl:(apos.endLine == cpos.line)=true) (ns:aW a=true) (ha:Ok3 X K P C a ca) :
  Ok3 X K P C (.Call (.Attribute (.Name x p) ("extend":Str) apos) [a] [] cpos) (.ext i ca):=by
 have hp:PE X (.Name x p) (r6 i):=CC.slot_ok xo hi;have hpa:PA X [a] (tN (tE K P C ca) zH):=kC ha.v sG (bI ns _ _);have hall:[a].all aW=true:=by rw [List.all_cons,ns]; rfl
 refine kR xo (TE.imp_pe (Q8 PySem.F.plainAttrs_list PySem.F.slot_list_extend PySem.F.type_list_extend LD hp hpa rfl (by
   rw [Bool.and_eq_true,Bool.and_eq_true]; exact ⟨⟨(dX hall _ _).2,rfl⟩,rfl⟩) hl (bI ns _ _) rfl) fun σ H Q q=>?_) (fun i z=>nomatch z) (fun ρ=>by simp only [ev,aQ]) fun _=>rfl
 obtain ⟨ρ,G,v,ρ',r,e,k⟩:=q;simp only [ev,aQ] at e;split at e
 ·rename_i ho;obtain ⟨d0,p0,l0,h0⟩:=yM ho;obtain ⟨b,hb,g0,o0⟩:=r.ow i _ p0 l0 h0;obtain ⟨w,ρ1,e1,e⟩:=aJ e;refine ⟨.ref b,hb,.inl ⟨rfl, ?_⟩,ρ,G,w,ρ1,r,e1,fun y H1 G1 a1 ry=>?_⟩
  ·obtain ⟨vs,hv,_⟩:=o0;exact ⟨vs,cB.of hv⟩
  ·split at e
   ·rename_i ds p1 es h1;split at e
    ·rename_i hz;cases e;obtain ⟨c,rfl,gc,⟨zs,hc,hzr⟩,nown,new⟩:=ry;obtain ⟨b',hb',g1,vs,hv,hr⟩:=a1.rel.ow i _ _ _ h1;rw [hb] at hb'; cases hb';have l1:=hr.len;have l2:=hzr.len;refine ⟨b,c,vs,zs,rfl,rfl,hv,hc, ?_, ?_⟩
     ·have:=hV hz
      omega
     ·exact k _ _ _ (a1.trans (a1.rel.write h1 hb (hr.app hzr))) (by show aD K G1 .non _; simp [aD])
    ·cases e
   ·cases e
 ·cases e
theorem FE {H:Hp} {p:Addr} {a b:HO}:aV (aV H p a) p b=aV H p b:=by
 funext q
 by_cases h:q=p
 ·subst h; rw [bC,bC]
 ·rw [aN h,aN h,aN h]
theorem UH {q:Bool} (xo:XOkB q X K P C Γ) {t:Expr} {ty:Ty} (h:JJ Γ t=some ty):PE X t (tC (QU ty))∧aW t=true:=by
 cases t <;> simp only [JJ,reduceCtorEq] at h;rename_i x pos;split at h
 ·rename_i hg;obtain ⟨h1,h2,h3,h4⟩:=CC.glob_ok xo hg (fun z=>nomatch z);have hm:=xo.blt x h2;refine ⟨?_,rfl⟩;split at h
  ·rename_i hx; cases h; subst hx; exact l4 h1 hm (u:=.type "int") (by decide +kernel) rfl
  ·split at h
   ·rename_i hx; cases h; subst hx; exact l4 h1 hm (u:=.type "bool") (by decide +kernel) rfl
   ·split at h
    ·rename_i hx; cases h; subst hx; exact l4 h1 hm (u:=.type "str") (by decide +kernel) rfl
    ·split at h
     ·rename_i hx; cases h; subst hx; exact l4 h1 hm (u:=.type "list") (by decide +kernel) rfl
     ·split at h
      ·rename_i hx; cases h; subst hx; exact l4 h1 hm (u:=.type "tuple") (by decide +kernel) rfl
      ·split at h
       ·rename_i hx; cases h; subst hx; exact l4 h1 hm (u:=.type "ValueError") (by decide +kernel) rfl
       ·cases h
 ·cases h
theorem aAR {q:Bool} (xo:XOkB q X K P C Γ) {a t:Expr} {ca:E} {ty:Ty} {p pos:Pos} (hf:Γ.glob ("isinstance":Str)=.blt) (ht:JJ Γ t=some ty) (ns:aW a=true) (ha:Ok3 X K P C a ca) :
  Ok3 X K P C (.Call (.Name ("isinstance":Str) p) [a,t] [] pos) (.isi ca [ty]):=by
 obtain ⟨h1,h2,h3,h4⟩:=CC.glob_ok xo hf (fun z=>nomatch z);have hm:=xo.blt _ h2;obtain ⟨pt,nt⟩:=UH xo ht;have hpa:PA X [a,t] (tN (tH K P C ca) (tN (tC (QU ty)) zH)):=kC ha.h (kC pt sG (bI nt _ _)) (bI ns _ _);have hall:[t].all aW=true:=by rw [List.all_cons,nt]; rfl
 have hp:=CK (p:=p) (pos:=pos) (Z4 xo.keq ty) h1 hm (by decide +kernel) hpa h4 h3 (bI ns _ _) (dX hall _ _).1;refine kR xo (TE.imp_pe hp fun σ H Q q=>?_) (fun i z=>nomatch z) (fun ρ=>by simp only [ev,aQ]) fun _=>rfl
 obtain ⟨ρ,G,v,ρ',r,e,k⟩:=q;simp only [ev,aQ] at e;obtain ⟨hx,ρ1,e1,e⟩:=aJ e;obtain ⟨e2,rfl⟩:=eR e;refine ⟨ρ,G,hx,ρ',r,e1,fun x H1 G1 a1 rx=>?_⟩
 cases q1:hx.get ρ' with
 | none=>rw [q1] at e2; cases e2
 | some d =>
  rw [q1] at e2;simp only [Option.bind_some,BM] at e2
  cases q2:IB ty d with
  | none=>rw [q2] at e2; cases e2
  | some b =>
   rw [q2] at e2;simp only [Option.bind_some,Option.map_some,Bool.or_false,Option.some.injEq] at e2;subst e2;exact ⟨G1,d,x,b,a1.rel.sub,rfl,rx.read a1.rel q1,q2,k _ H1 G1 a1 (by show aD K G1 (.bl _) _; simp [aD])⟩
theorem GY {b:Expr} (h:∀ lo hi p,b≠.Slice lo hi none p):zA b:=fun o i=>by
 cases b <;> first
  | rfl
  | (rename_i lo hi st p; cases st with
    | none=>exact absurd rfl (h lo hi p)
    | some s=>rfl)
end
section
variable {X:Cx} {K:PySem.W.Frag} {P:aK} {C:Calls} {Γ:CC}
theorem xH {G:Hp} {f:Str}:∀ {ns:List Str} {ds:List D} {vs:List V} {d:D},aB K G ds vs→(ns.zip ds).lookup f=some d→f∈ns∧∃ v,(ns.zip vs).lookup f=some v∧aD K G d v
 | [],_,_,_,_,h=>by simp at h
 | n :: ns,[],_,_,_,h=>by simp at h
 | n :: ns,d0 :: ds,vs,d,r,h=>by
  simp only [aB] at r;obtain ⟨v,r',rfl,h1,h2⟩:=r;rw [List.zip_cons_cons,List.lookup_cons] at h ⊢
  cases q:(f == n) with
  | true =>
   rw [q] at h;cases h;exact ⟨by rw [eq_of_beq q]; simp,v,rfl,h1⟩
  | false =>
   rw [q] at h;obtain ⟨z1,v',z2,z3⟩:=xH h2 h;exact ⟨List.mem_cons_of_mem _ z1,v',z2,z3⟩
theorem cA.ins {H G:Hp} {c:Str} {ns:List Str} {ds:List D} {x:V} (h:cA K H G (.ins c ns ds) x):aD K G (.ins c ns ds) x:=by
 rcases h with h | ⟨a,rfl,h⟩
 ·exact h
 ·exact h.elim
theorem aAK (xo:bA X K P C Γ) {x f:Str} {p pos:Pos}:Ok3 X K P C (.Attribute (.Name x p) f pos) (.fld (o9 Γ x) f):=by
 have ha:=GB xo x p;refine kR xo (TE.imp_pe (aBq ha.h rfl) fun σ H Q q=>?_) (fun i z=>nomatch z) (fun ρ=>by simp only [ev,aQ]) fun _=>rfl
 obtain ⟨ρ,G,v,ρ',r,e,k⟩:=q;simp only [ev,aQ] at e;obtain ⟨hx,ρ1,e1,e⟩:=aJ e;obtain ⟨e3,rfl⟩:=eR e;refine ⟨ρ,G,hx,ρ',r,e1,fun x H1 G1 a1 rx=>?_⟩
 cases q1:hx.get ρ' with
 | none=>rw [q1] at e3; cases e3
 | some d =>
  rw [q1] at e3;simp only [Option.bind_some] at e3;cases d <;> simp only [NS,reduceCtorEq,Option.map_none] at e3;rename_i c ns ds
  cases q2:(ns.zip ds).lookup f with
  | none=>rw [q2] at e3; cases e3
  | some d' =>
   rw [q2] at e3;cases e3;have rr:=(rx.read a1.rel q1).ins;simp only [aD] at rr;obtain ⟨a,Ca,dx,vs,rfl,h1,h2,h3,h4,h5⟩:=rr;obtain ⟨z1,v',z2,z3⟩:=xH h3 q2;have hK:=xo.keq;exact ⟨a,Ca,dx,_,v',rfl,a1.rel.sub _ _ h2,by rw [hK]; exact h4.cl,by rw [hK]; exact h4.no f z1,z2,k v' H1 G1 a1 z3⟩
inductive XDs (K:PySem.W.Frag):List (List Str × List Str)→List Addr→Prop
 | nil:XDs K [] []
 | cons {s n:List Str} {D:Addr} {sn:List (List Str × List Str)} {Ds:List Addr} (hs:∀ c∈s,∀ C,PySem.W.nsIn K mainGlobals c=some (some (.ref C))→PySem.W.isIn K (.ref C) D=true)
   (hn:∀ c∈n,∀ C,PySem.W.nsIn K mainGlobals c=some (some (.ref C))→PySem.W.kin_not K C D=true) (t:XDs K sn Ds):XDs K ((s,n) :: sn) (D :: Ds)
theorem VX (xo:bA X K P C Γ) {f:Str} {ns:List Str} {e:Expr} {es:List Expr} {cs:List E} {p pos:Pos} (hf:Γ.glob f=.cls ns) (st:(e :: es).all aW=true) (ha:PA X (e :: es) (AH K P C cs)):Ok3 X K P C (.Call (.Name f p) (e :: es) [] pos) (.make f ns cs):=by
 obtain ⟨h1,h2,h3,h4⟩:=CC.glob_ok xo hf (fun z=>nomatch z);obtain ⟨Ca,fa,fd,ps,hn,hm,M,cf,F,hb⟩:=(xo.cls f ns h2).ex;rw [List.all_cons,Bool.and_eq_true] at st;refine kR xo (TE.imp_pe (WJ M F xo.rm h1 hm hb .nil BE ha h3 (bI st.1 _ _) (dX st.2 _ _).1) fun σ H Q q=>?_) (fun i z=>nomatch z) (fun ρ=>by simp only [ev,aQ]) fun _=>rfl
 obtain ⟨ρ,G,v,ρ',r,e,k⟩:=q;simp only [ev,aQ] at e;obtain ⟨ds,ρ1,e1,e⟩:=aJ e;split at e
 ·rename_i hl;cases e;refine ⟨ρ,G,ds,_,r,e1,fun xs H1 G1 a1 rx x dx nx ndx ne=>?_⟩;have el:xs.length=ns.length:=rx.len.trans hl;rw [List.append_nil];refine ⟨x,Ca,dx,xs,rfl,el,bC,cf,rfl, ?_⟩;rw [FE];have nx':(aV H1 dx (.own x)) x=none:=by rw [aN (Ne.symm ne)]; exact nx
  have a2:=(a1.layH (o:=.own x) ndx).layG (o:=.ins Ca dx (ns.zip xs)) nx';refine k (.ref x) _ _ a2 ?_;show aD K _ (.ins f ns ds) _;simp only [aD];exact ⟨x,Ca,dx,xs,rfl,hn,bC,aB.mono (aM.laid (aM.free a1.rel.sub nx)) ds rx,cf,el.symm⟩
 ·cases e
theorem nK {α:Type} {f:Str}:∀ {ns:List Str} {vs:List α},ns.contains f=false→(ns.zip vs).lookup f=none
 | [],_,_=>by simp
 | n :: ns,[],_=>by simp
 | n :: ns,v :: vs,h=>by
  rw [List.contains_cons,Bool.or_eq_false_iff] at h;rw [List.zip_cons_cons,List.lookup_cons,h.1];exact nK h.2
theorem GS {o:Expr} {m:Str} {es:List Expr} {apos pos:Pos} (st:es.all aW=true) (hln:(apos.endLine == pos.line)=true) (hfw:es.length<29) (env:PySem.Env) (hb:attributeBase o m env (eval o env)=eval o env:=by rfl):eval (.Call (.Attribute o m apos) es [] pos) env=(do
   let ov ← eval o env
   standAt apos.atName
   let (f,first) ← holding [ov] (getMethod ov m (do return (← importBound o env).getD true))
   callWith pos f first (backTo pos (starEach es env)) (backToKw pos (keywordEach [] env))):=by
 rw [arm_eval_Call]
 have hform:methodCallForm (es.length+([]:List Keyword).length) (backTo pos (starEach es env)) (backToKw pos (keywordEach [] env))=true:=by
  unfold methodCallForm;rw [(dX st env pos).2];simp only [Bool.true_and]
  have:(backToKw pos (keywordEach [] env))=[]:=rfl
  rw [this];simp;omega
 have hpos:methodCallPos true o env apos pos=pure pos:=by unfold methodCallPos; simp [hln]
 unfold methodCall;rw [hform];unfold calleeOf;simp only [if_true,hpos,hb];rfl
theorem WQ (xo:bA X K P C Γ) {x m:Str} {i:Nat} {tb:List (Str × String)} {es:List Expr} {cs:List E} {p apos pos:Pos} (hi:Γ.slot x=some i) (hm:Γ.gl (rD m)=.mth tb) (st:es.all aW=true) (hln:(apos.endLine == pos.line)=true) (hfw:es.length<29) (ha:PA X es (mX K P C cs)) (hz:es=[]→cs=[]):Ok3 X K P C (.Call (.Attribute (.Name x p) m apos) es [] pos) (.meth i m tb cs):=by
 have hp:=CC.slot_ok xo hi (pos:=p);refine kR xo (fun pins s σ H Q I q=>?_) (fun i z=>nomatch z) (fun ρ=>by simp only [ev,aQ]) fun _=>rfl
 obtain ⟨ρ,G,v,ρ',r,e,k⟩:=q;simp only [ev,aQ] at e;split at e
 ·rename_i c ns ds hs;split at e
  ·rename_i f hmf;unfold fK at hmf;split at hmf
   ·cases hmf
   ·rename_i hns;obtain ⟨Ca,fa,fd,ps,k0,hn,M,F,hr,hb,hcl⟩:=(xo.mth m tb c f hm hmf).ex;obtain ⟨x0,hx0,rx0⟩:=r.sh i _ hs;have rx1:=rx0;simp only [aD] at rx0;obtain ⟨a,Cb,dx,vs,rfl,h1,h2,h3,h4,h5⟩:=rx0;rw [hn] at h1; cases h1;obtain ⟨hd0,ρ1,e1,e⟩:=aJ e;have hK:=xo.keq;have clX:Cls X.K Ca:=by rw [hK]; exact h4.cl
    have main:∀ t:TA,(∀ σ H Q,mX K P C cs σ H Q→t σ H Q)→HP Ca m (K0 K (P f).length (C f)) [] (fun _ _ _=>False) (r6 i) t σ H Q:=fun t ht=>by
     refine ⟨.ref a,hx0,a,dx,_,rfl,r.sub _ _ h2,nK (by simpa using hns),ht _ _ _ ⟨ρ,G,hd0,ρ1,r,e1,fun xs H1 G1 a1 rx=>?_⟩⟩;have rx':cV K H1 G1 (aL ρ1 σ) (dU H) σ (.val (.sh (.ins c ns ds)) :: hd0) (.ref a :: xs):=⟨.ref a,xs,rfl,aD.mono a1.ext.gg _ rx1,rx,fun d b z=>by cases z⟩
     obtain ⟨as,G2,as',d1,d2,d3,_,d4⟩:=kP a1 rx' e;dsimp only;rw [List.append_nil];refine ⟨?_,as,G2,v,as',d1,d2,d3,fun x H' G' a hv=>?_⟩
     ·have:=d1.len
      rw [List.length_map] at this;omega
     ·obtain ⟨a5,v5⟩:=d4 x H' G' a hv;exact k x H' G' a5 v5
    cases es with
    | nil =>
     cases hz rfl;refine OW hp clX M F hr hb .nil BE (GS st hln hfw _) pins s σ H Q I (main _ fun σ' H' Q' z=>?_);obtain ⟨ρ2,G2,hs2,ρ3,r2,e2,k2⟩:=z;rw [cD] at e2;cases e2;exact k2 [] H' G2 (Aft.refl r2) rfl
    | cons e0 es0 =>
     have st0:=st;rw [List.all_cons,Bool.and_eq_true] at st;exact WV hp clX M F hr hb .nil BE ha (bI st.1 _ _) (dX st.2 _ _).1 (GS st0 hln hfw _) pins s σ H Q I (main _ fun _ _ _ z=>z)
  ·cases e
 ·cases e
end
structure AftS (K:PySem.W.Frag) (ρ:Env) (σ:St) (H G:Hp) (ρ':Env) (σ':St) (H' G':Hp):Prop where
 rel:Rel K ρ' σ' H' G'
 ext:Ext (aL ρ σ) H G H' G'
 own:∀ a,aL ρ' σ' a→aL ρ σ a∨H a=none
 un:∀ i:Nat,ρ'[i]?=some .un→ρ[i]?=some .un∧σ'[i]?=σ[i]?
 pin:∀ (i:Nat) d l,ρ[i]?=some (.ow d true l)→σ'[i]?=σ[i]?∧∃ d',ρ'[i]?=some (.ow d' true l)
 len:ρ'.length=ρ.length
section
variable {K:PySem.W.Frag} {ρ ρ' ρ1 ρ2:Env} {σ σ' σ1 σ2:St} {H G H' G' H1 G1 H2 G2:Hp}
theorem AftS.refl (r:Rel K ρ σ H G):AftS K ρ σ H G ρ σ H G:=⟨r,Ext.refl,fun _ h=>.inl h,fun _ h=>⟨h,rfl⟩,fun _ d _ h=>⟨rfl,d,h⟩,rfl⟩
theorem Aft.s (r:Rel K ρ σ H G) (a:Aft K ρ σ H G ρ' H' G'):AftS K ρ σ H G ρ' σ H' G':=by
 refine ⟨a.rel,a.ext,fun x h=>.inl (a.own x h),fun i h=>⟨?_,rfl⟩,fun i d l h=>⟨rfl, ?_⟩, ?_⟩
 ·have:=a.evo i
  rw [h] at this
  cases e:ρ[i]? with
  | none=>rw [e] at this; exact this.elim
  | some s=>rw [e] at this; cases s <;> first | rfl | exact this.elim
 ·have:=a.evo i
  rw [h] at this
  cases e:ρ'[i]? with
  | none=>rw [e] at this; exact this.elim
  | some s =>
   rw [e] at this
   cases s with
   | ow d' p' l'=>obtain ⟨rfl,rfl⟩:=this; exact ⟨d',rfl⟩
   | sh d'=>exact absurd (show true=false from this) (by simp)
   | _=>exact this.elim
 ·rw [a.rel.len,r.len]
theorem AftS.trans (a:AftS K ρ σ H G ρ1 σ1 H1 G1) (b:AftS K ρ1 σ1 H1 G1 ρ2 σ2 H2 G2):AftS K ρ σ H G ρ2 σ2 H2 G2:=by
 refine ⟨b.rel,a.ext.trans a.own b.ext,fun x h=>?_,fun i h=>?_,fun i d l h=>?_,b.len.trans a.len⟩
 ·rcases b.own x h with z | z
  ·exact a.own x z
  ·exact .inr (a.ext.hx x z)
 ·obtain ⟨h1,h2⟩:=b.un i h;obtain ⟨h3,h4⟩:=a.un i h1;exact ⟨h3,h2.trans h4⟩
 ·obtain ⟨h1,d',h2⟩:=a.pin i d l h;obtain ⟨h3,h4⟩:=b.pin i d' l h2;exact ⟨h3.trans h1,h4⟩
def fN (K:PySem.W.Frag) (ρ:Env) (σ:St) (H G:Hp) (ρ':Env) (D:Ends):Fl→Prop
 | .nx=>∀ σ' H' G',AftS K ρ σ H G ρ' σ' H' G'→D.nx σ' H'
 | .bk=>∀ σ' H' G',AftS K ρ σ H G ρ' σ' H' G'→D.bk σ' H'
 | .ct=>∀ σ' H' G',AftS K ρ σ H G ρ' σ' H' G'→D.ct σ' H'
 | .rt v=>∀ x σ' H' G',AftS K ρ σ H G ρ' σ' H' G'→dO K H' G' (aL ρ' σ') (fun a=>aL ρ σ a∨H a=none) v x→D.rt x H'
 | .ex _=>False
theorem fN.pre {D:Ends} {fl:Fl} (a:AftS K ρ σ H G ρ1 σ1 H1 G1) (h:fN K ρ σ H G ρ' D fl):fN K ρ1 σ1 H1 G1 ρ' D fl:=by
 cases fl with
 | nx=>exact fun σ' H' G' b=>h σ' H' G' (a.trans b)
 | bk=>exact fun σ' H' G' b=>h σ' H' G' (a.trans b)
 | ct=>exact fun σ' H' G' b=>h σ' H' G' (a.trans b)
 | rt v=>exact fun x σ' H' G' b hv=>h x σ' H' G' (a.trans b) (hv.new_mono fun c z=>by
   rcases z with z | z
   ·exact a.own c z
   ·exact .inr (a.ext.hx c z))
 | ex e=>exact h
end
noncomputable def tS (K:PySem.W.Frag) (P:aK) (C:Calls) (W:Nat) (c:S):TS:=fun D σ H=>∃ (ρ:Env) (G:Hp) (fl:Fl) (ρ':Env),Rel K ρ σ H G∧ex P C W c ρ=some (fl,ρ')∧fN K ρ σ H G ρ' D fl
noncomputable def qS (K:PySem.W.Frag) (P:aK) (C:Calls) (W:Nat) (c:List S):TS:=fun D σ H=>∃ (ρ:Env) (G:Hp) (fl:Fl) (ρ':Env),Rel K ρ σ H G∧exs P C W c ρ=some (fl,ρ')∧fN K ρ σ H G ρ' D fl
theorem TS.imp_ps {X:Cx} {e:Stmt} {t u:TS} (h:PS X e t) (w:∀ D σ H,u D σ H→t D σ H):PS X e u:=fun pins s σ H D I q=>h pins s σ H D I (w D σ H q)
theorem TS.imp_pss {X:Cx} {e:List Stmt} {t u:TS} (h:fE X e t) (w:∀ D σ H,u D σ H→t D σ H):fE X e u:=fun pins s σ H D I q=>h pins s σ H D I (w D σ H q)
section
variable {X:Cx} {K:PySem.W.Frag} {P:aK} {C:Calls} {W:Nat} {Γ:CC}
theorem f7 {α:Type} {r:aE α} {f:α→Env→bN} {fl:Fl} {ρ:Env} (h:r.flow f=some (fl,ρ)) (n:∀ e,fl≠.ex e):∃ a ρ1,r=some (.ok a,ρ1)∧f a ρ1=some (fl,ρ):=by
 unfold aE.flow at h;split at h
 ·cases h
 ·cases h; exact absurd rfl (n _)
 ·exact ⟨_,_,rfl,h⟩
theorem fN.ne {ρ ρ':Env} {σ:St} {H G:Hp} {D:Ends} {fl:Fl} (h:fN K ρ σ H G ρ' D fl):∀ e,fl≠.ex e:=fun e z=>by subst z; exact h
theorem QW:fE X [] (qS K P C W []):=TS.imp_pss FX fun D σ H ⟨ρ,G,fl,ρ',r,e,k⟩=>by
 simp only [exs,Option.some.injEq,Prod.mk.injEq] at e;obtain ⟨rfl,rfl⟩:=e;exact k σ H G (AftS.refl r)
theorem MM {st:Stmt} {d9:List Stmt} {c:S} {cs:List S} (h1:PS X st (tS K P C W c)) (h2:fE X d9 (qS K P C W cs)):fE X (st :: d9) (qS K P C W (c :: cs)):=by
 refine TS.imp_pss (vU h1 h2) fun D σ H ⟨ρ,G,fl,ρ',r,e,k⟩=>?_
 rw [exs] at e
 cases q:ex P C W c ρ with
 | none=>rw [q] at e; cases e
 | some y =>
  obtain ⟨fl1,ρ1⟩:=y;rw [q] at e;refine ⟨ρ,G,fl1,ρ1,r,q, ?_⟩
  cases fl1 with
  | nx=>exact fun σ1 H1 G1 a1=>⟨ρ1,G1,fl,ρ',a1.rel,e,k.pre a1⟩
  | bk=>cases e; exact k
  | ct=>cases e; exact k
  | rt v=>cases e; exact k
  | ex x=>cases e; exact k
theorem Rel.storeR {ρ ρ':Env} {σ:St} {H G:Hp} {new:Addr→Prop} {i:Nat} {v:RV} {x:V} (r:Rel K ρ σ H G) (e:store i v ρ=some ρ') (h:dO K H G (aL ρ σ) new v x) :
  Rel K ρ' (σ.set i (some x)) H G∧(∀ a,aL ρ' (σ.set i (some x)) a→aL ρ σ a∨new a)∧(∀ j:Nat,ρ'[j]?=some .un→ρ[j]?=some .un∧(σ.set i (some x))[j]?=σ[j]?) ∧
  (∀ (j:Nat) d l,ρ[j]?=some (.ow d true l)→(σ.set i (some x))[j]?=σ[j]?∧∃ d',ρ'[j]?=some (.ow d' true l))∧ρ'.length=ρ.length:=by
 have key:∃ sl,i<ρ.length∧ρ'=ρ.set i sl∧(∀ d l,ρ[i]?≠some (.ow d true l))∧((∃ d,v=.sh d∧sl=.sh d)∨∃ d,v=.ow d∧sl=.ow d false false):=by
  unfold store at e;split at e
  ·cases e
  ·cases e
  ·cases e
  ·rename_i s h1 h2 h3;cases e;refine ⟨_,(List.getElem?_eq_some_iff.mp h3).1,rfl,fun d l z=>?_, ?_⟩
   ·rw [h3] at z; cases z; exact h1 _ _ rfl
   ·cases v with
    | sh d=>exact .inl ⟨d,rfl,rfl⟩
    | ow d=>exact .inr ⟨d,rfl,rfl⟩
 obtain ⟨sl,hi,rfl,np,hs⟩:=key;have his:i<σ.length:=by rw [← r.len]; exact hi
 have hx:(σ.set i (some x))[i]?=some (some x):=List.getElem?_set_self his;have ne:∀ j:Nat,j≠i→(σ.set i (some x))[j]?=σ[j]?:=fun j h=>List.getElem?_set_ne (fun z=>h z.symm)
 have oth:∀ (j:Nat) s,(ρ.set i sl)[j]?=some s→(j=i∧s=sl)∨(j≠i∧ρ[j]?=some s):=fun j s h=>by
  rcases cU h with ⟨h1,h2,_⟩ | h
  ·exact .inl ⟨h1,h2⟩
  ·exact .inr h
 refine ⟨⟨by rw [List.length_set,List.length_set]; exact r.len,r.sub,fun j d h1=>?_,fun j d p l h1=>?_,fun j k d p l d' p' l' a h1 h2 h3 h4=>?_⟩,fun a ⟨j,d,p,l,h1,h2⟩=>?_,fun j h1=>?_,fun j d l h1=>?_,by rw [List.length_set]⟩
 ·rcases oth j _ h1 with ⟨rfl,z⟩ | ⟨nj,z⟩
  ·rcases hs with ⟨d0,rfl,rfl⟩ | ⟨d0,rfl,rfl⟩
   ·cases z; exact ⟨x,hx,h⟩
   ·cases z
  ·rw [ne j nj]; exact r.sh j d z
 ·rcases oth j _ h1 with ⟨rfl,z⟩ | ⟨nj,z⟩
  ·rcases hs with ⟨d0,rfl,rfl⟩ | ⟨d0,rfl,rfl⟩
   ·cases z
   ·cases z;obtain ⟨a,rfl,g,o,_,_⟩:=h;exact ⟨a,hx,g,o⟩
  ·rw [ne j nj]; exact r.ow j d p l z
 ·rcases oth j _ h1 with ⟨rfl,z⟩ | ⟨nj,z⟩
  ·rcases oth k _ h2 with ⟨rfl,z'⟩ | ⟨nk,z'⟩
   ·rfl
   ·rcases hs with ⟨d0,rfl,rfl⟩ | ⟨d0,rfl,rfl⟩
    ·cases z
    ·obtain ⟨b,rfl,g,o,no,_⟩:=h;rw [hx] at h3; cases h3;rw [ne k nk] at h4;exact absurd ⟨k,_,_,_,z',h4⟩ no
  ·rcases oth k _ h2 with ⟨rfl,z'⟩ | ⟨nk,z'⟩
   ·rcases hs with ⟨d0,rfl,rfl⟩ | ⟨d0,rfl,rfl⟩
    ·cases z'
    ·obtain ⟨b,rfl,g,o,no,_⟩:=h;rw [hx] at h4; cases h4;rw [ne j nj] at h3;exact absurd ⟨j,_,_,_,z,h3⟩ no
   ·rw [ne j nj] at h3;rw [ne k nk] at h4;exact r.inj _ _ _ _ _ _ _ _ _ z z' h3 h4
 ·rcases oth j _ h1 with ⟨rfl,z⟩ | ⟨nj,z⟩
  ·rcases hs with ⟨d0,rfl,rfl⟩ | ⟨d0,rfl,rfl⟩
   ·cases z
   ·obtain ⟨b,rfl,g,o,no,m⟩:=h;rw [hx] at h2; cases h2;exact .inr m
  ·rw [ne j nj] at h2; exact .inl ⟨j,d,p,l,z,h2⟩
 ·rcases oth j _ h1 with ⟨rfl,z⟩ | ⟨nj,z⟩
  ·rcases hs with ⟨d0,rfl,rfl⟩ | ⟨d0,rfl,rfl⟩ <;> cases z
  ·exact ⟨z,ne j nj⟩
 ·by_cases hj:j=i
  ·subst hj; exact absurd h1 (np d l)
  ·exact ⟨ne j hj,d,by rw [List.getElem?_set_ne (fun z=>hj z.symm)]; exact h1⟩
theorem Aft.store {ρ ρ1 ρ':Env} {σ:St} {H G H1 G1:Hp} {i:Nat} {v:RV} {x:V} (r:Rel K ρ σ H G) (a:Aft K ρ σ H G ρ1 H1 G1) (e:store i v ρ1=some ρ') (h:dO K H1 G1 (aL ρ1 σ) (dU H) v x):AftS K ρ σ H G ρ' (σ.set i (some x)) H1 G1:=by
 obtain ⟨h1,h2,h3,h4,h5⟩:=a.rel.storeR e h;have s:=Aft.s r a;refine ⟨h1,a.ext,fun b z=>?_,fun j z=>?_,fun j d l z=>?_,h5.trans s.len⟩
 ·rcases h2 b z with z | z
  ·exact s.own b z
  ·exact .inr z
 ·obtain ⟨z1,z2⟩:=h3 j z;obtain ⟨z3,z4⟩:=s.un j z1;exact ⟨z3,z2⟩
 ·obtain ⟨_,d',z2⟩:=s.pin j d l z;exact h4 j d' l z2
theorem Rel.store1 {ρ ρ':Env} {σ:St} {H G:Hp} {i:Nat} {d:D} {x:V} (r:Rel K ρ σ H G) (e:store i (.sh d) ρ=some ρ') (h:aD K G d x):AftS K ρ σ H G ρ' (σ.set i (some x)) H G :=
 Aft.store r (Aft.refl r) e h
noncomputable def gB (K:PySem.W.Frag) (one:Bool) (is:List Nat):TG:=fun v σ H Q=>∃ (ρ:Env) (G:Hp) (d:D) (ρ':Env),Rel K ρ σ H G∧aD K G d v∧a8 one is d ρ=some ρ'∧∀ σ',AftS K ρ σ H G ρ' σ' H G→Q σ' H
noncomputable def KO (K:PySem.W.Frag) (is:List Nat):zX:=fun vs σ H Q=>∃ (ρ:Env) (G:Hp) (ds:List D) (ρ':Env),Rel K ρ σ H G∧aB K G ds vs∧dZ is ds ρ=some ρ'∧∀ σ',AftS K ρ σ H G ρ' σ' H G→Q σ' H
theorem YM {tg:Expr} {i:Nat} (h:PG X tg (lN i)):PG X tg (gB K true [i]):=fun pins s σ H v u Q I rv ⟨ρ,G,d,ρ',r,hd,e,k⟩ =>
 h pins s σ H v u Q I rv (k _ (r.store1 (by simpa only [a8] using e) hd))
theorem NG:xJ X [] (KO K []):=fun pins s σ H vs us Q I rv ⟨ρ,G,ds,ρ',r,hd,e,k⟩=>by
 cases ds with
 | nil =>
  simp only [dZ,Option.some.injEq] at e;subst e;simp only [aB] at hd;subst hd;exact S9 pins s σ H [] us Q I rv ⟨rfl,k σ (AftS.refl r)⟩
 | cons d ds=>simp [dZ] at e
theorem MF {e:Expr} {es:List Expr} {i:Nat} {is:List Nat} (h:PG X e (lN i)) (t:xJ X es (KO K is)) (hs:(assignEach (e :: es) X.env).map (·.2)=assign e X.env :: (assignEach es X.env).map (·.2)):xJ X (e :: es) (KO K (i :: is)) :=
 fun pins s σ H vs us Q I rv ⟨ρ,G,ds,ρ',r,hd,e,k⟩=>by
  cases ds with
  | nil=>simp [dZ] at e
  | cons d ds =>
   simp only [dZ] at e
   cases q:store i (.sh d) ρ with
   | none=>rw [q] at e; cases e
   | some ρ1 =>
    rw [q] at e;simp only [aB] at hd;obtain ⟨v,r',rfl,h1,h2⟩:=hd;have a1:=r.store1 q h1;exact O6 h t hs pins s σ H (v :: r') us Q I rv ⟨v,r',rfl,ρ1,G,ds,ρ',a1.rel,h2,e,fun σ' a2=>k σ' (a1.trans a2)⟩
theorem wY:∀ {is:List Nat} {ds:List D} {ρ ρ':Env},dZ is ds ρ=some ρ'→ds.length=is.length
 | [],[],_,_,_=>rfl
 | [],_ :: _,_,_,e=>by simp [dZ] at e
 | _ :: _,[],_,_,e=>by simp [dZ] at e
 | i :: is,d :: ds,ρ,ρ',e=>by
  simp only [dZ] at e
  cases q:store i (.sh d) ρ with
  | none=>rw [q] at e; cases e
  | some ρ1=>rw [q] at e; simp [wY e]
theorem FQ (xo:bA X K P C Γ) {es:List Expr} {k0:Nat} {pos:Pos} {is:List Nat} (t:xJ X es (KO K is)) (hn:(assignEach es X.env).length=is.length) (hst:(assignEach es X.env).findIdx? (·.1)=none):PG X (.Tuple es k0 pos) (gB K false is) :=
 fun pins s σ H v u Q I rv ⟨ρ,G,d,ρ',r,hd,e,k⟩=>by
  cases d <;> simp only [a8,reduceCtorEq] at e;rename_i ds;simp only [aD] at hd;obtain ⟨a,vs,rfl,h1,h2⟩:=hd;refine aBn xo.calm t hn hst pins s σ H (.ref a) u Q I rv ⟨a,vs,rfl, ?_, ?_,ρ,G,ds,ρ',r,h2,e,k⟩
  ·rw [xo.keq]; exact eM r.sub h1
  ·rw [h2.len]; exact wY e
end
mutual
noncomputable def ZP (x:Str):Stmt→Bool
 | .For _ it body _ _=>(iP it == some x) || tK x body
 | .If _ a b _=>tK x a || tK x b
 | _=>false
noncomputable def tK (x:Str):List Stmt→Bool
 | []=>false
 | s :: r=>ZP x s || tK x r
end
noncomputable def MQ (Γ:CC) (it:Expr) (body:List Stmt) (cs:List E):List E:=cs
noncomputable def EE (Γ:CC):Expr→S
 | .Call (.Name x _) args [] _=>if args.all aW && (decide (args≠[]) && decide (args.length≤100)) then (match Γ.glob x with | .exc=>.rse x (bT Γ args) | _=>.bad) else .bad
 | _=>.bad
noncomputable def D8:List ExceptHandler→Option (Str × Str × List Stmt)
 | [.ExceptHandler (some c) (some n) body _]=>(iP c).map fun x=>(x,n,body)
 | _=>none
theorem wZ {e:Expr} {x:Str} (h:iP e=some x):∃ p,e=.Name x p:=by
 cases e <;> first | exact lL h | exact ⟨_,congrArg (fun y=>Expr.Name y _) (Option.some.inj h)⟩
theorem T5 {hs:List ExceptHandler} {x n:Str} {body:List Stmt} (h:D8 hs=some (x,n,body)):∃ p q,hs=[.ExceptHandler (some (.Name x p)) (some n) body q]:=by
 obtain _ | ⟨⟨ty,nm,bd,p2⟩,_ | ⟨_,_⟩⟩:=hs
 ·exact lL h
 ·obtain _ | c:=ty
  ·exact lL h
  ·obtain _ | n':=nm
   ·exact lL h
   ·replace h:(iP c).map (fun x=>(x,n',bd))=some (x,n,body):=h
    cases hc:iP c with
    | none=>rw [hc] at h; exact lL h
    | some y =>
     rw [hc] at h;cases h;obtain ⟨p,rfl⟩:=wZ hc;exact ⟨_,_,rfl⟩
 ·obtain _ | c:=ty <;> obtain _ | n':=nm <;> exact lL h
noncomputable def aE6:List Stmt→Option (Str × Str)
 | [.Assign [t] v _]=>(iP t).bind fun y=>(iP v).map fun n=>(y,n)
 | _=>none
noncomputable def RG (Γ:CC) (cb:List S) (x n:Str) (body:List Stmt):S:=.bad
noncomputable def Q5 (Γ:CC) (cb:List S) (x n:Str) (body:List Stmt):S:=.bad
noncomputable def ZR (n:Str) (body:List Stmt):Bool:=match aE6 body with
 | some (_,n')=>n' == n
 | none=>false
noncomputable def II:Stmt→Bool
 | .Return (some (.Constant .none _ _)) _=>true
 | _=>false
def aFi (st:Stmt):Prop:=∃ k p q,st=.Return (some (.Constant .none k p)) q
theorem L5 {st:Stmt} (h:II st=true):aFi st:=by
 cases st with
 | Return e q =>
  cases e with
  | none=>exact dA h
  | some e =>
   cases e with
   | Constant v k p =>
    cases v with
    | none=>exact Exists.intro _ ⟨_,_,rfl⟩
    | _=>exact dA h
   | _=>exact dA h
 | _=>exact dA h
noncomputable def aAL:List ExceptHandler→Option (Str × Stmt)
 | [.ExceptHandler (some c) none [st] _]=>if II st then (iP c).map fun x=>(x,st) else none
 | _=>none
theorem NU {hs:List ExceptHandler} {x:Str} {st:Stmt} (h:aAL hs=some (x,st)):∃ p k p1 p2 q,hs=[.ExceptHandler (some (.Name x p)) none [.Return (some (.Constant .none k p1)) p2] q]:=by
 obtain _ | ⟨⟨ty,nm,bd,q⟩,_ | ⟨_,_⟩⟩:=hs
 ·exact lL h
 ·obtain _ | c:=ty
  ·exact lL h
  ·obtain _ | n:=nm
   ·obtain _ | ⟨s1,_ | ⟨_,_⟩⟩:=bd
    ·exact lL h
    ·replace h:(if II s1 then (iP c).map (fun x=>(x,s1)) else none)=some (x,st):=h;split at h
     ·rename_i hr;obtain ⟨k,p1,p2,rfl⟩:=L5 hr
      cases hc:iP c with
      | none=>rw [hc] at h; exact lL h
      | some y =>
       rw [hc] at h;cases h;obtain ⟨p,rfl⟩:=wZ hc;exact ⟨_,_,_,_,_,rfl⟩
     ·exact lL h
    ·exact lL h
   ·exact lL h
 ·obtain _ | c:=ty
  ·exact lL h
  ·obtain _ | n:=nm
   ·obtain _ | ⟨s1,_ | ⟨_,_⟩⟩:=bd <;> exact lL h
   ·exact lL h
noncomputable def HQ (Γ:CC) (cb:List S) (hs:List ExceptHandler):S:=match aAL hs with
 | some (x,_)=>(match Γ.globE x with
  | .exs cs=>.tryN cb cs
  | _=>.bad)
 | none=>.bad
noncomputable def EA (Γ:CC) (cb:List S) (hs:List ExceptHandler) (o f:List Stmt):S :=
 if o.isEmpty && f.isEmpty then (match D8 hs with
  | some (x,n,body)=>if (Γ.names.lookup n == some .local) && Γ.top then (if ZR n body then RG Γ cb x n body else if body.isEmpty then .bad else Q5 Γ cb x n body) else .bad
  | none=>if Γ.top then HQ Γ cb hs else .bad) else .bad
mutual
noncomputable def cS (Γ:CC):Stmt→S
 | .Pass _=>.pass
 | .Break _=>.brk
 | .Continue _=>.cnt
 | .Return (some e) _=>.ret (cE Γ e)
 | .Return none _=>.retN
 | .Expr e _=>if b4 e then .expr (cE Γ e) else .bad
 | .If c a b _=>.ifs (cE Γ c) (j4 Γ a) (j4 Γ b)
 | .While c body [] _=>.bad
 | .For tg it body [] _=>match jK Γ tg,pV Γ it with
  | some (one,is),some (k,its)=>if kM k one then .for is one k (MQ Γ it body (bT Γ its)) (j4 Γ body) else .bad
  | _,_=>.bad
 | .Assign [.Name x _] e _=>match Γ.slotL x with
  | some i=>if b4 e || DJ e then .asg i (cE Γ e) else .bad
  | none=>.bad
 | .Assign [.Tuple ts _ _] e _=>match fZ Γ ts with
  | some is=>if b4 e && r9 e then .asgT is (cE Γ e) else .bad
  | none=>.bad
 | .Assign [.Subscript (.Name x _) k _] e _=>match Γ.slot x with
  | some i=>if b4 e && v7 k then .set i (cE Γ k) (cE Γ e) else .bad
  | none=>.bad
 | .AugAssign (.Name x _) .Add e _=>(match Γ.slotL x with
  | some i=>if b4 e then .aug i (cE Γ e) else .bad
  | none=>.bad)
 | .Raise (some e) none _=>EE Γ e
 | .Try body hs o f _=>EA Γ (j4 Γ body) hs o f
 | _=>.bad
noncomputable def j4 (Γ:CC):List Stmt→List S
 | []=>[]
 | s :: r=>cS Γ s :: j4 Γ r
end
section
variable {X:Cx} {K:PySem.W.Frag} {P:aK} {C:Calls} {W:Nat} {Γ:CC}
theorem pF {e:Expr} (h:b4 e=true) (t:Option Expr) (line:Nat) (env:PySem.Env):swapsWith e t line env=pure false:=by
 cases e <;> first | rfl | cases h
theorem l7 {e:Expr} (h:b4 e=true) (t:Expr) (line:Nat) (env:PySem.Env):swapsWithSole [t] e line env=pure false:=pF h _ _ _
theorem FU {st:Stmt} {c:S} (h:∀ ρ,ex P C W c ρ=none):PS X st (tS K P C W c):=fun pins s σ H D I ⟨ρ,G,fl,ρ',r,e,k⟩=>by rw [h] at e; cases e
theorem bH {st:Stmt}:PS X st (tS K P C W .bad):=FU fun ρ=>by rw [ex]
theorem OH {pos:Pos}:PS X (.Pass pos) (tS K P C W .pass):=TS.imp_ps S3 fun D σ H ⟨ρ,G,fl,ρ',r,e,k⟩=>by
 simp only [ex,Option.some.injEq,Prod.mk.injEq] at e;obtain ⟨rfl,rfl⟩:=e;exact k σ H G (AftS.refl r)
theorem T8 {pos:Pos}:PS X (.Break pos) (tS K P C W .brk):=TS.imp_ps OZ fun D σ H ⟨ρ,G,fl,ρ',r,e,k⟩=>by
 simp only [ex,Option.some.injEq,Prod.mk.injEq] at e;obtain ⟨rfl,rfl⟩:=e;exact k σ H G (AftS.refl r)
theorem VS {pos:Pos}:PS X (.Continue pos) (tS K P C W .cnt):=TS.imp_ps E1 fun D σ H ⟨ρ,G,fl,ρ',r,e,k⟩=>by
 simp only [ex,Option.some.injEq,Prod.mk.injEq] at e;obtain ⟨rfl,rfl⟩:=e;exact k σ H G (AftS.refl r)
theorem OB {e:Expr} {c:E} {pos:Pos} (h:Ok3 X K P C e c) (n:b4 e=true):PS X (.Expr e pos) (tS K P C W (.expr c)):=by
 refine TS.imp_ps (FP h.v (pF n _ _ _)) fun D σ H ⟨ρ,G,fl,ρ',r,e,k⟩=>?_
 simp only [ex] at e;obtain ⟨v,ρ1,e1,e2⟩:=f7 e k.ne;cases e2;exact ⟨ρ,G,v,_,r,e1,fun x H' G' a hv=>k σ H' G' (Aft.s r a)⟩
theorem O7 {pos:Pos}:PS X (.Return none pos) (tS K P C W .retN):=TS.imp_ps UJ fun D σ H ⟨ρ,G,fl,ρ',r,e,k⟩=>by
 simp only [ex,Option.some.injEq,Prod.mk.injEq] at e;obtain ⟨rfl,rfl⟩:=e;exact k .non σ H G (AftS.refl r) (by show aD K G .non _; simp [aD])
theorem Rel.give {ρ:Env} {σ:St} {H G:Hp} (r:Rel K ρ σ H G) {i:Nat} {d:D} {l:Bool} {a:Addr} (h:ρ[i]?=some (.ow d false l)) (hx:σ[i]?=some (some (.ref a))) :
  AftS K ρ σ H G (ρ.set i .mv) σ H G∧dO K H G (aL (ρ.set i .mv) σ) (fun a=>aL ρ σ a∨H a=none) (.ow d) (.ref a):=by
 have key:∀ (j:Nat) (sl:Sl),(ρ.set i .mv)[j]?=some sl→(j=i∧sl=.mv)∨(j≠i∧ρ[j]?=some sl):=fun j sl z=>by
  rcases cU z with ⟨e,z,_⟩ | z
  ·exact .inl ⟨e,z⟩
  ·exact .inr z
 obtain ⟨b,h1,g,o⟩:=r.ow i d false l h;rw [hx] at h1; cases h1
 have own':∀ c,aL (ρ.set i .mv) σ c→aL ρ σ c∧c≠a:=fun c ⟨j,d',p',l',z,w⟩=>by
  rcases key j _ z with ⟨_,q⟩ | ⟨nj,q⟩
  ·cases q
  ·refine ⟨⟨j,d',p',l',q,w⟩,fun z=>?_⟩;subst z;exact nj (r.inj _ _ _ _ _ _ _ _ _ q h w hx)
 refine ⟨⟨⟨by rw [List.length_set]; exact r.len,r.sub,fun j d' z=>?_,fun j d' p' l' z=>?_,fun j k d1 p1 l1 d2 p2 l2 c z1 z2 z3 z4=>?_⟩,Ext.refl,fun c z=>.inl (own' c z).1,fun j z=>?_,fun j d' l' z=>⟨rfl,d', ?_⟩,by rw [List.length_set]⟩,a,rfl,g,o,fun z=>(own' a z).2 rfl,.inl ⟨i,d,false,l,h,hx⟩⟩
 ·rcases key j _ z with ⟨_,q⟩ | ⟨nj,q⟩
  ·cases q
  ·exact r.sh j d' q
 ·rcases key j _ z with ⟨_,q⟩ | ⟨nj,q⟩
  ·cases q
  ·exact r.ow j d' p' l' q
 ·rcases key j _ z1 with ⟨_,q⟩ | ⟨nj,q⟩
  ·cases q
  ·rcases key k _ z2 with ⟨_,q'⟩ | ⟨nk,q'⟩
   ·cases q'
   ·exact r.inj _ _ _ _ _ _ _ _ _ q q' z3 z4
 ·rcases key j _ z with ⟨_,q⟩ | ⟨nj,q⟩
  ·cases q
  ·exact ⟨q,rfl⟩
 ·have nj:j≠i:=fun w=>by subst w; rw [h] at z; cases z
  rw [List.getElem?_set_ne (fun w=>nj w.symm)]; exact z
theorem TZ {e:Expr} {c:E} {pos:Pos} (h:Ok3 X K P C e c):PS X (.Return (some e) pos) (tS K P C W (.ret c)):=by
 by_cases hv:∃ i,c=.var i
 ·obtain ⟨i,rfl⟩:=hv;refine TS.imp_ps (x8 h.h) fun D σ H ⟨ρ,G,fl,ρ',r,e,k⟩=>?_
  simp only [ex] at e;split at e
  ·rename_i d l hd;cases e;obtain ⟨a,h1,g,o⟩:=r.ow i d false l hd;refine ⟨ρ,G,.slot i,ρ,r,by simp [hd,hd,Sl.get,CI.hd],fun x H' G' a1 hx=>?_⟩;obtain ⟨a',h1',g',o'⟩:=a1.rel.ow i d false l hd;have hx:σ[i]?=some (some x):=hx;rw [hx] at h1'; cases h1';obtain ⟨s1,v1⟩:=a1.rel.give hd hx;exact (k.pre (Aft.s r a1)) _ σ H' G' s1 v1
  ·rename_i d hd;cases e;obtain ⟨v,h1,h2⟩:=r.sh i d hd;refine ⟨ρ,G,.slot i,ρ,r,by simp [hd,Sl.get,CI.hd],fun x H' G' a1 hx=>?_⟩;obtain ⟨v',h1',h2'⟩:=a1.rel.sh i d hd;have hx:σ[i]?=some (some x):=hx;rw [hx] at h1'; cases h1';exact k x σ H' G' (Aft.s r a1) h2'
  ·cases e
 ·refine TS.imp_ps (x8 h.v) fun D σ H ⟨ρ,G,fl,ρ',r,e,k⟩=>?_
  have e':(ev P C false c ρ).flow (fun v ρ1=>some (.rt v,ρ1))=some (fl,ρ'):=by
   cases c <;> first | exact absurd ⟨_,rfl⟩ hv | (simpa only [ex] using e)
  obtain ⟨v,ρ1,e1,e2⟩:=f7 e' k.ne;cases e2;exact ⟨ρ,G,v,_,r,e1,fun x H' G' a hv=>k x σ H' G' (Aft.s r a) (hv.new_mono fun a z=>.inr z)⟩
theorem X2 {c:Expr} {a b:List Stmt} {cc:E} {ca cb:List S} {pos:Pos} (hc:Ok3 X K P C c cc) (ha:fE X a (qS K P C W ca)) (hb:fE X b (qS K P C W cb)):PS X (.If c a b pos) (tS K P C W (.ifs cc ca cb)):=by
 refine TS.imp_ps (RC hc.t ha hb) fun D σ H ⟨ρ,G,fl,ρ',r,e,k⟩=>?_
 simp only [ex] at e;obtain ⟨v,ρ1,e1,e2⟩:=f7 e k.ne;split at e2
 ·refine ⟨ρ,G,true,ρ1,r,e1,fun H1 G1 a1=>?_⟩;refine C6 ?_;exact ⟨ρ1,G1,fl,ρ',a1.rel,e2,k.pre (Aft.s r a1)⟩
 ·refine ⟨ρ,G,false,ρ1,r,e1,fun H1 G1 a1=>?_⟩;refine C4 ?_;exact ⟨ρ1,G1,fl,ρ',a1.rel,e2,k.pre (Aft.s r a1)⟩
 ·cases e2
theorem wB {qq:Bool} (xo:XOkB qq X K P C Γ) (hfn:∀ x,Γ.isLoc x=true→X.fn x=true∨X.env.scope.names.lookup x=some .local) {x:Str} {i:Nat} (h:Γ.slotL x=some i) {pos:Pos}:PG X (.Name x pos) (lN i):=by
 unfold CC.slotL at h;split at h
 ·rename_i hl
  have hN:X.N[i]?=some x:=by
   unfold CC.slot at h;split at h
   ·cases h
   ·split at h
    ·rw [xo.neq]; exact nL h
    ·cases h
  refine yT (by rw [xo.neq]; exact xo.nd) hN ?_ (hfn x hl);unfold L2.rQ;rw [xo.nm];unfold CC.isLoc at hl;rw [Bool.or_eq_true,Bool.and_eq_true] at hl;rcases hl with hl | hl
  ·exact .inl (eq_of_beq hl)
  ·exact .inr (eq_of_beq hl.2)
 ·cases h
theorem U3 {qq:Bool} (xo:XOkB qq X K P C Γ) (hfn:∀ x,Γ.isLoc x=true→X.fn x=true∨X.env.scope.names.lookup x=some .local) {x:Str} {i:Nat} {e:Expr} {c:E} {p pos:Pos} (hi:Γ.slotL x=some i) (h:Ok3 X K P C e c) (n:b4 e=true):PS X (.Assign [.Name x p] e pos) (tS K P C W (.asg i c)):=by
 refine TS.imp_ps (sC h.v (wB xo hfn hi) (l7 n _ _ _)) fun D σ H ⟨ρ,G,fl,ρ',r,e,k⟩=>?_
 simp only [ex] at e;obtain ⟨v,ρ1,e1,e2⟩:=f7 e k.ne;unfold jC at e2
 cases q:store i v ρ1 with
 | none=>rw [q] at e2; cases e2
 | some ρ2 =>
  rw [q] at e2;cases e2;exact ⟨ρ,G,v,ρ1,r,e1,fun x H' G' a hv=>k _ H' G' (Aft.store r a q hv)⟩
theorem pB (xo:bA X K P C Γ) (hfn:∀ x,Γ.isLoc x=true→X.fn x=true∨X.env.scope.names.lookup x=some .local):∀ {ts:List Expr} {is:List Nat},fZ Γ ts=some is→xJ X ts (KO K is)∧(assignEach ts X.env).length=is.length∧(assignEach ts X.env).findIdx? (·.1)=none∧ts.length=is.length
 | [],is,h=>by cases h; exact ⟨NG,rfl,rfl,rfl⟩
 | e :: es,is,h=>by
  simp only [fZ] at h
  cases q:DR Γ e with
  | none=>rw [q] at h; cases h
  | some i =>
   rw [q] at h;simp only [Option.bind_some] at h
   cases q2:fZ Γ es with
   | none=>rw [q2] at h; cases h
   | some is' =>
    rw [q2] at h;cases h;obtain ⟨h1,h2,h3,h4⟩:=pB xo hfn q2;cases e <;> simp only [DR,reduceCtorEq] at q;refine ⟨MF (wB xo hfn q) h1 rfl, ?_, ?_,by simp [h4]⟩
    ·show (assignEach es X.env).length+1=is'.length+1;rw [h2]
    ·show ((false,_) :: assignEach es X.env).findIdx? (·.1)=none;rw [List.findIdx?_cons,h3];rfl
theorem D6 {ts:List Expr} {k0:Nat} {p:Pos} {e:Expr} (h:r9 e=true) (env:PySem.Env):swappedStores [.Tuple ts k0 p] e env=pure none:=by
 cases e <;> first | rfl | cases h
theorem PJ (xo:bA X K P C Γ) (hfn:∀ x,Γ.isLoc x=true→X.fn x=true∨X.env.scope.names.lookup x=some .local) {ts:List Expr} {is:List Nat} {e:Expr} {c:E} {k0:Nat} {p pos:Pos} (hi:fZ Γ ts=some is) (h:Ok3 X K P C e c) (n:b4 e=true) (n2:r9 e=true):PS X (.Assign [.Tuple ts k0 p] e pos) (tS K P C W (.asgT is c)):=by
 obtain ⟨h1,h2,h3,h4⟩:=pB xo hfn hi;refine TS.imp_ps (sC h.v (FQ xo h1 h2 h3) (l7 n _ _ _) (D6 n2 _)) fun D σ H ⟨ρ,G,fl,ρ',r,e,k⟩=>?_
 simp only [ex] at e;obtain ⟨v,ρ1,e1,e2⟩:=f7 e k.ne;unfold jC at e2
 cases q:a8 false is v.d ρ1 with
 | none=>rw [q] at e2; cases e2
 | some ρ2 =>
  rw [q] at e2;cases e2;refine ⟨ρ,G,v,ρ1,r,e1,fun x H' G' a hv=>?_⟩;obtain ⟨G2,a2,r2⟩:=a.share hv;exact ⟨ρ1,G2,v.d,_,a2.rel,r2,q,fun σ' b=>k σ' H' G2 ((Aft.s r a2).trans b)⟩
theorem WX {ρ:Env} {i:Nat} (h:yZ ρ i=true):∃ kvs p l,ρ[i]?=some (.ow (.dct kvs) p l):=by
 unfold yZ at h;split at h
 ·rename_i d p l e; exact ⟨d,p,l,e⟩
 ·cases h
noncomputable def aCq:G8:=fun o i v H Q=>∃ a H',o=.ref a∧vQ H a i v H'∧Q H'
theorem N0 (hu:X.A.units+1<cLine):P1 X (fun o i v H Q=>SD o i v H Q∨aCq o i v H Q):=by
 intro pins s σ H o i v ov iv u Q I ro ri rv h;rcases h with h | ⟨a,H',rfl,g,q⟩
 ·exact OK pins s σ H o i v ov iv u Q I ro ri rv h
 ·cases ro;exact L8 hu I g ri rv fun s' I'=>⟨H',I',q⟩
theorem QS {kvs:List (Int × Int)} {n m:Int}:jT (sE kvs) (Sum.inl n) (.int m)=sE (y9 kvs n m):=by
 unfold jT y9 sE
 have h1:((kvs.map fun p=>((Sum.inl p.1:bP),V.int p.2)).any fun kv=>decide (kv.1=Sum.inl n))=kvs.any fun p=>decide (p.1=n):=by
  rw [List.any_map];congr 1
  funext p
  show decide ((Sum.inl p.1:bP)=Sum.inl n)=_;by_cases h:p.1=n
  ·rw [decide_eq_true h,decide_eq_true (by rw [h])]
  ·rw [decide_eq_false h,decide_eq_false fun z=>h (Sum.inl.inj z)]
 rw [h1];split
 ·rw [List.map_map,List.map_map];refine List.map_congr_left fun p _=>?_
  show (if (Sum.inl p.1:bP)=Sum.inl n then ((Sum.inl p.1:bP),V.int m) else (Sum.inl p.1,V.int p.2))=_;by_cases h:p.1=n
  ·rw [if_pos (by rw [h])];show _=(fun q:Int × Int=>((Sum.inl q.1:bP),V.int q.2)) (if p.1=n then (p.1,m) else p);rw [if_pos h]
  ·rw [if_neg fun z=>h (Sum.inl.inj z)];show _=(fun q:Int × Int=>((Sum.inl q.1:bP),V.int q.2)) (if p.1=n then (p.1,m) else p);rw [if_neg h]
 ·rw [List.map_append];rfl
theorem SR (xo:bA X K P C Γ) {x:Str} {i:Nat} {e j:Expr} {c cj:E} {p p2 pos:Pos} (hi:Γ.slot x=some i) (h:Ok3 X K P C e c) (hj:Ok3 X K P C j cj) (n:b4 e=true)
  (ha:∀ v,assign (.Subscript (.Name x p) j p2) X.env v=(do
   let ov ← holding [v] (eval (.Name x p) X.env)
   let iv ← holding [v,ov] (eval j X.env)
   standAt p2
   holding [v,ov,iv] (setItem ov iv v)
   release [v,ov,iv] [])):PS X (.Assign [.Subscript (.Name x p) j p2] e pos) (tS K P C W (.set i cj c)):=by
 have hp:PE X (.Name x p) (r6 i):=CC.slot_ok xo hi;refine TS.imp_ps (sC h.v (aAt hp hj.v (N0 (by have:=xo.hu; omega)) ha) (l7 n _ _ _)) fun D σ H ⟨ρ,G,fl,ρ',r,e,k⟩=>?_
 simp only [ex] at e;obtain ⟨v,ρ1,e1,e2⟩:=f7 e k.ne;split at e2
 ·rename_i ho;obtain ⟨w,ρ2,e3,e4⟩:=f7 e2 k.ne;split at e4
  ·rename_i ds p1 nn hs hw;unfold jC at e4
   cases q:lI ds.length nn with
   | none=>rw [q] at e4; cases e4
   | some m =>
    rw [q] at e4;cases e4;refine ⟨ρ,G,v,ρ1,r,e1,fun y H1 G1 a1 hv=>?_⟩;obtain ⟨d0,p0,l0,h0⟩:=yM ho;obtain ⟨b,hb,g0,o0⟩:=a1.rel.ow i _ p0 l0 h0;refine ⟨.ref b,hb,ρ1,G1,w,ρ2,a1.rel,e3,fun z H2 G2 a2 hz=>?_⟩;have hv2:=hv.wait a2.ext fun a z=>.inl (a2.own a z)
    obtain ⟨G3,a3,r3⟩:=(a1.trans a2).share hv2;obtain ⟨b',hb',g1,vs,hvs,hr⟩:=a3.rel.ow i _ _ _ hs;rw [hb] at hb'; cases hb';have hzi:=hz.readR;rw [hw] at hzi;cases hzi.int;have a4:=a3.rel.write hs hb (hr.set r3 m);exact .inl ⟨b,vs,nn,m,rfl,rfl,hvs,by rw [hr.len]; exact q,k σ _ _ (Aft.s r (a3.trans a4))⟩
  ·cases e4
 ·split at e2
  ·rename_i ho;obtain ⟨w,ρ2,e3,e4⟩:=f7 e2 k.ne;split at e4
   ·rename_i kvs p1 n m hs;split at e4
    ·rename_i hz;cases e4;refine ⟨ρ,G,_,ρ1,r,e1,fun y H1 G1 a1 hv=>?_⟩;obtain ⟨d0,p0,l0,h0⟩:=WX ho;obtain ⟨b,hb,g0,o0⟩:=a1.rel.ow i _ p0 l0 h0;refine ⟨.ref b,hb,ρ1,G1,_,ρ2,a1.rel,e3,fun z H2 G2 a2 hz2=>?_⟩;have hv:aD K G1 (.int m) y:=hv;have hz2:aD K G2 (.int n) z:=hz2;simp only [aD] at hv hz2;subst hv hz2;obtain ⟨b',hb',g1,hvs⟩:=a2.rel.ow i _ _ _ hs;rw [hb] at hb'; cases hb';have hvs:H2 b=some (.dK (sE kvs)):=hvs;have a4:=a2.rel.writeO (ob:=.dK (sE (y9 kvs n m))) (d':=.dct (y9 kvs n m)) hs hb bC;refine .inr ⟨b,_,rfl,vQ.k (k:=Sum.inl n) hvs ?_, ?_⟩
     ·have:=hV hz
      unfold sE;rw [List.length_map];omega
     ·rw [QS];exact k σ _ _ (Aft.s r ((a1.trans a2).trans a4))
    ·cases e4
   ·cases e4
  ·cases e2
end
section
variable {X:Cx} {K:PySem.W.Frag} {P:aK} {C:Calls} {W:Nat} {Γ:CC}
theorem kJ {ρ:Env} {σ:St} {H G:Hp} {o:Option Nat} (r:Rel K ρ σ H G):Rel K (aO o ρ) σ H G∧∀ a,aL (aO o ρ) σ a→aL ρ σ a:=by
 cases o with
 | none=>exact ⟨r,fun _ z=>z⟩
 | some i=>exact ⟨r.unset i,fun _ z=>z.unset⟩
theorem f9 {ρ1 ρf ρ':Env} {σ σf:St} {H1 G1 Hf Gf:Hp} {o:Option Nat} (r:Rel K ρ1 σ H1 G1) (ho:∀ i,o=some i→∃ d p l,ρ1[i]?=some (.ow d p l)) (e:dB o ρ1 ρf=some ρ') (a:AftS K (aO o ρ1) σ H1 G1 ρf σf Hf Gf) :
  AftS K ρ1 σ H1 G1 ρ' σf Hf Gf∧∀ c,aL ρ' σf c→aL ρf σf c∨(aL ρ1 σ c∧¬ aL (aO o ρ1) σ c):=by
 cases o with
 | none =>
  simp only [dB,Option.some.injEq] at e;subst e;exact ⟨a,fun _ z=>.inl z⟩
 | some i =>
  obtain ⟨d,p,l,hi⟩:=ho i rfl;obtain ⟨b,hb,g,ob⟩:=r.ow i d p l hi;have hob:aL ρ1 σ b:=⟨i,d,p,l,hi,hb⟩
  have nob:¬ aL (ρ1.set i .un) σ b:=r.unset_not hi hb;have hne:H1 b≠none:=(r.owned hob).1;simp only [dB] at e;split at e
  ·rename_i sl hf hs;rw [hi] at hs; cases hs;cases e;obtain ⟨hu1,hu2⟩:=a.un i hf;have hx:σf[i]?=some (some (.ref b)):=hu2.trans hb;have gb:Gf b=none:=a.ext.gn b hne g nob;have of:gM K Hf Gf b d:=ob.mono a.ext.gg fun o' h'=>a.ext.hh b o' h' nob
   have nf:¬ aL ρf σf b:=fun z=>by
    rcases a.own b z with z | z
    ·exact nob z
    ·exact hne z
   have rf:Rel K (ρf.set i (.ow d p l)) σf Hf Gf:=(a.rel.unset i).put_ow hx gb of fun z=>nf z.unset
   have own':∀ c,aL (ρf.set i (.ow d p l)) σf c→c=b∨aL ρf σf c:=fun c z=>by
    rcases z.put_ow hx with z | z
    ·exact .inl z
    ·exact .inr z.unset
   refine ⟨⟨rf,a.ext.weaken fun c z=>z.unset,fun c z=>?_,fun j z=>?_,fun j d' l' z=>?_,by rw [List.length_set,a.len]; exact List.length_set⟩,fun c z=>?_⟩
   ·rcases own' c z with rfl | z
    ·exact .inl hob
    ·rcases a.own c z with z | z
     ·exact .inl z.unset
     ·exact .inr z
   ·rcases cU z with ⟨_,w,_⟩ | ⟨nj,w⟩
    ·cases w
    ·obtain ⟨w1,w2⟩:=a.un j w;have w1':(ρ1.set i .un)[j]?=some .un:=w1;rw [List.getElem?_set_ne (fun q=>nj q.symm)] at w1';exact ⟨w1',w2⟩
   ·by_cases hj:j=i
    ·subst hj;rw [hi] at z; cases z;refine ⟨hu2,d, ?_⟩;rw [List.getElem?_set_self (List.getElem?_eq_some_iff.mp hf).1]
    ·have z':(aO (some i) ρ1)[j]?=some (.ow d' true l'):=by
      show (ρ1.set i .un)[j]?=_;rw [List.getElem?_set_ne (fun q=>hj q.symm)]; exact z
     obtain ⟨w1,d2,w2⟩:=a.pin j d' l' z';exact ⟨w1,d2,by rw [List.getElem?_set_ne (fun q=>hj q.symm)]; exact w2⟩
   ·rcases own' c z with rfl | z
    ·exact .inr ⟨hob,nob⟩
    ·exact .inl z
  ·cases e
theorem fN.restore {ρ1 ρf ρ':Env} {σ:St} {H1 G1:Hp} {o:Option Nat} {D:Ends} {fl:Fl} (r:Rel K ρ1 σ H1 G1) (ho:∀ i,o=some i→∃ d p l,ρ1[i]?=some (.ow d p l)) (e:dB o ρ1 ρf=some ρ') (k:fN K ρ1 σ H1 G1 ρ' D fl) :
  fN K (aO o ρ1) σ H1 G1 ρf D fl:=by
 cases fl with
 | nx=>exact fun σ' H' G' b=>k σ' H' G' (f9 r ho e b).1
 | bk=>exact fun σ' H' G' b=>k σ' H' G' (f9 r ho e b).1
 | ct=>exact fun σ' H' G' b=>k σ' H' G' (f9 r ho e b).1
 | rt v =>
  refine fun x σ' H' G' b hv=>?_
  obtain ⟨b1,b2⟩:=f9 r ho e b;refine k x σ' H' G' b1 ?_
  cases v with
  | sh d=>exact hv
  | ow d =>
   obtain ⟨c,rfl,g,oo,n,m⟩:=hv;refine ⟨c,rfl,g,oo,fun z=>?_, ?_⟩
   ·rcases b2 c z with z | ⟨z1,z2⟩
    ·exact n z
    ·rcases m with m | m
     ·exact z2 m
     ·exact (r.owned z1).1 m
   ·rcases m with m | m
    ·exact .inl ((kJ r).2 c m)
    ·exact .inr m
 | ex x=>exact k
def jZ (K:PySem.W.Frag) (P:aK) (C:Calls) (W:Nat) (one:Bool) (tg:List Nat) (cb:List S) (ρ0:Env) (σ0:St) (H0 G0:Hp) (fl:Fl) (ρf:Env) (ds:List D) (i:Nat):St→Hp→Prop:=fun σ H =>
 ∃ ρ G,AftS K ρ0 σ0 H0 G0 ρ σ H G∧cQ (a8 one tg) (exs P C W cb) (ds.drop i) ρ=some (fl,ρf)
theorem rV {one:Bool} {tg:List Nat} {cb:List S} {ρ0 ρf:Env} {σ0 σ:St} {H0 G0 H:Hp} {fl:Fl} {ds:List D} {i:Nat} {d:D} {x:V} {D0:Ends} (hk:fN K ρ0 σ0 H0 G0 ρf D0 fl) (hd:ds[i]?=some d) (hx:aD K G0 d x)
  (h:jZ K P C W one tg cb ρ0 σ0 H0 G0 fl ρf ds i σ H) :
  gB K one tg x σ H fun σ2 H2=>qS K P C W cb { D0 with nx:=jZ K P C W one tg cb ρ0 σ0 H0 G0 fl ρf ds (i+1),ct:=jZ K P C W one tg cb ρ0 σ0 H0 G0 fl ρf ds (i+1),bk:=D0.nx } σ2 H2:=by
 obtain ⟨ρ,G,a,e⟩:=h;have hl:i<ds.length:=(List.getElem?_eq_some_iff.mp hd).1
 have ed:ds.drop i=d :: ds.drop (i+1):=by
  rw [List.drop_eq_getElem_cons hl];congr 1;rw [List.getElem?_eq_getElem hl] at hd;exact Option.some.inj hd
 rw [ed] at e;simp only [cQ] at e
 cases q:a8 one tg d ρ with
 | none=>rw [q] at e; cases e
 | some ρ1 =>
  rw [q] at e;simp only at e;refine ⟨ρ,G,d,ρ1,a.rel,aD.mono a.ext.gg d hx,q,fun σ1 a1=>?_⟩;have a01:=a.trans a1
  cases q2:exs P C W cb ρ1 with
  | none=>rw [q2] at e; cases e
  | some y =>
   obtain ⟨fl1,ρ2⟩:=y;rw [q2] at e;refine ⟨ρ1,G,fl1,ρ2,a1.rel,q2, ?_⟩
   cases fl1 with
   | nx=>exact fun σ2 H2 G2 a2=>⟨ρ2,G2,a01.trans a2,e⟩
   | ct=>exact fun σ2 H2 G2 a2=>⟨ρ2,G2,a01.trans a2,e⟩
   | bk=>cases e; exact fun σ2 H2 G2 a2=>hk σ2 H2 G2 (a01.trans a2)
   | rt v=>cases e; exact hk.pre a01
   | ex x=>cases e; exact hk
theorem JV {one:Bool} {tg:List Nat} {cb:List S} {ρ0 ρf:Env} {σ0 σ:St} {H0 G0 H:Hp} {fl:Fl} {ds:List D} {i:Nat} {d:D} {x:V} {D0:Ends} (hk:fN K ρ0 σ0 H0 G0 ρf D0 fl) (hd:ds[i]?=some d)
  (h:∃ ρ G,AftS K ρ0 σ0 H0 G0 ρ σ H G∧aD K G d x∧cQ (a8 one tg) (exs P C W cb) (ds.drop i) ρ=some (fl,ρf)) :
  gB K one tg x σ H fun σ2 H2=>qS K P C W cb { D0 with nx:=jZ K P C W one tg cb ρ0 σ0 H0 G0 fl ρf ds (i+1),ct:=jZ K P C W one tg cb ρ0 σ0 H0 G0 fl ρf ds (i+1),bk:=D0.nx } σ2 H2:=by
 obtain ⟨ρ,G,a,hx,e⟩:=h;have hl:i<ds.length:=(List.getElem?_eq_some_iff.mp hd).1
 have ed:ds.drop i=d :: ds.drop (i+1):=by
  rw [List.drop_eq_getElem_cons hl];congr 1;rw [List.getElem?_eq_getElem hl] at hd;exact Option.some.inj hd
 rw [ed] at e;simp only [cQ] at e
 cases q:a8 one tg d ρ with
 | none=>rw [q] at e; cases e
 | some ρ1 =>
  rw [q] at e;simp only at e;refine ⟨ρ,G,d,ρ1,a.rel,hx,q,fun σ1 a1=>?_⟩;have a01:=a.trans a1
  cases q2:exs P C W cb ρ1 with
  | none=>rw [q2] at e; cases e
  | some y =>
   obtain ⟨fl1,ρ2⟩:=y;rw [q2] at e;refine ⟨ρ1,G,fl1,ρ2,a1.rel,q2, ?_⟩
   cases fl1 with
   | nx=>exact fun σ2 H2 G2 a2=>⟨ρ2,G2,a01.trans a2,e⟩
   | ct=>exact fun σ2 H2 G2 a2=>⟨ρ2,G2,a01.trans a2,e⟩
   | bk=>cases e; exact fun σ2 H2 G2 a2=>hk σ2 H2 G2 (a01.trans a2)
   | rt v=>cases e; exact hk.pre a01
   | ex x=>cases e; exact hk
theorem N6 {a:Addr} {lo:Int} {xs:List V} {g:TG} {tb:TS} {D:Ends} {σ:St} {H:Hp} (Pv:Nat→St→Hp→Prop) (h0:Pv 0 σ H) (hl:∀ i σ H,i≤xs.length→Pv i σ H→cB K H a xs)
  (hs:∀ i y p σ H,xs[i]?=some y→H p=none→Pv i σ H→g (.ref p) σ (aV H p (.tup [.int (lo+(i:Int)),y])) fun σ2 H2=>tb { D with nx:=Pv (i+1),ct:=Pv (i+1),bk:=D.nx } σ2 H2) (hd:∀ σ H,Pv xs.length σ H→D.nx σ H) :
  ∃ W:Nat→Nat→St→Hp→Prop,(∃ m,W 0 m σ H)∧∀ i m σ H,W i m σ H →
   ((rM K a lo).stop i H∧D.nx σ H)∨((rM K a lo).go i H∧∃ N:St→Hp→Prop,(∀ σ' H',N σ' H'→∃ m',m'<m∧W (i+1) m' σ' H')∧∀ x H',(rM K a lo).yld i H x H'→g x σ H' fun σ2 H2=>tb { D with nx:=N,ct:=N,bk:=D.nx } σ2 H2):=by
 refine ⟨fun i m σ H=>m=xs.length - i∧i≤xs.length∧Pv i σ H,⟨xs.length,by simp,Nat.zero_le _,h0⟩, ?_⟩
 rintro i m σ H ⟨rfl,hi,p⟩
 have q:=hl i σ H hi p;by_cases hlt:i<xs.length
 ·refine .inr ⟨⟨xs,xs[i],q,by simp [hlt]⟩,Pv (i+1),fun σ' H' p'=>⟨xs.length - (i+1),by omega,rfl,hlt,p'⟩,fun x H' y=>?_⟩;obtain ⟨p0,y0,hn,rfl,rfl,hy⟩:=y;exact hs i y0 p0 σ H (hy xs q) hn p
 ·have e:i=xs.length:=by omega
  subst e;exact .inl ⟨⟨xs,q,Nat.le_refl _⟩,hd σ H p⟩
theorem fI {lo:Int} {ds:List D}:(dJ lo ds).length=ds.length:=by unfold dJ; simp
theorem nM {lo:Int} {ds:List D} {i:Nat} {d:D} (h:ds[i]?=some d):(dJ lo ds)[i]?=some (.tup [.int (lo+(i:Int)),d]):=by
 have hl:i<ds.length:=(List.getElem?_eq_some_iff.mp h).1;unfold dJ;rw [List.getElem?_map,List.getElem?_range hl,Option.map_some,List.getD_eq_getElem?_getD,h];rfl
theorem CV {G:Hp} {p:Addr} {i:Int} {d:D} {y:V} (hg:G p=none) (h:aD K G d y):aD K (aV G p (.tup [.int i,y])) (.tup [.int i,d]) (.ref p):=by
 simp only [aD];exact ⟨p,_,rfl,d6.of bC,aB.cons (by simp [aD]) (aB.cons (aD.mono (aM.laid hg) d h) aB.nil)⟩
theorem pY {one:Bool} {tg:List Nat} {cb:List S} {ρ0 ρf:Env} {σ0 σ:St} {H0 G0 H:Hp} {fl:Fl} {ds:List D} {D0:Ends} (hk:fN K ρ0 σ0 H0 G0 ρf D0 fl) (h:jZ K P C W one tg cb ρ0 σ0 H0 G0 fl ρf ds ds.length σ H):D0.nx σ H:=by
 obtain ⟨ρ,G,a,e⟩:=h;rw [List.drop_length] at e;simp only [cQ,Option.some.injEq,Prod.mk.injEq] at e;obtain ⟨rfl,rfl⟩:=e;exact hk σ H G a
def lJ (K:PySem.W.Frag) (ρ:Env) (σ:St) (H G:Hp) (a:Addr) (vs:List V):Prop:=cB K G a vs∨(H a=some (.lst vs)∧G a=none∧¬ aL ρ σ a)
theorem lJ.now {ρ ρ':Env} {σ σ':St} {H G H' G':Hp} {a:Addr} {vs:List V} (h:lJ K ρ σ H G a vs) (b:AftS K ρ σ H G ρ' σ' H' G'):cB K H' a vs:=by
 rcases h with h | ⟨h1,h2,h3⟩
 ·exact b.rel.sub.seq (b.ext.gg.seq h)
 ·exact cB.of (b.ext.hh a _ h1 h3)
theorem rZ (po:PassesOwn (model X.prog X.w) X.A X.env X.xe) (xo:bA X K P C Γ) {tg it:Expr} {body:List Stmt} {pos:Pos} {one:Bool} {is:List Nat} {k0:ItK} {its:List E} {cb:List S} {wi:TI} (hg:PG X tg (gB K one is)) (hb:fE X body (qS K P C W cb))
  (hs:∀ x,foldedSetIterable it X.env x=pure x) (hi:PI X tg it wi)
  (hw:∀ σ H (R:It→Hp→Prop),(∃ (ρ:Env) (G:Hp) (hs:List Hd) (ρ1:Env) (ds:List D) (o:Option Nat),Rel K ρ σ H G∧cD P C its ρ=some (.ok hs,ρ1)∧aI k0 hs ρ1=some (ds,o) ∧
   ∀ H1 G1,Aft K ρ σ H G ρ1 H1 G1→(∀ i,o=some i→∃ d p l,ρ1[i]?=some (.ow d p l)) →
    (∀ a vs,lJ K (aO o ρ1) σ H1 G1 a vs→aB K G1 ds vs→R (qO K a) H1)∧(∀ a vs,d6 K G1 a vs→aB K G1 ds vs→R (rH K a) H1)∧(∀ (lo:Int) (n:Nat),ds=(List.range n).map (fun (j:Nat)=>D.int (lo+(j:Int)))→R (nE lo n) H1)∧(∀ a vs ds0 lo,ds=dJ lo ds0→lJ K (aO o ρ1) σ H1 G1 a vs→aB K G1 ds0 vs→R (rM K a lo) H1))→wi σ H R) :
  PS X (.For tg it body [] pos) (tS K P C W (.for is one k0 its cb)):=by
 refine TS.imp_ps (XU po xo.calm hi hg hb hs) fun D σ H ⟨ρ,G,fl,ρ',r,e,k⟩=>?_
 simp only [ex] at e;obtain ⟨hs,ρ1,e1,e2⟩:=f7 e k.ne
 cases q:aI k0 hs ρ1 with
 | none=>rw [q] at e2; cases e2
 | some y =>
  obtain ⟨ds,o⟩:=y;rw [q] at e2;simp only at e2
  cases q2:cQ (a8 one is) (exs P C W cb) ds (aO o ρ1) with
  | none=>rw [q2] at e2; cases e2
  | some y =>
   obtain ⟨fl1,ρf⟩:=y;rw [q2] at e2;simp only [bN.restore] at e2
   cases q3:dB o ρ1 ρf with
   | none=>rw [q3] at e2; cases e2
   | some ρ2 =>
    rw [q3] at e2;cases e2;refine hw σ H _ ⟨ρ,G,hs,ρ1,ds,o,r,e1,q,fun H1 G1 a1 ho=>?_⟩;have k1:fN K (aO o ρ1) σ H1 G1 ρf D fl:=fN.restore a1.rel ho q3 (k.pre (Aft.s r a1));have p0:jZ K P C W one is cb (aO o ρ1) σ H1 G1 fl ρf ds 0 σ H1:=⟨aO o ρ1,G1,AftS.refl (kJ a1.rel).1,q2⟩
    refine ⟨fun a vs hsrc hr=>?_,fun a vs ht hr=>?_,fun lo n hds=>?_,fun a vs ds0 lo hds hsrc hr=>?_⟩
    ·refine PQ (K:=K) (a:=a) (xs:=vs) (jZ K P C W one is cb (aO o ρ1) σ H1 G1 fl ρf ds) p0 (fun i σ2 H2 _ ⟨ρ2,G2,b,_⟩=>hsrc.now b) (fun i x σ2 H2 hx hp=>?_) (fun σ2 H2 hp=>?_)
     ·have hl:i<ds.length:=by rw [← hr.len]; exact (List.getElem?_eq_some_iff.mp hx).1
      obtain ⟨x',h1,h2⟩:=hr.get (List.getElem?_eq_getElem hl);rw [hx] at h1; cases h1;exact rV k1 (List.getElem?_eq_getElem hl) h2 hp
     ·rw [hr.len] at hp;exact pY k1 hp
    ·refine VJ (K:=K) (a:=a) (xs:=vs) (jZ K P C W one is cb (aO o ρ1) σ H1 G1 fl ρf ds) p0 (fun i σ2 H2 _ ⟨ρ2,G2,b,_⟩=>eM b.rel.sub (eM b.ext.gg ht)) (fun i x σ2 H2 hx hp=>?_) (fun σ2 H2 hp=>?_)
     ·have hl:i<ds.length:=by rw [← hr.len]; exact (List.getElem?_eq_some_iff.mp hx).1
      obtain ⟨x',h1,h2⟩:=hr.get (List.getElem?_eq_getElem hl);rw [hx] at h1; cases h1;exact rV k1 (List.getElem?_eq_getElem hl) h2 hp
     ·rw [hr.len] at hp;exact pY k1 hp
    ·have hlen:ds.length=n:=by rw [hds]; simp
     refine LH (lo:=lo) (n:=n) (jZ K P C W one is cb (aO o ρ1) σ H1 G1 fl ρf ds) p0 (fun i σ2 H2 hi hp=>?_) (fun σ2 H2 hp=>?_)
     ·have hd:ds[i]?=some (.int (lo+(i:Int))):=by rw [hds]; simp [hi]
      exact rV k1 hd (by simp [aD]) hp
     ·rw [← hlen] at hp;exact pY k1 hp
    ·subst hds;refine N6 (K:=K) (a:=a) (xs:=vs) (jZ K P C W one is cb (aO o ρ1) σ H1 G1 fl ρf (dJ lo ds0)) p0 (fun i σ2 H2 _ ⟨ρ2,G2,b,_⟩=>hsrc.now b) (fun i y p σ2 H2 hx hn hp=>?_) (fun σ2 H2 hp=>?_)
     ·have hl:i<ds0.length:=by rw [← hr.len]; exact (List.getElem?_eq_some_iff.mp hx).1
      obtain ⟨x',h1,h2⟩:=hr.get (List.getElem?_eq_getElem hl);rw [hx] at h1; cases h1;obtain ⟨ρ2,G2,b,e2⟩:=hp;have b2:=b.trans (Aft.s b.rel ((Aft.refl b.rel).layG (o:=.tup [.int (lo+(i:Int)),y]) hn));exact JV k1 (nM (List.getElem?_eq_getElem hl)) ⟨ρ2,_,b2,CV (aM.free b.rel.sub hn) (aD.mono b.ext.gg _ h2),e2⟩
     ·rw [hr.len,← fI] at hp;exact pY k1 hp
end
section
variable {X:Cx} {K:PySem.W.Frag} {P:aK} {C:Calls} {W:Nat} {Γ:CC}
theorem PI.or {tg it:Expr} {w w':TI} (h:PI X tg it w) (h':PI X tg it w'):PI X tg it (fun σ H R=>w σ H R∨w' σ H R):=fun pins s σ H R I q=>by
 rcases q with q | q
 ·exact h pins s σ H R I q
 ·exact h' pins s σ H R I q
theorem BC {c:E} {ρ ρ1:Env} {hs:List Hd} (e:cD P C [c] ρ=some (.ok hs,ρ1)):∃ h,hs=[h]∧hd c (ev P C false c ρ) ρ=some (.ok h,ρ1):=by
 rw [cD] at e;obtain ⟨h,ρ2,e1,e2⟩:=aJ e;rw [cD] at e2;simp only [aE.bind] at e2;cases e2;exact ⟨h,rfl,e1⟩
theorem SE (hK:X.K=K) {c:E} (σ:St) (H:Hp) (R:It→Hp→Prop) (q:∃ (ρ:Env) (G:Hp) (hs:List Hd) (ρ1:Env) (ds:List D) (o:Option Nat),Rel K ρ σ H G∧cD P C [c] ρ=some (.ok hs,ρ1)∧aI .of hs ρ1=some (ds,o) ∧
   ∀ H1 G1,Aft K ρ σ H G ρ1 H1 G1→(∀ i,o=some i→∃ d p l,ρ1[i]?=some (.ow d p l)) →
    (∀ a vs,lJ K (aO o ρ1) σ H1 G1 a vs→aB K G1 ds vs→R (qO K a) H1)∧(∀ a vs,d6 K G1 a vs→aB K G1 ds vs→R (rH K a) H1)∧(∀ (lo:Int) (n:Nat),ds=(List.range n).map (fun (j:Nat)=>D.int (lo+(j:Int)))→R (nE lo n) H1)∧(∀ a vs ds0 lo,ds=dJ lo ds0→lJ K (aO o ρ1) σ H1 G1 a vs→aB K G1 ds0 vs→R (rM K a lo) H1)) :
  Q6 X.K (tH K P C c) σ H R∨aBc X.K (tH K P C c) σ H R:=by
 obtain ⟨ρ,G,hs,ρ1,ds,o,r,e,ei,k⟩:=q;obtain ⟨h,rfl,e1⟩:=BC e;rw [hK]
 cases h with
 | slot i =>
  simp only [aI] at ei;split at ei
  ·rename_i ds' p l hi;cases ei;refine .inl ⟨ρ,G,.slot i,ρ1,r,e1,fun x H1 G1 a1 hx=>?_⟩;have hx:σ[i]?=some (some x):=hx;obtain ⟨b,h1,g,vs,hv,hr⟩:=a1.rel.ow i _ _ _ hi;rw [hx] at h1; cases h1;exact ⟨b,rfl,⟨vs,cB.of hv⟩,(k H1 G1 a1 fun j z=>by cases z; exact ⟨_,_,_,hi⟩).1 b vs (.inr ⟨hv,g,a1.rel.unset_not hi hx⟩) hr⟩
  ·rename_i ds' hi;cases ei;refine .inl ⟨ρ,G,.slot i,ρ1,r,e1,fun x H1 G1 a1 hx=>?_⟩;have hx:σ[i]?=some (some x):=hx;obtain ⟨v,h1,h2⟩:=a1.rel.sh i _ hi;rw [hx] at h1; cases h1;simp only [aD] at h2;obtain ⟨b,vs,rfl,h3,h4⟩:=h2;exact ⟨b,rfl,⟨vs,a1.rel.sub.seq h3⟩,(k H1 G1 a1 fun j z=>by cases z).1 b vs (.inl h3) h4⟩
  ·rename_i ds' hi;cases ei;refine .inr ⟨ρ,G,.slot i,ρ1,r,e1,fun x H1 G1 a1 hx=>?_⟩;have hx:σ[i]?=some (some x):=hx;obtain ⟨v,h1,h2⟩:=a1.rel.sh i _ hi;rw [hx] at h1; cases h1;simp only [aD] at h2;obtain ⟨b,vs,rfl,h3,h4⟩:=h2;exact ⟨b,rfl,⟨vs,eM a1.rel.sub h3⟩,(k H1 G1 a1 fun j z=>by cases z).2.1 b vs h3 h4⟩
  ·cases ei
 | val v =>
  simp only [aI] at ei;split at ei
  ·rename_i ds' hd;cases ei;refine .inl ⟨ρ,G,.val v,ρ1,r,e1,fun x H1 G1 a1 hx=>?_⟩
   cases v with
   | sh d =>
    simp only [RV.d] at hd;subst hd;have hx:aD K G1 (.lst ds) x:=hx;simp only [aD] at hx;obtain ⟨b,vs,rfl,h3,h4⟩:=hx;exact ⟨b,rfl,⟨vs,a1.rel.sub.seq h3⟩,(k H1 G1 a1 fun j z=>by cases z).1 b vs (.inl h3) h4⟩
   | ow d =>
    simp only [RV.d] at hd;subst hd;obtain ⟨b,rfl,g,⟨vs,hv,hr⟩,n,m⟩:=hx;exact ⟨b,rfl,⟨vs,cB.of hv⟩,(k H1 G1 a1 fun j z=>by cases z).1 b vs (.inr ⟨hv,g,n⟩) hr⟩
  ·rename_i ds' hd;cases ei;refine .inr ⟨ρ,G,.val v,ρ1,r,e1,fun x H1 G1 a1 hx=>?_⟩
   cases v with
   | sh d =>
    simp only [RV.d] at hd;subst hd;have hx:aD K G1 (.tup ds) x:=hx;simp only [aD] at hx;obtain ⟨b,vs,rfl,h3,h4⟩:=hx;exact ⟨b,rfl,⟨vs,eM a1.rel.sub h3⟩,(k H1 G1 a1 fun j z=>by cases z).2.1 b vs h3 h4⟩
   | ow d =>
    simp only [RV.d] at hd;subst hd;obtain ⟨b,rfl,g,o,n,m⟩:=hx;exact o.elim
  ·cases ei
theorem FG {c:E} (σ:St) (H:Hp) (R:It→Hp→Prop) (q:∃ (ρ:Env) (G:Hp) (hs:List Hd) (ρ1:Env) (ds:List D) (o:Option Nat),Rel K ρ σ H G∧cD P C [c] ρ=some (.ok hs,ρ1)∧aI .rng hs ρ1=some (ds,o) ∧
   ∀ H1 G1,Aft K ρ σ H G ρ1 H1 G1→(∀ i,o=some i→∃ d p l,ρ1[i]?=some (.ow d p l)) →
    (∀ a vs,lJ K (aO o ρ1) σ H1 G1 a vs→aB K G1 ds vs→R (qO K a) H1)∧(∀ a vs,d6 K G1 a vs→aB K G1 ds vs→R (rH K a) H1)∧(∀ (lo:Int) (n:Nat),ds=(List.range n).map (fun (j:Nat)=>D.int (lo+(j:Int)))→R (nE lo n) H1)∧(∀ a vs ds0 lo,ds=dJ lo ds0→lJ K (aO o ρ1) σ H1 G1 a vs→aB K G1 ds0 vs→R (rM K a lo) H1)) :
  R9 (mX K P C [c]) σ H R:=by
 obtain ⟨ρ,G,hs,ρ1,ds,o,r,e,ei,k⟩:=q;refine ⟨ρ,G,hs,ρ1,r,e,fun xs H1 G1 a1 hx=>?_⟩;obtain ⟨h,rfl,e1⟩:=BC e;obtain ⟨x,r',rfl,h1,h2,_⟩:=hx;cases (show r'=[] from h2);simp only [aI] at ei;split at ei
 ·rename_i n hn;split at ei
  ·rename_i hb;cases ei;cases (h1.read a1.rel hn).int;refine ⟨n,rfl,by omega,by omega,(k H1 G1 a1 fun j z=>by cases z).2.2.1 0 n.toNat ?_⟩;congr 1
   funext j
   rw [Int.zero_add]
  ·cases ei
 ·cases ei
theorem GP {c c2:E} (σ:St) (H:Hp) (R:It→Hp→Prop) (q:∃ (ρ:Env) (G:Hp) (hs:List Hd) (ρ1:Env) (ds:List D) (o:Option Nat),Rel K ρ σ H G∧cD P C [c,c2] ρ=some (.ok hs,ρ1)∧aI .rng hs ρ1=some (ds,o) ∧
   ∀ H1 G1,Aft K ρ σ H G ρ1 H1 G1→(∀ i,o=some i→∃ d p l,ρ1[i]?=some (.ow d p l)) →
    (∀ a vs,lJ K (aO o ρ1) σ H1 G1 a vs→aB K G1 ds vs→R (qO K a) H1)∧(∀ a vs,d6 K G1 a vs→aB K G1 ds vs→R (rH K a) H1)∧(∀ (lo:Int) (n:Nat),ds=(List.range n).map (fun (j:Nat)=>D.int (lo+(j:Int)))→R (nE lo n) H1)∧(∀ a vs ds0 lo,ds=dJ lo ds0→lJ K (aO o ρ1) σ H1 G1 a vs→aB K G1 ds0 vs→R (rM K a lo) H1)) :
  Q3 (mX K P C [c,c2]) σ H R:=by
 obtain ⟨ρ,G,hs,ρ1,ds,o,r,e,ei,k⟩:=q;refine ⟨ρ,G,hs,ρ1,r,e,fun xs H1 G1 a1 hx=>?_⟩;rw [cD] at e;obtain ⟨h,ρ2,e1,e2⟩:=aJ e;obtain ⟨hs',ρ3,e3,e4⟩:=aJ e2;obtain ⟨h',rfl,e5⟩:=BC e3;cases e4;obtain ⟨x,r',rfl,h1,h2,_⟩:=hx;obtain ⟨y,r'',rfl,h3,h4,_⟩:=h2;cases (show r''=[] from h4);simp only [aI] at ei;split at ei
 ·rename_i m n hm hn;split at ei
  ·rename_i hb;cases ei;cases (h1.read a1.rel hm).int;cases (h3.read a1.rel hn).int;exact ⟨m,n,rfl,by omega,(k H1 G1 a1 fun j z=>by cases z).2.2.1 m (n - m).toNat rfl⟩
  ·cases ei
 ·cases ei
theorem yB (hK:X.K=K) {c:E} {lo:Int} (σ:St) (H:Hp) (R:It→Hp→Prop) (q:∃ (ρ:Env) (G:Hp) (hs:List Hd) (ρ1:Env) (ds:List D) (o:Option Nat),Rel K ρ σ H G∧cD P C [c] ρ=some (.ok hs,ρ1)∧aI (.enum lo) hs ρ1=some (ds,o) ∧
   ∀ H1 G1,Aft K ρ σ H G ρ1 H1 G1→(∀ i,o=some i→∃ d p l,ρ1[i]?=some (.ow d p l)) →
    (∀ a vs,lJ K (aO o ρ1) σ H1 G1 a vs→aB K G1 ds vs→R (qO K a) H1)∧(∀ a vs,d6 K G1 a vs→aB K G1 ds vs→R (rH K a) H1)∧(∀ (lo:Int) (n:Nat),ds=(List.range n).map (fun (j:Nat)=>D.int (lo+(j:Int)))→R (nE lo n) H1)∧(∀ a vs ds0 lo,ds=dJ lo ds0→lJ K (aO o ρ1) σ H1 G1 a vs→aB K G1 ds0 vs→R (rM K a lo) H1)) :
  IW X.K lo (mX K P C [c]) σ H R:=by
 obtain ⟨ρ,G,hs,ρ1,ds,o,r,e,ei,k⟩:=q;rw [hK];refine ⟨ρ,G,hs,ρ1,r,e,fun xs H1 G1 a1 hxs=>?_⟩;obtain ⟨h,rfl,e1⟩:=BC e;obtain ⟨x,r',rfl,hx,h2,_⟩:=hxs;cases (show r'=[] from h2)
 cases h with
 | slot i =>
  simp only [aI] at ei;have hx:σ[i]?=some (some x):=hx;split at ei
  ·rename_i ds' p l hi;cases ei;obtain ⟨b,h1,g,vs,hv,hr⟩:=a1.rel.ow i _ _ _ hi;rw [hx] at h1; cases h1;exact ⟨b,rfl,⟨vs,cB.of hv⟩,(k H1 G1 a1 fun j z=>by cases z; exact ⟨_,_,_,hi⟩).2.2.2 b vs _ lo rfl (.inr ⟨hv,g,a1.rel.unset_not hi hx⟩) hr⟩
  ·rename_i ds' hi;cases ei;obtain ⟨v,h1,h2⟩:=a1.rel.sh i _ hi;rw [hx] at h1; cases h1;simp only [aD] at h2;obtain ⟨b,vs,rfl,h3,h4⟩:=h2;exact ⟨b,rfl,⟨vs,a1.rel.sub.seq h3⟩,(k H1 G1 a1 fun j z=>by cases z).2.2.2 b vs _ lo rfl (.inl h3) h4⟩
  ·cases ei
 | val v =>
  simp only [aI] at ei;split at ei
  ·rename_i ds' hd;cases ei
   cases v with
   | sh d =>
    simp only [RV.d] at hd;subst hd;have hx:aD K G1 (.lst ds') x:=hx;simp only [aD] at hx;obtain ⟨b,vs,rfl,h3,h4⟩:=hx;exact ⟨b,rfl,⟨vs,a1.rel.sub.seq h3⟩,(k H1 G1 a1 fun j z=>by cases z).2.2.2 b vs _ lo rfl (.inl h3) h4⟩
   | ow d =>
    simp only [RV.d] at hd;subst hd;obtain ⟨b,rfl,g,⟨vs,hv,hr⟩,n,m⟩:=hx;exact ⟨b,rfl,⟨vs,cB.of hv⟩,(k H1 G1 a1 fun j z=>by cases z).2.2.2 b vs _ lo rfl (.inr ⟨hv,g,n⟩) hr⟩
  ·cases ei
theorem zR {e:Expr} (h:xB e=true) (env:PySem.Env):∀ x,foldedSetIterable e env x=pure x:=fun x=>by
 cases e <;> first | rfl | cases h
theorem y6 (xo:bA X K P C Γ) (hfn:∀ x,Γ.isLoc x=true→X.fn x=true∨X.env.scope.names.lookup x=some .local) {tg:Expr} {one:Bool} {is:List Nat} (h:jK Γ tg=some (one,is)):PG X tg (gB K one is):=by
 cases tg <;> simp only [jK,reduceCtorEq] at h
 ·rename_i x pos
  cases q:Γ.slotL x with
  | none=>rw [q] at h; cases h
  | some i=>rw [q] at h; cases h; exact YM (wB xo hfn q)
 ·rename_i es k0 pos
  cases q:fZ Γ es with
  | none=>rw [q] at h; cases h
  | some is' =>
   rw [q] at h;cases h;obtain ⟨h1,h2,h3,h4⟩:=pB xo hfn q;exact FQ xo h1 h2 h3
end
section
variable {K:PySem.W.Frag} {σ σ':St} {H G H' G':Hp}
theorem oJ {as:List Sl} {n i:Nat} {s:Sl} (h:(as ++ List.replicate n Sl.un)[i]?=some s):(as[i]?=some s)∨(as.length≤i∧s=.un):=by
 by_cases hl:i<as.length
 ·rw [List.getElem?_append_left hl] at h; exact .inl h
 ·rw [List.getElem?_append_right (by omega),List.getElem?_replicate] at h;split at h
  ·cases h; exact .inr ⟨by omega,rfl⟩
  ·cases h
theorem sY {N:List Str} {vs:List V} {i:Nat} (h:i<vs.length):(L2.b0 N vs)[i]?=(vs.map some)[i]?:=by
 unfold L2.b0;rw [List.getElem?_append_left (by rw [List.length_map]; exact h)]
theorem Rel.pad {as:List Sl} {vs:List V} {N:List Str} {n:Nat} (r:Rel K as (vs.map some) H G) (hn:N.length=as.length+n):Rel K (as ++ List.replicate n .un) (L2.b0 N vs) H G∧∀ a,aL (as ++ List.replicate n .un) (L2.b0 N vs) a→aL as (vs.map some) a:=by
 have hl:as.length=vs.length:=by have:=r.len; rwa [List.length_map] at this
 have st:∀ i:Nat,i<as.length→(L2.b0 N vs)[i]?=(vs.map some)[i]?:=fun i h=>sY (by omega)
 have lt:∀ {i:Nat} {s:Sl},as[i]?=some s→i<as.length:=fun h=>(List.getElem?_eq_some_iff.mp h).1
 refine ⟨⟨by unfold L2.b0; simp; omega,r.sub,fun i d h=>?_,fun i d p l h=>?_,fun i j d p l d' p' l' a h1 h2 h3 h4=>?_⟩,fun a ⟨i,d,p,l,h1,h2⟩=>?_⟩
 ·rcases oJ h with h | ⟨_,h⟩
  ·rw [st i (lt h)]; exact r.sh i d h
  ·cases h
 ·rcases oJ h with h | ⟨_,h⟩
  ·rw [st i (lt h)]; exact r.ow i d p l h
  ·cases h
 ·rcases oJ h1 with h1 | ⟨_,h1⟩
  ·rcases oJ h2 with h2 | ⟨_,h2⟩
   ·rw [st i (lt h1)] at h3;rw [st j (lt h2)] at h4;exact r.inj _ _ _ _ _ _ _ _ _ h1 h2 h3 h4
   ·cases h2
  ·cases h1
 ·rcases oJ h1 with h1 | ⟨_,h1⟩
  ·rw [st i (lt h1)] at h2;exact ⟨i,d,p,l,h1,h2⟩
  ·cases h1
theorem mJ:∀ {as:List Sl} {ρ:Env} (i:Nat),as.length≤ρ.length→(back as ρ)[i]?=(as[i]?).bind fun a=>match a with | .ow _ _ _=>ρ[i]? | a=>some a
 | [],ρ,i,_=>by cases ρ <;> simp [back]
 | a :: as,[],i,h=>by simp at h
 | a :: as,b :: ρ,i,h=>by
  have ih:=fun j=>mJ (as:=as) (ρ:=ρ) j (by simpa using h)
  cases i with
  | zero=>cases a <;> simp [back]
  | succ i=>cases a <;> simp [back,ih i]
theorem mG {as:List Sl} {vs:List V} {N:List Str} {n:Nat} {ρ':Env} (r:Rel K as (vs.map some) H G) (hp:as.all iT=true) (hn:N.length=as.length+n)
  (a:AftS K (as ++ List.replicate n .un) (L2.b0 N vs) H G ρ' σ' H' G'):Aft K as (vs.map some) H G (back as ρ') H' G'∧∀ c,aL (back as ρ') (vs.map some) c→aL ρ' σ' c:=by
 have hl:as.length=vs.length:=by have:=r.len; rwa [List.length_map] at this
 have lt:∀ {i:Nat} {s:Sl},as[i]?=some s→i<as.length:=fun h=>(List.getElem?_eq_some_iff.mp h).1
 have st:∀ i:Nat,i<as.length→(L2.b0 N vs)[i]?=(vs.map some)[i]?:=fun i h=>sY (by omega)
 have hlen:as.length≤ρ'.length:=by rw [a.len,List.length_append]; omega
 have at0:∀ {i:Nat} {s:Sl},as[i]?=some s→(as ++ List.replicate n .un)[i]?=some s:=fun h=>by rw [List.getElem?_append_left (lt h)]; exact h
 have pin:∀ (i:Nat) d p l,as[i]?=some (.ow d p l)→p=true∧σ'[i]?=(vs.map some)[i]?∧∃ d',ρ'[i]?=some (.ow d' true l):=fun i d p l h=>by
  have h1:=List.all_eq_true.mp hp _ (List.mem_of_getElem? h);simp only [iT] at h1;subst h1;obtain ⟨h2,d',h3⟩:=a.pin i d l (at0 h);exact ⟨rfl,h2.trans (st i (lt h)),d',h3⟩
 have oth:∀ {i:Nat} {s:Sl},(back as ρ')[i]?=some s→(∃ d d' l,as[i]?=some (.ow d true l)∧s=.ow d' true l∧ρ'[i]?=some s∧σ'[i]?=(vs.map some)[i]?)∨(as[i]?=some s∧∀ d p l,s≠.ow d p l):=fun {i s} h=>by
  rw [mJ i hlen] at h
  cases e:as[i]? with
  | none=>rw [e] at h; cases h
  | some b =>
   rw [e] at h
   cases b with
   | ow d p l =>
    obtain ⟨rfl,h1,d',h2⟩:=pin i d p l e;simp only [Option.bind_some] at h;rw [h2] at h;cases h;exact .inl ⟨d,d',l,rfl,rfl,h2,h1⟩
   | un=>cases h; exact .inr ⟨rfl,fun d p l z=>nomatch z⟩
   | mv=>cases h; exact .inr ⟨rfl,fun d p l z=>nomatch z⟩
   | sh d=>cases h; exact .inr ⟨rfl,fun d p l z=>nomatch z⟩
 have blen:(back as ρ').length=as.length:=by
  apply Nat.le_antisymm
  ·refine Nat.le_of_not_lt fun z=>?_
   have:=mJ (as:=as) (ρ:=ρ') as.length hlen
   rw [List.getElem?_eq_getElem z,List.getElem?_eq_none (Nat.le_refl _)] at this;cases this
  ·refine Nat.le_of_not_lt fun z=>?_
   have h1:=mJ (as:=as) (ρ:=ρ') (back as ρ').length hlen;rw [List.getElem?_eq_none (Nat.le_refl _),List.getElem?_eq_getElem z] at h1
   cases e:as[(back as ρ').length] with
   | ow d p l =>
    have e':as[(back as ρ').length]?=some (.ow d p l):=by rw [List.getElem?_eq_getElem z,e]
    obtain ⟨_,_,d',h2⟩:=pin _ d p l e';rw [e] at h1;simp only [Option.bind_some] at h1;rw [h2] at h1;cases h1
   | un=>rw [e] at h1; cases h1
   | mv=>rw [e] at h1; cases h1
   | sh d=>rw [e] at h1; cases h1
 refine ⟨⟨⟨by rw [blen]; exact r.len,a.rel.sub,fun i d h=>?_,fun i d p l h=>?_,fun i j d p l d' p' l' c h1 h2 h3 h4=>?_⟩,a.ext.weaken fun c z=>(r.pad hn).2 c z,fun i=>?_⟩,fun c ⟨i,d,p,l,h1,h2⟩=>?_⟩
 ·rcases oth h with ⟨_,_,_,_,z,_,_⟩ | ⟨z,_⟩
  ·cases z
  ·obtain ⟨v,h1,h2⟩:=r.sh i d z;exact ⟨v,h1,aD.mono a.ext.gg d h2⟩
 ·rcases oth h with ⟨d0,d',l',h1,h2,h3,h4⟩ | ⟨_,z⟩
  ·rw [← h4]; exact a.rel.ow i d p l h3
  ·exact absurd rfl (z d p l)
 ·rcases oth h1 with ⟨_,_,_,_,_,z3,z4⟩ | ⟨_,z⟩
  ·rcases oth h2 with ⟨_,_,_,_,_,w3,w4⟩ | ⟨_,w⟩
   ·rw [← z4] at h3;rw [← w4] at h4;exact a.rel.inj _ _ _ _ _ _ _ _ _ z3 w3 h3 h4
   ·exact absurd rfl (w _ _ _)
  ·exact absurd rfl (z _ _ _)
 ·rw [mJ i hlen]
  cases e:as[i]? with
  | none=>trivial
  | some b =>
   cases b with
   | ow d p l =>
    obtain ⟨rfl,_,d',h2⟩:=pin i d p l e;simp only [Option.bind_some];rw [h2];exact ⟨rfl,rfl⟩
   | un=>trivial
   | mv=>trivial
   | sh d=>trivial
 ·rcases oth h1 with ⟨_,_,_,_,_,z3,z4⟩ | ⟨_,z⟩
  ·rw [← z4] at h2;exact ⟨i,d,p,l,z3,h2⟩
  ·exact absurd rfl (z _ _ _)
end
end CI
namespace L2
open PySem PySem.Spec PyProof.Rows
theorem eB {α β:Type} [BEq α] [LawfulBEq α]:∀ {l:List (α × β)} {x:α} {k:β},l.lookup x=some k→(x,k)∈l
 | [],x,k,h=>by simp at h
 | (y,k') :: r,x,k,h=>by
  rw [List.lookup_cons] at h;split at h
  ·rename_i e;have e:=eq_of_beq e;subst e;cases h;exact List.mem_cons_self
  ·exact List.mem_cons_of_mem _ (eB h)
theorem GI {env:PySem.Env} {scope:Scope} (h:∀ p∈scope.names,p.2=.free→∃ c,env.cells.lookup p.1=some c) :
  ∃ cl,closureFor scope env=pure cl∧(∀ x c,cl.lookup x=some c→env.cells.lookup x=some c)∧∀ p∈scope.names,p.2=.free→∃ c,cl.lookup p.1=some c:=by
 have key:∀ (names:List (Str × NameKind)) (acc:List (Str × Addr)),(∀ p∈names,p.2=.free→∃ c,env.cells.lookup p.1=some c)→(∀ x c,acc.lookup x=some c→env.cells.lookup x=some c) →
   ∃ cl,(forIn names acc fun (p:Str × NameKind) (cs:List (Str × Addr))=>(if (p.2 == NameKind.free)=true then do let a ← cellOf env p.1; pure (ForInStep.yield ((p.1,a) :: cs)) else pure (ForInStep.yield cs):Sem _))=pure cl ∧
    (∀ x c,cl.lookup x=some c→env.cells.lookup x=some c)∧(∀ p∈names,p.2=.free→∃ c,cl.lookup p.1=some c)∧∀ x c,acc.lookup x=some c→∃ c',cl.lookup x=some c':=by
  intro names
  induction names with
  | nil=>intro acc _ h2; exact ⟨acc,by simp,h2,fun p hp=>(nomatch hp),fun x c e=>⟨c,e⟩⟩
  | cons p r ih =>
   intro acc h1 h2;by_cases hp:p.2=.free
   ·obtain ⟨c,hc⟩:=h1 p List.mem_cons_self hp;have e:cellOf env p.1=pure c:=by unfold cellOf; rw [hc]
    obtain ⟨cl,q1,q2,q3,q4⟩:=ih ((p.1,c) :: acc) (fun q hq=>h1 q (List.mem_cons_of_mem _ hq)) (fun x c' z=>by
     rw [List.lookup_cons] at z;split at z
     ·rename_i w; rw [eq_of_beq w,hc]; exact z
     ·exact h2 x c' z)
    refine ⟨cl, ?_,q2,fun q hq hf=>?_,fun x c' z=>?_⟩
    ·rw [List.forIn_cons];have hb:(p.2 == NameKind.free)=true:=by rw [hp]; rfl
     rw [if_pos hb,e];simp only [pure_bind];exact q1
    ·rcases List.mem_cons.mp hq with w | w
     ·subst w;exact q4 q.1 c (by rw [List.lookup_cons]; simp)
     ·exact q3 q w hf
    ·by_cases w:x=p.1
     ·subst w;exact q4 p.1 c (by rw [List.lookup_cons]; simp)
     ·refine q4 x c' ?_;rw [List.lookup_cons]
      have:(x == p.1)=false:=beq_eq_false_iff_ne.mpr w
      rw [this];exact z
   ·obtain ⟨cl,q1,q2,q3,q4⟩:=ih acc (fun q hq=>h1 q (List.mem_cons_of_mem _ hq)) h2;refine ⟨cl, ?_,q2,fun q hq hf=>?_,q4⟩
    ·rw [List.forIn_cons];have hb:¬ (p.2 == NameKind.free)=true:=by simpa using hp
     rw [if_neg hb];simp only [pure_bind];exact q1
    ·rcases List.mem_cons.mp hq with w | w
     ·subst w; exact absurd hf hp
     ·exact q3 q w hf
 obtain ⟨cl,q1,q2,q3,_⟩:=key scope.names [] h (fun x c e=>by simp at e);refine ⟨cl, ?_,q2,q3⟩;unfold closureFor
 have:(forIn scope.names ([]:List (Str × Addr)) fun (x:Str × NameKind) (r:List (Str × Addr))=>(match x with | (name,kind)=>if (kind == NameKind.free)=true then do let a ← cellOf env name; pure (ForInStep.yield ((name,a) :: r)) else pure (ForInStep.yield r):Sem _))=pure cl:=q1
 simp only [this,pure_bind,bind_pure]
 first | rfl | (rw [this]; rfl) | skip
theorem nU {env:PySem.Env}:∀ {names:List (Str × NameKind)} {x:Str} {k':NameKind},
  (names.map fun (n,k)=>if (k == NameKind.free && env.scope.kind == .function && env.kindOf n == some .cell) then (n,NameKind.cell) else (n,k)).lookup x=some k'→∃ k,names.lookup x=some k∧(k'=k∨(k=.free∧k'=.cell))
 | [],x,k',h=>by simp at h
 | (n,k) :: r,x,k',h=>by
  have ih:=@nU env r x k';have h':List.lookup x ((if (k == NameKind.free && env.scope.kind == .function && env.kindOf n == some .cell)=true then (n,NameKind.cell) else (n,k)) :: (r.map fun (n,k)=>if (k == NameKind.free && env.scope.kind == .function && env.kindOf n == some .cell) then (n,NameKind.cell) else (n,k)))=some k':=h;by_cases hc:(k == NameKind.free && env.scope.kind == .function && env.kindOf n == some .cell)=true
  ·rw [if_pos hc] at h';rw [List.lookup_cons] at h' ⊢
   cases hx:x == n with
   | true=>rw [hx] at h'; cases h'; simp only [Bool.and_eq_true,beq_iff_eq] at hc; exact ⟨k,rfl,.inr ⟨hc.1.1,rfl⟩⟩
   | false=>rw [hx] at h'; exact ih h'
  ·rw [if_neg hc] at h';rw [List.lookup_cons] at h' ⊢
   cases hx:x == n with
   | true=>rw [hx] at h'; cases h'; exact ⟨k,rfl,.inl rfl⟩
   | false=>rw [hx] at h'; exact ih h'
theorem sZ {env:PySem.Env}:∀ {names:List (Str × NameKind)} {x:Str},names.lookup x=some .free →
  (names.map fun (n,k)=>if (k == NameKind.free && env.scope.kind == .function && env.kindOf n == some .cell) then (n,NameKind.cell) else (n,k)).lookup x=some .cell ∨
  (names.map fun (n,k)=>if (k == NameKind.free && env.scope.kind == .function && env.kindOf n == some .cell) then (n,NameKind.cell) else (n,k)).lookup x=some .free
 | [],x,h=>by simp at h
 | (n,k) :: r,x,h=>by
  have ih:=@sZ env r x;show List.lookup x ((if (k == NameKind.free && env.scope.kind == .function && env.kindOf n == some .cell)=true then (n,NameKind.cell) else (n,k)) :: _)=_∨List.lookup x ((if (k == NameKind.free && env.scope.kind == .function && env.kindOf n == some .cell)=true then (n,NameKind.cell) else (n,k)) :: _)=_;rw [List.lookup_cons] at h;by_cases hc:(k == NameKind.free && env.scope.kind == .function && env.kindOf n == some .cell)=true
  ·rw [if_pos hc,List.lookup_cons]
   cases hx:x == n with
   | true=>exact .inl rfl
   | false=>rw [hx] at h; exact ih h
  ·rw [if_neg hc,List.lookup_cons]
   cases hx:x == n with
   | true=>rw [hx] at h; exact .inr h
   | false=>rw [hx] at h; exact ih h
theorem sP {prog:Program} {w:World} {A:Around} {R:Result→Shared→Prop} {s:Shared} {elt target iter:Expr} {ifs:List Expr} {scope:Scope} {pos:Pos} {it acc:Value} {env:PySem.Env} (I:Nat→Shared→Prop)
  (turn:∀ n s,I n s→wpAny (model prog w) A (pyNext it) (fun r s₁=>match r with
   | none=>R (.ok .next) s₁
   | some v=>wpAny (model prog w) A (letOwnedTupleGo target it v) (fun _ s₁=>wpAny (model prog w) A (assign target env v) (fun _ s₂ =>
     wpAny (model prog w) A (forIn ifs true fun c r=>if r=true then do let ok ← isTrue c env (eval c env); pure (ForInStep.yield ok) else pure (ForInStep.yield r)) (fun ok s₃ =>
      if ok=true then wpAny (model prog w) A (eval elt env) (fun x s₄ =>
       wpAny (model prog w) A (call (.builtin "list.append") [acc,x]) (fun _ s₅=>∃ m,m<n∧I m s₅) (notedBy (model prog w) A env fun e s'=>R (.error e) s') s₄) (notedBy (model prog w) A env fun e s'=>R (.error e) s') s₃
      else ∃ m,m<n∧I m s₃) (notedBy (model prog w) A env fun e s'=>R (.error e) s') s₂) (notedBy (model prog w) A env fun e s'=>R (.error e) s') s₁) (notedBy (model prog w) A env fun e s'=>R (.error e) s') s₁) (notedBy (model prog w) A env fun e s'=>R (.error e) s') s)
  (n:Nat) (h:I n s):codeAny (model prog w) A (.compLoop (.ListComp elt [⟨target,iter,ifs,0⟩] scope pos) 0 it acc env) R s:=by
 refine codeAny_loop rfl I (fun n s hI=>?_) n h;show wpAny _ A ((compTurn (.ListComp elt [⟨target,iter,ifs,0⟩] scope pos) 0 it acc env).onRaise (fun x=>do noteFrame x env; theTreesLotGoes x)) _ _ s;refine wpAny_noted ?_;rw [compTurn_list];refine wpAny_bind (wpAny_standAt (wpAny_bind (wpAny_mono (turn n s hI) (fun r s₁ h₁=>?_) fun _ _ h'=>h')))
 cases r with
 | none=>exact wpAny_pure h₁
 | some v =>
  refine wpAny_bind (wpAny_mono h₁ (fun _ s₁' h₁'=>?_) fun _ _ h'=>h');refine wpAny_bind (wpAny_mono h₁' (fun _ s₂ h₂=>wpAny_bind (wpAny_mono h₂ (fun ok s₃ h₃=>?_) fun _ _ h'=>h')) fun _ _ h'=>h')
  cases ok with
  | false=>exact wpAny_pure ⟨rfl,h₃⟩
  | true =>
   exact wpAny_bind (wpAny_bind (wpAny_mono h₃ (fun x s₄ h₄=>wpAny_bind (wpAny_mono h₄ (fun _ s₅ h₅=>wpAny_pure (wpAny_pure ⟨rfl,h₅⟩)) fun _ _ h'=>h')) fun _ _ h'=>h'))
noncomputable def J8 (X:Cx) (scope:Scope) (cl:List (Str × Addr)) (C:Addr) (N':List Str) (s₃:Shared) (H₃:Hp) (fp:List Addr) (xe:Value→Shared→Prop):Cx :=
 { X with N:=N',s₀:=s₃,H₀:=H₃,env:=compEnvC scope cl C X.env,outer:=X.stack,stack:=X.stack,ex:=fp,fn:=fun _=>false,pn:=[],xe:=xe }
def eC (X:Cx) (scope:Scope) (N':List Str) (X':Cx):Prop:=∃ cl C s₃ H₃ fp xe,X'=J8 X scope cl C N' s₃ H₃ fp xe
section
variable {X:Cx} {pins:List (Addr × Obj)} {σ:St} {H:Hp} {s:Shared}
theorem P0 {N:List Str} {vs:List V} {i:Nat} {v:V} (h:(b0 N vs)[i]?=some (some v)):vs[i]?=some v:=by
 unfold b0 at h;by_cases hl:i<vs.length
 ·rw [List.getElem?_append_left (by rw [List.length_map]; exact hl),List.getElem?_map,List.getElem?_eq_getElem hl] at h;rw [List.getElem?_eq_getElem hl];simpa using h
 ·rw [List.getElem?_append_right (by rw [List.length_map]; omega),List.getElem?_replicate] at h;split at h
  ·cases h
  ·cases h
theorem Inv.block {scope:Scope} {cl:List (Str × Addr)} {N':List Str} {fp:List Addr} {xe:Value→Shared→Prop} {vs:List V} {h₄:Heap} {tk:Nat} {ob:Obj} (I:Inv X pins σ H s)
  (hkind:scope.kind=.function) (hcell:∀ y∈scope.names,y.2≠.cell) (sub:∀ x c,cl.lookup x=some c→X.env.cells.lookup x=some c) (hasF:∀ p∈scope.names,p.2=.free→∃ c,cl.lookup p.1=some c)
  (hfk:∀ p∈scope.names,p.2=.free→X.env.kindOf p.1=some .cell∨X.env.kindOf p.1=some .free)
  (hf:∀ b∈fp,cR X pins H b) (hfo:∀ b∈fp,b<s.heap.objs.size) (hvl:vs.length≤N'.length)
  (himp:∀ (i:Nat) x v,N'[i]?=some x→vs[i]?=some v→∃ j:Nat,X.N[j]?=some x∧σ[j]?=some (some v)∧scope.names.lookup x=some .free)
  (m:Str→Option Value) (hns:h₄.Ns s.heap.objs.size m) (hsb:Heap.SameBut s.heap.objs.size (s.heap.push ob) h₄) :
  Inv (J8 X scope cl s.heap.objs.size N' s H fp xe) [] (b0 N' vs) H { s with heap:=h₄,toks:=tk }:=by
 have old:∀ b o,s.heap.get? b=some o→h₄.get? b=some o:=fun b o e=>(hsb.2 b (Nat.ne_of_lt (Heap.lt_size e))).trans (Heap.get?_push_of_some _ e)
 have freeOf:∀ x,(relabel scope X.env).names.lookup x=some .cell∨(relabel scope X.env).names.lookup x=some .free→scope.names.lookup x=some .free:=fun x hx=>by
  rcases hx with hx | hx
  ·obtain ⟨k,h1,h2⟩:=nU (env:=X.env) hx;rcases h2 with h2 | ⟨h2,_⟩
   ·subst h2; exact absurd rfl (hcell _ (eB h1))
   ·subst h2; exact h1
  ·obtain ⟨k,h1,h2⟩:=nU (env:=X.env) hx;rcases h2 with h2 | ⟨_,h2⟩
   ·subst h2; exact h1
   ·cases h2
 have ok:(J8 X scope cl s.heap.objs.size N' s H fp xe).Ok:=by
  refine ⟨I.ok.mod,hkind,I.ok.glob,I.ok.blt,Nat.le_refl _,fun x y c h1 h2=>I.ok.inj x y c (sub x c h1) (sub y c h2),fun x hx=>?_,fun x c h=>(nomatch h),I.ok.hd,I.ok.frames,.inl rfl,fun b hb=>⟨Nat.ne_of_lt (hfo b hb),fun x c e=>(hf b hb).2.2.2.2.1 x c (sub x c e)⟩,fun b o e=>I.bs b o e,Nat.le_trans I.ok.bsz I.sz,fun b o e hb=>?_,fun b hb z=>?_,I.stack,I.stkFree⟩
  ·exact hasF (x,.free) (eB (freeOf x hx)) rfl
  ·rcases (hf b hb).2.2.2.1 with z | z
   ·exact I.ok.noex b o e z
   ·rw [(I.ok.bs b o e).1] at z; cases z
  ·rcases List.mem_cons.mp (I.stkSub b z) with z | z
   ·exact (hf b hb).2.1 z
   ·exact (hf b hb).2.2.1 z
 refine ⟨ok,rfl,I.bare,Un.kept old,⟨m,hns,fun i x v e1 e2 e3=>?_⟩,fun x c e=>?_,I.hok.fresh (Nat.le_refl _),fun x c e=>I.freeC x c (sub x c e),fun p hp=>(nomatch hp),I.hok.kept old, ?_⟩
 ·obtain ⟨j,h1,h2,h3⟩:=himp i x v e1 (P0 e2);have hk:=hfk (x,.free) (eB h3) rfl;obtain ⟨m0,hn0,hl⟩:=I.loc;obtain ⟨u,r,lk⟩:=hl j x v h1 h2 (.inr hk);refine ⟨u,r, ?_⟩;rcases lk with ⟨k,_⟩ | ⟨k,c,e,z⟩
  ·rcases hk with hk | hk
   ·rw [hk] at k; cases k
   ·rw [hk] at k; cases k
  ·obtain ⟨c',hc'⟩:=hasF (x,.free) (eB h3) rfl;have ec:=sub x c' hc';rw [e] at ec;cases ec;obtain ⟨o,ho,hd⟩:=z;exact .inr ⟨sZ (env:=X.env) h3,c,hc',o,old c o ho,hd⟩
 ·obtain ⟨v,o,ho,hd⟩:=I.cell x c (sub x c e);exact ⟨v,o,old c o ho,hd⟩
 ·show (b0 N' vs).length=N'.length;unfold b0;simp;omega
def lG (X:Cx) (ifs:List Expr) (t:TT):Prop:=∀ (pins:List (Addr × Obj)) (s:Shared) (σ:St) (H:Hp) (Q:Bool→Hp→Prop),Inv X pins σ H s→t σ H Q →
 wpAny (model X.prog X.w) X.A (forIn ifs true fun c r=>if r=true then do let ok ← isTrue c X.env (eval c X.env); pure (ForInStep.yield ok) else pure (ForInStep.yield r)) (TP X pins σ Q) X.xe s
theorem UA:lG X [] (fun σ H Q=>Q true H):=fun pins s σ H Q I h=>wpAny_tests_nil ⟨H,I,h⟩
theorem UL {c:Expr} {t:TT} (h:PT X c t):lG X [c] t:=fun pins s σ H Q I q=>wpAny_tests_one (h pins s σ H Q I q)
def M0 (N:List Str) (scope:Scope) (N':List Str) (g:TG) (tt:TT) (te:TE) (σ:St) (Q:VK) (J:It) (H1:Hp):Prop:=∃ vs:List V,vs.length≤N'.length ∧
 (∀ (i:Nat) x v,N'[i]?=some x→vs[i]?=some v→∃ j:Nat,N[j]?=some x∧σ[j]?=some (some v)∧scope.names.lookup x=some .free) ∧
 ∀ D,H1 D=none→∃ (n:Nat) (LP:Nat→St→Hp→Prop),LP 0 (b0 N' vs) (aV H1 D (.lst []))∧∀ i σ' H',LP i σ' H' →
  (J.stop i H'∧Q (.ref D) H')∨(i<n∧J.go i H'∧∀ x H2,J.yld i H' x H2→g x σ' H2 fun σ2 H3=>tt σ2 H3 fun b H4 =>
   if b=true then te σ2 H4 fun y H5=>∃ ys,H5 D=some (.lst ys)∧ys.length<sizeLine∧LP (i+1) σ2 (aV H5 D (.lst (ys ++ [y]))) else LP (i+1) σ2 H4)
noncomputable def xC (N:List Str) (scope:Scope) (N':List Str) (wi:TI) (g:TG) (tt:TT) (te:TE):TE:=fun σ H Q=>wi σ H (M0 N scope N' g tt te σ Q)
theorem z8 {use:Option (Value→Sem Unit)} {QF:Value→Shared→Prop} {ps:Pos} {Q:VK} {elt tg iter:Expr} {ifs:List Expr} {scope:Scope} {pos:Pos} {N':List Str} {wi:TI} {g:TG} {tt:TT} {te:TE} (hc:X.calm=true) (hi:PI X tg iter wi) (hs:∀ x,foldedSetIterable iter X.env x=pure x)
  (hkind:scope.kind=.function) (hcell:∀ y∈scope.names,y.2≠.cell) (hnames:∀ x∈scope.names,x.2=.local→scope.names.lookup x.1=some .local)
  (hfk:∀ p∈scope.names,p.2=.free→X.env.kindOf p.1=some .cell∨X.env.kindOf p.1=some .free)
  (hg:∀ X',eC X scope N' X'→PG X' tg g) (ht:∀ X',eC X scope N' X'→lG X' ifs tt) (he:∀ X',eC X scope N' X'→PE X' elt te) (I:Inv X pins σ H s) (h:xC X.N scope N' wi g tt te σ H Q)
  (fin:∀ (D C:Addr) (H':Hp) (s':Shared),Inv X pins σ H' s'→Q (.ref D) H'→H' C=none→X.s₀.heap.objs.size≤C→C≠X.env.locals→(∀ x c,X.env.cells.lookup x=some c→c≠C)→(∀ p∈X.pn ++ pins,p.1≠C)→(∃ m,s'.heap.Ns C m) →
   compPost (model X.prog X.w) X.A X.xe use QF (.ref D) C (.ok .next) s') :
  wpAny (model X.prog X.w) X.A (comprehension (.ListComp elt [⟨tg,iter,ifs,0⟩] scope pos) scope X.env ps (newList []) false (eval iter X.env) use) QF X.xe s:=by
 obtain ⟨cl,hclos,sub,hasF⟩:=GI (env:=X.env) (scope:=scope) fun p hp hf=>I.ok.has p.1 (hfk p hp hf)
 refine wpAny_comprehension_free (use:=use) rfl hs hclos hkind hnames (a6 (hi pins s σ H _ I h) fun v s1 h1=>a6 h1 fun itv s2 h2=>?_);obtain ⟨it,fp,tn,J,H2,e,I2,T,st2,f2,vs,hvl,himp,hD⟩:=h2;subst e
 have fpl:∀ b∈fp,b<s2.heap.objs.size:=fun b hb=>by
  obtain ⟨o,e,_⟩:=T.obj _ _ st2 b hb;exact Heap.lt_size e
 refine wpAny_newObj_type (wpAny_newFunctionEnv hcell (by intro y hy; simp at hy) (fun h₁ hns₁ hsb₁=>?_) hkind);dsimp only at hns₁ hsb₁ ⊢;have I3:Inv X pins σ (aV H2 s2.heap.objs.size (.lst [])) { s2 with heap:=s2.heap.push { cls:=.type "list",dict:=none,data:=.seq ([]:List Value).toArray } }:=I2.lnew (its:=[]) (t':=s2.toks) .nil (Nat.zero_le _);obtain ⟨n,LP,l0,turn⟩:=hD s2.heap.objs.size I2.fresh;generalize hs3:({ s2 with heap:=s2.heap.push { cls:=.type "list",dict:=none,data:=.seq ([]:List Value).toArray } }:Shared)=s3 at I3;have hh3:s3.heap=s2.heap.push { cls:=.type "list",dict:=none,data:=.seq ([]:List Value).toArray }:=by rw [← hs3]
 rw [← hh3] at hns₁ hsb₁ ⊢;have f3:∀ b∈fp,cR X pins (aV H2 s2.heap.objs.size (.lst [])) b:=fun b hb=>⟨by rw [aN (Nat.ne_of_lt (fpl b hb))]; exact (f2 b hb).1,(f2 b hb).2⟩
 have fpl3:∀ b∈fp,b<s3.heap.objs.size:=fun b hb=>by rw [hh3,Heap.size_push]; exact Nat.lt_succ_of_lt (fpl b hb)
 let R:Result→Shared→Prop:=compPost (model X.prog X.w) X.A X.xe use QF (.ref s2.heap.objs.size) s3.heap.objs.size
 let X':Cx:=J8 X scope cl s3.heap.objs.size N' s3 (aV H2 s2.heap.objs.size (.lst [])) fp (notedBy (model X.prog X.w) X.A (compEnvC scope cl s3.heap.objs.size X.env) fun e s'=>R (.error e) s')
 have hX':eC X scope N' X':=⟨_,_,_,_,_,_,rfl⟩
 have I4:∀ tk,Inv X' [] (b0 N' vs) (aV H2 s2.heap.objs.size (.lst [])) { s3 with heap:=h₁,toks:=tk }:=fun tk=>I3.block hkind hcell sub hasF hfk f3 fpl3 hvl himp _ hns₁ hsb₁
 have old:∀ b o,s3.heap.get? b=some o→h₁.get? b=some o:=fun b o e=>(hsb₁.2 b (Nat.ne_of_lt (Heap.lt_size e))).trans (Heap.get?_push_of_some _ e)
 have st4:tn 0 h₁:=T.keep _ _ _ st2 fun b hb o e=>old b o (by rw [hh3]; exact Heap.get?_push_of_some _ e)
 have stat:∀ {H':Hp},(∀ b∈fp,H' b=none)→∀ b∈fp,cR X' [] H' b:=fun hn b hb=>⟨hn b hb,Nat.ne_of_lt (fpl3 b hb),fun z=>by
  rcases List.mem_cons.mp (I3.stkSub b z) with z | z
  ·exact (f2 b hb).2.1 z
  ·exact (f2 b hb).2.2.1 z,.inl hb,fun x c e=>(f2 b hb).2.2.2.2.1 x c (sub x c e),fun p hp=>(nomatch hp)⟩
 have loop:∀ tk,codeAny (model X.prog X.w) X.A (.compLoop (.ListComp elt [⟨tg,iter,ifs,0⟩] scope pos) 0 (.ref it) (.ref s2.heap.objs.size) (compEnvC scope cl s3.heap.objs.size X.env)) R { s3 with heap:=h₁,toks:=tk }:=by
  intro tk;refine sP (fun m s'=>∃ i σ' H',m=n - i∧Inv X' [] σ' H' s'∧tn i s'.heap∧(∀ b∈fp,H' b=none)∧LP i σ' H') ?_ n ⟨0,_,_,by simp,I4 tk,st4,fun b hb=>(f3 b hb).1,l0⟩
  rintro m s5 ⟨i,σ5,H5,rfl,I5,st5,fr5,w5⟩
  rcases turn i σ5 H5 w5 with ⟨stop,qn⟩ | ⟨hin,go,step⟩
  ·refine a6 (T.done X' rfl rfl rfl hc i [] s5 σ5 H5 _ I5 (stat fr5) st5 stop) fun r s6 ⟨hr,I6⟩=>?_
   subst hr;obtain ⟨m6,hn6,_⟩:=I6.loc;have IX:Inv X pins σ H5 s6:=I3.call' (s':=s6) (ch:=fp) I6.os I6.base I6.hok I6.bare fun b hb=>⟨(f2 b hb).2.2.2.1,(f2 b hb).2.1,(f2 b hb).2.2.2.2.1,(f2 b hb).2.2.2.2.2⟩
   refine fin _ _ H5 s6 IX qn I6.free I3.sz (fun z=>Nat.lt_irrefl _ (Nat.lt_of_lt_of_le I3.lt (Nat.le_of_eq z))) (fun x c e z=>?_) (fun p hp z=>?_) ⟨m6,hn6⟩
   ·obtain ⟨v,o,ho,hd⟩:=I3.cell x c e;rw [z] at ho;exact Nat.lt_irrefl _ (Heap.lt_size ho)
   ·have:=(I3.pin p hp).1
    rw [z] at this;exact Nat.lt_irrefl _ (Heap.lt_size this)
  ·refine a6 (T.item X' rfl rfl rfl hc i [] s5 σ5 H5 _ I5 (stat fr5) st5 go) fun r s6 ⟨u,hr,h6⟩=>?_
   subst hr;refine a6 h6 fun _ s7 ⟨x,H7,I7,r7,y7,st7,fr7⟩=>?_
   have I7':=I7.pinned (stat fr7) (T.obj _ _ st7)
   have again:∀ {σ8:St} {H8:Hp} {s8:Shared},Inv X' ([] ++ nX fp s7.heap) σ8 H8 s8→LP (i+1) σ8 H8→∃ m,m<n - i∧∃ i σ' H',m=n - i∧Inv X' [] σ' H' s8∧tn i s8.heap∧(∀ b∈fp,H' b=none)∧LP i σ' H':=fun {σ8 H8 s8} I8 w8=>by
    refine ⟨n - (i+1),by omega,i+1,σ8,H8,rfl,I8.unpinned,T.keep _ _ _ st7 fun b hb o e=>(I8.pin (b,o) (List.mem_append_right _ (List.mem_append_right _ (iF hb e)))).1,fun b hb=>?_,w8⟩;obtain ⟨o,e,d⟩:=T.obj _ _ st7 b hb;exact (I8.pin (b,o) (List.mem_append_right _ (List.mem_append_right _ (iF hb e)))).2.1
   refine a6 (hg X' hX' _ s7 σ5 H7 x u _ I7' r7 (step x H7 y7)) fun _ s8 ⟨σ8,H8,I8,q8⟩=>?_
   refine a6 (ht X' hX' _ s8 σ8 H8 _ I8 q8) fun b s9 ⟨H9,I9,q9⟩=>?_
   cases b with
   | false=>exact again I9 q9
   | true =>
    refine a6 (he X' hX' _ s9 σ8 H9 _ I9 q9) fun y s10 ⟨yv,H10,I10,r10,ys,hy,hz,q10⟩=>?_
    refine a6 (sJ (X:=X') _ s10 σ8 H10 (.ref s2.heap.objs.size) [yv] (.ref s2.heap.objs.size) [y] (fun _ H'=>LP (i+1) σ8 H') I10 rfl (.cons r10 .nil) ⟨_,ys,yv,rfl,rfl,hy,hz,q10⟩) fun _ s11 ⟨_,H11,I11,_,q11⟩=>?_
    exact again I11 q11
 subst hs3;exact codeAny_compStart_list (loop _) (T.self _ 0 _ _ _ st4 (loop _))
theorem VB {elt tg iter:Expr} {ifs:List Expr} {scope:Scope} {pos:Pos} {N':List Str} {wi:TI} {g:TG} {tt:TT} {te:TE} (hc:X.calm=true) (hi:PI X tg iter wi) (hs:∀ x,foldedSetIterable iter X.env x=pure x)
  (hkind:scope.kind=.function) (hcell:∀ y∈scope.names,y.2≠.cell) (hnames:∀ x∈scope.names,x.2=.local→scope.names.lookup x.1=some .local)
  (hfk:∀ p∈scope.names,p.2=.free→X.env.kindOf p.1=some .cell∨X.env.kindOf p.1=some .free)
  (hg:∀ X',eC X scope N' X'→PG X' tg g) (ht:∀ X',eC X scope N' X'→lG X' ifs tt) (he:∀ X',eC X scope N' X'→PE X' elt te) :
  PE X (.ListComp elt [⟨tg,iter,ifs,0⟩] scope pos) (xC X.N scope N' wi g tt te):=by
 intro pins s σ H Q I h;rw [eval_ListComp];refine z8 (use:=none) (QF:=EP X pins σ Q) hc hi hs hkind hcell hnames hfk hg ht he I h fun D C H' s' I' q hC hz hL hcl hp hm=>?_
 obtain ⟨m,hm⟩:=hm;refine ⟨m,hm,fun h' sb=>⟨.ref D,H',I'.turned (t':=s'.toks) (fun b o hb e=>(sb.2 b hb).trans e) hC hL (.inr (Heap.get?_none_of_le hz)) hcl hp,rfl,q⟩⟩
theorem D7 {elt tg iter:Expr} {ifs:List Expr} {scope:Scope} {pos py spos:Pos} {y:Str} {i:Nat} {N':List Str} {wi:TI} {g:TG} {tt:TT} {te:TE} (hsw:swapsWith (.ListComp elt [⟨tg,iter,ifs,0⟩] scope pos) (some (.Name y py)) spos.line X.env=pure true)
  (hN:X.N.Nodup) (hy:X.N[i]?=some y) (hx:rQ X.env.scope y) (hf:X.fn y=true∨X.env.scope.names.lookup y=some .local) (hc:X.calm=true) (hi:PI X tg iter wi) (hs:∀ x,foldedSetIterable iter X.env x=pure x)
  (hkind:scope.kind=.function) (hcell:∀ y∈scope.names,y.2≠.cell) (hnames:∀ x∈scope.names,x.2=.local→scope.names.lookup x.1=some .local)
  (hfk:∀ p∈scope.names,p.2=.free→X.env.kindOf p.1=some .cell∨X.env.kindOf p.1=some .free)
  (hg:∀ X',eC X scope N' X'→PG X' tg g) (ht:∀ X',eC X scope N' X'→lG X' ifs tt) (he:∀ X',eC X scope N' X'→PE X' elt te) :
  PS X (.Assign [.Name y py] (.ListComp elt [⟨tg,iter,ifs,0⟩] scope pos) spos) (yY (xC X.N scope N' wi g tt te) (lN i)):=by
 intro pins s σ H D0 I h;rw [exec_Assign_Name_used _ _ _ _ hsw];refine wpAny_bind (wpAny_standAt (wpAny_bind ?_));show wpAny _ X.A (do let _ ← comprehension (.ListComp elt [⟨tg,iter,ifs,0⟩] scope pos) scope X.env _ (newList []) false (eval iter X.env) (some (assign (.Name y py) X.env))) _ _ s;refine wpAny_bind (wpAny_mono (z8 (use:=some (assign (.Name y py) X.env)) (QF:=fun _ s'=>SP X pins D0 .next s') hc hi hs hkind hcell hnames hfk hg ht he I h fun D C H' s' I' q hC hz hL hcl hp hm=>?_) (fun _ s' hq=>wpAny_pure (wpAny_pure hq)) fun _ _ e=>e);obtain ⟨m,hm⟩:=hm;refine wpAny_assign_Name (sW I' hN hy hx (v:=.ref D) rfl (fun s2 I2 ⟨a,sb,ha⟩=>?_) hf)
 have hne:a≠C:=by
  rcases ha with rfl | ha
  ·exact Ne.symm hL
  ·exact hcl _ _ ha
 refine ⟨m,hm.sameBut sb (Ne.symm hne),fun h' sb2=>⟨_,H',I2.turned (t':=s2.toks) (fun b o hb e=>(sb2.2 b hb).trans e) hC hL (.inr (Heap.get?_none_of_le hz)) hcl hp,q⟩⟩
end
end L2
namespace CI
open PySem PySem.Spec PyProof.Rows L2
section
variable {X:Cx} {K:PySem.W.Frag} {P:aK} {C:Calls} {Γ:CC}
theorem bA.inner (xo:bA X K P C Γ) (hk:X.env.scope.kind=.function) {scope:Scope} (nd:(dS scope ++ dG scope).Nodup) {X':Cx} (b:eC X scope (Γ.inner scope).N X'):bA X' K P C (Γ.inner scope):=by
 obtain ⟨cl,C0,s₃,H₃,fp,xe,rfl⟩:=b;refine bA.of xo.keq rfl ?_ nd xo.calm xo.hh xo.hu xo.con xo.blt (fun x f h=>?_) (fun x ns h=>?_) (fun m tb c f h1 h2=>?_) xo.rm xo.sub xo.subx xo.exc xo.exs (fun x f h=>?_) xo.tp
 ·show (relabel scope X.env).names=(Γ.inner scope).names;unfold relabel CC.inner;simp only;congr 1
  funext p
  obtain ⟨n,k⟩:=p;have e:X.env.kindOf n=Γ.names.lookup n:=by unfold PySem.Env.kindOf; rw [xo.nm]
  simp only [hk,e];simp
 ·obtain ⟨fa,fd,ps,k,h1,h2,h3,h4,h5⟩:=(xo.fn x f h).ex;exact ⟨⟨fa,fd,ps,k,h1,h2,h3,h4,h5⟩⟩
 ·obtain ⟨Ca,fa,fd,ps,h1,h2,h3,h4,h5,h6⟩:=(xo.cls x ns h).ex;exact ⟨⟨Ca,fa,fd,ps,h1,h2,h3,h4,h5,h6⟩⟩
 ·obtain ⟨Ca,fa,fd,ps,k,z1,z2,z3,z4,z5,z6⟩:=(xo.mth m tb c f h1 h2).ex;exact ⟨⟨Ca,fa,fd,ps,k,z1,z2,z3,z4,z5,z6⟩⟩
 ·obtain ⟨fa,fd,ps,k,h1,h2,h3,h4,h5⟩:=(xo.fnX x f h).ex;exact ⟨⟨fa,fd,ps,k,h1,h2,h3,h4,h5⟩⟩
noncomputable def qY (K:PySem.W.Frag) (P:aK) (C:Calls) (cs:List E):TT:=fun σ H Q=>∃ (ρ:Env) (G:Hp) (b:Bool) (ρ':Env),Rel K ρ σ H G∧dC P C cs ρ=some (.ok (.sh (.bl b)),ρ') ∧
 ∀ H' G',Aft K ρ σ H G ρ' H' G'→Q b H'
theorem pU:lG X [] (qY K P C []):=fun pins s σ H Q I ⟨ρ,G,b,ρ',r,e,k⟩=>by
 rw [dC] at e;cases e;exact UA pins s σ H Q I (k H G (Aft.refl r))
theorem pW {c:Expr} {cc:E} (h:Ok3 X K P C c cc):lG X [c] (qY K P C [cc]):=fun pins s σ H Q I ⟨ρ,G,b,ρ',r,e,k⟩=>by
 refine UL h.t pins s σ H Q I ?_;rw [dC] at e;obtain ⟨v,ρ1,e1,e2⟩:=aJ e;split at e2
 ·rw [dC] at e2;cases e2;exact ⟨ρ,G,true,_,r,e1,k⟩
 ·cases e2;exact ⟨ρ,G,false,_,r,e1,k⟩
 ·cases e2
theorem Rel.poke {ρ:Env} {σ:St} {H G:Hp} (r:Rel K ρ σ H G) {a:Addr} {o:HO} (g:G a=none) (n:¬ aL ρ σ a):Rel K ρ σ (aV H a o) G:=by
 refine ⟨r.len,fun b u e=>?_,r.sh,fun j d' p' l' hj=>?_,r.inj⟩
 ·have:b≠a:=fun z=>by subst z; rw [g] at e; cases e
  rw [aN this]; exact r.sub b u e
 ·obtain ⟨b,h3,h4,h5⟩:=r.ow j d' p' l' hj;have hb:b≠a:=fun z=>by subst z; exact n ⟨j,d',p',l',hj,h3⟩
  exact ⟨b,h3,h4,h5.mono (aM.refl _) fun _ z=>by rw [aN hb]; exact z⟩
theorem AftS.poke {ρ ρ':Env} {σ σ':St} {H G H' G':Hp} (b:AftS K ρ σ H G ρ' σ' H' G') {a:Addr} {o:HO} (h:H a=none) (g:G' a=none) (n:¬ aL ρ' σ' a):AftS K ρ σ H G ρ' σ' (aV H' a o) G':=by
 refine ⟨b.rel.poke g n,⟨b.ext.gg,fun c u e nc=>?_,fun c e=>?_,b.ext.gn⟩,b.own,b.un,b.pin,b.len⟩
 ·have:c≠a:=fun z=>by subst z; rw [h] at e; cases e
  rw [aN this]; exact b.ext.hh c u e nc
 ·by_cases hc:c=a
  ·subst hc; rw [bC] at e; cases e
  ·rw [aN hc] at e; exact b.ext.hx c e
theorem sQ {tests elt:Env→aE RV} {bind:D→Env→Option Env}:∀ {ds acc acc':List D} {ρ ρ':Env},d8 tests elt bind ds acc ρ=some (.ok acc',ρ')→acc.length≤acc'.length
 | [],acc,acc',ρ,ρ',e=>by simp only [d8,Option.some.injEq,Prod.mk.injEq,Out.ok.injEq] at e; rw [e.1]; exact Nat.le_refl _
 | d :: ds,acc,acc',ρ,ρ',e=>by
  simp only [d8] at e;split at e
  ·cases e
  ·obtain ⟨c,ρ2,e1,e2⟩:=aJ e;split at e2
   ·obtain ⟨v,ρ3,e3,e4⟩:=aJ e2
    have:=sQ e4
    simp at this;omega
   ·exact sQ e2
   ·cases e2
theorem pJ {H G:Hp} {own new:Addr→Prop} {σ:St}:∀ (imp:List Nat) (ρ:Env) (as:List Sl) (ρ1:Env),Rel K ρ σ H G→bE (imp.map fun _=>true) (imp.map Hd.slot) ρ=some (as,ρ1) →
  ∃ xs,cV K H G own new σ (imp.map Hd.slot) xs∧xs.length=imp.length∧(∀ a,¬ lK (imp.map Hd.slot) xs a)∧∀ (j:Nat) v,xs[j]?=some v→∃ i:Nat,imp[j]?=some i∧σ[i]?=some (some v)
 | [],ρ,as,ρ1,r,e=>⟨[],rfl,rfl,fun a z=>z,fun j v h=>by simp at h⟩
 | i :: imp,ρ,as,ρ1,r,e=>by
  have go:∀ (ρ2:Env) (as2:List Sl) (ρ3:Env),Rel K ρ2 σ H G→bE (imp.map fun _=>true) (imp.map Hd.slot) ρ2=some (as2,ρ3)→(∃ v,σ[i]?=some (some v)) →
    ∃ xs,cV K H G own new σ ((i :: imp).map Hd.slot) xs∧xs.length=(i :: imp).length∧(∀ a,¬ lK ((i :: imp).map Hd.slot) xs a)∧∀ (j:Nat) v,xs[j]?=some v→∃ i':Nat,(i :: imp)[j]?=some i'∧σ[i']?=some (some v):=by
   intro ρ2 as2 ρ3 r2 e2 ⟨v,hv⟩;obtain ⟨xs,h1,h2,h3,h4⟩:=pJ imp ρ2 as2 ρ3 r2 e2;refine ⟨v :: xs,⟨v,xs,rfl,hv,h1,fun d a z=>(nomatch z)⟩,by simp [h2],fun a z=>h3 a z,fun j w hw=>?_⟩
   cases j with
   | zero=>simp only [List.getElem?_cons_zero,Option.some.injEq] at hw; subst hw; exact ⟨i,rfl,hv⟩
   | succ j=>exact h4 j w (by simpa using hw)
  simp only [List.map_cons,bE] at e;split at e
  ·rename_i d hi
   cases q:bE (imp.map fun _=>true) (imp.map Hd.slot) ρ with
   | none=>rw [q] at e; cases e
   | some y=>exact go ρ y.1 y.2 r q (r.bound (by rw [hi]; rfl))
  ·rename_i d p l hi
   cases q:bE (imp.map fun _=>true) (imp.map Hd.slot) (ρ.set i .un) with
   | none=>rw [q] at e; cases e
   | some y=>exact go _ y.1 y.2 (r.unset i) q (r.bound (by rw [hi]; rfl))
  ·cases e
theorem uN {ρ1 ρ2 ρ':Env} {o:Option Nat} (ho:∀ i,o=some i→∃ d p l,ρ1[i]?=some (.ow d p l)) (e:dB o ρ1 ρ2=some ρ') (h:iO (aO o ρ1) ρ2):iO ρ1 ρ':=by
 cases o with
 | none=>simp only [dB,Option.some.injEq] at e; subst e; exact h
 | some i =>
  obtain ⟨d,p,l,hi⟩:=ho i rfl;simp only [dB] at e;split at e
  ·rename_i sl hf hs;rw [hi] at hs; cases hs;cases e;intro j;by_cases hj:j=i
   ·subst hj;rw [hi,List.getElem?_set_self (List.getElem?_eq_some_iff.mp hf).1];exact dE.refl _
   ·have:=h j
    rw [List.getElem?_set_ne (fun z=>hj z.symm)]
    have e2:(aO (some i) ρ1)[j]?=ρ1[j]?:=by
     show (ρ1.set i .un)[j]?=_;rw [List.getElem?_set_ne (fun z=>hj z.symm)]
    rw [e2] at this;exact this
  ·cases e
theorem yD {Γ:CC}:∀ {xs:List Str} {imp:List Nat},Γ.imps xs=some imp→imp.length=xs.length∧∀ (j:Nat) x i,xs[j]?=some x→imp[j]?=some i→Γ.N[i]?=some x
 | [],imp,h=>by simp only [CC.imps,Option.some.injEq] at h; subst h; exact ⟨rfl,fun j x i z=>by simp at z⟩
 | x :: xs,imp,h=>by
  simp only [CC.imps] at h
  cases q:Γ.N.idxOf? x with
  | none=>rw [q] at h; cases h
  | some i =>
   rw [q] at h;simp only [Option.bind_some] at h
   cases q2:Γ.imps xs with
   | none=>rw [q2] at h; cases h
   | some r =>
    rw [q2] at h;simp only [Option.map_some,Option.some.injEq] at h;subst h;obtain ⟨h1,h2⟩:=yD q2;refine ⟨by simp [h1],fun j y k hy hk=>?_⟩
    cases j with
    | zero =>
     simp only [List.getElem?_cons_zero,Option.some.injEq] at hy hk;subst hy hk;exact nL q
    | succ j=>exact h2 j y k (by simpa using hy) (by simpa using hk)
structure ScOk (Γ:CC) (scope:Scope):Prop where
 kind:scope.kind=.function
 cell:∀ y∈scope.names,y.2≠.cell
 names:∀ x∈scope.names,x.2=.local→scope.names.lookup x.1=some .local
 free:∀ x∈scope.names,x.2=.free→scope.names.lookup x.1=some .free
 out:∀ p∈scope.names,p.2=.free→Γ.names.lookup p.1=some .cell∨Γ.names.lookup p.1=some .free
 nd:(dS scope ++ dG scope).Nodup
theorem VI {scope:Scope} (h:Γ.scOk scope=true):ScOk Γ scope:=by
 unfold CC.scOk at h;simp only [Bool.and_eq_true,List.all_eq_true,decide_eq_true_eq,beq_iff_eq,bne_iff_ne,Bool.or_eq_true,ne_eq] at h;obtain ⟨⟨⟨⟨h1,h2⟩,h3⟩,h4⟩,h5⟩:=h;refine ⟨h1,h2,fun x hx hl=>?_,fun x hx hf=>?_,fun x hx hf=>?_,h5⟩
 ·rcases h3 x hx with z | z
  ·exact absurd hl z
  ·exact z
 ·rcases h4 x hx with z | z
  ·exact absurd hf z
  ·exact z.1
 ·rcases h4 x hx with z | z
  ·exact absurd hf z
  ·exact z.2
theorem xR {scope:Scope} {x:Str} (sc:ScOk Γ scope) (h:x∈dS scope):scope.names.lookup x=some .free:=by
 unfold dS at h;obtain ⟨p,hp,rfl⟩:=List.mem_map.mp h;obtain ⟨h1,h2⟩:=List.mem_filter.mp hp;exact sc.free p h1 (eq_of_beq h2)
def E9 (K:PySem.W.Frag) (ρ0:Env) (σ0:St) (H1 G2:Hp) (ds:List D) (J:It):Prop:=∀ i H' ρc σ' Gc,AftS K ρ0 σ0 H1 G2 ρc σ' H' Gc→(i=ds.length→J.stop i H')∧(i<ds.length→J.go i H')∧∀ d x H2,ds[i]?=some d→J.yld i H' x H2→∃ Gd,Aft K ρc σ' H' Gc ρc H2 Gd∧aD K Gd d x
theorem KN {ρ1 ρ0:Env} {σ σ0:St} {H1 G1 G2:Hp} {ds:List D} {o:Option Nat} (gg2:aM G1 G2) (own:∀ c,aL ρ0 σ0 c→aL (aO o ρ1) σ c) :
  (∀ a vs,lJ K (aO o ρ1) σ H1 G1 a vs→aB K G1 ds vs→E9 K ρ0 σ0 H1 G2 ds (qO K a))∧(∀ a vs,d6 K G1 a vs→aB K G1 ds vs→E9 K ρ0 σ0 H1 G2 ds (rH K a))∧(∀ (lo:Int) (n:Nat),ds=(List.range n).map (fun (j:Nat)=>D.int (lo+(j:Int)))→E9 K ρ0 σ0 H1 G2 ds (nE lo n))∧(∀ a vs ds0 lo,ds=dJ lo ds0→lJ K (aO o ρ1) σ H1 G1 a vs→aB K G1 ds0 vs→E9 K ρ0 σ0 H1 G2 ds (rM K a lo)):=by
 refine ⟨fun a vs hsrc hr=>?_,fun a vs ht hr=>?_,fun lo n hds=>?_,fun a vs ds0 lo hds hsrc hr=>?_⟩
 ·intro i H' ρc σ' Gc af
  have hnow:cB K H' a vs:=by
   rcases hsrc with h | ⟨h1,h2,h3⟩
   ·exact af.rel.sub.seq (af.ext.gg.seq (gg2.seq h))
   ·exact cB.of (af.ext.hh a _ h1 fun z=>h3 (own a z))
  refine ⟨fun hi=>⟨vs,hnow,by rw [hr.len]; omega⟩,fun hi=>?_,fun d x H2 hd hy=>?_⟩
  ·obtain ⟨x',h1,h2⟩:=hr.get (List.getElem?_eq_getElem hi);exact ⟨vs,x',hnow,h1⟩
  ·obtain ⟨rfl,hy⟩:=hy;obtain ⟨x',h1,h2⟩:=hr.get hd
   have:=hy vs hnow
   rw [h1] at this;cases this;exact ⟨_,Aft.refl af.rel,aD.mono af.ext.gg d (aD.mono gg2 d h2)⟩
 ·intro i H' ρc σ' Gc af;have hnow:d6 K H' a vs:=eM af.rel.sub (eM af.ext.gg (eM gg2 ht));refine ⟨fun hi=>⟨vs,hnow,by rw [hr.len]; omega⟩,fun hi=>?_,fun d x H2 hd hy=>?_⟩
  ·obtain ⟨x',h1,h2⟩:=hr.get (List.getElem?_eq_getElem hi);exact ⟨vs,x',hnow,h1⟩
  ·obtain ⟨rfl,hy⟩:=hy;obtain ⟨x',h1,h2⟩:=hr.get hd
   have:=hy vs hnow
   rw [h1] at this;cases this;exact ⟨_,Aft.refl af.rel,aD.mono af.ext.gg d (aD.mono gg2 d h2)⟩
 ·intro i H' ρc σ' Gc af;have hlen:ds.length=n:=by rw [hds]; simp
  refine ⟨fun hi=>by show n≤i; omega,fun hi=>by show i<n; omega,fun d x H2 hd hy=>?_⟩;obtain ⟨rfl,hy⟩:=hy;have hi:i<n:=by rw [← hlen]; exact (List.getElem?_eq_some_iff.mp hd).1
  have hd':ds[i]?=some (.int (lo+(i:Int))):=by rw [hds]; simp [hi]
  rw [hd'] at hd;cases hd;subst hy;exact ⟨_,Aft.refl af.rel,by simp [aD]⟩
 ·intro i H' ρc σ' Gc af;subst hds
  have hnow:cB K H' a vs:=by
   rcases hsrc with h | ⟨h1,h2,h3⟩
   ·exact af.rel.sub.seq (af.ext.gg.seq (gg2.seq h))
   ·exact cB.of (af.ext.hh a _ h1 fun z=>h3 (own a z))
  refine ⟨fun hi=>⟨vs,hnow,by rw [hr.len,← fI (lo:=lo)]; omega⟩,fun hi=>?_,fun d x H2 hd hy=>?_⟩
  ·obtain ⟨x',h1,h2⟩:=hr.get (List.getElem?_eq_getElem (by rw [fI] at hi; exact hi));exact ⟨vs,x',hnow,h1⟩
  ·obtain ⟨p0,y0,hn,rfl,rfl,hy⟩:=hy;have hl:i<ds0.length:=by rw [← fI (lo:=lo)]; exact (List.getElem?_eq_some_iff.mp hd).1
   obtain ⟨x',h1,h2⟩:=hr.get (List.getElem?_eq_getElem hl);have hy:=hy vs hnow;rw [h1] at hy;cases hy;rw [nM (List.getElem?_eq_getElem hl)] at hd;cases hd;exact ⟨_,(Aft.refl af.rel).layG hn,CV (aM.free af.rel.sub hn) (aD.mono af.ext.gg _ (aD.mono gg2 _ h2))⟩
abbrev CLP (K:PySem.W.Frag) (ρ0:Env) (σ0:St) (H1 G2:Hp) (L:Addr) (ds:List D) (run:Nat→List D→Env→Prop) (i:Nat) (σ':St) (H':Hp):Prop:=i≤ds.length∧∃ ρc Gc ac ys,AftS K ρ0 σ0 H1 G2 ρc σ' H' Gc∧H' L=some (.lst ys)∧Gc L=none∧¬ aL ρc σ' L∧aB K Gc ac ys∧run i ac ρc
abbrev LM (K:PySem.W.Frag) (P:aK) (C:Calls) (k0:ItK) (its:List E) (σ:St) (H:Hp) (R:It→Hp→Prop):Prop:=∃ (ρ:Env) (G:Hp) (hs:List Hd) (ρ1:Env) (ds:List D) (o:Option Nat),Rel K ρ σ H G∧cD P C its ρ=some (.ok hs,ρ1)∧aI k0 hs ρ1=some (ds,o) ∧
   ∀ H1 G1,Aft K ρ σ H G ρ1 H1 G1→(∀ i,o=some i→∃ d p l,ρ1[i]?=some (.ow d p l)) →
    (∀ a vs,lJ K (aO o ρ1) σ H1 G1 a vs→aB K G1 ds vs→R (qO K a) H1)∧(∀ a vs,d6 K G1 a vs→aB K G1 ds vs→R (rH K a) H1)∧(∀ (lo:Int) (n:Nat),ds=(List.range n).map (fun (j:Nat)=>D.int (lo+(j:Int)))→R (nE lo n) H1)∧(∀ a vs ds0 lo,ds=dJ lo ds0→lJ K (aO o ρ1) σ H1 G1 a vs→aB K G1 ds0 vs→R (rM K a lo) H1)
theorem B2 (xo:bA X K P C Γ) {scope:Scope} {ce:E} {k0:ItK} {its cond:List E} {imp is:List Nat} {wi:TI} (sc:ScOk Γ scope) (himp:Γ.imps (dS scope)=some imp)
  (hw:∀ σ H (R:It→Hp→Prop),LM K P C k0 its σ H R→wi σ H R)
  {σ:St} {H:Hp} {Q:VK} (h:tE K P C (.comp ce is k0 its cond imp (dG scope).length) σ H Q):xC X.N scope (Γ.inner scope).N wi (gB K (is.length == 1) is) (qY K P C cond) (tE K P C ce) σ H Q:=by
 obtain ⟨ρ,G,v,ρ',r,e,k⟩:=h;simp only [ev,aQ] at e;obtain ⟨hs',ρ1,e1,e2⟩:=aJ e
 cases q:aI k0 hs' ρ1 with
 | none=>rw [q] at e2; cases e2
 | some y =>
  obtain ⟨ds,o⟩:=y;rw [q] at e2;obtain ⟨v',ρ2,e3,e4⟩:=aJ e2;unfold kA at e4
  cases q3:dB o ρ1 ρ2 with
  | none=>rw [q3] at e4; cases e4
  | some ρ3 =>
   rw [q3] at e4;simp only [Option.map_some,Option.some.injEq,Prod.mk.injEq,Out.ok.injEq] at e4;obtain ⟨rfl,rfl⟩:=e4;unfold xC;refine hw σ H _ ⟨ρ,G,hs',ρ1,ds,o,r,e1,q,fun H1 G1 a1 ho=>?_⟩;have R0:=(kJ (o:=o) a1.rel).1
   have hld:∃ as ρ4,bE (imp.map fun _=>true) (imp.map Hd.slot) (aO o ρ1)=some (as,ρ4):=by
    unfold bZ at e3
    cases q4:bE (imp.map fun _=>true) (imp.map Hd.slot) (aO o ρ1) with
    | none=>rw [q4] at e3; cases e3
    | some y=>exact ⟨y.1,y.2,rfl⟩
   obtain ⟨as0,ρ4,hld⟩:=hld;obtain ⟨xs,hx1,hx2,hx3,hx4⟩:=pJ (own:=aL (aO o ρ1) σ) (new:=dU H1) imp _ _ _ R0 hld;obtain ⟨as,G2,as',ra,hal,ef,⟨gg2,ao2⟩,kk⟩:=kP (Aft.refl R0) hx1 e3;unfold pN at ef;split at ef
   ·rename_i hp;obtain ⟨acc,ρi,e5,e6⟩:=aJ ef;split at e6
    ·rename_i hz;simp only [Option.some.injEq,Prod.mk.injEq,Out.ok.injEq] at e6;obtain ⟨rfl,rfl⟩:=e6;obtain ⟨il,ig⟩:=yD himp
     have hNl:(Γ.inner scope).N.length=as.length+(dG scope).length:=by
      show (dS scope ++ dG scope).length=_;rw [List.length_append,hal,List.length_map,il]
     obtain ⟨rp,op⟩:=ra.pad hNl;have hsz:=hV hz
     -- the block's turns
     have turns:∀ (J:It),E9 K (as ++ List.replicate (dG scope).length .un) (b0 (Γ.inner scope).N xs) H1 G2 ds J→M0 X.N scope (Γ.inner scope).N (gB K (is.length == 1) is) (qY K P C cond) (tE K P C ce) σ Q J H1:=by
      intro J hJ;refine Exists.intro xs ⟨by rw [hNl,hx2,hal,List.length_map]; omega,fun i x v hN hv=>?_,fun D hD=>?_⟩
      ·obtain ⟨j,hj,hσ⟩:=hx4 i v hv
       have hlt:i<(dS scope).length:=by
        rw [← il];exact (List.getElem?_eq_some_iff.mp hj).1
       have hfx:(dS scope)[i]?=some x:=by
        have:(dS scope ++ dG scope)[i]?=some x:=hN
        rwa [List.getElem?_append_left hlt] at this
       exact ⟨j,by rw [xo.neq]; exact ig i x j hfx hj,hσ,xR sc (List.mem_of_getElem? hfx)⟩
      ·have fin:∀ σ' H' Gc ys,AftS K (as ++ List.replicate (dG scope).length .un) (b0 (Γ.inner scope).N xs) H1 G2 ρi σ' H' Gc→H' D=some (.lst ys)→Gc D=none→¬ aL ρi σ' D→aB K Gc acc ys→Q (.ref D) H':=by
        intro σ' H' Gc ys a hHD hGD hnD hr;obtain ⟨b1,b2⟩:=mG ra hp hNl a;obtain ⟨c1,c2⟩:=kk (.ref D) H' Gc b1 ⟨D,rfl,hGD,⟨ys,hHD,hr⟩,fun z=>hnD (b2 D z),hD⟩;obtain ⟨d1,d2⟩:=f9 a1.rel ho q3 (Aft.s R0 c1);have a2:Aft K ρ1 σ H1 G1 ρ3 H' Gc:=⟨d1.rel,d1.ext,uN ho q3 c1.evo⟩
        obtain ⟨D',e',g',o',n',f'⟩:=c2;cases e';refine k _ _ _ (a1.trans a2) ⟨D,rfl,g',o',fun z=>?_,a1.fresh hD⟩;rcases d2 D z with z | ⟨z,_⟩
        ·exact n' z
        ·exact (a1.rel.owned z).1 hD
       clear kk k q3 R0 ho a1 hp hNl ra hal gg2 ao2 hx1 hx2 hx3 hx4 hld e3 q e1 r himp il ig op;refine ⟨ds.length,CLP K (as ++ List.replicate (dG scope).length .un) (b0 (Γ.inner scope).N xs) H1 G2 D ds (fun i ac ρc=>d8 (dC P C cond) (ev P C false ce) (a8 (is.length == 1) is) (ds.drop i) ac ρc=some (.ok acc,ρi)), ?_, ?_⟩
       ·have g2:G2 D=none:=by
         cases z:G2 D with
         | none=>rfl
         | some u=>have:=rp.sub D u z; rw [hD] at this; cases this
        exact ⟨Nat.zero_le _,_,G2,[],[],Aft.s rp ((Aft.refl rp).layH hD),bC,g2,rp.notOwn hD,aB.nil,e5⟩
       ·rintro i σ' H' ⟨hil,ρc,Gc,ac,ys,a,hHD,hGD,hnD,hr,ec⟩
        obtain ⟨j1,j2,j3⟩:=hJ i H' ρc σ' Gc a;by_cases hlt:i<ds.length
        ·refine .inr ⟨hlt,j2 hlt,fun x H2 hy=>?_⟩;have hd:ds[i]?=some ds[i]:=List.getElem?_eq_getElem hlt;obtain ⟨Gd,afd,hrep⟩:=j3 _ x H2 hd hy;have hGD:=afd.ext.gn D (by rw [hHD]; simp) hGD hnD;have hHD:=afd.ext.hh D _ hHD hnD;have hr:=aB.mono afd.ext.gg _ hr;have a:=a.trans (Aft.s a.rel afd);rw [List.drop_eq_getElem_cons hlt] at ec;simp only [d8] at ec;split at ec
         ·cases ec
         ·rename_i ρb hb;obtain ⟨c,ρt,et,ec⟩:=aJ ec;refine ⟨ρc,Gd,ds[i],ρb,a.rel,hrep,hb,fun σ1 ab=>?_⟩;have a01:=a.trans ab
          have nb:¬ aL ρb σ1 D:=fun z=>by
           rcases ab.own D z with z | z
           ·exact hnD z
           ·rw [hHD] at z; cases z
          split at ec
          ·obtain ⟨w,ρe,ee,ec⟩:=aJ ec;refine ⟨ρb,Gd,true,ρt,ab.rel,et,fun H3 G3 at3=>?_⟩;have h3:H3 D=some (.lst ys):=at3.ext.hh D _ hHD nb;have g3:G3 D=none:=at3.ext.gn D (by rw [hHD]; simp) hGD nb;have n3:¬ aL ρt σ1 D:=fun z=>nb (at3.own D z)
           dsimp only;rw [if_pos rfl];refine ⟨ρt,G3,w,ρe,at3.rel,ee,fun y H4 G4 a4 ry=>?_⟩;obtain ⟨G5,a5,ry5⟩:=a4.share ry;have h4:H4 D=some (.lst ys):=a5.ext.hh D _ h3 n3;have g5:G5 D=none:=a5.ext.gn D (by rw [h3]; simp) g3 n3;have n5:¬ aL ρe σ1 D:=fun z=>n3 (a5.own D z)
           have hlen:=sQ ec;have hyl:=hr.len;rw [List.length_append] at hlen;simp only [List.length_cons,List.length_nil] at hlen;have a05:=(a01.trans (Aft.s ab.rel at3)).trans (Aft.s at3.rel a5);refine ⟨ys,h4,by omega,hlt,ρe,G5,ac ++ [w.d],ys ++ [y],a05.poke hD g5 n5,bC,g5,n5, ?_,ec⟩;exact (aB.mono a5.ext.gg _ (aB.mono at3.ext.gg _ hr)).app (aB.cons ry5 aB.nil)
          ·refine ⟨ρb,Gd,false,ρt,ab.rel,et,fun H3 G3 at3=>?_⟩;have h3:H3 D=some (.lst ys):=at3.ext.hh D _ hHD nb;have g3:G3 D=none:=at3.ext.gn D (by rw [hHD]; simp) hGD nb;have n3:¬ aL ρt σ1 D:=fun z=>nb (at3.own D z)
           dsimp only;rw [if_neg (by decide)];exact ⟨hlt,ρt,G3,ac,ys,a01.trans (Aft.s ab.rel at3),h3,g3,n3,aB.mono at3.ext.gg _ hr,ec⟩
          ·cases ec
        ·have hie:i=ds.length:=by omega
         refine .inl ⟨j1 hie, ?_⟩;subst hie;rw [List.drop_length] at ec;simp only [d8,Option.some.injEq,Prod.mk.injEq,Out.ok.injEq] at ec;obtain ⟨rfl,rfl⟩:=ec;exact fin _ _ _ _ a hHD hGD hnD hr
     have noTmp:∀ c,aL as (xs.map some) c→aL (aO o ρ1) σ c:=fun c z=>by
      rcases ao2 c z with z | z
      ·exact z
      ·exact absurd z (hx3 c)
     obtain ⟨w1,w2,w3,w4⟩:=KN (K:=K) (ρ1:=ρ1) (σ:=σ) (H1:=H1) (ds:=ds) (o:=o) gg2 fun c z=>noTmp c (op c z)
     exact ⟨fun a vs h1 h2=>turns _ (w1 a vs h1 h2),fun a vs h1 h2=>turns _ (w2 a vs h1 h2),fun lo n h1=>turns _ (w3 lo n h1),fun a vs ds0 lo h1 h2 h3=>turns _ (w4 a vs ds0 lo h1 h2 h3)⟩
    ·cases e6
   ·cases ef
def FR (X:Cx) (K:PySem.W.Frag) (P:aK) (C:Calls) (e:Expr) (c:E):Prop:=∀ (x:Str) (i:Nat) (p pos:Pos),X.N.Nodup→X.N[i]?=some x→rQ X.env.scope x→(X.fn x=true∨X.env.scope.names.lookup x=some .local) →
 PS X (.Assign [.Name x p] e pos) (yY (tE K P C c) (lN i))
theorem lY {e:Expr}:FR X K P C e .bad:=fun x i p pos _ _ _ _ pins s σ H D I h=>by
 obtain ⟨ρ,G,v,ρ',r,e,k⟩:=h;rw [ev] at e;cases e
theorem V1 (xo:bA X K P C Γ) {elt tg iter:Expr} {ifs:List Expr} {scope:Scope} {pos:Pos} {ce:E} {k0:ItK} {its cond:List E} {imp is:List Nat} {wi:TI} (sc:ScOk Γ scope) (himp:Γ.imps (dS scope)=some imp) (htg:jK (Γ.inner scope) tg=some (is.length == 1,is))
  (hi:PI X tg iter wi) (hs:∀ x,foldedSetIterable iter X.env x=pure x)
  (hw:∀ σ H (R:It→Hp→Prop),LM K P C k0 its σ H R→wi σ H R)
  (he:∀ X',bA X' K P C (Γ.inner scope)→Ok3 X' K P C elt ce) (ht:∀ X',bA X' K P C (Γ.inner scope)→lG X' ifs (qY K P C cond)) :
  Ok3 X K P C (.ListComp elt [⟨tg,iter,ifs,0⟩] scope pos) (.comp ce is k0 its cond imp (dG scope).length)∧FR X K P C (.ListComp elt [⟨tg,iter,ifs,0⟩] scope pos) (.comp ce is k0 its cond imp (dG scope).length):=by
 have all:X.env.scope.kind=.function→(∀ X',eC X scope (Γ.inner scope).N X'→PG X' tg (gB K (is.length == 1) is))∧(∀ X',eC X scope (Γ.inner scope).N X'→lG X' ifs (qY K P C cond))∧∀ X',eC X scope (Γ.inner scope).N X'→PE X' elt (tE K P C ce):=by
  intro hk;have xi:∀ X',eC X scope (Γ.inner scope).N X'→bA X' K P C (Γ.inner scope):=fun X' b=>xo.inner hk sc.nd b
  have hfn:∀ X',eC X scope (Γ.inner scope).N X'→∀ x,(Γ.inner scope).isLoc x=true→X'.fn x=true∨X'.env.scope.names.lookup x=some .local:=fun X' b x hx=>by
   rw [(xi X' b).nm];unfold CC.isLoc at hx;rw [Bool.or_eq_true,Bool.and_eq_true] at hx;rcases hx with hx | hx
   ·exact .inr (eq_of_beq hx)
   ·exact absurd hx.1 (by simp [CC.inner])
  exact ⟨fun X' b=>y6 (xi X' b) (hfn X' b) htg,fun X' b=>ht X' (xi X' b),fun X' b=>(he X' (xi X' b)).v⟩
 have hfk:∀ p∈scope.names,p.2=.free→X.env.kindOf p.1=some .cell∨X.env.kindOf p.1=some .free:=fun p hp hf=>by unfold PySem.Env.kindOf; rw [xo.nm]; exact sc.out p hp hf
 have hPE:PE X (.ListComp elt [⟨tg,iter,ifs,0⟩] scope pos) (tE K P C (.comp ce is k0 its cond imp (dG scope).length)):=fun pins s σ H Q I h=>by
  obtain ⟨h1,h2,h3⟩:=all I.ok.kind;exact VB (N':=(Γ.inner scope).N) xo.calm hi hs sc.kind sc.cell sc.names hfk h1 h2 h3 pins s σ H Q I (B2 xo sc himp hw h)
 refine ⟨kR xo hPE (fun i z=>nomatch z) (fun ρ=>by simp only [ev,aQ]) fun _=>rfl,fun x i p spos hN hx hl hf=>?_⟩;obtain ⟨b,hb⟩:∃ b:Bool,swapsWith (.ListComp elt [⟨tg,iter,ifs,0⟩] scope pos) (some (.Name x p)) spos.line X.env=pure b:=⟨_,rfl⟩
 cases b with
 | false=>exact sC hPE (yT hN hx hl hf) hb
 | true =>
  intro pins s σ H D I h;obtain ⟨h1,h2,h3⟩:=all I.ok.kind;exact D7 hb hN hx hl hf xo.calm hi hs sc.kind sc.cell sc.names hfk h1 h2 h3 pins s σ H D I (B2 xo sc himp hw h)
end
structure ArgsOk (X:Cx) (K:PySem.W.Frag) (P:aK) (C:Calls) (e:Expr) (cs:List E):Prop where
 h:∀ (f:Str) (p:Pos) (args:List Expr) (kw:List _) (pos:Pos),e=.Call (.Name f p) args kw pos→args.all aW=true→PA X args (mX K P C cs)∧cs.length=args.length
theorem yH {Γ:CC}:∀ (es:List Expr),(bT Γ es).length=es.length
 | []=>by rw [bT]; rfl
 | e :: es=>by rw [bT,List.length_cons,List.length_cons,yH es]
section
variable {X:Cx} {K:PySem.W.Frag} {P:aK} {C:Calls} {Γ:CC}
theorem sM {Γ:CC} {tg:Expr} {one:Bool} {is:List Nat} (h:jK Γ tg=some (one,is)) (n:one=false):∃ elts k p,tg=.Tuple elts k p:=by
 cases tg <;> simp only [jK,reduceCtorEq] at h
 ·rename_i x pos
  cases q:Γ.slotL x with
  | none=>rw [q] at h; cases h
  | some i=>rw [q] at h; cases h; cases n
 ·exact ⟨_,_,_,rfl⟩
theorem zL (xo:bA X K P C Γ) {tg iter:Expr} {scope:Scope} {ci ce:E} {cargs cond:List E} (hci:Ok3 X K P C iter ci) (hca:ArgsOk X K P C iter cargs) {Φ:E→Prop} (bad:Φ .bad)
  (good:∀ {k0:ItK} {its:List E} {imp is:List Nat} {wi:TI},ScOk Γ scope→Γ.imps (dS scope)=some imp→jK (Γ.inner scope) tg=some (is.length == 1,is)→PI X tg iter wi→(∀ x,foldedSetIterable iter X.env x=pure x) →
   (∀ σ H (R:It→Hp→Prop),LM K P C k0 its σ H R→wi σ H R)→Φ (.comp ce is k0 its cond imp (dG scope).length)) :
  Φ (nH Γ scope tg iter ci cargs cond ce):=by
 unfold nH;split
 ·rename_i hsc;have sc:=VI hsc;split
  ·rename_i imp one is k0 its0 q1 q2 q3;split
   ·rename_i hone;rw [Bool.and_eq_true,Bool.and_eq_true] at hone;obtain ⟨⟨hone,hfit⟩,hns⟩:=hone;have hone:=eq_of_beq hone;subst hone
    have gen:∀ e:Expr,iter=e→xB e=true→some (ItK.of,[e])=some (k0,its0)→Φ (.comp ce is k0 (X7 k0 ci cargs) cond imp (dG scope).length):=fun e he' hn hq=>by
     subst he';cases hq;exact good sc q1 q2 (PI.or (GJ hci.h) (J3 hci.h)) (zR hn _) (fun σ H R q=>SE xo.keq σ H R q)
    unfold pV at q3;split at q3
    ·rename_i f p args pos';split at q3
     ·rename_i hf;have hf:=eq_of_beq hf;subst hf;split at q3
      ·rename_i hgl;split at q3
       ·rename_i hc;cases q3;rw [Bool.and_eq_true] at hc;obtain ⟨h1,h2,h3,h4⟩:=CC.glob_ok xo hgl (fun z=>nomatch z);have hm:=xo.blt _ h2;obtain ⟨hpa,hcl⟩:=hca.h _ _ _ _ _ rfl hc.1
        match its0,cargs,hc,hpa,hcl with
        | [a],[c1],hc,hpa,_ =>
         have ns:=hc.1;rw [List.all_cons,Bool.and_eq_true] at ns;exact good sc q1 q2 (AE h1 hm hpa (by rw [bI ns.1]; rfl)) (fun _=>rfl) (fun σ H R q=>FG σ H R q)
        | [a,b],[c1,c2],hc,hpa,_ =>
         have ns:=hc.1;rw [List.all_cons,Bool.and_eq_true,List.all_cons,Bool.and_eq_true] at ns;exact good sc q1 q2 (AJ h1 hm hpa (by rw [bI ns.1,bI ns.2.1]; rfl) (by rw [bI ns.2.1]; rfl)) (fun _=>rfl) (fun σ H R q=>GP σ H R q)
        | [],_,hc,_,_=>simp at hc
        | _ :: _ :: _ :: _,_,hc,_,_=>simp at hc
       ·cases q3
      ·cases q3
     ·split at q3
      ·rename_i hf;have hf:=eq_of_beq hf;subst hf;split at q3
       ·rename_i hgl;split at q3
        ·rename_i hc;cases q3;rw [Bool.and_eq_true] at hc;obtain ⟨h1,h2,h3,h4⟩:=CC.glob_ok xo hgl (fun z=>nomatch z);have hm:=xo.blt _ h2;obtain ⟨hpa,hcl⟩:=hca.h _ _ _ _ _ rfl hc.1
         match its0,cargs,hc,hpa,hcl with
         | [a],[c1],hc,hpa,_ =>
          have ns:=hc.1;rw [List.all_cons,Bool.and_eq_true] at ns;obtain ⟨elts,kk,tp,rfl⟩:=sM q2 (by simpa [kM] using hfit);exact good sc q1 q2 (FT h1 hm hpa (by rw [bI ns.1]; rfl)) (fun _=>rfl) (fun σ H R q=>yB xo.keq σ H R q)
         | [],_,hc,_,_=>simp at hc
         | _ :: _ :: _,_,hc,_,_=>simp at hc
        ·cases q3
       ·cases q3
      ·exact gen _ rfl rfl q3
    ·split at q3
     ·split at q3
      ·cases q3; exact absurd hns (by decide)
      ·cases q3
     ·cases q3
    ·split at q3
     ·exact gen _ rfl ‹_› q3
     ·cases q3
   ·exact bad
  ·exact bad
 ·exact bad
theorem mZ (xo:bA X K P C Γ) {elt tg iter:Expr} {ifs:List Expr} {scope:Scope} {pos:Pos} {ci ce:E} {cargs cond:List E} (hci:Ok3 X K P C iter ci) (hca:ArgsOk X K P C iter cargs)
  (he:∀ X',bA X' K P C (Γ.inner scope)→Ok3 X' K P C elt ce) (ht:∀ X',bA X' K P C (Γ.inner scope)→lG X' ifs (qY K P C cond)) :
  Ok3 X K P C (.ListComp elt [⟨tg,iter,ifs,0⟩] scope pos) (nH Γ scope tg iter ci cargs cond ce)∧FR X K P C (.ListComp elt [⟨tg,iter,ifs,0⟩] scope pos) (nH Γ scope tg iter ci cargs cond ce) :=
 zL xo hci hca (Φ:=fun c=>Ok3 X K P C (.ListComp elt [⟨tg,iter,ifs,0⟩] scope pos) c∧FR X K P C (.ListComp elt [⟨tg,iter,ifs,0⟩] scope pos) c) ⟨aS,lY⟩ fun sc q1 q2 hi hs hw=>V1 xo sc q1 q2 hi hs hw he ht
end
def aE1 (i:Expr):Prop:=∃ k p1 p2 p3,i=.Slice none none (some (.UnaryOp .USub (.Constant (.int 1) k p1) p2)) p3
theorem L6 {i:Expr} (h:JF i=true):aE1 i:=by
 cases i with
 | Slice lo hi st q =>
  obtain _ | _:=lo
  ·obtain _ | _:=hi
   ·obtain _ | st:=st
    ·exact dA h
    ·cases st with
     | UnaryOp op a p =>
      cases op with
      | USub =>
       cases a with
       | Constant c k p1 =>
        cases c with
        | int n =>
         have h:=eq_of_beq (show (n == 1)=true from h);subst h;exact Exists.intro _ ⟨_,_,_,rfl⟩
        | _=>exact dA h
       | _=>exact dA h
      | _=>exact dA h
     | _=>exact dA h
   ·exact dA h
  ·exact dA h
 | _=>exact dA h
theorem R5 (Γ:CC) (a i:Expr) (p:Pos):(∃ lo hi q,i=.Slice lo hi none q)∨((∀ lo hi q,i≠.Slice lo hi none q)∧cE Γ (.Subscript a i p)=if JF i then .rev (cE Γ a) else .ix (cE Γ a) (cE Γ i)):=by
 cases i with
 | Slice lo hi st q =>
  cases st with
  | none=>exact .inl ⟨_,_,_,rfl⟩
  | some _=>exact .inr ⟨(fun _ _ _ z=>nomatch z),rfl⟩
 | _=>exact .inr ⟨(fun _ _ _ z=>nomatch z),rfl⟩
def zO (K:PySem.W.Frag) (P:aK) (C:Calls) (n:Nat):Prop:=∀ (X:Cx) (Γ:CC),bA X K P C Γ→∀ e:Expr,sizeOf e<n→Ok3 X K P C e (cE Γ e)
theorem bK {a b n:Nat} (h:a<b) (k:b<n+1):a<n:=Nat.lt_of_lt_of_le h (Nat.le_of_lt_succ k)
section
variable {X:Cx} {K:PySem.W.Frag} {P:aK} {C:Calls} {Γ:CC} {n:Nat}
theorem pH {e:Expr} {r:List Expr} (h:sizeOf (e :: r)<n):sizeOf e<n:=Nat.lt_trans (by simp; omega) h
theorem wL {e:Expr} {r:List Expr} (h:sizeOf (e :: r)<n):sizeOf r<n:=Nat.lt_trans (by simp; omega) h
theorem wH (ih:zO K P C n) (xo:bA X K P C Γ):∀ es:List Expr,sizeOf es<n→es.all aW=true→PA X es (AH K P C (bT Γ es))
 | [],_,_=>TJ
 | e :: r,hs,h=>by
  rw [List.all_cons,Bool.and_eq_true] at h;exact NT (ih _ _ xo e (pH hs)) (wH ih xo r (wL hs) h.2) h.1
theorem nG (ih:zO K P C n) (xo:bA X K P C Γ):∀ es:List Expr,sizeOf es<n→es.all aW=true→PA X es (mX K P C (bT Γ es))
 | [],_,_=>TR
 | e :: r,hs,h=>by
  rw [List.all_cons,Bool.and_eq_true] at h;exact NQ (ih _ _ xo e (pH hs)) (nG ih xo r (wL hs) h.2) h.1
theorem R4 (ih:zO K P C n) (xo:bA X K P C Γ):∀ vs:List Expr,sizeOf vs<n→vs≠[]→Ok2 X K P C .And vs (QE Γ vs)
 | [],_,h=>absurd rfl h
 | [a],hs,_=>QI (ih _ _ xo a (pH hs))
 | a :: b :: r,hs,_=>GR (ih _ _ xo a (pH hs)) (R4 ih xo (b :: r) (wL hs) (fun z=>nomatch z))
theorem aAu (ih:zO K P C n) (xo:bA X K P C Γ):∀ vs:List Expr,sizeOf vs<n→vs≠[]→Ok2 X K P C .Or vs (X1 Γ vs)
 | [],_,h=>absurd rfl h
 | [a],hs,_=>VF (ih _ _ xo a (pH hs))
 | a :: b :: r,hs,_=>MP (ih _ _ xo a (pH hs)) (aAu ih xo (b :: r) (wL hs) (fun z=>nomatch z))
theorem o_n (ih:zO K P C n) (xo:bA X K P C Γ):∀ o:Option Expr,sizeOf o<n→PO X o (tO K P C (cO Γ o))
 | none,_=>NP
 | some e,hs=>NA (ih _ _ xo e (Nat.lt_trans (by simp) hs))
theorem D5 (ih:zO K P C n) (xo:bA X K P C Γ) (e:Expr) (hs:sizeOf e<n):ArgsOk X K P C e (BL Γ e):=by
 cases e <;> first
  | (rename_i f args kw pos; exact ⟨fun f' p' args' kw' pos' z ns=>by cases z; exact ⟨nG ih xo args (Nat.lt_trans (by simp; omega) hs) ns,yH args⟩⟩)
  | exact ⟨fun f' p' args' kw' pos' z ns=>by cases z⟩
end
theorem V8 {X:Cx} {K:PySem.W.Frag} {P:aK} {C:Calls} {Γ:CC} {n:Nat} (ih:zO K P C n) (xo:bA X K P C Γ) (e:Expr) (hsz:sizeOf e<n+1):Ok3 X K P C e (cE Γ e):=by
 cases e with
 | Name x p =>
  exact GB xo _ _
 | Constant c k p =>
  exact DE xo _ _ _
 | Tuple es k p =>
  show Ok3 X K P C _ (if es.all aW then .tup (bT Γ es) else .bad);split
  ·exact X5 xo (wH ih xo _ (bK (by simp; omega) hsz) ‹_›)
  ·exact aS
 | List es p =>
  show Ok3 X K P C _ (if es.all aW then .lst (bT Γ es) else .bad);split
  ·exact ZT xo (wH ih xo _ (bK (by simp; omega) hsz) ‹_›)
  ·exact aS
 | Dict ks vs p=>exact aS
 | BinOp a op b p =>
  exact YJ xo (ih _ _ xo _ (bK (by simp; omega) hsz)) (ih _ _ xo _ (bK (by simp; omega) hsz))
 | UnaryOp op a p =>
  cases op with
  | Not =>
   exact aAi xo (ih _ _ xo _ (bK (by simp; omega) hsz))
  | USub =>
   exact K6 xo (ih _ _ xo _ (bK (by simp; omega) hsz))
  | _=>exact aS
 | Compare a ops cs p =>
  obtain _ | ⟨op,_ | ⟨op',_ | ⟨_,_⟩⟩⟩:=ops
  ·exact aS
  ·obtain _ | ⟨b,_ | ⟨_,_⟩⟩:=cs
   ·exact aS
   ·show Ok3 X K P C _ (if behindInMarks op b then .bad else .cmp op (cE Γ a) (cE Γ b));split
    ·exact aS
    ·exact aAm xo (ih _ _ xo _ (bK (by simp; omega) hsz)) (ih _ _ xo _ (bK (by simp; omega) hsz)) (by rename_i h; simpa using h)
   ·exact aS
  ·obtain _ | ⟨b,_ | ⟨c,_ | ⟨_,_⟩⟩⟩:=cs
   ·exact aS
   ·exact aS
   ·show Ok3 X K P C _ (if behindInMarks op' c then .bad else .cmp2 op op' (cE Γ a) (cE Γ b) (cE Γ c));split
    ·exact aS
    ·exact TH xo (ih _ _ xo _ (bK (by simp; omega) hsz)) (ih _ _ xo _ (bK (by simp; omega) hsz)) (ih _ _ xo _ (bK (by simp; omega) hsz)) (by rename_i h; simpa using h)
   ·exact aS
  ·exact aS
 | BoolOp op vs p =>
  obtain _ | ⟨a,_ | ⟨b,r⟩⟩:=vs
  ·cases op <;> exact aS
  ·cases op <;> exact aS
  ·cases op with
   | And =>
    exact (GR (ih _ _ xo _ (bK (by simp; omega) hsz)) (R4 ih xo _ (bK (by simp; omega) hsz) (by simp))).ok3 fun i z=>nomatch z
   | Or =>
    exact (MP (ih _ _ xo _ (bK (by simp; omega) hsz)) (aAu ih xo _ (bK (by simp; omega) hsz) (by simp))).ok3 fun i z=>nomatch z
 | IfExp c a b p =>
  exact aS
 | Subscript a i p =>
  rcases R5 Γ a i p with ⟨lo,hi,q,rfl⟩ | ⟨hn,e⟩
  ·exact aDJ xo (ih _ _ xo _ (bK (by simp; omega) hsz)) (o_n ih xo _ (bK (by simp; omega) hsz)) (o_n ih xo _ (bK (by simp; omega) hsz))
  ·rw [e];split
   ·rename_i hr;obtain ⟨k,p1,p2,p3,rfl⟩:=L6 hr;exact YW xo (ih _ _ xo _ (bK (by simp; omega) hsz))
   ·exact aCr xo (ih _ _ xo _ (bK (by simp; omega) hsz)) (ih _ _ xo _ (bK (by simp; omega) hsz)) (GY hn)
 | Call fn args kw pos =>
  cases fn with
  | Name f p =>
   cases kw with
   | nil =>
    show Ok3 X K P C _ (if args.all aW && decide (args≠[]) then (match Γ.glob f with | .fn g=>.call g (bT Γ args) | .cls ns=>.make f ns (bT Γ args) | .blt=>if f=("isinstance":Str) then vL Γ args (bT Γ args) else v9 f args (bT Γ args) | _=>.bad) else .bad);split
    ·rename_i hc;rw [Bool.and_eq_true] at hc;obtain ⟨ns,ne⟩:=hc
     cases args with
     | nil=>simp at ne
     | cons a r =>
      split
      ·rename_i g hg;exact TN xo hg ns (nG ih xo _ (bK (by simp; omega) hsz) ns)
      ·rename_i g hg;exact VX xo hg ns (wH ih xo _ (bK (by simp; omega) hsz) ns)
      ·rename_i hg;split
       ·rename_i hf;subst hf;unfold vL;split
        ·rename_i t a' _ e1 e2;split
         ·rename_i ty hty;simp only [bT,List.cons.injEq] at e1 e2;obtain ⟨rfl,rfl⟩:=e1;obtain ⟨rfl,_⟩:=e2;rw [List.all_cons,Bool.and_eq_true] at ns;exact aAR xo hg hty ns.1 (ih _ _ xo _ (bK (by simp; omega) hsz))
         ·simp only [bT,List.cons.injEq] at e1 e2;obtain ⟨rfl,rfl⟩:=e1;obtain ⟨rfl,_⟩:=e2;rw [List.all_cons,Bool.and_eq_true] at ns
          (unfold HI; repeat' split) <;> exact aS
        ·exact aS
       ·unfold v9;split
        ·rename_i hf2;subst hf2;exact DY xo hg (b:=.len) rfl ns (nG ih xo _ (bK (by simp; omega) hsz) ns)
        ·split
         ·exact aS
         ·split
          ·exact aS
          ·split
           ·rename_i hf2;subst hf2;exact DY xo hg (b:=.list) rfl ns (nG ih xo _ (bK (by simp; omega) hsz) ns)
           ·split
            ·rename_i b hb;exact DY xo hg hb ns (nG ih xo _ (bK (by simp; omega) hsz) ns)
            ·exact aS
      ·exact aS
    ·exact aS
   | cons _ _=>exact aS
  | Attribute o m apos =>
   cases o with
   | Name x p =>
    cases kw with
    | nil =>
     show Ok3 X K P C _ (CA Γ x m apos pos args (bT Γ args));unfold CA;split
     ·rename_i tb hm;split
      ·rename_i hc;rw [Bool.and_eq_true,Bool.and_eq_true] at hc;obtain ⟨⟨ns,hl⟩,hf⟩:=hc;split
       ·exact WQ xo ‹_› hm ns hl (of_decide_eq_true hf) (nG ih xo _ (bK (by simp; omega) hsz) ns) fun z=>by rw [z,bT]
       ·exact aS
      ·exact aS
     ·split
      ·rename_i a c hcs;split
       ·rename_i hc;rw [Bool.and_eq_true,Bool.and_eq_true] at hc;obtain ⟨⟨ns,hl⟩,hm⟩:=hc;have hm:=eq_of_beq hm;subst hm;split
        ·simp only [bT,List.cons.injEq] at hcs;obtain ⟨rfl,_⟩:=hcs;exact aA8 xo ‹_› hl ns (ih _ _ xo _ (bK (by simp; omega) hsz))
        ·exact aS
       ·split
        ·rename_i hc;rw [Bool.and_eq_true,Bool.and_eq_true] at hc;obtain ⟨⟨ns,hl⟩,hm⟩:=hc;have hm:=eq_of_beq hm;subst hm;split
         ·simp only [bT,List.cons.injEq] at hcs;obtain ⟨rfl,_⟩:=hcs;exact aBt xo ‹_› hl ns (ih _ _ xo _ (bK (by simp; omega) hsz))
         ·exact aS
        ·exact aS
      ·split
       ·rename_i hc;rw [Bool.and_eq_true] at hc;obtain ⟨hl,hm⟩:=hc;have hm:=eq_of_beq hm;subst hm;exact aS
       ·exact aS
      ·rename_i a b c c' hcs;split
       ·rename_i hc;rw [Bool.and_eq_true,Bool.and_eq_true,Bool.and_eq_true] at hc;obtain ⟨⟨⟨ns,ns2⟩,hl⟩,hm⟩:=hc;have hm:=eq_of_beq hm;subst hm;split
        ·simp only [bT,List.cons.injEq] at hcs;obtain ⟨rfl,rfl,_⟩:=hcs;exact aS
        ·exact aS
       ·exact aS
      ·exact aS
    | cons _ _=>exact aS
   | Call g as kw2 p2 =>
    cases as with
    | nil=>exact aS
    | cons a0 as0 =>
     cases kw with
     | nil =>
      show Ok3 X K P C _ (wV Γ m apos pos args (cE Γ (.Call g (a0 :: as0) kw2 p2)) (bT Γ args));unfold wV;split
      ·rename_i tb hm;split
       ·rename_i hc;rw [Bool.and_eq_true,Bool.and_eq_true] at hc;exact aS
       ·exact aS
      ·exact aS
     | cons _ _=>exact aS
   | _=>exact aS
  | _=>exact aS
 | Attribute o f p =>
  cases o with
  | Name x q =>
   exact aAK xo
  | _=>exact aS
 | ListComp elt gs scope pos =>
  obtain _ | ⟨⟨tg,iter,ifs,m⟩,_ | ⟨_,_⟩⟩:=gs
  ·exact aS
  ·obtain _ | ⟨c,_ | ⟨_,_⟩⟩:=ifs <;> obtain (_ | _) | _:=m
   ·exact (mZ xo (ih _ _ xo _ (bK (by simp; omega) hsz)) (D5 ih xo _ (bK (by simp; omega) hsz)) (fun X' xo'=>ih _ _ xo' _ (bK (by simp; omega) hsz)) (fun X' xo'=>pU)).1
   ·exact aS
   ·exact aS
   ·exact (mZ xo (ih _ _ xo _ (bK (by simp; omega) hsz)) (D5 ih xo _ (bK (by simp; omega) hsz)) (fun X' xo'=>ih _ _ xo' _ (bK (by simp; omega) hsz)) (fun X' xo'=>pW (ih _ _ xo' _ (bK (by simp; omega) hsz)))).1
   all_goals exact aS
  ·obtain _ | ⟨c,_ | ⟨_,_⟩⟩:=ifs <;> obtain (_ | _) | _:=m <;> exact aS
 | _=>exact aS
theorem o5 {K:PySem.W.Frag} {P:aK} {C:Calls}:∀ n:Nat,zO K P C n
 | 0=>fun _ _ _ _ h=>absurd h (Nat.not_lt_zero _)
 | n+1=>fun _ _ xo e h=>V8 (o5 n) xo e h
section
variable {X:Cx} {K:PySem.W.Frag} {P:aK} {C:Calls} {Γ:CC}
theorem cL (xo:bA X K P C Γ) (e:Expr):Ok3 X K P C e (cE Γ e):=o5 _ _ _ xo e (Nat.lt_succ_self _)
theorem j9 (xo:bA X K P C Γ) (e:Expr):ArgsOk X K P C e (BL Γ e):=D5 (o5 _) xo e (Nat.lt_succ_self _)
theorem T4 (xo:bA X K P C Γ) (es:List Expr) (h:es.all aW=true):PA X es (AH K P C (bT Γ es)):=wH (o5 _) xo es (Nat.lt_succ_self _) h
theorem n6 (xo:bA X K P C Γ) (es:List Expr) (h:es.all aW=true):PA X es (mX K P C (bT Γ es)):=nG (o5 _) xo es (Nat.lt_succ_self _) h
end
theorem X9 {X:Cx} {K:PySem.W.Frag} {P:aK} {C:Calls} {Γ:CC} (xo:bA X K P C Γ) (e:Expr) (h:DJ e=true):FR X K P C e (cE Γ e):=by
 cases e <;> simp only [DJ,Bool.false_eq_true] at h;rename_i elt gs scope pos;obtain _ | ⟨⟨tg,iter,ifs,n⟩,_ | ⟨_,_⟩⟩:=gs
 ·exact lY
 ·obtain _ | ⟨c,_ | ⟨_,_⟩⟩:=ifs <;> obtain (_ | _) | _:=n
  ·exact (mZ xo (cL xo iter) (j9 xo iter) (fun X' xo'=>cL xo' elt) (fun X' xo'=>pU)).2
  ·exact lY
  ·exact lY
  ·exact (mZ xo (cL xo iter) (j9 xo iter) (fun X' xo'=>cL xo' elt) (fun X' xo'=>pW (cL xo' c))).2
  all_goals exact lY
 ·obtain _ | ⟨c,_ | ⟨_,_⟩⟩:=ifs <;> obtain (_ | _) | _:=n <;> exact lY
section
variable {X:Cx} {K:PySem.W.Frag} {P:aK} {C:Calls} {W:Nat} {Γ:CC}
def C2 (X:Cx) (K:PySem.W.Frag) (ρ:Env) (σ:St) (H G:Hp) (ρ':Env) (x:Exc):Prop:=∀ pins σ' H' G' s' a Ca,AftS K ρ σ H G ρ' σ' H' G'→Inv X pins σ' H' s'→mH X pins H' s'.heap a Ca→PySem.W.nsIn K mainGlobals x.cls=some (some (.ref Ca))→ExcG K Ca→X.xe (.ref a) s'
theorem C2.pre {ρ ρ1 ρ':Env} {σ σ1:St} {H G H1 G1:Hp} {x:Exc} (a:AftS K ρ σ H G ρ1 σ1 H1 G1) (h:C2 X K ρ σ H G ρ' x):C2 X K ρ1 σ1 H1 G1 ρ' x:=fun pins σ' H' G' s' b Ca q=>h pins σ' H' G' s' b Ca (a.trans q)
noncomputable def mC (X:Cx) (K:PySem.W.Frag) (P:aK) (C:Calls) (c:E):TE:=fun σ H _=>∃ ρ G x ρ',Rel K ρ σ H G∧iS P C c ρ=some (x,ρ')∧C2 X K ρ σ H G ρ' x
noncomputable def aER (X:Cx) (K:PySem.W.Frag) (P:aK) (C:Calls) (cs:List E):TA:=fun σ H _=>∃ ρ G x ρ',Rel K ρ σ H G∧pP P C cs ρ=some (x,ρ')∧C2 X K ρ σ H G ρ' x
noncomputable def rG (X:Cx) (K:PySem.W.Frag) (P:aK) (C:Calls) (W:Nat) (c:S):TS:=fun _ σ H=>∃ ρ G x ρ',Rel K ρ σ H G∧fJ P C W c ρ=some (x,ρ')∧C2 X K ρ σ H G ρ' x
noncomputable def aBr (X:Cx) (K:PySem.W.Frag) (P:aK) (C:Calls) (W:Nat) (c:List S):TS:=fun _ σ H=>∃ ρ G x ρ',Rel K ρ σ H G∧hU P C W c ρ=some (x,ρ')∧C2 X K ρ σ H G ρ' x
theorem BJ {e:Expr} {t u:TE} (h1:PE X e t) (h2:PE X e u):PE X e (fun σ H Q=>t σ H Q∨u σ H Q):=fun pins s σ H Q I q=>q.elim (h1 pins s σ H Q I) (h2 pins s σ H Q I)
theorem aB2 {st:Stmt} {t u:TS} (h1:PS X st t) (h2:PS X st u):PS X st (fun D σ H=>t D σ H∨u D σ H):=fun pins s σ H D I q=>q.elim (h1 pins s σ H D I) (h2 pins s σ H D I)
end
section
variable {X:Cx} {pins:List (Addr × Obj)} {σ:L2.St} {H:Hp} {s:Shared}
theorem JO {v:Value} {e1 e2:PySem.Env} (h:e1.frame=e2.frame):noteFrame v e1=noteFrame v e2:=by
 unfold noteFrame PySem.frameOf;rw [h]
def aAT (X:Cx) (E:Hp→Addr→Prop):Prop:=∀ pins σ H s a C,Inv X pins σ H s→mH X pins H s.heap a C→E H C→X.xe (.ref a) s
def YB (X:Cx) (E:Hp→Addr→Prop) (N:List Str) (scope:Scope) (N':List Str) (g:TG) (tt:TT) (te:Cx→TE) (σ:L2.St) (Q:VK) (J:It) (H1:Hp):Prop:=∃ vs:List V,vs.length≤N'.length ∧
 (∀ (i:Nat) x v,N'[i]?=some x→vs[i]?=some v→∃ j:Nat,N[j]?=some x∧σ[j]?=some (some v)∧scope.names.lookup x=some .free) ∧
 ∀ D,H1 D=none→∀ X',eC X scope N' X'→aAT X' E→∃ (n:Nat) (LP:Nat→L2.St→Hp→Prop),LP 0 (b0 N' vs) (aV H1 D (.lst []))∧∀ i σ' H',LP i σ' H' →
  (J.stop i H'∧Q (.ref D) H')∨(i<n∧J.go i H'∧∀ x H2,J.yld i H' x H2→g x σ' H2 fun σ2 H3=>tt σ2 H3 fun b H4 =>
   if b=true then te X' σ2 H4 fun y H5=>∃ ys,H5 D=some (.lst ys)∧ys.length<sizeLine∧LP (i+1) σ2 (aV H5 D (.lst (ys ++ [y]))) else LP (i+1) σ2 H4)
noncomputable def CL (X:Cx) (E:Hp→Addr→Prop) (N:List Str) (scope:Scope) (N':List Str) (wi:TI) (g:TG) (tt:TT) (te:Cx→TE):TE:=fun σ H Q=>wi σ H (YB X E N scope N' g tt te σ Q)
theorem wQ {E:Hp→Addr→Prop} {use:Option (Value→Sem Unit)} {QF:Value→Shared→Prop} {ps:Pos} {Q:VK} {elt tg iter:Expr} {ifs:List Expr} {scope:Scope} {pos:Pos} {N':List Str} {wi:TI} {g:TG} {tt:TT} {te:Cx→TE} (hc:X.calm=true) (tp:∃ env0 outer0 L,X.stack=env0 :: outer0∧env0.frame=some L∧X.env.frame=some L) (hi:PI X tg iter wi) (hs:∀ x,foldedSetIterable iter X.env x=pure x)
  (hkind:scope.kind=.function) (hcell:∀ y∈scope.names,y.2≠.cell) (hnames:∀ x∈scope.names,x.2=.local→scope.names.lookup x.1=some .local)
  (hfk:∀ p∈scope.names,p.2=.free→X.env.kindOf p.1=some .cell∨X.env.kindOf p.1=some .free)
  (hg:∀ X',eC X scope N' X'→PG X' tg g) (ht:∀ X',eC X scope N' X'→lG X' ifs tt) (he:∀ X',eC X scope N' X'→PE X' elt (te X')) (I:Inv X pins σ H s) (h:CL X E X.N scope N' wi g tt te σ H Q)
  (hE:∀ H' s' a C,Inv X pins σ H' s'→mH X pins H' s'.heap a C→E H' C→X.xe (.ref a) s')
  (fin:∀ (D C:Addr) (H':Hp) (s':Shared),Inv X pins σ H' s'→Q (.ref D) H'→H' C=none→X.s₀.heap.objs.size≤C→C≠X.env.locals→(∀ x c,X.env.cells.lookup x=some c→c≠C)→(∀ p∈X.pn ++ pins,p.1≠C)→(∃ m,s'.heap.Ns C m) →
   compPost (model X.prog X.w) X.A X.xe use QF (.ref D) C (.ok .next) s') :
  wpAny (model X.prog X.w) X.A (comprehension (.ListComp elt [⟨tg,iter,ifs,0⟩] scope pos) scope X.env ps (newList []) false (eval iter X.env) use) QF X.xe s:=by
 obtain ⟨cl,hclos,sub,hasF⟩:=GI (env:=X.env) (scope:=scope) fun p hp hf=>I.ok.has p.1 (hfk p hp hf)
 refine wpAny_comprehension_free (use:=use) rfl hs hclos hkind hnames (a6 (hi pins s σ H _ I h) fun v s1 h1=>a6 h1 fun itv s2 h2=>?_);obtain ⟨it,fp,tn,J,H2,e,I2,T,st2,f2,vs,hvl,himp,hD⟩:=h2;subst e
 have fpl:∀ b∈fp,b<s2.heap.objs.size:=fun b hb=>by
  obtain ⟨o,e,_⟩:=T.obj _ _ st2 b hb;exact Heap.lt_size e
 refine wpAny_newObj_type (wpAny_newFunctionEnv hcell (by intro y hy; simp at hy) (fun h₁ hns₁ hsb₁=>?_) hkind);dsimp only at hns₁ hsb₁ ⊢;have I3:Inv X pins σ (aV H2 s2.heap.objs.size (.lst [])) { s2 with heap:=s2.heap.push { cls:=.type "list",dict:=none,data:=.seq ([]:List Value).toArray } }:=I2.lnew (its:=[]) (t':=s2.toks) .nil (Nat.zero_le _);have fresh:=I2.fresh;generalize hs3:({ s2 with heap:=s2.heap.push { cls:=.type "list",dict:=none,data:=.seq ([]:List Value).toArray } }:Shared)=s3 at I3;have hh3:s3.heap=s2.heap.push { cls:=.type "list",dict:=none,data:=.seq ([]:List Value).toArray }:=by rw [← hs3]
 rw [← hh3] at hns₁ hsb₁ ⊢;have f3:∀ b∈fp,cR X pins (aV H2 s2.heap.objs.size (.lst [])) b:=fun b hb=>⟨by rw [aN (Nat.ne_of_lt (fpl b hb))]; exact (f2 b hb).1,(f2 b hb).2⟩
 have fpl3:∀ b∈fp,b<s3.heap.objs.size:=fun b hb=>by rw [hh3,Heap.size_push]; exact Nat.lt_succ_of_lt (fpl b hb)
 let R:Result→Shared→Prop:=compPost (model X.prog X.w) X.A X.xe use QF (.ref s2.heap.objs.size) s3.heap.objs.size
 let X':Cx:=J8 X scope cl s3.heap.objs.size N' s3 (aV H2 s2.heap.objs.size (.lst [])) fp (notedBy (model X.prog X.w) X.A (compEnvC scope cl s3.heap.objs.size X.env) fun e s'=>R (.error e) s')
 have hX':eC X scope N' X':=⟨_,_,_,_,_,_,rfl⟩
 have cC:s3.heap.objs.size≠X.env.locals∧(∀ x c,X.env.cells.lookup x=some c→c≠s3.heap.objs.size)∧∀ p∈X.pn ++ pins,p.1≠s3.heap.objs.size:=by
  refine ⟨fun z=>Nat.lt_irrefl _ (Nat.lt_of_lt_of_le I3.lt (Nat.le_of_eq z)),fun x c e z=>?_,fun p hp z=>?_⟩
  ·obtain ⟨v,o,ho,hd⟩:=I3.cell x c e;rw [z] at ho;exact Nat.lt_irrefl _ (Heap.lt_size ho)
  ·have:=(I3.pin p hp).1
   rw [z] at this;exact Nat.lt_irrefl _ (Heap.lt_size this)
 have out:∀ {pi:List (Addr × Obj)} {σ':L2.St} {H':Hp} {s':Shared},Inv X' pi σ' H' s'→Inv X pins σ H' s':=fun {pi σ' H' s'} I6=>I3.call' (s':=s') (ch:=fp) I6.os I6.base I6.hok I6.bare fun b hb=>⟨(f2 b hb).2.2.2.1,(f2 b hb).2.1,(f2 b hb).2.2.2.2.1,(f2 b hb).2.2.2.2.2⟩
 have outF:∀ {pi:List (Addr × Obj)} {H':Hp} {b:Addr},cR X' pi H' b→cR X pins H' b∧b≠s3.heap.objs.size:=fun {pi H' b} F=>by
  refine ⟨?_,F.2.1⟩;rcases F.2.2.2.1 with z | z
  ·exact ⟨F.1,(f2 b z).2⟩
  ·exact sA I3 z F.1
 have xe:aAT X' E:=by
  intro pi σ' H' s' a C I6 F6 e6;obtain ⟨env0,outer0,L,tp1,tp2,tp3⟩:=tp;show wpAny _ _ (noteFrame (.ref a) (compEnvC scope cl s3.heap.objs.size X.env)) _ _ s';rw [JO (show (compEnvC scope cl s3.heap.objs.size X.env).frame=env0.frame from tp3.trans tp2.symm)];refine yK (X:=X') I6 (env:=env0) (outer:=outer0) (L:=L) tp1 tp2 F6 fun h' I7 F7=>?_
  obtain ⟨m7,hn7,_⟩:=I7.loc;refine ⟨m7,hn7,fun h8 sb cenv hcl=>?_⟩;obtain ⟨fa,na⟩:=outF F6.1;have I8:=(out I7).turned (h':=h8) (t':=s'.toks) (fun b o hb e=>(sb.2 b hb).trans e) I7.free cC.1 (.inr (Heap.get?_none_of_le I3.sz)) cC.2.1 cC.2.2;obtain ⟨oe,vs,a0,T,oT,ts,k1,k2,k3,k4,fT,k5,k6,k7,k8,k9⟩:=F7;obtain ⟨fT',nT⟩:=outF fT;have F8:xN X pins H' h8 a C (rawInt L):=⟨oe,vs,a0,T,oT,ts,(sb.2 a na).trans k1,k2,k3,k4,fT',k5,k6,(sb.2 T nT).trans k7,k8,k9⟩
  exact SY I8 fa F8 fun h9 fl9 I9 F9=>hE H' _ a C I9 ⟨fa,.inr ⟨fl9,F9⟩⟩ e6
 obtain ⟨n,LP,l0,turn⟩:=hD s2.heap.objs.size fresh X' hX' xe;have I4:∀ tk,Inv X' [] (b0 N' vs) (aV H2 s2.heap.objs.size (.lst [])) { s3 with heap:=h₁,toks:=tk }:=fun tk=>I3.block hkind hcell sub hasF hfk f3 fpl3 hvl himp _ hns₁ hsb₁
 have old:∀ b o,s3.heap.get? b=some o→h₁.get? b=some o:=fun b o e=>(hsb₁.2 b (Nat.ne_of_lt (Heap.lt_size e))).trans (Heap.get?_push_of_some _ e)
 have st4:tn 0 h₁:=T.keep _ _ _ st2 fun b hb o e=>old b o (by rw [hh3]; exact Heap.get?_push_of_some _ e)
 have stat:∀ {H':Hp},(∀ b∈fp,H' b=none)→∀ b∈fp,cR X' [] H' b:=fun hn b hb=>⟨hn b hb,Nat.ne_of_lt (fpl3 b hb),fun z=>by
  rcases List.mem_cons.mp (I3.stkSub b z) with z | z
  ·exact (f2 b hb).2.1 z
  ·exact (f2 b hb).2.2.1 z,.inl hb,fun x c e=>(f2 b hb).2.2.2.2.1 x c (sub x c e),fun p hp=>(nomatch hp)⟩
 have loop:∀ tk,codeAny (model X.prog X.w) X.A (.compLoop (.ListComp elt [⟨tg,iter,ifs,0⟩] scope pos) 0 (.ref it) (.ref s2.heap.objs.size) (compEnvC scope cl s3.heap.objs.size X.env)) R { s3 with heap:=h₁,toks:=tk }:=by
  intro tk;refine sP (fun m s'=>∃ i σ' H',m=n - i∧Inv X' [] σ' H' s'∧tn i s'.heap∧(∀ b∈fp,H' b=none)∧LP i σ' H') ?_ n ⟨0,_,_,by simp,I4 tk,st4,fun b hb=>(f3 b hb).1,l0⟩
  rintro m s5 ⟨i,σ5,H5,rfl,I5,st5,fr5,w5⟩
  rcases turn i σ5 H5 w5 with ⟨stop,qn⟩ | ⟨hin,go,step⟩
  ·refine a6 (T.done X' rfl rfl rfl hc i [] s5 σ5 H5 _ I5 (stat fr5) st5 stop) fun r s6 ⟨hr,I6⟩=>?_
   subst hr;obtain ⟨m6,hn6,_⟩:=I6.loc;exact fin _ _ H5 s6 (out I6) qn I6.free I3.sz cC.1 cC.2.1 cC.2.2 ⟨m6,hn6⟩
  ·refine a6 (T.item X' rfl rfl rfl hc i [] s5 σ5 H5 _ I5 (stat fr5) st5 go) fun r s6 ⟨u,hr,h6⟩=>?_
   subst hr;refine a6 h6 fun _ s7 ⟨x,H7,I7,r7,y7,st7,fr7⟩=>?_
   have I7':=I7.pinned (stat fr7) (T.obj _ _ st7)
   have again:∀ {σ8:L2.St} {H8:Hp} {s8:Shared},Inv X' ([] ++ nX fp s7.heap) σ8 H8 s8→LP (i+1) σ8 H8→∃ m,m<n - i∧∃ i σ' H',m=n - i∧Inv X' [] σ' H' s8∧tn i s8.heap∧(∀ b∈fp,H' b=none)∧LP i σ' H':=fun {σ8 H8 s8} I8 w8=>by
    refine ⟨n - (i+1),by omega,i+1,σ8,H8,rfl,I8.unpinned,T.keep _ _ _ st7 fun b hb o e=>(I8.pin (b,o) (List.mem_append_right _ (List.mem_append_right _ (iF hb e)))).1,fun b hb=>?_,w8⟩;obtain ⟨o,e,d⟩:=T.obj _ _ st7 b hb;exact (I8.pin (b,o) (List.mem_append_right _ (List.mem_append_right _ (iF hb e)))).2.1
   refine a6 (hg X' hX' _ s7 σ5 H7 x u _ I7' r7 (step x H7 y7)) fun _ s8 ⟨σ8,H8,I8,q8⟩=>?_
   refine a6 (ht X' hX' _ s8 σ8 H8 _ I8 q8) fun b s9 ⟨H9,I9,q9⟩=>?_
   cases b with
   | false=>exact again I9 q9
   | true =>
    refine a6 (he X' hX' _ s9 σ8 H9 _ I9 q9) fun y s10 ⟨yv,H10,I10,r10,ys,hy,hz,q10⟩=>?_
    refine a6 (sJ (X:=X') _ s10 σ8 H10 (.ref s2.heap.objs.size) [yv] (.ref s2.heap.objs.size) [y] (fun _ H'=>LP (i+1) σ8 H') I10 rfl (.cons r10 .nil) ⟨_,ys,yv,rfl,rfl,hy,hz,q10⟩) fun _ s11 ⟨_,H11,I11,_,q11⟩=>?_
    exact again I11 q11
 subst hs3;exact codeAny_compStart_list (loop _) (T.self _ 0 _ _ _ st4 (loop _))
noncomputable def ZN (X:Cx) (N:List Str) (scope:Scope) (N':List Str) (wi:TI) (g:TG) (tt:TT) (te:Cx→TE):TE:=fun σ H Q=>∃ E:Hp→Addr→Prop,CL X E N scope N' wi g tt te σ H Q∧∀ pins H' s' a C,Inv X pins σ H' s'→mH X pins H' s'.heap a C→E H' C→X.xe (.ref a) s'
theorem NY {elt tg iter:Expr} {ifs:List Expr} {scope:Scope} {pos:Pos} {N':List Str} {wi:TI} {g:TG} {tt:TT} {te:Cx→TE} (hc:X.calm=true) (tp:∃ env0 outer0 L,X.stack=env0 :: outer0∧env0.frame=some L∧X.env.frame=some L) (hi:PI X tg iter wi) (hs:∀ x,foldedSetIterable iter X.env x=pure x)
  (hkind:scope.kind=.function) (hcell:∀ y∈scope.names,y.2≠.cell) (hnames:∀ x∈scope.names,x.2=.local→scope.names.lookup x.1=some .local)
  (hfk:∀ p∈scope.names,p.2=.free→X.env.kindOf p.1=some .cell∨X.env.kindOf p.1=some .free)
  (hg:∀ X',eC X scope N' X'→PG X' tg g) (ht:∀ X',eC X scope N' X'→lG X' ifs tt) (he:∀ X',eC X scope N' X'→PE X' elt (te X')) :
  PE X (.ListComp elt [⟨tg,iter,ifs,0⟩] scope pos) (ZN X X.N scope N' wi g tt te):=by
 intro pins s σ H Q I ⟨E,h,hE⟩;rw [eval_ListComp];refine wQ (use:=none) (QF:=EP X pins σ Q) hc tp hi hs hkind hcell hnames hfk hg ht he I h (hE pins) fun D C H' s' I' q hC hz hL hcl hp hm=>?_
 obtain ⟨m,hm⟩:=hm;refine ⟨m,hm,fun h' sb=>⟨.ref D,H',I'.turned (t':=s'.toks) (fun b o hb e=>(sb.2 b hb).trans e) hC hL (.inr (Heap.get?_none_of_le hz)) hcl hp,rfl,q⟩⟩
theorem OL {elt tg iter:Expr} {ifs:List Expr} {scope:Scope} {pos py spos:Pos} {y:Str} {i:Nat} {N':List Str} {wi:TI} {g:TG} {tt:TT} {te:Cx→TE} (hsw:swapsWith (.ListComp elt [⟨tg,iter,ifs,0⟩] scope pos) (some (.Name y py)) spos.line X.env=pure true)
  (hN:X.N.Nodup) (hy:X.N[i]?=some y) (hx:rQ X.env.scope y) (hf:X.fn y=true∨X.env.scope.names.lookup y=some .local) (hc:X.calm=true) (tp:∃ env0 outer0 L,X.stack=env0 :: outer0∧env0.frame=some L∧X.env.frame=some L) (hi:PI X tg iter wi) (hs:∀ x,foldedSetIterable iter X.env x=pure x)
  (hkind:scope.kind=.function) (hcell:∀ y∈scope.names,y.2≠.cell) (hnames:∀ x∈scope.names,x.2=.local→scope.names.lookup x.1=some .local)
  (hfk:∀ p∈scope.names,p.2=.free→X.env.kindOf p.1=some .cell∨X.env.kindOf p.1=some .free)
  (hg:∀ X',eC X scope N' X'→PG X' tg g) (ht:∀ X',eC X scope N' X'→lG X' ifs tt) (he:∀ X',eC X scope N' X'→PE X' elt (te X')) :
  PS X (.Assign [.Name y py] (.ListComp elt [⟨tg,iter,ifs,0⟩] scope pos) spos) (yY (ZN X X.N scope N' wi g tt te) (lN i)):=by
 intro pins s σ H D0 I ⟨E,h,hE⟩;rw [exec_Assign_Name_used _ _ _ _ hsw];refine wpAny_bind (wpAny_standAt (wpAny_bind ?_));show wpAny _ X.A (do let _ ← comprehension (.ListComp elt [⟨tg,iter,ifs,0⟩] scope pos) scope X.env _ (newList []) false (eval iter X.env) (some (assign (.Name y py) X.env))) _ _ s;refine wpAny_bind (wpAny_mono (wQ (use:=some (assign (.Name y py) X.env)) (QF:=fun _ s'=>SP X pins D0 .next s') hc tp hi hs hkind hcell hnames hfk hg ht he I h (hE pins) fun D C H' s' I' q hC hz hL hcl hp hm=>?_) (fun _ s' hq=>wpAny_pure (wpAny_pure hq)) fun _ _ e=>e);obtain ⟨m,hm⟩:=hm;refine wpAny_assign_Name (sW I' hN hy hx (v:=.ref D) rfl (fun s2 I2 ⟨a,sb,ha⟩=>?_) hf)
 have hne:a≠C:=by
  rcases ha with rfl | ha
  ·exact Ne.symm hL
  ·exact hcl _ _ ha
 refine ⟨m,hm.sameBut sb (Ne.symm hne),fun h' sb2=>⟨_,H',I2.turned (t':=s2.toks) (fun b o hb e=>(sb2.2 b hb).trans e) hC hL (.inr (Heap.get?_none_of_le hz)) hcl hp,q⟩⟩
end
section
variable {K:PySem.W.Frag} {ρ0 ρ:Env} {σ:St} {H0 G0 H G:Hp}
theorem HD {pins:List Bool} {f:List Sl→aE RV} {hs:List Hd} {xs:List V} {x:Exc} {ρ':Env} (a:Aft K ρ0 σ H0 G0 ρ H G) (h:cV K H G (aL ρ σ) (dU H0) σ hs xs) (e:bZ pins f hs ρ=some (.ex x,ρ')) :
  ∃ as G2 as',Rel K as (xs.map some) H G2∧as.length=pins.length∧f as=some (.ex x,as')∧(aM G G2∧∀ c,aL as (xs.map some) c→aL ρ σ c∨lK hs xs c)∧∀ H' G',Aft K as (xs.map some) H G2 as' H' G'→Aft K ρ0 σ H0 G0 ρ' H' G':=by
 have e':bZ pins (fun as=>yS x (f as)) hs ρ=some (.ok (.sh .non),ρ'):=by
  unfold bZ at e ⊢
  cases q:bE pins hs ρ with
  | none=>rw [q] at e; cases e
  | some y =>
   obtain ⟨as,ρ1⟩:=y;rw [q] at e;simp only at e ⊢
   cases q2:f as with
   | none=>rw [q2] at e; cases e
   | some y =>
    obtain ⟨o,as'⟩:=y;rw [q2] at e;simp only at e
    cases q3:aR pins hs as' ρ ρ1 with
    | none=>rw [q3] at e; cases e
    | some ρ2 =>
     rw [q3] at e;simp only [Option.map_some,Option.some.injEq,Prod.mk.injEq] at e;obtain ⟨rfl,rfl⟩:=e;have z:yS x (some (.ex x,as'))=some (.ok (.sh .non),as'):=if_pos rfl;rw [z];simp only [q3,Option.map_some]
 obtain ⟨as,G2,as',h1,h2,h3,h5,h4⟩:=kP a h e';exact ⟨as,G2,as',h1,h2,CO h3,h5,fun H' G' b=>(h4 .non H' G' b (by show aD K G' .non _; simp [aD])).1⟩
end
section
variable {X:Cx} {K:PySem.W.Frag} {P:aK} {C:Calls} {Γ:CC}
theorem zN (xo:bA X K P C Γ) {scope:Scope} {ce:E} {k0:ItK} {its cond:List E} {imp is:List Nat} {wi:TI} (sc:ScOk Γ scope) (himp:Γ.imps (dS scope)=some imp)
  (hw:∀ σ H (R:It→Hp→Prop),LM K P C k0 its σ H R→wi σ H R)
  {σ:St} {H:Hp} {Q:VK} (h:mC X K P C (.comp ce is k0 its cond imp (dG scope).length) σ H Q):ZN X X.N scope (Γ.inner scope).N wi (gB K (is.length == 1) is) (qY K P C cond) (fun X' σ H Q=>tE K P C ce σ H Q∨mC X' K P C ce σ H Q) σ H Q:=by
 obtain ⟨ρ,G,x,ρ',r,e,k⟩:=h;simp only [iS] at e;split at e
 case h_2=>cases e
 rename_i hs' ρ1 e1;split at e
 ·cases e
 rename_i ds o q;unfold BS at e;split at e
 case h_2=>cases e
 rename_i x2 ρ2 e3
 cases q3:dB o ρ1 ρ2 with
 | none=>rw [q3] at e; cases e
 | some ρ3 =>
  rw [q3] at e;simp only [Option.map_some,Option.some.injEq,Prod.mk.injEq] at e;obtain ⟨rfl,rfl⟩:=e;refine ⟨fun H' Ca=>∃ Gc,Aft K ρ σ H G ρ3 H' Gc∧PySem.W.nsIn K mainGlobals x2.cls=some (some (.ref Ca))∧ExcG K Ca, ?_,fun pins H' s' a Ca I' F' ⟨Gc,aft,hn,hg⟩=>k pins σ H' Gc s' a Ca (Aft.s r aft) I' F' hn hg⟩;unfold CL;refine hw σ H _ ⟨ρ,G,hs',ρ1,ds,o,r,e1,q,fun H1 G1 a1 ho=>?_⟩;have R0:=(kJ (o:=o) a1.rel).1
  have hld:∃ as ρ4,bE (imp.map fun _=>true) (imp.map Hd.slot) (aO o ρ1)=some (as,ρ4):=by
   unfold bZ at e3
   cases q4:bE (imp.map fun _=>true) (imp.map Hd.slot) (aO o ρ1) with
   | none=>rw [q4] at e3; cases e3
   | some y=>exact ⟨y.1,y.2,rfl⟩
  obtain ⟨as0,ρ4,hld⟩:=hld;obtain ⟨xs,hx1,hx2,hx3,hx4⟩:=pJ (own:=aL (aO o ρ1) σ) (new:=dU H1) imp _ _ _ R0 hld;obtain ⟨as,G2,as',ra,hal,ef,⟨gg2,ao2⟩,kk⟩:=HD (Aft.refl R0) hx1 e3;unfold oF at ef;split at ef
  case isFalse=>cases ef
  rename_i hpz;obtain ⟨hp,hz⟩:=hpz;split at ef
  case h_2=>cases ef
  rename_i x3 ρi e5;simp only [Option.some.injEq,Prod.mk.injEq,Out.ex.injEq] at ef;obtain ⟨rfl,rfl⟩:=ef;obtain ⟨il,ig⟩:=yD himp
  have hNl:(Γ.inner scope).N.length=as.length+(dG scope).length:=by
   show (dS scope ++ dG scope).length=_;rw [List.length_append,hal,List.length_map,il]
  obtain ⟨rp,op⟩:=ra.pad hNl;have hsz:=hV hz
  -- the block's turns
  have turns:∀ (J:It),E9 K (as ++ List.replicate (dG scope).length .un) (b0 (Γ.inner scope).N xs) H1 G2 ds J→YB X (fun H' Ca=>∃ Gc,Aft K ρ σ H G ρ3 H' Gc∧PySem.W.nsIn K mainGlobals x3.cls=some (some (.ref Ca))∧ExcG K Ca) X.N scope (Γ.inner scope).N (gB K (is.length == 1) is) (qY K P C cond) (fun X' σ H Q=>tE K P C ce σ H Q∨mC X' K P C ce σ H Q) σ Q J H1:=by
   intro J hJ;refine Exists.intro xs ⟨by rw [hNl,hx2,hal,List.length_map]; omega,fun i x v hN hv=>?_,fun D hD X' bX xX=>?_⟩
   ·obtain ⟨j,hj,hσ⟩:=hx4 i v hv
    have hlt:i<(dS scope).length:=by
     rw [← il];exact (List.getElem?_eq_some_iff.mp hj).1
    have hfx:(dS scope)[i]?=some x:=by
     have:(dS scope ++ dG scope)[i]?=some x:=hN
     rwa [List.getElem?_append_left hlt] at this
    exact ⟨j,by rw [xo.neq]; exact ig i x j hfx hj,hσ,xR sc (List.mem_of_getElem? hfx)⟩
   ·refine ⟨ds.length,CLP K (as ++ List.replicate (dG scope).length .un) (b0 (Γ.inner scope).N xs) H1 G2 D ds (fun i ac ρc=>ac.length≤i∧iR (dC P C cond) (ev P C false ce) (iS P C ce) (a8 (is.length == 1) is) (ds.drop i) ρc=some (x3,ρi)), ?_, ?_⟩
    ·have g2:G2 D=none:=by
      cases z:G2 D with
      | none=>rfl
      | some u=>have:=rp.sub D u z; rw [hD] at this; cases this
     exact ⟨Nat.zero_le _,_,G2,[],[],Aft.s rp ((Aft.refl rp).layH hD),bC,g2,rp.notOwn hD,aB.nil,Nat.le_refl _,e5⟩
    ·rintro i σ' H' ⟨hil,ρc,Gc,ac,ys,a,hHD,hGD,hnD,hr,hac,ec⟩
     obtain ⟨j1,j2,j3⟩:=hJ i H' ρc σ' Gc a;by_cases hlt:i<ds.length
     ·refine .inr ⟨hlt,j2 hlt,fun x H2 hy=>?_⟩;have hd:ds[i]?=some ds[i]:=List.getElem?_eq_getElem hlt;obtain ⟨Gd,afd,hrep⟩:=j3 _ x H2 hd hy;have hGD:=afd.ext.gn D (by rw [hHD]; simp) hGD hnD;have hHD:=afd.ext.hh D _ hHD hnD;have hr:=aB.mono afd.ext.gg _ hr;have a:=a.trans (Aft.s a.rel afd);rw [List.drop_eq_getElem_cons hlt] at ec;simp only [iR] at ec;split at ec
      ·cases ec
      ·rename_i ρb hb;refine ⟨ρc,Gd,ds[i],ρb,a.rel,hrep,hb,fun σ1 ab=>?_⟩;have a01:=a.trans ab
       have nb:¬ aL ρb σ1 D:=fun z=>by
        rcases ab.own D z with z | z
        ·exact hnD z
        ·rw [hHD] at z; cases z
       split at ec
       ·rename_i ρt et;refine ⟨ρb,Gd,true,ρt,ab.rel,et,fun H3 G3 at3=>?_⟩;have h3:H3 D=some (.lst ys):=at3.ext.hh D _ hHD nb;have g3:G3 D=none:=at3.ext.gn D (by rw [hHD]; simp) hGD nb;have n3:¬ aL ρt σ1 D:=fun z=>nb (at3.own D z)
        dsimp only;rw [if_pos rfl];split at ec
        ·rename_i w ρe ee;refine .inl ⟨ρt,G3,w,ρe,at3.rel,ee,fun y H4 G4 a4 ry=>?_⟩;obtain ⟨G5,a5,ry5⟩:=a4.share ry;have h4:H4 D=some (.lst ys):=a5.ext.hh D _ h3 n3;have g5:G5 D=none:=a5.ext.gn D (by rw [h3]; simp) g3 n3;have n5:¬ aL ρe σ1 D:=fun z=>n3 (a5.own D z)
         have hyl:=hr.len;have a05:=(a01.trans (Aft.s ab.rel at3)).trans (Aft.s at3.rel a5);refine ⟨ys,h4,by omega,hlt,ρe,G5,ac ++ [w.d],ys ++ [y],a05.poke hD g5 n5,bC,g5,n5, ?_,by rw [List.length_append]; simp; omega,ec⟩;exact (aB.mono a5.ext.gg _ (aB.mono at3.ext.gg _ hr)).app (aB.cons ry5 aB.nil)
        ·refine .inr ⟨ρt,G3,x3,ρi,at3.rel,ec,fun pi σ9 H9 G9 s9 b9 Ca9 a9 I9 F9 n9 g9=>?_⟩;have a09:=(a01.trans (Aft.s ab.rel at3)).trans a9;obtain ⟨b1,b2⟩:=mG ra hp hNl a09;have c1:=kk H9 G9 b1;obtain ⟨d1,d2⟩:=f9 a1.rel ho q3 (Aft.s R0 c1);have a2:Aft K ρ1 σ H1 G1 ρ3 H9 G9:=⟨d1.rel,d1.ext,uN ho q3 c1.evo⟩
         exact xX pi σ9 H9 s9 b9 Ca9 I9 F9 ⟨G9,a1.trans a2,n9,g9⟩
       ·rename_i ρt et;refine ⟨ρb,Gd,false,ρt,ab.rel,et,fun H3 G3 at3=>?_⟩;have h3:H3 D=some (.lst ys):=at3.ext.hh D _ hHD nb;have g3:G3 D=none:=at3.ext.gn D (by rw [hHD]; simp) hGD nb;have n3:¬ aL ρt σ1 D:=fun z=>nb (at3.own D z)
        dsimp only;rw [if_neg (by decide)];exact ⟨hlt,ρt,G3,ac,ys,a01.trans (Aft.s ab.rel at3),h3,g3,n3,aB.mono at3.ext.gg _ hr,by omega,ec⟩
       ·cases ec
     ·have hie:i=ds.length:=by omega
      subst hie;rw [List.drop_length] at ec;simp only [iR] at ec;cases ec
  have noTmp:∀ c,aL as (xs.map some) c→aL (aO o ρ1) σ c:=fun c z=>by
   rcases ao2 c z with z | z
   ·exact z
   ·exact absurd z (hx3 c)
  obtain ⟨w1,w2,w3,w4⟩:=KN (K:=K) (ρ1:=ρ1) (σ:=σ) (H1:=H1) (ds:=ds) (o:=o) gg2 fun c z=>noTmp c (op c z)
  exact ⟨fun a vs h1 h2=>turns _ (w1 a vs h1 h2),fun a vs h1 h2=>turns _ (w2 a vs h1 h2),fun lo n h1=>turns _ (w3 lo n h1),fun a vs ds0 lo h1 h2 h3=>turns _ (w4 a vs ds0 lo h1 h2 h3)⟩
def BV (X:Cx) (K:PySem.W.Frag) (P:aK) (C:Calls) (e:Expr) (c:E):Prop:=∀ (W:Nat) (x:Str) (i:Nat) (p pos:Pos),X.N.Nodup→X.N[i]?=some x→rQ X.env.scope x→(X.fn x=true∨X.env.scope.names.lookup x=some .local) →
 PS X (.Assign [.Name x p] e pos) (rG X K P C W (.asg i c))
theorem QM (xo:bA X K P C Γ) {elt tg iter:Expr} {ifs:List Expr} {scope:Scope} {pos:Pos} {ce:E} {k0:ItK} {its cond:List E} {imp is:List Nat} {wi:TI} (sc:ScOk Γ scope) (himp:Γ.imps (dS scope)=some imp) (htg:jK (Γ.inner scope) tg=some (is.length == 1,is))
  (hi:PI X tg iter wi) (hs:∀ x,foldedSetIterable iter X.env x=pure x)
  (hw:∀ σ H (R:It→Hp→Prop),LM K P C k0 its σ H R→wi σ H R)
  (he:∀ X',bA X' K P C (Γ.inner scope)→Ok3 X' K P C elt ce) (heX:∀ X',bA X' K P C (Γ.inner scope)→PE X' elt (mC X' K P C ce)) (ht:∀ X',bA X' K P C (Γ.inner scope)→lG X' ifs (qY K P C cond)) :
  PE X (.ListComp elt [⟨tg,iter,ifs,0⟩] scope pos) (mC X K P C (.comp ce is k0 its cond imp (dG scope).length))∧BV X K P C (.ListComp elt [⟨tg,iter,ifs,0⟩] scope pos) (.comp ce is k0 its cond imp (dG scope).length):=by
 have all:X.env.scope.kind=.function→(∀ X',eC X scope (Γ.inner scope).N X'→PG X' tg (gB K (is.length == 1) is))∧(∀ X',eC X scope (Γ.inner scope).N X'→lG X' ifs (qY K P C cond))∧∀ X',eC X scope (Γ.inner scope).N X'→PE X' elt (fun σ H Q=>tE K P C ce σ H Q∨mC X' K P C ce σ H Q):=by
  intro hk;have xi:∀ X',eC X scope (Γ.inner scope).N X'→bA X' K P C (Γ.inner scope):=fun X' b=>xo.inner hk sc.nd b
  have hfn:∀ X',eC X scope (Γ.inner scope).N X'→∀ x,(Γ.inner scope).isLoc x=true→X'.fn x=true∨X'.env.scope.names.lookup x=some .local:=fun X' b x hx=>by
   rw [(xi X' b).nm];unfold CC.isLoc at hx;rw [Bool.or_eq_true,Bool.and_eq_true] at hx;rcases hx with hx | hx
   ·exact .inr (eq_of_beq hx)
   ·exact absurd hx.1 (by simp [CC.inner])
  exact ⟨fun X' b=>y6 (xi X' b) (hfn X' b) htg,fun X' b=>ht X' (xi X' b),fun X' b=>BJ (he X' (xi X' b)).v (heX X' (xi X' b))⟩
 have hfk:∀ p∈scope.names,p.2=.free→X.env.kindOf p.1=some .cell∨X.env.kindOf p.1=some .free:=fun p hp hf=>by unfold PySem.Env.kindOf; rw [xo.nm]; exact sc.out p hp hf
 have hPE:PE X (.ListComp elt [⟨tg,iter,ifs,0⟩] scope pos) (mC X K P C (.comp ce is k0 its cond imp (dG scope).length)):=fun pins s σ H Q I h=>by
  obtain ⟨h1,h2,h3⟩:=all I.ok.kind;exact NY (N':=(Γ.inner scope).N) xo.calm xo.tp hi hs sc.kind sc.cell sc.names hfk h1 h2 h3 pins s σ H Q I (zN xo sc himp hw h)
 refine ⟨hPE,fun W x i p spos hN hx hl hf=>?_⟩;obtain ⟨b,hb⟩:∃ b:Bool,swapsWith (.ListComp elt [⟨tg,iter,ifs,0⟩] scope pos) (some (.Name x p)) spos.line X.env=pure b:=⟨_,rfl⟩
 intro pins s σ H D I ⟨ρ,G,x0,ρ',r,e,k⟩;simp only [fJ] at e
 cases b with
 | false =>
  have z:PS X (.Assign [.Name x p] (.ListComp elt [⟨tg,iter,ifs,0⟩] scope pos) spos) (yY (mC X K P C (.comp ce is k0 its cond imp (dG scope).length)) (lN i)):=sC hPE (yT hN hx hl hf) hb;exact z pins s σ H D I ⟨ρ,G,x0,ρ',r,e,k⟩
 | true =>
  obtain ⟨h1,h2,h3⟩:=all I.ok.kind;exact OL hb hN hx hl hf xo.calm xo.tp hi hs sc.kind sc.cell sc.names hfk h1 h2 h3 pins s σ H D I (zN xo sc himp hw ⟨ρ,G,x0,ρ',r,e,k⟩)
end
section
variable {X:Cx} {K:PySem.W.Frag} {P:aK} {C:Calls} {W:Nat} {Γ:CC}
noncomputable def gD:E→Bool
 | .call _ _=>true
 | .comp _ _ _ _ _ _ _=>true
 | _=>false
theorem WG {x:Str}:gD (o9 Γ x)=false:=by unfold o9; split; rfl; split <;> rfl
theorem NI {c:Const}:gD (wF c)=false:=by
 cases c <;> first | rfl | (show gD (if _ then _ else _)=false; split <;> rfl)
theorem TU {ks:List (Option Expr)} {vs:List Expr}:gD (IH ks vs)=false:=by unfold IH; (repeat' split) <;> rfl
theorem XN {x m:Str} {p q:Pos} {as:List Expr} {cs:List E}:gD (CA Γ x m p q as cs)=false:=by unfold CA; repeat' split <;> try rfl
theorem XA {m:Str} {p q:Pos} {as:List Expr} {a:E} {cs:List E}:gD (wV Γ m p q as a cs)=false:=by unfold wV; repeat' split <;> try rfl
theorem aAO {t:Expr} {a:E}:gD (HI Γ t a)=false:=by unfold HI; repeat' split <;> try rfl
theorem aBh {as:List Expr} {cs:List E}:gD (vL Γ as cs)=false:=by
 unfold vL;split
 ·split
  ·rfl
  ·exact aAO
 ·rfl
theorem aBu {as:List Expr} {cs:List E}:gD (P5 as cs)=false:=by unfold P5; first | rfl | (repeat' split <;> try rfl)
theorem WY {as:List Expr} {cs:List E}:gD (HC as cs)=false:=by unfold HC; first | rfl | (repeat' split <;> try rfl)
theorem aAQ {f:Str} {as:List Expr} {cs:List E}:gD (v9 f as cs)=false:=by
 unfold v9 aAz;split
 ·exact aBu
 ·split
  ·(repeat' split) <;> rfl
  ·split
   ·rfl
   ·split
    ·exact WY
    ·split <;> rfl
theorem oI {b:Prop} [Decidable b] {a c:E} (h1:gD a=false) (h2:gD c=false):gD (if b then a else c)=false:=by split <;> assumption
def fP (Γ:CC) (e:Expr):Prop:=(∃ f p a r pos g,e=.Call (.Name f p) (a :: r) [] pos∧Γ.glob f=.fn g∧(a :: r).all aW=true∧cE Γ e=.call g (bT Γ (a :: r)))∨∃ elt tg iter ifs sc pos,e=.ListComp elt [⟨tg,iter,ifs,0⟩] sc pos∧(ifs=[]∨∃ c1,ifs=[c1])
theorem MN {e:Expr} (h:gD (cE Γ e)=true):fP Γ e:=by
 cases e with
 | Name x p=>exact dA ((WG (x:=x)).symm.trans h)
 | Constant c _ _=>exact dA ((NI (c:=c)).symm.trans h)
 | Tuple es _ _=>exact dA ((oI (b:=es.all aW=true) (a:=.tup (bT Γ es)) (c:=.bad) rfl rfl).symm.trans h)
 | List es _=>exact dA ((oI (b:=es.all aW=true) (a:=.lst (bT Γ es)) (c:=.bad) rfl rfl).symm.trans h)
 | Dict ks vs _=>exact dA ((TU (ks:=ks) (vs:=vs)).symm.trans h)
 | BinOp a op b _=>exact dA h
 | UnaryOp op a _=>cases op <;> exact dA h
 | Compare a ops bs _ =>
  obtain _ | ⟨o1,_ | ⟨o2,_ | ⟨o3,_⟩⟩⟩:=ops <;> obtain _ | ⟨b1,_ | ⟨b2,_ | ⟨b3,_⟩⟩⟩:=bs <;> first
   | exact dA h
   | exact dA ((oI (b:=behindInMarks o1 b1=true) (a:=.bad) (c:=.cmp o1 (cE Γ a) (cE Γ b1)) rfl rfl).symm.trans h)
   | exact dA ((oI (b:=behindInMarks o2 b2=true) (a:=.bad) (c:=.cmp2 o1 o2 (cE Γ a) (cE Γ b1) (cE Γ b2)) rfl rfl).symm.trans h)
 | BoolOp op es _ =>
  cases op <;> obtain _ | ⟨a,_ | ⟨b,r⟩⟩:=es <;> exact dA h
 | IfExp c a b _=>exact dA h
 | Subscript a i _ =>
  rcases R5 Γ a i ‹Pos› with ⟨lo,hi,q,rfl⟩ | ⟨_,z⟩
  ·exact dA h
  ·rw [z] at h;exact dA ((oI rfl rfl).symm.trans h)
 | Attribute o f _=>cases o <;> exact dA h
 | ListComp elt gens sc _ =>
  obtain _ | ⟨⟨tg,it,ifs,n⟩,_ | ⟨_,_⟩⟩:=gens
  ·exact dA h
  ·obtain _ | ⟨c1,_ | ⟨_,_⟩⟩:=ifs <;> obtain (_ | _) | _:=n <;> first
    | exact Or.inr ⟨elt,tg,it,[],sc,_,rfl,.inl rfl⟩
    | exact Or.inr ⟨elt,tg,it,[c1],sc,_,rfl,.inr ⟨c1,rfl⟩⟩
    | exact dA h
  ·obtain _ | ⟨c1,_ | ⟨_,_⟩⟩:=ifs <;> obtain (_ | _) | _:=n <;> exact dA h
 | Call fn args kw pos =>
  cases fn with
  | Name f p =>
   cases kw with
   | nil =>
    change gD (if args.all aW && decide (args≠[]) then (match Γ.glob f with | .fn g=>.call g (bT Γ args) | .cls ns=>.make f ns (bT Γ args) | .blt=>if f=("isinstance":Str) then vL Γ args (bT Γ args) else v9 f args (bT Γ args) | _=>.bad) else .bad)=true at h;split at h
    ·rename_i hc;split at h
     ·rename_i g hg;rw [Bool.and_eq_true] at hc
      cases args with
      | nil=>simp at hc
      | cons a r =>
       refine Or.inl ⟨f,p,a,r,pos,g,rfl,hg,hc.1, ?_⟩;show (if (a :: r).all aW && decide ((a :: r)≠[]) then (match Γ.glob f with | .fn g=>E.call g (bT Γ (a :: r)) | .cls ns=>E.make f ns (bT Γ (a :: r)) | .blt=>if f=("isinstance":Str) then vL Γ (a :: r) (bT Γ (a :: r)) else v9 f (a :: r) (bT Γ (a :: r)) | _=>.bad) else .bad)=_;rw [if_pos (by rw [hc.1]; simp),hg]
     ·cases h
     ·rw [oI aBh aAQ] at h; cases h
     ·cases h
    ·cases h
   | cons _ _=>exact dA h
  | Attribute o m apos =>
   cases kw with
   | nil =>
    cases o with
    | Name x p=>exact dA ((XN (x:=x) (m:=m) (p:=apos) (q:=pos) (as:=args) (cs:=bT Γ args)).symm.trans h)
    | Call g as0 kw0 p0 =>
     cases as0 with
     | nil=>exact dA h
     | cons a0 r0=>exact dA ((XA (m:=m) (p:=apos) (q:=pos) (as:=args) (a:=cE Γ (.Call g (a0 :: r0) kw0 p0)) (cs:=bT Γ args)).symm.trans h)
    | _=>exact dA h
   | cons _ _ =>
    cases o with
    | Call g as0 kw0 p0=>cases as0 <;> exact dA h
    | _=>exact dA h
  | _=>exact dA h
 | _=>exact dA h
theorem DN {e:Expr} (h:gD (cE Γ e)=true):(∃ f p a r pos g,e=.Call (.Name f p) (a :: r) [] pos∧Γ.glob f=.fn g∧(a :: r).all aW=true∧cE Γ e=.call g (bT Γ (a :: r)))∨∃ elt tg iter ifs sc pos,e=.ListComp elt [⟨tg,iter,ifs,0⟩] sc pos∧(ifs=[]∨∃ c1,ifs=[c1]):=MN h
theorem D2 {c:E} {ρ ρ':Env} {x:Exc} (h:iS P C c ρ=some (x,ρ')):gD c=true:=by
 cases c <;> first | rfl | (simp [iS] at h)
theorem W2 {e:Expr}:PE X e (mC X K P C .bad):=fun pins s σ H Q I ⟨ρ,G,x,ρ',r,e0,k⟩=>by simp [iS] at e0
theorem PU {e:Expr}:BV X K P C e .bad:=fun W x i p pos _ _ _ _ pins s σ H D I ⟨ρ,G,x0,ρ',r,e0,k⟩=>by simp [fJ,iS] at e0
theorem lT (xo:bA X K P C Γ) {elt tg iter:Expr} {ifs:List Expr} {scope:Scope} {pos:Pos} {ci ce:E} {cargs cond:List E} (hci:Ok3 X K P C iter ci) (hca:ArgsOk X K P C iter cargs)
  (he:∀ X',bA X' K P C (Γ.inner scope)→Ok3 X' K P C elt ce) (heX:∀ X',bA X' K P C (Γ.inner scope)→PE X' elt (mC X' K P C ce)) (ht:∀ X',bA X' K P C (Γ.inner scope)→lG X' ifs (qY K P C cond)) :
  PE X (.ListComp elt [⟨tg,iter,ifs,0⟩] scope pos) (mC X K P C (nH Γ scope tg iter ci cargs cond ce))∧BV X K P C (.ListComp elt [⟨tg,iter,ifs,0⟩] scope pos) (nH Γ scope tg iter ci cargs cond ce) :=
 zL xo hci hca (Φ:=fun c=>PE X (.ListComp elt [⟨tg,iter,ifs,0⟩] scope pos) (mC X K P C c)∧BV X K P C (.ListComp elt [⟨tg,iter,ifs,0⟩] scope pos) c) ⟨W2,PU⟩ fun sc q1 q2 hi hs hw=>QM xo sc q1 q2 hi hs hw he heX ht
def IhX (K:PySem.W.Frag) (P:aK) (C:Calls) (n:Nat):Prop:=∀ (X:Cx) (Γ:CC),bA X K P C Γ→∀ e:Expr,sizeOf e<n→PE X e (mC X K P C (cE Γ e))
theorem Q1 {X:Cx} {Γ:CC} {n:Nat} (ih:IhX K P C n) (xo:bA X K P C Γ):∀ es:List Expr,sizeOf es<n→es.all aW=true→PA X es (aER X K P C (bT Γ es))
 | [],_,_=>by
  intro pos pins s σ H Q I ⟨ρ,G,x,ρ',r,e0,k⟩;simp only [bT,pP] at e0;cases e0
 | e :: es,hs,ns=>by
  have ns':=ns;rw [List.all_cons,Bool.and_eq_true] at ns';refine TA.imp_pa (kC (BJ (cL xo e).h (ih _ _ xo e (pH hs))) (Q1 ih xo es (wL hs) ns'.2) (bI ns'.1 _ _)) fun σ H Q ⟨ρ,G,x,ρ',r,e0,k⟩=>?_
  simp only [bT,pP] at e0;split at e0
  ·rename_i v ρ1 q1;exact .inl ⟨ρ,G,v,ρ1,r,q1,fun y H1 G1 a1 _=>⟨ρ1,G1,x,ρ',a1.rel,e0,k.pre (Aft.s r a1)⟩⟩
  ·exact .inr ⟨ρ,G,x,ρ',r,e0,k⟩
theorem OX {X:Cx} {Γ:CC} {n:Nat} (ih:IhX K P C n) (xo:bA X K P C Γ) (e:Expr) (hsz:sizeOf e<n+1):PE X e (mC X K P C (cE Γ e)):=by
 intro pins s σ H Q I ⟨ρ,G,x,ρ',r,e0,k⟩;rcases DN (D2 e0) with ⟨f,p,a,d9,pos,g,rfl,hf,ns,hc⟩ | ⟨elt,tg,iter,ifs,sc,pos,rfl,rfl | ⟨c1,rfl⟩⟩
 case inr.inl=>exact (lT xo (cL xo iter) (j9 xo iter) (fun X' xo'=>cL xo' elt) (fun X' xo'=>ih _ _ xo' elt (bK (by simp; omega) hsz)) (fun X' xo'=>pU)).1 pins s σ H Q I ⟨ρ,G,x,ρ',r,e0,k⟩
 case inr.inr=>exact (lT xo (cL xo iter) (j9 xo iter) (fun X' xo'=>cL xo' elt) (fun X' xo'=>ih _ _ xo' elt (bK (by simp; omega) hsz)) (fun X' xo'=>pW (cL xo' c1))).1 pins s σ H Q I ⟨ρ,G,x,ρ',r,e0,k⟩
 rw [hc] at e0;obtain ⟨h1,h2,h3,h4⟩:=CC.glob_ok xo hf (fun z=>nomatch z);obtain ⟨fa,fd,ps,k0,F,hr,hm,hk,hb⟩:=(xo.fnX f g h2).ex;have ns':=ns;rw [List.all_cons,Bool.and_eq_true] at ns';simp only [iS] at e0
 have argsX:pP P C (bT Γ (a :: d9)) ρ=some (x,ρ')→wpAny (model X.prog X.w) X.A (eval (.Call (.Name f p) (a :: d9) [] pos) X.env) (EP X pins σ Q) X.xe s:=fun z =>
  CS F hr h1 hm hk hb (Q1 ih xo (a :: d9) (bK (by simp; omega) hsz) ns) h3 (bI ns'.1 _ _) (dX ns'.2 _ _).1 pins s σ H Q I ⟨ρ,G,x,ρ',r,z,k⟩
 split at e0
 ·rename_i hs ρ1 q1;split at e0
  ·rename_i x' ρ2 q2;cases e0;refine CS F hr h1 hm hk hb (n6 xo (a :: d9) ns) h3 (bI ns'.1 _ _) (dX ns'.2 _ _).1 pins s σ H Q I ⟨ρ,G,hs,ρ1,r,q1,fun xs H1 G1 a1 rx=>?_⟩;obtain ⟨as,G2,as',d1,d2,d3,d4⟩:=LG a1 rx q2;refine ⟨fun v _ H'=>∃ Ca G',v=.ref Ca∧Aft K ρ σ H G ρ' H' G'∧PySem.W.nsIn K mainGlobals x.cls=some (some (.ref Ca))∧ExcG K Ca,⟨?_,as,G2,x,as',d1,d2,d3,fun H' G' Ca b hn hg=>⟨Ca,G',rfl,d4 H' G' b,hn,hg⟩⟩,fun pins' b Cb H' s' I' F' ⟨Ca,G',z,b1,b2,b3⟩=>?_⟩
   ·have:=d1.len
    rw [List.length_map] at this;omega
   ·cases z;exact k pins' σ H' G' s' b Cb (Aft.s r b1) I' F' b2 b3
  ·cases e0
 ·exact argsX e0
theorem FI:∀ n:Nat,IhX K P C n
 | 0=>fun _ _ _ _ h=>absurd h (Nat.not_lt_zero _)
 | n+1=>fun _ _ xo e h=>OX (FI n) xo e h
theorem sD {X:Cx} {Γ:CC} (xo:bA X K P C Γ) (e:Expr):PE X e (mC X K P C (cE Γ e)):=FI _ _ _ xo e (Nat.lt_succ_self _)
theorem aBi (xo:bA X K P C Γ) {elt tg iter:Expr} {ifs:List Expr} {sc:Scope} {pos:Pos} (h:ifs=[]∨∃ c1,ifs=[c1]):BV X K P C (.ListComp elt [⟨tg,iter,ifs,0⟩] sc pos) (cE Γ (.ListComp elt [⟨tg,iter,ifs,0⟩] sc pos)):=by
 rcases h with rfl | ⟨c1,rfl⟩
 ·exact (lT xo (cL xo iter) (j9 xo iter) (fun X' xo'=>cL xo' elt) (fun X' xo'=>sD xo' elt) (fun X' xo'=>pU)).2
 ·exact (lT xo (cL xo iter) (j9 xo iter) (fun X' xo'=>cL xo' elt) (fun X' xo'=>sD xo' elt) (fun X' xo'=>pW (cL xo' c1))).2
end
section
variable {X:Cx} {K:PySem.W.Frag} {P:aK} {C:Calls} {W:Nat} {Γ:CC} {pins pins':List (Addr × Obj)} {σ:St} {H G:Hp} {s:Shared}
abbrev Cx.re (X:Cx) (E:Value→Shared→Prop) (pn:List (Addr × Obj)):Cx:={ X with xe:=E,pn:=pn }
abbrev Cx.ma (X:Cx) (v:Value):Cx:={ X with A:=X.A.mark (some v),calm:=false,xe:=fun _ _=>False }
theorem aCE {E:Value→Shared→Prop} {pn:List (Addr × Obj)} (o:X.Ok):(Cx.re X E pn).Ok :=
 ⟨o.mod,o.kind,o.glob,o.blt,o.above,o.inj,o.has,o.cab,o.hd,o.frames,o.stk,o.exf,o.bs,o.bsz,o.noex,o.exfs,o.funs,o.frf⟩
theorem aCT {E:Value→Shared→Prop} {pn:List (Addr × Obj)} (o:(Cx.re X E pn).Ok):X.Ok :=
 ⟨o.mod,o.kind,o.glob,o.blt,o.above,o.inj,o.has,o.cab,o.hd,o.frames,o.stk,o.exf,o.bs,o.bsz,o.noex,o.exfs,o.funs,o.frf⟩
theorem aDI {v:Value} (o:X.Ok):(Cx.ma X v).Ok :=
 ⟨o.mod,o.kind,o.glob,o.blt,o.above,o.inj,o.has,o.cab,(fun z=>nomatch z),o.frames,o.stk,o.exf,o.bs,o.bsz,o.noex,o.exfs,o.funs,o.frf⟩
theorem K7 {E:Value→Shared→Prop} (I:Inv X pins σ H s):Inv (Cx.re X E (X.pn ++ pins)) [] σ H s :=
 ⟨aCE I.ok,I.os,I.bare,I.base,I.loc,I.cell,I.free,I.freeC,fun p hp=>I.pin p (by simpa using hp),I.hok,I.len⟩
theorem wI {E:Value→Shared→Prop} (I:Inv (Cx.re X E (X.pn ++ pins)) pins' σ H s):Inv X pins σ H s :=
 ⟨aCT I.ok,I.os,I.bare,I.base,I.loc,I.cell,I.free,I.freeC,fun p hp=>I.pin p (List.mem_append_left _ hp),I.hok,I.len⟩
theorem BX {v:Value} (I:Inv X pins σ H s):Inv (Cx.ma X v) pins σ H s :=
 ⟨aDI I.ok,I.os,I.bare,I.base,I.loc,I.cell,I.free,I.freeC,I.pin,I.hok,I.len⟩
theorem aAD {E:Value→Shared→Prop} {v:Value} (o:X.Ok) (I:Inv (Cx.ma (Cx.re X E (X.pn ++ pins)) v) pins' σ H s):Inv X pins σ H s :=
 ⟨o,I.os,I.bare,I.base,I.loc,I.cell,I.free,I.freeC,fun p hp=>I.pin p (List.mem_append_left _ hp),I.hok,I.len⟩
theorem bA.re {E:Value→Shared→Prop} {pn:List (Addr × Obj)} (xo:bA X K P C Γ):bA (Cx.re X E pn) K P C Γ :=
 bA.of xo.keq xo.neq xo.nm xo.nd xo.calm xo.hh xo.hu xo.con xo.blt (fun x f h=>⟨(xo.fn x f h).ex⟩) (fun x ns h=>⟨(xo.cls x ns h).ex⟩) (fun m tb c f h1 h2=>⟨(xo.mth m tb c f h1 h2).ex⟩) xo.rm xo.sub xo.subx xo.exc xo.exs (fun x f h=>⟨(xo.fnX x f h).ex⟩) xo.tp
theorem UG (xo:bA X K P C Γ) (stk:X.stack=X.env :: X.outer) (fr:X.env.frame=some X.env.locals) {body:List Stmt} {cb:List S} {x:Str} {cs:List Str} {k1:Nat} {np p1 p2 hp pos:Pos}
  (hb:∀ E pn,PassesOwn (model X.prog X.w) X.A X.env E→fE (Cx.re X E pn) body (qS K P C W cb)) (hbx:∀ E pn,PassesOwn (model X.prog X.w) X.A X.env E→fE (Cx.re X E pn) body (aBr (Cx.re X E pn) K P C W cb))
  (hx:Γ.globE x=.exs cs) :
  PS X (.Try body [.ExceptHandler (some (.Name x np)) none [.Return (some (.Constant .none k1 p1)) p2] hp] [] [] pos) (tS K P C W (.tryN cb cs)):=by
 intro pins s σ H D I ⟨ρ,G,fl,ρ',r,e,k⟩;refine wpAny_Try_except ?_
 have h0:exs P C W cb ρ=some (fl,ρ')∨j7 cs (hU P C W cb ρ)=some (fl,ρ'):=by
  simp only [ex] at e;split at e
  ·rename_i q; cases e; exact .inl q
  ·rename_i q; cases e; exact .inl q
  ·exact .inr e
 rcases h0 with q | e
 ·refine wpAny_mono (hb _ (X.pn ++ pins) PassesOwn.looking [] s σ H D (K7 I) ⟨ρ,G,fl,ρ',r,q,k⟩) (fun f s1 h1=>?_) fun _ _ z=>z
  cases f with
  | next =>
   obtain ⟨σ',H',J,z⟩:=h1;exact wpAny_execs_nil ⟨σ',H',wI J,z⟩
  | brk=>obtain ⟨σ',H',J,z⟩:=h1; exact ⟨σ',H',wI J,z⟩
  | cont=>obtain ⟨σ',H',J,z⟩:=h1; exact ⟨σ',H',wI J,z⟩
  | ret u=>obtain ⟨v,σ',H',J,w,z⟩:=h1; exact ⟨v,σ',H',wI J,w,z⟩
 ·unfold j7 at e;split at e
  ·cases e
  ·rename_i x0 ρ1 q;split at e
   ·rename_i hc;cases e;refine wpAny_mono (hbx _ (X.pn ++ pins) PassesOwn.looking [] s σ H { nx:=fun _ _=>False,bk:=fun _ _=>False,ct:=fun _ _=>False,rt:=fun _ _=>False } (K7 I) ⟨ρ,G,x0,_,r,q, ?_⟩) (fun f s1 h1=>?_) fun _ _ z=>z
    ·intro pins' σ' H' G' s' a Ca aft I' F hcl hg;refine yK (X:=Cx.re X _ (X.pn ++ pins)) I' stk fr F fun h1 I1 F1=>rT (X:=Cx.re X _ (X.pn ++ pins)) I1 F.1 F1 fun h2 I2 F2=>?_
     have hgl:∃ D0,X.mg x=some (.ref D0)∧PySem.W.excIn K D0 uZ "ValueError.__new__"=true∧PySem.W.mroIn K Ca (.ref D0)=some true∧Gl X x∧(x == ("__debug__":Str))=false:=by
      unfold CC.globE at hx;split at hx
      ·cases hx
      ·rename_i hbd;split at hx
       ·rename_i hig;obtain ⟨D0,d1,d2,d3⟩:=(xo.exs x cs hx).ex;refine ⟨D0,d1,d2,d3 _ (by simpa using hc) Ca hcl, ?_, ?_⟩
        ·unfold Gl PySem.Env.kindOf;rw [xo.nm];exact eq_of_beq hig
        ·simp only [gA,Bool.not_eq_true,Bool.or_eq_false_iff] at hbd;exact hbd.1.1
       ·cases hx
     obtain ⟨D0,d1,d2,d3,d4,d5⟩:=hgl;have hK:=xo.keq;subst hK;obtain ⟨oe,vs,a0,T,oT,ts,he,hcc,hd,h0,fT,h1',hne,hT,hdT,h3⟩:=id F2;refine wpAny_handleBy_cons (codeAny_handlers_test (lZ (X:=Cx.ma (Cx.re X _ (X.pn ++ pins)) (.ref a)) (BX I2) d4 d1 ?_ d5)) (by intro z; cases z);refine aEG (BX (v:=.ref a) I2).kIn hg.q d2 d3 he hcc ?_;refine codeAny_handlers_suite ?_;refine rT I2 F.1 F2 fun h3 I3 F3=>?_
     refine wpAny_mono (UB (x8 (X:=Cx.ma (Cx.re X _ (X.pn ++ pins)) (.ref a)) (pos:=p2) (MG (j:=k1) (pos:=p1))) pins' _ _ _ { nx:=fun _ _=>False,bk:=fun _ _=>False,ct:=fun _ _=>False,rt:=fun v H6=>v=.non∧H6=H' } (BX (v:=.ref a) I3) ?_) (fun f s6 h6=>?_) fun _ _ z=>z.elim
     ·exact ⟨rfl,rfl⟩
     ·cases f with
      | next=>obtain ⟨_,_,_,z⟩:=h6; exact z.elim
      | brk=>obtain ⟨_,_,_,z⟩:=h6; exact z.elim
      | cont=>obtain ⟨_,_,_,z⟩:=h6; exact z.elim
      | ret u =>
       obtain ⟨v,σ6,H6,J,w,z⟩:=h6;obtain ⟨rfl,rfl⟩:=z;exact ⟨_,_,_,aAD I.ok J,w,k _ _ _ _ aft (by show aD X.K G' .non _; simp [aD])⟩
    ·cases f with
     | next=>obtain ⟨_,_,_,z⟩:=h1; exact z.elim
     | brk=>obtain ⟨_,_,_,z⟩:=h1; exact z.elim
     | cont=>obtain ⟨_,_,_,z⟩:=h1; exact z.elim
     | ret u=>obtain ⟨_,_,_,_,_,z⟩:=h1; exact z.elim
   ·cases e
theorem bA.ma {E:Value→Shared→Prop} {pn:List (Addr × Obj)} {v:Value} (xo:bA X K P C Γ):XOkB false (Cx.ma (Cx.re X E pn) v) K P C Γ:=⟨xo.keq,xo.neq,xo.nm,xo.nd,xo.con,xo.blt,xo.sub,xo.subx,fun z=>nomatch z⟩
end
section
variable {X:Cx} {K:PySem.W.Frag} {P:aK} {C:Calls} {W:Nat} {Γ:CC}
theorem vS (xo:bA X K P C Γ) {x:Str} {i:Nat} (h:Γ.slotL x=some i):X.N[i]?=some x∧L2.rQ X.env.scope x∧Γ.isLoc x=true:=by
 unfold CC.slotL at h;split at h
 ·rename_i hl
  have hN:X.N[i]?=some x:=by
   unfold CC.slot at h;split at h
   ·cases h
   ·split at h
    ·rw [xo.neq]; exact nL h
    ·cases h
  refine ⟨hN, ?_,hl⟩;unfold L2.rQ;rw [xo.nm];unfold CC.isLoc at hl;rw [Bool.or_eq_true,Bool.and_eq_true] at hl;rcases hl with hl | hl
  ·exact .inl (eq_of_beq hl)
  ·exact .inr (eq_of_beq hl.2)
 ·cases h
theorem W9 (xo:bA X K P C Γ) (hfn:∀ x,Γ.isLoc x=true→X.fn x=true∨X.env.scope.names.lookup x=some .local) {x:Str} {i:Nat} {e:Expr} {c:E} {p pos:Pos} (hi:Γ.slotL x=some i) (h:FR X K P C e c):PS X (.Assign [.Name x p] e pos) (tS K P C W (.asg i c)):=by
 obtain ⟨h1,h2,h3⟩:=vS xo hi;refine TS.imp_ps (h x i p pos (by rw [xo.neq]; exact xo.nd) h1 h2 (hfn x h3)) fun D σ H ⟨ρ,G,fl,ρ',r,e,k⟩=>?_
 simp only [ex] at e;obtain ⟨v,ρ1,e1,e2⟩:=f7 e k.ne;unfold jC at e2
 cases q:store i v ρ1 with
 | none=>rw [q] at e2; cases e2
 | some ρ2 =>
  rw [q] at e2;cases e2;exact ⟨ρ,G,v,ρ1,r,e1,fun x H' G' a hv=>k _ H' G' (Aft.store r a q hv)⟩
theorem S8 (po:PassesOwn (model X.prog X.w) X.A X.env X.xe) (xo:bA X K P C Γ) (hfn:∀ x,Γ.isLoc x=true→X.fn x=true∨X.env.scope.names.lookup x=some .local) {tg it:Expr} {body:List Stmt} {pos:Pos} {one:Bool} {is:List Nat} {k0:ItK} {its:List Expr} {cb:List S}
  (ht:jK Γ tg=some (one,is)) (hi:pV Γ it=some (k0,its)) (hfit:kM k0 one=true) (hb:fE X body (qS K P C W cb)):PS X (.For tg it body [] pos) (tS K P C W (.for is one k0 (bT Γ its) cb)):=by
 have hg:=y6 xo hfn ht
 have gen:∀ e:Expr,it=e→xB e=true→some (ItK.of,[e])=some (k0,its)→PS X (.For tg it body [] pos) (tS K P C W (.for is one k0 (bT Γ its) cb)):=fun e he hn hq=>by
  subst he;cases hq;exact rZ po xo hg hb (zR hn _) (PI.or (GJ (cL xo it).h) (J3 (cL xo it).h)) fun σ H R q=>SE xo.keq σ H R q
 unfold pV at hi;split at hi
 ·rename_i f p args pos';split at hi
  ·rename_i hf;have hf:=eq_of_beq hf;subst hf;split at hi
   ·rename_i hgl;split at hi
    ·rename_i hc;cases hi;rw [Bool.and_eq_true] at hc;obtain ⟨h1,h2,h3,h4⟩:=CC.glob_ok xo hgl (fun z=>nomatch z);have hm:=xo.blt _ h2
     match its,hc with
     | [a],hc =>
      have ns:=hc.1;rw [List.all_cons,Bool.and_eq_true] at ns;exact rZ po xo hg hb (fun _=>rfl) (AE h1 hm (n6 xo [a] hc.1) (by rw [bI ns.1]; rfl)) fun σ H R q=>FG σ H R q
     | [a,b],hc =>
      have ns:=hc.1;rw [List.all_cons,Bool.and_eq_true,List.all_cons,Bool.and_eq_true] at ns;exact rZ po xo hg hb (fun _=>rfl) (AJ h1 hm (n6 xo [a,b] hc.1) (by rw [bI ns.1,bI ns.2.1]; rfl) (by rw [bI ns.2.1]; rfl)) fun σ H R q=>GP σ H R q
     | [],hc=>simp at hc
     | _ :: _ :: _ :: _,hc=>simp at hc
    ·cases hi
   ·cases hi
  ·split at hi
   ·rename_i hf;have hf:=eq_of_beq hf;subst hf;split at hi
    ·rename_i hgl;split at hi
     ·rename_i hc;cases hi;rw [Bool.and_eq_true] at hc;obtain ⟨h1,h2,h3,h4⟩:=CC.glob_ok xo hgl (fun z=>nomatch z);have hm:=xo.blt _ h2
      match its,hc with
      | [a],hc =>
       have ns:=hc.1;rw [List.all_cons,Bool.and_eq_true] at ns;obtain ⟨elts,kk,tp,rfl⟩:=sM ht (by simpa [kM] using hfit);exact rZ po xo hg hb (fun _=>rfl) (FT h1 hm (n6 xo [a] hc.1) (by rw [bI ns.1]; rfl)) fun σ H R q=>yB xo.keq σ H R q
      | [],hc=>simp at hc
      | _ :: _ :: _,hc=>simp at hc
     ·cases hi
    ·cases hi
   ·exact gen _ rfl rfl hi
 ·split at hi
  ·rename_i hc;rw [Bool.and_eq_true,Bool.and_eq_true,Bool.and_eq_true] at hc;obtain ⟨⟨⟨hf,hx⟩,ns⟩,h1⟩:=hc;have hf:=eq_of_beq hf;have hx:=eq_of_beq hx;have h1:=eq_of_beq h1;subst hf hx h1;split at hi
   ·rename_i hgl;cases hi;obtain ⟨h1,h2,h3,h4⟩:=CC.glob_ok xo hgl (fun z=>nomatch z);have hm:=xo.blt _ h2;obtain ⟨elts,kk,tp,rfl⟩:=sM ht (by simpa [kM] using hfit);exact rZ po xo hg hb (fun _=>rfl) (QK h1 hm (n6 xo [_] (by rw [List.all_cons,ns]; rfl)) (by rw [bI ns]; rfl)) fun σ H R q=>yB xo.keq σ H R q
   ·cases hi
  ·cases hi
 ·split at hi
  ·exact gen _ rfl ‹_› hi
  ·cases hi
theorem V6 (po:PassesOwn (model X.prog X.w) X.A X.env X.xe) (xo:bA X K P C Γ) (hfn:∀ x,Γ.isLoc x=true→X.fn x=true∨X.env.scope.names.lookup x=some .local) {tg it:Expr} {body:List Stmt} {pos:Pos} {one:Bool} {is:List Nat} {k0:ItK} {its:List Expr} {cb:List S}
  (ht:jK Γ tg=some (one,is)) (hi:pV Γ it=some (k0,its)) (hfit:kM k0 one=true) (hb:fE X body (qS K P C W cb)):PS X (.For tg it body [] pos) (tS K P C W (.for is one k0 (MQ Γ it body (bT Γ its)) cb)):=by
 exact S8 po xo hfn ht hi hfit hb
theorem FN:∀ {cs:List E} {ds:List D} {ρ ρ':Env},jJ P C cs ρ=some (.ok ds,ρ')→ds.length=cs.length
 | [],_,_,_,h=>by simp only [jJ] at h; cases h; rfl
 | c :: cs,ds,ρ,ρ',h=>by
  simp only [jJ] at h;obtain ⟨v,ρ1,_,h⟩:=aJ h;obtain ⟨ds',ρ2,h2,h⟩:=aJ h;cases h;rw [List.length_cons,List.length_cons,FN h2]
theorem WO (xo:bA X K P C Γ) (hfn:∀ x,Γ.isLoc x=true→X.fn x=true∨X.env.scope.names.lookup x=some .local) {x:Str} {i:Nat} {e:Expr} {c:E} {p pos:Pos} (hi:Γ.slotL x=some i) (h:Ok3 X K P C e c):PS X (.AugAssign (.Name x p) .Add e pos) (tS K P C W (.aug i c)):=by
 obtain ⟨h1,h2,h3⟩:=vS xo hi;refine TS.imp_ps (YE (by rw [xo.neq]; exact xo.nd) h1 h2 h.v aBU (hfn x h3)) fun D σ H ⟨ρ,G,fl,ρ',r,e0,k⟩=>?_
 simp only [ex] at e0;unfold HS at e0;split at e0
 case h_2=>cases e0
 rename_i a b ρ1 q1 q2;unfold jC at e0
 cases q3:store i (.sh (.int (a+b))) ρ1 with
 | none=>rw [q3] at e0; cases e0
 | some ρ2 =>
  rw [q3] at e0;cases e0;obtain ⟨v,hv,rv⟩:=r.sh i _ q1;subst rv;refine ⟨.int a,hv,ρ,G,.sh (.int b),ρ1,r,q2,fun y H1 G1 a1 hy=>?_⟩;have hy:y=.int b:=hy;subst hy;exact ⟨a,b,rfl,rfl,k _ _ _ (Aft.store r a1 q3 (by show aD K G1 (.int _) _; simp [aD]))⟩
mutual
theorem Q9 {X:Cx} (po:PassesOwn (model X.prog X.w) X.A X.env X.xe) (xo:bA X K P C Γ) (hfn:∀ x,Γ.isLoc x=true→X.fn x=true∨X.env.scope.names.lookup x=some .local) (sk:Γ.top=true→X.stack=X.env :: X.outer∧X.env.frame=some X.env.locals) (st:Stmt):PS X st (tS K P C W (cS Γ st)):=by
 cases st with
 | Pass _=>exact OH
 | Break _=>exact T8
 | Continue _=>exact VS
 | Return e _ =>
  cases e with
  | some e=>exact TZ (cL xo e)
  | none=>exact O7
 | Expr e _ =>
  show PS X _ (tS K P C W (if b4 e then .expr (cE Γ e) else .bad));split
  ·exact OB (cL xo _) ‹_›
  ·exact bH
 | If c a b _=>exact X2 (cL xo _) (oW po xo hfn sk a) (oW po xo hfn sk b)
 | While c b o _ =>
  cases o with
  | nil=>exact bH
  | cons _ _=>exact bH
 | For tg it b o _ =>
  cases o with
  | nil =>
   show PS X _ (tS K P C W (match jK Γ tg,pV Γ it with
    | some (one,is),some (k,its)=>if kM k one then .for is one k (MQ Γ it b (bT Γ its)) (j4 Γ b) else .bad
    | _,_=>.bad))
   cases h1:jK Γ tg with
   | none=>exact bH
   | some t =>
    cases h2:pV Γ it with
    | none=>exact bH
    | some u =>
     show PS X _ (tS K P C W (if kM u.1 t.1 then .for t.2 t.1 u.1 (MQ Γ it b (bT Γ u.2)) (j4 Γ b) else .bad));split
     ·exact V6 po xo hfn h1 h2 ‹_› (oW po xo hfn sk b)
     ·exact bH
  | cons _ _=>exact bH
 | Assign ts e _ =>
  obtain _ | ⟨t,_ | ⟨_,_⟩⟩:=ts
  ·exact bH
  ·cases t with
   | Name x p =>
    show PS X _ (tS K P C W (match Γ.slotL x with | some i=>if b4 e || DJ e then .asg i (cE Γ e) else .bad | none=>.bad));split
    ·split
     ·rename_i hc;rw [Bool.or_eq_true] at hc;rcases hc with hc | hc
      ·exact U3 xo hfn ‹_› (cL xo _) hc
      ·exact W9 xo hfn ‹_› (X9 xo _ hc)
     ·exact bH
    ·exact bH
   | Tuple ts _ _ =>
    show PS X _ (tS K P C W (match fZ Γ ts with | some is=>if b4 e && r9 e then .asgT is (cE Γ e) else .bad | none=>.bad));split
    ·split
     ·rename_i h;rw [Bool.and_eq_true] at h;exact PJ xo hfn ‹_› (cL xo _) h.1 h.2
     ·exact bH
    ·exact bH
   | Subscript a k _ =>
    cases a with
    | Name x p =>
     show PS X _ (tS K P C W (match Γ.slot x with | some i=>if b4 e && v7 k then .set i (cE Γ k) (cE Γ e) else .bad | none=>.bad));split
     ·split
      ·rename_i h;rw [Bool.and_eq_true] at h;refine SR xo ‹_› (cL xo _) (cL xo _) h.1 fun v=>?_
       have h2:=h.2
       cases k <;> first | rfl | cases h2
      ·exact bH
     ·exact bH
    | _=>exact bH
   | _=>exact bH
  ·cases t with
   | Subscript a _ _=>cases a <;> exact bH
   | _=>exact bH
 | AugAssign t op e _ =>
  cases t with
  | Name x p =>
   cases op with
   | Add =>
    show PS X _ (tS K P C W (match Γ.slotL x with | some i=>if b4 e then .aug i (cE Γ e) else .bad | none=>.bad));split
    ·split
     ·exact WO xo hfn ‹_› (cL xo _)
     ·exact bH
    ·exact bH
   | _=>exact bH
  | _=>exact bH
 | Raise e c _ =>
  cases e with
  | none=>exact bH
  | some e =>
   cases c with
   | none =>
    show PS X _ (tS K P C W (EE Γ e));unfold EE;split
    ·split
     ·split
      ·exact FU fun ρ=>by rw [ex]
      ·exact bH
     ·exact bH
    ·exact bH
   | some _=>exact bH
 | Try body hs o f _ =>
  show PS X _ (tS K P C W (EA Γ (j4 Γ body) hs o f));unfold EA;split
  ·rename_i hof;rw [Bool.and_eq_true] at hof;obtain rfl:=List.isEmpty_iff.mp hof.1;obtain rfl:=List.isEmpty_iff.mp hof.2;split
   ·rename_i x n bd hh;obtain ⟨np,hp,rfl⟩:=T5 hh;split
    ·rename_i hc;rw [Bool.and_eq_true] at hc;obtain ⟨h2,h3⟩:=hc;have h2:=eq_of_beq h2;obtain ⟨s1,s2⟩:=sk h3;split
     ·exact bH
     ·split
      ·exact bH
      ·exact bH
    ·exact bH
   ·split
    ·rename_i h3;obtain ⟨s1,s2⟩:=sk h3;unfold HQ;split
     ·rename_i x st0 hh;obtain ⟨np,k,p1,p2,hp,rfl⟩:=NU hh;split
      ·rename_i cs e1;exact UG xo s1 s2 (fun E pn po'=>oW (X:=Cx.re X E pn) po' xo.re hfn sk body) (fun E pn po'=>oS (X:=Cx.re X E pn) po' xo.re hfn sk body) e1
      ·exact bH
     ·exact bH
    ·exact bH
  ·exact bH
 | _=>exact bH
theorem oW {X:Cx} (po:PassesOwn (model X.prog X.w) X.A X.env X.xe) (xo:bA X K P C Γ) (hfn:∀ x,Γ.isLoc x=true→X.fn x=true∨X.env.scope.names.lookup x=some .local) (sk:Γ.top=true→X.stack=X.env :: X.outer∧X.env.frame=some X.env.locals) (sts:List Stmt):fE X sts (qS K P C W (j4 Γ sts)):=by
 cases sts with
 | nil=>exact QW
 | cons s r=>exact MM (Q9 po xo hfn sk s) (oW po xo hfn sk r)
theorem aBT {X:Cx} (po:PassesOwn (model X.prog X.w) X.A X.env X.xe) (xo:bA X K P C Γ) (hfn:∀ x,Γ.isLoc x=true→X.fn x=true∨X.env.scope.names.lookup x=some .local) (sk:Γ.top=true→X.stack=X.env :: X.outer∧X.env.frame=some X.env.locals) (st:Stmt):PS X st (rG X K P C W (cS Γ st)):=by
 have no:∀ {st:Stmt} (c:S),(∀ ρ,fJ P C W c ρ=none)→PS X st (rG X K P C W c):=fun c h pins s σ H D I ⟨ρ,G,x,ρ',r,e,k⟩=>by rw [h] at e; cases e
 have bad:∀ {st:Stmt},PS X st (rG X K P C W .bad):=no .bad fun ρ=>by rw [fJ] <;> intros <;> contradiction
 cases st with
 | Pass _=>exact no .pass fun ρ=>by rw [fJ] <;> intros <;> contradiction
 | Break _=>exact no .brk fun ρ=>by rw [fJ] <;> intros <;> contradiction
 | Continue _=>exact no .cnt fun ρ=>by rw [fJ] <;> intros <;> contradiction
 | Return e _ =>
  cases e with
  | none=>exact no .retN fun ρ=>by rw [fJ] <;> intros <;> contradiction
  | some e=>exact TS.imp_ps (x8 (sD xo e)) fun D σ H ⟨ρ,G,x,ρ',r,e0,k⟩=>⟨ρ,G,x,ρ',r,(show fJ P C W (.ret (cE Γ e)) ρ=some (x,ρ') from e0),k⟩
 | Expr e _ =>
  show PS X _ (rG X K P C W (if b4 e then .expr (cE Γ e) else .bad));split
  ·exact TS.imp_ps (FP (sD xo e) (pF ‹_› _ _ _)) fun D σ H ⟨ρ,G,x,ρ',r,e0,k⟩=>⟨ρ,G,x,ρ',r,by simpa only [fJ] using e0,k⟩
  ·exact bad
 | If c a b _ =>
  refine TS.imp_ps (RC (cL xo c).t (oS po xo hfn sk a) (oS po xo hfn sk b)) fun D σ H ⟨ρ,G,x,ρ',r,e0,k⟩=>?_
  replace e0:fJ P C W (.ifs (cE Γ c) (j4 Γ a) (j4 Γ b)) ρ=some (x,ρ'):=e0;simp only [fJ] at e0;split at e0
  ·rename_i ρ1 q;exact ⟨ρ,G,true,ρ1,r,q,fun H1 G1 a1=>⟨ρ1,G1,x,ρ',a1.rel,e0,k.pre (Aft.s r a1)⟩⟩
  ·rename_i ρ1 q;exact ⟨ρ,G,false,ρ1,r,q,fun H1 G1 a1=>⟨ρ1,G1,x,ρ',a1.rel,e0,k.pre (Aft.s r a1)⟩⟩
  ·cases e0
 | While c b o _ =>
  cases o with
  | nil=>exact bad
  | cons _ _=>exact bad
 | For tg it b o _ =>
  cases o with
  | nil =>
   show PS X _ (rG X K P C W (match jK Γ tg,pV Γ it with
    | some (one,is),some (k,its)=>if kM k one then .for is one k (MQ Γ it b (bT Γ its)) (j4 Γ b) else .bad
    | _,_=>.bad))
   split
   ·split
    ·exact no (.for _ _ _ _ _) fun ρ=>by rw [fJ] <;> intros <;> contradiction
    ·exact bad
   ·exact bad
  | cons _ _=>exact bad
 | Assign ts e _ =>
  obtain _ | ⟨t,_ | ⟨_,_⟩⟩:=ts
  ·exact bad
  ·cases t with
   | Name x p =>
    show PS X _ (rG X K P C W (match Γ.slotL x with | some i=>if b4 e || DJ e then .asg i (cE Γ e) else .bad | none=>.bad));split
    ·rename_i i hi;split
     ·intro pins s σ H D I ⟨ρ,G,x0,ρ',r,e0,k⟩;simp only [fJ] at e0;obtain ⟨h1,h2,h3⟩:=vS xo hi;rcases DN (D2 e0) with ⟨f,p',a,r',pos',g,rfl,_⟩ | ⟨elt,tg,iter,ifs,sc,pos',rfl,hq⟩
      case inr=>exact aBi xo hq W x i p _ (by rw [xo.neq]; exact xo.nd) h1 h2 (hfn x h3) pins s σ H D I ⟨ρ,G,x0,ρ',r,e0,k⟩
      exact aBI (by rw [xo.neq]; exact xo.nd) h1 h2 (sD xo _) (pF rfl _ _ _) (hfn x h3) pins s σ H D I ⟨ρ,G,x0,ρ',r,e0,k⟩
     ·exact bad
    ·exact bad
   | Tuple ts _ _ =>
    show PS X _ (rG X K P C W (match fZ Γ ts with | some is=>if b4 e && r9 e then .asgT is (cE Γ e) else .bad | none=>.bad));split
    ·split
     ·exact no (.asgT _ _) fun ρ=>by rw [fJ] <;> intros <;> contradiction
     ·exact bad
    ·exact bad
   | Subscript a k _ =>
    cases a with
    | Name x p =>
     show PS X _ (rG X K P C W (match Γ.slot x with | some i=>if b4 e && v7 k then .set i (cE Γ k) (cE Γ e) else .bad | none=>.bad));split
     ·split
      ·exact no (.set _ _ _) fun ρ=>by rw [fJ] <;> intros <;> contradiction
      ·exact bad
     ·exact bad
    | _=>exact bad
   | _=>exact bad
  ·cases t with
   | Subscript a _ _=>cases a <;> exact bad
   | _=>exact bad
 | AugAssign t op e _ =>
  cases t with
  | Name x p =>
   cases op with
   | Add =>
    show PS X _ (rG X K P C W (match Γ.slotL x with | some i=>if b4 e then .aug i (cE Γ e) else .bad | none=>.bad));split
    ·split
     ·exact no (.aug _ _) fun ρ=>by rw [fJ] <;> intros <;> contradiction
     ·exact bad
    ·exact bad
   | _=>exact bad
  | _=>exact bad
 | Raise e c _ =>
  cases e with
  | none=>exact bad
  | some e =>
   cases c with
   | none =>
    show PS X _ (rG X K P C W (EE Γ e));unfold EE;split
    ·rename_i x np args cpos;split
     ·rename_i hc;split
      ·rename_i hg;rw [Bool.and_eq_true] at hc;obtain ⟨h1,h2,h3,h4⟩:=CC.glob_ok xo hg (fun z=>nomatch z);obtain ⟨Ca,c1,c2,c3⟩:=(xo.exc x h2).ex;have hK:=xo.keq;obtain _ | ⟨a,d9⟩:=args
       ·simp at hc
       ·have ns:=hc.1;rw [List.all_cons,Bool.and_eq_true] at ns;refine TS.imp_ps (N2 xo.hh h1 c2 (by rw [hK]; exact c3.q) (T4 xo (a :: d9) hc.1) h3 (bI ns.1 _ _) (dX ns.2 _ _).1) fun D σ H ⟨ρ,G,x0,ρ',r,e0,k⟩=>?_
        simp only [fJ] at e0;split at e0
        ·rename_i ds ρ1 q;cases e0;refine ⟨ρ,G,ds,_,r,q,fun xs H1 G1 a1 rx=>⟨?_,fun pins b s' I' F=>k pins σ H1 G1 s' b Ca (Aft.s r a1) I' F c1 c3⟩⟩;rw [rx.len,FN q,yH,sizeLine_eq]
         have:=hc.2
         simp at this;simp;omega
        ·cases e0
      ·exact bad
     ·exact bad
    ·exact bad
   | some _=>exact bad
 | Try body hs o f _ =>
  show PS X _ (rG X K P C W (EA Γ (j4 Γ body) hs o f));unfold EA RG Q5;split
  ·split
   ·split
    ·split
     ·exact bad
     ·split
      ·exact bad
      ·exact bad
    ·exact bad
   ·split
    ·unfold HQ;split
     ·split
      ·exact no (.tryN _ _) fun ρ=>by rw [fJ] <;> intros <;> contradiction
      ·exact bad
     ·exact bad
    ·exact bad
  ·exact bad
 | _=>exact bad
theorem oS {X:Cx} (po:PassesOwn (model X.prog X.w) X.A X.env X.xe) (xo:bA X K P C Γ) (hfn:∀ x,Γ.isLoc x=true→X.fn x=true∨X.env.scope.names.lookup x=some .local) (sk:Γ.top=true→X.stack=X.env :: X.outer∧X.env.frame=some X.env.locals) (sts:List Stmt):fE X sts (aBr X K P C W (j4 Γ sts)):=by
 cases sts with
 | nil=>exact fun pins s σ H D I ⟨ρ,G,x,ρ',r,e,k⟩=>by simp only [j4,hU] at e; cases e
 | cons st d9 =>
  refine TS.imp_pss (vU (aB2 (Q9 po xo hfn sk st) (aBT po xo hfn sk st)) (oS po xo hfn sk d9)) fun D σ H ⟨ρ,G,x,ρ',r,e0,k⟩=>?_
  simp only [j4,hU] at e0;split at e0
  ·rename_i ρ1 q;exact .inl ⟨ρ,G,.nx,ρ1,r,q,fun σ1 H1 G1 a1=>⟨ρ1,G1,x,ρ',a1.rel,e0,k.pre a1⟩⟩
  ·exact .inr ⟨ρ,G,x,ρ',r,e0,k⟩
end
end
noncomputable def lR (ps:List Str):Nat→List Stmt→Option (List Str)
 | j,[]=>if j=ps.length then some [] else none
 | j,.Assign [.Attribute (.Name s _) f _] (.Name q _) _ :: r=>if ps[0]?=some s∧ps[j]?=some q∧gA s=false∧gA q=false then (lR ps (j+1) r).map (f :: ·) else none
 | _,_=>none
theorem CY {f:Str} {y:V}:∀ {fs:List (Str × V)},f ∉ fs.map (·.1)→gC f y fs=fs ++ [(f,y)]
 | [],_=>rfl
 | (g,x) :: r,h=>by
  rw [List.map_cons,List.mem_cons,not_or] at h;rw [gC,if_neg (fun z=>h.1 z.symm),CY h.2];rfl
theorem aBM {H:Hp} {a:Addr} {o:HO} (h:H a=some o):aV H a o=H:=by
 funext b
 unfold aV;split
 ·rename_i z; rw [z,h]
 ·rfl
theorem z9 {X:Cx} {K:PySem.W.Frag} {ps:List Str} {xs:List V} {a:Addr} {Ca dx:Addr} (hK:X.K=K) (hN:∀ (i:Nat) x,ps[i]?=some x→X.N[i]?=some x∧GU X.env.scope x) (hl:xs.length+1=ps.length) (cl:Cls K Ca):∀ (r:List Stmt) (j:Nat) (ns:List Str),lR ps j r=some ns→1≤j →
  ∃ t,fE X r t∧∀ (D:Ends) (σ:L2.St) (H:Hp) (fs:List (Str × V)),(∀ (i:Nat) v,(V.ref a :: xs)[i]?=some v→σ[i]?=some (some v))→H a=some (.ins Ca dx fs)→(∀ f∈ns,kO K Ca f)→(fs.map (·.1) ++ ns).Nodup→fs.length+ns.length<1000 →
   D.nx σ (aV H a (.ins Ca dx (fs ++ ns.zip (xs.drop (j - 1)))))→t D σ H
 | [],j,ns,h,hj=>by
  unfold lR at h;split at h
  ·rename_i hje;cases h;refine ⟨IU,FX,fun D σ H fs _ ha _ _ _ q=>?_⟩;simp only [List.zip_nil_left,List.append_nil] at q;rw [aBM ha] at q;exact q
  ·cases h
 | st :: r,j,ns,h,hj=>by
  unfold lR at h;split at h
  ·rename_i heq; cases heq
  ·rename_i j _ _ s p1 f p2 q p3 p4 r' heq;cases heq;split at h
   ·rename_i hc;obtain ⟨c1,c2,c3,c4⟩:=hc
    cases q1:lR ps (j+1) r with
    | none=>rw [q1] at h; cases h
    | some ns' =>
     rw [q1] at h;cases h;obtain ⟨t,ht,k⟩:=z9 hK hN hl cl r (j+1) ns' q1 (by omega);simp only [gA,Bool.or_eq_false_iff] at c3 c4;have v0:=DX (X:=X) (pos:=p1) (hN 0 s c1).1 (hN 0 s c1).2 c3.1.1 c3.1.2;have v1:=DX (X:=X) (pos:=p3) (hN j q c2).1 (hN j q c2).2 c4.1.1 c4.1.2;refine ⟨_,vU (XJ v0 v1 rfl) ht,fun D σ H fs hσ ha hn D8 hlt qq=>?_⟩;have hj2:j<ps.length:=(List.getElem?_eq_some_iff.mp c2).1;obtain ⟨j',rfl⟩:∃ j',j=j'+1:=⟨j - 1,by omega⟩
     have hxl:j'<xs.length:=by omega
     have hx:(V.ref a :: xs)[j'+1]?=some xs[j']:=by simp [hxl]
     have hnf:f ∉ fs.map (·.1):=fun z=>by
      have:=(List.nodup_append.mp D8).2.2 f z f (by simp)
      exact this rfl
     refine ⟨_,hσ _ _ hx,.ref a,hσ 0 _ rfl,a,Ca,dx,fs,rfl,ha,by rw [hK]; exact cl,by rw [hK]; exact hn f (by simp),by simp at hlt; omega, ?_⟩;rw [CY hnf];refine k D σ _ _ hσ bC (fun g hg=>hn g (List.mem_cons_of_mem _ hg)) ?_ ?_ ?_
     ·simpa using D8
     ·simp at hlt ⊢; omega
     ·rw [FE]
      have e:fs ++ (f :: ns').zip (xs.drop (j'+1 - 1))=fs ++ [(f,xs[j'])] ++ ns'.zip (xs.drop (j'+1+1 - 1)):=by
       rw [show j'+1 - 1=j' from rfl,show j'+1+1 - 1=j'+1 from rfl,List.drop_eq_getElem_cons hxl,List.zip_cons_cons,List.append_assoc];rfl
      rw [← e];exact qq
   ·cases h
  ·cases h
theorem GN {Pr:Program} {w:World} {K:PySem.W.Frag} {mg:Str→Option Value} {base:Heap} {y qual:Str} {st:Stmt} {fa:Addr} {fd:FuncData} {N ps ns:List Str} (F:Fun K y qual st fa fd) (S:FnScope N ps (aT st)) (hb:lR ps 1 (bU st)=some ns) (hp:ps.length=ns.length+1) (D8:ns.Nodup) (hlt:ns.length<1000) :
  FnOk Pr w K mg base sL 1 fa fd ps (K2 K ns):=by
 refine F.ok S (fun vs H Q E h=>?_) fun cdv A outer s H vs Q E hr h=>?_
 ·obtain ⟨a,Ca,dx,xs,rfl,h1,_⟩:=h;rw [List.length_cons,h1,hp]
 ·obtain ⟨a,Ca,dx,xs,rfl,h1,h2,h3,q⟩:=h
  have hNN:∀ (i:Nat) x,ps[i]?=some x→N[i]?=some x∧GU (aT st) x:=fun i x hx=>by
   have hm:x∈ps:=List.mem_of_getElem? hx;refine ⟨?_, ?_⟩
   ·have:=S.pre
    rw [← this,List.getElem?_take] at hx;split at hx
    ·exact hx
    ·cases hx
   ·rcases S.par x hm with z | z
    ·exact .inl z
    ·exact .inr (.inl z)
  obtain ⟨t,ht,k⟩:=z9 (X:=(kD sL Pr w K mg base N qual (aT st) fa cdv A outer s H E).nox) (K:=K) (ps:=ps) (xs:=xs) (a:=a) (Ca:=Ca) (dx:=dx) rfl hNN (by omega) h3.cl (bU st) 1 ns hb (Nat.le_refl _)
  ·refine ⟨t,ht,k _ _ H [] (fun i v hv=>?_) h2 h3.no (by simpa using D8) (by simpa using hlt) ?_⟩
   ·have hl:i<(V.ref a :: xs).length:=(List.getElem?_eq_some_iff.mp hv).1;rw [sY hl,List.getElem?_map,hv];rfl
   ·simpa using q
structure EntB (K:PySem.W.Frag) (T:fX) (gl:Str→GV) (f:String) (fa:Addr) (fd:FuncData) (ps:List Str):Prop where
 bd:eS K fd ps []
 ex:∃ (y qual:Str) (st:Stmt) (N:List Str) (fn:Fn),Fun K y qual st fa fd∧FnScope N ps (aT st)∧N.Nodup∧T f=some fn∧fn.body=j4 ⟨N,(aT st).names,gl,true⟩ (bU st)∧N.length=fn.pins.length+fn.nl∧ps.length=fn.pins.length
structure Entry (K:PySem.W.Frag) (mg:Str→Option Value) (T:fX) (gl:Str→GV) (x:Str) (f:String) (fa:Addr) (fd:FuncData) (ps:List Str):Prop where
 mgx:mg x=some (.ref fa)
 kp:PySem.W.keepIn K (.ref fa)=true
 b:EntB K T gl f fa fd ps
structure ClsE (K:PySem.W.Frag) (mg:Str→Option Value) (x:Str) (ns:List Str):Prop where
 ex:∃ (Ca fa:Addr) (fd:FuncData) (ps:List Str) (y qual:Str) (st:Stmt) (N:List Str),PySem.W.nsIn K mainGlobals x=some (some (.ref Ca))∧mg x=some (.ref Ca)∧Mk K Ca fa∧ClsF K Ca ns ∧
  Fun K y qual st fa fd∧FnScope N ps (aT st)∧lR ps 1 (bU st)=some ns∧ps.length=ns.length+1∧ns.Nodup∧ns.length<1000∧eS K fd ps []
structure MthE (K:PySem.W.Frag) (T:fX) (gl:Str→GV) (c m:Str) (f:String):Prop where
 ex:∃ (Ca fa:Addr) (fd:FuncData) (ps:List Str),PySem.W.nsIn K mainGlobals c=some (some (.ref Ca))∧Meth K Ca m fa∧EntB K T gl f fa fd ps∧Cls K Ca
structure Globs (K:PySem.W.Frag) (mg:Str→Option Value) (T:fX) (gl:Str→GV):Prop where
 con:∀ x d,gl x=.con d→∃ u v,mg x=some u∧a7 v u∧∀ G,aD K G d v
 blt:∀ x,gl x=.blt→mg x=none
 fn:∀ x f,gl x=.fn f→∃ fa fd ps,Entry K mg T gl x f fa fd ps
 cls:∀ x ns,gl x=.cls ns→ClsE K mg x ns
 mth:∀ m tb c f,gl (rD m)=.mth tb→tb.lookup c=some f→MthE K T gl c m f
 sub:∀ x s n,gl (col x)=.sub s n→SubAt K mg x s n
 subx:∀ x s n,gl (col x)=.subx s n→SubX K mg x s n
 exc:∀ x,gl x=.exc→ExcAt K mg x
 exs:∀ x cs,gl (AD x)=.exs cs→ExsAt K mg x cs
theorem BO {b:Bool} {o:Option (Exc × Env)} {as as':List Sl} {v:RV} (h:(if b=true then (match o with | some (x,ρ)=>(some (Out.ex x,back as ρ):aE RV) | none=>none) else none)=some (.ok v,as')):False:=by
 split at h
 ·split at h <;> cases h
 ·cases h
theorem mO {Pr:Program} {w:World} {K:PySem.W.Frag} {mg:Str→Option Value} {base:Heap} {T:fX} {gl:Str→GV} (W:Nat) (g:Globs K mg T gl):∀ (d:Nat) (f:String) (fa:Addr) (fd:FuncData) (ps:List Str),
  EntB K T gl f fa fd ps→FnOk Pr w K mg base sL (d+2) fa fd ps (K0 K (T.pins f).length (run T W d f))∧FnOk Pr w K mg base (uH Pr w) (d+2) fa fd ps (spX K (T.pins f).length (run T W d f))
 | 0,f,fa,fd,ps,e=>⟨⟨fun vs H Q E h=>by obtain ⟨_,as,G,v,as',_,_,z,_⟩:=h; simp [run] at z,fun A outer s H args us vs Q E _ _ _ _ h=>by obtain ⟨_,as,G,v,as',_,_,z,_⟩:=h; simp [run] at z⟩,
  ⟨fun vs H Q E h=>by obtain ⟨_,as,G,v,as',_,_,z,_⟩:=h; simp [run] at z,fun A outer s H args us vs Q E _ _ _ _ h=>by obtain ⟨_,as,G,v,as',_,_,z,_⟩:=h; simp [run] at z⟩⟩
 | d+1,f,fa,fd,ps,e=>by
  obtain ⟨y,qual,st,N,fn,F,S,nd,hT,hb,hN,hps⟩:=e.ex;have hpin:T.pins f=fn.pins:=by unfold fX.pins; rw [hT]
  refine ⟨F.ok S (fun vs H Q E h=>by rw [h.1,hpin,hps]) fun cdv A outer s H vs Q E hr h=>?_, ?_⟩
  ·obtain ⟨hl,as,G,v,as',rel,hal,er,k⟩:=h
   let X:Cx:=(kD sL Pr w K mg base N qual (aT st) fa cdv A outer s H E).nox
   let Γ:CC:=⟨N,(aT st).names,gl,true⟩
   have xo:bA X K T.pins (run T W d) Γ:=by
    refine bA.of rfl rfl rfl nd rfl hr.hd hr.units g.con g.blt (fun x' f' hx=>?_) (fun x' ns hx=>?_) (fun m tb c f' h1 h2=>?_) (hr.mono (by omega)) g.sub g.subx g.exc g.exs (fun x' f' hx=>?_) ⟨_,_,_,rfl,rfl,rfl⟩
    ·obtain ⟨fa',fd',ps',e'⟩:=g.fn x' f' hx;exact ⟨fa',fd',ps',d+2,(mO W g d f' fa' fd' ps' e'.b).1,hr,e'.mgx,e'.kp,e'.b.bd⟩
    ·obtain ⟨Ca,fa',fd',ps',y',qual',st',N',h1,h2,h3,h4,h5,h6,h7,h8,h9,h10,h11⟩:=(g.cls x' ns hx).ex;exact ⟨Ca,fa',fd',ps',h1,h2,h3,h4,GN h5 h6 h7 h8 h9 h10,h11⟩
    ·obtain ⟨Ca,fa',fd',ps',h3,h4,e',hcl⟩:=(g.mth m tb c f' h1 h2).ex;exact ⟨Ca,fa',fd',ps',d+2,h3,h4,(mO W g d f' fa' fd' ps' e').1,hr,e'.bd,hcl⟩
    ·obtain ⟨fa',fd',ps',e'⟩:=g.fn x' f' hx;exact ⟨fa',fd',ps',d+2,(mO W g d f' fa' fd' ps' e'.b).2,hr,e'.mgx,e'.kp,e'.b.bd⟩
   refine ⟨_,oW (W:=W) (X:=X) (Γ:=Γ) PassesOwn.never xo (fun _ _=>.inl rfl) (fun _=>⟨rfl,rfl⟩) (bU st), ?_⟩;simp only [run,hT] at er;split at er
   ·rename_i hc;rw [hb] at er;have hNa:N.length=as.length+fn.nl:=by rw [hN,hc.1]
    have hpad:=rel.pad hNa
    cases q:exs T.pins (run T W d) W (j4 ⟨N,(aT st).names,gl,true⟩ (bU st)) (as ++ List.replicate fn.nl .un) with
    | none=>rw [q] at er; exact (BO er).elim
    | some y =>
     obtain ⟨fl,ρ'⟩:=y;rw [q] at er;refine ⟨as ++ List.replicate fn.nl .un,G,fl,ρ',hpad.1,q, ?_⟩
     cases fl with
     | nx =>
      cases er;intro σ' H' G' a;obtain ⟨b1,b2⟩:=mG rel hc.2 hNa a;exact k .non H' G' b1 (by show aD K G' .non _; simp [aD])
     | rt v' =>
      cases er;intro x' σ' H' G' a hv;obtain ⟨b1,b2⟩:=mG rel hc.2 hNa a;refine k x' H' G' b1 ?_
      cases v with
      | sh d0=>exact hv
      | ow d0 =>
       obtain ⟨c,rfl,gc,oc,nc,mc⟩:=hv;refine ⟨c,rfl,gc,oc,fun z=>nc (b2 c z), ?_⟩;rcases mc with mc | mc
       ·have:=hpad.2 c mc
        obtain ⟨i,d1,p1,l1,h1,h2⟩:=this;refine absurd ?_ nc
        apply b2 c
        have hp:=List.all_eq_true.mp hc.2 _ (List.mem_of_getElem? h1);simp only [iT] at hp;subst hp
        have:=b1.evo i
        rw [h1] at this
        cases q3:(back as ρ')[i]? with
        | none=>rw [q3] at this; exact this.elim
        | some s =>
         rw [q3] at this
         cases s with
         | ow d2 p2 l2=>exact ⟨i,d2,p2,l2,q3,h2⟩
         | sh d2=>exact absurd (show true=false from this) (by simp)
         | un=>exact this.elim
         | mv=>exact this.elim
       ·exact mc
     | bk=>exact (BO er).elim
     | ct=>exact (BO er).elim
     | ex x'=>exact (BO er).elim
   ·cases er
  ·obtain ⟨oc,od,kV,doc,pm,an,cdv,ct,osl,rfl,lk,hcd⟩:=F.ex;refine RZ lk hcd S (fun vs H Q E h=>by rw [h.1,hpin,hps]) fun A outer s H vs Q E hr h=>?_
   obtain ⟨hl,as,G,x0,as',rel,hal,er,k⟩:=h
   let X:Cx:=kD (uH Pr w) Pr w K mg base N qual (aT st) fa cdv A outer s H E
   let Γ:CC:=⟨N,(aT st).names,gl,true⟩
   have xo:bA X K T.pins (run T W d) Γ:=by
    refine bA.of rfl rfl rfl nd rfl hr.hd hr.units g.con g.blt (fun x' f' hx=>?_) (fun x' ns hx=>?_) (fun m tb c f' h1 h2=>?_) (hr.mono (by omega)) g.sub g.subx g.exc g.exs (fun x' f' hx=>?_) ⟨_,_,_,rfl,rfl,rfl⟩
    ·obtain ⟨fa',fd',ps',e'⟩:=g.fn x' f' hx;exact ⟨fa',fd',ps',d+2,(mO W g d f' fa' fd' ps' e'.b).1,hr,e'.mgx,e'.kp,e'.b.bd⟩
    ·obtain ⟨Ca,fa',fd',ps',y',qual',st',N',h1,h2,h3,h4,h5,h6,h7,h8,h9,h10,h11⟩:=(g.cls x' ns hx).ex;exact ⟨Ca,fa',fd',ps',h1,h2,h3,h4,GN h5 h6 h7 h8 h9 h10,h11⟩
    ·obtain ⟨Ca,fa',fd',ps',h3,h4,e',hcl⟩:=(g.mth m tb c f' h1 h2).ex;exact ⟨Ca,fa',fd',ps',d+2,h3,h4,(mO W g d f' fa' fd' ps' e').1,hr,e'.bd,hcl⟩
    ·obtain ⟨fa',fd',ps',e'⟩:=g.fn x' f' hx;exact ⟨fa',fd',ps',d+2,(mO W g d f' fa' fd' ps' e'.b).2,hr,e'.mgx,e'.kp,e'.b.bd⟩
   refine ⟨_,oS (W:=W) (X:=X) (Γ:=Γ) PassesOwn.leaving xo (fun _ _=>.inl rfl) (fun _=>⟨rfl,rfl⟩) (bU st), ?_⟩;simp only [run,hT] at er;split at er
   ·rename_i hc;rw [hb] at er;have hNa:N.length=as.length+fn.nl:=by rw [hN,hc.1]
    have hpad:=rel.pad hNa;split at er
    ·cases er
    ·cases er
    ·split at er
     ·split at er
      ·rename_i x1 ρ' q;cases er;refine ⟨as ++ List.replicate fn.nl .un,G,x0,ρ',hpad.1,q,fun pins' σ' H' G' s' a Ca aft I' F' hcl hg=>?_⟩;obtain ⟨b1,b2⟩:=mG rel hc.2 hNa aft;exact NJ I' F' (k H' G' Ca b1 hcl hg)
      ·cases er
     ·cases er
   ·cases er
noncomputable def cT (st:Stmt):List Str:=(eK st).args.map (·.arg)
noncomputable def wN (st:Stmt):List Str:=cT st ++ (((aT st).names.filter fun y=>(y.2 == .local || y.2 == .cell) && !(cT st).contains y.1).map (·.1))
noncomputable def CG (gl:Str→GV) (st:Stmt):List S:=j4 ⟨wN st,(aT st).names,gl,true⟩ (bU st)
structure MthAt (K:PySem.W.Frag) (x m qual:Str) (st:Stmt):Prop where
 ex:∃ (Ca f:Addr) (oc:Value) (od an:Option Addr) (kV doc pm cdv ct:Value) (osl:Array (Option Value)),PySem.W.nsIn K mainGlobals x=some (some (.ref Ca))∧PySem.W.findIn K (.ref Ca) m=some (some (.ref f))∧PySem.W.isFn K (.ref f)=true ∧
  K.lookup f=some ⟨oc,od,.func (PySem.W.fnOf m qual (eK st) (bU st) (aT st) .none kV doc pm an cdv ct),osl⟩∧PySem.W.codeIn K cdv qual=true∧PySem.W.keepIn K (.ref f)=true
theorem cI {K:PySem.W.Frag} {x m qual:Str} {st:Stmt} {Ca f:Addr} {oc:Value} {od an:Option Addr} {kV doc pm cdv ct:Value} {osl:Array (Option Value)} (a:PySem.W.nsIn K mainGlobals x=some (some (.ref Ca))) (b:PySem.W.findIn K (.ref Ca) m=some (some (.ref f))) (i:PySem.W.isFn K (.ref f)=true)
  (l:K.lookup f=some ⟨oc,od,.func (PySem.W.fnOf m qual (eK st) (bU st) (aT st) .none kV doc pm an cdv ct),osl⟩) (c:PySem.W.codeIn K cdv qual=true) (k:PySem.W.keepIn K (.ref f)=true):MthAt K x m qual st :=
 ⟨Ca,f,oc,od,an,kV,doc,pm,cdv,ct,osl,a,b,i,l,c,k⟩
structure ClsAt (K:PySem.W.Frag) (x:Str):Prop where
 ex:∃ Ca:Addr,PySem.W.nsIn K mainGlobals x=some (some (.ref Ca))∧Cls K Ca∧PySem.W.makesIn K Ca=true∧PySem.W.keepIn K (.ref Ca)=true
theorem mR {K:PySem.W.Frag} {x:Str} {Ca:Addr} (a:PySem.W.nsIn K mainGlobals x=some (some (.ref Ca))) (pg:PySem.W.plainGet K Ca Str.empty=true) (hd:PySem.W.hasDictIn K Ca=true) (po:PySem.W.plainOver K Ca=true)
  (sa:PySem.W.findIn K (.ref Ca) "__setattr__"=some (some (.builtin "object.__setattr__"))) (mk:PySem.W.makesIn K Ca=true) (kp:PySem.W.keepIn K (.ref Ca)=true):ClsAt K x:=⟨Ca,a,⟨pg,hd,po,sa⟩,mk,kp⟩
def jE (K:PySem.W.Frag) (x f:Str):Prop:=∃ Ca:Addr,PySem.W.nsIn K mainGlobals x=some (some (.ref Ca))∧PySem.W.findIn K (.ref Ca) f=some none
theorem iA {K:PySem.W.Frag} {x f:Str} {Ca:Addr} (a:PySem.W.nsIn K mainGlobals x=some (some (.ref Ca))) (b:PySem.W.findIn K (.ref Ca) f=some none):jE K x f:=⟨Ca,a,b⟩
structure DefAt (K:PySem.W.Frag) (x:Str) (st:Stmt):Prop where
 ex:∃ (f:Addr) (oc:Value) (od an:Option Addr) (kV doc pm cdv ct:Value) (osl:Array (Option Value)),PySem.W.nsIn K mainGlobals x=some (some (.ref f)) ∧
  K.lookup f=some ⟨oc,od,.func (PySem.W.fnOf x x (eK st) (bU st) (aT st) .none kV doc pm an cdv ct),osl⟩∧PySem.W.codeIn K cdv x=true∧PySem.W.keepIn K (.ref f)=true
theorem bO {K:PySem.W.Frag} {x:Str} {st:Stmt} {f:Addr} {oc:Value} {od an:Option Addr} {kV doc pm cdv ct:Value} {osl:Array (Option Value)} (a:PySem.W.nsIn K mainGlobals x=some (some (.ref f)))
  (l:K.lookup f=some ⟨oc,od,.func (PySem.W.fnOf x x (eK st) (bU st) (aT st) .none kV doc pm an cdv ct),osl⟩) (c:PySem.W.codeIn K cdv x=true) (k:PySem.W.keepIn K (.ref f)=true):DefAt K x st :=
 ⟨f,oc,od,an,kV,doc,pm,cdv,ct,osl,a,l,c,k⟩
structure DefOkQ (gl:Str→GV) (st:Stmt) (x qual:Str) (fn:Fn):Prop where
 sc:FnScope (wN st) (cT st) (aT st)
 body:fn.body=CG gl st
 len:(wN st).length=fn.pins.length+fn.nl
 pl:(cT st).length=fn.pins.length
 bind:∀ (kV doc pm:Value) (an:Option Addr) (cdv ct:Value) (us:List Value),us.length=(cT st).length→bindArgs (PySem.W.fnOf x qual (eK st) (bU st) (aT st) .none kV doc pm an cdv ct) ⟨us,[]⟩=pure ((cT st).zip us)
abbrev bW (gl:Str→GV) (st:Stmt) (x:Str) (fn:Fn):Prop:=DefOkQ gl st x x fn
theorem yQ {K:PySem.W.Frag} {T:fX} {gl:Str→GV} {x qual:Str} {f:String} {st:Stmt} {fn:Fn} {fa:Addr} {fd:FuncData} (F:Fun K x qual st fa fd) (O:DefOkQ gl st x qual fn) (hT:T f=some fn):EntB K T gl f fa fd (cT st) :=
 ⟨F.binds O.bind,x,qual,st,wN st,fn,F,O.sc,O.sc.nd,hT,O.body,O.len,O.pl⟩
theorem d7 {K:PySem.W.Frag} {T:fX} {gl:Str→GV} {x m qual:Str} {f:String} {st:Stmt} {fn:Fn} (A:ClsAt K x) (D:MthAt K x m qual st) (O:DefOkQ gl st m qual fn) (hT:T f=some fn):MthE K T gl x m f:=by
 obtain ⟨Ca,fa,oc,od,an,kV,doc,pm,cdv,ct,osl,a,b,i,l,c,k⟩:=D.ex;obtain ⟨Cb,a',cl,_,_⟩:=A.ex;rw [a] at a'; cases a';exact ⟨Ca,fa,_,cT st,a,⟨b,i,k⟩,yQ (xM (st:=st) l c k) O hT,cl⟩
structure IniOk (st:Stmt) (qual:Str) (ns:List Str):Prop where
 sc:FnScope (wN st) (cT st) (aT st)
 body:lR (cT st) 1 (bU st)=some ns
 pl:(cT st).length=ns.length+1
 nd:ns.Nodup
 lt:ns.length<1000
 bind:∀ (kV doc pm:Value) (an:Option Addr) (cdv ct:Value) (us:List Value),us.length=(cT st).length→bindArgs (PySem.W.fnOf "__init__" qual (eK st) (bU st) (aT st) .none kV doc pm an cdv ct) ⟨us,[]⟩=pure ((cT st).zip us)
theorem mT {K:PySem.W.Frag} {mg:Str→Option Value} {h:Heap} {x qual:Str} {st:Stmt} {ns:List Str} (X:K.In h) (G:h.Ns mainGlobals mg) (A:ClsAt K x) (D:MthAt K x "__init__" qual st) (O:IniOk st qual ns) (N:∀ f∈ns,jE K x f):ClsE K mg x ns:=by
 obtain ⟨Ca,a,cl,mk,kp⟩:=A.ex;obtain ⟨Cb,fa,oc,od,an,kV,doc,pm,cdv,ct,osl,a',b,i,l,c,k⟩:=D.ex;rw [a] at a'; cases a';have F:=xM (st:=st) l c k;refine ⟨Ca,fa,_,cT st,"__init__",qual,st,wN st,a,PySem.W.mg_of X G a,⟨mk,b,i,kp⟩,⟨cl,fun f hf=>?_⟩,F,O.sc,O.body,O.pl,O.nd,O.lt,F.binds O.bind⟩;obtain ⟨Cc,a2,b2⟩:=N f hf;rw [a] at a2; cases a2;exact b2
theorem bB {K:PySem.W.Frag} {mg:Str→Option Value} {h:Heap} {T:fX} {gl:Str→GV} {x:Str} {f:String} {st:Stmt} {fn:Fn} (X:K.In h) (G:h.Ns mainGlobals mg) (D:DefAt K x st) (O:bW gl st x fn) (hT:T f=some fn):∃ fa fd ps,Entry K mg T gl x f fa fd ps:=by
 obtain ⟨fa,oc,od,an,kV,doc,pm,cdv,ct,osl,a,l,c,k⟩:=D.ex;have F:=xM (st:=st) l c k;exact ⟨fa,_,cT st,PySem.W.mg_of X G a,k,yQ F O hT⟩
noncomputable def aX (L:List (Str × GV)) (x:Str):GV:=(L.lookup x).getD .no
theorem eB {α β:Type} [BEq α] [LawfulBEq α]:∀ {L:List (α × β)} {x:α} {v:β},L.lookup x=some v→(x,v)∈L
 | [],_,_,h=>by simp at h
 | (y,w) :: L,x,v,h=>by
  rw [List.lookup_cons] at h;split at h
  ·rename_i hb;cases h;rw [eq_of_beq hb];exact List.mem_cons_self
  ·exact List.mem_cons_of_mem _ (eB h)
theorem fL {L:List (Str × GV)} {x:Str} {v:GV} (h:aX L x=v) (n:v≠.no):(x,v)∈L:=by
 unfold aX at h
 cases q:L.lookup x with
 | none=>rw [q] at h; exact absurd h.symm n
 | some w =>
  rw [q] at h;cases h;exact eB q
def cW (K:PySem.W.Frag) (mg:Str→Option Value) (T:fX) (gl:Str→GV):Str × GV→Prop
 | (x,.cls ns)=>ClsE K mg x ns
 | (x,.mth tb)=>∃ m,x=rD m∧∀ p∈tb,MthE K T gl p.1 m p.2
 | (x,.con d)=>∃ u v,mg x=some u∧a7 v u∧∀ G,aD K G d v
 | (x,.blt)=>mg x=none
 | (x,.fn f)=>∃ fa fd ps,Entry K mg T gl x f fa fd ps
 | (x,.sub s n)=>∃ m,x=col m∧SubAt K mg m s n
 | (x,.subx s n)=>∃ m,x=col m∧SubX K mg m s n
 | (x,.exc)=>ExcAt K mg x
 | (x,.exs cs)=>∃ m,x=AD m∧ExsAt K mg m cs
 | (_,.no)=>True
theorem GF {p:Array Nat} {x y:Str} (h:(⟨p ++ x.cps⟩:Str)=⟨p ++ y.cps⟩):x=y:=by
 have e6:=congrArg Array.toList (congrArg Str.cps h);simp only [Array.toList_append] at e6;have e5:=Array.toList_inj.mp (List.append_cancel_left e6);cases x; cases y;simp only at e5;rw [e5]
theorem PN {K:PySem.W.Frag} {mg:Str→Option Value} {T:fX} {L:List (Str × GV)} (h:∀ p∈L,cW K mg T (aX L) p):Globs K mg T (aX L) :=
 ⟨fun x d e=>h _ (fL e (fun z=>nomatch z)),fun x e=>h _ (fL e (fun z=>nomatch z)),fun x f e=>h _ (fL e (fun z=>nomatch z)),fun x ns e=>h _ (fL e (fun z=>nomatch z)),fun m tb c f e e2=>by
  obtain ⟨m',e3,k⟩:=h _ (fL e (fun z=>nomatch z))
  have:m'=m:=by
   unfold rD at e3;have e4:(#[46] ++ m.cps:Array Nat)=#[46] ++ m'.cps:=congrArg Str.cps e3
   have e5:m.cps=m'.cps:=by
    have e6:=congrArg Array.toList e4;rw [Array.toList_append,Array.toList_append] at e6;exact Array.toList_inj.mp (List.append_cancel_left e6)
   cases m; cases m';simp only at e5;rw [e5]
  subst this;exact k _ (eB e2),fun x s n e=>by
  obtain ⟨m',e3,k⟩:=h _ (fL e (fun z=>nomatch z))
  have:m'=x:=by
   unfold col at e3
   have e5:x.cps=m'.cps:=by
    have e6:=congrArg Array.toList (congrArg Str.cps e3);simp only [Array.toList_append] at e6;exact Array.toList_inj.mp (List.append_cancel_left e6)
   cases x; cases m';simp only at e5;rw [e5]
  subst this;exact k,fun x s n e=>by
  obtain ⟨m',e3,k⟩:=h _ (fL e (fun z=>nomatch z));rw [GF e3];exact k,fun x e=>h _ (fL e (fun z=>nomatch z)),fun x cs e=>by
  obtain ⟨m',e3,k⟩:=h _ (fL e (fun z=>nomatch z));rw [GF e3]
  exact k⟩
theorem f6 {K:PySem.W.Frag} {mg:Str→Option Value} {h:Heap} {T:fX} {gl:Str→GV} {x:Str} {i:Int} {t:Tok} (X:K.In h) (G:h.Ns mainGlobals mg) (a:PySem.W.nsIn K mainGlobals x=some (some (.int i t))):cW K mg T gl (x,.con (.int i)) :=
 ⟨_,.int i,PySem.W.mg_of X G a,⟨t,rfl⟩,fun G=>by simp [aD]⟩
theorem gS {K:PySem.W.Frag} {mg:Str→Option Value} {h:Heap} {T:fX} {gl:Str→GV} {x:Str} (X:K.In h) (G:h.Ns mainGlobals mg) (a:PySem.W.nsIn K mainGlobals x=some none):cW K mg T gl (x,.blt):=PySem.W.mg_none_of X G a
structure KinN (K:PySem.W.Frag) (c x:Str):Prop where
 ex:∃ Ca C:Addr,PySem.W.nsIn K mainGlobals c=some (some (.ref Ca))∧PySem.W.nsIn K mainGlobals x=some (some (.ref C))∧PySem.W.kin_not K Ca C=true
structure KinI (K:PySem.W.Frag) (c x:Str):Prop where
 ex:∃ Ca C:Addr,PySem.W.nsIn K mainGlobals c=some (some (.ref Ca))∧PySem.W.nsIn K mainGlobals x=some (some (.ref C))∧PySem.W.isIn K (.ref Ca) C=true
structure KinC (K:PySem.W.Frag) (c:Str):Prop where
 ex:∃ D:Addr,PySem.W.nsIn K mainGlobals c=some (some (.ref D))∧PySem.W.plainGet K D "__class__"=true∧PySem.W.hasDictIn K D=true∧PySem.W.findIn K (.ref D) "__class__"=some (some (.builtin "object.__class__")) ∧
  PySem.W.specialIn K (.builtin "object.__class__") "__get__"=some (some (.builtin "getset_descriptor.__get__"))∧PySem.W.takesIn K (.builtin "object.__class__")=some true∧PySem.W.mroIn K D (.type "object")=some true
structure KinX (K:PySem.W.Frag) (x:Str):Prop where
 ex:∃ C:Addr,PySem.W.nsIn K mainGlobals x=some (some (.ref C))
structure ExcK (K:PySem.W.Frag) (x:Str):Prop where
 ex:∃ C:Addr,PySem.W.nsIn K mainGlobals x=some (some (.ref C))∧ExcG K C
theorem VR {K:PySem.W.Frag} {x:Str} {C:Addr} (a:PySem.W.nsIn K mainGlobals x=some (some (.ref C))) (q:PySem.W.excIn K C uZ "ValueError.__new__"=true) (ga:PySem.W.findIn K (.ref C) "__getattribute__"=some (some (.builtin "BaseException.__getattribute__"))) (no:PySem.W.findIn K (.ref C) "__getattr__"=some none)
  (cl:PySem.W.findIn K (.ref C) "__class__"=some (some (.builtin "object.__class__"))) (gt:PySem.W.specialIn K (.builtin "object.__class__") "__get__"=some (some (.builtin "getset_descriptor.__get__"))) (tk:PySem.W.takesIn K (.builtin "object.__class__")=some true)
  (mo:PySem.W.mroIn K C (.type "object")=some true) (mb:PySem.W.mroIn K C (.type "BaseException")=some true) (mv:PySem.W.mroIn K C (.type "ValueError")=some true):ExcK K x:=⟨C,a,q,ga,no,cl,gt,tk,mo,mb,mv⟩
structure MroK (K:PySem.W.Frag) (c x:Str):Prop where
 ex:∃ C D:Addr,PySem.W.nsIn K mainGlobals c=some (some (.ref C))∧PySem.W.nsIn K mainGlobals x=some (some (.ref D))∧PySem.W.mroIn K C (.ref D)=some true
theorem UK {K:PySem.W.Frag} {c x:Str} {C D:Addr} (a:PySem.W.nsIn K mainGlobals c=some (some (.ref C))) (b:PySem.W.nsIn K mainGlobals x=some (some (.ref D))) (m:PySem.W.mroIn K C (.ref D)=some true):MroK K c x:=⟨C,D,a,b,m⟩
theorem aBj {K:PySem.W.Frag} {mg:Str→Option Value} {h:Heap} {T:fX} {gl:Str→GV} {x:Str} (X:K.In h) (G:h.Ns mainGlobals mg) (A:ExcK K x):cW K mg T gl (x,.exc):=by
 obtain ⟨C,a,g⟩:=A.ex;exact ⟨C,a,PySem.W.mg_of X G a,g⟩
theorem aBx {K:PySem.W.Frag} {mg:Str→Option Value} {h:Heap} {T:fX} {gl:Str→GV} {x:Str} {cs:List Str} (X:K.In h) (G:h.Ns mainGlobals mg) (A:ExcK K x) (M:∀ c∈cs,MroK K c x):cW K mg T gl (AD x,.exs cs):=by
 obtain ⟨D,a,g⟩:=A.ex;refine ⟨x,rfl,D,PySem.W.mg_of X G a,g.q,fun c hc C e=>?_⟩;obtain ⟨C',D',e1,e2,k⟩:=(M c hc).ex;rw [e] at e1; cases e1;rw [a] at e2; cases e2;exact k
theorem QY {l:PySem.W.OpenLaw} {q:Program} {loose:List Str} {XP:(Str→Option Value)→Heap→Prop} {YP:World→Heap→Prop} {d:DefRec} {K:Params→PySem.W.Frag} {T:fX} {L:List (Str × GV)} {st:Stmt} {fn:Fn} {W n:Nat} {x p:Str} {f:String}
  (hn:l.most=some 63) (hdf:d.params.defaults=[]) (hr:Room (n+2) callerA) (hx:d.name=x) (hT:T f=some fn) (O:bW (aX L) st x fn) (hp:cT st=[p])
  (hY:∀ (w:World) (h:Heap),YP w h→(K w.params).In h)
  (F:∀ (w:World) (mg:Str→Option Value) (h:Heap),(K w.params).In h→h.Ns mainGlobals mg→DefAt (K w.params) x st∧∀ p∈L,cW (K w.params) mg T (aX L) p)
  (M:∀ ns:List Int,ns.length≤63→∃ as',run T W n f [.sh (.lst (ns.map .int))]=some (.ok (.sh (.bl true)),as')) :
  PySem.W.WalkO q loose XP YP l.row.toRowW d [] (fun f vs=>PySem.call f vs):=by
 refine L2.UZ (n:=63) (k:=n+2) (x:=p) (CX:=fun _=>sL) (sp:=fun w=>K0 (K w.params) 1 (run T W n f)) hn (by decide) hdf hr hY (fun w mg fa h KX G hmg=>?_) (fun w H a ns hl hO hS=>?_) fun _ _ _ _ _ z=>z
 ·obtain ⟨D,hG⟩:=F w mg h KX G;have g:=PN hG;obtain ⟨fa',oc,od,an,kV,doc,pm,cdv,ct,osl,a,lk,c,k⟩:=D.ex;have hm:=PySem.W.mg_of KX G a;rw [hx,hm] at hmg;cases hmg;have Fu:=xM (st:=st) lk c k;have E:Entry (K w.params) mg T (aX L) x f fa _ (cT st):=⟨hm,k,yQ Fu O hT⟩
  have hpins:(T.pins f).length=1:=by
   unfold fX.pins;rw [hT];show fn.pins.length=1;rw [← O.pl,hp];rfl
  refine ⟨PySem.W.fnOf x x (eK st) (bU st) (aT st) .none kV doc pm an cdv ct,fun s u=>?_,fun base kb nb=>?_⟩
  rotate_left
  ·have:=(mO (Pr:=l.prog) (w:=w) (base:=base) W g n f fa _ (cT st) E.b).1
   rw [hpins] at this;rw [hp] at this;exact this
  ·have:=O.bind kV doc pm an cdv ct [u] (by rw [hp]; rfl)
   rw [hp] at this;exact .of_eq this
 ·obtain ⟨as',e⟩:=M ns hl
  have hr1:aB (K w.params) H (ns.map .int) (ns.map V.int):=by
   induction ns with
   | nil=>exact aB.nil
   | cons i r ih=>exact aB.cons (by simp [aD]) (by
     clear e hS hl ih
     induction r with
     | nil=>exact aB.nil
     | cons i r ih=>exact aB.cons (by simp [aD]) ih)
  refine ⟨rfl,[.sh (.lst (ns.map .int))],H,.sh (.bl true),as',Rel.cons_sh (Rel.nil (aM.refl _)) ?_,rfl,e,fun x H' G' _ hv=>tG (K:=K w.params) (G:=G') hv⟩;simp only [aD];exact ⟨a,_,rfl,hS,hr1⟩
end CI
namespace CI
open PySem (Operator CmpOp)
noncomputable section
variable {α β:Type} {P:aK} {C:Calls} {W:Nat} {t:Bool} {ρ ρ1 ρ2:Env}
theorem aC5 {a:α} {f:α→Env→aE β}:aE.bind (some (.ok a,ρ)) f=f a ρ:=rfl
theorem aCA {a:α} {f:α→Env→bN}:aE.flow (some (.ok a,ρ)) f=f a ρ:=rfl
theorem lM {f:Env→bN}:bN.next (some (.nx,ρ)) f=f ρ:=rfl
theorem RM {f:Env→bN} {v:RV}:bN.next (some (.rt v,ρ)) f=some (.rt v,ρ):=rfl
theorem U2:jC (some ρ)=some (.nx,ρ):=rfl
theorem KR {v:RV}:done (some v) ρ=some (.ok v,ρ):=rfl
theorem aEA {d:D}:(RV.sh d).d=d:=rfl
theorem aEj {d:D}:(RV.ow d).d=d:=rfl
theorem aFh {d:D}:(Sl.sh d).get=some d:=rfl
theorem aFg {d:D} {p l:Bool}:(Sl.ow d p l).get=some d:=rfl
theorem aA0 {v:RV}:(Hd.val v).get ρ=some v.d:=rfl
theorem U4 {i:Nat}:(Hd.slot i).get ρ=(ρ[i]?).bind Sl.get:=rfl
noncomputable def kTr (ρ:Env) (o:Option Bool):aE RV:=o.map fun b=>(.ok (.sh (.bl b)),ρ)
theorem NF {b:Bool}:kTr ρ (some b)=some (.ok (.sh (.bl b)),ρ):=rfl
theorem aE3 {r:aE RV}:bJ false r=r:=rfl
theorem aEK {v:RV}:bJ true (some (.ok v,ρ))=kTr ρ (iN v.d):=rfl
noncomputable def kFz (i:Nat) (ρ:Env):Option Sl→aE RV
 | some (.sh d)=>some (.ok (.sh d),ρ)
 | some (.ow d false false)=>some (.ok (.sh d),ρ.set i (.sh d))
 | _=>none
theorem YF {i:Nat} {d:D}:kFz i ρ (some (.sh d))=some (.ok (.sh d),ρ):=rfl
theorem WN {i:Nat}:ev P C false (.var i) ρ=kFz i ρ ρ[i]?:=rfl
theorem aAl {d:D}:ev P C t (.con d) ρ=bJ t (some (.ok (.sh d),ρ)):=rfl
noncomputable def DT (b:Bool) (v:RV) (ρ:Env):aE RV:=if b then some (.ok v,ρ) else none
theorem aCi {v:RV}:DT true v ρ=some (.ok v,ρ):=rfl
theorem hX {n:Nat} (h:n≤1000000):aZ n=true:=@decide_eq_true _ (cl _) h
theorem aE4:aZ 0=true:=hX (by decide)
theorem aEM:aZ 1=true:=hX (by decide)
theorem aEh:aZ 2=true:=hX (by decide)
theorem aFb:aZ 3=true:=hX (by decide)
theorem aEp:aZ 4=true:=hX (by decide)
theorem aE7:aZ 5=true:=hX (by decide)
noncomputable def ZI (ds:List D) (ρ:Env):aE RV:=DT (aZ ds.length) (.sh (.tup ds)) ρ
noncomputable def Z0 (ds:List D) (ρ:Env):aE RV:=DT (aZ ds.length) (.ow (.lst ds)) ρ
theorem aDD {ds:List D}:ZI ds ρ=DT (aZ ds.length) (.sh (.tup ds)) ρ:=rfl
theorem aDq {ds:List D}:Z0 ds ρ=DT (aZ ds.length) (.ow (.lst ds)) ρ:=rfl
theorem aAM {es:List E}:ev P C t (.tup es) ρ=bJ t ((jJ P C es ρ).bind ZI):=rfl
theorem aBm {es:List E}:ev P C t (.lst es) ρ=bJ t ((jJ P C es ρ).bind Z0):=rfl
theorem WS:jJ P C [] ρ=some (.ok [],ρ):=rfl
noncomputable def CP (v:RV) (ds:List D) (ρ:Env):aE (List D):=some (.ok (v.d :: ds),ρ)
noncomputable def LU (P:aK) (C:Calls) (es:List E) (v:RV) (ρ:Env):aE (List D):=(jJ P C es ρ).bind (CP v)
theorem SN {v:RV} {ds:List D}:CP v ds ρ=some (.ok (v.d :: ds),ρ):=rfl
theorem S5 {es:List E} {v:RV}:LU P C es v ρ=(jJ P C es ρ).bind (CP v):=rfl
theorem NZ {e:E} {es:List E}:jJ P C (e :: es) ρ=(ev P C false e ρ).bind (LU P C es):=rfl
theorem NC:cD P C [] ρ=some (.ok [],ρ):=rfl
noncomputable def zB (v:Hd) (ds:List Hd) (ρ:Env):aE (List Hd):=some (.ok (v :: ds),ρ)
noncomputable def F5 (P:aK) (C:Calls) (es:List E) (v:Hd) (ρ:Env):aE (List Hd):=(cD P C es ρ).bind (zB v)
theorem P7 {v:Hd} {ds:List Hd}:zB v ds ρ=some (.ok (v :: ds),ρ):=rfl
theorem N9 {es:List E} {v:Hd}:F5 P C es v ρ=(cD P C es ρ).bind (zB v):=rfl
noncomputable def dM (P:aK) (C:Calls) (e:E) (ρ:Env):aE Hd:=hd e (ev P C false e ρ) ρ
noncomputable def jV (v:RV) (ρ:Env):aE Hd:=some (.ok (.val v),ρ)
theorem aDf {v:RV}:jV v ρ=some (.ok (.val v),ρ):=rfl
noncomputable def RH (i:Nat) (ρ:Env) (b:Bool):aE Hd:=if b then some (.ok (.slot i),ρ) else none
theorem SX {i:Nat}:RH i ρ true=some (.ok (.slot i),ρ):=rfl
theorem V2 {i:Nat}:dM P C (.var i) ρ=RH i ρ ((ρ[i]?).bind Sl.get).isSome:=rfl
theorem TQ {d:D}:dM P C (.con d) ρ=some (.ok (.val (.sh d)),ρ):=rfl
theorem VG {es:List E}:dM P C (.lst es) ρ=(ev P C false (.lst es) ρ).bind jV:=rfl
theorem VT {op:Operator} {a b:E}:dM P C (.bin op a b) ρ=(ev P C false (.bin op a b) ρ).bind jV:=rfl
theorem XC {a:E}:dM P C (.neg a) ρ=(ev P C false (.neg a) ρ).bind jV:=rfl
theorem SI {op:CmpOp} {a b:E}:dM P C (.cmp op a b) ρ=(ev P C false (.cmp op a b) ρ).bind jV:=rfl
theorem OA {op op':CmpOp} {a b c:E}:dM P C (.cmp2 op op' a b c) ρ=(ev P C false (.cmp2 op op' a b c) ρ).bind jV:=rfl
theorem YH {a b:E}:dM P C (.ix a b) ρ=(ev P C false (.ix a b) ρ).bind jV:=rfl
theorem YX {a b c:E}:dM P C (.sl a b c) ρ=(ev P C false (.sl a b c) ρ).bind jV:=rfl
theorem P4 {f:String} {es:List E}:dM P C (.call f es) ρ=(ev P C false (.call f es) ρ).bind jV:=rfl
theorem UW {f:BI} {es:List E}:dM P C (.bif f es) ρ=(ev P C false (.bif f es) ρ).bind jV:=rfl
theorem UT {a:E} {ts:List Ty}:dM P C (.isi a ts) ρ=(ev P C false (.isi a ts) ρ).bind jV:=rfl
theorem PB {elt:E} {tg:List Nat} {k:ItK} {its cond:List E} {imp:List Nat} {nl:Nat}:dM P C (.comp elt tg k its cond imp nl) ρ=(ev P C false (.comp elt tg k its cond imp nl) ρ).bind jV:=rfl
theorem ML {e:E} {es:List E}:cD P C (e :: es) ρ=(dM P C e ρ).bind (F5 P C es):=rfl
noncomputable def JS (op:Operator) (x:Hd) (a b:Option D):Option RV:=a.bind fun d=>b.bind fun e=>if x6 op x d then jX op d e else none
noncomputable def IT (op:Operator) (x y:Hd) (ρ:Env):aE RV:=done (JS op x (x.get ρ) (y.get ρ)) ρ
noncomputable def R7 (P:aK) (C:Calls) (op:Operator) (b:E) (x:Hd) (ρ:Env):aE RV:=(dM P C b ρ).bind (IT op x)
theorem Y6 {op:Operator} {x y:Hd}:IT op x y ρ=done (JS op x (x.get ρ) (y.get ρ)) ρ:=rfl
theorem aAv {op:Operator} {b:E} {x:Hd}:R7 P C op b x ρ=(dM P C b ρ).bind (IT op x):=rfl
theorem aA2 {op:Operator} {a b:E}:ev P C t (.bin op a b) ρ=bJ t ((dM P C a ρ).bind (R7 P C op b)):=rfl
theorem aAP {op:Operator} {x:Hd} {i:Int} {e:D}:JS op x (some (.int i)) (some e)=jX op (.int i) e:=by
 unfold JS x6; cases op <;> rfl
theorem aCt {i j:Int}:jX .Add (.int i) (.int j)=some (.sh (.int (i+j))):=rfl
theorem aCp {i j:Int}:jX .Sub (.int i) (.int j)=some (.sh (.int (i - j))):=rfl
theorem SF {i j:Int} (h:(-(2 ^ 64)<i∧i<2 ^ 64)∨(-(2 ^ 64)<j∧j<2 ^ 64)):jX .Mult (.int i) (.int j)=some (.sh (.int (i*j))):=if_pos h
theorem aBO {i j:Int} (h1:-18446744073709551616<j) (h2:j<18446744073709551616):jX .Mult (.int i) (.int j)=some (.sh (.int (i*j))):=SF (.inr ⟨h1,h2⟩)
theorem aBs {i j:Int} (h1:-18446744073709551616<i) (h2:i<18446744073709551616):jX .Mult (.int i) (.int j)=some (.sh (.int (i*j))):=SF (.inl ⟨h1,h2⟩)
theorem aDv {i j:Int} (h:0<j∧j<100000000000000000000000000000000000000000000000000000000000000000000000000000000):jX .FloorDiv (.int i) (.int j)=some (.sh (.int (i / j))):=if_pos h
theorem aDr {i j:Int} (h:0<j):jX .Mod (.int i) (.int j)=some (.sh (.int (i % j))):=if_pos h
theorem ZQ {j:Int} (h:0≤j) (h2:j≤1000):jX .LShift (.int 1) (.int j)=some (.sh (.int (2 ^ j.toNat))):=by
 show @ite _ _ (cl _) _ _=_;rw [if_pos ⟨h,h2,by decide⟩,Int.one_mul]
theorem aBX {i j:Int} (h:0≤j):jX .RShift (.int i) (.int j)=some (.sh (.int (i / 2 ^ j.toNat))):=if_pos h
theorem aDG {i j:Int}:jX .BitAnd (.int i) (.int j)=some (.sh (.int (PySem.Builtin.bitAnd i j))):=rfl
noncomputable def aAp (v:RV) (ρ:Env):aE RV:=match v.d with
 | .int i=>some (.ok (.sh (.int (-i))),ρ)
 | _=>none
theorem aDg {i:Int}:aAp (.sh (.int i)) ρ=some (.ok (.sh (.int (-i))),ρ):=rfl
theorem aAa {a:E}:ev P C t (.neg a) ρ=bJ t ((ev P C false a ρ).bind aAp):=rfl
noncomputable def RK (v:RV) (ρ:Env):aE RV:=match v with
 | .sh (.bl b)=>some (.ok (.sh (.bl (!b))),ρ)
 | _=>none
theorem XW {b:Bool}:RK (.sh (.bl b)) ρ=some (.ok (.sh (.bl (!b))),ρ):=rfl
theorem WE {a:E}:ev P C true (.not a) ρ=(ev P C true a ρ).bind RK:=rfl
noncomputable def P6 (o:Option D):Option RV:=o.bind fun d=>(iN d).map fun b=>.sh (.bl (!b))
noncomputable def R8 (x:Hd) (ρ:Env):aE RV:=done (P6 (x.get ρ)) ρ
theorem Z6 {x:Hd}:R8 x ρ=done (P6 (x.get ρ)) ρ:=rfl
theorem WW {b:Bool}:P6 (some (.bl b))=some (.sh (.bl (!b))):=rfl
theorem S1 {a:E}:ev P C false (.not a) ρ=(dM P C a ρ).bind R8:=rfl
noncomputable def DF (op:CmpOp) (a b:Option D):Option RV:=a.bind fun d=>b.bind fun e=>(cN op d e).map fun b=>.sh (.bl b)
theorem aDk {op:CmpOp} {d e:D}:DF op (some d) (some e)=(cN op d e).map fun b=>.sh (.bl b):=rfl
noncomputable def NO (op:CmpOp) (a b:Option D):Option Bool:=a.bind fun d=>b.bind fun e=>cN op d e
theorem aCX {op:CmpOp} {d e:D}:NO op (some d) (some e)=cN op d e:=rfl
noncomputable def HJ (op:CmpOp) (x y:Hd) (ρ:Env):aE RV:=done (DF op (x.get ρ) (y.get ρ)) ρ
noncomputable def SG (P:aK) (C:Calls) (op:CmpOp) (b:E) (x:Hd) (ρ:Env):aE RV:=(dM P C b ρ).bind (HJ op x)
theorem X8 {op:CmpOp} {x y:Hd}:HJ op x y ρ=done (DF op (x.get ρ) (y.get ρ)) ρ:=rfl
theorem aBK {op:CmpOp} {b:E} {x:Hd}:SG P C op b x ρ=(dM P C b ρ).bind (HJ op x):=rfl
theorem aAb {op:CmpOp} {a b:E}:ev P C t (.cmp op a b) ρ=(dM P C a ρ).bind (SG P C op b):=rfl
noncomputable def QA (op:CmpOp) (y z:Hd) (ρ:Env):aE RV:=done (DF op (y.get ρ) (z.get ρ)) ρ
theorem aCF {op:CmpOp} {x y:Hd}:QA op x y ρ=done (DF op (x.get ρ) (y.get ρ)) ρ:=rfl
noncomputable def kCh (P:aK) (C:Calls) (op':CmpOp) (y:Hd) (c:E) (ρ:Env):Option Bool→aE RV
 | none=>none
 | some false=>some (.ok (.sh (.bl false)),ρ)
 | some true=>(dM P C c ρ).bind (QA op' y)
theorem aCd {op':CmpOp} {y:Hd} {c:E} {b:Bool}:kCh P C op' y c ρ (some b)=if b=true then (dM P C c ρ).bind (QA op' y) else some (.ok (.sh (.bl false)),ρ):=by cases b <;> rfl
noncomputable def QV (P:aK) (C:Calls) (op op':CmpOp) (c:E) (x y:Hd) (ρ:Env):aE RV:=kCh P C op' y c ρ (NO op (x.get ρ) (y.get ρ))
noncomputable def aAw (P:aK) (C:Calls) (op op':CmpOp) (b c:E) (x:Hd) (ρ:Env):aE RV:=(dM P C b ρ).bind (QV P C op op' c x)
theorem aDi {op op':CmpOp} {c:E} {x y:Hd}:QV P C op op' c x y ρ=kCh P C op' y c ρ (NO op (x.get ρ) (y.get ρ)):=rfl
theorem aDl {op op':CmpOp} {b c:E} {x:Hd}:aAw P C op op' b c x ρ=(dM P C b ρ).bind (QV P C op op' c x):=rfl
theorem T7 {op op':CmpOp} {a b c:E}:ev P C t (.cmp2 op op' a b c) ρ=(dM P C a ρ).bind (aAw P C op op' b c):=rfl
theorem aEu {i j:Int}:cN .Lt (.int i) (.int j)=some (decide (i<j)):=rfl
theorem aEY {i j:Int}:cN .LtE (.int i) (.int j)=some (decide (i≤j)):=rfl
theorem aEc {i j:Int}:cN .Gt (.int i) (.int j)=some (decide (j<i)):=rfl
theorem aEg {i j:Int}:cN .GtE (.int i) (.int j)=some (decide (j≤i)):=rfl
theorem aCe {i j:Int}:cN .Eq (.int i) (.int j)=some (decide (i=j)):=rfl
theorem aDE {i j:Int}:cN .NotEq (.int i) (.int j)=some (!decide (i=j)):=rfl
theorem ZO {d e:D} (h1:bD 20 d=true) (h2:bD 20 e=true):cN .Eq d e=some (fH d e):=by
 show (if (bD 20 d && bD 20 e)=true then some (fH d e) else none)=_;rw [h1,h2]; rfl
theorem aAq {d e:D} (h1:bD 20 d=true) (h2:bD 20 e=true):cN .NotEq d e=some (!fH d e):=by
 show (if (bD 20 d && bD 20 e)=true then some (!fH d e) else none)=_;rw [h1,h2]; rfl
theorem aCs {a b:PySem.Str}:cN .Eq (.str a) (.str b)=some (a == b):=rfl
theorem aC9:cN .Is .non .non=some true:=rfl
theorem aDF {i:Int}:cN .Is (.int i) .non=some false:=rfl
theorem aCY:cN .IsNot .non .non=some false:=rfl
theorem aB8 {i:Int}:cN .IsNot (.int i) .non=some true:=rfl
theorem aEI {b:Bool}:iN (.bl b)=some b:=rfl
noncomputable def aAX (P:aK) (C:Calls) (t:Bool) (b:E) (v:RV) (ρ:Env):aE RV:=match v with
 | .sh (.bl true)=>ev P C t b ρ
 | .sh (.bl false)=>some (.ok (.sh (.bl false)),ρ)
 | _=>none
noncomputable def kOr (P:aK) (C:Calls) (t:Bool) (b:E) (v:RV) (ρ:Env):aE RV:=match v with
 | .sh (.bl true)=>some (.ok (.sh (.bl true)),ρ)
 | .sh (.bl false)=>ev P C t b ρ
 | _=>none
theorem XZ {a b:E}:ev P C t (.and a b) ρ=(ev P C t a ρ).bind (aAX P C t b):=rfl
theorem aDd {a b:E}:ev P C t (.or a b) ρ=(ev P C t a ρ).bind (kOr P C t b):=rfl
theorem aBR {b:E} {x:Bool}:aAX P C t b (.sh (.bl x)) ρ=if x=true then ev P C t b ρ else some (.ok (.sh (.bl false)),ρ):=by cases x <;> rfl
theorem aBY {b:E} {x:Bool}:kOr P C t b (.sh (.bl x)) ρ=if x=true then some (.ok (.sh (.bl true)),ρ) else ev P C t b ρ:=by cases x <;> rfl
noncomputable def gT (a:Option D) (k:D):Option RV:=a.bind fun d=>(KQ d k).map .sh
noncomputable def OD (x:Hd) (k:RV) (ρ:Env):aE RV:=done (gT (x.get ρ) k.d) ρ
noncomputable def XQ (P:aK) (C:Calls) (i:E) (x:Hd) (ρ:Env):aE RV:=(ev P C false i ρ).bind (OD x)
theorem aDb {x:Hd} {k:RV}:OD x k ρ=done (gT (x.get ρ) k.d) ρ:=rfl
theorem aB5 {i:E} {x:Hd}:XQ P C i x ρ=(ev P C false i ρ).bind (OD x):=rfl
theorem aCc {a i:E}:ev P C t (.ix a i) ρ=bJ t ((dM P C a ρ).bind (XQ P C i)):=rfl
theorem aDz {ds:List D} {i:Int} {d:D} (h:L2.cX ds i=some d):gT (some (.tup ds)) (.int i)=some (.sh d):=by
 show (L2.cX ds i).map RV.sh=_;rw [h]; rfl
theorem aBy {ds:List D} {i:Int}:gT (some (.tup ds)) (.int i)=(L2.cX ds i).map RV.sh:=rfl
theorem aAG {ds:List D} {i:Int}:gT (some (.lst ds)) (.int i)=(L2.cX ds i).map RV.sh:=rfl
theorem rR {α:Type} {xs:List α} {n:Nat}:L2.cX xs (OfNat.ofNat n)=xs[n]?:=by
 show L2.cX xs ((n:Nat):Int)=_
 cases h:xs[n]? with
 | some v=>exact L2.oU h
 | none =>
  unfold L2.cX L2.lI
  have:=List.getElem?_eq_none_iff.mp h
  rw [if_pos (by omega),if_neg (by omega)];rfl
theorem ZC {α:Type} {xs:List α}:L2.cX xs 0=xs[0]?:=rR (n:=0)
theorem aFk {α:Type} {xs:List α}:L2.cX xs 1=xs[1]?:=rR (n:=1)
theorem aEy {α:Type} {xs:List α}:L2.cX xs 2=xs[2]?:=rR (n:=2)
theorem aEE {α:Type} {xs:List α}:L2.cX xs 3=xs[3]?:=rR (n:=3)
noncomputable def slO (a l h:Option D):Option RV:=a.bind fun d=>(nA l).bind fun l=>(nA h).bind fun h=>R6 d l h
noncomputable def O4 (x:Hd) (l h:Option D) (ρ:Env):aE RV:=done (slO (x.get ρ) l h) ρ
noncomputable def FF (P:aK) (C:Calls) (e:E) (ρ:Env):aE (Option D):=yX e (ev P C false e ρ) ρ
noncomputable def ND (P:aK) (C:Calls) (hi:E) (x:Hd) (l:Option D) (ρ:Env):aE RV:=(FF P C hi ρ).bind (O4 x l)
noncomputable def ZK (P:aK) (C:Calls) (lo hi:E) (x:Hd) (ρ:Env):aE RV:=(FF P C lo ρ).bind (ND P C hi x)
theorem aDa {x:Hd} {l h:Option D}:O4 x l h ρ=done (slO (x.get ρ) l h) ρ:=rfl
theorem aCR {hi:E} {x:Hd} {l:Option D}:ND P C hi x l ρ=(FF P C hi ρ).bind (O4 x l):=rfl
theorem aCv {lo hi:E} {x:Hd}:ZK P C lo hi x ρ=(FF P C lo ρ).bind (ND P C hi x):=rfl
noncomputable def IC (v:RV) (ρ:Env):aE (Option D):=some (.ok (some v.d),ρ)
theorem aAx {v:RV}:IC v ρ=some (.ok (some v.d),ρ):=rfl
theorem WI {i:Nat}:FF P C (.var i) ρ=(ev P C false (.var i) ρ).bind IC:=rfl
theorem WB {op:Operator} {a b:E}:FF P C (.bin op a b) ρ=(ev P C false (.bin op a b) ρ).bind IC:=rfl
theorem aDA {a lo hi:E}:ev P C t (.sl a lo hi) ρ=bJ t ((dM P C a ρ).bind (ZK P C lo hi)):=rfl
noncomputable def BK (P:aK) (C:Calls) (f:String) (hs:List Hd) (ρ:Env):aE RV:=bZ (P f) (C f) hs ρ
theorem aAJ {f:String} {hs:List Hd}:BK P C f hs ρ=bZ (P f) (C f) hs ρ:=rfl
theorem WD {f:String} {es:List E}:ev P C t (.call f es) ρ=bJ t ((cD P C es ρ).bind (BK P C f)):=rfl
noncomputable def NB (pins:List Bool) (hs:List Hd) (ρ ρ1:Env):aE RV→aE RV
 | none=>none
 | some (o,as')=>(aR pins hs as' ρ ρ1).map fun ρ'=>(o,ρ')
noncomputable def YD (pins:List Bool) (f:List Sl→aE RV) (hs:List Hd) (ρ:Env):Option (List Sl × Env)→aE RV
 | none=>none
 | some (as,ρ1)=>NB pins hs ρ ρ1 (f as)
theorem VW {pins:List Bool} {f:List Sl→aE RV} {hs:List Hd}:bZ pins f hs ρ=YD pins f hs ρ (bE pins hs ρ):=rfl
theorem aDe {pins:List Bool} {f:List Sl→aE RV} {hs:List Hd} {as:List Sl}:YD pins f hs ρ (some (as,ρ1))=NB pins hs ρ ρ1 (f as):=rfl
noncomputable def aAV (o:Out RV) (x:Option Env):aE RV:=x.map fun ρ'=>(o,ρ')
theorem aDh {o:Out RV}:aAV o (some ρ)=some (o,ρ):=rfl
theorem aCC {pins:List Bool} {hs:List Hd} {o:Out RV} {as':List Sl}:NB pins hs ρ ρ1 (some (o,as'))=aAV o (aR pins hs as' ρ ρ1):=rfl
noncomputable def AI (a:Sl) (o:Option (List Sl × Env)):Option (List Sl × Env):=o.map fun (as,ρ')=>(a :: as,ρ')
theorem aEV {a:Sl} {as:List Sl}:AI a (some (as,ρ))=some (a :: as,ρ):=rfl
theorem YT:bE [] [] ρ=some ([],ρ):=rfl
theorem aDH {p:Bool} {ps:List Bool} {d:D} {r:List Hd}:bE (p :: ps) (.val (.sh d) :: r) ρ=AI (.sh d) (bE ps r ρ):=rfl
theorem Z5 {ps:List Bool} {d:D} {r:List Hd}:bE (true :: ps) (.val (.ow d) :: r) ρ=AI (.ow d true false) (bE ps r ρ):=rfl
noncomputable def kLs (p:Bool) (ps:List Bool) (i:Nat) (r:List Hd) (ρ:Env):Option Sl→Option (List Sl × Env)
 | some (.sh d)=>AI (.sh d) (bE ps r ρ)
 | some (.ow d pin lk)=>match p with
  | true=>AI (.ow d true lk) (bE ps r (ρ.set i .un))
  | false=>if pin || lk then none else AI (.sh d) (bE ps r (ρ.set i (.sh d)))
 | _=>none
theorem SH {p:Bool} {ps:List Bool} {i:Nat} {r:List Hd}:bE (p :: ps) (.slot i :: r) ρ=kLs p ps i r ρ ρ[i]?:=rfl
theorem ZL {p:Bool} {ps:List Bool} {i:Nat} {r:List Hd} {d:D}:kLs p ps i r ρ (some (.sh d))=AI (.sh d) (bE ps r ρ):=rfl
theorem WH {ps:List Bool} {i:Nat} {r:List Hd} {d:D} {pin lk:Bool}:kLs true ps i r ρ (some (.ow d pin lk))=AI (.ow d true lk) (bE ps r (ρ.set i .un)):=rfl
theorem YR {ρ0:Env}:aR [] [] [] ρ0 ρ=some ρ:=rfl
theorem aE0 {ps:List Bool} {i:Nat} {hs:List Hd} {a:Sl} {as:List Sl} {ρ0:Env}:aR (false :: ps) (.slot i :: hs) (a :: as) ρ0 ρ=aR ps hs as ρ0 ρ:=rfl
theorem aB9 {ps:List Bool} {v:RV} {hs:List Hd} {a:Sl} {as:List Sl} {ρ0:Env}:aR (false :: ps) (.val v :: hs) (a :: as) ρ0 ρ=aR ps hs as ρ0 ρ:=rfl
theorem aAN {ps:List Bool} {v:RV} {hs:List Hd} {a:Sl} {as:List Sl} {ρ0:Env}:aR (true :: ps) (.val v :: hs) (a :: as) ρ0 ρ=aR ps hs as ρ0 ρ:=rfl
noncomputable def Z3 (ps:List Bool) (i:Nat) (hs:List Hd) (a:Sl) (as:List Sl) (ρ0 ρ:Env) (o:Option Sl):Option Env :=
  match o,a with
  | some (.ow _ pin lk),.ow d _ _=>aR ps hs as ρ0 (ρ.set i (.ow d pin lk))
  | some (.ow _ _ _),_=>none
  | _,_=>aR ps hs as ρ0 ρ
theorem WK {ps:List Bool} {i:Nat} {hs:List Hd} {a:Sl} {as:List Sl} {ρ0:Env}:aR (true :: ps) (.slot i :: hs) (a :: as) ρ0 ρ=Z3 ps i hs a as ρ0 ρ ρ0[i]?:=rfl
theorem aBS {ps:List Bool} {i:Nat} {hs:List Hd} {as:List Sl} {ρ0:Env} {d d':D} {p l p' l':Bool}:Z3 ps i hs (.ow d p l) as ρ0 ρ (some (.ow d' p' l'))=aR ps hs as ρ0 (ρ.set i (.ow d p' l')):=rfl
theorem aAF {ps:List Bool} {i:Nat} {hs:List Hd} {a:Sl} {as:List Sl} {ρ0:Env} {d:D}:Z3 ps i hs a as ρ0 ρ (some (.sh d))=aR ps hs as ρ0 ρ:=rfl
noncomputable def aBQ (f:BI) (hs:List Hd) (ρ:Env):aE RV:=done ((getAll hs ρ).bind (qH f)) ρ
theorem aCK {f:BI} {hs:List Hd}:aBQ f hs ρ=done ((getAll hs ρ).bind (qH f)) ρ:=rfl
theorem aBF {f:BI} {es:List E}:ev P C t (.bif f es) ρ=bJ t ((cD P C es ρ).bind (aBQ f)):=rfl
theorem aA5:getAll [] ρ=some []:=rfl
noncomputable def gaC (a:Option D) (b:Option (List D)):Option (List D):=a.bind fun d=>b.map (d :: ·)
theorem aE2 {d:D} {ds:List D}:gaC (some d) (some ds)=some (d :: ds):=rfl
theorem V7 {h:Hd} {r:List Hd}:getAll (h :: r) ρ=gaC (h.get ρ) (getAll r ρ):=rfl
theorem aBp {ds:List D}:qH .len [.lst ds]=some (.sh (.int ds.length)):=rfl
theorem aAc {ds:List D}:qH .len [.tup ds]=some (.sh (.int ds.length)):=rfl
theorem aC8 {i:Int}:qH .abs [.int i]=some (.sh (.int (if i<0 then -i else i))):=rfl
theorem aA3 {b:Bool}:qH .int [.bl b]=some (.sh (.int (if b then 1 else 0))):=rfl
theorem aA7 {ds:List D}:qH .tuple [.lst ds]=some (.sh (.tup ds)):=rfl
theorem aB1 {i j:Int}:qH .min [.int i,.int j]=some (.sh (.int (if j<i then j else i))):=rfl
theorem aCn {i j:Int}:qH .max [.int i,.int j]=some (.sh (.int (if j > i then j else i))):=rfl
noncomputable def HK (ts:List Ty):Option D→Option RV
 | some d=>(BM ts d).map fun b=>.sh (.bl b)
 | none=>none
noncomputable def NW (ts:List Ty) (x:Hd) (ρ:Env):aE RV:=done (HK ts (x.get ρ)) ρ
theorem aB3 {ts:List Ty} {x:Hd}:NW ts x ρ=done (HK ts (x.get ρ)) ρ:=rfl
theorem aBL {a:E} {ts:List Ty}:ev P C t (.isi a ts) ρ=bJ t ((dM P C a ρ).bind (NW ts)):=by
 rw [ev];show bJ t ((dM P C a ρ).bind _)=_
 congr 2
 funext x ρ1
 unfold NW;cases x.get ρ1 <;> rfl
theorem JB {i:Int}:HK [.int] (some (.int i))=some (.sh (.bl true)):=rfl
theorem EG {i:Int}:HK [.bool] (some (.int i))=some (.sh (.bl false)):=rfl
noncomputable def QL (i:Nat) (d:D) (ρ:Env) (o:Option Sl):aE RV:=match o with
 | some (.ow (.lst ds) p false)=>if aZ (ds.length+1) then some (.ok (.sh .non),ρ.set i (.ow (.lst (ds ++ [d])) p false)) else none
 | _=>none
noncomputable def Q4 (i:Nat) (v:RV) (ρ:Env):aE RV:=QL i v.d ρ ρ[i]?
theorem ZH {i:Nat} {v:RV}:Q4 i v ρ=QL i v.d ρ ρ[i]?:=rfl
theorem aDw {i:Nat} {d:D} {ds:List D} {p:Bool}:QL i d ρ (some (.ow (.lst ds) p false))=DT (aZ (ds.length+1)) (.sh .non) (ρ.set i (.ow (.lst (ds ++ [d])) p false)):=rfl
noncomputable def NL (r:aE RV) (b:Bool):aE RV:=if b then r else none
theorem XO {r:aE RV}:NL r true=r:=rfl
theorem aAE {i:Nat} {a:E}:ev P C t (.app i a) ρ=bJ t (NL ((ev P C false a ρ).bind (Q4 i)) (mU ρ i)):=rfl
noncomputable def RJ:Option Sl→Bool
 | some (.ow (.lst _) _ _)=>true
 | _=>false
theorem aCV:mU ρ i=RJ ρ[i]?:=rfl
theorem M6 {ds:List D} {p l:Bool}:RJ (some (.ow (.lst ds) p l))=true:=rfl
noncomputable def YQ (i:Nat) (v:RV) (ρ:Env):bN:=jC (store i v ρ)
theorem aDy {i:Nat} {v:RV}:YQ i v ρ=jC (store i v ρ):=rfl
theorem ZS {i:Nat} {e:E}:ex P C W (.asg i e) ρ=(ev P C false e ρ).flow (YQ i):=rfl
noncomputable def FV (i:Nat) (v:RV) (ρ:Env) (o:Option Sl):Option Env:=match o with
 | none=>none
 | some (.ow _ true _)=>none
 | some (.ow _ _ true)=>none
 | some _=>some (ρ.set i (match v with | .sh d=>.sh d | .ow d=>.ow d false false))
theorem ME {i:Nat} {v:RV}:store i v ρ=FV i v ρ ρ[i]?:=rfl
theorem U0 {i:Nat} {d:D}:FV i (.sh d) ρ (some .un)=some (ρ.set i (.sh d)):=rfl
theorem UR {i:Nat} {d:D}:FV i (.ow d) ρ (some .un)=some (ρ.set i (.ow d false false)):=rfl
theorem UN {i:Nat} {d d':D}:FV i (.sh d) ρ (some (.sh d'))=some (ρ.set i (.sh d)):=rfl
noncomputable def bY:Sl→Bool
 | .un=>true
 | .mv=>true
 | .sh _=>true
 | .ow _ false false=>true
 | _=>false
theorem bM {i:Nat} {d:D} {s:Sl} (h:bY s=true):FV i (.sh d) ρ (some s)=some (ρ.set i (.sh d)):=by
 cases s with
 | ow d p l=>cases p <;> cases l <;> first | rfl | cases h
 | _=>rfl
theorem VD {i:Nat} {d:D} {s:Sl} (h:bY s=true):FV i (.ow d) ρ (some s)=some (ρ.set i (.ow d false false)):=by
 cases s with
 | ow d p l=>cases p <;> cases l <;> first | rfl | cases h
 | _=>rfl
theorem aBw:bY .un=true:=rfl
theorem X4 {d:D}:bY (.sh d)=true:=rfl
theorem wM {i:Nat} {d:D}:a8 true [i] d ρ=store i (.sh d) ρ:=rfl
theorem tM {i:Nat} {is:List Nat} {ds:List D}:a8 false (i :: is) (.tup ds) ρ=dZ (i :: is) ds ρ:=rfl
theorem x5:dZ [] [] ρ=some ρ:=rfl
noncomputable def kSs (is:List Nat) (ds:List D) (o:Option Env):Option Env:=o.bind (dZ is ds)
theorem tP {i:Nat} {is:List Nat} {d:D} {ds:List D}:dZ (i :: is) (d :: ds) ρ=kSs is ds (store i (.sh d) ρ):=rfl
theorem JC {is:List Nat} {ds:List D}:kSs is ds (some ρ)=dZ is ds ρ:=rfl
noncomputable def NR (i:Nat) (v:D) (ρ:Env):Option Sl→D→bN
 | some (.ow (.lst ds) p false),.int n=>jC ((L2.lI ds.length n).map fun m=>ρ.set i (.ow (.lst (ds.set m v)) p false))
 | _,_=>none
noncomputable def IZ (i:Nat) (v:RV) (j:RV) (ρ:Env):bN:=NR i v.d ρ ρ[i]? j.d
noncomputable def Y9 (r:bN) (b:Bool):bN:=if b then r else none
noncomputable def ZD (i:Nat) (v j:RV) (ρ:Env):Option Sl→bN
 | o=>match o,j,v with
  | some (.ow (.dct kvs) p false),.sh (.int n),.sh (.int m)=>if aZ (kvs.length+1) then some (.nx,ρ.set i (.ow (.dct (y9 kvs n m)) p false)) else none
  | _,_,_=>none
noncomputable def IF (i:Nat) (v:RV) (j:RV) (ρ:Env):bN:=ZD i v j ρ ρ[i]?
theorem ZJ {i:Nat} {v j:RV}:IF i v j ρ=ZD i v j ρ ρ[i]?:=rfl
noncomputable def aCh:Option Sl→Bool
 | some (.ow (.dct _) _ _)=>true
 | _=>false
theorem aCS {i:Nat}:yZ ρ i=aCh ρ[i]?:=rfl
noncomputable def OM (r r':bN) (b:Bool):bN:=if b then r else r'
theorem aBz {r r':bN}:OM r r' true=r:=rfl
noncomputable def RA (P:aK) (C:Calls) (i:Nat) (k:E) (v:RV) (ρ:Env):bN:=OM ((ev P C false k ρ).flow (IZ i v)) (Y9 ((ev P C false k ρ).flow (IF i v)) (yZ ρ i)) (mU ρ i)
theorem aA9 {i:Nat} {v j:RV}:IZ i v j ρ=NR i v.d ρ ρ[i]? j.d:=rfl
theorem aBN {i:Nat} {k:E} {v:RV}:RA P C i k v ρ=OM ((ev P C false k ρ).flow (IZ i v)) (Y9 ((ev P C false k ρ).flow (IF i v)) (yZ ρ i)) (mU ρ i):=rfl
theorem XR {i:Nat} {k e:E}:ex P C W (.set i k e) ρ=(ev P C false e ρ).flow (RA P C i k):=rfl
theorem aC2 {n:Nat}:L2.lI (n+2) 1=some 1:=by unfold L2.lI; rw [if_pos (by omega),if_pos (by omega)]; rfl
theorem aAI {i:Nat} {v a b:D} {ds:List D} {p:Bool}:NR i v ρ (some (.ow (.lst (a :: b :: ds)) p false)) (.int 1)=some (.nx,ρ.set i (.ow (.lst (a :: v :: ds)) p false)):=by
 show jC ((L2.lI (ds.length+2) 1).map _)=_;rw [aC2]; rfl
noncomputable def RU (v:RV) (ρ:Env):bN:=some (.nx,ρ)
theorem X6 {v:RV}:RU v ρ=some (.nx,ρ):=rfl
theorem T3 {e:E}:ex P C W (.expr e) ρ=(ev P C false e ρ).flow RU:=rfl
noncomputable def PX (i:Nat) (ρ:Env):Option Sl→bN
 | some (.ow d false _)=>some (.rt (.ow d),ρ.set i .mv)
 | some (.sh d)=>some (.rt (.sh d),ρ)
 | _=>none
theorem TM {i:Nat} {d:D} {l:Bool}:PX i ρ (some (.ow d false l))=some (.rt (.ow d),ρ.set i .mv):=rfl
theorem VC {i:Nat} {d:D}:PX i ρ (some (.sh d))=some (.rt (.sh d),ρ):=rfl
noncomputable def kX (v:RV) (ρ:Env):bN:=some (.rt v,ρ)
theorem aDC {v:RV}:kX v ρ=some (.rt v,ρ):=rfl
theorem VZ {i:Nat}:ex P C W (.ret (.var i)) ρ=PX i ρ ρ[i]?:=rfl
theorem ZX {d:D}:ex P C W (.ret (.con d)) ρ=(ev P C false (.con d) ρ).flow kX:=rfl
theorem aAh {es:List E}:ex P C W (.ret (.tup es)) ρ=(ev P C false (.tup es) ρ).flow kX:=rfl
theorem YG {es:List E}:ex P C W (.ret (.lst es)) ρ=(ev P C false (.lst es) ρ).flow kX:=rfl
theorem Z2 {op:Operator} {a b:E}:ex P C W (.ret (.bin op a b)) ρ=(ev P C false (.bin op a b) ρ).flow kX:=rfl
theorem Y8 {op:CmpOp} {a b:E}:ex P C W (.ret (.cmp op a b)) ρ=(ev P C false (.cmp op a b) ρ).flow kX:=rfl
theorem ZU {a b:E}:ex P C W (.ret (.and a b)) ρ=(ev P C false (.and a b) ρ).flow kX:=rfl
theorem aDt {a b:E}:ex P C W (.ret (.ix a b)) ρ=(ev P C false (.ix a b) ρ).flow kX:=rfl
theorem WT {f:String} {es:List E}:ex P C W (.ret (.call f es)) ρ=(ev P C false (.call f es) ρ).flow kX:=rfl
theorem aBP {f:BI} {es:List E}:ex P C W (.ret (.bif f es)) ρ=(ev P C false (.bif f es) ρ).flow kX:=rfl
theorem T6 {elt:E} {tg:List Nat} {k:ItK} {its cond:List E} {imp:List Nat} {nl:Nat}:ex P C W (.ret (.comp elt tg k its cond imp nl)) ρ=(ev P C false (.comp elt tg k its cond imp nl) ρ).flow kX:=rfl
noncomputable def kIf (P:aK) (C:Calls) (W:Nat) (a b:List S) (v:RV) (ρ:Env):bN:=match v with
 | .sh (.bl true)=>exs P C W a ρ
 | .sh (.bl false)=>exs P C W b ρ
 | _=>none
theorem aCf {a b:List S} {x:Bool}:kIf P C W a b (.sh (.bl x)) ρ=if x=true then exs P C W a ρ else exs P C W b ρ:=by cases x <;> rfl
theorem Y5 {c:E} {a b:List S}:ex P C W (.ifs c a b) ρ=(ev P C true c ρ).flow (kIf P C W a b):=rfl
noncomputable def P8 (P:aK) (C:Calls) (W:Nat) (tg:List Nat) (one:Bool) (body:List S) (ρ:Env):Option (List D × Option Nat)→bN
 | none=>none
 | some (ds,o)=>(cQ (a8 one tg) (exs P C W body) ds (aO o ρ)).restore o ρ
theorem aCQ {tg:List Nat} {one:Bool} {body:List S} {ds:List D} {o:Option Nat}:P8 P C W tg one body ρ (some (ds,o))=(cQ (a8 one tg) (exs P C W body) ds (aO o ρ)).restore o ρ:=rfl
noncomputable def ZE (P:aK) (C:Calls) (W:Nat) (tg:List Nat) (one:Bool) (k:ItK) (body:List S) (hs:List Hd) (ρ:Env):bN:=P8 P C W tg one body ρ (aI k hs ρ)
theorem aC1 {tg:List Nat} {one:Bool} {k:ItK} {body:List S} {hs:List Hd}:ZE P C W tg one k body hs ρ=P8 P C W tg one body ρ (aI k hs ρ):=rfl
theorem Z1 {tg:List Nat} {one:Bool} {k:ItK} {its:List E} {body:List S}:ex P C W (.for tg one k its body) ρ=(cD P C its ρ).flow (ZE P C W tg one k body):=rfl
theorem SW:exs P C W [] ρ=some (.nx,ρ):=rfl
theorem eZ {s:S} {r:List S}:exs P C W (s :: r) ρ=(ex P C W s ρ).next (exs P C W r):=rfl
theorem SU {r:bN} {ρ0:Env}:r.restore none ρ0=r:=by cases r with | none=>rfl | some y=>obtain ⟨fl,ρ⟩:=y; rfl
theorem W7:aO none ρ=ρ:=rfl
theorem tY {a:Hd} {n:Int} (h:a.get ρ=some (.int n)) (h1:-1000000≤n) (h2:n≤1000000):aI .rng [a] ρ=some ((List.range n.toNat).map fun (j:Nat)=>.int (j:Int),none):=by
 simp only [aI,h]; exact if_pos ⟨h1,h2⟩
theorem aBW {a b:Hd} {m n:Int} (h:a.get ρ=some (.int m)) (h':b.get ρ=some (.int n)) (h1:-1000000≤m∧m≤1000000) (h2:-1000000≤n∧n≤1000000):aI .rng [a,b] ρ=some ((List.range (n - m).toNat).map fun (j:Nat)=>.int (m+(j:Int)),none):=by
 simp only [aI,h,h']; exact if_pos ⟨h1,h2⟩
theorem BD {v:RV} {ds:List D} (h:v.d=.lst ds):aI .of [.val v] ρ=some (ds,none):=by simp only [aI,h]
theorem tR {v:RV} {ds:List D} (h:v.d=.tup ds):aI .of [.val v] ρ=some (ds,none):=by simp only [aI,h]
theorem RR {i:Nat} {ds:List D} {p l:Bool} (h:ρ[i]?=some (.ow (.lst ds) p l)):aI .of [.slot i] ρ=some (ds,some i):=by simp only [aI,h]
theorem eW {bind:D→Env→Option Env} {body:Env→bN} (I:List D→Env→Prop) {ds:List D} (h:∀ pre d post,ds=pre ++ d :: post→∀ ρ,I pre ρ→∃ ρ1,bind d ρ=some ρ1∧∃ ρ2,body ρ1=some (.nx,ρ2)∧I (pre ++ [d]) ρ2) {ρ:Env} (h0:I [] ρ):∃ ρ',cQ bind body ds ρ=some (.nx,ρ')∧I ds ρ':=by
 have key:∀ (post pre:List D) (ρ:Env),ds=pre ++ post→I pre ρ→∃ ρ',cQ bind body post ρ=some (.nx,ρ')∧I ds ρ':=by
  intro post
  induction post with
  | nil=>intro pre ρ e hp; rw [List.append_nil] at e; subst e; exact ⟨ρ,rfl,hp⟩
  | cons d post ih =>
   intro pre ρ e hp;obtain ⟨ρ1,e1,ρ2,e2,h2⟩:=h pre d post e ρ hp;obtain ⟨ρ',e3,h3⟩:=ih (pre ++ [d]) ρ2 (by rw [e]; simp) h2;exact ⟨ρ',by simp only [cQ,e1,e2,e3],h3⟩
 exact key ds [] ρ rfl h0
noncomputable def OY (as:List Sl):bN→aE RV
 | some (.nx,ρ)=>some (.ok (.sh .non),back as ρ)
 | some (.rt v,ρ)=>some (.ok v,back as ρ)
 | _=>none
theorem GA {as:List Sl} {v:RV}:OY as (some (.rt v,ρ))=some (.ok v,back as ρ):=rfl
theorem bQ {T:fX} {n:Nat} {f:String} {as:List Sl} {fn:Fn} (hT:T f=some fn) (h1:as.length=fn.pins.length) (h2:as.all iT=true) (h3:fn.rs=false:=by rfl):run T W (n+1) f as=OY as (exs T.pins (run T W n) W fn.body (as ++ List.replicate fn.nl .un)):=by
 simp only [run,hT];rw [if_pos ⟨h1,h2⟩,h3];generalize exs T.pins (run T W n) W fn.body (as ++ List.replicate fn.nl .un)=r;obtain _ | ⟨fl,ρ⟩:=r
 ·rfl
 ·cases fl <;> rfl
noncomputable def oK (T:fX) (W n:Nat) (fn:Fn) (as:List Sl):Option (Exc × Env):=hU T.pins (run T W n) W fn.body (as ++ List.replicate fn.nl .un)
noncomputable def IJ (as:List Sl) (r:bN) (o:Option (Exc × Env)):aE RV:=match r with
 | some (.nx,ρ)=>some (.ok (.sh .non),back as ρ)
 | some (.rt v,ρ)=>some (.ok v,back as ρ)
 | _=>match o with
  | some (x,ρ)=>some (.ex x,back as ρ)
  | none=>none
theorem OE {as:List Sl} {v:RV} {o:Option (Exc × Env)}:IJ as (some (.rt v,ρ)) o=some (.ok v,back as ρ):=rfl
theorem S2 {as:List Sl} {o:Option (Exc × Env)}:IJ as none o=(match o with | some (x,ρ)=>some (.ex x,back as ρ) | none=>none):=rfl
theorem BB {T:fX} {n:Nat} {f:String} {as:List Sl} {fn:Fn} (hT:T f=some fn) (h1:as.length=fn.pins.length) (h2:as.all iT=true) (h3:fn.rs=true:=by rfl):run T W (n+1) f as=IJ as (exs T.pins (run T W n) W fn.body (as ++ List.replicate fn.nl .un)) (oK T W n fn as):=by
 simp only [run,hT];rw [if_pos ⟨h1,h2⟩,h3];unfold oK;generalize exs T.pins (run T W n) W fn.body (as ++ List.replicate fn.nl .un)=r;obtain _ | ⟨fl,ρ⟩:=r
 ·rfl
 ·cases fl <;> rfl
end
end CI
namespace CI
open PySem PySem.Spec PyProof.Rows L2
noncomputable def HU:D→Value→Bool
 | .non,.none=>true
 | .bl a,.bool b=>a == b
 | .int i,.int j _=>i == j
 | .str x,.str y _=>x == y && PyData.strOk x
 | _,_=>false
noncomputable def oC:List D→List Value→Bool
 | [],[]=>true
 | d :: ds,v :: vs=>HU d v && oC ds vs
 | _,_=>false
theorem M7 {K:PySem.W.Frag} {d:D} {u:Value} (h:HU d u=true):∃ v,a7 v u∧∀ G,aD K G d v:=by
 cases d <;> cases u <;> simp only [HU,Bool.false_eq_true] at h
 ·exact ⟨.non,rfl,fun G=>by simp [aD]⟩
 ·exact ⟨.bl _,rfl,fun G=>by simp [aD,eq_of_beq h]⟩
 ·rename_i i j t;exact ⟨.int i,⟨t,by rw [eq_of_beq h]⟩,fun G=>by simp [aD]⟩
 ·rename_i x y t;rw [Bool.and_eq_true] at h;exact ⟨.str x,⟨t,by rw [eq_of_beq h.1]⟩,fun G=>by simp [aD,h.2]⟩
theorem AF {K:PySem.W.Frag}:∀ {ds:List D} {us:List Value},oC ds us=true→∃ vs,aU vs us∧∀ G,aB K G ds vs
 | [],[],_=>⟨[],.nil,fun G=>aB.nil⟩
 | d :: ds,u :: us,h=>by
  simp only [oC,Bool.and_eq_true] at h;obtain ⟨v,h1,h2⟩:=M7 (K:=K) h.1;obtain ⟨vs,h3,h4⟩:=AF (K:=K) h.2;exact ⟨v :: vs,.cons h1 h3,fun G=>aB.cons (h2 G) (h4 G)⟩
 | [],_ :: _,h=>by simp [oC] at h
 | _ :: _,[],h=>by simp [oC] at h
theorem FW {K:PySem.W.Frag} {mg:Str→Option Value} {h:Heap} {T:fX} {gl:Str→GV} {x:Str} {a:Addr} {its:Array Value} {n:Nat} {dd:Option Addr} {sl} {ds:List D} (X:K.In h) (G:h.Ns mainGlobals mg)
  (ha:PySem.W.nsIn K mainGlobals x=some (some (.ref a))) (hl:K.lookup a=some ⟨.type "tuple",dd,.seq its n,sl⟩) (hc:oC ds its.toList=true) (hz:decide (its.size≤1000)=true):cW K mg T gl (x,.con (.tup ds)):=by
 obtain ⟨vs,h1,h2⟩:=AF (K:=K) hc;refine ⟨_,.ref a,PySem.W.mg_of X G ha,rfl,fun G=>?_⟩;simp only [aD];exact ⟨a,vs,rfl,.inr ⟨_,its,n,hl,rfl,rfl,Nat.le_trans (of_decide_eq_true hz) (by decide),h1⟩,h2 G⟩
noncomputable section
variable {P:aK} {C:Calls} {t:Bool} {ρ ρ1:Env}
noncomputable def xO (P:aK) (C:Calls) (elt:E) (tg:List Nat) (k:ItK) (cond:List E) (imp:List Nat) (nl:Nat) (hs:List Hd) (ρ1:Env):aE RV :=
 match aI k hs ρ1 with
 | none=>none
 | some (ds,o)=>(bZ (imp.map fun _=>true) (pN (dC P C cond) (ev P C false elt) (a8 (tg.length == 1) tg) ds nl) (imp.map Hd.slot) (aO o ρ1)).bind (kA o ρ1)
theorem UX {elt:E} {tg:List Nat} {k:ItK} {its cond:List E} {imp:List Nat} {nl:Nat}:ev P C t (.comp elt tg k its cond imp nl) ρ=bJ t ((cD P C its ρ).bind (xO P C elt tg k cond imp nl)):=rfl
theorem fC {elt:E} {tg:List Nat} {k:ItK} {cond:List E} {imp:List Nat} {nl:Nat} {hs:List Hd} {ds:List D} (h:aI k hs ρ1=some (ds,none)) :
  xO P C elt tg k cond imp nl hs ρ1=(bZ (imp.map fun _=>true) (pN (dC P C cond) (ev P C false elt) (a8 (tg.length == 1) tg) ds nl) (imp.map Hd.slot) ρ1).bind (kA none ρ1):=by
 unfold xO; rw [h]; rfl
theorem L9 {v:RV} {ρ2:Env}:kA none ρ1 v ρ2=some (.ok v,ρ2):=rfl
theorem VO {elt:E} {tg:List Nat} {k:ItK} {cond:List E} {imp:List Nat} {nl:Nat} {hs:List Hd} {ds:List D} {i:Nat} (h:aI k hs ρ1=some (ds,some i)) :
  xO P C elt tg k cond imp nl hs ρ1=(bZ (imp.map fun _=>true) (pN (dC P C cond) (ev P C false elt) (a8 (tg.length == 1) tg) ds nl) (imp.map Hd.slot) (aO (some i) ρ1)).bind (kA (some i) ρ1):=by
 unfold xO; rw [h]
noncomputable def JA (as:List Sl) (acc:List D) (ρi:Env):aE RV:=if aZ acc.length then some (.ok (.ow (.lst acc)),back as ρi) else none
theorem B5 {tests elt:Env→aE RV} {bind:D→Env→Option Env} {ds:List D} {nl:Nat} {as:List Sl} (h:as.all iT=true):pN tests elt bind ds nl as=(d8 tests elt bind ds [] (as ++ List.replicate nl .un)).bind (JA as):=by
 unfold pN; rw [if_pos h]; rfl
theorem YU {as:List Sl} {acc:List D} {ρi:Env} (h:aZ acc.length=true):JA as acc ρi=some (.ok (.ow (.lst acc)),back as ρi):=by unfold JA; rw [if_pos h]
theorem jB:dC P C [] ρ=some (.ok (.sh (.bl true)),ρ):=rfl
noncomputable def kTs (P:aK) (C:Calls) (es:List E) (v:RV) (ρ1:Env):aE RV:=match v with
 | .sh (.bl true)=>dC P C es ρ1
 | .sh (.bl false)=>some (.ok (.sh (.bl false)),ρ1)
 | _=>none
theorem M5 {e:E} {es:List E}:dC P C (e :: es) ρ=(ev P C true e ρ).bind (kTs P C es):=rfl
theorem aB7 {b:Bool}:kTs P C [] (.sh (.bl b)) ρ1=some (.ok (.sh (.bl b)),ρ1):=by
 cases b
 ·rfl
 ·show dC P C [] ρ1=_;exact jB
theorem OV {d:D} {l:Bool}:iT (.ow d true l)=true:=rfl
theorem NK {d:D}:iT (.sh d)=true:=rfl
theorem gY {tests elt:Env→aE RV} {bind:D→Env→Option Env} {ds:List D} (I:Nat→List D→Env→Prop)
  (step:∀ (j:Nat) (d:D),ds[j]?=some d→∀ acc ρ,I j acc ρ→∃ ρ1 c ρ2,bind d ρ=some ρ1∧tests ρ1=some (.ok (.sh (.bl c)),ρ2)∧(c=true→∃ v ρ3,elt ρ2=some (.ok v,ρ3)∧I (j+1) (acc ++ [v.d]) ρ3)∧(c=false→I (j+1) acc ρ2)) :
  ∀ acc ρ,I 0 acc ρ→∃ acc' ρ',d8 tests elt bind ds acc ρ=some (.ok acc',ρ')∧I ds.length acc' ρ'∧acc'.length≤acc.length+ds.length:=by
 have key:∀ (es:List D) (j:Nat),ds.drop j=es→∀ acc ρ,I j acc ρ→∃ acc' ρ',d8 tests elt bind es acc ρ=some (.ok acc',ρ')∧I (j+es.length) acc' ρ'∧acc'.length≤acc.length+es.length:=by
  intro es
  induction es with
  | nil=>intro j _ acc ρ h; exact ⟨acc,ρ,rfl,h,by simp⟩
  | cons d es ih =>
   intro j hj acc ρ h
   have hd:ds[j]?=some d:=by
    have:(ds.drop j)[0]?=some d:=by rw [hj]; rfl
    simpa using this
   have hj':ds.drop (j+1)=es:=by
    have:(ds.drop j).drop 1=es:=by rw [hj]; rfl
    rw [List.drop_drop] at this;exact this
   obtain ⟨ρ1,c,ρ2,h1,h2,h3,h4⟩:=step j d hd acc ρ h;simp only [d8,h1,h2,aE.bind]
   cases c with
   | false =>
    obtain ⟨acc',ρ',e1,e2,e3⟩:=ih (j+1) hj' acc ρ2 (h4 rfl);refine ⟨acc',ρ',e1, ?_,by simp only [List.length_cons]; omega⟩
    have:j+(d :: es).length=j+1+es.length:=by simp only [List.length_cons]; omega
    rw [this]; exact e2
   | true =>
    obtain ⟨v,ρ3,h5,h6⟩:=h3 rfl;obtain ⟨acc',ρ',e1,e2,e3⟩:=ih (j+1) hj' (acc ++ [v.d]) ρ3 h6;simp only [h5];refine ⟨acc',ρ',e1, ?_,by simp only [List.length_append,List.length_cons,List.length_nil] at e3 ⊢; omega⟩
    have:j+(d :: es).length=j+1+es.length:=by simp only [List.length_cons]; omega
    rw [this]; exact e2
 intro acc ρ h
 have:=key ds 0 rfl acc ρ h
 simpa using this
theorem dR {n:Nat} (h:n≤1000000):aZ n=true:=hX h
end
end CI
namespace CI
open PySem (Operator CmpOp Str)
noncomputable section
variable {P:aK} {C:Calls} {W:Nat} {t:Bool} {ρ ρ1 ρ2:Env}
theorem aBZ {α β:Type} {x:Exc} {f:α→Env→aE β}:aE.bind (some (.ex x,ρ)) f=some (.ex x,ρ):=rfl
noncomputable def kAX (r:aE Hd) (f:Env→Option (Exc × Env)) (o:Option (Exc × Env)):Option (Exc × Env):=match r with
 | some (.ok _,ρ1)=>f ρ1
 | _=>o
theorem LK {e:E} {es:List E}:pP P C (e :: es) ρ=kAX (dM P C e ρ) (pP P C es) (iS P C e ρ):=rfl
theorem YN {h:Hd} {f:Env→Option (Exc × Env)} {o:Option (Exc × Env)}:kAX (some (.ok h,ρ)) f o=f ρ:=rfl
theorem aDj {α:Type} {x:Exc} {f:α→Env→bN}:aE.flow (some (.ex x,ρ)) f=some (.ex x,ρ):=rfl
theorem aCW {x:Exc} {f:Env→bN}:bN.next (some (.ex x,ρ)) f=some (.ex x,ρ):=rfl
theorem XF {f:Env→bN}:bN.next none f=none:=rfl
theorem ZZ {c:PySem.Str} {es:List E}:ex P C W (.rse c es) ρ=none:=rfl
noncomputable def RL (r:bN) (f:Env→Option (Exc × Env)) (o:Option (Exc × Env)):Option (Exc × Env):=match r with
 | some (.nx,ρ1)=>f ρ1
 | _=>o
theorem MI {s:S} {r:List S}:hU P C W (s :: r) ρ=RL (ex P C W s ρ) (hU P C W r) (fJ P C W s ρ):=rfl
theorem aAB {f:Env→Option (Exc × Env)} {o:Option (Exc × Env)}:RL (some (.nx,ρ)) f o=f ρ:=rfl
theorem aCH {f:Env→Option (Exc × Env)} {o:Option (Exc × Env)}:RL none f o=o:=rfl
theorem aA6 {x:Exc} {f:Env→Option (Exc × Env)} {o:Option (Exc × Env)}:RL (some (.ex x,ρ)) f o=o:=rfl
noncomputable def kIX (r:aE RV) (f g:Env→Option (Exc × Env)):Option (Exc × Env):=match r with
 | some (.ok (.sh (.bl true)),ρ1)=>f ρ1
 | some (.ok (.sh (.bl false)),ρ1)=>g ρ1
 | _=>none
theorem XB {c:E} {a b:List S}:fJ P C W (.ifs c a b) ρ=kIX (ev P C true c ρ) (hU P C W a) (hU P C W b):=rfl
theorem aC6 {f g:Env→Option (Exc × Env)}:kIX (some (.ok (.sh (.bl true)),ρ)) f g=f ρ:=rfl
theorem aCD {f g:Env→Option (Exc × Env)}:kIX (some (.ok (.sh (.bl false)),ρ)) f g=g ρ:=rfl
noncomputable def kRX (c:PySem.Str) (r:aE (List D)):Option (Exc × Env):=match r with
 | some (.ok _,ρ1)=>some (⟨c⟩,ρ1)
 | _=>none
theorem SV {c:PySem.Str} {es:List E}:fJ P C W (.rse c es) ρ=kRX c (jJ P C es ρ):=rfl
theorem aEW {c:PySem.Str} {ds:List D}:kRX c (some (.ok ds,ρ))=some (⟨c⟩,ρ):=rfl
theorem W4 {i:Nat} {e:E}:fJ P C W (.asg i e) ρ=iS P C e ρ:=rfl
theorem XG {e:E}:fJ P C W (.ret e) ρ=iS P C e ρ:=rfl
noncomputable def ZY (r:aE RV):Option (Exc × Env):=match r with
 | some (.ex x,ρ')=>some (x,ρ')
 | _=>none
theorem aEL {x:Exc}:ZY (some (.ex x,ρ))=some (x,ρ):=rfl
noncomputable def kCX (P:aK) (C:Calls) (f:String) (r:aE (List Hd)) (o:Option (Exc × Env)):Option (Exc × Env):=match r with
 | some (.ok hs,ρ1)=>ZY (bZ (P f) (C f) hs ρ1)
 | _=>o
theorem L4 {f:String} {es:List E}:iS P C (.call f es) ρ=kCX P C f (cD P C es ρ) (pP P C es ρ):=rfl
theorem aEn {f:String} {hs:List Hd} {o:Option (Exc × Env)}:kCX P C f (some (.ok hs,ρ)) o=ZY (bZ (P f) (C f) hs ρ):=rfl
theorem S6 {a:E} {f:Str}:dM P C (.fld a f) ρ=(ev P C false (.fld a f) ρ).bind jV:=rfl
theorem P9 {i:Nat} {m:Str} {tb:List (Str × String)} {es:List E}:dM P C (.meth i m tb es) ρ=(ev P C false (.meth i m tb es) ρ).bind jV:=rfl
noncomputable def jD (o:Option D) (f:Str):Option RV:=o.bind fun d=>(NS d f).map .sh
noncomputable def YO (f:Str) (x:Hd) (ρ:Env):aE RV:=done (jD (x.get ρ) f) ρ
theorem aCw {f:Str} {x:Hd}:YO f x ρ=done (jD (x.get ρ) f) ρ:=rfl
theorem aAf {a:E} {f:Str}:ev P C t (.fld a f) ρ=bJ t ((dM P C a ρ).bind (YO f)):=rfl
noncomputable def BA (c:Str) (ns:List Str) (ds:List D) (ρ:Env):aE RV:=if ds.length=ns.length then some (.ok (.sh (.ins c ns ds)),ρ) else none
theorem XE {c:Str} {ns:List Str} {es:List E}:ev P C t (.make c ns es) ρ=bJ t ((jJ P C es ρ).bind (BA c ns)):=rfl
theorem TX {c f:Str} {a:D}:BA c [f] [a] ρ=some (.ok (.sh (.ins c [f] [a])),ρ):=rfl
theorem UD {c f g:Str} {a b:D}:BA c [f,g] [a,b] ρ=some (.ok (.sh (.ins c [f,g] [a,b])),ρ):=rfl
theorem VP {c f g h:Str} {a b d:D}:BA c [f,g,h] [a,b,d] ρ=some (.ok (.sh (.ins c [f,g,h] [a,b,d])),ρ):=rfl
noncomputable def JK (P:aK) (C:Calls) (f:String) (d:D) (hs:List Hd) (ρ:Env):aE RV:=BK P C f (.val (.sh d) :: hs) ρ
theorem YC {f:String} {d:D} {hs:List Hd}:JK P C f d hs ρ=BK P C f (.val (.sh d) :: hs) ρ:=rfl
noncomputable def HE (P:aK) (C:Calls) (d:D) (es:List E) (ρ:Env):Option String→aE RV
 | some f=>(cD P C es ρ).bind (JK P C f d)
 | none=>none
theorem Y1 {f:String} {d:D} {es:List E}:HE P C d es ρ (some f)=(cD P C es ρ).bind (JK P C f d):=rfl
noncomputable def XM (P:aK) (C:Calls) (m:Str) (tb:List (Str × String)) (es:List E) (ρ:Env):Option Sl→aE RV
 | some (.sh (.ins c ns ds))=>HE P C (.ins c ns ds) es ρ (fK c ns m tb)
 | _=>none
theorem aDo {m:Str} {tb:List (Str × String)} {es:List E} {c:Str} {ns:List Str} {ds:List D}:XM P C m tb es ρ (some (.sh (.ins c ns ds)))=HE P C (.ins c ns ds) es ρ (fK c ns m tb):=rfl
theorem W0 {i:Nat} {m:Str} {tb:List (Str × String)} {es:List E}:ev P C t (.meth i m tb es) ρ=bJ t (XM P C m tb es ρ ρ[i]?):=rfl
theorem UO {c:Str} {ns:List Str} {es:List E}:ex P C W (.ret (.make c ns es)) ρ=(ev P C false (.make c ns es) ρ).flow kX:=rfl
theorem aDc {a b:Bool}:cN .NotEq (.bl a) (.bl b)=some (!(a == b)):=rfl
theorem zg0 {α:Type} {a:α} {l:List α}:(a :: l)[0]?=some a:=rfl
theorem zg1 {α:Type} {a:α} {l:List α} {n:Nat}:(a :: l)[n+1]?=l[n]?:=rfl
theorem zs0 {α:Type} {a b:α} {l:List α}:(a :: l).set 0 b=b :: l:=rfl
theorem zs1 {α:Type} {a b:α} {l:List α} {n:Nat}:(a :: l).set (n+1) b=a :: l.set n b:=rfl
theorem zb {α β:Type} {a:α} {f:α→Option β}:(some a).bind f=f a:=rfl
theorem zm {α β:Type} {a:α} {f:α→β}:(some a).map f=some (f a):=rfl
theorem zi {α:Type} {a:α}:(some a).isSome=true:=rfl
theorem zc {α:Type} {a:α} {l m:List α}:(a :: l) ++ m=a :: (l ++ m):=rfl
theorem zn {α:Type} {l:List α}:[] ++ l=l:=rfl
theorem zr0 {α:Type} {a:α}:List.replicate 0 a=[]:=rfl
theorem zr1 {α:Type} {a:α} {n:Nat}:List.replicate (n+1) a=a :: List.replicate n a:=rfl
theorem zl0 {α:Type}:([]:List α).length=0:=rfl
theorem zl1 {α:Type} {a:α} {l:List α}:(a :: l).length=l.length+1:=rfl
theorem znt:(!true)=false:=rfl
theorem znf:(!false)=true:=rfl
theorem zko {d:D} {p l:Bool} {as:List Sl} {b:Sl} {bs:Env}:back (.ow d p l :: as) (b :: bs)=b :: back as bs:=rfl
theorem zks {d:D} {as:List Sl} {b:Sl} {bs:Env}:back (.sh d :: as) (b :: bs)=.sh d :: back as bs:=rfl
theorem zkn {bs:Env}:back [] bs=[]:=rfl
end
theorem aE8 {α:Type} {Q:List α→Prop} (h:∀ a0,Q [a0]) (us:List α) (hl:us.length=1):Q us:=by
 obtain _ | ⟨a0,r0⟩:=us
 ·simp at hl
 obtain _ | ⟨x,y⟩:=r0
 ·exact h a0
 ·simp at hl
theorem aED {α:Type} {Q:List α→Prop} (h:∀ a0 a1,Q [a0,a1]) (us:List α) (hl:us.length=2):Q us:=by
 obtain _ | ⟨a0,r0⟩:=us
 ·simp at hl
 obtain _ | ⟨a1,r1⟩:=r0
 ·simp at hl
 obtain _ | ⟨x,y⟩:=r1
 ·exact h a0 a1
 ·simp at hl
theorem aEi {α:Type} {Q:List α→Prop} (h:∀ a0 a1 a2,Q [a0,a1,a2]) (us:List α) (hl:us.length=3):Q us:=by
 obtain _ | ⟨a0,r0⟩:=us
 ·simp at hl
 obtain _ | ⟨a1,r1⟩:=r0
 ·simp at hl
 obtain _ | ⟨a2,r2⟩:=r1
 ·simp at hl
 obtain _ | ⟨x,y⟩:=r2
 ·exact h a0 a1 a2
 ·simp at hl
theorem aFj {α:Type} {Q:List α→Prop} (h:∀ a0 a1 a2 a3,Q [a0,a1,a2,a3]) (us:List α) (hl:us.length=4):Q us:=by
 obtain _ | ⟨a0,r0⟩:=us
 ·simp at hl
 obtain _ | ⟨a1,r1⟩:=r0
 ·simp at hl
 obtain _ | ⟨a2,r2⟩:=r1
 ·simp at hl
 obtain _ | ⟨a3,r3⟩:=r2
 ·simp at hl
 obtain _ | ⟨x,y⟩:=r3
 ·exact h a0 a1 a2 a3
 ·simp at hl
theorem aEC {α:Type} {Q:List α→Prop} (h:∀ a0 a1 a2 a3 a4,Q [a0,a1,a2,a3,a4]) (us:List α) (hl:us.length=5):Q us:=by
 obtain _ | ⟨a0,r0⟩:=us
 ·simp at hl
 obtain _ | ⟨a1,r1⟩:=r0
 ·simp at hl
 obtain _ | ⟨a2,r2⟩:=r1
 ·simp at hl
 obtain _ | ⟨a3,r3⟩:=r2
 ·simp at hl
 obtain _ | ⟨a4,r4⟩:=r3
 ·simp at hl
 obtain _ | ⟨x,y⟩:=r4
 ·exact h a0 a1 a2 a3 a4
 ·simp at hl
open PySem PySem.Spec PyProof.Rows L2 in
def BQ (x qual:PySem.Str) (st:PySem.Stmt) (kV doc pm:PySem.Value) (an:Option PySem.Addr) (cdv ct:PySem.Value) (us:List PySem.Value):Prop:=PySem.bindArgs (PySem.W.fnOf x qual (eK st) (bU st) (aT st) .none kV doc pm an cdv ct) ⟨us,[]⟩=pure ((cT st).zip us)
theorem fc {α:Type} {P:α→Prop} {a:α} {l:List α} (h:P a) (t:∀ x∈l,P x):∀ x∈a :: l,P x:=List.forall_mem_cons.mpr ⟨h,t⟩
section
open PySem PySem.Spec PyProof.Rows L2
abbrev Sc4 (st:Stmt):Prop:=(wN st).Nodup∧(wN st).take (cT st).length=cT st∧(∀ x∈cT st,(aT st).names.lookup x=some .local∨(aT st).names.lookup x=some .cell)∧∀ y∈(aT st).names,y.2≠.free
abbrev B3 (x qual:PySem.Str) (st:PySem.Stmt):Prop:=∀ (kV doc pm:PySem.Value) (an:Option PySem.Addr) (cdv ct:PySem.Value) (us:List PySem.Value),us.length=(cT st).length→BQ x qual st kV doc pm an cdv ct us
theorem cK {gl:PySem.Str→GV} {st:Stmt} {x qual:PySem.Str} {fn:Fn} (h1:(aT st).kind=.function) (h2:(aT st).isCoroutine=false) (h3:(aT st).isGenerator=false) (h:Sc4 st∧(wN st).length=fn.pins.length+fn.nl∧(cT st).length=fn.pins.length) (b:fn.body=CG gl st) (q:B3 x qual st):DefOkQ gl st x qual fn :=
 ⟨⟨h1,h2,h3,h.1.1,h.1.2.1,h.1.2.2.1,h.1.2.2.2⟩,b,h.2.1,h.2.2,q⟩
theorem DK {st:Stmt} {qual:PySem.Str} {ns:List PySem.Str} (h1:(aT st).kind=.function) (h2:(aT st).isCoroutine=false) (h3:(aT st).isGenerator=false) (h:Sc4 st∧(cT st).length=ns.length+1∧ns.Nodup∧ns.length<1000) (b:lR (cT st) 1 (bU st)=some ns) (q:B3 "__init__" qual st):IniOk st qual ns :=
 ⟨⟨h1,h2,h3,h.1.1,h.1.2.1,h.1.2.2.1,h.1.2.2.2⟩,b,h.2.1,h.2.2.1,h.2.2.2,q⟩
variable {x qual:PySem.Str} {st:Stmt}
theorem lF (hn:(cT st).length=1) (h:∀ kV doc pm an cdv ct a0,BQ x qual st kV doc pm an cdv ct [a0]):B3 x qual st:=fun kV doc pm an cdv ct us hl=>aE8 (h kV doc pm an cdv ct) us (hl.trans hn)
theorem lH (hn:(cT st).length=2) (h:∀ kV doc pm an cdv ct a0 a1,BQ x qual st kV doc pm an cdv ct [a0,a1]):B3 x qual st:=fun kV doc pm an cdv ct us hl=>aED (h kV doc pm an cdv ct) us (hl.trans hn)
theorem uG (hn:(cT st).length=3) (h:∀ kV doc pm an cdv ct a0 a1 a2,BQ x qual st kV doc pm an cdv ct [a0,a1,a2]):B3 x qual st:=fun kV doc pm an cdv ct us hl=>aEi (h kV doc pm an cdv ct) us (hl.trans hn)
theorem uS (hn:(cT st).length=4) (h:∀ kV doc pm an cdv ct a0 a1 a2 a3,BQ x qual st kV doc pm an cdv ct [a0,a1,a2,a3]):B3 x qual st:=fun kV doc pm an cdv ct us hl=>aFj (h kV doc pm an cdv ct) us (hl.trans hn)
theorem bn5 (hn:(cT st).length=5) (h:∀ kV doc pm an cdv ct a0 a1 a2 a3 a4,BQ x qual st kV doc pm an cdv ct [a0,a1,a2,a3,a4]):B3 x qual st:=fun kV doc pm an cdv ct us hl=>aEC (h kV doc pm an cdv ct) us (hl.trans hn)
end
noncomputable def PZ (i:Nat) (v:RV) (ρ:Env) (o:Option Sl):aE RV:=match o,v with
 | some (.ow (.lst ds) p false),.ow (.lst es)=>if aZ (ds.length+es.length) then some (.ok (.sh .non),ρ.set i (.ow (.lst (ds ++ es)) p false)) else none
 | _,_=>none
noncomputable def RD (i:Nat) (v:RV) (ρ:Env):aE RV:=PZ i v ρ ρ[i]?
theorem aAo {i:Nat} {v:RV}:RD i v ρ=PZ i v ρ ρ[i]?:=rfl
theorem aCg {i:Nat} {ds es:List D} {p:Bool}:PZ i (.ow (.lst es)) ρ (some (.ow (.lst ds) p false))=DT (aZ (ds.length+es.length)) (.sh .non) (ρ.set i (.ow (.lst (ds ++ es)) p false)):=rfl
theorem YV {i:Nat} {a:E}:ev P C t (.ext i a) ρ=bJ t (NL ((ev P C false a ρ).bind (RD i)) (mU ρ i)):=rfl
noncomputable def kPX (P:aK) (C:Calls) (elt:E) (tg:List Nat) (k:ItK) (cond:List E) (imp:List Nat) (nl:Nat) (r:aE (List Hd)):Option (Exc × Env):=match r with
 | some (.ok hs,ρ1)=>(match aI k hs ρ1 with
  | none=>none
  | some (ds,o)=>BS o ρ1 (bZ (imp.map fun _=>true) (oF (dC P C cond) (ev P C false elt) (iS P C elt) (a8 (tg.length == 1) tg) ds nl) (imp.map Hd.slot) (aO o ρ1)))
 | _=>none
theorem O0 {elt:E} {tg:List Nat} {k:ItK} {its cond:List E} {imp:List Nat} {nl:Nat}:iS P C (.comp elt tg k its cond imp nl) ρ=kPX P C elt tg k cond imp nl (cD P C its ρ):=rfl
theorem aCm {elt:E} {tg:List Nat} {k:ItK} {cond:List E} {imp:List Nat} {nl:Nat} {hs:List Hd} {ρ1:Env} {ds:List D} (h:aI k hs ρ1=some (ds,none)) :
  kPX P C elt tg k cond imp nl (some (.ok hs,ρ1))=BS none ρ1 (bZ (imp.map fun _=>true) (oF (dC P C cond) (ev P C false elt) (iS P C elt) (a8 (tg.length == 1) tg) ds nl) (imp.map Hd.slot) ρ1):=by
 show (match aI k hs ρ1 with | none=>none | some (ds,o)=>_)=_;rw [h];rfl
noncomputable def kFX (as:List Sl) (o:Option (Exc × Env)):aE RV:=match o with
 | some (x,ρi)=>some (.ex x,back as ρi)
 | none=>none
theorem fD {tests elt:Env→aE RV} {eltX:Env→Option (Exc × Env)} {bind:D→Env→Option Env} {ds:List D} {nl:Nat} {as:List Sl} (h:as.all iT=true) (h2:aZ ds.length=true) :
  oF tests elt eltX bind ds nl as=kFX as (iR tests elt eltX bind ds (as ++ List.replicate nl .un)):=by
 unfold oF;rw [if_pos ⟨h,h2⟩];rfl
theorem aEB {as:List Sl} {x:Exc} {ρi:Env}:kFX as (some (x,ρi))=some (.ex x,back as ρi):=rfl
theorem aCM {x:Exc} {ρ1 ρ2:Env}:BS none ρ1 (some (.ex x,ρ2))=some (x,ρ2):=rfl
theorem D1 {tests elt:Env→aE RV} {eltX:Env→Option (Exc × Env)} {bind:D→Env→Option Env} {x:Exc} (good:D→Bool) (J:Env→Prop) :
  ∀ (ds:List D) (acc:List D) (ρ:Env),J ρ→ds.all good=false →
  (∀ d∈ds,∀ ρ,J ρ→∃ ρ1,bind d ρ=some ρ1∧tests ρ1=some (.ok (.sh (.bl true)),ρ1)∧(good d=true→∃ v ρ3,elt ρ1=some (.ok v,ρ3)∧J ρ3)∧(good d=false→∃ ρ3,elt ρ1=some (.ex x,ρ3)∧eltX ρ1=some (x,ρ3)∧J ρ3)) →
  ∃ ρ',d8 tests elt bind ds acc ρ=some (.ex x,ρ')∧iR tests elt eltX bind ds ρ=some (x,ρ')∧J ρ'
 | [],_,_,_,h,_=>by simp at h
 | d :: ds,acc,ρ,hJ,h,step=>by
  obtain ⟨ρ1,h1,h2,h3,h4⟩:=step d (List.mem_cons_self ..) ρ hJ
  cases hg:good d with
  | true =>
   obtain ⟨v,ρ3,e,hJ3⟩:=h3 hg;rw [List.all_cons,hg,Bool.true_and] at h;obtain ⟨ρ',a,b,c⟩:=D1 good J ds (acc ++ [v.d]) ρ3 hJ3 h fun d hd=>step d (List.mem_cons_of_mem _ hd)
   refine ⟨ρ', ?_, ?_,c⟩
   ·simp only [d8,h1,h2,aE.bind,e,a]
   ·simp only [iR,h1,h2,e,b]
  | false =>
   obtain ⟨ρ3,e,e',hJ3⟩:=h4 hg;refine ⟨ρ3, ?_, ?_,hJ3⟩
   ·simp only [d8,h1,h2,aE.bind,e]
   ·simp only [iR,h1,h2,e,e']
theorem ZA {i:Nat} {e:E}:ex P C W (.aug i e) ρ=HS i ρ[i]? (ev P C false e ρ):=rfl
theorem aDx {i:Nat} {a b:Int}:HS i (some (.sh (.int a))) (some (.ok (.sh (.int b)),ρ))=jC (store i (.sh (.int (a+b))) ρ):=rfl
noncomputable def PH (o:Option D):Option RV:=o.bind aA4
noncomputable def XY (x:Hd) (ρ:Env):aE RV:=done (PH (x.get ρ)) ρ
theorem aDp {x:Hd}:XY x ρ=done (PH (x.get ρ)) ρ:=rfl
theorem aBv {ds:List D}:PH (some (.tup ds))=some (.sh (.tup ds.reverse)):=rfl
theorem aBA {a:E}:ev P C t (.rev a) ρ=bJ t ((dM P C a ρ).bind XY):=rfl
noncomputable def IS (cs:List PySem.Str) (r:bN) (o:Option (Exc × Env)):bN:=match r with
 | some (.nx,ρ1)=>some (.nx,ρ1)
 | some (.rt v,ρ1)=>some (.rt v,ρ1)
 | _=>j7 cs o
theorem V5 {b:List S} {cs:List PySem.Str}:ex P C W (.tryN b cs) ρ=IS cs (exs P C W b ρ) (hU P C W b ρ):=rfl
theorem QN {cs:List PySem.Str} {v:RV} {o:Option (Exc × Env)}:IS cs (some (.rt v,ρ)) o=some (.rt v,ρ):=rfl
theorem PV {cs:List PySem.Str} {x:Exc} {o:Option (Exc × Env)}:IS cs (some (.ex x,ρ)) o=j7 cs o:=rfl
theorem PF {cs:List PySem.Str} {x:Exc} (h:cs.contains x.cls=true):j7 cs (some (x,ρ))=some (.rt (.sh .non),ρ):=by
 show (if cs.contains x.cls=true then _ else none)=_;rw [if_pos h]
end CI
namespace Tx
open PySem PySem.Spec PyProof.Rows L2 CI
noncomputable def top (i:Nat):Stmt:=PySem.Challenge.pw_canonwright_k60_whole_turned_over.main.body.getD i (.Pass ⟨0,0,0,0⟩)
noncomputable def jP:List Str:=["NoHouse"]
noncomputable def dN:List (Str × String):=[("Span","Span.broken"),("Leap","Leap.broken"),("Back","Back.broken"),("Again","Again.broken"),("Range","Range.broken"),("Above","Above.broken"),("Never","Never.broken")]
noncomputable def eU:List (Str × String):=[("Span","Span.forbids"),("Range","Range.forbids")]
noncomputable def FK:List (Str × String):=[("Span","Span.told"),("Leap","Leap.told"),("Back","Back.told"),("Again","Again.told"),("Range","Range.told"),("Above","Above.told"),("Never","Never.told")]
noncomputable def L:List (Str × GV):=[((Str.ofString "NOTES",GV.con (.int 0)):Str × GV),((Str.ofString "BAR",GV.con (.int 1)):Str × GV),((Str.ofString "OCTAVE",GV.con (.int 2)):Str × GV),((Str.ofString "VOICES",GV.con (.int 3)):Str × GV),((Str.ofString "RULES",GV.con (.int 4)):Str × GV),((Str.ofString "LATE",GV.con (.int 0)):Str × GV),((Str.ofString "SHIFT",GV.con (.int 1)):Str × GV),((Str.ofString "TURNED",GV.con (.int 2)):Str × GV),((Str.ofString "LEADER",GV.con (.tup [(.int 0),(.int 0),(.bl false)])):Str × GV),((Str.ofString "MOST_SHIFT",GV.con (.int 12)):Str × GV),((Str.ofString "FURTHEST",GV.con (.int 60)):Str × GV),((Str.ofString "BY_THE_LINE",GV.con (.tup [])):Str × GV),((Str.ofString "_wall",GV.fn "_wall"):Str × GV),((Str.ofString "is_whole",GV.fn "is_whole"):Str × GV),((Str.ofString "is_within",GV.fn "is_within"):Str × GV),((Str.ofString "with_parts",GV.fn "with_parts"):Str × GV),((Str.ofString "follower_over",GV.fn "follower_over"):Str × GV),((Str.ofString "end_over",GV.fn "end_over"):Str × GV),((Str.ofString "rule_over",GV.fn "rule_over"):Str × GV),((Str.ofString "turned_over",GV.fn "turned_over"):Str × GV),((Str.ofString "line_over",GV.fn "line_over"):Str × GV),((Str.ofString "pitch",GV.fn "pitch"):Str × GV),((Str.ofString "singer",GV.fn "singer"):Str × GV),((Str.ofString "sung",GV.fn "sung"):Str × GV),((Str.ofString "span",GV.fn "span"):Str × GV),((Str.ofString "chord",GV.fn "chord"):Str × GV),((Str.ofString "sounding_pairs",GV.fn "sounding_pairs"):Str × GV),((Str.ofString "move_so",GV.fn "move_so"):Str × GV),((Str.ofString "rule_of",GV.fn "rule_of"):Str × GV),((Str.ofString "rules_of",GV.fn "rules_of"):Str × GV),((Str.ofString "breaks_at",GV.fn "breaks_at"):Str × GV),((Str.ofString "breaks",GV.fn "breaks"):Str × GV),((Str.ofString "first_break",GV.fn "first_break"):Str × GV),((Str.ofString "is_let_by",GV.fn "is_let_by"):Str × GV),((Str.ofString "_law_pen",GV.fn "L_pen"):Str × GV),((Str.ofString "_law_draw",GV.fn "L_draw"):Str × GV),((Str.ofString "_law_rule",GV.fn "L_rule"):Str × GV),((Str.ofString "_law_house",GV.fn "L_house"):Str × GV),((Str.ofString "_law_line",GV.fn "L_line"):Str × GV),((Str.ofString "_law_turned",GV.fn "L_turned"):Str × GV),((Str.ofString "_law_crossed",GV.fn "L_crossed"):Str × GV),((Str.ofString "law",GV.fn "law"):Str × GV),((Str.ofString "Span",GV.cls ["beat","spans"]):Str × GV),((Str.ofString "Leap",GV.cls ["most"]):Str × GV),((Str.ofString "Back",GV.cls ["leap","most"]):Str × GV),((Str.ofString "Again",GV.cls ["most"]):Str × GV),((Str.ofString "Range",GV.cls ["low","high"]):Str × GV),((Str.ofString "Above",GV.cls ["one","other"]):Str × GV),((Str.ofString "Never",GV.cls ["one","other","way"]):Str × GV),((rD "broken",GV.mth dN):Str × GV),((rD "forbids",GV.mth eU):Str × GV),((rD "told",GV.mth FK):Str × GV),((Str.ofString "abs",GV.blt):Str × GV),((Str.ofString "all",GV.blt):Str × GV),((Str.ofString "bool",GV.blt):Str × GV),((Str.ofString "enumerate",GV.blt):Str × GV),((Str.ofString "int",GV.blt):Str × GV),((Str.ofString "isinstance",GV.blt):Str × GV),((Str.ofString "len",GV.blt):Str × GV),((Str.ofString "max",GV.blt):Str × GV),((Str.ofString "min",GV.blt):Str × GV),((Str.ofString "range",GV.blt):Str × GV),((Str.ofString "tuple",GV.blt):Str × GV),((Str.ofString "NoHouse",GV.exc):Str × GV),((AD "NoHouse",GV.exs jP):Str × GV)]
noncomputable def W6:Stmt→List Stmt
 | .ClassDef _ _ _ body _ _ _ _ _ _ _=>body
 | _=>[]
noncomputable def cJ (i j:Nat):Stmt:=(W6 (top i)).getD j (.Pass ⟨0,0,0,0⟩)
noncomputable def cF:E:=(.call "follower_over" [(.var 0),(.var 2)])
noncomputable def jA:E:=(.call "rule_over" [(.var 0),(.var 2)])
noncomputable def kG:E:=(.bin .Sub (.bin .Sub (.ix (.var 0) (.con (.int 0))) (.con (.int 1))) (.var 2))
noncomputable def pS:E:=(.call "sung" [(.var 1),(.var 2),(.var 4),(.var 0)])
noncomputable def i8:E:=(.tup [(.var 4),(.var 5)])
noncomputable def iK:E:=(.cmp .Eq (.var 3) (.ix (.var 1) (.var 0)))
noncomputable def iM:E:=(.tup [(.var 2)])
noncomputable def lD:E:=(.call "rule_of" [(.var 1)])
noncomputable def nV:E:=(.call "L_draw" [(.var 1),(.var 0)])
noncomputable def vM:E:=(.var 1)
noncomputable def gG:List S:=[(.ifs (.and (.cmp .IsNot (.ix (.var 0) (.var 2)) (.con .non)) (.cmp .IsNot (.ix (.var 0) (.var 3)) (.con .non))) [(.expr (.app 1 (.tup [(.var 2),(.var 3)])))] [])]
noncomputable def gE:List S:=[(.for [3] true .rng [(.bin .Add (.var 2) (.con (.int 1))),(.bif .len [(.var 0)])] gG)]
noncomputable def iL:List S:=[(.ifs (.and (.cmp .Eq (.call "span" [(.var 4),(.ix (.var 5) (.var 8)),(.ix (.var 5) (.var 9))]) (.fld (.var 0) "one")) (.cmp .Eq (.call "span" [(.var 4),(.ix (.var 6) (.var 8)),(.ix (.var 6) (.var 9))]) (.fld (.var 0) "other"))) [(.ifs (.call "move_so" [(.fld (.var 0) "way"),(.bin .Sub (.ix (.var 6) (.var 8)) (.ix (.var 5) (.var 8))),(.bin .Sub (.ix (.var 6) (.var 9)) (.ix (.var 5) (.var 9)))]) [(.expr (.app 7 (.tup [(.var 8),(.var 9)])))] [])] [])]
noncomputable def kF:List S:=[(.expr (.app 4 (.tup [(.var 3),(.var 5),(.var 7)])))]
noncomputable def kB:List S:=[(.for [7] true .of [(.meth 6 "broken" dN [(.var 0),(.var 2),(.var 3)])] kF)]
noncomputable def nW:List S:=[(.expr (.ext 3 (.call "breaks_at" [(.var 0),(.var 2),(.var 1),(.var 4)])))]
noncomputable def i9:List S:=[(.asg 4 (.call "breaks_at" [(.var 0),(.var 2),(.var 1),(.var 3)])),(.ifs (.cmp .Gt (.bif .len [(.var 4)]) (.con (.int 0))) [(.ret (.ix (.var 4) (.con (.int 0))))] [])]
noncomputable def mB:List S:=[(.asg 8 (.call "L_draw" [(.var 0),(.ix (.lst [(.con (.int 2)),(.con (.int 5))]) (.bif .int [(.var 1)]))])),(.expr (.app 6 (.tup [(.var 8),(.bin .Sub (.call "L_draw" [(.var 0),(.con (.int 25))]) (.con (.int 12))),(.cmp .Eq (.call "L_draw" [(.var 0),(.con (.int 4))]) (.con (.int 0)))])))]
noncomputable def l8:List S:=[(.expr (.app 9 (.call "L_rule" [(.var 0),(.var 2),(.var 3),(.var 4),(.var 5)])))]
noncomputable def kE:List S:=[(.ifs (.cmp .Eq (.ix (.ix (.ix (.var 0) (.con (.int 4))) (.var 4)) (.con (.int 0))) (.con (.str ("above":Str)))) [(.asg 5 (.rev (.var 5)))] []),(.expr (.app 2 (.tup [(.var 3),(.var 4),(.var 5)])))]
noncomputable def nQ:S:=(.asg 5 (.call "L_draw" [(.var 0),(.con (.int 9))]))
theorem AR {P:aK} {C:Calls} {W:Nat} {ρ:CI.Env}:ex P C W nQ ρ=ex P C W (.asg 5 (.call "L_draw" [(.var 0),(.con (.int 9))])) ρ:=(rfl)
noncomputable def nP:S:=(.ifs (.cmp .Lt (.var 5) (.con (.int 2))) [(.ret (.tup [(.con (.str ("span":Str))),(.call "L_draw" [(.var 0),(.var 2)]),(.call "L_draw" [(.var 0),(.bin .LShift (.con (.int 1)) (.var 3))])]))] [])
theorem qQ {P:aK} {C:Calls} {W:Nat} {ρ:CI.Env}:ex P C W nP ρ=ex P C W (.ifs (.cmp .Lt (.var 5) (.con (.int 2))) [(.ret (.tup [(.con (.str ("span":Str))),(.call "L_draw" [(.var 0),(.var 2)]),(.call "L_draw" [(.var 0),(.bin .LShift (.con (.int 1)) (.var 3))])]))] []) ρ:=(rfl)
noncomputable def u9:S:=(.ifs (.cmp .Eq (.var 5) (.con (.int 2))) [(.ret (.tup [(.con (.str ("span":Str))),(.call "L_draw" [(.var 0),(.var 2)]),(.bin .Sub (.bin .Sub (.bin .LShift (.con (.int 1)) (.var 3)) (.con (.int 1))) (.bin .LShift (.con (.int 1)) (.call "L_draw" [(.var 0),(.var 3)])))]))] [])
theorem rN {P:aK} {C:Calls} {W:Nat} {ρ:CI.Env}:ex P C W u9 ρ=ex P C W (.ifs (.cmp .Eq (.var 5) (.con (.int 2))) [(.ret (.tup [(.con (.str ("span":Str))),(.call "L_draw" [(.var 0),(.var 2)]),(.bin .Sub (.bin .Sub (.bin .LShift (.con (.int 1)) (.var 3)) (.con (.int 1))) (.bin .LShift (.con (.int 1)) (.call "L_draw" [(.var 0),(.var 3)])))]))] []) ρ:=(rfl)
noncomputable def uR:S:=(.ifs (.cmp .Eq (.var 5) (.con (.int 3))) [(.ret (.tup [(.con (.str ("leap":Str))),(.call "L_draw" [(.var 0),(.ix (.lst [(.con (.int 13)),(.bin .Add (.var 1) (.con (.int 1)))]) (.call "L_draw" [(.var 0),(.con (.int 2))]))])]))] [])
theorem qE {P:aK} {C:Calls} {W:Nat} {ρ:CI.Env}:ex P C W uR ρ=ex P C W (.ifs (.cmp .Eq (.var 5) (.con (.int 3))) [(.ret (.tup [(.con (.str ("leap":Str))),(.call "L_draw" [(.var 0),(.ix (.lst [(.con (.int 13)),(.bin .Add (.var 1) (.con (.int 1)))]) (.call "L_draw" [(.var 0),(.con (.int 2))]))])]))] []) ρ:=(rfl)
noncomputable def vD:S:=(.ifs (.cmp .Eq (.var 5) (.con (.int 4))) [(.ret (.tup [(.con (.str ("back":Str))),(.bin .Add (.con (.int 1)) (.call "L_draw" [(.var 0),(.con (.int 12))])),(.bin .Add (.con (.int 1)) (.call "L_draw" [(.var 0),(.con (.int 12))]))]))] [])
theorem qJ {P:aK} {C:Calls} {W:Nat} {ρ:CI.Env}:ex P C W vD ρ=ex P C W (.ifs (.cmp .Eq (.var 5) (.con (.int 4))) [(.ret (.tup [(.con (.str ("back":Str))),(.bin .Add (.con (.int 1)) (.call "L_draw" [(.var 0),(.con (.int 12))])),(.bin .Add (.con (.int 1)) (.call "L_draw" [(.var 0),(.con (.int 12))]))]))] []) ρ:=(rfl)
noncomputable def uX:S:=(.ifs (.cmp .Eq (.var 5) (.con (.int 5))) [(.ret (.tup [(.con (.str ("again":Str))),(.bin .Add (.con (.int 1)) (.call "L_draw" [(.var 0),(.con (.int 3))]))]))] [])
theorem qG {P:aK} {C:Calls} {W:Nat} {ρ:CI.Env}:ex P C W uX ρ=ex P C W (.ifs (.cmp .Eq (.var 5) (.con (.int 5))) [(.ret (.tup [(.con (.str ("again":Str))),(.bin .Add (.con (.int 1)) (.call "L_draw" [(.var 0),(.con (.int 3))]))]))] []) ρ:=(rfl)
noncomputable def uY:S:=(.ifs (.cmp .Eq (.var 5) (.con (.int 6))) [(.asg 6 (.ix (.lst [(.bin .Sub (.call "L_draw" [(.var 0),(.con (.int 121))]) (.con (.int 60))),(.bin .Sub (.call "L_draw" [(.var 0),(.con (.int 20))]) (.con (.int 12)))]) (.call "L_draw" [(.var 0),(.con (.int 2))]))),(.ret (.tup [(.con (.str ("range":Str))),(.var 6),(.bin .Add (.var 6) (.call "L_draw" [(.var 0),(.bin .Sub (.con (.int 61)) (.var 6))]))]))] [])
theorem rC {P:aK} {C:Calls} {W:Nat} {ρ:CI.Env}:ex P C W uY ρ=ex P C W (.ifs (.cmp .Eq (.var 5) (.con (.int 6))) [(.asg 6 (.ix (.lst [(.bin .Sub (.call "L_draw" [(.var 0),(.con (.int 121))]) (.con (.int 60))),(.bin .Sub (.call "L_draw" [(.var 0),(.con (.int 20))]) (.con (.int 12)))]) (.call "L_draw" [(.var 0),(.con (.int 2))]))),(.ret (.tup [(.con (.str ("range":Str))),(.var 6),(.bin .Add (.var 6) (.call "L_draw" [(.var 0),(.bin .Sub (.con (.int 61)) (.var 6))]))]))] []) ρ:=(rfl)
noncomputable def uI:S:=(.ifs (.cmp .Eq (.var 5) (.con (.int 7))) [(.asg 7 (.call "L_draw" [(.var 0),(.bin .Add (.var 4) (.con (.int 1)))])),(.ret (.tup [(.con (.str ("above":Str))),(.var 7),(.bin .Mod (.bin .Add (.bin .Add (.var 7) (.con (.int 1))) (.call "L_draw" [(.var 0),(.var 4)])) (.bin .Add (.var 4) (.con (.int 1))))]))] [])
theorem qU {P:aK} {C:Calls} {W:Nat} {ρ:CI.Env}:ex P C W uI ρ=ex P C W (.ifs (.cmp .Eq (.var 5) (.con (.int 7))) [(.asg 7 (.call "L_draw" [(.var 0),(.bin .Add (.var 4) (.con (.int 1)))])),(.ret (.tup [(.con (.str ("above":Str))),(.var 7),(.bin .Mod (.bin .Add (.bin .Add (.var 7) (.con (.int 1))) (.call "L_draw" [(.var 0),(.var 4)])) (.bin .Add (.var 4) (.con (.int 1))))]))] []) ρ:=(rfl)
noncomputable def uT:S:=(.asg 8 (.tup [(.con (.str ("like":Str))),(.con (.str ("against":Str))),(.con (.str ("aside":Str))),(.con (.str ("any":Str)))]))
theorem A8 {P:aK} {C:Calls} {W:Nat} {ρ:CI.Env}:ex P C W uT ρ=ex P C W (.asg 8 (.tup [(.con (.str ("like":Str))),(.con (.str ("against":Str))),(.con (.str ("aside":Str))),(.con (.str ("any":Str)))])) ρ:=(rfl)
noncomputable def uL:S:=(.ret (.tup [(.con (.str ("never":Str))),(.call "L_draw" [(.var 0),(.var 3)]),(.call "L_draw" [(.var 0),(.var 3)]),(.ix (.var 8) (.call "L_draw" [(.var 0),(.con (.int 4))]))]))
theorem A0 {P:aK} {C:Calls} {W:Nat} {ρ:CI.Env}:ex P C W uL ρ=ex P C W (.ret (.tup [(.con (.str ("never":Str))),(.call "L_draw" [(.var 0),(.var 3)]),(.call "L_draw" [(.var 0),(.var 3)]),(.ix (.var 8) (.call "L_draw" [(.var 0),(.con (.int 4))]))])) ρ:=(rfl)
noncomputable def vX:Fn:=⟨[true],0,CG (aX L) (top 0),false⟩
noncomputable def kI:Fn:=⟨[true],0,[(.ret (.and (.isi (.var 0) [.int]) (.not (.isi (.var 0) [.bool]))))],false⟩
noncomputable def gQ:Fn:=⟨[true,true,true],0,[(.ret (.and (.call "is_whole" [(.var 0)]) (.cmp2 .LtE .LtE (.var 1) (.var 0) (.var 2))))],false⟩
noncomputable def i7:Fn:=⟨[true,true,true],0,[(.ret (.tup [(.ix (.var 0) (.con (.int 0))),(.ix (.var 0) (.con (.int 1))),(.ix (.var 0) (.con (.int 2))),(.bif .tuple [(.var 1)]),(.bif .tuple [(.var 2)])]))],false⟩
noncomputable def dF:Fn:=⟨[true,true],1,[(.asg 2 (.neg (.ix (.var 1) (.con (.int 1))))),(.ifs (.ix (.var 1) (.con (.int 2))) [(.aug 2 (.bin .Mult (.con (.int 2)) (.bin .Sub (.ix (.var 0) (.con (.int 0))) (.con (.int 1)))))] []),(.ifs (.not (.call "is_within" [(.var 2),(.neg (.con (.int 12))),(.con (.int 12))])) [(.rse "NoHouse" [(.con (.str ("a follower's new shift is beyond -12 to 12":Str)))])] []),(.ret (.tup [(.ix (.var 1) (.con (.int 0))),(.var 2),(.ix (.var 1) (.con (.int 2)))]))],true⟩
noncomputable def kN:Fn:=⟨[true,true],0,[(.ret (.bif .max [(.neg (.con (.int 60))),(.bif .min [(.con (.int 60)),(.bin .Sub (.bin .Sub (.ix (.var 0) (.con (.int 0))) (.con (.int 1))) (.var 1))])]))],false⟩
noncomputable def jR:Fn:=⟨[true,false],0,[(.ifs (.cmp .Eq (.ix (.var 1) (.con (.int 0))) (.con (.str ("range":Str)))) [(.ret (.tup [(.con (.str ("range":Str))),(.call "end_over" [(.var 0),(.ix (.var 1) (.con (.int 2)))]),(.call "end_over" [(.var 0),(.ix (.var 1) (.con (.int 1)))])]))] []),(.ifs (.cmp .Eq (.ix (.var 1) (.con (.int 0))) (.con (.str ("above":Str)))) [(.ret (.tup [(.con (.str ("above":Str))),(.ix (.var 1) (.con (.int 2))),(.ix (.var 1) (.con (.int 1)))]))] []),(.ret (.var 1))],false⟩
noncomputable def eI:Fn:=⟨[true],1,[(.asg 1 (.comp cF [2] .of [(.ix (.var 0) (.con (.int 3)))] [] [0] 2)),(.ret (.call "with_parts" [(.var 0),(.var 1),(.comp jA [2] .of [(.ix (.var 0) (.con (.int 4)))] [] [0] 2)]))],true⟩
noncomputable def jY:Fn:=⟨[true,true],0,[(.ret (.comp kG [2] .of [(.var 1)] [] [0] 2))],false⟩
noncomputable def pC:Fn:=⟨[true,true],0,[(.ifs (.ix (.var 0) (.con (.int 2))) [(.ret (.bin .Sub (.ix (.var 0) (.con (.int 1))) (.var 1)))] []),(.ret (.bin .Add (.ix (.var 0) (.con (.int 1))) (.var 1)))],false⟩
noncomputable def mY:Fn:=⟨[true,true],0,[(.ifs (.cmp .Eq (.var 1) (.con (.int 0))) [(.ret (.con (.tup [(.int 0),(.int 0),(.bl false)])))] []),(.ret (.ix (.ix (.var 0) (.con (.int 3))) (.bin .Sub (.var 1) (.con (.int 1)))))],false⟩
noncomputable def tL:Fn:=⟨[true,true,true,true],2,[(.asg 4 (.call "singer" [(.var 0),(.var 2)])),(.asg 5 (.bin .Sub (.var 3) (.ix (.var 4) (.con (.int 0))))),(.ifs (.cmp2 .LtE .Lt (.con (.int 0)) (.var 5) (.bif .len [(.var 1)])) [(.ret (.call "pitch" [(.var 4),(.ix (.var 1) (.var 5))]))] []),(.ret (.con .non))],false⟩
noncomputable def tZ:Fn:=⟨[true,true,true],0,[(.ret (.bin .Mod (.bif .abs [(.bin .Sub (.var 1) (.var 2))]) (.var 0)))],false⟩
noncomputable def pA:Fn:=⟨[true,true,true],0,[(.ret (.comp pS [4] .rng [(.bin .Add (.bif .len [(.ix (.var 0) (.con (.int 3)))]) (.con (.int 1)))] [] [2,0,1] 2))],false⟩
noncomputable def fA:Fn:=⟨[true],3,[(.asg 1 (.lst [])),(.for [2] true .rng [(.bif .len [(.var 0)])] gE),(.ret (.var 1))],false⟩
noncomputable def lX:Fn:=⟨[true,true,true],0,[(.ifs (.cmp .Eq (.var 0) (.con (.str ("like":Str)))) [(.ret (.cmp .Gt (.bin .Mult (.var 1) (.var 2)) (.con (.int 0))))] []),(.ifs (.cmp .Eq (.var 0) (.con (.str ("against":Str)))) [(.ret (.cmp .Lt (.bin .Mult (.var 1) (.var 2)) (.con (.int 0))))] []),(.ifs (.cmp .Eq (.var 0) (.con (.str ("aside":Str)))) [(.ret (.cmp .NotEq (.cmp .Eq (.var 1) (.con (.int 0))) (.cmp .Eq (.var 2) (.con (.int 0)))))] []),(.ret (.con (.bl true)))],false⟩
noncomputable def iE:Fn:=⟨[true,true,true,true],2,[(.ifs (.cmp .NotEq (.bin .Mod (.var 3) (.ix (.var 1) (.con (.int 1)))) (.fld (.var 0) "beat")) [(.ret (.lst []))] []),(.asg 4 (.ix (.var 1) (.con (.int 2)))),(.asg 5 (.call "chord" [(.var 1),(.var 2),(.var 3)])),(.ret (.comp i8 [4,5] .of [(.call "sounding_pairs" [(.var 5)])] [(.meth 2 "forbids" eU [(.call "span" [(.var 1),(.ix (.var 0) (.var 4)),(.ix (.var 0) (.var 5))])])] [5,4,0] 3))],false⟩
noncomputable def gL:Fn:=⟨[true,true],0,[(.ret (.cmp .Eq (.bin .BitAnd (.bin .RShift (.fld (.var 0) "spans") (.var 1)) (.con (.int 1))) (.con (.int 0))))],false⟩
noncomputable def mF:Fn:=⟨[true],0,[(.expr (.call "_wall" [(.con (.int 0))]))],false⟩
noncomputable def hW:Fn:=⟨[true,true,true,false],0,[(.ifs (.and (.cmp .Gt (.var 3) (.con (.int 0))) (.cmp .Gt (.bif .abs [(.bin .Sub (.ix (.var 2) (.var 3)) (.ix (.var 2) (.bin .Sub (.var 3) (.con (.int 1)))))]) (.fld (.var 0) "most"))) [(.ret (.lst [(.con (.tup []))]))] []),(.ret (.lst []))],false⟩
noncomputable def mD:Fn:=⟨[true],0,[(.expr (.call "_wall" [(.con (.int 1))]))],false⟩
noncomputable def iI:Fn:=⟨[true,true,true,false],2,[(.ifs (.cmp .Lt (.var 3) (.con (.int 2))) [(.ret (.lst []))] []),(.asg 4 (.bin .Sub (.ix (.var 2) (.bin .Sub (.var 3) (.con (.int 1)))) (.ix (.var 2) (.bin .Sub (.var 3) (.con (.int 2)))))),(.asg 5 (.bin .Sub (.ix (.var 2) (.var 3)) (.ix (.var 2) (.bin .Sub (.var 3) (.con (.int 1)))))),(.ifs (.cmp .Lt (.bif .abs [(.var 4)]) (.fld (.var 0) "leap")) [(.ret (.lst []))] []),(.ifs (.and (.cmp .Lt (.bin .Mult (.var 4) (.var 5)) (.con (.int 0))) (.cmp .LtE (.bif .abs [(.var 5)]) (.fld (.var 0) "most"))) [(.ret (.lst []))] []),(.ret (.lst [(.con (.tup []))]))],false⟩
noncomputable def mK:Fn:=⟨[true],0,[(.expr (.call "_wall" [(.con (.int 2))]))],false⟩
noncomputable def gP:Fn:=⟨[true,true,true,false],0,[(.ifs (.cmp .Lt (.var 3) (.fld (.var 0) "most")) [(.ret (.lst []))] []),(.ifs (.bif .all [(.comp iK [3] .of [(.sl (.var 2) (.bin .Sub (.var 3) (.fld (.var 0) "most")) (.var 3))] [] [3,2] 2)]) [(.ret (.lst [(.con (.tup []))]))] []),(.ret (.lst []))],false⟩
noncomputable def kU:Fn:=⟨[true],0,[(.expr (.call "_wall" [(.con (.int 3))]))],false⟩
noncomputable def gK:Fn:=⟨[true,true,true,true],0,[(.ret (.comp iM [2,3] (.enum 0) [(.call "chord" [(.var 1),(.var 2),(.var 3)])] [(.meth 0 "forbids" eU [(.var 3)])] [0] 3))],false⟩
noncomputable def fR:Fn:=⟨[true,true],0,[(.ret (.and (.cmp .IsNot (.var 1) (.con .non)) (.not (.cmp2 .LtE .LtE (.fld (.var 0) "low") (.var 1) (.fld (.var 0) "high")))))],false⟩
noncomputable def kZ:Fn:=⟨[true],0,[(.expr (.call "_wall" [(.con (.int 4))]))],false⟩
noncomputable def gI:Fn:=⟨[true,true,true,true],2,[(.asg 4 (.call "sung" [(.var 1),(.var 2),(.fld (.var 0) "one"),(.var 3)])),(.asg 5 (.call "sung" [(.var 1),(.var 2),(.fld (.var 0) "other"),(.var 3)])),(.ifs (.or (.cmp .Is (.var 4) (.con .non)) (.or (.cmp .Is (.var 5) (.con .non)) (.cmp .GtE (.var 4) (.var 5)))) [(.ret (.lst []))] []),(.ret (.lst [(.tup [(.fld (.var 0) "one"),(.fld (.var 0) "other")])]))],false⟩
noncomputable def kY:Fn:=⟨[true],0,[(.expr (.call "_wall" [(.con (.int 5))]))],false⟩
noncomputable def gJ:Fn:=⟨[true,true,true,true],6,[(.asg 4 (.ix (.var 1) (.con (.int 2)))),(.asg 5 (.call "chord" [(.var 1),(.var 2),(.bin .Sub (.var 3) (.con (.int 1)))])),(.asg 6 (.call "chord" [(.var 1),(.var 2),(.var 3)])),(.asg 7 (.lst [])),(.for [8,9] false .of [(.call "sounding_pairs" [(.var 5)])] iL),(.ret (.var 7))],false⟩
noncomputable def lA:Fn:=⟨[true],0,[(.expr (.call "_wall" [(.con (.int 6))]))],false⟩
noncomputable def dH:Fn:=⟨[true],1,[(.asg 1 (.ix (.var 0) (.con (.int 0)))),(.ifs (.cmp .Eq (.var 1) (.con (.str ("span":Str)))) [(.ret (.make "Span" ["beat","spans"] [(.ix (.var 0) (.con (.int 1))),(.ix (.var 0) (.con (.int 2)))]))] []),(.ifs (.cmp .Eq (.var 1) (.con (.str ("leap":Str)))) [(.ret (.make "Leap" ["most"] [(.ix (.var 0) (.con (.int 1)))]))] []),(.ifs (.cmp .Eq (.var 1) (.con (.str ("back":Str)))) [(.ret (.make "Back" ["leap","most"] [(.ix (.var 0) (.con (.int 1))),(.ix (.var 0) (.con (.int 2)))]))] []),(.ifs (.cmp .Eq (.var 1) (.con (.str ("again":Str)))) [(.ret (.make "Again" ["most"] [(.ix (.var 0) (.con (.int 1)))]))] []),(.ifs (.cmp .Eq (.var 1) (.con (.str ("range":Str)))) [(.ret (.make "Range" ["low","high"] [(.ix (.var 0) (.con (.int 1))),(.ix (.var 0) (.con (.int 2)))]))] []),(.ifs (.cmp .Eq (.var 1) (.con (.str ("above":Str)))) [(.ret (.make "Above" ["one","other"] [(.ix (.var 0) (.con (.int 1))),(.ix (.var 0) (.con (.int 2)))]))] []),(.ret (.make "Never" ["one","other","way"] [(.ix (.var 0) (.con (.int 1))),(.ix (.var 0) (.con (.int 2))),(.ix (.var 0) (.con (.int 3)))]))],false⟩
noncomputable def kK:Fn:=⟨[true],0,[(.ret (.comp lD [1] .of [(.ix (.var 0) (.con (.int 4)))] [] [] 2))],false⟩
noncomputable def jL:Fn:=⟨[true,true,true,false],4,[(.asg 4 (.lst [])),(.for [5,6] false (.enum 0) [(.var 1)] kB),(.ret (.var 4))],false⟩
noncomputable def nJ:Fn:=⟨[true,true],3,[(.asg 2 (.call "rules_of" [(.var 0)])),(.asg 3 (.lst [])),(.for [4] true .rng [(.bif .len [(.var 1)])] nW),(.ret (.var 3))],false⟩
noncomputable def iB:Fn:=⟨[true,true],3,[(.asg 2 (.call "rules_of" [(.var 0)])),(.for [3] true .rng [(.bif .len [(.var 1)])] i9),(.ret (.con .non))],false⟩
noncomputable def jM:Fn:=⟨[true,true],0,[(.ret (.cmp .Is (.call "first_break" [(.var 0),(.var 1)]) (.con .non)))],false⟩
noncomputable def pQ:Fn:=⟨[true,false],1,[(.ifs (.and (.cmp .Lt (.var 1) (.bif .len [(.var 0)])) (.cmp .Eq (.bin .Mod (.ix (.var 0) (.con (.int 0))) (.con (.int 2))) (.con (.int 0)))) [(.ret (.lst [(.con (.int 0)),(.ix (.var 0) (.var 1))]))] []),(.asg 2 (.bin .Add (.bin .Mult (.con (.int 30011)) (.var 1)) (.con (.int 7)))),(.ifs (.cmp .Gt (.bif .len [(.var 0)]) (.con (.int 0))) [(.asg 2 (.bin .Mod (.ix (.var 0) (.bin .Mod (.var 1) (.bif .len [(.var 0)]))) (.con (.int 2147483587)))),(.asg 2 (.bin .Add (.bin .Add (.var 2) (.bin .Mult (.con (.int 48611)) (.bin .FloorDiv (.var 1) (.bif .len [(.var 0)])))) (.bin .Mult (.con (.int 3)) (.var 1))))] []),(.ret (.lst [(.con (.int 1)),(.bin .Mod (.bin .Add (.bin .Add (.bin .Mult (.var 2) (.con (.int 48271))) (.bin .Mult (.con (.int 11)) (.var 1))) (.con (.int 1))) (.con (.int 2147483647)))]))],false⟩
noncomputable def m9:Fn:=⟨[true,true],3,[(.ifs (.cmp .Eq (.ix (.var 0) (.con (.int 0))) (.con (.int 0))) [(.asg 2 (.bin .Mod (.ix (.var 0) (.con (.int 1))) (.var 1))),(.set 0 (.con (.int 1)) (.bin .FloorDiv (.ix (.var 0) (.con (.int 1))) (.var 1))),(.ret (.var 2))] []),(.set 0 (.con (.int 1)) (.bin .Mod (.bin .Add (.bin .Mult (.ix (.var 0) (.con (.int 1))) (.con (.int 69621))) (.con (.int 7))) (.con (.int 2147483629)))),(.asg 3 (.bin .Mod (.ix (.var 0) (.con (.int 1))) (.con (.int 65521)))),(.asg 4 (.bin .FloorDiv (.ix (.var 0) (.con (.int 1))) (.con (.int 65521)))),(.ret (.bin .Mod (.bin .FloorDiv (.bin .Mod (.bin .Mult (.bin .Add (.bin .Add (.bin .Mult (.var 3) (.con (.int 40503))) (.var 4)) (.con (.int 1))) (.con (.int 16807))) (.con (.int 2147483647))) (.con (.int 13))) (.var 1)))],false⟩
noncomputable def nF:Fn:=⟨[true,true,true,true,true],4,[nQ,nP,u9,uR,vD,uX,uY,uI,uT,uL],false⟩
noncomputable def lV:Fn:=⟨[true],9,[(.asg 1 (.cmp .Eq (.call "L_draw" [(.var 0),(.con (.int 2))]) (.con (.int 0)))),(.asg 2 (.bin .Add (.con (.int 1)) (.call "L_draw" [(.var 0),(.ix (.lst [(.con (.int 4)),(.con (.int 7))]) (.bif .int [(.var 1)]))]))),(.asg 3 (.bin .Add (.con (.int 1)) (.call "L_draw" [(.var 0),(.ix (.lst [(.con (.int 2)),(.con (.int 4))]) (.bif .int [(.var 1)]))]))),(.asg 4 (.bin .Add (.con (.int 1)) (.call "L_draw" [(.var 0),(.con (.int 12))]))),(.asg 5 (.bin .Add (.con (.int 1)) (.call "L_draw" [(.var 0),(.ix (.lst [(.con (.int 2)),(.con (.int 3))]) (.bif .int [(.var 1)]))]))),(.asg 6 (.lst [])),(.for [7] true .rng [(.var 5)] mB),(.asg 9 (.lst [])),(.for [7] true .rng [(.call "L_draw" [(.var 0),(.con (.int 9))])] l8),(.ret (.tup [(.var 2),(.var 3),(.var 4),(.bif .tuple [(.var 6)]),(.bif .tuple [(.var 9)])]))],false⟩
noncomputable def nB:Fn:=⟨[true,true,true],1,[(.asg 3 (.call "L_draw" [(.var 0),(.bin .Add (.var 2) (.con (.int 1)))])),(.ret (.comp nV [3] .rng [(.var 3)] [] [1,0] 2))],false⟩
noncomputable def iQ:Fn:=⟨[true],0,[(.tryN [(.ret (.call "turned_over" [(.var 0)]))] jP)],false⟩
noncomputable def jQ:Fn:=⟨[true,true],4,[(.asg 2 (.lst [])),(.for [3,4,5] false .of [(.var 1)] kE),(.ret (.var 2))],false⟩
noncomputable def oX:Fn:=⟨[true],6,[(.asg 1 (.call "L_house" [(.call "L_pen" [(.var 0),(.con (.int 1))])])),(.asg 2 (.call "L_line" [(.call "L_pen" [(.var 0),(.con (.int 2))]),(.ix (.var 1) (.con (.int 0))),(.con (.int 20))])),(.asg 3 (.call "L_turned" [(.var 1)])),(.ifs (.cmp .Is (.var 3) (.con .non)) [(.ret (.cmp .NotEq (.comp vM [1] .of [(.ix (.var 1) (.con (.int 3)))] [(.ix (.var 1) (.con (.int 2)))] [] 2) (.lst [])))] []),(.asg 4 (.call "breaks" [(.var 1),(.var 2)])),(.asg 5 (.call "line_over" [(.var 1),(.var 2)])),(.ifs (.or (.cmp .NotEq (.call "breaks" [(.var 3),(.var 5)]) (.call "L_crossed" [(.var 1),(.var 4)])) (.cmp .NotEq (.call "is_let_by" [(.var 3),(.var 5)]) (.call "is_let_by" [(.var 1),(.var 2)]))) [(.ret (.con (.bl false)))] []),(.asg 6 (.call "L_turned" [(.var 3)])),(.ret (.and (.cmp .IsNot (.var 6) (.con .non)) (.cmp .Eq (.call "breaks" [(.var 6),(.call "line_over" [(.var 3),(.var 5)])]) (.var 4))))],false⟩
noncomputable def TL:List (String × Fn):=[("_wall",vX),("is_whole",kI),("is_within",gQ),("with_parts",i7),("follower_over",dF),("end_over",kN),("rule_over",jR),("turned_over",eI),("line_over",jY),("pitch",pC),("singer",mY),("sung",tL),("span",tZ),("chord",pA),("sounding_pairs",fA),("move_so",lX),("Span.broken",iE),("Span.forbids",gL),("Span.told",mF),("Leap.broken",hW),("Leap.told",mD),("Back.broken",iI),("Back.told",mK),("Again.broken",gP),("Again.told",kU),("Range.broken",gK),("Range.forbids",fR),("Range.told",kZ),("Above.broken",gI),("Above.told",kY),("Never.broken",gJ),("Never.told",lA),("rule_of",dH),("rules_of",kK),("breaks_at",jL),("breaks",nJ),("first_break",iB),("is_let_by",jM),("L_pen",pQ),("L_draw",m9),("L_rule",nF),("L_house",lV),("L_line",nB),("L_turned",iQ),("L_crossed",jQ),("law",oX)]
noncomputable def T:fX:=fun f=>TL.lookup f
theorem WZ:T "_wall"=some vX:=rfl
theorem xZ:T "is_whole"=some kI:=rfl
theorem IQ:T.pins "is_whole"=[true]:=rfl
theorem nR:T "is_within"=some gQ:=rfl
theorem E4:T.pins "is_within"=[true,true,true]:=rfl
theorem sR:T "with_parts"=some i7:=rfl
theorem C3:T.pins "with_parts"=[true,true,true]:=rfl
theorem jS:T "follower_over"=some dF:=rfl
theorem xF:T.pins "follower_over"=[true,true]:=rfl
theorem wO:T "end_over"=some kN:=rfl
theorem JP:T.pins "end_over"=[true,true]:=rfl
theorem u0:T "rule_over"=some jR:=rfl
theorem E7:T.pins "rule_over"=[true,false]:=rfl
theorem lC:T "turned_over"=some eI:=rfl
theorem A6:T.pins "turned_over"=[true]:=rfl
theorem uO:T "line_over"=some jY:=rfl
theorem EH:T.pins "line_over"=[true,true]:=rfl
theorem GK:T "pitch"=some pC:=rfl
theorem U5:T.pins "pitch"=[true,true]:=rfl
theorem CM:T "singer"=some mY:=rfl
theorem N4:T.pins "singer"=[true,true]:=rfl
theorem K5:T "sung"=some tL:=rfl
theorem aAg:T.pins "sung"=[true,true,true,true]:=rfl
theorem MB:T "span"=some tZ:=rfl
theorem aAY:T.pins "span"=[true,true,true]:=rfl
theorem GC:T "chord"=some pA:=rfl
theorem US:T.pins "chord"=[true,true,true]:=rfl
theorem mE:T "sounding_pairs"=some fA:=rfl
theorem v8:T.pins "sounding_pairs"=[true]:=rfl
theorem zT:T "move_so"=some lX:=rfl
theorem J4:T.pins "move_so"=[true,true,true]:=rfl
theorem qR:T "Span.broken"=some iE:=rfl
theorem A9:T.pins "Span.broken"=[true,true,true,true]:=rfl
theorem oG:T "Span.forbids"=some gL:=rfl
theorem yV:T.pins "Span.forbids"=[true,true]:=rfl
theorem EX:T "Span.told"=some mF:=rfl
theorem qP:T "Leap.broken"=some hW:=rfl
theorem A2:T.pins "Leap.broken"=[true,true,true,false]:=rfl
theorem EF:T "Leap.told"=some mD:=rfl
theorem rL:T "Back.broken"=some iI:=rfl
theorem AY:T.pins "Back.broken"=[true,true,true,false]:=rfl
theorem ES:T "Back.told"=some mK:=rfl
theorem oY:T "Again.broken"=some gP:=rfl
theorem yG:T.pins "Again.broken"=[true,true,true,false]:=rfl
theorem B7:T "Again.told"=some kU:=rfl
theorem oQ:T "Range.broken"=some gK:=rfl
theorem zF:T.pins "Range.broken"=[true,true,true,true]:=rfl
theorem m8:T "Range.forbids"=some fR:=rfl
theorem yA:T.pins "Range.forbids"=[true,true]:=rfl
theorem DH:T "Range.told"=some kZ:=rfl
theorem oR:T "Above.broken"=some gI:=rfl
theorem y3:T.pins "Above.broken"=[true,true,true,true]:=rfl
theorem CU:T "Above.told"=some kY:=rfl
theorem oB:T "Never.broken"=some gJ:=rfl
theorem yE:T.pins "Never.broken"=[true,true,true,true]:=rfl
theorem DA:T "Never.told"=some lA:=rfl
theorem fF:T "rule_of"=some dH:=rfl
theorem J9:T.pins "rule_of"=[true]:=rfl
theorem wK:T "rules_of"=some kK:=rfl
theorem JH:T.pins "rules_of"=[true]:=rfl
theorem vC:T "breaks_at"=some jL:=rfl
theorem EI:T.pins "breaks_at"=[true,true,true,false]:=rfl
theorem B4:T "breaks"=some nJ:=rfl
theorem QB:T.pins "breaks"=[true,true]:=rfl
theorem qT:T "first_break"=some iB:=rfl
theorem A4:T.pins "first_break"=[true,true]:=rfl
theorem uU:T "is_let_by"=some jM:=rfl
theorem EZ:T.pins "is_let_by"=[true,true]:=rfl
theorem GO:T "L_pen"=some pQ:=rfl
theorem WA:T.pins "L_pen"=[true,false]:=rfl
theorem CH:T "L_draw"=some m9:=rfl
theorem OO:T.pins "L_draw"=[true,true]:=rfl
theorem DW:T "L_rule"=some nF:=rfl
theorem N5:T.pins "L_rule"=[true,true,true,true,true]:=rfl
theorem z7:T "L_house"=some lV:=rfl
theorem KZ:T.pins "L_house"=[true]:=rfl
theorem C8:T "L_line"=some nB:=rfl
theorem PD:T.pins "L_line"=[true,true,true]:=rfl
theorem pK:T "L_turned"=some iQ:=rfl
theorem JQ:T.pins "L_turned"=[true]:=rfl
theorem uP:T "L_crossed"=some jQ:=rfl
theorem E2:T.pins "L_crossed"=[true,true]:=rfl
theorem BN:T "law"=some oX:=rfl
theorem NV:IniOk (cJ 36 0) "Span.__init__" ["beat","spans"]:=DK rfl rfl rfl (by decide +kernel) (by kernel_rfl) (uG rfl fun _ _ _ _ _ _ _ _ _=>rfl)
theorem eP {d0 d1:D}:jD (some (.ins "Span" ["beat","spans"] [d0,d1])) "beat"=some (.sh d0):=(rfl)
theorem eG {d0 d1:D}:jD (some (.ins "Span" ["beat","spans"] [d0,d1])) "spans"=some (.sh d1):=(rfl)
theorem OT:IniOk (cJ 37 0) "Leap.__init__" ["most"]:=DK rfl rfl rfl (by decide +kernel) (by kernel_rfl) (lH rfl fun _ _ _ _ _ _ _ _=>rfl)
theorem lB {d0:D}:jD (some (.ins "Leap" ["most"] [d0])) "most"=some (.sh d0):=(rfl)
theorem QG:IniOk (cJ 38 0) "Back.__init__" ["leap","most"]:=DK rfl rfl rfl (by decide +kernel) (by kernel_rfl) (uG rfl fun _ _ _ _ _ _ _ _ _=>rfl)
theorem eO {d0 d1:D}:jD (some (.ins "Back" ["leap","most"] [d0,d1])) "leap"=some (.sh d0):=(rfl)
theorem eQ {d0 d1:D}:jD (some (.ins "Back" ["leap","most"] [d0,d1])) "most"=some (.sh d1):=(rfl)
theorem LZ:IniOk (cJ 39 0) "Again.__init__" ["most"]:=DK rfl rfl rfl (by decide +kernel) (by kernel_rfl) (lH rfl fun _ _ _ _ _ _ _ _=>rfl)
theorem eJ {d0:D}:jD (some (.ins "Again" ["most"] [d0])) "most"=some (.sh d0):=(rfl)
theorem LN:IniOk (cJ 40 0) "Range.__init__" ["low","high"]:=DK rfl rfl rfl (by decide +kernel) (by kernel_rfl) (uG rfl fun _ _ _ _ _ _ _ _ _=>rfl)
theorem lE {d0 d1:D}:jD (some (.ins "Range" ["low","high"] [d0,d1])) "low"=some (.sh d0):=(rfl)
theorem j8 {d0 d1:D}:jD (some (.ins "Range" ["low","high"] [d0,d1])) "high"=some (.sh d1):=(rfl)
theorem KY:IniOk (cJ 41 0) "Above.__init__" ["one","other"]:=DK rfl rfl rfl (by decide +kernel) (by kernel_rfl) (uG rfl fun _ _ _ _ _ _ _ _ _=>rfl)
theorem iY {d0 d1:D}:jD (some (.ins "Above" ["one","other"] [d0,d1])) "one"=some (.sh d0):=(rfl)
theorem gO {d0 d1:D}:jD (some (.ins "Above" ["one","other"] [d0,d1])) "other"=some (.sh d1):=(rfl)
theorem KA:IniOk (cJ 42 0) "Never.__init__" ["one","other","way"]:=DK rfl rfl rfl (by decide +kernel) (by kernel_rfl) (uS rfl fun _ _ _ _ _ _ _ _ _ _=>rfl)
theorem fW {d0 d1 d2:D}:jD (some (.ins "Never" ["one","other","way"] [d0,d1,d2])) "one"=some (.sh d0):=(rfl)
theorem eX {d0 d1 d2:D}:jD (some (.ins "Never" ["one","other","way"] [d0,d1,d2])) "other"=some (.sh d1):=(rfl)
theorem fV {d0 d1 d2:D}:jD (some (.ins "Never" ["one","other","way"] [d0,d1,d2])) "way"=some (.sh d2):=(rfl)
theorem sN:jP.contains (Str.ofString "NoHouse")=true:=by decide +kernel
theorem zJ:fK "Span" ["beat","spans"] "broken" dN=some "Span.broken":=by decide +kernel
theorem yJ:fK "Leap" ["most"] "broken" dN=some "Leap.broken":=by decide +kernel
theorem zG:fK "Back" ["leap","most"] "broken" dN=some "Back.broken":=by decide +kernel
theorem xY:fK "Again" ["most"] "broken" dN=some "Again.broken":=by decide +kernel
theorem xS:fK "Range" ["low","high"] "broken" dN=some "Range.broken":=by decide +kernel
theorem wD:fK "Above" ["one","other"] "broken" dN=some "Above.broken":=by decide +kernel
theorem xV:fK "Never" ["one","other","way"] "broken" dN=some "Never.broken":=by decide +kernel
theorem eV:fK "Span" ["beat","spans"] "forbids" eU=some "Span.forbids":=by decide +kernel
theorem fM:fK "Range" ["low","high"] "forbids" eU=some "Range.forbids":=by decide +kernel
theorem QP:bW (aX L) (top 0) "_wall" vX:=cK rfl rfl rfl (by decide +kernel) (by kernel_rfl) (lF rfl fun _ _ _ _ _ _ _=>rfl)
theorem EW:bW (aX L) (top 14) "is_whole" kI:=cK rfl rfl rfl (by decide +kernel) (by kernel_rfl) (lF rfl fun _ _ _ _ _ _ _=>rfl)
theorem DZ:bW (aX L) (top 15) "is_within" gQ:=cK rfl rfl rfl (by decide +kernel) (by kernel_rfl) (uG rfl fun _ _ _ _ _ _ _ _ _=>rfl)
theorem AU:bW (aX L) (top 19) "with_parts" i7:=cK rfl rfl rfl (by decide +kernel) (by kernel_rfl) (uG rfl fun _ _ _ _ _ _ _ _ _=>rfl)
theorem vJ:bW (aX L) (top 20) "follower_over" dF:=cK rfl rfl rfl (by decide +kernel) (by kernel_rfl) (lH rfl fun _ _ _ _ _ _ _ _=>rfl)
theorem E5:bW (aX L) (top 21) "end_over" kN:=cK rfl rfl rfl (by decide +kernel) (by kernel_rfl) (lH rfl fun _ _ _ _ _ _ _ _=>rfl)
theorem DU:bW (aX L) (top 22) "rule_over" jR:=cK rfl rfl rfl (by decide +kernel) (by kernel_rfl) (lH rfl fun _ _ _ _ _ _ _ _=>rfl)
theorem yN:bW (aX L) (top 23) "turned_over" eI:=cK rfl rfl rfl (by decide +kernel) (by kernel_rfl) (lF rfl fun _ _ _ _ _ _ _=>rfl)
theorem DO:bW (aX L) (top 24) "line_over" jY:=cK rfl rfl rfl (by decide +kernel) (by kernel_rfl) (lH rfl fun _ _ _ _ _ _ _ _=>rfl)
theorem P2:bW (aX L) (top 26) "pitch" pC:=cK rfl rfl rfl (by decide +kernel) (by kernel_rfl) (lH rfl fun _ _ _ _ _ _ _ _=>rfl)
theorem KU:bW (aX L) (top 27) "singer" mY:=cK rfl rfl rfl (by decide +kernel) (by kernel_rfl) (lH rfl fun _ _ _ _ _ _ _ _=>rfl)
theorem V9:bW (aX L) (top 28) "sung" tL:=cK rfl rfl rfl (by decide +kernel) (by kernel_rfl) (uS rfl fun _ _ _ _ _ _ _ _ _ _=>rfl)
theorem WU:bW (aX L) (top 29) "span" tZ:=cK rfl rfl rfl (by decide +kernel) (by kernel_rfl) (uG rfl fun _ _ _ _ _ _ _ _ _=>rfl)
theorem QQ:bW (aX L) (top 30) "chord" pA:=cK rfl rfl rfl (by decide +kernel) (by kernel_rfl) (uG rfl fun _ _ _ _ _ _ _ _ _=>rfl)
theorem uB:bW (aX L) (top 33) "sounding_pairs" fA:=cK rfl rfl rfl (by decide +kernel) (by kernel_rfl) (lF rfl fun _ _ _ _ _ _ _=>rfl)
theorem HG:bW (aX L) (top 34) "move_so" lX:=cK rfl rfl rfl (by decide +kernel) (by kernel_rfl) (uG rfl fun _ _ _ _ _ _ _ _ _=>rfl)
theorem yF:DefOkQ (aX L) (cJ 36 1) "broken" "Span.broken" iE:=cK rfl rfl rfl (by decide +kernel) (by kernel_rfl) (uS rfl fun _ _ _ _ _ _ _ _ _ _=>rfl)
theorem wU:DefOkQ (aX L) (cJ 36 2) "forbids" "Span.forbids" gL:=cK rfl rfl rfl (by decide +kernel) (by kernel_rfl) (lH rfl fun _ _ _ _ _ _ _ _=>rfl)
theorem BU:DefOkQ (aX L) (cJ 36 3) "told" "Span.told" mF:=cK rfl rfl rfl (by decide +kernel) (by kernel_rfl) (lF rfl fun _ _ _ _ _ _ _=>rfl)
theorem yP:DefOkQ (aX L) (cJ 37 1) "broken" "Leap.broken" hW:=cK rfl rfl rfl (by decide +kernel) (by kernel_rfl) (uS rfl fun _ _ _ _ _ _ _ _ _ _=>rfl)
theorem CZ:DefOkQ (aX L) (cJ 37 2) "told" "Leap.told" mD:=cK rfl rfl rfl (by decide +kernel) (by kernel_rfl) (lF rfl fun _ _ _ _ _ _ _=>rfl)
theorem yC:DefOkQ (aX L) (cJ 38 1) "broken" "Back.broken" iI:=cK rfl rfl rfl (by decide +kernel) (by kernel_rfl) (uS rfl fun _ _ _ _ _ _ _ _ _ _=>rfl)
theorem B0:DefOkQ (aX L) (cJ 38 2) "told" "Back.told" mK:=cK rfl rfl rfl (by decide +kernel) (by kernel_rfl) (lF rfl fun _ _ _ _ _ _ _=>rfl)
theorem wG:DefOkQ (aX L) (cJ 39 1) "broken" "Again.broken" gP:=cK rfl rfl rfl (by decide +kernel) (by kernel_rfl) (uS rfl fun _ _ _ _ _ _ _ _ _ _=>rfl)
theorem A3:DefOkQ (aX L) (cJ 39 2) "told" "Again.told" kU:=cK rfl rfl rfl (by decide +kernel) (by kernel_rfl) (lF rfl fun _ _ _ _ _ _ _=>rfl)
theorem xI:DefOkQ (aX L) (cJ 40 1) "broken" "Range.broken" gK:=cK rfl rfl rfl (by decide +kernel) (by kernel_rfl) (uS rfl fun _ _ _ _ _ _ _ _ _ _=>rfl)
theorem vI:DefOkQ (aX L) (cJ 40 2) "forbids" "Range.forbids" fR:=cK rfl rfl rfl (by decide +kernel) (by kernel_rfl) (lH rfl fun _ _ _ _ _ _ _ _=>rfl)
theorem AV:DefOkQ (aX L) (cJ 40 3) "told" "Range.told" kZ:=cK rfl rfl rfl (by decide +kernel) (by kernel_rfl) (lF rfl fun _ _ _ _ _ _ _=>rfl)
theorem xP:DefOkQ (aX L) (cJ 41 1) "broken" "Above.broken" gI:=cK rfl rfl rfl (by decide +kernel) (by kernel_rfl) (uS rfl fun _ _ _ _ _ _ _ _ _ _=>rfl)
theorem AX:DefOkQ (aX L) (cJ 41 2) "told" "Above.told" kY:=cK rfl rfl rfl (by decide +kernel) (by kernel_rfl) (lF rfl fun _ _ _ _ _ _ _=>rfl)
theorem xA:DefOkQ (aX L) (cJ 42 1) "broken" "Never.broken" gJ:=cK rfl rfl rfl (by decide +kernel) (by kernel_rfl) (uS rfl fun _ _ _ _ _ _ _ _ _ _=>rfl)
theorem A7:DefOkQ (aX L) (cJ 42 2) "told" "Never.told" lA:=cK rfl rfl rfl (by decide +kernel) (by kernel_rfl) (lF rfl fun _ _ _ _ _ _ _=>rfl)
theorem JR:bW (aX L) (top 43) "rule_of" dH:=cK rfl rfl rfl (by decide +kernel) (by kernel_rfl) (lF rfl fun _ _ _ _ _ _ _=>rfl)
theorem EK:bW (aX L) (top 45) "rules_of" kK:=cK rfl rfl rfl (by decide +kernel) (by kernel_rfl) (lF rfl fun _ _ _ _ _ _ _=>rfl)
theorem D9:bW (aX L) (top 46) "breaks_at" jL:=cK rfl rfl rfl (by decide +kernel) (by kernel_rfl) (uS rfl fun _ _ _ _ _ _ _ _ _ _=>rfl)
theorem LS:bW (aX L) (top 47) "breaks" nJ:=cK rfl rfl rfl (by decide +kernel) (by kernel_rfl) (lH rfl fun _ _ _ _ _ _ _ _=>rfl)
theorem zI:bW (aX L) (top 48) "first_break" iB:=cK rfl rfl rfl (by decide +kernel) (by kernel_rfl) (lH rfl fun _ _ _ _ _ _ _ _=>rfl)
theorem BY:bW (aX L) (top 49) "is_let_by" jM:=cK rfl rfl rfl (by decide +kernel) (by kernel_rfl) (lH rfl fun _ _ _ _ _ _ _ _=>rfl)
theorem N8:bW (aX L) (top 51) "_law_pen" pQ:=cK rfl rfl rfl (by decide +kernel) (by kernel_rfl) (lH rfl fun _ _ _ _ _ _ _ _=>rfl)
theorem J6:bW (aX L) (top 52) "_law_draw" m9:=cK rfl rfl rfl (by decide +kernel) (by kernel_rfl) (lH rfl fun _ _ _ _ _ _ _ _=>rfl)
theorem K1:bW (aX L) (top 53) "_law_rule" nF:=cK rfl rfl rfl (by decide +kernel) (by kernel_rfl) (bn5 rfl fun _ _ _ _ _ _ _ _ _ _ _=>rfl)
theorem JN:bW (aX L) (top 54) "_law_house" lV:=cK rfl rfl rfl (by decide +kernel) (by kernel_rfl) (lF rfl fun _ _ _ _ _ _ _=>rfl)
theorem J1:bW (aX L) (top 55) "_law_line" nB:=cK rfl rfl rfl (by decide +kernel) (by kernel_rfl) (uG rfl fun _ _ _ _ _ _ _ _ _=>rfl)
theorem EM:bW (aX L) (top 56) "_law_turned" iQ:=cK rfl rfl rfl (by decide +kernel) (by kernel_rfl) (lF rfl fun _ _ _ _ _ _ _=>rfl)
theorem CT:bW (aX L) (top 57) "_law_crossed" jQ:=cK rfl rfl rfl (by decide +kernel) (by kernel_rfl) (lH rfl fun _ _ _ _ _ _ _ _=>rfl)
theorem J7:bW (aX L) (top 58) "law" oX:=cK rfl rfl rfl (by decide +kernel) (by kernel_rfl) (lF rfl fun _ _ _ _ _ _ _=>rfl)
end Tx
namespace Mx
open CI Tx
set_option compiler.extract_closed false
local macro_rules | `(tactic| walk_at "w")=>`(tactic| simp only [aC5,aCA,lM,RM,U2,KR,aEA,aEj,aFh,aFg,aA0,U4,NF,aE3,aEK,YF,WN,aAl,aCi,aE4,aEM,aEh,aFb,aEp,aE7,aDD,aDq,aAM,aBm,WS,SN,S5,NZ,NC,P7,N9,aDf,SX,V2,TQ,VG,VT,XC,SI,OA,YH,YX,P4,UW,UT,PB,ML,Y6,aAv,aA2,aAP,aCt,aCp,aBO,aBs,aDv,aDr,ZQ,aBX,aDG,aDg,aAa,XW,WE,Z6,WW,S1,aDk,aCX,X8,aBK,aAb,aCF,aCd,aDi,aDl,T7,aEu,aEY,aEc,aEg,aCe,aDE,aCs,aC9,aDF,aCY,aB8,aEI,XZ,aDd,aBR,aBY,aDb,aB5,aCc,aBy,aAG,ZC,aFk,aEy,aEE,aDa,aCR,aCv,aAx,WI,WB,aDA,aAJ,VW,aDe,aDh,aCC,aEV,YT,aDH,Z5,SH,ZL,WH,YR,aE0,aB9,aAN,WK,aBS,aAF,aCK,aBF,aA5,aE2,V7,aBp,aAc,aC8,aA3,aA7,aB1,aCn,aB3,aBL,JB,EG,ZH,aDw,XO,aAE,aCV,M6,aDy,ZS,ME,U0,UR,UN,bM,VD,aBw,X4,wM,tM,x5,tP,JC,aA9,aBN,XR,aAI,X6,T3,TM,VC,aDC,VZ,ZX,aAh,YG,Z2,Y8,ZU,aDt,WT,aBP,T6,aCf,Y5,aCQ,aC1,Z1,SW,eZ,SU,W7,GA,UX,L9,M5,OV,NK,S6,P9,aCw,aAf,XE,TX,UD,VP,YC,Y1,aDo,W0,UO,aDc,zg0,zg1,zs0,zs1,zb,zm,zi,zc,zn,zr0,zr1,zl0,zl1,znt,znf,zko,zks,zkn,WD,aAo,aCg,YV,ZJ,aCS,aBz,aDj,aCW,XF,ZZ,MI,aAB,aCH,aA6,XB,aC6,aCD,SV,aEW,W4,XG,aEL,L4,aEn,OE,S2,aBZ,LK,YN,ZA,aDx,O0,aEB,aCM,aDp,aBv,aBA,V5,QN,PV,IQ,E4,C3,xF,JP,E7,A6,EH,U5,N4,aAg,aAY,US,v8,J4,yV,yA,J9,JH,EI,QB,A4,EZ,WA,OO,N5,KZ,PD,JQ,E2,if_true,if_false,Bool.false_eq_true,decide_true,decide_false,Bool.true_eq_false,not_true_eq_false,not_false_eq_true,and_self,and_true,true_and,or_true,true_or,List.length_append,reduceIte,Int.reduceLT,Int.reduceLE,Int.reduceGT,Int.reduceNeg,Nat.reduceAdd,Nat.reduceLT,Nat.reduceLeDiff,Int.reduceEq,Int.reduceNe,Nat.reduceBEq,List.map_cons,List.map_nil,List.all_cons,List.all_nil,Bool.and_true,Bool.true_and,Bool.false_and,Bool.and_false,List.length_nil,List.length_cons,beq_self_eq_true,B5,YU,aB7, *])
theorem jU:type_of% (And.intro @wM (And.intro @ME (And.intro @List.getElem?_cons_zero.{0} (And.intro @List.getElem?_cons_succ.{0} (And.intro @List.set_cons_zero.{0} (And.intro @List.set_cons_succ.{0} (And.intro @tM (And.intro @tP (And.intro @x5 @JC))))))))):=(And.intro @wM (And.intro @ME (And.intro @List.getElem?_cons_zero.{0} (And.intro @List.getElem?_cons_succ.{0} (And.intro @List.set_cons_zero.{0} (And.intro @List.set_cons_succ.{0} (And.intro @tM (And.intro @tP (And.intro @x5 @JC)))))))))
noncomputable def aH (k s m:Int):Int:=if k=0 then s / m else (s*69621+7) % 2147483629
noncomputable def aY (k s m:Int):Int:=if k=0 then s % m else ((((s*69621+7) % 2147483629) % 65521*40503+((s*69621+7) % 2147483629) / 65521+1)*16807 % 2147483647) / 13 % m
theorem b8 {W n:Nat} {k s m:Int} (h1:0<m) (h2:m<100000000000000000000000000000000000000000000000000000000000000000000000000000000):run T W (n+1) "L_draw" [.ow (.lst [.int k,.int s]) true false,.sh (.int m)]=some (.ok (.sh (.int (aY k s m))),[.ow (.lst [.int k,.int (aH k s m)]) true false,.sh (.int m)]):=by
 rw [bQ CH rfl rfl];unfold m9;by_cases hk:k=0
 ·subst hk;unfold aH aY
  walk_at "w"
 ·unfold aH aY
  walk_at "w"
theorem bG {k s m:Int} (h:0<m):0≤aY k s m:=by unfold aY; split <;> exact Int.emod_nonneg _ (by omega)
theorem bF {k s m:Int} (h:0<m):aY k s m<m:=by unfold aY; split <;> exact Int.emod_lt_of_pos _ h
mutual
theorem vV:∀ (n:Nat) (d:D),bD n d=true→fH d d=true
 | _,.non,_=>by simp [fH]
 | _,.bl _,_=>by simp [fH]
 | _,.int _,_=>by simp [fH]
 | _,.str _,_=>by simp [fH]
 | 0,.tup _,h=>by simp [bD] at h
 | 0,.lst _,h=>by simp [bD] at h
 | n+1,.tup ds,h=>by simp only [bD] at h; simp only [fH]; exact rW n ds h
 | n+1,.lst ds,h=>by simp only [bD] at h; simp only [fH]; exact rW n ds h
 | _,.ins _ _ _,h=>by simp [bD] at h
 | _,.dct _,h=>by simp [bD] at h
 | _,.exn _,h=>by simp [bD] at h
theorem rW:∀ (n:Nat) (ds:List D),ds.all (bD n)=true→mL ds ds=true
 | _,[],_=>by simp [mL]
 | n,d :: ds,h=>by
  simp only [List.all_cons,Bool.and_eq_true] at h;simp only [mL,vV n d h.1,rW n ds h.2,Bool.and_self]
end
theorem R1 {d:D} (h:bD 20 d=true):cN .NotEq d d=some false:=by rw [aAq h h,vV 20 d h]; rfl
theorem RW {d:D} (h:bD 20 d=true):cN .Eq d d=some true:=by rw [ZO h h,vV 20 d h]
noncomputable def aG (tss:List (List Int)):List D:=tss.map fun is=>.tup (is.map D.int)
noncomputable def gF (ns:List Int) (k:Nat):Int × Int :=
 if k<ns.length∧ns.headD 0 % 2=0 then (0,ns.getD k 0)
 else (1,((if 0<ns.length then ns.getD (k % ns.length) 0 % 2147483587+48611*((k / ns.length:Nat):Int)+3*(k:Int) else 30011*(k:Int)+7)*48271+11*(k:Int)+1) % 2147483647)
theorem wJ {ns:List Int} {k:Nat} (h:k<ns.length):L2.cX (ns.map D.int) (k:Int)=some (.int (ns.getD k 0)):=by
 apply L2.oU
 rw [List.getElem?_map,List.getElem?_eq_getElem h];simp [h]
theorem DG {W n:Nat} {ns:List Int} {k:Nat} (hn:ns.length≤63) (hk:k≤100000):run T W (n+1) "L_pen" [.sh (.lst (ns.map .int)),.sh (.int (k:Int))]=some (.ok (.ow (.lst [.int (gF ns k).1,.int (gF ns k).2])),[.sh (.lst (ns.map .int)),.sh (.int (k:Int))]):=by
 rw [bQ GO rfl rfl];unfold pQ;by_cases h0:ns=[]
 ·subst h0;have hb:decide ((k:Int)<((0:Nat):Int))=false:=decide_eq_false (by omega);have hb':decide (((0:Nat):Int) > 0)=false:=rfl;have hb2:decide (0<((0:Nat):Int))=false:=rfl;have hb3:decide ((k:Int)<0)=false:=decide_eq_false (by omega)
  have ev:gF [] k=(1,((30011*(k:Int)+7)*48271+11*(k:Int)+1) % 2147483647):=by
   unfold gF; rw [if_neg (by simp),if_neg (by simp)]
  (have w0:=@List.length_map.{0,0}; walk_at "w"; try clear w0)
 ·have hpos:0<ns.length:=List.length_pos_iff.mpr h0;have hb2:decide (0<(ns.length:Int))=true:=decide_eq_true (by omega)
  have e0:(ns.map D.int)[0]?=some (.int (ns.headD 0)):=by cases ns with | nil=>exact absurd rfl h0 | cons a r=>rfl
  have e1:(0:Int)<(ns.length:Int):=by omega
  have e2:(ns.length:Int)<100000000000000000000000000000000000000000000000000000000000000000000000000000000:=by omega
  have e3:(k:Int) / (ns.length:Int)=((k / ns.length:Nat):Int):=by rw [Int.natCast_ediv]
  have e4:(k:Int) % (ns.length:Int)=((k % ns.length:Nat):Int):=by rw [Int.natCast_emod]
  have e5:=wJ (ns:=ns) (k:=k % ns.length) (Nat.mod_lt _ hpos);by_cases hk2:k<ns.length
  ·have hb:decide ((k:Int)<(ns.length:Int))=true:=decide_eq_true (by omega);have e6:=wJ hk2;by_cases hm:ns.headD 0 % 2=0
   ·have ev:gF ns k=(0,ns.getD k 0):=by unfold gF; rw [if_pos ⟨hk2,hm⟩]
    clear hk2
    (have w0:=@List.length_map.{0,0}; walk_at "w"; try clear w0)
   ·have hm':decide (ns.headD 0 % 2=0)=false:=decide_eq_false hm
    have ev:gF ns k=(1,((ns.getD (k % ns.length) 0 % 2147483587+48611*((k / ns.length:Nat):Int)+3*(k:Int))*48271+11*(k:Int)+1) % 2147483647):=by
     unfold gF; rw [if_neg (fun z=>hm z.2),if_pos hpos]
    clear hk2 hm
    (have w0:=@List.length_map.{0,0}; walk_at "w"; try clear w0)
  ·have hb:decide ((k:Int)<(ns.length:Int))=false:=decide_eq_false (by omega)
   have ev:gF ns k=(1,((ns.getD (k % ns.length) 0 % 2147483587+48611*((k / ns.length:Nat):Int)+3*(k:Int))*48271+11*(k:Int)+1) % 2147483647):=by
    unfold gF; rw [if_neg (fun z=>hk2 z.1),if_pos hpos]
   clear hk2
   (have w0:=@List.length_map.{0,0}; walk_at "w"; try clear w0)
theorem bL:((PySem.Str.ofString "span") == (PySem.Str.ofString "leap"))=false:=by decide +kernel
theorem rS:((PySem.Str.ofString "span") == (PySem.Str.ofString "back"))=false:=by decide +kernel
theorem qB:((PySem.Str.ofString "span") == (PySem.Str.ofString "again"))=false:=by decide +kernel
theorem iZ:((PySem.Str.ofString "span") == (PySem.Str.ofString "range"))=false:=by decide +kernel
theorem i5:((PySem.Str.ofString "span") == (PySem.Str.ofString "above"))=false:=by decide +kernel
theorem rK:((PySem.Str.ofString "span") == (PySem.Str.ofString "never"))=false:=by decide +kernel
theorem sU:((PySem.Str.ofString "leap") == (PySem.Str.ofString "span"))=false:=by decide +kernel
theorem tJ:((PySem.Str.ofString "leap") == (PySem.Str.ofString "back"))=false:=by decide +kernel
theorem rA:((PySem.Str.ofString "leap") == (PySem.Str.ofString "again"))=false:=by decide +kernel
theorem iU:((PySem.Str.ofString "leap") == (PySem.Str.ofString "range"))=false:=by decide +kernel
theorem i6:((PySem.Str.ofString "leap") == (PySem.Str.ofString "above"))=false:=by decide +kernel
theorem qA:((PySem.Str.ofString "leap") == (PySem.Str.ofString "never"))=false:=by decide +kernel
theorem sO:((PySem.Str.ofString "back") == (PySem.Str.ofString "span"))=false:=by decide +kernel
theorem sI:((PySem.Str.ofString "back") == (PySem.Str.ofString "leap"))=false:=by decide +kernel
theorem qM:((PySem.Str.ofString "back") == (PySem.Str.ofString "again"))=false:=by decide +kernel
theorem iX:((PySem.Str.ofString "back") == (PySem.Str.ofString "range"))=false:=by decide +kernel
theorem iV:((PySem.Str.ofString "back") == (PySem.Str.ofString "above"))=false:=by decide +kernel
theorem rE:((PySem.Str.ofString "back") == (PySem.Str.ofString "never"))=false:=by decide +kernel
theorem qF:((PySem.Str.ofString "again") == (PySem.Str.ofString "span"))=false:=by decide +kernel
theorem rP:((PySem.Str.ofString "again") == (PySem.Str.ofString "leap"))=false:=by decide +kernel
theorem q0:((PySem.Str.ofString "again") == (PySem.Str.ofString "back"))=false:=by decide +kernel
theorem iH:((PySem.Str.ofString "again") == (PySem.Str.ofString "range"))=false:=by decide +kernel
theorem iC:((PySem.Str.ofString "again") == (PySem.Str.ofString "above"))=false:=by decide +kernel
theorem n0:((PySem.Str.ofString "again") == (PySem.Str.ofString "never"))=false:=by decide +kernel
theorem qZ:((PySem.Str.ofString "range") == (PySem.Str.ofString "span"))=false:=by decide +kernel
theorem pZ:((PySem.Str.ofString "range") == (PySem.Str.ofString "leap"))=false:=by decide +kernel
theorem qL:((PySem.Str.ofString "range") == (PySem.Str.ofString "back"))=false:=by decide +kernel
theorem oE:((PySem.Str.ofString "range") == (PySem.Str.ofString "again"))=false:=by decide +kernel
theorem eF:((PySem.Str.ofString "range") == (PySem.Str.ofString "above"))=false:=by decide +kernel
theorem oN:((PySem.Str.ofString "range") == (PySem.Str.ofString "never"))=false:=by decide +kernel
theorem qK:((PySem.Str.ofString "above") == (PySem.Str.ofString "span"))=false:=by decide +kernel
theorem qN:((PySem.Str.ofString "above") == (PySem.Str.ofString "leap"))=false:=by decide +kernel
theorem qW:((PySem.Str.ofString "above") == (PySem.Str.ofString "back"))=false:=by decide +kernel
theorem oA:((PySem.Str.ofString "above") == (PySem.Str.ofString "again"))=false:=by decide +kernel
theorem j6:((PySem.Str.ofString "above") == (PySem.Str.ofString "range"))=false:=by decide +kernel
theorem n8:((PySem.Str.ofString "above") == (PySem.Str.ofString "never"))=false:=by decide +kernel
theorem p9:((PySem.Str.ofString "never") == (PySem.Str.ofString "span"))=false:=by decide +kernel
theorem qX:((PySem.Str.ofString "never") == (PySem.Str.ofString "leap"))=false:=by decide +kernel
theorem qV:((PySem.Str.ofString "never") == (PySem.Str.ofString "back"))=false:=by decide +kernel
theorem oH:((PySem.Str.ofString "never") == (PySem.Str.ofString "again"))=false:=by decide +kernel
theorem iD:((PySem.Str.ofString "never") == (PySem.Str.ofString "range"))=false:=by decide +kernel
theorem iG:((PySem.Str.ofString "never") == (PySem.Str.ofString "above"))=false:=by decide +kernel
theorem mM:type_of% (And.intro @bL (And.intro @rS (And.intro @qB (And.intro @iZ (And.intro @i5 (And.intro @rK (And.intro @bL (And.intro @sU (And.intro @tJ (And.intro @rA (And.intro @iU (And.intro @i6 (And.intro @qA (And.intro @bL (And.intro @sO (And.intro @sI (And.intro @qM (And.intro @iX (And.intro @iV (And.intro @rE (And.intro @bL (And.intro @qF (And.intro @rP (And.intro @q0 (And.intro @iH (And.intro @iC (And.intro @n0 (And.intro @bL (And.intro @qZ (And.intro @pZ (And.intro @qL (And.intro @oE (And.intro @eF (And.intro @oN (And.intro @bL (And.intro @qK (And.intro @qN (And.intro @qW (And.intro @oA (And.intro @j6 (And.intro @n8 (And.intro @bL (And.intro @p9 (And.intro @qX (And.intro @qV (And.intro @oH (And.intro @iD (And.intro @iG @bL)))))))))))))))))))))))))))))))))))))))))))))))):=(And.intro @bL (And.intro @rS (And.intro @qB (And.intro @iZ (And.intro @i5 (And.intro @rK (And.intro @bL (And.intro @sU (And.intro @tJ (And.intro @rA (And.intro @iU (And.intro @i6 (And.intro @qA (And.intro @bL (And.intro @sO (And.intro @sI (And.intro @qM (And.intro @iX (And.intro @iV (And.intro @rE (And.intro @bL (And.intro @qF (And.intro @rP (And.intro @q0 (And.intro @iH (And.intro @iC (And.intro @n0 (And.intro @bL (And.intro @qZ (And.intro @pZ (And.intro @qL (And.intro @oE (And.intro @eF (And.intro @oN (And.intro @bL (And.intro @qK (And.intro @qN (And.intro @qW (And.intro @oA (And.intro @j6 (And.intro @n8 (And.intro @bL (And.intro @p9 (And.intro @qX (And.intro @qV (And.intro @oH (And.intro @iD (And.intro @iG @bL))))))))))))))))))))))))))))))))))))))))))))))))
theorem pw {j:Int} (h1:0≤j) (h2:j≤12):(0:Int)<2 ^ j.toNat∧(2:Int) ^ j.toNat<100000000000000000000000000000000000000000000000000000000000000000000000000000000:=by
 have h:j.toNat≤12:=by omega
 generalize j.toNat=q at h;have h3:2 ^ q≤2 ^ 12:=Nat.pow_le_pow_right (by decide) h;have h4:(2:Int) ^ q≤4096:=by exact_mod_cast h3
 exact ⟨Int.pow_pos (by decide),Int.lt_of_le_of_lt h4 (by decide)⟩
inductive RuleD (no ba oc ma:Int):D→Prop
 | span (a b:Int) (h1:0≤a) (h2:a<ba) (h3:0≤b) (h4:b<2 ^ oc.toNat):RuleD no ba oc ma (.tup [.str "span",.int a,.int b])
 | leap (a:Int) (h1:0≤a) (h2:a≤12):RuleD no ba oc ma (.tup [.str "leap",.int a])
 | back (a b:Int) (h1:1≤a) (h2:a≤12) (h3:1≤b) (h4:b≤12):RuleD no ba oc ma (.tup [.str "back",.int a,.int b])
 | again (a:Int) (h1:1≤a) (h2:a≤3):RuleD no ba oc ma (.tup [.str "again",.int a])
 | range (a b:Int) (h1:-60≤a) (h2:a≤b) (h3:b≤60):RuleD no ba oc ma (.tup [.str "range",.int a,.int b])
 | above (v w:Nat) (h1:(v:Int)≤ma) (h2:(w:Int)≤ma) (h3:v≠w):RuleD no ba oc ma (.tup [.str "above",.int (v:Int),.int (w:Int)])
 | never (a b:Int) (x:PySem.Str) (h1:0≤a) (h2:a<oc) (h3:0≤b) (h4:b<oc) (h5:x="like"∨x="against"∨x="aside"∨x="any"):RuleD no ba oc ma (.tup [.str "never",.int a,.int b,.str x])
section
variable {P:aK} {C:Calls} {W:Nat} {k s no ba oc ma w:Int} {u6 u7 u8:Sl}
noncomputable def fB (k s no ba oc ma w:Int) (u6 u7 u8:Sl):Env:=[.ow (.lst [.int k,.int s]) true false,.sh (.int no),.sh (.int ba),.sh (.int oc),.sh (.int ma),.sh (.int w),u6,u7,u8]
theorem qI {a:List S} {i:Int}:ex P C W (.ifs (.cmp .Eq (.var 5) (.con (.int i))) a []) (fB k s no ba oc ma w u6 u7 u8)=if w=i then exs P C W a (fB k s no ba oc ma w u6 u7 u8) else some (.nx,fB k s no ba oc ma w u6 u7 u8):=by
 unfold fB;by_cases h:w=i
 ·have h':decide (w=i)=true:=decide_eq_true h;rw [if_pos h];clear h
  walk_at "w"
 ·have h':decide (w=i)=false:=decide_eq_false h;rw [if_neg h];clear h
  walk_at "w"
end
theorem at2 {a b:Int} {c:Int} (h1:0≤c) (h2:c<2):L2.cX [D.int a,D.int b] c=some (.int (if c=0 then a else b)):=by
 have:c=0∨c=1:=by omega
 rcases this with rfl | rfl <;> rfl
theorem atW {c:Int} (h1:0≤c) (h2:c<4):∃ x:PySem.Str,L2.cX [D.str "like",D.str "against",D.str "aside",D.str "any"] c=some (.str x)∧(x="like"∨x="against"∨x="aside"∨x="any"):=by
 have:c=0∨c=1∨c=2∨c=3:=by omega
 rcases this with rfl | rfl | rfl | rfl
 ·exact ⟨_,rfl,.inl rfl⟩
 ·exact ⟨_,rfl,.inr (.inl rfl)⟩
 ·exact ⟨_,rfl,.inr (.inr (.inl rfl))⟩
 ·exact ⟨_,rfl,.inr (.inr (.inr rfl))⟩
theorem KC {W n:Nat} {k s0 no ba oc ma:Int} (n1:1≤no) (n2:no≤7) (b1:1≤ba) (b2:ba≤4) (o1:1≤oc) (o2:oc≤12) (m1:1≤ma) (m2:ma≤3) :
  ∃ s' d,run T W (n+2) "L_rule" [.ow (.lst [.int k,.int s0]) true false,.sh (.int no),.sh (.int ba),.sh (.int oc),.sh (.int ma)]=some (.ok (.sh d),[.ow (.lst [.int k,.int s']) true false,.sh (.int no),.sh (.int ba),.sh (.int oc),.sh (.int ma)])∧RuleD no ba oc ma d:=by
 rw [bQ DW rfl rfl];unfold nF;have g1:0<ba:=by omega
 have g2:ba<100000000000000000000000000000000000000000000000000000000000000000000000000000000:=by omega
 have g3:0<oc:=by omega
 have g4:oc<100000000000000000000000000000000000000000000000000000000000000000000000000000000:=by omega
 have g5:0≤oc:=by omega
 have g6:oc≤1000:=by omega
 obtain ⟨g7,g8⟩:=pw g5 o2;have g9:0<ma:=by omega
 have g10:ma<100000000000000000000000000000000000000000000000000000000000000000000000000000000:=by omega
 have g11:0<ma+1:=by omega
 have g12:ma+1<100000000000000000000000000000000000000000000000000000000000000000000000000000000:=by omega
 have v1:=bG (k:=k) (s:=s0) (m:=9) (by decide);have v2:=bF (k:=k) (s:=s0) (m:=9) (by decide)
 have e0:ex T.pins (run T W (n+1)) W nQ ([.ow (.lst [.int k,.int s0]) true false,.sh (.int no),.sh (.int ba),.sh (.int oc),.sh (.int ma)] ++ List.replicate 4 .un)=some (.nx,fB k (aH k s0 9) no ba oc ma (aY k s0 9) .un .un .un):=by
  unfold fB;rw [AR];clear g1 g2 g3 g4 g5 g6 g7 g8 g9 g10 g11 g12 v1 v2 n1 n2 b1 b2 o1 o2 m1 m2
  (have w0:=@b8; walk_at "w"; try clear w0)
 generalize aY k s0 9=w at *
 generalize aH k s0 9=s at *
 rw [eZ,e0,lM,eZ];clear e0
 -- a return of a statement ends the def
 have fin:∀ {st:S} {r:List S} {s':Int} {d:D} {u6 u7 u8:Sl},ex T.pins (run T W (n+1)) W st (fB k s no ba oc ma w .un .un .un)=some (.rt (.sh d),fB k s' no ba oc ma w u6 u7 u8)→RuleD no ba oc ma d →
   ∃ s'' d,OY [.ow (.lst [.int k,.int s0]) true false,.sh (.int no),.sh (.int ba),.sh (.int oc),.sh (.int ma)] ((ex T.pins (run T W (n+1)) W st (fB k s no ba oc ma w .un .un .un)).next (exs T.pins (run T W (n+1)) W r))=some (.ok (.sh d),[.ow (.lst [.int k,.int s'']) true false,.sh (.int no),.sh (.int ba),.sh (.int oc),.sh (.int ma)])∧RuleD no ba oc ma d:=fun h hd=>by
  rw [h,RM,GA];exact ⟨_,_,rfl,hd⟩
 by_cases c0:w<2
 ·refine fin (s':=aH k (aH k s ba) (2 ^ oc.toNat)) (d:=.tup [.str "span",.int (aY k s ba),.int (aY k (aH k s ba) (2 ^ oc.toNat))]) (u6:=.un) (u7:=.un) (u8:=.un) ?_ (.span _ _ (bG g1) (bF g1) (bG g7) (bF g7));have c0':decide (w<2)=true:=decide_eq_true c0;rw [qQ];unfold fB;clear n1 n2 b1 b2 o1 o2 m1 m2 v1 v2 c0 fin
  (have w0:=@b8; walk_at "w"; try clear w0)
 have e1:ex T.pins (run T W (n+1)) W nP (fB k s no ba oc ma w .un .un .un)=some (.nx,fB k s no ba oc ma w .un .un .un):=by
  have c0':decide (w<2)=false:=decide_eq_false c0;rw [qQ];unfold fB;clear n1 n2 b1 b2 o1 o2 m1 m2 v1 v2 c0 fin
  (have w0:=@b8; walk_at "w"; try clear w0)
 rw [e1,lM,eZ];clear e1;by_cases c2:w=2
 ·have x1:=bG (k:=k) (s:=aH k s ba) (m:=oc) g3;have x2:=bF (k:=k) (s:=aH k s ba) (m:=oc) g3;have x3:aY k (aH k s ba) oc≤1000:=by omega
  have h4:(2:Int) ^ (aY k (aH k s ba) oc).toNat≤2 ^ oc.toNat - 1:=by
   have h1:(aY k (aH k s ba) oc).toNat+1≤oc.toNat:=by omega
   have h2:(2:Int) ^ ((aY k (aH k s ba) oc).toNat+1)≤2 ^ oc.toNat:=by
    have h3:2 ^ ((aY k (aH k s ba) oc).toNat+1)≤2 ^ oc.toNat:=Nat.pow_le_pow_right (by decide) h1
    exact_mod_cast h3
   have h4:(2:Int) ^ ((aY k (aH k s ba) oc).toNat+1)=2 ^ (aY k (aH k s ba) oc).toNat*2:=Int.pow_succ _ _;have h5:(0:Int)<2 ^ (aY k (aH k s ba) oc).toNat:=Int.pow_pos (by decide);omega
  have h5:(0:Int)<2 ^ (aY k (aH k s ba) oc).toNat:=Int.pow_pos (by decide);refine fin (s':=aH k (aH k s ba) oc) (d:=.tup [.str "span",.int (aY k s ba),.int (2 ^ oc.toNat - 1 - 2 ^ (aY k (aH k s ba) oc).toNat)]) (u6:=.un) (u7:=.un) (u8:=.un) ?_ (.span _ _ (bG g1) (bF g1) (by omega) (by omega));rw [rN,qI,if_pos c2];unfold fB;clear n1 n2 b1 b2 o1 o2 m1 m2 v1 v2 c0 fin h4 h5 x2
  (have w0:=@b8; walk_at "w"; try clear w0)
 rw [rN,qI,if_neg c2,lM,eZ];by_cases c3:w=3
 ·have x1:=bG (k:=k) (s:=s) (m:=2) (by decide);have x2:=bF (k:=k) (s:=s) (m:=2) (by decide);have hat:=at2 (a:=13) (b:=no+1) x1 x2;obtain ⟨q,hq⟩:∃ q,q=(if aY k s 2=0 then 13 else no+1):=⟨_,rfl⟩
  rw [← hq] at hat;have q1:0<q:=by rw [hq]; split <;> omega
  have q2:q≤13:=by rw [hq]; split <;> omega
  have q3:q<100000000000000000000000000000000000000000000000000000000000000000000000000000000:=by omega
  refine fin (s':=aH k (aH k s 2) q) (d:=.tup [.str "leap",.int (aY k (aH k s 2) q)]) (u6:=.un) (u7:=.un) (u8:=.un) ?_ (.leap _ (bG q1) (by have:=bF (k:=k) (s:=aH k s 2) q1; omega));rw [qE,qI,if_pos c3];unfold fB;clear n1 n2 b1 b2 o1 o2 m1 m2 v1 v2 c0 fin q2 hq x1 x2
  (have w0:=@b8; walk_at "w"; try clear w0)
 rw [qE,qI,if_neg c3,lM,eZ];by_cases c4:w=4
 ·have x1:=bG (k:=k) (s:=s) (m:=12) (by decide);have x2:=bF (k:=k) (s:=s) (m:=12) (by decide);have x3:=bG (k:=k) (s:=aH k s 12) (m:=12) (by decide);have x4:=bF (k:=k) (s:=aH k s 12) (m:=12) (by decide);refine fin (s':=aH k (aH k s 12) 12) (d:=.tup [.str "back",.int (1+aY k s 12),.int (1+aY k (aH k s 12) 12)]) (u6:=.un) (u7:=.un) (u8:=.un) ?_ (.back _ _ (by omega) (by omega) (by omega) (by omega));rw [qJ,qI,if_pos c4];unfold fB;clear n1 n2 b1 b2 o1 o2 m1 m2 v1 v2 c0 fin x1 x2 x3 x4
  (have w0:=@b8; walk_at "w"; try clear w0)
 rw [qJ,qI,if_neg c4,lM,eZ];by_cases c5:w=5
 ·have x1:=bG (k:=k) (s:=s) (m:=3) (by decide);have x2:=bF (k:=k) (s:=s) (m:=3) (by decide);refine fin (s':=aH k s 3) (d:=.tup [.str "again",.int (1+aY k s 3)]) (u6:=.un) (u7:=.un) (u8:=.un) ?_ (.again _ (by omega) (by omega));rw [qG,qI,if_pos c5];unfold fB;clear n1 n2 b1 b2 o1 o2 m1 m2 v1 v2 c0 fin x1 x2
  (have w0:=@b8; walk_at "w"; try clear w0)
 rw [qG,qI,if_neg c5,lM,eZ];by_cases c6:w=6
 ·have u1:=bG (k:=k) (s:=s) (m:=121) (by decide);have u2:=bF (k:=k) (s:=s) (m:=121) (by decide);have u3:=bG (k:=k) (s:=aH k s 121) (m:=20) (by decide);have u4:=bF (k:=k) (s:=aH k s 121) (m:=20) (by decide);have u5:=bG (k:=k) (s:=aH k (aH k s 121) 20) (m:=2) (by decide);have u6:=bF (k:=k) (s:=aH k (aH k s 121) 20) (m:=2) (by decide);have hat:=at2 (a:=aY k s 121 - 60) (b:=aY k (aH k s 121) 20 - 12) u5 u6;obtain ⟨lo,hlo⟩:∃ lo,lo=(if aY k (aH k (aH k s 121) 20) 2=0 then aY k s 121 - 60 else aY k (aH k s 121) 20 - 12):=⟨_,rfl⟩
  rw [← hlo] at hat;have q1:lo≤60:=by rw [hlo]; split <;> omega
  have q2:-60≤lo:=by rw [hlo]; split <;> omega
  have y1:0<61 - lo:=by omega
  have y2:61 - lo<100000000000000000000000000000000000000000000000000000000000000000000000000000000:=by omega
  obtain ⟨s1,hs1⟩:∃ s1,s1=aH k (aH k (aH k s 121) 20) 2:=⟨_,rfl⟩
  have z1:=bG (k:=k) (s:=s1) y1;have z2:=bF (k:=k) (s:=s1) y1;refine fin (s':=aH k s1 (61 - lo)) (d:=.tup [.str "range",.int lo,.int (lo+aY k s1 (61 - lo))]) (u6:=.sh (.int lo)) (u7:=.un) (u8:=.un) ?_ (.range _ _ q2 (by omega) (by omega));rw [rC,qI,if_pos c6];have hs1':=hs1.symm;unfold fB;clear n1 n2 b1 b2 o1 o2 m1 m2 v1 v2 c0 fin u1 u2 u3 u4 u5 u6 q1 q2 z1 z2 hlo hs1
  (have w0:=@b8; walk_at "w"; try clear w0)
 rw [rC,qI,if_neg c6,lM,eZ];by_cases c7:w=7
 ·have x1:=bG (k:=k) (s:=s) g11;have x2:=bF (k:=k) (s:=s) g11;have x3:=bG (k:=k) (s:=aH k s (ma+1)) g9;have x4:=bF (k:=k) (s:=aH k s (ma+1)) g9;obtain ⟨a,ha⟩:∃ a:Nat,aY k s (ma+1)=(a:Int):=⟨_,(Int.toNat_of_nonneg x1).symm⟩
  have y1:=Int.emod_nonneg ((a:Int)+1+aY k (aH k s (ma+1)) ma) (b:=ma+1) (by omega);have y2:=Int.emod_lt_of_pos ((a:Int)+1+aY k (aH k s (ma+1)) ma) (b:=ma+1) (by omega);obtain ⟨b,hb⟩:∃ b:Nat,((a:Int)+1+aY k (aH k s (ma+1)) ma) % (ma+1)=(b:Int):=⟨_,(Int.toNat_of_nonneg y1).symm⟩
  have hne:a≠b:=fun z=>by
   subst z;rcases Int.lt_or_le ((a:Int)+1+aY k (aH k s (ma+1)) ma) (ma+1) with h | h
   ·rw [Int.emod_eq_of_lt (by omega) h] at hb;omega
   ·have h2:((a:Int)+1+aY k (aH k s (ma+1)) ma) % (ma+1)=((a:Int)+1+aY k (aH k s (ma+1)) ma - (ma+1)):=by
     rw [← Int.sub_emod_right,Int.emod_eq_of_lt (by omega) (by omega)]
    omega
  refine fin (s':=aH k (aH k s (ma+1)) ma) (d:=.tup [.str "above",.int (a:Int),.int (b:Int)]) (u6:=.un) (u7:=.sh (.int (a:Int))) (u8:=.un) ?_ (.above _ _ (by omega) (by omega) hne);rw [qU,qI,if_pos c7];unfold fB;clear n1 n2 b1 b2 o1 o2 m1 m2 v1 v2 c0 fin x1 x2 x3 x4 y1 y2 hne
  (have w0:=@b8; walk_at "w"; try clear w0)
 rw [qU,qI,if_neg c7,lM,eZ,A8];have x1:=bG (k:=k) (s:=aH k (aH k s oc) oc) (m:=4) (by decide);have x2:=bF (k:=k) (s:=aH k (aH k s oc) oc) (m:=4) (by decide);obtain ⟨x,hat,hx⟩:=atW x1 x2;refine ⟨aH k (aH k (aH k s oc) oc) 4,.tup [.str "never",.int (aY k s oc),.int (aY k (aH k s oc) oc),.str x], ?_,.never _ _ _ (bG g3) (bF g3) (bG g3) (bF g3) hx⟩;unfold fB;clear n1 n2 b1 b2 o1 o2 m1 m2 v1 v2 c0 fin x1 x2 hx
 (have w0:=@A0; have w1:=@b8; walk_at "w"; try clear w0 w1)
noncomputable def bV (f:Int × Int × Bool):D:=.tup [.int f.1,.int f.2.1,.bl f.2.2]
theorem QJ {g:Bool} {a b:Int}:L2.cX [D.int a,D.int b] (if g=true then 1 else 0)=some (.int (if g=true then b else a)):=by cases g <;> rfl
theorem Q0 {g:Bool} {a b:Int} (ha:0<a) (hb:0<b):0<(if g=true then b else a):=by cases g <;> simpa
theorem Q7 {g:Bool} {a b c:Int} (ha:a<c) (hb:b<c):(if g=true then b else a)<c:=by cases g <;> simpa
structure HouseOk (no ba oc:Int) (fs:List (Int × Int × Bool)):Prop where
 n1:1≤no
 n2:no≤7
 b1:1≤ba
 b2:ba≤4
 o1:1≤oc
 o2:oc≤12
 l1:1≤fs.length
 l2:fs.length≤3
 f:∀ f∈fs,0≤f.1∧f.1≤4∧-12≤f.2.1∧f.2.1≤12
theorem IL {W n:Nat} {k s:Int}:∃ s' no ba oc fs rs,run T W (n+3) "L_house" [.ow (.lst [.int k,.int s]) true false]=some (.ok (.sh (.tup [.int no,.int ba,.int oc,.tup (fs.map bV),.tup rs])),[.ow (.lst [.int k,.int s']) true false])∧HouseOk no ba oc fs∧rs.length≤8∧∀ d∈rs,RuleD no ba oc (fs.length:Int) d:=by
 rw [bQ z7 rfl rfl];unfold lV;generalize hg:decide (aY k s 2=0)=g;have p1:=Q0 (g:=g) (a:=4) (b:=7) (by decide) (by decide);have p2:=Q7 (g:=g) (a:=4) (b:=7) (c:=100000000000000000000000000000000000000000000000000000000000000000000000000000000) (by decide) (by decide);have p3:=Q0 (g:=g) (a:=2) (b:=4) (by decide) (by decide);have p4:=Q7 (g:=g) (a:=2) (b:=4) (c:=100000000000000000000000000000000000000000000000000000000000000000000000000000000) (by decide) (by decide);have p5:=Q0 (g:=g) (a:=2) (b:=3) (by decide) (by decide);have p6:=Q7 (g:=g) (a:=2) (b:=3) (c:=100000000000000000000000000000000000000000000000000000000000000000000000000000000) (by decide) (by decide);have p7:=Q0 (g:=g) (a:=2) (b:=5) (by decide) (by decide);have p8:=Q7 (g:=g) (a:=2) (b:=5) (c:=100000000000000000000000000000000000000000000000000000000000000000000000000000000) (by decide) (by decide);obtain ⟨s1,hs1⟩:∃ s1,s1=aH k s 2:=⟨_,rfl⟩
 obtain ⟨no,hno⟩:∃ no,no=1+aY k s1 (if g=true then 7 else 4):=⟨_,rfl⟩
 obtain ⟨s2,hs2⟩:∃ s2,s2=aH k s1 (if g=true then 7 else 4):=⟨_,rfl⟩
 obtain ⟨ba,hba⟩:∃ ba,ba=1+aY k s2 (if g=true then 4 else 2):=⟨_,rfl⟩
 obtain ⟨s3,hs3⟩:∃ s3,s3=aH k s2 (if g=true then 4 else 2):=⟨_,rfl⟩
 obtain ⟨oc,hoc⟩:∃ oc,oc=1+aY k s3 12:=⟨_,rfl⟩
 obtain ⟨s4,hs4⟩:∃ s4,s4=aH k s3 12:=⟨_,rfl⟩
 obtain ⟨ma,hma⟩:∃ ma,ma=1+aY k s4 (if g=true then 3 else 2):=⟨_,rfl⟩
 obtain ⟨s5,hs5⟩:∃ s5,s5=aH k s4 (if g=true then 3 else 2):=⟨_,rfl⟩
 have n1:1≤no:=by have:=bG (k:=k) (s:=s1) p1; omega
 have n2:no≤7:=by
  have:=bF (k:=k) (s:=s1) p1
  have:(if g=true then (7:Int) else 4)≤7:=by cases g <;> decide
  omega
 have b1:1≤ba:=by have:=bG (k:=k) (s:=s2) p3; omega
 have b2:ba≤4:=by
  have:=bF (k:=k) (s:=s2) p3
  have:(if g=true then (4:Int) else 2)≤4:=by cases g <;> decide
  omega
 have o1:1≤oc:=by have:=bG (k:=k) (s:=s3) (m:=12) (by decide); omega
 have o2:oc≤12:=by have:=bF (k:=k) (s:=s3) (m:=12) (by decide); omega
 have m1:1≤ma:=by have:=bG (k:=k) (s:=s4) p5; omega
 have m2:ma≤3:=by
  have:=bF (k:=k) (s:=s4) p5
  have:(if g=true then (3:Int) else 2)≤3:=by cases g <;> decide
  omega
 have hi1:aI .rng [.slot 5] [.ow (.lst [.int k,.int s5]) true false,.sh (.bl g),.sh (.int no),.sh (.int ba),.sh (.int oc),.sh (.int ma),.ow (.lst []) false false,.un,.un,.un]=some ((List.range ma.toNat).map fun (j:Nat)=>.int (j:Int),none):=tY rfl (by omega) (by omega)
 have key1:=eW (bind:=a8 true [7]) (body:=exs T.pins (run T W (n+2)) W mB)
  (fun pre ρ=>∃ s6 fs t7 t8,ρ=[.ow (.lst [.int k,.int s6]) true false,.sh (.bl g),.sh (.int no),.sh (.int ba),.sh (.int oc),.sh (.int ma),.ow (.lst (fs.map bV)) false false,t7,t8,.un]∧bY t7=true∧bY t8=true∧fs.length=pre.length∧∀ f∈fs,0≤f.1∧f.1≤4∧-12≤f.2.1∧f.2.1≤12)
  (ds:=(List.range ma.toNat).map fun (j:Nat)=>.int (j:Int)) (fun pre d post hds ρ hρ=>by
   obtain ⟨s6,fs,t7,t8,rfl,h7,h8,hl,hf⟩:=hρ
   have hlen:pre.length<ma.toNat:=by
    have:=congrArg List.length hds
    simp at this;omega
   refine ⟨_,by simp only [jU,bM h7] <;> rfl, ?_⟩;have hsm:aZ ((fs.map bV).length+1)=true:=dR (by simp; omega);have la:=bG (k:=k) (s:=s6) p7;have lb:=bF (k:=k) (s:=s6) p7;have lc:(if g=true then (5:Int) else 2)≤5:=by cases g <;> decide
   have sa:=bG (k:=k) (s:=aH k s6 (if g=true then 5 else 2)) (m:=25) (by decide);have sb:=bF (k:=k) (s:=aH k s6 (if g=true then 5 else 2)) (m:=25) (by decide);refine ⟨[.ow (.lst [.int k,.int (aH k (aH k (aH k s6 (if g=true then 5 else 2)) 25) 4)]) true false,.sh (.bl g),.sh (.int no),.sh (.int ba),.sh (.int oc),.sh (.int ma),.ow (.lst ((fs ++ [(aY k s6 (if g=true then 5 else 2),aY k (aH k s6 (if g=true then 5 else 2)) 25 - 12,decide (aY k (aH k (aH k s6 (if g=true then 5 else 2)) 25) 4=0))]).map bV)) false false,.sh d,.sh (.int (aY k s6 (if g=true then 5 else 2))),.un], ?_,_,_,_,_,rfl,rfl,rfl,by simp [hl],fun f hm=>?_⟩
   ·unfold mB;clear hf hds la lb lc sa sb hg hno hs2 hba hs3 hoc hs4 hma hs5 n1 n2 b1 b2 o1 o2 m1 m2 hlen hl hi1 hs1
    (have w0:=@QJ; have w1:=@b8; walk_at "w"; try clear w0 w1)
    simp only [List.map_append,List.map_cons,List.map_nil,bV]
   ·rcases List.mem_append.mp hm with hm | hm
    ·exact hf f hm
    ·rw [List.mem_singleton.mp hm]
     refine ⟨la, ?_, ?_, ?_⟩ <;> simp only <;> omega)
  (ρ:=[.ow (.lst [.int k,.int s5]) true false,.sh (.bl g),.sh (.int no),.sh (.int ba),.sh (.int oc),.sh (.int ma),.ow (.lst []) false false,.un,.un,.un]) ⟨_,[],_,_,rfl,rfl,rfl,rfl,fun f h=>nomatch h⟩
 obtain ⟨ρ1,el1,s6,fs,t7,t8,rfl,h7,h8,hl,hf⟩:=key1;have hl:fs.length=ma.toNat:=by rw [hl]; simp
 have hr1:=bG (k:=k) (s:=s6) (m:=9) (by decide);have hr2:=bF (k:=k) (s:=s6) (m:=9) (by decide);have hi2:aI .rng [.val (.sh (.int (aY k s6 9)))] [.ow (.lst [.int k,.int (aH k s6 9)]) true false,.sh (.bl g),.sh (.int no),.sh (.int ba),.sh (.int oc),.sh (.int ma),.ow (.lst (fs.map bV)) false false,t7,t8,.ow (.lst []) false false]=some ((List.range (aY k s6 9).toNat).map fun (j:Nat)=>.int (j:Int),none):=tY rfl (by omega) (by omega)
 have key2:=eW (bind:=a8 true [7]) (body:=exs T.pins (run T W (n+2)) W l8)
  (fun pre ρ=>∃ s7 rs t7,ρ=[.ow (.lst [.int k,.int s7]) true false,.sh (.bl g),.sh (.int no),.sh (.int ba),.sh (.int oc),.sh (.int ma),.ow (.lst (fs.map bV)) false false,t7,t8,.ow (.lst rs) false false]∧bY t7=true∧rs.length=pre.length∧∀ d∈rs,RuleD no ba oc ma d)
  (ds:=(List.range (aY k s6 9).toNat).map fun (j:Nat)=>.int (j:Int)) (fun pre d post hds ρ hρ=>by
   obtain ⟨s7,rs,t7,rfl,h7,hl,hR⟩:=hρ
   have hlen:pre.length<(aY k s6 9).toNat:=by
    have:=congrArg List.length hds
    simp at this;omega
   refine ⟨_,by simp only [jU,bM h7] <;> rfl, ?_⟩;have hsm:aZ (rs.length+1)=true:=dR (by omega);obtain ⟨s8,dr,er,hrd⟩:=KC (W:=W) (n:=n) (k:=k) (s0:=s7) n1 n2 b1 b2 o1 o2 m1 m2;refine ⟨[.ow (.lst [.int k,.int s8]) true false,.sh (.bl g),.sh (.int no),.sh (.int ba),.sh (.int oc),.sh (.int ma),.ow (.lst (fs.map bV)) false false,.sh d,t8,.ow (.lst (rs ++ [dr])) false false], ?_,_,_,_,rfl,rfl,by simp [hl],fun d hd=>(List.mem_append.mp hd).elim (hR d) fun q=>by rw [List.mem_singleton.mp q]; exact hrd⟩;unfold l8;clear hR hrd hf hds hg hno hs2 hba hs3 hoc hs4 hma hs5 n1 n2 b1 b2 o1 o2 m1 m2 hlen hl hi1 hs1 el1 hi2 hr1 hr2
   (have w0:=@b8; have w1:=@QJ; walk_at "w"; try clear w0 w1))
  (ρ:=[.ow (.lst [.int k,.int (aH k s6 9)]) true false,.sh (.bl g),.sh (.int no),.sh (.int ba),.sh (.int oc),.sh (.int ma),.ow (.lst (fs.map bV)) false false,t7,t8,.ow (.lst []) false false]) ⟨_,[],_,rfl,h7,rfl,fun _ z=>nomatch z⟩
 obtain ⟨ρ2,el2,s7,rs,t7',rfl,h7',hlr,hR⟩:=key2;have hlr2:rs.length≤8:=by rw [hlr]; simp; omega
 have hlm:(fs.length:Int)=ma:=by omega
 refine ⟨s7,no,ba,oc,fs,rs, ?_,⟨n1,n2,b1,b2,o1,o2,by omega,by omega,hf⟩,hlr2,by rw [hlm]; exact hR⟩;clear hf n1 n2 b1 b2 o1 o2 m1 m2 hl hlr hr1 hr2 hR hlr2 hlm;have e1:=hno.symm;have e2:=hs2.symm;have e3:=hba.symm;have e4:=hs3.symm;have e5:=hoc.symm;have e6:=hs4.symm;have e7:=hma.symm;have e8:=hs5.symm;have e9:=hs1.symm;clear hno hs2 hba hs3 hoc hs4 hma hs5 hs1
 (have w0:=@QJ; have w1:=@b8; walk_at "w"; try clear w0 w1)
theorem LV {W n:Nat} {k s no mo:Int} (h1:0<no) (h2:no<100000000000000000000000000000000000000000000000000000000000000000000000000000000) (h3:0≤mo) (h4:mo≤1000):∃ (s':Int) (xs:List Int),run T W (n+2) "L_line" [.ow (.lst [.int k,.int s]) true false,.sh (.int no),.sh (.int mo)]=some (.ok (.ow (.lst (xs.map D.int))),[.ow (.lst [.int k,.int s']) true false,.sh (.int no),.sh (.int mo)])∧(xs.length:Int)≤mo∧∀ x∈xs,0≤x∧x<no:=by
 rw [bQ C8 rfl rfl];unfold nB;have g1:0<mo+1:=by omega
 have g2:mo+1<100000000000000000000000000000000000000000000000000000000000000000000000000000000:=by omega
 have v1:=bG (k:=k) (s:=s) g1;have v2:=bF (k:=k) (s:=s) g1;have hi:aI .rng [.slot 3] [.ow (.lst [.int k,.int (aH k s (mo+1))]) true false,.sh (.int no),.sh (.int mo),.sh (.int (aY k s (mo+1)))]=some ((List.range (aY k s (mo+1)).toNat).map fun (j:Nat)=>.int (j:Int),none):=tY rfl (by omega) (by omega)
 obtain ⟨acc,ρi,e,⟨s6,xs,t3,rfl,h3',rfl,hl,hx⟩,hz⟩:=gY (tests:=dC T.pins (run T W (n+1)) []) (elt:=ev T.pins (run T W (n+1)) false nV) (bind:=a8 true [3]) (ds:=(List.range (aY k s (mo+1)).toNat).map fun (j:Nat)=>.int (j:Int))
  (fun j acc ρ=>∃ (s6:Int) (xs:List Int) (t3:Sl),ρ=[.sh (.int no),.ow (.lst [.int k,.int s6]) true false,.un,t3]∧bY t3=true∧acc=xs.map D.int∧xs.length=j∧∀ x∈xs,0≤x∧x<no)
  (fun j d hd acc ρ hρ=>by
   obtain ⟨s6,xs,t3,rfl,h3',rfl,hl,hx⟩:=hρ;refine ⟨_,true,_,by simp only [wM,ME,List.getElem?_cons_zero,List.getElem?_cons_succ,bM h3',List.set_cons_zero,List.set_cons_succ] <;> rfl,jB,fun _=>?_,fun z=>nomatch z⟩;refine ⟨.sh (.int (aY k s6 no)),[.sh (.int no),.ow (.lst [.int k,.int (aH k s6 no)]) true false,.un,.sh d], ?_,_,xs ++ [aY k s6 no],_,rfl,rfl,by simp [RV.d],by simp [hl],fun x hm=>?_⟩
   ·unfold nV;clear hx hd hl v1 v2 g1 g2 hi
    (have w0:=@b8; walk_at "w"; try clear w0)
   ·rcases List.mem_append.mp hm with hm | hm
    ·exact hx x hm
    ·rw [List.mem_singleton.mp hm]; exact ⟨bG h1,bF h1⟩)
  [] [.sh (.int no),.ow (.lst [.int k,.int (aH k s (mo+1))]) true false,.un,.un] ⟨_,[],_,rfl,rfl,rfl,rfl,fun x h=>nomatch h⟩
 have hl:xs.length=(aY k s (mo+1)).toNat:=by rw [hl]; simp
 refine ⟨s6,xs, ?_,by omega,hx⟩;have hsm:aZ (xs.map D.int).length=true:=dR (by simp; omega);clear hx hz hl v1 v2
 (have w0:=@b8; walk_at "w"; try clear w0)
 rw [fC hi]
 (have w0:=@b8; walk_at "w"; try clear w0)
theorem pE {W n:Nat} {late shift note:Int} {turned:Bool}:run T W (n+1) "pitch" [.sh (.tup [.int late,.int shift,.bl turned]),.sh (.int note)]=some (.ok (.sh (.int (if turned then shift - note else shift+note))),[.sh (.tup [.int late,.int shift,.bl turned]),.sh (.int note)]):=by
 rw [bQ GK rfl rfl];unfold pC;cases turned <;> walk_at "w"
noncomputable def aA (no ba oc:Int) (fs:List (Int × Int × Bool)) (rs:List D):D:=.tup [.int no,.int ba,.int oc,.tup (fs.map bV),.tup rs]
noncomputable def cM (xs:List Int) (b:Int) (f:Int × Int × Bool):D :=
 if 0≤b - f.1∧b - f.1<xs.length then .int (if f.2.2=true then f.2.1 - xs.getD (b - f.1).toNat 0 else f.2.1+xs.getD (b - f.1).toNat 0) else .non
abbrev dP (fs:List (Int × Int × Bool)):List (Int × Int × Bool):=(0,0,false) :: fs
theorem kH {W n:Nat} {no ba oc:Int} {fs:List (Int × Int × Bool)} {rs:List D} {v:Nat} {f:Int × Int × Bool} (h:(dP fs)[v]?=some f) :
  run T W (n+1) "singer" [.sh (aA no ba oc fs rs),.sh (.int (v:Int))]=some (.ok (.sh (bV f)),[.sh (aA no ba oc fs rs),.sh (.int (v:Int))]):=by
 rw [bQ CM rfl rfl];unfold mY
 cases v with
 | zero =>
  simp only [List.getElem?_cons_zero,Option.some.injEq] at h;subst h;have e:decide (((0:Nat):Int)=0)=true:=rfl
  walk_at "w"
  all_goals (try simp only [e])
  all_goals (try walk_at "w")
  all_goals rfl
 | succ v =>
  have h:fs[v]?=some f:=by simpa using h
  have e:decide (((v+1:Nat):Int)=0)=false:=decide_eq_false (by omega);have e2:((v+1:Nat):Int) - 1=(v:Int):=by omega
  have e3:L2.cX (fs.map bV) (v:Int)=some (bV f):=L2.oU (by rw [List.getElem?_map,h]; rfl);unfold aA
  walk_at "w"
theorem SM {xs:List Int} {i:Int} (h1:0≤i) (h2:i<xs.length):L2.cX (xs.map D.int) i=some (.int (xs.getD i.toNat 0)):=by
 have:=wJ (ns:=xs) (k:=i.toNat) (by omega)
 have e:((i.toNat:Nat):Int)=i:=by omega
 rwa [e] at this
theorem sX {W n:Nat} {no ba oc:Int} {fs:List (Int × Int × Bool)} {rs:List D} {xs:List Int} {v:Nat} {b:Int} {p:Bool} {f:Int × Int × Bool} (h:(dP fs)[v]?=some f) :
  run T W (n+2) "sung" [.sh (aA no ba oc fs rs),.ow (.lst (xs.map D.int)) true false,.sh (.int (v:Int)),.sh (.int b)]=some (.ok (.sh (cM xs b f)),[.sh (aA no ba oc fs rs),.ow (.lst (xs.map D.int)) true false,.sh (.int (v:Int)),.sh (.int b)]):=by
 rw [bQ K5 rfl rfl];unfold tL;have hs:=kH (W:=W) (n:=n) (no:=no) (ba:=ba) (oc:=oc) (rs:=rs) h;obtain ⟨late,shift,turned⟩:=f;simp only [bV] at hs;by_cases c:0≤b - late∧b - late<xs.length
 ·have e1:=SM c.1 c.2;have ev:cM xs b (late,shift,turned)=.int (if turned=true then shift - xs.getD (b - late).toNat 0 else shift+xs.getD (b - late).toNat 0):=if_pos c;obtain ⟨c1,c2⟩:=c;clear h
  (have w0:=@kH; have w1:=@pE; have w2:=@List.length_map.{0,0}; walk_at "w"; try clear w0 w1 w2)
 ·have ev:cM xs b (late,shift,turned)=.non:=if_neg c;by_cases c1:0≤b - late
  ·have c2:¬ b - late<xs.length:=fun z=>c ⟨c1,z⟩
   have c2':decide (b - late<(xs.length:Int))=false:=decide_eq_false c2;clear h c c2
   (have w0:=@kH; have w1:=@pE; have w2:=@List.length_map.{0,0}; walk_at "w"; try clear w0 w1 w2)
  ·have c1':decide (0≤b - late)=false:=decide_eq_false c1;clear h c c1
   (have w0:=@kH; have w1:=@pE; have w2:=@List.length_map.{0,0}; walk_at "w"; try clear w0 w1 w2)
theorem nD {xs:List Int} {b:Int} {f:Int × Int × Bool}:cM xs b f=.non∨∃ i,cM xs b f=.int i:=by
 unfold cM;split
 ·exact .inr ⟨_,rfl⟩
 ·exact .inl rfl
theorem BR {tests elt:Env→aE RV} {bind:D→Env→Option Env} {ds:List D} (sel:Nat→Bool) (val:Nat→D) (J:Env→Prop)
  (step:∀ (j:Nat) (d:D),ds[j]?=some d→∀ ρ,J ρ→∃ ρ1 ρ2,bind d ρ=some ρ1∧tests ρ1=some (.ok (.sh (.bl (sel j))),ρ2)∧(sel j=true→∃ v ρ3,elt ρ2=some (.ok v,ρ3)∧v.d=val j∧J ρ3)∧(sel j=false→J ρ2)) :
  ∀ ρ,J ρ→∃ ρ',d8 tests elt bind ds [] ρ=some (.ok (((List.range ds.length).filter sel).map val),ρ')∧J ρ':=by
 intro ρ hρ
 obtain ⟨acc,ρ',e,⟨rfl,hJ⟩,_⟩:=gY (tests:=tests) (elt:=elt) (bind:=bind) (ds:=ds) (fun j acc ρ=>acc=((List.range j).filter sel).map val∧J ρ)
  (fun j d hd acc ρ ⟨ha,hJ⟩=>by
   subst ha;obtain ⟨ρ1,ρ2,h1,h2,h3,h4⟩:=step j d hd ρ hJ;refine ⟨ρ1,sel j,ρ2,h1,h2,fun hc=>?_,fun hc=>?_⟩
   ·obtain ⟨v,ρ3,h5,h6,h7⟩:=h3 hc;refine ⟨v,ρ3,h5, ?_,h7⟩;rw [List.range_succ,List.filter_append,List.map_append,h6];simp [hc]
   ·refine ⟨?_,h4 hc⟩;rw [List.range_succ,List.filter_append,List.map_append]
    simp [hc]) [] ρ ⟨rfl,hρ⟩
 exact ⟨ρ',e,hJ⟩
theorem lP {W n:Nat} {no ba oc:Int} {fs:List (Int × Int × Bool)} {rs:List D} {xs:List Int} {b:Int} (hl:fs.length≤1000) :
  run T W (n+3) "chord" [.sh (aA no ba oc fs rs),.ow (.lst (xs.map D.int)) true false,.sh (.int b)]=some (.ok (.ow (.lst ((dP fs).map (cM xs b)))),[.sh (aA no ba oc fs rs),.ow (.lst (xs.map D.int)) true false,.sh (.int b)]):=by
 rw [bQ GC rfl rfl];unfold pA
 have hi:aI .rng [.val (.sh (.int ((fs.length:Int)+1)))] [.sh (aA no ba oc fs rs),.ow (.lst (xs.map D.int)) true false,.sh (.int b)]=some ((List.range (fs.length+1)).map fun (j:Nat)=>.int (j:Int),none):=by
  refine Eq.trans (tY (n:=(fs.length:Int)+1) rfl (by omega) (by omega)) ?_;rw [show ((fs.length:Int)+1).toNat=fs.length+1 from by omega]
 have hix:gT (some (aA no ba oc fs rs)) (.int 3)=some (.sh (.tup (fs.map bV))):=rfl
 obtain ⟨acc,ρi,e,⟨t4,rfl,ht4,rfl⟩,hz⟩:=gY (tests:=dC T.pins (run T W (n+2)) []) (elt:=ev T.pins (run T W (n+2)) false pS) (bind:=a8 true [4]) (ds:=(List.range (fs.length+1)).map fun (j:Nat)=>.int (j:Int))
  (fun j acc ρ=>∃ (t4:Sl),ρ=[.sh (.int b),.sh (aA no ba oc fs rs),.ow (.lst (xs.map D.int)) true false,.un,t4]∧bY t4=true∧acc=((dP fs).take j).map (cM xs b))
  (fun j d hd acc ρ hρ=>by
   obtain ⟨t4,rfl,ht4,rfl⟩:=hρ
   have hj:j<fs.length+1:=by
    have:=(List.getElem?_eq_some_iff.mp hd).1
    simpa using this
   have hd':d=.int (j:Int):=by
    rw [List.getElem?_map,List.getElem?_range hj] at hd;exact (Option.some.inj hd).symm
   subst hd';obtain ⟨f,hf⟩:∃ f,(dP fs)[j]?=some f:=⟨_,List.getElem?_eq_getElem (by simp; omega)⟩
   have hs:=sX (W:=W) (n:=n) (no:=no) (ba:=ba) (oc:=oc) (rs:=rs) (xs:=xs) (b:=b) (p:=true) hf;refine ⟨_,true,_,by simp only [jU,bM ht4] <;> rfl,jB,fun _=>?_,fun z=>nomatch z⟩;refine ⟨.sh (cM xs b f),[.sh (.int b),.sh (aA no ba oc fs rs),.ow (.lst (xs.map D.int)) true false,.un,.sh (.int (j:Int))], ?_,_,rfl,rfl, ?_⟩
   ·unfold pS;clear hd hj hf hi ht4 hix
    (have w0:=@List.length_map.{0,0}; walk_at "w"; try clear w0)
   ·rw [List.take_succ,hf,List.map_append]
    rfl)
  [] [.sh (.int b),.sh (aA no ba oc fs rs),.ow (.lst (xs.map D.int)) true false,.un,.un] ⟨_,rfl,rfl,rfl⟩
 have ht:(dP fs).take (((List.range (fs.length+1)).map fun (j:Nat)=>D.int (j:Int)).length)=dP fs:=by
  rw [List.take_of_length_le];simp
 rw [ht] at e;have hsm:aZ ((dP fs).map (cM xs b)).length=true:=dR (by simp; omega);have hsm2:aZ (fs.length+1)=true:=dR (by omega);clear hz ht4 ht hl
 (have w0:=@List.length_map.{0,0}; walk_at "w"; try clear w0)
 rw [fC hi]
 (have w0:=@List.length_map.{0,0}; walk_at "w"; try clear w0)
noncomputable def j0 (lo hi:Int):D→Bool
 | .int i=>!(decide (lo≤i) && decide (i≤hi))
 | _=>false
noncomputable def rY (n:Nat) (sel:Nat→Bool):List (List Int):=((List.range n).filter sel).map fun (j:Nat)=>[(j:Int)]
theorem VH {n:Nat} {sel:Nat→Bool} {is:List Int} (h:is∈rY n sel):is.length≤1000:=by
 obtain ⟨j,_,rfl⟩:=List.mem_map.mp h;simp
theorem B1 {n:Nat} {sel:Nat→Bool} (hn:n≤1000):(rY n sel).length≤1000:=by
 unfold rY;rw [List.length_map]
 have:=List.length_filter_le sel (List.range n)
 simp at this;omega
theorem Y3 {n:Nat} {sel:Nat→Bool}:((List.range n).filter sel).map (fun (j:Nat)=>D.tup [.int (j:Int)])=aG (rY n sel):=by
 unfold aG rY;rw [List.map_map];rfl
theorem A1 {W n:Nat} {lo hi:Int} {d:D} (hd:d=.non∨∃ i,d=.int i):run T W (n+1) "Range.forbids" [.sh (.ins "Range" ["low","high"] [.int lo,.int hi]),.sh d]=some (.ok (.sh (.bl (j0 lo hi d))),[.sh (.ins "Range" ["low","high"] [.int lo,.int hi]),.sh d]):=by
 rw [bQ m8 rfl rfl];unfold fR;rcases hd with rfl | ⟨i,rfl⟩
 ·have e:j0 lo hi .non=false:=rfl
  (have w0:=@lE; have w1:=@j8; walk_at "w"; try clear w0 w1)
 ·have e:j0 lo hi (.int i)=!(decide (lo≤i) && decide (i≤hi)):=rfl;by_cases c:lo≤i
  ·have c':decide (lo≤i)=true:=decide_eq_true c;rw [e,c',Bool.true_and];clear e c
   (have w0:=@lE; have w1:=@j8; walk_at "w"; try clear w0 w1)
  ·have c':decide (lo≤i)=false:=decide_eq_false c;rw [e,c',Bool.false_and];clear e c
   (have w0:=@lE; have w1:=@j8; walk_at "w"; try clear w0 w1)
noncomputable def aP (fs:List (Int × Int × Bool)) (xs:List Int) (b:Int):List D:=(dP fs).map (cM xs b)
theorem G7 {fs:List (Int × Int × Bool)} {xs:List Int} {b:Int} {j:Nat} {d:D} (h:(aP fs xs b)[j]?=some d):d=.non∨∃ i,d=.int i:=by
 unfold aP at h;rw [List.getElem?_map] at h
 cases q:(dP fs)[j]? with
 | none=>rw [q] at h; cases h
 | some f =>
  rw [q] at h;cases h;exact nD
theorem gR {fs:List (Int × Int × Bool)} {xs:List Int} {b:Int}:(aP fs xs b).length=fs.length+1:=by unfold aP; simp
theorem NN {fs:List (Int × Int × Bool)} {xs:List Int} {b:Int} {v:Nat} {f:Int × Int × Bool} (h:(dP fs)[v]?=some f):(aP fs xs b)[v]?=some (cM xs b f):=by
 unfold aP; rw [List.getElem?_map,h]; rfl
theorem pD {fs:List (Int × Int × Bool)} {xs:List Int} {b:Int} {v:Nat} {f:Int × Int × Bool} (h:(dP fs)[v]?=some f):(aP fs xs b).getD v .non=cM xs b f:=by
 rw [List.getD_eq_getElem?_getD,NN h]; rfl
theorem aCO {ρ:Env} {v:RV} {ds:List D} (h:v.d=.lst ds):aI (.enum 0) [.val v] ρ=some (dJ 0 ds,none):=by simp only [aI,h]
noncomputable def kT (lo hi:Int) (fs:List (Int × Int × Bool)) (xs:List Int) (b:Int):List (List Int):=rY (fs.length+1) fun j=>j0 lo hi ((aP fs xs b).getD j .non)
theorem CQ {W n:Nat} {lo hi no ba oc:Int} {fs:List (Int × Int × Bool)} {rs:List D} {xs:List Int} {b:Int} (hl:fs.length≤900) :
  run T W (n+4) "Range.broken" [.sh (.ins "Range" ["low","high"] [.int lo,.int hi]),.sh (aA no ba oc fs rs),.ow (.lst (xs.map D.int)) true false,.sh (.int b)]=some (.ok (.ow (.lst (aG (kT lo hi fs xs b)))),[.sh (.ins "Range" ["low","high"] [.int lo,.int hi]),.sh (aA no ba oc fs rs),.ow (.lst (xs.map D.int)) true false,.sh (.int b)]):=by
 rw [bQ oQ rfl rfl];unfold gK;have hc:run T W (n+3) "chord" _=some (.ok (.ow (.lst (aP fs xs b))),_):=lP (W:=W) (n:=n) (no:=no) (ba:=ba) (oc:=oc) (fs:=fs) (rs:=rs) (xs:=xs) (b:=b) (by omega);have hi2:aI (.enum 0) [.val (.ow (.lst (aP fs xs b)))] [.sh (.ins "Range" ["low","high"] [.int lo,.int hi]),.sh (aA no ba oc fs rs),.ow (.lst (xs.map D.int)) true false,.sh (.int b)]=some (dJ 0 (aP fs xs b),none):=aCO rfl
 obtain ⟨ρi,e,t2,t3,rfl,ht2,ht3⟩:=BR (tests:=dC T.pins (run T W (n+3)) [.meth 0 "forbids" eU [.var 3]]) (elt:=ev T.pins (run T W (n+3)) false iM) (bind:=a8 false [2,3]) (ds:=dJ 0 (aP fs xs b))
  (fun j=>j0 lo hi ((aP fs xs b).getD j .non)) (fun (j:Nat)=>.tup [.int (j:Int)])
  (fun ρ=>∃ (t2 t3:Sl),ρ=[.sh (.ins "Range" ["low","high"] [.int lo,.int hi]),.un,t2,t3]∧bY t2=true∧bY t3=true)
  (fun j d hd ρ hρ=>by
   obtain ⟨t2,t3,rfl,ht2,ht3⟩:=hρ
   have hj:j<(aP fs xs b).length:=by
    have:=(List.getElem?_eq_some_iff.mp hd).1
    rwa [fI] at this
   have hg:=List.getElem?_eq_getElem hj;rw [nM hg,Int.zero_add] at hd;cases hd;generalize (aP fs xs b)[j]=x at hg;have hgd:(aP fs xs b).getD j .non=x:=by rw [List.getD_eq_getElem?_getD,hg]; rfl
   have hk:=G7 hg;have hf:=A1 (W:=W) (n:=n+2) (lo:=lo) (hi:=hi) hk;refine ⟨_,[.sh (.ins "Range" ["low","high"] [.int lo,.int hi]),.un,.sh (.int (j:Int)),.sh x],by simp only [jU,bM ht2,bM ht3] <;> rfl, ?_,fun _=>?_,fun _=>?_⟩
   ·simp only [hgd];clear hj hg hgd hk hc hi2 ht2 ht3
    (have w0:=@fM; walk_at "w"; try clear w0)
   ·refine ⟨.sh (.tup [.int (j:Int)]),[.sh (.ins "Range" ["low","high"] [.int lo,.int hi]),.un,.sh (.int (j:Int)),.sh x], ?_,rfl,_,_,rfl,rfl,rfl⟩;unfold iM;clear hj hg hgd hk hc hi2 ht2 ht3 hf
    (have w0:=@fM; walk_at "w"; try clear w0)
   ·exact ⟨_,_,rfl,rfl,rfl⟩)
  [.sh (.ins "Range" ["low","high"] [.int lo,.int hi]),.un,.un,.un] ⟨_,_,rfl,rfl,rfl⟩
 rw [fI,gR,Y3] at e;have hB:rY (fs.length+1) (fun j=>j0 lo hi ((aP fs xs b).getD j .non))=kT lo hi fs xs b:=rfl;rw [hB] at e
 have hsm:aZ (aG (kT lo hi fs xs b)).length=true:=dR (by
  have:=B1 (n:=fs.length+1) (sel:=fun j=>j0 lo hi ((aP fs xs b).getD j .non)) (by omega)
  unfold aG kT;simp only [List.length_map]
  omega)
 clear hl ht2 ht3 hB
 (have w0:=@fM; walk_at "w"; try clear w0)
 rw [fC hi2]
 (have w0:=@fM; walk_at "w"; try clear w0)
noncomputable def eY (m v:Nat) (P:Nat→Nat→Bool):List (List Int):=((List.range m).filter fun j=>P v (v+1+j)).map fun (j:Nat)=>[(v:Int),((v+1+j:Nat):Int)]
noncomputable def cZ (n:Nat) (P:Nat→Nat→Bool):List (List Int):=(List.range n).flatMap fun v=>eY (n - (v+1)) v P
theorem MH {m v:Nat} {P:Nat→Nat→Bool}:eY (m+1) v P=eY m v P ++ (if P v (v+1+m)=true then [[(v:Int),((v+1+m:Nat):Int)]] else []):=by
 unfold eY;rw [List.range_succ,List.filter_append,List.map_append];congr 1;by_cases h:P v (v+1+m)=true
 ·simp [h]
 ·simp [h]
theorem SJ {m v:Nat} {P:Nat→Nat→Bool} {is:List Int} (h:is∈eY m v P):is.length≤1000:=by
 obtain ⟨j,_,rfl⟩:=List.mem_map.mp h;simp
theorem AA {n:Nat} {P:Nat→Nat→Bool} {is:List Int} (h:is∈cZ n P):is.length≤1000:=by
 obtain ⟨v,_,h⟩:=List.mem_flatMap.mp h;exact SJ h
theorem CN {m v:Nat} {P:Nat→Nat→Bool}:(eY m v P).length≤m:=by
 unfold eY;rw [List.length_map]
 have:=List.length_filter_le (fun j=>P v (v+1+j)) (List.range m)
 simpa using this
theorem uW {n m:Nat} {P:Nat→Nat→Bool}:(List.range (m+1)).flatMap (fun v=>eY (n - (v+1)) v P)=(List.range m).flatMap (fun v=>eY (n - (v+1)) v P) ++ eY (n - (m+1)) m P:=by
 rw [List.range_succ,List.flatMap_append];simp
theorem vP {n:Nat} {P:Nat→Nat→Bool}:∀ (m:Nat),((List.range m).flatMap (fun v=>eY (n - (v+1)) v P)).length≤m*n
 | 0=>by simp
 | m+1=>by
  rw [uW,List.length_append];have h1:=vP (n:=n) (P:=P) m;have h2:=CN (m:=n - (m+1)) (v:=m) (P:=P);rw [Nat.succ_mul];omega
theorem lW {n:Nat} {P:Nat→Nat→Bool} (hn:n≤30):(cZ n P).length≤1000:=by
 have h1:=vP (n:=n) (P:=P) n;have h2:n*n≤30*30:=Nat.mul_le_mul hn hn;unfold cZ;omega
theorem z0 {a b:List (List Int)}:aG (a ++ b)=aG a ++ aG b:=by unfold aG; rw [List.map_append]
theorem gX {a:List (List Int)}:(aG a).length=a.length:=by unfold aG; rw [List.length_map]
theorem QT {body:Env→bN} {iw:Nat} (E:List D→Sl→Sl→Env) (P:Nat→Nat→Bool) (n v:Nat) (acc:List (List Int)) (ha:acc.length≤10000) (hn:n≤1000)
  (hb:∀ (a:List D) (t:Sl) (d:D),bY t=true→a8 true [iw] d (E a (.sh (.int (v:Int))) t)=some (E a (.sh (.int (v:Int))) (.sh d)))
  (hs:∀ (a:List (List Int)) (w:Nat),v<w→w<n→a.length≤20000→body (E (aG a) (.sh (.int (v:Int))) (.sh (.int (w:Int))))=some (.nx,E (aG (a ++ (if P v w=true then [[(v:Int),(w:Int)]] else []))) (.sh (.int (v:Int))) (.sh (.int (w:Int))))) (t:Sl) (ht:bY t=true) :
  ∃ t',cQ (a8 true [iw]) body ((List.range (n - (v+1))).map fun (j:Nat)=>.int ((v:Int)+1+(j:Int))) (E (aG acc) (.sh (.int (v:Int))) t)=some (.nx,E (aG (acc ++ eY (n - (v+1)) v P)) (.sh (.int (v:Int))) t')∧bY t'=true:=by
 obtain ⟨ρ',e,t',rfl,ht'⟩:=eW (bind:=a8 true [iw]) (body:=body) (fun pre ρ=>∃ t',ρ=E (aG (acc ++ eY pre.length v P)) (.sh (.int (v:Int))) t'∧bY t'=true)
  (ds:=(List.range (n - (v+1))).map fun (j:Nat)=>.int ((v:Int)+1+(j:Int))) (fun pre d post hds ρ hρ=>by
   obtain ⟨t',rfl,ht'⟩:=hρ
   have hlen:pre.length<n - (v+1):=by
    have:=congrArg List.length hds
    simp at this;omega
   have hd:d=.int (((v+1+pre.length:Nat)):Int):=by
    have h1:((List.range (n - (v+1))).map fun (j:Nat)=>D.int ((v:Int)+1+(j:Int)))[pre.length]?=some d:=by rw [hds]; simp
    rw [List.getElem?_map,List.getElem?_range hlen] at h1;simp only [Option.map_some,Option.some.injEq] at h1;rw [← h1];congr 1
   subst hd;refine ⟨_,hb _ _ _ ht',_,hs _ (v+1+pre.length) (by omega) (by omega) ?_,.sh (.int ((v+1+pre.length:Nat):Int)), ?_,rfl⟩
   ·have:=CN (m:=pre.length) (v:=v) (P:=P)
    rw [List.length_append];omega
   ·rw [List.length_append,List.length_cons,List.length_nil,MH,List.append_assoc])
  (ρ:=E (aG acc) (.sh (.int (v:Int))) t) ⟨t,by simp [eY],ht⟩
 refine ⟨t', ?_,ht'⟩;rw [e];simp
theorem IM {body:Env→bN} {iv:Nat} (E:List D→Sl→Sl→Env) (P:Nat→Nat→Bool) (n:Nat) (hn:n≤30)
  (hb:∀ (a:List D) (t t2:Sl) (d:D),bY t=true→a8 true [iv] d (E a t t2)=some (E a (.sh d) t2))
  (hs:∀ (acc:List (List Int)) (v:Nat) (t:Sl),v<n→acc.length≤10000→bY t=true→∃ t',body (E (aG acc) (.sh (.int (v:Int))) t)=some (.nx,E (aG (acc ++ eY (n - (v+1)) v P)) (.sh (.int (v:Int))) t')∧bY t'=true) (t t2:Sl) (ht:bY t=true) (ht2:bY t2=true) :
  ∃ t' t2',cQ (a8 true [iv]) body ((List.range n).map fun (j:Nat)=>.int (j:Int)) (E [] t t2)=some (.nx,E (aG (cZ n P)) t' t2')∧bY t'=true∧bY t2'=true:=by
 obtain ⟨ρ',e,t',t2',rfl,ht',ht2'⟩:=eW (bind:=a8 true [iv]) (body:=body) (fun pre ρ=>∃ t' t2',ρ=E (aG ((List.range pre.length).flatMap fun v=>eY (n - (v+1)) v P)) t' t2'∧bY t'=true∧bY t2'=true)
  (ds:=(List.range n).map fun (j:Nat)=>.int (j:Int)) (fun pre d post hds ρ hρ=>by
   obtain ⟨t',t2',rfl,ht',ht2'⟩:=hρ
   have hlen:pre.length<n:=by
    have:=congrArg List.length hds
    simp at this;omega
   have hd:d=.int ((pre.length:Nat):Int):=by
    have h1:((List.range n).map fun (j:Nat)=>D.int (j:Int))[pre.length]?=some d:=by rw [hds]; simp
    rw [List.getElem?_map,List.getElem?_range hlen] at h1;simp only [Option.map_some,Option.some.injEq] at h1;exact h1.symm
   subst hd
   obtain ⟨t3,h3,h4⟩:=hs ((List.range pre.length).flatMap fun v=>eY (n - (v+1)) v P) pre.length t2' hlen (by
    have h1:=vP (n:=n) (P:=P) pre.length;have h2:pre.length*n≤30*30:=Nat.mul_le_mul (by omega) hn
    omega) ht2'
   refine ⟨_,hb _ _ _ _ ht',_,h3,.sh (.int ((pre.length:Nat):Int)),_, ?_,rfl,h4⟩
   rw [List.length_append,List.length_cons,List.length_nil,uW])
  (ρ:=E [] t t2) ⟨t,t2,by simp [aG],ht,ht2⟩
 refine ⟨t',t2', ?_,ht',ht2'⟩;rw [e];unfold cZ;simp
noncomputable def uD:D→Bool
 | .non=>true
 | _=>false
noncomputable def cP (hs:List D) (v w:Nat):Bool:=!uD (hs.getD v .non) && !uD (hs.getD w .non)
def FC (hs:List D):Prop:=∀ d∈hs,d=.non∨∃ i,d=.int i
theorem fG {fs:List (Int × Int × Bool)} {xs:List Int} {b:Int}:FC (aP fs xs b):=fun d hd=>by
 obtain ⟨f,_,rfl⟩:=List.mem_map.mp hd;exact nD
theorem jH {hs:List D} (h:FC hs) {v:Nat} (hv:v<hs.length):∃ d,L2.cX hs (v:Int)=some d∧hs.getD v .non=d∧(d=.non∨∃ i,d=.int i):=by
 refine ⟨hs[v],L2.oU (List.getElem?_eq_getElem hv), ?_,h _ (List.getElem_mem hv)⟩;rw [List.getD_eq_getElem?_getD,List.getElem?_eq_getElem hv];rfl
theorem rF {W n:Nat} {hs:List D} (hh:FC hs) (hl:hs.length≤30) :
  run T W (n+1) "sounding_pairs" [.ow (.lst hs) true false]=some (.ok (.ow (.lst (aG (cZ hs.length (cP hs))))),[.ow (.lst hs) true false]):=by
 rw [bQ mE rfl rfl];unfold fA
 have hi:aI .rng [.val (.sh (.int (hs.length:Int)))] [.ow (.lst hs) true false,.ow (.lst []) false false,.un,.un]=some ((List.range hs.length).map fun (j:Nat)=>.int (j:Int),none):=by
  refine Eq.trans (tY (n:=(hs.length:Int)) rfl (by omega) (by omega)) ?_;rw [Int.toNat_natCast]
 obtain ⟨t',t2',e,ht',ht2'⟩:=IM (iv:=2) (body:=exs T.pins (run T W n) W gE) (fun a t t2=>[.ow (.lst hs) true false,.ow (.lst a) false false,t,t2]) (cP hs) hs.length hl
  (fun a t t2 d ht=>by simp only [jU,bM ht])
  (fun acc v t hv hac ht=>by
   have hi2:aI .rng [.val (.sh (.int ((v:Int)+1))),.val (.sh (.int (hs.length:Int)))] [.ow (.lst hs) true false,.ow (.lst (aG acc)) false false,.sh (.int (v:Int)),t]=some ((List.range (hs.length - (v+1))).map fun (j:Nat)=>.int ((v:Int)+1+(j:Int)),none):=by
    refine Eq.trans (aBW (m:=(v:Int)+1) (n:=(hs.length:Int)) rfl rfl (by omega) (by omega)) ?_;rw [show ((hs.length:Int) - ((v:Int)+1)).toNat=hs.length - (v+1) from by omega]
   obtain ⟨t3,e3,h3⟩:=QT (iw:=3) (body:=exs T.pins (run T W n) W gG) (fun a t t2=>[.ow (.lst hs) true false,.ow (.lst a) false false,t,t2]) (cP hs) hs.length v acc hac (by omega)
    (fun a t d ht=>by simp only [jU,bM ht])
    (fun a w hvw hw hal=>by
     obtain ⟨d1,a1,g1,k1⟩:=jH hh hv;obtain ⟨d2,a2,g2,k2⟩:=jH hh hw;have hsm:aZ ((aG a).length+1)=true:=dR (by rw [gX]; omega);unfold gG cP;rw [g1,g2];clear hi hi2 hh hl hv hw hvw hal hac ht g1 g2;rcases k1 with rfl | ⟨i1,rfl⟩
     ·have e:uD .non=true:=rfl
      (have w0:=@List.length_map.{0,0}; walk_at "w"; try clear w0)
      all_goals (try simp only [List.append_nil])
     ·have e1:uD (.int i1)=false:=rfl;rcases k2 with rfl | ⟨i2,rfl⟩
      ·have e:uD .non=true:=rfl
       (have w0:=@List.length_map.{0,0}; walk_at "w"; try clear w0)
       all_goals (try simp only [List.append_nil])
      ·have e:uD (.int i2)=false:=rfl;have et:aG (a ++ [[(v:Int),(w:Int)]])=aG a ++ [.tup [.int (v:Int),.int (w:Int)]]:=by rw [z0]; rfl
       (have w0:=@List.length_map.{0,0}; walk_at "w"; try clear w0)) t ht
   refine ⟨t3, ?_,h3⟩;unfold gE;clear hi hh hl hv hac ht h3
   (have w0:=@List.length_map.{0,0}; walk_at "w"; try clear w0)) .un .un rfl rfl
 clear hl hh ht' ht2'
 (have w0:=@List.length_map.{0,0}; walk_at "w"; try clear w0)
noncomputable def eA (i:Int):Int:=if i<0 then -i else i
theorem jO {i:Int}:(if i<0 then -i else i)=eA i:=rfl
noncomputable def gx (xs:List Int) (i:Nat):Int:=xs.getD i 0
theorem tX {xs:List Int} {k:Nat} (h:k<xs.length):L2.cX (xs.map D.int) (k:Int)=some (.int (gx xs k)):=wJ h
theorem tD {xs:List Int} {k:Nat} (h:k<xs.length):gx xs k∈xs:=by
 unfold gx;rw [List.getD_eq_getElem?_getD,List.getElem?_eq_getElem h];simp
noncomputable def dQ (c:Bool):List (List Int):=if c=true then [[]] else []
theorem yO {c:Bool} {is:List Int} (h:is∈dQ c):is.length≤1000:=by
 cases c
 ·cases h
 ·rw [List.mem_singleton.mp h]; decide
theorem vR {c:Bool}:(dQ c).length≤1000:=by cases c <;> decide
noncomputable def lQ (mo:Int) (xs:List Int):Nat→Bool
 | 0=>false
 | b+1=>decide (mo<eA (gx xs (b+1) - gx xs b))
theorem EV {W n:Nat} {mo:Int} {h:D} {xs:List Int} {b:Nat} (hb:b<xs.length) :
  run T W (n+1) "Leap.broken" [.sh (.ins "Leap" ["most"] [.int mo]),.sh h,.ow (.lst (xs.map D.int)) true false,.sh (.int (b:Int))]=some (.ok (.ow (.lst (aG (dQ (lQ mo xs b))))),[.sh (.ins "Leap" ["most"] [.int mo]),.sh h,.ow (.lst (xs.map D.int)) true false,.sh (.int (b:Int))]):=by
 rw [bQ qP rfl rfl];unfold hW
 match b,hb with
 | 0,hb =>
  have e:aG (dQ (lQ mo xs 0))=[]:=rfl;have c:decide (0<((0:Nat):Int))=false:=rfl;clear hb
  (have w0:=@lB; have w1:=@List.length_map.{0,0}; have w2:=@jO; walk_at "w"; try clear w0 w1 w2)
 | b+1,hb =>
  have c:decide (0<((b+1:Nat):Int))=true:=decide_eq_true (by omega);have i1:((b+1:Nat):Int) - 1=((b:Nat):Int):=by omega
  have a0:=tX (xs:=xs) (k:=b) (by omega);have a1:=tX (xs:=xs) (k:=b+1) (by omega);have ev:lQ mo xs (b+1)=decide (mo<eA (gx xs (b+1) - gx xs b)):=rfl;clear hb;cases c1:decide (mo<eA (gx xs (b+1) - gx xs b))
  ·have e:aG (dQ (lQ mo xs (b+1)))=[]:=by rw [ev,c1]; rfl
   clear ev
   (have w0:=@lB; have w1:=@List.length_map.{0,0}; have w2:=@jO; walk_at "w"; try clear w0 w1 w2)
  ·have e:aG (dQ (lQ mo xs (b+1)))=[.tup []]:=by rw [ev,c1]; rfl
   clear ev
   (have w0:=@lB; have w1:=@List.length_map.{0,0}; have w2:=@jO; walk_at "w"; try clear w0 w1 w2)
noncomputable def vN (m:Nat) (xs:List Int) (b:Nat):List Int:=(xs.drop (b - m)).take m
noncomputable def fY (m:Nat) (xs:List Int) (b:Nat):Bool:=decide ((m:Int)≤(b:Int)) && (vN m xs b).all fun z=>decide (z=gx xs b)
theorem SO {xs:List Int} {m b e:Nat} (h:m≤b) (hb:b≤e) (he:e≤xs.length):slO (some (.lst (xs.map D.int))) (some (.int ((b:Int) - (m:Int)))) (some (.int (e:Int)))=some (.ow (.lst (((xs.drop (b - m)).take (m+(e - b))).map D.int))):=by
 have e1:(b:Int) - (m:Int)=((b - m:Nat):Int):=by omega
 show some (RV.ow (.lst (yW (xs.map D.int) (some ((b:Int) - (m:Int))) (some (e:Int)))))=_;rw [e1];unfold yW;rw [HT.E8,HT.E8,List.length_map,Nat.min_eq_left (by omega),Nat.min_eq_left (by omega),← List.map_drop,← List.map_take,show e - (b - m)=m+(e - b) from by omega]
theorem o4 {Z:List Int} {p:Int→Bool}:qH .all [.lst (Z.map fun z=>.bl (p z))]=some (.sh (.bl (Z.all p))):=by
 have h:gZ (Z.map fun z=>.bl (p z))=some (Z.map p):=by
  induction Z with
  | nil=>rfl
  | cons z Z ih=>simp [gZ,ih]
 show (gZ _).map _=_;rw [h];simp [List.all_map]
theorem CF {W n:Nat} {m:Nat} {h:D} {xs:List Int} {b:Nat} (hb:b<xs.length) (hm:m≤3) :
  run T W (n+1) "Again.broken" [.sh (.ins "Again" ["most"] [.int (m:Int)]),.sh h,.ow (.lst (xs.map D.int)) true false,.sh (.int (b:Int))]=some (.ok (.ow (.lst (aG (dQ (fY m xs b))))),[.sh (.ins "Again" ["most"] [.int (m:Int)]),.sh h,.ow (.lst (xs.map D.int)) true false,.sh (.int (b:Int))]):=by
 rw [bQ oY rfl rfl];unfold gP;by_cases c:(b:Int)<(m:Int)
 ·have c':decide ((b:Int)<(m:Int))=true:=decide_eq_true c
  have e:aG (dQ (fY m xs b))=[]:=by
   unfold fY;rw [decide_eq_false (by omega)];rfl
  clear c hb hm
  (have w0:=@eJ; have w1:=@o4; have w2:=@List.length_map.{0,0}; walk_at "w"; try clear w0 w1 w2)
 ·have c':decide ((b:Int)<(m:Int))=false:=decide_eq_false c;have hs:=SO (xs:=xs) (m:=m) (b:=b) (e:=b) (by omega) (Nat.le_refl _) (by omega);rw [Nat.sub_self,Nat.add_zero] at hs;have hZ:((xs.drop (b - m)).take m)=vN m xs b:=rfl;rw [hZ] at hs
  have hv:fY m xs b=(vN m xs b).all fun z=>decide (z=gx xs b):=by
   unfold fY;rw [decide_eq_true (by omega),Bool.true_and]
  have hzl:(vN m xs b).length≤3:=by unfold vN; rw [List.length_take]; omega
  have a0:=tX (xs:=xs) (k:=b) hb
  generalize vN m xs b=Z at *
  have hi:aI .of [.val (.ow (.lst (Z.map D.int)))] [.sh (.ins "Again" ["most"] [.int (m:Int)]),.sh h,.ow (.lst (xs.map D.int)) true false,.sh (.int (b:Int))]=some (Z.map D.int,none):=BD rfl
  obtain ⟨acc,ρi,e,⟨t4,rfl,ht4,rfl⟩,hz⟩:=gY (tests:=dC T.pins (run T W n) []) (elt:=ev T.pins (run T W n) false iK) (bind:=a8 true [3]) (ds:=Z.map D.int)
   (fun j acc ρ=>∃ (t4:Sl),ρ=[.sh (.int (b:Int)),.ow (.lst (xs.map D.int)) true false,.un,t4]∧bY t4=true∧acc=(Z.take j).map fun z=>.bl (decide (z=gx xs b)))
   (fun j d hd acc ρ hρ=>by
    obtain ⟨t4,rfl,ht4,rfl⟩:=hρ;obtain ⟨z,hz,rfl⟩:∃ z,Z[j]?=some z∧D.int z=d:=by simpa using hd
    refine ⟨_,true,_,by simp only [jU,bM ht4] <;> rfl,jB,fun _=>?_,fun z=>nomatch z⟩;refine ⟨.sh (.bl (decide (z=gx xs b))),[.sh (.int (b:Int)),.ow (.lst (xs.map D.int)) true false,.un,.sh (.int z)], ?_,_,rfl,rfl, ?_⟩
    ·unfold iK;clear hd hz hi ht4 hs hv hzl c c' hb hm hZ
     (have w0:=@eJ; have w1:=@o4; have w2:=@List.length_map.{0,0}; walk_at "w"; try clear w0 w1 w2)
    ·rw [List.take_succ,hz,List.map_append]
     rfl)
   [] [.sh (.int (b:Int)),.ow (.lst (xs.map D.int)) true false,.un,.un] ⟨_,rfl,rfl,rfl⟩
  have ht:Z.take (Z.map D.int).length=Z:=by
   rw [List.take_of_length_le];simp
  rw [ht] at e;have hsm:aZ (Z.map fun z=>D.bl (decide (z=gx xs b))).length=true:=dR (by simp; omega);have hsm2:aZ Z.length=true:=dR (by omega);clear hz ht4 ht c hb hm hzl hZ;cases c1:Z.all fun z=>decide (z=gx xs b)
  ·have e2:aG (dQ (fY m xs b))=[]:=by rw [hv,c1]; rfl
   clear hv
   (have w0:=@eJ; have w1:=@o4; have w2:=@List.length_map.{0,0}; walk_at "w"; try clear w0 w1 w2)
   rw [fC hi]
   (have w0:=@eJ; have w1:=@o4; have w2:=@List.length_map.{0,0}; walk_at "w"; try clear w0 w1 w2)
  ·have e2:aG (dQ (fY m xs b))=[.tup []]:=by rw [hv,c1]; rfl
   clear hv
   (have w0:=@eJ; have w1:=@o4; have w2:=@List.length_map.{0,0}; walk_at "w"; try clear w0 w1 w2)
   rw [fC hi]
   (have w0:=@eJ; have w1:=@o4; have w2:=@List.length_map.{0,0}; walk_at "w"; try clear w0 w1 w2)
theorem B9 {W n:Nat} {a:D}:run T W (n+1) "rule_of" [.sh (.tup [.str "leap",a])]=some (.ok (.sh (.ins "Leap" ["most"] [a])),[.sh (.tup [.str "leap",a])]):=by
 rw [bQ fF rfl rfl];unfold dH
 (have w0:=@mM; walk_at "w"; try clear w0)
theorem AS {W n:Nat} {a:D}:run T W (n+1) "rule_of" [.sh (.tup [.str "again",a])]=some (.ok (.sh (.ins "Again" ["most"] [a])),[.sh (.tup [.str "again",a])]):=by
 rw [bQ fF rfl rfl];unfold dH
 (have w0:=@mM; walk_at "w"; try clear w0)
noncomputable def iW (lp mo:Int) (xs:List Int):Nat→Bool
 | 0=>false
 | 1=>false
 | b+2=>decide (lp≤eA (gx xs (b+1) - gx xs b)) && !(decide ((gx xs (b+1) - gx xs b)*(gx xs (b+2) - gx xs (b+1))<0) && decide (eA (gx xs (b+2) - gx xs (b+1))≤mo))
theorem E6 {W n:Nat} {lp mo:Int} {h:D} {xs:List Int} {b:Nat} (hb:b<xs.length) (hx:∀ x∈xs,0≤x∧x<100) :
  run T W (n+1) "Back.broken" [.sh (.ins "Back" ["leap","most"] [.int lp,.int mo]),.sh h,.ow (.lst (xs.map D.int)) true false,.sh (.int (b:Int))]=some (.ok (.ow (.lst (aG (dQ (iW lp mo xs b))))),[.sh (.ins "Back" ["leap","most"] [.int lp,.int mo]),.sh h,.ow (.lst (xs.map D.int)) true false,.sh (.int (b:Int))]):=by
 rw [bQ rL rfl rfl];unfold iI
 match b,hb with
 | 0,hb =>
  have e:aG (dQ (iW lp mo xs 0))=[]:=rfl;have c:decide (((0:Nat):Int)<2)=true:=rfl;clear hx hb
  (have w0:=@eO; have w1:=@eQ; have w2:=@List.length_map.{0,0}; have w3:=@jO; walk_at "w"; try clear w0 w1 w2 w3)
 | 1,hb =>
  have e:aG (dQ (iW lp mo xs 1))=[]:=rfl;have c:decide (((1:Nat):Int)<2)=true:=rfl;clear hx hb
  (have w0:=@eO; have w1:=@eQ; have w2:=@List.length_map.{0,0}; have w3:=@jO; walk_at "w"; try clear w0 w1 w2 w3)
 | b+2,hb =>
  have c:decide (((b+2:Nat):Int)<2)=false:=decide_eq_false (by omega);have i1:((b+2:Nat):Int) - 1=((b+1:Nat):Int):=by omega
  have i2:((b+2:Nat):Int) - 2=((b:Nat):Int):=by omega
  have a0:=tX (xs:=xs) (k:=b) (by omega);have a1:=tX (xs:=xs) (k:=b+1) (by omega);have a2:=tX (xs:=xs) (k:=b+2) (by omega);have x0:=hx _ (tD (xs:=xs) (k:=b) (by omega));have x1:=hx _ (tD (xs:=xs) (k:=b+1) (by omega));have x2:=hx _ (tD (xs:=xs) (k:=b+2) (by omega));have ev:iW lp mo xs (b+2)=(decide (lp≤eA (gx xs (b+1) - gx xs b)) && !(decide ((gx xs (b+1) - gx xs b)*(gx xs (b+2) - gx xs (b+1))<0) && decide (eA (gx xs (b+2) - gx xs (b+1))≤mo))):=rfl
  generalize gx xs b=p0 at *
  generalize gx xs (b+1)=p1 at *
  generalize gx xs (b+2)=p2 at *
  have m1:-18446744073709551616<p1 - p0:=by omega
  have m2:p1 - p0<18446744073709551616:=by omega
  clear hx hb x0 x1 x2;by_cases c1:eA (p1 - p0)<lp
  ·have c1':decide (eA (p1 - p0)<lp)=true:=decide_eq_true c1;have c1'':decide (lp≤eA (p1 - p0))=false:=decide_eq_false (by omega);have e:aG (dQ (iW lp mo xs (b+2)))=[]:=by rw [ev,c1'']; rfl
   clear ev c1
   (have w0:=@eO; have w1:=@eQ; have w2:=@List.length_map.{0,0}; have w3:=@jO; walk_at "w"; try clear w0 w1 w2 w3)
  ·have c1':decide (eA (p1 - p0)<lp)=false:=decide_eq_false c1;have c1'':decide (lp≤eA (p1 - p0))=true:=decide_eq_true (by omega);by_cases c2:(p1 - p0)*(p2 - p1)<0
   ·have c2':decide ((p1 - p0)*(p2 - p1)<0)=true:=decide_eq_true c2;by_cases c3:eA (p2 - p1)≤mo
    ·have c3':decide (eA (p2 - p1)≤mo)=true:=decide_eq_true c3;have e:aG (dQ (iW lp mo xs (b+2)))=[]:=by rw [ev,c1'',c2',c3']; rfl
     clear ev c1 c2 c3
     (have w0:=@eO; have w1:=@eQ; have w2:=@List.length_map.{0,0}; have w3:=@jO; walk_at "w"; try clear w0 w1 w2 w3)
    ·have c3':decide (eA (p2 - p1)≤mo)=false:=decide_eq_false c3;have e:aG (dQ (iW lp mo xs (b+2)))=[.tup []]:=by rw [ev,c1'',c2',c3']; rfl
     clear ev c1 c2 c3
     (have w0:=@eO; have w1:=@eQ; have w2:=@List.length_map.{0,0}; have w3:=@jO; walk_at "w"; try clear w0 w1 w2 w3)
   ·have c2':decide ((p1 - p0)*(p2 - p1)<0)=false:=decide_eq_false c2;have e:aG (dQ (iW lp mo xs (b+2)))=[.tup []]:=by rw [ev,c1'',c2']; rfl
    clear ev c1 c2
    (have w0:=@eO; have w1:=@eQ; have w2:=@List.length_map.{0,0}; have w3:=@jO; walk_at "w"; try clear w0 w1 w2 w3)
theorem ED {W n:Nat} {a b:D}:run T W (n+1) "rule_of" [.sh (.tup [.str "back",a,b])]=some (.ok (.sh (.ins "Back" ["leap","most"] [a,b])),[.sh (.tup [.str "back",a,b])]):=by
 rw [bQ fF rfl rfl];unfold dH
 (have w0:=@mM; walk_at "w"; try clear w0)
theorem AW {W n:Nat} {a b:D}:run T W (n+1) "rule_of" [.sh (.tup [.str "range",a,b])]=some (.ok (.sh (.ins "Range" ["low","high"] [a,b])),[.sh (.tup [.str "range",a,b])]):=by
 rw [bQ fF rfl rfl];unfold dH
 (have w0:=@mM; walk_at "w"; try clear w0)
noncomputable def jI:D→D→Bool
 | .int i,.int j=>decide (i<j)
 | _,_=>false
noncomputable def twoD (c:Bool) (a b:Int):List (List Int):=if c=true then [[a,b]] else []
theorem twoD_in {c:Bool} {a b:Int} {is:List Int} (h:is∈twoD c a b):is.length≤1000:=by
 cases c
 ·cases h
 ·rw [List.mem_singleton.mp h]; simp
theorem twoD_len {c:Bool} {a b:Int}:(twoD c a b).length≤1000:=by cases c <;> simp [twoD]
noncomputable def nY (fs:List (Int × Int × Bool)) (xs:List Int) (b:Int) (v w:Nat):List (List Int):=twoD (jI ((aP fs xs b).getD v .non) ((aP fs xs b).getD w .non)) (v:Int) (w:Int)
theorem BZ {W n:Nat} {no ba oc:Int} {fs:List (Int × Int × Bool)} {rs:List D} {xs:List Int} {b:Int} {v w:Nat} (hv:v<fs.length+1) (hw:w<fs.length+1) :
  run T W (n+3) "Above.broken" [.sh (.ins "Above" ["one","other"] [.int (v:Int),.int (w:Int)]),.sh (aA no ba oc fs rs),.ow (.lst (xs.map D.int)) true false,.sh (.int b)]=some (.ok (.ow (.lst (aG (nY fs xs b v w)))),[.sh (.ins "Above" ["one","other"] [.int (v:Int),.int (w:Int)]),.sh (aA no ba oc fs rs),.ow (.lst (xs.map D.int)) true false,.sh (.int b)]):=by
 rw [bQ oR rfl rfl];unfold gI;obtain ⟨f,hf⟩:∃ f,(dP fs)[v]?=some f:=⟨_,List.getElem?_eq_getElem (by simp; omega)⟩
 obtain ⟨g,hg⟩:∃ g,(dP fs)[w]?=some g:=⟨_,List.getElem?_eq_getElem (by simp; omega)⟩
 have h1:=sX (W:=W) (n:=n) (no:=no) (ba:=ba) (oc:=oc) (rs:=rs) (xs:=xs) (b:=b) (p:=true) hf;have h2:=sX (W:=W) (n:=n) (no:=no) (ba:=ba) (oc:=oc) (rs:=rs) (xs:=xs) (b:=b) (p:=true) hg;unfold nY;rw [pD hf,pD hg];have k1:=nD (xs:=xs) (b:=b) (f:=f);have k2:=nD (xs:=xs) (b:=b) (f:=g)
 generalize cM xs b f=d1 at *
 generalize cM xs b g=d2 at *
 clear hf hg hv hw;rcases k1 with rfl | ⟨i,rfl⟩
 ·have e:aG (twoD (jI .non d2) (v:Int) (w:Int))=[]:=rfl
  (have w0:=@iY; have w1:=@gO; walk_at "w"; try clear w0 w1)
 ·rcases k2 with rfl | ⟨j,rfl⟩
  ·have e:aG (twoD (jI (.int i) .non) (v:Int) (w:Int))=[]:=rfl
   (have w0:=@iY; have w1:=@gO; walk_at "w"; try clear w0 w1)
  ·by_cases c:i<j
   ·have c':decide (j≤i)=false:=decide_eq_false (by omega)
    have e:aG (twoD (jI (.int i) (.int j)) (v:Int) (w:Int))=[.tup [.int (v:Int),.int (w:Int)]]:=by
     unfold jI;simp only;rw [decide_eq_true c];rfl
    clear c
    (have w0:=@iY; have w1:=@gO; walk_at "w"; try clear w0 w1)
   ·have c':decide (j≤i)=true:=decide_eq_true (by omega)
    have e:aG (twoD (jI (.int i) (.int j)) (v:Int) (w:Int))=[]:=by
     unfold jI;simp only;rw [decide_eq_false c];rfl
    clear c
    (have w0:=@iY; have w1:=@gO; walk_at "w"; try clear w0 w1)
theorem A5 {W n:Nat} {a b:D}:run T W (n+1) "rule_of" [.sh (.tup [.str "above",a,b])]=some (.ok (.sh (.ins "Above" ["one","other"] [a,b])),[.sh (.tup [.str "above",a,b])]):=by
 rw [bQ fF rfl rfl];unfold dH
 (have w0:=@mM; walk_at "w"; try clear w0)
theorem KI {α β:Type} (L:List α) (d:α) (f:α→Bool) (g:α→β):((List.range L.length).filter fun j=>f (L.getD j d)).map (fun j=>g (L.getD j d))=(L.filter f).map g:=by
 have h:L=(List.range L.length).map fun j=>L.getD j d:=by
  apply List.ext_getElem?
  intro i;rw [List.getElem?_map];by_cases hi:i<L.length
  ·rw [List.getElem?_range hi,List.getElem?_eq_getElem hi];simp [hi]
  ·rw [List.getElem?_eq_none (by omega),List.getElem?_eq_none (by simp; omega)];rfl
 have h2:(L.filter f).map g=(((List.range L.length).map fun j=>L.getD j d).filter f).map g:=congrArg (fun l=>(l.filter f).map g) h;rw [h2,List.filter_map,List.map_map];rfl
theorem QX {n m v:Nat} {P Q:Nat→Nat→Bool} {R:List Int→Bool} (hR:∀ w:Nat,R [(v:Int),(w:Int)]=Q v w):(eY m v P).filter R=eY m v fun v w=>P v w && Q v w:=by
 unfold eY;rw [List.filter_map,List.filter_filter];congr 1
 apply List.filter_congr
 intro j _;simp only [Function.comp,hR,Bool.and_comm]
theorem wR {n:Nat} {P Q:Nat→Nat→Bool} {R:List Int→Bool} (hR:∀ v w:Nat,R [(v:Int),(w:Int)]=Q v w):(cZ n P).filter R=cZ n fun v w=>P v w && Q v w:=by
 unfold cZ;rw [List.filter_flatMap];congr 1
 funext v
 exact QX (n:=n) (hR v)
noncomputable def kW:D→Int
 | .int i=>i
 | _=>0
noncomputable def cY (oc a b:Int):Int:=eA (a - b) % oc
theorem eE {W n:Nat} {oc a b:Int} (ho:0<oc):run T W (n+1) "span" [.sh (.int oc),.sh (.int a),.sh (.int b)]=some (.ok (.sh (.int (cY oc a b))),[.sh (.int oc),.sh (.int a),.sh (.int b)]):=by
 rw [bQ MB rfl rfl];unfold tZ cY
 (have w0:=@jO; walk_at "w"; try clear w0)
noncomputable def mW (sp s:Int):Bool:=decide (sp / 2 ^ s.toNat % 2=0)
theorem U1 {sp s:Int} (h:0≤sp):decide (PySem.Builtin.bitAnd (sp / 2 ^ s.toNat) 1=0)=mW sp s:=by
 have hq:0≤sp / 2 ^ s.toNat:=Int.ediv_nonneg h (by exact Int.le_of_lt (Int.pow_pos (by decide)));unfold mW;rw [PyProof.Rows.bitAnd_pp hq (by decide)];have e1:(1:Int).toNat=1:=rfl;rw [e1,Nat.and_one_is_mod];have e2:(((sp / 2 ^ s.toNat).toNat % 2:Nat):Int)=sp / 2 ^ s.toNat % 2:=by omega
 rw [e2]
theorem CB {W n:Nat} {be sp s:Int} (h:0≤sp) (hs:0≤s):run T W (n+1) "Span.forbids" [.sh (.ins "Span" ["beat","spans"] [.int be,.int sp]),.sh (.int s)]=some (.ok (.sh (.bl (mW sp s))),[.sh (.ins "Span" ["beat","spans"] [.int be,.int sp]),.sh (.int s)]):=by
 rw [bQ oG rfl rfl];unfold gL;have e:=U1 (s:=s) h
 (have w0:=@eP; have w1:=@eG; have w2:=@jO; walk_at "w"; try clear w0 w1 w2)
noncomputable def yR (oc sp:Int) (hs:List D) (v w:Nat):Bool:=mW sp (cY oc (kW (hs.getD v .non)) (kW (hs.getD w .non)))
noncomputable def jG (oc sp:Int) (hs:List D):List Int→Bool
 | [v,w]=>mW sp (cY oc (kW (hs.getD v.toNat .non)) (kW (hs.getD w.toNat .non)))
 | _=>false
noncomputable def fQ (be sp ba oc:Int) (fs:List (Int × Int × Bool)) (xs:List Int) (b:Int):List (List Int):=if b % ba=be then cZ (fs.length+1) (fun v w=>cP (aP fs xs b) v w && yR oc sp (aP fs xs b) v w) else []
theorem zW {n:Nat} {P:Nat→Nat→Bool} {is:List Int} (h:is∈cZ n P):∃ v w:Nat,is=[(v:Int),(w:Int)]∧v<n∧w<n∧v<w∧P v w=true:=by
 obtain ⟨v,hv,h⟩:=List.mem_flatMap.mp h;have hv:=List.mem_range.mp hv;obtain ⟨j,hj,rfl⟩:=List.mem_map.mp h;obtain ⟨hj,hp⟩:=List.mem_filter.mp hj;have hj:=List.mem_range.mp hj;exact ⟨v,v+1+j,rfl,hv,by omega,by omega,hp⟩
theorem ET {W n:Nat} {be sp no ba oc:Int} {fs:List (Int × Int × Bool)} {rs:List D} {xs:List Int} {b:Int} (hl:fs.length≤20) (hsp:0≤sp) (hba:0<ba) (hoc:0<oc) :
  run T W (n+4) "Span.broken" [.sh (.ins "Span" ["beat","spans"] [.int be,.int sp]),.sh (aA no ba oc fs rs),.ow (.lst (xs.map D.int)) true false,.sh (.int b)]=some (.ok (.ow (.lst (aG (fQ be sp ba oc fs xs b)))),[.sh (.ins "Span" ["beat","spans"] [.int be,.int sp]),.sh (aA no ba oc fs rs),.ow (.lst (xs.map D.int)) true false,.sh (.int b)]):=by
 rw [bQ qR rfl rfl];unfold iE;have hx1:gT (some (aA no ba oc fs rs)) (.int 1)=some (.sh (.int ba)):=rfl;have hx2:gT (some (aA no ba oc fs rs)) (.int 2)=some (.sh (.int oc)):=rfl;by_cases c:b % ba=be
 ·have c':decide (b % ba=be)=true:=decide_eq_true c;have hc:run T W (n+3) "chord" _=some (.ok (.ow (.lst (aP fs xs b))),_):=lP (W:=W) (n:=n) (no:=no) (ba:=ba) (oc:=oc) (fs:=fs) (rs:=rs) (xs:=xs) (b:=b) (by omega);have hhr:=fG (fs:=fs) (xs:=xs) (b:=b);have hln:=gR (fs:=fs) (xs:=xs) (b:=b);have hso:=rF (W:=W) (n:=n+2) hhr (by omega);rw [hln] at hso
  have hB:fQ be sp ba oc fs xs b=(cZ (fs.length+1) (cP (aP fs xs b))).filter (jG oc sp (aP fs xs b)):=by
   unfold fQ;rw [if_pos c,wR (Q:=yR oc sp (aP fs xs b))];intro v w;rfl
  generalize aP fs xs b=hs at *
  obtain ⟨L,hL⟩:∃ L,L=cZ (fs.length+1) (cP hs):=⟨_,rfl⟩
  have hLm:∀ is∈L,∃ v w:Nat,is=[(v:Int),(w:Int)]∧v<hs.length∧w<hs.length∧cP hs v w=true:=fun is his=>by
   rw [hL] at his;obtain ⟨v,w,h1,h2,h3,_,h4⟩:=zW his;exact ⟨v,w,h1,by omega,by omega,h4⟩
  have hLl:L.length≤1000:=by rw [hL]; exact lW (by omega)
  rw [← hL] at hso hB;have hi2:aI .of [.val (.ow (.lst (aG L)))] [.sh (.ins "Span" ["beat","spans"] [.int be,.int sp]),.sh (aA no ba oc fs rs),.ow (.lst (xs.map D.int)) true false,.sh (.int b),.sh (.int oc),.ow (.lst hs) false false]=some (aG L,none):=BD rfl
  obtain ⟨ρi,e,t4,t5,rfl,ht4,ht5⟩:=BR (tests:=dC T.pins (run T W (n+3)) [.meth 2 "forbids" eU [.call "span" [.var 1,.ix (.var 0) (.var 4),.ix (.var 0) (.var 5)]]]) (elt:=ev T.pins (run T W (n+3)) false i8) (bind:=a8 false [4,5]) (ds:=aG L)
   (fun j=>jG oc sp hs (L.getD j [])) (fun j=>.tup ((L.getD j []).map D.int))
   (fun ρ=>∃ (t4 t5:Sl),ρ=[.ow (.lst hs) true false,.sh (.int oc),.sh (.ins "Span" ["beat","spans"] [.int be,.int sp]),.un,t4,t5]∧bY t4=true∧bY t5=true)
   (fun j d hd ρ hρ=>by
    obtain ⟨t4,t5,rfl,ht4,ht5⟩:=hρ
    have hj:j<L.length:=by
     have:=(List.getElem?_eq_some_iff.mp hd).1
     rwa [gX] at this
    have hg:=List.getElem?_eq_getElem hj
    have hd2:d=.tup (L[j].map D.int):=by
     unfold aG at hd;rw [List.getElem?_map,hg] at hd;exact (Option.some.inj hd).symm
    have hgd:L.getD j []=L[j]:=by rw [List.getD_eq_getElem?_getD,hg]; rfl
    obtain ⟨v,w,h1,hv,hw,hso⟩:=hLm L[j] (List.getElem_mem hj);rw [h1] at hd2 hgd;subst hd2;obtain ⟨d1,a1,g1,k1⟩:=jH hhr hv;obtain ⟨d2,a2,g2,k2⟩:=jH hhr hw;unfold cP at hso;rw [g1,g2,Bool.and_eq_true] at hso
    obtain ⟨i1,rfl⟩:∃ i,d1=.int i:=by
     rcases k1 with rfl | k1
     ·exact absurd hso.1 (by decide)
     ·exact k1
    obtain ⟨i2,rfl⟩:∃ i,d2=.int i:=by
     rcases k2 with rfl | k2
     ·exact absurd hso.2 (by decide)
     ·exact k2
    have hs0:0≤cY oc i1 i2:=Int.emod_nonneg _ (by omega);have hfb:=CB (W:=W) (n:=n+2) (be:=be) hsp hs0
    have hbad:jG oc sp hs [(v:Int),(w:Int)]=mW sp (cY oc i1 i2):=by
     unfold jG;simp only [Int.toNat_natCast,g1,g2];rfl
    refine ⟨_,[.ow (.lst hs) true false,.sh (.int oc),.sh (.ins "Span" ["beat","spans"] [.int be,.int sp]),.un,.sh (.int (v:Int)),.sh (.int (w:Int))],by simp only [List.map_cons,List.map_nil,jU,bM ht4,bM ht5] <;> rfl, ?_,fun _=>?_,fun _=>?_⟩
    ·simp only [hgd,hbad];clear hd hj hg hgd hbad h1 hv hw hso hLm hLl hi2 hB hL hc hhr hln k1 k2 g1 g2 ht4 ht5 hl hsp hba c hs0
     (have w0:=@eV; have w1:=@eE; have w2:=@eP; have w3:=@eG; walk_at "w"; try clear w0 w1 w2 w3)
    ·refine ⟨.sh (.tup [.int (v:Int),.int (w:Int)]),[.ow (.lst hs) true false,.sh (.int oc),.sh (.ins "Span" ["beat","spans"] [.int be,.int sp]),.un,.sh (.int (v:Int)),.sh (.int (w:Int))], ?_,by rw [hgd]; rfl,_,_,rfl,rfl,rfl⟩;unfold i8;clear hd hj hg hgd hbad h1 hv hw hso hLm hLl hi2 hB hL hc hhr hln k1 k2 g1 g2 ht4 ht5 hl hsp hba c hs0 hfb a1 a2
     (have w0:=@eV; have w1:=@eE; have w2:=@eP; have w3:=@eG; walk_at "w"; try clear w0 w1 w2 w3)
    ·exact ⟨_,_,rfl,rfl,rfl⟩)
   [.ow (.lst hs) true false,.sh (.int oc),.sh (.ins "Span" ["beat","spans"] [.int be,.int sp]),.un,.un,.un] ⟨_,_,rfl,rfl,rfl⟩
  rw [gX,KI L [] (jG oc sp hs) (fun is=>D.tup (is.map D.int))] at e;have hB2:(L.filter (jG oc sp hs)).map (fun is=>D.tup (is.map D.int))=aG (fQ be sp ba oc fs xs b):=by rw [hB]; rfl
  rw [hB2] at e
  have hsm:aZ (aG (fQ be sp ba oc fs xs b)).length=true:=dR (by
   rw [gX,hB]
   have:=List.length_filter_le (jG oc sp hs) L
   omega)
  clear hl ht4 ht5 hB hB2 hLm hLl hL hhr hln hsp c
  (have w0:=@eV; have w1:=@eE; have w2:=@eP; have w3:=@eG; walk_at "w"; try clear w0 w1 w2 w3)
  rw [fC hi2]
  (have w0:=@eV; have w1:=@eE; have w2:=@eP; have w3:=@eG; walk_at "w"; try clear w0 w1 w2 w3)
 ·have c':decide (b % ba=be)=false:=decide_eq_false c;have e:fQ be sp ba oc fs xs b=[]:=if_neg c;have e2:aG []=[]:=rfl;clear c hl
  (have w0:=@eV; have w1:=@eE; have w2:=@eP; have w3:=@eG; walk_at "w"; try clear w0 w1 w2 w3)
theorem CD {W n:Nat} {a b:D}:run T W (n+1) "rule_of" [.sh (.tup [.str "span",a,b])]=some (.ok (.sh (.ins "Span" ["beat","spans"] [a,b])),[.sh (.tup [.str "span",a,b])]):=by
 rw [bQ fF rfl rfl];unfold dH
 (have w0:=@mM; walk_at "w"; try clear w0)
theorem QH {be sp ba oc:Int} {fs:List (Int × Int × Bool)} {xs:List Int} {b:Int} {is:List Int} (h:is∈fQ be sp ba oc fs xs b):is.length≤1000:=by
 unfold fQ at h;split at h
 ·exact AA h
 ·cases h
theorem LX {be sp ba oc:Int} {fs:List (Int × Int × Bool)} {xs:List Int} {b:Int} (hl:fs.length≤20):(fQ be sp ba oc fs xs b).length≤1000:=by
 unfold fQ;split
 ·exact lW (by omega)
 ·simp
theorem KH {body:Env→bN} {iv iw:Nat} (E:List D→Sl→Sl→Env) (R:List Int→Bool) (L:List (List Int)) (hL:L.length≤1000)
  (hb:∀ (a:List D) (t t2 d d2:_),bY t=true→bY t2=true→a8 false [iv,iw] (.tup [d,d2]) (E a t t2)=some (E a (.sh d) (.sh d2)))
  (hp:∀ is∈L,∃ v w:Nat,is=[(v:Int),(w:Int)])
  (hs:∀ (a:List (List Int)) (v w:Nat),[(v:Int),(w:Int)]∈L→a.length≤2000→body (E (aG a) (.sh (.int (v:Int))) (.sh (.int (w:Int))))=some (.nx,E (aG (a ++ (if R [(v:Int),(w:Int)]=true then [[(v:Int),(w:Int)]] else []))) (.sh (.int (v:Int))) (.sh (.int (w:Int))))) (t t2:Sl) (ht:bY t=true) (ht2:bY t2=true) :
  ∃ t' t2',cQ (a8 false [iv,iw]) body (aG L) (E [] t t2)=some (.nx,E (aG (L.filter R)) t' t2')∧bY t'=true∧bY t2'=true:=by
 have key:∀ (M:List (List Int)) (acc:List (List Int)) (t t2:Sl),(∀ is∈M,is∈L)→acc.length+M.length≤2000→bY t=true→bY t2=true→∃ t' t2',cQ (a8 false [iv,iw]) body (aG M) (E (aG acc) t t2)=some (.nx,E (aG (acc ++ M.filter R)) t' t2')∧bY t'=true∧bY t2'=true:=by
  intro M
  induction M with
  | nil=>intro acc t t2 _ _ h1 h2; exact ⟨t,t2,by simp [aG,cQ],h1,h2⟩
  | cons is M ih =>
   intro acc t t2 hM hl h1 h2;obtain ⟨v,w,rfl⟩:=hp is (hM is (by simp));have e1:aG ([(v:Int),(w:Int)] :: M)=.tup [.int (v:Int),.int (w:Int)] :: aG M:=rfl;have hl':acc.length+M.length+1≤2000:=by simpa [Nat.add_assoc] using hl
   rw [e1];simp only [cQ,hb _ _ _ _ _ h1 h2,hs acc v w (hM _ (by simp)) (by omega)]
   obtain ⟨t',t2',e,h3,h4⟩:=ih (acc ++ (if R [(v:Int),(w:Int)]=true then [[(v:Int),(w:Int)]] else [])) (.sh (.int (v:Int))) (.sh (.int (w:Int))) (fun is h=>hM is (List.mem_cons_of_mem _ h)) (by
    rw [List.length_append];split
    ·simp only [List.length_cons,List.length_nil]; omega
    ·simp only [List.length_nil]; omega) rfl rfl
   refine ⟨t',t2', ?_,h3,h4⟩;rw [e,List.filter_cons];by_cases q:R [(v:Int),(w:Int)]=true
   ·simp [q]
   ·simp [q]
 obtain ⟨t',t2',e,h⟩:=key L [] t t2 (fun _ h=>h) (by simp; omega) ht ht2;exact ⟨t',t2',by simpa [aG] using e,h⟩
def RT (x:PySem.Str):Prop:=x="like"∨x="against"∨x="aside"∨x="any"
noncomputable def lS (x:PySem.Str) (a b:Int):Bool:=if x == ("like":PySem.Str) then decide (0<a*b) else if x == ("against":PySem.Str) then decide (a*b<0) else if x == ("aside":PySem.Str) then !(decide (a=0) == decide (b=0)) else true
theorem G6:((PySem.Str.ofString "against") == (PySem.Str.ofString "like"))=false:=by decide +kernel
theorem JW:((PySem.Str.ofString "aside") == (PySem.Str.ofString "like"))=false:=by decide +kernel
theorem HM:((PySem.Str.ofString "any") == (PySem.Str.ofString "like"))=false:=by decide +kernel
theorem JM:((PySem.Str.ofString "aside") == (PySem.Str.ofString "against"))=false:=by decide +kernel
theorem JG:((PySem.Str.ofString "any") == (PySem.Str.ofString "against"))=false:=by decide +kernel
theorem IV:((PySem.Str.ofString "any") == (PySem.Str.ofString "aside"))=false:=by decide +kernel
theorem IK:((PySem.Str.ofString "like") == (PySem.Str.ofString "any"))=false:=by decide +kernel
theorem ID:((PySem.Str.ofString "like") == (PySem.Str.ofString "aside"))=false:=by decide +kernel
theorem HY:((PySem.Str.ofString "against") == (PySem.Str.ofString "any"))=false:=by decide +kernel
theorem BH:((PySem.Str.ofString "against") == (PySem.Str.ofString "aside"))=false:=by decide +kernel
theorem BG:((PySem.Str.ofString "aside") == (PySem.Str.ofString "any"))=false:=by decide +kernel
theorem K9 {W n:Nat} {x:PySem.Str} {a b:Int} (hx:RT x) (h1:-18446744073709551616<a) (h2:a<18446744073709551616):run T W (n+1) "move_so" [.sh (.str x),.sh (.int a),.sh (.int b)]=some (.ok (.sh (.bl (lS x a b))),[.sh (.str x),.sh (.int a),.sh (.int b)]):=by
 rw [bQ zT rfl rfl];unfold lX lS;rcases hx with rfl | rfl | rfl | rfl
 ·(have w0:=@G6; have w1:=@JW; have w2:=@HM; have w3:=@JM; have w4:=@JG; have w5:=@IV; have w6:=@IK; have w7:=@ID; have w8:=@HY; have w9:=@BH; have w10:=@BG; have w11:=@Bool.or_false; have w12:=@Bool.false_or; have w13:=@Bool.or_true; have w14:=@Bool.true_or; walk_at "w"; try clear w0 w1 w2 w3 w4 w5 w6 w7 w8 w9 w10 w11 w12 w13 w14)
 ·(have w0:=@G6; have w1:=@JW; have w2:=@HM; have w3:=@JM; have w4:=@JG; have w5:=@IV; have w6:=@IK; have w7:=@ID; have w8:=@HY; have w9:=@BH; have w10:=@BG; have w11:=@Bool.or_false; have w12:=@Bool.false_or; have w13:=@Bool.or_true; have w14:=@Bool.true_or; walk_at "w"; try clear w0 w1 w2 w3 w4 w5 w6 w7 w8 w9 w10 w11 w12 w13 w14)
 ·(have w0:=@G6; have w1:=@JW; have w2:=@HM; have w3:=@JM; have w4:=@JG; have w5:=@IV; have w6:=@IK; have w7:=@ID; have w8:=@HY; have w9:=@BH; have w10:=@BG; have w11:=@Bool.or_false; have w12:=@Bool.false_or; have w13:=@Bool.or_true; have w14:=@Bool.true_or; walk_at "w"; try clear w0 w1 w2 w3 w4 w5 w6 w7 w8 w9 w10 w11 w12 w13 w14)
 ·(have w0:=@G6; have w1:=@JW; have w2:=@HM; have w3:=@JM; have w4:=@JG; have w5:=@IV; have w6:=@IK; have w7:=@ID; have w8:=@HY; have w9:=@BH; have w10:=@BG; have w11:=@Bool.or_false; have w12:=@Bool.false_or; have w13:=@Bool.or_true; have w14:=@Bool.true_or; walk_at "w"; try clear w0 w1 w2 w3 w4 w5 w6 w7 w8 w9 w10 w11 w12 w13 w14)
noncomputable def sS (one other oc:Int) (x:PySem.Str) (ah hs:List D) (v w:Nat):Bool :=
 decide (cY oc (kW (ah.getD v .non)) (kW (ah.getD w .non))=one) && decide (cY oc (kW (hs.getD v .non)) (kW (hs.getD w .non))=other) && lS x (kW (hs.getD v .non) - kW (ah.getD v .non)) (kW (hs.getD w .non) - kW (ah.getD w .non))
noncomputable def xQ (one other oc:Int) (x:PySem.Str) (ah hs:List D):List Int→Bool
 | [v,w]=>sS one other oc x ah hs v.toNat w.toNat
 | _=>false
noncomputable def kS (one other oc:Int) (x:PySem.Str) (fs:List (Int × Int × Bool)) (xs:List Int) (b:Int):List (List Int):=cZ (fs.length+1) (fun v w=>cP (aP fs xs (b - 1)) v w && sS one other oc x (aP fs xs (b - 1)) (aP fs xs b) v w)
theorem sH {n:Nat} {P Q:Nat→Nat→Bool} (h:∀ v w,v<w→w<n→P v w=Q v w):cZ n P=cZ n Q:=by
 unfold cZ;congr 1
 funext v
 unfold eY;congr 1
 apply List.filter_congr
 intro j hj;have hj:=List.mem_range.mp hj;exact h v (v+1+j) (by omega) (by omega)
structure HrOk (hs ah:List D):Prop where
 h1:FC hs
 h2:FC ah
 len:ah.length=hs.length
 bd:∀ v i,hs.getD v .non=.int i→-100≤i∧i≤100
 bd2:∀ v i,ah.getD v .non=.int i→-100≤i∧i≤100
 on:∀ v,uD (ah.getD v .non)=false→uD (hs.getD v .non)=false
theorem pI {fs:List (Int × Int × Bool)} {xs:List Int} {b:Int} {v:Nat}:(∃ f∈dP fs,∀ b:Int,(aP fs xs b).getD v .non=cM xs b f)∨∀ b:Int,(aP fs xs b).getD v .non=.non:=by
 cases h:(dP fs)[v]? with
 | some f=>exact .inl ⟨f,List.mem_of_getElem? h,fun b=>pD h⟩
 | none =>
  refine .inr fun b=>?_
  unfold aP;rw [List.getD_eq_getElem?_getD,List.getElem?_map,h];rfl
theorem RE {no ba oc:Int} {fs:List (Int × Int × Bool)} {xs:List Int} {b:Nat} (ho:HouseOk no ba oc fs) (hxs:∀ x∈xs,0≤x∧x<no) (hb:b<xs.length):HrOk (aP fs xs (b:Int)) (aP fs xs ((b:Int) - 1)):=by
 have n2:=ho.n2
 have hv:∀ f∈dP fs,0≤f.1∧-12≤f.2.1∧f.2.1≤12:=fun f hf=>by
  rcases List.mem_cons.mp hf with rfl | hf
  ·decide
  ·have:=ho.f f hf
   omega
 have bd:∀ (c:Int) v i,(aP fs xs c).getD v .non=.int i→-100≤i∧i≤100:=fun c v i h=>by
  rcases pI (fs:=fs) (xs:=xs) (b:=c) (v:=v) with ⟨f,hf,e⟩ | e
  ·rw [e c] at h;unfold cM at h;split at h
   ·rename_i hc;have h:=D.int.inj h
    have hx:xs.getD (c - f.1).toNat 0∈xs:=by
     have hlt:(c - f.1).toNat<xs.length:=by omega
     exact tD (k:=(c - f.1).toNat) hlt
    have:=hxs _ hx
    have:=hv f hf
    split at h <;> omega
   ·cases h
  ·rw [e c] at h; cases h
 refine ⟨fG,fG,by rw [gR,gR],bd _,bd _,fun v h=>?_⟩;rcases pI (fs:=fs) (xs:=xs) (b:=(b:Int)) (v:=v) with ⟨f,hf,e⟩ | e
 ·rw [e] at h ⊢;unfold cM at h ⊢;split at h
  ·rename_i hc
   have:=hv f hf
   rw [if_pos (by omega)];rfl
  ·cases h
 ·rw [e] at h; cases h
theorem GX {hs ah:List D} (H:HrOk hs ah) {v w:Nat} (hv:v<hs.length) (hw:w<hs.length) (h:cP ah v w=true):∃ i1 i2 j1 j2:Int,L2.cX ah (v:Int)=some (.int i1)∧L2.cX ah (w:Int)=some (.int i2)∧L2.cX hs (v:Int)=some (.int j1)∧L2.cX hs (w:Int)=some (.int j2)∧ah.getD v .non=.int i1∧ah.getD w .non=.int i2∧hs.getD v .non=.int j1∧hs.getD w .non=.int j2∧(-100≤i1∧i1≤100)∧(-100≤j1∧j1≤100):=by
 unfold cP at h;rw [Bool.and_eq_true] at h;obtain ⟨d1,a1,g1,k1⟩:=jH H.h2 (v:=v) (by rw [H.len]; exact hv);obtain ⟨d2,a2,g2,k2⟩:=jH H.h2 (v:=w) (by rw [H.len]; exact hw);obtain ⟨d3,a3,g3,k3⟩:=jH H.h1 hv;obtain ⟨d4,a4,g4,k4⟩:=jH H.h1 hw;have o1:=H.on v (by simpa using h.1);have o2:=H.on w (by simpa using h.2);rw [g1,g2] at h;rw [g3] at o1;rw [g4] at o2;rcases k1 with rfl | ⟨i1,rfl⟩
 ·exact absurd h.1 (by decide)
 rcases k2 with rfl | ⟨i2,rfl⟩
 ·exact absurd h.2 (by decide)
 rcases k3 with rfl | ⟨j1,rfl⟩
 ·exact absurd o1 (by decide)
 rcases k4 with rfl | ⟨j2,rfl⟩
 ·exact absurd o2 (by decide)
 exact ⟨i1,i2,j1,j2,a1,a2,a3,a4,g1,g2,g3,g4,H.bd2 v i1 g1,H.bd v j1 g3⟩
theorem DS {W n:Nat} {one other no ba oc:Int} {x:PySem.Str} {fs:List (Int × Int × Bool)} {rs:List D} {xs:List Int} {b:Int} (hl:fs.length≤20) (hoc:0<oc) (hx:RT x) (H:HrOk (aP fs xs b) (aP fs xs (b - 1))) :
  run T W (n+4) "Never.broken" [.sh (.ins "Never" ["one","other","way"] [.int one,.int other,.str x]),.sh (aA no ba oc fs rs),.ow (.lst (xs.map D.int)) true false,.sh (.int b)]=some (.ok (.ow (.lst (aG (kS one other oc x fs xs b)))),[.sh (.ins "Never" ["one","other","way"] [.int one,.int other,.str x]),.sh (aA no ba oc fs rs),.ow (.lst (xs.map D.int)) true false,.sh (.int b)]):=by
 rw [bQ oB rfl rfl];unfold gJ;have hx2:gT (some (aA no ba oc fs rs)) (.int 2)=some (.sh (.int oc)):=rfl;have hc1:run T W (n+3) "chord" _=some (.ok (.ow (.lst (aP fs xs (b - 1)))),_):=lP (W:=W) (n:=n) (no:=no) (ba:=ba) (oc:=oc) (fs:=fs) (rs:=rs) (xs:=xs) (b:=b - 1) (by omega);have hc2:run T W (n+3) "chord" _=some (.ok (.ow (.lst (aP fs xs b))),_):=lP (W:=W) (n:=n) (no:=no) (ba:=ba) (oc:=oc) (fs:=fs) (rs:=rs) (xs:=xs) (b:=b) (by omega);have hln:=gR (fs:=fs) (xs:=xs) (b:=b - 1);have hln2:=gR (fs:=fs) (xs:=xs) (b:=b);have hso:=rF (W:=W) (n:=n+2) H.h2 (by omega);rw [hln] at hso
 have hB:kS one other oc x fs xs b=(cZ (fs.length+1) (cP (aP fs xs (b - 1)))).filter (xQ one other oc x (aP fs xs (b - 1)) (aP fs xs b)):=by
  unfold kS;rw [wR (Q:=sS one other oc x (aP fs xs (b - 1)) (aP fs xs b))];intro v w;rfl
 generalize aP fs xs b=hs at *
 generalize aP fs xs (b - 1)=ah at *
 obtain ⟨L,hL⟩:∃ L,L=cZ (fs.length+1) (cP ah):=⟨_,rfl⟩
 have hLm:∀ is∈L,∃ v w:Nat,is=[(v:Int),(w:Int)]∧v<hs.length∧w<hs.length∧cP ah v w=true:=fun is his=>by
  rw [hL] at his;obtain ⟨v,w,h1,h2,h3,_,h4⟩:=zW his;exact ⟨v,w,h1,by omega,by omega,h4⟩
 have hLl:L.length≤1000:=by rw [hL]; exact lW (by omega)
 rw [← hL] at hso hB;have hi2:aI .of [.val (.ow (.lst (aG L)))] [.sh (.ins "Never" ["one","other","way"] [.int one,.int other,.str x]),.sh (aA no ba oc fs rs),.ow (.lst (xs.map D.int)) true false,.sh (.int b),.sh (.int oc),.ow (.lst ah) false false,.ow (.lst hs) false false,.ow (.lst []) false false,.un,.un]=some (aG L,none):=BD rfl
 obtain ⟨t8,t9,e,h8,h9⟩:=KH (iv:=8) (iw:=9) (body:=exs T.pins (run T W (n+3)) W iL) (fun a t t2=>[.sh (.ins "Never" ["one","other","way"] [.int one,.int other,.str x]),.sh (aA no ba oc fs rs),.ow (.lst (xs.map D.int)) true false,.sh (.int b),.sh (.int oc),.ow (.lst ah) false false,.ow (.lst hs) false false,.ow (.lst a) false false,t,t2]) (xQ one other oc x ah hs) L hLl
  (fun a t t2 d d2 ht ht2=>by simp only [jU,bM ht,bM ht2])
  (fun is his=>by obtain ⟨v,w,h,_⟩:=hLm is his; exact ⟨v,w,h⟩)
  (fun a v w hm hal=>by
   obtain ⟨v',w',h1,hv,hw,hso2⟩:=hLm _ hm;have hvv:v'=v:=by have:=(List.cons.inj h1).1; omega
   have hww:w'=w:=by have:=(List.cons.inj (List.cons.inj h1).2).1; omega
   subst hvv hww;obtain ⟨i1,i2,j1,j2,a1,a2,a3,a4,g1,g2,g3,g4,q1,q2⟩:=GX H hv hw hso2;have hsm:aZ ((aG a).length+1)=true:=dR (by rw [gX]; omega);have et:aG (a ++ [[(v':Int),(w':Int)]])=aG a ++ [.tup [.int (v':Int),.int (w':Int)]]:=by rw [z0]; rfl
   have en:xQ one other oc x ah hs [(v':Int),(w':Int)]=(decide (cY oc i1 i2=one) && decide (cY oc j1 j2=other) && lS x (j1 - i1) (j2 - i2)):=by
    unfold xQ sS;simp only [Int.toNat_natCast,g1,g2,g3,g4];rfl
   have hmv:=K9 (W:=W) (n:=n+2) (a:=j1 - i1) (b:=j2 - i2) hx (by omega) (by omega);rw [en];unfold iL;clear h1 hv hw hso2 hm hal hLm hLl hi2 hB hL hso hc1 hc2 hln hln2 H g1 g2 g3 g4 q1 q2 hl en hx;by_cases c1:cY oc i1 i2=one
   ·have c1':decide (cY oc i1 i2=one)=true:=decide_eq_true c1;by_cases c2:cY oc j1 j2=other
    ·have c2':decide (cY oc j1 j2=other)=true:=decide_eq_true c2;rw [c1',c2',Bool.true_and,Bool.true_and]
     generalize lS x (j1 - i1) (j2 - i2)=q at *
     clear c1 c2;cases q
     ·(have w0:=@fW; have w1:=@eX; have w2:=@fV; have w3:=@eE; walk_at "w"; try clear w0 w1 w2 w3)
      all_goals (try simp only [List.append_nil])
     ·(have w0:=@fW; have w1:=@eX; have w2:=@fV; have w3:=@eE; walk_at "w"; try clear w0 w1 w2 w3)
    ·have c2':decide (cY oc j1 j2=other)=false:=decide_eq_false c2;rw [c1',c2',Bool.true_and,Bool.false_and];clear c1 c2
     (have w0:=@fW; have w1:=@eX; have w2:=@fV; have w3:=@eE; walk_at "w"; try clear w0 w1 w2 w3)
     all_goals (try simp only [List.append_nil])
   ·have c1':decide (cY oc i1 i2=one)=false:=decide_eq_false c1;rw [c1',Bool.false_and,Bool.false_and];clear c1
    (have w0:=@fW; have w1:=@eX; have w2:=@fV; have w3:=@eE; walk_at "w"; try clear w0 w1 w2 w3)
    all_goals (try simp only [List.append_nil])) .un .un rfl rfl
 rw [hB];clear hl h8 h9 hB hLm hLl hL hln hln2 H hx
 (have w0:=@fW; have w1:=@eX; have w2:=@fV; have w3:=@eE; walk_at "w"; try clear w0 w1 w2 w3)
theorem AZ {W n:Nat} {a b c:D}:run T W (n+1) "rule_of" [.sh (.tup [.str "never",a,b,c])]=some (.ok (.sh (.ins "Never" ["one","other","way"] [a,b,c])),[.sh (.tup [.str "never",a,b,c])]):=by
 rw [bQ fF rfl rfl];unfold dH
 (have w0:=@mM; walk_at "w"; try clear w0)
abbrev Br:=List Int→Nat→List (List Int)
abbrev RP:=D × D × Br
noncomputable def JY (o h:D) (xs:List Int) (b:Nat):List Sl:=[.sh o,.sh h,.ow (.lst (xs.map D.int)) true false,.sh (.int (b:Int))]
structure RX (no ba oc:Int) (fs:List (Int × Int × Bool)) (rs:List D) (m:Nat) (p:RP):Prop where
 ob:∃ c ns ds f q,p.2.1=.ins c ns ds∧fK c ns "broken" dN=some f∧T.pins f=[true,true,true,q] ∧
  ∀ (W n:Nat) (xs:List Int) (b:Nat),b<xs.length→(∀ x∈xs,0≤x∧x<no)→run T W (n+4) f (JY (.ins c ns ds) (aA no ba oc fs rs) xs b)=some (.ok (.ow (.lst (aG (p.2.2 xs b)))),JY (.ins c ns ds) (aA no ba oc fs rs) xs b)
 ru:∀ (W n:Nat),run T W (n+1) "rule_of" [.sh p.1]=some (.ok (.sh p.2.1),[.sh p.1])
 inn:∀ xs b is,is∈p.2.2 xs b→is.length≤1000
 len:∀ xs b,(p.2.2 xs b).length≤1000
section
variable {no ba oc:Int} {fs:List (Int × Int × Bool)} {rs:List D} {m:Nat}
theorem W5 {a b:Int} (ho:HouseOk no ba oc fs) (h3':0≤b):RX no ba oc fs rs m (.tup [.str "span",.int a,.int b],.ins "Span" ["beat","spans"] [.int a,.int b],fun xs b'=>fQ a b ba oc fs xs (b':Int)):=by
 have l2:=ho.l2;have o1:=ho.o1;have o2:=ho.o2;have b1:=ho.b1;have l20:fs.length≤20:=by omega
 exact ⟨⟨_,_,_,_,true,rfl,zJ,A9,fun W n xs b' _ _=>ET l20 h3' (by omega) (by omega)⟩,fun W n=>CD,fun xs b is h=>QH h,fun xs b'=>LX l20⟩
theorem VQ {a:Int}:RX no ba oc fs rs m (.tup [.str "leap",.int a],.ins "Leap" ["most"] [.int a],fun xs b'=>dQ (lQ a xs b')) :=
 ⟨⟨_,_,_,_,false,rfl,yJ,A2,fun W n xs b' hb _=>EV (n:=n+3) hb⟩,fun W n=>B9,fun xs b is h=>yO h,fun xs b'=>vR⟩
theorem TB {a b:Int} (ho:HouseOk no ba oc fs):RX no ba oc fs rs m (.tup [.str "back",.int a,.int b],.ins "Back" ["leap","most"] [.int a,.int b],fun xs b'=>dQ (iW a b xs b')):=by
 have n2:=ho.n2;exact ⟨⟨_,_,_,_,false,rfl,zG,AY,fun W n xs b' hb hx=>E6 (n:=n+3) hb fun x hm'=>⟨(hx x hm').1,by have:=(hx x hm').2; omega⟩⟩,fun W n=>ED,fun xs b is h=>yO h,fun xs b'=>vR⟩
theorem OR {k:Nat} (h2:k≤3):RX no ba oc fs rs m (.tup [.str "again",.int (k:Int)],.ins "Again" ["most"] [.int (k:Int)],fun xs b'=>dQ (fY k xs b')) :=
 ⟨⟨_,_,_,_,false,rfl,xY,yG,fun W n xs b' hb _=>CF (n:=n+3) hb (by omega)⟩,fun W n=>AS,fun xs b is h=>yO h,fun xs b'=>vR⟩
theorem vW {a b:Int} (ho:HouseOk no ba oc fs):RX no ba oc fs rs m (.tup [.str "range",.int a,.int b],.ins "Range" ["low","high"] [.int a,.int b],fun xs b'=>kT a b fs xs (b':Int)):=by
 have l2:=ho.l2;have l9:fs.length≤900:=by omega
 exact ⟨⟨_,_,_,_,true,rfl,xS,zF,fun W n xs b' _ _=>CQ l9⟩,fun W n=>AW,fun xs b is h=>VH h,fun xs b'=>B1 (by omega)⟩
theorem vH {v w:Nat} (h1:(v:Int)≤fs.length) (h2:(w:Int)≤fs.length):RX no ba oc fs rs m (.tup [.str "above",.int (v:Int),.int (w:Int)],.ins "Above" ["one","other"] [.int (v:Int),.int (w:Int)],fun xs b'=>nY fs xs (b':Int) v w) :=
 ⟨⟨_,_,_,_,true,rfl,wD,y3,fun W n xs b' _ _=>BZ (n:=n+1) (by omega) (by omega)⟩,fun W n=>A5,fun xs b is h=>twoD_in h,fun xs b'=>twoD_len⟩
theorem OI {a b:Int} {x:PySem.Str} (ho:HouseOk no ba oc fs) (h5:x="like"∨x="against"∨x="aside"∨x="any"):RX no ba oc fs rs m (.tup [.str "never",.int a,.int b,.str x],.ins "Never" ["one","other","way"] [.int a,.int b,.str x],fun xs b'=>kS a b oc x fs xs (b':Int)):=by
 have l2:=ho.l2;have o1:=ho.o1;have l20:fs.length≤20:=by omega
 exact ⟨⟨_,_,_,_,true,rfl,xV,yE,fun W n xs b' hb hx=>DS l20 (by omega) h5 (RE ho hx hb)⟩,fun W n=>AZ,fun xs b is h=>AA h,fun xs b'=>lW (by omega)⟩
end
theorem aDm {ρ:Env} {i:Nat} {lo:Int} {ds:List D} {p l:Bool} (h:ρ[i]?=some (.ow (.lst ds) p l)):aI (.enum lo) [.slot i] ρ=some (dJ lo ds,some i):=by simp only [aI,h]
section
variable {no ba oc:Int} {fs:List (Int × Int × Bool)} {rs:List D} {m:Nat} {ps:List RP}
theorem xU {W n:Nat} (hrs:ps.map (·.1)=rs) (hp:∀ p∈ps,RX no ba oc fs rs m p) (hl:rs.length≤8):run T W (n+2) "rules_of" [.sh (aA no ba oc fs rs)]=some (.ok (.ow (.lst (ps.map (·.2.1)))),[.sh (aA no ba oc fs rs)]):=by
 rw [bQ wK rfl rfl];unfold kK;have hl':ps.length≤8:=by rw [← hrs,List.length_map] at hl; exact hl
 have hi:aI .of [.val (.sh (.tup rs))] [.sh (aA no ba oc fs rs)]=some (rs,none):=tR rfl;have hix:gT (some (aA no ba oc fs rs)) (.int 4)=some (.sh (.tup rs)):=rfl
 obtain ⟨acc,ρi,e,⟨t1,rfl,ht1,rfl⟩,_⟩:=gY (tests:=dC T.pins (run T W (n+1)) []) (elt:=ev T.pins (run T W (n+1)) false lD) (bind:=a8 true [1]) (ds:=rs)
  (fun j acc ρ=>∃ (t1:Sl),ρ=[.un,t1]∧bY t1=true∧acc=(ps.take j).map (·.2.1))
  (fun j d hd acc ρ hρ=>by
   obtain ⟨t1,rfl,ht1,rfl⟩:=hρ
   obtain ⟨p,hpj,rfl⟩:∃ p,ps[j]?=some p∧p.1=d:=by
    rw [← hrs,List.getElem?_map] at hd
    cases q:ps[j]? with
    | none=>rw [q] at hd; cases hd
    | some p=>rw [q] at hd; exact ⟨p,rfl,Option.some.inj hd⟩
   have hw:=(hp p (List.mem_of_getElem? hpj)).ru W n;refine ⟨_,true,_,by simp only [jU,bM ht1] <;> rfl,jB,fun _=>?_,fun z=>nomatch z⟩;refine ⟨.sh p.2.1,[.un,.sh p.1], ?_,_,rfl,rfl,by rw [List.take_succ,hpj,List.map_append]; rfl⟩;unfold lD;clear hd hpj hp hi hix ht1 hrs hl hl'
   walk_at "w")
  [] [.un,.un] ⟨_,rfl,rfl,rfl⟩
 rw [show rs.length=ps.length by rw [← hrs,List.length_map],List.take_length] at e;have hsm:aZ (ps.map (·.2.1)).length=true:=dR (by simp; omega);clear hp hrs hl hl' ht1
 walk_at "w"
 rw [fC hi]
 walk_at "w"
 all_goals (rw [B5 rfl]; walk_at "w")
noncomputable def MD (ps:List RP) (xs:List Int) (b:Nat):Nat:=(ps.map fun p=>(p.2.2 xs b).length).sum
theorem CJ {xs:List Int} {b:Nat}:∀ (ps:List RP),(∀ p∈ps,(p.2.2 xs b).length≤1000)→MD ps xs b≤1000*ps.length
 | [],_=>by simp [MD]
 | p :: ps,h=>by
  have h1:=h p List.mem_cons_self;have h2:=CJ ps fun q hq=>h q (List.mem_cons_of_mem _ hq)
  unfold MD at h2 ⊢;rw [List.map_cons,List.sum_cons,List.length_cons];omega
noncomputable def sV (xs:List Int) (b:Nat) (i:Nat) (p:RP):List D:=(aG (p.2.2 xs b)).map fun d=>.tup [.int (b:Int),.int (i:Int),d]
noncomputable def dY (xs:List Int) (b:Nat):Nat→List RP→List D
 | _,[]=>[]
 | i,p :: ps=>sV xs b i p ++ dY xs b (i+1) ps
theorem GH {xs:List Int} {b:Nat} {q:RP}:∀ (ps:List RP) (i:Nat),dY xs b i (ps ++ [q])=dY xs b i ps ++ sV xs b (i+ps.length) q
 | [],i=>by simp [dY]
 | p :: ps,i=>by
  rw [List.cons_append,dY,GH ps (i+1),dY,List.append_assoc,List.length_cons,show i+1+ps.length=i+(ps.length+1) by omega]
theorem zE {xs:List Int} {b:Nat}:∀ (ps:List RP) (i:Nat),(dY xs b i ps).length=MD ps xs b
 | [],i=>rfl
 | p :: ps,i=>by
  rw [dY,List.length_append,zE ps];unfold MD sV;rw [List.length_map,gX,List.map_cons,List.sum_cons]
theorem uK {W n:Nat} {xs:List Int} {b:Nat} (hp:∀ p∈ps,RX no ba oc fs rs m p) (hl:ps.length≤8) (hb:b<xs.length) (hx:∀ x∈xs,0≤x∧x<no) :
  run T W (n+5) "breaks_at" [.sh (aA no ba oc fs rs),.ow (.lst (ps.map (·.2.1))) true false,.ow (.lst (xs.map D.int)) true false,.sh (.int (b:Int))]=some (.ok (.ow (.lst (dY xs b 0 ps))),[.sh (aA no ba oc fs rs),.ow (.lst (ps.map (·.2.1))) true false,.ow (.lst (xs.map D.int)) true false,.sh (.int (b:Int))]):=by
 rw [bQ vC rfl rfl];unfold jL;have hi:aI (.enum 0) [.slot 1] [.sh (aA no ba oc fs rs),.ow (.lst (ps.map (·.2.1))) true false,.ow (.lst (xs.map D.int)) true false,.sh (.int (b:Int)),.ow (.lst []) false false,.un,.un,.un]=some (dJ 0 (ps.map (·.2.1)),some 1):=aDm rfl
 obtain ⟨ρ1,e1,t5,t6,t7,rfl,h5,h6,h7⟩:=eW (bind:=a8 false [5,6]) (body:=exs T.pins (run T W (n+4)) W kB)
  (fun pre ρ=>∃ (t5 t6 t7:Sl),ρ=[.sh (aA no ba oc fs rs),.un,.ow (.lst (xs.map D.int)) true false,.sh (.int (b:Int)),.ow (.lst (dY xs b 0 (ps.take pre.length))) false false,t5,t6,t7]∧bY t5=true∧bY t6=true∧bY t7=true)
  (ds:=dJ 0 (ps.map (·.2.1))) (fun pre d post hds ρ hρ=>by
   obtain ⟨t5,t6,t7,rfl,h5,h6,h7⟩:=hρ
   have hlen:pre.length<ps.length:=by
    have:=congrArg List.length hds
    rw [fI,List.length_map,List.length_append,List.length_cons] at this;omega
   obtain ⟨p,hpj⟩:∃ p,ps[pre.length]?=some p:=⟨_,List.getElem?_eq_getElem hlen⟩
   have hd:d=.tup [.int (pre.length:Int),p.2.1]:=by
    have q:=nM (lo:=0) (ds:=ps.map (·.2.1)) (i:=pre.length) (d:=p.2.1) (by rw [List.getElem?_map,hpj]; rfl);rw [hds,List.getElem?_append_right (Nat.le_refl _),Nat.sub_self,Int.zero_add] at q;exact Option.some.inj q
   subst hd;refine ⟨_,by simp only [jU,bM h5,bM h6] <;> rfl, ?_⟩;have hrx:=hp p (List.mem_of_getElem? hpj);have hlen1:=hrx.len xs b;have hbr:=CJ (xs:=xs) (b:=b) (ps.take pre.length) fun q hq=>(hp q (List.mem_of_mem_take hq)).len xs b
   rw [← zE _ 0,List.length_take] at hbr
   have hN:dY xs b 0 (ps.take (pre ++ [D.tup [D.int (pre.length:Int),p.2.1]]).length)=dY xs b 0 (ps.take pre.length) ++ (aG (p.2.2 xs b)).map fun d=>.tup [.int (b:Int),.int (pre.length:Int),d]:=by
    rw [List.length_append,List.length_cons,List.length_nil,List.take_succ,hpj]
    have:=GH (xs:=xs) (b:=b) (q:=p) (ps.take pre.length) 0
    rw [List.length_take,Nat.min_eq_left (Nat.le_of_lt hlen),Nat.zero_add] at this;exact this
   rw [hN];obtain ⟨c,ns,ds,f,q,ho,hmt,hpi,hrun⟩:=hrx.ob;have hr:=hrun W n xs b hb hx;unfold JY at hr;rw [ho]
   generalize p.2.2 xs b=Z at *
   generalize dY xs b 0 (ps.take pre.length)=L at *
   generalize (pre.length:Int)=pl at *
   have hi2:aI .of [.val (.ow (.lst (aG Z)))] [.sh (aA no ba oc fs rs),.un,.ow (.lst (xs.map D.int)) true false,.sh (.int (b:Int)),.ow (.lst L) false false,.sh (.int pl),.sh (.ins c ns ds),t7]=some (aG Z,none):=BD rfl
   obtain ⟨ρ2,e2,t7',rfl,h7'⟩:=eW (bind:=a8 true [7]) (body:=exs T.pins (run T W (n+4)) W kF)
    (fun pr ρ=>∃ (t7:Sl),ρ=[.sh (aA no ba oc fs rs),.un,.ow (.lst (xs.map D.int)) true false,.sh (.int (b:Int)),.ow (.lst (L ++ pr.map fun d=>D.tup [.int (b:Int),.int pl,d])) false false,.sh (.int pl),.sh (.ins c ns ds),t7]∧bY t7=true)
    (ds:=aG Z) (fun pr d po hd' ρ hρ=>by
     obtain ⟨t7,rfl,h7⟩:=hρ;refine ⟨_,by simp only [jU,bM h7] <;> rfl, ?_⟩
     have hz:pr.length≤1000:=by
      have:=congrArg List.length hd'
      rw [gX,List.length_append] at this;omega
     rw [List.map_append,← List.append_assoc];have hsm:aZ ((L ++ pr.map fun d=>D.tup [.int (b:Int),.int pl,d]).length+1)=true:=dR (by rw [List.length_append,List.length_map]; omega)
     generalize (L ++ pr.map fun d=>D.tup [.int (b:Int),.int pl,d])=L2 at *
     refine ⟨[.sh (aA no ba oc fs rs),.un,.ow (.lst (xs.map D.int)) true false,.sh (.int (b:Int)),.ow (.lst (L2 ++ [.tup [.int (b:Int),.int pl,d]])) false false,.sh (.int pl),.sh (.ins c ns ds),.sh d], ?_,_,rfl,rfl⟩;unfold kF;clear hp hl hb hx hi hlen hpj hrx hlen1 hbr hN ho hmt hpi hrun hr hi2 hd' hz h5 h6 h7 hds
     walk_at "w")
    (ρ:=[.sh (aA no ba oc fs rs),.un,.ow (.lst (xs.map D.int)) true false,.sh (.int (b:Int)),.ow (.lst L) false false,.sh (.int pl),.sh (.ins c ns ds),t7]) ⟨_,by simp,h7⟩
   refine ⟨[.sh (aA no ba oc fs rs),.un,.ow (.lst (xs.map D.int)) true false,.sh (.int (b:Int)),.ow (.lst (L ++ (aG Z).map fun d=>D.tup [.int (b:Int),.int pl,d])) false false,.sh (.int pl),.sh (.ins c ns ds),t7'], ?_,_,_,_,rfl,rfl,rfl,h7'⟩;unfold kB
   generalize (L ++ (aG Z).map fun d=>D.tup [.int (b:Int),.int pl,d])=L3 at *
   clear hp hl hb hx hi hlen hpj hrx hlen1 hbr hN ho hrun h5 h6 h7 hds h7'
   cases q <;> walk_at "w")
  (ρ:=[.sh (aA no ba oc fs rs),.un,.ow (.lst (xs.map D.int)) true false,.sh (.int (b:Int)),.ow (.lst []) false false,.un,.un,.un]) ⟨_,_,_,rfl,rfl,rfl,rfl⟩
 rw [fI,List.length_map,List.take_length] at e1
 generalize dY xs b 0 ps=L at *
 clear hp hl hb hx h5 h6 h7
 walk_at "w"
 simp only [aO,List.set_cons_zero,List.set_cons_succ,e1,bN.restore,dB,List.getElem?_cons_zero,List.getElem?_cons_succ,Option.map_some]
 walk_at "w"
end
theorem YL {ρ:Env} {k:Nat} (h:k≤1000):aI .rng [.val (.sh (.int (k:Int)))] ρ=some ((List.range k).map fun (j:Nat)=>.int (j:Int),none):=by
 refine Eq.trans (tY (n:=(k:Int)) rfl (by omega) (by omega)) ?_;rw [Int.toNat_natCast]
theorem vZ {elt:Env→aE RV} {bind:D→Env→Option Env} {ds:List D} {P:aK} {C:Calls} (val:D→D) (J:Env→Prop)
  (step:∀ d∈ds,∀ ρ,J ρ→∃ ρ1 v ρ2,bind d ρ=some ρ1∧elt ρ1=some (.ok v,ρ2)∧v.d=val d∧J ρ2) {ρ:Env} (h:J ρ) :
  ∃ ρ',d8 (dC P C []) elt bind ds [] ρ=some (.ok (ds.map val),ρ')∧J ρ':=by
 obtain ⟨acc,ρ',e,⟨rfl,hJ⟩,_⟩:=gY (tests:=dC P C []) (elt:=elt) (bind:=bind) (ds:=ds) (fun j acc ρ=>acc=(ds.take j).map val∧J ρ)
  (fun j d hd acc ρ ⟨ha,hJ⟩=>by
   obtain ⟨ρ1,v,ρ2,h1,h2,h3,h4⟩:=step d (List.mem_of_getElem? hd) ρ hJ;refine ⟨ρ1,true,ρ1,h1,jB,fun _=>⟨v,ρ2,h2, ?_,h4⟩,fun z=>nomatch z⟩;rw [ha,h3,List.take_add_one,hd]
   simp) [] ρ ⟨by simp,h⟩
 refine ⟨ρ', ?_,hJ⟩;rw [e,List.take_length]
section
variable {no ba oc:Int} {fs:List (Int × Int × Bool)} {rs:List D} {m:Nat} {ps:List RP}
noncomputable def cH (ps:List RP) (xs:List Int) (n:Nat):List D:=(List.range n).flatMap fun b=>dY xs b 0 ps
theorem nI {xs:List Int} {n:Nat}:cH ps xs (n+1)=cH ps xs n ++ dY xs n 0 ps:=by
 unfold cH;rw [List.range_succ,List.flatMap_append];simp
theorem J0 {xs:List Int} {b:Nat} (hp:∀ p∈ps,RX no ba oc fs rs m p) (hl:ps.length≤8):(dY xs b 0 ps).length≤8000:=by
 rw [zE]
 have:=CJ (xs:=xs) (b:=b) ps fun q hq=>(hp q hq).len xs b
 omega
theorem y4 {xs:List Int} (hp:∀ p∈ps,RX no ba oc fs rs m p) (hl:ps.length≤8):∀ n:Nat,(cH ps xs n).length≤8000*n
 | 0=>by simp [cH]
 | n+1=>by
  rw [nI,List.length_append];have h1:=y4 (xs:=xs) hp hl n;have h2:=J0 (xs:=xs) (b:=n) hp hl;omega
noncomputable def gW (b i:Nat) (is:List Int):D:=.tup [.int (b:Int),.int (i:Int),.tup (is.map D.int)]
theorem F4 {xs:List Int} {b:Nat} {d:D}:∀ (qs:List RP) (i:Nat),(∀ p∈qs,RX no ba oc fs rs m p)→d∈dY xs b i qs→∃ j is,d=gW b j is∧is.length≤1000
 | q :: qs,i,hp,h=>by
  rw [dY] at h;rcases List.mem_append.mp h with h | h
  ·obtain ⟨d',h1,rfl⟩:=List.mem_map.mp h;obtain ⟨is,h2,rfl⟩:=List.mem_map.mp h1;exact ⟨i,is,rfl,(hp q List.mem_cons_self).inn xs b is h2⟩
  ·exact F4 qs _ (fun p hp'=>hp p (List.mem_cons_of_mem _ hp')) h
theorem BP {xs:List Int} {n:Nat} {d:D} (hp:∀ p∈ps,RX no ba oc fs rs m p) (h:d∈cH ps xs n):∃ b j is,d=gW b j is∧is.length≤1000:=by
 obtain ⟨b,_,h⟩:=List.mem_flatMap.mp h;exact ⟨b,F4 ps 0 hp h⟩
theorem WM {b j:Nat} {is:List Int}:bD 19 (gW b j is)=true:=by simp [bD,gW]
theorem V4 {xs:List Int} {n:Nat} (hp:∀ p∈ps,RX no ba oc fs rs m p):bD 20 (.lst (cH ps xs n))=true:=by
 show (cH ps xs n).all (bD 19)=true;rw [List.all_eq_true];intro d hd;obtain ⟨b,j,is,rfl,_⟩:=BP hp hd;exact WM
theorem YA {n:Nat} {pre post:List D} {d:D} (h:((List.range n).map fun (j:Nat)=>D.int (j:Int))=pre ++ d :: post):d=.int (pre.length:Int)∧pre.length<n:=by
 have hl:=congrArg List.length h;rw [List.length_map,List.length_range,List.length_append,List.length_cons] at hl;have h2:((List.range n).map fun (j:Nat)=>D.int (j:Int))[pre.length]?=some d:=by rw [h,List.getElem?_append_right (Nat.le_refl _),Nat.sub_self]; rfl
 rw [List.getElem?_map,List.getElem?_range (by omega)] at h2;exact ⟨(Option.some.inj h2).symm,by omega⟩
theorem pX {W n:Nat} {xs:List Int} (hrs:ps.map (·.1)=rs) (hp:∀ p∈ps,RX no ba oc fs rs m p) (hl:rs.length≤8) (hx:∀ x∈xs,0≤x∧x<no) (lx:xs.length≤80) :
  run T W (n+6) "breaks" [.sh (aA no ba oc fs rs),.ow (.lst (xs.map D.int)) true false]=some (.ok (.ow (.lst (cH ps xs xs.length))),[.sh (aA no ba oc fs rs),.ow (.lst (xs.map D.int)) true false]):=by
 have hl':ps.length≤8:=by rw [← hrs,List.length_map] at hl; exact hl
 rw [bQ B4 rfl rfl];unfold nJ;have h1:=xU (W:=W) (n:=n+3) hrs hp hl;have hi:aI .rng [.val (.sh (.int (xs.length:Int)))] [.sh (aA no ba oc fs rs),.ow (.lst (xs.map D.int)) true false,.ow (.lst (ps.map (·.2.1))) false false,.ow (.lst []) false false,.un]=some ((List.range xs.length).map fun (j:Nat)=>.int (j:Int),none):=YL (by omega)
 obtain ⟨ρ',e,t4,rfl,_⟩:=eW (bind:=a8 true [4]) (body:=exs T.pins (run T W (n+5)) W nW)
  (fun pre ρ=>∃ t4,ρ=[.sh (aA no ba oc fs rs),.ow (.lst (xs.map D.int)) true false,.ow (.lst (ps.map (·.2.1))) false false,.ow (.lst (cH ps xs pre.length)) false false,t4]∧bY t4=true)
  (ds:=(List.range xs.length).map fun (j:Nat)=>.int (j:Int)) (fun pre d post hds ρ hρ=>by
   obtain ⟨t4,rfl,h4⟩:=hρ;obtain ⟨rfl,hb⟩:=YA hds;refine ⟨_,by simp only [jU,bM h4] <;> rfl, ?_⟩;have hbk:=uK (W:=W) (n:=n) hp hl' hb hx;have z1:=y4 (xs:=xs) hp hl' pre.length;have z2:=J0 (xs:=xs) (b:=pre.length) hp hl';have hsm:aZ ((cH ps xs pre.length).length+(dY xs pre.length 0 ps).length)=true:=dR (by omega);refine ⟨[.sh (aA no ba oc fs rs),.ow (.lst (xs.map D.int)) true false,.ow (.lst (ps.map (·.2.1))) false false,.ow (.lst (cH ps xs pre.length ++ dY xs pre.length 0 ps)) false false,.sh (.int (pre.length:Int))], ?_,_,by rw [List.length_append,List.length_singleton,nI],rfl⟩;unfold nW;clear hp hl hl' hx hrs h1 hi hds hb z1 z2 h4 lx
   generalize cH ps xs pre.length=A at *
   generalize dY xs pre.length 0 ps=B at *
   (have w0:=@List.length_map.{0,0}; walk_at "w"; try clear w0))
  (ρ:=[.sh (aA no ba oc fs rs),.ow (.lst (xs.map D.int)) true false,.ow (.lst (ps.map (·.2.1))) false false,.ow (.lst []) false false,.un]) ⟨_,rfl,rfl⟩
 rw [List.length_map,List.length_range] at e
 generalize cH ps xs xs.length=A at *
 clear hp hl hl' hx hrs lx
 (have w0:=@List.length_map.{0,0}; walk_at "w"; try clear w0)
end
noncomputable def LW:List D→D
 | []=>.non
 | d :: _=>d
theorem EJ {bind:D→Env→Option Env} {body:Env→bN} (f:D→List D) (I:Env→Prop) {ds:List D} (h:∀ d∈ds,∀ ρ,I ρ→∃ ρ1,bind d ρ=some ρ1∧∃ ρ2,(f d=[]∧body ρ1=some (.nx,ρ2)∨∃ x r,f d=x :: r∧body ρ1=some (.rt (.sh x),ρ2))∧I ρ2) :
  ∀ {ρ:Env},I ρ→∃ ρ',(ds.flatMap f=[]∧cQ bind body ds ρ=some (.nx,ρ')∨∃ x r,ds.flatMap f=x :: r∧cQ bind body ds ρ=some (.rt (.sh x),ρ'))∧I ρ':=by
 induction ds with
 | nil=>exact fun hρ=>⟨_,.inl ⟨rfl,rfl⟩,hρ⟩
 | cons d ds ih =>
  intro ρ hρ;obtain ⟨ρ1,e1,ρ2,e2,h2⟩:=h d (by simp) ρ hρ;rcases e2 with ⟨c,e2⟩ | ⟨x,r,c,e2⟩
  ·obtain ⟨ρ',e3,h3⟩:=ih (fun d' hd'=>h d' (by simp [hd'])) h2;refine ⟨ρ', ?_,h3⟩;rcases e3 with ⟨c3,e3⟩ | ⟨x,r,c3,e3⟩
   ·exact .inl ⟨by rw [List.flatMap_cons,c,c3]; rfl,by simp only [cQ,e1,e2,e3]⟩
   ·exact .inr ⟨x,r,by rw [List.flatMap_cons,c,c3]; rfl,by simp only [cQ,e1,e2,e3]⟩
  ·exact ⟨ρ2,.inr ⟨x,r ++ ds.flatMap f,by rw [List.flatMap_cons,c]; rfl,by simp only [cQ,e1,e2]⟩,h2⟩
section
variable {no ba oc:Int} {fs:List (Int × Int × Bool)} {rs:List D} {m:Nat} {ps:List RP}
theorem HZ {W n:Nat} {xs:List Int} (hrs:ps.map (·.1)=rs) (hp:∀ p∈ps,RX no ba oc fs rs m p) (hl:rs.length≤8) (hx:∀ x∈xs,0≤x∧x<no) (lx:xs.length≤80) :
  run T W (n+6) "first_break" [.sh (aA no ba oc fs rs),.ow (.lst (xs.map D.int)) true false]=some (.ok (.sh (LW (cH ps xs xs.length))),[.sh (aA no ba oc fs rs),.ow (.lst (xs.map D.int)) true false]):=by
 have hl':ps.length≤8:=by rw [← hrs,List.length_map] at hl; exact hl
 rw [bQ qT rfl rfl];unfold iB;have h1:=xU (W:=W) (n:=n+3) hrs hp hl;have hi:aI .rng [.val (.sh (.int (xs.length:Int)))] [.sh (aA no ba oc fs rs),.ow (.lst (xs.map D.int)) true false,.ow (.lst (ps.map (·.2.1))) false false,.un,.un]=some ((List.range xs.length).map fun (j:Nat)=>.int (j:Int),none):=YL (by omega)
 obtain ⟨ρ',e,t3,t4,rfl,_,_⟩:=EJ (bind:=a8 true [3]) (body:=exs T.pins (run T W (n+5)) W i9) (fun d=>match d with | .int b=>dY xs b.toNat 0 ps | _=>[])
  (fun ρ=>∃ t3 t4,ρ=[.sh (aA no ba oc fs rs),.ow (.lst (xs.map D.int)) true false,.ow (.lst (ps.map (·.2.1))) false false,t3,t4]∧bY t3=true∧bY t4=true)
  (ds:=(List.range xs.length).map fun (j:Nat)=>.int (j:Int)) (fun d hd ρ hρ=>by
   obtain ⟨t3,t4,rfl,h3,h4⟩:=hρ;obtain ⟨b,hb,rfl⟩:=List.mem_map.mp hd;have hb:=List.mem_range.mp hb;refine ⟨_,by simp only [jU,bM h3] <;> rfl, ?_⟩;have hbk:=uK (W:=W) (n:=n) hp hl' hb hx;show ∃ ρ2,(dY xs b 0 ps=[]∧_∨∃ x r,dY xs b 0 ps=x :: r∧_)∧_
   generalize dY xs b 0 ps=L at *
   unfold i9;clear hi h1 hp hl hl' hx hd hb h3 hrs lx
   cases L with
   | nil =>
    refine ⟨[.sh (aA no ba oc fs rs),.ow (.lst (xs.map D.int)) true false,.ow (.lst (ps.map (·.2.1))) false false,.sh (.int (b:Int)),.ow (.lst []) false false],.inl ⟨rfl, ?_⟩,_,_,rfl,rfl,rfl⟩;have c:decide ((0:Int)<((0:Nat):Int))=false:=rfl
    (have w0:=@List.length_map.{0,0}; walk_at "w"; try clear w0)
   | cons x L =>
    refine ⟨[.sh (aA no ba oc fs rs),.ow (.lst (xs.map D.int)) true false,.ow (.lst (ps.map (·.2.1))) false false,.sh (.int (b:Int)),.ow (.lst (x :: L)) false false],.inr ⟨x,L,rfl, ?_⟩,_,_,rfl,rfl,rfl⟩;have c:decide ((((x :: L).length:Nat):Int) > 0)=true:=decide_eq_true (by rw [List.length_cons]; omega);have hat:L2.cX (x :: L) 0=some x:=by rw [ZC]; rfl
    generalize x :: L=LL at *
    (have w0:=@List.length_map.{0,0}; walk_at "w"; try clear w0))
  (ρ:=[.sh (aA no ba oc fs rs),.ow (.lst (xs.map D.int)) true false,.ow (.lst (ps.map (·.2.1))) false false,.un,.un]) ⟨_,_,rfl,rfl,rfl⟩
 have hal:((List.range xs.length).map fun (j:Nat)=>D.int (j:Int)).flatMap (fun d=>match d with | .int b=>dY xs b.toNat 0 ps | _=>[])=cH ps xs xs.length:=by
  rw [List.flatMap_map];rfl
 rw [hal] at e;clear hal hp hl hl' hx hrs lx;rcases e with ⟨c,e⟩ | ⟨x,r,c,e⟩
 ·rw [c];show _=some (Out.ok (RV.sh D.non),_);clear c
  (have w0:=@List.length_map.{0,0}; walk_at "w"; try clear w0)
 ·rw [c];show _=some (Out.ok (RV.sh x),_);clear c
  (have w0:=@List.length_map.{0,0}; walk_at "w"; try clear w0)
theorem aC4 {L:List D} (h:∀ d∈L,∃ es,d=.tup es):cN .Is (LW L) .non=some L.isEmpty:=by
 cases L with
 | nil=>rfl
 | cons d L =>
  obtain ⟨es,rfl⟩:=h d List.mem_cons_self;rfl
theorem DD {W n:Nat} {xs:List Int} (hrs:ps.map (·.1)=rs) (hp:∀ p∈ps,RX no ba oc fs rs m p) (hl:rs.length≤8) (hx:∀ x∈xs,0≤x∧x<no) (lx:xs.length≤80) :
  run T W (n+7) "is_let_by" [.sh (aA no ba oc fs rs),.ow (.lst (xs.map D.int)) true false]=some (.ok (.sh (.bl (cH ps xs xs.length).isEmpty)),[.sh (aA no ba oc fs rs),.ow (.lst (xs.map D.int)) true false]):=by
 have h1:=HZ (W:=W) (n:=n) hrs hp hl hx lx
 have h2:=aC4 (L:=cH ps xs xs.length) fun d hd=>by
  obtain ⟨b,j,is,rfl,_⟩:=BP hp hd;exact ⟨_,rfl⟩
 rw [bQ uU rfl rfl];unfold jM;clear hrs hp hl hx lx
 generalize LW (cH ps xs xs.length)=hh at *
 generalize (cH ps xs xs.length).isEmpty=bb at *
 (have w0:=@List.length_map.{0,0}; walk_at "w"; try clear w0)
end
theorem l5 {W n:Nat} {i:Int}:run T W (n+1) "is_whole" [.sh (.int i)]=some (.ok (.sh (.bl true)),[.sh (.int i)]):=by
 rw [bQ xZ rfl rfl];unfold kI
 walk_at "w"
theorem AN {W n:Nat} {i a b:Int} (h1:a≤i) (h2:i≤b):run T W (n+2) "is_within" [.sh (.int i),.sh (.int a),.sh (.int b)]=some (.ok (.sh (.bl true)),[.sh (.int i),.sh (.int a),.sh (.int b)]):=by
 rw [bQ nR rfl rfl];unfold gQ;have c1:decide (a≤i)=true:=decide_eq_true h1;have c2:decide (i≤b)=true:=decide_eq_true h2;clear h1 h2
 (have w0:=@l5; walk_at "w"; try clear w0)
theorem AM {W n:Nat} {i a b:Int} (h:¬ (a≤i∧i≤b)):run T W (n+2) "is_within" [.sh (.int i),.sh (.int a),.sh (.int b)]=some (.ok (.sh (.bl false)),[.sh (.int i),.sh (.int a),.sh (.int b)]):=by
 rw [bQ nR rfl rfl];unfold gQ;by_cases h1:a≤i
 ·have c1:decide (a≤i)=true:=decide_eq_true h1;have c2:decide (i≤b)=false:=decide_eq_false fun z=>h ⟨h1,z⟩
  clear h1 h
  (have w0:=@l5; walk_at "w"; try clear w0)
 ·have c1:decide (a≤i)=false:=decide_eq_false h1;clear h1 h
  (have w0:=@l5; walk_at "w"; try clear w0)
def vB (no:Int) (f:Int × Int × Bool):Int:=if f.2.2=true then 2*(no - 1) - f.2.1 else 0 - f.2.1
noncomputable def fO (no:Int) (f:Int × Int × Bool):Int × Int × Bool:=(f.1,vB no f,f.2.2)
def mV (no:Int) (f:Int × Int × Bool):Prop:=-12≤vB no f∧vB no f≤12
instance {no:Int} {f:Int × Int × Bool}:Decidable (mV no f):=inferInstanceAs (Decidable (_∧_))
theorem uQ {W n:Nat} {no ba oc:Int} {fs:List (Int × Int × Bool)} {rs:List D} {f:Int × Int × Bool} (h:mV no f) :
  run T W (n+3) "follower_over" [.sh (aA no ba oc fs rs),.sh (bV f)]=some (.ok (.sh (bV (fO no f))),[.sh (aA no ba oc fs rs),.sh (bV f)]):=by
 rw [BB jS rfl rfl];generalize oK T W (n+2) dF _=rx;unfold dF;obtain ⟨l,s,t⟩:=f;have i0:gT (some (aA no ba oc fs rs)) (.int 0)=some (.sh (.int no)):=rfl
 cases t with
 | true =>
  have hw:=AN (W:=W) (n:=n) h.1 h.2;have e:-s+2*(no - 1)=2*(no - 1) - s:=by omega
  unfold bV;simp only [fO,vB,if_true] at hw ⊢;clear h
  walk_at "w"
 | false =>
  have hw:=AN (W:=W) (n:=n) h.1 h.2;have e:0 - s=-s:=by omega
  unfold bV;simp only [fO,vB,if_false,Bool.false_eq_true,e] at hw ⊢;clear h e
  walk_at "w"
theorem ER {W n:Nat} {no ba oc:Int} {fs:List (Int × Int × Bool)} {rs:List D} {f:Int × Int × Bool} (h:¬ mV no f) :
  run T W (n+3) "follower_over" [.sh (aA no ba oc fs rs),.sh (bV f)]=some (.ex ⟨"NoHouse"⟩,[.sh (aA no ba oc fs rs),.sh (bV f)]):=by
 rw [BB jS rfl rfl];unfold oK dF;obtain ⟨l,s,t⟩:=f;have i0:gT (some (aA no ba oc fs rs)) (.int 0)=some (.sh (.int no)):=rfl
 cases t with
 | true =>
  have hw:=AM (W:=W) (n:=n) h;have e:-s+2*(no - 1)=2*(no - 1) - s:=by omega
  unfold bV;simp only [vB,if_true] at hw ⊢;clear h
  walk_at "w"
 | false =>
  have hw:=AM (W:=W) (n:=n) h;have e:0 - s=-s:=by omega
  unfold bV;simp only [vB,if_false,Bool.false_eq_true,e] at hw ⊢;clear h e
  walk_at "w"
noncomputable def fS (no e:Int):Int:=if (if no - 1 - e<60 then no - 1 - e else 60) > -60 then (if no - 1 - e<60 then no - 1 - e else 60) else -60
noncomputable def K8 (no:Int) (x:PySem.Str) (d:D):List D→D
 | [.int a,.int b]=>if (x == "range")=true then .tup [.str "range",.int (fS no b),.int (fS no a)] else if (x == "above")=true then .tup [.str "above",.int b,.int a] else d
 | _=>d
noncomputable def rO (no:Int):D→D
 | .tup (.str x :: r)=>K8 no x (.tup (.str x :: r)) r
 | d=>d
inductive Sh8:D→Prop
 | oth (x:PySem.Str) (r:List D) (h1:(x == "range")=false) (h2:(x == "above")=false):Sh8 (.tup (.str x :: r))
 | rng (a b:Int):Sh8 (.tup [.str "range",.int a,.int b])
 | abv (a b:Int):Sh8 (.tup [.str "above",.int a,.int b])
theorem YI {no ba oc ma:Int} {d:D} (h:RuleD no ba oc ma d):Sh8 d:=by
 cases h with
 | above v w h1 h2 h3=>exact .abv _ _
 | range a b _ _ _=>exact .rng _ _
 | span a b _ _ _ _=>exact .oth _ _ iZ i5
 | leap a _ _=>exact .oth _ _ iU i6
 | back a b _ _ _ _=>exact .oth _ _ iX iV
 | again a _ _=>exact .oth _ _ iH iC
 | never a b x _ _ _ _ _=>exact .oth _ _ iD iG
theorem oV {no:Int} {x:PySem.Str} {r:List D} (h1:(x == "range")=false) (h2:(x == "above")=false):rO no (.tup (.str x :: r))=.tup (.str x :: r):=by
 show K8 no x _ r=_;unfold K8;split
 ·rw [h1,h2]; simp
 ·rfl
theorem oZ {no a b:Int}:rO no (.tup [.str "range",.int a,.int b])=.tup [.str "range",.int (fS no b),.int (fS no a)]:=by
 simp only [rO,K8];rw [if_pos (by decide +kernel)]
theorem n4 {no a b:Int}:rO no (.tup [.str "above",.int a,.int b])=.tup [.str "above",.int b,.int a]:=by
 simp only [rO,K8];rw [if_neg (by decide +kernel),if_pos (by decide +kernel)]
theorem wW {x y:PySem.Str} (h:(x == y)=false):cN .Eq (.str x) (.str y)=some false:=by
 rw [ZO rfl rfl];simp only [fH,h]
theorem HR {x:PySem.Str}:cN .Eq (.str x) (.str x)=some true:=RW rfl
theorem tU {x:PySem.Str} {r:List D}:gT (some (.tup (.str x :: r))) (.int 0)=some (.sh (.str x)):=by
 have:RN (.str x :: r) ((0:Nat):Int)=some (.str x):=L2.oU rfl
 show (RN (.str x :: r) ((0:Nat):Int)).map _=_;rw [this];rfl
theorem wA {W n:Nat} {no ba oc e:Int} {fs:List (Int × Int × Bool)} {rs:List D} :
  run T W (n+1) "end_over" [.sh (aA no ba oc fs rs),.sh (.int e)]=some (.ok (.sh (.int (fS no e))),[.sh (aA no ba oc fs rs),.sh (.int e)]):=by
 rw [bQ wO rfl rfl];unfold kN fS;have i0:gT (some (aA no ba oc fs rs)) (.int 0)=some (.sh (.int no)):=rfl
 walk_at "w"
theorem yI {W n:Nat} {no ba oc:Int} {fs:List (Int × Int × Bool)} {rs:List D} {d:D} (h:Sh8 d) :
  run T W (n+2) "rule_over" [.sh (aA no ba oc fs rs),.sh d]=some (.ok (.sh (rO no d)),[.sh (aA no ba oc fs rs),.sh d]):=by
 rw [bQ u0 rfl rfl];unfold jR
 cases h with
 | oth x r h1 h2 =>
  have e1:=wW h1;have e2:=wW h2;have e0:=tU (x:=x) (r:=r);rw [oV h1 h2]
  (have w0:=@wA; walk_at "w"; try clear w0)
 | rng a b =>
  have e1:=HR (x:="range");rw [oZ]
  (have w0:=@wA; walk_at "w"; try clear w0)
 | abv a b =>
  have e1:=wW j6;have e2:=HR (x:="above");rw [n4]
  (have w0:=@wA; walk_at "w"; try clear w0)
theorem HH {W n:Nat} {no ba oc:Int} {fs gs:List (Int × Int × Bool)} {rs ss:List D} :
  run T W (n+1) "with_parts" [.sh (aA no ba oc fs rs),.ow (.lst (gs.map bV)) true false,.ow (.lst ss) true false]=some (.ok (.sh (aA no ba oc gs ss)),[.sh (aA no ba oc fs rs),.ow (.lst (gs.map bV)) true false,.ow (.lst ss) true false]):=by
 rw [bQ sR rfl rfl];unfold i7 aA
 walk_at "w"
noncomputable def foD (no:Int):D→D
 | .tup [.int l,.int s,.bl t]=>bV (fO no (l,s,t))
 | d=>d
theorem XD {no:Int} {fs:List (Int × Int × Bool)}:(fs.map bV).map (foD no)=(fs.map (fO no)).map bV:=by
 rw [List.map_map,List.map_map];rfl
noncomputable def okF (no:Int):D→Bool
 | .tup [.int l,.int s,.bl t]=>decide (mV no (l,s,t))
 | _=>false
theorem AK {W n:Nat} {no ba oc:Int} {fs:List (Int × Int × Bool)} {rs:List D} (hf:∀ f∈fs,mV no f) (hl:fs.length≤3) (hr:∀ d∈rs,Sh8 d) (hrl:rs.length≤100) :
  run T W (n+4) "turned_over" [.sh (aA no ba oc fs rs)]=some (.ok (.sh (aA no ba oc (fs.map (fO no)) (rs.map (rO no)))),[.sh (aA no ba oc fs rs)]):=by
 rw [BB lC rfl rfl];generalize oK T W (n+3) eI _=rx;unfold eI;have i3:gT (some (aA no ba oc fs rs)) (.int 3)=some (.sh (.tup (fs.map bV))):=rfl;have i4:gT (some (aA no ba oc fs rs)) (.int 4)=some (.sh (.tup rs)):=rfl
 obtain ⟨ρa,ea,t2,rfl,ht2⟩:=vZ (P:=T.pins) (C:=run T W (n+3)) (elt:=ev T.pins (run T W (n+3)) false cF) (bind:=a8 true [2]) (ds:=fs.map bV)
  (foD no) (fun ρ=>∃ t2,ρ=[.sh (aA no ba oc fs rs),.un,t2]∧bY t2=true)
  (fun d hd ρ hρ=>by
   obtain ⟨t2,rfl,ht2⟩:=hρ;obtain ⟨f,hm,rfl⟩:=List.mem_map.mp hd;have hx:=uQ (W:=W) (n:=n) (ba:=ba) (oc:=oc) (fs:=fs) (rs:=rs) (hf f hm);refine ⟨_,.sh (bV (fO no f)),[.sh (aA no ba oc fs rs),.un,.sh (bV f)],by simp only [jU,bM ht2] <;> rfl, ?_,rfl,_,rfl,rfl⟩;unfold cF;clear hd hm ht2 hf hr i3 i4
   (have w0:=@fD; walk_at "w"; try clear w0)) (ρ:=[.sh (aA no ba oc fs rs),.un,.un]) ⟨_,rfl,rfl⟩
 rw [XD] at ea
 obtain ⟨ρb,eb,t3,rfl,ht3⟩:=vZ (P:=T.pins) (C:=run T W (n+3)) (elt:=ev T.pins (run T W (n+3)) false jA) (bind:=a8 true [2]) (ds:=rs)
  (rO no) (fun ρ=>∃ t2,ρ=[.sh (aA no ba oc fs rs),.un,t2]∧bY t2=true)
  (fun d hd ρ hρ=>by
   obtain ⟨t2,rfl,ht2⟩:=hρ;have hx:=yI (W:=W) (n:=n+1) (no:=no) (ba:=ba) (oc:=oc) (fs:=fs) (rs:=rs) (hr d hd);refine ⟨_,.sh (rO no d),[.sh (aA no ba oc fs rs),.un,.sh d],by simp only [jU,bM ht2] <;> rfl, ?_,rfl,_,rfl,rfl⟩;unfold jA;clear hd ht2 hf hr i3 i4 ea
   (have w0:=@fD; walk_at "w"; try clear w0)) (ρ:=[.sh (aA no ba oc fs rs),.un,.un]) ⟨_,rfl,rfl⟩
 have hp:=HH (W:=W) (n:=n+2) (no:=no) (ba:=ba) (oc:=oc) (fs:=fs) (gs:=fs.map (fO no)) (rs:=rs) (ss:=rs.map (rO no));have z1:aZ ((fs.map (fO no)).map bV).length=true:=hX (by simp; omega);have z2:aZ (rs.map (rO no)).length=true:=hX (by simp; omega);clear hf hl hr hrl ht2 ht3
 (have w0:=@fD; walk_at "w"; try clear w0)
 rw [fC (tR rfl)]
 (have w0:=@fD; walk_at "w"; try clear w0)
 rw [fC (tR rfl)]
 (have w0:=@fD; walk_at "w"; try clear w0)
theorem MO {W n:Nat} {no ba oc:Int} {fs:List (Int × Int × Bool)} {rs:List D} (hf:¬ ∀ f∈fs,mV no f) (hl:fs.length≤3) :
  run T W (n+4) "turned_over" [.sh (aA no ba oc fs rs)]=some (.ex ⟨"NoHouse"⟩,[.sh (aA no ba oc fs rs)]):=by
 rw [BB lC rfl rfl];unfold oK eI;have i3:gT (some (aA no ba oc fs rs)) (.int 3)=some (.sh (.tup (fs.map bV))):=rfl
 have hg:(fs.map bV).all (okF no)=false:=by
  rw [Bool.eq_false_iff];intro z;refine hf fun f hm=>?_
  have:=List.all_eq_true.mp z (bV f) (List.mem_map.mpr ⟨f,hm,rfl⟩)
  exact of_decide_eq_true this
 obtain ⟨ρa,ea,eb,t2,rfl,ht2⟩:=D1 (tests:=dC T.pins (run T W (n+3)) []) (elt:=ev T.pins (run T W (n+3)) false cF) (eltX:=iS T.pins (run T W (n+3)) cF) (bind:=a8 true [2]) (x:=⟨"NoHouse"⟩) (okF no)
  (fun ρ=>∃ t2,ρ=[.sh (aA no ba oc fs rs),.un,t2]∧bY t2=true) (fs.map bV) [] [.sh (aA no ba oc fs rs),.un,.un] ⟨_,rfl,rfl⟩ hg
  (fun d hd ρ hρ=>by
   obtain ⟨t2,rfl,ht2⟩:=hρ;obtain ⟨f,hm,rfl⟩:=List.mem_map.mp hd;refine ⟨[.sh (aA no ba oc fs rs),.un,.sh (bV f)],by simp only [jU,bM ht2] <;> rfl,jB,fun hk=>?_,fun hk=>?_⟩
   ·have hx:=uQ (W:=W) (n:=n) (ba:=ba) (oc:=oc) (fs:=fs) (rs:=rs) (of_decide_eq_true hk:mV no f);refine ⟨.sh (bV (fO no f)),[.sh (aA no ba oc fs rs),.un,.sh (bV f)], ?_,_,rfl,rfl⟩;unfold cF;clear hd hm ht2 hf hg hk i3
    (have w0:=@fD; walk_at "w"; try clear w0)
   ·have hx:=ER (W:=W) (n:=n) (ba:=ba) (oc:=oc) (fs:=fs) (rs:=rs) (of_decide_eq_false hk:¬ mV no f);refine ⟨[.sh (aA no ba oc fs rs),.un,.sh (bV f)], ?_, ?_,_,rfl,rfl⟩
    ·unfold cF;clear hd hm ht2 hf hg hk i3
     (have w0:=@fD; walk_at "w"; try clear w0)
    ·unfold cF;clear hd hm ht2 hf hg hk i3
     (have w0:=@fD; walk_at "w"; try clear w0))
 have z1:aZ (fs.map bV).length=true:=hX (by simp; omega);clear hf hl hg ht2
 (have w0:=@fD; walk_at "w"; try clear w0)
 rw [fC (tR rfl)]
 (have w0:=@fD; walk_at "w"; try clear w0)
 rw [aCm (tR rfl)]
 (have w0:=@fD; walk_at "w"; try clear w0)
 rfl
noncomputable def lO (no:Int) (xs:List Int):List Int:=xs.map fun x=>no - 1 - x
theorem KJ {no:Int} {xs:List Int}:lO no (lO no xs)=xs:=by
 unfold lO;rw [List.map_map]
 conv=>rhs; rw [← List.map_id xs]
 exact List.map_congr_left fun x _=>by show no - 1 - (no - 1 - x)=x; omega
noncomputable def loD (no:Int):D→D
 | .int x=>.int (no - 1 - x)
 | d=>d
theorem U8 {no:Int} {xs:List Int}:(xs.map D.int).map (loD no)=(lO no xs).map D.int:=by
 unfold lO;rw [List.map_map,List.map_map];rfl
theorem oP {W n:Nat} {no ba oc:Int} {fs:List (Int × Int × Bool)} {rs:List D} {xs:List Int} (hl:xs.length≤1000) :
  run T W (n+1) "line_over" [.sh (aA no ba oc fs rs),.ow (.lst (xs.map D.int)) true false]=some (.ok (.ow (.lst ((lO no xs).map D.int))),[.sh (aA no ba oc fs rs),.ow (.lst (xs.map D.int)) true false]):=by
 rw [bQ uO rfl rfl];unfold jY;have i0:gT (some (aA no ba oc fs rs)) (.int 0)=some (.sh (.int no)):=rfl
 obtain ⟨ρa,ea,t2,rfl,ht2⟩:=vZ (P:=T.pins) (C:=run T W n) (elt:=ev T.pins (run T W n) false kG) (bind:=a8 true [2]) (ds:=xs.map D.int)
  (loD no) (fun ρ=>∃ t2,ρ=[.sh (aA no ba oc fs rs),.un,t2]∧bY t2=true)
  (fun d hd ρ hρ=>by
   obtain ⟨t2,rfl,ht2⟩:=hρ;obtain ⟨x,hm,rfl⟩:=List.mem_map.mp hd;refine ⟨_,.sh (.int (no - 1 - x)),[.sh (aA no ba oc fs rs),.un,.sh (.int x)],by simp only [jU,bM ht2] <;> rfl, ?_,rfl,_,rfl,rfl⟩;unfold kG;clear hd hm ht2
   walk_at "w") (ρ:=[.sh (aA no ba oc fs rs),.un,.un]) ⟨_,rfl,rfl⟩
 rw [U8] at ea;have z1:aZ ((lO no xs).map D.int).length=true:=hX (by simp [lO]; omega);clear hl ht2
 walk_at "w"
 rw [VO (RR rfl)];simp only [aO,List.set_cons_zero,List.set_cons_succ]
 walk_at "w"
 simp only [kA,dB,List.getElem?_cons_zero,List.getElem?_cons_succ,List.set_cons_zero,List.set_cons_succ,Option.map_some]
 walk_at "w"
noncomputable def uE (no:Int):D→D
 | .int i=>.int (no - 1 - i)
 | d=>d
theorem oO {no:Int} {xs:List Int}:(lO no xs).length=xs.length:=by unfold lO; rw [List.length_map]
theorem JX {no:Int} {xs:List Int} (h:∀ x∈xs,0≤x∧x<no):∀ x∈lO no xs,0≤x∧x<no:=fun x hx=>by
 obtain ⟨y,hy,rfl⟩:=List.mem_map.mp hx
 have:=h y hy
 omega
theorem pO {no:Int} {xs:List Int} {i:Nat} (h:i<xs.length):gx (lO no xs) i=no - 1 - gx xs i:=by
 unfold gx lO;rw [List.getD_eq_getElem?_getD,List.getElem?_map,List.getD_eq_getElem?_getD,List.getElem?_eq_getElem h];rfl
theorem B6 {no b:Int} {xs:List Int} {f:Int × Int × Bool}:cM (lO no xs) b (fO no f)=uE no (cM xs b f):=by
 obtain ⟨l,s,t⟩:=f;simp only [cM,fO,vB,oO];by_cases h:0≤b - l∧b - l<(xs.length:Int)
 ·have hg:(lO no xs).getD (b - l).toNat 0=no - 1 - xs.getD (b - l).toNat 0:=pO (by omega);rw [if_pos h,if_pos h,hg];cases t
  ·show D.int _=D.int _;congr 1;simp only [Bool.false_eq_true,if_false];omega
  ·show D.int _=D.int _;congr 1;simp only [if_true];omega
 ·rw [if_neg h,if_neg h];rfl
theorem kQ {no b:Int} {xs:List Int} {fs:List (Int × Int × Bool)}:aP (fs.map (fO no)) (lO no xs) b=(aP fs xs b).map (uE no):=by
 unfold aP;show cM _ b (fO no (0,0,false)) :: (fs.map (fO no)).map (cM (lO no xs) b)=uE no (cM xs b (0,0,false)) :: (fs.map (cM xs b)).map (uE no);rw [B6,List.map_map,List.map_map];congr 1;exact List.map_congr_left fun f _=>B6
theorem eL {no:Int} {hs:List D} {j:Nat}:(hs.map (uE no)).getD j .non=uE no (hs.getD j .non):=by
 rw [List.getD_eq_getElem?_getD,List.getElem?_map,List.getD_eq_getElem?_getD];cases hs[j]? <;> rfl
theorem FO {no:Int} {d:D}:uD (uE no d)=uD d:=by cases d <;> rfl
theorem zP {no:Int} {hs:List D} {v w:Nat}:cP (hs.map (uE no)) v w=cP hs v w:=by
 unfold cP;rw [eL,eL,FO,FO]
theorem xW {hs:List D} (h:FC hs) (v:Nat):hs.getD v .non=.non∨∃ i,hs.getD v .non=.int i:=by
 rw [List.getD_eq_getElem?_getD]
 cases q:hs[v]? with
 | none=>exact .inl rfl
 | some d=>exact h d (List.mem_of_getElem? q)
theorem l3 {c x y:Int}:c - x - (c - y)=-(x - y):=by omega
theorem o6 {x:Int}:eA (-x)=eA x:=by unfold eA; split <;> split <;> omega
theorem vF {no oc i j:Int}:cY oc (no - 1 - i) (no - 1 - j)=cY oc i j:=by
 unfold cY;rw [l3,o6]
theorem O3 {no a sp ba oc b:Int} {fs:List (Int × Int × Bool)} {xs:List Int}:fQ a sp ba oc (fs.map (fO no)) (lO no xs) b=fQ a sp ba oc fs xs b:=by
 unfold fQ;rw [List.length_map,kQ];split
 ·refine sH fun v w _ _=>?_
  rw [zP]
  cases hs:cP (aP fs xs b) v w with
  | false=>rfl
  | true =>
   rw [Bool.true_and,Bool.true_and];unfold yR;unfold cP at hs;rw [Bool.and_eq_true] at hs;rw [eL,eL];rcases xW (fG (fs:=fs) (xs:=xs) (b:=b)) v with e1 | ⟨i,e1⟩
   ·rw [e1] at hs; exact absurd hs.1 (by decide)
   ·rcases xW (fG (fs:=fs) (xs:=xs) (b:=b)) w with e2 | ⟨j,e2⟩
    ·rw [e2] at hs; exact absurd hs.2 (by decide)
    ·rw [e1,e2];show mW sp (cY oc (no - 1 - i) (no - 1 - j))=mW sp (cY oc i j);rw [vF]
 ·rfl
theorem O8 {no a:Int} {xs:List Int} {b:Nat} (hb:b<xs.length):lQ a (lO no xs) b=lQ a xs b:=by
 cases b with
 | zero=>rfl
 | succ b =>
  show decide (a<eA (gx (lO no xs) (b+1) - gx (lO no xs) b))=decide (a<eA (gx xs (b+1) - gx xs b));rw [pO hb,pO (by omega),l3,o6]
theorem QR {no a c:Int} {xs:List Int} {b:Nat} (hb:b<xs.length):iW a c (lO no xs) b=iW a c xs b:=by
 obtain _ | _ | b:=b
 ·rfl
 ·rfl
 ·show (decide (a≤eA (gx (lO no xs) (b+1) - gx (lO no xs) b)) && !(decide ((gx (lO no xs) (b+1) - gx (lO no xs) b)*(gx (lO no xs) (b+2) - gx (lO no xs) (b+1))<0) && decide (eA (gx (lO no xs) (b+2) - gx (lO no xs) (b+1))≤c)))=_;rw [pO hb,pO (show b+1<xs.length by omega),pO (show b<xs.length by omega),l3,l3,o6,o6,Int.neg_mul_neg];rfl
theorem KP {no:Int} {k:Nat} {xs:List Int} {b:Nat} (hb:b<xs.length):fY k (lO no xs) b=fY k xs b:=by
 unfold fY vN;rw [pO hb];unfold lO;rw [← List.map_drop,← List.map_take,List.all_map]
 congr 2
 funext z
 show decide (no - 1 - z=no - 1 - gx xs b)=decide (z=gx xs b);congr 1;exact propext ⟨fun _=>by omega,fun _=>by omega⟩
theorem PY {no ba oc b i:Int} {fs:List (Int × Int × Bool)} {xs:List Int} {v:Nat} (ho:HouseOk no ba oc fs) (hx:∀ x∈xs,0≤x∧x<no) (h:(aP fs xs b).getD v .non=.int i):-20≤i∧i≤20:=by
 rcases pI (fs:=fs) (xs:=xs) (b:=b) (v:=v) with ⟨f,hf,q⟩ | q
 ·rw [q b] at h;have n2:=ho.n2
  have hv:-12≤f.2.1∧f.2.1≤12:=by
   rcases List.mem_cons.mp hf with rfl | hf
   ·exact ⟨by decide,by decide⟩
   ·exact ⟨(ho.f f hf).2.2.1,(ho.f f hf).2.2.2⟩
  unfold cM at h;split at h
  ·rename_i hc;have hl:(b - f.1).toNat<xs.length:=by omega
   have hm:=hx _ (tD hl);unfold gx at hm;have h:=D.int.inj h;split at h <;> omega
  ·cases h
 ·rw [q b] at h;cases h
theorem GW {no e:Int}:-60≤fS no e∧fS no e≤60:=by
 unfold fS
 split <;> split at*<;> omega
theorem IP {no lo hi i:Int} (n1:1≤no) (n2:no≤7) (h1:-20≤i) (h2:i≤20) (l1:-60≤lo) (l2:lo≤60) (k1:-60≤hi) (k2:hi≤60):j0 (fS no hi) (fS no lo) (.int (no - 1 - i))=j0 lo hi (.int i):=by
 show (!(decide (fS no hi≤no - 1 - i) && decide (no - 1 - i≤fS no lo)))=!(decide (lo≤i) && decide (i≤hi))
 have e1:decide (fS no hi≤no - 1 - i)=decide (i≤hi):=by
  congr 1;unfold fS;exact propext ⟨fun z=>by split at z <;> split at*<;> omega,fun z=>by split <;> split at*<;> omega⟩
 have e2:decide (no - 1 - i≤fS no lo)=decide (lo≤i):=by
  congr 1;unfold fS;exact propext ⟨fun z=>by split at z <;> split at*<;> omega,fun z=>by split <;> split at*<;> omega⟩
 rw [e1,e2,Bool.and_comm]
theorem zZ {no ba oc lo hi b:Int} {fs:List (Int × Int × Bool)} {xs:List Int} (ho:HouseOk no ba oc fs) (hx:∀ x∈xs,0≤x∧x<no) (l1:-60≤lo) (l2:lo≤60) (k1:-60≤hi) (k2:hi≤60) :
  kT (fS no hi) (fS no lo) (fs.map (fO no)) (lO no xs) b=kT lo hi fs xs b:=by
 unfold kT rY;rw [List.length_map,kQ];congr 1;refine List.filter_congr fun j _=>?_
 rw [eL];rcases xW (fG (fs:=fs) (xs:=xs) (b:=b)) j with e1 | ⟨i,e1⟩
 ·rw [e1]; rfl
 ·have:=PY ho hx e1
  rw [e1];exact IP ho.n1 ho.n2 this.1 this.2 l1 l2 k1 k2
theorem AO {no b:Int} {fs:List (Int × Int × Bool)} {xs:List Int} {v w:Nat}:nY (fs.map (fO no)) (lO no xs) b w v=(nY fs xs b v w).map List.reverse:=by
 unfold nY;rw [kQ,eL,eL]
 have key:jI (uE no ((aP fs xs b).getD w .non)) (uE no ((aP fs xs b).getD v .non))=jI ((aP fs xs b).getD v .non) ((aP fs xs b).getD w .non):=by
  rcases xW (fG (fs:=fs) (xs:=xs) (b:=b)) v with e1 | ⟨i,e1⟩ <;> rcases xW (fG (fs:=fs) (xs:=xs) (b:=b)) w with e2 | ⟨j,e2⟩ <;> rw [e1,e2]
  ·rfl
  ·rfl
  ·rfl
  ·show decide (no - 1 - j<no - 1 - i)=decide (i<j);congr 1;exact propext ⟨fun _=>by omega,fun _=>by omega⟩
 rw [key];unfold twoD
 split <;> rfl
theorem M4 {x:PySem.Str} {a b:Int}:lS x (-a) (-b)=lS x a b:=by
 unfold lS;have e1:decide (-a=0)=decide (a=0):=by congr 1; exact propext ⟨fun _=>by omega,fun _=>by omega⟩
 have e2:decide (-b=0)=decide (b=0):=by congr 1; exact propext ⟨fun _=>by omega,fun _=>by omega⟩
 rw [Int.neg_mul_neg,e1,e2]
theorem KW {no ba oc a c:Int} {x:PySem.Str} {fs:List (Int × Int × Bool)} {xs:List Int} {b:Nat} (ho:HouseOk no ba oc fs) (hx:∀ x∈xs,0≤x∧x<no) (hb:b<xs.length):kS a c oc x (fs.map (fO no)) (lO no xs) (b:Int)=kS a c oc x fs xs (b:Int):=by
 unfold kS;rw [List.length_map,kQ,kQ];refine sH fun v w hv hw=>?_
 rw [zP]
 cases hs:cP (aP fs xs ((b:Int) - 1)) v w with
 | false=>rfl
 | true =>
  rw [Bool.true_and,Bool.true_and];have hlen:=gR (fs:=fs) (xs:=xs) (b:=(b:Int));obtain ⟨i1,i2,j1,j2,_,_,_,_,e1,e2,e3,e4,_⟩:=GX (RE ho hx hb) (v:=v) (w:=w) (by omega) (by omega) hs;unfold sS;rw [eL,eL,eL,eL,e1,e2,e3,e4];show (decide (cY oc (no - 1 - i1) (no - 1 - i2)=a) && decide (cY oc (no - 1 - j1) (no - 1 - j2)=c) && lS x (no - 1 - j1 - (no - 1 - i1)) (no - 1 - j2 - (no - 1 - i2)))=_;rw [vF,vF,l3,l3,M4];rfl
noncomputable def jN:D→Bool
 | .tup (.str x :: _)=>x == "above"
 | _=>false
noncomputable def F0 (d:D) (L:List (List Int)):List (List Int):=if jN d=true then L.map List.reverse else L
def zD (no:Int) (p p':RP):Prop:=∀ (xs:List Int) (b:Nat),(∀ x∈xs,0≤x∧x<no)→b<xs.length→p'.2.2 (lO no xs) b=F0 p.1 (p.2.2 xs b)
theorem zC {x:PySem.Str} {r:List D} (h:(x == "above")=false):jN (.tup (.str x :: r))=false:=h
theorem tQ {x:PySem.Str} {r:List D} {L:List (List Int)} (h:(x == "above")=false):F0 (.tup (.str x :: r)) L=L:=by
 unfold F0;rw [zC h,if_neg (by decide)]
theorem RS {r:List D}:jN (.tup (.str "above" :: r))=true:=by
 show (("above":PySem.Str) == "above")=true
 decide +kernel
theorem GL {r:List D} {L:List (List Int)}:F0 (.tup (.str "above" :: r)) L=L.map List.reverse:=by
 unfold F0;rw [RS,if_pos rfl]
theorem aAW {no:Int} {d:D} (h:Sh8 d):jN (rO no d)=jN d:=by
 cases h with
 | oth x r h1 h2=>rw [oV h1 h2]
 | rng a b=>rw [oZ]; rfl
 | abv a b=>rw [n4]; rfl
def R3 (no ba oc:Int) (fs:List (Int × Int × Bool)) (rs rs' rs'':List D) (d:D) (p p' p'':RP):Prop :=
 (p.1=d∧p'.1=rO no d∧p''.1=rO no (rO no d))∧(RX no ba oc fs rs 0 p∧RX no ba oc (fs.map (fO no)) rs' 0 p'∧RX no ba oc ((fs.map (fO no)).map (fO no)) rs'' 0 p'')∧zD no p p'∧zD no p' p''
section
variable {no ba oc:Int} {fs:List (Int × Int × Bool)} {rs rs' rs'':List D}
theorem rX (ho:HouseOk no ba oc fs) (ho':HouseOk no ba oc (fs.map (fO no))) (ho'':HouseOk no ba oc ((fs.map (fO no)).map (fO no))) {x:PySem.Str} {r:List D} {o:D} {br:List (Int × Int × Bool)→Br} (h1:(x == "range")=false) (h2:(x == "above")=false)
  (R:∀ fs rs,HouseOk no ba oc fs→RX no ba oc fs rs 0 (.tup (.str x :: r),o,br fs)) (M:∀ fs xs b,HouseOk no ba oc fs→(∀ x∈xs,0≤x∧x<no)→b<xs.length→br (fs.map (fO no)) (lO no xs) b=br fs xs b):∃ p p' p'',R3 no ba oc fs rs rs' rs'' (.tup (.str x :: r)) p p' p'' :=
 ⟨_,_,_,⟨rfl,(oV h1 h2).symm,by rw [oV h1 h2,oV h1 h2]⟩,⟨R _ _ ho,R _ _ ho',R _ _ ho''⟩,fun xs b hx hb=>by rw [tQ h2]; exact M fs xs b ho hx hb,fun xs b hx hb=>by rw [tQ h2]; exact M (fs.map (fO no)) xs b ho' hx hb⟩
theorem aCN (ho:HouseOk no ba oc fs) (ho':HouseOk no ba oc (fs.map (fO no))) (ho'':HouseOk no ba oc ((fs.map (fO no)).map (fO no))) {d:D} (h:RuleD no ba oc (fs.length:Int) d):∃ p p' p'',R3 no ba oc fs rs rs' rs'' d p p' p'':=by
 cases h with
 | span a b h1 h2 h3 h4=>exact rX ho ho' ho'' (br:=fun fs xs b'=>fQ a b ba oc fs xs (b':Int)) iZ i5 (fun fs rs ho=>W5 ho h3) fun fs xs b' _ _ _=>O3
 | leap a h1 h2=>exact rX ho ho' ho'' (br:=fun fs xs b'=>dQ (lQ a xs b')) iU i6 (fun fs rs ho=>VQ) fun fs xs b' _ _ hb=>congrArg dQ (O8 hb)
 | back a b h1 h2 h3 h4=>exact rX ho ho' ho'' (br:=fun fs xs b'=>dQ (iW a b xs b')) iX iV (fun fs rs ho=>TB ho) fun fs xs b' _ _ hb=>congrArg dQ (QR hb)
 | again a h1 h2 =>
  obtain ⟨k,rfl⟩:∃ k:Nat,a=(k:Int):=⟨a.toNat,by omega⟩
  exact rX ho ho' ho'' (br:=fun fs xs b'=>dQ (fY k xs b')) iH iC (fun fs rs ho=>OR (by omega)) fun fs xs b' _ _ hb=>congrArg dQ (KP hb)
 | never a b x h1 h2 h3 h4 h5=>exact rX ho ho' ho'' (br:=fun fs xs b'=>kS a b oc x fs xs (b':Int)) iD iG (fun fs rs ho=>OI ho h5) fun fs xs b' ho hx hb=>KW ho hx hb
 | range a b h1 h2 h3 =>
  have e1:=GW (no:=no) (e:=a);have e2:=GW (no:=no) (e:=b);exact ⟨_,_,_,⟨rfl,oZ.symm,by rw [oZ,oZ]⟩,⟨vW ho,vW ho',vW ho''⟩,fun xs b' hx hb=>by rw [tQ eF]; exact zZ ho hx h1 (by omega) (by omega) h3,fun xs b' hx hb=>by rw [tQ eF]; exact zZ ho' hx e2.1 e2.2 e1.1 e1.2⟩
 | above v w h1 h2 h3 =>
  exact ⟨_,_,_,⟨rfl,n4.symm,by rw [n4,n4]⟩,⟨vH h1 h2,vH (by rw [List.length_map]; exact h2) (by rw [List.length_map]; exact h1),vH (by rw [List.length_map,List.length_map]; exact h1) (by rw [List.length_map,List.length_map]; exact h2)⟩,
   fun xs b' hx hb=>by rw [GL]; exact AO,fun xs b' hx hb=>by rw [GL]; exact AO⟩
inductive All2 (R:RP→RP→Prop):List RP→List RP→Prop
 | nil:All2 R [] []
 | cons {p q:RP} {ps qs:List RP} (h:R p q) (t:All2 R ps qs):All2 R (p :: ps) (q :: qs)
theorem MA (ho:HouseOk no ba oc fs) (ho':HouseOk no ba oc (fs.map (fO no))) (ho'':HouseOk no ba oc ((fs.map (fO no)).map (fO no))):∀ ds:List D,(∀ d∈ds,RuleD no ba oc (fs.length:Int) d) →
  ∃ ps ps' ps'':List RP,(ps.map (·.1)=ds∧ps'.map (·.1)=ds.map (rO no)∧ps''.map (·.1)=(ds.map (rO no)).map (rO no))∧((∀ p∈ps,RX no ba oc fs rs 0 p)∧(∀ p∈ps',RX no ba oc (fs.map (fO no)) rs' 0 p)∧∀ p∈ps'',RX no ba oc ((fs.map (fO no)).map (fO no)) rs'' 0 p)∧All2 (zD no) ps ps'∧All2 (zD no) ps' ps''
 | [],_=>⟨[],[],[],⟨rfl,rfl,rfl⟩,⟨fun _ z=>(nomatch z),fun _ z=>(nomatch z),fun _ z=>(nomatch z)⟩,.nil,.nil⟩
 | d :: ds,h=>by
  obtain ⟨ps,ps',ps'',⟨a1,a2,a3⟩,⟨b1,b2,b3⟩,c1,c2⟩:=MA ho ho' ho'' ds fun d' hd=>h d' (List.mem_cons_of_mem _ hd)
  obtain ⟨p,p',p'',⟨q1,q2,q3⟩,⟨r1,r2,r3⟩,s1,s2⟩:=aCN (rs:=rs) (rs':=rs') (rs'':=rs'') ho ho' ho'' (h d List.mem_cons_self);have mm:∀ {R:RP→Prop} {x:RP} {l:List RP},R x→(∀ p∈l,R p)→∀ p∈x :: l,R p:=fun h1 h2 p hp=>(List.mem_cons.mp hp).elim (fun z=>z ▸ h1) (h2 p)
  exact ⟨p :: ps,p' :: ps',p'' :: ps'',⟨by rw [List.map_cons,a1,q1],by rw [List.map_cons,List.map_cons,a2,q2],by rw [List.map_cons,List.map_cons,List.map_cons,a3,q3]⟩,⟨mm r1 b1,mm r2 b2,mm r3 b3⟩,.cons s1 c1,.cons s2 c2⟩
end
noncomputable def gN (rs:List D):D→D
 | .tup [.int b,.int k,.tup es]=>if jN (rs.getD k.toNat .non)=true then .tup [.int b,.int k,.tup es.reverse] else .tup [.int b,.int k,.tup es]
 | d=>d
theorem TF {no:Int} {xs:List Int} {b:Nat} {rs:List D} (hx:∀ x∈xs,0≤x∧x<no) (hb:b<xs.length) {ps ps':List RP} (h:All2 (zD no) ps ps'):∀ i:Nat,(∀ j p,ps[j]?=some p→rs.getD (i+j) .non=p.1)→dY (lO no xs) b i ps'=(dY xs b i ps).map (gN rs):=by
 induction h with
 | nil=>intro i _; rfl
 | @cons p q ps qs h t ih =>
  intro i hi;show sV (lO no xs) b i q ++ dY (lO no xs) b (i+1) qs=(sV xs b i p ++ dY xs b (i+1) ps).map (gN rs);rw [List.map_append,ih (i+1) fun j p' hp=>by rw [← hi (j+1) p' hp]; congr 1; omega];congr 1;have h0:=hi 0 p rfl;rw [Nat.add_zero] at h0;unfold sV aG;rw [h xs b hx hb,List.map_map,List.map_map,List.map_map];unfold F0;by_cases c:jN p.1=true
  ·rw [if_pos c,List.map_map];refine List.map_congr_left fun is _=>?_
   show D.tup [.int b,.int i,.tup (is.reverse.map D.int)]=gN rs (.tup [.int (b:Int),.int (i:Int),.tup (is.map D.int)]);simp only [gN,Int.toNat_natCast,h0,if_pos c,List.map_reverse]
  ·rw [if_neg c];refine List.map_congr_left fun is _=>?_
   show D.tup [.int b,.int i,.tup (is.map D.int)]=gN rs (.tup [.int (b:Int),.int (i:Int),.tup (is.map D.int)]);simp only [gN,Int.toNat_natCast,h0,if_neg c]
theorem o8 {no:Int} {xs:List Int} {rs:List D} (hx:∀ x∈xs,0≤x∧x<no) {ps ps':List RP} (h:All2 (zD no) ps ps') (hrs:ps.map (·.1)=rs):∀ n:Nat,n≤xs.length→cH ps' (lO no xs) n=(cH ps xs n).map (gN rs)
 | 0,_=>rfl
 | n+1,hn=>by
  rw [nI,nI,List.map_append,o8 hx h hrs n (by omega),TF (rs:=rs) hx (show n<xs.length by omega) h 0 fun j p hp=>by
   rw [← hrs,Nat.zero_add,List.getD_eq_getElem?_getD,List.getElem?_map,hp]
   rfl]
theorem LB {xs:List Int} {b:Nat} {d:D}:∀ (qs:List RP) (i:Nat),d∈dY xs b i qs→∃ j is,d=gW b j is∧j<i+qs.length
 | [],_,h=>nomatch h
 | p :: qs,i,h=>by
  rcases List.mem_append.mp (show d∈sV xs b i p ++ dY xs b (i+1) qs from h) with h | h
  ·unfold sV aG at h;rw [List.map_map] at h;obtain ⟨is,_,rfl⟩:=List.mem_map.mp h;exact ⟨i,is,rfl,by simp⟩
  ·obtain ⟨j,is,e,hj⟩:=LB qs (i+1) h;exact ⟨j,is,e,by simp at *; omega⟩
theorem U9 {ps:List RP} {xs:List Int} {n:Nat} {d:D} (h:d∈cH ps xs n):∃ b j is,d=gW b j is∧j<ps.length:=by
 obtain ⟨b,_,h⟩:=List.mem_flatMap.mp h;obtain ⟨j,is,e,hj⟩:=LB _ _ h;exact ⟨b,j,is,e,by omega⟩
theorem MY {no:Int} {rs:List D} (hr:∀ d∈rs,Sh8 d) (k:Nat):jN ((rs.map (rO no)).getD k .non)=jN (rs.getD k .non):=by
 rw [List.getD_eq_getElem?_getD,List.getElem?_map,List.getD_eq_getElem?_getD]
 cases q:rs[k]? with
 | none=>rfl
 | some d=>exact aAW (hr d (List.mem_of_getElem? q))
theorem aBk {no:Int} {rs:List D} (hr:∀ d∈rs,Sh8 d) {b j:Nat} {is:List Int}:gN (rs.map (rO no)) (gN rs (gW b j is))=gW b j is:=by
 unfold gW;simp only [gN,Int.toNat_natCast];by_cases c:jN (rs.getD j .non)=true
 ·simp only [if_pos c,gN,Int.toNat_natCast,MY hr,List.reverse_reverse]
 ·simp only [if_neg c,gN,Int.toNat_natCast,MY hr]
theorem ZW {rs:List D} {b j:Nat} {is:List Int}:bD 19 (gN rs (gW b j is))=true:=by
 unfold gW;simp only [gN]
 split <;> simp [bD]
theorem C5 {W n:Nat} {no ba oc:Int} {fs:List (Int × Int × Bool)} {rs L:List D} (hr:∀ d∈rs,Sh8 d) (hL:∀ d∈L,∃ b j is,d=gW b j is∧j<rs.length) (hl:L.length≤900000) :
  run T W (n+1) "L_crossed" [.sh (aA no ba oc fs rs),.ow (.lst L) true false]=some (.ok (.ow (.lst (L.map (gN rs)))),[.sh (aA no ba oc fs rs),.ow (.lst L) true false]):=by
 rw [bQ uP rfl rfl];unfold jQ;have i4:gT (some (aA no ba oc fs rs)) (.int 4)=some (.sh (.tup rs)):=rfl
 obtain ⟨ρ1,e1,t3,t4,t5,rfl,ht3,ht4,ht5⟩:=eW (bind:=a8 false [3,4,5]) (body:=exs T.pins (run T W n) W kE)
  (fun pre ρ=>∃ t3 t4 t5,ρ=[.sh (aA no ba oc fs rs),.un,.ow (.lst (pre.map (gN rs))) false false,t3,t4,t5]∧bY t3=true∧bY t4=true∧bY t5=true)
  (ds:=L) (fun pre d post hds ρ hρ=>by
   obtain ⟨t3,t4,t5,rfl,ht3,ht4,ht5⟩:=hρ;obtain ⟨b,j,is,rfl,hj⟩:=hL d (by rw [hds]; simp)
   have hpl:aZ ((pre.map (gN rs)).length+1)=true:=hX (by
    have:=congrArg List.length hds
    simp at *
    omega)
   refine ⟨[.sh (aA no ba oc fs rs),.un,.ow (.lst (pre.map (gN rs))) false false,.sh (.int (b:Int)),.sh (.int (j:Int)),.sh (.tup (is.map D.int))],by simp only [gW,tM,tP,x5,JC,ME,List.getElem?_cons_zero,List.getElem?_cons_succ,bM ht3,bM ht4,bM ht5,List.set_cons_zero,List.set_cons_succ] <;> rfl, ?_⟩;rw [List.map_append,List.map_cons,List.map_nil];have hx:gT (some (.tup rs)) (.int (j:Int))=some (.sh rs[j]):=aDz (by rw [show L2.cX rs (j:Int)=rs[j]? from rR,List.getElem?_eq_getElem hj]);have hs:=hr rs[j] (List.getElem_mem hj);have hg:rs.getD j .non=rs[j]:=by rw [List.getD_eq_getElem?_getD,List.getElem?_eq_getElem hj]; rfl
   have hc:gN rs (gW b j is)=if jN rs[j]=true then .tup [.int b,.int j,.tup (is.map D.int).reverse] else .tup [.int b,.int j,.tup (is.map D.int)]:=by
    unfold gW;simp only [gN,Int.toNat_natCast,hg]
   rw [hc];unfold kE;clear hds hL hr ht3 ht4 ht5 hg hc
   generalize rs[j]=q at *
   cases hs with
   | oth x r h1 h2 =>
    have e2:=wW h2;have e0:=tU (x:=x) (r:=r);rw [zC h2,if_neg (by decide)];clear h1 h2
    walk_at "w"
    exact ⟨_,rfl,_,_,_,rfl,rfl,rfl,rfl⟩
   | rng a c =>
    have e2:=wW eF;have e0:=tU (x:="range") (r:=[.int a,.int c]);rw [zC eF,if_neg (by decide)]
    walk_at "w"
    exact ⟨_,rfl,_,_,_,rfl,rfl,rfl,rfl⟩
   | abv a c =>
    have e2:=HR (x:="above");have e0:=tU (x:="above") (r:=[.int a,.int c]);rw [RS,if_pos rfl]
    walk_at "w"
    exact ⟨_,rfl,_,_,_,rfl,rfl,rfl,rfl⟩)
  (ρ:=[.sh (aA no ba oc fs rs),.un,.ow (.lst []) false false,.un,.un,.un]) ⟨_,_,_,rfl,rfl,rfl,rfl⟩
 have hi:aI .of [.slot 1] [.sh (aA no ba oc fs rs),.ow (.lst L) true false,.ow (.lst []) false false,.un,.un,.un]=some (L,some 1):=RR rfl;clear hr hL hl ht3 ht4 ht5
 walk_at "w"
 simp only [aO,List.set_cons_zero,List.set_cons_succ,e1,bN.restore,dB,List.getElem?_cons_zero,List.getElem?_cons_succ,Option.map_some]
 walk_at "w"
theorem GG {ρ:Env}:j7 jP (some (⟨"NoHouse"⟩,ρ))=some (.rt (.sh .non),ρ):=PF sN
theorem uF {W n:Nat} {H H':D} (h:run T W (n+1) "turned_over" [.sh H]=some (.ok (.sh H'),[.sh H])):run T W (n+2) "L_turned" [.sh H]=some (.ok (.sh H'),[.sh H]):=by
 rw [bQ pK rfl rfl];unfold iQ
 (have w0:=@GG; walk_at "w"; try clear w0)
theorem EL {W n:Nat} {H:D} (h:run T W (n+1) "turned_over" [.sh H]=some (.ex ⟨"NoHouse"⟩,[.sh H])):run T W (n+2) "L_turned" [.sh H]=some (.ok (.sh .non),[.sh H]):=by
 rw [bQ pK rfl rfl];unfold iQ
 (have w0:=@GG; walk_at "w"; try clear w0)
noncomputable def RQ:D→Bool
 | .tup [.int _,.int _,.bl t]=>t
 | _=>false
theorem QD {no:Int} {fs:List (Int × Int × Bool)} (hf:∀ f∈fs,0≤f.1∧f.1≤4∧-12≤f.2.1∧f.2.1≤12) (h:¬ ∀ f∈fs,mV no f):∃ d ds,((fs.map bV).filter RQ).map id=d :: ds∧bD 20 (.lst (d :: ds))=true:=by
 rw [List.map_id]
 cases q:(fs.map bV).filter RQ with
 | cons d ds =>
  refine ⟨d,ds,rfl, ?_⟩;simp only [bD,List.all_eq_true];intro e he;rw [← q] at he;obtain ⟨f,_,rfl⟩:=List.mem_map.mp (List.mem_filter.mp he).1;simp [bD,bV]
 | nil =>
  refine absurd (fun f hm=>?_) h
  have:=List.filter_eq_nil_iff.mp q (bV f) (List.mem_map.mpr ⟨f,hm,rfl⟩)
  have ht:f.2.2=false:=by
   cases e:f.2.2 with
   | false=>rfl
   | true=>exact absurd e this
  have:=hf f hm
  unfold mV vB;rw [ht];simp only [Bool.false_eq_true,if_false];omega
theorem FD {no ba oc:Int} {fs:List (Int × Int × Bool)} (ho:HouseOk no ba oc fs) (h:∀ f∈fs,mV no f):HouseOk no ba oc (fs.map (fO no)) :=
 ⟨ho.n1,ho.n2,ho.b1,ho.b2,ho.o1,ho.o2,by rw [List.length_map]; exact ho.l1,by rw [List.length_map]; exact ho.l2,fun g hg=>by
  obtain ⟨f,hf,rfl⟩:=List.mem_map.mp hg;have h1:=ho.f f hf;have h2:=h f hf
  exact ⟨h1.1,h1.2.1,h2.1,h2.2⟩⟩
theorem X0 {no:Int} {f:Int × Int × Bool}:fO no (fO no f)=f:=by
 obtain ⟨l,s,t⟩:=f;cases t
 ·show (l,0 - (0 - s),false)=_;rw [show 0 - (0 - s)=s by omega]
 ·show (l,2*(no - 1) - (2*(no - 1) - s),true)=_;rw [show 2*(no - 1) - (2*(no - 1) - s)=s by omega]
theorem UQ {no ba oc:Int} {fs:List (Int × Int × Bool)} (ho:HouseOk no ba oc fs):∀ g∈fs.map (fO no),mV no g:=fun g hg=>by
 obtain ⟨f,hf,rfl⟩:=List.mem_map.mp hg
 have:=congrArg (fun x:Int × Int × Bool=>x.2.1) (X0 (no:=no) (f:=f))
 have e:vB no (fO no f)=f.2.1:=this;unfold mV;rw [e];exact ⟨(ho.f f hf).2.2.1,(ho.f f hf).2.2.2⟩
theorem VU {no ba oc ma:Int} {d:D} (h:Sh8 d):Sh8 (rO no d):=by
 cases h with
 | oth x r h1 h2=>rw [oV h1 h2]; exact .oth x r h1 h2
 | rng a b=>rw [oZ]; exact .rng _ _
 | abv a b=>rw [n4]; exact .abv _ _
theorem okC {A:List D} {rs:List D} (h:∀ d∈A,∃ b j is,d=gW b j is∧j<rs.length):bD 20 (.lst (A.map (gN rs)))=true:=by
 simp only [bD,List.all_eq_true];intro e he;obtain ⟨d,hd,rfl⟩:=List.mem_map.mp he;obtain ⟨b,j,is,rfl,_⟩:=h d hd;exact ZW
theorem OC {tests elt:Env→aE RV} {bind:D→Env→Option Env} {ds:List D} (keep:D→Bool) (val:D→D) (J:Env→Prop)
  (step:∀ d∈ds,∀ ρ,J ρ→∃ ρ1 ρ2,bind d ρ=some ρ1∧tests ρ1=some (.ok (.sh (.bl (keep d))),ρ2)∧(keep d=true→∃ v ρ3,elt ρ2=some (.ok v,ρ3)∧v.d=val d∧J ρ3)∧(keep d=false→J ρ2)) {ρ:Env} (h:J ρ) :
  ∃ ρ',d8 tests elt bind ds [] ρ=some (.ok ((ds.filter keep).map val),ρ')∧J ρ':=by
 obtain ⟨acc,ρ',e,⟨rfl,hJ⟩,_⟩:=gY (tests:=tests) (elt:=elt) (bind:=bind) (ds:=ds) (fun j acc ρ=>acc=((ds.take j).filter keep).map val∧J ρ)
  (fun j d hd acc ρ ⟨ha,hJ⟩=>by
   obtain ⟨ρ1,ρ2,h1,h2,h3,h4⟩:=step d (List.mem_of_getElem? hd) ρ hJ;refine ⟨ρ1,keep d,ρ2,h1,h2,fun hk=>?_,fun hk=>⟨?_,h4 hk⟩⟩
   ·obtain ⟨v,ρ3,h5,h6,h7⟩:=h3 hk;refine ⟨v,ρ3,h5, ?_,h7⟩;rw [ha,h6,List.take_add_one,hd];simp [List.filter_append,hk]
   ·rw [ha,List.take_add_one,hd]
    simp [List.filter_append,hk]) [] ρ ⟨by simp,h⟩
 refine ⟨ρ', ?_,hJ⟩;rw [e,List.take_length]
theorem YS {W:Nat} {ns:List Int} {no ba oc p1 p2 p3 p4 s1 s2:Int} {fs:List (Int × Int × Bool)} {rs:List D} {xs:List Int} (hp1:run T W 29 "L_pen" [.sh (.lst (ns.map .int)),.sh (.int 1)]=some (.ok (.ow (.lst [.int p1,.int p2])),[.sh (.lst (ns.map .int)),.sh (.int 1)]))
  (hp2:run T W 29 "L_pen" [.sh (.lst (ns.map .int)),.sh (.int 2)]=some (.ok (.ow (.lst [.int p3,.int p4])),[.sh (.lst (ns.map .int)),.sh (.int 2)])) (eh:run T W 29 "L_house" [.ow (.lst [.int p1,.int p2]) true false]=some (.ok (.sh (aA no ba oc fs rs)),[.ow (.lst [.int p1,.int s1]) true false]))
  (el:run T W 29 "L_line" [.ow (.lst [.int p3,.int p4]) true false,.sh (.int no),.sh (.int 20)]=some (.ok (.ow (.lst (xs.map D.int))),[.ow (.lst [.int p3,.int s2]) true false,.sh (.int no),.sh (.int 20)])) (ho:HouseOk no ba oc fs) (hall:¬ ∀ f∈fs,mV no f) :
  ∃ as',run T W 30 "law" [.sh (.lst (ns.map .int))]=some (.ok (.sh (.bl true)),as'):=by
 rw [bQ BN rfl rfl];unfold oX;have i0:gT (some (aA no ba oc fs rs)) (.int 0)=some (.sh (.int no)):=rfl;have i3:gT (some (aA no ba oc fs rs)) (.int 3)=some (.sh (.tup (fs.map bV))):=rfl;have tk:=EL (W:=W) (n:=27) (MO (W:=W) (n:=24) (ba:=ba) (oc:=oc) (rs:=rs) hall ho.l2)
 obtain ⟨ρ3,e3,u1,rfl,hu1⟩:=OC (tests:=dC T.pins (run T W 29) [.ix (.var 1) (.con (.int 2))]) (elt:=ev T.pins (run T W 29) false vM) (bind:=a8 true [1]) (ds:=fs.map bV)
  RQ id (fun ρ=>∃ u1,ρ=[.un,u1]∧bY u1=true)
  (fun d hd ρ hρ=>by
   obtain ⟨u1,rfl,hu1⟩:=hρ;obtain ⟨⟨l,s,t⟩,hm,rfl⟩:=List.mem_map.mp hd;refine ⟨[.un,.sh (bV (l,s,t))],[.un,.sh (bV (l,s,t))],by simp only [jU,bM hu1] <;> rfl, ?_,fun _=>⟨.sh (bV (l,s,t)),[.un,.sh (bV (l,s,t))], ?_,rfl,_,rfl,rfl⟩,fun _=>⟨_,rfl,rfl⟩⟩
   ·show (_:aE RV)=some (Out.ok (RV.sh (.bl t)),_);unfold bV;clear hd hm hu1 hp1 hp2 eh el tk ho hall;cases t <;> walk_at "w"
   ·unfold vM;clear hd hm hu1 hp1 hp2 eh el tk ho hall
    walk_at "w") (ρ:=[.un,.un]) ⟨_,rfl,rfl⟩
 obtain ⟨d,ds,hz,hok⟩:=QD ho.f hall
 have z1:aZ (((fs.map bV).filter RQ).map id).length=true:=hX (by
  have:=ho.l2
  rw [List.length_map];refine Nat.le_trans (List.length_filter_le _ _) ?_;rw [List.length_map]
  omega)
 have hne:cN .NotEq (.lst (d :: ds)) (.lst [])=some true:=by
  rw [aAq hok rfl];rfl
 rw [hz] at e3 z1;rw [List.length_cons] at z1;clear hz hall hok hu1 ho
 walk_at "w"
 rw [fC (tR rfl)]
 walk_at "w"
 rw [B5 rfl]
 walk_at "w"
 exact ⟨_,rfl⟩
theorem law_spec (W:Nat) (ns:List Int) (hn:ns.length≤63):∃ as',run T W 30 "law" [.sh (.lst (ns.map .int))]=some (.ok (.sh (.bl true)),as'):=by
 have hp1:=DG (W:=W) (n:=28) (k:=1) hn (by omega);have hp2:=DG (W:=W) (n:=28) (k:=2) hn (by omega);replace hp1:run T W 29 "L_pen" [.sh (.lst (ns.map .int)),.sh (.int 1)]=some (.ok (.ow (.lst [.int (gF ns 1).1,.int (gF ns 1).2])),[.sh (.lst (ns.map .int)),.sh (.int 1)]):=hp1;replace hp2:run T W 29 "L_pen" [.sh (.lst (ns.map .int)),.sh (.int 2)]=some (.ok (.ow (.lst [.int (gF ns 2).1,.int (gF ns 2).2])),[.sh (.lst (ns.map .int)),.sh (.int 2)]):=hp2
 generalize (gF ns 1).1=p1 at *
 generalize (gF ns 1).2=p2 at *
 generalize (gF ns 2).1=p3 at *
 generalize (gF ns 2).2=p4 at *
 obtain ⟨s1,no,ba,oc,fs,rs,eh,ho,hrl,hr⟩:=IL (W:=W) (n:=26) (k:=p1) (s:=p2);replace eh:run T W (26+3) "L_house" [.ow (.lst [.int p1,.int p2]) true false]=some (.ok (.sh (aA no ba oc fs rs)),[.ow (.lst [.int p1,.int s1]) true false]):=eh;obtain ⟨s2,xs,el,hxl,hx⟩:=LV (W:=W) (n:=27) (k:=p3) (s:=p4) (no:=no) (mo:=20) (by have:=ho.n1; omega) (by have:=ho.n2; omega) (by decide) (by decide);by_cases hall:∀ f∈fs,mV no f
 ·rw [bQ BN rfl rfl];unfold oX;have ho':=FD ho hall;have hall':=UQ ho;have ho'':=FD ho' hall';have hsh:∀ d∈rs,Sh8 d:=fun d hd=>YI (hr d hd)
  have hsh':∀ d∈rs.map (rO no),Sh8 d:=fun d hd=>by
   obtain ⟨e,he,rfl⟩:=List.mem_map.mp hd;exact VU (ba:=ba) (oc:=oc) (ma:=0) (hsh e he)
  obtain ⟨ps,ps',ps'',⟨a1,a2,a3⟩,⟨b1,b2,b3⟩,c1,c2⟩:=MA (rs:=rs) (rs':=rs.map (rO no)) (rs'':=(rs.map (rO no)).map (rO no)) ho ho' ho'' rs hr;have lx:xs.length≤80:=by omega
  have k1:=pX (W:=W) (n:=23) a1 b1 hrl hx lx;have k2:=pX (W:=W) (n:=23) a2 b2 (by rw [List.length_map]; exact hrl) (JX hx) (by rw [oO]; exact lx);have k3:=pX (W:=W) (n:=23) a3 b3 (by rw [List.length_map,List.length_map]; exact hrl) hx lx;have t1:=DD (W:=W) (n:=22) a1 b1 hrl hx lx;have t2:=DD (W:=W) (n:=22) a2 b2 (by rw [List.length_map]; exact hrl) (JX hx) (by rw [oO]; exact lx);have m1:cH ps' (lO no xs) (lO no xs).length=(cH ps xs xs.length).map (gN rs):=by rw [oO]; exact o8 hx c1 a1 _ (Nat.le_refl _)
  have hA:∀ d∈cH ps xs xs.length,∃ b j is,d=gW b j is∧j<rs.length:=fun d hd=>by
   obtain ⟨b,j,is,e,hj⟩:=U9 hd;exact ⟨b,j,is,e,by rw [← a1,List.length_map]; exact hj⟩
  have m2:cH ps'' xs xs.length=cH ps xs xs.length:=by
   have:=o8 (JX hx) c2 a2 xs.length (by rw [oO]; exact Nat.le_refl _)
   rw [KJ] at this;rw [this,o8 hx c1 a1 _ (Nat.le_refl _),List.map_map]
   conv=>rhs; rw [← List.map_id (cH ps xs xs.length)]
   refine List.map_congr_left fun d hd=>?_
   obtain ⟨b,j,is,rfl,_⟩:=hA d hd;exact aBk hsh
  have hAl:(cH ps xs xs.length).length≤900000:=by
   have:=y4 (xs:=xs) b1 (by rw [← a1,List.length_map] at hrl; exact hrl) xs.length
   omega
  have cr:=C5 (W:=W) (n:=28) (no:=no) (ba:=ba) (oc:=oc) (fs:=fs) hsh hA hAl;have ok1:=okC hA;have ok2:=V4 (xs:=xs) (n:=xs.length) b1;rw [m1] at k2 t2;rw [m2] at k3;have e1:((cH ps xs xs.length).map (gN rs)).isEmpty=(cH ps xs xs.length).isEmpty:=by cases cH ps xs xs.length <;> rfl
  rw [e1] at t2;have l1:=oP (W:=W) (n:=28) (no:=no) (ba:=ba) (oc:=oc) (fs:=fs) (rs:=rs) (xs:=xs) (by omega);have l2:=oP (W:=W) (n:=28) (no:=no) (ba:=ba) (oc:=oc) (fs:=fs.map (fO no)) (rs:=rs.map (rO no)) (xs:=lO no xs) (by rw [oO]; omega);rw [KJ] at l2;have tk1:=uF (W:=W) (n:=27) (AK (W:=W) (n:=24) (ba:=ba) (oc:=oc) hall ho.l2 hsh (by omega));have tk2:=uF (W:=W) (n:=27) (AK (W:=W) (n:=24) (ba:=ba) (oc:=oc) hall' ho'.l2 hsh' (by rw [List.length_map]; omega));have i0:gT (some (aA no ba oc fs rs)) (.int 0)=some (.sh (.int no)):=rfl;have n1:cN .Is (aA no ba oc (fs.map (fO no)) (rs.map (rO no))) .non=some false:=rfl;have n2:cN .IsNot (aA no ba oc ((fs.map (fO no)).map (fO no)) ((rs.map (rO no)).map (rO no))) .non=some true:=rfl;have q1:=R1 ok1;have q2:=RW ok2
  generalize (cH ps xs xs.length).map (gN rs)=A' at *
  generalize cH ps xs xs.length=A at *
  have q3:cN .NotEq (.bl A.isEmpty) (.bl A.isEmpty)=some false:=R1 rfl
  generalize A.isEmpty=bb at *
  generalize aA no ba oc ((fs.map (fO no)).map (fO no)) ((rs.map (rO no)).map (rO no))=H2 at *
  generalize aA no ba oc (fs.map (fO no)) (rs.map (rO no))=H1 at *
  generalize aA no ba oc fs rs=H0 at *
  generalize lO no xs=ys at *
  clear hn hall hall' ho ho' ho'' hr hrl hsh hsh' hxl hx lx a1 a2 a3 b1 b2 b3 c1 c2 m1 m2 hA hAl ok1 ok2 e1
  walk_at "w"
  exact ⟨_,rfl⟩
 ·exact YS hp1 hp2 eh el ho hall
end Mx
namespace PySem.W.Fast
def tw10151141248487067156:=0
def tw10167910961978238922:=0
def tw1019013767153377138:=0
def tw10348530599225873863:=0
def tw10428864474445959177:=0
def tw10458305046616749396:=0
def tw10689807545341420605:=0
def tw10707413759400662180:=0
def tw10772644428745341194:=0
def tw10787439458581504086:=0
def tw10813016896055421002:=0
def tw10826394478938684010:=0
def tw10914073292725474155:=0
def tw1092304057716248812:=0
def tw10965631626014587085:=0
def tw10970712612072778091:=0
def tw10984257705163209272:=0
def tw10988046016811259240:=0
def tw1108082880833078261:=0
def tw11107331826240191615:=0
def tw11313182220741378136:=0
def tw11330128332577639645:=0
def tw11412542426947406728:=0
def tw11437998714070399946:=0
def tw11450351937409334264:=0
def tw11465432152361874123:=0
def tw11476886605380432977:=0
def tw11532194449408184213:=0
def tw11549475912588251073:=0
def tw11601044433227510336:=0
def tw11705890650145884095:=0
def tw11897376693275867873:=0
def tw11910044160405436771:=0
def tw11944035122365029980:=0
def tw1198660204760806157:=0
def tw12090623027819154709:=0
def tw12092096956815673932:=0
def tw12108246887698202335:=0
def tw12293435557292867399:=0
def tw12373095106271993650:=0
def tw12450182273187499494:=0
def tw1249528233250165074:=0
def tw12523026117494842029:=0
def tw12526303574276087528:=0
def tw12549016452826602678:=0
def tw12584593835894319746:=0
def tw125941166920074214:=0
def tw1261699713781422962:=0
def tw1266714414346933635:=0
def tw12715315703110481146:=0
def tw12732842075973276436:=0
def tw12756337655876265863:=0
def tw12771625468119716593:=0
def tw12797060780650919800:=0
def tw12821708298759965588:=0
def tw12828241741434197745:=0
def tw12866020676158482641:=0
def tw12869754948130413449:=0
def tw12920239906865279109:=0
def tw12953182631264047529:=0
def tw12977495536240483813:=0
def tw13019072292882486255:=0
def tw13047631461018065259:=0
def tw13068458179094265762:=0
def tw13185200369888295277:=0
def tw13242897589065485216:=0
def tw13295338732843982491:=0
def tw13301507403650038105:=0
def tw13328282617892282500:=0
def tw13341723238236819333:=0
def tw13490987534591593659:=0
def tw1349803180558909520:=0
def tw135284791952660475:=0
def tw13547982346710393497:=0
def tw13663985328258138388:=0
def tw13714732985164915594:=0
def tw13818873283886644315:=0
def tw13859446787956411997:=0
def tw1396425316855879398:=0
def tw14048347022885267763:=0
def tw14111828822733172856:=0
def tw14132107943760425012:=0
def tw14180129068065077796:=0
def tw14214116341238087170:=0
def tw14277517037301150554:=0
def tw14279504765467289342:=0
def tw1443801904916266118:=0
def tw14464242312582748468:=0
def tw14495833976581345958:=0
def tw14543963307220407106:=0
def tw14617944756042140217:=0
def tw1469221643846945165:=0
def tw14698993179243992846:=0
def tw14704086228261815906:=0
def tw14709354790415869462:=0
def tw1484351715547072051:=0
def tw14856175785506877812:=0
def tw14874035297578574151:=0
def tw14874852113888076039:=0
def tw14919577667996131721:=0
def tw1505300288460448483:=0
def tw15117945047967000717:=0
def tw15249334818871566795:=0
def tw15343492728276996840:=0
def tw15367168452542738271:=0
def tw15447986492235251344:=0
def tw15687410797672207018:=0
def tw15756368480712968623:=0
def tw15790470930425473135:=0
def tw15861579046783151505:=0
def tw15872736989344943027:=0
def tw1596812564687157203:=0
def tw15973150079818732723:=0
def tw15988584135390342633:=0
def tw16025540655165320126:=0
def tw16093857535089620979:=0
def tw16102730745157529297:=0
def tw16141037566650787638:=0
def tw16226843909118617996:=0
def tw16334684191407792808:=0
def tw16358982858421797029:=0
def tw16434415063297198695:=0
def tw16441460139478029820:=0
def tw16495657421620507746:=0
def tw16520150964408586461:=0
def tw16554275847743953609:=0
def tw16573082970654220722:=0
def tw16590369053535146691:=0
def tw16651011960275323619:=0
def tw16995730712251190411:=0
def tw17000017492097596518:=0
def tw17173968420294254514:=0
def tw17266748266979779018:=0
def tw17293488600845408027:=0
def tw17387990917157933038:=0
def tw17408085206506640569:=0
def tw17424439011133621930:=0
def tw17431257370371472439:=0
def tw17457111573145005144:=0
def tw17458133105359006556:=0
def tw1746025853767232989:=0
def tw17460803843080523273:=0
def tw17480859561054378901:=0
def tw17536456803828648696:=0
def tw17686197078718411845:=0
def tw17708949630354906797:=0
def tw17723980715472124050:=0
def tw17728745627609109234:=0
def tw17741795659680152947:=0
def tw17765395849924353596:=0
def tw17816309964596714772:=0
def tw17928771770551826541:=0
def tw1799502837846464003:=0
def tw18042036192035864301:=0
def tw18188161789635251214:=0
def tw18216113122585916717:=0
def tw18227268959816128623:=0
def tw18403522268285429680:=0
def tw1857948641588033903:=0
def tw1876604254138201917:=0
def tw1978122111519238326:=0
def tw2026166230932984062:=0
def tw2085056119313669268:=0
def tw2092542692510860698:=0
def tw24688249969413515:=0
def tw2497176304388232509:=0
def tw2513427420763100772:=0
def tw2547865491416120152:=0
def tw262326334517907916:=0
def tw2697306103074516751:=0
def tw2713014066532124262:=0
def tw2751639460068116891:=0
def tw2761495223145255038:=0
def tw2941407385837878014:=0
def tw302403410148241885:=0
def tw306477021848633635:=0
def tw3254040931828519687:=0
def tw3257071717472227201:=0
def tw3390885032697005239:=0
def tw349262945692773322:=0
def tw360432759601262287:=0
def tw3666976945789912914:=0
def tw3687486460639124113:=0
def tw3727586700252113023:=0
def tw3739540151271674979:=0
def tw3809988232789048022:=0
def tw3816499086830162754:=0
def tw3853561131613992939:=0
def tw3892106209481825432:=0
def tw4056012223241725474:=0
def tw405772059796830000:=0
def tw4207562768656480113:=0
def tw4271735733820731903:=0
def tw4288472013544893609:=0
def tw4301785286107745986:=0
def tw4416193728103201095:=0
def tw4505561528736813236:=0
def tw4520841886002654814:=0
def tw4688922099960429950:=0
def tw4709845072247413796:=0
def tw4798460948374610219:=0
def tw4819813996438012767:=0
def tw4844121574011854186:=0
def tw4844764661458613853:=0
def tw4897815651450419199:=0
def tw5093578282282816012:=0
def tw5169486420499179844:=0
def tw5338078829752075092:=0
def tw538198501942651355:=0
def tw5385492564853621492:=0
def tw5402100933768727274:=0
def tw541482097075139192:=0
def tw5471049260603170021:=0
def tw5527282460197934883:=0
def tw5606911957090787491:=0
def tw5638081938021361898:=0
def tw5782487208370594583:=0
def tw582488012900115440:=0
def tw5886703889873161537:=0
def tw600859360064742979:=0
def tw6013600740078691262:=0
def tw63427399823660394:=0
def tw6344578675454845593:=0
def tw6389901826203244439:=0
def tw6725839605640359128:=0
def tw6806225984900505005:=0
def tw6825272430116209733:=0
def tw6918706417438878537:=0
def tw6934540346765848175:=0
def tw7157061860252634294:=0
def tw7276293386774072004:=0
def tw7276402949352288051:=0
def tw7303244005192960104:=0
def tw7306660270042505610:=0
def tw7325469867587742497:=0
def tw7347907294099788395:=0
def tw7479857076530759596:=0
def tw7531301794827566415:=0
def tw7532720385397609965:=0
def tw7569185040936128501:=0
def tw7676280717161628969:=0
def tw7717583722339346340:=0
def tw7757280120620512858:=0
def tw7772673559006284731:=0
def tw7869101746034798651:=0
def tw7907164991157282234:=0
def tw8053263253115516773:=0
def tw8069001923909462273:=0
def tw8147735843374218245:=0
def tw8174792186440333818:=0
def tw8226634254767779637:=0
def tw8288789358261093887:=0
def tw8316012103126310233:=0
def tw8329362001095866904:=0
def tw8361355447592043294:=0
def tw840917314858284783:=0
def tw8512903572476577461:=0
def tw8524640141871975676:=0
def tw8644299435787575504:=0
def tw8653274100150740570:=0
def tw8669440919743883388:=0
def tw8710854598277167198:=0
def tw8718203167576403434:=0
def tw8737771363570957327:=0
def tw8746221497935816507:=0
def tw8789287520931168034:=0
def tw8803360523559819002:=0
def tw888008669167449508:=0
def tw8899464835066105069:=0
def tw8976650897792965751:=0
def tw8984155338189805161:=0
def tw9097161494080602100:=0
def tw9132758105296185246:=0
def tw9148374486345833994:=0
def tw9220175654195274824:=0
def tw9301310864963827102:=0
def tw9346761028565776218:=0
def tw9377358150443531575:=0
def tw945713661052908758:=0
def tw9483366226872378419:=0
def tw95279007035982144:=0
def tw9626162592838972531:=0
def tw9681397995118406258:=0
def tw9807644991082855778:=0
def tw9848580402921347066:=0
def tw9868131680056154341:=0
def tw9892435559907804644:=0
def tw9922070320003145450:=0
end PySem.W.Fast
open PySem PySem.W PyProof.Rows
set_option maxRecDepth 100000 in
set_option maxHeartbeats 0 in
theorem PySem.Challenge.cw_canonwright_k60_whole_turned_over_holds : PySem.Challenge.rw_canonwright_k60_whole_turned_over.Holds := by
 w_on; o_law; k_head; (case hw=>w_witness2)
 k_fill
 refine CI.QY (l:=PySem.Challenge.rw_canonwright_k60_whole_turned_over) (T:=Tx.T) (L:=Tx.L) (st:=Tx.top 58) (fn:=Tx.oX) (W:=1000000) (n:=30) (x:="law") (p:="_law_script") (f:="law") rfl rfl ⟨rfl,by decide,by decide,rfl⟩ rfl Tx.BN Tx.J7 (by decide +kernel) (fun w h Y=>PySem.W.kIn_of Y) ?factF ?mathM
 case mathM=>exact Mx.law_spec _
 case factF =>
  intro w mg h KX G
  have K_Span:CI.ClsAt (L2.aC KX) "Span":=by
   refine' CI.mR ?a ?pg ?hd ?po ?sa ?mk ?kp
   (case a | pg | hd | po | sa | mk | kp=>dsimp only [L2.aC]; k_is)
  have I_Span:CI.MthAt (L2.aC KX) "Span" "__init__" "Span.__init__" (Tx.cJ 36 0):=by
   refine' CI.cI ?a ?b ?i ?l ?c ?k
   (case a | b | i | l | c | k=>dsimp only [L2.aC]; k_is)
  have N_Span_beat:CI.jE (L2.aC KX) "Span" "beat":=by
   refine' CI.iA ?a ?b
   (case a | b=>dsimp only [L2.aC]; k_is)
  have N_Span_spans:CI.jE (L2.aC KX) "Span" "spans":=by
   refine' CI.iA ?a ?b
   (case a | b=>dsimp only [L2.aC]; k_is)
  have K_Leap:CI.ClsAt (L2.aC KX) "Leap":=by
   refine' CI.mR ?a ?pg ?hd ?po ?sa ?mk ?kp
   (case a | pg | hd | po | sa | mk | kp=>dsimp only [L2.aC]; k_is)
  have I_Leap:CI.MthAt (L2.aC KX) "Leap" "__init__" "Leap.__init__" (Tx.cJ 37 0):=by
   refine' CI.cI ?a ?b ?i ?l ?c ?k
   (case a | b | i | l | c | k=>dsimp only [L2.aC]; k_is)
  have N_Leap_most:CI.jE (L2.aC KX) "Leap" "most":=by
   refine' CI.iA ?a ?b
   (case a | b=>dsimp only [L2.aC]; k_is)
  have K_Back:CI.ClsAt (L2.aC KX) "Back":=by
   refine' CI.mR ?a ?pg ?hd ?po ?sa ?mk ?kp
   (case a | pg | hd | po | sa | mk | kp=>dsimp only [L2.aC]; k_is)
  have I_Back:CI.MthAt (L2.aC KX) "Back" "__init__" "Back.__init__" (Tx.cJ 38 0):=by
   refine' CI.cI ?a ?b ?i ?l ?c ?k
   (case a | b | i | l | c | k=>dsimp only [L2.aC]; k_is)
  have N_Back_leap:CI.jE (L2.aC KX) "Back" "leap":=by
   refine' CI.iA ?a ?b
   (case a | b=>dsimp only [L2.aC]; k_is)
  have N_Back_most:CI.jE (L2.aC KX) "Back" "most":=by
   refine' CI.iA ?a ?b
   (case a | b=>dsimp only [L2.aC]; k_is)
  have K_Again:CI.ClsAt (L2.aC KX) "Again":=by
   refine' CI.mR ?a ?pg ?hd ?po ?sa ?mk ?kp
   (case a | pg | hd | po | sa | mk | kp=>dsimp only [L2.aC]; k_is)
  have I_Again:CI.MthAt (L2.aC KX) "Again" "__init__" "Again.__init__" (Tx.cJ 39 0):=by
   refine' CI.cI ?a ?b ?i ?l ?c ?k
   (case a | b | i | l | c | k=>dsimp only [L2.aC]; k_is)
  have N_Again_most:CI.jE (L2.aC KX) "Again" "most":=by
   refine' CI.iA ?a ?b
   (case a | b=>dsimp only [L2.aC]; k_is)
  have K_Range:CI.ClsAt (L2.aC KX) "Range":=by
   refine' CI.mR ?a ?pg ?hd ?po ?sa ?mk ?kp
   (case a | pg | hd | po | sa | mk | kp=>dsimp only [L2.aC]; k_is)
  have I_Range:CI.MthAt (L2.aC KX) "Range" "__init__" "Range.__init__" (Tx.cJ 40 0):=by
   refine' CI.cI ?a ?b ?i ?l ?c ?k
   (case a | b | i | l | c | k=>dsimp only [L2.aC]; k_is)
  have N_Range_low:CI.jE (L2.aC KX) "Range" "low":=by
   refine' CI.iA ?a ?b
   (case a | b=>dsimp only [L2.aC]; k_is)
  have N_Range_high:CI.jE (L2.aC KX) "Range" "high":=by
   refine' CI.iA ?a ?b
   (case a | b=>dsimp only [L2.aC]; k_is)
  have K_Above:CI.ClsAt (L2.aC KX) "Above":=by
   refine' CI.mR ?a ?pg ?hd ?po ?sa ?mk ?kp
   (case a | pg | hd | po | sa | mk | kp=>dsimp only [L2.aC]; k_is)
  have I_Above:CI.MthAt (L2.aC KX) "Above" "__init__" "Above.__init__" (Tx.cJ 41 0):=by
   refine' CI.cI ?a ?b ?i ?l ?c ?k
   (case a | b | i | l | c | k=>dsimp only [L2.aC]; k_is)
  have N_Above_one:CI.jE (L2.aC KX) "Above" "one":=by
   refine' CI.iA ?a ?b
   (case a | b=>dsimp only [L2.aC]; k_is)
  have N_Above_other:CI.jE (L2.aC KX) "Above" "other":=by
   refine' CI.iA ?a ?b
   (case a | b=>dsimp only [L2.aC]; k_is)
  have K_Never:CI.ClsAt (L2.aC KX) "Never":=by
   refine' CI.mR ?a ?pg ?hd ?po ?sa ?mk ?kp
   (case a | pg | hd | po | sa | mk | kp=>dsimp only [L2.aC]; k_is)
  have I_Never:CI.MthAt (L2.aC KX) "Never" "__init__" "Never.__init__" (Tx.cJ 42 0):=by
   refine' CI.cI ?a ?b ?i ?l ?c ?k
   (case a | b | i | l | c | k=>dsimp only [L2.aC]; k_is)
  have N_Never_one:CI.jE (L2.aC KX) "Never" "one":=by
   refine' CI.iA ?a ?b
   (case a | b=>dsimp only [L2.aC]; k_is)
  have N_Never_other:CI.jE (L2.aC KX) "Never" "other":=by
   refine' CI.iA ?a ?b
   (case a | b=>dsimp only [L2.aC]; k_is)
  have N_Never_way:CI.jE (L2.aC KX) "Never" "way":=by
   refine' CI.iA ?a ?b
   (case a | b=>dsimp only [L2.aC]; k_is)
  have D_Span_broken:CI.MthAt (L2.aC KX) "Span" "broken" "Span.broken" (Tx.cJ 36 1):=by
   refine' CI.cI ?a ?b ?i ?l ?c ?k
   (case a | b | i | l | c | k=>dsimp only [L2.aC]; k_is)
  have D_Span_forbids:CI.MthAt (L2.aC KX) "Span" "forbids" "Span.forbids" (Tx.cJ 36 2):=by
   refine' CI.cI ?a ?b ?i ?l ?c ?k
   (case a | b | i | l | c | k=>dsimp only [L2.aC]; k_is)
  have D_Span_told:CI.MthAt (L2.aC KX) "Span" "told" "Span.told" (Tx.cJ 36 3):=by
   refine' CI.cI ?a ?b ?i ?l ?c ?k
   (case a | b | i | l | c | k=>dsimp only [L2.aC]; k_is)
  have D_Leap_broken:CI.MthAt (L2.aC KX) "Leap" "broken" "Leap.broken" (Tx.cJ 37 1):=by
   refine' CI.cI ?a ?b ?i ?l ?c ?k
   (case a | b | i | l | c | k=>dsimp only [L2.aC]; k_is)
  have D_Leap_told:CI.MthAt (L2.aC KX) "Leap" "told" "Leap.told" (Tx.cJ 37 2):=by
   refine' CI.cI ?a ?b ?i ?l ?c ?k
   (case a | b | i | l | c | k=>dsimp only [L2.aC]; k_is)
  have D_Back_broken:CI.MthAt (L2.aC KX) "Back" "broken" "Back.broken" (Tx.cJ 38 1):=by
   refine' CI.cI ?a ?b ?i ?l ?c ?k
   (case a | b | i | l | c | k=>dsimp only [L2.aC]; k_is)
  have D_Back_told:CI.MthAt (L2.aC KX) "Back" "told" "Back.told" (Tx.cJ 38 2):=by
   refine' CI.cI ?a ?b ?i ?l ?c ?k
   (case a | b | i | l | c | k=>dsimp only [L2.aC]; k_is)
  have D_Again_broken:CI.MthAt (L2.aC KX) "Again" "broken" "Again.broken" (Tx.cJ 39 1):=by
   refine' CI.cI ?a ?b ?i ?l ?c ?k
   (case a | b | i | l | c | k=>dsimp only [L2.aC]; k_is)
  have D_Again_told:CI.MthAt (L2.aC KX) "Again" "told" "Again.told" (Tx.cJ 39 2):=by
   refine' CI.cI ?a ?b ?i ?l ?c ?k
   (case a | b | i | l | c | k=>dsimp only [L2.aC]; k_is)
  have D_Range_broken:CI.MthAt (L2.aC KX) "Range" "broken" "Range.broken" (Tx.cJ 40 1):=by
   refine' CI.cI ?a ?b ?i ?l ?c ?k
   (case a | b | i | l | c | k=>dsimp only [L2.aC]; k_is)
  have D_Range_forbids:CI.MthAt (L2.aC KX) "Range" "forbids" "Range.forbids" (Tx.cJ 40 2):=by
   refine' CI.cI ?a ?b ?i ?l ?c ?k
   (case a | b | i | l | c | k=>dsimp only [L2.aC]; k_is)
  have D_Range_told:CI.MthAt (L2.aC KX) "Range" "told" "Range.told" (Tx.cJ 40 3):=by
   refine' CI.cI ?a ?b ?i ?l ?c ?k
   (case a | b | i | l | c | k=>dsimp only [L2.aC]; k_is)
  have D_Above_broken:CI.MthAt (L2.aC KX) "Above" "broken" "Above.broken" (Tx.cJ 41 1):=by
   refine' CI.cI ?a ?b ?i ?l ?c ?k
   (case a | b | i | l | c | k=>dsimp only [L2.aC]; k_is)
  have D_Above_told:CI.MthAt (L2.aC KX) "Above" "told" "Above.told" (Tx.cJ 41 2):=by
   refine' CI.cI ?a ?b ?i ?l ?c ?k
   (case a | b | i | l | c | k=>dsimp only [L2.aC]; k_is)
  have D_Never_broken:CI.MthAt (L2.aC KX) "Never" "broken" "Never.broken" (Tx.cJ 42 1):=by
   refine' CI.cI ?a ?b ?i ?l ?c ?k
   (case a | b | i | l | c | k=>dsimp only [L2.aC]; k_is)
  have D_Never_told:CI.MthAt (L2.aC KX) "Never" "told" "Never.told" (Tx.cJ 42 2):=by
   refine' CI.cI ?a ?b ?i ?l ?c ?k
   (case a | b | i | l | c | k=>dsimp only [L2.aC]; k_is)
  have D__wall:CI.DefAt (L2.aC KX) "_wall" (Tx.top 0):=by
   refine' CI.bO ?a ?l ?c ?k
   (case a | l | c | k=>dsimp only [L2.aC]; k_is)
  have D_is_whole:CI.DefAt (L2.aC KX) "is_whole" (Tx.top 14):=by
   refine' CI.bO ?a ?l ?c ?k
   (case a | l | c | k=>dsimp only [L2.aC]; k_is)
  have D_is_within:CI.DefAt (L2.aC KX) "is_within" (Tx.top 15):=by
   refine' CI.bO ?a ?l ?c ?k
   (case a | l | c | k=>dsimp only [L2.aC]; k_is)
  have D_with_parts:CI.DefAt (L2.aC KX) "with_parts" (Tx.top 19):=by
   refine' CI.bO ?a ?l ?c ?k
   (case a | l | c | k=>dsimp only [L2.aC]; k_is)
  have D_follower_over:CI.DefAt (L2.aC KX) "follower_over" (Tx.top 20):=by
   refine' CI.bO ?a ?l ?c ?k
   (case a | l | c | k=>dsimp only [L2.aC]; k_is)
  have D_end_over:CI.DefAt (L2.aC KX) "end_over" (Tx.top 21):=by
   refine' CI.bO ?a ?l ?c ?k
   (case a | l | c | k=>dsimp only [L2.aC]; k_is)
  have D_rule_over:CI.DefAt (L2.aC KX) "rule_over" (Tx.top 22):=by
   refine' CI.bO ?a ?l ?c ?k
   (case a | l | c | k=>dsimp only [L2.aC]; k_is)
  have D_turned_over:CI.DefAt (L2.aC KX) "turned_over" (Tx.top 23):=by
   refine' CI.bO ?a ?l ?c ?k
   (case a | l | c | k=>dsimp only [L2.aC]; k_is)
  have D_line_over:CI.DefAt (L2.aC KX) "line_over" (Tx.top 24):=by
   refine' CI.bO ?a ?l ?c ?k
   (case a | l | c | k=>dsimp only [L2.aC]; k_is)
  have D_pitch:CI.DefAt (L2.aC KX) "pitch" (Tx.top 26):=by
   refine' CI.bO ?a ?l ?c ?k
   (case a | l | c | k=>dsimp only [L2.aC]; k_is)
  have D_singer:CI.DefAt (L2.aC KX) "singer" (Tx.top 27):=by
   refine' CI.bO ?a ?l ?c ?k
   (case a | l | c | k=>dsimp only [L2.aC]; k_is)
  have D_sung:CI.DefAt (L2.aC KX) "sung" (Tx.top 28):=by
   refine' CI.bO ?a ?l ?c ?k
   (case a | l | c | k=>dsimp only [L2.aC]; k_is)
  have D_span:CI.DefAt (L2.aC KX) "span" (Tx.top 29):=by
   refine' CI.bO ?a ?l ?c ?k
   (case a | l | c | k=>dsimp only [L2.aC]; k_is)
  have D_chord:CI.DefAt (L2.aC KX) "chord" (Tx.top 30):=by
   refine' CI.bO ?a ?l ?c ?k
   (case a | l | c | k=>dsimp only [L2.aC]; k_is)
  have D_sounding_pairs:CI.DefAt (L2.aC KX) "sounding_pairs" (Tx.top 33):=by
   refine' CI.bO ?a ?l ?c ?k
   (case a | l | c | k=>dsimp only [L2.aC]; k_is)
  have D_move_so:CI.DefAt (L2.aC KX) "move_so" (Tx.top 34):=by
   refine' CI.bO ?a ?l ?c ?k
   (case a | l | c | k=>dsimp only [L2.aC]; k_is)
  have D_rule_of:CI.DefAt (L2.aC KX) "rule_of" (Tx.top 43):=by
   refine' CI.bO ?a ?l ?c ?k
   (case a | l | c | k=>dsimp only [L2.aC]; k_is)
  have D_rules_of:CI.DefAt (L2.aC KX) "rules_of" (Tx.top 45):=by
   refine' CI.bO ?a ?l ?c ?k
   (case a | l | c | k=>dsimp only [L2.aC]; k_is)
  have D_breaks_at:CI.DefAt (L2.aC KX) "breaks_at" (Tx.top 46):=by
   refine' CI.bO ?a ?l ?c ?k
   (case a | l | c | k=>dsimp only [L2.aC]; k_is)
  have D_breaks:CI.DefAt (L2.aC KX) "breaks" (Tx.top 47):=by
   refine' CI.bO ?a ?l ?c ?k
   (case a | l | c | k=>dsimp only [L2.aC]; k_is)
  have D_first_break:CI.DefAt (L2.aC KX) "first_break" (Tx.top 48):=by
   refine' CI.bO ?a ?l ?c ?k
   (case a | l | c | k=>dsimp only [L2.aC]; k_is)
  have D_is_let_by:CI.DefAt (L2.aC KX) "is_let_by" (Tx.top 49):=by
   refine' CI.bO ?a ?l ?c ?k
   (case a | l | c | k=>dsimp only [L2.aC]; k_is)
  have D_L_pen:CI.DefAt (L2.aC KX) "_law_pen" (Tx.top 51):=by
   refine' CI.bO ?a ?l ?c ?k
   (case a | l | c | k=>dsimp only [L2.aC]; k_is)
  have D_L_draw:CI.DefAt (L2.aC KX) "_law_draw" (Tx.top 52):=by
   refine' CI.bO ?a ?l ?c ?k
   (case a | l | c | k=>dsimp only [L2.aC]; k_is)
  have D_L_rule:CI.DefAt (L2.aC KX) "_law_rule" (Tx.top 53):=by
   refine' CI.bO ?a ?l ?c ?k
   (case a | l | c | k=>dsimp only [L2.aC]; k_is)
  have D_L_house:CI.DefAt (L2.aC KX) "_law_house" (Tx.top 54):=by
   refine' CI.bO ?a ?l ?c ?k
   (case a | l | c | k=>dsimp only [L2.aC]; k_is)
  have D_L_line:CI.DefAt (L2.aC KX) "_law_line" (Tx.top 55):=by
   refine' CI.bO ?a ?l ?c ?k
   (case a | l | c | k=>dsimp only [L2.aC]; k_is)
  have D_L_turned:CI.DefAt (L2.aC KX) "_law_turned" (Tx.top 56):=by
   refine' CI.bO ?a ?l ?c ?k
   (case a | l | c | k=>dsimp only [L2.aC]; k_is)
  have D_L_crossed:CI.DefAt (L2.aC KX) "_law_crossed" (Tx.top 57):=by
   refine' CI.bO ?a ?l ?c ?k
   (case a | l | c | k=>dsimp only [L2.aC]; k_is)
  have D_law:CI.DefAt (L2.aC KX) "law" (Tx.top 58):=by
   refine' CI.bO ?a ?l ?c ?k
   (case a | l | c | k=>dsimp only [L2.aC]; k_is)
  have C_NOTES:CI.cW (L2.aC KX) mg Tx.T (CI.aX Tx.L) ("NOTES",.con (.int 0)):=by
   refine' CI.f6 KX G ?a
   (case a=>dsimp only [L2.aC]; k_is)
  have C_BAR:CI.cW (L2.aC KX) mg Tx.T (CI.aX Tx.L) ("BAR",.con (.int 1)):=by
   refine' CI.f6 KX G ?a
   (case a=>dsimp only [L2.aC]; k_is)
  have C_OCTAVE:CI.cW (L2.aC KX) mg Tx.T (CI.aX Tx.L) ("OCTAVE",.con (.int 2)):=by
   refine' CI.f6 KX G ?a
   (case a=>dsimp only [L2.aC]; k_is)
  have C_VOICES:CI.cW (L2.aC KX) mg Tx.T (CI.aX Tx.L) ("VOICES",.con (.int 3)):=by
   refine' CI.f6 KX G ?a
   (case a=>dsimp only [L2.aC]; k_is)
  have C_RULES:CI.cW (L2.aC KX) mg Tx.T (CI.aX Tx.L) ("RULES",.con (.int 4)):=by
   refine' CI.f6 KX G ?a
   (case a=>dsimp only [L2.aC]; k_is)
  have C_LATE:CI.cW (L2.aC KX) mg Tx.T (CI.aX Tx.L) ("LATE",.con (.int 0)):=by
   refine' CI.f6 KX G ?a
   (case a=>dsimp only [L2.aC]; k_is)
  have C_SHIFT:CI.cW (L2.aC KX) mg Tx.T (CI.aX Tx.L) ("SHIFT",.con (.int 1)):=by
   refine' CI.f6 KX G ?a
   (case a=>dsimp only [L2.aC]; k_is)
  have C_TURNED:CI.cW (L2.aC KX) mg Tx.T (CI.aX Tx.L) ("TURNED",.con (.int 2)):=by
   refine' CI.f6 KX G ?a
   (case a=>dsimp only [L2.aC]; k_is)
  have C_LEADER:CI.cW (L2.aC KX) mg Tx.T (CI.aX Tx.L) ("LEADER",.con (.tup [(.int 0),(.int 0),(.bl false)])):=by
   refine' CI.FW KX G ?a ?l ?c ?z
   (case a | l=>dsimp only [L2.aC]; k_is)
   (case c=>first | rfl | decide +kernel)
   (case z=>rfl)
  have C_MOST_SHIFT:CI.cW (L2.aC KX) mg Tx.T (CI.aX Tx.L) ("MOST_SHIFT",.con (.int 12)):=by
   refine' CI.f6 KX G ?a
   (case a=>dsimp only [L2.aC]; k_is)
  have C_FURTHEST:CI.cW (L2.aC KX) mg Tx.T (CI.aX Tx.L) ("FURTHEST",.con (.int 60)):=by
   refine' CI.f6 KX G ?a
   (case a=>dsimp only [L2.aC]; k_is)
  have C_BY_THE_LINE:CI.cW (L2.aC KX) mg Tx.T (CI.aX Tx.L) ("BY_THE_LINE",.con (.tup [])):=by
   refine' CI.FW KX G ?a ?l ?c ?z
   (case a | l=>dsimp only [L2.aC]; k_is)
   (case c=>first | rfl | decide +kernel)
   (case z=>rfl)
  have B_abs:CI.cW (L2.aC KX) mg Tx.T (CI.aX Tx.L) ("abs",.blt):=by
   refine' CI.gS KX G ?a
   (case a=>dsimp only [L2.aC]; k_is)
  have B_all:CI.cW (L2.aC KX) mg Tx.T (CI.aX Tx.L) ("all",.blt):=by
   refine' CI.gS KX G ?a
   (case a=>dsimp only [L2.aC]; k_is)
  have B_bool:CI.cW (L2.aC KX) mg Tx.T (CI.aX Tx.L) ("bool",.blt):=by
   refine' CI.gS KX G ?a
   (case a=>dsimp only [L2.aC]; k_is)
  have B_enumerate:CI.cW (L2.aC KX) mg Tx.T (CI.aX Tx.L) ("enumerate",.blt):=by
   refine' CI.gS KX G ?a
   (case a=>dsimp only [L2.aC]; k_is)
  have B_int:CI.cW (L2.aC KX) mg Tx.T (CI.aX Tx.L) ("int",.blt):=by
   refine' CI.gS KX G ?a
   (case a=>dsimp only [L2.aC]; k_is)
  have B_isinstance:CI.cW (L2.aC KX) mg Tx.T (CI.aX Tx.L) ("isinstance",.blt):=by
   refine' CI.gS KX G ?a
   (case a=>dsimp only [L2.aC]; k_is)
  have B_len:CI.cW (L2.aC KX) mg Tx.T (CI.aX Tx.L) ("len",.blt):=by
   refine' CI.gS KX G ?a
   (case a=>dsimp only [L2.aC]; k_is)
  have B_max:CI.cW (L2.aC KX) mg Tx.T (CI.aX Tx.L) ("max",.blt):=by
   refine' CI.gS KX G ?a
   (case a=>dsimp only [L2.aC]; k_is)
  have B_min:CI.cW (L2.aC KX) mg Tx.T (CI.aX Tx.L) ("min",.blt):=by
   refine' CI.gS KX G ?a
   (case a=>dsimp only [L2.aC]; k_is)
  have B_range:CI.cW (L2.aC KX) mg Tx.T (CI.aX Tx.L) ("range",.blt):=by
   refine' CI.gS KX G ?a
   (case a=>dsimp only [L2.aC]; k_is)
  have B_tuple:CI.cW (L2.aC KX) mg Tx.T (CI.aX Tx.L) ("tuple",.blt):=by
   refine' CI.gS KX G ?a
   (case a=>dsimp only [L2.aC]; k_is)
  have X_NoHouse:CI.ExcK (L2.aC KX) "NoHouse":=by
   refine' CI.VR ?a ?xq ?ga ?no ?cl ?gt ?tk ?mo ?mb ?mv
   (case a | ga | no | cl | gt | tk | mo | mb | mv=>dsimp only [L2.aC]; k_is)
   (case xq=>dsimp only [L2.aC]; k_exc)
  have M_NoHouse_NoHouse:CI.MroK (L2.aC KX) "NoHouse" "NoHouse":=by
   refine' CI.UK ?a ?b ?m
   (case a | b | m=>dsimp only [L2.aC]; k_is)
  refine ⟨D_law, ?_⟩;unfold Tx.L;refine CI.fc (C_NOTES) ?_;refine CI.fc (C_BAR) ?_;refine CI.fc (C_OCTAVE) ?_;refine CI.fc (C_VOICES) ?_;refine CI.fc (C_RULES) ?_;refine CI.fc (C_LATE) ?_;refine CI.fc (C_SHIFT) ?_;refine CI.fc (C_TURNED) ?_;refine CI.fc (C_LEADER) ?_;refine CI.fc (C_MOST_SHIFT) ?_;refine CI.fc (C_FURTHEST) ?_;refine CI.fc (C_BY_THE_LINE) ?_;refine CI.fc (CI.bB KX G D__wall Tx.QP Tx.WZ) ?_;refine CI.fc (CI.bB KX G D_is_whole Tx.EW Tx.xZ) ?_;refine CI.fc (CI.bB KX G D_is_within Tx.DZ Tx.nR) ?_;refine CI.fc (CI.bB KX G D_with_parts Tx.AU Tx.sR) ?_;refine CI.fc (CI.bB KX G D_follower_over Tx.vJ Tx.jS) ?_;refine CI.fc (CI.bB KX G D_end_over Tx.E5 Tx.wO) ?_;refine CI.fc (CI.bB KX G D_rule_over Tx.DU Tx.u0) ?_;refine CI.fc (CI.bB KX G D_turned_over Tx.yN Tx.lC) ?_;refine CI.fc (CI.bB KX G D_line_over Tx.DO Tx.uO) ?_;refine CI.fc (CI.bB KX G D_pitch Tx.P2 Tx.GK) ?_;refine CI.fc (CI.bB KX G D_singer Tx.KU Tx.CM) ?_;refine CI.fc (CI.bB KX G D_sung Tx.V9 Tx.K5) ?_;refine CI.fc (CI.bB KX G D_span Tx.WU Tx.MB) ?_;refine CI.fc (CI.bB KX G D_chord Tx.QQ Tx.GC) ?_;refine CI.fc (CI.bB KX G D_sounding_pairs Tx.uB Tx.mE) ?_;refine CI.fc (CI.bB KX G D_move_so Tx.HG Tx.zT) ?_;refine CI.fc (CI.bB KX G D_rule_of Tx.JR Tx.fF) ?_;refine CI.fc (CI.bB KX G D_rules_of Tx.EK Tx.wK) ?_;refine CI.fc (CI.bB KX G D_breaks_at Tx.D9 Tx.vC) ?_;refine CI.fc (CI.bB KX G D_breaks Tx.LS Tx.B4) ?_;refine CI.fc (CI.bB KX G D_first_break Tx.zI Tx.qT) ?_;refine CI.fc (CI.bB KX G D_is_let_by Tx.BY Tx.uU) ?_;refine CI.fc (CI.bB KX G D_L_pen Tx.N8 Tx.GO) ?_;refine CI.fc (CI.bB KX G D_L_draw Tx.J6 Tx.CH) ?_;refine CI.fc (CI.bB KX G D_L_rule Tx.K1 Tx.DW) ?_;refine CI.fc (CI.bB KX G D_L_house Tx.JN Tx.z7) ?_;refine CI.fc (CI.bB KX G D_L_line Tx.J1 Tx.C8) ?_;refine CI.fc (CI.bB KX G D_L_turned Tx.EM Tx.pK) ?_;refine CI.fc (CI.bB KX G D_L_crossed Tx.CT Tx.uP) ?_;refine CI.fc (CI.bB KX G D_law Tx.J7 Tx.BN) ?_;refine CI.fc (CI.mT KX G K_Span I_Span Tx.NV (CI.fc (N_Span_beat) (CI.fc (N_Span_spans) (fun _ h=>nomatch h)))) ?_;refine CI.fc (CI.mT KX G K_Leap I_Leap Tx.OT (CI.fc (N_Leap_most) (fun _ h=>nomatch h))) ?_;refine CI.fc (CI.mT KX G K_Back I_Back Tx.QG (CI.fc (N_Back_leap) (CI.fc (N_Back_most) (fun _ h=>nomatch h)))) ?_;refine CI.fc (CI.mT KX G K_Again I_Again Tx.LZ (CI.fc (N_Again_most) (fun _ h=>nomatch h))) ?_;refine CI.fc (CI.mT KX G K_Range I_Range Tx.LN (CI.fc (N_Range_low) (CI.fc (N_Range_high) (fun _ h=>nomatch h)))) ?_;refine CI.fc (CI.mT KX G K_Above I_Above Tx.KY (CI.fc (N_Above_one) (CI.fc (N_Above_other) (fun _ h=>nomatch h)))) ?_;refine CI.fc (CI.mT KX G K_Never I_Never Tx.KA (CI.fc (N_Never_one) (CI.fc (N_Never_other) (CI.fc (N_Never_way) (fun _ h=>nomatch h))))) ?_;refine List.forall_mem_cons.mpr ⟨⟨"broken",rfl,by unfold Tx.dN; exact CI.fc (CI.d7 K_Span D_Span_broken Tx.yF Tx.qR) (CI.fc (CI.d7 K_Leap D_Leap_broken Tx.yP Tx.qP) (CI.fc (CI.d7 K_Back D_Back_broken Tx.yC Tx.rL) (CI.fc (CI.d7 K_Again D_Again_broken Tx.wG Tx.oY) (CI.fc (CI.d7 K_Range D_Range_broken Tx.xI Tx.oQ) (CI.fc (CI.d7 K_Above D_Above_broken Tx.xP Tx.oR) (CI.fc (CI.d7 K_Never D_Never_broken Tx.xA Tx.oB) (fun _ h=>nomatch h)))))))⟩, ?_⟩;refine List.forall_mem_cons.mpr ⟨⟨"forbids",rfl,by unfold Tx.eU; exact CI.fc (CI.d7 K_Span D_Span_forbids Tx.wU Tx.oG) (CI.fc (CI.d7 K_Range D_Range_forbids Tx.vI Tx.m8) (fun _ h=>nomatch h))⟩, ?_⟩;refine List.forall_mem_cons.mpr ⟨⟨"told",rfl,by unfold Tx.FK; exact CI.fc (CI.d7 K_Span D_Span_told Tx.BU Tx.EX) (CI.fc (CI.d7 K_Leap D_Leap_told Tx.CZ Tx.EF) (CI.fc (CI.d7 K_Back D_Back_told Tx.B0 Tx.ES) (CI.fc (CI.d7 K_Again D_Again_told Tx.A3 Tx.B7) (CI.fc (CI.d7 K_Range D_Range_told Tx.AV Tx.DH) (CI.fc (CI.d7 K_Above D_Above_told Tx.AX Tx.CU) (CI.fc (CI.d7 K_Never D_Never_told Tx.A7 Tx.DA) (fun _ h=>nomatch h)))))))⟩, ?_⟩;refine CI.fc (B_abs) ?_;refine CI.fc (B_all) ?_;refine CI.fc (B_bool) ?_;refine CI.fc (B_enumerate) ?_;refine CI.fc (B_int) ?_;refine CI.fc (B_isinstance) ?_;refine CI.fc (B_len) ?_;refine CI.fc (B_max) ?_;refine CI.fc (B_min) ?_;refine CI.fc (B_range) ?_;refine CI.fc (B_tuple) ?_;refine CI.fc (CI.aBj KX G X_NoHouse) ?_;refine CI.fc (CI.aBx KX G X_NoHouse (by unfold Tx.jP; exact CI.fc (M_NoHouse_NoHouse) (fun _ h=>nomatch h))) ?_
  exact fun _ h=>nomatch h
