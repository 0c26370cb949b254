import PyProof.Rows.All
import Wide.All
import OpenK.AllK
import Wide.FinOn
import Lean
import PyProof.EqAt
import PyProof.EqKinds
import PyProof.TupleCall
import OpenK.KOwn
import PyProof.NsDelKeeps
import KE.KIsAll
import PyProof.ExcArgsOwn
import PyProof.ExcAttrAll.ValueError
import PyProof.ExcClass3
import PyProof.ExcInit
import KE.KIntText
import PyProof.NeData
import PySem.Challenge.RW_canonwright_k04_no_house
set_option Elab.async false
set_option linter.all false
set_option maxRecDepth 100000
set_option compiler.extract_closed false
set_option genSizeOf false
set_option bootstrap.genMatcherCode false
noncomputable section
namespace L2
open PySem PySem.Spec PyProof.Rows
abbrev Key:=Sum Int Str
def keyIs:Key→Value→Bool
 | .inl k,v=>Value.isInt k v
 | .inr x,v=>Value.isStrOf x v
def keyH (w:World):Key→Int
 | .inl k=>hashInt k
 | .inr x=>hashStr w x
theorem keyIs_shape:∀ {k:Key} {v:Value},keyIs k v=true→(∃ i t,k=Sum.inl i∧v=Value.int i t)∨(∃ x t,k=Sum.inr x∧v=Value.str x t)
 | .inl i,v,h=>by
  obtain ⟨t,e⟩:=Value.isInt_shape (k:=i) (v:=v) h
  exact .inl ⟨i,t,rfl,e⟩
 | .inr x,v,h=>by
  obtain ⟨t,e⟩:=Value.isStrOf_shape (x:=x) (v:=v) h
  exact .inr ⟨x,t,rfl,e⟩
theorem key_ll (a b:Int):decide ((Sum.inl a:Key)=Sum.inl b)=(a == b):=by
 by_cases e:a=b
 ·subst e; simp
 ·have h:¬ (Sum.inl a:Key)=Sum.inl b:=λq=>e (Sum.inl.inj q)
  rw [decide_eq_false h]
  exact (beq_eq_false_iff_ne.mpr e).symm
theorem key_rr (a b:Str):decide ((Sum.inr a:Key)=Sum.inr b)=decide (a=b):=by
 by_cases e:a=b
 ·subst e; simp
 ·have h:¬ (Sum.inr a:Key)=Sum.inr b:=λq=>e (Sum.inr.inj q)
  rw [decide_eq_false h,decide_eq_false e]
theorem key_lr (a:Int) (b:Str):decide ((Sum.inl a:Key)=Sum.inr b)=false:=decide_eq_false (λq=>nomatch q)
theorem key_rl (a:Str) (b:Int):decide ((Sum.inr a:Key)=Sum.inl b)=false:=decide_eq_false (λq=>nomatch q)
noncomputable def mixKind (prog:Program) (w:World):PySem.KeyKind prog w Key where
 is:=keyIs
 hash:=keyH w
 inj:=λv a b ha hb=>by
  rcases keyIs_shape ha with ⟨i,t,rfl,rfl⟩ | ⟨x,t,rfl,rfl⟩
  ·rcases keyIs_shape hb with ⟨j,u,rfl,e⟩ | ⟨y,u,rfl,e⟩
   ·injection e with e1 _; rw [e1]
   ·exact nomatch e
  ·rcases keyIs_shape hb with ⟨j,u,rfl,e⟩ | ⟨y,u,rfl,e⟩
   ·exact nomatch e
   ·injection e with e1 _; rw [e1]
 byValue:=λk v h=>by
  rcases keyIs_shape h with ⟨i,t,rfl,rfl⟩ | ⟨x,t,rfl,rfl⟩ <;> rfl
 pyHash:=λhv h=>by
  rcases keyIs_shape hv with ⟨i,t,rfl,rfl⟩ | ⟨x,t,rfl,rfl⟩
  ·exact wpAny_pyHash_int h
  ·exact wpAny_pyHash_str h
 eqBool:=λhu hv h=>by
  rcases keyIs_shape hu with ⟨i,t,rfl,rfl⟩ | ⟨x,t,rfl,rfl⟩
  ·rcases keyIs_shape hv with ⟨j,u,rfl,rfl⟩ | ⟨y,u,rfl,rfl⟩
   ·rw [key_ll] at h; exact wpAny_eqBool_int h
   ·rw [key_lr] at h; exact SeqAt.EqAt.int_str i t y u _ _ _ _ h
  ·rcases keyIs_shape hv with ⟨j,u,rfl,rfl⟩ | ⟨y,u,rfl,rfl⟩
   ·rw [key_rl] at h; exact SeqAt.EqAt.str_int x t j u _ _ _ _ h
   ·rw [key_rr] at h; exact wpAny_eqBool_str h
 «strs»:=λk x t v h=>by
  rcases keyIs_shape h with ⟨i,u,rfl,e⟩ | ⟨y,u,rfl,e⟩
  ·exact nomatch e
  ·injection e with e1 _
   subst e1
   cases v <;> rfl
inductive V where
 | non | bl (b:Bool) | int (i:Int) | str (x:Str) | byt (b:Array UInt8) | flt (b:UInt64) | ref (a:Addr) | ty (n:String)
 deriving DecidableEq
def RelV:V→Value→Prop
 | .non,u=>u=Value.none
 | .bl b,u=>u=Value.bool b
 | .int i,u=>∃ t,u=Value.int i t
 | .str x,u=>∃ t,u=Value.str x t
 | .byt b,u=>∃ t,u=Value.bytes b t
 | .flt b,u=>∃ t,u=Value.float b t
 | .ref a,u=>u=Value.ref a
 | .ty n,u=>u=Value.type n
abbrev Vals:List V→List Value→Prop:=Paired RelV
theorem Vals.length {xs:List V} {us:List Value} (r:Vals xs us):xs.length=us.length:=Paired.length r
theorem Vals.get:∀ {xs:List V} {us:List Value} {i:Nat} {x:V},Vals xs us→xs[i]?=some x→∃ u,us[i]?=some u∧RelV x u
 | _,_,_,_,.nil,e=>by simp at e
 | _,_,0,_,.cons r _,e=>by simp at e; subst e; exact ⟨_,rfl,r⟩
 | _,_,i+1,x,.cons _ t,e=>by
  obtain ⟨u,h1,h2⟩:=Vals.get (i:=i) (x:=x) t (by simpa using e)
  exact ⟨u,by simpa using h1,h2⟩
theorem Vals.set {x:V} {u:Value} (r:RelV x u):∀ {xs:List V} {us:List Value} (i:Nat),Vals xs us→Vals (xs.set i x) (us.set i u)
 | _,_,_,.nil=>.nil
 | _,_,0,.cons _ t=>.cons r t
 | _,_,i+1,.cons q t=>.cons q (Vals.set r i t)
theorem Vals.append:∀ {xs ys:List V} {us ws:List Value},Vals xs us→Vals ys ws→Vals (xs ++ ys) (us ++ ws)
 | _,_,_,_,.nil,s=>s
 | _,_,_,_,.cons r t,s=>.cons r (Vals.append t s)
theorem Vals.take:∀ {xs:List V} {us:List Value} (n:Nat),Vals xs us→Vals (xs.take n) (us.take n)
 | _,_,0,_=>.nil
 | _,_,_+1,.nil=>.nil
 | _,_,n+1,.cons r t=>.cons r (Vals.take n t)
theorem Vals.drop:∀ {xs:List V} {us:List Value} (n:Nat),Vals xs us→Vals (xs.drop n) (us.drop n)
 | _,_,0,r=>r
 | _,_,_+1,.nil=>.nil
 | _,_,n+1,.cons _ t=>Vals.drop n t
def RelO:Option V→Option Value→Prop
 | some v,some u=>RelV v u
 | none,none=>True
 | _,_=>False
def KV {κ:Type}:List (κ × V)→List (κ × Value)→Prop:=Paired λ(p:κ × V) (q:κ × Value)=>p.1=q.1∧RelV p.2 q.2
def kV:Key→V
 | .inl i=>.int i
 | .inr x=>.str x
inductive HO where
 | lst (xs:List V)
 | tup (xs:List V)
 | dK (kvs:List (Key × V)) | dT (kvs:List (List Key × V))
 | set (S:Int→Bool) (n:Nat)
 | ins (C dx:Addr) (fs:List (Str × V))
 | own (x:Addr)
 | xd (fs:List (Str × V))
 | met (f x:Addr)
 | rng (lo hi:Int)
 | frz (o:Obj) (u:HO)
 | tbl (ps:Array Value)
 | ext (φ:Heap→Prop)
 | dls (cs:List (V ⊕ Addr × List V))
abbrev Hp:=Addr→Option HO
def upd (H:Hp) (a:Addr) (o:HO):Hp:=λb=>if b=a then some o else H b
theorem upd_same {H:Hp} {a:Addr} {o:HO}:upd H a o a=some o:=by unfold upd; rw [if_pos rfl]
theorem upd_ne {H:Hp} {a b:Addr} {o:HO} (h:b≠a):upd H a o b=H b:=by unfold upd; rw [if_neg h]
theorem upd_upd {H:Hp} {a:Addr} {o u:HO}:upd (upd H a o) a u=upd H a u:=by
 funext b; unfold upd; split <;> rfl
theorem ne_of_none {H:Hp} {a b:Addr} {o:HO} (h:H a=some o) (h':H b=none):a≠b:=by
 intro e; subst e; rw [h] at h'; cases h'
def cellV:V ⊕ Addr × List V→V
 | .inl v=>v
 | .inr p=>.ref p.1
noncomputable def cellA:List (V ⊕ Addr × List V)→List (Addr × List V)
 | []=>[]
 | .inl _ :: r=>cellA r
 | .inr p :: r=>p :: cellA r
section
variable (P:Program) (w:World)
def ObjOk (H:Hp) (h:Heap) (a:Addr):HO→Prop
 | .lst xs=>xs.length≤sizeLine∧∃ (its:List Value) (n:Nat),Vals xs its∧h.get? a=some { cls:=.type "list",data:=.seq its.toArray n }
 | .tup xs=>xs.length≤sizeLine∧∃ its:List Value,Vals xs its∧IsTup h a its.toArray
 | .dK kvs=>kvs.length≤sizeLine∧(a == sysModules)=false∧∃ vs,KV kvs vs∧h.DictOf (mixKind P w) a vs
 | .dT kvs=>kvs.length≤sizeLine∧(a == sysModules)=false∧∃ xs:List (List Key × Addr × Value),
   Paired (λ(p:List Key × V) (q:List Key × Addr × Value)=>p.1=q.1∧H q.2.1=some (.tup (p.1.map kV))∧RelV p.2 q.2.2) kvs xs ∧
   ∃ o es ep,h.get? a=some o∧o.ExactDict∧o.data=.dict es ep∧es.toList=xs.map (entryOfKey (tupleKind (mixKind P w)))∧(xs.map (·.1)).Nodup
 | .set S n=>h.SetOf (intKind P w) a S n
 | .ins C dx fs=>H dx=some (.own a)∧fs.length≤1000∧dx≠a∧h.get? a=some (PySem.W.instObj C dx) ∧
   ∃ mA,h.Ns1 dx mA∧(∀ f,RelO (fs.lookup f) (mA f))∧PySem.Within mA (fs.map (·.1))
 | .own _=>∃ o,h.get? a=some o
 | .xd fs=>∃ mA,h.Ns1 a mA∧∀ f,RelO (fs.lookup f) (mA f)
 | .rng lo hi=>∃ t u v,h.get? a=some { cls:=.type "range",data:=.fields #[.int lo t,.int hi u,.int 1 v] }
 | .frz o u=>h.get? a=some o∧ObjOk H h a u
 | .tbl ps=>h.get? a=some { cls:=.none,data:=.fields ps }
 | .met f x=>h.get? a=some (PySem.W.methodObj (.ref f) (.ref x))
 | .dls cs=>cs.length≤sizeLine∧(∃ (its:List Value) (n:Nat),Vals (cs.map cellV) its∧h.get? a=some { cls:=.type "list",data:=.seq its.toArray n })∧((cellA cs).map (·.1)).Nodup ∧
   ∀ p∈cellA cs,p.1≠a∧H p.1=some (.own a)∧p.2.length≤sizeLine∧∃ (its:List Value) (n:Nat),Vals p.2 its∧h.get? p.1=some { cls:=.type "list",data:=.seq its.toArray n }
 | .ext φ=>φ h∧(∃ o,h.get? a=some o)∧∀ h1 h2:Heap,φ h1→(∀ o,h1.get? a=some o→h2.get? a=some o)→φ h2
def HOk (H:Hp) (h:Heap):Prop:=∀ a o,H a=some o→ObjOk P w H h a o
end
section
variable {P:Program} {w:World} {H H':Hp} {h h':Heap} {a:Addr} {o:HO}
theorem ObjOk.lt (x:ObjOk P w H h a o):a<h.objs.size:=by
 cases o with
 | lst xs=>obtain ⟨_,_,_,_,e⟩:=x; exact Heap.lt_size e
 | tup xs=>obtain ⟨_,_,_,p⟩:=x; exact p.lt
 | dK kvs=>obtain ⟨_,_,_,_,o,_,_,e,_⟩:=x; exact Heap.lt_size e
 | dT kvs=>obtain ⟨_,_,_,_,o,_,_,e,_⟩:=x; exact Heap.lt_size e
 | set S n=>obtain ⟨o,_,_,_,e,_⟩:=x; exact Heap.lt_size e
 | ins C dx fs=>obtain ⟨_,_,_,e,_⟩:=x; exact Heap.lt_size e
 | own y=>obtain ⟨_,e⟩:=x; exact Heap.lt_size e
 | xd fs=>obtain ⟨_,⟨_,_,_,e,_⟩,_⟩:=x; exact Heap.lt_size e
 | rng lo hi=>obtain ⟨_,_,_,e⟩:=x; exact Heap.lt_size e
 | frz ob u=>obtain ⟨e,_⟩:=x; exact Heap.lt_size e
 | tbl ps=>exact Heap.lt_size (show h.get? a=some _ from x)
 | met f y=>exact Heap.lt_size (show h.get? a=some _ from x)
 | ext φ=>obtain ⟨_,⟨_,e⟩,_⟩:=x; exact Heap.lt_size e
 | dls cs=>obtain ⟨_,⟨_,_,_,e⟩,_⟩:=x; exact Heap.lt_size e
theorem Paired.mapP {α β:Type} {F G:α→β→Prop}:∀ {l₁:List α} {l₂:List β},Paired F l₁ l₂→(∀ a b,F a b→G a b)→Paired G l₁ l₂
 | _,_,.nil,_=>.nil
 | _,_,.cons r t,f=>.cons (f _ _ r) (Paired.mapP t f)
theorem ObjOk.stay (x:ObjOk P w H h a o) (k:∀ b u,(b=a∨H b=some (.own a))→h.get? b=some u→h'.get? b=some u)
  (ho:∀ b,H b=some (.own a)→H' b=some (.own a)) (ht:∀ b xs,H b=some (.tup xs)→H' b=some (.tup xs)):ObjOk P w H' h' a o:=by
 induction o with
 | lst xs=>obtain ⟨z,its,n,r,e⟩:=x; exact ⟨z,its,n,r,k _ _ (.inl rfl) e⟩
 | tup xs=>obtain ⟨z,its,r,ob,e,c⟩:=x; exact ⟨z,its,r,ob,k _ _ (.inl rfl) e,c⟩
 | dK kvs=>obtain ⟨z,y,vs,r,ob,es,ep,e,c⟩:=x; exact ⟨z,y,vs,r,ob,es,ep,k _ _ (.inl rfl) e,c⟩
 | dT kvs =>
  obtain ⟨z,y,xs,r,ob,es,ep,e,c⟩:=x
  exact ⟨z,y,xs,Paired.mapP r λp q z=>⟨z.1,ht _ _ z.2.1,z.2.2⟩,ob,es,ep,k _ _ (.inl rfl) e,c⟩
 | set S n=>obtain ⟨ob,es,ep,t,e,c⟩:=x; exact ⟨ob,es,ep,t,k _ _ (.inl rfl) e,c⟩
 | ins C dx fs =>
  obtain ⟨d,z,ne,e,mA,⟨od,es,ep,e2,c⟩,r⟩:=x
  exact ⟨ho _ d,z,ne,k _ _ (.inl rfl) e,mA,⟨od,es,ep,k _ _ (.inr d) e2,c⟩,r⟩
 | own y=>obtain ⟨ob,e⟩:=x; exact ⟨ob,k _ _ (.inl rfl) e⟩
 | xd fs=>obtain ⟨mA,⟨od,es,ep,e,c⟩,r⟩:=x; exact ⟨mA,⟨od,es,ep,k _ _ (.inl rfl) e,c⟩,r⟩
 | rng lo hi=>obtain ⟨t,u,v,e⟩:=x; exact ⟨t,u,v,k _ _ (.inl rfl) e⟩
 | frz ob u ih=>obtain ⟨e,q⟩:=x; exact ⟨k _ _ (.inl rfl) e,ih q⟩
 | tbl ps =>
  have e:h.get? a=some { cls:=.none,data:=.fields ps }:=x
  show h'.get? a=some { cls:=.none,data:=.fields ps }
  exact k a _ (.inl rfl) e
 | met f y =>
  have e:h.get? a=some (PySem.W.methodObj (.ref f) (.ref y)):=x
  show h'.get? a=some (PySem.W.methodObj (.ref f) (.ref y))
  exact k a _ (.inl rfl) e
 | dls cs =>
  obtain ⟨z,⟨its,n,r,e⟩,nd,q⟩:=x
  exact ⟨z,⟨its,n,r,k _ _ (.inl rfl) e⟩,nd,λp hp=>let ⟨q1,q2,q3,its,n,q4,q5⟩:=q p hp; ⟨q1,ho _ q2,q3,its,n,q4,k _ _ (.inr q2) q5⟩⟩
 | ext φ=>obtain ⟨p,⟨o,e⟩,st⟩:=x; exact ⟨st _ _ p λo q=>k _ _ (.inl rfl) q,⟨o,k _ _ (.inl rfl) e⟩,st⟩
theorem HOk.lt (x:HOk P w H h) (e:H a=some o):a<h.objs.size:=(x a o e).lt
theorem HOk.fresh (x:HOk P w H h) (e:h.objs.size≤a):H a=none:=by
 cases q:H a with
 | none=>rfl
 | some u=>exact absurd (Nat.lt_of_lt_of_le (x.lt q) e) (Nat.lt_irrefl _)
theorem HOk.kept (x:HOk P w H h) (k:∀ b u,h.get? b=some u→h'.get? b=some u):HOk P w H h':=λa o e =>
 (x a o e).stay (λb u _ q=>k b u q) (λ_ q=>q) λ_ _ q=>q
theorem HOk.laid (x:HOk P w H h) (k:∀ b u,h.get? b=some u→h'.get? b=some u) (hp:h.objs.size≤a) (new:ObjOk P w (upd H a o) h' a o):HOk P w (upd H a o) h':=λb u e=>by
 have hn:=x.fresh hp
 by_cases hb:b=a
 ·subst hb; rw [upd_same] at e; cases e; exact new
 ·rw [upd_ne hb] at e
  exact (x b u e).stay (λc v _ q=>k c v q) (λc q=>by rw [upd_ne (ne_of_none q hn)]; exact q) λc xs q=>by rw [upd_ne (ne_of_none q hn)]; exact q
end
def Rd (H:Hp) (a:Addr) (u:HO):Prop:=H a=some u∨∃ o,H a=some (.frz o u)
theorem Rd.ok {P:Program} {w:World} {H:Hp} {h:Heap} {a:Addr} {u:HO} (r:Rd H a u) (x:HOk P w H h):ObjOk P w H h a u:=by
 rcases r with r | ⟨o,r⟩
 ·exact x a u r
 ·obtain ⟨_,q⟩:=x a _ r
  exact q
def Mut:Option HO→Prop
 | some (.lst _)=>True
 | some (.dK _)=>True
 | some (.dT _)=>True
 | some (.set _ _)=>True
 | some (.ins _ _ _)=>True
 | some (.ext _)=>True
 | _=>False
section
variable {P:Program} {w:World} {H:Hp} {h h':Heap} {x e:Addr} {o':HO}
theorem HOk.write (ok:HOk P w H h) (mu:Mut (H x)) (he:e=x∨H e=some (.own x)) (k:∀ b u,b≠e→h.get? b=some u→h'.get? b=some u) (heo:∃ u,h'.get? e=some u)
  (new:ObjOk P w (upd H x o') h' x o'):HOk P w (upd H x o') h':=λb u q=>by
 have nown:∀ c y,H c=some (.own y)→c≠x:=λc y r z=>by subst z; rw [r] at mu; exact mu
 have ntup:∀ c xs,H c=some (.tup xs)→c≠x:=λc xs r z=>by subst z; rw [r] at mu; exact mu
 by_cases hb:b=x
 ·subst hb; rw [upd_same] at q; cases q; exact new
 ·rw [upd_ne hb] at q
  by_cases hbe:b=e
  ·have q':H b=some (.own x):=by
    rcases he with z | z
    ·exact absurd (hbe.trans z) hb
    ·rw [hbe]; exact z
   rw [q] at q'; cases q'
   obtain ⟨v,hv⟩:=heo
   exact ⟨v,by rw [hbe]; exact hv⟩
  ·refine (ok b u q).stay (λc v hc r=>k c v ?_ r) (λc r=>by rw [upd_ne (nown c b r)]; exact r) λc xs r=>by rw [upd_ne (ntup c xs r)]; exact r
   rcases hc with rfl | hc
   ·exact hbe
   ·rintro rfl
    rcases he with z | z
    ·exact nown c b hc z
    ·rw [hc] at z; cases z; exact hb rfl
end
structure Un (fs ex:List Addr) (H H':Hp) (h h':Heap):Prop where
 keep:∀ b o,h.get? b=some o→H b=none→b ∉ fs→b ∉ ex→h'.get? b=some o
 slot:∀ b o,h.get? b=some o→H b=none→b∈fs→b ∉ ex→∃ sl,h'.get? b=some { o with slots:=sl }
 free:∀ b o,h.get? b=some o→H b=none→b ∉ ex→H' b=none
 there:∀ b o,h.get? b=some o→b ∉ ex→∃ o',h'.get? b=some o'
 tups:∀ b xs,H b=some (.tup xs)→H' b=some (.tup xs)
 frzs:∀ b o u,H b=some (.frz o u)→H' b=some (.frz o u)
 tbls:∀ b ps,H b=some (.tbl ps)→∃ more,H' b=some (.tbl (ps ++ more))
section
variable {fs fs' ex ex':List Addr} {H H1 H2:Hp} {h h1 h2 h':Heap} {a x e:Addr} {o:HO}
theorem Un.any (u:Un fs ex H H1 h h1) {b:Addr} {ob:Obj} (q:h.get? b=some ob) (n:H b=none) (hx:b ∉ ex):∃ sl,h1.get? b=some { ob with slots:=sl }:=by
 by_cases hb:b∈fs
 ·exact u.slot b ob q n hb hx
 ·exact ⟨ob.slots,u.keep b ob q n hb hx⟩
theorem Un.trans (a:Un fs ex H H1 h h1) (b:Un fs ex H1 H2 h1 h2):Un fs ex H H2 h h2 where
 keep:=λc ob q n hc hx=>b.keep c ob (a.keep c ob q n hc hx) (a.free c ob q n hx) hc hx
 slot:=λc ob q n hc hx=>by
  obtain ⟨sl,e1⟩:=a.slot c ob q n hc hx
  obtain ⟨sl',e2⟩:=b.slot c _ e1 (a.free c ob q n hx) hc hx
  exact ⟨sl',e2⟩
 free:=λc ob q n hx=>by
  obtain ⟨o',e1⟩:=a.there c ob q hx
  exact b.free c o' e1 (a.free c ob q n hx) hx
 there:=λc ob q hx=>by
  obtain ⟨o',e1⟩:=a.there c ob q hx
  exact b.there c o' e1 hx
 tups:=λc xs q=>b.tups c xs (a.tups c xs q)
 frzs:=λc ob xs q=>b.frzs c ob xs (a.frzs c ob xs q)
 tbls:=λc ps q=>by
  obtain ⟨m1,e1⟩:=a.tbls c ps q
  obtain ⟨m2,e2⟩:=b.tbls c _ e1
  exact ⟨m1 ++ m2,by rw [e2,Array.append_assoc]⟩
theorem Un.kept (k:∀ b u,h.get? b=some u→h'.get? b=some u):Un fs ex H H h h' :=
 ⟨λb ob q _ _ _=>k b ob q,λb ob q _ _ _=>⟨ob.slots,k b ob q⟩,λ_ _ _ n _=>n,λb ob q _=>⟨ob,k b ob q⟩,λ_ _ q=>q,λ_ _ _ q=>q,λ_ ps q=>⟨#[],by rw [q]; simp⟩⟩
theorem Un.refl:Un fs ex H H h h:=Un.kept λ_ _ q=>q
theorem Un.laid (k:∀ b u,h.get? b=some u→h'.get? b=some u) (hp:h.objs.size≤a) (hn:H a=none):Un fs ex H (upd H a o) h h' where
 keep:=λb u q _ _ _=>k b u q
 slot:=λb u q _ _ _=>⟨u.slots,k b u q⟩
 free:=λb u q n _=>by rw [upd_ne (Nat.ne_of_lt (Nat.lt_of_lt_of_le (Heap.lt_size q) hp))]; exact n
 there:=λb u q _=>⟨u,k b u q⟩
 tups:=λb xs q=>by rw [upd_ne (ne_of_none q hn)]; exact q
 frzs:=λb u xs q=>by rw [upd_ne (ne_of_none q hn)]; exact q
 tbls:=λb ps q=>⟨#[],by rw [upd_ne (ne_of_none q hn),q]; simp⟩
theorem Un.write (mu:Mut (H x)) (he:e=x∨H e=some (.own x)) (k:∀ b u,b≠e→h.get? b=some u→h'.get? b=some u) (heo:∃ u,h'.get? e=some u):Un fs ex H (upd H x o) h h':=by
 have hx:∀ b,H b=none→b≠x:=λb n z=>by subst z; rw [n] at mu; exact mu
 have hb:∀ b,H b=none→b≠e:=λb n z=>by
  subst z
  rcases he with r | r
  ·exact hx b n r
  ·rw [n] at r; cases r
 have hm:∀ b u,H b=some u→¬ Mut (some u)→b≠x:=λb u q nm z=>by subst z; rw [q] at mu; exact nm mu
 refine ⟨λb u q n _ _=>k b u (hb b n) q,λb u q n _ _=>⟨u.slots,k b u (hb b n) q⟩,λb u q n _=>by rw [upd_ne (hx b n)]; exact n,λb u q _=>?_,
  λb xs q=>by rw [upd_ne (hm b _ q λz=>z)]; exact q,λb u xs q=>by rw [upd_ne (hm b _ q λz=>z)]; exact q,λb ps q=>⟨#[],by rw [upd_ne (hm b _ q λz=>z),q]; simp⟩⟩
 by_cases hbe:b=e
 ·subst hbe; exact heo
 ·exact ⟨u,k b u hbe q⟩
end
def trk (h:Heap) (H:Hp):List Addr:=(List.range h.objs.size).filter λa=>(H a).isSome
def hidT (h:Heap) (H:Hp):Heap:=PySem.W.hideAll h (trk h H)
theorem hidT_size (h:Heap) (H:Hp):(hidT h H).objs.size=h.objs.size:=PySem.W.hideAll_size _ _
theorem hidT_get {h:Heap} {H:Hp} {b:Addr} {o:Obj} (e:h.get? b=some o) (n:H b=none):(hidT h H).get? b=some o :=
 PySem.W.hideAll_get _ e λhm=>by
  have q:(H b).isSome=true:=(List.mem_filter.mp hm).2
  rw [n] at q; simp at q
theorem of_hidT {h:Heap} {H:Hp} {b:Addr} {o:Obj} (e:(hidT h H).get? b=some o):h.get? b=some o∧H b=none:=by
 have e':h.get? b=some o:=PySem.W.of_hideAll (trk h H) e
 refine ⟨e', ?_⟩
 cases q:H b with
 | none=>rfl
 | some x =>
  have hm:b∈trk h H:=List.mem_filter.mpr ⟨List.mem_range.mpr (Heap.lt_size e'),by simp [q]⟩
  have z:(hidT h H).get? b=none:=PySem.W.hideAll_none (trk h H) hm
  rw [z] at e; cases e
noncomputable def allNews (g h:Heap) (L:Addr):List (Addr × Obj):=(List.range h.objs.size).filterMap λa=>if a=L∨(g.get? a).isSome=true then none else (h.get? a).map λo=>(a,o)
def rest (g h:Heap) (L d:Addr):List (Addr × Obj):=(allNews g h L).filter λp=>decide (p.1≠d)
structure Mod (K:PySem.W.Frag) (mg:Str→Option Value) (base:Heap):Prop where
 kin:K.In base
 glob:base.Ns mainGlobals mg
 blt:∃ mb,base.Ns builtinsNs mb∧∀ x:Str,x≠"__name__"→mb x=bootBuiltins x
 nolimit:base.NoLimit
structure Cx where
 prog:Program
 w:World
 K:PySem.W.Frag
 mg:Str→Option Value
 base:Heap
 A:Around
 N:List Str
 s₀:Shared
 H₀:Hp
 env:Env
 outer:List Env
 stack:List Env
 ex:List Addr
 fn:Str→Bool
 calm:Bool
 pn:List (Addr × Obj)
 xe:Value→Shared→Prop
def frs (l:List Env):List Addr:=l.filterMap (·.frame)
abbrev Cx.fs (X:Cx):List Addr:=frs X.outer
def Vis (sc:Scope) (x:Str):Prop:=sc.names.lookup x=some .local∨sc.names.lookup x=some .cell∨sc.names.lookup x=some .free
def Loc (sc:Scope) (x:Str):Prop:=sc.names.lookup x=some .local∨sc.names.lookup x=some .cell
def Look (env:Env) (h:Heap) (m:Str→Option Value) (x:Str) (u:Value):Prop :=
 (env.kindOf x=some .local∧m x=some u)∨((env.kindOf x=some .cell∨env.kindOf x=some .free)∧∃ c,env.cells.lookup x=some c∧h.IsCell c (some u))
structure Cx.Ok (X:Cx):Prop where
 mod:Mod X.K X.mg X.base
 kind:X.env.scope.kind=.function
 glob:X.env.globals=mainGlobals
 blt:X.env.builtins=builtinsNs
 above:X.s₀.heap.objs.size≤X.env.locals
 inj:∀ x y c,X.env.cells.lookup x=some c→X.env.cells.lookup y=some c→x=y
 has:∀ x,(X.env.kindOf x=some .cell∨X.env.kindOf x=some .free)→∃ c,X.env.cells.lookup x=some c
 cab:∀ x c,X.fn x=true→X.env.cells.lookup x=some c→X.s₀.heap.objs.size≤c
 hd:X.calm=true→X.A.handled=none
 frames:X.A.frames=some X.stack
 stk:X.stack=X.outer∨(X.stack=X.env :: X.outer∧X.env.frame=some X.env.locals)
 exf:∀ b∈X.ex,b≠X.env.locals∧∀ x c,X.env.cells.lookup x=some c→c≠b
 bs:∀ b o,X.base.get? b=some o→X.s₀.heap.get? b=some o∧X.H₀ b=none
 bsz:X.base.objs.size≤X.s₀.heap.objs.size
 noex:∀ b o,X.base.get? b=some o→b ∉ X.ex
 exfs:∀ b∈X.ex,b ∉ X.fs
 funs:X.s₀.heap.FunFrames X.base X.outer
 frf:∀ b∈X.fs,X.H₀ b=none
structure Inv (X:Cx) (pins:List (Addr × Obj)) (σ:List (Option V)) (H:Hp) (s:Shared):Prop where
 ok:X.Ok
 os:s.os=X.s₀.os
 bare:AllBare s.gens
 base:Un X.fs X.ex X.H₀ H X.s₀.heap s.heap
 loc:∃ m,s.heap.Ns X.env.locals m∧∀ (i:Nat) (x:Str) (v:V),X.N[i]?=some x→σ[i]?=some (some v)→Vis X.env.scope x→∃ u,RelV v u∧Look X.env s.heap m x u
 cell:∀ x c,X.env.cells.lookup x=some c→∃ v,s.heap.IsCell c v
 free:H X.env.locals=none
 freeC:∀ x c,X.env.cells.lookup x=some c→H c=none
 pin:∀ p∈X.pn ++ pins,s.heap.get? p.1=some p.2∧H p.1=none∧p.1≠X.env.locals∧p.1 ∉ X.fs∧∀ v,p.2.data≠.cell v
 hok:HOk X.prog X.w H s.heap
 len:σ.length=X.N.length
section
variable {X:Cx} {pins:List (Addr × Obj)} {σ:List (Option V)} {H H':Hp} {s:Shared} {h':Heap}
theorem Cx.Ok.nofr (ok:X.Ok) {b:Addr} {o:Obj} (e:X.base.get? b=some o):b ∉ X.fs:=λhb=>by
 have:=(ok.funs.mem hb).1
 rw [e] at this; cases this
theorem Inv.bs (I:Inv X pins σ H s):∀ b o,X.base.get? b=some o→s.heap.get? b=some o∧H b=none:=λb o e =>
 ⟨I.base.keep b o (I.ok.bs b o e).1 (I.ok.bs b o e).2 (I.ok.nofr e) (I.ok.noex b o e),I.base.free b o (I.ok.bs b o e).1 (I.ok.bs b o e).2 (I.ok.noex b o e)⟩
theorem Inv.bk (I:Inv X pins σ H s):∀ b o,X.base.get? b=some o→s.heap.get? b=some o:=λb o e=>(I.bs b o e).1
theorem Inv.mod (I:Inv X pins σ H s):Mod X.K X.mg X.base:=I.ok.mod
theorem Inv.kIn (I:Inv X pins σ H s):X.K.In s.heap:=I.ok.mod.kin.keeps I.bk
theorem Inv.lt (I:Inv X pins σ H s):X.env.locals<s.heap.objs.size:=let ⟨_,hn,_⟩:=I.loc; hn.lt
theorem Inv.sz (I:Inv X pins σ H s):X.s₀.heap.objs.size≤s.heap.objs.size:=Nat.le_trans I.ok.above (Nat.le_of_lt I.lt)
theorem Inv.nofs (I:Inv X pins σ H s) {a:Addr} (h:s.heap.objs.size≤a):a ∉ X.fs:=λhb=>by
 obtain ⟨_,o,ho,_⟩:=I.ok.funs.mem hb
 exact absurd (Nat.lt_of_lt_of_le (Heap.lt_size ho) (Nat.le_trans I.sz h)) (Nat.lt_irrefl _)
theorem Inv.cne (I:Inv X pins σ H s):∀ x c,X.env.cells.lookup x=some c→c≠X.env.locals:=λx c e z=>by
 obtain ⟨v,o,ho,hd⟩:=I.cell x c e
 obtain ⟨m,⟨o',es,ep,ho',hd',_⟩,_⟩:=I.loc
 rw [z,ho'] at ho; cases ho; rw [hd'] at hd; cases hd
theorem Inv.funs (I:Inv X pins σ H s):s.heap.FunFrames X.base X.outer:=by
 have all:∀ (l:List Env),(∀ b∈frs l,b∈X.fs)→X.s₀.heap.FunFrames X.base l→s.heap.FunFrames X.base l:=by
  intro l
  induction l with
  | nil=>intro _ _; trivial
  | cons env r ih =>
   intro hs hl
   obtain ⟨hk,⟨L,o,hf,hn,ho,hd⟩,hr⟩:=hl
   have hL:L∈X.fs:=hs L (by unfold frs; rw [List.filterMap_cons,hf]; exact List.mem_cons_self)
   obtain ⟨sl,e⟩:=I.base.slot L o ho (I.ok.frf L hL) hL λz=>I.ok.exfs L z hL
   exact ⟨hk,⟨L,_,hf,hn,e,hd⟩,ih (λb hb=>hs b (by unfold frs; rw [List.filterMap_cons,hf]; exact List.mem_cons_of_mem _ hb)) hr⟩
 exact all X.outer (λ_ hb=>hb) I.ok.funs
theorem Inv.stack (I:Inv X pins σ H s):s.heap.FunFrames X.base X.stack:=by
 rcases I.ok.stk with e | ⟨e,hf⟩
 ·rw [e]; exact I.funs
 ·rw [e]
  obtain ⟨m,hn,_⟩:=I.loc
  refine .cons (by rw [I.ok.kind]; decide) hf hn ?_ I.funs
  exact Heap.get?_none_of_le (Nat.le_trans I.ok.bsz I.ok.above)
theorem Inv.stkSub (I:Inv X pins σ H s):∀ b∈frs X.stack,b∈X.env.locals :: X.fs:=λb hb=>by
 rcases I.ok.stk with e | ⟨e,hf⟩
 ·rw [e] at hb; exact List.mem_cons_of_mem _ hb
 ·rw [e] at hb
  unfold frs at hb
  rw [List.filterMap_cons,hf] at hb
  exact hb
theorem Inv.stkFree (I:Inv X pins σ H s):∀ b∈frs X.stack,H b=none:=λb hb=>by
 rcases List.mem_cons.mp (I.stkSub b hb) with e | hb
 ·rw [e]; exact I.free
 ·obtain ⟨_,o,ho,_⟩:=I.ok.funs.mem hb
  exact I.base.free b o ho (I.ok.frf b hb) λz=>I.ok.exfs b z hb
theorem Inv.step {g':Array GenState} {t':Nat} {d':Drawn} {ch:List Addr} (I:Inv X pins σ H s)
  (hch:∀ b∈ch,(b∈X.ex∨X.s₀.heap.get? b=none)∧b≠X.env.locals∧(∀ x c,X.env.cells.lookup x=some c→c≠b)∧∀ p∈X.pn ++ pins,p.1≠b)
  (keep:∀ b o,b≠X.env.locals→b ∉ X.fs→b ∉ ch→s.heap.get? b=some o→H b=none→h'.get? b=some o)
  (slot:∀ b o,b≠X.env.locals→b∈X.fs→b ∉ ch→s.heap.get? b=some o→H b=none→∃ sl,h'.get? b=some { o with slots:=sl }) (free:∀ b o,b ∉ ch→s.heap.get? b=some o→H b=none→H' b=none)
  (there:∀ b o,b ∉ ch→s.heap.get? b=some o→∃ o',h'.get? b=some o')
  (tups:∀ b xs,H b=some (.tup xs)→H' b=some (.tup xs)) (frzs:∀ b o u,H b=some (.frz o u)→H' b=some (.frz o u)) (tbls:∀ b ps,H b=some (.tbl ps)→∃ more,H' b=some (.tbl (ps ++ more)))
  (ns:∀ m,s.heap.Ns X.env.locals m→h'.Ns X.env.locals m) (hok:HOk X.prog X.w H' h') (hg:AllBare g') :
  Inv X pins σ H' { s with heap:=h',gens:=g',drawn:=d',toks:=t' }:=by
 have neL:∀ b o,X.s₀.heap.get? b=some o→b≠X.env.locals:=λb o e=>Nat.ne_of_lt (Nat.lt_of_lt_of_le (Heap.lt_size e) I.ok.above)
 have neC:∀ b o,X.s₀.heap.get? b=some o→b ∉ X.ex→b ∉ ch:=λb o e hx hb=>by
  rcases (hch b hb).1 with z | z
  ·exact hx z
  ·rw [z] at e; cases e
 have cellK:∀ x c,X.env.cells.lookup x=some c→∀ v,s.heap.IsCell c v→h'.IsCell c v:=λx c e v ⟨o,ho,hd⟩=>by
  have nch:c ∉ ch:=λz=>(hch c z).2.2.1 x c e rfl
  by_cases hc:c∈X.fs
  ·obtain ⟨sl,q⟩:=slot c o (I.cne x c e) hc nch ho (I.freeC x c e)
   exact ⟨_,q,hd⟩
  ·exact ⟨o,keep c o (I.cne x c e) hc nch ho (I.freeC x c e),hd⟩
 refine ⟨I.ok,I.os,hg,⟨λb o e n hb hx=>?_,λb o e n hb hx=>?_,λb o e n hx=>?_,λb o e hx=>?_,λb xs e=>tups b xs (I.base.tups b xs e),λb o xs e=>frzs b o xs (I.base.frzs b o xs e),λb ps e=>?_⟩, ?_,λx c e=>?_, ?_,λx c e=>?_,λp hp=>?_,hok,I.len⟩
 ·exact keep b o (neL b o e) hb (neC b o e hx) (I.base.keep b o e n hb hx) (I.base.free b o e n hx)
 ·obtain ⟨sl,e1⟩:=I.base.slot b o e n hb hx
  obtain ⟨sl',e2⟩:=slot b _ (neL b o e) hb (neC b o e hx) e1 (I.base.free b o e n hx)
  exact ⟨sl',e2⟩
 ·obtain ⟨o',e1⟩:=I.base.there b o e hx
  exact free b o' (neC b o e hx) e1 (I.base.free b o e n hx)
 ·obtain ⟨o',e1⟩:=I.base.there b o e hx
  exact there b o' (neC b o e hx) e1
 ·obtain ⟨m1,e1⟩:=I.base.tbls b ps e
  obtain ⟨m2,e2⟩:=tbls b _ e1
  exact ⟨m1 ++ m2,by rw [e2,Array.append_assoc]⟩
 ·obtain ⟨m,hn,hl⟩:=I.loc
  refine ⟨m,ns m hn,λi x v e1 e2 e3=>?_⟩
  obtain ⟨u,r,l⟩:=hl i x v e1 e2 e3
  refine ⟨u,r, ?_⟩
  rcases l with l | ⟨k,c,e,z⟩
  ·exact .inl l
  ·exact .inr ⟨k,c,e,cellK x c e _ z⟩
 ·obtain ⟨v,z⟩:=I.cell x c e
  exact ⟨v,cellK x c e v z⟩
 ·obtain ⟨m,⟨o,_,_,ho,_⟩,_⟩:=I.loc
  exact free _ o (λz=>(hch _ z).2.1 rfl) ho I.free
 ·obtain ⟨v,o,ho,hd⟩:=I.cell x c e
  exact free c o (λz=>(hch c z).2.2.1 x c e rfl) ho (I.freeC x c e)
 ·obtain ⟨e,n,ne,nf,d⟩:=I.pin p hp
  have nch:p.1 ∉ ch:=λz=>(hch p.1 z).2.2.2 p hp rfl
  exact ⟨keep p.1 p.2 ne nf nch e n,free p.1 p.2 nch e n,ne,nf,d⟩
theorem Inv.un {t':Nat} (I:Inv X pins σ H s) (u:Un X.fs [] H H' s.heap h') (hok:HOk X.prog X.w H' h'):Inv X pins σ H' { s with heap:=h',toks:=t' }:=by
 obtain ⟨m,⟨o,es,ep,ho,r⟩,_⟩:=id I.loc
 obtain ⟨sl,hL⟩:=u.any ho I.free (by simp)
 exact I.step (g':=s.gens) (d':=s.drawn) (ch:=[]) (λ_ z=>nomatch z) (λb o _ hb _ e n=>u.keep b o e n hb (by simp)) (λb o _ hb _ e n=>u.slot b o e n hb (by simp)) (λb o _ e n=>u.free b o e n (by simp)) (λb o _ e=>u.there b o e (by simp)) u.tups u.frzs u.tbls (λm' hm=>by
  obtain ⟨o',es',ep',ho',r'⟩:=hm
  rw [ho] at ho'; cases ho'
  exact ⟨_,es',ep',hL,r'⟩) hok I.bare
theorem Inv.call {g':Array GenState} {t':Nat} {d':Drawn} {ch:List Addr} (I:Inv X pins σ H s) (u:Un (frs X.stack) ch H H' s.heap h') (hok:HOk X.prog X.w H' h') (hg:AllBare g')
  (hch:∀ b∈ch,(b∈X.ex∨X.s₀.heap.get? b=none)∧b≠X.env.locals∧(∀ x c,X.env.cells.lookup x=some c→c≠b)∧∀ p∈X.pn ++ pins,p.1≠b) :
  Inv X pins σ H' { s with heap:=h',gens:=g',drawn:=d',toks:=t' }:=by
 obtain ⟨m,⟨o,es,ep,ho,r⟩,_⟩:=id I.loc
 obtain ⟨sl,hL⟩:=u.any ho I.free λz=>(hch _ z).2.1 rfl
 exact I.step (ch:=ch) hch (λb o hL hb hc e n=>u.keep b o e n (λz=>(List.mem_cons.mp (I.stkSub b z)).elim hL hb) hc) (λb o _ _ hc e n=>u.any e n hc) (λb o hc e n=>u.free b o e n hc) (λb o hc e=>u.there b o e hc) u.tups u.frzs u.tbls (λm' hm=>by
  obtain ⟨o',es',ep',ho',r'⟩:=hm
  rw [ho] at ho'; cases ho'
  exact ⟨_,es',ep',hL,r'⟩) hok hg
theorem Inv.turned {t':Nat} {it:Addr} (I:Inv X pins σ H s) (k:∀ b o,b≠it→s.heap.get? b=some o→h'.get? b=some o) (hn:H it=none) (hL:it≠X.env.locals)
  (h1:it∈X.ex∨X.s₀.heap.get? it=none) (h2:∀ x c,X.env.cells.lookup x=some c→c≠it) (h3:∀ p∈X.pn ++ pins,p.1≠it):Inv X pins σ H { s with heap:=h',toks:=t' }:=by
 have nit:∀ b u,H b=some u→b≠it:=λb u e z=>by rw [z,hn] at e; cases e
 refine I.step (g':=s.gens) (d':=s.drawn) (ch:=[it]) (λb hb=>?_) (λb o _ _ hc e _=>k b o (λz=>hc (by simp [z])) e) (λb o _ _ hc e _=>⟨o.slots,k b o (λz=>hc (by simp [z])) e⟩) (λ_ _ _ _ n=>n)
  (λb o hc e=>⟨o,k b o (λz=>hc (by simp [z])) e⟩) (λ_ _ e=>e) (λ_ _ _ e=>e) (λb ps e=>⟨#[],by rw [e]; simp⟩) (λm hm=>?_) (λb u e=>?_) I.bare
 ·have e:b=it:=by simpa using hb
  subst e
  exact ⟨h1,hL,h2,h3⟩
 ·obtain ⟨o,es,ep,ho,r⟩:=hm
  exact ⟨o,es,ep,k _ o (Ne.symm hL) ho,r⟩
 ·refine (I.hok b u e).stay (λc v hc q=>k c v ?_ q) (λ_ q=>q) λ_ _ q=>q
  rcases hc with z | z
  ·rw [z]; exact nit b u e
  ·exact nit c _ z
theorem Inv.tok (I:Inv X pins σ H s) (t:Nat):Inv X pins σ H { s with toks:=t }:=I.un (h':=s.heap) (t':=t) Un.refl I.hok
theorem Inv.kept {t':Nat} (I:Inv X pins σ H s) (k:∀ b u,s.heap.get? b=some u→h'.get? b=some u):Inv X pins σ H { s with heap:=h',toks:=t' }:=I.un (Un.kept k) (I.hok.kept k)
theorem Inv.laid {a:Addr} {o:HO} {t':Nat} (I:Inv X pins σ H s) (k:∀ b u,s.heap.get? b=some u→h'.get? b=some u) (hp:s.heap.objs.size≤a) (new:ObjOk X.prog X.w (upd H a o) h' a o) :
  Inv X pins σ (upd H a o) { s with heap:=h',toks:=t' }:=I.un (Un.laid k hp (I.hok.fresh hp)) (I.hok.laid k hp new)
theorem Inv.write {x e:Addr} {o:HO} {t':Nat} (I:Inv X pins σ H s) (mu:Mut (H x)) (he:e=x∨H e=some (.own x)) (k:∀ b u,b≠e→s.heap.get? b=some u→h'.get? b=some u) (heo:∃ u,h'.get? e=some u)
  (new:ObjOk X.prog X.w (upd H x o) h' x o):Inv X pins σ (upd H x o) { s with heap:=h',toks:=t' }:=I.un (Un.write mu he k heo) (I.hok.write mu he k heo new)
theorem Inv.pins_of {pins':List (Addr × Obj)} (I:Inv X pins σ H s) (h:∀ p∈pins',s.heap.get? p.1=some p.2∧H p.1=none∧p.1≠X.env.locals∧p.1 ∉ X.fs∧∀ v,p.2.data≠.cell v):Inv X pins' σ H s :=
 ⟨I.ok,I.os,I.bare,I.base,I.loc,I.cell,I.free,I.freeC,λp hp=>(List.mem_append.mp hp).elim (λz=>I.pin p (List.mem_append_left _ z)) (h p),I.hok,I.len⟩
theorem nodup_ix {N:List Str} (hN:N.Nodup) {i j:Nat} {x:Str} (a:N[i]?=some x) (b:N[j]?=some x):i=j:=by
 obtain ⟨h1,e1⟩:=List.getElem?_eq_some_iff.mp a
 obtain ⟨h2,e2⟩:=List.getElem?_eq_some_iff.mp b
 exact (List.getElem_inj hN).mp (e1.trans e2.symm)
theorem store_ok2 {M:Model} {A:Around} {E:Value→Shared→Prop} {i:Nat} {x:Str} {v:V} {u:Value} {Q:Unit→Shared→Prop} (I:Inv X pins σ H s) (hN:X.N.Nodup) (hi:X.N[i]?=some x) (hx:Loc X.env.scope x) (r:RelV v u)
  (h:∀ s',Inv X pins (σ.set i (some v)) H s'→(∃ a,Heap.SameBut a s.heap s'.heap∧(a=X.env.locals∨X.env.cells.lookup x=some a))→Q () s') (hf:X.fn x=true∨X.env.scope.names.lookup x=some .local:=by first | exact .inl rfl | exact .inr rfl | assumption):wpAny M A (storeName X.env x u) Q E s:=by
 obtain ⟨m,hn,hl⟩:=id I.loc
 have hcls:(X.env.scope.kind == .class || (X.env.scope.kind == .module && X.env.locals != X.env.globals))=false:=by rw [I.ok.kind]; rfl
 have hiσ:i<σ.length:=by rw [I.len]; exact (List.getElem?_eq_some_iff.mp hi).1
 have cne:=I.cne
 have tracked:∀ {a:Addr} {h':Heap},(∃ o,s.heap.get? a=some o∧H a=none)→Heap.SameBut a s.heap h'→HOk X.prog X.w H h':=λ{a h'} ha hs b ob e=>by
  obtain ⟨_,_,hfree⟩:=ha
  refine (I.hok b ob e).stay (λc w' hc q=>(hs.2 c ?_).trans q) (λ_ q=>q) λ_ _ q=>q
  rintro rfl
  rcases hc with rfl | hc
  ·rw [hfree] at e; cases e
  ·rw [hfree] at hc; cases hc
 rcases hx with hk | hk
 ·refine wpAny_storeName_local hk hn (λh' hn' hs=>?_) hcls
  obtain ⟨oL,_,_,hoL,_⟩:=id hn
  refine h _ ⟨I.ok,I.os,I.bare,⟨λb o e n hb hx=>?_,λb o e n hb hx=>?_,I.base.free,λb o e hx=>?_,I.base.tups,I.base.frzs,I.base.tbls⟩,⟨_,hn',λj y v' e1 e2 e3=>?_⟩,λy c e=>?_,I.free,I.freeC,λp hp=>?_,tracked ⟨oL,hoL,I.free⟩ hs,by simpa using I.len⟩ ⟨_,hs,.inl rfl⟩
  ·exact (hs.2 b (Nat.ne_of_lt (Nat.lt_of_lt_of_le (Heap.lt_size e) I.ok.above))).trans (I.base.keep b o e n hb hx)
  ·obtain ⟨sl,e1⟩:=I.base.slot b o e n hb hx
   exact ⟨sl,(hs.2 b (Nat.ne_of_lt (Nat.lt_of_lt_of_le (Heap.lt_size e) I.ok.above))).trans e1⟩
  ·obtain ⟨o',e1⟩:=I.base.there b o e hx
   exact ⟨o',(hs.2 b (Nat.ne_of_lt (Nat.lt_of_lt_of_le (Heap.lt_size e) I.ok.above))).trans e1⟩
  ·by_cases hj:j=i
   ·subst hj
    rw [hi] at e1; cases e1
    rw [List.getElem?_set_self hiσ] at e2
    cases e2
    exact ⟨u,r,.inl ⟨hk,by simp⟩⟩
   ·rw [List.getElem?_set_ne (Ne.symm hj)] at e2
    obtain ⟨u',r',q⟩:=hl j y v' e1 e2 e3
    refine ⟨u',r', ?_⟩
    rcases q with ⟨k,e⟩ | ⟨k,c,e,z⟩
    ·refine .inl ⟨k, ?_⟩
     have:y≠x:=λe=>hj (nodup_ix hN e1 (e ▸ hi))
     simp [this,e]
    ·exact .inr ⟨k,c,e,z.sameBut hs (cne y c e)⟩
  ·obtain ⟨w',z⟩:=I.cell y c e
   exact ⟨w',z.sameBut hs (cne y c e)⟩
  ·obtain ⟨e,n,ne,nf,d⟩:=I.pin p hp
   exact ⟨(hs.2 p.1 ne).trans e,n,ne,nf,d⟩
 ·have hfn:X.fn x=true:=by
   rcases hf with z | z
   ·exact z
   ·rw [z] at hk; cases hk
  obtain ⟨c,hc⟩:=I.ok.has x (.inl hk)
  obtain ⟨w',z⟩:=I.cell x c hc
  refine wpAny_storeName_cell I.ok.kind hk hc z (λh' hc' hs=>?_)
  obtain ⟨oc,hoc,hocd⟩:=id z
  refine h { s with heap:=h' } ⟨I.ok,I.os,I.bare,⟨λb o e n hb hx=>?_,λb o e n hb hx=>?_,I.base.free,λb o e hx=>?_,I.base.tups,I.base.frzs,I.base.tbls⟩,⟨m,hn.sameBut hs (Ne.symm (cne x c hc)),λj y v' e1 e2 e3=>?_⟩,λy c' e=>?_,I.free,I.freeC,λp hp=>?_,tracked ⟨oc,hoc,I.freeC x c hc⟩ hs,by simpa using I.len⟩ ⟨c,hs,.inr hc⟩
  ·exact (hs.2 b (Nat.ne_of_lt (Nat.lt_of_lt_of_le (Heap.lt_size e) (I.ok.cab x c hfn hc)))).trans (I.base.keep b o e n hb hx)
  ·obtain ⟨sl,e1⟩:=I.base.slot b o e n hb hx
   exact ⟨sl,(hs.2 b (Nat.ne_of_lt (Nat.lt_of_lt_of_le (Heap.lt_size e) (I.ok.cab x c hfn hc)))).trans e1⟩
  ·obtain ⟨o',e1⟩:=I.base.there b o e hx
   exact ⟨o',(hs.2 b (Nat.ne_of_lt (Nat.lt_of_lt_of_le (Heap.lt_size e) (I.ok.cab x c hfn hc)))).trans e1⟩
  ·by_cases hj:j=i
   ·subst hj
    rw [hi] at e1; cases e1
    rw [List.getElem?_set_self hiσ] at e2
    cases e2
    exact ⟨u,r,.inr ⟨.inl hk,c,hc,hc'⟩⟩
   ·rw [List.getElem?_set_ne (Ne.symm hj)] at e2
    obtain ⟨u',r',q⟩:=hl j y v' e1 e2 e3
    refine ⟨u',r', ?_⟩
    rcases q with q | ⟨k,c',e,z'⟩
    ·exact .inl q
    ·refine .inr ⟨k,c',e,z'.sameBut hs ?_⟩
     rintro rfl
     exact hj (nodup_ix hN e1 (I.ok.inj _ _ _ e hc ▸ hi))
  ·by_cases hcc:c'=c
   ·subst hcc; exact ⟨_,hc'⟩
   ·obtain ⟨w2,z2⟩:=I.cell y c' e
    exact ⟨w2,z2.sameBut hs hcc⟩
  ·obtain ⟨e,n,ne,nf,d⟩:=I.pin p hp
   refine ⟨(hs.2 p.1 ?_).trans e,n,ne,nf,d⟩
   intro q
   rw [q,hoc] at e
   have q':oc=p.2:=Option.some.inj e
   exact d w' (by rw [← q']; exact hocd)
theorem store_ok {M:Model} {A:Around} {E:Value→Shared→Prop} {i:Nat} {x:Str} {v:V} {u:Value} {Q:Unit→Shared→Prop} (I:Inv X pins σ H s) (hN:X.N.Nodup) (hi:X.N[i]?=some x) (hx:Loc X.env.scope x) (r:RelV v u)
  (h:∀ s',Inv X pins (σ.set i (some v)) H s'→Q () s') (hf:X.fn x=true∨X.env.scope.names.lookup x=some .local:=by first | exact .inl rfl | exact .inr rfl | assumption):wpAny M A (storeName X.env x u) Q E s :=
 store_ok2 I hN hi hx r (λs' I' _=>h s' I') hf
theorem Inv.call' {s':Shared} {ch:List Addr} (I:Inv X pins σ H s) (ho:s'.os=s.os) (u:Un (frs X.stack) ch H H' s.heap s'.heap) (hok:HOk X.prog X.w H' s'.heap) (hg:AllBare s'.gens)
  (hch:∀ b∈ch,(b∈X.ex∨X.s₀.heap.get? b=none)∧b≠X.env.locals∧(∀ x c,X.env.cells.lookup x=some c→c≠b)∧∀ p∈X.pn ++ pins,p.1≠b):Inv X pins σ H' s':=by
 obtain ⟨h',g',d',t',o'⟩:=s'
 have e:o'=s.os:=ho
 subst e
 exact I.call (g':=g') (t':=t') (d':=d') u hok hg hch
end
abbrev XK:=Value→Option Addr→Hp→Prop
abbrev St:=List (Option V)
abbrev VK:=V→Hp→Prop
abbrev TE:=St→Hp→VK→Prop
abbrev TT:=St→Hp→(Bool→Hp→Prop)→Prop
abbrev TA:=St→Hp→(List V→Hp→Prop)→Prop
structure Ends where
 nx:St→Hp→Prop
 rt:VK
 bk:St→Hp→Prop:=λ_ _=>False
 ct:St→Hp→Prop:=λ_ _=>False
abbrev TS:=Ends→St→Hp→Prop
def EP (X:Cx) (pins:List (Addr × Obj)) (σ:St) (Q:VK) (u:Value) (s':Shared):Prop:=∃ v H',Inv X pins σ H' s'∧RelV v u∧Q v H'
def TP (X:Cx) (pins:List (Addr × Obj)) (σ:St) (Q:Bool→Hp→Prop) (b:Bool) (s':Shared):Prop:=∃ H',Inv X pins σ H' s'∧Q b H'
def AP (X:Cx) (pins:List (Addr × Obj)) (σ:St) (Q:List V→Hp→Prop) (us:List Value) (s':Shared):Prop:=∃ vs H',Inv X pins σ H' s'∧Vals vs us∧Q vs H'
def SP (X:Cx) (pins:List (Addr × Obj)) (D:Ends) (f:Flow) (s':Shared):Prop :=
 match f with
 | .next=>∃ σ' H',Inv X pins σ' H' s'∧D.nx σ' H'
 | .brk=>∃ σ' H',Inv X pins σ' H' s'∧D.bk σ' H'
 | .cont=>∃ σ' H',Inv X pins σ' H' s'∧D.ct σ' H'
 | .ret u=>∃ v σ' H',Inv X pins σ' H' s'∧RelV v u∧D.rt v H'
def PE (X:Cx) (e:Expr) (t:TE):Prop :=
 ∀ (pins:List (Addr × Obj)) (s:Shared) (σ:St) (H:Hp) (Q:VK),Inv X pins σ H s→t σ H Q→wpAny (model X.prog X.w) X.A (eval e X.env) (EP X pins σ Q) X.xe s
def PT (X:Cx) (e:Expr) (t:TT):Prop :=
 ∀ (pins:List (Addr × Obj)) (s:Shared) (σ:St) (H:Hp) (Q:Bool→Hp→Prop),Inv X pins σ H s→t σ H Q→wpAny (model X.prog X.w) X.A (isTrue e X.env (eval e X.env)) (TP X pins σ Q) X.xe s
def PW (X:Cx) (e:Expr) (t:TT):Prop :=
 ∀ (whole:Sem Value) (pins:List (Addr × Obj)) (s:Shared) (σ:St) (H:Hp) (Q:Bool→Hp→Prop),Inv X pins σ H s→t σ H Q→wpAny (model X.prog X.w) X.A (isTrue e X.env whole) (TP X pins σ Q) X.xe s
theorem PW.pt {X:Cx} {e:Expr} {t:TT} (h:PW X e t):PT X e t:=h _
def PA (X:Cx) (es:List Expr) (t:TA):Prop :=
 ∀ (pos:Pos) (pins:List (Addr × Obj)) (s:Shared) (σ:St) (H:Hp) (Q:List V→Hp→Prop),Inv X pins σ H s→t σ H Q→wpAny (model X.prog X.w) X.A (spliced (backTo pos (starEach es X.env))) (AP X pins σ Q) X.xe s
def PS (X:Cx) (st:Stmt) (t:TS):Prop :=
 ∀ (pins:List (Addr × Obj)) (s:Shared) (σ:St) (H:Hp) (D:Ends),Inv X pins σ H s→t D σ H→wpAny (model X.prog X.w) X.A (exec st X.env) (SP X pins D) X.xe s
def PSs (X:Cx) (st:List Stmt) (t:TS):Prop :=
 ∀ (pins:List (Addr × Obj)) (s:Shared) (σ:St) (H:Hp) (D:Ends),Inv X pins σ H s→t D σ H→wpAny (model X.prog X.w) X.A (execs st X.env) (SP X pins D) X.xe s
theorem thn {α:Type} {t:Sem α} {Q Q':α→Shared→Prop} {M:Model} {A:Around} {E:Value→Shared→Prop} {s:Shared} (h:wpAny M A t Q E s) (hQ:∀ a s,Q a s→Q' a s):wpAny M A t Q' E s:=wpAny_mono h hQ λ_ _ x=>x
section
variable {X:Cx}
theorem bin {a b:Expr} {ta tb:TE} (ha:PE X a ta) (hb:PE X b tb) {pins:List (Addr × Obj)} {s:Shared} {σ:St} {H:Hp} {R:V→V→Hp→Prop} (I:Inv X pins σ H s) (h:ta σ H λx H1=>tb σ H1 λy H2=>R x y H2)
  {α:Type} {Q:α→Shared→Prop} {f:Value→Value→Sem α}
  (hf:∀ v u s2 x y H2,Inv X pins σ H2 s2→RelV x v→RelV y u→R x y H2→wpAny (model X.prog X.w) X.A (f v u) Q X.xe s2) :
  wpAny (model X.prog X.w) X.A (eval a X.env) (λv s₁=>wpAny (model X.prog X.w) X.A (eval b X.env) (λu s₂=>wpAny (model X.prog X.w) X.A (f v u) Q X.xe s₂) X.xe s₁) X.xe s:=by
 refine thn (ha pins s σ H _ I h) λv s1 ⟨x,H1,I1,r1,q1⟩=>?_
 refine thn (hb pins s1 σ H1 _ I1 q1) λu s2 ⟨y,H2,I2,r2,q2⟩=>?_
 exact hf v u s2 x y H2 I2 r1 r2 q2
def tVar (i:Nat):TE:=λσ H Q=>∃ v,σ[i]?=some (some v)∧Q v H
def tC (v:V):TE:=λ_ H Q=>Q v H
theorem pe_var {i:Nat} {x:Str} {pos:Pos} (hN:X.N[i]?=some x) (hv:Vis X.env.scope x) (hd:(x == ("__debug__":Str))=false:=by decide) (hcd:(x == ("__classdict__":Str))=false:=by decide):PE X (.Name x pos) (tVar i):=by
 intro pins s σ H Q I h
 obtain ⟨v,e,h⟩:=h
 obtain ⟨m,hn,hl⟩:=I.loc
 obtain ⟨u,r,l⟩:=hl i x v hN e hv
 have fin:EP X pins σ Q u s:=⟨v,H,I,r,h⟩
 rcases l with ⟨hk,hm⟩ | ⟨hk,c,hc,hcell⟩
 ·exact wpAny_Name (wpAny_loadName_local I.ok.kind hk hn hm fin) hd
 ·rcases hk with hk | hk
  ·exact wpAny_Name (wpAny_loadName_cell I.ok.kind hk hc hcell fin) hd
  ·exact wpAny_Name (wpAny_loadName_free I.ok.kind hk hc hcell fin hcd) hd
theorem pe_int {i j pos}:PE X (.Constant (.int i) j pos) (tC (.int i)):=λ_ _ _ H _ I h=>wpAny_Constant_int ⟨.int i,H,I.tok _,⟨_,rfl⟩,h⟩
theorem pe_bl {b j pos}:PE X (.Constant (.bool b) j pos) (tC (.bl b)):=λ_ _ _ H _ I h=>Constant_bool ⟨.bl b,H,I,rfl,h⟩
theorem pe_non {j pos}:PE X (.Constant .none j pos) (tC .non):=λ_ _ _ H _ I h=>Constant_none ⟨.non,H,I,rfl,h⟩
theorem pe_str {x j pos}:PE X (.Constant (.str x) j pos) (tC (.str x)):=λ_ _ _ H _ I h=>Calls.Constant_str ⟨.str x,H,I.tok _,⟨_,rfl⟩,h⟩
def Gl (X:Cx) (x:Str):Prop:=X.env.kindOf x=some .globalImplicit
theorem ld_glob {E:Value→Shared→Prop} {pins:List (Addr × Obj)} {s:Shared} {σ:St} {H:Hp} {x:Str} {u:Value} {pos:Pos} {Q:Value→Shared→Prop} (I:Inv X pins σ H s) (hg:Gl X x) (hm:X.mg x=some u) (h:Q u s)
  (hd:(x == ("__debug__":Str))=false:=by decide):wpAny (model X.prog X.w) X.A (eval (.Name x pos) X.env) Q E s :=
 Calls.Name_function_global I.ok.kind hg (Calls.loadGlobal_global (by rw [I.ok.glob]; exact I.mod.glob.keeps I.bk) hm h) hd
theorem ld_blt {E:Value→Shared→Prop} {pins:List (Addr × Obj)} {s:Shared} {σ:St} {H:Hp} {x:Str} {u:Value} {pos:Pos} {Q:Value→Shared→Prop} (I:Inv X pins σ H s) (hg:Gl X x) (hm:X.mg x=none) (hv:bootBuiltins x=some u) (h:Q u s)
  (hn:x≠"__name__":=by decide) (hd:(x == ("__debug__":Str))=false:=by decide):wpAny (model X.prog X.w) X.A (eval (.Name x pos) X.env) Q E s:=by
 obtain ⟨mb,h1,h2⟩:=I.mod.blt
 exact Calls.Name_function_global I.ok.kind hg (Calls.loadGlobal_builtin (by rw [I.ok.glob]; exact I.mod.glob.keeps I.bk) hm (by rw [I.ok.blt]; exact h1.keeps I.bk) ((h2 x hn).trans hv) h) hd
theorem pe_glob {x:Str} {v:V} {u:Value} {pos:Pos} (hg:Gl X x) (hm:X.mg x=some u) (r:RelV v u) (hd:(x == ("__debug__":Str))=false:=by decide):PE X (.Name x pos) (tC v) :=
 λ_ _ _ H _ I h=>ld_glob I hg hm ⟨v,H,I,r,h⟩ hd
theorem pe_bltn {x:Str} {v:V} {u:Value} {pos:Pos} (hg:Gl X x) (hm:X.mg x=none) (hv:bootBuiltins x=some u) (r:RelV v u) (hn:x≠"__name__":=by decide) (hd:(x == ("__debug__":Str))=false:=by decide):PE X (.Name x pos) (tC v) :=
 λ_ _ _ H _ I h=>ld_blt I hg hm hv ⟨v,H,I,r,h⟩ hn hd
variable {a b:Expr} {ta tb:TE} {pos:Pos}
variable {tA tB':TT} {rest:List Expr}
def tAnd (t u:TT):TT:=λσ H Q=>t σ H λc H1=>if c=true then u σ H1 Q else Q false H1
def tOr (t u:TT):TT:=λσ H Q=>t σ H λc H1=>if c=true then Q true H1 else u σ H1 Q
def tNot (t:TT):TT:=λσ H Q=>t σ H λc H1=>Q (!c) H1
theorem pw_and1 (ha:PT X a tA):PW X (.BoolOp .And [a] pos) tA:=by
 intro wh pins s σ H Q I h
 refine isTrue_and (thn (ha pins s σ H Q I h) λc s1 e=>?_)
 cases c with
 | true=>exact isTrue_and_nil e
 | false=>exact e
theorem pw_or1 (ha:PT X a tA):PW X (.BoolOp .Or [a] pos) tA:=by
 intro wh pins s σ H Q I h
 refine isTrue_or (thn (ha pins s σ H Q I h) λc s1 e=>?_)
 cases c with
 | false=>exact isTrue_or_nil e
 | true=>exact e
theorem pw_and (ha:PT X a tA) (hb:PW X (.BoolOp .And (b :: rest) pos) tB'):PW X (.BoolOp .And (a :: b :: rest) pos) (tAnd tA tB'):=by
 intro wh pins s σ H Q I h
 refine isTrue_and (thn (ha pins s σ H _ I h) λc s1 ⟨H1,I1,q1⟩=>?_)
 cases c with
 | true=>exact hb wh pins s1 σ H1 Q I1 q1
 | false=>exact ⟨H1,I1,q1⟩
theorem pw_or (ha:PT X a tA) (hb:PW X (.BoolOp .Or (b :: rest) pos) tB'):PW X (.BoolOp .Or (a :: b :: rest) pos) (tOr tA tB'):=by
 intro wh pins s σ H Q I h
 refine isTrue_or (thn (ha pins s σ H _ I h) λc s1 ⟨H1,I1,q1⟩=>?_)
 cases c with
 | true=>exact ⟨H1,I1,q1⟩
 | false=>exact hb wh pins s1 σ H1 Q I1 q1
theorem pt_not (ha:PT X a tA):PT X (.UnaryOp .Not a pos) (tNot tA):=by
 intro pins s σ H Q I h
 exact isTrue_not (ha pins s σ H (λc H1=>Q (!c) H1) I h)
noncomputable def tAndV (ta tb:TE):TE:=λσ H Q=>ta σ H λx H1=>∃ c,x=.bl c∧if c=true then tb σ H1 Q else Q (.bl false) H1
noncomputable def tOrV (ta tb:TE):TE:=λσ H Q=>ta σ H λx H1=>∃ c,x=.bl c∧if c=true then Q (.bl true) H1 else tb σ H1 Q
theorem pe_one {op} {t:TE} (h:PE X a t):PE X (.BoolOp op [a] pos) t:=λpins s σ H Q I hw=>BoolOp_one (h pins s σ H Q I hw)
theorem pe_and (ha:PE X a ta) (hb:PE X (.BoolOp .And (b :: rest) pos) tb):PE X (.BoolOp .And (a :: b :: rest) pos) (tAndV ta tb):=by
 intro pins s σ H Q I h
 refine BoolOp_and (thn (ha pins s σ H _ I h) λv s1 ⟨x,H1,I1,r1,q1⟩=>?_)
 obtain ⟨c,rfl,q1⟩:=q1
 cases r1
 refine wpAny_truthy_bool ?_
 cases c with
 | true=>exact hb pins s1 σ H1 Q I1 q1
 | false=>exact ⟨.bl false,H1,I1,rfl,q1⟩
theorem pe_or (ha:PE X a ta) (hb:PE X (.BoolOp .Or (b :: rest) pos) tb):PE X (.BoolOp .Or (a :: b :: rest) pos) (tOrV ta tb):=by
 intro pins s σ H Q I h
 refine BoolOp_or (thn (ha pins s σ H _ I h) λv s1 ⟨x,H1,I1,r1,q1⟩=>?_)
 obtain ⟨c,rfl,q1⟩:=q1
 cases r1
 refine wpAny_truthy_bool ?_
 cases c with
 | false=>exact hb pins s1 σ H1 Q I1 q1
 | true=>exact ⟨.bl true,H1,I1,rfl,q1⟩
end
def SqL (K:PySem.W.Frag) (H:Hp) (a:Addr) (xs:List V):Prop :=
 Rd H a (.lst xs) ∨
  ∃ (o:Obj) (its:Array Value) (n:Nat),K.lookup a=some o∧o.cls=.type "list"∧o.dict=none∧o.data=.seq its n∧its.size≤sizeLine∧Vals xs its.toList
def SqT (K:PySem.W.Frag) (H:Hp) (a:Addr) (xs:List V):Prop :=
 Rd H a (.tup xs) ∨
  ∃ (o:Obj) (its:Array Value) (n:Nat),K.lookup a=some o∧o.cls=.type "tuple"∧o.data=.seq its n∧its.size≤sizeLine∧Vals xs its.toList
noncomputable def absV:Value→Option V
 | .none=>some .non
 | .bool b=>some (.bl b)
 | .int i _=>some (.int i)
 | .str x _=>some (.str x)
 | .bytes b _=>some (.byt b)
 | .float b _=>some (.flt b)
 | .ref a=>some (.ref a)
 | .type n=>some (.ty n)
 | _=>none
theorem RelV.abs {x:V} {u:Value} (r:RelV x u):absV u=some x:=by
 cases x with
 | non=>cases r; rfl
 | bl _=>cases r; rfl
 | int _=>obtain ⟨t,rfl⟩:=r; rfl
 | str _=>obtain ⟨t,rfl⟩:=r; rfl
 | byt _=>obtain ⟨t,rfl⟩:=r; rfl
 | flt _=>obtain ⟨t,rfl⟩:=r; rfl
 | ref _=>cases r; rfl
 | ty _=>cases r; rfl
theorem RelV.inj {x y:V} {u:Value} (r:RelV x u) (q:RelV y u):x=y:=Option.some.inj (r.abs.symm.trans q.abs)
theorem Vals.inj:∀ {xs ys:List V} {us:List Value},Vals xs us→Vals ys us→xs=ys
 | _,_,_,.nil,.nil=>rfl
 | _,_,_,.cons r t,.cons r' t'=>by rw [r.inj r',Vals.inj t t']
section
variable {X:Cx} {pins:List (Addr × Obj)} {σ:St} {H:Hp} {s:Shared} {a:Addr} {xs ys:List V}
theorem SqL.of {K:PySem.W.Frag} (h:H a=some (.lst xs)):SqL K H a xs:=.inl (.inl h)
theorem SqT.of {K:PySem.W.Frag} (h:H a=some (.tup xs)):SqT K H a xs:=.inl (.inl h)
theorem Inv.list (I:Inv X pins σ H s) (h:SqL X.K H a xs):∃ its:List Value,Vals xs its∧PlainL s.heap a its.toArray∧xs.length≤sizeLine:=by
 rcases h with h | ⟨o,its,n,hk,hc,hd,hs,hz,r⟩
 ·obtain ⟨z,its,n,r,e⟩:=h.ok I.hok
  exact ⟨its,r,⟨_,n,e,rfl,rfl,rfl⟩,z⟩
 ·refine ⟨its.toList,r,⟨o,n,I.kIn a o hk,hc,hd,by simpa using hs⟩, ?_⟩
  have e:=r.length
  simp only [Array.length_toList] at e
  omega
theorem Inv.tuple (I:Inv X pins σ H s) (h:SqT X.K H a xs):∃ its:List Value,Vals xs its∧IsTup s.heap a its.toArray∧xs.length≤sizeLine:=by
 rcases h with h | ⟨o,its,n,hk,hc,hs,hz,r⟩
 ·obtain ⟨z,its,r,p⟩:=h.ok I.hok
  exact ⟨its,r,p,z⟩
 ·refine ⟨its.toList,r,⟨o,I.kIn a o hk,hc,n,by simpa using hs⟩, ?_⟩
  have e:=r.length
  simp only [Array.length_toList] at e
  omega
theorem Inv.list_inj (I:Inv X pins σ H s) (h:SqL X.K H a xs) (h':SqL X.K H a ys):xs=ys:=by
 obtain ⟨its,r,⟨o,n,e,_,_,d⟩,_⟩:=I.list h
 obtain ⟨its',r',⟨o',n',e',_,_,d'⟩,_⟩:=I.list h'
 rw [e] at e'; cases e'
 rw [d] at d'
 injection d' with d1 _
 have:its=its':=by simpa using congrArg Array.toList d1
 subst this
 exact r.inj r'
theorem Inv.tuple_inj (I:Inv X pins σ H s) (h:SqT X.K H a xs) (h':SqT X.K H a ys):xs=ys:=by
 obtain ⟨its,r,⟨o,e,_,n,d⟩,_⟩:=I.tuple h
 obtain ⟨its',r',⟨o',e',_,n',d'⟩,_⟩:=I.tuple h'
 rw [e] at e'; cases e'
 rw [d] at d'
 injection d' with d1 _
 have:its=its':=by simpa using congrArg Array.toList d1
 subst this
 exact r.inj r'
end
abbrev Cx.wish (X:Cx) (E:Value→Shared→Prop):Cx:={ X with xe:=E }
abbrev Cx.nox (X:Cx):Cx:=X.wish λ_ _=>False
theorem Cx.Ok.wish {X:Cx} (ok:X.Ok) (E:Value→Shared→Prop):(X.wish E).Ok :=
 ⟨ok.mod,ok.kind,ok.glob,ok.blt,ok.above,ok.inj,ok.has,ok.cab,ok.hd,ok.frames,ok.stk,ok.exf,ok.bs,ok.bsz,ok.noex,ok.exfs,ok.funs,ok.frf⟩
theorem Cx.Ok.unwish {X:Cx} {E:Value→Shared→Prop} (ok:(X.wish E).Ok):X.Ok :=
 ⟨ok.mod,ok.kind,ok.glob,ok.blt,ok.above,ok.inj,ok.has,ok.cab,ok.hd,ok.frames,ok.stk,ok.exf,ok.bs,ok.bsz,ok.noex,ok.exfs,ok.funs,ok.frf⟩
section
variable {X:Cx} {pins:List (Addr × Obj)} {σ:St} {H:Hp} {s:Shared} {E:Value→Shared→Prop}
theorem Inv.wish (I:Inv X pins σ H s) (E:Value→Shared→Prop):Inv (X.wish E) pins σ H s:=⟨I.ok.wish E,I.os,I.bare,I.base,I.loc,I.cell,I.free,I.freeC,I.pin,I.hok,I.len⟩
theorem Inv.unwish (I:Inv (X.wish E) pins σ H s):Inv X pins σ H s:=⟨I.ok.unwish,I.os,I.bare,I.base,I.loc,I.cell,I.free,I.freeC,I.pin,I.hok,I.len⟩
theorem SP.unwish {D:Ends} {f:Flow} {s':Shared} (h:SP (X.wish E) pins D f s'):SP X pins D f s':=by
 cases f with
 | next=>obtain ⟨σ',H',I,q⟩:=h; exact ⟨σ',H',I.unwish,q⟩
 | brk=>obtain ⟨σ',H',I,q⟩:=h; exact ⟨σ',H',I.unwish,q⟩
 | cont=>obtain ⟨σ',H',I,q⟩:=h; exact ⟨σ',H',I.unwish,q⟩
 | ret u=>obtain ⟨v,σ',H',I,r,q⟩:=h; exact ⟨v,σ',H',I.unwish,r,q⟩
theorem PSs.nox {st:List Stmt} {t:TS} (h:PSs X.nox st t):PSs X st t:=λpins s σ H D I hw =>
 wpAny_mono (h pins s σ H D (I.wish _) hw) (λ_ _ q=>q.unwish) λ_ _ z=>False.elim z
end
section
variable {X:Cx} {st:Stmt} {rest:List Stmt} {t u:TS} {e:Expr} {te:TE} {pos:Pos}
def tNext:TS:=λD σ H=>D.nx σ H
def tSeq (t u:TS):TS:=λD σ H=>t { D with nx:=u D } σ H
theorem pss_nil:PSs X [] tNext:=λ_ _ σ H _ I h=>wpAny_execs_nil ⟨σ,H,I,h⟩
theorem pss_cons (h1:PS X st t) (h2:PSs X rest u):PSs X (st :: rest) (tSeq t u):=by
 intro pins s σ H D I h
 refine wpAny_execs_cons (thn (h1 pins s σ H { D with nx:=u D } I h) λf s1 q=>?_)
 cases f with
 | next =>
  obtain ⟨σ',H',I',q⟩:=q
  exact h2 pins s1 σ' H' D I' q
 | ret v=>exact q
 | brk=>exact q
 | cont=>exact q
theorem pss_one (h1:PS X st t):PSs X [st] t:=by
 intro pins s σ H D I h
 refine wpAny_execs_cons (thn (h1 pins s σ H D I h) λf s1 q=>?_)
 cases f with
 | next=>exact wpAny_execs_nil q
 | ret v=>exact q
 | brk=>exact q
 | cont=>exact q
def tBreak:TS:=λD σ H=>D.bk σ H
def tCont:TS:=λD σ H=>D.ct σ H
theorem ps_pass:PS X (.Pass pos) tNext:=λ_ _ σ H _ I h=>wpAny_Pass ⟨σ,H,I,h⟩
theorem ps_break:PS X (.Break pos) tBreak:=λ_ _ σ H _ I h=>wpAny_Break ⟨σ,H,I,h⟩
theorem ps_continue:PS X (.Continue pos) tCont:=λ_ _ σ H _ I h=>wpAny_Continue ⟨σ,H,I,h⟩
theorem Inv.quiet {pins:List (Addr × Obj)} {σ:St} {H:Hp} {s:Shared} (I:Inv X pins σ H s):interactive X.env=false:=by simp [interactive,I.ok.kind]
def tDrop (te:TE):TS:=λD σ H=>te σ H λ_ H1=>D.nx σ H1
theorem ps_expr (he:PE X e te) (hs:swapsWith e none pos.line X.env=pure false:=by rfl):PS X (.Expr e pos) (tDrop te):=by
 intro pins s σ H D I h
 exact wpAny_Expr_any (thn (he pins s σ H _ I h) λv s1 ⟨x,H1,I1,r1,q1⟩=>⟨σ,H1,I1,q1⟩) I.quiet hs
def tRet (te:TE):TS:=λD σ H=>te σ H D.rt
theorem ps_ret (he:PE X e te):PS X (.Return (some e) pos) (tRet te):=by
 intro pins s σ H D I h
 exact wpAny_Return_some (thn (he pins s σ H _ I h) λv s1 ⟨x,H1,I1,r1,q1⟩=>⟨x,σ,H1,I1,r1,q1⟩)
def tRetN:TS:=λD _ H=>D.rt .non H
theorem ps_retN:PS X (.Return none pos) tRetN:=λ_ _ σ H _ I h=>wpAny_Return_none ⟨.non,σ,H,I,rfl,h⟩
def tIfS (c:TT) (t u:TS):TS:=λD σ H=>c σ H λb H1=>if b=true then t D σ H1 else u D σ H1
theorem ps_if {c:Expr} {a b:List Stmt} {tc:TT} (hc:PT X c tc) (ha:PSs X a t) (hb:PSs X b u):PS X (.If c a b pos) (tIfS tc t u):=by
 intro pins s σ H D I h
 refine wpAny_If (thn (hc pins s σ H _ I h) λd s1 ⟨H1,I1,q1⟩=>?_)
 cases d with
 | true=>exact ha pins s1 σ H1 D I1 q1
 | false=>exact hb pins s1 σ H1 D I1 q1
end
abbrev TG:=V→St→Hp→(St→Hp→Prop)→Prop
abbrev TGs:=List V→St→Hp→(St→Hp→Prop)→Prop
def PG (X:Cx) (target:Expr) (t:TG):Prop :=
 ∀ (pins:List (Addr × Obj)) (s:Shared) (σ:St) (H:Hp) (v:V) (u:Value) (Q:St→Hp→Prop),Inv X pins σ H s→RelV v u→t v σ H Q →
  wpAny (model X.prog X.w) X.A (assign target X.env u) (λ_ s'=>∃ σ' H',Inv X pins σ' H' s'∧Q σ' H') X.xe s
def PGs (X:Cx) (ts:List Expr) (t:TGs):Prop :=
 ∀ (pins:List (Addr × Obj)) (s:Shared) (σ:St) (H:Hp) (vs:List V) (us:List Value) (Q:St→Hp→Prop),Inv X pins σ H s→Vals vs us→t vs σ H Q →
  wpAny (model X.prog X.w) X.A (assignInOrder ((assignEach ts X.env).map (·.2)) us) (λ_ s'=>∃ σ' H',Inv X pins σ' H' s'∧Q σ' H') X.xe s
abbrev TSet:=V→V→V→Hp→(Hp→Prop)→Prop
def PSet (X:Cx) (t:TSet):Prop :=
 ∀ (pins:List (Addr × Obj)) (s:Shared) (σ:St) (H:Hp) (o i v:V) (ov iv u:Value) (Q:Hp→Prop),Inv X pins σ H s→RelV o ov→RelV i iv→RelV v u→t o i v H Q →
  wpAny (model X.prog X.w) X.A (setItem ov iv u) (λ_ s'=>∃ H',Inv X pins σ H' s'∧Q H') X.xe s
section
variable {X:Cx} {pos:Pos}
def gName (i:Nat):TG:=λv σ H Q=>Q (σ.set i (some v)) H
theorem pg_name {i:Nat} {x:Str} (hN:X.N.Nodup) (hi:X.N[i]?=some x) (hx:Loc X.env.scope x) (hf:X.fn x=true∨X.env.scope.names.lookup x=some .local:=by first | exact .inl rfl | exact .inr rfl | assumption):PG X (.Name x pos) (gName i):=by
 intro pins s σ H v u Q I r h
 exact wpAny_assign_Name (store_ok I hN hi hx r (λs' I'=>⟨_,H,I',h⟩) hf)
def gNil:TGs:=λvs σ H Q=>vs=[]∧Q σ H
def gCons (t:TG) (u:TGs):TGs:=λvs σ H Q=>∃ v r,vs=v :: r∧t v σ H λσ' H'=>u r σ' H' Q
theorem pgs_nil:PGs X [] gNil:=by
 intro pins s σ H vs us Q I r h
 obtain ⟨e,h⟩:=h
 subst e
 cases r
 exact assignInOrder_nil ⟨σ,H,I,h⟩
theorem pgs_cons {e:Expr} {es:List Expr} {t:TG} {u:TGs} (h1:PG X e t) (h2:PGs X es u)
  (hs:(assignEach (e :: es) X.env).map (·.2)=assign e X.env :: (assignEach es X.env).map (·.2):=by rfl):PGs X (e :: es) (gCons t u):=by
 intro pins s σ H vs us Q I r h
 obtain ⟨v,vr,e1,h⟩:=h
 subst e1
 cases r with
 | cons r rr =>
  rw [hs]
  refine assignInOrder_cons (thn (h1 pins s σ H _ _ _ I r h) λ_ s1 ⟨σ1,H1,I1,q1⟩=>?_)
  exact h2 pins s1 σ1 H1 _ _ Q I1 rr q1
noncomputable def gTup (K:PySem.W.Frag) (n:Nat) (t:TGs):TG:=λv σ H Q=>∃ a xs,v=.ref a∧SqT K H a xs∧xs.length=n∧t xs σ H Q
theorem pg_tup {es:List Expr} {k:Nat} {t:TGs} {n:Nat} (hc:X.calm=true) (h:PGs X es t)
  (hn:(assignEach es X.env).length=n:=by rfl) (hst:(assignEach es X.env).findIdx? (·.1)=none:=by rfl):PG X (.Tuple es k pos) (gTup X.K n t):=by
 intro pins s σ H v u Q I r hw
 obtain ⟨a,xs,e1,hq,hl,hw⟩:=hw
 subst e1
 cases r
 obtain ⟨its,rv,ht,hz⟩:=I.tuple hq
 refine assign_Tuple_tuple (I.ok.hd hc) ht (by simp [hn,← hl,rv.length]) hst λh' hx=>?_
 have I1:Inv X pins σ H { s with heap:=h' }:=I.kept (t':=s.toks) λb o e=>hx b o (Nat.ne_of_lt (Heap.lt_size e)) e
 exact h pins _ σ H xs _ Q I1 (by simpa using rv) hw
noncomputable def gSub (to ti:TE) (t:TSet):TG:=λv σ H Q=>to σ H λo H1=>ti σ H1 λi H2=>t o i v H2 λH3=>Q σ H3
theorem pg_sub {o i:Expr} {to ti:TE} {t:TSet} (ho:PE X o to) (hi:PE X i ti) (hs:PSet X t)
  (ha:∀ v,assign (.Subscript o i pos) X.env v=(do
   let ov ← holding [v] (eval o X.env)
   let iv ← holding [v,ov] (eval i X.env)
   standAt pos
   holding [v,ov,iv] (setItem ov iv v)
   release [v,ov,iv] []):=by intro _; rfl):PG X (.Subscript o i pos) (gSub to ti t):=by
 intro pins s σ H v u Q I r h
 rw [ha]
 refine wpAny_bind (wpAny_holding (thn (ho pins s σ H _ I h) λov s1 ⟨x,H1,I1,r1,q1⟩=>?_))
 refine wpAny_bind (wpAny_holding (thn (hi pins s1 σ H1 _ I1 q1) λiv s2 ⟨y,H2,I2,r2,q2⟩=>?_))
 refine wpAny_bind (wpAny_standAt (wpAny_bind (wpAny_holding (thn (hs pins s2 σ H2 x y v ov iv u _ I2 r1 r2 r q2) λ_ s3 ⟨H3,I3,q3⟩=>?_))))
 exact wpAny_release ⟨σ,H3,I3,q3⟩
def tAsg (te:TE) (g:TG):TS:=λD σ H=>te σ H λx H1=>g x σ H1 D.nx
theorem ps_asg {tg e:Expr} {te:TE} {g:TG} (he:PE X e te) (hg:PG X tg g) (hs:swapsWithSole [tg] e pos.line X.env=pure false:=by rfl) (hw:swappedStores [tg] e X.env=pure none:=by rfl)
  (h1:(assignEach [tg] X.env).map (·.2)=[assign tg X.env]:=by rfl):PS X (.Assign [tg] e pos) (tAsg te g):=by
 intro pins s σ H D I h
 refine wpAny_Assign_stores (thn (he pins s σ H _ I h) λv s1 ⟨x,H1,I1,r1,q1⟩=>?_) hs hw
 rw [h1]
 exact thn (hg pins s1 σ H1 x v _ I1 r1 q1) λ_ s2 q=>q
theorem ps_set {i:Nat} {x:Str} {e:Expr} {te:TE} {pos':Pos} (hN:X.N.Nodup) (hi:X.N[i]?=some x) (hx:Loc X.env.scope x) (he:PE X e te) (hs:swapsWith e (some (.Name x pos')) pos.line X.env=pure false:=by rfl) (hf:X.fn x=true∨X.env.scope.names.lookup x=some .local:=by first | exact .inl rfl | exact .inr rfl | assumption) :
  PS X (.Assign [.Name x pos'] e pos) (tAsg te (gName i)):=by
 intro pins s σ H D I h
 refine wpAny_Assign_Name (thn (he pins s σ H _ I h) λv s1 ⟨y,H1,I1,r1,q1⟩=>?_) hs
 exact store_ok I1 hN hi hx r1 (λs2 I2=>⟨_,H1,I2,q1⟩) hf
end
section
variable {X:Cx} {pos:Pos}
end
structure It where
 go:Nat→Hp→Prop
 yld:Nat→Hp→V→Hp→Prop
 stop:Nat→Hp→Prop
def FpOk (X:Cx) (pins:List (Addr × Obj)) (H:Hp) (b:Addr):Prop :=
 H b=none∧b≠X.env.locals∧b ∉ X.fs∧(b∈X.ex∨X.s₀.heap.get? b=none)∧(∀ x c,X.env.cells.lookup x=some c→c≠b)∧∀ p∈X.pn ++ pins,p.1≠b
theorem Inv.fpOk {X:Cx} {pins:List (Addr × Obj)} {σ:St} {H H':Hp} {s:Shared} {b:Addr} (I:Inv X pins σ H s) (hb:s.heap.objs.size≤b) (hn:H' b=none):FpOk X pins H' b:=by
 refine ⟨hn,Nat.ne_of_gt (Nat.lt_of_lt_of_le I.lt hb),I.nofs hb,.inr (Heap.get?_none_of_le (Nat.le_trans I.sz hb)),λx c e z=>?_,λp hp z=>?_⟩
 ·obtain ⟨v,q⟩:=I.cell x c e
  exact absurd (Nat.lt_of_lt_of_le q.lt (by rw [z]; exact hb)) (Nat.lt_irrefl _)
 ·exact absurd (Nat.lt_of_lt_of_le (Heap.lt_size (I.pin p hp).1) (by rw [z]; exact hb)) (Nat.lt_irrefl _)
structure Turn (P:Program) (w:World) (K:PySem.W.Frag) (tg:Expr) (J:It) (fp:List Addr) (it:Addr) (tn:Nat→Heap→Prop):Prop where
 mem:it∈fp
 obj:∀ i h,tn i h→∀ b∈fp,∃ o,h.get? b=some o∧∀ v,o.data≠.cell v
 keep:∀ i h h',tn i h→(∀ b∈fp,∀ o,h.get? b=some o→h'.get? b=some o)→tn i h'
 item:∀ (X:Cx),X.prog=P→X.w=w→X.K=K→X.calm=true→∀ (i:Nat) (pins:List (Addr × Obj)) (s:Shared) (σ:St) (H:Hp) (E:Value→Shared→Prop),Inv X pins σ H s→(∀ b∈fp,FpOk X pins H b)→tn i s.heap→J.go i H →
  wpAny (model P w) X.A (pyNext (.ref it)) (λr s1=>∃ u,r=some u ∧
   wpAny (model P w) X.A (letOwnedTupleGo tg (.ref it) u) (λ_ s2=>∃ x H',Inv X pins σ H' s2∧RelV x u∧J.yld i H x H'∧tn (i+1) s2.heap∧∀ b∈fp,H' b=none) E s1) E s
 done:∀ (X:Cx),X.prog=P→X.w=w→X.K=K→X.calm=true→∀ (i:Nat) (pins:List (Addr × Obj)) (s:Shared) (σ:St) (H:Hp) (E:Value→Shared→Prop),Inv X pins σ H s→(∀ b∈fp,FpOk X pins H b)→tn i s.heap→J.stop i H →
  wpAny (model P w) X.A (pyNext (.ref it)) (λr s1=>r=none∧Inv X pins σ H s1) E s
 self:∀ (A:Around) (i:Nat) (s:Shared) (Q:Value→Shared→Prop) (E:Value→Shared→Prop),tn i s.heap→Q (.ref it) s→wpAny (model P w) A (pyIter (.ref it)) Q E s
abbrev TI:=St→Hp→(It→Hp→Prop)→Prop
def PIE (X:Cx) (pins:List (Addr × Obj)) (σ:St) (tg:Expr) (R:It→Hp→Prop) (itv:Value) (s2:Shared):Prop :=
 ∃ (it:Addr) (fp:List Addr) (tn:Nat→Heap→Prop) (J:It) (H':Hp),itv=.ref it∧Inv X pins σ H' s2∧Turn X.prog X.w X.K tg J fp it tn∧tn 0 s2.heap∧(∀ b∈fp,FpOk X pins H' b)∧R J H'
def PI (X:Cx) (tg iter:Expr) (wi:TI):Prop :=
 ∀ (pins:List (Addr × Obj)) (s:Shared) (σ:St) (H:Hp) (R:It→Hp→Prop),Inv X pins σ H s→wi σ H R →
  wpAny (model X.prog X.w) X.A (eval iter X.env) (λv s1=>wpAny (model X.prog X.w) X.A (pyIter v) (PIE X pins σ tg R) X.xe s1) X.xe s
theorem go_of {M:Model} {A:Around} {E:Value→Shared→Prop} {s:Shared} {tg:Expr} {it:Addr} {u:Value} {o:Obj} {n:String} {vs:Array Value} {Q:Unit→Shared→Prop} (ho:s.heap.get? it=some o) (hc:o.cls=.type n) (hd:o.data=.fields vs)
  (hn:["enumerate","zip","dict_itemiterator","dict_reverseitemiterator","odict_iterator","itertools.zip_longest","itertools.pairwise"].contains n=false) (hQ:Q () s):wpAny M A (letOwnedTupleGo tg (.ref it) u) Q E s:=by
 unfold letOwnedTupleGo
 cases tg <;> first
  | exact wpAny_pure hQ
  | (cases u <;> first
    | exact wpAny_pure hQ
    | (refine wpAny_bind (wpAny_load ho ?_)
       rw [hc,hd]
       show wpAny M A (if (["enumerate","zip","dict_itemiterator","dict_reverseitemiterator","odict_iterator","itertools.zip_longest","itertools.pairwise"].contains n && vs[0]? == some (rawInt _))=true then _ else _) Q E s
       rw [if_neg (by intro h; rw [hn,Bool.false_and] at h; cases h)]
       exact wpAny_pure hQ))
noncomputable def Itl (K:PySem.W.Frag) (a:Addr):It :=
 ⟨λi H=>∃ xs x,SqL K H a xs∧xs[i]?=some x,λi H x H'=>H'=H∧∀ xs,SqL K H a xs→xs[i]?=some x,λi H=>∃ xs,SqL K H a xs∧xs.length≤i⟩
noncomputable def Itt (K:PySem.W.Frag) (a:Addr):It :=
 ⟨λi H=>∃ xs x,SqT K H a xs∧xs[i]?=some x,λi H x H'=>H'=H∧∀ xs,SqT K H a xs→xs[i]?=some x,λi H=>∃ xs,SqT K H a xs∧xs.length≤i⟩
noncomputable def Itr (lo:Int) (n:Nat):It:=⟨λi _=>i<n,λi H x H'=>H'=H∧x=.int (lo+i),λi _=>n≤i⟩
theorem turn_list {P:Program} {w:World} {K:PySem.W.Frag} {tg:Expr} (a it:Addr):Turn P w K tg (Itl K a) [it] it (λi h=>h.IsListIter it a i) where
 mem:=by simp
 obj:=λi h st b hb=>by
  have e:b=it:=by simpa using hb
  subst e
  obtain ⟨o,e,c,d⟩:=st
  exact ⟨o,e,λv z=>by rw [d] at z; cases z⟩
 keep:=λi h h' st k=>st.at λo e=>k it (by simp) o e
 item:=by
  intro X hP hw hK hc i pins s σ H E I hf st hg
  subst hP hw hK
  obtain ⟨xs,x,hq,hx⟩:=hg
  obtain ⟨its,rv,p,hz⟩:=I.list hq
  obtain ⟨u,hu,ru⟩:=rv.get hx
  obtain ⟨f0,f1,f2,f3,f4,f5⟩:=hf it (by simp)
  refine wpAny_pyNext_list_item st p.isList (x:=u) (by simpa using hu) λh' st' sb=>?_
  have I1:Inv X pins σ H { s with heap:=h' }:=I.turned (t':=s.toks) (λb o hb e=>(sb.2 b hb).trans e) f0 f1 f3 f4 f5
  obtain ⟨o,e,c,d⟩:=id st'
  exact ⟨u,rfl,go_of (s:={ s with heap:=h' }) e c d (by decide) ⟨x,H,I1,ru,⟨rfl,λys hy=>by rw [I.list_inj hy hq]; exact hx⟩,st',λb hb=>(hf b hb).1⟩⟩
 done:=by
  intro X hP hw hK hc i pins s σ H E I hf st hg
  subst hP hw hK
  obtain ⟨xs,hq,hx⟩:=hg
  obtain ⟨its,rv,p,hz⟩:=I.list hq
  obtain ⟨f0,f1,f2,f3,f4,f5⟩:=hf it (by simp)
  have hl:=rv.length
  exact wpAny_pyNext_list_end (I.ok.hd hc) st p.isList (by simp; omega) λh' eb=>⟨rfl,I.turned (t':=s.toks) (λb o hb e=>eb b o hb e) f0 f1 f3 f4 f5⟩
 self:=λ_ _ _ _ _ st h=>wpAny_pyIter_listiter st h
theorem turn_tuple {P:Program} {w:World} {K:PySem.W.Frag} {tg:Expr} (a it:Addr):Turn P w K tg (Itt K a) [it] it (λi h=>h.IsTupleIter it a i) where
 mem:=by simp
 obj:=λi h st b hb=>by
  have e:b=it:=by simpa using hb
  subst e
  obtain ⟨o,e,c,d⟩:=st
  exact ⟨o,e,λv z=>by rw [d] at z; cases z⟩
 keep:=λi h h' st k=>st.at λo e=>k it (by simp) o e
 item:=by
  intro X hP hw hK hc i pins s σ H E I hf st hg
  subst hP hw hK
  obtain ⟨xs,x,hq,hx⟩:=hg
  obtain ⟨its,rv,p,hz⟩:=I.tuple hq
  obtain ⟨u,hu,ru⟩:=rv.get hx
  obtain ⟨f0,f1,f2,f3,f4,f5⟩:=hf it (by simp)
  refine wpAny_pyNext_tuple_item st (show s.heap.IsTuple a its.toArray from p) (x:=u) (by simpa using hu) λh' st' sb=>?_
  have I1:Inv X pins σ H { s with heap:=h' }:=I.turned (t':=s.toks) (λb o hb e=>(sb.2 b hb).trans e) f0 f1 f3 f4 f5
  obtain ⟨o,e,c,d⟩:=id st'
  exact ⟨u,rfl,go_of (s:={ s with heap:=h' }) e c d (by decide) ⟨x,H,I1,ru,⟨rfl,λys hy=>by rw [I.tuple_inj hy hq]; exact hx⟩,st',λb hb=>(hf b hb).1⟩⟩
 done:=by
  intro X hP hw hK hc i pins s σ H E I hf st hg
  subst hP hw hK
  obtain ⟨xs,hq,hx⟩:=hg
  obtain ⟨its,rv,p,hz⟩:=I.tuple hq
  obtain ⟨f0,f1,f2,f3,f4,f5⟩:=hf it (by simp)
  have hl:=rv.length
  exact wpAny_pyNext_tuple_end (I.ok.hd hc) st (show s.heap.IsTuple a its.toArray from p) (by simp; omega) λh' eb=>⟨rfl,I.turned (t':=s.toks) (λb o hb e=>eb b o hb e) f0 f1 f3 f4 f5⟩
 self:=λ_ _ _ _ _ st h=>wpAny_pyIter_tupleiter st h
theorem turn_range {P:Program} {w:World} {K:PySem.W.Frag} {tg:Expr} (it:Addr) (lo:Int) (n:Nat):Turn P w K tg (Itr lo n) [it] it (λi h=>IsRangeIter h it (lo+(i:Nat)*1) ((n:Int) - (i:Nat)) 1) where
 mem:=by simp
 obj:=λi h st b hb=>by
  have e:b=it:=by simpa using hb
  subst e
  exact ⟨_,st,λv z=>by
   have z':Data.fields _=Data.cell v:=z
   cases z'⟩
 keep:=λi h h' st k=>k it (by simp) _ st
 item:=by
  intro X hP hw hK hc i pins s σ H E I hf st hg
  subst hP hw hK
  obtain ⟨f0,f1,f2,f3,f4,f5⟩:=hf it (by simp)
  have W:=Walks.range (prog:=X.prog) (w:=X.w) (I.ok.hd hc) it lo 1 n
  refine W.item i s _ _ hg st λv h' tk hv st' kk=>?_
  obtain ⟨t,rfl⟩:=hv
  have I1:Inv X pins σ H { s with heap:=h',toks:=tk }:=I.turned (λb o hb e=>kk b o (by simpa using hb) e) f0 f1 f3 f4 f5
  refine ⟨_,rfl,go_of (s:={ s with heap:=h',toks:=tk }) (n:="range_iterator") st' rfl rfl (by decide) ⟨.int (lo+i),H,I1,⟨t, ?_⟩,⟨rfl,rfl⟩,st',λb hb=>(hf b hb).1⟩⟩
  rw [Int.mul_one]
 done:=by
  intro X hP hw hK hc i pins s σ H E I hf st hg
  subst hP hw hK
  obtain ⟨f0,f1,f2,f3,f4,f5⟩:=hf it (by simp)
  exact wpAny_pyNext_range_end (I.ok.hd hc) st (by have:n≤i:=hg; omega) λh' eb=>⟨rfl,I.turned (t':=s.toks) (λb o hb e=>eb b o hb e) f0 f1 f3 f4 f5⟩
 self:=λ_ _ _ _ _ st h=>wpAny_pyIter_rangeiter st h
section
variable {X:Cx} {tg:Expr}
noncomputable def iList (K:PySem.W.Frag) (tl:TE):TI:=λσ H R=>tl σ H λx H1=>∃ a,x=.ref a∧(∃ xs,SqL K H1 a xs)∧R (Itl K a) H1
noncomputable def iTup (K:PySem.W.Frag) (tl:TE):TI:=λσ H R=>tl σ H λx H1=>∃ a,x=.ref a∧(∃ xs,SqT K H1 a xs)∧R (Itt K a) H1
theorem pi_list {l:Expr} {tl:TE} (hl:PE X l tl):PI X tg l (iList X.K tl):=by
 intro pins s σ H R I h
 refine thn (hl pins s σ H _ I h) λv s1 ⟨x,H1,I1,r1,q1⟩=>?_
 obtain ⟨a,e,⟨xs,hq⟩,q⟩:=q1
 subst e
 cases r1
 obtain ⟨its,rv,p,hz⟩:=I1.list hq
 refine wpAny_pyIter_list p.isList ?_
 refine ⟨s1.heap.objs.size,[s1.heap.objs.size],_,_,H1,rfl,I1.kept (t':=s1.toks) λb o e=>Heap.get?_push_of_some _ e,turn_list a _,⟨_,Heap.get?_push_size _ rfl,rfl,rfl⟩,λb hb=>?_,q⟩
 have e:b=s1.heap.objs.size:=by simpa using hb
 subst e
 exact I1.fpOk (Nat.le_refl _) (I1.hok.fresh (Nat.le_refl _))
theorem pi_tup {l:Expr} {tl:TE} (hl:PE X l tl):PI X tg l (iTup X.K tl):=by
 intro pins s σ H R I h
 refine thn (hl pins s σ H _ I h) λv s1 ⟨x,H1,I1,r1,q1⟩=>?_
 obtain ⟨a,e,⟨xs,hq⟩,q⟩:=q1
 subst e
 cases r1
 obtain ⟨its,rv,p,hz⟩:=I1.tuple hq
 refine wpAny_pyIter_tuple (show s1.heap.IsTuple a its.toArray from p) ?_
 refine ⟨s1.heap.objs.size,[s1.heap.objs.size],_,_,H1,rfl,I1.kept (t':=s1.toks) λb o e=>Heap.get?_push_of_some _ e,turn_tuple a _,⟨_,Heap.get?_push_size _ rfl,rfl,rfl⟩,λb hb=>?_,q⟩
 have e:b=s1.heap.objs.size:=by simpa using hb
 subst e
 exact I1.fpOk (Nat.le_refl _) (I1.hok.fresh (Nat.le_refl _))
theorem range_it {pins:List (Addr × Obj)} {σ:St} {H:Hp} {s:Shared} {R:It→Hp→Prop} {E:Value→Shared→Prop} {lo hi:Int} {t u v:Tok} {tk:Nat} (I:Inv X pins σ H s) (h1:-(2 ^ 62)≤lo) (h2:lo<2 ^ 62) (h3:-(2 ^ 62)≤hi) (h4:hi<2 ^ 62)
  (q:R (Itr lo (hi - lo).toNat) H):wpAny (model X.prog X.w) X.A (pyIter (.ref s.heap.objs.size)) (PIE X pins σ tg R) E { s with heap:=s.heap.push { cls:=.type "range",data:=.fields #[.int lo t,.int hi u,.int 1 v] },toks:=tk }:=by
 refine wpAny_pyIter_range (IsRange.new ..) (small_one h1 h2 h3 h4) ?_
 have I1:Inv X pins σ H { s with heap:=s.heap.push { cls:=.type "range",data:=.fields #[.int lo t,.int hi u,.int 1 v] },toks:=tk }:=I.kept λb o e=>Heap.get?_push_of_some _ e
 refine ⟨(s.heap.push { cls:=.type "range",data:=.fields #[.int lo t,.int hi u,.int 1 v] }).objs.size,[(s.heap.push { cls:=.type "range",data:=.fields #[.int lo t,.int hi u,.int 1 v] }).objs.size],_,_,H,rfl,
  I1.kept (t':=tk) λb o e=>Heap.get?_push_of_some _ e,turn_range _ lo (hi - lo).toNat, ?_,λb hb=>?_,q⟩
 ·have e1:lo+((0:Nat):Int)*1=lo:=by simp
  have e2:(((hi - lo).toNat:Nat):Int) - ((0:Nat):Int)=Builtin.Range.rangeSize lo hi 1:=by rw [rangeSize_one]; split <;> omega
  show IsRangeIter _ _ (lo+((0:Nat):Int)*1) ((((hi - lo).toNat:Nat):Int) - ((0:Nat):Int)) 1
  rw [e1,e2]
  exact Heap.get?_push_size _ rfl
 ·have e:b=(s.heap.push { cls:=.type "range",data:=.fields #[.int lo t,.int hi u,.int 1 v] }).objs.size:=by simpa using hb
  subst e
  exact I1.fpOk (Nat.le_refl _) (I1.hok.fresh (Nat.le_refl _))
noncomputable def iRng1 (ta:TA):TI:=λσ H R=>ta σ H λvs H1=>∃ j:Int,vs=[.int j]∧-(2 ^ 62)≤j∧j<2 ^ 62∧R (Itr 0 j.toNat) H1
noncomputable def iRng2 (ta:TA):TI:=λσ H R=>ta σ H λvs H1=>∃ i j:Int,vs=[.int i,.int j]∧(-(2 ^ 62)≤i∧i<2 ^ 62∧-(2 ^ 62)≤j∧j<2 ^ 62)∧R (Itr i (j - i).toNat) H1
theorem pi_range1 {a:Expr} {ta:TA} {p pos:Pos} (hg:Gl X "range") (hm:X.mg "range"=none) (ha:PA X [a] ta) (hs:starEach [a] X.env=[(false,eval a X.env)]:=by rfl):PI X tg (.Call (.Name "range" p) [a] [] pos) (iRng1 ta):=by
 intro pins s σ H R I h
 refine Call_ (ld_blt I hg hm boot_range (PyProof.Rows.callWith_type1 (thn (ha pos pins s σ H _ I h) λus s1 ⟨vs,H1,I1,r1,q1⟩=>?_) hs rfl))
 obtain ⟨j,e,q1,q2,q⟩:=q1
 subst e
 cases r1 with
 | cons r rr =>
  cases rr
  obtain ⟨t,rfl⟩:=r
  exact call_range_1 (range_it I1 (by omega) (by omega) q1 q2 (by simpa using q))
theorem pi_range2 {a b:Expr} {ta:TA} {p pos:Pos} (hg:Gl X "range") (hm:X.mg "range"=none) (ha:PA X [a,b] ta) (hs:starEach [a,b] X.env=[(false,eval a X.env),(false,eval b X.env)]:=by rfl) (hs2:starEach [b] X.env=[(false,eval b X.env)]:=by rfl) :
  PI X tg (.Call (.Name "range" p) [a,b] [] pos) (iRng2 ta):=by
 intro pins s σ H R I h
 refine Call_ (ld_blt I hg hm boot_range (PyProof.Rows.callWith_type1 (thn (ha pos pins s σ H _ I h) λus s1 ⟨vs,H1,I1,r1,q1⟩=>?_) (by rw [hs,hs2]) (by rw [hs2]; rfl)))
 obtain ⟨i,j,e,⟨q1,q2,q3,q4⟩,q⟩:=q1
 subst e
 cases r1 with
 | cons r rr =>
  cases rr with
  | cons r' rr =>
   cases rr
   obtain ⟨t,rfl⟩:=r
   obtain ⟨t',rfl⟩:=r'
   exact call_range_2 (range_it I1 q1 q2 q3 q4 q)
noncomputable def tFor (wi:TI) (g:TG) (tb:TS):TS:=λD σ H=>wi σ H λJ H1=>∃ W:Nat→Nat→St→Hp→Prop,(∃ m,W 0 m σ H1)∧∀ i m σ H,W i m σ H →
 (J.stop i H∧D.nx σ H)∨(J.go i H∧∃ N:St→Hp→Prop,(∀ σ' H',N σ' H'→∃ m',m'<m∧W (i+1) m' σ' H')∧∀ x H',J.yld i H x H'→g x σ H' λσ2 H2=>tb { D with nx:=N,ct:=N,bk:=D.nx } σ2 H2)
def pinsAt (fp:List Addr) (h:Heap):List (Addr × Obj):=fp.filterMap λb=>(h.get? b).map λo=>(b,o)
theorem mem_pinsAt {fp:List Addr} {h:Heap} {b:Addr} {o:Obj} (hb:b∈fp) (e:h.get? b=some o):(b,o)∈pinsAt fp h:=List.mem_filterMap.mpr ⟨b,hb,by rw [e]; rfl⟩
theorem of_pinsAt {fp:List Addr} {h:Heap} {p:Addr × Obj} (hp:p∈pinsAt fp h):p.1∈fp∧h.get? p.1=some p.2:=by
 obtain ⟨b,hb,e⟩:=List.mem_filterMap.mp hp
 cases q:h.get? b with
 | none=>rw [q] at e; cases e
 | some o =>
  rw [q] at e
  have e':(b,o)=p:=Option.some.inj e
  subst e'
  exact ⟨hb,q⟩
theorem Inv.pinned {pins:List (Addr × Obj)} {σ:St} {H:Hp} {s:Shared} {fp:List Addr} (I:Inv X pins σ H s) (hf:∀ b∈fp,FpOk X pins H b) (ho:∀ b∈fp,∃ o,s.heap.get? b=some o∧∀ v,o.data≠.cell v):Inv X (pins ++ pinsAt fp s.heap) σ H s :=
 I.pins_of λp hp=>(List.mem_append.mp hp).elim (λz=>I.pin p (List.mem_append_right _ z)) λz=>by
  obtain ⟨hb,e⟩:=of_pinsAt z
  obtain ⟨f0,f1,f2,_⟩:=hf p.1 hb
  obtain ⟨o,e',d⟩:=ho p.1 hb
  rw [e] at e'; cases e'
  exact ⟨e,f0,f1,f2,d⟩
theorem Inv.unpinned {pins pl:List (Addr × Obj)} {σ:St} {H:Hp} {s:Shared} (I:Inv X (pins ++ pl) σ H s):Inv X pins σ H s:=I.pins_of λp hp=>I.pin p (List.mem_append_right _ (List.mem_append_left _ hp))
theorem ps_for {iter:Expr} {body:List Stmt} {wi:TI} {g:TG} {tb:TS} {pos:Pos} (hp:PassesOwn (model X.prog X.w) X.A X.env X.xe) (hc:X.calm=true) (hi:PI X tg iter wi) (hg:PG X tg g) (hb:PSs X body tb)
  (hs:∀ x,foldedSetIterable iter X.env x=pure x:=by intro _; rfl):PS X (.For tg iter body [] pos) (tFor wi g tb):=by
 intro pins s σ H D I h
 refine wpAny_For (thn (hi pins s σ H _ I h) λv s1 h1=>thn h1 λitv s2 h2=>?_) hs
 obtain ⟨it,fp,tn,J,H2,e,I2,T,st2,f2,W,⟨m0,w0⟩,turn⟩:=h2
 subst e
 -- what stays true of the iterator's objects through the loop
 have stat:∀ {H':Hp},(∀ b∈fp,H' b=none)→∀ b∈fp,FpOk X pins H' b:=λhn b hb=>⟨hn b hb,(f2 b hb).2⟩
 refine codeAny_forLoop_any (λn s'=>∃ i σ' H',Inv X pins σ' H' s'∧tn i s'.heap∧(∀ b∈fp,H' b=none)∧W i n σ' H') ?_ m0 ⟨0,σ,H2,I2,st2,λb hb=>(f2 b hb).1,w0⟩
 rintro n s3 ⟨i,σ3,H3,I3,st3,fr3,w3⟩
 rcases turn i n σ3 H3 w3 with ⟨stop,qn⟩ | ⟨go,N,hN,step⟩
 ·refine wpAny_passesOwn hp (thn (T.done X rfl rfl rfl hc i pins s3 σ3 H3 X.xe I3 (stat fr3) st3 stop) λr s4 ⟨hr,I4⟩=>?_)
  subst hr
  exact wpAny_execs_nil ⟨σ3,H3,I4,qn⟩
 ·refine wpAny_passesOwn hp (thn (T.item X rfl rfl rfl hc i pins s3 σ3 H3 X.xe I3 (stat fr3) st3 go) λr s4 ⟨u,hr,h4⟩=>?_)
  subst hr
  refine wpAny_passesOwn hp (thn h4 λ_ s5 ⟨x,H5,I5,r5,y5,st5,fr5⟩=>?_)
  have I5':=I5.pinned (stat fr5) (T.obj _ _ st5)
  refine wpAny_passesOwn hp (thn (hg _ s5 σ3 H5 x u _ I5' r5 (step x H5 y5)) λ_ s6 ⟨σ6,H6,I6,q6⟩=>?_)
  refine wpAny_passesOwn hp (thn (hb _ s6 σ6 H6 _ I6 q6) λf s7 q7=>?_)
  have again:∀ {σ7:St} {H7:Hp},Inv X (pins ++ pinsAt fp s5.heap) σ7 H7 s7→N σ7 H7→∃ m,m<n∧∃ i σ' H',Inv X pins σ' H' s7∧tn i s7.heap∧(∀ b∈fp,H' b=none)∧W i m σ' H':=λ{σ7 H7} I7 n7=>by
   obtain ⟨m',hm,w7⟩:=hN σ7 H7 n7
   refine ⟨m',hm,i+1,σ7,H7,I7.unpinned,T.keep _ _ _ st5 λb hb o e=>(I7.pin (b,o) (List.mem_append_right _ (List.mem_append_right _ (mem_pinsAt hb e)))).1,λb hb=>?_,w7⟩
   obtain ⟨o,e,d⟩:=T.obj _ _ st5 b hb
   exact (I7.pin (b,o) (List.mem_append_right _ (List.mem_append_right _ (mem_pinsAt hb e)))).2.1
  cases f with
  | next=>obtain ⟨σ7,H7,I7,n7⟩:=q7; exact again I7 n7
  | cont=>obtain ⟨σ7,H7,I7,n7⟩:=q7; exact again I7 n7
  | brk=>obtain ⟨σ7,H7,I7,q7⟩:=q7; exact ⟨σ7,H7,I7.unpinned,q7⟩
  | ret v=>obtain ⟨x7,σ7,H7,I7,r7,q7⟩:=q7; exact ⟨x7,σ7,H7,I7.unpinned,r7,q7⟩
end
theorem for_list {K:PySem.W.Frag} {a:Addr} {xs:List V} {g:TG} {tb:TS} {D:Ends} {σ:St} {H:Hp} (Pv:Nat→St→Hp→Prop) (h0:Pv 0 σ H) (hl:∀ i σ H,i≤xs.length→Pv i σ H→SqL K H a xs)
  (hs:∀ i x σ H,xs[i]?=some x→Pv i σ H→g x σ H λσ2 H2=>tb { D with nx:=Pv (i+1),ct:=Pv (i+1),bk:=D.nx } σ2 H2) (hd:∀ σ H,Pv xs.length σ H→D.nx σ H) :
  ∃ W:Nat→Nat→St→Hp→Prop,(∃ m,W 0 m σ H)∧∀ i m σ H,W i m σ H →
   ((Itl K a).stop i H∧D.nx σ H)∨((Itl K a).go i H∧∃ N:St→Hp→Prop,(∀ σ' H',N σ' H'→∃ m',m'<m∧W (i+1) m' σ' H')∧∀ x H',(Itl K a).yld i H x H'→g x σ H' λσ2 H2=>tb { D with nx:=N,ct:=N,bk:=D.nx } σ2 H2):=by
 refine ⟨λi m σ H=>m=xs.length - i∧i≤xs.length∧Pv i σ H,⟨xs.length,by simp,Nat.zero_le _,h0⟩, ?_⟩
 rintro i m σ H ⟨rfl,hi,p⟩
 have q:=hl i σ H hi p
 by_cases hlt:i<xs.length
 ·refine .inr ⟨⟨xs,xs[i],q,by simp [hlt]⟩,Pv (i+1),λσ' H' p'=>⟨xs.length - (i+1),by omega,rfl,hlt,p'⟩,λx H' y=>?_⟩
  obtain ⟨e,y⟩:=y
  subst e
  exact hs i x σ _ (y xs q) p
 ·have e:i=xs.length:=by omega
  subst e
  exact .inl ⟨⟨xs,q,Nat.le_refl _⟩,hd σ H p⟩
theorem for_tup {K:PySem.W.Frag} {a:Addr} {xs:List V} {g:TG} {tb:TS} {D:Ends} {σ:St} {H:Hp} (Pv:Nat→St→Hp→Prop) (h0:Pv 0 σ H) (hl:∀ i σ H,i≤xs.length→Pv i σ H→SqT K H a xs)
  (hs:∀ i x σ H,xs[i]?=some x→Pv i σ H→g x σ H λσ2 H2=>tb { D with nx:=Pv (i+1),ct:=Pv (i+1),bk:=D.nx } σ2 H2) (hd:∀ σ H,Pv xs.length σ H→D.nx σ H) :
  ∃ W:Nat→Nat→St→Hp→Prop,(∃ m,W 0 m σ H)∧∀ i m σ H,W i m σ H →
   ((Itt K a).stop i H∧D.nx σ H)∨((Itt K a).go i H∧∃ N:St→Hp→Prop,(∀ σ' H',N σ' H'→∃ m',m'<m∧W (i+1) m' σ' H')∧∀ x H',(Itt K a).yld i H x H'→g x σ H' λσ2 H2=>tb { D with nx:=N,ct:=N,bk:=D.nx } σ2 H2):=by
 refine ⟨λi m σ H=>m=xs.length - i∧i≤xs.length∧Pv i σ H,⟨xs.length,by simp,Nat.zero_le _,h0⟩, ?_⟩
 rintro i m σ H ⟨rfl,hi,p⟩
 have q:=hl i σ H hi p
 by_cases hlt:i<xs.length
 ·refine .inr ⟨⟨xs,xs[i],q,by simp [hlt]⟩,Pv (i+1),λσ' H' p'=>⟨xs.length - (i+1),by omega,rfl,hlt,p'⟩,λx H' y=>?_⟩
  obtain ⟨e,y⟩:=y
  subst e
  exact hs i x σ _ (y xs q) p
 ·have e:i=xs.length:=by omega
  subst e
  exact .inl ⟨⟨xs,q,Nat.le_refl _⟩,hd σ H p⟩
theorem for_range {lo:Int} {n:Nat} {g:TG} {tb:TS} {D:Ends} {σ:St} {H:Hp} (Pv:Nat→St→Hp→Prop) (h0:Pv 0 σ H)
  (hs:∀ i σ H,i<n→Pv i σ H→g (.int (lo+i)) σ H λσ2 H2=>tb { D with nx:=Pv (i+1),ct:=Pv (i+1),bk:=D.nx } σ2 H2) (hd:∀ σ H,Pv n σ H→D.nx σ H) :
  ∃ W:Nat→Nat→St→Hp→Prop,(∃ m,W 0 m σ H)∧∀ i m σ H,W i m σ H →
   ((Itr lo n).stop i H∧D.nx σ H)∨((Itr lo n).go i H∧∃ N:St→Hp→Prop,(∀ σ' H',N σ' H'→∃ m',m'<m∧W (i+1) m' σ' H')∧∀ x H',(Itr lo n).yld i H x H'→g x σ H' λσ2 H2=>tb { D with nx:=N,ct:=N,bk:=D.nx } σ2 H2):=by
 refine ⟨λi m σ H=>m=n - i∧i≤n∧Pv i σ H,⟨n,by simp,Nat.zero_le _,h0⟩, ?_⟩
 rintro i m σ H ⟨rfl,hi,p⟩
 by_cases hlt:i<n
 ·refine .inr ⟨hlt,Pv (i+1),λσ' H' p'=>⟨n - (i+1),by omega,rfl,hlt,p'⟩,λx H' y=>?_⟩
  obtain ⟨e,y⟩:=y
  subst e y
  exact hs i σ _ hlt p
 ·have e:i=n:=by omega
  subst e
  exact .inl ⟨Nat.le_refl _,hd σ H p⟩
abbrev R2:=V→V→Hp→VK→Prop
def OpR (X:Cx) (f:Value→Value→Sem Value) (r:R2):Prop :=
 ∀ (pins:List (Addr × Obj)) (s:Shared) (σ:St) (H:Hp) (x y:V) (v u:Value) (Q:VK),Inv X pins σ H s→RelV x v→RelV y u→r x y H Q →
  wpAny (model X.prog X.w) X.A (f v u) (EP X pins σ Q) X.xe s
def UnR (X:Cx) (f:Value→Sem Value) (r:V→Hp→VK→Prop):Prop :=
 ∀ (pins:List (Addr × Obj)) (s:Shared) (σ:St) (H:Hp) (x:V) (v:Value) (Q:VK),Inv X pins σ H s→RelV x v→r x H Q →
  wpAny (model X.prog X.w) X.A (f v) (EP X pins σ Q) X.xe s
def CallR (X:Cx) (f:Value) (r:List V→Hp→VK→Prop):Prop :=
 ∀ (pins:List (Addr × Obj)) (s:Shared) (σ:St) (H:Hp) (xs:List V) (us:List Value) (Q:VK),Inv X pins σ H s→Vals xs us→r xs H Q →
  wpAny (model X.prog X.w) X.A (call f us) (EP X pins σ Q) X.xe s
def TruR (X:Cx) (r:V→Hp→(Bool→Hp→Prop)→Prop):Prop :=
 ∀ (pins:List (Addr × Obj)) (s:Shared) (σ:St) (H:Hp) (x:V) (v:Value) (Q:Bool→Hp→Prop),Inv X pins σ H s→RelV x v→r x H Q →
  wpAny (model X.prog X.w) X.A (truthy v) (TP X pins σ Q) X.xe s
def tOp (r:R2) (ta tb:TE):TE:=λσ H Q=>ta σ H λx H1=>tb σ H1 λy H2=>r x y H2 Q
def tUn (r:V→Hp→VK→Prop) (ta:TE):TE:=λσ H Q=>ta σ H λx H1=>r x H1 Q
noncomputable def rI (C:Int→Int→Prop) (g:Int→Int→V):R2:=λx y H Q=>∃ i j,x=.int i∧y=.int j∧C i j∧Q (g i j) H
def rI0 (g:Int→Int→V):R2:=λx y H Q=>∃ i j,x=.int i∧y=.int j∧Q (g i j) H
def rU (g:Int→V):V→Hp→VK→Prop:=λx H Q=>∃ i,x=.int i∧Q (g i) H
section
variable {X:Cx} {a b c:Expr} {ta tb tc:TE} {pos:Pos}
theorem binT (ha:PE X a ta) (hb:PE X b tb) {pins:List (Addr × Obj)} {s:Shared} {σ:St} {H:Hp} {R:V→V→Hp→Prop} (I:Inv X pins σ H s)
  (h:ta σ H λx H1=>tb σ H1 λy H2=>R x y H2) {Q:Value→Shared→Prop} {f:Value→Value→Sem Value}
  (hf:∀ v u s2 x y H2,Inv X pins σ H2 s2→RelV x v→RelV y u→R x y H2→wpAny (model X.prog X.w) X.A (f v u) Q X.xe s2) :
  wpAny (model X.prog X.w) X.A (eval a X.env) (λv s₁=>wpAny (model X.prog X.w) X.A (eval b X.env) (λu s₂=>wpAny (model X.prog X.w) X.A (f v u) Q X.xe s₂) X.xe s₁) X.xe s:=by
 refine thn (ha pins s σ H _ I h) λv s1 ⟨x,H1,I1,r1,q1⟩=>?_
 refine thn (hb pins s1 σ H1 _ I1 q1) λu s2 ⟨y,H2,I2,r2,q2⟩=>?_
 exact hf v u s2 x y H2 I2 r1 r2 q2
theorem pe_op {op:Operator} {r:R2} (ho:OpR X (binaryOp op) r) (ha:PE X a ta) (hb:PE X b tb):PE X (.BinOp a op b pos) (tOp r ta tb):=by
 intro pins s σ H Q I h
 exact wpAny_BinOp (binT ha hb I h λv u s2 x y H2 I2 rx ry q=>ho pins s2 σ H2 x y v u Q I2 rx ry q)
theorem pe_un {op:UnaryOp} {r:V→Hp→VK→Prop} (ho:UnR X (unaryOp op) r) (ha:PE X a ta):PE X (.UnaryOp op a pos) (tUn r ta):=by
 intro pins s σ H Q I h
 exact UnaryOp_ (thn (ha pins s σ H _ I h) λv s1 ⟨x,H1,I1,r1,q1⟩=>ho pins s1 σ H1 x v Q I1 r1 q1)
theorem opI {f:Value→Value→Sem Value} {C:Int→Int→Prop} {g:Int→Int→Int}
  (rule:∀ (i j:Int) (t u:Tok) (s:Shared) (Q:Value→Shared→Prop) (E:Value→Shared→Prop),C i j→Q (.int (g i j) s.toks) { s with toks:=s.toks+1 }→wpAny (model X.prog X.w) X.A (f (.int i t) (.int j u)) Q E s) :
  OpR X f (rI C λi j=>.int (g i j)):=by
 intro pins s σ H x y v u Q I rx ry h
 obtain ⟨i,j,rfl,rfl,hc,q⟩:=h
 obtain ⟨t,rfl⟩:=rx
 obtain ⟨t',rfl⟩:=ry
 exact rule i j t t' s _ _ hc ⟨.int (g i j),H,I.tok _,⟨_,rfl⟩,q⟩
theorem opI0 {f:Value→Value→Sem Value} {g:Int→Int→Int}
  (rule:∀ (i j:Int) (t u:Tok) (s:Shared) (Q:Value→Shared→Prop) (E:Value→Shared→Prop),Q (.int (g i j) s.toks) { s with toks:=s.toks+1 }→wpAny (model X.prog X.w) X.A (f (.int i t) (.int j u)) Q E s) :
  OpR X f (rI0 λi j=>.int (g i j)):=by
 intro pins s σ H x y v u Q I rx ry h
 obtain ⟨i,j,rfl,rfl,q⟩:=h
 obtain ⟨t,rfl⟩:=rx
 obtain ⟨t',rfl⟩:=ry
 exact rule i j t t' s _ _ ⟨.int (g i j),H,I.tok _,⟨_,rfl⟩,q⟩
theorem opB0 {f:Value→Value→Sem Value} {g:Int→Int→Bool}
  (rule:∀ (i j:Int) (t u:Tok) (s:Shared) (Q:Value→Shared→Prop) (E:Value→Shared→Prop),Q (.bool (g i j)) s→wpAny (model X.prog X.w) X.A (f (.int i t) (.int j u)) Q E s) :
  OpR X f (rI0 λi j=>.bl (g i j)):=by
 intro pins s σ H x y v u Q I rx ry h
 obtain ⟨i,j,rfl,rfl,q⟩:=h
 obtain ⟨t,rfl⟩:=rx
 obtain ⟨t',rfl⟩:=ry
 exact rule i j t t' s _ _ ⟨.bl (g i j),H,I,rfl,q⟩
def CPow (i j:Int):Prop:=0≤j∧j≤1000000∧i.natAbs<2 ^ 64
def CMul (i j:Int):Prop:=(-(2 ^ 64)<i∧i<2 ^ 64)∨(-(2 ^ 64)<j∧j<2 ^ 64)
theorem CMul.ok {i j:Int} (h:CMul i j):IntMulOk i j:=by
 rcases h with ⟨h1,h2⟩ | ⟨h1,h2⟩
 ·exact .of_left (intBits_le_64 h1 h2)
 ·exact .of_right (intBits_le_64 h1 h2)
theorem op_add:OpR X (binaryOp .Add) (rI0 λi j=>.int (i+j)):=opI0 λ_ _ _ _ _ _ _ q=>add_int q
theorem op_sub:OpR X (binaryOp .Sub) (rI0 λi j=>.int (i - j)):=opI0 λ_ _ _ _ _ _ _ q=>sub_int q
theorem op_mul:OpR X (binaryOp .Mult) (rI CMul λi j=>.int (i*j)):=opI λ_ _ _ _ _ _ _ hc q=>mul_int q hc.ok
theorem op_mod:OpR X (binaryOp .Mod) (rI (λ_ j=>0<j) λi j=>.int (i % j)):=opI λi j _ _ _ _ _ hc q=>by
 have h1:(0:Int)<j:=hc
 exact mod_int' (by omega) (by rw [Int.fmod_eq_emod_of_nonneg i (by omega)]; exact q)
theorem op_pow:OpR X (binaryOp .Pow) (rI CPow λi j=>.int (i ^ j.toNat)):=opI λ_ _ _ _ _ _ _ hc q=>pow_int_small hc.1 hc.2.1 hc.2.2 q
theorem op_shl:OpR X (binaryOp .LShift) (rI CPow λi j=>.int (i*2 ^ j.toNat)):=opI λ_ _ _ _ _ _ _ hc q=>lshift_int_small hc.1 hc.2.1 hc.2.2 q
theorem unI {f:Value→Sem Value} {g:Int→Int}
  (rule:∀ (i:Int) (t:Tok) (s:Shared) (Q:Value→Shared→Prop) (E:Value→Shared→Prop),Q (.int (g i) s.toks) { s with toks:=s.toks+1 }→wpAny (model X.prog X.w) X.A (f (.int i t)) Q E s) :
  UnR X f (rU λi=>.int (g i)):=by
 intro pins s σ H x v Q I rx h
 obtain ⟨i,rfl,q⟩:=h
 obtain ⟨t,rfl⟩:=rx
 exact rule i t s _ _ ⟨.int (g i),H,I.tok _,⟨_,rfl⟩,q⟩
theorem un_neg:UnR X (unaryOp .USub) (rU λi=>.int (-i)):=unI λ_ _ _ _ _ q=>neg_int q
end
section
variable {X:Cx} {a b c:Expr} {ta tb tc:TE} {pos:Pos}
theorem fin_bl {pins:List (Addr × Obj)} {σ:St} {H:Hp} {s:Shared} {Q:VK} {k k':Bool} (I:Inv X pins σ H s) (q:Q (.bl k) H) (e:k=k'):EP X pins σ Q (.bool k') s:=by
 subst e
 exact ⟨.bl k,H,I,rfl,q⟩
theorem op_lt:OpR X (compareOp .Lt) (rI0 λi j=>.bl (decide (i<j))):=opB0 λ_ _ _ _ _ _ _ q=>lt_int q
theorem op_le:OpR X (compareOp .LtE) (rI0 λi j=>.bl (decide (i≤j))):=opB0 λ_ _ _ _ _ _ _ q=>le_int q
theorem op_gt:OpR X (compareOp .Gt) (rI0 λi j=>.bl (decide (j<i))):=opB0 λ_ _ _ _ _ _ _ q=>gt_int q
theorem op_ge:OpR X (compareOp .GtE) (rI0 λi j=>.bl (decide (j≤i))):=opB0 λ_ _ _ _ _ _ _ q=>ge_int q
theorem op_isN:OpR X (compareOp .Is) (λx y H Q=>y=.non∧Q (.bl (decide (x=.non))) H):=by
 intro pins s σ H x y v u Q I rx ry h
 obtain ⟨rfl,q⟩:=h
 cases ry
 refine is_none_gen (fin_bl I q ?_)
 cases x <;> first
  | (cases rx; rfl)
  | (obtain ⟨t,rfl⟩:=rx; rfl)
theorem op_notN:OpR X (compareOp .IsNot) (λx y H Q=>y=.non∧Q (.bl (!decide (x=.non))) H):=by
 intro pins s σ H x y v u Q I rx ry h
 obtain ⟨rfl,q⟩:=h
 cases ry
 refine isnot_none_gen (fin_bl I q ?_)
 cases x <;> first
  | (cases rx; rfl)
  | (obtain ⟨t,rfl⟩:=rx; rfl)
theorem pe_cmpR {op:CmpOp} {r:R2} (ho:OpR X (compareOp op) r) (ha:PE X a ta) (hb:PE X b tb) (hm:behindInMarks op b=false):PE X (.Compare a [op] [b] pos) (tOp r ta tb):=by
 intro pins s σ H Q I h
 exact wpAny_Compare1 (binT ha hb I h λv u s2 x y H2 I2 rx ry q=>ho pins s2 σ H2 x y v u Q I2 rx ry q) hm
def tTest (t:TE):TT:=λσ H Q=>t σ H λx H'=>∃ k,x=.bl k∧Q k H'
theorem pt_cmpR {op:CmpOp} {r:R2} (ho:OpR X (compareOp op) r) (ha:PE X a ta) (hb:PE X b tb) (hm:behindInMarks op b=false):PT X (.Compare a [op] [b] pos) (tTest (tOp r ta tb)):=by
 intro pins s σ H Q I h
 refine wpAny_isTrue_Compare1 (thn (ha pins s σ H _ I h) λv s1 ⟨x,H1,I1,r1,q1⟩=>thn (hb pins s1 σ H1 _ I1 q1) λu s2 ⟨y,H2,I2,r2,q2⟩ =>
  thn (ho pins s2 σ H2 x y v u _ I2 r1 r2 q2) λc s3 ⟨z,H3,I3,r3,k,e,q3⟩=>?_) hm
 subst e
 cases r3
 exact wpAny_truthy_bool ⟨H3,I3,q3⟩
noncomputable def tChain (r r':R2) (ta tb tc:TE):TE:=λσ H Q=>ta σ H λx H1=>tb σ H1 λy H2=>r x y H2 λz H3=>∃ k,z=.bl k ∧
 (if k=true then tc σ H3 λw' H4=>r' y w' H4 Q else Q (.bl false) H3)
theorem pe_chain {op op':CmpOp} {r r':R2} (ho:OpR X (compareOp op) r) (ho':OpR X (compareOp op') r') (ha:PE X a ta) (hb:PE X b tb) (hc:PE X c tc)
  (hm:lastMarks [op,op'] [b,c]=false:=by with_unfolding_all rfl):PE X (.Compare a [op,op'] [b,c] pos) (tChain r r' ta tb tc):=by
 intro pins s σ H Q I h
 refine Compare_chain (thn (ha pins s σ H _ I h) λv s1 ⟨x,H1,I1,r1,q1⟩=>chain_link (thn (hb pins s1 σ H1 _ I1 q1) λu s2 ⟨y,H2,I2,r2,q2⟩ =>
  thn (ho pins s2 σ H2 x y v u _ I2 r1 r2 q2) λd s3 ⟨z,H3,I3,r3,k,e,q3⟩=>?_)) hm
 subst e
 cases r3
 refine wpAny_truthy_bool ?_
 cases k with
 | false=>exact ite_ff ⟨.bl false,H3,I3,rfl,q3⟩
 | true=>exact ite_tt (chain_last (thn (hc pins s3 σ H3 _ I3 q3) λw' s4 ⟨z',H4,I4,r4,q4⟩=>ho' pins s4 σ H4 y z' u w' Q I4 r2 r4 q4))
theorem pt_chain {op op':CmpOp} {r r':R2} (ho:OpR X (compareOp op) r) (ho':OpR X (compareOp op') r') (ha:PE X a ta) (hb:PE X b tb) (hc:PE X c tc)
  (hm:lastMarks [op,op'] [b,c]=false:=by with_unfolding_all rfl):PT X (.Compare a [op,op'] [b,c] pos) (tTest (tChain r r' ta tb tc)):=by
 intro pins s σ H Q I h
 refine isTrue_chain (thn (ha pins s σ H _ I h) λv s1 ⟨x,H1,I1,r1,q1⟩=>test_link (thn (hb pins s1 σ H1 _ I1 q1) λu s2 ⟨y,H2,I2,r2,q2⟩ =>
  thn (ho pins s2 σ H2 x y v u _ I2 r1 r2 q2) λd s3 ⟨z,H3,I3,r3,k,e,q3⟩=>?_)) hm
 subst e
 cases r3
 refine wpAny_truthy_bool ?_
 cases k with
 | false =>
  obtain ⟨k',e',q'⟩:=q3
  cases e'
  exact ite_ff ⟨H3,I3,q'⟩
 | true =>
  refine ite_tt (test_last (thn (hc pins s3 σ H3 _ I3 q3) λw' s4 ⟨z',H4,I4,r4,q4⟩=>thn (ho' pins s4 σ H4 y z' u w' _ I4 r2 r4 q4) λd' s5 ⟨z2,H5,I5,r5,k2,e2,q5⟩=>?_))
  subst e2
  cases r5
  exact wpAny_truthy_bool ⟨H5,I5,q5⟩
def TruV (K:PySem.W.Frag) (x:V) (H:Hp) (k:Bool):Prop :=
 match x with
 | .non=>k=false
 | .bl b=>k=b
 | .int i=>k=(i != 0)
 | .str y=>y.length≤sizeLine∧k=((y.length:Int) != 0)
 | .byt y=>y.size≤sizeLine∧k=((y.size:Int) != 0)
 | .ref p=>(∃ xs,SqL K H p xs∧k=!xs.isEmpty)∨(∃ xs,SqT K H p xs∧k=!xs.isEmpty)∨∃ kvs,H p=some (.dK kvs)∧k=!kvs.isEmpty
 | _=>False
theorem isEmpty_kv {κ:Type} {kvs:List (κ × V)} {vs:List (κ × Value)} (r:KV kvs vs):(!vs.isEmpty)=!kvs.isEmpty:=by
 cases r <;> rfl
theorem isEmpty_of {xs:List V} {its:List Value} (r:Vals xs its):(!its.toArray.isEmpty)=!xs.isEmpty:=by
 cases r <;> simp
theorem line63:(sizeLine:Nat)<2 ^ 63:=by rw [sizeLine_eq]; decide
theorem tru_ok:TruR X (λx H Q=>∃ k,TruV X.K x H k∧Q k H):=by
 intro pins s σ H x v Q I rx h
 obtain ⟨k,e,q⟩:=h
 have hl:=line63
 have hs:sizeLine=16777216:=sizeLine_eq
 cases x with
 | non =>
  cases rx
  have e':k=false:=e
  subst e'
  exact truthy_none ⟨H,I,q⟩
 | bl b =>
  cases rx
  have e':k=b:=e
  subst e'
  exact wpAny_truthy_bool ⟨H,I,q⟩
 | int i =>
  obtain ⟨t,rfl⟩:=rx
  have e':k=(i != 0):=e
  subst e'
  exact PySem.P.truthy_int ⟨H,I,q⟩
 | str y =>
  obtain ⟨t,rfl⟩:=rx
  obtain ⟨hy,e'⟩:y.length≤sizeLine∧k=((y.length:Int) != 0):=e
  subst e'
  exact PySem.P.truthy_str (by omega) ⟨H,I.tok _,q⟩
 | byt y =>
  obtain ⟨t,rfl⟩:=rx
  obtain ⟨hy,e'⟩:y.size≤sizeLine∧k=((y.size:Int) != 0):=e
  subst e'
  exact PySem.W.truthy_bytes (by omega) ⟨H,I.tok _,q⟩
 | ref p =>
  cases rx
  have e':(∃ xs,SqL X.K H p xs∧k=!xs.isEmpty)∨(∃ xs,SqT X.K H p xs∧k=!xs.isEmpty)∨∃ kvs,H p=some (.dK kvs)∧k=!kvs.isEmpty:=e
  rcases e' with ⟨xs,hx,e'⟩ | ⟨xs,hx,e'⟩ | ⟨kvs,hx,e'⟩
  ·subst e'
   obtain ⟨its,r,pl,hz⟩:=I.list hx
   have hlen:=r.length
   exact wpAny_truthy_list pl.isList (by simp only [List.size_toArray]; omega) ⟨H,I.tok _,by rw [isEmpty_of r]; exact q⟩
  ·subst e'
   obtain ⟨its,r,pl,hz⟩:=I.tuple hx
   have hlen:=r.length
   exact truthy_tuple pl (by simp only [List.size_toArray]; omega) ⟨H,I.tok _,by rw [isEmpty_of r]; exact q⟩
  ·subst e'
   obtain ⟨hz,hS,vs,r,m⟩:kvs.length≤sizeLine∧(p == sysModules)=false∧∃ vs,KV kvs vs∧s.heap.DictOf (mixKind X.prog X.w) p vs:=I.hok p _ hx
   have hlen:kvs.length=vs.length:=Paired.length r
   exact wpAny_truthy_dict hS m (by omega) ⟨H,I.tok _,by rw [isEmpty_kv r]; exact q⟩
 | _=>exact (show False from e).elim
theorem pt_truth (ha:PE X a ta) (he:∀ whole,isTrue a X.env whole=(do let v ← whole; standAt a.pos; holding [v] (truthy v))) :
  PT X a (λσ H Q=>ta σ H λx H'=>∃ k,TruV X.K x H' k∧Q k H'):=by
 intro pins s σ H Q I h
 exact isTrue_plain (thn (ha pins s σ H _ I h) λv s1 ⟨x,H1,I1,r1,q1⟩=>tru_ok pins s1 σ H1 x v Q I1 r1 q1) (he _)
theorem vals1 {x:V} {us:List Value} (r:Vals [x] us):∃ u,us=[u]∧RelV x u:=by
 cases r with
 | cons r1 r2=>cases r2; exact ⟨_,rfl,r1⟩
theorem vals2 {x y:V} {us:List Value} (r:Vals [x,y] us):∃ u w',us=[u,w']∧RelV x u∧RelV y w':=by
 cases r with
 | cons r1 r2 =>
  cases r2 with
  | cons r3 r4=>cases r4; exact ⟨_,_,rfl,r1,r3⟩
theorem call_abs:CallR X (.builtin "abs") (λxs H Q=>∃ i,xs=[.int i]∧Q (.int (if i<0 then -i else i)) H):=by
 intro pins s σ H xs us Q I r h
 obtain ⟨i,rfl,q⟩:=h
 obtain ⟨u,rfl,t,rfl⟩:=vals1 r
 exact call_abs_int λu tk=>⟨.int (if i<0 then -i else i),H,I.tok _,⟨_,rfl⟩,q⟩
theorem call_int1:CallR X (.type "int") (λxs H Q=>(∃ i,xs=[.int i]∧Q (.int i) H)∨∃ k,xs=[.bl k]∧Q (.int (if k then 1 else 0)) H):=by
 intro pins s σ H xs us Q I r h
 rcases h with ⟨i,rfl,q⟩ | ⟨k,rfl,q⟩
 ·obtain ⟨u,rfl,t,rfl⟩:=vals1 r
  exact call_int_int ⟨.int i,H,I,⟨_,rfl⟩,q⟩
 ·obtain ⟨u,rfl,r1⟩:=vals1 r
  cases r1
  exact call_int_bool ⟨.int (if k then 1 else 0),H,I.tok _,⟨_,rfl⟩,q⟩
end
structure ObjM (h:Heap) (x dx C:Addr) (mA:Str→Option Value):Prop where
 obj:h.get? x=some (PySem.W.instObj C dx)
 ns:h.Ns1 dx mA
 ne:dx≠x
section
variable {prog:Program} {w:World} {A:Around} {E:Value→Shared→Prop} {s:Shared} {K:PySem.W.Frag} {x dx C f:Addr} {mA:Str→Option Value} {name:Str} {v:Value}
end
section
variable {P:Program} {w:World} {H H':Hp} {h h':Heap} {a C dx:Addr} {fs fs':List (Str × V)}
end
structure Cls (K:PySem.W.Frag) (C:Addr):Prop where
 pg:PySem.W.plainGet K C Str.empty=true
 hd:PySem.W.hasDictIn K C=true
 po:PySem.W.plainOver K C=true
 sa:PySem.W.findIn K (.ref C) "__setattr__"=some (some (.builtin "object.__setattr__"))
theorem Cls.get {K:PySem.W.Frag} {C:Addr} (c:Cls K C) (f:Str):PySem.W.plainGet K C f=true:=c.pg
def NoAttr (K:PySem.W.Frag) (C:Addr) (f:Str):Prop:=PySem.W.findIn K (.ref C) f=some none
structure Con (K:PySem.W.Frag) (C:Addr) (f:Str) (v:V) (u:Value):Prop where
 at_:PySem.W.findIn K (.ref C) f=some (some u)
 rel:RelV v u
 get:PySem.W.specialIn K u "__get__"=some none
 cp:PySem.W.copiedNames.contains f=false
structure Meth (K:PySem.W.Frag) (C:Addr) (m:Str) (f:Addr):Prop where
 at_:PySem.W.findIn K (.ref C) m=some (some (.ref f))
 fn:PySem.W.isFn K (.ref f)=true
 kp:PySem.W.keepIn K (.ref f)=true
section
variable {X:Cx} {pins:List (Addr × Obj)} {σ:St} {H:Hp} {s:Shared} {a C dx:Addr} {fs:List (Str × V)} {f:Str} {v:V} {A:Around} {E:Value→Shared→Prop}
theorem Inv.made (I:Inv X pins σ H s):Inv X pins σ (upd (upd H s.heap.objs.size (.own (s.heap.objs.size+1))) (s.heap.objs.size+1) (.ins C s.heap.objs.size []))
  { s with heap:=(s.heap.push PySem.W.emptyDict).push (PySem.W.instObj C s.heap.objs.size) }:=by
 have e1:(s.heap.push PySem.W.emptyDict).get? s.heap.objs.size=some PySem.W.emptyDict:=Heap.get?_push_size s.heap rfl
 have e2:((s.heap.push PySem.W.emptyDict).push (PySem.W.instObj C s.heap.objs.size)).get? (s.heap.objs.size+1)=some (PySem.W.instObj C s.heap.objs.size):=by
  have:=Heap.get?_push_size (s.heap.push PySem.W.emptyDict) (o:=PySem.W.instObj C s.heap.objs.size) rfl
  rwa [Heap.size_push] at this
 have e3:(s.heap.push PySem.W.emptyDict).Ns s.heap.objs.size (λ_=>none):=⟨PySem.W.emptyDict,#[],_,e1,rfl,(λe he=>absurd he (by simp)),λ_=>rfl⟩
 have I1:=I.laid (a:=s.heap.objs.size) (o:=.own (s.heap.objs.size+1)) (h':=s.heap.push PySem.W.emptyDict) (t':=s.toks) (λb u q=>Heap.get?_push_of_some _ q) (Nat.le_refl _) ⟨_,e1⟩
 refine I1.laid (a:=s.heap.objs.size+1) (o:=.ins C s.heap.objs.size []) (t':=s.toks) (λb u q=>Heap.get?_push_of_some _ q) (Nat.le_of_eq (Heap.size_push _ _)) ?_
 have ne:s.heap.objs.size≠s.heap.objs.size+1:=Nat.ne_of_lt (Nat.lt_succ_self _)
 refine ⟨by rw [upd_ne ne,upd_same],Nat.zero_le _,ne,e2,λ_=>none,(Heap.Ns1.of_empty e3).at λo q=>Heap.get?_push_of_some _ q,λ_=>True.intro,λy hy=>absurd rfl hy⟩
end
section
variable {X:Cx} {o e value:Expr} {f:Str} {pos pos' tpos:Pos} {ta tv:TE}
end
section
variable {X:Cx} {pins:List (Addr × Obj)} {σ:St} {H:Hp} {s:Shared} {A:Around} {E:Value→Shared→Prop} {Q:Value→Shared→Prop} {c:Value} {b:Bool}
inductive TyOf (K:PySem.W.Frag) (H:Hp):V→Value→Prop where
 | non:TyOf K H .non (.type "NoneType")
 | bl (x:Bool):TyOf K H (.bl x) (.type "bool")
 | int (i:Int):TyOf K H (.int i) (.type "int")
 | str (x:Str):TyOf K H (.str x) (.type "str")
 | flt (x:UInt64):TyOf K H (.flt x) (.type "float")
 | lst {a:Addr} {xs:List V} (e:H a=some (.lst xs)):TyOf K H (.ref a) (.type "list")
 | frz {a:Addr} {o:Obj} {xs:List V} (e:H a=some (.frz o (.lst xs))):TyOf K H (.ref a) (.type "list")
 | tup {a:Addr} {xs:List V} (e:H a=some (.tup xs)):TyOf K H (.ref a) (.type "tuple")
 | dK {a:Addr} {kvs:List (Key × V)} (e:H a=some (.dK kvs)):TyOf K H (.ref a) (.type "dict")
 | dT {a:Addr} {kvs:List (List Key × V)} (e:H a=some (.dT kvs)):TyOf K H (.ref a) (.type "dict")
 | ins {a C dx:Addr} {fs:List (Str × V)} (e:H a=some (.ins C dx fs)) (cl:Cls K C) (ha:PySem.W.findIn K (.ref C) "__class__"=some (some (.builtin "object.__class__")))
   (hn:PySem.W.specialIn K (.builtin "object.__class__") "__get__"=some (some (.builtin "getset_descriptor.__get__"))) (htk:PySem.W.takesIn K (.builtin "object.__class__")=some true)
   (hm:PySem.W.mroIn K C (.type "object")=some true):TyOf K H (.ref a) (.ref C)
end
structure Room (k:Nat) (A:Around):Prop where
 hd:A.handled=none
 dp:A.depth+3*k+5<recursionLimit
 un:A.units+16*k+200<cLine
 gs:A.guards=some []
theorem Room.mono {j k:Nat} {A:Around} (r:Room k A) (h:j≤k):Room j A:=⟨r.hd,by have:=r.dp; omega,by have:=r.un; omega,by first | exact r.gs | simpa [Around.deeper,Around.under,Code.guards,Code.isGuard,pushGuards,guardIds] using r.gs⟩
theorem Room.deeper {k:Nat} {A:Around} (r:Room (k+1) A) (env:Env):Room k (A.deeper env) :=
 ⟨r.hd,by have:=r.dp; show A.depth+1+3*k+5<_; omega,by have:=r.un; show A.units+3+16*k+200<_; omega,by first | exact r.gs | simpa [Around.deeper,Around.under,Code.guards,Code.isGuard,pushGuards,guardIds] using r.gs⟩
theorem make_depth {A:Around} {C:Addr} {us:List Value} {kw:List (Str × Value)}:(A.under (.builtin "type.__call__" ⟨.ref C :: us,kw⟩)).depth=A.depth+1:=by
 first | rfl | simp [Around.under,Code.weight,Code.isCreation,Code.isGuard,Code.isCaller,Code.frames,Code.isFrame,guardIds]
theorem make_units {A:Around} {C:Addr} {us:List Value} {kw:List (Str × Value)}:(A.under (.builtin "type.__call__" ⟨.ref C :: us,kw⟩)).units=A.units+1:=by
 first | rfl | simp [Around.under,Code.cUnits,Code.frames,Code.isFrame]
theorem Room.make {k:Nat} {A:Around} (r:Room (k+1) A) (C:Addr) (us:List Value) (kw:List (Str × Value)):Room k (A.under (.builtin "type.__call__" ⟨.ref C :: us,kw⟩)) :=
 ⟨r.hd,by have:=r.dp; rw [make_depth]; omega,by have:=r.un; rw [make_units]; omega,by first | exact r.gs | simpa [Around.deeper,Around.under,Code.guards,Code.isGuard,pushGuards,guardIds] using r.gs⟩
theorem Room.depth {k:Nat} {A:Around} (r:Room k A):A.depth<recursionLimit:=by have:=r.dp; omega
theorem Room.units {k:Nat} {A:Around} (r:Room k A):A.units+64<cLine:=by have:=r.un; omega
def tNil:TA:=λ_ H Q=>Q [] H
def tCons (ta:TE) (tr:TA):TA:=λσ H Q=>ta σ H λx H1=>tr σ H1 λxs H2=>Q (x :: xs) H2
section
variable {X:Cx} {e:Expr} {es:List Expr} {te:TE} {t:TA} {pos:Pos}
theorem pa_nil:PA X [] tNil:=λ_ _ _ _ H Q I h=>Calls.spliced_nil ⟨[],H,I,.nil,h⟩
theorem pa_cons (ha:PE X e te) (hr:PA X es t) (hs:starEach (e :: es) X.env=(false,eval e X.env) :: starEach es X.env:=by rfl):PA X (e :: es) (tCons te t):=by
 intro pos pins s σ H Q I h
 rw [hs]
 show wpAny _ _ (spliced ((false,eval e X.env) :: backTo pos (starEach es X.env))) _ _ s
 refine Calls.spliced_cons (thn (ha pins s σ H _ I h) λu s1 ⟨x,H1,I1,r1,q1⟩=>?_)
 exact thn (hr pos pins s1 σ H1 _ I1 q1) λus s2 ⟨xs,H2,I2,r2,q2⟩=>⟨x :: xs,H2,I2,.cons r1 r2,q2⟩
noncomputable def tTup (t:TA):TE:=λσ H Q=>t σ H λxs H1=>xs.length≤sizeLine∧∀ p,H1 p=none→Q (.ref p) (upd H1 p (.tup xs))
noncomputable def tLst (t:TA):TE:=λσ H Q=>t σ H λxs H1=>xs.length≤sizeLine∧∀ p,H1 p=none→Q (.ref p) (upd H1 p (.lst xs))
theorem pe_tup {x1} (h:PA X es t):PE X (.Tuple es x1 pos) (tTup t):=by
 intro pins s σ H Q I hq
 refine wpAny_Tuple_spliced (thn (h pos pins s σ H _ I hq) λus s1 ⟨xs,H1,I1,r,z,q⟩=>⟨by rw [← r.length]; exact z, ?_⟩)
 have hf:H1 s1.heap.objs.size=none:=I1.hok.fresh (Nat.le_refl _)
 refine ⟨.ref s1.heap.objs.size,upd H1 s1.heap.objs.size (.tup xs),I1.laid (t':=s1.toks) (λb u e=>Heap.get?_push_of_some _ e) (Nat.le_refl _) ?_,rfl,q _ hf⟩
 exact ⟨z,us,r,⟨_,Heap.get?_push_size _ rfl,rfl,_,rfl⟩⟩
theorem pe_lst (h:PA X es t):PE X (.List es pos) (tLst t):=by
 intro pins s σ H Q I hq
 refine wpAny_List_spliced (thn (h pos pins s σ H _ I hq) λus s1 ⟨xs,H1,I1,r,z,q⟩=>⟨by rw [← r.length]; exact z, ?_⟩)
 have hf:H1 s1.heap.objs.size=none:=I1.hok.fresh (Nat.le_refl _)
 refine ⟨.ref s1.heap.objs.size,upd H1 s1.heap.objs.size (.lst xs),I1.laid (t':=s1.toks) (λb u e=>Heap.get?_push_of_some _ e) (Nat.le_refl _) ?_,rfl,q _ hf⟩
 exact ⟨z,us,0,r,Heap.get?_push_size _ rfl⟩
end
abbrev Sp:=List V→Hp→VK→XK→Prop
abbrev CXT:=List Env→Hp→Shared→XK→Value→Shared→Prop
structure Env0 (P:Program) (w:World) (K:PySem.W.Frag) (mg:Str→Option Value) (base:Heap) (A:Around) (outer:List Env) (s:Shared) (H:Hp):Prop where
 frames:A.frames=some outer
 mod:Mod K mg base
 bs:∀ b o,base.get? b=some o→s.heap.get? b=some o∧H b=none
 bsz:base.objs.size≤s.heap.objs.size
 funs:s.heap.FunFrames base outer
 frf:∀ b∈frs outer,H b=none
 hok:HOk P w H s.heap
 bare:AllBare s.gens
def CE (outer:List Env) (P:Program) (w:World) (H:Hp) (s:Shared) (Q:VK) (u:Value) (s':Shared):Prop :=
 ∃ v H',s'.os=s.os∧AllBare s'.gens∧Un (frs outer) [] H H' s.heap s'.heap∧HOk P w H' s'.heap∧RelV v u∧Q v H'
def CR (CX:CXT) (outer:List Env) (P:Program) (w:World) (H:Hp) (s:Shared) (Q:VK) (E:XK) (r:Result) (s':Shared):Prop :=
 match r with
 | .ok (.ret u)=>CE outer P w H s Q u s'
 | .ok _=>False
 | .error e=>CX outer H s E e s'
structure FnOk (P:Program) (w:World) (K:PySem.W.Frag) (mg:Str→Option Value) (base:Heap) (CX:CXT) (k:Nat) (f:Addr) (fd:FuncData) (ps:List Str) (sp:Sp):Prop where
 len:∀ vs H Q E,sp vs H Q E→vs.length=ps.length
 run:∀ (A:Around) (outer:List Env) (s:Shared) (H:Hp) (args:Args) (us:List Value) (vs:List V) (Q:VK) (E:XK),Room k A→Env0 P w K mg base A outer s H→BindsTo s fd args (ps.zip us)→Vals vs us→sp vs H Q E →
  codeAny (model P w) A (.call (.ref f) args) (CR CX outer P w H s Q E) s
theorem Env0.make {P:Program} {w:World} {K:PySem.W.Frag} {mg:Str→Option Value} {base:Heap} {A:Around} {outer:List Env} {s:Shared} {H:Hp} (e:Env0 P w K mg base A outer s H) (C:Addr) (us:List Value) (kw:List (Str × Value)) :
  Env0 P w K mg base (A.under (.builtin "type.__call__" ⟨.ref C :: us,kw⟩)) outer s H:=⟨by first | exact e.frames | (simpa [Around.under,Code.envs,Code.isFrame,pushEnvs] using e.frames),e.mod,e.bs,e.bsz,e.funs,e.frf,e.hok,e.bare⟩
section
variable {X:Cx} {pins:List (Addr × Obj)} {σ:St} {H:Hp} {s s':Shared}
theorem Inv.env0 (I:Inv X pins σ H s):Env0 X.prog X.w X.K X.mg X.base X.A X.stack s H :=
 ⟨I.ok.frames,I.ok.mod,I.bs,Nat.le_trans I.ok.bsz I.sz,I.stack,I.stkFree,I.hok,I.bare⟩
theorem Inv.after {Q:VK} {u:Value} (I:Inv X pins σ H s) (h:CE X.stack X.prog X.w H s Q u s'):EP X pins σ Q u s':=by
 obtain ⟨v,H',os,bare,un,hok,r,q⟩:=h
 obtain ⟨hh,g,d,t,os'⟩:=s'
 obtain rfl:os'=s.os:=os
 exact ⟨v,H',I.call (h':=hh) (g':=g) (d':=d) (t':=t) (ch:=[]) un hok bare (λb z=>absurd z (by simp)),r,q⟩
end
def tCall (sp:Sp) (dvs:List V) (E:XK) (t:TA):TE:=λσ H Q=>t σ H λvs H1=>sp (vs ++ dvs) H1 Q E
def Binds (K:PySem.W.Frag) (fd:FuncData) (ps:List Str) (ds:List Value):Prop :=
 ∀ (s:Shared) (us:List Value),K.In s.heap→(us ++ ds).length=ps.length→BindsTo s fd ⟨us,[]⟩ (ps.zip (us ++ ds))
theorem Binds.all {K:PySem.W.Frag} {fd:FuncData} {ps:List Str} (h:∀ us:List Value,us.length=ps.length→bindArgs fd ⟨us,[]⟩=pure (ps.zip us)):Binds K fd ps []:=λs us _ hl=>by
 rw [List.append_nil] at hl ⊢
 exact .of_eq (h us hl)
def Passes (CX:CXT) (X:Cx) (E:XK):Prop:=∀ (pins:List (Addr × Obj)) (σ:St) (H:Hp) (s:Shared) (e:Value) (s':Shared),Inv X pins σ H s→CX X.stack H s E e s'→X.xe e s'
section
variable {X:Cx} {CX:CXT} {k:Nat} {f C:Addr} {fd:FuncData} {ps:List Str} {sp:Sp} {dvs:List V} {ds:List Value} {E:XK} {x m:Str} {p pos apos:Pos} {e o:Expr} {es:List Expr} {ta:TE} {t:TA}
theorem run_fn {pins:List (Addr × Obj)} {σ:St} {H:Hp} {s:Shared} {Q:VK} {us:List Value} {vs:List V} (F:FnOk X.prog X.w X.K X.mg X.base CX k f fd ps sp) (hr:Room k X.A) (hb:Binds X.K fd ps ds) (hd:Vals dvs ds) (hx:Passes CX X E)
  (I:Inv X pins σ H s) (r:Vals vs us) (h:sp (vs ++ dvs) H Q E):wpAny (model X.prog X.w) X.A (call (.ref f) us) (EP X pins σ Q) X.xe s:=by
 have r2:Vals (vs ++ dvs) (us ++ ds):=r.append hd
 have hl:(us ++ ds).length=ps.length:=by rw [← r2.length]; exact F.len _ _ _ _ h
 refine wpAny_call (codeAny_mono (F.run X.A X.stack s H ⟨us,[]⟩ (us ++ ds) (vs ++ dvs) Q E hr I.env0 (hb s us I.kIn hl) r2 h) λr s' hq=>?_)
 cases r with
 | error e=>exact hx pins σ H s e s' I hq
 | ok fl =>
  cases fl with
  | ret u=>exact I.after hq
  | next=>exact False.elim hq
  | brk=>exact False.elim hq
  | cont=>exact False.elim hq
theorem pe_call (F:FnOk X.prog X.w X.K X.mg X.base CX k f fd ps sp) (hr:Room k X.A) (hg:Gl X x) (hm:X.mg x=some (.ref f)) (hk:PySem.W.keepIn X.K (.ref f)=true) (hb:Binds X.K fd ps ds) (hd:Vals dvs ds) (hx:Passes CX X E)
  (ha:PA X (e :: es) t) (hdb:(x == ("__debug__":Str))=false:=by decide) (he:starEach (e :: es) X.env=(false,eval e X.env) :: starEach es X.env:=by rfl) (hpl:(backTo pos (starEach es X.env)).any (·.1)=false:=by rfl) :
  PE X (.Call (.Name x p) (e :: es) [] pos) (tCall sp dvs E t):=by
 intro pins s σ H Q I h
 refine wpAny_Call_Name_kw (ld_glob I hg hm ?_ hdb)
 refine PySem.W.callWith_K (h₀:=X.base) I.ok.mod.kin hk (thn (ha pos pins s σ H _ I h) λus s1 ⟨vs,H1,I1,r,q⟩=>⟨I1.kIn, ?_⟩) he hpl
 exact run_fn F hr hb hd hx I1 r q
structure Mk (K:PySem.W.Frag) (C f:Addr):Prop where
 makes:PySem.W.makesIn K C=true
 init:PySem.W.findIn K (.ref C) "__init__"=some (some (.ref f))
 fn:PySem.W.isFn K (.ref f)=true
 kp:PySem.W.keepIn K (.ref C)=true
end
def PK (X:Cx) (kws:List Keyword) (t:TA):Prop :=
 ∀ (pos:Pos) (pins:List (Addr × Obj)) (s:Shared) (σ:St) (H:Hp) (Q:List V→Hp→Prop),Inv X pins σ H s→t σ H Q→wpAny (model X.prog X.w) X.A (evalAll ((backToKw pos (keywordEach kws X.env)).map (·.2))) (AP X pins σ Q) X.xe s
section
variable {X:Cx} {CX:CXT} {k:Nat} {f C:Addr} {fd:FuncData} {ps ks:List Str} {sp:Sp} {E:XK} {x m:Str} {p pos apos kpos:Pos} {e o:Expr} {es:List Expr} {kws:List Keyword} {te ta:TE} {t tk:TA} {nm:Option Str}
theorem pk_nil:PK X [] tNil:=λ_ _ _ _ H Q I h=>wpAny_evalAll_nil ⟨[],H,I,.nil,h⟩
theorem pk_cons (ha:PE X e te) (hr:PK X kws t):PK X (⟨nm,e,kpos⟩ :: kws) (tCons te t):=by
 intro pos pins s σ H Q I h
 show wpAny _ _ (evalAll ((do let v ← eval e X.env; standAt pos; pure v) :: (backToKw pos (keywordEach kws X.env)).map (·.2))) _ _ s
 refine wpAny_evalAll_cons (wpAny_bind (thn (ha pins s σ H _ I h) λu s1 ⟨x,H1,I1,r1,q1⟩=>wpAny_bind (wpAny_standAt (wpAny_pure ?_))))
 exact thn (hr pos pins s1 σ H1 _ I1 q1) λus s2 ⟨xs,H2,I2,r2,q2⟩=>⟨x :: xs,H2,I2,.cons r1 r2,q2⟩
structure KBinds (K:PySem.W.Frag) (fd:FuncData) (ps ks:List Str) (g:List Value→List Value→List Value) (gV:List V→List V→List V):Prop where
 to:∀ (s:Shared) (us ws:List Value),K.In s.heap→(g us ws).length=ps.length→BindsTo s fd ⟨us,ks.zip ws⟩ (ps.zip (g us ws))
 rel:∀ {vs:List V} {us:List Value} {zs:List V} {ws:List Value},Vals vs us→Vals zs ws→Vals (gV vs zs) (g us ws)
variable {g:List Value→List Value→List Value} {gV:List V→List V→List V}
end
structure FnScope (N P:List Str) (sc:Scope):Prop where
 kind:sc.kind=.function
 co:sc.isCoroutine=false
 gen:sc.isGenerator=false
 nd:N.Nodup
 pre:N.take P.length=P
 par:∀ x∈P,sc.names.lookup x=some .local∨sc.names.lookup x=some .cell
 nofree:∀ y∈sc.names,y.2≠.free
theorem bindL_out {kindOf:Str→Option NameKind} {x:Str}:∀ {binds:List (Str × Value)} {m:Str→Option Value},(∀ v,(x,v) ∉ binds)→bindL kindOf binds m x=m x
 | [],_,_=>rfl
 | (n,v) :: r,m,h=>by
  unfold bindL
  rw [bindL_out λw hw=>h w (List.mem_cons_of_mem _ hw)]
  split
  ·have:x≠n:=by rintro rfl; exact h v List.mem_cons_self
   simp [this]
  ·rfl
theorem bindC_out {kindOf:Str→Option NameKind} {x:Str}:∀ {binds:List (Str × Value)} {m:Str→Option Value},(∀ v,(x,v) ∉ binds)→bindC kindOf binds m x=m x
 | [],_,_=>rfl
 | (n,v) :: r,m,h=>by
  unfold bindC
  rw [bindC_out λw hw=>h w (List.mem_cons_of_mem _ hw)]
  split
  ·rfl
  ·have:x≠n:=by rintro rfl; exact h v List.mem_cons_self
   simp [this]
theorem bindL_get {kindOf:Str→Option NameKind} {x:Str} {v:Value}:∀ {P:List Str} {vs:List Value} {i:Nat} {m:Str→Option Value},P.Nodup→P[i]?=some x→vs[i]?=some v→kindOf x=some .local →
  bindL kindOf (P.zip vs) m x=some v
 | [],_,_,_,_,h,_,_=>by simp at h
 | _ :: _,[],_,_,_,_,h,_=>by simp at h
 | p :: P,w :: vs,0,m,nd,h1,h2,hk=>by
  simp at h1 h2; subst h1; subst h2
  show bindL kindOf ((p,w) :: P.zip vs) m p=_
  unfold bindL
  rw [bindL_out λv hv=>(List.nodup_cons.mp nd).1 (List.of_mem_zip hv).1,if_pos hk]
  simp
 | p :: P,w :: vs,i+1,m,nd,h1,h2,hk=>by
  show bindL kindOf ((p,w) :: P.zip vs) m x=_
  unfold bindL
  exact bindL_get (i:=i) (List.nodup_cons.mp nd).2 (by simpa using h1) (by simpa using h2) hk
theorem bindC_get {kindOf:Str→Option NameKind} {x:Str} {v:Value}:∀ {P:List Str} {vs:List Value} {i:Nat} {m:Str→Option Value},P.Nodup→P[i]?=some x→vs[i]?=some v→kindOf x≠some .local →
  bindC kindOf (P.zip vs) m x=some v
 | [],_,_,_,_,h,_,_=>by simp at h
 | _ :: _,[],_,_,_,_,h,_=>by simp at h
 | p :: P,w :: vs,0,m,nd,h1,h2,hk=>by
  simp at h1 h2; subst h1; subst h2
  show bindC kindOf ((p,w) :: P.zip vs) m p=_
  unfold bindC
  rw [bindC_out λv hv=>(List.nodup_cons.mp nd).1 (List.of_mem_zip hv).1,if_neg hk]
  simp
 | p :: P,w :: vs,i+1,m,nd,h1,h2,hk=>by
  show bindC kindOf ((p,w) :: P.zip vs) m x=_
  unfold bindC
  exact bindC_get (i:=i) (List.nodup_cons.mp nd).2 (by simpa using h1) (by simpa using h2) hk
def start (N:List Str) (vs:List V):St:=vs.map some ++ List.replicate (N.length - vs.length) none
noncomputable def cxOf (CX:CXT) (P:Program) (w:World) (K:PySem.W.Frag) (mg:Str→Option Value) (base:Heap) (N:List Str) (qual:Str) (scope:Scope) (f:Addr) (cd:Value) (A:Around) (outer:List Env) (s:Shared) (H:Hp) (E:XK):Cx where
 prog:=P
 w:=w
 K:=K
 mg:=mg
 base:=base
 A:=A.deeper (envOfC qual scope s.heap.objs.size f cd)
 N:=N
 s₀:=s
 H₀:=H
 env:=envOfC qual scope s.heap.objs.size f cd
 outer:=outer
 stack:=envOfC qual scope s.heap.objs.size f cd :: outer
 ex:=[]
 calm:=true
 fn:=λ_=>true
 pn:=[]
 xe:=λe s'=>wpAny (model P w) (A.deeper (envOfC qual scope s.heap.objs.size f cd)) (leaving (envOfC qual scope s.heap.objs.size f cd) e) (λ_ s''=>CX outer H s E e s'') (λe' s''=>CX outer H s E e' s'') s'
theorem cell_has {sc:Scope} {n:Nat} {x:Str} (h:sc.names.lookup x=some .cell):∃ c,(cellsFrom n sc.names []).lookup x=some c:=by
 have q:=PySem.W.cellsFrom_some sc.names n [] (.inl h)
 exact Option.isSome_iff_exists.mp q
theorem inv_start {CX:CXT} {P:Program} {w:World} {K:PySem.W.Frag} {mg:Str→Option Value} {base:Heap} {N ps:List Str} {qual:Str} {scope:Scope} {f:Addr} {cd:Value} {A:Around} {outer:List Env} {s s1:Shared} {H:Hp} {E:XK} {us:List Value} {vs:List V}
  (S:FnScope N ps scope) (hd:A.handled=none) (e0:Env0 P w K mg base A outer s H) (hl:vs.length=ps.length) (r:Vals vs us)
  (x:InCallC s s.heap.objs.size (bindL (envOfC qual scope s.heap.objs.size f cd).kindOf (ps.zip us) λ_=>none) (cellsFrom (s.heap.objs.size+1) scope.names []) (bindC (envOfC qual scope s.heap.objs.size f cd).kindOf (ps.zip us) λ_=>none) s1) :
  Inv (cxOf CX P w K mg base N qual scope f cd A outer s H E) [] (start N vs) H s1:=by
 have hpl:ps.length≤N.length:=by have:=congrArg List.length S.pre; rw [List.length_take] at this; omega
 obtain ⟨h1,tk,rfl,hk⟩:=x.done
 have noA:∀ b:Addr,b ∉ (cxOf CX P w K mg base N qual scope f cd A outer s H E).ex:=λb z=>absurd (show b∈([]:List Addr) from z) (by simp)
 refine ⟨⟨e0.mod,S.kind,rfl,rfl,Nat.le_refl _,λy z c h1 h2=>?_,λy hy=>?_,λy c _ h=>?_,λ_=>hd,Around.frames_deeper e0.frames,.inr ⟨rfl,rfl⟩,λb z=>absurd z (noA b),e0.bs,e0.bsz,λb _ _=>noA b,λb z=>absurd z (noA b),e0.funs,e0.frf⟩,
  rfl,e0.bare,Un.kept hk,⟨_,x.toInCall.ns,λi y v h1 h2 h3=>?_⟩,λy c h=>⟨_,x.cell y c h⟩,e0.hok.fresh (Nat.le_refl _),λy c h=>?_,λp hp=>absurd (show p∈([]:List (Addr × Obj)) from hp) (by simp),e0.hok.kept hk, ?_⟩
 ·exact name_of_addr x.apart (PySem.mem_of_lookup h1) (PySem.mem_of_lookup h2)
 ·have hy:scope.names.lookup y=some .cell∨scope.names.lookup y=some .free:=hy
  rcases hy with hy | hy
  ·exact cell_has hy
  ·exact absurd rfl (S.nofree _ (PySem.mem_of_lookup hy))
 ·exact Nat.le_of_lt (x.above y c (PySem.mem_of_lookup h))
 ·have hi:i<vs.length:=by
   unfold start at h2
   by_cases hi:i<vs.length
   ·exact hi
   ·rw [List.getElem?_append_right (by simpa using hi)] at h2
    rw [List.getElem?_replicate] at h2
    split at h2 <;> cases h2
  have ha:vs[i]?=some v:=by
   unfold start at h2
   rw [List.getElem?_append_left (by simpa using hi),List.getElem?_map] at h2
   cases e:vs[i]? with
   | none=>rw [e] at h2; cases h2
   | some a=>rw [e] at h2; cases h2; rfl
  obtain ⟨u,hu,rv⟩:=r.get ha
  have hp:ps[i]?=some y:=by
   rw [← S.pre,List.getElem?_take_of_lt (by omega)]; exact h1
  have ndP:ps.Nodup:=by rw [← S.pre]; exact S.nd.sublist (List.take_sublist _ _)
  refine ⟨u,rv, ?_⟩
  rcases S.par y (List.mem_of_getElem? hp) with k | k
  ·exact .inl ⟨k,bindL_get ndP hp hu k⟩
  ·obtain ⟨c,e⟩:=cell_has (n:=s.heap.objs.size+1) k
   refine .inr ⟨.inl k,c,e, ?_⟩
   have q:=x.cell y c e
   rw [bindC_get ndP hp hu (by show scope.names.lookup y≠_; rw [k]; decide)] at q
   exact q
 ·exact e0.hok.fresh (Nat.le_of_lt (x.above y c (PySem.mem_of_lookup h)))
 ·unfold start
  show _=N.length
  rw [List.length_append,List.length_map,List.length_replicate]
  omega
theorem fn_of {CX:CXT} {P:Program} {w:World} {K:PySem.W.Frag} {mg:Str→Option Value} {base:Heap} {k:Nat} {f:Addr} {name qual:Str} {params:Arguments} {body:List Stmt} {scope:Scope} {dV kV doc pm cdv ct oc:Value} {an od:Option Addr}
  {osl:Array (Option Value)} {N ps:List Str} {sp:Sp} (lk:K.lookup f=some ⟨oc,od,.func (PySem.W.fnOf name qual params body scope dV kV doc pm an cdv ct),osl⟩) (hcd:PySem.W.codeIn K cdv qual=true) (S:FnScope N ps scope)
  (len:∀ vs H Q E,sp vs H Q E→vs.length=ps.length)
  (hbody:∀ (A:Around) (outer:List Env) (s:Shared) (H:Hp) (vs:List V) (Q:VK) (E:XK),Room k (A.deeper (envOfC qual scope s.heap.objs.size f cdv))→sp vs H Q E →
   ∃ t,PSs (cxOf CX P w K mg base N qual scope f cdv A outer s H E) body t∧t { nx:=λ_ H'=>Q .non H',rt:=Q } (start N vs) H) :
  FnOk P w K mg base CX (k+1) f (PySem.W.fnOf name qual params body scope dV kV doc pm an cdv ct) ps sp:=by
 refine ⟨len,λA outer s H args us vs Q E hr e0 hb r hsp=>?_⟩
 have hl:=len _ _ _ _ hsp
 have KX:K.In s.heap:=e0.mod.kin.keeps λb o e=>(e0.bs b o e).1
 have lim:s.heap.NoLimit:=e0.mod.nolimit.keeps λb o e=>(e0.bs b o e).1
 have hkind:∀ y∈ps.zip us,scope.names.lookup y.1=some .local∨(scope.names.lookup y.1=some .cell∧((cellsFrom (s.heap.objs.size+1) scope.names []).lookup y.1).isSome=true):=λ⟨n,v⟩ hy=>by
  rcases S.par n (List.of_mem_zip hy).1 with q | q
  ·exact .inl q
  ·exact .inr ⟨q,PySem.W.cellsFrom_some _ _ _ (.inl q)⟩
 refine codeAny_call_function hr.depth (KX _ _ lk) rfl S.co S.gen rfl (PySem.W.codeRec_of KX hcd) (hb _ _ _ _ ?_)
 refine wpAny_newFunctionEnv_cells S.kind hkind λenv he s1 x=>?_
 subst he
 refine ⟨lim.keeps x.toInCall.keep,codeAny_func ?_⟩
 obtain ⟨t,ht,hq⟩:=hbody A outer s H vs Q E (hr.deeper _) hsp
 have I:Inv (cxOf CX P w K mg base N qual scope f cdv A outer s H E) [] (start N vs) H s1:=inv_start S hr.hd e0 hl r x
 refine wpAny_mono (ht [] s1 (start N vs) H _ I hq) (λfl s' hs=>?_) λe s' hs=>hs
 have fin:∀ {σ':St} {H':Hp} {v:V} {u:Value},Inv (cxOf CX P w K mg base N qual scope f cdv A outer s H E) [] σ' H' s'→RelV v u→Q v H'→CE outer P w H s Q u s' :=
  λ{σ' H' v u} J rv q=>⟨v,H',J.os,J.bare,J.base,J.hok,rv,q⟩
 cases fl with
 | ret u =>
  obtain ⟨v,σ',H',J,rv,q⟩:=hs
  exact fin J rv q
 | next =>
  obtain ⟨σ',H',J,q⟩:=hs
  exact fin (v:=V.non) (u:=Value.none) J rfl q
 | brk =>
  obtain ⟨_,_,_,q⟩:=hs
  exact False.elim q
 | cont =>
  obtain ⟨_,_,_,q⟩:=hs
  exact False.elim q
section
variable {X:Cx} {x:Str} {p pos:Pos} {e:Expr} {es:List Expr} {t:TA} {id T:String} {r:List V→Hp→VK→Prop}
def tCB (r:List V→Hp→VK→Prop) (t:TA):TE:=λσ H Q=>t σ H λvs H1=>r vs H1 Q
theorem pe_callB (hc:CallR X (.builtin id) r) (hg:Gl X x) (hm:X.mg x=none) (hv:bootBuiltins x=some (.builtin id)) (ha:PA X (e :: es) t) (hn:x≠"__name__":=by decide) (hdb:(x == ("__debug__":Str))=false:=by decide)
  (he:starEach (e :: es) X.env=(false,eval e X.env) :: starEach es X.env:=by rfl) (hpl:(backTo pos (starEach es X.env)).any (·.1)=false:=by rfl):PE X (.Call (.Name x p) (e :: es) [] pos) (tCB r t):=by
 intro pins s σ H Q I h
 refine wpAny_Call_Name_kw (ld_blt I hg hm hv ?_ hn hdb)
 exact PyProof.Rows.callWith_builtin1 (thn (ha pos pins s σ H _ I h) λus s1 ⟨vs,H1,I1,r1,q1⟩=>hc pins s1 σ H1 vs us Q I1 r1 q1) he hpl
theorem pe_callTy (hc:CallR X (.type T) r) (hg:Gl X x) (hm:X.mg x=none) (hv:bootBuiltins x=some (.type T)) (ha:PA X (e :: es) t) (hn:x≠"__name__":=by decide) (hdb:(x == ("__debug__":Str))=false:=by decide)
  (he:starEach (e :: es) X.env=(false,eval e X.env) :: starEach es X.env:=by rfl) (hpl:(backTo pos (starEach es X.env)).any (·.1)=false:=by rfl):PE X (.Call (.Name x p) (e :: es) [] pos) (tCB r t):=by
 intro pins s σ H Q I h
 refine wpAny_Call_Name_kw (ld_blt I hg hm hv ?_ hn hdb)
 exact PyProof.Rows.callWith_type1 (thn (ha pos pins s σ H _ I h) λus s1 ⟨vs,H1,I1,r1,q1⟩=>hc pins s1 σ H1 vs us Q I1 r1 q1) he hpl
end
end L2
namespace HT
open PySem PyProof.Rows
section
open PySem.SeqAt
open PySem.AutoSeq1 (wpAny_loadPart')
open PySem.MeetsSeq PySem.MeetsSeq2 PySem.MeetsSeq3
end
section
variable {prog:Program} {w:World} {A:Around} {E:Value→Shared→Prop} {s:Shared}
theorem cat_tup {t b:Addr} {vs ws:List Value} {Q:Value→Shared→Prop} (ht:IsTup s.heap t vs.toArray) (hb:IsTup s.heap b ws.toArray) (hv:vs≠[])
  (h1:ws=[]→Q (.ref t) s) (h2:ws≠[]→Q (.ref s.heap.objs.size) { s with heap:=s.heap.push { cls:=.type "tuple",data:=.seq (vs ++ ws).toArray } })
  (hsz:vs.length+ws.length≤sizeLine):wpAny (model prog w) A (binaryOp .Add (.ref t) (.ref b)) Q E s:=by
 obtain ⟨⟨cls,dd,data,sl⟩,ho,hc,n,hd⟩:=id ht
 obtain ⟨⟨cls2,dd2,data2,sl2⟩,ho2,hc2,n2,hd2⟩:=id hb
 simp only at hc hd hc2 hd2
 subst hc hd hc2 hd2
 have e:vs.toArray ++ ws.toArray=(vs ++ ws).toArray:=by simp
 by_cases hw:ws=[]
 ·exact concat_meets ⟨_,ho,rfl⟩ ⟨_,ho2,rfl⟩ noFill_tuple_add seq_tuple_add PySem.F.slot_tuple_add PySem.F.entry_tuple_add (PySem.F.args_tuple_add_2 _ _)
   (tuple_addW1 t b vs.toArray ws.toArray n n2 dd dd2 sl sl2 (by simpa using hv) (by simp [hw])) ⟨ho,ho2,h1 hw⟩
 ·refine concat_meets ⟨_,ho,rfl⟩ ⟨_,ho2,rfl⟩ noFill_tuple_add seq_tuple_add PySem.F.slot_tuple_add PySem.F.entry_tuple_add (PySem.F.args_tuple_add_2 _ _)
   (tuple_addW2 t b vs.toArray ws.toArray n n2 dd dd2 sl sl2 (by simpa using hv) (by simpa using hw) (by rw [List.size_toArray,List.size_toArray]; exact hsz)) ⟨ho,ho2, ?_⟩
  rw [e]
  exact h2 hw
noncomputable def sIx (n d:Nat):Option Int→Nat
 | none=>d
 | some v=>if v<0 then (v+(n:Int)).toNat else min v.toNat n
theorem sIx_none (n d:Nat):sIx n d none=d:=rfl
theorem sIx_nat (n d k:Nat):sIx n d (some (k:Int))=min k n:=by
 show (if (k:Int)<0 then ((k:Int)+(n:Int)).toNat else min (k:Int).toNat n)=min k n
 rw [if_neg (by omega),Int.toNat_natCast]
theorem sIx_le (n d:Nat) (hd:d≤n) (o:Option Int):sIx n d o≤n:=by
 cases o with
 | none=>exact hd
 | some v =>
  show (if v<0 then (v+(n:Int)).toNat else min v.toNat n)≤n
  by_cases hv:v<0
  ·rw [if_pos hv]; omega
  ·rw [if_neg hv]; exact Nat.min_le_right _ _
theorem clip_eq (v:Int) (n d:Nat):(if v<0 then max (v+(n:Int)) 0 else min v (n:Int))=((sIx n d (some v):Nat):Int):=by
 show (if v<0 then max (v+(n:Int)) 0 else min v (n:Int))=(((if v<0 then (v+(n:Int)).toNat else min v.toNat n):Nat):Int)
 by_cases hv:v<0
 ·simp only [if_pos hv]; omega
 ·simp only [if_neg hv]; omega
theorem adjust_gen (lo hi:Option Int) (n:Nat):Builtin.Slice.sliceAdjust lo hi 1 (n:Int)=(((sIx n 0 lo:Nat):Int),((sIx n n hi:Nat):Int)):=by
 have h1:¬ ((1:Int)<0):=by omega
 unfold Builtin.Slice.sliceAdjust
 simp only [h1,if_false]
 refine Prod.ext ?_ ?_
 ·cases lo with
  | none=>rfl
  | some v=>exact clip_eq v n 0
 ·cases hi with
  | none=>rfl
  | some v=>exact clip_eq v n n
theorem places_gen (i j:Nat):Builtin.Slice.slicePlaces (i:Int) (j:Int) 1=j - i:=by
 unfold Builtin.Slice.slicePlaces
 have h1:(1:Int) > 0:=by omega
 simp only [h1,if_true,Int.ediv_one]
 split <;> omega
theorem slicePart_ {v:Value} {o:Option Int} {Q:Option Int→Shared→Prop} (p:IsPart v o) (h:Q o s):wpAny (model prog w) A (Builtin.Slice.slicePartIndex v) Q E s:=by
 cases p with
 | none=>exact slicePart_none h
 | int i t=>exact slicePart_int h
theorem sliceApplied_gen {sl:Addr} {vl vu:Value} {lo hi:Option Int} {n:Nat} {Q:Int × Int × Nat→Shared→Prop} (hs:s.heap.IsSliceOf sl vl vu .none) (pl:IsPart vl lo) (pu:IsPart vu hi)
  (h:Q (((sIx n 0 lo:Nat):Int),1,sIx n n hi - sIx n 0 lo) s):wpAny (model prog w) A (Builtin.Slice.sliceApplied (.ref sl) (pure (n:Int))) Q E s:=by
 obtain ⟨os,hos,hcs,hds⟩:=id hs
 unfold Builtin.Slice.sliceApplied Builtin.Slice.sliceFields
 refine wpAny_bind (wpAny_bind (wpAny_field hos hds (x:=vl) rfl (wpAny_bind (wpAny_field hos hds (x:=vu) rfl (wpAny_bind (wpAny_field hos hds (x:=.none) rfl (wpAny_pure ?_)))))))
 refine wpAny_bind (slicePart_none ?_)
 show wpAny _ _ (if ((1:Int) == 0)=true then _ else _) _ _ s
 rw [if_neg (by decide)]
 refine wpAny_bind (slicePart_ pl (wpAny_bind (slicePart_ pu (wpAny_bind (wpAny_pure ?_)))))
 show wpAny _ _ (match Builtin.Slice.sliceAdjust lo hi 1 (n:Int) with | (lo,hi)=>pure (lo,(1:Int),Builtin.Slice.slicePlaces lo hi 1)) _ _ s
 rw [adjust_gen lo hi n]
 show wpAny _ _ (pure (((sIx n 0 lo:Nat):Int),(1:Int),Builtin.Slice.slicePlaces ((sIx n 0 lo:Nat):Int) ((sIx n n hi:Nat):Int) 1)) _ _ s
 rw [places_gen]
 exact wpAny_pure h
theorem pick_gen (xs:Array Value) (i k:Nat):((List.range k).filterMap λ(m:Nat)=>xs[((i:Int)+(m:Int)*1).toNat]?).toArray=((xs.toList.drop i).take k).toArray:=by
 have e:(λ(m:Nat)=>xs[((i:Int)+(m:Int)*1).toNat]?)=λm=>xs[i+m]?:=by
  funext m
  have:((i:Int)+(m:Int)*1).toNat=i+m:=by omega
  rw [this]
 rw [e]
 have:=pick_run xs i k
 rw [List.filterMap_map] at this
 have e2:((λx=>xs[x]?) ∘ λx=>i+x)=λm=>xs[i+m]?:=rfl
 rw [e2] at this
 rw [this]
theorem getItem_tuple_cut {t sl:Addr} {items:Array Value} {vl vu:Value} {lo hi:Option Int} {Q:Value→Shared→Prop} (ht:IsTup s.heap t items) (hs:s.heap.IsSliceOf sl vl vu .none) (pl:IsPart vl lo) (pu:IsPart vu hi)
  (hw:¬ (sIx items.size 0 lo=0∧sIx items.size items.size hi=items.size))
  (h:Q (.ref s.heap.objs.size) { s with heap:=s.heap.push { cls:=.type "tuple",data:=.seq ((items.toList.drop (sIx items.size 0 lo)).take (sIx items.size items.size hi - sIx items.size 0 lo)).toArray } })
  (hsz:items.size≤sizeLine):wpAny (model prog w) A (getItem (.ref t) (.ref sl)) Q E s:=by
 have htake:sizeOk (.seq ((items.toList.drop (sIx items.size 0 lo)).take (sIx items.size items.size hi - sIx items.size 0 lo)).toArray):=by
  show ((items.toList.drop (sIx items.size 0 lo)).take (sIx items.size items.size hi - sIx items.size 0 lo)).toArray.size≤sizeLine
  rw [List.size_toArray,List.length_take,List.length_drop,Array.length_toList]
  omega
 have hj:sIx items.size items.size hi≤items.size:=sIx_le _ _ (Nat.le_refl _) hi
 obtain ⟨os,hos,hcs,hds⟩:=id hs
 have hTs:s.TypeIs (.ref sl) "slice":=⟨os,hos,hcs⟩
 unfold getItem
 try with_reducible refine wpAny_holding ?_
 first | refine wpAny_bind (wpAny_pure ?_) | skip
 refine wpAny_bind (wpAny_sequenceKey ht.typeIs (by decide) ?_)
 refine wpAny_bind (wpAny_callSpecial?_slot (name:=Str.ofString "__getitem__") ht.typeIs PyProof.Rows.slot_tuple_getitem
  (wpAny_call_entry PyProof.Rows.slot_tuple_getitem ht.typeIs entry_tuple_getitem ?_ (args_tuple_getitem _ _)))
 show wpAny _ _ (Builtin.Tuple.tupleItemsOf (.ref t) >>= _) _ _ s
 refine wpAny_bind (tupleItemsOf_ ht ?_)
 refine wpAny_bind (wpAny_typeOf hTs ?_)
 rw [if_pos (by decide)]
 refine wpAny_bind (sliceApplied_gen hs pl pu ?_)
 have hno:¬ ((((sIx items.size 0 lo:Nat):Int) == 0 && (1:Int) == 1 && (sIx items.size items.size hi - sIx items.size 0 lo) == items.size)=true):=by
  intro q
  rw [Bool.and_eq_true,Bool.and_eq_true] at q
  have q1:((sIx items.size 0 lo:Nat):Int)=0:=eq_of_beq q.1.1
  have q2:sIx items.size items.size hi - sIx items.size 0 lo=items.size:=eq_of_beq q.2
  exact hw ⟨by omega,by omega⟩
 show wpAny _ _ (if (((sIx items.size 0 lo:Nat):Int) == 0 && (1:Int) == 1 && (sIx items.size items.size hi - sIx items.size 0 lo) == items.size)=true then _ else _) _ _ s
 rw [if_neg hno,pick_gen]
 first
  | exact wpAny_bind (m:=Builtin.Tuple.tupleExact _) (wpAny_newObj_type (wpAny_pure ⟨_,rfl,wpAny_pure h⟩) htake)
  | exact wpAny_bind (m:=Builtin.Tuple.tupleExact _) (wpAny_newObj_type (wpAny_bind (wpAny_pure (wpAny_pure ⟨_,rfl,wpAny_pure h⟩))) htake)
  | exact wpAny_bind (wpAny_bind (m:=Builtin.Tuple.tupleExact _) (wpAny_newObj_type (wpAny_pure (wpAny_pure ⟨_,rfl,wpAny_pure h⟩)) htake))
  | exact wpAny_bind (wpAny_bind (m:=Builtin.Tuple.tupleExact _) (wpAny_newObj_type (wpAny_pure ⟨_,rfl,wpAny_pure h⟩) htake))
end
end HT
namespace L2
open PySem PySem.Spec PyProof.Rows
abbrev TO:=St→Hp→(Option Int→Hp→Prop)→Prop
def PO (X:Cx) (e:Option Expr) (t:TO):Prop :=
 ∀ (pins:List (Addr × Obj)) (s:Shared) (σ:St) (H:Hp) (Q:Option Int→Hp→Prop),Inv X pins σ H s→t σ H Q →
  wpAny (model X.prog X.w) X.A (evalPart e X.env) (λu s'=>∃ o H',Inv X pins σ H' s'∧IsPart u o∧Q o H') X.xe s
def tNoPart:TO:=λ_ H Q=>Q none H
def tPart (t:TE):TO:=λσ H Q=>t σ H λx H1=>∃ i,x=.int i∧Q (some i) H1
section
variable {X:Cx} {e:Expr} {te:TE} {lo hi:Option Expr} {tl th:TO} {pos p2:Pos}
theorem po_none:PO X none tNoPart:=by
 intro pins s σ H Q I h
 rw [evalPart_none]
 exact wpAny_pure ⟨none,H,I,.none,h⟩
theorem po_some (h:PE X e te):PO X (some e) (tPart te):=by
 intro pins s σ H Q I hw
 rw [evalPart_some]
 refine thn (h pins s σ H _ I hw) λu s1 ⟨x,H1,I1,r1,q1⟩=>?_
 obtain ⟨i,rfl,q⟩:=q1
 obtain ⟨t,rfl⟩:=r1
 exact ⟨some i,H1,I1,.int i t,q⟩
def SlR (X:Cx) (r:V→Option Int→Option Int→Hp→VK→Prop):Prop :=
 ∀ (pins:List (Addr × Obj)) (s:Shared) (σ:St) (H:Hp) (x:V) (v vl vu:Value) (lo hi:Option Int) (sl:Addr) (Q:VK),Inv X pins σ H s→RelV x v→s.heap.IsSliceOf sl vl vu .none→IsPart vl lo→IsPart vu hi→r x lo hi H Q →
  ∃ T id,typeLookup (.type T) "__getitem__"=pure (some (.builtin id))∧s.TypeIs v T∧wpAny (model X.prog X.w) X.A (getItem v (.ref sl)) (EP X pins σ Q) X.xe s
theorem SlR.or {r r':V→Option Int→Option Int→Hp→VK→Prop} (h:SlR X r) (h':SlR X r'):SlR X (λx lo hi H Q=>r x lo hi H Q∨r' x lo hi H Q):=by
 intro pins s σ H x v vl vu lo hi sl Q I rx hs pl pu q
 rcases q with q | q
 ·exact h pins s σ H x v vl vu lo hi sl Q I rx hs pl pu q
 ·exact h' pins s σ H x v vl vu lo hi sl Q I rx hs pl pu q
noncomputable def tSl (r:V→Option Int→Option Int→Hp→VK→Prop) (te:TE) (tl th:TO):TE:=λσ H Q=>te σ H λx H1=>tl σ H1 λl H2=>th σ H2 λu H3=>r x l u H3 Q
theorem pe_slice {r:V→Option Int→Option Int→Hp→VK→Prop} (hr:SlR X r) (he:PE X e te) (hl:PO X lo tl) (hu:PO X hi th):PE X (.Subscript e (.Slice lo hi none p2) pos) (tSl r te tl th):=by
 intro pins s σ H Q I h
 refine Subscript_ (thn (he pins s σ H _ I h) λv s1 ⟨x,H1,I1,r1,q1⟩=>?_)
 refine wpAny_Slice (thn (hl pins s1 σ H1 _ I1 q1) λvl s2 ⟨l,H2,I2,pl,q2⟩=>thn (hu pins s2 σ H2 _ I2 q2) λvu s3 ⟨u,H3,I3,pu,q3⟩=>?_)
 rw [evalPart_none]
 refine wpAny_pure ?_
 have I4:Inv X pins σ H3 { s3 with heap:=s3.heap.push { cls:=.type "slice",data:=.fields #[vl,vu,.none] } }:=I3.kept (t':=s3.toks) λb ob q=>Heap.get?_push_of_some _ q
 obtain ⟨T,id,hT,ht,hg⟩:=hr pins { s3 with heap:=s3.heap.push { cls:=.type "slice",data:=.fields #[vl,vu,.none] } } σ H3 x v vl vu l u s3.heap.objs.size Q I4 r1 (Heap.IsSliceOf.new ..) pl pu q3
 show wpAny (model X.prog X.w) X.A (subscriptTail e (.Slice lo hi none p2) v (.ref s3.heap.objs.size)) (EP X pins σ Q) X.xe { s3 with heap:=s3.heap.push { cls:=.type "slice",data:=.fields #[vl,vu,.none] } }
 exact tail_any (ops:=[.ref s3.heap.objs.size,v]) ht hT hg (by with_unfolding_all rfl)
noncomputable def cutV (xs:List V) (lo hi:Option Int):List V:=(xs.drop (HT.sIx xs.length 0 lo)).take (HT.sIx xs.length xs.length hi - HT.sIx xs.length 0 lo)
theorem cutV_length (xs:List V) (lo hi:Option Int):(cutV xs lo hi).length≤xs.length:=by
 unfold cutV
 rw [List.length_take,List.length_drop]
 omega
def rSlT (K:PySem.W.Frag):V→Option Int→Option Int→Hp→VK→Prop:=λx lo hi H Q=>∃ a xs,x=.ref a∧SqT K H a xs ∧
 ¬ (HT.sIx xs.length 0 lo=0∧HT.sIx xs.length xs.length hi=xs.length)∧∀ p,H p=none→Q (.ref p) (upd H p (.tup (cutV xs lo hi)))
theorem sl_tup:SlR X (rSlT X.K):=by
 intro pins s σ H x v vl vu lo hi sl Q I rx hs pl pu h
 obtain ⟨a,xs,rfl,hx,hw,q⟩:=h
 cases rx
 obtain ⟨its,r,ht,hz⟩:=I.tuple hx
 have hlen:its.toArray.size=xs.length:=by rw [List.size_toArray]; exact r.length.symm
 refine ⟨"tuple",_,PyProof.Rows.slot_tuple_getitem.lookup,ht.typeIs, ?_⟩
 refine HT.getItem_tuple_cut ht hs pl pu (by rw [hlen]; exact hw) ?_ (by rw [hlen]; exact hz)
 rw [hlen]
 refine ⟨.ref s.heap.objs.size,_,I.laid (t':=s.toks) (o:=.tup (cutV xs lo hi)) (λb ob q=>Heap.get?_push_of_some _ q) (Nat.le_refl _) ?_,rfl,q _ (I.hok.fresh (Nat.le_refl _))⟩
 exact ⟨Nat.le_trans (cutV_length xs lo hi) hz,_,(r.drop (HT.sIx xs.length 0 lo)).take (HT.sIx xs.length xs.length hi - HT.sIx xs.length 0 lo),IsTup.new _ _⟩
noncomputable def rCatT (K:PySem.W.Frag):R2:=λx y H Q=>∃ a b xs ys,x=.ref a∧y=.ref b∧SqT K H a xs∧SqT K H b ys∧xs≠[]∧xs.length+ys.length≤sizeLine ∧
 (ys=[]→Q (.ref a) H)∧(ys≠[]→∀ p,H p=none→Q (.ref p) (upd H p (.tup (xs ++ ys))))
theorem Vals.nil_iff {xs:List V} {us:List Value} (r:Vals xs us):us=[]↔xs=[]:=by
 cases r with
 | nil=>simp
 | cons _ _=>simp
theorem op_catT:OpR X (binaryOp .Add) (rCatT X.K):=by
 intro pins s σ H x y v u Q I rx ry h
 obtain ⟨a,b,xs,ys,rfl,rfl,ha,hb,hx,hz,q1,q2⟩:=h
 cases rx
 cases ry
 obtain ⟨its,r1,p1,_⟩:=I.tuple ha
 obtain ⟨its2,r2,p2,_⟩:=I.tuple hb
 refine HT.cat_tup p1 p2 (λz=>hx (r1.nil_iff.mp z)) (λz=>⟨.ref a,H,I,rfl,q1 (r2.nil_iff.mp z)⟩) (λz=>?_) (by rw [← r1.length,← r2.length]; exact hz)
 refine ⟨.ref s.heap.objs.size,_,I.laid (t':=s.toks) (o:=.tup (xs ++ ys)) (λb ob q=>Heap.get?_push_of_some _ q) (Nat.le_refl _) ?_,rfl,q2 (λw=>z (r2.nil_iff.mpr w)) _ (I.hok.fresh (Nat.le_refl _))⟩
 exact ⟨by rw [List.length_append]; exact hz,_,r1.append r2,IsTup.new _ _⟩
end
noncomputable def ixN (n:Nat) (i:Int):Option Nat:=if 0≤i then (if i<n then some i.toNat else none) else if -(n:Int)≤i then some (i+n).toNat else none
def atI {α:Type} (xs:List α) (i:Int):Option α:=(ixN xs.length i).bind λj=>xs[j]?
theorem ixN_seq {n:Nat} {i:Int} {j:Nat} (h:ixN n i=some j):seqIndex? i n=some j∧j<n∧-(n:Int)≤i∧i<n:=by
 unfold ixN at h
 by_cases h0:0≤i
 ·rw [if_pos h0] at h
  by_cases h1:i<n
  ·rw [if_pos h1] at h
   have e:i.toNat=j:=Option.some.inj h
   exact ⟨by rw [seqIndex_of h0 h1,e],by omega,by omega,h1⟩
  ·rw [if_neg h1] at h; cases h
 ·rw [if_neg h0] at h
  by_cases h1:-(n:Int)≤i
  ·rw [if_pos h1] at h
   have e:(i+n).toNat=j:=Option.some.inj h
   exact ⟨by rw [seqIndex_neg (by omega) h1,e],by omega,h1,by omega⟩
  ·rw [if_neg h1] at h; cases h
theorem atI_get {α:Type} {xs:List α} {i:Int} {v:α} (h:atI xs i=some v):∃ j,seqIndex? i xs.length=some j∧xs[j]?=some v∧j<xs.length∧-(xs.length:Int)≤i∧i<xs.length:=by
 unfold atI at h
 cases e:ixN xs.length i with
 | none=>rw [e] at h; cases h
 | some j =>
  rw [e] at h
  obtain ⟨h1,h2,h3,h4⟩:=ixN_seq e
  exact ⟨j,h1,h,h2,h3,h4⟩
theorem atI_nat {α:Type} {xs:List α} {j:Nat} {v:α} (h:xs[j]?=some v):atI xs (j:Int)=some v:=by
 have hj:j<xs.length:=(List.getElem?_eq_some_iff.mp h).1
 have e:ixN xs.length (j:Int)=some j:=by
  unfold ixN
  rw [if_pos (by omega),if_pos (by omega)]; simp
 unfold atI; rw [e]; exact h
def PlainIx (b:Expr):Prop:=∀ o i,subscripted b false o i=operate [o,i] (getItem o i)
def IxR (X:Cx) (r:R2):Prop :=
 ∀ (value slice:Expr) (pins:List (Addr × Obj)) (s:Shared) (σ:St) (H:Hp) (x y:V) (v u:Value) (Q:VK),Inv X pins σ H s→RelV x v→RelV y u→r x y H Q →
  subscripted slice false v u=operate [v,u] (getItem v u)→wpAny (model X.prog X.w) X.A (subscriptTail value slice v u) (EP X pins σ Q) X.xe s
def MtR (X:Cx) (id:String) (r:V→List V→Hp→VK→Prop):Prop :=
 ∀ (pins:List (Addr × Obj)) (s:Shared) (σ:St) (H:Hp) (x:V) (xs:List V) (v:Value) (us:List Value) (Q:VK),Inv X pins σ H s→RelV x v→Vals xs us→r x xs H Q →
  wpAny (model X.prog X.w) X.A (call (.builtin id) (v :: us)) (EP X pins σ Q) X.xe s
section
variable {X:Cx} {a b:Expr} {ta tb:TE} {pos:Pos}
theorem IxR.or {r r':R2} (h:IxR X r) (h':IxR X r'):IxR X (λx y H Q=>r x y H Q∨r' x y H Q):=by
 intro value slice pins s σ H x y v u Q I rx ry q hs
 rcases q with q | q
 ·exact h value slice pins s σ H x y v u Q I rx ry q hs
 ·exact h' value slice pins s σ H x y v u Q I rx ry q hs
theorem pe_ix {r:R2} (hr:IxR X r) (ha:PE X a ta) (hb:PE X b tb) (hs:PlainIx b):PE X (.Subscript a b pos) (tOp r ta tb):=by
 intro pins s σ H Q I h
 exact Subscript_ (binT ha hb I h λv u s2 x y H2 I2 rx ry q=>hr a b pins s2 σ H2 x y v u Q I2 rx ry q (hs _ _))
noncomputable def rIxL (K:PySem.W.Frag):R2:=λx y H Q=>∃ p xs i v,x=.ref p∧y=.int i∧SqL K H p xs∧atI xs i=some v∧Q v H
noncomputable def rIxT (K:PySem.W.Frag):R2:=λx y H Q=>∃ p xs i v,x=.ref p∧y=.int i∧SqT K H p xs∧atI xs i=some v∧Q v H
noncomputable def rIxS:R2:=λx y H Q=>∃ z i c,x=.str z∧y=.int i∧z.length≤sizeLine∧atI z.cps.toList i=some c∧Q (.str ⟨#[c]⟩) H
theorem ix_list:IxR X (rIxL X.K):=by
 intro value slice pins s σ H x y v u Q I rx ry h hs
 obtain ⟨p,xs,i,z,rfl,rfl,hq,he,q⟩:=h
 cases rx
 obtain ⟨t,rfl⟩:=ry
 obtain ⟨its,r,pl,hz⟩:=I.list hq
 obtain ⟨j,h1,h2,h3,h4,h5⟩:=atI_get he
 obtain ⟨w,ew,rw'⟩:=r.get h2
 have hl:=r.length
 have hn:=line63
 have fin:EP X pins σ Q w s:=⟨z,H,I,rw',q⟩
 by_cases h0:0≤i
 ·have hj:i.toNat=j:=by
   rw [seqIndex_of h0 h5] at h1
   exact Option.some.inj h1
  exact item_listR pl.isList h0 (by omega) (by rw [hj]; simpa using ew) fin hs
 ·have hj:(i+(its.toArray.size:Int)).toNat=j:=by
   rw [seqIndex_neg (by omega) h4] at h1
   rw [List.size_toArray,← hl]
   exact Option.some.inj h1
  exact subscriptTail_builtinR (x:=w) pl.isList.typeIs slot_list_getitem.lookup
   (wpAny_getItem_list_neg (Q:=λr s'=>r=w∧EP X pins σ Q r s') pl.isList (by omega) (by rw [List.size_toArray] <;> omega) (by omega) (by rw [hj]; simpa using ew) ⟨rfl,fin⟩) hs
theorem ix_tup:IxR X (rIxT X.K):=by
 intro value slice pins s σ H x y v u Q I rx ry h hs
 obtain ⟨p,xs,i,z,rfl,rfl,hq,he,q⟩:=h
 cases rx
 obtain ⟨t,rfl⟩:=ry
 obtain ⟨its,r,pl,hz⟩:=I.tuple hq
 obtain ⟨j,h1,h2,h3,h4,h5⟩:=atI_get he
 obtain ⟨w,ew,rw'⟩:=r.get h2
 have hl:=r.length
 have hn:=line63
 have fin:EP X pins σ Q w s:=⟨z,H,I,rw',q⟩
 exact subscriptTail_builtinR (x:=w) pl.typeIs slot_tuple_getitem.lookup
  (getItem_tuple (j:=j) (Q:=λr s'=>r=w∧EP X pins σ Q r s') pl (by omega) (by omega) (by rw [List.size_toArray,← hl]; exact h1) (by simpa using ew) ⟨rfl,fin⟩) hs
theorem ix_str:IxR X rIxS:=by
 intro value slice pins s σ H x y v u Q I rx ry h hs
 obtain ⟨z,i,c,rfl,rfl,hz,he,q⟩:=h
 obtain ⟨t,rfl⟩:=rx
 obtain ⟨t',rfl⟩:=ry
 obtain ⟨j,h1,h2,h3,h4,h5⟩:=atI_get he
 have hl:z.cps.toList.length=z.length:=by simp [Str.length]
 rw [hl] at h1 h4 h5
 have hn:=line63
 exact tail_any (typeIs_str s z t) slot_str_getitem.lookup (getItem_str (c:=c) (by
  have e1:decide (i < -(2 ^ 63:Int))=false:=decide_eq_false (by omega)
  have e2:decide (i ≥ 2 ^ 63)=false:=decide_eq_false (by omega)
  rw [e1,e2,Bool.or_false]) (by rw [h1]; simpa using h2) ⟨.str ⟨#[c]⟩,H,I.tok _,⟨_,rfl⟩,q⟩) hs
def rIx (K:PySem.W.Frag):R2:=λx y H Q=>rIxL K x y H Q∨rIxT K x y H Q∨rIxS x y H Q
theorem ix_seq:IxR X (rIx X.K):=ix_list.or (ix_tup.or ix_str)
theorem mapSeq_set (its:List Value) (n j:Nat) (u:Value):Obj.mapSeq (·.setIfInBounds j u) { cls:=.type "list",data:=.seq its.toArray n }={ cls:=.type "list",data:=.seq (its.set j u).toArray n }:=by
 simp [Obj.mapSeq]
theorem Inv.lst {pins:List (Addr × Obj)} {σ:St} {H:Hp} {s:Shared} {p:Addr} {xs:List V} (I:Inv X pins σ H s) (h:H p=some (.lst xs)) :
  ∃ (its:List Value) (n:Nat),Vals xs its∧s.heap.get? p=some { cls:=.type "list",data:=.seq its.toArray n }∧xs.length≤sizeLine:=by
 obtain ⟨z,its,n,r,e⟩:=I.hok p _ h
 exact ⟨its,n,r,e,z⟩
theorem Inv.lstUpd {pins:List (Addr × Obj)} {σ:St} {H:Hp} {s:Shared} {p:Addr} {xs ys:List V} {its its':List Value} {n n':Nat} {f:Obj→Obj} (I:Inv X pins σ H s) (h:H p=some (.lst xs))
  (ho:s.heap.get? p=some { cls:=.type "list",data:=.seq its.toArray n }) (hf:f { cls:=.type "list",data:=.seq its.toArray n }={ cls:=.type "list",data:=.seq its'.toArray n' }) (r:Vals ys its') (hz:ys.length≤sizeLine) (t:Nat) :
  Inv X pins σ (upd H p (.lst ys)) { s with heap:=s.heap.update p f,toks:=t }:=by
 have e:(s.heap.update p f).get? p=some { cls:=.type "list",data:=.seq its'.toArray n' }:=by
  rw [Heap.get?_update_self f ho (by rw [hf] <;> rfl),hf]
 refine I.write (x:=p) (e:=p) (by rw [h]; trivial) (.inl rfl) (λb u hb q=>(Heap.get?_update_other _ _ (Ne.symm hb)).trans q) ⟨_,e⟩ ?_
 exact ⟨hz,its',n',r,e⟩
def rSetL:V→V→V→Hp→(Hp→Prop)→Prop:=λo i v H Q=>∃ p xs k j,o=.ref p∧i=.int k∧H p=some (.lst xs)∧ixN xs.length k=some j∧Q (upd H p (.lst (xs.set j v)))
theorem set_list:PSet X rSetL:=by
 intro pins s σ H o i v ov iv u Q I ro ri rv h
 obtain ⟨p,xs,k,j,rfl,rfl,hp,hj,q⟩:=h
 cases ro
 obtain ⟨t,rfl⟩:=ri
 obtain ⟨its,n,r,ho,hz⟩:=I.lst hp
 obtain ⟨h1,h2,h3,h4⟩:=ixN_seq hj
 have hl:=r.length
 have hn:=line63
 have I':Inv X pins σ (upd H p (.lst (xs.set j v))) { s with heap:=s.heap.update p (Obj.mapSeq (·.setIfInBounds j u)) } :=
  I.lstUpd hp ho (mapSeq_set its n j u) (r.set rv j) (by rw [List.length_set]; exact hz) s.toks
 by_cases h0:0≤k
 ·have hk:k.toNat=j:=by
   rw [seqIndex_of h0 h4] at h1
   exact Option.some.inj h1
  exact PySem.W.ki_setAt ho h0 (by omega) (by rw [List.size_toArray,← hl]; exact h4) (by rw [hk]; exact ⟨_,I',q⟩)
 ·have hk:(k+(its.toArray.size:Int)).toNat=j:=by
   rw [seqIndex_neg (by omega) h3] at h1
   rw [List.size_toArray,← hl]
   exact Option.some.inj h1
  exact PySem.W.ki_setBack ho (by omega) (by rw [List.size_toArray,← hl]; exact h3) (by omega) (by rw [hk]; exact ⟨_,I',q⟩)
theorem slice_bounds (lo hi:Option Int) (n:Nat):(sliceBounds lo hi none n).1=((HT.sIx n 0 lo:Nat):Int)∧(sliceBounds lo hi none n).2.1=((HT.sIx n n hi:Nat):Int)∧(sliceBounds lo hi none n).2.2=1:=by
 refine ⟨?_, ?_,rfl⟩
 ·cases lo with
  | none=>simp [sliceBounds,HT.sIx]
  | some i =>
   simp only [sliceBounds,HT.sIx,Option.getD_none,show (1:Int) > 0 by decide,if_true]
   by_cases h:i<0
   ·simp only [h,if_true] <;> omega
   ·simp only [h,if_false] <;> omega
 ·cases hi with
  | none=>simp [sliceBounds,HT.sIx]
  | some i =>
   simp only [sliceBounds,HT.sIx,Option.getD_none,show (1:Int) > 0 by decide,if_true]
   by_cases h:i<0
   ·simp only [h,if_true] <;> omega
   ·simp only [h,if_false] <;> omega
theorem slicePick_cut (its:List Value) (lo hi:Option Int):slicePick its.toArray lo hi none=((its.drop (HT.sIx its.length 0 lo)).take (HT.sIx its.length its.length hi - HT.sIx its.length 0 lo)).toArray:=by
 obtain ⟨h1,h2,h3⟩:=slice_bounds lo hi its.toArray.size
 unfold slicePick
 rw [h1,h2,h3]
 simp only [sliceRange_one,pick_run,List.size_toArray] <;> rfl
def rSlL (K:PySem.W.Frag):V→Option Int→Option Int→Hp→VK→Prop:=λx lo hi H Q=>∃ a xs,x=.ref a∧SqL K H a xs∧∀ p,H p=none→Q (.ref p) (upd H p (.lst (cutV xs lo hi)))
theorem sl_list:SlR X (rSlL X.K):=by
 intro pins s σ H x v vl vu lo hi sl Q I rx hs pl pu h
 obtain ⟨a,xs,rfl,hx,q⟩:=h
 cases rx
 obtain ⟨its,r,ht,hz⟩:=I.list hx
 have hlen:=r.length
 refine ⟨"list",_,slot_list_getitem.lookup,ht.isList.typeIs, ?_⟩
 refine wpAny_getItem_list_slice ht.isList hs pl pu .none (by simp) ?_ (by rw [List.size_toArray] <;> omega)
 rw [slicePick_cut,← hlen]
 refine ⟨.ref s.heap.objs.size,_,I.laid (t':=s.toks) (o:=.lst (cutV xs lo hi)) (λb ob q=>Heap.get?_push_of_some _ q) (Nat.le_refl _) ?_,rfl,q _ (I.hok.fresh (Nat.le_refl _))⟩
 exact ⟨Nat.le_trans (cutV_length xs lo hi) hz,_,0,(r.drop (HT.sIx xs.length 0 lo)).take (HT.sIx xs.length xs.length hi - HT.sIx xs.length 0 lo),Heap.get?_push_size _ rfl⟩
def flatV:V→Bool
 | .non=>true
 | .bl _=>true
 | .int _=>true
 | .str _=>true
 | _=>false
noncomputable def eqV:V→V→Bool
 | .non,.non=>true
 | .bl a,.bl b=>a == b
 | .bl a,.int b=>(if a then 1 else 0) == b
 | .int a,.bl b=>a == (if b then 1 else 0)
 | .int a,.int b=>a == b
 | .str a,.str b=>a == b
 | _,_=>false
theorem eqAt_V {A:Around} {s:Shared} {y x:V} {u v:Value} (ry:RelV y u) (rx:RelV x v) (fy:flatV y=true) (fx:flatV x=true):SeqAt.EqAt A s u v (eqV y x):=by
 cases y with
 | non =>
  cases ry
  cases x with
  | non=>cases rx; exact SeqAt.EqAt.same _
  | bl b=>cases rx; exact SeqAt.EqAt.none_bool b
  | int b=>obtain ⟨t,rfl⟩:=rx; exact SeqAt.EqAt.none_int b t
  | str b=>obtain ⟨t,rfl⟩:=rx; exact SeqAt.EqAt.none_str b t
  | _=>exact absurd (show false=true from fx) Bool.false_ne_true
 | bl a =>
  cases ry
  cases x with
  | non=>cases rx; exact SeqAt.EqAt.bool_none a
  | bl b=>cases rx; exact SeqAt.EqAt.bool_bool a b
  | int b=>obtain ⟨t,rfl⟩:=rx; exact SeqAt.EqAt.bool_int a b t
  | str b=>obtain ⟨t,rfl⟩:=rx; exact SeqAt.EqAt.bool_str a b t
  | _=>exact absurd (show false=true from fx) Bool.false_ne_true
 | int a =>
  obtain ⟨t',rfl⟩:=ry
  cases x with
  | non=>cases rx; exact SeqAt.EqAt.int_none a t'
  | bl b=>cases rx; exact SeqAt.EqAt.int_bool a t' b
  | int b=>obtain ⟨t,rfl⟩:=rx; exact SeqAt.EqAt.int_int a t' b t
  | str b=>obtain ⟨t,rfl⟩:=rx; exact SeqAt.EqAt.int_str a t' b t
  | _=>exact absurd (show false=true from fx) Bool.false_ne_true
 | str a =>
  obtain ⟨t',rfl⟩:=ry
  cases x with
  | non=>cases rx; exact SeqAt.EqAt.str_none a t'
  | bl b=>cases rx; exact SeqAt.EqAt.str_bool a t' b
  | int b=>obtain ⟨t,rfl⟩:=rx; exact SeqAt.EqAt.str_int a t' b t
  | str b=>obtain ⟨t,rfl⟩:=rx; exact SeqAt.EqAt.str_str a t' b t
  | _=>exact absurd (show false=true from fx) Bool.false_ne_true
 | _=>exact absurd (show false=true from fy) Bool.false_ne_true
noncomputable def eqU (x:V) (u:Value):Bool:=match u with
 | .none=>eqV .non x
 | .bool b=>eqV (.bl b) x
 | .int i _=>eqV (.int i) x
 | .str z _=>eqV (.str z) x
 | _=>false
theorem eqU_of {x y:V} {u:Value} (r:RelV y u) (f:flatV y=true):eqU x u=eqV y x:=by
 cases y with
 | non=>cases r; rfl
 | bl b=>cases r; rfl
 | int i=>obtain ⟨t,rfl⟩:=r; rfl
 | str z=>obtain ⟨t,rfl⟩:=r; rfl
 | _=>exact absurd (show false=true from f) Bool.false_ne_true
theorem any_eqU {x:V}:∀ {xs:List V} {us:List Value},Vals xs us→xs.all flatV=true→us.any (eqU x)=xs.any λy=>eqV y x
 | _,_,.nil,_=>rfl
 | y :: xs,u :: us,.cons r t,f=>by
  rw [List.all_cons,Bool.and_eq_true] at f
  rw [List.any_cons,List.any_cons,eqU_of r f.1,any_eqU t f.2]
theorem mem_eqAt {A:Around} {s:Shared} {x:V} {v:Value} (rx:RelV x v) (fx:flatV x=true):∀ {xs:List V} {us:List Value},Vals xs us→xs.all flatV=true→∀ u∈us,SeqAt.EqAt A s u v (eqU x u)
 | _,_,.nil,_=>λu hu=>by cases hu
 | y :: xs,u :: us,.cons r t,f=>λu' hu=>by
  rw [List.all_cons,Bool.and_eq_true] at f
  rcases List.mem_cons.mp hu with rfl | hu
  ·rw [eqU_of r f.1]; exact eqAt_V r rx f.1 fx
  ·exact mem_eqAt rx fx t f.2 u' hu
def inV (x:V) (xs:List V):Bool:=xs.any λy=>eqV y x
noncomputable def rIn (K:PySem.W.Frag) (neg:Bool):R2:=λx y H Q=>∃ p xs,y=.ref p∧(SqL K H p xs∨SqT K H p xs)∧flatV x=true∧xs.all flatV=true∧Q (.bl (if neg then !inV x xs else inV x xs)) H
theorem op_in_seq:OpR X (compareOp .In) (rIn X.K false):=by
 intro pins s σ H x y v u Q I rx ry h
 obtain ⟨p,xs,rfl,hq,fx,fs,q⟩:=h
 cases ry
 rcases hq with hq | hq
 ·obtain ⟨its,r,pl,hz⟩:=I.list hq
  refine SeqAt.in_listAt (eqU x) pl.isList (λw hw=>mem_eqAt rx fx r fs w (by simpa using hw)) ⟨.bl _,H,I,rfl, ?_⟩
  rw [show its.toArray.any (eqU x)=its.any (eqU x) by simp,any_eqU r fs]
  exact q
 ·obtain ⟨its,r,pl,hz⟩:=I.tuple hq
  refine SeqAt.in_tupleAt (eqU x) pl (λw hw=>mem_eqAt rx fx r fs w (by simpa using hw)) ⟨.bl _,H,I,rfl, ?_⟩
  rw [show its.toArray.any (eqU x)=its.any (eqU x) by simp,any_eqU r fs]
  exact q
theorem call_len_seq:CallR X (.builtin "len") (λxs H Q=>∃ p ys,xs=[.ref p]∧(SqL X.K H p ys∨SqT X.K H p ys)∧Q (.int ys.length) H):=by
 intro pins s σ H xs us Q I r h
 obtain ⟨p,ys,rfl,hq,q⟩:=h
 obtain ⟨u,rfl,rx⟩:=vals1 r
 cases rx
 have hn:=line63
 rcases hq with hq | hq
 ·obtain ⟨its,r',pl,hz⟩:=I.list hq
  have hlen:=r'.length
  exact Calls.call_len_list pl.isList (by simp only [List.size_toArray] <;> omega) ⟨.int ys.length,H,I.tok _,⟨s.toks+1,by rw [List.size_toArray,hlen]⟩,q⟩
 ·obtain ⟨its,r',pl,hz⟩:=I.tuple hq
  have hlen:=r'.length
  exact len_tuple pl (by simp only [List.size_toArray] <;> omega) ⟨.int ys.length,H,I.tok _,⟨s.toks+1,by rw [List.size_toArray,hlen]⟩,q⟩
theorem call_len_str:CallR X (.builtin "len") (λxs H Q=>∃ z,xs=[.str z]∧z.length≤sizeLine∧Q (.int z.length) H):=by
 intro pins s σ H xs us Q I r h
 obtain ⟨z,rfl,hz,q⟩:=h
 obtain ⟨u,rfl,t,rfl⟩:=vals1 r
 have hn:=line63
 exact len_str (by omega) ⟨.int z.length,H,I.tok _,⟨_,rfl⟩,q⟩
theorem call_list_of:CallR X (.type "list") (λxs H Q=>∃ p ys,xs=[.ref p]∧(SqL X.K H p ys∨SqT X.K H p ys)∧∀ l,H l=none→Q (.ref l) (upd H l (.lst ys))):=by
 intro pins s σ H xs us Q I r h
 obtain ⟨p,ys,rfl,hq,q⟩:=h
 obtain ⟨u,rfl,rx⟩:=vals1 r
 cases rx
 have fin:∀ (its:List Value),Vals ys its→ys.length≤sizeLine→∀ (h':Heap) (c':Nat),(∀ b o',s.heap.get? b=some o'→h'.get? b=some o') →
   h'.get? s.heap.objs.size=some { cls:=.type "list",dict:=none,data:=.seq its.toArray c',slots:=#[] }→EP X pins σ Q (.ref s.heap.objs.size) { s with heap:=h' }:=λits r' hz h' c' kp e =>
  ⟨.ref s.heap.objs.size,_,I.laid (t':=s.toks) kp (Nat.le_refl _) (show ObjOk X.prog X.w _ h' _ (.lst ys) from ⟨hz,its,c',r',e⟩),rfl,q _ (I.hok.fresh (Nat.le_refl _))⟩
 rcases hq with hq | hq
 ·obtain ⟨its,r',pl,hz⟩:=I.list hq
  have hlen:=r'.length
  obtain ⟨o,ho,hc,n,hd⟩:=pl.isList
  exact call_list_seq p (.inl rfl) ho hc hd (λh' c' kp e=>fin its r' hz h' c' kp e) (by simp only [List.size_toArray] <;> omega)
 ·obtain ⟨its,r',pl,hz⟩:=I.tuple hq
  have hlen:=r'.length
  obtain ⟨o,ho,hc,n,hd⟩:=pl
  exact call_list_seq p (.inr rfl) ho hc hd (λh' c' kp e=>fin its r' hz h' c' kp e) (by simp only [List.size_toArray] <;> omega)
theorem call_tuple_of:CallR X (.type "tuple") (λxs H Q=>∃ p ys,xs=[.ref p]∧((SqL X.K H p ys∧∀ l,H l=none→Q (.ref l) (upd H l (.tup ys)))∨(SqT X.K H p ys∧Q (.ref p) H))):=by
 intro pins s σ H xs us Q I r h
 obtain ⟨p,ys,rfl,h⟩:=h
 obtain ⟨u,rfl,rx⟩:=vals1 r
 cases rx
 rcases h with ⟨hq,q⟩ | ⟨hq,q⟩
 ·obtain ⟨its,r',pl,hz⟩:=I.list hq
  have hlen:=r'.length
  refine call_tuple_list pl.isList (λh' kp=>?_) (by simp only [List.size_toArray] <;> omega)
  have I1:Inv X pins σ H { s with heap:=h' }:=I.kept (t':=s.toks) kp
  have I2:Inv X pins σ (upd H h'.objs.size (.tup ys)) { s with heap:=h'.push { cls:=.type "tuple",data:=.seq its.toArray } } :=
   I1.laid (t':=s.toks) (λb o e=>Heap.get?_push_of_some _ e) (Nat.le_refl _) (show ObjOk X.prog X.w _ _ _ (.tup ys) from ⟨hz,its,r',IsTup.new _ _⟩)
  exact ⟨.ref h'.objs.size,_,I2,rfl,q _ (I1.hok.fresh (Nat.le_refl _))⟩
 ·obtain ⟨its,r',pl,hz⟩:=I.tuple hq
  exact call_tuple_same pl ⟨.ref p,H,I,rfl,q⟩
def tyV (K:PySem.W.Frag) (T:String) (x:V) (H:Hp):Prop:=match x with
 | .str _=>T="str"
 | .int _=>T="int"
 | .ref p=>(T="list"∧∃ xs,SqL K H p xs)∨(T="tuple"∧∃ o,K.lookup p=some o∧o.cls=.type "tuple"∧o.dict=none) ∨
   (T="dict"∧((∃ kvs,H p=some (.dK kvs))∨∃ kvs,H p=some (.dT kvs)))∨(T="set"∧∃ S n,H p=some (.set S n))
 | _=>False
theorem tyV_is {pins:List (Addr × Obj)} {σ:St} {H:Hp} {s:Shared} {T:String} {x:V} {v:Value} (I:Inv X pins σ H s) (r:RelV x v) (ty:tyV X.K T x H) :
  s.TypeIs v T∧∀ a,v=.ref a→∃ ob,s.heap.get? a=some ob∧ob.dict=none:=by
 cases x with
 | str z =>
  obtain ⟨t,rfl⟩:=r
  cases (show T="str" from ty)
  exact ⟨typeIs_str s z t,λ_ e=>nomatch e⟩
 | int i =>
  obtain ⟨t,rfl⟩:=r
  cases (show T="int" from ty)
  exact ⟨typeIs_int s i t,λ_ e=>nomatch e⟩
 | ref p =>
  cases r
  rcases ty with ⟨rfl,xs,hq⟩ | ⟨rfl,o,hk,hc,hd⟩ | ⟨rfl,hk⟩ | ⟨rfl,S,n,hk⟩
  ·obtain ⟨its,_,pl,_⟩:=I.list hq
   refine ⟨pl.isList.typeIs,λa e=>?_⟩
   cases e
   obtain ⟨o,n,e,c,hd,_⟩:=pl
   exact ⟨o,e,hd⟩
  ·refine ⟨⟨o,I.kIn p o hk,hc⟩,λa e=>?_⟩
   cases e
   exact ⟨o,I.kIn _ o hk,hd⟩
  ·have z:∃ o,s.heap.get? p=some o∧o.ExactDict:=by
    rcases hk with ⟨kvs,hk⟩ | ⟨kvs,hk⟩
    ·obtain ⟨_,_,_,_,o,_,_,e,ex,_⟩:=I.hok p _ hk
     exact ⟨o,e,ex⟩
    ·obtain ⟨_,_,_,_,o,_,_,e,ex,_⟩:=I.hok p _ hk
     exact ⟨o,e,ex⟩
   obtain ⟨o,e,ex⟩:=z
   refine ⟨⟨o,e,ex.1⟩,λa e2=>?_⟩
   cases e2
   exact ⟨o,e,ex.2.1⟩
  ·obtain ⟨o,_,_,_,e,ex,_⟩:=I.hok p _ hk
   refine ⟨⟨o,e,ex.1⟩,λa e2=>?_⟩
   cases e2
   exact ⟨o,e,ex.2.1⟩
 | _=>exact False.elim ty
noncomputable def tBM0 (K:PySem.W.Frag) (T:String) (r:V→List V→Hp→VK→Prop) (to:TE):TE:=λσ H Q=>to σ H λx H1=>tyV K T x H1∧r x [] H1 Q
noncomputable def tBM (K:PySem.W.Frag) (T:String) (r:V→List V→Hp→VK→Prop) (to:TE) (t:TA):TE:=λσ H Q=>to σ H λx H1=>tyV K T x H1∧t σ H1 λxs H2=>r x xs H2 Q
variable {o e:Expr} {es:List Expr} {to:TE} {t:TA} {name:Str} {apos cpos:Pos} {T id:String} {r:V→List V→Hp→VK→Prop}
theorem pe_bm0 (pa:PlainAttrs T) (slot:Slot T name id) (hty:typeOf (.builtin id)=pure (.type "method_descriptor")) (hm:MtR X id r) (ho:PE X o to)
  (hbase:attributeBase o name X.env (eval o X.env)=eval o X.env:=by rfl) (hline:(apos.endLine == cpos.line)=true:=by rfl):PE X (.Call (.Attribute o name apos) [] [] cpos) (tBM0 X.K T r to):=by
 intro pins s σ H Q I h
 refine wpAny_Call_method0_late hbase hline (thn (ho pins s σ H _ I h) λv s1 ⟨x,H1,I1,r1,ty,q1⟩=>?_)
 obtain ⟨h1,h2⟩:=tyV_is I1 r1 ty
 exact ⟨T,id,pa,slot,hty,h1,h2,Calls.callWith_builtin rfl (PySem.evalArgs_none (hm pins s1 σ H1 x [] v [] Q I1 r1 .nil q1))⟩
theorem pe_bm (pa:PlainAttrs T) (slot:Slot T name id) (hty:typeOf (.builtin id)=pure (.type "method_descriptor")) (hm:MtR X id r) (ho:PE X o to) (ha:PA X (e :: es) t)
  (hbase:attributeBase o name X.env (eval o X.env)=eval o X.env:=by rfl)
  (hfew:((backTo cpos (starEach (e :: es) X.env)).all (λx=>!x.1) && (backToKw cpos (keywordEach [] X.env)).all (λx=>x.1.isSome)
   && decide ((e :: es).length+([]:List Keyword).length+(if ([]:List Keyword).isEmpty then 0 else 1)<30))=true:=by rfl)
  (hline:(apos.endLine == cpos.line)=true:=by rfl) (hs:starEach (e :: es) X.env=(false,eval e X.env) :: starEach es X.env:=by rfl) (hplain:(backTo cpos (starEach es X.env)).any (·.1)=false:=by rfl) :
  PE X (.Call (.Attribute o name apos) (e :: es) [] cpos) (tBM X.K T r to t):=by
 intro pins s σ H Q I h
 refine wpAny_Call_method_late hbase hfew hline rfl (thn (ho pins s σ H _ I h) λv s1 ⟨x,H1,I1,r1,ty,q1⟩=>?_)
 obtain ⟨h1,h2⟩:=tyV_is I1 r1 ty
 refine ⟨T,id,pa,slot,hty,h1,h2, ?_⟩
 have hA:=ha cpos pins s1 σ H1 _ I1 q1
 rw [hs] at hA ⊢
 refine Calls.callWith_builtin (by show (false || (backTo cpos (starEach es X.env)).any (·.1))=false; rw [hplain] <;> rfl) (Calls.evalArgs_plain ?_)
 exact thn hA λus s2 ⟨vs,H2,I2,r2,q2⟩=>hm pins s2 σ H2 x vs v us Q I2 r1 r2 q2
end
def MtM (X:Cx) (id:String) (r:V→List V→Hp→VK→Prop):Prop :=
 ∀ (pins:List (Addr × Obj)) (s:Shared) (σ:St) (H:Hp) (x:V) (xs:List V) (v:Value) (us:List Value) (Q:VK),Inv X pins σ H s→RelV x v→Vals xs us→r x xs H Q →
  wpAny (model X.prog X.w) X.A (call (.builtin id) (v :: us)) (EP X pins σ Q) X.xe s
theorem Vals.one:∀ {x:V} {us:List Value},Vals [x] us→∃ u,us=[u]∧RelV x u
 | _,_,.cons r .nil=>⟨_,rfl,r⟩
theorem Vals.eraseIdx:∀ {xs:List V} {us:List Value} (i:Nat),Vals xs us→Vals (xs.eraseIdx i) (us.eraseIdx i)
 | _,_,_,.nil=>.nil
 | _,_,0,.cons _ t=>t
 | _,_,i+1,.cons r t=>.cons r (Vals.eraseIdx i t)
theorem Vals.rep {xs:List V} {us:List Value} (h:Vals xs us):∀ k:Nat,Vals (List.replicate k xs).flatten (List.replicate k us).flatten
 | 0=>.nil
 | k+1=>by
  rw [List.replicate_succ,List.replicate_succ,List.flatten_cons,List.flatten_cons]
  exact Vals.append h (Vals.rep h k)
theorem foldl_rep (its:List Value):∀ (k:Nat) (acc:List Value),
  List.foldl (λx1 x2=>x1 ++ x2) acc.toArray (List.replicate k its.toArray)=(acc ++ (List.replicate k its).flatten).toArray
 | 0,acc=>by simp
 | k+1,acc=>by
  have e:acc.toArray ++ its.toArray=(acc ++ its).toArray:=by simp
  have e2:(acc ++ its) ++ (List.replicate k its).flatten=acc ++ (List.replicate (k+1) its).flatten:=by
   rw [List.replicate_succ,List.flatten_cons,List.append_assoc]
  rw [← e2,← foldl_rep its k (acc ++ its),← e,List.replicate_succ,List.foldl_cons]
section
variable {X:Cx} {pins:List (Addr × Obj)} {σ:St} {H:Hp} {s:Shared} {l b:Addr} {xs ys zs:List V}
theorem Inv.lset {its its':List Value} {n:Nat} {f:Array Value→Array Value} {t':Nat} (I:Inv X pins σ H s) (hH:H l=some (.lst xs))
  (e:s.heap.get? l=some { cls:=.type "list",data:=.seq its.toArray n }) (hf:f its.toArray=its'.toArray) (hv:Vals ys its') (hz:ys.length≤sizeLine) :
  Inv X pins σ (upd H l (.lst ys)) { s with heap:=s.heap.update l (Obj.mapSeq f),toks:=t' }:=by
 have q:=PySem.IsL.update e f
 rw [hf] at q
 refine I.write (x:=l) (e:=l) (by rw [hH]; exact trivial) (.inl rfl) (λb' u hb hu=>(Heap.get?_update_other s.heap (Obj.mapSeq f) (Ne.symm hb)).trans hu) ⟨_,q⟩ ?_
 exact ⟨hz,its',_,hv,q⟩
theorem Inv.lnew {its:List Value} {t':Nat} (I:Inv X pins σ H s) (hv:Vals ys its) (hz:ys.length≤sizeLine) :
  Inv X pins σ (upd H s.heap.objs.size (.lst ys)) { s with heap:=s.heap.push { cls:=.type "list",data:=.seq its.toArray },toks:=t' } :=
 I.laid (λ_ _ q=>Heap.get?_push_of_some _ q) (Nat.le_refl _) ⟨hz,its,0,hv,Heap.get?_push_size _ rfl⟩
theorem Inv.fresh (I:Inv X pins σ H s):H s.heap.objs.size=none:=I.hok.fresh (Nat.le_refl _)
theorem Inv.lstM (I:Inv X pins σ H s) (hH:H l=some (.lst xs)):xs.length≤sizeLine∧∃ (its:List Value) (n:Nat),Vals xs its∧xs.length=its.length∧s.heap.get? l=some { cls:=.type "list",data:=.seq its.toArray n }:=by
 obtain ⟨z,its,n,r,e⟩:=I.hok l _ hH
 exact ⟨z,its,n,r,r.length,e⟩
theorem notLongL {n:Nat} (h:n≤sizeLine):Builtin.List.listTooLong n=false:=by
 unfold Builtin.List.listTooLong
 exact decide_eq_false (by omega)
end
section
variable {X:Cx}
def rAppend:V→List V→Hp→VK→Prop:=λx vs H Q=>∃ l xs y,x=.ref l∧vs=[y]∧H l=some (.lst xs)∧xs.length<sizeLine∧Q .non (upd H l (.lst (xs ++ [y])))
theorem mt_append:MtM X "list.append" rAppend:=by
 intro pins s σ H x vs v us Q I rx rv h
 obtain ⟨l,xs,y,rfl,rfl,hH,hz,q⟩:=h
 cases rx
 obtain ⟨u,rfl,ru⟩:=rv.one
 obtain ⟨z,its,n,r,hl,e⟩:=I.lstM hH
 refine call_meets F.slot_list_append ⟨_,e,rfl⟩ F.entry_list_append (F.args_list_append_2 _ _) (PySem.list_append l its.toArray n u (by rw [List.size_toArray]; omega)) ⟨e, ?_⟩
 refine ⟨.non,_,I.lset (its':=its ++ [u]) hH e (by simp) (r.append (.cons ru .nil)) ?_,rfl,q⟩
 rw [List.length_append,List.length_singleton]
 omega
noncomputable def rRep:R2:=λx y H Q=>∃ l k xs,x=.ref l∧y=.int k∧H l=some (.lst xs)∧-(2 ^ 63)≤k∧k<2 ^ 63∧xs.length*k.toNat≤sizeLine ∧
 ∀ p,H p=none→Q (.ref p) (upd H p (.lst (List.replicate k.toNat xs).flatten))
theorem len_rep {α:Type} (xs:List α) (k:Nat):(List.replicate k xs).flatten.length=k*xs.length:=by
 induction k with
 | zero=>simp
 | succ k ih=>rw [List.replicate_succ,List.flatten_cons,List.length_append,ih,Nat.succ_mul,Nat.add_comm]
theorem op_rep:OpR X (binaryOp .Mult) rRep:=by
 intro pins s σ H x y v u Q I rx ry h
 obtain ⟨l,k,xs,rfl,rfl,hH,h1,h2,hz,q⟩:=h
 cases rx
 obtain ⟨t,rfl⟩:=ry
 obtain ⟨z,its,n,r,hl,e⟩:=I.lstM hH
 have hlen:its.toArray.size*k.toNat≤sizeLine:=by rw [List.size_toArray,← hl]; exact hz
 have hcap:¬ its.toArray.size*k.toNat > (2 ^ 63 - 1) / 8:=by
  have:(sizeLine:Nat)≤(2 ^ 63 - 1) / 8:=by decide
  omega
 have hfit:¬ (!Builtin.List.listFitsIndex k)=true:=by
  rw [fitsIndex_both h1 h2]
  exact Bool.false_ne_true
 have hlong:¬ Builtin.List.listTooLong (its.toArray.size*k.toNat)=true:=by
  rw [notLongL hlen]
  exact Bool.false_ne_true
 have hnew:List.foldl (λx1 x2=>x1 ++ x2) #[] (List.replicate (if its.toArray.isEmpty=true then 0 else k.toNat) its.toArray)=(List.replicate k.toNat its).flatten.toArray:=by
  have f0:∀ m:Nat,List.foldl (λx1 x2=>x1 ++ x2) #[] (List.replicate m its.toArray)=(List.replicate m its).flatten.toArray:=λm=>by
   have:=foldl_rep its m []
   rw [List.nil_append] at this
   exact this
  rw [f0]
  cases its with
  | nil=>simp
  | cons a r'=>rw [if_neg (by simp)]
 refine wpAny_binaryOp_repeat_ref (T:="list") (U:="int") (by decide) ⟨_,e,rfl⟩ (λs'=>typeIs_int s' k t) noFill_list_mul F.fills_int_mul F.slot_int_rmul repeat_list F.slot_int_index.lookup
  (call_meets F.slot_int_rmul (typeIs_int s k t) F.entry_int_rmul (F.args_int_rmul_2 _ _) (int___rmul___int_list k t l its.toArray n)
   ⟨e,rfl,⟨_,e,rfl⟩,call_meets F.slot_list_mul ⟨_,e,rfl⟩ F.entry_list_mul (F.args_list_mul_2 _ _) (AutoListH.list___mul___list_int_3 l its.toArray n k t hfit hcap hlong) ⟨e, ?_⟩⟩)
 rw [hnew]
 exact ⟨.ref _,_,I.lnew (t':=s.toks) (r.rep k.toNat) (by rw [len_rep,Nat.mul_comm]; exact hz),rfl,q _ I.fresh⟩
end
section
variable {prog:Program} {w:World} {A:Around} {E:Value→Shared→Prop} {s:Shared}
end
section
variable {X:Cx}
end
end L2
namespace Att
open PySem PySem.W PySem.Calls PyProof.Rows
theorem ints_of_wellAll {P:Params} {h:Heap}:∀ (ns:List Int) (vs:List Value),WellAll P h vs (ns.map WData.int)→IntsAre vs ns:=by
 intro ns
 induction ns with
 | nil =>
  intro vs w
  rw [List.map_nil] at w
  cases w
  exact .nil
 | cons n ns ih =>
  intro vs w
  rw [List.map_cons] at w
  cases w with
  | cons a b =>
   cases a
   exact .cons _ _ (ih _ b)
theorem script_of {l:OpenLaw} {n:Nat} (hn:l.most=some n) {P:Params} {h:Heap} {args:List WData} {vals:List Value}
  (hpre:l.row.toRowW.claim.pre args=true) (hwl:WellAll P h vals args) :
  ∃ a vs ns,vals=[Value.ref a]∧args=[WData.list (ns.map WData.int)]∧h.get? a=some { cls:=.type "list",data:=.seq vs.toArray }∧IntsAre vs ns∧ns.length≤n:=by
 have hsh:WShape.hasAll [] args [.list .int]=true:=(pre_splitW hpre).1
 have hc:l.pre.holds [] { args:=args }=true:=(pre_splitW hpre).2
 obtain ⟨d,r,rfl,h1,h2⟩:=hasAllW_cons hsh
 obtain rfl:=hasAllW_nil h2
 obtain ⟨xs,rfl,h3⟩:=hasW_list h1
 obtain ⟨ns,rfl⟩:=items_int h3
 have hlen:ns.length≤n:=by
  unfold OpenLaw.pre at hc
  have h4:(WTm.not (.lt (.lit (.int (n:Int))) (.len (.arg 0)))).holds [] { args:=[.list (ns.map .int)] }=true:=by
   have h4:=(holds_andW hc).1
   rw [hn] at h4
   exact h4
  have h5:=condW_of h4 (w_not (w_lt w_lit (w_len_list (w_arg rfl))))
  rw [List.length_map] at h5
  refine Nat.le_of_not_lt λq=>?_
  have q':(n:Int)<((ns.length:Nat):Int):=by omega
  first
   | (rw [decide_eq_true q'] at h5; exact absurd h5 (by decide))
   | (simp at h5; omega)
 cases hwl with
 | cons w1 w2 =>
  cases w2
  cases w1 with
  | list ho hall=>exact ⟨_,_,ns,rfl,rfl,ho,ints_of_wellAll ns _ hall,hlen⟩
theorem post_true (l:OpenLaw) (args:List WData):l.row.toRowW.claim.post args (.bool true) args=true :=
 postW_of (r:=l.row.toRowW) (X:=(true == true))
  (show WShape.has [] (.bool true) .bool=true by first | rfl | decide | simp [WShape.has,WShape.arms,WShape.armsAll])
  (show (WTm.eq .res (.lit (.bool true))).value [] { args:=args,res:=some (.bool true),after:=args }=some (.bool (true == true)) from w_eq_bool (w_res rfl) w_lit) rfl
theorem attach_call {l:OpenLaw} {n:Nat} {q:Program} {loose:List Str} {XP:(Str→Option Value)→Heap→Prop} {YP:World→Heap→Prop} {d:DefRec}
  (hn:l.most=some n) (hdf:d.params.defaults=[])
  (call:∀ (w:World) (s₀ s₁:Shared) (mg mb:Str→Option Value) (fa:Addr) (o:Obj) (pm cd doc:Value) (a:Addr) (vs:List Value) (ns:List Int),
   Ground q loose [] XP w s₀ mg mb s₁.heap→YP w s₁.heap →
   s₁.heap.get? fa=some o→o.data=.func (docDef d.name d.params d.body d.scope pm cd doc)→s₁.heap.CodeRec cd d.name→mg d.name=some (.ref fa) →
   s₁.heap.get? a=some { cls:=.type "list",data:=.seq vs.toArray }→IntsAre vs ns→ns.length≤n→s₁.gens=#[] →
   codeAny (model l.prog w) callerA (.call (.ref fa) ⟨[.ref a],[]⟩) (λr s'=>r=.ok (.ret (.bool true))∧OldK s₁.heap s'.heap∧s'.os=s₁.os∧AllBare s'.gens) s₁) :
  WalkO q loose XP YP l.row.toRowW d [] (λf vs=>PySem.call f vs):=by
 intro w s₀ s₁ mg mb G Y fa o pm cd doc dV kV ho hd hcd hD hmg hg args vals as hpre hlay hrd hwl hlo
 obtain rfl:dV=.none:=Dflts.none hD hdf
 obtain rfl:kV=.none:=Dflts.noKw hD
 obtain ⟨a,vs,ns,rfl,rfl,hobj,hints,hlen⟩:=script_of hn hpre hwl
 refine enter_call (codeAny_mono (call w s₀ s₁ mg mb fa o pm cd doc a vs ns G Y ho (fd_plain hd) hcd hmg hobj hints hlen hg) λr s' hq=>?_)
 obtain ⟨rfl,h2,h3,h4⟩:=hq
 exact ⟨.inl ⟨.bool true,.bool true,[],rfl,λ_=>rfl,.bool true,post_true l _,λ_=>⟨List.Pairwise.nil,λ_ hm=>(nomatch hm)⟩⟩,h2,h3,h4⟩
section
variable {prog:Program} {w:World} {A:Around} {E:Value→Shared→Prop} {s:Shared} {K:Frag}
end
end Att
namespace L2
open PySem PySem.Spec PyProof.Rows
theorem vals_ints:∀ {vs:List Value} {ns:List Int},IntsAre vs ns→Vals (ns.map V.int) vs
 | _,_,.nil=>.nil
 | _,_,.cons n t h=>.cons ⟨t,rfl⟩ (vals_ints h)
def Only (H:Hp):Prop:=∀ b,H b=none∨∃ o xs,H b=some (.frz o (.lst xs))
theorem law_call {P:Program} {w:World} {K:PySem.W.Frag} {mg mb:Str→Option Value} {CX:CXT} {k:Nat} {fa a:Addr} {fd:FuncData} {x:Str} {sp:Sp} {s₁:Shared} {vs:List Value} {ns:List Int}
  (KX:K.In s₁.heap) (hns:s₁.heap.Ns mainGlobals mg) (hb:s₁.heap.Ns builtinsNs mb) (hbb:∀ x:Str,x≠"__name__"→mb x=bootBuiltins x) (hlim:s₁.heap.NoLimit) (hg:s₁.gens=#[])
  (ha:s₁.heap.get? a=some { cls:=.type "list",data:=.seq vs.toArray }) (hi:IntsAre vs ns) (hl:ns.length≤sizeLine) (hr:Room k callerA)
  (F:∀ base:Heap,K.In base→base.Ns mainGlobals mg→FnOk P w K mg base CX k fa fd [x] sp) (hbind:∀ (s:Shared) (u:Value),BindsTo s fd ⟨[u],[]⟩ [(x,u)])
  (hsp:∀ H:Hp,Only H→SqL K H a (ns.map V.int)→sp [.ref a] H (λv _=>v=.bl true) λ_ _ _=>False)
  (hCX:∀ H e s',CX [] H s₁ (λ_ _ _=>False) e s'→False) :
  codeAny (model P w) callerA (.call (.ref fa) ⟨[.ref a],[]⟩) (λr s'=>r=.ok (.ret (.bool true))∧OldK s₁.heap s'.heap∧s'.os=s₁.os∧AllBare s'.gens) s₁:=by
 have rv:=vals_ints hi
 have lenV:=hi.length
 -- from an abstract heap in which nothing but the script may be tracked
 have core:∀ H:Hp,Only H→SqL K H a (ns.map V.int)→HOk P w H s₁.heap→(∀ b,H b≠none→b=a)→(H a≠none→K.lookup a=none) →
   codeAny (model P w) callerA (.call (.ref fa) ⟨[.ref a],[]⟩) (λr s'=>r=.ok (.ret (.bool true))∧OldK s₁.heap s'.heap∧s'.os=s₁.os∧AllBare s'.gens) s₁:=by
  intro H hO hS hok hA hK
  have base_of:∀ {b:Addr} {o:Obj},s₁.heap.get? b=some o→H b=none→(hidT s₁.heap H).get? b=some o:=λe n=>hidT_get e n
  have noA:∀ {b:Addr} {o:Obj} {es:Array DictEntry} {ep:Nat},s₁.heap.get? b=some o→o.data=.dict es ep→H b=none:=λ{b o es ep} e d=>by
   cases q:H b with
   | none=>rfl
   | some u =>
    have e':b=a:=hA b (by rw [q]; simp)
    subst e'
    rw [ha] at e; cases e
    have d':Data.seq vs.toArray _=Data.dict es ep:=d
    cases d'
  have nsK:∀ {b:Addr} {m:Str→Option Value},s₁.heap.Ns b m→(hidT s₁.heap H).Ns b m:=λ{b m} ⟨o,es,ep,e,d,r⟩=>⟨o,es,ep,base_of e (noA e d),d,r⟩
  have hKb:K.In (hidT s₁.heap H):=λb o e=>base_of (KX b o e) (by
   cases q:H b with
   | none=>rfl
   | some u =>
    have e':b=a:=hA b (by rw [q]; simp)
    subst e'
    rw [hK (by rw [q]; simp)] at e; cases e)
  have hM:Mod K mg (hidT s₁.heap H):=⟨hKb,nsK hns,⟨mb,nsK hb,hbb⟩,let ⟨mc,h1,h2⟩:=hlim; ⟨mc,nsK h1,h2⟩⟩
  have e0:Env0 P w K mg (hidT s₁.heap H) callerA [] s₁ H:=⟨rfl,hM,λb o e=>of_hidT e,Nat.le_of_eq (hidT_size _ _),trivial,λb hb=>absurd (show b∈([]:List Addr) from hb) (by simp),hok,.of_eq hg⟩
  refine codeAny_mono ((F _ hKb (nsK hns)).run callerA [] s₁ H ⟨[.ref a],[]⟩ [.ref a] [.ref a] _ _ hr e0 (hbind s₁ (.ref a)) (.cons rfl .nil) (hsp H hO hS)) λr s' h=>?_
  cases r with
  | error e=>exact (hCX H e s' h).elim
  | ok fl =>
   cases fl with
   | next=>exact False.elim h
   | brk=>exact False.elim h
   | cont=>exact False.elim h
   | ret u =>
    obtain ⟨v,H',os,bare,un,hok',r',q⟩:=h
    have q':v=.bl true:=q
    subst q'
    obtain rfl:u=Value.bool true:=r'
    refine ⟨rfl,OldK.of_keep λb o e=>?_,os,bare⟩
    cases q:H b with
    | none=>exact un.keep b o e q (by intro z; exact absurd (show b∈([]:List Addr) from z) (by simp)) (by simp)
    | some u =>
     rcases hO b with z | ⟨ob,xs,z⟩
     ·rw [q] at z; cases z
     ·have z2:=un.frzs b ob _ z
      obtain ⟨e1,_⟩:=hok b _ z
      obtain ⟨e2,_⟩:=hok' b _ z2
      rw [e] at e1; cases e1
      exact e2
 cases hk:K.lookup a with
 | some o =>
  -- the script is one of the module's own objects
  have e:=KX a o hk
  rw [ha] at e
  cases e
  refine core (λ_=>none) (λ_=>.inl rfl) (.inr ⟨_,vs.toArray,_,hk,rfl,rfl,rfl,by rw [List.size_toArray,lenV]; exact hl,by simpa using rv⟩) (λb u z=>by have z':(none:Option HO)=some u:=z; cases z') (λb z=>absurd rfl z) λz=>absurd rfl z
 | none =>
  refine core (λb=>if b=a then some (.frz { cls:=.type "list",data:=.seq vs.toArray } (.lst (ns.map V.int))) else none) (λb=>?_) (.inl (.inr ⟨{ cls:=.type "list",data:=.seq vs.toArray },if_pos rfl⟩)) (λb u z=>?_) (λb z=>?_) λ_=>hk
  ·by_cases hb:b=a
   ·exact .inr ⟨_,_,if_pos hb⟩
   ·exact .inl (if_neg hb)
  ·by_cases hb:b=a
   ·have z':=(if_pos hb).symm.trans z
    cases z'
    subst hb
    exact ⟨ha,by rw [List.length_map]; exact hl,vs,_,rv,ha⟩
   ·have z':=(if_neg hb).symm.trans z
    cases z'
  ·by_cases hb:b=a
   ·exact hb
   ·exact absurd (if_neg hb) z
abbrev KOf {K:PySem.W.Frag} {h:Heap} (_:K.In h):PySem.W.Frag:=K
theorem walk_of {l:PySem.W.OpenLaw} {n k:Nat} {q:Program} {loose:List Str} {XP:(Str→Option Value)→Heap→Prop} {YP:World→Heap→Prop} {d:DefRec} {K:Params→PySem.W.Frag} {CX:World→CXT} {sp:World→Sp} {x:Str}
  (hn:l.most=some n) (hn2:n≤sizeLine) (hdf:d.params.defaults=[]) (hr:Room k callerA)
  (hY:∀ (w:World) (h:Heap),YP w h→(K w.params).In h)
  (F:∀ (w:World) (mg:Str→Option Value) (fa:Addr) (h:Heap),(K w.params).In h→h.Ns mainGlobals mg→mg d.name=some (.ref fa) →
   ∃ fd:FuncData,(∀ (s:Shared) (u:Value),BindsTo s fd ⟨[u],[]⟩ [(x,u)]) ∧
    ∀ base:Heap,(K w.params).In base→base.Ns mainGlobals mg→FnOk l.prog w (K w.params) mg base (CX w) k fa fd [x] (sp w))
  (hsp:∀ (w:World) (H:Hp) (a:Addr) (ns:List Int),ns.length≤n→Only H→SqL (K w.params) H a (ns.map V.int)→sp w [.ref a] H (λv _=>v=.bl true) λ_ _ _=>False)
  (hCX:∀ (w:World) (H:Hp) (s:Shared) (e:Value) (s':Shared),CX w [] H s (λ_ _ _=>False) e s'→False) :
  PySem.W.WalkO q loose XP YP l.row.toRowW d [] (λf vs=>PySem.call f vs):=by
 refine Att.attach_call hn hdf λw s₀ s₁ mg mb fa o pm cd doc a vs ns G Y ho hd hcd hmg hobj hints hlen hg=>?_
 have KX:=hY w _ Y
 obtain ⟨fd,hb,hF⟩:=F w mg fa _ KX G.T.g hmg
 exact law_call KX G.T.g G.T.b G.T.builtins G.T.nolimit hg hobj hints (Nat.le_trans hlen hn2) hr hF hb (λH hO hS=>hsp w H a ns hlen hO hS) λH e s'=>hCX w H s₁ e s'
noncomputable def defArgs (s:Stmt):Arguments:=match s with
 | .FunctionDef _ a _ _ _ _ _ _ _ _=>a
 | _=>{ posonlyargs:=[],args:=[],vararg:=none,kwonlyargs:=[],kw_defaults:=[],kwarg:=none,defaults:=[] }
def defBody (s:Stmt):List Stmt:=match s with
 | .FunctionDef _ _ b _ _ _ _ _ _ _=>b
 | _=>[]
noncomputable def defScope (s:Stmt):Scope:=match s with
 | .FunctionDef _ _ _ _ _ _ sc _ _ _=>sc
 | _=>{ kind:=.function,names:=[],isGenerator:=false,isCoroutine:=false }
abbrev CX0:CXT:=λ_ _ _ _ _ _=>False
abbrev E0:XK:=λ_ _ _=>False
theorem pass0 {X:Cx}:Passes CX0 X E0:=λ_ _ _ _ _ _ _ h=>h.elim
structure Fun (K:PySem.W.Frag) (x qual:Str) (st:Stmt) (f:Addr) (fd:FuncData):Prop where
 ex:∃ (oc:Value) (od:Option Addr) (kV doc pm:Value) (an:Option Addr) (cdv ct:Value) (osl:Array (Option Value)),
  fd=PySem.W.fnOf x qual (defArgs st) (defBody st) (defScope st) .none kV doc pm an cdv ct∧K.lookup f=some ⟨oc,od,.func fd,osl⟩∧PySem.W.codeIn K cdv qual=true
 kp:PySem.W.keepIn K (.ref f)=true
section
variable {P:Program} {w:World} {K:PySem.W.Frag} {mg:Str→Option Value} {base:Heap}
theorem Fun.ok {x qual:Str} {st:Stmt} {f:Addr} {fd:FuncData} {N ps:List Str} {k:Nat} {sp:Sp} (F:Fun K x qual st f fd) (S:FnScope N ps (defScope st)) (len:∀ vs H Q E,sp vs H Q E→vs.length=ps.length)
  (hbody:∀ (cdv:Value) (A:Around) (outer:List Env) (s:Shared) (H:Hp) (vs:List V) (Q:VK) (E:XK),Room k (A.deeper (envOfC qual (defScope st) s.heap.objs.size f cdv))→sp vs H Q E →
   ∃ t,PSs (cxOf CX0 P w K mg base N qual (defScope st) f cdv A outer s H E).nox (defBody st) t∧t { nx:=λ_ H'=>Q .non H',rt:=Q } (start N vs) H):FnOk P w K mg base CX0 (k+1) f fd ps sp:=by
 obtain ⟨oc,od,kV,doc,pm,an,cdv,ct,osl,rfl,lk,hcd⟩:=F.ex
 refine fn_of lk hcd S len λA outer s H vs Q E hr hsp=>?_
 obtain ⟨t,h,q⟩:=hbody cdv A outer s H vs Q E hr hsp
 exact ⟨t,h.nox,q⟩
theorem Fun.binds {x qual:Str} {st:Stmt} {f:Addr} {fd:FuncData} {ps:List Str} (F:Fun K x qual st f fd)
  (h:∀ (kV doc pm:Value) (an:Option Addr) (cdv ct:Value) (us:List Value),us.length=ps.length→bindArgs (PySem.W.fnOf x qual (defArgs st) (defBody st) (defScope st) .none kV doc pm an cdv ct) ⟨us,[]⟩=pure (ps.zip us)):Binds K fd ps []:=by
 obtain ⟨oc,od,kV,doc,pm,an,cdv,ct,osl,rfl,lk,hcd⟩:=F.ex
 exact .all (h kV doc pm an cdv ct)
theorem fun_mk {x qual:Str} {st:Stmt} {f:Addr} {oc:Value} {od an:Option Addr} {osl:Array (Option Value)} {kV doc pm cdv ct:Value} (l:K.lookup f=some ⟨oc,od,.func (PySem.W.fnOf x qual (defArgs st) (defBody st) (defScope st) .none kV doc pm an cdv ct),osl⟩)
  (c:PySem.W.codeIn K cdv qual=true) (k:PySem.W.keepIn K (.ref f)=true):Fun K x qual st f (PySem.W.fnOf x qual (defArgs st) (defBody st) (defScope st) .none kV doc pm an cdv ct):=⟨⟨oc,od,kV,doc,pm,an,cdv,ct,osl,rfl,l,c⟩,k⟩
end
section
variable {X:Cx}
end
theorem iteF {A B:Prop} (h:B):if false=true then A else B:=by
 rw [if_neg Bool.false_ne_true]
 exact h
theorem iteT {A B:Prop} (h:A):if true=true then A else B:=by
 rw [if_pos rfl]
 exact h
def Same (H H':Hp):Prop:=∀ b o,H b=some o→H' b=some o
theorem Same.refl (H:Hp):Same H H:=λ_ _ h=>h
theorem Same.trans {H H1 H2:Hp} (a:Same H H1) (b:Same H1 H2):Same H H2:=λc o h=>b c o (a c o h)
theorem Same.free {H H':Hp} (e:Same H H') {l:Addr} (h:H' l=Option.none):H l=Option.none:=by
 cases q:H l with
 | none=>rfl
 | some o =>
  rw [e l o q] at h
  cases h
theorem Same.seq {K:PySem.W.Frag} {H H':Hp} {a:Addr} {xs:List V} (e:Same H H') (h:SqL K H a xs):SqL K H' a xs:=by
 rcases h with (h | ⟨o,h⟩) | h
 ·exact .inl (.inl (e _ _ h))
 ·exact .inl (.inr ⟨o,e _ _ h⟩)
 ·exact .inr h
end L2
set_option maxHeartbeats 4000000
namespace L2
open PySem PySem.Spec PyProof.Rows
section
variable {κ:Type} [DecidableEq κ]
end
section
variable {P:Program} {w:World} {H:Hp} {h:Heap} {a:Addr}
end
section
variable {X:Cx} {pins:List (Addr × Obj)} {σ:St} {H:Hp} {s:Shared} {a:Addr} {y v:V} {u r:Value} {o:Option V} {A:Around} {E:Value→Shared→Prop}
end
section
variable {X:Cx} {pins:List (Addr × Obj)} {σ:St} {H:Hp} {s:Shared} {a:Addr} {kvs:List (Key × V)} {k:Key} {u:Value} {A:Around} {E:Value→Shared→Prop}
end
section
variable {X:Cx} {o i e value:Expr} {pos pos' tpos:Pos} {td ty tv:TE}
end
section
variable {X:Cx} {pos:Pos}
end
structure M1 (X:Cx) (o:Expr) (m:Str) (apos:Pos) (e:Expr) (cpos:Pos):Prop where
 base:attributeBase o m X.env (eval o X.env)=eval o X.env
 few:((backTo cpos (starEach [e] X.env)).all (λx=>!x.1) && (backToKw cpos (keywordEach [] X.env)).all (λx=>x.1.isSome)
  && decide (([e]:List Expr).length+([]:List Keyword).length+(if ([]:List Keyword).isEmpty then 0 else 1)<30))=true
 line:(apos.endLine == cpos.line)=true
 trees:backTo cpos (starEach [e] X.env)=[(false,eval e X.env)]
structure M2 (X:Cx) (o:Expr) (m:Str) (apos:Pos) (e f:Expr) (cpos:Pos):Prop where
 base:attributeBase o m X.env (eval o X.env)=eval o X.env
 few:((backTo cpos (starEach [e,f] X.env)).all (λx=>!x.1) && (backToKw cpos (keywordEach [] X.env)).all (λx=>x.1.isSome)
  && decide (([e,f]:List Expr).length+([]:List Keyword).length+(if ([]:List Keyword).isEmpty then 0 else 1)<30))=true
 line:(apos.endLine == cpos.line)=true
 trees:backTo cpos (starEach [e,f] X.env)=[(false,eval e X.env),(false,eval f X.env)]
section
variable {X:Cx} {pins:List (Addr × Obj)} {σ:St} {H:Hp} {s:Shared} {a:Addr} {y d:V} {u r:Value} {o:Option V} {A:Around} {E:Value→Shared→Prop}
end
section
variable {X:Cx} {o e f:Expr} {apos cpos:Pos} {td ty tx:TE}
end
section
variable {X:Cx} {pins:List (Addr × Obj)} {σ:St} {H:Hp} {s:Shared} {a:Addr} {kvs:List (Key × V)} {A:Around} {E:Value→Shared→Prop}
end
section
variable {X:Cx} {pins:List (Addr × Obj)} {σ:St} {H:Hp} {s:Shared} {a:Addr} {y:V} {u:Value} {A:Around} {E:Value→Shared→Prop}
end
section
variable {P:Program} {w:World} {A:Around} {E:Value→Shared→Prop} {s:Shared}
end
section
variable {X:Cx}
end
abbrev SKey:=Int × List Int
section
variable {P:Program} {w:World} {A:Around} {E:Value→Shared→Prop} {s:Shared} {h:Heap}
abbrev GKey:=SKey ⊕ SKey × SKey
end
abbrev SXs:=List (GKey × Addr × Value)
noncomputable def hS1 (k:SKey):Int:=reduceHash (Builtin.Tuple.tupleHashOf [hashInt k.1,reduceHash (Builtin.Tuple.tupleHashOf (k.2.map hashInt))])
def hS:GKey→Int:=Sum.elim hS1 λk=>reduceHash (Builtin.Tuple.tupleHashOf [hS1 k.1,hS1 k.2])
def entS (x:GKey × Addr × Value):DictEntry:={ hash:=hS x.1,key:=.ref x.2.1,val:=x.2.2 }
def DRaw (a:Addr) (xs:SXs) (h:Heap):Prop:=∃ o es ep,h.get? a=some o∧o.ExactDict∧o.data=.dict es ep∧es.toList=xs.map entS
def SKAt (K:PySem.W.Frag) (H:Hp) (k:SKey) (b:Addr):Prop:=∃ c,SqT K H b [.int k.1,.ref c]∧SqT K H c (k.2.map V.int)
def PKAt (K:PySem.W.Frag) (H:Hp) (k:SKey × SKey) (b:Addr):Prop:=∃ c d,SqT K H b [.ref c,.ref d]∧SKAt K H k.1 c∧SKAt K H k.2 d
def KeyAt (K:PySem.W.Frag) (H:Hp):GKey→Addr→Prop:=Sum.elim (SKAt K H) (PKAt K H)
structure DS (K:PySem.W.Frag) (H:Hp) (a:Addr) (xs:SXs):Prop where
 at_:H a=some (.ext (DRaw a xs))
 nd:(xs.map (·.1)).Nodup
 len:xs.length≤sizeLine
 sm:(a == sysModules)=false
 keys:∀ x∈xs,KeyAt K H x.1 x.2.1
section
variable {X:Cx} {pins:List (Addr × Obj)} {σ:St} {H:Hp} {s:Shared} {a b:Addr} {xs:SXs} {k:GKey} {A:Around} {E:Value→Shared→Prop}
end
end L2
namespace HT
open PySem PySem.Spec PyProof.Rows
section
variable {prog:Program} {w:World} {A:Around} {E:Value→Shared→Prop} {s:Shared}
end
end HT
namespace L2
open PySem PySem.Spec PyProof.Rows
section
variable {X:Cx} {e st:Expr} {te tst:TE} {pos p2:Pos}
theorem Vals.rev {xs:List V} {us:List Value} (r:Vals xs us):Vals xs.reverse us.reverse:=by
 induction r with
 | nil=>exact .nil
 | cons r1 r2 ih =>
  rw [List.reverse_cons,List.reverse_cons]
  exact ih.append (.cons r1 .nil)
end
end L2
namespace CI
open PySem PySem.Spec PyProof.Rows L2
section
variable {X:Cx} {pins:List (Addr × Obj)} {σ:L2.St} {H H':Hp} {s:Shared} {h':Heap} {a C:Addr}
theorem obj_there {P:Program} {w:World} {h:Heap} {b:Addr} {o:HO} (x:ObjOk P w H h b o):∃ ob,h.get? b=some ob:=by
 cases o with
 | lst xs=>obtain ⟨_,_,_,_,e⟩:=x; exact ⟨_,e⟩
 | tup xs=>obtain ⟨_,_,_,ob,e,_⟩:=x; exact ⟨_,e⟩
 | dK kvs=>obtain ⟨_,_,_,_,o,_,_,e,_⟩:=x; exact ⟨_,e⟩
 | dT kvs=>obtain ⟨_,_,_,_,o,_,_,e,_⟩:=x; exact ⟨_,e⟩
 | set S n=>obtain ⟨o,_,_,_,e,_⟩:=x; exact ⟨_,e⟩
 | ins C dx fs=>obtain ⟨_,_,_,e,_⟩:=x; exact ⟨_,e⟩
 | own y=>obtain ⟨_,e⟩:=x; exact ⟨_,e⟩
 | xd fs=>obtain ⟨_,⟨_,_,_,e,_⟩,_⟩:=x; exact ⟨_,e⟩
 | rng lo hi=>obtain ⟨_,_,_,e⟩:=x; exact ⟨_,e⟩
 | frz ob u=>obtain ⟨e,_⟩:=x; exact ⟨_,e⟩
 | tbl ps=>exact ⟨_,show h.get? b=some _ from x⟩
 | met f y=>exact ⟨_,show h.get? b=some _ from x⟩
 | ext φ=>obtain ⟨_,⟨_,e⟩,_⟩:=x; exact ⟨_,e⟩
 | dls cs=>obtain ⟨_,⟨_,_,_,e⟩,_⟩:=x; exact ⟨_,e⟩
theorem fp_new (I:Inv X pins σ H s) {b:Addr} (hb:s.heap.get? b=none) (hn:H' b=none):FpOk X pins H' b:=by
 refine ⟨hn,λz=>?_,λz=>?_, ?_,λx c e z=>?_,λp hp z=>?_⟩
 ·obtain ⟨m,⟨o,_,_,ho,_⟩,_⟩:=I.loc
  rw [← z,hb] at ho; cases ho
 ·obtain ⟨_,o,ho,_⟩:=I.funs.mem z
  rw [hb] at ho; cases ho
 ·by_cases hx:b∈X.ex
  ·exact .inl hx
  ·refine .inr ?_
   cases q:X.s₀.heap.get? b with
   | none=>rfl
   | some o =>
    obtain ⟨o',e⟩:=I.base.there b o q hx
    rw [hb] at e; cases e
 ·obtain ⟨v,o,ho,_⟩:=I.cell x c e
  rw [z,hb] at ho; cases ho
 ·have:=(I.pin p hp).1
  rw [z,hb] at this; cases this
theorem free_new (I:Inv X pins σ H s) {b:Addr} (hb:s.heap.get? b=none):H b=none:=by
 cases q:H b with
 | none=>rfl
 | some u =>
  obtain ⟨ob,e⟩:=obj_there (I.hok b u q)
  rw [hb] at e; cases e
theorem inv_moved {as:List Addr} (I:Inv X pins σ H s) (fp:∀ b∈as,FpOk X pins H b) (k:(PySem.W.hideAll s.heap (as ++ frs X.stack)).StaysIn h')
  (sl:∀ b o,s.heap.get? b=some o→(∀ vs,o.data≠.fields vs)→∃ sl,h'.get? b=some { o with slots:=sl }):Inv X pins σ H { s with heap:=h' }:=by
 have kp:∀ b o,b ∉ as→b ∉ frs X.stack→s.heap.get? b=some o→h'.get? b=some o:=λb o h1 h2 e=>k b o (PySem.W.hideAll_get _ e (by simp [h1,h2]))
 have tr:∀ b u,H b=some u→b ∉ as∧b ∉ frs X.stack:=λb u e=>⟨(λz=>by rw [(fp b z).1] at e; cases e),(λz=>by rw [I.stkFree b z] at e; cases e)⟩
 have fr:∀ b∈frs X.stack,∀ o,s.heap.get? b=some o→∃ sl,h'.get? b=some { o with slots:=sl }:=λb hb o e=>by
  obtain ⟨_,o',e',nf⟩:=I.stack.mem hb
  rw [e] at e'; cases e'
  exact sl b o e nf
 have hok:HOk X.prog X.w H h':=λb u e=>(I.hok b u e).stay (λc v hc q=>by
  have z:c ∉ as∧c ∉ frs X.stack:=by
   rcases hc with rfl | hc
   ·exact tr _ u e
   ·exact tr c _ hc
  exact kp c v z.1 z.2 q) (λ_ q=>q) λ_ _ q=>q
 have u:Un (frs X.stack) as H H s.heap h':=⟨λb o e n hf hx=>kp b o hx hf e,λb o e n hf hx=>fr b hf o e,λb o e n hx=>n,λb o e hx=>by
  by_cases hf:b∈frs X.stack
  ·obtain ⟨_,z⟩:=fr b hf o e; exact ⟨_,z⟩
  ·exact ⟨o,kp b o hx hf e⟩,λ_ _ e=>e,λ_ _ _ e=>e,λb ps e=>⟨#[],by rw [e]; simp⟩⟩
 exact I.call (g':=s.gens) (t':=s.toks) (d':=s.drawn) (ch:=as) u hok I.bare λb hb=>⟨(fp b hb).2.2.2.1,(fp b hb).2.1,(fp b hb).2.2.2.2.1,(fp b hb).2.2.2.2.2⟩
def TrO (X:Cx) (pins:List (Addr × Obj)) (H:Hp) (h:Heap) (a C:Addr) (p:Option Addr) (fl:Value):Prop :=
 ∃ oe vs a0 T oT ts,h.get? a=some oe∧(oe.cls=.ref C∧oe.dict=p)∧oe.data=.fields vs∧vs[0]?=some a0∧FpOk X pins H T∧vs[1]?=some (.ref T)∧T≠a∧h.get? T=some oT∧oT.data=.fields ts∧ts[3]?=some fl
def MdO (h:Heap) (a C:Addr) (p:Option Addr):Prop:=∃ oe vs a0,h.get? a=some oe∧(oe.cls=.ref C∧oe.dict=p)∧oe.data=.fields vs∧vs[0]?=some a0∧vs[1]?=some .none
def FlyO (X:Cx) (pins:List (Addr × Obj)) (H:Hp) (h:Heap) (a C:Addr) (p:Option Addr):Prop:=FpOk X pins H a∧(MdO h a C p∨∃ fl,TrO X pins H h a C p fl)
theorem new_fp (I:Inv X pins σ H s) {as:List Addr} (fp:∀ b∈as,FpOk X pins H b) {T:Addr} {oT:Obj} {ts:Array Value} (hB:(PySem.W.hideAll s.heap (as ++ frs X.stack)).get? T=none) (hT:h'.get? T=some oT) (hd:oT.data=.fields ts)
  (sl:∀ b o,s.heap.get? b=some o→(∀ vs,o.data≠.fields vs)→∃ sl,h'.get? b=some { o with slots:=sl }):FpOk X pins H T:=by
 by_cases h1:T∈as
 ·exact fp T h1
 ·by_cases h2:T∈frs X.stack
  ·obtain ⟨_,o,e,nf⟩:=I.stack.mem h2
   obtain ⟨sl',e'⟩:=sl T o e nf
   rw [hT] at e'; cases e'
   exact absurd hd (nf ts)
  ·have hn:s.heap.get? T=none:=by
    cases q:s.heap.get? T with
    | none=>rfl
    | some o=>rw [PySem.W.hideAll_get _ q (by simp [h1,h2])] at hB; cases hB
   exact fp_new I hn (free_new I hn)
theorem frames_hid (I:Inv X pins σ H s) (as:List Addr):s.heap.FunFrames (PySem.W.hideAll s.heap (as ++ frs X.stack)) X.stack :=
 PySem.W.funFrames_hide I.stack λenv he b hb=>List.mem_append_right _ (List.mem_filterMap.mpr ⟨env,he,hb⟩)
def TrcP (h base:Heap) (e:Addr) (cls:Value) (p:Option Addr) (a0 fl:Value):Prop :=
 ∃ oe vs T oT ts,h.get? e=some oe∧((oe.cls=cls∧oe.dict=p)∧vs[0]?=some a0)∧oe.data=.fields vs∧vs[1]?=some (.ref T)∧base.get? T=none∧T≠e∧h.get? T=some oT∧oT.data=.fields ts∧ts[3]?=some fl
def NtdP (base:Heap) (e:Addr) (cls:Value) (p:Option Addr) (a0 fl:Value) (h h':Heap):Prop:=base.StaysIn h'∧TrcP h' base e cls p a0 fl∧∀ b o,h.get? b=some o→(∀ vs,o.data≠.fields vs)→∃ sl,h'.get? b=some { o with slots:=sl }
theorem dict_mapF (f:Array Value→Array Value) (o:Obj):(Obj.mapFields f o).dict=o.dict:=by obtain ⟨_,_,dt,_⟩:=o; cases dt <;> rfl
theorem trO_of (I:Inv X pins σ H s) {as:List Addr} (fp:∀ b∈as,FpOk X pins H b) {p:Option Addr} {a0 fl:Value} (t:TrcP h' (PySem.W.hideAll s.heap (as ++ frs X.stack)) a (.ref C) p a0 fl)
  (sl:∀ b o,s.heap.get? b=some o→(∀ vs,o.data≠.fields vs)→∃ sl,h'.get? b=some { o with slots:=sl }):TrO X pins H h' a C p fl:=by
 obtain ⟨oe,vs,T,oT,ts,he,⟨hc,h0⟩,hd,h1,hB,hne,hT,hdT,h3⟩:=t
 exact ⟨oe,vs,a0,T,oT,ts,he,hc,hd,h0,new_fp I fp hB hT hdT sl,h1,hne,hT,hdT,h3⟩
variable {M:Model} {A:Around} {E:Value→Shared→Prop} {Q:Unit→Shared→Prop}
theorem entryP {base:Heap} {env:Env} {outer:List Env} {L e:Addr} {oe:Obj} {vs:Array Value} {head a0:Value} {nx:Bool} (hfr:A.frames=some (env :: outer)) (hl:s.heap.FunFrames base (env :: outer)) (hf:env.frame=some L)
  (he:s.heap.get? e=some oe) (hkb:base.StaysIn s.heap) (hen:base.get? e=none) (hd:oe.data=.fields vs) (hsz:1<vs.size) (h0:vs[0]?=some a0)
  (h:∀ h',NtdP base e oe.cls oe.dict a0 (rawInt L) s.heap h'→Q () { s with heap:=h' }) :
  wpAny M A (do let a ← frameOf env; let pl ← entryPlaceOf L nx; let b ← EntryCells.newEntry head a .none (rawInt L) .none pl; setField (.ref e) 1 b) Q E s:=by
 have nof:∀ b o,s.heap.get? b=some o→(∀ vs,o.data≠.fields vs)→b≠e:=λb o hb nf z=>by rw [z,he] at hb; cases hb; exact nf vs hd
 have hene:e ∉ (env :: outer).filterMap (·.frame):=λhm=>by obtain ⟨_,o,ho,nf⟩:=hl.mem hm; exact nof e o ho nf rfl
 refine wpAny_bind (wpAny_frameOf_fun hfr hl hf λh₁ hs₁=>wpAny_bind (wpAny_entryPlaceOf λpl hpl=>?_))
 have he₁:h₁.get? e=some oe:=(hs₁.2.1 e hene).trans he
 have kb₁:base.StaysIn h₁:=λb o hbo=>(hs₁.2.1 b λhm=>by rw [(hl.mem hm).1] at hbo; cases hbo).trans (hkb b o hbo)
 unfold EntryCells.newEntry newFields
 refine wpAny_bind (wpAny_newObj_type ?_ (hpl.sizeOk5 _ _ _ _ _))
 generalize hoT:({ cls:=.type "traceback",dict:=none,data:=.fields ([head,.ref L,.none,rawInt L,.none] ++ (if pl.isEmpty then List.replicate 6 Value.none else pl)).toArray }:Obj)=oT
 have hTd:oT.data=.fields ([head,.ref L,.none,rawInt L,.none] ++ (if pl.isEmpty then List.replicate 6 Value.none else pl)).toArray:=by rw [← hoT]
 have he₂:=Heap.get?_push_of_some (h:=h₁) oT he₁
 refine wpAny_setField he₂ hd hsz (h _ ?_)
 have hTe:h₁.objs.size≠e:=Nat.ne_of_gt (Heap.lt_size he₁)
 have hd₃:=Obj.data_mapFields hd (·.setIfInBounds 1 (Value.ref h₁.objs.size))
 have keep:∀ b o,b≠e→h₁.get? b=some o→((h₁.push oT).update e (Obj.mapFields (·.setIfInBounds 1 (Value.ref h₁.objs.size)))).get? b=some o:=λb o hbe hb=>(Heap.get?_update_other _ _ (Ne.symm hbe)).trans (Heap.get?_push_of_some _ hb)
 refine ⟨λb o hbo=>keep b o (λq=>by rw [q,hen] at hbo; cases hbo) (kb₁ b o hbo), ?_,λb o hb hnf=>?_⟩
 ·exact ⟨_,_,h₁.objs.size,_,_,Heap.get?_update_self _ he₂ (Obj.isFreed_of_fields hd₃),⟨⟨Obj.cls_mapFields _ _,dict_mapF _ _⟩,by rw [Array.getElem?_setIfInBounds_ne (by decide)]; exact h0⟩,hd₃,by simp [hsz],kb₁.fresh,hTe,(Heap.get?_update_other _ _ (Ne.symm hTe)).trans (Heap.get?_push_size h₁ (Obj.isFreed_of_fields hTd)),hTd,by first | (simp; done) | (rcases hpl with rfl | ⟨_,_,_,_,_,_,_,rfl⟩ <;> simp)⟩
 ·obtain ⟨sl,hs⟩:=hs₁.2.2 b o hb
  exact ⟨sl,keep b _ (nof b o hb hnf) hs⟩
theorem note_on {base:Heap} {env:Env} {outer:List Env} {L e:Addr} {cls a0 fl:Value} {p:Option Addr} (hfr:A.frames=some (env :: outer)) (hl:s.heap.FunFrames base (env :: outer)) (hf:env.frame=some L) (ht:TrcP s.heap base e cls p a0 fl) (hn:¬ (fl == rawInt L)=true) (hkb:base.StaysIn s.heap) (hen:base.get? e=none)
  (h:∀ h',NtdP base e cls p a0 (rawInt L) s.heap h'→Q () { s with heap:=h' }):wpAny M A (noteFrame (.ref e) env) Q E s:=by
 obtain ⟨oe,vs,T,oT,ts,he,⟨⟨rfl,rfl⟩,h0⟩,hd,h1,hnT,hTe,hT,hdT,h3⟩:=ht
 unfold noteFrame
 simp only [hf]
 refine wpAny_bind (wpAny_field he hd h1 ?_)
 rw [if_pos (show (Value.ref T != Value.none)=true from by simp)]
 refine wpAny_bind (wpAny_field hT hdT h3 ?_)
 rw [if_neg hn]
 refine wpAny_bind (wpAny_setField hT hdT (Array.getElem?_eq_some_iff.mp h3).1 ?_)
 have other:∀ b,b≠T→(s.heap.update T (Obj.mapFields (·.setIfInBounds 3 Value.none))).get? b=s.heap.get? b:=λb hb=>Heap.get?_update_other _ _ (Ne.symm hb)
 have noRecord:∀ b o,s.heap.get? b=some o→(∀ vs,o.data≠.fields vs)→b≠T:=λb o hb hnf q=>by
  rw [q,hT] at hb; injection hb with hb; subst hb; exact hnf ts hdT
 refine entryP hfr (hl.of_keeps λb o hb hnf=>⟨o,(other b (noRecord b o hb hnf)).trans hb,rfl⟩) hf ((other e (Ne.symm hTe)).trans he)
  (λb o hbo=>(other b λq=>by rw [q,hnT] at hbo; cases hbo).trans (hkb b o hbo)) hen hd (Array.getElem?_eq_some_iff.mp h1).1 h0
  λh' ⟨x1,x3,x4⟩=>h h' ⟨x1,x3,λb o hb hnf=>x4 b o ((other b (noRecord b o hb hnf)).trans hb) hnf⟩
theorem note_ok (I:Inv X pins σ H s) {env:Env} {outer:List Env} {L:Addr} (hs:X.stack=env :: outer) (hf:env.frame=some L) {p:Option Addr} (F:FlyO X pins H s.heap a C p)
  (h:∀ h',Inv X pins σ H { s with heap:=h' }→TrO X pins H h' a C p (rawInt L)→Q () { s with heap:=h' }):wpAny M X.A (noteFrame (.ref a) env) Q E s:=by
 have hfr:X.A.frames=some (env :: outer):=by rw [← hs]; exact I.ok.frames
 obtain ⟨fa,F⟩:=F
 rcases F with ⟨oe,vs,a0,he,hc,hd,h0,h1⟩ | ⟨fl,oe,vs,a0,T,oT,ts,he,hc,hd,h0,fT,h1,hne,hT,hdT,h3⟩
 ·have fp:∀ b∈[a],FpOk X pins H b:=λb hb=>by rw [List.mem_singleton.mp hb]; exact fa
  have hl:=frames_hid I [a]
  rw [hs] at hl
  unfold noteFrame
  simp only [hf]
  refine wpAny_bind (wpAny_field he hd h1 ?_)
  rw [if_neg (by decide)]
  refine entryP hfr hl hf he (λb o e=>PySem.W.of_hideAll _ e) (PySem.W.hideAll_none _ (by simp)) hd (Array.getElem?_eq_some_iff.mp h1).1 h0 λh' N=>?_
  obtain ⟨k1,k3,k4⟩:=N
  rw [← hs] at k1 k3
  rw [hc.1,hc.2] at k3
  exact h h' (inv_moved I fp k1 k4) (trO_of I fp k3 k4)
 ·have fp:∀ b∈[a,T],FpOk X pins H b:=λb hb=>by
   rcases List.mem_cons.mp hb with rfl | hb
   ·exact fa
   ·rw [List.mem_singleton.mp hb]; exact fT
  have hl:=frames_hid I [a,T]
  rw [hs] at hl
  by_cases hfl:(fl == rawInt L)=true
  ·have hfl:=eq_of_beq hfl
   subst hfl
   exact wpAny_noteFrame_againW (base:=PySem.W.hideAll s.heap ([a,T] ++ frs (env :: outer))) hf ⟨oe,vs,T,oT,ts,he,⟨hc.1,h0⟩,hd,h1,PySem.W.hideAll_none _ (by simp),hne,hT,hdT,h3⟩ (h s.heap I ⟨oe,vs,a0,T,oT,ts,he,hc,hd,h0,fT,h1,hne,hT,hdT,h3⟩)
  refine note_on hfr hl hf ⟨oe,vs,T,oT,ts,he,⟨hc,h0⟩,hd,h1,PySem.W.hideAll_none _ (by simp),hne,hT,hdT,h3⟩ hfl (λb o e=>PySem.W.of_hideAll _ e) (PySem.W.hideAll_none _ (by simp)) λh' N=>?_
  obtain ⟨k1,k3,k4⟩:=N
  rw [← hs] at k1 k3
  exact h h' (inv_moved I fp k1 k4) (trO_of I fp k3 k4)
theorem flight_ok (I:Inv X pins σ H s) {fl:Value} {p:Option Addr} (fa:FpOk X pins H a) (F:TrO X pins H s.heap a C p fl)
  (h:∀ h',Inv X pins σ H { s with heap:=h' }→TrO X pins H h' a C p .none→Q () { s with heap:=h' }):wpAny M A (setFlight (.ref a) none) Q E s:=by
 obtain ⟨oe,vs,a0,T,oT,ts,he,hc,hd,h0,fT,h1,hne,hT,hdT,h3⟩:=F
 have fp:∀ b∈[a,T],FpOk X pins H b:=λb hb=>by
  rcases List.mem_cons.mp hb with rfl | hb
  ·exact fa
  ·rw [List.mem_singleton.mp hb]; exact fT
 have hsz3:3<ts.size:=(Array.getElem?_eq_some_iff.mp h3).1
 unfold setFlight
 refine wpAny_bind (wpAny_field he hd h1 ?_)
 rw [if_pos (show (Value.ref T != Value.none)=true from by simp)]
 refine wpAny_setField hT hdT hsz3 ?_
 have other:∀ b,b≠T→(s.heap.update T (Obj.mapFields (·.setIfInBounds 3 ((none:Option Addr).elim Value.none λf=>rawInt f)))).get? b=s.heap.get? b:=λb hb=>Heap.get?_update_other _ _ (Ne.symm hb)
 refine h _ (inv_moved I fp (λb o e=>?_) λb o e nf=>⟨o.slots, ?_⟩) ⟨oe,vs,a0,T,_,_,(other a (Ne.symm hne)).trans he,hc,hd,h0,fT,h1,hne,Heap.get?_update_self _ hT (Obj.isFreed_of_fields (Obj.data_mapFields hdT _)),Obj.data_mapFields hdT _,by simp [hsz3]⟩
 ·have hb:b≠T:=λz=>by rw [z,PySem.W.hideAll_none _ (by simp)] at e; cases e
  exact (other b hb).trans (PySem.W.of_hideAll _ e)
 ·have hb:b≠T:=λz=>by rw [z,hT] at e; cases e; exact nf ts hdT
  exact (other b hb).trans e
theorem leave_ok (I:Inv X pins σ H s) (hs:X.stack=X.env :: X.outer) (hf:X.env.frame=some X.env.locals) {p:Option Addr} (F:FlyO X pins H s.heap a C p)
  (h:∀ h',Inv X pins σ H { s with heap:=h' }→TrO X pins H h' a C p .none→Q () { s with heap:=h' }):wpAny M X.A (leaving X.env (.ref a)) Q E s:=by
 unfold leaving
 exact wpAny_bind (note_ok I hs hf F λh1 I1 F1=>flight_ok I1 F.1 F1 λh2 I2 F2=>h h2 I2 F2)
end
noncomputable def CX1 (P:Program) (w:World):CXT:=λouter H s E v s'=>∃ a C p H',v=.ref a∧s'.os=s.os∧AllBare s'.gens∧Un (frs outer) [] H H' s.heap s'.heap∧HOk P w H' s'.heap∧s.heap.get? a=none∧H' a=none ∧
 (∃ oe vs a0 T oT ts,s'.heap.get? a=some oe∧(oe.cls=.ref C∧oe.dict=p)∧oe.data=.fields vs∧vs[0]?=some a0∧s.heap.get? T=none∧H' T=none∧vs[1]?=some (.ref T)∧T≠a∧s'.heap.get? T=some oT∧oT.data=.fields ts∧ts[3]?=some .none)∧E (.ref C) p H'
theorem cx_leave {P:Program} {w:World} {K:PySem.W.Frag} {mg:Str→Option Value} {base:Heap} {N:List Str} {qual:Str} {scope:Scope} {f:Addr} {cd:Value} {A:Around} {outer:List Env} {s₀:Shared} {H₀:Hp} {E:XK}
  {pins:List (Addr × Obj)} {σ:L2.St} {H:Hp} {s:Shared} {a C:Addr} {p:Option Addr} (I:Inv (cxOf (CX1 P w) P w K mg base N qual scope f cd A outer s₀ H₀ E) pins σ H s) (F:FlyO (cxOf (CX1 P w) P w K mg base N qual scope f cd A outer s₀ H₀ E) pins H s.heap a C p) (h:E (.ref C) p H) :
  (cxOf (CX1 P w) P w K mg base N qual scope f cd A outer s₀ H₀ E).xe (.ref a) s:=by
 refine leave_ok I rfl rfl F λh' I2 F2=>?_
 obtain ⟨oe,vs,a0,T,oT,ts,he,hc,hd,h0,fT,h1,hne,hT,hdT,h3⟩:=F2
 have nn:∀ b,FpOk (cxOf (CX1 P w) P w K mg base N qual scope f cd A outer s₀ H₀ E) pins H b→s₀.heap.get? b=none:=λb fb=>by
  rcases fb.2.2.2.1 with z | z
  ·exact absurd (show b∈([]:List Addr) from z) (by simp)
  ·exact z
 exact ⟨a,C,p,H,rfl,I2.os,I2.bare,I2.base,I2.hok,nn a F.1,F.1.1,⟨oe,vs,a0,T,oT,ts,he,hc,hd,h0,nn T fT,fT.1,h1,hne,hT,hdT,h3⟩,h⟩
section
variable {X:Cx} {pins:List (Addr × Obj)} {σ:L2.St} {H:Hp} {s s':Shared}
theorem cx_after {E:XK} {v:Value} (I:Inv X pins σ H s) (h:CX1 X.prog X.w X.stack H s E v s'):∃ a C p H',v=.ref a∧Inv X pins σ H' s'∧FlyO X pins H' s'.heap a C p∧E (.ref C) p H':=by
 obtain ⟨a,C,p,H',rfl,os,bare,un,hok,na,ha,⟨oe,vs,a0,T,oT,ts,he,hc,hd,h0,nT,hT0,h1,hne,hT,hdT,h3⟩,e⟩:=h
 refine ⟨a,C,p,H',rfl,I.call' (ch:=[]) os un hok bare (λb z=>absurd z (by simp)),⟨fp_new I na ha,.inr ⟨_,oe,vs,a0,T,oT,ts,he,hc,hd,h0,fp_new I nT hT0,h1,hne,hT,hdT,h3⟩⟩,e⟩
theorem run_fnX {k:Nat} {f:Addr} {fd:FuncData} {ps:List Str} {sp:Sp} {E:XK} {Q:VK} {us:List Value} {vs:List V} (F:FnOk X.prog X.w X.K X.mg X.base (CX1 X.prog X.w) k f fd ps sp) (hr:Room k X.A) (hb:Binds X.K fd ps [])
  (I:Inv X pins σ H s) (r:Vals vs us) (h:sp vs H Q E) (hx:∀ pins a C p H' s',Inv X pins σ H' s'→FlyO X pins H' s'.heap a C p→E (.ref C) p H'→X.xe (.ref a) s'):wpAny (model X.prog X.w) X.A (call (.ref f) us) (EP X pins σ Q) X.xe s:=by
 have hl:us.length=ps.length:=by rw [← r.length]; exact F.len _ _ _ _ h
 have hb':=hb s us I.kIn (by rw [List.append_nil]; exact hl)
 rw [List.append_nil] at hb'
 refine wpAny_call (codeAny_mono (F.run X.A X.stack s H ⟨us,[]⟩ us vs Q E hr I.env0 hb' r h) λr s' hq=>?_)
 cases r with
 | error e =>
  obtain ⟨a,C,p,H',rfl,I',F',e'⟩:=cx_after I hq
  exact hx pins a C p H' s' I' F' e'
 | ok fl =>
  cases fl with
  | ret u=>exact I.after hq
  | next=>exact False.elim hq
  | brk=>exact False.elim hq
  | cont=>exact False.elim hq
noncomputable def tCallX (X:Cx) (sp:Sp) (t:TA):TE:=λσ H Q=>t σ H λvs H1=>∃ E:XK,sp vs H1 Q E∧∀ pins a C p H' s',Inv X pins σ H' s'→FlyO X pins H' s'.heap a C p→E (.ref C) p H'→X.xe (.ref a) s'
theorem pe_callX {k:Nat} {f:Addr} {fd:FuncData} {ps:List Str} {sp:Sp} {x:Str} {p pos:Pos} {e:Expr} {es:List Expr} {t:TA} (F:FnOk X.prog X.w X.K X.mg X.base (CX1 X.prog X.w) k f fd ps sp) (hr:Room k X.A) (hg:Gl X x) (hm:X.mg x=some (.ref f)) (hk:PySem.W.keepIn X.K (.ref f)=true) (hb:Binds X.K fd ps [])
  (ha:PA X (e :: es) t) (hdb:(x == ("__debug__":Str))=false) (he:starEach (e :: es) X.env=(false,eval e X.env) :: starEach es X.env) (hpl:(backTo pos (starEach es X.env)).any (·.1)=false) :
  PE X (.Call (.Name x p) (e :: es) [] pos) (tCallX X sp t):=by
 intro pins s σ H Q I h
 refine wpAny_Call_Name_kw (ld_glob I hg hm ?_ hdb)
 refine PySem.W.callWith_K (h₀:=X.base) I.ok.mod.kin hk (thn (ha pos pins s σ H _ I h) λus s1 ⟨vs,H1,I1,r,E,q,hx⟩=>⟨I1.kIn, ?_⟩) he hpl
 exact run_fnX F hr hb I1 r q hx
end
abbrev bmV:List Value:=[.type "ValueError",.type "Exception",.type "BaseException",.type "object"]
def ExcP (K:PySem.W.Frag) (C:Addr) (i:Option Value):Prop:=∃ (tl:List Value) (N:Addr),(∀ v,PySem.W.mroIn K C v=some ((Value.ref C :: tl).contains v)) ∧
  ∀ {h:Heap},K.In h→∃ (nm qn:Str) (bs:List Value) (hd:Bool) (sn:List Str) (sub:List Value) (ab:Bool) (col:Option Bool) (dd:Option Addr) (k0 k1 k2 k3 k5:Option Value),
   h.get? C=some (excClassObj nm qn C N bs tl hd sn sub ab col dd k0 k1 k2 k3 k5 "ValueError.__new__")∧h.Ns N (h.nsMap N)∧h.nsMap N "__init__"=i∧OwnTail h bmV tl
theorem exc_obj {K:PySem.W.Frag} {C:Addr} (q:PySem.W.excIn K C bmV "ValueError.__new__"=true):ExcP K C none:=by
 unfold PySem.W.excIn at q
 split at q
 ·rename_i dd cd sl lk
  split at q
  ·rename_i C' tl k0 k1 k2 k3 n' k5 e1 e2
   rw [Bool.and_eq_true,Bool.and_eq_true,Bool.and_eq_true,Bool.and_eq_true,Bool.and_eq_true] at q
   obtain ⟨⟨⟨⟨⟨q1,q2⟩,q3⟩,q4⟩,q5⟩,q6⟩:=q
   have q1:=beq_iff_eq.mp q1
   have q2:=beq_iff_eq.mp q2
   have q6:=beq_iff_eq.mp q6
   subst q1 q2
   refine ⟨tl,cd.ns,λv=>?_,λ{h} X=>?_⟩
   ·unfold PySem.W.mroIn PySem.W.clsIn
    rw [lk]
    simp only [Option.bind_some]
    rw [e1,if_neg (by simp)]
   ·refine ⟨cd.name,cd.qualname,cd.bases,cd.hasDict,cd.slotNames,cd.subclasses,cd.abstract,cd.collection,dd,k0,k1,k2,k3,k5, ?_,.of_isNs (PySem.W.isNs_of_in X q5),PySem.W.nsMap_none_of_in X q5 q6,PySem.W.tail_of_in X q4⟩
    rw [X _ _ lk]
    have e3:sl=#[k0,k1,k2,k3,some (.builtin "ValueError.__new__"),k5]:=Array.toList_inj.mp e2
    rw [e3]
    obtain ⟨c1,c2,c3,c4,c5,c6,c7,c8,c9,c10,c11⟩:=cd
    simp only [Bool.not_eq_true'] at q3
    simp only at e1
    subst e1 q3
    rfl
  ·cases q
 ·cases q
structure ExcN (K:PySem.W.Frag) (mg:Str→Option Value) (c:Str):Prop where
 ex:∃ C,PySem.W.nsIn K mainGlobals c=some (some (.ref C))∧mg c=some (.ref C)∧ExcP K C none
section
variable {X:Cx} {pins:List (Addr × Obj)} {σ:L2.St} {H:Hp} {s:Shared} {h':Heap} {a C:Addr}
noncomputable def tRaise (X:Cx) (C:Addr) (t:TA):TS:=λ_ σ H=>t σ H λvs H1=>vs.length≤sizeLine∧∀ pins a s',Inv X pins σ H1 s'→FlyO X pins H1 s'.heap a C none→X.xe (.ref a) s'
theorem ps_raise {x:Str} {np cpos pos:Pos} {e:Expr} {es:List Expr} {t:TA} (hh:X.A.handled=none) (hg:Gl X x) (hm:X.mg x=some (.ref C)) (q:ExcP X.K C none) (ha:PA X (e :: es) t)
  (hdb:(x == ("__debug__":Str))=false) (he:starEach (e :: es) X.env=(false,eval e X.env) :: starEach es X.env) (hpl:(backTo cpos (starEach es X.env)).any (·.1)=false) :
  PS X (.Raise (some (.Call (.Name x np) (e :: es) [] cpos)) none pos) (tRaise X C t):=by
 intro pins s σ H D I h
 obtain ⟨tl,N,_,k⟩:=q
 obtain ⟨nm,qn,bs,hd,sn,sub,ab,col,dd,k0,k1,k2,k3,k5,hC,hN,hni,T⟩:=k I.ok.mod.kin
 refine wpAny_Raise_call_subT (C:=C) (nm:=nm) (q:=qn) (N:=N) (bs:=bs) (bm:=tl) (hdct:=hd) (sn:=sn) (sub:=sub) (ab:=ab) (col:=col) (dd:=dd) (k0:=k0) (k1:=k1) (k2:=k2) (k3:=k3) (k5:=k5)
  PySem.F.excBase_ValueError (mN:=X.base.nsMap N) (T.hasType PySem.F.excBase_ValueError.hasBase) hh (by rw [he]; unfold backTo at *; rw [List.map_cons,List.any_cons,hpl]; rfl) hni (ld_glob I hg hm ⟨rfl, ?_⟩ hdb)
 have h2:=ha cpos pins s σ H _ I h
 rw [he] at h2 ⊢
 refine Calls.evalArgs_plain (wpAny_mono h2 (λus s2 h3=>?_) λ_ _ y=>y)
 obtain ⟨vs,H1,I1,r,hl,hx⟩:=h3
 refine ⟨rfl,by rw [← r.length]; exact hl,I1.bk _ _ hC,hN.keeps I1.bk,T.keeps I1.bk,λh' e hM=>?_⟩
 obtain ⟨t0,he0,_,_⟩:=hM.there
 have I2:Inv X pins σ H1 { s2 with heap:=h' }:=I1.kept (t':=s2.toks) hM.keeps
 exact hx pins e _ I2 ⟨fp_new I1 hM.new (free_new I1 hM.new),.inl ⟨_,_,_,he0,⟨rfl,rfl⟩,rfl,rfl,rfl⟩⟩
theorem excM {M:Model} {A:Around} {E:Value→Shared→Prop} {K:PySem.W.Frag} {D:Addr} {oe:Obj} {Q:Bool→Shared→Prop} {i j:Option Value} (X:K.In s.heap) (qC:ExcP K C i) (qD:ExcP K D j)
  (hm:PySem.W.mroIn K C (.ref D)=some true) (he:s.heap.get? a=some oe) (hc:oe.cls=.ref C) (h:Q true s):wpAny M A (excMatches (.ref a) (.ref D)) Q E s:=by
 obtain ⟨tl,N,m1,k⟩:=qC
 obtain ⟨nm,qn,bs,hd,sn,sub,ab,col,dd,k0,k1,k2,k3,k5,hC,hN,hni,T⟩:=k X
 obtain ⟨tl',N',m1',k'⟩:=qD
 obtain ⟨nm',qn',bs',hd',sn',sub',ab',col',dd',k0',k1',k2',k3',k5',hD,hN',hni',T'⟩:=k' X
 have b1:(Value.ref C :: tl).contains (.ref D)=true:=Option.some.inj ((m1 _).symm.trans hm)
 have b2:(Value.ref D :: tl').contains (.type "BaseException")=true:=by rw [List.contains_cons,T'.hasType (X:="BaseException") (b:=true) (by decide)]; rfl
 obtain ⟨hp,g,d,tk,os⟩:=s
 have f:=tc_notTuple
 unfold excMatches
 repeat (first | (with_reducible refine wpAny_loadPart_at he ?_; rw [hc]) | with_reducible refine wpAny_loadPart_at hD ?_ | (with_reducible refine wpAny_isSubtype_exc hC ?_; rw [b1]) | (with_reducible refine wpAny_isSubtype_exc hD ?_; rw [b2]) | wp_step)
 exact h
theorem inv_track {o:HO} (I:Inv X pins σ H s) (fa:FpOk X pins H a) (ok:ObjOk X.prog X.w (upd H a o) s.heap a o):Inv X pins σ (upd H a o) s:=by
 have ne:∀ {b:Addr} {u:HO},H b=some u→b≠a:=λq=>ne_of_none q fa.1
 have e1:∀ {b:Addr} {u:HO},H b=some u→upd H a o b=some u:=λq=>by rw [upd_ne (ne q)]; exact q
 have e0:∀ {b:Addr},b≠a→H b=none→upd H a o b=none:=λn q=>by rw [upd_ne n]; exact q
 refine ⟨I.ok,I.os,I.bare,⟨I.base.keep,I.base.slot,λb ob e n hx=>e0 (λz=>?_) (I.base.free b ob e n hx),I.base.there,λb xs e=>e1 (I.base.tups b xs e),λb ob u e=>e1 (I.base.frzs b ob u e),λb ps e=>?_⟩,I.loc,I.cell,e0 (Ne.symm fa.2.1) I.free,
  λx c e=>e0 (fa.2.2.2.2.1 x c e) (I.freeC x c e),λp hp=>?_,λb u e=>?_,I.len⟩
 ·rcases fa.2.2.2.1 with w | w
  ·exact hx (z ▸ w)
  ·rw [z,w] at e; cases e
 ·obtain ⟨more,z⟩:=I.base.tbls b ps e
  exact ⟨more,e1 z⟩
 ·obtain ⟨h1,h2,h3⟩:=I.pin p hp
  exact ⟨h1,e0 (fa.2.2.2.2.2 p hp) h2,h3⟩
 ·by_cases hb:b=a
  ·subst hb; rw [upd_same] at e; cases e; exact ok
  ·rw [upd_ne hb] at e
   exact (I.hok b u e).stay (λ_ _ _ q=>q) (λ_ q=>e1 q) λ_ _ q=>e1 q
theorem goes_ok {M:Model} {A:Around} {E:Value→Shared→Prop} {Q:Unit→Shared→Prop} {i:Nat} {x:Str} {pos:Pos} (I:Inv X pins σ H s) (hN:X.N.Nodup) (hi:X.N[i]?=some x) (hx:X.env.kindOf x=some .local)
  (h:∀ s',Inv X pins (σ.set i none) H s'→Q () s'):wpAny M A (do bindName X.env x .none; unbindBehindTheSuite X.env x pos) Q E s:=by
 obtain ⟨m,hn,hl⟩:=id I.loc
 refine wpAny_nameGoes_keeps hx hn (by rw [I.ok.kind]; rfl) λh' v hn' sb=>h _ ?_
 obtain ⟨oL,es,ep,hoL,_⟩:=id hn
 have lt0:∀ b ob,X.s₀.heap.get? b=some ob→b≠X.env.locals:=λb ob e=>Nat.ne_of_lt (Nat.lt_of_lt_of_le (Heap.lt_size e) I.ok.above)
 have kp:∀ {b:Addr} {ob:Obj},b≠X.env.locals→s.heap.get? b=some ob→h'.get? b=some ob:=λn e=>(sb.2 _ n).trans e
 refine ⟨I.ok,I.os,I.bare,⟨λb ob e n h1 h2=>kp (lt0 b ob e) (I.base.keep b ob e n h1 h2),λb ob e n h1 h2=>?_,I.base.free,λb ob e h2=>?_,I.base.tups,I.base.frzs,I.base.tbls⟩,⟨_,hn',λj y w e1 e2 e3=>?_⟩,λy c e=>?_,I.free,I.freeC,λp hp=>?_,λb u e=>?_,by rw [List.length_set]; exact I.len⟩
 ·obtain ⟨sl,z⟩:=I.base.slot b ob e n h1 h2
  exact ⟨sl,kp (lt0 b ob e) z⟩
 ·obtain ⟨o',z⟩:=I.base.there b ob e h2
  exact ⟨o',kp (lt0 b ob e) z⟩
 ·by_cases hj:j=i
  ·subst hj
   by_cases hlt:j<σ.length
   ·rw [List.getElem?_set_self hlt] at e2; cases e2
   ·rw [List.getElem?_eq_none (by rw [List.length_set]; omega)] at e2; cases e2
  ·rw [List.getElem?_set_ne (Ne.symm hj)] at e2
   obtain ⟨u,r,lk⟩:=hl j y w e1 e2 e3
   refine ⟨u,r, ?_⟩
   rcases lk with ⟨k1,k2⟩ | ⟨k1,c,k2,oc,k3,k4⟩
   ·refine .inl ⟨k1, ?_⟩
    have ny:y≠x:=λz=>hj (nodup_ix hN e1 (z ▸ hi))
    simp [ny,k2]
   ·exact .inr ⟨k1,c,k2,oc,kp (I.cne y c k2) k3,k4⟩
 ·obtain ⟨w,oc,k3,k4⟩:=I.cell y c e
  exact ⟨w,oc,kp (I.cne y c e) k3,k4⟩
 ·obtain ⟨k1,k2,k3,k4⟩:=I.pin p hp
  exact ⟨kp k3 k1,k2,k3,k4⟩
 ·have nl:∀ c w,H c=some w→c≠X.env.locals:=λc w z z'=>by rw [z',I.free] at z; cases z
  refine (I.hok b u e).stay (λc w hc q=>kp ?_ q) (λ_ q=>q) λ_ _ q=>q
  rcases hc with rfl | hc
  ·exact nl _ u e
  ·exact nl c _ hc
end
end CI
namespace CI
open PySem PySem.Spec PySem.Calls PyProof.Rows L2 PySem.W PySem.Builtin PySem.Builtin.ObjectAttr PySem.Builtin.Getset_descriptor
def ExcO (a C:Addr) (p:Option Addr) (h:Heap):Prop:=∃ oe vs,h.get? a=some oe∧(oe.cls=.ref C∧oe.dict=p)∧oe.data=.fields vs
theorem ExcO.ty {a C:Addr} {p:Option Addr} {h:Heap} {M:Model} (x:ExcO a C p h):Looks M h (typeOf (.ref a)) (.ref C):=by
 obtain ⟨oe,vs,e,c,_⟩:=x
 rw [← c.1]
 exact (Looks.ld e).andThen .now
structure ExcG (K:Frag) (C:Addr):Prop where
 q:∃ i,ExcP K C i
 ga:findIn K (.ref C) "__getattribute__"=some (some (.builtin "BaseException.__getattribute__"))
 no:findIn K (.ref C) "__getattr__"=some none
 cl:findIn K (.ref C) "__class__"=some (some (.builtin "object.__class__"))
 gt:specialIn K (.builtin "object.__class__") "__get__"=some (some (.builtin "getset_descriptor.__get__"))
 tk:takesIn K (.builtin "object.__class__")=some true
 mo:mroIn K C (.type "object")=some true
 mb:mroIn K C (.type "BaseException")=some true
 mv:mroIn K C (.type "ValueError")=some true
section
variable {prog:Program} {w:World} {A:Around} {E:Value→Shared→Prop} {s:Shared} {K:Frag} {a C:Addr} {p:Option Addr}
theorem exc_get {tp:Value} {R:Result→Shared→Prop} (X:K.In s.heap) (G:ExcG K C) (x:ExcO a C p s.heap) (h:R (.ok (.ret (.ref C))) s) :
  codeAny (model prog w) A (.call (.builtin "getset_descriptor.__get__") ⟨[.builtin "object.__class__",.ref a,tp],[]⟩) R s:=by
 obtain ⟨hh,g,dr,t,os⟩:=s
 have L0:=x.ty (M:=model prog w)
 have L1:=looks_mroIn (M:=model prog w) X G.mo
 refine codeAny_call_builtin KF.slot_gs.plain KF.entry_gs (KF.slot_gs.check _ _ _ _ _ _ _ _ KF.type_class (KF.args_gs _ _ _) ?_)
 unfold Builtin.«getset_descriptor.__get__»; unfold descrGet
 rw [dga_obj]
 refine wpAny_bind (wpAny_pure ?_)
 unfold descrGetter; unfold descrCheckInstance; unfold descrNameAndClass; unfold isInstance
 simp only [KF.owner_class]
 repeat lk
 refine ⟨Code.quiet_builtin _ (by decide +kernel),codeAny_builtin KF.entry_class ?_⟩
 unfold Builtin.«object.__class__»; unfold shownTypeOf
 repeat lk
 exact h
theorem exc_find {M:Model} {h:Heap} (X:K.In h) (G:ExcG K C):Looks M h (find (.ref a) (.ref C) "__class__") (.bind (.builtin "getset_descriptor.__get__") (.builtin "object.__class__")):=by
 have L3:=looks_takesIn (M:=M) X G.tk
 refine (looks_findIn X G.cl).andThen ((looks_specialIn X G.gt).andThen ?_)
 exact (show Looks M h (dataDescriptor? (some (.builtin "object.__class__")) (some (.builtin "getset_descriptor.__get__"))) (some (.builtin "getset_descriptor.__get__",.builtin "object.__class__")) from L3.andThen .now).andThen (Looks.tag .now)
theorem exc_entry {tk:Tok} {Q:Fin→Shared→Prop} (X:K.In s.heap) (G:ExcG K C) (x:ExcO a C p s.heap) (h:Q (.done (.ret (.ref C))) s) :
  wpAny (model prog w) A (Builtin.«object.__getattribute__» ⟨[.ref a,.str "__class__" tk],[]⟩) Q E s:=by
 obtain ⟨hh,g,dr,t,os⟩:=s
 have L0:=x.ty (M:=model prog w)
 have L1:=exc_find (M:=model prog w) (a:=a) X G
 repeat (any_goals (first | assumption | with_reducible refine Looks.at (by assumption) ?_ | wp_step))
 refine exc_get X G x ?_
 repeat (any_goals (first | assumption | wp_step))
theorem exc_check {v:Value} {Q:Unit→Shared→Prop} (X:K.In s.heap) (G:ExcG K C) (x:ExcO a C p s.heap) (h:Q () s):wpAny (model prog w) A (checkBuiltinCall "BaseException.__getattribute__" ⟨[.ref a,v],[]⟩) Q E s:=by
 obtain ⟨hh,g,dr,t,os⟩:=s
 have L0:=x.ty (M:=model prog w)
 have L3:=looks_mroIn (M:=model prog w) X G.mb
 have z:=PySem.F.args_bexc_ga (.ref a) v
 simp only [checkBuiltinCall,show builtinKind "BaseException.__getattribute__"=some .slot from by decide +kernel,show splitId "BaseException.__getattribute__"=some ("BaseException","__getattribute__") from by decide +kernel]
 refine wpAny_bind ?_
 unfold isInstance
 repeat (any_goals (first | assumption | with_reducible refine Looks.at (by assumption) ?_ | wp_step))
theorem exc_cls {Q:Option Value→Shared→Prop} (X:K.In s.heap) (G:ExcG K C) (x:ExcO a C p s.heap) (h:Q (some (.ref C)) { s with toks:=s.toks+1 }):wpAny (model prog w) A (getAttr? (.ref a) "__class__") Q E s:=by
 obtain ⟨hh,g,dr,t,os⟩:=s
 have L0:=x.ty (M:=model prog w)
 have L1:=looks_findIn (M:=model prog w) X G.ga
 have L2:=looks_findIn (M:=model prog w) X G.no
 have L3:=looks_mroIn (M:=model prog w) X G.mb
 have f3:=PySem.F.excAttr_ValueError.ga.bind (.ref a)
 unfold getAttr? getAttrBy? getAttrBy
 refine wpAny_bind (wpAny_mkText (wpAny_bind (wpAny_attempt (wpAny_holding (wpAny_bind (L0.at (wpAny_bind (L1.at ?_))))))))
 have n1:(onTheHeap (Value.ref C) && Value.builtin "BaseException.__getattribute__" == Value.builtin "object.__getattribute__")=false:=by rw [show (Value.builtin "BaseException.__getattribute__" == Value.builtin "object.__getattribute__")=false from by decide +kernel,Bool.and_false]
 dsimp only
 rw [if_neg (by rw [n1]; exact Bool.false_ne_true)]
 unfold getAttrByItsOwn
 repeat (any_goals (first | assumption | with_reducible refine Looks.at (by assumption) ?_ | wp_step))
 refine codeAny_call_builtin PySem.F.attr_ValueError.ga.plain PySem.F.entry_bexc_ga (exc_check (s:=⟨hh,g,dr,t+1,os⟩) X G x (exc_entry (s:=⟨hh,g,dr,t+1,os⟩) X G x ?_))
 repeat (any_goals (first | assumption | wp_step))
theorem kitx_exc (G:ExcG K C):KitX K (.ref a) (.ref C) (ExcO a C p) where
 ty:=λ_ _ _ x=>x.ty
 it:=λ_ _ X _=>by
  obtain ⟨_,tl,N,_,k⟩:=G.q
  obtain ⟨nm,qn,bs,hd,sn,sub,ab,col,dd,k0,k1,k2,k3,k5,hC,_⟩:=k X
  intro A' Q' E' s' k' q
  unfold isType loadHead
  exact wpAny_bind (wpAny_loadPart (k' _ _ hC) (wpAny_pure q))
 ne:=λh tp dd its n sl X htp=>by
  obtain ⟨_,tl,N,_,k⟩:=G.q
  obtain ⟨nm,qn,bs,hd,sn,sub,ab,col,dd,k0,k1,k2,k3,k5,hC,_⟩:=k X
  refine Bool.eq_false_iff.mpr λq=>?_
  have e:C=tp:=Value.ref.inj (beq_iff_eq.mp q)
  subst e
  rw [hC] at htp
  have z:=congrArg Obj.data (Option.some.inj htp)
  cases z
 ca:=λX x k=>exc_cls X G x k
theorem kit_verr (G:ExcG K C):kitOne K (.ref C) (.type "ValueError")=some true:=by
 unfold kitOne kitCls
 rw [if_neg (by simp)]
 show (if kitMeta "ValueError"=true then subIn K (.ref C) (.type "ValueError") else none)=some true
 rw [if_pos (by decide +kernel)]
 exact G.mv
theorem kit_not {D:Addr} (e:kin_not K C D=true):kitOne K (.ref C) (.ref D)=some false:=by
 unfold kin_not at e
 rw [Bool.and_eq_true,Bool.and_eq_true,Bool.and_eq_true] at e
 obtain ⟨⟨⟨e0,e1⟩,e2⟩,e3⟩:=e
 unfold kitOne kitCls
 rw [if_neg (λz=>of_decide_eq_true e0 (Value.ref.inj (beq_iff_eq.mp z)))]
 show (if ((clsIn K D).isSome && typeIn K (.ref D) == some (.type "type"))=true then subIn K (.ref C) (.ref D) else none)=some false
 rw [if_pos (by rw [e1,e2]; rfl)]
 exact beq_iff_eq.mp e3
theorem kit_is {D:Addr} (e:isIn K (.ref C) D=true):kitOne K (.ref C) (.ref D)=some true:=by
 unfold isIn at e
 unfold kitOne kitCls
 by_cases h:(Value.ref C == Value.ref D)=true
 ·rw [if_pos h]
 ·rw [if_neg h]
  rw [Bool.or_eq_true] at e
  rcases e with e | e
  ·exact absurd e h
  ·rw [Bool.and_eq_true,Bool.and_eq_true,Bool.and_eq_true] at e
   obtain ⟨⟨⟨e1,e2⟩,_⟩,e3⟩:=e
   show (if ((clsIn K D).isSome && typeIn K (.ref D) == some (.type "type"))=true then subIn K (.ref C) (.ref D) else none)=some true
   rw [if_pos (by rw [e1,e2]; rfl)]
   exact beq_iff_eq.mp e3
end
end CI
namespace CI
open PySem PySem.Spec PyProof.Rows L2
section
variable {prog:Program} {w:World} {A:Around} {E:Value→Shared→Prop} {h:Heap} {g:Array GenState} {d:Drawn} {t:Nat} {os:OsState}
variable {nm q:Str} {C N:Addr} {bs bm bmB:List Value} {hdct:Bool} {sn:List Str} {sub:List Value} {ab:Bool} {col:Option Bool} {dd:Option Addr} {k0 k1 k2 k3 k5:Option Value} {B Bn newId nid initId inN:String} {bmN:List Value}
end
section
open PySem.W PySem.Builtin PySem.Builtin.ObjectAttr
variable {prog:Program} {w:World} {A:Around} {E:Value→Shared→Prop} {s:Shared} {K:Frag} {x C:Addr}
def xover:List Value→Bool
 | .ref _ :: r=>xover r
 | l=>l == bmV
structure ExcS (K:Frag) (C:Addr) (f:Str):Prop where
 ov:(clsIn K C).any (λcd=>xover cd.mro && cd.hasDict)=true
 sa:findIn K (.ref C) "__setattr__"=some (some (.builtin "object.__setattr__"))
 na:findIn K (.ref C) f=some none
end
section
variable {prog:Program} {w:World} {A:Around} {E:Value→Shared→Prop} {h:Heap} {g:Array GenState} {d:Drawn} {t:Nat} {os:OsState}
variable {nm q:Str} {C N:Addr} {bs bm:List Value} {hdct:Bool} {sn:List Str} {sub:List Value} {ab:Bool} {col:Option Bool} {dd:Option Addr} {k0 k1 k2 k3 k5:Option Value}
end
section
variable {X:Cx} {pins:List (Addr × Obj)} {σ:L2.St} {H:Hp} {s:Shared} {a C:Addr}
end
section
variable {X:Cx} {pins:List (Addr × Obj)} {σ:L2.St} {H:Hp} {s:Shared} {a C:Addr}
end
end CI
namespace L2
open PySem PySem.Spec PyProof.Rows
noncomputable def Its (x:Str):It:=⟨λi _=>i<x.cps.size,λi H v H'=>H'=H∧∃ c,x.cps[i]?=some c∧v=.str ⟨#[c]⟩,λi _=>x.cps.size≤i⟩
section
variable {X:Cx} {tg:Expr}
end
end L2
namespace CI
open PySem
inductive D where
 | non | bl (b:Bool) | int (i:Int) | str (x:Str) | tup (ds:List D) | lst (ds:List D)
 | ins (c:Str) (ns:List Str) (ds:List D) | dct (kvs:List (Int × Int)) | exn (c:Str) (n:Option Int) | dcs (ks:List L2.GKey) (ds:List D) | dl (ds:List D)
 deriving Inhabited
inductive RV where
 | sh (d:D) | ow (d:D) | od (d:D)
def RV.d:RV→D
 | .sh d=>d
 | .ow d=>d
 | .od d=>d
def RV.low:RV→RV
 | .od d=>.ow d
 | v=>v
inductive Sl where
 | un | mv | sh (d:D) | ow (d:D) (pin lk:Bool)
def Sl.get:Sl→Option D
 | .un=>none
 | .mv=>none
 | .sh d=>some d
 | .ow d _ _=>some d
structure Exc where
 cls:Str
 num:Option Int
inductive Out (α:Type) where
 | ok (a:α) | ex (e:Exc)
abbrev Env:=List Sl
abbrev Res (α:Type):=Option (Out α × Env)
noncomputable def Res.bind {α β:Type} (r:Res α) (f:α→Env→Res β):Res β :=
 match r with
 | none=>none
 | some (.ex e,ρ)=>some (.ex e,ρ)
 | some (.ok a,ρ)=>f a ρ
inductive Hd where
 | slot (i:Nat) | val (v:RV)
def Hd.get (h:Hd) (ρ:Env):Option D :=
 match h with
 | .slot i=>(ρ[i]?).bind Sl.get
 | .val v=>some v.d
noncomputable def getAll:List Hd→Env→Option (List D)
 | [],_=>some []
 | h :: r,ρ=>(h.get ρ).bind λd=>(getAll r ρ).map (d :: ·)
inductive Ty where
 | int | bool | str | list | tuple | dict | cls (c:Nat) | verr
inductive BI where
 | len | abs | int | list | tuple | min | max | all | repr | str | sorted
 deriving DecidableEq
inductive ItK where
 | rng | of | enum (lo:Int) | sig
 deriving DecidableEq
set_option genSizeOf false
set_option genInjectivity false
inductive E where
 | bad | omt
 | var (i:Nat)
 | con (d:D)
 | tup (es:List E) | lst (es:List E)
 | bin (op:Operator) (a b:E)
 | neg (a:E) | not (a:E)
 | cmp (op:CmpOp) (a b:E)
 | cmp2 (op op':CmpOp) (a b c:E)
 | and (a b:E) | or (a b:E)
 | ite (c a b:E)
 | ix (a i:E)
 | sl (a lo hi:E)
 | rev (a:E)
 | call (f:String) (args:List E)
 | bif (f:BI) (args:List E)
 | isi (a:E) (ts:List Ty)
 | isC (a:E) (s n:List Str)
 | isX (a:E) (sn:List (List Str × List Str))
 | app (i:Nat) (a:E)
 | ext (i:Nat) (a:E)
 | dict (kvs:List (Int × Int))
 | dict1 (k v:E)
 | insr (i:Nat) (k a:E) | popi (i:Nat) (k:E)
 | frz (i:Nat)
 | tmp (i:Nat) (a:E) | dlst (es:List E)
 | bitl (a:E)
 | mkset (a:E) | nset (a:E)
 | joi (s:Str) (a:E) | spl (i:Nat) (s:Str) | stw (i:Nat) (s:Str)
 | mkrng (es:List E) | lrng (es:List E)
 | fld (a:E) (f:Str)
 | xnm (args:List E)
 | make (c:Str) (ns:List Str) (args:List E)
 | meth (i:Nat) (m:Str) (tb:List (Str × String)) (args:List E)
 | methE (a:E) (m:Str) (tb:List (Str × String)) (args:List E)
 | comp (elt:E) (tg:List Nat) (k:ItK) (its:List E) (cond:List E) (imp:List Nat) (nl:Nat)
inductive S where
 | bad | pass | brk | cnt
 | asg (i:Nat) (e:E)
 | asgT (is:List Nat) (e:E)
 | set (i:Nat) (k e:E)
 | expr (e:E)
 | ret (e:E) | retN
 | ifs (c:E) (a b:List S)
 | for (tg:List Nat) (one:Bool) (k:ItK) (its:List E) (body:List S)
 | whl (c:E) (body:List S)
 | rse (c:Str) (args:List E)
 | rsi (c:Str) (args:List E)
 | tryA (body:List S) (cs:List Str) (i j:Nat)
 | tryB (body:List S) (cs:List Str) (i:Nat) (ss:List S)
 | tryN (body:List S) (cs:List Str)
 | tryO (body:List S)
 | aug (i:Nat) (e:E)
 | retD (elt:E) (tg:List Nat) (k:ItK) (its:List E) (imp:List Nat) (nl:Nat)
 | scr (i j:Nat) (e c:E)
 | dset (i:Nat) (c:Option Nat) (k e:E)
 | kif (i j:Nat) (e c:E)
set_option genInjectivity true
noncomputable def okD:Nat→D→Bool
 | _,.non=>true
 | _,.bl _=>true
 | _,.int _=>true
 | _,.str _=>true
 | n+1,.tup ds=>ds.all (okD n)
 | n+1,.lst ds=>ds.all (okD n)
 | _,_=>false
mutual
noncomputable def eqD:D→D→Bool
 | .non,.non=>true
 | .bl a,.bl b=>a == b
 | .bl a,.int b=>(if a then 1 else 0) == b
 | .int a,.bl b=>a == (if b then 1 else 0)
 | .int a,.int b=>a == b
 | .str a,.str b=>a == b
 | .tup a,.tup b=>eqDs a b
 | .lst a,.lst b=>eqDs a b
 | _,_=>false
noncomputable def eqDs:List D→List D→Bool
 | [],[]=>true
 | a :: as,b :: bs=>eqD a b && eqDs as bs
 | _,_=>false
end
noncomputable def cl (p:Prop):Decidable p:=Classical.propDecidable p
noncomputable section
noncomputable def truthD:D→Option Bool
 | .non=>some false
 | .bl b=>some b
 | .int i=>some (i != 0)
 | .str x=>@ite _ (x.length≤1000000) (cl _) (some ((x.length:Int) != 0)) none
 | .tup ds=>some (!ds.isEmpty)
 | .lst ds=>some (!ds.isEmpty)
 | _=>none
def smallL (n:Nat):Bool:=@decide (n≤1000000) (cl _)
noncomputable def binD:Operator→D→D→Option RV
 | .Add,.int i,.int j=>some (.sh (.int (i+j)))
 | .Sub,.int i,.int j=>some (.sh (.int (i - j)))
 | .Mult,.int i,.int j=>@ite _ ((-(2 ^ 64)<i∧i<2 ^ 64)∨(-(2 ^ 64)<j∧j<2 ^ 64)) (cl _) (some (.sh (.int (i*j)))) none
 | .FloorDiv,.int i,.int j=>@ite _ (0<j∧j<100000000000000000000000000000000000000000000000000000000000000000000000000000000) (cl _) (some (.sh (.int (i / j)))) none
 | .Mod,.int i,.int j=>@ite _ (0<j) (cl _) (some (.sh (.int (i % j)))) none
 | .Pow,.int i,.int j=>@ite _ (0≤j∧j≤1000∧i.natAbs<2 ^ 64) (cl _) (some (.sh (.int (i ^ j.toNat)))) none
 | .LShift,.int i,.int j=>@ite _ (0≤j∧j≤1000∧i.natAbs<2 ^ 64) (cl _) (some (.sh (.int (i*2 ^ j.toNat)))) none
 | .Add,.lst xs,.lst ys=>if smallL (xs.length+ys.length) then some (.ow (.lst (xs ++ ys))) else none
 | .Add,.tup [],.tup ys=>some (.sh (.tup ys))
 | .Add,.tup (x :: xs),.tup ys=>if smallL (xs.length+1+ys.length) then some (.sh (.tup (x :: xs ++ ys))) else none
 | .Mult,.lst xs,.int k=>@ite _ (-(2 ^ 31)≤k∧k≤1000∧smallL (xs.length*k.toNat)) (cl _) (some (.ow (.lst (List.replicate k.toNat xs).flatten))) none
 | _,_,_=>none
def flatD:D→Bool
 | .non=>true | .bl _=>true | .int _=>true | .str _=>true
 | _=>false
def inD (x:D) (ds:List D):Bool:=ds.any λy=>eqD y x
noncomputable def putI (kvs:List (Int × Int)) (n m:Int):List (Int × Int):=if (kvs.any λp=>decide (p.1=n))=true then kvs.map (λp=>if p.1=n then (p.1,m) else p) else kvs ++ [(n,m)]
def intsD:List D→Option (List Int)
 | []=>some []
 | .int i :: r=>(intsD r).map (i :: ·)
 | _=>none
def sk1:D→Option L2.SKey
 | .tup [.int t,.tup ds]=>(intsD ds).map λns=>(t,ns)
 | _=>none
noncomputable def skey:D→Option L2.GKey
 | .tup [.tup a,.tup b]=>(sk1 (.tup a)).bind λx=>(sk1 (.tup b)).map λy=>.inr (x,y)
 | d=>(sk1 d).map .inl
def hasK (ks:List L2.GKey) (k:L2.GKey):Bool:=ks.any λx=>decide (x=k)
def putKs (ks:List L2.GKey) (k:L2.GKey):List L2.GKey:=if hasK ks k then ks else ks ++ [k]
noncomputable def putVs {α:Type} (ks:List L2.GKey) (ds:List α) (k:L2.GKey) (d:α):List α:=if hasK ks k then (ks.zip ds).map (λp=>if p.1=k then d else p.2) else ds ++ [d]
noncomputable def cmpD:CmpOp→D→D→Option Bool
 | .Eq,x,y=>if okD 20 x && okD 20 y then some (eqD x y) else none
 | .NotEq,x,y=>if okD 20 x && okD 20 y then some (!eqD x y) else none
 | .Lt,.int i,.int j=>some (decide (i<j))
 | .LtE,.int i,.int j=>some (decide (i≤j))
 | .Gt,.int i,.int j=>some (decide (j<i))
 | .GtE,.int i,.int j=>some (decide (j≤i))
 | .Is,.bl a,.bl b=>some (a == b)
 | .Is,.non,.non=>some true
 | .Is,_,.non=>some false
 | .IsNot,.non,.non=>some false
 | .IsNot,_,.non=>some true
 | .In,x,.tup ds=>if flatD x && ds.all flatD then some (inD x ds) else none
 | .In,x,.lst ds=>if flatD x && ds.all flatD then some (inD x ds) else none
 | _,_,_=>none
def atD (ds:List D) (i:Int):Option D:=L2.atI ds i
noncomputable def ixD:D→D→Option D
 | .tup ds,.int i=>atD ds i
 | .lst ds,.int i=>atD ds i
 | .str x,.int i=>@ite _ (x.length≤1000000) (cl _) ((L2.atI x.cps.toList i).map λc=>.str ⟨#[c]⟩) none
 | _,_=>none
noncomputable def cutD (ds:List D) (lo hi:Option Int):List D:=(ds.drop (HT.sIx ds.length 0 lo)).take (HT.sIx ds.length ds.length hi - HT.sIx ds.length 0 lo)
def partD:Option D→Option (Option Int)
 | none=>some none
 | some (.int i)=>some (some i)
 | _=>none
noncomputable def slD:D→Option Int→Option Int→Option RV
 | .lst ds,lo,hi=>some (.ow (.lst (cutD ds lo hi)))
 | .tup ds,lo,hi=>if HT.sIx ds.length 0 lo=0∧HT.sIx ds.length ds.length hi=ds.length then none else some (.sh (.tup (cutD ds lo hi)))
 | _,_,_=>none
def revD:D→Option RV
 | .tup ds=>some (.sh (.tup ds.reverse))
 | _=>none
def boolsD:List D→Option (List Bool)
 | []=>some []
 | .bl b :: r=>(boolsD r).map (b :: ·)
 | _=>none
mutual
noncomputable def toP:D→PyData
 | .non=>.none
 | .bl b=>.bool b
 | .int i=>.int i
 | .str x=>.str x
 | .tup ds=>.tuple (toPs ds)
 | .lst ds=>.list (toPs ds)
 | .ins _ _ _=>.none
 | .dct _=>.none
 | .exn _ _=>.none
 | .dcs _ _=>.none
 | .dl _=>.none
noncomputable def toPs:List D→List PyData
 | []=>[]
 | d :: ds=>toP d :: toPs ds
end
noncomputable def biD:BI→List D→Option RV
 | .len,[.lst ds]=>some (.sh (.int ds.length))
 | .len,[.tup ds]=>some (.sh (.int ds.length))
 | .len,[.str x]=>@ite _ (x.length≤1000000) (cl _) (some (.sh (.int x.length))) none
 | .abs,[.int i]=>some (.sh (.int (if i<0 then -i else i)))
 | .int,[.int i]=>some (.sh (.int i))
 | .int,[.bl b]=>some (.sh (.int (if b then 1 else 0)))
 | .list,[.lst ds]=>some (.ow (.lst ds))
 | .list,[.tup ds]=>some (.ow (.lst ds))
 | .tuple,[.lst ds]=>some (.sh (.tup ds))
 | .tuple,[.tup ds]=>some (.sh (.tup ds))
 | .all,[.lst ds]=>(boolsD ds).map λbs=>.sh (.bl (bs.all id))
 | _,_=>none
noncomputable def isTy:Ty→D→Option Bool
 | .int,d=>match d with
  | .int _=>some true | .bl _=>some true | .non=>some false | .str _=>some false | .tup _=>some false | .lst _=>some false
  | _=>none
 | .bool,d=>match d with
  | .bl _=>some true | .int _=>some false | .non=>some false | .str _=>some false | .tup _=>some false | .lst _=>some false
  | _=>none
 | .str,d=>match d with
  | .str _=>some true | .bl _=>some false | .int _=>some false | .non=>some false | .tup _=>some false | .lst _=>some false
  | _=>none
 | .list,d=>match d with
  | .lst _=>some true | .bl _=>some false | .int _=>some false | .non=>some false | .tup _=>some false | .str _=>some false
  | _=>none
 | .tuple,d=>match d with
  | .tup _=>some true | .bl _=>some false | .int _=>some false | .non=>some false | .lst _=>some false | .str _=>some false
  | _=>none
 | .verr,d=>match d with
  | .exn _ _=>some true
  | _=>none
 | _,_=>none
noncomputable def isTys:List Ty→D→Option Bool
 | [],_=>some false
 | t :: r,d=>(isTy t d).bind λb=>(isTys r d).map λc=>b || c
noncomputable def isCD (s n:List Str):D→Option RV
 | .ins c _ _=>if s.contains c then some (.sh (.bl true)) else if n.contains c then some (.sh (.bl false)) else none
 | _=>none
noncomputable def isXs (c:Str):List (List Str × List Str)→Option Bool
 | []=>some false
 | (s,n) :: r=>if s.contains c then some true else if n.contains c then isXs c r else none
noncomputable def isXD (sn:List (List Str × List Str)):D→Option RV
 | .exn c _=>(isXs c sn).map λb=>.sh (.bl b)
 | _=>none
def bitD:D→Option RV
 | .int i=>some (.sh (.int (Builtin.Int.intBits i)))
 | _=>none
noncomputable def nsetD:D→Option RV
 | .lst ds=>match intsD ds with
  | some is=>@ite _ (is.length≤1000) (cl _) (some (.sh (.int (PyProof.Rows.firstMet (λi=>is.getD i 0) is.length).length))) none
  | none=>none
 | _=>none
noncomputable def lrngD:List D→Option RV
 | [.int j]=>@ite _ (-1000000≤j∧j≤1000000) (cl _) (some (.ow (.lst ((List.range (j - 0).toNat).map λ(n:Nat)=>.int (0+(n:Int)))))) none
 | [.int i,.int j]=>@ite _ ((-1000000≤i∧i≤1000000)∧(-1000000≤j∧j≤1000000)) (cl _) (some (.ow (.lst ((List.range (j - i).toNat).map λ(n:Nat)=>.int (i+(n:Int)))))) none
 | _=>none
def fldD:D→Str→Option D
 | .ins _ ns ds,f=>(ns.zip ds).lookup f
 | _,_=>none
noncomputable def methD (c:Str) (ns:List Str) (m:Str) (tb:List (Str × String)):Option String:=if ns.contains m then none else tb.lookup c
noncomputable def wrap (t:Bool) (r:Res RV):Res RV :=
 match t with
 | false=>r
 | true=>r.bind λv ρ=>(truthD v.d).map λb=>(.ok (.sh (.bl b)),ρ)
noncomputable def hd (e:E) (r:Res RV) (ρ:Env):Res Hd :=
 match e with
 | .var i=>if ((ρ[i]?).bind Sl.get).isSome then some (.ok (.slot i),ρ) else none
 | _=>r.bind λv ρ'=>some (.ok (.val v.low),ρ')
def isOmit:E→Bool
 | .omt=>true
 | _=>false
noncomputable def part (e:E) (r:Res RV) (ρ:Env):Res (Option D) :=
 if isOmit e then some (.ok none,ρ) else r.bind λv ρ'=>some (.ok (some v.d),ρ')
noncomputable def mulOk (op:Operator) (x:Hd) (d:D):Bool :=
 match op,d with
 | .Mult,.lst _=>match x with
  | .val (.ow _)=>true
  | _=>false
 | _,_=>true
def isOw (ρ:Env) (i:Nat):Bool :=
 match ρ[i]? with
 | some (.ow (.lst _) _ _)=>true
 | _=>false
def isDs (ρ:Env) (i:Nat):Bool :=
 match ρ[i]? with
 | some (.ow (.dcs _ _) _ _)=>true
 | _=>false
def isDc (ρ:Env) (i:Nat):Bool :=
 match ρ[i]? with
 | some (.ow (.dct _) _ _)=>true
 | _=>false
noncomputable def freeze (i:Nat) (ρ:Env):Res RV :=
 match ρ[i]? with
 | some (.sh d)=>some (.ok (.sh d),ρ)
 | some (.ow d false false)=>some (.ok (.sh d),ρ.set i (.sh d))
 | _=>none
def done (o:Option RV) (ρ:Env):Res RV:=o.map λv=>(.ok v,ρ)
noncomputable def store (i:Nat) (v:RV) (ρ:Env):Option Env :=
 match ρ[i]? with
 | none=>none
 | some (.ow _ true _)=>none
 | some (.ow _ _ true)=>none
 | some _=>match v with
  | .sh d=>some (ρ.set i (.sh d))
  | .ow d=>some (ρ.set i (.ow d false false))
  | .od _=>none
noncomputable def stores:List Nat→List D→Env→Option Env
 | [],[],ρ=>some ρ
 | i :: is,d :: ds,ρ=>(store i (.sh d) ρ).bind (stores is ds)
 | _,_,_=>none
noncomputable def bindT (one:Bool) (tg:List Nat) (d:D) (ρ:Env):Option Env :=
 match one,tg,d with
 | true,[i],d=>store i (.sh d) ρ
 | false,is,.tup ds=>stores is ds ρ
 | _,_,_=>none
abbrev Calls:=String→List Sl→Res RV
noncomputable def lend (pins:List Bool) (hs:List Hd) (ρ:Env):Option (List Sl × Env) :=
 match pins,hs with
 | [],[]=>some ([],ρ)
 | p :: ps,.val (.sh d) :: r=>(lend ps r ρ).map λ(as,ρ')=>(.sh d :: as,ρ')
 | p :: ps,.val (.ow d) :: r=>(lend ps r ρ).map λ(as,ρ')=>((if p then .ow d true false else .sh d) :: as,ρ')
 | p :: ps,.slot i :: r =>
  match ρ[i]? with
  | some (.sh d)=>(lend ps r ρ).map λ(as,ρ')=>(.sh d :: as,ρ')
  | some (.ow d pin lk) =>
   match p with
   | true=>(lend ps r (ρ.set i .un)).map λ(as,ρ')=>(.ow d true lk :: as,ρ')
   | false=>if pin || lk then none else (lend ps r (ρ.set i (.sh d))).map λ(as,ρ')=>(.sh d :: as,ρ')
  | _=>none
 | _,_=>none
noncomputable def giveBack (pins:List Bool) (hs:List Hd) (as:List Sl) (ρ0 ρ:Env):Option Env :=
 match pins,hs,as with
 | [],[],[]=>some ρ
 | true :: ps,.slot i :: r,a :: as =>
  match ρ0[i]?,a with
  | some (.ow _ pin lk),.ow d _ _=>giveBack ps r as ρ0 (ρ.set i (.ow d pin lk))
  | some (.ow _ _ _),_=>none
  | _,_=>giveBack ps r as ρ0 ρ
 | _ :: ps,_ :: r,_ :: as=>giveBack ps r as ρ0 ρ
 | _,_,_=>none
noncomputable def doCall (pins:List Bool) (f:List Sl→Res RV) (hs:List Hd) (ρ:Env):Res RV :=
 match lend pins hs ρ with
 | none=>none
 | some (as,ρ1) =>
  match f as with
  | none=>none
  | some (o,as')=>(giveBack pins hs as' ρ ρ1).map λρ'=>(o,ρ')
noncomputable def enumD (lo:Int) (ds:List D):List D:=(List.range ds.length).map λ(j:Nat)=>.tup [.int (lo+(j:Int)),ds.getD j .non]
def strDs (x:Str):List D:=x.cps.toList.map λc=>.str ⟨#[c]⟩
def strsD:List D→Option (List Str)
 | []=>some []
 | .str x :: r=>(strsD r).map (x :: ·)
 | _=>none
noncomputable def joinD (s:Str):D→Option RV
 | .lst ds=>match strsD ds with
  | some ts=>@ite _ (JoinOk s ts=true∧PyData.strOk (Txt.join s ts)=true) (cl _) (some (.sh (.str (Txt.join s ts)))) none
  | none=>none
 | _=>none
noncomputable def splO (s:Str) (ρ:Env) (o:Option Sl):Res RV:=match o with
 | some (.sh (.str x))=>@ite _ ((s.length == 0)=false∧x.length≤1000000∧(Txt.split x s).all PyData.strOk=true) (cl _) (some (.ok (.ow (.lst ((Txt.split x s).map D.str))),ρ)) none
 | _=>none
noncomputable def stwO (s:Str) (ρ:Env) (o:Option Sl):Res RV:=match o with
 | some (.sh (.str x))=>some (.ok (.sh (.bl (Txt.startswith x s))),ρ)
 | _=>none
noncomputable def itemsOf (k:ItK) (hs:List Hd) (ρ:Env):Option (List D × Option Nat) :=
 match k,hs with
 | .rng,[a]=>match a.get ρ with
  | some (.int n)=>@ite _ (-1000000≤n∧n≤1000000) (cl _) (some ((List.range n.toNat).map λ(j:Nat)=>.int (j:Int),none)) none
  | _=>none
 | .rng,[a,b]=>match a.get ρ,b.get ρ with
  | some (.int m),some (.int n)=>@ite _ ((-1000000≤m∧m≤1000000)∧(-1000000≤n∧n≤1000000)) (cl _) (some ((List.range (n - m).toNat).map λ(j:Nat)=>.int (m+(j:Int)),none)) none
  | _,_=>none
 | .enum lo,[.slot i]=>match ρ[i]? with
  | some (.ow (.lst ds) _ _)=>some (enumD lo ds,some i)
  | some (.sh (.lst ds))=>some (enumD lo ds,none)
  | _=>none
 | .enum lo,[.val v]=>match v.d with
  | .lst ds=>some (enumD lo ds,none)
  | _=>none
 | .of,[.slot i]=>match ρ[i]? with
  | some (.ow (.lst ds) _ _)=>some (ds,some i)
  | some (.sh (.lst ds))=>some (ds,none)
  | some (.sh (.tup ds))=>some (ds,none)
  | _=>none
 | .of,[.val v]=>match v.d with
  | .lst ds=>some (ds,none)
  | .tup ds=>some (ds,none)
  | _=>none
 | _,_=>none
def takeOut (o:Option Nat) (ρ:Env):Env :=
 match o with
 | none=>ρ
 | some i=>ρ.set i .un
noncomputable def putBack (o:Option Nat) (ρ0 ρ:Env):Option Env :=
 match o with
 | none=>some ρ
 | some i=>match ρ[i]?,ρ0[i]? with
  | some .un,some sl=>some (ρ.set i sl)
  | _,_=>none
noncomputable def compL (tests:Env→Res RV) (elt:Env→Res RV) (bind:D→Env→Option Env):List D→List D→Env→Res (List D)
 | [],acc,ρ=>some (.ok acc,ρ)
 | d :: ds,acc,ρ=>match bind d ρ with
  | none=>none
  | some ρ1=>(tests ρ1).bind λc ρ2=>match c with
   | .sh (.bl true)=>(elt ρ2).bind λv ρ3=>compL tests elt bind ds (acc ++ [v.d]) ρ3
   | .sh (.bl false)=>compL tests elt bind ds acc ρ2
   | _=>none
noncomputable def back:List Sl→Env→List Sl
 | .ow _ _ _ :: as,b :: bs=>b :: back as bs
 | a :: as,_ :: bs=>a :: back as bs
 | _,_=>[]
def pinOk:Sl→Bool
 | .ow _ p _=>p
 | .sh _=>true
 | _=>false
noncomputable def compF (tests:Env→Res RV) (elt:Env→Res RV) (bind:D→Env→Option Env) (ds:List D) (nl:Nat) (as:List Sl):Res RV :=
 if as.all pinOk=true then (compL tests elt bind ds [] (as ++ List.replicate nl .un)).bind λacc ρi =>
  if smallL acc.length then some (.ok (.ow (.lst acc)),back as ρi) else none
 else none
def giveOut (o:Option Nat) (ρ1:Env) (v:RV) (ρ2:Env):Res RV:=(putBack o ρ1 ρ2).map λρ'=>(.ok v,ρ')
structure Fn where
 pins:List Bool
 nl:Nat
 body:List S
 rs:Bool
abbrev Pins:=String→List Bool
def tok:Sl→Sl→Prop
 | .ow _ p l,s=>∃ ns:List Int,s=.ow (.lst (ns.map .int)) p l
 | s,s'=>s'=s
def Toks:Env→Env→Prop
 | [],ρ=>ρ=[]
 | s :: r,ρ=>∃ s' r',ρ=s' :: r'∧tok s s'∧Toks r r'
noncomputable def tmpO (i:Nat) (ρ:Env) (f:Env→Res RV):Res RV :=
 match ρ[i]? with
 | some (.ow (.dl ds) p l)=>(match f (ρ.set i (.sh (.lst ds))) with
  | some (.ok (.sh d),ρ')=>@ite _ (flatD d=true∧Toks (ρ.set i .un) (ρ'.set i .un)) (cl _) (some (.ok (.sh d),ρ'.set i (.ow (.dl ds) p l))) none
  | _=>none)
 | _=>f ρ
noncomputable def dlV:List Hd→Option (List D)
 | []=>some []
 | .val (.sh d) :: r=>if flatD d=true then (dlV r).map (d :: ·) else none
 | .val (.ow (.lst es)) :: r=>(dlV r).map (.lst es :: ·)
 | _=>none
noncomputable def dlO (ρ:Env) (o:Option (List D)):Res RV:=match o with
 | some ds=>if smallL ds.length=true then some (.ok (.ow (.dl ds)),ρ) else none
 | none=>none
noncomputable def dputD (c:Option Nat) (n:Int) (v:RV) (ds:List D):Option (List D) :=
 match c,v with
 | none,.sh d=>@ite _ (flatD d=true∧0≤n∧n<ds.length) (cl _) (some (ds.set n.toNat d)) none
 | none,.ow (.lst es)=>@ite _ (0≤n∧n<ds.length) (cl _) (some (ds.set n.toNat (.lst es))) none
 | some c,.sh d=>(match ds[c]? with
  | some (.lst es)=>@ite _ (0≤n∧n<es.length) (cl _) (some (ds.set c (.lst (es.set n.toNat d)))) none
  | _=>none)
 | _,_=>none
noncomputable def dsO (k:Option L2.GKey) (u:RV) (ρ:Env):Res RV :=
 match k with
 | some k=>some (.ok (.ow (.dcs [k] [u.d])),ρ)
 | none=>none
mutual
noncomputable def ev (P:Pins) (C:Calls) (t:Bool):E→Env→Res RV
 | .bad,_=>none
 | .omt,_=>none
 | .var i,ρ=>match t with
  | true=>wrap true (((ρ[i]?).bind Sl.get).map λd=>(.ok (.sh d),ρ))
  | false=>freeze i ρ
 | .con d,ρ=>wrap t (some (.ok (.sh d),ρ))
 | .tup es,ρ=>wrap t ((evs P C es ρ).bind λds ρ'=>if smallL ds.length then some (.ok (.sh (.tup ds)),ρ') else none)
 | .lst es,ρ=>wrap t ((evs P C es ρ).bind λds ρ'=>if smallL ds.length then some (.ok (.ow (.lst ds)),ρ') else none)
 | .bin op a b,ρ=>wrap t ((hd a (ev P C false a ρ) ρ).bind λx ρ1=>(hd b (ev P C false b ρ1) ρ1).bind λy ρ2 =>
   done ((x.get ρ2).bind λd=>(y.get ρ2).bind λe=>if mulOk op x d then binD op d e else none) ρ2)
 | .neg a,ρ=>wrap t ((ev P C false a ρ).bind λv ρ1=>match v.d with
  | .int i=>some (.ok (.sh (.int (-i))),ρ1)
  | _=>none)
 | .not a,ρ=>match t with
  | true=>(ev P C true a ρ).bind λv ρ1=>match v with
   | .sh (.bl b)=>some (.ok (.sh (.bl (!b))),ρ1)
   | _=>none
  | false=>(hd a (ev P C false a ρ) ρ).bind λx ρ1=>done ((x.get ρ1).bind λd=>(truthD d).map λb=>.sh (.bl (!b))) ρ1
 | .cmp op a b,ρ=>(hd a (ev P C false a ρ) ρ).bind λx ρ1=>(hd b (ev P C false b ρ1) ρ1).bind λy ρ2 =>
   done ((x.get ρ2).bind λd=>(y.get ρ2).bind λe=>(cmpD op d e).map λb=>.sh (.bl b)) ρ2
 | .cmp2 op op' a b c,ρ=>(hd a (ev P C false a ρ) ρ).bind λx ρ1=>(hd b (ev P C false b ρ1) ρ1).bind λy ρ2 =>
   match (x.get ρ2).bind λd=>(y.get ρ2).bind λe=>cmpD op d e with
   | none=>none
   | some false=>some (.ok (.sh (.bl false)),ρ2)
   | some true=>(hd c (ev P C false c ρ2) ρ2).bind λz ρ3 =>
    done ((y.get ρ3).bind λd=>(z.get ρ3).bind λe=>(cmpD op' d e).map λb=>.sh (.bl b)) ρ3
 | .and a b,ρ=>(ev P C t a ρ).bind λv ρ1=>match v with
  | .sh (.bl true)=>ev P C t b ρ1
  | .sh (.bl false)=>some (.ok (.sh (.bl false)),ρ1)
  | _=>none
 | .or a b,ρ=>(ev P C t a ρ).bind λv ρ1=>match v with
  | .sh (.bl true)=>some (.ok (.sh (.bl true)),ρ1)
  | .sh (.bl false)=>ev P C t b ρ1
  | _=>none
 | .ite c a b,ρ=>(ev P C true c ρ).bind λv ρ1=>match v with
  | .sh (.bl true)=>ev P C t a ρ1
  | .sh (.bl false)=>ev P C t b ρ1
  | _=>none
 | .ix a i,ρ=>wrap t ((hd a (ev P C false a ρ) ρ).bind λx ρ1=>(ev P C false i ρ1).bind λk ρ2 =>
   done ((x.get ρ2).bind λd=>(ixD d k.d).map .sh) ρ2)
 | .sl a lo hi,ρ=>wrap t ((hd a (ev P C false a ρ) ρ).bind λx ρ1 =>
   (part lo (ev P C false lo ρ1) ρ1).bind λl ρ2=>(part hi (ev P C false hi ρ2) ρ2).bind λh ρ3 =>
   done ((x.get ρ3).bind λd=>(partD l).bind λl=>(partD h).bind λh=>slD d l h) ρ3)
 | .rev a,ρ=>wrap t ((hd a (ev P C false a ρ) ρ).bind λx ρ1=>done ((x.get ρ1).bind revD) ρ1)
 | .call f es,ρ=>wrap t ((evHs P C es ρ).bind λhs ρ1=>doCall (P f) (C f) hs ρ1)
 | .bif f es,ρ=>wrap t ((evHs P C es ρ).bind λhs ρ1=>done ((getAll hs ρ1).bind (biD f)) ρ1)
 | .isi a ts,ρ=>wrap t ((hd a (ev P C false a ρ) ρ).bind λx ρ1 =>
   done ((x.get ρ1).bind λd=>(isTys ts d).map λb=>.sh (.bl b)) ρ1)
 | .isX a sn,ρ=>wrap t ((hd a (ev P C false a ρ) ρ).bind λx ρ1=>done ((x.get ρ1).bind (isXD sn)) ρ1)
 | .isC a s n,ρ=>wrap t ((hd a (ev P C false a ρ) ρ).bind λx ρ1=>done ((x.get ρ1).bind (isCD s n)) ρ1)
 | .app i a,ρ=>wrap t (if isOw ρ i then (ev P C false a ρ).bind λv ρ1=>match ρ1[i]? with
  | some (.ow (.lst ds) p false)=>if smallL (ds.length+1) then some (.ok (.sh .non),ρ1.set i (.ow (.lst (ds ++ [v.d])) p false)) else none
  | _=>none
  else none)
 | .popi i k,ρ=>wrap t (if isOw ρ i then (ev P C false k ρ).bind λj ρ1=>match ρ1[i]?,j with
  | some (.ow (.lst ds) p false),.sh (.int n)=>@ite _ (0≤n∧n≤1000000) (cl _) ((ds[n.toNat]?).map λd=>(.ok (.sh d),ρ1.set i (.ow (.lst (ds.eraseIdx n.toNat)) p false))) none
  | _,_=>none
  else none)
 | .insr i k a,ρ=>wrap t (if isOw ρ i then (ev P C false k ρ).bind λj ρ1=>(ev P C false a ρ1).bind λv ρ2=>match ρ2[i]?,j with
  | some (.ow (.lst ds) p false),.sh (.int n)=>@ite _ ((0≤n∧n≤1000000)∧smallL (ds.length+1)=true) (cl _) (some (.ok (.sh .non),ρ2.set i (.ow (.lst (ds.take n.toNat ++ v.d :: ds.drop n.toNat)) p false))) none
  | _,_=>none
  else none)
 | .dict kvs,ρ=>wrap t (some (.ok (.ow (.dct kvs)),ρ))
 | .dict1 a b,ρ=>wrap t ((ev P C false a ρ).bind λv ρ1=>(ev P C false b ρ1).bind λu ρ2=>dsO (skey v.d) u ρ2)
 | .ext i a,ρ=>wrap t (if isOw ρ i then (ev P C false a ρ).bind λv ρ1=>match ρ1[i]?,v with
  | some (.ow (.lst ds) p false),.ow (.lst es)=>if smallL (ds.length+es.length) then some (.ok (.sh .non),ρ1.set i (.ow (.lst (ds ++ es)) p false)) else none
  | _,_=>none
  else none)
 | .frz i,ρ=>wrap t (freeze i ρ)
 | .tmp i a,ρ=>tmpO i ρ (ev P C t a)
 | .dlst es,ρ=>wrap t ((evHs P C es ρ).bind λhs ρ1=>dlO ρ1 (dlV hs))
 | .bitl a,ρ=>wrap t ((hd a (ev P C false a ρ) ρ).bind λx ρ1=>done ((x.get ρ1).bind bitD) ρ1)
 | .mkset _,_=>none
 | .mkrng _,_=>none
 | .lrng es,ρ=>wrap t ((evHs P C es ρ).bind λhs ρ1=>done ((getAll hs ρ1).bind lrngD) ρ1)
 | .joi s a,ρ=>wrap t ((hd a (ev P C false a ρ) ρ).bind λx ρ1=>done ((x.get ρ1).bind (joinD s)) ρ1)
 | .spl i s,ρ=>wrap t (splO s ρ ρ[i]?)
 | .stw i s,ρ=>wrap t (stwO s ρ ρ[i]?)
 | .nset a,ρ=>wrap t ((hd a (ev P C false a ρ) ρ).bind λx ρ1=>done ((x.get ρ1).bind nsetD) ρ1)
 | .xnm _,_=>none
 | .fld a f,ρ=>wrap t ((hd a (ev P C false a ρ) ρ).bind λx ρ1=>done ((x.get ρ1).bind λd=>(fldD d f).map .sh) ρ1)
 | .make c ns es,ρ=>wrap t ((evs P C es ρ).bind λds ρ1=>if ds.length=ns.length then some (.ok (.sh (.ins c ns ds)),ρ1) else none)
 | .meth i m tb es,ρ=>wrap t (match ρ[i]? with
  | some (.sh (.ins c ns ds))=>(match methD c ns m tb with
   | some f=>(evHs P C es ρ).bind λhs ρ1=>doCall (P f) (C f) (.val (.sh (.ins c ns ds)) :: hs) ρ1
   | none=>none)
  | _=>none)
 | .methE a m tb es,ρ=>wrap t ((ev P C false a ρ).bind λv ρ0=>match v with
  | .sh (.ins c ns ds)=>(match methD c ns m tb with
   | some f=>(evHs P C es ρ0).bind λhs ρ1=>doCall (P f) (C f) (.val (.sh (.ins c ns ds)) :: hs) ρ1
   | none=>none)
  | _=>none)
 | .comp elt tg k its cond imp nl,ρ=>wrap t ((evHs P C its ρ).bind λhs ρ1 =>
   match itemsOf k hs ρ1 with
   | none=>none
   | some (ds,o)=>(doCall (imp.map λ_=>true) (compF (evTs P C cond) (ev P C false elt) (bindT (tg.length == 1) tg) ds nl) (imp.map Hd.slot) (takeOut o ρ1)).bind (giveOut o ρ1))
noncomputable def evs (P:Pins) (C:Calls):List E→Env→Res (List D)
 | [],ρ=>some (.ok [],ρ)
 | e :: es,ρ=>(ev P C false e ρ).bind λv ρ1=>(evs P C es ρ1).bind λds ρ2=>some (.ok (v.d :: ds),ρ2)
noncomputable def evHs (P:Pins) (C:Calls):List E→Env→Res (List Hd)
 | [],ρ=>some (.ok [],ρ)
 | e :: es,ρ=>(hd e (ev P C false e ρ) ρ).bind λv ρ1=>(evHs P C es ρ1).bind λds ρ2=>some (.ok (v :: ds),ρ2)
noncomputable def evTs (P:Pins) (C:Calls):List E→Env→Res RV
 | [],ρ=>some (.ok (.sh (.bl true)),ρ)
 | e :: es,ρ=>(ev P C true e ρ).bind λv ρ1=>match v with
  | .sh (.bl true)=>evTs P C es ρ1
  | .sh (.bl false)=>some (.ok (.sh (.bl false)),ρ1)
  | _=>none
end
mutual
noncomputable def evX (P:Pins) (C:Calls):E→Env→Option (Exc × Env)
 | .call f es,ρ=>match evHs P C es ρ with
  | some (.ok hs,ρ1)=>match doCall (P f) (C f) hs ρ1 with
   | some (.ex x,ρ')=>some (x,ρ')
   | _=>none
  | _=>evXs P C es ρ
 | _,_=>none
noncomputable def evXs (P:Pins) (C:Calls):List E→Env→Option (Exc × Env)
 | [],_=>none
 | e :: es,ρ=>match hd e (ev P C false e ρ) ρ with
  | some (.ok _,ρ1)=>evXs P C es ρ1
  | _=>evX P C e ρ
end
inductive Fl where
 | nx | bk | ct | rt (v:RV) | ex (e:Exc)
abbrev Run:=Option (Fl × Env)
noncomputable def Res.flow {α:Type} (r:Res α) (f:α→Env→Run):Run :=
 match r with
 | none=>none
 | some (.ex e,ρ)=>some (.ex e,ρ)
 | some (.ok a,ρ)=>f a ρ
def Run.next (r:Run) (f:Env→Run):Run :=
 match r with
 | some (.nx,ρ)=>f ρ
 | r=>r
noncomputable def Run.restore (r:Run) (o:Option Nat) (ρ0:Env):Run :=
 match r with
 | none=>none
 | some (fl,ρ)=>(putBack o ρ0 ρ).map λρ'=>(fl,ρ')
def goOn (o:Option Env):Run:=o.map λρ=>(.nx,ρ)
noncomputable def loopF (bind:D→Env→Option Env) (body:Env→Run):List D→Env→Run
 | [],ρ=>some (.nx,ρ)
 | d :: ds,ρ=>match bind d ρ with
  | none=>none
  | some ρ1=>match body ρ1 with
   | some (.nx,ρ2)=>loopF bind body ds ρ2
   | some (.ct,ρ2)=>loopF bind body ds ρ2
   | some (.bk,ρ2)=>some (.nx,ρ2)
   | r=>r
noncomputable def loopW (test:Env→Res RV) (body:Env→Run):Nat→Env→Run
 | 0,_=>none
 | n+1,ρ=>(test ρ).flow λv ρ1=>match v with
  | .sh (.bl true)=>match body ρ1 with
   | some (.nx,ρ2)=>loopW test body n ρ2
   | some (.ct,ρ2)=>loopW test body n ρ2
   | some (.bk,ρ2)=>some (.nx,ρ2)
   | r=>r
  | .sh (.bl false)=>some (.nx,ρ1)
  | _=>none
noncomputable def augO (i:Nat) (o:Option Sl) (r:Res RV):Run :=
 match o,r with
 | some (.sh (.int a)),some (.ok (.sh (.int b)),ρ1)=>goOn (store i (.sh (.int (a+b))) ρ1)
 | _,_=>none
noncomputable def setS (i:Nat) (ρ:Env) (o:Option Sl) (k:Option L2.GKey) (v:RV):Run :=
 match o,k with
 | some (.ow (.dcs ks ds) p false),some k=>if smallL (ks.length+1) then some (.nx,ρ.set i (.ow (.dcs (putKs ks k) (putVs ks ds k v.d)) p false)) else none
 | _,_=>none
noncomputable def dsetR (i:Nat) (p:Bool) (ρ2:Env) (o:Option (List D)):Run:=match o with
 | some ds=>some (.nx,ρ2.set i (.ow (.dl ds) p false))
 | none=>none
noncomputable def dsetO (i:Nat) (c:Option Nat) (v:RV) (ρ:Env) (f:Env→Res RV):Run :=
 match ρ[i]? with
 | some (.ow (.dl ds) p false)=>(match f (ρ.set i (.sh (.lst ds))) with
  | some (.ok (.sh (.int n)),ρ2)=>@ite _ (Toks (ρ.set i .un) (ρ2.set i .un)) (cl _) (dsetR i p ρ2 (dputD c n v ds)) none
  | _=>none)
 | _=>none
noncomputable def kifO (i j:Nat) (ρ:Env) (e c:Env→Res RV):Run :=
 match ρ[i]?,ρ[j]? with
 | some (.ow (.dl ds) p l),some s=>(match e (ρ.set i (.sh (.lst ds))) with
  | some (.ok v,ρ2)=>(match c (ρ2.set j (.sh v.d)) with
   | some (.ok (.sh (.bl false)),ρ3)=>@ite _ (i≠j∧(∀ d p l,s≠.ow d p l)∧Toks ((ρ.set j .mv).set i .un) ((ρ3.set j .mv).set i .un)∧ρ2[j]?=some s) (cl _) (some (.nx,(ρ3.set j .mv).set i (.ow (.dl ds) p l))) none
   | _=>none)
  | _=>none)
 | _,_=>none
noncomputable def odO (r:Res RV):Res RV :=
 match r with
 | some (.ok (.ow (.lst ds)),ρ)=>if ds.length≤1000 then some (.ok (.ow (.lst ds)),ρ) else none
 | _=>none
noncomputable def evG (P:Pins) (C:Calls) (elt:Env→Res RV) (tg:List Nat) (k:ItK) (its cond:List E) (imp:List Nat) (nl:Nat) (ρ:Env):Res RV :=
 (evHs P C its ρ).bind λhs ρ1 =>
   match itemsOf k hs ρ1 with
   | none=>none
   | some (ds,o)=>(doCall (imp.map λ_=>true) (compF (evTs P C cond) elt (bindT (tg.length == 1) tg) ds nl) (imp.map Hd.slot) (takeOut o ρ1)).bind (giveOut o ρ1)
noncomputable def evD (P:Pins) (C:Calls) (elt:E) (tg:List Nat) (k:ItK) (its:List E) (imp:List Nat) (nl:Nat) (ρ:Env):Res RV :=
 evG P C (λρ=>odO (ev P C false elt ρ)) tg k its [] imp nl ρ
def retDO (r:Res RV):Run :=
 match r with
 | some (.ok (.ow d),ρ1)=>some (.rt (.od d),ρ1)
 | _=>none
def noOw (ρ:Env):Bool:=ρ.all λs=>match s with | .ow _ _ _=>false | _=>true
def fz1 (n:Nat) (ρ:Env):Env :=
 match ρ[n]? with
 | some (.ow d false false)=>ρ.set n (.sh d)
 | _=>ρ
def frz:Nat→Env→Env
 | 0,ρ=>ρ
 | n+1,ρ=>fz1 n (frz n ρ)
noncomputable def scrO (i j:Nat) (ρ:Env) (e c:Env→Res RV):Run :=
 match e (frz ρ.length ρ) with
 | some (.ok (.od (.lst ds)),ρ1)=>@ite _ (ρ1=frz ρ.length ρ∧noOw ρ1=true∧ds.length≤1000∧i<ρ1.length∧j<ρ1.length∧c (ρ1.set i (.sh (.lst ds)))=some (.ok (.sh (.bl false)),ρ1.set i (.sh (.lst ds)))) (cl _) (some (.nx,(ρ1.set i .mv).set j .mv)) none
 | _=>none
noncomputable def took (cs:List Str) (i:Nat) (o:Option (Exc × Env)):Option Env :=
 match o with
 | none=>none
 | some (x,ρ1)=>if cs.contains x.cls then store i (.sh (.exn x.cls x.num)) ρ1 else none
noncomputable def gone (i:Nat) (r:Run):Run :=
 match r with
 | some (.nx,ρ)=>(match ρ[i]? with | some (.sh _)=>some (.nx,ρ.set i .mv) | _=>none)
 | _=>none
noncomputable def caught (cs:List Str) (i j:Nat) (o:Option (Exc × Env)):Run :=
 match o with
 | none=>none
 | some (x,ρ1)=>if cs.contains x.cls∧i≠j then (store i (.sh (.exn x.cls x.num)) ρ1).bind λρ2=>(store j (.sh (.exn x.cls x.num)) ρ2).map λρ3=>(.nx,ρ3.set i .mv) else none
noncomputable def caughtN (cs:List Str) (o:Option (Exc × Env)):Run :=
 match o with
 | none=>none
 | some (x,ρ1)=>if cs.contains x.cls then some (.rt (.sh .non),ρ1) else none
mutual
noncomputable def ex (P:Pins) (C:Calls) (W:Nat):S→Env→Run
 | .bad,_=>none
 | .pass,ρ=>some (.nx,ρ)
 | .brk,ρ=>some (.bk,ρ)
 | .cnt,ρ=>some (.ct,ρ)
 | .asg i e,ρ=>(ev P C false e ρ).flow λv ρ1=>goOn (store i v ρ1)
 | .asgT is e,ρ=>(ev P C false e ρ).flow λv ρ1=>goOn (bindT false is v.d ρ1)
 | .set i k e,ρ=>(ev P C false e ρ).flow λv ρ1=>if isOw ρ1 i then (ev P C false k ρ1).flow λj ρ2=>match ρ2[i]?,j.d with
  | some (.ow (.lst ds) p false),.int n=>goOn ((L2.ixN ds.length n).map λm=>ρ2.set i (.ow (.lst (ds.set m v.d)) p false))
  | _,_=>none
  else none
 | .expr e,ρ=>(ev P C false e ρ).flow λ_ ρ1=>some (.nx,ρ1)
 | .ret e,ρ=>match e with
  | .var i=>match ρ[i]? with
   | some (.ow d false _)=>some (.rt (.ow d),ρ.set i .mv)
   | some (.sh d)=>some (.rt (.sh d),ρ)
   | _=>none
  | e=>(ev P C false e ρ).flow λv ρ1=>some (.rt v,ρ1)
 | .retN,ρ=>some (.rt (.sh .non),ρ)
 | .ifs c a b,ρ=>(ev P C true c ρ).flow λv ρ1=>match v with
  | .sh (.bl true)=>exs P C W a ρ1
  | .sh (.bl false)=>exs P C W b ρ1
  | _=>none
 | .for tg one k its body,ρ=>(evHs P C its ρ).flow λhs ρ1 =>
  match itemsOf k hs ρ1 with
  | none=>none
  | some (ds,o)=>(loopF (bindT one tg) (exs P C W body) ds (takeOut o ρ1)).restore o ρ1
 | .whl c body,ρ=>loopW (ev P C true c) (exs P C W body) W ρ
 | .rse _ _,_=>none
 | .rsi _ _,_=>none
 | .aug i e,ρ=>augO i ρ[i]? (ev P C false e ρ)
 | .retD elt tg k its imp nl,ρ=>retDO (evD P C elt tg k its imp nl ρ)
 | .scr i j e c,ρ=>scrO i j ρ (ev P C false e) (ev P C true c)
 | .dset i c k e,ρ=>(ev P C false e ρ).flow λv ρ1=>dsetO i c v ρ1 (ev P C false k)
 | .kif i j e c,ρ=>kifO i j ρ (ev P C false e) (ev P C true c)
 | .tryA body cs i j,ρ=>match exs P C W body ρ with
  | some (.nx,ρ1)=>some (.nx,ρ1)
  | _=>caught cs i j (exsX P C W body ρ)
 | .tryB body cs i ss,ρ=>match exs P C W body ρ with
  | some (.nx,ρ1)=>some (.nx,ρ1)
  | _=>match took cs i (exsX P C W body ρ) with
   | some ρ2=>gone i (exs P C W ss ρ2)
   | none=>none
 | .tryN body cs,ρ=>match exs P C W body ρ with
  | some (.nx,ρ1)=>some (.nx,ρ1)
  | some (.rt v,ρ1)=>some (.rt v,ρ1)
  | _=>caughtN cs (exsX P C W body ρ)
 | .tryO body,ρ=>exs P C W body ρ
noncomputable def exs (P:Pins) (C:Calls) (W:Nat):List S→Env→Run
 | [],ρ=>some (.nx,ρ)
 | s :: r,ρ=>(ex P C W s ρ).next (exs P C W r)
noncomputable def exX (P:Pins) (C:Calls) (W:Nat):S→Env→Option (Exc × Env)
 | .asg _ e,ρ=>evX P C e ρ
 | .expr e,ρ=>evX P C e ρ
 | .ret e,ρ=>evX P C e ρ
 | .rse c es,ρ=>match evs P C es ρ with
  | some (.ok _,ρ1)=>some (⟨c,none⟩,ρ1)
  | _=>none
 | .ifs c a b,ρ=>match ev P C true c ρ with
  | some (.ok (.sh (.bl true)),ρ1)=>exsX P C W a ρ1
  | some (.ok (.sh (.bl false)),ρ1)=>exsX P C W b ρ1
  | _=>none
 | _,_=>none
noncomputable def exsX (P:Pins) (C:Calls) (W:Nat):List S→Env→Option (Exc × Env)
 | [],_=>none
 | s :: r,ρ=>match ex P C W s ρ with
  | some (.nx,ρ1)=>exsX P C W r ρ1
  | _=>exX P C W s ρ
end
abbrev Tab:=String→Option Fn
def Tab.pins (T:Tab):Pins:=λf=>match T f with
 | some fn=>fn.pins
 | none=>[]
noncomputable def run (T:Tab) (W:Nat):Nat→Calls
 | 0=>λ_ _=>none
 | n+1=>λf as=>match T f with
  | none=>none
  | some fn=>if as.length=fn.pins.length∧as.all pinOk=true then
    match exs T.pins (run T W n) W fn.body (as ++ List.replicate fn.nl .un) with
    | some (.nx,ρ)=>some (.ok (.sh .non),back as ρ)
    | some (.rt v,ρ)=>some (.ok v,back as ρ)
    | _=>if fn.rs then match exsX T.pins (run T W n) W fn.body (as ++ List.replicate fn.nl .un) with
     | some (x,ρ)=>some (.ex x,back as ρ)
     | none=>none
     else none
   else none
end
end CI
namespace CI
open PySem PySem.Spec PyProof.Rows L2
abbrev St:=L2.St
def Sm (G G':Hp):Prop:=∀ b o,(∀ x,o≠HO.own x)→G b=some o→G' b=some o
theorem Sm.of {G G':Hp} (s:Same G G'):Sm G G':=λb o _ h=>s b o h
instance {G G':Hp}:Coe (Same G G') (Sm G G'):=⟨Sm.of⟩
theorem Sm.refl (G:Hp):Sm G G:=λ_ _ _ h=>h
theorem Sm.trans {G G1 G2:Hp} (a:Sm G G1) (b:Sm G1 G2):Sm G G2:=λc o n h=>b c o n (a c o n h)
theorem Sm.app {G G':Hp} (s:Sm G G') {b:Addr} {o:HO} (n:∀ x,o≠.own x) (h:G b=some o):G' b=some o:=s b o n h
theorem Sm.seq {K:PySem.W.Frag} {G G':Hp} {a:Addr} {xs:List V} (e:Sm G G') (h:SqL K G a xs):SqL K G' a xs:=by
 rcases h with (h | ⟨o,h⟩) | h
 ·exact .inl (.inl (e.app (λ_ z=>nomatch z) h))
 ·exact .inl (.inr ⟨o,e.app (λ_ z=>nomatch z) h⟩)
 ·exact .inr h
structure ClsF (K:PySem.W.Frag) (C:Addr) (ns:List Str):Prop where
 cl:Cls K C
 no:∀ f∈ns,NoAttr K C f
def Pay (K:PySem.W.Frag) (G:Hp) (C:Addr) (p:Option Addr) (n:Option Int):Prop:=True
theorem Pay.mono {K:PySem.W.Frag} {G G':Hp} (s:Sm G G') {C:Addr} {p:Option Addr} {n:Option Int} (h:Pay K G C p n):Pay K G' C p n:=trivial
mutual
def Rep (K:PySem.W.Frag) (G:Hp):D→V→Prop
 | .non,v=>v=.non
 | .bl b,v=>v=.bl b
 | .int i,v=>v=.int i
 | .str x,v=>v=.str x∧PyData.strOk x=true
 | .tup ds,v=>∃ a vs,v=.ref a∧SqT K G a vs∧Reps K G ds vs
 | .lst ds,v=>∃ a vs,v=.ref a∧SqL K G a vs∧Reps K G ds vs
 | .ins c ns ds,v=>∃ a C dx vs,v=.ref a∧PySem.W.nsIn K mainGlobals c=some (some (.ref C))∧G a=some (.ins C dx (ns.zip vs))∧Reps K G ds vs∧ClsF K C ns∧ns.length=vs.length
 | .dct kvs,v=>False
 | .exn c n,v=>∃ a C p,v=.ref a∧PySem.W.nsIn K mainGlobals c=some (some (.ref C))∧ExcG K C∧G a=some (.ext (ExcO a C p))∧Pay K G C p n
 | .dcs ks ds,v=>False
 | .dl _,v=>∃ a cs,v=.ref a∧G a=some (.dls cs)
def Reps (K:PySem.W.Frag) (G:Hp):List D→List V→Prop
 | [],vs=>vs=[]
 | d :: ds,vs=>∃ v r,vs=v :: r∧Rep K G d v∧Reps K G ds r
end
theorem sqT_mono {K:PySem.W.Frag} {G G':Hp} (s:Sm G G') {a:Addr} {vs:List V} (h:SqT K G a vs):SqT K G' a vs:=by
 rcases h with (h | ⟨o,h⟩) | h
 ·exact .inl (.inl (s.app (λ_ z=>nomatch z) h))
 ·exact .inl (.inr ⟨o,s.app (λ_ z=>nomatch z) h⟩)
 ·exact .inr h
mutual
theorem Rep.mono {K:PySem.W.Frag} {G G':Hp} (s:Sm G G'):∀ (d:D) {v:V},Rep K G d v→Rep K G' d v
 | .non,_,h=>by simpa [Rep] using h
 | .bl _,_,h=>by simpa [Rep] using h
 | .int _,_,h=>by simpa [Rep] using h
 | .str _,_,h=>by simpa [Rep] using h
 | .tup ds,_,h=>by
  simp only [Rep] at h ⊢
  obtain ⟨a,vs,e,h1,h2⟩:=h
  exact ⟨a,vs,e,sqT_mono s h1,Reps.mono s ds h2⟩
 | .lst ds,_,h=>by
  simp only [Rep] at h ⊢
  obtain ⟨a,vs,e,h1,h2⟩:=h
  exact ⟨a,vs,e,s.seq h1,Reps.mono s ds h2⟩
 | .ins c ns ds,_,h=>by
  simp only [Rep] at h ⊢
  obtain ⟨a,C,dx,vs,e,h1,h2,h3,h4,h5⟩:=h
  exact ⟨a,C,dx,vs,e,h1,s.app (λ_ z=>nomatch z) h2,Reps.mono s ds h3,h4,h5⟩
 | .dct kvs,_,h=>by simp only [Rep] at h
 | .exn c n,_,h=>by
  simp only [Rep] at h ⊢
  obtain ⟨a,C,p,e,h1,h2,h3,h4⟩:=h
  exact ⟨a,C,p,e,h1,h2,s.app (λ_ z=>nomatch z) h3,h4.mono s⟩
 | .dcs ks ds,_,h=>by simp only [Rep] at h
 | .dl _,_,h=>by
  simp only [Rep] at h ⊢
  obtain ⟨a,cs,e,h1⟩:=h
  exact ⟨a,cs,e,s.app (λ_ z=>nomatch z) h1⟩
theorem Reps.mono {K:PySem.W.Frag} {G G':Hp} (s:Sm G G'):∀ (ds:List D) {vs:List V},Reps K G ds vs→Reps K G' ds vs
 | [],_,h=>by simpa [Reps] using h
 | d :: ds,_,h=>by
  simp only [Reps] at h ⊢
  obtain ⟨v,r,e,h1,h2⟩:=h
  exact ⟨v,r,e,Rep.mono s d h1,Reps.mono s ds h2⟩
end
theorem Reps.len {K:PySem.W.Frag} {G:Hp}:∀ {ds:List D} {vs:List V},Reps K G ds vs→vs.length=ds.length
 | [],_,h=>by simp only [Reps] at h; subst h; rfl
 | d :: ds,_,h=>by
  simp only [Reps] at h
  obtain ⟨v,r,rfl,_,h2⟩:=h
  simp [Reps.len h2]
theorem Reps.nil {K:PySem.W.Frag} {G:Hp}:Reps K G [] []:=by simp [Reps]
theorem Reps.cons {K:PySem.W.Frag} {G:Hp} {d:D} {ds:List D} {v:V} {vs:List V} (h:Rep K G d v) (t:Reps K G ds vs):Reps K G (d :: ds) (v :: vs):=by
 simp only [Reps]; exact ⟨v,vs,rfl,h,t⟩
theorem Reps.app {K:PySem.W.Frag} {G:Hp}:∀ {ds es:List D} {vs ws:List V},Reps K G ds vs→Reps K G es ws→Reps K G (ds ++ es) (vs ++ ws)
 | [],_,_,_,h,h'=>by simp only [Reps] at h; subst h; exact h'
 | d :: ds,_,_,_,h,h'=>by
  simp only [Reps] at h
  obtain ⟨v,r,rfl,h1,h2⟩:=h
  exact Reps.cons h1 (Reps.app h2 h')
theorem Reps.rev {K:PySem.W.Frag} {G:Hp}:∀ {ds:List D} {vs:List V},Reps K G ds vs→Reps K G ds.reverse vs.reverse
 | [],vs,h=>by
  cases (show vs=[] from h)
  exact (show Reps K G [] [] from rfl)
 | d :: ds,vs,h=>by
  obtain ⟨v,r,rfl,h1,h2⟩:=(show ∃ v r,vs=v :: r∧Rep K G d v∧Reps K G ds r from h)
  rw [List.reverse_cons,List.reverse_cons]
  exact h2.rev.app (show Reps K G [d] [v] from ⟨v,[],rfl,h1,rfl⟩)
theorem Reps.get {K:PySem.W.Frag} {G:Hp}:∀ {ds:List D} {vs:List V} {i:Nat} {d:D},Reps K G ds vs→ds[i]?=some d→∃ v,vs[i]?=some v∧Rep K G d v
 | [],_,_,_,_,e=>by simp at e
 | d :: ds,_,0,_,h,e=>by
  simp only [Reps] at h
  obtain ⟨v,r,rfl,h1,h2⟩:=h
  simp at e; subst e
  exact ⟨v,rfl,h1⟩
 | d :: ds,_,i+1,_,h,e=>by
  simp only [Reps] at h
  obtain ⟨v,r,rfl,h1,h2⟩:=h
  have:=Reps.get (i:=i) h2 (by simpa using e)
  simpa using this
theorem Reps.set {K:PySem.W.Frag} {G:Hp} {d:D} {v:V} (hv:Rep K G d v):∀ {ds:List D} {vs:List V} (i:Nat),Reps K G ds vs→Reps K G (ds.set i d) (vs.set i v)
 | [],_,_,h=>by simp only [Reps] at h; subst h; simp [Reps]
 | e :: ds,_,0,h=>by
  simp only [Reps] at h
  obtain ⟨u,r,rfl,h1,h2⟩:=h
  exact Reps.cons hv h2
 | e :: ds,_,i+1,h=>by
  simp only [Reps] at h
  obtain ⟨u,r,rfl,h1,h2⟩:=h
  exact Reps.cons h1 (Reps.set hv i h2)
theorem Reps.take {K:PySem.W.Frag} {G:Hp}:∀ {ds:List D} {vs:List V} (n:Nat),Reps K G ds vs→Reps K G (ds.take n) (vs.take n)
 | _,_,0,_=>by simp [Reps]
 | [],_,_+1,h=>by simp only [Reps] at h; subst h; simp [Reps]
 | e :: ds,_,n+1,h=>by
  simp only [Reps] at h
  obtain ⟨u,r,rfl,h1,h2⟩:=h
  exact Reps.cons h1 (Reps.take n h2)
theorem Reps.drop {K:PySem.W.Frag} {G:Hp}:∀ {ds:List D} {vs:List V} (n:Nat),Reps K G ds vs→Reps K G (ds.drop n) (vs.drop n)
 | _,_,0,h=>h
 | [],_,_+1,h=>by simp only [Reps] at h; subst h; simp [Reps]
 | e :: ds,_,n+1,h=>by
  simp only [Reps] at h
  obtain ⟨u,r,rfl,h1,h2⟩:=h
  exact Reps.drop n h2
theorem Reps.rep {K:PySem.W.Frag} {G:Hp} {ds:List D} {vs:List V} (h:Reps K G ds vs):∀ n,Reps K G (List.replicate n ds).flatten (List.replicate n vs).flatten
 | 0=>Reps.nil
 | n+1=>by
  rw [List.replicate_succ,List.replicate_succ,List.flatten_cons,List.flatten_cons]
  exact Reps.app h (Reps.rep h n)
def DCell (K:PySem.W.Frag) (G:Hp) (d:D):V ⊕ Addr × List V→Prop
 | .inl v=>flatD d=true∧Rep K G d v
 | .inr p=>∃ es,d=.lst es∧Reps K G es p.2
theorem DCell.mono {K:PySem.W.Frag} {G G':Hp} (s:Sm G G') {d:D} {c:V ⊕ Addr × List V} (h:DCell K G d c):DCell K G' d c:=by
 cases c with
 | inl v=>exact ⟨h.1,Rep.mono s d h.2⟩
 | inr p=>obtain ⟨es,e,h⟩:=h; exact ⟨es,e,Reps.mono s es h⟩
def OwRep (K:PySem.W.Frag) (H G:Hp) (a:Addr):D→Prop
 | .lst ds=>∃ vs,H a=some (.lst vs)∧Reps K G ds vs
 | .dl ds=>∃ cs,H a=some (.dls cs)∧Paired (DCell K G) ds cs
 | _=>False
def Own (ρ:Env) (σ:St) (a:Addr):Prop:=∃ (i:Nat) (d:D) (p l:Bool),ρ[i]?=some (.ow d p l)∧σ[i]?=some (some (.ref a))
structure Rel (K:PySem.W.Frag) (ρ:Env) (σ:St) (H G:Hp):Prop where
 len:ρ.length=σ.length
 sub:Same G H
 sh:∀ (i:Nat) (d:D),ρ[i]?=some (.sh d)→∃ v,σ[i]?=some (some v)∧Rep K G d v
 ow:∀ (i:Nat) (d:D) (p l:Bool),ρ[i]?=some (.ow d p l)→∃ a,σ[i]?=some (some (.ref a))∧G a=none∧OwRep K H G a d
 inj:∀ (i j:Nat) (d:D) (p l:Bool) (d':D) (p' l':Bool) (a:Addr),ρ[i]?=some (.ow d p l)→ρ[j]?=some (.ow d' p' l')→σ[i]?=some (some (.ref a))→σ[j]?=some (some (.ref a))→i=j
structure Ext (own:Addr→Prop) (H G H' G':Hp):Prop where
 gg:Sm G G'
 hh:∀ a o,H a=some o→¬ own a→H' a=some o
 hx:∀ a,H' a=none→H a=none
 gn:∀ a,H a≠none→G a=none→¬ own a→G' a=none
theorem Ext.refl {own:Addr→Prop} {H G:Hp}:Ext own H G H G:=⟨Sm.refl _,λ_ _ h _=>h,λ_ h=>h,λ_ _ h _=>h⟩
theorem Ext.trans {own own1:Addr→Prop} {H G H1 G1 H2 G2:Hp} (a:Ext own H G H1 G1) (w:∀ x,own1 x→own x∨H x=none) (b:Ext own1 H1 G1 H2 G2):Ext own H G H2 G2:=by
 refine ⟨a.gg.trans b.gg,λx o h n=>?_,λx h=>a.hx x (b.hx x h),λx h g n=>?_⟩
 ·refine b.hh x o (a.hh x o h n) λz=>?_
  rcases w x z with z | z
  ·exact n z
  ·rw [h] at z; cases z
 ·have h1:H1 x≠none:=λz=>h (a.hx x z)
  refine b.gn x h1 (a.gn x h g n) λz=>?_
  rcases w x z with z | z
  ·exact n z
  ·exact h z
theorem Ext.weaken {own own':Addr→Prop} {H G H1 G1:Hp} (a:Ext own H G H1 G1) (w:∀ x,own x→own' x):Ext own' H G H1 G1 :=
 ⟨a.gg,λx o h n=>a.hh x o h λz=>n (w x z),a.hx,λx h g n=>a.gn x h g λz=>n (w x z)⟩
def RowsI (H:Hp) (own new:Addr→Prop) (vs:List V):Prop:=∀ x∈vs,∃ b ws,x=.ref b∧H b=some (.lst ws)∧ws.length≤1000∧¬ own b∧new b
def Rows (H:Hp) (own new:Addr→Prop) (a:Addr):Prop:=∃ vs,H a=some (.lst vs)∧RowsI H own (λb=>new b∧b≠a) vs
theorem RowsI.step {H H':Hp} {own own' new:Addr→Prop} {vs:List V} (h:RowsI H own new vs) (e:∀ b o,H b=some o→¬ own b→H' b=some o) (w:∀ b,own' b→own b∨H b=none):RowsI H' own' new vs:=λx hx=>by
 obtain ⟨b,ws,h1,h2,h3,h4,h5⟩:=h x hx
 refine ⟨b,ws,h1,e b _ h2 h4,h3,λz=>?_,h5⟩
 rcases w b z with z | z
 ·exact h4 z
 ·rw [h2] at z; cases z
theorem RowsI.new {H:Hp} {own new new':Addr→Prop} {vs:List V} (h:RowsI H own new vs) (w:∀ b,new b→new' b):RowsI H own new' vs:=λx hx=>let ⟨b,ws,h1,h2,h3,h4,h5⟩:=h x hx; ⟨b,ws,h1,h2,h3,h4,w b h5⟩
def VRep (K:PySem.W.Frag) (H G:Hp) (own:Addr→Prop) (new:Addr→Prop):RV→V→Prop
 | .sh d,v=>Rep K G d v
 | .ow d,v=>∃ a,v=.ref a∧G a=none∧OwRep K H G a d∧¬ own a∧new a
 | .od d,v=>∃ a,v=.ref a∧G a=none∧OwRep K H G a d∧¬ own a∧new a∧Rows H own new a
def RepR (K:PySem.W.Frag) (H G:Hp) (d:D) (v:V):Prop:=Rep K G d v∨∃ a,v=.ref a∧OwRep K H G a d
def HRep (K:PySem.W.Frag) (H G:Hp) (own:Addr→Prop) (new:Addr→Prop) (σ:St):Hd→V→Prop
 | .slot i,v=>σ[i]?=some (some v)
 | .val (.od _),_=>False
 | .val r,v=>VRep K H G own new r v
section
variable {K:PySem.W.Frag} {ρ:Env} {σ:St} {H G H' G':Hp} {own own' new new':Addr→Prop}
theorem OwRep.mono {a:Addr} {d:D} (h:OwRep K H G a d) (s:Sm G G') (e:∀ o,H a=some o→H' a=some o):OwRep K H' G' a d:=by
 cases d with
 | lst ds =>
  obtain ⟨vs,h1,h2⟩:=h
  exact ⟨vs,e _ h1,Reps.mono s _ h2⟩
 | dl ds=>obtain ⟨cs,h1,h2⟩:=h; exact ⟨cs,e _ h1,Paired.mapP h2 λ_ _ z=>z.mono s⟩
 | _=>exact h
theorem OwRep.put {a:Addr} {d:D} (h:OwRep K H G a d):∃ o,H a=some o∧∀ G',Sm G G'→G' a=some o→Rep K G' d (.ref a):=by
 cases d with
 | lst ds =>
  obtain ⟨vs,h1,h2⟩:=h
  exact ⟨_,h1,λG' s e=>by simp only [Rep]; exact ⟨a,vs,rfl,SqL.of e,Reps.mono s ds h2⟩⟩
 | dl ds=>obtain ⟨cs,h1,h2⟩:=h; exact ⟨_,h1,λG' s e=>by simp only [Rep]; exact ⟨a,cs,rfl,e⟩⟩
 | _=>exact h.elim
theorem OwRep.there {a:Addr} {d:D} (h:OwRep K H G a d):∃ o,H a=some o:=let ⟨o,h,_⟩:=h.put; ⟨o,h⟩
theorem Rel.owned (r:Rel K ρ σ H G) {a:Addr} (o:Own ρ σ a):H a≠none∧G a=none:=by
 obtain ⟨i,d,p,l,h1,h2⟩:=o
 obtain ⟨b,e,g,h⟩:=r.ow i d p l h1
 rw [h2] at e; cases e
 obtain ⟨vs,h⟩:=h.there
 exact ⟨by rw [h]; simp,g⟩
theorem VRep.wait {v:RV} {x:V} (h:VRep K H G own new v x) (e:Ext own H G H' G') (w:∀ a,own' a→own a∨H a=none):VRep K H' G' own' new v x:=by
 cases v with
 | sh d=>exact Rep.mono e.gg d h
 | ow d =>
  obtain ⟨a,rfl,g,o,n,m⟩:=h
  obtain ⟨vs,hv⟩:=o.there
  have ne:H a≠none:=by rw [hv]; simp
  refine ⟨a,rfl,e.gn a ne g n,o.mono e.gg λo' h'=>e.hh a o' h' n,λz=>?_,m⟩
  rcases w a z with z | z
  ·exact n z
  ·exact ne z
 | od d =>
  obtain ⟨a,rfl,g,o,n,m,vs,hv,hr⟩:=h
  have ne:H a≠none:=by rw [hv]; simp
  refine ⟨a,rfl,e.gn a ne g n,o.mono e.gg λo' h'=>e.hh a o' h' n,λz=>?_,m,vs,e.hh a _ hv n,hr.step e.hh w⟩
  rcases w a z with z | z
  ·exact n z
  ·exact ne z
theorem HRep.wait {v:Hd} {x:V} (h:HRep K H G own new σ v x) (e:Ext own H G H' G') (w:∀ a,own' a→own a∨H a=none):HRep K H' G' own' new σ v x:=by
 cases v with
 | slot i=>exact h
 | val r=>cases r with
  | od d=>exact h.elim
  | sh d=>exact Rep.mono e.gg d h
  | ow d=>exact VRep.wait (new:=new) (v:=.ow d) h e w
theorem VRep.new_mono {v:RV} {x:V} (h:VRep K H G own new v x) (w:∀ a,new a→new' a):VRep K H G own new' v x:=by
 cases v with
 | sh d=>exact h
 | ow d =>
  obtain ⟨a,rfl,g,o,n,m⟩:=h
  exact ⟨a,rfl,g,o,n,w a m⟩
 | od d =>
  obtain ⟨a,rfl,g,o,n,m,vs,hv,hr⟩:=h
  exact ⟨a,rfl,g,o,n,w a m,vs,hv,hr.new λb z=>⟨w b z.1,z.2⟩⟩
theorem VRep.low {v:RV} {x:V} (h:VRep K H G own new v x):VRep K H G own new v.low x:=by
 cases v with
 | sh d=>exact h
 | ow d=>exact h
 | od d =>
  obtain ⟨a,rfl,g,o,n,m,_⟩:=h
  exact ⟨a,rfl,g,o,n,m⟩
theorem HRep.of {v:RV} {x:V} (h:VRep K H G own new v x):HRep K H G own new σ (.val v.low) x:=by
 have:=h.low
 cases v <;> exact this
theorem HRep.new_mono {v:Hd} {x:V} (h:HRep K H G own new σ v x) (w:∀ a,new a→new' a):HRep K H G own new' σ v x:=by
 cases v with
 | slot i=>exact h
 | val r=>cases r with
  | od d=>exact h.elim
  | sh d=>exact h
  | ow d=>exact VRep.new_mono (own:=own) (H:=H) (v:=.ow d) h w
theorem VRep.readR {v:RV} {x:V} (h:VRep K H G own new v x):RepR K H G v.d x:=by
 cases v with
 | sh d=>exact .inl h
 | ow d =>
  obtain ⟨a,rfl,g,o,n,m⟩:=h
  exact .inr ⟨a,rfl,o⟩
 | od d =>
  obtain ⟨a,rfl,g,o,n,m,_⟩:=h
  exact .inr ⟨a,rfl,o⟩
theorem Rel.get (r:Rel K ρ σ H G) {i:Nat} {d:D} {x:V} (h:(ρ[i]?).bind Sl.get=some d) (hx:σ[i]?=some (some x)):RepR K H G d x:=by
 cases e:ρ[i]? with
 | none=>rw [e] at h; cases h
 | some sl =>
  rw [e] at h
  cases sl with
  | un=>cases h
  | mv=>cases h
  | sh d' =>
   cases h
   obtain ⟨v,h1,h2⟩:=r.sh i _ e
   rw [hx] at h1; cases h1
   exact .inl h2
  | ow d' p l =>
   cases h
   obtain ⟨a,h1,_,h2⟩:=r.ow i _ p l e
   rw [hx] at h1; cases h1
   exact .inr ⟨a,rfl,h2⟩
theorem HRep.read {v:Hd} {x:V} {d:D} (h:HRep K H G own new σ v x) (r:Rel K ρ σ H G) (e:v.get ρ=some d):RepR K H G d x:=by
 cases v with
 | slot i=>exact r.get e h
 | val u =>
  simp only [Hd.get,Option.some.injEq] at e
  subst e
  cases u with
  | od d=>exact h.elim
  | sh d=>exact .inl h
  | ow d=>exact VRep.readR (own:=own) (new:=new) (v:=.ow d) h
theorem Rel.bound (r:Rel K ρ σ H G) {i:Nat} (h:((ρ[i]?).bind Sl.get).isSome=true):∃ v,σ[i]?=some (some v):=by
 cases e:ρ[i]? with
 | none=>rw [e] at h; cases h
 | some sl =>
  rw [e] at h
  cases sl with
  | un=>cases h
  | mv=>cases h
  | sh d' =>
   obtain ⟨v,h1,h2⟩:=r.sh i _ e
   exact ⟨v,h1⟩
  | ow d' p l =>
   obtain ⟨a,h1,_,h2⟩:=r.ow i _ p l e
   exact ⟨_,h1⟩
theorem RepR.lst {ds:List D} {x:V} (s:Same G H) (h:RepR K H G (.lst ds) x):∃ a vs,x=.ref a∧SqL K H a vs∧Reps K G ds vs:=by
 rcases h with h | ⟨a,rfl,h⟩
 ·simp only [Rep] at h
  obtain ⟨a,vs,e,h1,h2⟩:=h
  exact ⟨a,vs,e,s.seq h1,h2⟩
 ·obtain ⟨vs,h1,h2⟩:=h
  exact ⟨a,vs,rfl,SqL.of h1,h2⟩
theorem RepR.tup {ds:List D} {x:V} (s:Same G H) (h:RepR K H G (.tup ds) x):∃ a vs,x=.ref a∧SqT K H a vs∧Reps K G ds vs:=by
 rcases h with h | ⟨a,rfl,h⟩
 ·simp only [Rep] at h
  obtain ⟨a,vs,e,h1,h2⟩:=h
  exact ⟨a,vs,e,sqT_mono s h1,h2⟩
 ·exact h.elim
theorem RepR.int {i:Int} {x:V} (h:RepR K H G (.int i) x):x=.int i:=by
 rcases h with h | ⟨a,rfl,h⟩
 ·simpa [Rep] using h
 ·exact h.elim
theorem RepR.bl {i:Bool} {x:V} (h:RepR K H G (.bl i) x):x=.bl i:=by
 rcases h with h | ⟨a,rfl,h⟩
 ·simpa [Rep] using h
 ·exact h.elim
theorem RepR.str {i:Str} {x:V} (h:RepR K H G (.str i) x):x=.str i∧PyData.strOk i=true:=by
 rcases h with h | ⟨a,rfl,h⟩
 ·simpa [Rep] using h
 ·exact h.elim
theorem RepR.non {x:V} (h:RepR K H G .non x):x=.non:=by
 rcases h with h | ⟨a,rfl,h⟩
 ·simpa [Rep] using h
 ·exact h.elim
theorem rep_bl {i:Bool} {x:V} (h:Rep K G (.bl i) x):x=.bl i:=by simpa [Rep] using h
theorem Same.laid {a:Addr} {o:HO} (h:H a=none):Same H (upd H a o):=λb u e=>by rw [upd_ne (ne_of_none e h)]; exact e
theorem Sm.laid {a:Addr} {o:HO} (h:H a=none):Sm H (upd H a o):=Sm.of (Same.laid h)
theorem Sm.put {a:Addr} {o:HO} (h:H a=none):Sm H (upd H a o):=Sm.laid h
theorem Rel.layG (r:Rel K ρ σ H G) {a:Addr} {o:HO} (h:H a=none):Rel K ρ σ (upd H a o) (upd G a o):=by
 have hg:G a=none:=Same.free r.sub h
 refine ⟨r.len,λb u e=>?_,λi d e=>?_,λi d p l e=>?_,r.inj⟩
 ·by_cases hb:b=a
  ·subst hb; rw [upd_same] at e ⊢; exact e
  ·rw [upd_ne hb] at e ⊢; exact r.sub b u e
 ·obtain ⟨v,h1,h2⟩:=r.sh i d e
  exact ⟨v,h1,Rep.mono (Sm.laid hg) d h2⟩
 ·obtain ⟨b,h1,h2,h3⟩:=r.ow i d p l e
  obtain ⟨vs,hv⟩:=h3.there
  have hb:b≠a:=ne_of_none hv h
  refine ⟨b,h1,by rw [upd_ne hb]; exact h2,h3.mono (Sm.laid hg) λo' h'=>by rw [upd_ne hb]; exact h'⟩
theorem Ext.layG {a:Addr} {o:HO} (s:Same G H) (h:H a=none):Ext own H G (upd H a o) (upd G a o):=by
 have hg:G a=none:=Same.free s h
 refine ⟨Sm.laid hg,λb u e _=>Same.laid h b u e,λb e=>?_,λb e g _=>?_⟩
 ·by_cases hb:b=a
  ·subst hb; exact h
  ·rwa [upd_ne hb] at e
 ·by_cases hb:b=a
  ·subst hb; exact absurd h e
  ·rw [upd_ne hb]; exact g
theorem Rel.layH (r:Rel K ρ σ H G) {a:Addr} {o:HO} (h:H a=none):Rel K ρ σ (upd H a o) G:=by
 refine ⟨r.len,r.sub.trans (Same.laid h),r.sh,λi d p l e=>?_,r.inj⟩
 obtain ⟨b,h1,h2,h3⟩:=r.ow i d p l e
 obtain ⟨vs,hv⟩:=h3.there
 have hb:b≠a:=ne_of_none hv h
 exact ⟨b,h1,h2,h3.mono (Sm.refl _) λo' h'=>by rw [upd_ne hb]; exact h'⟩
theorem Ext.layH {a:Addr} {o:HO} (h:H a=none):Ext own H G (upd H a o) G:=by
 refine ⟨Sm.refl _,λb u e _=>Same.laid h b u e,λb e=>?_,λb e g _=>g⟩
 by_cases hb:b=a
 ·subst hb; exact h
 ·rwa [upd_ne hb] at e
theorem Rel.notOwn (r:Rel K ρ σ H G) {a:Addr} (h:H a=none):¬ Own ρ σ a:=λo=>(r.owned o).1 h
theorem Same.put {a:Addr} {o:HO} (h:G a=none):Same G (upd G a o):=Same.laid h
theorem VRep.share {v:RV} {x:V} (h:VRep K H G (Own ρ σ) new v x) (r:Rel K ρ σ H G) (hn:∀ a,new a→own a∨new' a) :
  ∃ G',Rel K ρ σ H G'∧Same G G'∧(∀ a,G' a≠none→G a≠none∨new a)∧Rep K G' v.d x:=by
 have main:∀ d,VRep K H G (Own ρ σ) new (.ow d) x→∃ G',Rel K ρ σ H G'∧Same G G'∧(∀ a,G' a≠none→G a≠none∨new a)∧Rep K G' d x:=by
  intro d h
  obtain ⟨a,rfl,g,o,n,m⟩:=h
  obtain ⟨ob,hv,hr⟩:=o.put
  refine ⟨upd G a ob,⟨r.len,λb u e=>?_,λi d e=>?_,λi d p l e=>?_,r.inj⟩,Same.put g,λb z=>?_, ?_⟩
  ·by_cases hb:b=a
   ·subst hb; rw [upd_same] at e; rw [hv]; exact e
   ·rw [upd_ne hb] at e; exact r.sub b u e
  ·obtain ⟨v,h1,h2⟩:=r.sh i d e
   exact ⟨v,h1,Rep.mono (Sm.put g) d h2⟩
  ·obtain ⟨b,h1,h2,h3⟩:=r.ow i d p l e
   have hb:b≠a:=λz=>by subst z; exact n ⟨i,d,p,l,e,h1⟩
   exact ⟨b,h1,by rw [upd_ne hb]; exact h2,h3.mono (Sm.put g) λ_ z=>z⟩
  ·by_cases hb:b=a
   ·subst hb; exact .inr m
   ·rw [upd_ne hb] at z; exact .inl z
  ·exact hr _ (Sm.put g) upd_same
 cases v with
 | sh d=>exact ⟨G,r,Same.refl _,λa z=>.inl z,h⟩
 | ow d=>exact main d h
 | od d=>exact main d h.low
end
def KindLe:Option Sl→Option Sl→Prop
 | some (.ow _ p l),some (.ow _ p' l')=>p=p'∧l=l'
 | some (.ow _ p _),some (.sh _)=>p=false
 | some .un,some .un=>True
 | some .mv,some .mv=>True
 | some (.sh _),some (.sh _)=>True
 | none,none=>True
 | _,_=>False
theorem KindLe.refl (a:Option Sl):KindLe a a:=by
 cases a with
 | none=>trivial
 | some s=>cases s <;> first | trivial | exact ⟨rfl,rfl⟩
theorem KindLe.trans {a b c:Option Sl} (h:KindLe a b) (h':KindLe b c):KindLe a c:=by
 cases a with
 | none =>
  cases b with
  | none=>exact h'
  | some t=>cases t <;> exact h.elim
 | some s =>
  cases b with
  | none=>cases s <;> exact h.elim
  | some t =>
   cases c with
   | none=>cases t <;> exact h'.elim
   | some u=>cases s <;> cases t <;> first | exact h.elim | (cases u <;> first | exact h'.elim | trivial | exact ⟨h.1.trans h'.1,h.2.trans h'.2⟩ | exact h.1.trans h' | exact h)
theorem KindLe.ow_of {a:Option Sl} {d:D} {p l:Bool} (h:KindLe a (some (.ow d p l))):∃ d',a=some (.ow d' p l):=by
 cases a with
 | none=>exact h.elim
 | some s=>cases s <;> first | exact h.elim | (obtain ⟨rfl,rfl⟩:=h; exact ⟨_,rfl⟩)
def Evo (ρ ρ':Env):Prop:=∀ i:Nat,KindLe ρ[i]? ρ'[i]?
theorem Evo.refl (ρ:Env):Evo ρ ρ:=λ_=>KindLe.refl _
theorem Evo.trans {a b c:Env} (h:Evo a b) (h':Evo b c):Evo a c:=λi=>(h i).trans (h' i)
theorem Evo.own {ρ ρ':Env} {σ:St} (h:Evo ρ ρ') (a:Addr) (o:Own ρ' σ a):Own ρ σ a:=by
 obtain ⟨i,d,p,l,h1,h2⟩:=o
 have:=h i
 rw [h1] at this
 obtain ⟨d',e⟩:=this.ow_of
 exact ⟨i,d',p,l,e,h2⟩
theorem Evo.set {ρ:Env} {i:Nat} {s:Sl} (h:KindLe ρ[i]? (some s)):Evo ρ (ρ.set i s):=λj=>by
 by_cases hij:j=i
 ·subst hij
  by_cases hl:j<ρ.length
  ·rw [List.getElem?_set_self hl]; exact h
  ·rw [List.getElem?_eq_none (by omega)] at h
   cases s <;> exact h.elim
 ·rw [List.getElem?_set_ne (λz=>hij z.symm)]
  exact KindLe.refl _
structure Aft (K:PySem.W.Frag) (ρ:Env) (σ:St) (H G:Hp) (ρ':Env) (H' G':Hp):Prop where
 rel:Rel K ρ' σ H' G'
 ext:Ext (Own ρ σ) H G H' G'
 evo:Evo ρ ρ'
section
variable {K:PySem.W.Frag} {ρ ρ' ρ1 ρ2:Env} {σ:St} {H G H' G' H1 G1 H2 G2:Hp}
theorem Aft.own (a:Aft K ρ σ H G ρ' H' G'):∀ a,Own ρ' σ a→Own ρ σ a:=λx h=>a.evo.own x h
theorem Aft.refl (r:Rel K ρ σ H G):Aft K ρ σ H G ρ H G:=⟨r,Ext.refl,Evo.refl _⟩
theorem Aft.trans (a:Aft K ρ σ H G ρ1 H1 G1) (b:Aft K ρ1 σ H1 G1 ρ2 H2 G2):Aft K ρ σ H G ρ2 H2 G2 :=
 ⟨b.rel,a.ext.trans (λx h=>.inl (a.own x h)) b.ext,a.evo.trans b.evo⟩
abbrev Fresh (H:Hp):Addr→Prop:=λa=>H a=none
theorem Aft.fresh (a:Aft K ρ σ H G ρ1 H1 G1) {x:Addr} (h:H1 x=none):H x=none:=a.ext.hx x h
theorem Aft.shareS (a:Aft K ρ σ H G ρ' H' G') {v:RV} {x:V} (h:VRep K H' G' (Own ρ' σ) (Fresh H) v x):∃ G2,Aft K ρ σ H G ρ' H' G2∧Rep K G2 v.d x∧Same G' G2:=by
 obtain ⟨G2,r2,s2,n2,h2⟩:=h.share (own:=λ_=>False) (new':=Fresh H) a.rel (λ_ z=>.inr z)
 refine ⟨G2,⟨r2,⟨a.ext.gg.trans s2,a.ext.hh,a.ext.hx,λb hb gb nb=>?_⟩,a.evo⟩,h2,s2⟩
 cases e:G2 b with
 | none=>rfl
 | some o =>
  rcases n2 b (by rw [e]; simp) with z | z
  ·exact absurd (a.ext.gn b hb gb nb) z
  ·exact absurd z hb
theorem Aft.share (a:Aft K ρ σ H G ρ' H' G') {v:RV} {x:V} (h:VRep K H' G' (Own ρ' σ) (Fresh H) v x):∃ G2,Aft K ρ σ H G ρ' H' G2∧Rep K G2 v.d x:=let ⟨G2,h1,h2,_⟩:=a.shareS h; ⟨G2,h1,h2⟩
theorem Aft.layG (a:Aft K ρ σ H G ρ' H' G') {p:Addr} {o:HO} (h:H' p=none):Aft K ρ σ H G ρ' (upd H' p o) (upd G' p o) :=
 a.trans ⟨a.rel.layG h,Ext.layG a.rel.sub h,Evo.refl _⟩
theorem Aft.layH (a:Aft K ρ σ H G ρ' H' G') {p:Addr} {o:HO} (h:H' p=none):Aft K ρ σ H G ρ' (upd H' p o) G' :=
 a.trans ⟨a.rel.layH h,Ext.layH h,Evo.refl _⟩
theorem Aft.own_new (a:Aft K ρ σ H G ρ' H' G') {p:Addr} {ds:List D} {vs:List V} (h:H' p=none) (r:Reps K G' ds vs) :
  Aft K ρ σ H G ρ' (upd H' p (.lst vs)) G'∧VRep K (upd H' p (.lst vs)) G' (Own ρ' σ) (Fresh H) (.ow (.lst ds)) (.ref p) :=
 ⟨a.layH h,p,rfl,Same.free a.rel.sub h,⟨vs,upd_same,r⟩,a.rel.notOwn h,a.fresh h⟩
theorem Aft.tup_new (a:Aft K ρ σ H G ρ' H' G') {p:Addr} {ds:List D} {vs:List V} (h:H' p=none) (r:Reps K G' ds vs) :
  Aft K ρ σ H G ρ' (upd H' p (.tup vs)) (upd G' p (.tup vs))∧VRep K (upd H' p (.tup vs)) (upd G' p (.tup vs)) (Own ρ' σ) (Fresh H) (.sh (.tup ds)) (.ref p):=by
 refine ⟨a.layG h, ?_⟩
 show Rep K _ (.tup ds) _
 simp only [Rep]
 exact ⟨p,vs,rfl,SqT.of upd_same,Reps.mono (Sm.laid (Same.free a.rel.sub h)) ds r⟩
end
def Tmp:List Hd→List V→Addr→Prop
 | .val (.ow _) :: hs,x :: xs,a=>x=.ref a∨Tmp hs xs a
 | _ :: hs,_ :: xs,a=>Tmp hs xs a
 | _,_,_=>False
def HReps (K:PySem.W.Frag) (H G:Hp) (own new:Addr→Prop) (σ:St):List Hd→List V→Prop
 | [],xs=>xs=[]
 | h :: hs,xs=>∃ x r,xs=x :: r∧HRep K H G own new σ h x∧HReps K H G own new σ hs r∧∀ d a,h=.val (.ow d)→x=.ref a→¬ Tmp hs r a
section
variable (K:PySem.W.Frag) (P:Pins) (C:Calls)
noncomputable def tE (c:E):TE:=λσ H Q=>∃ (ρ:Env) (G:Hp) (v:RV) (ρ':Env),Rel K ρ σ H G∧ev P C false c ρ=some (.ok v,ρ') ∧
 ∀ x H' G',Aft K ρ σ H G ρ' H' G'→VRep K H' G' (Own ρ' σ) (Fresh H) v x→Q x H'
noncomputable def tT (c:E):TT:=λσ H Q=>∃ (ρ:Env) (G:Hp) (b:Bool) (ρ':Env),Rel K ρ σ H G∧ev P C true c ρ=some (.ok (.sh (.bl b)),ρ') ∧
 ∀ H' G',Aft K ρ σ H G ρ' H' G'→Q b H'
noncomputable def tH (c:E):TE:=λσ H Q=>∃ (ρ:Env) (G:Hp) (h:Hd) (ρ':Env),Rel K ρ σ H G∧hd c (ev P C false c ρ) ρ=some (.ok h,ρ') ∧
 ∀ x H' G',Aft K ρ σ H G ρ' H' G'→HRep K H' G' (Own ρ' σ) (Fresh H) σ h x→Q x H'
noncomputable def tDs (cs:List E):TA:=λσ H Q=>∃ (ρ:Env) (G:Hp) (ds:List D) (ρ':Env),Rel K ρ σ H G∧evs P C cs ρ=some (.ok ds,ρ') ∧
 ∀ xs H' G',Aft K ρ σ H G ρ' H' G'→Reps K G' ds xs→Q xs H'
noncomputable def tHs (cs:List E):TA:=λσ H Q=>∃ (ρ:Env) (G:Hp) (hs:List Hd) (ρ':Env),Rel K ρ σ H G∧evHs P C cs ρ=some (.ok hs,ρ') ∧
 ∀ xs H' G',Aft K ρ σ H G ρ' H' G'→HReps K H' G' (Own ρ' σ) (Fresh H) σ hs xs→Q xs H'
end
theorem TE.imp_pe {X:Cx} {e:Expr} {t u:TE} (h:PE X e t) (w:∀ σ H Q,u σ H Q→t σ H Q):PE X e u:=λpins s σ H Q I q=>h pins s σ H Q I (w σ H Q q)
theorem TT.imp_pt {X:Cx} {e:Expr} {t u:TT} (h:PT X e t) (w:∀ σ H Q,u σ H Q→t σ H Q):PT X e u:=λpins s σ H Q I q=>h pins s σ H Q I (w σ H Q q)
theorem TA.imp_pa {X:Cx} {e:List Expr} {t u:TA} (h:PA X e t) (w:∀ σ H Q,u σ H Q→t σ H Q):PA X e u:=λpos pins s σ H Q I q=>h pos pins s σ H Q I (w σ H Q q)
theorem bind_ok {α β:Type} {r:Res α} {f:α→Env→Res β} {b:β} {ρ:Env} (h:r.bind f=some (.ok b,ρ)):∃ a ρ1,r=some (.ok a,ρ1)∧f a ρ1=some (.ok b,ρ):=by
 unfold Res.bind at h
 split at h
 ·cases h
 ·cases h
 ·exact ⟨_,_,rfl,h⟩
theorem done_ok {o:Option RV} {ρ ρ':Env} {v:RV} (h:done o ρ=some (.ok v,ρ')):o=some v∧ρ'=ρ:=by
 unfold done at h
 cases o with
 | none=>cases h
 | some u=>simp only [Option.map_some,Option.some.injEq,Prod.mk.injEq,Out.ok.injEq] at h; exact ⟨by rw [h.1],h.2.symm⟩
theorem wrap_ok {r:Res RV} {v:RV} {ρ':Env} (h:wrap true r=some (.ok v,ρ')):∃ u b,r=some (.ok u,ρ')∧truthD u.d=some b∧v=.sh (.bl b):=by
 obtain ⟨u,ρ1,h1,h2⟩:=bind_ok h
 cases e:truthD u.d with
 | none=>rw [e] at h2; cases h2
 | some b =>
  rw [e] at h2
  simp only [Option.map_some,Option.some.injEq,Prod.mk.injEq,Out.ok.injEq] at h2
  obtain ⟨h3,h4⟩:=h2
  subst h4
  exact ⟨u,b,h1,e,h3.symm⟩
section
variable {K:PySem.W.Frag} {P:Pins} {C:Calls} {σ:St} {H:Hp}
theorem tE_tH {X:Cx} {e:Expr} {c:E} (h:PE X e (tE K P C c)) (n:∀ i,c≠.var i):PE X e (tH K P C c):=by
 refine TE.imp_pe h λσ H Q q=>?_
 obtain ⟨ρ,G,hd',ρ',r,e1,k⟩:=q
 have:hd c (ev P C false c ρ) ρ=(ev P C false c ρ).bind λv ρ'=>some (.ok (.val v.low),ρ'):=by
  cases c <;> first | rfl | exact absurd rfl (n _)
 rw [this] at e1
 obtain ⟨v,ρ1,e2,e3⟩:=bind_ok e1
 cases e3
 exact ⟨ρ,G,v,_,r,e2,λx H' G' a hv=>k x H' G' a (HRep.of hv)⟩
theorem pe_varE {X:Cx} {e:Expr} {i:Nat} (h:PE X e (tVar i)):PE X e (tE K P C (.var i)):=by
 refine TE.imp_pe h λσ H Q q=>?_
 obtain ⟨ρ,G,v,ρ',r,e1,k⟩:=q
 replace e1:freeze i ρ=_:=e1
 unfold freeze at e1
 split at e1
 ·rename_i d hd
  cases e1
  obtain ⟨x,h1,h2⟩:=r.sh i d hd
  exact ⟨x,h1,k x H G (Aft.refl r) h2⟩
 ·rename_i d hd
  cases e1
  obtain ⟨a,h1,g,o⟩:=r.ow i d _ _ hd
  refine ⟨.ref a,h1, ?_⟩
  obtain ⟨ob,hv,hr⟩:=o.put
  have li:i<ρ.length:=(List.getElem?_eq_some_iff.mp hd).1
  have oth:∀ (j:Nat) (sl:Sl),(ρ.set i (.sh d))[j]?=some sl→(j=i∧sl=.sh d)∨(j≠i∧ρ[j]?=some sl):=λj sl hj=>by
   by_cases hij:j=i
   ·subst hij
    rw [List.getElem?_set_self li] at hj
    exact .inl ⟨rfl,(Option.some.inj hj).symm⟩
   ·rw [List.getElem?_set_ne (λz=>hij z.symm)] at hj
    exact .inr ⟨hij,hj⟩
  have own':∀ b,Own (ρ.set i (.sh d)) σ b→Own ρ σ b:=λb ⟨j,d',p,l,h3,h4⟩=>by
   rcases oth j _ h3 with ⟨_,z⟩ | ⟨_,z⟩
   ·cases z
   ·exact ⟨j,d',p,l,z,h4⟩
  refine k (.ref a) H (upd G a ob) ⟨⟨?_,λb u z=>?_,λj d' hj=>?_,λj d' p l hj=>?_,λj k' d1 p1 l1 d2 p2 l2 b h3 h4 h5 h6=>?_⟩,⟨Sm.put g,λ_ _ z _=>z,λ_ z=>z,λb h3 h4 h5=>?_⟩,Evo.set (by rw [hd]; rfl)⟩ ?_
  ·rw [List.length_set]; exact r.len
  ·by_cases hb:b=a
   ·subst hb; rw [upd_same] at z; rw [hv]; exact z
   ·rw [upd_ne hb] at z; exact r.sub b u z
  ·rcases oth j _ hj with ⟨rfl,z⟩ | ⟨_,z⟩
   ·cases z
    exact ⟨_,h1,hr _ (Sm.put g) upd_same⟩
   ·obtain ⟨x,h3,h4⟩:=r.sh j d' z
    exact ⟨x,h3,Rep.mono (Sm.put g) d' h4⟩
  ·rcases oth j _ hj with ⟨_,z⟩ | ⟨ne,z⟩
   ·cases z
   ·obtain ⟨b,h3,h4,h5⟩:=r.ow j d' p l z
    have hb:b≠a:=λe=>by subst e; exact ne (r.inj _ _ _ _ _ _ _ _ _ z hd h3 h1)
    exact ⟨b,h3,by rw [upd_ne hb]; exact h4,h5.mono (Sm.put g) λ_ z=>z⟩
  ·rcases oth j _ h3 with ⟨_,z⟩ | ⟨_,z⟩
   ·cases z
   ·rcases oth k' _ h4 with ⟨_,z'⟩ | ⟨_,z'⟩
    ·cases z'
    ·exact r.inj _ _ _ _ _ _ _ _ _ z z' h5 h6
  ·by_cases hb:b=a
   ·subst hb; exact absurd ⟨i,_,_,_,hd,h1⟩ h5
   ·rw [upd_ne hb]; exact h4
  ·exact hr _ (Sm.put g) upd_same
 ·cases e1
theorem pe_varH {X:Cx} {e:Expr} {i:Nat} (h:PE X e (tVar i)):PE X e (tH K P C (.var i)):=by
 refine TE.imp_pe h λσ H Q q=>?_
 obtain ⟨ρ,G,hd',ρ',r,e1,k⟩:=q
 simp only [hd] at e1
 split at e1
 ·rename_i hb
  cases e1
  obtain ⟨x,hx⟩:=r.bound hb
  exact ⟨x,hx,k x H G (Aft.refl r) hx⟩
 ·cases e1
theorem truth_ok {G:Hp} {d:D} {x:V} {b:Bool} (s:Same G H) (h:RepR K H G d x) (e:truthD d=some b):TruV K x H b:=by
 cases d <;> simp only [truthD,Option.some.injEq,reduceCtorEq] at e
 ·have:=h.non; subst this; exact e.symm
 ·have:=h.bl; subst this; exact e.symm
 ·have:=h.int; subst this; exact e.symm
 ·split at e
  ·rename_i hz
   obtain ⟨rfl,_⟩:=h.str
   exact ⟨Nat.le_trans hz (by decide),(Option.some.inj e).symm⟩
  ·cases e
 ·obtain ⟨a,vs,rfl,h1,h2⟩:=h.tup s
  refine .inr (.inl ⟨vs,h1, ?_⟩)
  rw [← e]
  have:=h2.len
  cases vs <;> cases ‹List D› <;> simp_all
 ·obtain ⟨a,vs,rfl,h1,h2⟩:=h.lst s
  refine .inl ⟨vs,h1, ?_⟩
  rw [← e]
  have:=h2.len
  cases vs <;> cases ‹List D› <;> simp_all
theorem pt_of {X:Cx} {e:Expr} {c:E} (hK:X.K=K) (h:PE X e (tE K P C c)) (hw:∀ ρ,ev P C true c ρ=wrap true (ev P C false c ρ))
  (he:∀ whole,isTrue e X.env whole=(do let v ← whole; standAt e.pos; holding [v] (truthy v))):PT X e (tT K P C c):=by
 refine TT.imp_pt (pt_truth h he) λσ H Q q=>?_
 obtain ⟨ρ,G,b,ρ',r,e1,k⟩:=q
 rw [hw] at e1
 obtain ⟨u,b',e2,e3,e4⟩:=wrap_ok e1
 cases e4
 refine ⟨ρ,G,u,ρ',r,e2,λx H' G' a hv=>⟨b, ?_,k H' G' a⟩⟩
 rw [hK]
 exact truth_ok a.rel.sub hv.readR e3
end
mutual
theorem eqv_toP:∀ (n:Nat) (d e:D),okD n d=true→okD n e=true→PyData.eqv (toP d) (toP e)=eqD d e
 | n,.non,e,_,h=>by cases e <;> first | (cases n <;> simp [okD] at h; done) | simp [toP,PyData.eqv,eqD]
 | n,.bl b,e,_,h=>by cases e <;> first | (cases n <;> simp [okD] at h; done) | simp [toP,PyData.eqv,eqD]
 | n,.int b,e,_,h=>by cases e <;> first | (cases n <;> simp [okD] at h; done) | simp [toP,PyData.eqv,eqD]
 | n,.str b,e,_,h=>by cases e <;> first | (cases n <;> simp [okD] at h; done) | simp [toP,PyData.eqv,eqD]
 | n+1,.tup ds,e,h,h'=>by
  cases e with
  | tup es =>
   simp only [toP,PyData.eqv,eqD]
   exact eqv_toPs n ds es (by simpa [okD] using h) (by simpa [okD] using h')
  | ins=>simp [okD] at h'
  | dct=>simp [okD] at h'
  | dcs=>simp [okD] at h'
  | dl=>simp [okD] at h'
  | exn=>simp [okD] at h'
  | _=>simp [toP,PyData.eqv,eqD]
 | n+1,.lst ds,e,h,h'=>by
  cases e with
  | lst es =>
   simp only [toP,PyData.eqv,eqD]
   exact eqv_toPs n ds es (by simpa [okD] using h) (by simpa [okD] using h')
  | ins=>simp [okD] at h'
  | dct=>simp [okD] at h'
  | dcs=>simp [okD] at h'
  | dl=>simp [okD] at h'
  | exn=>simp [okD] at h'
  | _=>simp [toP,PyData.eqv,eqD]
 | 0,.tup ds,e,h,_=>by simp [okD] at h
 | 0,.lst ds,e,h,_=>by simp [okD] at h
 | n,.ins _ _ _,_,h,_=>by cases n <;> simp [okD] at h
 | n,.dct _,_,h,_=>by cases n <;> simp [okD] at h
 | n,.dcs _ _,_,h,_=>by cases n <;> simp [okD] at h
 | n,.dl _,_,h,_=>by cases n <;> simp [okD] at h
 | n,.exn _ _,_,h,_=>by cases n <;> simp [okD] at h
theorem eqv_toPs:∀ (n:Nat) (ds es:List D),(∀ d∈ds,okD n d=true)→(∀ d∈es,okD n d=true)→PyData.eqvAll (toPs ds) (toPs es)=eqDs ds es
 | n,[],[],_,_=>by simp [toPs,PyData.eqvAll,eqDs]
 | n,[],_ :: _,_,_=>by simp [toPs,PyData.eqvAll,eqDs]
 | n,_ :: _,[],_,_=>by simp [toPs,PyData.eqvAll,eqDs]
 | n,d :: ds,e :: es,h,h'=>by
  simp only [toPs,PyData.eqvAll,eqDs]
  rw [eqv_toP n d e (h d (by simp)) (h' e (by simp)),eqv_toPs n ds es (λx hx=>h x (by simp [hx])) (λx hx=>h' x (by simp [hx]))]
end
section
variable {X:Cx} {K:PySem.W.Frag} {pins:List (Addr × Obj)} {σ:St} {H G:Hp} {s:Shared}
mutual
theorem reads_rep (I:Inv X pins σ H s) (hK:X.K=K) (sub:Same G H):∀ (n:Nat) (d:D) (x:V) (u:Value),okD n d=true→Rep K G d x→RelV x u→∃ as,Reads s.heap u (toP d) as∧PyData.canLay0 (toP d)=true∧PyData.depth (toP d)≤n
 | n,.non,x,u,_,h,r=>by
  simp only [Rep] at h; subst h; cases r
  exact ⟨_,Reads.none,by simp [toP,PyData.canLay0],by simp [toP,PyData.depth]⟩
 | n,.bl b,x,u,_,h,r=>by
  simp only [Rep] at h; subst h; cases r
  exact ⟨_,Reads.bool b,by simp [toP,PyData.canLay0],by simp [toP,PyData.depth]⟩
 | n,.int b,x,u,_,h,r=>by
  simp only [Rep] at h; subst h; obtain ⟨t,rfl⟩:=r
  exact ⟨_,Reads.int b t,by simp [toP,PyData.canLay0],by simp [toP,PyData.depth]⟩
 | n,.str b,x,u,_,h,r=>by
  simp only [Rep] at h; obtain ⟨rfl,hs⟩:=h; obtain ⟨t,rfl⟩:=r
  exact ⟨_,Reads.str b t,by simpa [toP,PyData.canLay0] using hs,by simp [toP,PyData.depth]⟩
 | n+1,.tup ds,x,u,ok,h,r=>by
  simp only [Rep] at h
  obtain ⟨a,vs,rfl,h1,h2⟩:=h
  cases r
  obtain ⟨its,rv,⟨o,ho,hc,m,hd⟩,hz⟩:=I.tuple (show SqT X.K H a vs from hK ▸ sqT_mono sub h1)
  obtain ⟨as,r1,r2,r3⟩:=reads_reps I hK sub n ds vs its (by simpa [okD] using ok) h2 rv
  exact ⟨_,Reads.tuple ho hc hd (by simpa using r1),by simpa [toP,PyData.canLay0] using r2,by simp [toP,PyData.depth]; omega⟩
 | n+1,.lst ds,x,u,ok,h,r=>by
  simp only [Rep] at h
  obtain ⟨a,vs,rfl,h1,h2⟩:=h
  cases r
  obtain ⟨its,rv,⟨o,m,ho,hc,hn,hd⟩,hz⟩:=I.list (show SqL X.K H a vs from hK ▸ sub.seq h1)
  obtain ⟨as,r1,r2,r3⟩:=reads_reps I hK sub n ds vs its (by simpa [okD] using ok) h2 rv
  exact ⟨_,Reads.list ho hc hd (by simpa using r1),by simpa [toP,PyData.canLay0] using r2,by simp [toP,PyData.depth]; omega⟩
 | 0,.tup ds,_,_,h,_,_=>by simp [okD] at h
 | 0,.lst ds,_,_,h,_,_=>by simp [okD] at h
 | n,.ins _ _ _,_,_,h,_,_=>by cases n <;> simp [okD] at h
 | n,.dct _,_,_,h,_,_=>by cases n <;> simp [okD] at h
 | n,.dcs _ _,_,_,h,_,_=>by cases n <;> simp [okD] at h
 | n,.dl _,_,_,h,_,_=>by cases n <;> simp [okD] at h
 | n,.exn _ _,_,_,h,_,_=>by cases n <;> simp [okD] at h
theorem reads_reps (I:Inv X pins σ H s) (hK:X.K=K) (sub:Same G H):∀ (n:Nat) (ds:List D) (xs:List V) (us:List Value),(∀ d∈ds,okD n d=true)→Reps K G ds xs→Vals xs us→∃ as,ReadsAll s.heap us (toPs ds) as∧PyData.canLayAll0 (toPs ds)=true∧PyData.depthAll (toPs ds)≤n
 | n,[],xs,us,_,h,r=>by
  simp only [Reps] at h; subst h; cases r
  exact ⟨_,ReadsAll.nil,by simp [toPs,PyData.canLayAll0],by simp [toPs,PyData.depthAll]⟩
 | n,d :: ds,xs,us,ok,h,r=>by
  simp only [Reps] at h
  obtain ⟨v,r',rfl,h1,h2⟩:=h
  cases r with
  | cons ra rb =>
   obtain ⟨as,a1,a2,a3⟩:=reads_rep I hK sub n d v _ (ok d (by simp)) h1 ra
   obtain ⟨bs,b1,b2,b3⟩:=reads_reps I hK sub n ds r' _ (λx hx=>ok x (by simp [hx])) h2 rb
   exact ⟨_,ReadsAll.cons a1 b1,by simp [toPs,PyData.canLayAll0,a2,b2],by simp [toPs,PyData.depthAll]; omega⟩
end
theorem reads_repR (I:Inv X pins σ H s) (hK:X.K=K) (sub:Same G H) (n:Nat) (d:D) (x:V) (u:Value) (ok:okD n d=true) (h:RepR K H G d x) (r:RelV x u):∃ as,Reads s.heap u (toP d) as∧PyData.canLay0 (toP d)=true∧PyData.depth (toP d)≤n:=by
 rcases h with h | ⟨a,rfl,h⟩
 ·exact reads_rep I hK sub n d x u ok h r
 ·cases r
  cases d <;> first | exact h.elim | skip
  case dl=>cases n <;> simp [okD] at ok
  rename_i ds
  obtain ⟨vs,h1,h2⟩:=h
  cases n with
  | zero=>simp [okD] at ok
  | succ n =>
   obtain ⟨its,rv,⟨o,m,ho,hc,hn,hd⟩,hz⟩:=I.list (SqL.of h1)
   obtain ⟨as,r1,r2,r3⟩:=reads_reps I hK sub n ds vs its (by simpa [okD] using ok) h2 rv
   exact ⟨_,Reads.list ho hc hd (by simpa using r1),by simpa [toP,PyData.canLay0] using r2,by simp [toP,PyData.depth]; omega⟩
def Made (K:PySem.W.Frag) (H G:Hp) (v:RV) (x:V) (H':Hp):Prop :=
 (∃ d,v=.sh d∧Rep K G d x∧H'=H) ∨
 (∃ ds vs p,v=.ow (.lst ds)∧H p=none∧Reps K G ds vs∧x=.ref p∧H'=upd H p (.lst vs)) ∨
 (∃ ds vs p,v=.sh (.tup ds)∧H p=none∧Reps K G ds vs∧x=.ref p∧H'=upd H p (.tup vs))
theorem Aft.made {ρ ρ':Env} {H0 G0 H2:Hp} (a:Aft K ρ σ H0 G0 ρ' H G) {v:RV} {x:V} (m:Made K H G v x H2) :
  ∃ G2,Aft K ρ σ H0 G0 ρ' H2 G2∧VRep K H2 G2 (Own ρ' σ) (Fresh H0) v x:=by
 rcases m with ⟨d,rfl,h,rfl⟩ | ⟨ds,vs,p,rfl,h,r,rfl,rfl⟩ | ⟨ds,vs,p,rfl,h,r,rfl,rfl⟩
 ·exact ⟨G,a,h⟩
 ·exact ⟨_,a.own_new h r⟩
 ·exact ⟨_,a.tup_new h r⟩
noncomputable def rBin (K:PySem.W.Frag) (op:Operator):R2:=λx y H Q=>∃ G d e v,Same G H∧RepR K H G d x∧RepR K H G e y∧(op=.Mult→∀ ds,d=.lst ds→∃ a vs,x=.ref a∧H a=some (.lst vs)∧Reps K G ds vs)∧binD op d e=some v∧∀ z H',Made K H G v z H'→Q z H'
theorem made_int {i:Int}:Made K H G (.sh (.int i)) (.int i) H:=.inl ⟨_,rfl,by simp [Rep],rfl⟩
theorem made_bl {i:Bool}:Made K H G (.sh (.bl i)) (.bl i) H:=.inl ⟨_,rfl,by simp [Rep],rfl⟩
theorem smallL_ok {n:Nat} (h:smallL n=true):n≤sizeLine:=Nat.le_trans (@of_decide_eq_true _ (cl _) h) (by decide)
theorem sql_get (I:Inv X pins σ H s) {a:Addr} {vs:List V} (h:SqL X.K H a vs):∃ (its:List Value),Vals vs its∧s.heap.IsList a its.toArray∧vs.length≤sizeLine:=by
 obtain ⟨its,r,p,z⟩:=I.list h
 exact ⟨its,r,p.isList,z⟩
theorem OpR.imp {f:Value→Value→Sem Value} {r r':R2} (h:OpR X f r) (w:∀ x y H Q,r' x y H Q→r x y H Q):OpR X f r':=λpins s σ H x y v u Q I rx ry q=>h pins s σ H x y v u Q I rx ry (w x y H Q q)
noncomputable def rCatS (K:PySem.W.Frag):R2:=λx y H Q=>∃ l b xs zs,x=.ref l∧y=.ref b∧SqL K H l xs∧SqL K H b zs∧xs.length+zs.length≤sizeLine∧∀ p,H p=none→Q (.ref p) (upd H p (.lst (xs ++ zs)))
theorem op_catS:OpR X (binaryOp .Add) (rCatS X.K):=by
 intro pins s σ H x y v u Q I rx ry h
 obtain ⟨l,b,xs,zs,rfl,rfl,hH,hB,hz,q⟩:=h
 cases rx
 cases ry
 obtain ⟨its,r,hl,z⟩:=sql_get I hH
 obtain ⟨its2,r2,hl2,z2⟩:=sql_get I hB
 have e1:=r.length
 have e2:=r2.length
 obtain ⟨⟨cls,dd,data,sl⟩,ho,hc,n,hd⟩:=id hl
 obtain ⟨⟨cls2,dd2,data2,sl2⟩,ho2,hc2,n2,hd2⟩:=id hl2
 simp only at hc hd hc2 hd2
 subst hc hd hc2 hd2
 refine concat_meets ⟨_,ho,rfl⟩ ⟨_,ho2,rfl⟩ noFill_list_add seq_list_add PySem.F.slot_list_add PySem.F.entry_list_add (PySem.F.args_list_add_2 _ _) (list_addW l b its.toArray its2.toArray n n2 dd dd2 sl sl2 (by simp; omega)) ⟨ho,ho2, ?_⟩
 have ea:its.toArray ++ its2.toArray=(its ++ its2).toArray:=by simp
 rw [ea]
 exact ⟨.ref _,_,I.lnew (t':=s.toks) (r.append r2) (by rw [List.length_append]; omega),rfl,q _ I.fresh⟩
theorem op_fdivB:OpR X (binaryOp .FloorDiv) (rI (λ_ j=>0<j∧j<100000000000000000000000000000000000000000000000000000000000000000000000000000000) λi j=>.int (i / j)):=opI λi j _ _ _ _ _ hc q=>by
 have h1:(0:Int)<j:=hc.1
 have h2:j<100000000000000000000000000000000000000000000000000000000000000000000000000000000:=hc.2
 have h3:j.natAbs<2 ^ 300:=Nat.lt_of_lt_of_le (by omega:j.natAbs<100000000000000000000000000000000000000000000000000000000000000000000000000000000) (by decide)
 have h4:j.natAbs.log2<300:=(Nat.log2_lt (by omega)).mpr h3
 exact PyProof.Rows.floordiv_int (by omega) (by rw [Int.fdiv_eq_ediv_of_nonneg i (by omega)]; exact q) (.inl (PyProof.noPylong_of_log2 (by omega)))
theorem no_some {α:Type _} {v:α} (e:none=some v):False:=nomatch e
theorem op_cat0 {X:Cx}:OpR X (binaryOp .Add) (λx y H Q=>∃ a b ys,x=.ref a∧y=.ref b∧SqT X.K H a []∧SqT X.K H b ys∧Q (.ref b) H):=by
 intro pins s σ H x y v u Q I rx ry h
 obtain ⟨a,b,ys,rfl,rfl,ha,hb,q⟩:=h
 cases rx
 cases ry
 obtain ⟨its,r1,p1,_⟩:=I.tuple ha
 obtain ⟨its2,r2,p2,_⟩:=I.tuple hb
 have e0:its=[]:=r1.nil_iff.mpr rfl
 subst e0
 obtain ⟨⟨cls,dd,data,sl⟩,ho,hc,n,hd⟩:=id p1
 obtain ⟨⟨cls2,dd2,data2,sl2⟩,ho2,hc2,n2,hd2⟩:=id p2
 simp only at hc hd hc2 hd2
 subst hc hd hc2 hd2
 exact concat_meets ⟨_,ho,rfl⟩ ⟨_,ho2,rfl⟩ noFill_tuple_add seq_tuple_add PySem.F.slot_tuple_add PySem.F.entry_tuple_add (PySem.F.args_tuple_add_2 _ _)
  (tuple_addW0 a b [].toArray its2.toArray n n2 dd dd2 sl sl2 rfl) ⟨ho,ho2,⟨.ref b,H,I,rfl,q⟩⟩
theorem bin_ok (hK:X.K=K) (op:Operator):OpR X (binaryOp op) (rBin K op):=by
 intro pins s σ H x y v u Q I rx ry h
 obtain ⟨G,d,e,w,sub,hx,hy,hm,eb,k⟩:=h
 subst hK
 cases op with
 | Add =>
  cases d with
  | int =>
   cases e with
   | int =>
    cases hx.int; cases hy.int
    change some _=_ at eb
    cases eb
    exact op_add pins s σ H _ _ _ _ Q I rx ry ⟨_,_,rfl,rfl,k _ _ made_int⟩
   | _=>exact (no_some eb).elim
  | lst xs =>
   cases e with
   | lst ys =>
    change (if smallL (xs.length+ys.length) then some _ else none)=_ at eb
    split at eb
    ·rename_i hz
     cases eb
     obtain ⟨a,vs,rfl,h1,h2⟩:=hx.lst sub
     obtain ⟨b,ws,rfl,h3,h4⟩:=hy.lst sub
     refine op_catS pins s σ H _ _ _ _ Q I rx ry ⟨a,b,vs,ws,rfl,rfl,h1,h3, ?_,λp hp=>k _ _ (.inr (.inl ⟨_,_,p,rfl,hp,h2.app h4,rfl,rfl⟩))⟩
     rw [h2.len,h4.len]; exact smallL_ok hz
    ·cases eb
   | _=>exact (no_some eb).elim
  | tup xs =>
   cases xs with
   | nil =>
    cases e with
    | tup ys0 =>
     change some _=_ at eb
     cases eb
     have hy':=hy
     obtain ⟨a,vs,rfl,h1,h2⟩:=hx.tup sub
     obtain ⟨b,ws,rfl,h3,h4⟩:=hy.tup sub
     have e1:vs=[]:=List.length_eq_zero_iff.mp h2.len
     subst e1
     refine op_cat0 pins s σ H _ _ _ _ Q I rx ry ⟨a,b,ws,rfl,rfl,h1,h3, ?_⟩
     rcases hy' with hy' | ⟨_,_,hy'⟩
     ·exact k _ _ (.inl ⟨_,rfl,hy',rfl⟩)
     ·exact hy'.elim
    | _=>exact (no_some eb).elim
   | cons x0 xs0 =>
    cases e with
    | tup ys0 =>
     change (if smallL (xs0.length+1+ys0.length) then some _ else none)=_ at eb
     split at eb
     ·rename_i hz
      cases eb
      have hx':=hx
      obtain ⟨a,vs,rfl,h1,h2⟩:=hx.tup sub
      obtain ⟨b,ws,rfl,h3,h4⟩:=hy.tup sub
      have e1:=h2.len
      have e2:=h4.len
      refine op_catT pins s σ H _ _ _ _ Q I rx ry ⟨a,b,vs,ws,rfl,rfl,h1,h3, ?_, ?_,λhw=>?_,λhw p hp=>?_⟩
      ·intro z; subst z; simp at e1
      ·rw [e1,e2]; exact smallL_ok hz
      ·subst hw
       have e3:ys0=[]:=List.length_eq_zero_iff.mp e2.symm
       subst e3
       rcases hx' with hx' | ⟨_,_,hx'⟩
       ·exact k _ _ (.inl ⟨_,rfl,by simpa using hx',rfl⟩)
       ·exact hx'.elim
      ·exact k _ _ (.inr (.inr ⟨_,_,p,rfl,hp,h2.app h4,rfl,rfl⟩))
     ·cases eb
    | _=>exact (no_some eb).elim
  | _=>exact (no_some eb).elim
 | Sub =>
  cases d with
  | int =>
   cases e with
   | int =>
    cases hx.int; cases hy.int
    change some _=_ at eb
    cases eb
    exact op_sub pins s σ H _ _ _ _ Q I rx ry ⟨_,_,rfl,rfl,k _ _ made_int⟩
   | _=>exact (no_some eb).elim
  | _=>exact (no_some eb).elim
 | Mult =>
  cases d with
  | int =>
   cases e with
   | int =>
    cases hx.int; cases hy.int
    change @ite _ _ (cl _) _ none=_ at eb
    split at eb
    ·cases eb
     exact op_mul pins s σ H _ _ _ _ Q I rx ry ⟨_,_,rfl,rfl,‹_›,k _ _ made_int⟩
    ·cases eb
   | _=>exact (no_some eb).elim
  | lst xs =>
   cases e with
   | int kk =>
    change @ite _ (-(2 ^ 31)≤kk∧kk≤1000∧smallL (xs.length*kk.toNat)) (cl _) _ none=_ at eb
    split at eb
    ·rename_i hc
     cases eb
     cases hy.int
     obtain ⟨a,vs,rfl,h1,h2⟩:=hm rfl _ rfl
     refine op_rep pins s σ H _ _ _ _ Q I rx ry ⟨a,_,vs,rfl,rfl,h1,by omega,by omega, ?_,λp hp=>k _ _ (.inr (.inl ⟨_,_,p,rfl,hp,h2.rep _,rfl,rfl⟩))⟩
     rw [h2.len]; exact smallL_ok hc.2.2
    ·cases eb
   | _=>exact (no_some eb).elim
  | _=>exact (no_some eb).elim
 | FloorDiv =>
  cases d with
  | int =>
   cases e with
   | int =>
    cases hx.int; cases hy.int
    change @ite _ _ (cl _) _ none=_ at eb
    split at eb
    ·cases eb
     exact op_fdivB pins s σ H _ _ _ _ Q I rx ry ⟨_,_,rfl,rfl,‹_›,k _ _ made_int⟩
    ·cases eb
   | _=>exact (no_some eb).elim
  | _=>exact (no_some eb).elim
 | Mod =>
  cases d with
  | int =>
   cases e with
   | int =>
    cases hx.int; cases hy.int
    change @ite _ _ (cl _) _ none=_ at eb
    split at eb
    ·cases eb
     exact op_mod pins s σ H _ _ _ _ Q I rx ry ⟨_,_,rfl,rfl,‹_›,k _ _ made_int⟩
    ·cases eb
   | _=>exact (no_some eb).elim
  | _=>exact (no_some eb).elim
 | Pow =>
  cases d with
  | int =>
   cases e with
   | int =>
    cases hx.int; cases hy.int
    change @ite _ _ (cl _) _ none=_ at eb
    split at eb
    ·rename_i hc
     cases eb
     exact op_pow pins s σ H _ _ _ _ Q I rx ry ⟨_,_,rfl,rfl,⟨hc.1,by omega,hc.2.2⟩,k _ _ made_int⟩
    ·cases eb
   | _=>exact (no_some eb).elim
  | _=>exact (no_some eb).elim
 | LShift =>
  cases d with
  | int =>
   cases e with
   | int =>
    cases hx.int; cases hy.int
    change @ite _ _ (cl _) _ none=_ at eb
    split at eb
    ·rename_i hc
     cases eb
     exact op_shl pins s σ H _ _ _ _ Q I rx ry ⟨_,_,rfl,rfl,⟨hc.1,by omega,hc.2.2⟩,k _ _ made_int⟩
    ·cases eb
   | _=>exact (no_some eb).elim
  | _=>exact (no_some eb).elim
 | RShift=>exact (no_some eb).elim
 | BitAnd=>exact (no_some eb).elim
 | BitOr=>exact (no_some eb).elim
 | _=>exact (no_some eb).elim
noncomputable def rCmp (K:PySem.W.Frag) (op:CmpOp):R2:=λx y H Q=>∃ G d e b,Same G H∧RepR K H G d x∧RepR K H G e y∧cmpD op d e=some b∧Q (.bl b) H
theorem flatD_V {d:D} {x:V} (h:Rep K G d x) (f:flatD d=true):flatV x=true∧∀ (e:D) (y:V),Rep K G e y→flatD e=true→eqV y x=eqD e d:=by
 cases d <;> simp only [flatD,Bool.false_eq_true] at f <;> simp only [Rep] at h
 ·subst h
  refine ⟨rfl,λe y hy fe=>?_⟩
  cases e <;> simp only [flatD,Bool.false_eq_true] at fe <;> simp only [Rep] at hy <;> (first | subst hy | (obtain ⟨rfl,_⟩:=hy)) <;> simp [eqV,eqD]
 ·subst h
  refine ⟨rfl,λe y hy fe=>?_⟩
  cases e <;> simp only [flatD,Bool.false_eq_true] at fe <;> simp only [Rep] at hy <;> (first | subst hy | (obtain ⟨rfl,_⟩:=hy)) <;> simp [eqV,eqD]
 ·subst h
  refine ⟨rfl,λe y hy fe=>?_⟩
  cases e <;> simp only [flatD,Bool.false_eq_true] at fe <;> simp only [Rep] at hy <;> (first | subst hy | (obtain ⟨rfl,_⟩:=hy)) <;> simp [eqV,eqD]
 ·obtain ⟨rfl,_⟩:=h
  refine ⟨rfl,λe y hy fe=>?_⟩
  cases e <;> simp only [flatD,Bool.false_eq_true] at fe <;> simp only [Rep] at hy <;> (first | subst hy | (obtain ⟨rfl,_⟩:=hy)) <;> simp [eqV,eqD]
theorem RepR.flat {d:D} {x:V} (h:RepR K H G d x) (f:flatD d=true):Rep K G d x:=by
 rcases h with h | ⟨a,rfl,h⟩
 ·exact h
 ·cases d <;> first | exact h.elim | cases f
theorem inV_ok {d:D} {x:V} (h:Rep K G d x) (f:flatD d=true):∀ {ds:List D} {vs:List V},Reps K G ds vs→ds.all flatD=true→vs.all flatV=true∧inV x vs=inD d ds
 | [],vs,h2,_=>by simp only [Reps] at h2; subst h2; exact ⟨rfl,rfl⟩
 | e :: ds,vs,h2,fs=>by
  simp only [Reps] at h2
  obtain ⟨y,r,rfl,h3,h4⟩:=h2
  rw [List.all_cons,Bool.and_eq_true] at fs
  obtain ⟨a1,a2⟩:=inV_ok h f h4 fs.2
  obtain ⟨b1,_⟩:=flatD_V h3 fs.1
  have b2:=(flatD_V h f).2 e y h3 fs.1
  refine ⟨by rw [List.all_cons,b1,a1]; rfl, ?_⟩
  unfold inV inD at *
  rw [List.any_cons,List.any_cons,a2,b2]
theorem rc_rep (I:Inv X pins σ H s) (hK:X.K=K) (sub:Same G H) {A:Around} (hu:A.units+20<cLine) {d e:D} {x y:V} {v u:Value} (od:okD 20 d=true) (oe:okD 20 e=true) (hx:RepR K H G d x) (hy:RepR K H G e y) (rx:RelV x v) (ry:RelV y u) :
  SeqAt.RcAt A s v u (eqD d e)∧SeqAt.RcNeAt A s v u (!eqD d e):=by
 obtain ⟨as,a1,a2,a3⟩:=reads_repR I hK sub 20 d x v od hx rx
 obtain ⟨bs,b1,b2,b3⟩:=reads_repR I hK sub 20 e y u oe hy ry
 rw [← eqv_toP 20 d e od oe]
 exact ⟨SeqAt.rcAt_reads a1 b1 a2 b2 (by omega),SeqAt.rcNeAt_reads a1 b1 a2 b2 (by omega)⟩
theorem cmp_ok (hK:X.K=K) (hu:X.A.units+64<cLine) (op:CmpOp):OpR X (compareOp op) (rCmp K op):=by
 intro pins s σ H x y v u Q I rx ry h
 obtain ⟨G,d,e,b,sub,hx,hy,eb,k⟩:=h
 cases op with
 | Eq =>
  change (if okD 20 d && okD 20 e then some _ else none)=_ at eb
  split at eb
  ·rename_i hc
   cases eb
   rw [Bool.and_eq_true] at hc
   exact (rc_rep I hK sub (by omega) hc.1 hc.2 hx hy rx ry).1 _ _ _ _ ⟨.bl _,H,I,rfl,k⟩
  ·cases eb
 | NotEq =>
  change (if okD 20 d && okD 20 e then some _ else none)=_ at eb
  split at eb
  ·rename_i hc
   cases eb
   rw [Bool.and_eq_true] at hc
   exact (rc_rep I hK sub (by omega) hc.1 hc.2 hx hy rx ry).2 _ _ _ _ ⟨.bl _,H,I,rfl,k⟩
  ·cases eb
 | Lt =>
  cases d with
  | int =>
   cases e with
   | int =>
    cases hx.int; cases hy.int
    change some _=_ at eb
    cases eb
    exact op_lt pins s σ H _ _ _ _ Q I rx ry ⟨_,_,rfl,rfl,k⟩
   | _=>exact (no_some eb).elim
  | _=>exact (no_some eb).elim
 | LtE =>
  cases d with
  | int =>
   cases e with
   | int =>
    cases hx.int; cases hy.int
    change some _=_ at eb
    cases eb
    exact op_le pins s σ H _ _ _ _ Q I rx ry ⟨_,_,rfl,rfl,k⟩
   | _=>exact (no_some eb).elim
  | _=>exact (no_some eb).elim
 | Gt =>
  cases d with
  | int =>
   cases e with
   | int =>
    cases hx.int; cases hy.int
    change some _=_ at eb
    cases eb
    exact op_gt pins s σ H _ _ _ _ Q I rx ry ⟨_,_,rfl,rfl,k⟩
   | _=>exact (no_some eb).elim
  | _=>exact (no_some eb).elim
 | GtE =>
  cases d with
  | int =>
   cases e with
   | int =>
    cases hx.int; cases hy.int
    change some _=_ at eb
    cases eb
    exact op_ge pins s σ H _ _ _ _ Q I rx ry ⟨_,_,rfl,rfl,k⟩
   | _=>exact (no_some eb).elim
  | _=>exact (no_some eb).elim
 | Is =>
  cases e with
  | non =>
   cases hy.non
   refine op_isN pins s σ H _ _ _ _ Q I rx ry ⟨rfl, ?_⟩
   by_cases hd:d=.non
   ·subst hd
    cases hx.non
    change some _=_ at eb
    cases eb
    simpa using k
   ·have:¬ x=.non:=λz=>by
     subst z
     rcases hx with hx | ⟨_,z,_⟩
     ·cases d <;> first | exact hd rfl | simp [Rep] at hx
     ·cases z
    cases d with
    | non=>exact absurd rfl hd
    | _ =>
     change some _=_ at eb
     cases eb
     simpa [this] using k
  | bl =>
   cases d with
   | bl =>
    cases hx.bl; cases hy.bl
    change some _=_ at eb
    cases eb
    cases rx; cases ry
    exact is_bool ⟨.bl _,H,I,rfl,k⟩
   | _=>exact (no_some eb).elim
  | _=>cases d <;> exact (no_some eb).elim
 | IsNot =>
  cases e with
  | non =>
   cases hy.non
   refine op_notN pins s σ H _ _ _ _ Q I rx ry ⟨rfl, ?_⟩
   by_cases hd:d=.non
   ·subst hd
    cases hx.non
    change some _=_ at eb
    cases eb
    simpa using k
   ·have:¬ x=.non:=λz=>by
     subst z
     rcases hx with hx | ⟨_,z,_⟩
     ·cases d <;> first | exact hd rfl | simp [Rep] at hx
     ·cases z
    cases d with
    | non=>exact absurd rfl hd
    | _ =>
     change some _=_ at eb
     cases eb
     simpa [this] using k
  | _=>cases d <;> exact (no_some eb).elim
 | In =>
  cases e with
  | tup ds =>
   change (if flatD d && ds.all flatD then some _ else none)=_ at eb
   split at eb
   ·rename_i hc
    cases eb
    rw [Bool.and_eq_true] at hc
    obtain ⟨a,vs,rfl,h1,h2⟩:=hy.tup sub
    obtain ⟨i1,i2⟩:=inV_ok (hx.flat hc.1) hc.1 h2 hc.2
    refine op_in_seq pins s σ H _ _ _ _ Q I rx ry ⟨a,vs,rfl,.inr (hK ▸ h1),(flatD_V (hx.flat hc.1) hc.1).1,i1, ?_⟩
    simpa [i2] using k
   ·cases eb
  | lst ds =>
   change (if flatD d && ds.all flatD then some _ else none)=_ at eb
   split at eb
   ·rename_i hc
    cases eb
    rw [Bool.and_eq_true] at hc
    obtain ⟨a,vs,rfl,h1,h2⟩:=hy.lst sub
    obtain ⟨i1,i2⟩:=inV_ok (hx.flat hc.1) hc.1 h2 hc.2
    refine op_in_seq pins s σ H _ _ _ _ Q I rx ry ⟨a,vs,rfl,.inl (hK ▸ h1),(flatD_V (hx.flat hc.1) hc.1).1,i1, ?_⟩
    simpa [i2] using k
   ·cases eb
  | _=>exact (no_some eb).elim
 | NotIn=>exact (no_some eb).elim
end
section
variable {X:Cx} {K:PySem.W.Frag} {pins:List (Addr × Obj)} {σ:St} {H G:Hp} {s:Shared}
theorem at_ok {ds:List D} {vs:List V} {i:Int} {d:D} (h:Reps K G ds vs) (e:atI ds i=some d):∃ v,atI vs i=some v∧Rep K G d v:=by
 unfold atI at e ⊢
 rw [h.len]
 cases q:ixN ds.length i with
 | none=>rw [q] at e; cases e
 | some j =>
  rw [q] at e
  exact h.get e
noncomputable def rIxD (K:PySem.W.Frag):R2:=λx y H Q=>∃ G d e r,Same G H∧RepR K H G d x∧RepR K H G e y∧ixD d e=some r∧∀ z,Rep K G r z→Q z H
theorem IxR.imp {r r':R2} (h:IxR X r) (w:∀ x y H Q,r' x y H Q→r x y H Q):IxR X r':=λva sl pins s σ H x y v u Q I rx ry q hs=>h va sl pins s σ H x y v u Q I rx ry (w x y H Q q) hs
theorem strOk_get {x:Str} (h:PyData.strOk x=true) {i:Int} {c:Nat} (e:atI x.cps.toList i=some c):PyData.strOk ⟨#[c]⟩=true:=by
 unfold PyData.strOk at *
 have hm:c∈x.cps.toList:=by
  unfold atI at e
  cases q:ixN x.cps.toList.length i with
  | none=>rw [q] at e; cases e
  | some j=>rw [q] at e; exact List.mem_of_getElem? e
 have:=Array.all_eq_true'.mp h c (by simpa using hm)
 simpa using this
theorem ix_no:IxR X (λ_ _ _ _=>False):=λ_ _ _ _ _ _ _ _ _ _ _ _ _ _ h _=>h.elim
def rIxS (K:PySem.W.Frag):R2:=λ_ _ _ _=>False
theorem ix_dictS (hu:X.A.units+11<cLine):IxR X (rIxS X.K):=ix_no
theorem ix_ok (hK:X.K=K) (hu:X.A.units+11<cLine):IxR X (rIxD K):=by
 refine IxR.imp ((ix_seq.or ix_no).or (ix_dictS hu)) λx y H Q h=>?_
 obtain ⟨G,d,e,r,sub,hx,hy,er,k⟩:=h
 subst hK
 unfold ixD at er
 split at er
 ·cases hy.int
  obtain ⟨a,vs,rfl,h1,h2⟩:=hx.tup sub
  obtain ⟨v,h3,h4⟩:=at_ok h2 er
  exact .inl (.inl (.inr (.inl ⟨a,vs,_,v,rfl,rfl,h1,h3,k v h4⟩)))
 ·cases hy.int
  obtain ⟨a,vs,rfl,h1,h2⟩:=hx.lst sub
  obtain ⟨v,h3,h4⟩:=at_ok h2 er
  exact .inl (.inl (.inl ⟨a,vs,_,v,rfl,rfl,h1,h3,k v h4⟩))
 ·split at er
  ·rename_i hz
   cases hy.int
   obtain ⟨rfl,ok⟩:=hx.str
   cases q:atI ‹Str›.cps.toList ‹Int› with
   | none=>rw [q] at er; cases er
   | some c =>
    rw [q] at er
    cases er
    exact .inl (.inl (.inr (.inr ⟨_,_,c,rfl,rfl,Nat.le_trans hz (by decide),q,k _ (show Rep X.K G (.str _) _ by unfold Rep; exact ⟨rfl,strOk_get ok q⟩)⟩)))
  ·cases er
 ·cases er
theorem cut_ok {ds:List D} {vs:List V} {lo hi:Option Int} (h:Reps K G ds vs):Reps K G (cutD ds lo hi) (cutV vs lo hi):=by
 unfold cutD cutV
 rw [h.len]
 exact (h.drop _).take _
def rSlD (K:PySem.W.Frag):V→Option Int→Option Int→Hp→VK→Prop:=λx lo hi H Q=>∃ G d v,Same G H∧RepR K H G d x∧slD d lo hi=some v∧∀ z H',Made K H G v z H'→Q z H'
theorem sl_ok (hK:X.K=K):SlR X (rSlD K):=by
 intro pins s σ H x v vl vu lo hi sl Q I rx hs pl pu h
 obtain ⟨G,d,r,sub,hx,er,k⟩:=h
 subst hK
 refine SlR.or sl_list sl_tup pins s σ H x v vl vu lo hi sl Q I rx hs pl pu ?_
 unfold slD at er
 split at er
 ·cases er
  obtain ⟨a,vs,rfl,h1,h2⟩:=hx.lst sub
  exact .inl ⟨a,vs,rfl,h1,λp hp=>k _ _ (.inr (.inl ⟨_,_,p,rfl,hp,cut_ok h2,rfl,rfl⟩))⟩
 ·split at er
  ·cases er
  ·rename_i hw
   cases er
   obtain ⟨a,vs,rfl,h1,h2⟩:=hx.tup sub
   exact .inr ⟨a,vs,rfl,h1,by rw [h2.len]; exact hw,λp hp=>k _ _ (.inr (.inr ⟨_,_,p,rfl,hp,cut_ok h2,rfl,rfl⟩))⟩
 ·cases er
def RepRs (K:PySem.W.Frag) (H G:Hp):List D→List V→Prop
 | [],xs=>xs=[]
 | d :: ds,xs=>∃ x r,xs=x :: r∧RepR K H G d x∧RepRs K H G ds r
theorem reprs1 {d:D} {xs:List V} (h:RepRs K H G [d] xs):∃ x,xs=[x]∧RepR K H G d x:=by
 obtain ⟨x,r,rfl,h1,h2⟩:=h
 cases (show r=[] from h2)
 exact ⟨x,rfl,h1⟩
def rBi (K:PySem.W.Frag) (f:BI):List V→Hp→VK→Prop:=λxs H Q=>∃ G ds v,Same G H∧RepRs K H G ds xs∧biD f ds=some v∧∀ z H',Made K H G v z H'→Q z H'
noncomputable def biV:BI→Value
 | .len=>.builtin "len"
 | .abs=>.builtin "abs"
 | .int=>.type "int"
 | .list=>.type "list"
 | .tuple=>.type "tuple"
 | .min=>.builtin "min"
 | .max=>.builtin "max"
 | .all=>.builtin "all"
 | .repr=>.builtin "repr"
 | .str=>.type "str"
 | .sorted=>.builtin "sorted"
theorem bools_ok:∀ {ds:List D} {vs:List V} {us:List Value} {bs:List Bool},Reps K G ds vs→Vals vs us→boolsD ds=some bs→LSm.BoolsAre us bs
 | [],_,_,_,h,r,e=>by
  simp only [Reps] at h; subst h; cases r; cases e; exact .nil
 | d :: ds,_,_,_,h,r,e=>by
  simp only [Reps] at h
  obtain ⟨v,r',rfl,h1,h2⟩:=h
  cases r with
  | cons ra rb =>
   cases d <;> simp only [boolsD,reduceCtorEq] at e
   rename_i b
   cases q:boolsD ds with
   | none=>rw [q] at e; cases e
   | some bs' =>
    rw [q] at e
    cases e
    simp only [Rep] at h1
    subst h1
    cases ra
    exact .cons b (bools_ok h2 rb q)
theorem call_all (hc:X.A.handled=none):CallR X (.builtin "all") (λxs H Q=>∃ a vs ds bs G,xs=[.ref a]∧SqL X.K H a vs∧Reps X.K G ds vs∧boolsD ds=some bs∧Q (.bl (bs.all id)) H):=by
 intro pins s σ H xs us Q I r h
 obtain ⟨a,vs,ds,bs,G,rfl,h1,h2,h3,q⟩:=h
 obtain ⟨u,rfl,rx⟩:=vals1 r
 cases rx
 obtain ⟨its,rv,hl,z⟩:=sql_get I h1
 have hb:=bools_ok h2 rv h3
 have hlt:a<s.heap.objs.size:=by obtain ⟨_,e,_⟩:=hl; exact Heap.lt_size e
 refine call_all_walk (wpAny_pyIter_list hl ?_)
 refine ⟨s.heap.objs.size,[s.heap.objs.size,a],[s.heap.objs.size],its.toArray.size,_,_,λi=>(bs[i]?).getD true,rfl,Walks.list (A:=X.A.in1) hc _ a (Nat.ne_of_lt hlt) its.toArray,
  ⟨⟨_,Heap.get?_push_size _ rfl,rfl,rfl⟩,hl.push _⟩,λi v s' Q' E' hP hQ=>?_,λh' tk hk=>?_⟩
 ·obtain ⟨b,e,rfl⟩:=hb.get i v (by simpa using hP)
  simp only [e,Option.getD_some] at hQ
  exact wpAny_truthy_bool hQ
 ·have e:((List.range its.toArray.size).all λi=>(bs[i]?).getD true)=bs.all id:=by
   rw [List.size_toArray,hb.length]; exact LSm.range_all bs
  rw [e]
  exact ⟨.bl _,H,I.kept (t':=tk) (LSm.kept_iter hk),rfl,q⟩
theorem mt_bits:MtR X "int.bit_length" (λx xs H Q=>∃ i,x=.int i∧xs=[]∧Q (.int (Builtin.Int.intBits i)) H):=by
 intro pins s σ H x xs v us Q I rx r h
 obtain ⟨i,rfl,rfl,q⟩:=h
 cases r
 obtain ⟨t,rfl⟩:=rx
 exact call_int_bit_length ⟨.int _,H,I.tok _,⟨_,rfl⟩,q⟩
theorem bi_ok (hK:X.K=K) (hc:X.calm=true) (hh:X.A.handled=none) (rm:Room 2 X.A) (f:BI):CallR X (biV f) (rBi K f):=by
 intro pins s σ H xs us Q I r h
 obtain ⟨G,ds,v,sub,hx,e,k⟩:=h
 subst hK
 cases f with
 | len =>
  obtain _ | ⟨d,_ | ⟨_,_⟩⟩:=ds
  ·exact (no_some e).elim
  ·cases d with
   | lst =>
    change some _=_ at e
    cases e
    obtain ⟨x,rfl,h1⟩:=reprs1 hx
    obtain ⟨a,vs,rfl,h2,h3⟩:=h1.lst sub
    exact call_len_seq pins s σ H _ us Q I r ⟨a,vs,rfl,.inl h2,by rw [h3.len]; exact k _ _ made_int⟩
   | tup =>
    change some _=_ at e
    cases e
    obtain ⟨x,rfl,h1⟩:=reprs1 hx
    obtain ⟨a,vs,rfl,h2,h3⟩:=h1.tup sub
    exact call_len_seq pins s σ H _ us Q I r ⟨a,vs,rfl,.inr h2,by rw [h3.len]; exact k _ _ made_int⟩
   | str x =>
    change @ite _ (x.length≤1000000) (cl _) _ none=_ at e
    split at e
    ·rename_i hz
     cases e
     obtain ⟨x,rfl,h1⟩:=reprs1 hx
     obtain ⟨rfl,_⟩:=h1.str
     exact call_len_str pins s σ H _ us Q I r ⟨_,rfl,Nat.le_trans hz (by decide),k _ _ made_int⟩
    ·cases e
   | _=>exact (no_some e).elim
  ·cases d <;> exact (no_some e).elim
 | abs =>
  obtain _ | ⟨d,_ | ⟨_,_⟩⟩:=ds
  ·exact (no_some e).elim
  ·cases d with
   | int =>
    change some _=_ at e
    cases e
    obtain ⟨x,rfl,h1⟩:=reprs1 hx
    cases h1.int
    exact call_abs pins s σ H _ us Q I r ⟨_,rfl,k _ _ made_int⟩
   | _=>exact (no_some e).elim
  ·cases d <;> exact (no_some e).elim
 | int =>
  obtain _ | ⟨d,_ | ⟨_,_⟩⟩:=ds
  ·exact (no_some e).elim
  ·cases d with
   | int =>
    change some _=_ at e
    cases e
    obtain ⟨x,rfl,h1⟩:=reprs1 hx
    cases h1.int
    exact call_int1 pins s σ H _ us Q I r (.inl ⟨_,rfl,k _ _ made_int⟩)
   | bl =>
    change some _=_ at e
    cases e
    obtain ⟨x,rfl,h1⟩:=reprs1 hx
    cases h1.bl
    exact call_int1 pins s σ H _ us Q I r (.inr ⟨_,rfl,k _ _ made_int⟩)
   | _=>exact (no_some e).elim
  ·cases d <;> exact (no_some e).elim
 | list =>
  obtain _ | ⟨d,_ | ⟨_,_⟩⟩:=ds
  ·exact (no_some e).elim
  ·cases d with
   | lst =>
    change some _=_ at e
    cases e
    obtain ⟨x,rfl,h1⟩:=reprs1 hx
    obtain ⟨a,vs,rfl,h2,h3⟩:=h1.lst sub
    exact call_list_of pins s σ H _ us Q I r ⟨a,vs,rfl,.inl h2,λp hp=>k _ _ (.inr (.inl ⟨_,_,p,rfl,hp,h3,rfl,rfl⟩))⟩
   | tup =>
    change some _=_ at e
    cases e
    obtain ⟨x,rfl,h1⟩:=reprs1 hx
    obtain ⟨a,vs,rfl,h2,h3⟩:=h1.tup sub
    exact call_list_of pins s σ H _ us Q I r ⟨a,vs,rfl,.inr h2,λp hp=>k _ _ (.inr (.inl ⟨_,_,p,rfl,hp,h3,rfl,rfl⟩))⟩
   | _=>exact (no_some e).elim
  ·cases d <;> exact (no_some e).elim
 | tuple =>
  obtain _ | ⟨d,_ | ⟨_,_⟩⟩:=ds
  ·exact (no_some e).elim
  ·cases d with
   | lst =>
    change some _=_ at e
    cases e
    obtain ⟨x,rfl,h1⟩:=reprs1 hx
    obtain ⟨a,vs,rfl,h2,h3⟩:=h1.lst sub
    exact call_tuple_of pins s σ H _ us Q I r ⟨a,vs,rfl,.inl ⟨h2,λp hp=>k _ _ (.inr (.inr ⟨_,_,p,rfl,hp,h3,rfl,rfl⟩))⟩⟩
   | tup =>
    change some _=_ at e
    cases e
    obtain ⟨x,rfl,h1⟩:=reprs1 hx
    have h1':=h1
    obtain ⟨a,vs,rfl,h2,h3⟩:=h1.tup sub
    refine call_tuple_of pins s σ H _ us Q I r ⟨a,vs,rfl,.inr ⟨h2, ?_⟩⟩
    rcases h1' with h1' | ⟨_,_,h1'⟩
    ·exact k _ _ (.inl ⟨_,rfl,h1',rfl⟩)
    ·exact h1'.elim
   | _=>exact (no_some e).elim
  ·cases d <;> exact (no_some e).elim
 | min=>exact (no_some e).elim
 | max=>exact (no_some e).elim
 | all =>
  obtain _ | ⟨d,_ | ⟨_,_⟩⟩:=ds
  ·exact (no_some e).elim
  ·cases d with
   | lst ds =>
    change (boolsD ds).map _=_ at e
    cases q:boolsD ds with
    | none=>rw [q] at e; cases e
    | some bs =>
     rw [q] at e
     cases e
     obtain ⟨x,rfl,h1⟩:=reprs1 hx
     obtain ⟨a,vs,rfl,h2,h3⟩:=h1.lst sub
     exact call_all hh pins s σ H _ us Q I r ⟨a,vs,ds,bs,G,rfl,h2,h3,q,k _ _ made_bl⟩
   | _=>exact (no_some e).elim
  ·cases d <;> exact (no_some e).elim
 | repr=>exact (no_some e).elim
 | sorted =>
  exact (no_some e).elim
 | str =>
  exact (no_some e).elim
noncomputable def tyV1:Ty→V
 | .int=>.ty "int"
 | .bool=>.ty "bool"
 | .str=>.ty "str"
 | .list=>.ty "list"
 | .tuple=>.ty "tuple"
 | .dict=>.ty "dict"
 | .cls _=>.ty "dict"
 | .verr=>.ty "ValueError"
theorem RepR.exn {c:Str} {n:Option Int} {x:V} (sub:Same G H) (h:RepR K H G (.exn c n) x):∃ a C p,x=.ref a∧PySem.W.nsIn K mainGlobals c=some (some (.ref C))∧ExcG K C∧H a=some (.ext (ExcO a C p))∧Pay K H C p n:=by
 rcases h with h | ⟨a,rfl,h⟩
 ·simp only [Rep] at h
  obtain ⟨a,C,p,e,h1,h2,h3,h4⟩:=h
  exact ⟨a,C,p,e,h1,h2,sub _ _ h3,h4.mono sub⟩
 ·exact h.elim
theorem isi_ok (hK:X.K=K) (t:Ty):CallR X (.builtin "isinstance") (λxs H Q=>∃ G d x b,Same G H∧xs=[x,tyV1 t]∧RepR K H G d x∧isTy t d=some b∧Q (.bl b) H):=by
 intro pins s σ H xs us Q I r h
 obtain ⟨G,d,x,b,sub,rfl,hx,e,q⟩:=h
 subst hK
 obtain ⟨u,w,rfl,rx,rw'⟩:=vals2 r
 have fin:∀ tk,EP X pins σ Q (.bool b) { s with toks:=tk }:=λtk=>⟨.bl b,H,I.tok tk,rfl,q⟩
 have key:∀ T:String,w=.type T→∀ c:String,(∀ S:Value→Option Bool,True)→True:=λ_ _ _ _=>trivial
 cases t <;> simp only [isTy,reduceCtorEq] at e <;> (try (cases (show w=_ from rw')))
 all_goals
  cases d <;> simp only [Option.some.injEq,reduceCtorEq] at e <;> subst e
  all_goals first
   | (cases hx.non; cases (show u=Value.none from rx); exact PySem.W.kia_one PySem.W.kitx_none I.kIn True.intro (by rfl) (λz=>nomatch z) fin)
   | (cases hx.bl; cases (show u=Value.bool _ from rx); exact PySem.W.kia_one PySem.W.kitx_bool I.kIn True.intro (by rfl) (λz=>nomatch z) fin)
   | (cases hx.int; obtain ⟨t,q'⟩:=(show ∃ t,u=Value.int _ t from rx); cases q'; exact PySem.W.kia_one PySem.W.kitx_int I.kIn True.intro (by rfl) (λz=>nomatch z) fin)
   | (obtain ⟨rfl,_⟩:=hx.str; obtain ⟨t,q'⟩:=(show ∃ t,u=Value.str _ t from rx); cases q'; exact PySem.W.kia_one PySem.W.kitx_str I.kIn True.intro (by rfl) (λz=>nomatch z) fin)
   | (obtain ⟨a,vs,rfl,h2,h3⟩:=hx.lst sub; cases (show u=Value.ref a from rx); obtain ⟨its,_,⟨o,n,h4,h5,_⟩,_⟩:=I.list h2; exact PySem.W.kia_one PySem.W.kitx_list I.kIn ⟨o,h4,h5⟩ (by rfl) (λz=>nomatch z) fin)
   | (obtain ⟨a,C,p,rfl,h2,h3,h4,_⟩:=hx.exn sub; cases (show u=Value.ref a from rx); exact PySem.W.kia_one (kitx_exc h3) I.kIn (I.hok a _ h4).1 (kit_verr h3) (λz=>nomatch z) fin)
   | (obtain ⟨a,vs,rfl,h2,h3⟩:=hx.tup sub; cases (show u=Value.ref a from rx); obtain ⟨its,_,⟨o,h4,h5,_⟩,_⟩:=I.tuple h2; exact PySem.W.kia_one PySem.W.kitx_tuple I.kIn ⟨o,h4,h5⟩ (by rfl) (λz=>nomatch z) fin)
end
section
variable {X:Cx} {pins:List (Addr × Obj)} {σ:L2.St} {H:Hp} {s:Shared} {h':Heap}
theorem inv_drawn {t':Nat} {e it p:Addr} {o:HO} (I:Inv X pins σ H s) (k:∀ b u,b≠e→b≠it→s.heap.get? b=some u→h'.get? b=some u) (fe:FpOk X pins H e) (fi:FpOk X pins H it) (hp:s.heap.objs.size≤p)
  (new:ObjOk X.prog X.w (upd H p o) h' p o):Inv X pins σ (upd H p o) { s with heap:=h',toks:=t' }:=by
 have hn:H p=none:=I.hok.fresh hp
 have ne:∀ {b:Addr} {u:HO},H b=some u→b≠e∧b≠it:=λq=>⟨ne_of_none q fe.1,ne_of_none q fi.1⟩
 have nc:∀ {b:Addr},b ∉ [e,it]→b≠e∧b≠it:=λhc=>⟨λz=>hc (by simp [z]),λz=>hc (by simp [z])⟩
 refine I.step (g':=s.gens) (d':=s.drawn) (ch:=[e,it]) (λb hb=>?_) (λb o _ _ hc q _=>k b o (nc hc).1 (nc hc).2 q) (λb o _ _ hc q _=>⟨o.slots,k b o (nc hc).1 (nc hc).2 q⟩)
  (λb o _ q n=>by rw [upd_ne (Nat.ne_of_lt (Nat.lt_of_lt_of_le (Heap.lt_size q) hp))]; exact n)
  (λb o hc q=>⟨o,k b o (nc hc).1 (nc hc).2 q⟩) (λb xs q=>by rw [upd_ne (ne_of_none q hn)]; exact q) (λb o u q=>by rw [upd_ne (ne_of_none q hn)]; exact q) (λb ps q=>⟨#[],by rw [upd_ne (ne_of_none q hn),q]; simp⟩) (λm hm=>?_) (λb u q=>?_) I.bare
 ·have hb:b=e∨b=it:=by simpa using hb
  rcases hb with rfl | rfl
  ·exact ⟨fe.2.2.2.1,fe.2.1,fe.2.2.2.2.1,fe.2.2.2.2.2⟩
  ·exact ⟨fi.2.2.2.1,fi.2.1,fi.2.2.2.2.1,fi.2.2.2.2.2⟩
 ·obtain ⟨o,es,ep,ho,r⟩:=hm
  exact ⟨o,es,ep,k _ o (Ne.symm fe.2.1) (Ne.symm fi.2.1) ho,r⟩
 ·by_cases hb:b=p
  ·subst hb; rw [upd_same] at q; cases q; exact new
  ·rw [upd_ne hb] at q
   refine (I.hok b u q).stay (λc v hc z=>?_) (λc q=>by rw [upd_ne (ne_of_none q hn)]; exact q) λc xs q=>by rw [upd_ne (ne_of_none q hn)]; exact q
   have hc':c≠e∧c≠it:=by
    rcases hc with w | w
    ·rw [w]; exact ne q
    ·exact ne w
   exact k c v hc'.1 hc'.2 z
theorem inv_turned2 {t':Nat} {e it:Addr} (I:Inv X pins σ H s) (k:∀ b u,b≠e→b≠it→s.heap.get? b=some u→h'.get? b=some u) (fe:FpOk X pins H e) (fi:FpOk X pins H it):Inv X pins σ H { s with heap:=h',toks:=t' }:=by
 have ne:∀ {b:Addr} {u:HO},H b=some u→b≠e∧b≠it:=λq=>⟨ne_of_none q fe.1,ne_of_none q fi.1⟩
 have nc:∀ {b:Addr},b ∉ [e,it]→b≠e∧b≠it:=λhc=>⟨λz=>hc (by simp [z]),λz=>hc (by simp [z])⟩
 refine I.step (g':=s.gens) (d':=s.drawn) (ch:=[e,it]) (λb hb=>?_) (λb o _ _ hc q _=>k b o (nc hc).1 (nc hc).2 q) (λb o _ _ hc q _=>⟨o.slots,k b o (nc hc).1 (nc hc).2 q⟩)
  (λ_ _ _ _ n=>n) (λb o hc q=>⟨o,k b o (nc hc).1 (nc hc).2 q⟩) (λ_ _ q=>q) (λ_ _ _ q=>q) (λb ps q=>⟨#[],by rw [q]; simp⟩) (λm hm=>?_) (λb u q=>?_) I.bare
 ·have hb:b=e∨b=it:=by simpa using hb
  rcases hb with rfl | rfl
  ·exact ⟨fe.2.2.2.1,fe.2.1,fe.2.2.2.2.1,fe.2.2.2.2.2⟩
  ·exact ⟨fi.2.2.2.1,fi.2.1,fi.2.2.2.2.1,fi.2.2.2.2.2⟩
 ·obtain ⟨o,es,ep,ho,r⟩:=hm
  exact ⟨o,es,ep,k _ o (Ne.symm fe.2.1) (Ne.symm fi.2.1) ho,r⟩
 ·refine (I.hok b u q).stay (λc v hc z=>?_) (λ_ q=>q) λ_ _ q=>q
  have hc':c≠e∧c≠it:=by
   rcases hc with w | w
   ·rw [w]; exact ne q
   ·exact ne w
  exact k c v hc'.1 hc'.2 z
end
section
variable {prog:Program} {w:World} {A:Around} {E:Value→Shared→Prop} {s:Shared}
theorem en_next {e it l:Addr} {c:Int} {i:Nat} {us:Array Value} {u old:Value} {Q:Value→Shared→Prop} (q1:IsEnum s.heap e it c old) (q2:s.heap.IsListIter it l i) (q3:s.heap.IsList l us) (q4:us[i]?=some u) (ne:e≠it)
  (k:∀ g,IsEnumOut g e it (c+1) u s.heap.objs.size→g.IsListIter it l (i+1)→g.get? s.heap.objs.size=some { cls:=.type "tuple",data:=.seq #[.int c s.toks,u] }→(∀ b o,b≠e→b≠it→s.heap.get? b=some o→g.get? b=some o)→Q (.ref s.heap.objs.size) { s with heap:=g,toks:=s.toks+1 }) :
  wpAny (model prog w) A (Builtin.«enumerate.__next__» ⟨[.ref e],[]⟩) (λfin s'=>∃ v,fin=.done (.ret v)∧Q v s') E s:=by
 obtain ⟨m0,ge,dr,tk,os⟩:=s
 refine wpAny_bind (m:=field (.ref e) 2) (wpAny_field q1 rfl (x:=.ref it) rfl (wpAny_bind (wpAny_nextOf_list_item q2 q3 q4 λm1 t1 b1=>?_)))
 have b1:Heap.SameBut it m0 m1:=b1
 have e1:IsEnum m1 e it c old:=(b1.2 e ne).trans q1
 refine wpAny_bind (m:=field (.ref e) 3) (wpAny_field e1 rfl (x:=rawInt c) rfl (wpAny_bind (m:=field (.ref e) 4) (wpAny_field e1 rfl (x:=.none) rfl (wpAny_bind (m:=mkInt c) (wpAny_mkInt ?_)))))
 refine wpAny_bind (m:=setField (.ref e) 3 (rawInt (c+1))) (wpAny_setField_rec e1 (by simp) λm2 e2 b2=>?_)
 have b2:Heap.SameBut e m1 m2:=b2
 have e2:IsEnum m2 e it (c+1) old:=e2
 refine wpAny_bind (m:=setField (.ref e) 4 .none) (wpAny_setField_rec e2 (by simp) λm3 e3 b3=>?_)
 have b3:Heap.SameBut e m2 m3:=b3
 have e3:IsEnum m3 e it (c+1) old:=e3
 refine wpAny_bind (m:=newTuple [.int c tk,u]) (wpAny_newTuple ?_)
 have n3:m3.objs.size=m0.objs.size:=by rw [b3.1,b2.1,b1.1]
 have lt:e<m0.objs.size:=Heap.lt_size q1
 obtain ⟨m4,z4⟩:∃ m4,m3.push { cls:=.type "tuple",data:=.seq #[.int c tk,u] }=m4:=⟨_,rfl⟩
 have e4:IsEnum m4 e it (c+1) old:=z4 ▸ Heap.get?_push_of_some _ e3
 have p4:m4.get? m0.objs.size=some { cls:=.type "tuple",data:=.seq #[.int c tk,u] }:=z4 ▸ n3 ▸ Heap.get?_push_size _ rfl
 have k4:∀ b o,b≠e→b≠it→m0.get? b=some o→m4.get? b=some o:=λb o x y q=>z4 ▸ Heap.get?_push_of_some _ (b3.extBut b o x (b2.extBut b o x (b1.extBut b o y q)))
 have t4:m4.IsListIter it l (i+1):=by
  obtain ⟨o,ho,r⟩:=(t1.extBut b2.extBut ne.symm).extBut b3.extBut ne.symm
  exact ⟨o,z4 ▸ Heap.get?_push_of_some _ ho,r⟩
 rw [n3,z4]
 refine wpAny_bind (m:=Builtin.SmallTypes.ownedTupleIsFree (.ref e)) ?_
 unfold Builtin.SmallTypes.ownedTupleIsFree
 refine wpAny_bind (wpAny_field e4 rfl (x:=.none) rfl (wpAny_pure ?_))
 simp only [if_true]
 refine wpAny_bind (wpAny_rule (wpAny_bind (wpAny_field e4 rfl (x:=old) rfl (wpAny_bind (wpAny_setField_rec e4 (by simp) λm5 e5 b5=>?_)))))
 have b5:Heap.SameBut e m4 m5:=b5
 have e5:IsEnum m5 e it (c+1) u:=e5
 refine wpAny_bind (m:=Builtin.SmallTypes.ownedTupleHandOut (.ref e) (.ref m0.objs.size)) ?_
 unfold Builtin.SmallTypes.ownedTupleHandOut
 refine wpAny_bind (wpAny_setField_rec e5 (by simp) λm6 e6 b6=>?_)
 have b6:Heap.SameBut e m5 m6:=b6
 have e6:IsEnumOut m6 e it (c+1) u m0.objs.size:=e6
 refine wpAny_setField_rec e6 (by simp) λm7 e7 b7=>?_
 have b7:Heap.SameBut e m6 m7:=b7
 have st:∀ b o,b≠e→m4.get? b=some o→m7.get? b=some o:=λb o x q=>b7.extBut b o x (b6.extBut b o x (b5.extBut b o x q))
 refine wpAny_bind (wpAny_letGo (wpAny_pure ⟨_,rfl,k m7 e7 ?_ (st _ _ (Nat.ne_of_gt lt) p4) λb o x y q=>st b o x (k4 b o x y q)⟩))
 exact ((t4.extBut b5.extBut ne.symm).extBut b6.extBut ne.symm).extBut b7.extBut ne.symm
theorem en_pyNext {e it l:Addr} {c:Int} {i:Nat} {us:Array Value} {u old:Value} {Q:Option Value→Shared→Prop} (q1:IsEnum s.heap e it c old) (q2:s.heap.IsListIter it l i) (q3:s.heap.IsList l us) (q4:us[i]?=some u) (ne:e≠it)
  (k:∀ g,IsEnumOut g e it (c+1) u s.heap.objs.size→g.IsListIter it l (i+1)→g.get? s.heap.objs.size=some { cls:=.type "tuple",data:=.seq #[.int c s.toks,u] }→(∀ b o,b≠e→b≠it→s.heap.get? b=some o→g.get? b=some o)→Q (some (.ref s.heap.objs.size)) { s with heap:=g,toks:=s.toks+1 }) :
  wpAny (model prog w) A (pyNext (.ref e)) Q E s :=
 have ty:s.TypeIs (.ref e) "enumerate":=⟨_,q1,rfl⟩
 wpAny_bind (wpAny_attempt (wpAny_callSpecial?_slot (name:=Str.ofString "__next__") ty F.slot_enumerate_next (wpAny_call_entry F.slot_enumerate_next ty F.entry_enumerate_next (en_next q1 q2 q3 q4 ne λg a b c d=>wpAny_pure (k g a b c d)) (F.args_enumerate_next_1 _))))
theorem en_stop {e it l:Addr} {c:Int} {i:Nat} {us:Array Value} {old:Value} {Q:Option Value→Shared→Prop} (hh:A.handled=none) (q1:IsEnum s.heap e it c old) (q2:s.heap.IsListIter it l i) (q3:s.heap.IsList l us) (q4:us[i]?=none)
  (k:∀ g,Heap.ExtBut it s.heap g→Q none { s with heap:=g }):wpAny (model prog w) A (pyNext (.ref e)) Q E s:=by
 have ty:s.TypeIs (.ref e) "enumerate":=⟨_,q1,rfl⟩
 refine wpAny_bind (wpAny_attempt (wpAny_callSpecial?_slot (name:=Str.ofString "__next__") ty F.slot_enumerate_next (wpAny_call_entry F.slot_enumerate_next ty F.entry_enumerate_next ?_ (F.args_enumerate_next_1 _))))
 refine wpAny_bind (m:=field (.ref e) 2) (wpAny_field q1 rfl (x:=.ref it) rfl (wpAny_bind (wpAny_nextOf_list_end hh q2 q3 q4 λg x ex px=>?_)))
 obtain ⟨o,ho,hc⟩:=px
 exact wpAny_bind (wpAny_isInstance (T:="StopIteration") (b:=true) ⟨o,ho,hc⟩ isSubtype_stop (wpAny_pure (k _ ex)))
end
theorem en_newM (l:Addr) (us:Array Value) (n:Nat) (dct:Option Addr) (sl:Array (Option Value)) (c:Int) (t:Tok) (hc:Builtin.SmallTypes.fitsIndex c=true) :
  Meets (Builtin.«enumerate.__new__» ⟨[.type "enumerate",.ref l],[("start",.int c t)]⟩) (λ_ R s=>s.heap.get? l=some { cls:=.type "list",dict:=dct,data:=.seq us n,slots:=sl } ∧
   R (.ok (.ret (.ref (s.heap.push { cls:=.type "list_iterator",data:=.fields #[.ref l,.int 0 0] }).objs.size)))
    { s with heap:=(s.heap.push { cls:=.type "list_iterator",data:=.fields #[.ref l,.int 0 0] }).push { cls:=.type "enumerate",data:=.fields #[.none,.bool false,.ref s.heap.objs.size,rawInt c,.none,.none] } }) :=
 .of_wp λprog w A R s h=>by
  obtain ⟨hp,g,d,tk,os⟩:=s; obtain ⟨hl,h⟩:=h
  have sb:=sub_enumerate
  have isl:Heap.IsList (Shared.heap ⟨hp,g,d,tk,os⟩) l us:=⟨_,hl,rfl,n,rfl⟩
  wp_walk using AutoSeq1.wpAny_loadPart' hl
  refine wpAny_stack_any λst=>wpAny_pure ?_
  split
  ·rename_i v _ _ _ _ _
   cases (v == Value.type "enumerate")
   ·wp_walk using AutoSeq1.wpAny_loadPart' hl,wpAny_pyIter_list isl
    exact ⟨_,rfl,h⟩
   ·wp_walk using AutoSeq1.wpAny_loadPart' hl,wpAny_pyIter_list isl
    exact ⟨_,rfl,h⟩
  ·wp_walk using AutoSeq1.wpAny_loadPart' hl,wpAny_pyIter_list isl
   exact ⟨_,rfl,h⟩
theorem en_chk (a:Value) (c:Int) (t:Tok):checkTypeCall "enumerate" ⟨[a],[("start",.int c t)]⟩=pure ():=by kernel_rfl
theorem en_chk2 (a:Value) (c:Int) (t:Tok):checkBuiltinCall "enumerate.__new__" ⟨[.type "enumerate",a],[("start",.int c t)]⟩=pure ():=by kernel_rfl
theorem en_init {a b:Value} {kw:List (Str × Value)}:Meets (Builtin.«object.__init__» ⟨[a,b],kw⟩) (λ_ R s=>s.TypeIs a "enumerate"∧R (.ok (.ret .none)) s):=by
 refine Meets.of_wp λprog w A R s hs=>?_
 obtain ⟨ty,hq⟩:=hs
 have hl:typeLookup (.type "enumerate") "__init__"=pure (some (.builtin "object.__init__")):=F.called_enumerate.init.lookup
 have hm:=F.called_enumerate.made
 have hne:(some "enumerate.__new__" != some "object.__new__")=true:=by decide
 repeat (any_goals (first | assumption | wp_step))
 exact ⟨_,rfl,hq⟩
theorem en_args (a b:Value) (c:Int) (t:Tok):argsOk "object.__init__" ⟨[a,b],[("start",.int c t)]⟩:=by
 unfold argsOk
 rw [signature?_of (id:="object.__init__") (n:="__init__".toList.reverse) (o:="object".toList.reverse) (by kernel_rfl) F.owner_object]
 kernel_rfl
section
variable {prog:Program} {w:World} {A:Around} {E:Value→Shared→Prop} {s:Shared}
theorem en_type {l:Addr} {us:Array Value} {c:Int} {t:Tok} {Q:Value→Shared→Prop} (hc:Builtin.SmallTypes.fitsIndex c=true) (q:s.heap.IsList l us)
  (k:∀ g,IsEnum g (s.heap.objs.size+1) s.heap.objs.size c .none→g.IsListIter s.heap.objs.size l 0→(∀ b o,s.heap.get? b=some o→g.get? b=some o)→Q (.ref (s.heap.objs.size+1)) { s with heap:=g }) :
  wpAny (model prog w) A (call (.type "enumerate") [.ref l] [("start",.int c t)]) Q E s:=by
 have ft:=F.called_enumerate
 obtain ⟨c0,tl,hmro⟩:=ft.mro
 have hmade:=ft.made
 have hsub:=ft.sub
 obtain ⟨⟨cl,dct,dt,sl⟩,hl,hcl,n,hd⟩:=q
 have hcl:cl=.type "list":=hcl
 have hd:dt=.seq us n:=hd
 subst hcl hd
 refine wpAny_call (codeAny_of_tree ?_)
 change wpAny _ _ (callAny (.type "enumerate") _) _ _ _
 refine wpAny_pure ⟨Code.quiet_builtin _ (by decide +kernel),codeAny_builtin F.entry_type_call ?_⟩
 rw [Around.under_plain (weight_type_call_type "enumerate" _ _) (units_type_call_type "enumerate" _ _)]
 have h1:=ft.notType
 have h2:=ft.canCreate
 have h3:=en_chk (.ref l) c t
 repeat (any_goals (first | assumption | wp_step))
 refine codeAny_mono (codeAny_call_builtin ft.plain F.entry_enumerate_new (wpAny_of_eq (en_chk2 (.ref l) c t) (en_newM l us n dct sl c t hc prog w A.in1 (wants (λobj s1=>s1.TypeIs obj "enumerate"∧Q obj s1) E) s ⟨hl, ?_⟩))) λr s1 hr=>?_
 ·have hz:(s.heap.push { cls:=.type "list_iterator",data:=.fields #[.ref l,.int 0 0] }).objs.size=s.heap.objs.size+1:=Heap.size_push ..
  change _∧_
  rw [hz]
  have he:IsEnum ((s.heap.push { cls:=.type "list_iterator",data:=.fields #[.ref l,.int 0 0] }).push { cls:=.type "enumerate",data:=.fields #[.none,.bool false,.ref s.heap.objs.size,rawInt c,.none,.none] }) (s.heap.objs.size+1) s.heap.objs.size c .none:=by
   have x:=Heap.get?_push_size (s.heap.push { cls:=.type "list_iterator",data:=.fields #[.ref l,.int 0 0] }) (o:={ cls:=.type "enumerate",data:=.fields #[.none,.bool false,.ref s.heap.objs.size,rawInt c,.none,.none] }) rfl
   rwa [hz] at x
  exact ⟨⟨_,he,rfl⟩,k _ he ⟨_,Heap.get?_push_of_some _ (Heap.get?_push_size _ rfl),rfl,rfl⟩ λb o x=>Heap.get?_push_of_some _ (Heap.get?_push_of_some _ x)⟩
 ·cases r with
  | error e=>exact hr
  | ok fl =>
   cases fl with
   | ret obj =>
    have hT:s1.TypeIs obj "enumerate":=hr.1
    have hli:=ft.init.lookup
    have hbi:=ft.init.bind obj
    repeat (any_goals (first | assumption | wp_step))
    refine codeAny_mono (codeAny_call_builtin ft.init.plain F.entry_object_init (ft.init.check _ _ _ _ _ _ _ _ hT (en_args obj (.ref l) c t) (en_init prog w A.in1 (wants (λr s2=>r=.none∧Q obj s2) E) s1 ⟨hT,rfl,hr.2⟩))) λr2 s2 hr2=>?_
    cases r2 with
    | error e=>exact hr2
    | ok fl2 =>
     cases fl2 with
     | ret r =>
      obtain ⟨rfl,hq⟩:=hr2
      repeat (any_goals (first | assumption | wp_step))
     | _=>exact hr2.elim
   | _=>exact hr.elim
end
noncomputable def Ite (K:PySem.W.Frag) (a:Addr) (lo:Int):It :=
 ⟨λi H=>∃ xs x,SqL K H a xs∧xs[i]?=some x,λi H x H'=>∃ p y,H p=none∧x=.ref p∧H'=upd H p (.tup [.int (lo+(i:Int)),y])∧∀ xs,SqL K H a xs→xs[i]?=some y,λi H=>∃ xs,SqL K H a xs∧xs.length≤i⟩
theorem turn_enum {P:Program} {w:World} {K:PySem.W.Frag} {elts:List Expr} {k0:Nat} {pos:Pos} (a e it:Addr) (lo:Int) (hei:e≠it):Turn P w K (.Tuple elts k0 pos) (Ite K a lo) [e,it] e (λi h=>(∃ old,IsEnum h e it (lo+(i:Int)) old)∧h.IsListIter it a i) where
 mem:=by simp
 obj:=λi h st b hb=>by
  obtain ⟨⟨old,h1⟩,o,h2,c,d⟩:=st
  have hb:b=e∨b=it:=by simpa using hb
  rcases hb with rfl | rfl
  ·exact ⟨_,h1,λv z=>by
    have z':Data.fields _=Data.cell v:=z
    cases z'⟩
  ·exact ⟨o,h2,λv z=>by rw [d] at z; cases z⟩
 keep:=λi h h' st k=>by
  obtain ⟨⟨old,h1⟩,h2⟩:=st
  exact ⟨⟨old,k e (by simp) _ h1⟩,h2.at λo q=>k it (by simp) o q⟩
 item:=by
  intro X hP hw hK hc i pins s σ H E I hf st hg
  subst hP hw hK
  obtain ⟨xs,x,hq,hx⟩:=hg
  obtain ⟨its,rv,p,hz⟩:=I.list hq
  obtain ⟨u,hu,ru⟩:=rv.get hx
  obtain ⟨⟨old,he⟩,hit⟩:=st
  have fe:=hf e (by simp)
  have fi:=hf it (by simp)
  refine en_pyNext he hit p.isList (u:=u) (by simpa using hu) hei λh' ho hit' hT hk=>?_
  refine ⟨_,rfl,wpAny_letOwnedTupleGo_enum ho λh2 he2 hs2=>?_⟩
  have helt:e<s.heap.objs.size:=Heap.lt_size he
  have hilt:it<s.heap.objs.size:=by obtain ⟨_,q,_⟩:=hit; exact Heap.lt_size q
  have ke:∀ b u,b≠e→b≠it→s.heap.get? b=some u→h2.get? b=some u:=λb u n1 n2 q=>(hs2.2 b n1).trans (hk b u n1 n2 q)
  have hT2:h2.get? s.heap.objs.size=some { cls:=.type "tuple",data:=.seq #[.int (lo+(i:Int)) s.toks,u] }:=(hs2.2 _ (Nat.ne_of_gt helt)).trans hT
  have hfr:H s.heap.objs.size=none:=I.hok.fresh (Nat.le_refl _)
  have I2:Inv X pins σ (upd H s.heap.objs.size (.tup [.int (lo+(i:Int)),x])) { s with heap:=h2,toks:=s.toks+1 }:=inv_drawn I ke fe fi (Nat.le_refl _) ⟨by rw [sizeLine_eq]; simp,[.int (lo+(i:Int)) s.toks,u],.cons ⟨_,rfl⟩ (.cons ru .nil),⟨_,hT2,rfl,_,rfl⟩⟩
  refine ⟨.ref s.heap.objs.size,upd H s.heap.objs.size (.tup [.int (lo+(i:Int)),x]),I2,rfl,⟨s.heap.objs.size,x,hfr,rfl,rfl,λys hy=>by rw [I.list_inj hy hq]; exact hx⟩,⟨⟨_,by rw [Int.natCast_add,Int.natCast_one,← Int.add_assoc]; exact he2⟩,hit'.at λo q=>(hs2.2 it hei.symm).trans q⟩,λb hb=>?_⟩
  ·have hb:b=e∨b=it:=by simpa using hb
   rcases hb with rfl | rfl
   ·rw [upd_ne (Nat.ne_of_lt helt)]; exact fe.1
   ·rw [upd_ne (Nat.ne_of_lt hilt)]; exact fi.1
 done:=by
  intro X hP hw hK hc i pins s σ H E I hf st hg
  subst hP hw hK
  obtain ⟨xs,hq,hx⟩:=hg
  obtain ⟨its,rv,p,hz⟩:=I.list hq
  obtain ⟨⟨old,he⟩,hit⟩:=st
  have hl:=rv.length
  exact en_stop (I.ok.hd hc) he hit p.isList (by simp; omega) λh' eb=>⟨rfl,inv_turned2 (t':=s.toks) I (λb o _ n2 q=>eb b o n2 q) (hf e (by simp)) (hf it (by simp))⟩
 self:=λ_ _ _ _ _ st h=>by
  obtain ⟨⟨old,he⟩,_⟩:=st
  exact wpAny_pyIter_enum he h
section
variable {X:Cx}
noncomputable def iEnum (K:PySem.W.Frag) (lo:Int) (ta:TA):TI:=λσ H R=>ta σ H λvs H1=>∃ a,vs=[.ref a]∧(∃ xs,SqL K H1 a xs)∧R (Ite K a lo) H1
theorem boot_enum:bootBuiltins "enumerate"=some (.type "enumerate"):=by decide +kernel
theorem pi_enum {a:Expr} {ta:TA} {p pos tpos:Pos} {elts:List Expr} {k0:Nat} (hg:Gl X "enumerate") (hm:X.mg "enumerate"=none) (ha:PA X [a] ta) (hs:starEach [a] X.env=[(false,eval a X.env)]:=by rfl):PI X (.Tuple elts k0 tpos) (.Call (.Name "enumerate" p) [a] [] pos) (iEnum X.K 0 ta):=by
 intro pins s σ H R I h
 refine Call_ (ld_blt I hg hm boot_enum (PyProof.Rows.callWith_type1 (thn (ha pos pins s σ H _ I h) λus s1 ⟨vs,H1,I1,r1,q1⟩=>?_) hs rfl))
 obtain ⟨l,e,⟨xs,hq⟩,q⟩:=q1
 subst e
 cases r1 with
 | cons r rr =>
  cases rr
  cases r
  obtain ⟨its,rv,p,hz⟩:=I1.list hq
  refine call_enumerate_list p.isList λh' he hit hsz hk=>?_
  have I2:Inv X pins σ H1 { s1 with heap:=h' }:=I1.kept (t':=s1.toks) hk
  refine wpAny_pyIter_enum he ?_
  refine ⟨s1.heap.objs.size+1,[s1.heap.objs.size+1,s1.heap.objs.size],_,_,H1,rfl,I2,turn_enum l _ _ 0 (Nat.succ_ne_self _),⟨⟨_,by simpa using he⟩,hit⟩,λb hb=>?_,q⟩
  have hb:b=s1.heap.objs.size+1∨b=s1.heap.objs.size:=by simpa using hb
  rcases hb with rfl | rfl
  ·exact I1.fpOk (Nat.le_succ _) (I1.hok.fresh (Nat.le_succ _))
  ·exact I1.fpOk (Nat.le_refl _) (I1.hok.fresh (Nat.le_refl _))
theorem pi_enumS {a:Expr} {ta:TA} {p pos tpos kq kp:Pos} {j:Nat} {elts:List Expr} {k0:Nat} (hg:Gl X "enumerate") (hm:X.mg "enumerate"=none) (ha:PA X [a] ta) (hs:starEach [a] X.env=[(false,eval a X.env)]:=by rfl) :
  PI X (.Tuple elts k0 tpos) (.Call (.Name "enumerate" p) [a] [⟨some "start",.Constant (.int 1) j kq,kp⟩] pos) (iEnum X.K 1 ta):=by
 intro pins s σ H R I h
 refine wpAny_Call_Name_kw (ld_blt I hg hm boot_enum ?_)
 refine PySem.W.callWith_of (P:=λ_=>True) (by rw [hs]; rfl) (λ_ _=>⟨.machine,.inr (.inl rfl),PySem.W.Looks.now⟩) (evalArgs_kw2 rfl (thn (ha pos pins s σ H _ I h) λus s1 ⟨vs,H1,I1,r1,q1⟩=>?_) hs)
 obtain ⟨l,e,⟨xs,hq⟩,q⟩:=q1
 subst e
 cases r1 with
 | cons r rr =>
  cases rr
  cases r
  refine thn (pk_cons (X:=X) (nm:=some "start") (kpos:=kp) (pe_int (i:=1) (j:=j) (pos:=kq)) pk_nil pos pins s1 σ H1 (λzs H2=>zs=[.int 1]∧H2=H1) I1 ⟨rfl,rfl⟩) λws s2 ⟨zs,H2,I2,rz,ez,eh⟩=>⟨trivial, ?_⟩
  subst ez eh
  cases rz with
  | cons rz rn =>
   cases rn
   obtain ⟨t,rfl⟩:=rz
   obtain ⟨its,rv,p,hz⟩:=I2.list hq
   refine en_type (c:=1) (by decide) p.isList λh' he hit hk=>?_
   have I3:Inv X pins σ H2 { s2 with heap:=h' }:=I2.kept (t':=s2.toks) hk
   refine wpAny_pyIter_enum he ?_
   refine ⟨s2.heap.objs.size+1,[s2.heap.objs.size+1,s2.heap.objs.size],_,_,H2,rfl,I3,turn_enum l _ _ 1 (Nat.succ_ne_self _),⟨⟨_,by simpa using he⟩,hit⟩,λb hb=>?_,q⟩
   have hb:b=s2.heap.objs.size+1∨b=s2.heap.objs.size:=by simpa using hb
   rcases hb with rfl | rfl
   ·exact I2.fpOk (Nat.le_succ _) (I2.hok.fresh (Nat.le_succ _))
   ·exact I2.fpOk (Nat.le_refl _) (I2.hok.fresh (Nat.le_refl _))
end
section
variable {K:PySem.W.Frag} {ρ ρ1:Env} {σ:St} {H G H' G':Hp} {own own' new new':Addr→Prop}
theorem set_cases {α:Type} {l:List α} {i j:Nat} {a b:α} (h:(l.set i a)[j]?=some b):(j=i∧b=a∧i<l.length)∨(j≠i∧l[j]?=some b):=by
 by_cases hij:j=i
 ·subst hij
  by_cases hl:j<l.length
  ·rw [List.getElem?_set_self hl] at h
   exact .inl ⟨rfl,(Option.some.inj h).symm,hl⟩
  ·rw [List.getElem?_eq_none (by rw [List.length_set]; omega)] at h
   cases h
 ·rw [List.getElem?_set_ne (λz=>hij z.symm)] at h
  exact .inr ⟨hij,h⟩
theorem Rel.unset (r:Rel K ρ σ H G) (i:Nat):Rel K (ρ.set i .un) σ H G:=by
 refine ⟨by rw [List.length_set]; exact r.len,r.sub,λj d h=>?_,λj d p l h=>?_,λj k d p l d' p' l' a h1 h2 h3 h4=>?_⟩
 ·rcases set_cases h with ⟨_,z,_⟩ | ⟨_,z⟩
  ·cases z
  ·exact r.sh j d z
 ·rcases set_cases h with ⟨_,z,_⟩ | ⟨_,z⟩
  ·cases z
  ·exact r.ow j d p l z
 ·rcases set_cases h1 with ⟨_,z,_⟩ | ⟨_,z⟩
  ·cases z
  ·rcases set_cases h2 with ⟨_,z',_⟩ | ⟨_,z'⟩
   ·cases z'
   ·exact r.inj _ _ _ _ _ _ _ _ _ z z' h3 h4
theorem Own.unset {i:Nat} {a:Addr} (h:Own (ρ.set i .un) σ a):Own ρ σ a:=by
 obtain ⟨j,d,p,l,h1,h2⟩:=h
 rcases set_cases h1 with ⟨_,z,_⟩ | ⟨_,z⟩
 ·cases z
 ·exact ⟨j,d,p,l,z,h2⟩
theorem Rel.unset_not (r:Rel K ρ σ H G) {i:Nat} {d:D} {p l:Bool} {a:Addr} (h:ρ[i]?=some (.ow d p l)) (hx:σ[i]?=some (some (.ref a))):¬ Own (ρ.set i .un) σ a:=by
 rintro ⟨j,d',p',l',h1,h2⟩
 rcases set_cases h1 with ⟨_,z,_⟩ | ⟨ne,z⟩
 ·cases z
 ·exact ne (r.inj _ _ _ _ _ _ _ _ _ z h h2 hx)
theorem Rel.grow (r:Rel K ρ σ H G) {a:Addr} {ob:HO} (hv:H a=some ob) (g:G a=none) (no:¬ Own ρ σ a):Rel K ρ σ H (upd G a ob):=by
 refine ⟨r.len,λb u e=>?_,λi d e=>?_,λi d p l e=>?_,r.inj⟩
 ·by_cases hb:b=a
  ·subst hb; rw [upd_same] at e; rw [hv]; exact e
  ·rw [upd_ne hb] at e; exact r.sub b u e
 ·obtain ⟨v,h1,h2⟩:=r.sh i d e
  exact ⟨v,h1,Rep.mono (Sm.put g) d h2⟩
 ·obtain ⟨b,h1,h2,h3⟩:=r.ow i d p l e
  have hb:b≠a:=λz=>by subst z; exact no ⟨i,d,p,l,e,h1⟩
  exact ⟨b,h1,by rw [upd_ne hb]; exact h2,h3.mono (Sm.put g) λ_ z=>z⟩
theorem Rel.put_sh (r:Rel K (ρ.set i .un) σ H G) {d:D} {v:V} (hx:σ[i]?=some (some v)) (hr:Rep K G d v):Rel K (ρ.set i (.sh d)) σ H G:=by
 have key:∀ (j:Nat) (sl:Sl),(ρ.set i (.sh d))[j]?=some sl→(j=i∧sl=.sh d)∨(ρ.set i .un)[j]?=some sl:=λj sl h=>by
  rcases set_cases h with ⟨e,z,_⟩ | ⟨ne,z⟩
  ·exact .inl ⟨e,z⟩
  ·exact .inr (by rw [List.getElem?_set_ne (λq=>ne q.symm)]; exact z)
 refine ⟨by have:=r.len; rw [List.length_set] at this ⊢; exact this,r.sub,λj d' h=>?_,λj d' p l h=>?_,λj k d1 p l d2 p' l' a h1 h2 h3 h4=>?_⟩
 ·rcases key j _ h with ⟨rfl,z⟩ | z
  ·cases z; exact ⟨v,hx,hr⟩
  ·exact r.sh j d' z
 ·rcases key j _ h with ⟨rfl,z⟩ | z
  ·cases z
  ·exact r.ow j d' p l z
 ·rcases key j _ h1 with ⟨rfl,z⟩ | z
  ·cases z
  ·rcases key k _ h2 with ⟨rfl,z'⟩ | z'
   ·cases z'
   ·exact r.inj _ _ _ _ _ _ _ _ _ z z' h3 h4
theorem Rel.put_ow (r:Rel K (ρ.set i .un) σ H G) {d:D} {p l:Bool} {a:Addr} (hx:σ[i]?=some (some (.ref a))) (g:G a=none) (ho:OwRep K H G a d) (no:¬ Own (ρ.set i .un) σ a):Rel K (ρ.set i (.ow d p l)) σ H G:=by
 have key:∀ (j:Nat) (sl:Sl),(ρ.set i (.ow d p l))[j]?=some sl→(j=i∧sl=.ow d p l)∨(ρ.set i .un)[j]?=some sl:=λj sl h=>by
  rcases set_cases h with ⟨e,z,_⟩ | ⟨ne,z⟩
  ·exact .inl ⟨e,z⟩
  ·exact .inr (by rw [List.getElem?_set_ne (λq=>ne q.symm)]; exact z)
 refine ⟨by have:=r.len; rw [List.length_set] at this ⊢; exact this,r.sub,λj d' h=>?_,λj d' p' l' h=>?_,λj k d1 p1 l1 d2 p2 l2 b h1 h2 h3 h4=>?_⟩
 ·rcases key j _ h with ⟨rfl,z⟩ | z
  ·cases z
  ·exact r.sh j d' z
 ·rcases key j _ h with ⟨rfl,z⟩ | z
  ·cases z; exact ⟨a,hx,g,ho⟩
  ·exact r.ow j d' p' l' z
 ·rcases key j _ h1 with ⟨rfl,z⟩ | z
  ·rcases key k _ h2 with ⟨rfl,z'⟩ | z'
   ·rfl
   ·rw [hx] at h3; cases h3
    exact absurd ⟨k,_,_,_,z',h4⟩ no
  ·rcases key k _ h2 with ⟨rfl,z'⟩ | z'
   ·rw [hx] at h4; cases h4
    exact absurd ⟨j,_,_,_,z,h3⟩ no
   ·exact r.inj _ _ _ _ _ _ _ _ _ z z' h3 h4
theorem Own.put_sh {i:Nat} {d:D} {a:Addr} (h:Own (ρ.set i (.sh d)) σ a):Own (ρ.set i .un) σ a:=by
 obtain ⟨j,d',p,l,h1,h2⟩:=h
 rcases set_cases h1 with ⟨_,z,_⟩ | ⟨ne,z⟩
 ·cases z
 ·exact ⟨j,d',p,l,by rw [List.getElem?_set_ne (λq=>ne q.symm)]; exact z,h2⟩
theorem Own.put_ow {i:Nat} {d:D} {p l:Bool} {a b:Addr} (hx:σ[i]?=some (some (.ref b))) (h:Own (ρ.set i (.ow d p l)) σ a):a=b∨Own (ρ.set i .un) σ a:=by
 obtain ⟨j,d',p',l',h1,h2⟩:=h
 rcases set_cases h1 with ⟨rfl,z,_⟩ | ⟨ne,z⟩
 ·rw [hx] at h2; cases h2; exact .inl rfl
 ·exact .inr ⟨j,d',p',l',by rw [List.getElem?_set_ne (λq=>ne q.symm)]; exact z,h2⟩
theorem HRep.grow {h:Hd} {x:V} (r:HRep K H G own new σ h x) {G2:Hp} (s:Same G G2) (k:∀ a d,h=.val (.ow d)→x=.ref a→G2 a=none) (w:∀ a,own' a→own a):HRep K H G2 own' new σ h x:=by
 cases h with
 | slot i=>exact r
 | val v =>
  cases v with
  | sh d=>exact Rep.mono s d r
  | ow d =>
   obtain ⟨a,rfl,g,o,n,m⟩:=r
   exact ⟨a,rfl,k a d rfl rfl,o.mono s λ_ z=>z,λz=>n (w a z),m⟩
  | od d=>exact r.elim
theorem HReps.tmp_own:∀ {hs:List Hd} {xs:List V} {a:Addr},HReps K H G own new σ hs xs→Tmp hs xs a→¬ own a∧new a∧H a≠none∧G a=none
 | [],_,_,h,t=>by cases (show _=[] from h); exact t.elim
 | h :: hs,_,a,r,t=>by
  obtain ⟨x,r',rfl,h1,h2,h3⟩:=r
  have tl:Tmp hs r' a→¬ own a∧new a∧H a≠none∧G a=none:=λt=>HReps.tmp_own h2 t
  cases h with
  | slot i=>exact tl t
  | val v =>
   cases v with
   | sh d=>exact tl t
   | ow d =>
    rcases t with rfl | t
    ·obtain ⟨b,e,g,o,n,m⟩:=h1
     cases e
     obtain ⟨vs,hv⟩:=o.there
     exact ⟨n,m,by rw [hv]; simp,g⟩
    ·exact tl t
   | od d=>exact h1.elim
theorem HReps.grow:∀ {hs:List Hd} {xs:List V},HReps K H G own new σ hs xs→∀ {G2:Hp},Same G G2→(∀ a,Tmp hs xs a→G2 a=none)→(∀ a,own' a→own a)→HReps K H G2 own' new σ hs xs
 | [],_,h,_,_,_,_=>h
 | h :: hs,_,r,G2,s,k,w=>by
  obtain ⟨x,r',rfl,h1,h2,h3⟩:=r
  refine ⟨x,r',rfl,h1.grow s (λa d e1 e2=>k a (by subst e1; exact .inl e2)) w,HReps.grow h2 s (λa t=>k a ?_) w,h3⟩
  cases h with
  | slot i=>exact t
  | val v =>
   cases v with
   | sh d=>exact t
   | ow d=>exact .inr t
   | od d=>exact h1.elim
theorem Rel.nil (s:Same G H):Rel K [] [] H G:=⟨rfl,s,λi d h=>by simp at h,λi d p l h=>by simp at h,λi j d p l d' p' l' a h=>by simp at h⟩
theorem Rel.cons_sh {as:List Sl} {τ:St} (r:Rel K as τ H G) {d:D} {x:V} (h:Rep K G d x):Rel K (.sh d :: as) (some x :: τ) H G:=by
 refine ⟨by simp [r.len],r.sub,λi d' e=>?_,λi d' p l e=>?_,λi j d1 p l d2 p' l' a h1 h2 h3 h4=>?_⟩
 ·cases i with
  | zero=>simp at e; subst e; exact ⟨x,rfl,h⟩
  | succ i=>simpa using r.sh i d' (by simpa using e)
 ·cases i with
  | zero=>simp at e
  | succ i=>simpa using r.ow i d' p l (by simpa using e)
 ·cases i with
  | zero=>simp at h1
  | succ i =>
   cases j with
   | zero=>simp at h2
   | succ j=>exact congrArg (·+1) (r.inj i j d1 p l d2 p' l' a (by simpa using h1) (by simpa using h2) (by simpa using h3) (by simpa using h4))
theorem Rel.cons_ow {as:List Sl} {τ:St} (r:Rel K as τ H G) {d:D} {p l:Bool} {a:Addr} (g:G a=none) (o:OwRep K H G a d) (n:¬ Own as τ a):Rel K (.ow d p l :: as) (some (.ref a) :: τ) H G:=by
 refine ⟨by simp [r.len],r.sub,λi d' e=>?_,λi d' p l e=>?_,λi j d1 p1 l1 d2 p' l' b h1 h2 h3 h4=>?_⟩
 ·cases i with
  | zero=>simp at e
  | succ i=>simpa using r.sh i d' (by simpa using e)
 ·cases i with
  | zero =>
   simp only [List.getElem?_cons_zero,Option.some.injEq,Sl.ow.injEq] at e
   obtain ⟨rfl,_,_⟩:=e
   exact ⟨a,rfl,g,o⟩
  | succ i=>simpa using r.ow i d' p l (by simpa using e)
 ·cases i with
  | zero =>
   simp only [List.getElem?_cons_zero,Option.some.injEq,V.ref.injEq] at h3
   subst h3
   cases j with
   | zero=>rfl
   | succ j=>exact absurd ⟨j,d2,p',l',by simpa using h2,by simpa using h4⟩ n
  | succ i =>
   cases j with
   | zero =>
    simp only [List.getElem?_cons_zero,Option.some.injEq,V.ref.injEq] at h4
    subst h4
    exact absurd ⟨i,d1,p1,l1,by simpa using h1,by simpa using h3⟩ n
   | succ j=>exact congrArg (·+1) (r.inj i j d1 p1 l1 d2 p' l' b (by simpa using h1) (by simpa using h2) (by simpa using h3) (by simpa using h4))
theorem Own.cons {as:List Sl} {τ:St} {sl:Sl} {v:Option V} {a:Addr} (h:Own (sl :: as) (v :: τ) a):(∃ d p l,sl=.ow d p l∧v=some (.ref a))∨Own as τ a:=by
 obtain ⟨i,d,p,l,h1,h2⟩:=h
 cases i with
 | zero=>exact .inl ⟨d,p,l,by simpa using h1,by simpa using h2⟩
 | succ i=>exact .inr ⟨i,d,p,l,by simpa using h1,by simpa using h2⟩
structure Lent (K:PySem.W.Frag) (ρ:Env) (σ:St) (H G:Hp) (hs:List Hd) (xs:List V) (as:List Sl) (ρ1:Env) (G2:Hp):Prop where
 gg:Same G G2
 gn:∀ a,G2 a≠none→G a≠none∨Own ρ σ a∨Tmp hs xs a
 ra:Rel K as (xs.map some) H G2
 rc:Rel K ρ1 σ H G2
 ao:∀ a,Own as (xs.map some) a→Own ρ σ a∨Tmp hs xs a
 an:∀ a,Own as (xs.map some) a→¬ Own ρ1 σ a
 ro:∀ a,Own ρ1 σ a→Own ρ σ a
theorem lend_ok:∀ (hs:List Hd) (pins:List Bool) (ρ:Env) (G:Hp) (xs:List V) (as:List Sl) (ρ1:Env),Rel K ρ σ H G→HReps K H G (Own ρ σ) new σ hs xs→lend pins hs ρ=some (as,ρ1) →
  ∃ G2,Lent K ρ σ H G hs xs as ρ1 G2
 | [],pins,ρ,G,xs,as,ρ1,r,h,e=>by
  cases (show xs=[] from h)
  cases pins with
  | cons p ps=>cases e
  | nil =>
   simp only [lend,Option.some.injEq,Prod.mk.injEq] at e
   obtain ⟨rfl,rfl⟩:=e
   exact ⟨G,Same.refl _,λa z=>.inl z,Rel.nil r.sub,r,λa ⟨i,d,p,l,z,_⟩=>by simp at z,λa ⟨i,d,p,l,z,_⟩=>by simp at z,λ_ z=>z⟩
 | .val (.sh d) :: hs,pins,ρ,G,xs,as,ρ1,r,h,e=>by
  obtain ⟨x,r',rfl,h1,h2,h3⟩:=h
  cases pins with
  | nil=>cases e
  | cons p ps =>
   simp only [lend] at e
   cases q:lend ps hs ρ with
   | none=>rw [q] at e; cases e
   | some y =>
    obtain ⟨as',ρ'⟩:=y
    rw [q] at e
    simp only [Option.map_some,Option.some.injEq,Prod.mk.injEq] at e
    obtain ⟨rfl,rfl⟩:=e
    obtain ⟨G2,L⟩:=lend_ok hs ps ρ G r' as' ρ' r h2 q
    refine ⟨G2,L.gg,L.gn,L.ra.cons_sh (Rep.mono L.gg d h1),L.rc,λa z=>?_,λa z=>?_,L.ro⟩
    ·rcases z.cons with ⟨_,_,_,z,_⟩ | z
     ·cases z
     ·exact L.ao a z
    ·rcases z.cons with ⟨_,_,_,z,_⟩ | z
     ·cases z
     ·exact L.an a z
 | .val (.ow d) :: hs,pins,ρ,G,xs,as,ρ1,r,h,e=>by
  obtain ⟨x,r',rfl,h1,h2,h3⟩:=h
  obtain ⟨b,rfl,g,o,n,m⟩:=h1
  have nt:¬ Tmp hs r' b:=h3 d b rfl rfl
  cases pins with
  | nil=>cases e
  | cons p ps =>
   simp only [lend] at e
   cases q:lend ps hs ρ with
   | none=>rw [q] at e; cases e
   | some y =>
    obtain ⟨as',ρ'⟩:=y
    rw [q] at e
    simp only [Option.map_some,Option.some.injEq,Prod.mk.injEq] at e
    obtain ⟨rfl,rfl⟩:=e
    cases p with
    | true =>
     obtain ⟨G2,L⟩:=lend_ok hs ps ρ G r' as' ρ' r h2 q
     have g2:G2 b=none:=by
      cases w:G2 b with
      | none=>rfl
      | some o' =>
       rcases L.gn b (by rw [w]; simp) with z | z | z
       ·exact absurd g z
       ·exact absurd z n
       ·exact absurd z nt
     have nb:¬ Own as' (r'.map some) b:=λz=>by
      rcases L.ao b z with z | z
      ·exact n z
      ·exact nt z
     refine ⟨G2,L.gg,λa z=>?_,L.ra.cons_ow g2 (o.mono L.gg λ_ z=>z) nb,L.rc,λa z=>?_,λa z=>?_,L.ro⟩
     ·rcases L.gn a z with z | z | z
      ·exact .inl z
      ·exact .inr (.inl z)
      ·exact .inr (.inr (.inr z))
     ·rcases z.cons with ⟨_,_,_,_,z⟩ | z
      ·cases z; exact .inr (.inl rfl)
      ·rcases L.ao a z with z | z
       ·exact .inl z
       ·exact .inr (.inr z)
     ·rcases z.cons with ⟨_,_,_,_,z⟩ | z
      ·cases z; exact λw=>n (L.ro _ w)
      ·exact L.an a z
    | false =>
     obtain ⟨ob,hv,hr⟩:=o.put
     have tb:∀ a,Tmp hs r' a→(upd G b ob) a=none:=λa z=>by
      have hb:a≠b:=λw=>by subst w; exact nt z
      rw [upd_ne hb]
      exact (h2.tmp_own z).2.2.2
     obtain ⟨G2,L⟩:=lend_ok hs ps ρ (upd G b ob) r' as' ρ' (r.grow hv g n) (h2.grow (Same.put g) tb λ_ z=>z) q
     refine ⟨G2,(Same.put g).trans L.gg,λa z=>?_,L.ra.cons_sh ?_,L.rc,λa z=>?_,λa z=>?_,L.ro⟩
     ·by_cases hb:a=b
      ·subst hb; exact .inr (.inr (.inl rfl))
      ·rcases L.gn a z with z | z | z
       ·rw [upd_ne hb] at z; exact .inl z
       ·exact .inr (.inl z)
       ·exact .inr (.inr (.inr z))
     ·exact hr _ (Sm.of ((Same.put g).trans L.gg)) (L.gg _ _ upd_same)
     ·rcases z.cons with ⟨_,_,_,z,_⟩ | z
      ·simp at z
      ·rcases L.ao a z with z | z
       ·exact .inl z
       ·exact .inr (.inr z)
     ·rcases z.cons with ⟨_,_,_,z,_⟩ | z
      ·simp at z
      ·exact L.an a z
 | .slot i :: hs,pins,ρ,G,xs,as,ρ1,r,h,e=>by
  obtain ⟨x,r',rfl,h1,h2,h3⟩:=h
  have h1:σ[i]?=some (some x):=h1
  cases pins with
  | nil=>cases e
  | cons p ps =>
   simp only [lend] at e
   split at e
   ·rename_i d hd
    cases q:lend ps hs ρ with
    | none=>rw [q] at e; cases e
    | some y =>
     obtain ⟨as',ρ'⟩:=y
     rw [q] at e
     simp only [Option.map_some,Option.some.injEq,Prod.mk.injEq] at e
     obtain ⟨rfl,rfl⟩:=e
     obtain ⟨G2,L⟩:=lend_ok hs ps ρ G r' as' ρ' r h2 q
     obtain ⟨v,h4,h5⟩:=r.sh i d hd
     rw [h1] at h4; cases h4
     refine ⟨G2,L.gg,L.gn,L.ra.cons_sh (Rep.mono L.gg d h5),L.rc,λa z=>?_,λa z=>?_,L.ro⟩
     ·rcases z.cons with ⟨_,_,_,z,_⟩ | z
      ·cases z
      ·exact L.ao a z
     ·rcases z.cons with ⟨_,_,_,z,_⟩ | z
      ·cases z
      ·exact L.an a z
   ·rename_i d pin lk hd
    obtain ⟨b,h4,g,o⟩:=r.ow i d pin lk hd
    rw [h1] at h4; cases h4
    have hown:Own ρ σ b:=⟨i,d,pin,lk,hd,h1⟩
    have nt:¬ Tmp hs r' b:=λz=>(h2.tmp_own z).1 hown
    have nu:¬ Own (ρ.set i .un) σ b:=r.unset_not hd h1
    cases p with
    | true =>
     simp only at e
     cases q:lend ps hs (ρ.set i .un) with
     | none=>rw [q] at e; cases e
     | some y =>
      obtain ⟨as',ρ'⟩:=y
      rw [q] at e
      simp only [Option.map_some,Option.some.injEq,Prod.mk.injEq] at e
      obtain ⟨rfl,rfl⟩:=e
      obtain ⟨G2,L⟩:=lend_ok hs ps (ρ.set i .un) G r' as' ρ' (r.unset i) (h2.grow (Same.refl _) (λa z=>(h2.tmp_own z).2.2.2) λa z=>z.unset) q
      have g2:G2 b=none:=by
       cases w:G2 b with
       | none=>rfl
       | some o' =>
        rcases L.gn b (by rw [w]; simp) with z | z | z
        ·exact absurd g z
        ·exact absurd z nu
        ·exact absurd z nt
      have nb:¬ Own as' (r'.map some) b:=λz=>by
       rcases L.ao b z with z | z
       ·exact nu z
       ·exact nt z
      refine ⟨G2,L.gg,λa z=>?_,L.ra.cons_ow g2 (o.mono L.gg λ_ z=>z) nb,L.rc,λa z=>?_,λa z=>?_,λa z=>(L.ro a z).unset⟩
      ·rcases L.gn a z with z | z | z
       ·exact .inl z
       ·exact .inr (.inl z.unset)
       ·exact .inr (.inr z)
      ·rcases z.cons with ⟨_,_,_,_,z⟩ | z
       ·cases z; exact .inl hown
       ·rcases L.ao a z with z | z
        ·exact .inl z.unset
        ·exact .inr z
      ·rcases z.cons with ⟨_,_,_,_,z⟩ | z
       ·cases z; exact λw=>nu (L.ro _ w)
       ·exact L.an a z
    | false =>
     simp only at e
     split at e
     ·cases e
     ·cases q:lend ps hs (ρ.set i (.sh d)) with
      | none=>rw [q] at e; cases e
      | some y =>
       obtain ⟨as',ρ'⟩:=y
       rw [q] at e
       simp only [Option.map_some,Option.some.injEq,Prod.mk.injEq] at e
       obtain ⟨rfl,rfl⟩:=e
       obtain ⟨ob,hv,hr⟩:=o.put
       have tb:∀ a,Tmp hs r' a→(upd G b ob) a=none:=λa z=>by
        have hb:a≠b:=λw=>by subst w; exact nt z
        rw [upd_ne hb]
        exact (h2.tmp_own z).2.2.2
       have rb:∀ G2,Same (upd G b ob) G2→Rep K G2 d (.ref b):=λG2 s2=>hr _ (Sm.of ((Same.put g).trans s2)) (s2 _ _ upd_same)
       obtain ⟨G2,L⟩:=lend_ok hs ps (ρ.set i (.sh d)) (upd G b ob) r' as' ρ' (((r.unset i).grow hv g nu).put_sh h1 (rb _ (Same.refl _)))
        (h2.grow (Same.put g) tb λa z=>z.put_sh.unset) q
       refine ⟨G2,(Same.put g).trans L.gg,λa z=>?_,L.ra.cons_sh (rb G2 L.gg),L.rc,λa z=>?_,λa z=>?_,λa z=>(L.ro a z).put_sh.unset⟩
       ·by_cases hb:a=b
        ·subst hb; exact .inr (.inl hown)
        ·rcases L.gn a z with z | z | z
         ·rw [upd_ne hb] at z; exact .inl z
         ·exact .inr (.inl z.put_sh.unset)
         ·exact .inr (.inr z)
       ·rcases z.cons with ⟨_,_,_,z,_⟩ | z
        ·cases z
        ·rcases L.ao a z with z | z
         ·exact .inl z.put_sh.unset
         ·exact .inr z
       ·rcases z.cons with ⟨_,_,_,z,_⟩ | z
        ·cases z
        ·exact L.an a z
   ·cases e
end
section
variable {K:PySem.W.Frag} {ρ ρ1 ρ0:Env} {σ τ:St} {H G H' G' H0 G0:Hp} {own own' new new':Addr→Prop}
theorem Rel.keep (r:Rel K ρ σ H G) (e:Ext own H G H' G') (n:∀ a,Own ρ σ a→¬ own a) (s:Same G' H'):Rel K ρ σ H' G':=by
 refine ⟨r.len,s,λi d h=>?_,λi d p l h=>?_,r.inj⟩
 ·obtain ⟨v,h1,h2⟩:=r.sh i d h
  exact ⟨v,h1,Rep.mono e.gg d h2⟩
 ·obtain ⟨a,h1,g,o⟩:=r.ow i d p l h
  have na:=n a ⟨i,d,p,l,h,h1⟩
  obtain ⟨vs,hv⟩:=o.there
  exact ⟨a,h1,e.gn a (by rw [hv]; simp) g na,o.mono e.gg λo' h'=>e.hh a o' h' na⟩
theorem Rel.tail {a:Sl} {as:List Sl} {v:Option V} (r:Rel K (a :: as) (v :: τ) H G):Rel K as τ H G:=by
 refine ⟨by have:=r.len; simpa using this,r.sub,λi d h=>?_,λi d p l h=>?_,λi j d p l d' p' l' b h1 h2 h3 h4=>?_⟩
 ·simpa using r.sh (i+1) d (by simpa using h)
 ·simpa using r.ow (i+1) d p l (by simpa using h)
 ·have:=r.inj (i+1) (j+1) d p l d' p' l' b (by simpa using h1) (by simpa using h2) (by simpa using h3) (by simpa using h4)
  omega
theorem Own.tail {a:Sl} {as:List Sl} {v:Option V} {b:Addr} (h:Own as τ b):Own (a :: as) (v :: τ) b:=by
 obtain ⟨i,d,p,l,h1,h2⟩:=h
 exact ⟨i+1,d,p,l,by simpa using h1,by simpa using h2⟩
theorem giveBack_ok:∀ (hs:List Hd) (pins:List Bool) (as:List Sl) (xs:List V) (ρ ρ':Env),Rel K as (xs.map some) H G→Rel K ρ σ H G→(∀ a,Own as (xs.map some) a→¬ Own ρ σ a)→HReps K H0 G0 own new σ hs xs →
  giveBack pins hs as ρ0 ρ=some ρ'→Rel K ρ' σ H G∧∀ a,Own ρ' σ a→Own ρ σ a∨Own ρ0 σ a
 | [],pins,as,xs,ρ,ρ',ra,r,n,h,e=>by
  cases pins with
  | nil =>
   cases as with
   | nil =>
    cases e
    exact ⟨r,λ_ z=>.inl z⟩
   | cons a as=>cases e
  | cons p ps=>cases p <;> cases as <;> cases e
 | h :: hs,pins,as,xs,ρ,ρ',ra,r,n,hh,e=>by
  obtain ⟨x,r',rfl,h1,h2,h3⟩:=hh
  cases pins with
  | nil=>cases e
  | cons p ps =>
   cases as with
   | nil=>cases p <;> cases h <;> cases e
   | cons a as' =>
    have skip:giveBack ps hs as' ρ0 ρ=some ρ'→Rel K ρ' σ H G∧∀ a,Own ρ' σ a→Own ρ σ a∨Own ρ0 σ a:=λe' =>
     giveBack_ok hs ps as' r' ρ ρ' ra.tail r (λb z=>n b z.tail) h2 e'
    cases p with
    | false=>cases h <;> exact skip e
    | true =>
     cases h with
     | val v=>exact skip e
     | slot i =>
      have h1:σ[i]?=some (some x):=h1
      simp only [giveBack] at e
      split at e
      ·rename_i _ pin lk d p' l' hi
       obtain ⟨b,hb,g,o⟩:=ra.ow 0 d p' l' rfl
       simp only [List.map_cons,List.getElem?_cons_zero,Option.some.injEq] at hb
       subst hb
       have nb:¬ Own ρ σ b:=n b ⟨0,d,p',l',rfl,rfl⟩
       have r2:Rel K (ρ.set i (.ow d pin lk)) σ H G:=(r.unset i).put_ow h1 g o λz=>nb z.unset
       obtain ⟨r3,r4⟩:=giveBack_ok hs ps as' r' (ρ.set i (.ow d pin lk)) ρ' ra.tail r2 (λc z w=>by
        rcases w.put_ow h1 with rfl | w
        ·obtain ⟨j,d2,p2,l2,z1,z2⟩:=z
         have:=ra.inj 0 (j+1) d p' l' d2 p2 l2 c rfl (by simpa using z1) rfl (by simpa using z2)
         omega
        ·exact n c z.tail w.unset) h2 e
       refine ⟨r3,λc z=>?_⟩
       rcases r4 c z with z | z
       ·rcases z.put_ow h1 with rfl | z
        ·exact .inr ⟨i,_,pin,lk,hi,h1⟩
        ·exact .inl z.unset
       ·exact .inr z
      ·cases e
      ·exact skip e
def Lends (pins:List Bool) (hs:List Hd) (i:Nat):Prop:=∃ j:Nat,pins[j]?=some true∧hs[j]?=some (.slot i)
theorem Lends.cons {p:Bool} {ps:List Bool} {h:Hd} {hs:List Hd} {i:Nat} (l:Lends ps hs i):Lends (p :: ps) (h :: hs) i:=by
 obtain ⟨j,h1,h2⟩:=l
 exact ⟨j+1,by simpa using h1,by simpa using h2⟩
theorem lend_evo:∀ (hs:List Hd) (pins:List Bool) (ρ:Env) (as:List Sl) (ρ1:Env),lend pins hs ρ=some (as,ρ1)→∀ i:Nat,KindLe ρ[i]? ρ1[i]?∨(Lends pins hs i∧∃ d p l,ρ[i]?=some (.ow d p l))
 | [],pins,ρ,as,ρ1,e,i=>by
  cases pins <;> cases e
  exact .inl (KindLe.refl _)
 | h :: hs,pins,ρ,as,ρ1,e,i=>by
  cases pins with
  | nil=>cases h with
   | slot i=>cases e
   | val v=>cases v <;> cases e
  | cons p ps =>
   have fin:∀ {ρ':Env} {g:Sl},(lend ps hs ρ').map (λ(as,ρ')=>(g :: as,ρ'))=some (as,ρ1)→KindLe ρ'[i]? ρ1[i]?∨(Lends ps hs i∧∃ d p l,ρ'[i]?=some (.ow d p l)):=by
    intro ρ' g e
    cases q:lend ps hs ρ' with
    | none=>rw [q] at e; cases e
    | some y =>
     obtain ⟨as',ρ2⟩:=y
     rw [q] at e
     simp only [Option.map_some,Option.some.injEq,Prod.mk.injEq] at e
     obtain ⟨_,rfl⟩:=e
     exact lend_evo hs ps ρ' as' ρ2 q i
   have same:∀ {g:Sl},(lend ps hs ρ).map (λ(as,ρ')=>(g :: as,ρ'))=some (as,ρ1)→KindLe ρ[i]? ρ1[i]?∨(Lends (p :: ps) (h :: hs) i∧∃ d p l,ρ[i]?=some (.ow d p l)):=by
    intro g e
    rcases fin e with z | ⟨z,w⟩
    ·exact .inl z
    ·exact .inr ⟨z.cons,w⟩
   cases h with
   | val v=>cases v <;> first | exact same e | cases e
   | slot i0 =>
    simp only [lend] at e
    split at e
    ·exact same e
    ·rename_i d pin lk hd
     cases p with
     | true =>
      simp only at e
      by_cases hi:i=i0
      ·subst hi
       exact .inr ⟨⟨0,rfl,rfl⟩,d,pin,lk,hd⟩
      ·have:=fin e
       rw [List.getElem?_set_ne (λz=>hi z.symm)] at this
       rcases this with z | ⟨z,w⟩
       ·exact .inl z
       ·exact .inr ⟨z.cons,w⟩
     | false =>
      simp only at e
      split at e
      ·cases e
      ·rename_i hp
       simp only [Bool.or_eq_true,not_or,Bool.not_eq_true] at hp
       have ev0:Evo ρ (ρ.set i0 (.sh d)):=Evo.set (by rw [hd]; exact hp.1)
       rcases fin e with z | ⟨z,d',p',l',w⟩
       ·exact .inl ((ev0 i).trans z)
       ·have:=ev0 i
        rw [w] at this
        obtain ⟨d2,e2⟩:=this.ow_of
        exact .inr ⟨z.cons,d2,p',l',e2⟩
    ·cases e
theorem giveBack_evo:∀ (hs:List Hd) (pins:List Bool) (as:List Sl) (ρ ρ':Env),giveBack pins hs as ρ0 ρ=some ρ'→∀ i:Nat,(ρ'[i]?=ρ[i]?∨∃ d d' p l,ρ0[i]?=some (.ow d p l)∧ρ'[i]?=some (.ow d' p l)) ∧
  (Lends pins hs i→(∃ d p l,ρ0[i]?=some (.ow d p l))→i<ρ.length→∃ d d' p l,ρ0[i]?=some (.ow d p l)∧ρ'[i]?=some (.ow d' p l))
 | [],pins,as,ρ,ρ',e,i=>by
  cases pins with
  | nil =>
   cases as with
   | nil =>
    cases e
    exact ⟨.inl rfl,λ⟨j,h,_⟩=>by simp at h⟩
   | cons a as=>cases e
  | cons p ps=>cases p <;> cases as <;> cases e
 | h :: hs,pins,as,ρ,ρ',e,i=>by
  cases pins with
  | nil=>cases e
  | cons p ps =>
   cases as with
   | nil=>cases p <;> cases h <;> cases e
   | cons a as' =>
    have uncons:¬ (p=true∧h=.slot i)→Lends (p :: ps) (h :: hs) i→Lends ps hs i:=λn ⟨j,h1,h2⟩=>by
     cases j with
     | zero =>
      simp only [List.getElem?_cons_zero,Option.some.injEq] at h1 h2
      exact absurd ⟨h1,h2⟩ n
     | succ j=>exact ⟨j,by simpa using h1,by simpa using h2⟩
    have skip:¬ (p=true∧h=.slot i)∨¬ (∃ d p l,ρ0[i]?=some (.ow d p l))→giveBack ps hs as' ρ0 ρ=some ρ'→(ρ'[i]?=ρ[i]?∨∃ d d' p l,ρ0[i]?=some (.ow d p l)∧ρ'[i]?=some (.ow d' p l)) ∧
      (Lends (p :: ps) (h :: hs) i→(∃ d p l,ρ0[i]?=some (.ow d p l))→i<ρ.length→∃ d d' p l,ρ0[i]?=some (.ow d p l)∧ρ'[i]?=some (.ow d' p l)):=λn e'=>by
     obtain ⟨h1,h2⟩:=giveBack_evo hs ps as' ρ ρ' e' i
     refine ⟨h1,λl o=>?_⟩
     rcases n with n | n
     ·exact h2 (uncons n l) o
     ·exact absurd o n
    cases p with
    | false=>cases h <;> exact skip (.inl (by simp)) e
    | true =>
     cases h with
     | val v=>exact skip (.inl (by simp)) e
     | slot i0 =>
      simp only [giveBack] at e
      split at e
      ·rename_i d0 pin lk d p' l' hi
       obtain ⟨h1,h2⟩:=giveBack_evo hs ps as' _ ρ' e i
       by_cases hii:i=i0
       ·subst hii
        refine ⟨?_,λl o hl=>?_⟩
        ·rcases h1 with h1 | h1
         ·by_cases hl:i<ρ.length
          ·rw [List.getElem?_set_self hl] at h1
           exact .inr ⟨_,_,_,_,hi,h1⟩
          ·exact .inl (by rw [h1,List.getElem?_eq_none (by rw [List.length_set]; omega),List.getElem?_eq_none (by omega)])
         ·exact .inr h1
        ·rcases h1 with h1 | h1
         ·rw [List.getElem?_set_self hl] at h1
          exact ⟨_,_,_,_,hi,h1⟩
         ·exact h1
       ·rw [List.getElem?_set_ne (λz=>hii z.symm)] at h1
        refine ⟨h1,λl o hl=>h2 (uncons (λz=>hii (by have:=z.2; simp at this; exact this.symm)) l) o (by rw [List.length_set]; exact hl)⟩
      ·cases e
      ·rename_i hn1 hn2
       refine skip ?_ e
       by_cases hii:i=i0
       ·subst hii
        refine .inr λ⟨d,p,l,z⟩=>?_
        exact hn1 d p l z
       ·exact .inl λz=>hii (by have:=z.2; simp at this; exact this.symm)
theorem doCall_ok {pins:List Bool} {f:List Sl→Res RV} {hs:List Hd} {xs:List V} {v:RV} {ρ':Env} (a:Aft K ρ0 σ H0 G0 ρ H G) (h:HReps K H G (Own ρ σ) (Fresh H0) σ hs xs) (e:doCall pins f hs ρ=some (.ok v,ρ')) :
  ∃ as G2 as',Rel K as (xs.map some) H G2∧as.length=pins.length∧f as=some (.ok v,as')∧(Same G G2∧∀ c,Own as (xs.map some) c→Own ρ σ c∨Tmp hs xs c)∧∀ x H' G',Aft K as (xs.map some) H G2 as' H' G'→VRep K H' G' (Own as' (xs.map some)) (Fresh H) v x →
   Aft K ρ0 σ H0 G0 ρ' H' G'∧VRep K H' G' (Own ρ' σ) (Fresh H0) v x:=by
 unfold doCall at e
 cases q:lend pins hs ρ with
 | none=>rw [q] at e; cases e
 | some y =>
  obtain ⟨as,ρ1⟩:=y
  rw [q] at e
  simp only at e
  cases q2:f as with
  | none=>rw [q2] at e; cases e
  | some y =>
   obtain ⟨o,as'⟩:=y
   rw [q2] at e
   simp only at e
   cases q3:giveBack pins hs as' ρ ρ1 with
   | none=>rw [q3] at e; cases e
   | some ρ2 =>
    rw [q3] at e
    simp only [Option.map_some,Option.some.injEq,Prod.mk.injEq] at e
    obtain ⟨rfl,rfl⟩:=e
    obtain ⟨G2,L⟩:=lend_ok hs pins ρ G xs as ρ1 a.rel h q
    refine ⟨as,G2,as',L.ra, ?_,q2,⟨L.gg,L.ao⟩,λx H' G' b hv=>?_⟩
    ·have:∀ (hs:List Hd) (pins:List Bool) (ρ:Env) (as:List Sl) (ρ1:Env),lend pins hs ρ=some (as,ρ1)→as.length=pins.length:=by
      intro hs
      induction hs with
      | nil =>
       intro pins ρ as ρ1 e
       cases pins <;> cases e
       rfl
      | cons h hs ih =>
       intro pins ρ as ρ1 e
       cases pins with
       | nil=>cases h with
        | slot i=>cases e
        | val v=>cases v <;> cases e
       | cons p ps =>
        have fin:∀ {o:Option (List Sl × Env)} {g:Sl},(o.map λ(as,ρ')=>(g :: as,ρ'))=some (as,ρ1)→(∀ as' ρ',o=some (as',ρ')→as'.length=ps.length)→as.length=(p :: ps).length:=by
         intro o g e k
         cases o with
         | none=>cases e
         | some y =>
          obtain ⟨as',ρ'⟩:=y
          simp only [Option.map_some,Option.some.injEq,Prod.mk.injEq] at e
          rw [← e.1,List.length_cons,List.length_cons,k as' ρ' rfl]
        cases h with
        | slot i =>
         simp only [lend] at e
         split at e
         ·exact fin e λas' ρ' z=>ih _ _ _ _ z
         ·split at e
          ·exact fin e λas' ρ' z=>ih _ _ _ _ z
          ·split at e
           ·cases e
           ·exact fin e λas' ρ' z=>ih _ _ _ _ z
         ·cases e
        | val v =>
         cases v with
         | sh d=>exact fin e λas' ρ' z=>ih _ _ _ _ z
         | ow d=>exact fin e λas' ρ' z=>ih _ _ _ _ z
         | od d=>cases e
     exact this hs pins ρ as ρ1 q
    ·have own_there:∀ c,Own as (xs.map some) c→H c≠none:=λc z=>(L.ra.owned z).1
     have rc:Rel K ρ1 σ H' G':=L.rc.keep b.ext (λc z w=>L.an c w z) b.rel.sub
     obtain ⟨r3,r4⟩:=giveBack_ok hs pins as' xs ρ1 ρ2 b.rel rc (λc z w=>L.an c (b.own c z) w) h q3
     have own2:∀ c,Own ρ2 σ c→Own ρ σ c:=λc z=>by
      rcases r4 c z with z | z
      ·exact L.ro c z
      ·exact z
     have hown:∀ c,Own as (xs.map some) c→Own ρ0 σ c∨H0 c=none:=λc z=>by
      rcases L.ao c z with z | z
      ·exact .inl (a.own c z)
      ·exact .inr (h.tmp_own z).2.1
     have evo2:Evo ρ ρ2:=λi=>by
      obtain ⟨g1,g2⟩:=giveBack_evo hs pins as' ρ1 ρ2 q3 i
      rcases lend_evo hs pins ρ as ρ1 q i with z | ⟨z,o⟩
      ·rcases g1 with g1 | ⟨d,d',p,l,w1,w2⟩
       ·rw [g1]; exact z
       ·rw [w1,w2]; exact ⟨rfl,rfl⟩
      ·have hl:i<ρ1.length:=by
        obtain ⟨d,p,l,o⟩:=o
        rw [L.rc.len,← a.rel.len]
        exact (List.getElem?_eq_some_iff.mp o).1
       obtain ⟨d,d',p,l,w1,w2⟩:=g2 z o hl
       rw [w1,w2]; exact ⟨rfl,rfl⟩
     refine ⟨⟨r3,⟨a.ext.gg.trans ((Sm.of L.gg).trans b.ext.gg),λc o hc nc=>?_,λc z=>a.ext.hx c (b.ext.hx c z),λc hc gc nc=>?_⟩,a.evo.trans evo2⟩, ?_⟩
     ·refine b.ext.hh c o (a.ext.hh c o hc nc) λz=>?_
      rcases hown c z with z | z
      ·exact nc z
      ·rw [hc] at z; cases z
     ·have hc':H c≠none:=λz=>hc (a.ext.hx c z)
      have g1:G c=none:=a.ext.gn c hc gc nc
      have g2:G2 c=none:=by
       cases w:G2 c with
       | none=>rfl
       | some o =>
        rcases L.gn c (by rw [w]; simp) with z | z | z
        ·exact absurd g1 z
        ·exact absurd (a.own c z) nc
        ·exact absurd (h.tmp_own z).2.1 hc
      refine b.ext.gn c hc' g2 λz=>?_
      rcases hown c z with z | z
      ·exact nc z
      ·exact hc z
     ·cases v with
      | sh d=>exact hv
      | ow d =>
       obtain ⟨c,rfl,g,o,n,m⟩:=hv
       exact ⟨c,rfl,g,o,λz=>(a.rel.owned (own2 c z)).1 m,a.ext.hx c m⟩
      | od d =>
       obtain ⟨c,rfl,g,o,n,m,vs,hv,hr⟩:=hv
       exact ⟨c,rfl,g,o,λz=>(a.rel.owned (own2 c z)).1 m,a.ext.hx c m,vs,hv,λx hx=>let ⟨b,ws,h1,h2,h3,h4,h5,h6⟩:=hr x hx; ⟨b,ws,h1,h2,h3,λz=>(a.rel.owned (own2 b z)).1 h5,a.ext.hx b h5,h6⟩⟩
noncomputable def okOf (x:Exc) (o:Res RV):Res RV :=
 match o with
 | some (Out.ex y,as')=>@ite _ (y=x) (cl _) (some (Out.ok (.sh .non),as')) none
 | _=>none
theorem okOf_inv {x:Exc} {o:Res RV} {v:RV} {as':Env} (h:okOf x o=some (.ok v,as')):o=some (.ex x,as'):=by
 unfold okOf at h
 split at h
 ·split at h
  ·rename_i hy
   cases h
   rw [hy]
  ·cases h
 ·cases h
theorem doCall_ex {pins:List Bool} {f:List Sl→Res RV} {hs:List Hd} {xs:List V} {x:Exc} {ρ':Env} (a:Aft K ρ0 σ H0 G0 ρ H G) (h:HReps K H G (Own ρ σ) (Fresh H0) σ hs xs) (e:doCall pins f hs ρ=some (.ex x,ρ')) :
  ∃ as G2 as',Rel K as (xs.map some) H G2∧as.length=pins.length∧f as=some (.ex x,as')∧∀ H' G',Aft K as (xs.map some) H G2 as' H' G'→Aft K ρ0 σ H0 G0 ρ' H' G':=by
 have e':doCall pins (λas=>okOf x (f as)) hs ρ=some (.ok (.sh .non),ρ'):=by
  unfold doCall at e ⊢
  cases q:lend pins hs ρ with
  | none=>rw [q] at e; cases e
  | some y =>
   obtain ⟨as,ρ1⟩:=y
   rw [q] at e
   simp only at e ⊢
   cases q2:f as with
   | none=>rw [q2] at e; cases e
   | some y =>
    obtain ⟨o,as'⟩:=y
    rw [q2] at e
    simp only at e
    cases q3:giveBack pins hs as' ρ ρ1 with
    | none=>rw [q3] at e; cases e
    | some ρ2 =>
     rw [q3] at e
     simp only [Option.map_some,Option.some.injEq,Prod.mk.injEq] at e
     obtain ⟨rfl,rfl⟩:=e
     have z:okOf x (some (.ex x,as'))=some (.ok (.sh .non),as'):=if_pos rfl
     rw [z]
     simp only [q3,Option.map_some]
 obtain ⟨as,G2,as',h1,h2,h3,_,h4⟩:=doCall_ok a h e'
 exact ⟨as,G2,as',h1,h2,okOf_inv h3,λH' G' b=>(h4 .non H' G' b (by show Rep K G' .non _; simp [Rep])).1⟩
end
inductive GV where
 | no | con (d:D) | fn (f:String) | blt | cls (ns:List Str) | mth (tb:List (Str × String)) | sub (s n:List Str) | subx (s n:List Str) | exc | exi | exs (cs:List Str)
structure CC where
 N:List Str
 names:List (Str × NameKind)
 gl:Str→GV
 top:Bool
def CC.isGl (Γ:CC) (x:Str):Bool:=Γ.names.lookup x == some .globalImplicit
noncomputable def CC.isVis (Γ:CC) (x:Str):Bool:=Γ.names.lookup x == some .local || Γ.names.lookup x == some .cell || Γ.names.lookup x == some .free
def badName (x:Str):Bool:=x == ("__debug__":Str) || x == ("__classdict__":Str) || x == ("__name__":Str)
def CC.slot (Γ:CC) (x:Str):Option Nat:=if badName x then none else if Γ.isVis x then Γ.N.idxOf? x else none
def CC.glob (Γ:CC) (x:Str):GV:=if badName x then .no else if Γ.isGl x then Γ.gl x else .no
noncomputable def cName (Γ:CC) (x:Str):E :=
 match Γ.slot x with
 | some i=>.var i
 | none=>match Γ.glob x with
  | .con d=>.con d
  | _=>.bad
noncomputable def cConst:Const→E
 | .none=>.con .non
 | .bool b=>.con (.bl b)
 | .int i=>.con (.int i)
 | .str s=>if PyData.strOk s then .con (.str s) else .bad
 | _=>.bad
noncomputable def biOf (f:Str):Option BI :=
 if f=("len":Str) then some .len else if f=("abs":Str) then some .abs else if f=("int":Str) then some .int else if f=("list":Str) then some .list
 else if f=("tuple":Str) then some .tuple else if f=("min":Str) then some .min else if f=("max":Str) then some .max else if f=("all":Str) then some .all else if f=("repr":Str) then some .repr else if f=("str":Str) then some .str else if f=("sorted":Str) then some .sorted else none
noncomputable def tyOf (Γ:CC):Expr→Option Ty
 | .Name x _=>match Γ.glob x with
  | .blt=>if x=("int":Str) then some .int else if x=("bool":Str) then some .bool else if x=("str":Str) then some .str else if x=("list":Str) then some .list else if x=("tuple":Str) then some .tuple else if x=("ValueError":Str) then some .verr else none
  | _=>none
 | _=>none
theorem bno {p:Prop} (h:false=true):p:=nomatch h
theorem ono {α:Type} {a:α} {p:Prop} (h:none=some a):p:=nomatch h
def nameOf:Expr→Option Str
 | .Name x _=>some x
 | _=>none
def noOmit:E→E
 | .omt=>.bad
 | c=>c
def notStar:Expr→Bool
 | .Starred _ _=>false
 | _=>true
def col (x:Str):Str:=⟨#[58] ++ x.cps⟩
def CC.globS (Γ:CC) (x:Str):GV:=if badName x then .no else if Γ.isGl x then Γ.gl (col x) else .no
noncomputable def subXs (Γ:CC):List Expr→Option (List (List Str × List Str))
 | []=>some []
 | .Name x _ :: es=>(match Γ.globS x with
  | .subx s n=>(subXs Γ es).map ((s,n) :: ·)
  | _=>none)
 | _=>none
def cat (x:Str):Str:=⟨#[94] ++ x.cps⟩
def CC.globE (Γ:CC) (x:Str):GV:=if badName x then .no else if Γ.isGl x then Γ.gl (cat x) else .no
noncomputable def subC (Γ:CC) (t:Expr) (a:E):E:=match t with
 | .Name x _=>(match Γ.globS x with
  | .sub s n=>.bad
  | .subx s n=>.isX a [(s,n)]
  | _=>.bad)
 | .Tuple es _ _=>(match subXs Γ es with
  | some sn=>if es.length≤100 then .isX a sn else .bad
  | none=>.bad)
 | _=>.bad
noncomputable def isiC (Γ:CC) (args:List Expr) (cs:List E):E :=
 match args,cs with
 | [_,t],[a,_]=>(match tyOf Γ t with | some ty=>.isi a [ty] | none=>subC Γ t a)
 | _,_=>.bad
def dictC (ks:List (Option Expr)) (vs:List Expr) (cs es:List E):E:=.bad
def dot (m:Str):Str:=⟨#[46] ++ m.cps⟩
def txtC (Γ:CC) (x m:Str) (apos cpos:Pos) (a:Expr):E:=.bad
noncomputable def attC (Γ:CC) (x m:Str) (apos cpos:Pos) (args:List Expr) (cs:List E):E :=
 match Γ.gl (dot m) with
 | .mth tb=>if args.all notStar && (apos.endLine == cpos.line) && decide (args.length<29) then (match Γ.slot x with | some i=>.bad | none=>.bad) else .bad
 | _=>match args,cs with
  | [a],[c]=>if notStar a && (apos.endLine == cpos.line) && (m == ("append":Str)) then (match Γ.slot x with | some i=>.app i c | none=>.bad) else if notStar a && (apos.endLine == cpos.line) && (m == ("extend":Str)) then .bad else if notStar a && (apos.endLine == cpos.line) && (m == ("pop":Str)) then .bad else txtC Γ x m apos cpos a
  | [],[]=>if (apos.endLine == cpos.line) && (m == ("bit_length":Str)) then .bitl (cName Γ x) else .bad
  | [a,b],[c,c']=>if notStar a && notStar b && (apos.endLine == cpos.line) && (m == ("insert":Str)) then (match Γ.slot x with | some i=>.bad | none=>.bad) else .bad
  | _,_=>.bad
noncomputable def methC (Γ:CC) (m:Str) (apos cpos:Pos) (args:List Expr) (a:E) (cs:List E):E :=
 match Γ.gl (dot m) with
 | .mth tb=>if args.all notStar && (apos.endLine == cpos.line) && decide (args.length<29) then .bad else .bad
 | _=>.bad
def lenC (args:List Expr) (cs:List E):E:=.bif .len cs
def setC (cs:List E):E:=.bad
def listC (args:List Expr) (cs:List E):E:=.bif .list cs
noncomputable def bltC (f:Str) (args:List Expr) (cs:List E):E :=
 if f=("len":Str) then lenC args cs else if f=("set":Str) then setC cs else if f=("range":Str) then .bad else if f=("list":Str) then listC args cs else (match biOf f with | some b=>.bif b cs | none=>.bad)
def isLC:Expr→Bool
 | .ListComp _ _ _ _=>true
 | _=>false
noncomputable def notComp:Expr→Bool
 | .ListComp _ _ _ _=>false
 | .SetComp _ _ _ _=>false
 | .DictComp _ _ _ _ _=>false
 | _=>true
def notSlice:Expr→Bool
 | .Slice _ _ _ _=>false
 | _=>true
def notSet:Expr→Bool
 | .Set _ _ _=>false
 | _=>true
def notTup:Expr→Bool
 | .Tuple _ _ _=>false
 | _=>true
noncomputable def CC.isLoc (Γ:CC) (x:Str):Bool:=Γ.names.lookup x == some .local || (Γ.top && Γ.names.lookup x == some .cell)
def CC.slotL (Γ:CC) (x:Str):Option Nat:=if Γ.isLoc x then Γ.slot x else none
def tgName (Γ:CC):Expr→Option Nat
 | .Name x _=>Γ.slotL x
 | _=>none
noncomputable def tgNames (Γ:CC):List Expr→Option (List Nat)
 | []=>some []
 | e :: es=>(tgName Γ e).bind λi=>(tgNames Γ es).map (i :: ·)
noncomputable def tgOf (Γ:CC):Expr→Option (Bool × List Nat)
 | .Name x _=>(Γ.slotL x).map λi=>(true,[i])
 | .Tuple es _ _=>(tgNames Γ es).map λis=>(false,is)
 | _=>none
noncomputable def itOf (Γ:CC):Expr→Option (ItK × List Expr)
 | .Call (.Name f p) args [] pos=>if (f == ("range":Str)) then
   (match Γ.glob f with
   | .blt=>if args.all notStar && (args.length == 1 || args.length == 2) then some (.rng,args) else none
   | _=>none)
  else if (f == ("enumerate":Str)) then
   (match Γ.glob f with
   | .blt=>if args.all notStar && (args.length == 1) then some (.enum 0,args) else none
   | _=>none)
  else some (.of,[.Call (.Name f p) args [] pos])
 | .Call (.Name f p) [a] [⟨some x,.Constant (.int c) j q,kp⟩] pos=>if f == ("enumerate":Str) && x == ("start":Str) && notStar a && c == 1 then
   (match Γ.glob f with
   | .blt=>some (.enum 1,[a])
   | _=>none)
  else none
 | e=>if notSet e then some (.of,[e]) else none
noncomputable def isRev:Expr→Bool
 | .Slice none none (some (.UnaryOp .USub (.Constant (.int i) _ _) _)) _=>i == 1
 | _=>false
def frees (scope:Scope):List Str:=(scope.names.filter λp=>p.2 == NameKind.free).map (·.1)
def locs (scope:Scope):List Str:=(scope.names.filter λp=>p.2 == NameKind.local).map (·.1)
noncomputable def CC.inner (Γ:CC) (scope:Scope):CC :=
 ⟨frees scope ++ locs scope,scope.names.map λ(n,k)=>if (k == NameKind.free && Γ.names.lookup n == some .cell) then (n,NameKind.cell) else (n,k),Γ.gl,false⟩
noncomputable def CC.imps (Γ:CC):List Str→Option (List Nat)
 | []=>some []
 | x :: xs=>(Γ.N.idxOf? x).bind λi=>(Γ.imps xs).map (i :: ·)
noncomputable def CC.scOk (Γ:CC) (scope:Scope):Bool:=(scope.kind == ScopeKind.function) && (scope.names.all λp=>p.2 != NameKind.cell) && (scope.names.all λp=>p.2 != NameKind.local || scope.names.lookup p.1 == some NameKind.local) &&
 (scope.names.all λp=>p.2 != NameKind.free || (scope.names.lookup p.1 == some NameKind.free && (Γ.names.lookup p.1 == some NameKind.cell || Γ.names.lookup p.1 == some NameKind.free))) && decide (frees scope ++ locs scope).Nodup
def itsC (k:ItK) (ci:E) (cargs:List E):List E:=match k with
 | .of=>[ci]
 | _=>cargs
def tgFit (k:ItK) (one:Bool):Bool:=match k with
 | .enum _=>!one
 | _=>true
def sigE (iter:Expr):Bool:=false
noncomputable def compC (Γ:CC) (scope:Scope) (tg iter:Expr) (ci:E) (cargs cond:List E) (ce:E):E :=
 if Γ.scOk scope then
  match Γ.imps (frees scope),tgOf (Γ.inner scope) tg,itOf Γ iter with
  | some imp,some (one,is),some (k,_)=>if sigE iter then (if one == (is.length == 1) then .comp ce is .sig [ci] cond imp (locs scope).length else .bad) else if one == (is.length == 1) && tgFit k one && k != .enum 1 then .comp ce is k (itsC k ci cargs) cond imp (locs scope).length else .bad
  | _,_,_=>.bad
 else .bad
mutual
noncomputable def cE (Γ:CC):Expr→E
 | .Name x _=>cName Γ x
 | .Constant c _ _=>cConst c
 | .Tuple es _ _=>if es.all notStar then .tup (cEs Γ es) else .bad
 | .List es _=>if es.all notStar then .lst (cEs Γ es) else .bad
 | .Dict ks vs _=>dictC ks vs (cOs Γ ks) (cEs Γ vs)
 | .BinOp a op b _=>.bin op (cE Γ a) (cE Γ b)
 | .UnaryOp .Not a _=>.not (cE Γ a)
 | .UnaryOp .USub a _=>.neg (cE Γ a)
 | .Compare a [op] [b] _=>if behindInMarks op b then .bad else .cmp op (cE Γ a) (cE Γ b)
 | .Compare a [op,op'] [b,c] _=>if behindInMarks op' c then .bad else .cmp2 op op' (cE Γ a) (cE Γ b) (cE Γ c)
 | .BoolOp .And (a :: b :: r) _=>.and (cE Γ a) (cAnd Γ (b :: r))
 | .BoolOp .Or (a :: b :: r) _=>.or (cE Γ a) (cOr Γ (b :: r))
 | .IfExp c a b _=>.bad
 | .Subscript a (.Slice lo hi none _) _=>.sl (cE Γ a) (cO Γ lo) (cO Γ hi)
 | .Subscript a i _=>if isRev i then .bad else .ix (cE Γ a) (cE Γ i)
 | .Call (.Name f _) args [] _=>if args.all notStar && decide (args≠[]) then
   match Γ.glob f with
   | .fn g=>.call g (cEs Γ args)
   | .cls ns=>.bad
   | .blt=>if f=("isinstance":Str) then isiC Γ args (cEs Γ args)
     else bltC f args (cEs Γ args)
   | _=>.bad
  else .bad
 | .Call (.Attribute (.Name x _) m apos) args [] cpos=>attC Γ x m apos cpos args (cEs Γ args)
 | .Call (.Attribute (.Call g (a0 :: as0) kw p) m apos) args [] cpos=>methC Γ m apos cpos args (cE Γ (.Call g (a0 :: as0) kw p)) (cEs Γ args)
 | .Attribute (.Name x _) f _=>.bad
 | .ListComp elt [⟨tg,iter,[],0⟩] scope _=>compC Γ scope tg iter (cE Γ iter) (cArgs Γ iter) [] (cE (Γ.inner scope) elt)
 | .ListComp elt [⟨tg,iter,[c],0⟩] scope _=>compC Γ scope tg iter (cE Γ iter) (cArgs Γ iter) [cE (Γ.inner scope) c] (cE (Γ.inner scope) elt)
 | _=>.bad
noncomputable def cArgs (Γ:CC):Expr→List E
 | .Call _ args _ _=>cEs Γ args
 | _=>[]
noncomputable def cEs (Γ:CC):List Expr→List E
 | []=>[]
 | e :: es=>cE Γ e :: cEs Γ es
noncomputable def cOs (Γ:CC):List (Option Expr)→List E
 | []=>[]
 | o :: os=>cO Γ o :: cOs Γ os
noncomputable def cAnd (Γ:CC):List Expr→E
 | []=>.bad
 | [a]=>cE Γ a
 | a :: b :: r=>.and (cE Γ a) (cAnd Γ (b :: r))
noncomputable def cOr (Γ:CC):List Expr→E
 | []=>.bad
 | [a]=>cE Γ a
 | a :: b :: r=>.or (cE Γ a) (cOr Γ (b :: r))
noncomputable def cO (Γ:CC):Option Expr→E
 | none=>.omt
 | some e=>noOmit (cE Γ e)
end
noncomputable def spC (K:PySem.W.Frag) (n:Nat) (run:List Sl→Res RV):Sp:=λvs H Q _=>vs.length=n∧∃ (as:List Sl) (G:Hp) (v:RV) (as':List Sl),Rel K as (vs.map some) H G∧as.length=n∧run as=some (.ok v,as') ∧
 ∀ x H' G',Aft K as (vs.map some) H G as' H' G'→VRep K H' G' (Own as' (vs.map some)) (Fresh H) v x→Q x H'
structure FnAt (X:Cx) (K:PySem.W.Frag) (x:Str) (n:Nat) (run:List Sl→Res RV):Prop where
 ex:∃ (fa:Addr) (fd:FuncData) (ps:List Str) (k:Nat),FnOk X.prog X.w X.K X.mg X.base CX0 k fa fd ps (spC K n run)∧Room k X.A∧X.mg x=some (.ref fa)∧PySem.W.keepIn X.K (.ref fa)=true∧Binds X.K fd ps []
noncomputable def spInit (K:PySem.W.Frag) (ns:List Str):Sp:=λvs H Q _=>∃ a C dx xs,vs=.ref a :: xs∧xs.length=ns.length∧H a=some (.ins C dx [])∧ClsF K C ns∧Q .non (upd H a (.ins C dx (ns.zip xs)))
structure MkAt (X:Cx) (K:PySem.W.Frag) (x:Str) (ns:List Str):Prop where
 ex:∃ (Ca fa:Addr) (fd:FuncData) (ps:List Str),PySem.W.nsIn K mainGlobals x=some (some (.ref Ca))∧X.mg x=some (.ref Ca)∧Mk X.K Ca fa∧ClsF K Ca ns∧FnOk X.prog X.w X.K X.mg X.base CX0 1 fa fd ps (spInit K ns)∧Binds X.K fd ps []
structure MethAt (X:Cx) (K:PySem.W.Frag) (c m:Str) (n:Nat) (run:List Sl→Res RV):Prop where
 ex:∃ (Ca fa:Addr) (fd:FuncData) (ps:List Str) (k:Nat),PySem.W.nsIn K mainGlobals c=some (some (.ref Ca))∧Meth X.K Ca m fa∧FnOk X.prog X.w X.K X.mg X.base CX0 k fa fd ps (spC K n run)∧Room k X.A∧Binds X.K fd ps []∧Cls K Ca
structure NotC (K:PySem.W.Frag) (D C:Addr):Prop where
 a:PySem.W.kin_not K D C=true
 b:PySem.W.plainGet K D "__class__"=true
 c:PySem.W.hasDictIn K D=true
 d:PySem.W.findIn K (.ref D) "__class__"=some (some (.builtin "object.__class__"))
 e:PySem.W.specialIn K (.builtin "object.__class__") "__get__"=some (some (.builtin "getset_descriptor.__get__"))
 f:PySem.W.takesIn K (.builtin "object.__class__")=some true
 g:PySem.W.mroIn K D (.type "object")=some true
structure SubAt (K:PySem.W.Frag) (mg:Str→Option Value) (x:Str) (s n:List Str):Prop where
 ex:∃ C,mg x=some (.ref C)∧(∀ c∈s,∀ Ca,PySem.W.nsIn K mainGlobals c=some (some (.ref Ca))→PySem.W.isIn K (.ref Ca) C=true)∧∀ c∈n,∀ Ca,PySem.W.nsIn K mainGlobals c=some (some (.ref Ca))→NotC K Ca C
noncomputable def spX (K:PySem.W.Frag) (n:Nat) (run:List Sl→Res RV):Sp:=λvs H _ E=>vs.length=n∧∃ (as:List Sl) (G:Hp) (x:Exc) (as':List Sl),Rel K as (vs.map some) H G∧as.length=n∧run as=some (.ex x,as') ∧
 ∀ H' G' C p,Aft K as (vs.map some) H G as' H' G'→PySem.W.nsIn K mainGlobals x.cls=some (some (.ref C))→ExcG K C→Pay K G' C p x.num→E (.ref C) p H'
structure FnAtX (X:Cx) (K:PySem.W.Frag) (x:Str) (n:Nat) (run:List Sl→Res RV):Prop where
 ex:∃ (fa:Addr) (fd:FuncData) (ps:List Str) (k:Nat),FnOk X.prog X.w X.K X.mg X.base (CX1 X.prog X.w) k fa fd ps (spX K n run)∧Room k X.A∧X.mg x=some (.ref fa)∧PySem.W.keepIn X.K (.ref fa)=true∧Binds X.K fd ps []
structure ExcAt (K:PySem.W.Frag) (mg:Str→Option Value) (x:Str):Prop where
 ex:∃ C,PySem.W.nsIn K mainGlobals x=some (some (.ref C))∧mg x=some (.ref C)∧ExcG K C∧ExcP K C none
structure ExiAt (X:Cx) (K:PySem.W.Frag) (x:Str):Prop where
 ex:True
structure ExsAt (K:PySem.W.Frag) (mg:Str→Option Value) (x:Str) (cs:List Str):Prop where
 ex:∃ D,mg x=some (.ref D)∧(∃ i,ExcP K D i)∧∀ c∈cs,∀ C,PySem.W.nsIn K mainGlobals c=some (some (.ref C))→PySem.W.mroIn K C (.ref D)=some true
structure SubX (K:PySem.W.Frag) (mg:Str→Option Value) (x:Str) (s n:List Str):Prop where
 ex:∃ D,mg x=some (.ref D)∧(∀ c∈s,∀ C,PySem.W.nsIn K mainGlobals c=some (some (.ref C))→PySem.W.isIn K (.ref C) D=true)∧∀ c∈n,∀ C,PySem.W.nsIn K mainGlobals c=some (some (.ref C))→PySem.W.kin_not K C D=true
structure XOkB (q:Bool) (X:Cx) (K:PySem.W.Frag) (P:Pins) (C:Calls) (Γ:CC):Prop where
 keq:X.K=K
 neq:X.N=Γ.N
 nm:X.env.scope.names=Γ.names
 nd:Γ.N.Nodup
 con:∀ x d,Γ.gl x=.con d→∃ u v,X.mg x=some u∧RelV v u∧∀ G,Rep K G d v
 blt:∀ x,Γ.gl x=.blt→X.mg x=none
 sub:∀ x s n,Γ.gl (col x)=.sub s n→SubAt K X.mg x s n
 subx:∀ x s n,Γ.gl (col x)=.subx s n→SubX K X.mg x s n
 cond:q=true→X.calm=true∧X.A.handled=none∧X.A.units+64<cLine∧(∀ x f,Γ.gl x=.fn f→FnAt X K x (P f).length (C f))∧(∀ x ns,Γ.gl x=.cls ns→MkAt X K x ns) ∧
  (∀ m tb c f,Γ.gl (dot m)=.mth tb→tb.lookup c=some f→MethAt X K c m (P f).length (C f))∧Room 2 X.A∧((∀ x,Γ.gl x=.exc→ExcAt K X.mg x)∧∀ x,Γ.gl x=.exi→ExiAt X K x)∧(∀ x cs,Γ.gl (cat x)=.exs cs→ExsAt K X.mg x cs)∧(∀ x f,Γ.gl x=.fn f→FnAtX X K x (P f).length (C f))∧∃ env0 outer0 L,X.stack=env0 :: outer0∧env0.frame=some L∧X.env.frame=some L
abbrev XOk (X:Cx) (K:PySem.W.Frag) (P:Pins) (C:Calls) (Γ:CC):Prop:=XOkB true X K P C Γ
section
variable {X:Cx} {K:PySem.W.Frag} {P:Pins} {C:Calls} {Γ:CC}
theorem XOkB.calm (o:XOkB true X K P C Γ):X.calm=true:=(o.cond rfl).1
theorem XOkB.hh (o:XOkB true X K P C Γ):X.A.handled=none:=(o.cond rfl).2.1
theorem XOkB.hu (o:XOkB true X K P C Γ):X.A.units+64<cLine:=(o.cond rfl).2.2.1
theorem XOkB.fn (o:XOkB true X K P C Γ):∀ x f,Γ.gl x=.fn f→FnAt X K x (P f).length (C f):=(o.cond rfl).2.2.2.1
theorem XOkB.cls (o:XOkB true X K P C Γ):∀ x ns,Γ.gl x=.cls ns→MkAt X K x ns:=(o.cond rfl).2.2.2.2.1
theorem XOkB.mth (o:XOkB true X K P C Γ):∀ m tb c f,Γ.gl (dot m)=.mth tb→tb.lookup c=some f→MethAt X K c m (P f).length (C f):=(o.cond rfl).2.2.2.2.2.1
theorem XOkB.rm (o:XOkB true X K P C Γ):Room 2 X.A:=(o.cond rfl).2.2.2.2.2.2.1
theorem XOkB.exc (o:XOkB true X K P C Γ):∀ x,Γ.gl x=.exc→ExcAt K X.mg x:=(o.cond rfl).2.2.2.2.2.2.2.1.1
theorem XOkB.exi (o:XOkB true X K P C Γ):∀ x,Γ.gl x=.exi→ExiAt X K x:=(o.cond rfl).2.2.2.2.2.2.2.1.2
theorem XOkB.exs (o:XOkB true X K P C Γ):∀ x cs,Γ.gl (cat x)=.exs cs→ExsAt K X.mg x cs:=(o.cond rfl).2.2.2.2.2.2.2.2.1
theorem XOkB.fnX (o:XOkB true X K P C Γ):∀ x f,Γ.gl x=.fn f→FnAtX X K x (P f).length (C f):=(o.cond rfl).2.2.2.2.2.2.2.2.2.1
theorem XOkB.tp (o:XOkB true X K P C Γ):∃ env0 outer0 L,X.stack=env0 :: outer0∧env0.frame=some L∧X.env.frame=some L:=(o.cond rfl).2.2.2.2.2.2.2.2.2.2
theorem XOk.of (keq:X.K=K) (neq:X.N=Γ.N) (nm:X.env.scope.names=Γ.names) (nd:Γ.N.Nodup) (calm:X.calm=true) (hh:X.A.handled=none) (hu:X.A.units+64<cLine)
  (con:∀ x d,Γ.gl x=.con d→∃ u v,X.mg x=some u∧RelV v u∧∀ G,Rep K G d v) (blt:∀ x,Γ.gl x=.blt→X.mg x=none) (fn:∀ x f,Γ.gl x=.fn f→FnAt X K x (P f).length (C f)) (cls:∀ x ns,Γ.gl x=.cls ns→MkAt X K x ns)
  (mth:∀ m tb c f,Γ.gl (dot m)=.mth tb→tb.lookup c=some f→MethAt X K c m (P f).length (C f)) (rm:Room 2 X.A) (sub:∀ x s n,Γ.gl (col x)=.sub s n→SubAt K X.mg x s n) (subx:∀ x s n,Γ.gl (col x)=.subx s n→SubX K X.mg x s n)
  (exc:(∀ x,Γ.gl x=.exc→ExcAt K X.mg x)∧∀ x,Γ.gl x=.exi→ExiAt X K x) (exs:∀ x cs,Γ.gl (cat x)=.exs cs→ExsAt K X.mg x cs) (fnX:∀ x f,Γ.gl x=.fn f→FnAtX X K x (P f).length (C f)) (tp:∃ env0 outer0 L,X.stack=env0 :: outer0∧env0.frame=some L∧X.env.frame=some L):XOk X K P C Γ :=
 ⟨keq,neq,nm,nd,con,blt,sub,subx,λ_=>⟨calm,hh,hu,fn,cls,mth,rm,exc,exs,fnX,tp⟩⟩
end
structure Ok3 (X:Cx) (K:PySem.W.Frag) (P:Pins) (C:Calls) (e:Expr) (c:E):Prop where
 v:PE X e (tE K P C c)
 t:PT X e (tT K P C c)
 h:PE X e (tH K P C c)
section
variable {X:Cx} {K:PySem.W.Frag} {P:Pins} {C:Calls} {Γ:CC}
theorem bad_v {e:Expr} {c:E} (h:∀ t ρ,ev P C t c ρ=none) (n:∀ i,c≠.var i):Ok3 X K P C e c:=by
 have v:PE X e (tE K P C c):=λpins s σ H Q I ⟨ρ,G,w,ρ',r,z,k⟩=>by rw [h] at z; cases z
 exact ⟨v,(λpins s σ H Q I ⟨ρ,G,w,ρ',r,z,k⟩=>by rw [h] at z; cases z),tE_tH v n⟩
theorem ok_bad {e:Expr}:Ok3 X K P C e .bad:=bad_v (λt ρ=>rfl) λi z=>nomatch z
theorem mk3 {e:Expr} {c:E} {q:Bool} (xo:XOkB q X K P C Γ) (h:PE X e (tE K P C c)) (n:∀ i,c≠.var i) (hw:∀ ρ,ev P C true c ρ=wrap true (ev P C false c ρ))
  (he:∀ whole,isTrue e X.env whole=(do let v ← whole; standAt e.pos; holding [v] (truthy v))):Ok3 X K P C e c:=⟨h,pt_of xo.keq h hw he,tE_tH h n⟩
theorem idxOf_get {α:Type} [BEq α] [LawfulBEq α] {l:List α} {x:α} {i:Nat} (h:l.idxOf? x=some i):l[i]?=some x:=by
 rw [List.idxOf?,List.findIdx?_eq_some_iff_getElem] at h
 obtain ⟨h1,h2,_⟩:=h
 rw [List.getElem?_eq_getElem h1]
 exact congrArg some (eq_of_beq h2)
theorem CC.slot_ok {q:Bool} (xo:XOkB q X K P C Γ) {x:Str} {i:Nat} (h:Γ.slot x=some i) {pos:Pos}:PE X (.Name x pos) (tVar i):=by
 unfold CC.slot at h
 split at h
 ·cases h
 ·rename_i hb
  split at h
  ·rename_i hv
   simp only [badName,Bool.or_eq_true,not_or,Bool.not_eq_true] at hb
   refine pe_var (by rw [xo.neq]; exact idxOf_get h) ?_ hb.1.1 hb.1.2
   unfold CC.isVis at hv
   simp only [Bool.or_eq_true,beq_iff_eq] at hv
   unfold Vis
   rw [xo.nm]
   rcases hv with (h | h) | h
   ·exact .inl h
   ·exact .inr (.inl h)
   ·exact .inr (.inr h)
  ·cases h
theorem CC.globS_ok {q:Bool} (xo:XOkB q X K P C Γ) {x:Str} {g:GV} (h:Γ.globS x=g) (hg:g≠.no):Gl X x∧Γ.gl (col x)=g∧(x == ("__debug__":Str))=false∧x≠"__name__":=by
 unfold CC.globS at h
 split at h
 ·exact absurd h.symm hg
 ·rename_i hb
  split at h
  ·rename_i hv
   simp only [badName,Bool.or_eq_true,not_or,Bool.not_eq_true] at hb
   refine ⟨?_,h,hb.1.1,λz=>?_⟩
   ·unfold Gl Env.kindOf
    rw [xo.nm]
    unfold CC.isGl at hv
    simpa using hv
   ·have:=hb.2
    rw [z] at this
    simp at this
  ·exact absurd h.symm hg
theorem CC.glob_ok {q:Bool} (xo:XOkB q X K P C Γ) {x:Str} {g:GV} (h:Γ.glob x=g) (hg:g≠.no):Gl X x∧Γ.gl x=g∧(x == ("__debug__":Str))=false∧x≠"__name__":=by
 unfold CC.glob at h
 split at h
 ·exact absurd h.symm hg
 ·rename_i hb
  split at h
  ·rename_i hv
   simp only [badName,Bool.or_eq_true,not_or,Bool.not_eq_true] at hb
   refine ⟨?_,h,hb.1.1,λz=>?_⟩
   ·unfold Gl Env.kindOf
    rw [xo.nm]
    unfold CC.isGl at hv
    simpa using hv
   ·have:=hb.2
    rw [z] at this
    simp at this
  ·exact absurd h.symm hg
theorem ok_con {e:Expr} {d:D} {v:V} {q:Bool} (xo:XOkB q X K P C Γ) (h:PE X e (tC v)) (r:∀ G,Rep K G d v) (he:∀ whole,isTrue e X.env whole=(do let v ← whole; standAt e.pos; holding [v] (truthy v))):Ok3 X K P C e (.con d):=by
 refine mk3 xo (TE.imp_pe h λσ H Q q=>?_) (λi z=>nomatch z) (λρ=>rfl) he
 obtain ⟨ρ,G,w,ρ',r',z,k⟩:=q
 cases z
 exact k v H G (Aft.refl r') (r G)
theorem ok_name {q:Bool} (xo:XOkB q X K P C Γ) (x:Str) (pos:Pos):Ok3 X K P C (.Name x pos) (cName Γ x):=by
 unfold cName
 split
 ·rename_i i hi
  have hp:=CC.slot_ok xo hi (pos:=pos)
  refine ⟨pe_varE hp, ?_,pe_varH hp⟩
  -- a test of a local: looked at
  refine TT.imp_pt (pt_truth hp λ_=>rfl) λσ H Q q=>?_
  obtain ⟨ρ,G,b,ρ',r,e1,k⟩:=q
  obtain ⟨u,b',e2,e3,e4⟩:=wrap_ok e1
  cases e4
  cases w:(ρ[i]?).bind Sl.get with
  | none=>rw [w] at e2; cases e2
  | some d =>
   rw [w] at e2
   simp only [Option.map_some,Option.some.injEq,Prod.mk.injEq,Out.ok.injEq] at e2
   obtain ⟨rfl,rfl⟩:=e2
   obtain ⟨x,hx⟩:=r.bound (i:=i) (by rw [w]; rfl)
   exact ⟨x,hx,b,by rw [xo.keq]; exact truth_ok r.sub (r.get w hx) e3,k H G (Aft.refl r)⟩
 ·split
  ·rename_i d hd
   obtain ⟨h1,h2,h3,h4⟩:=CC.glob_ok xo hd (λz=>nomatch z)
   obtain ⟨u,v,hm,hr,hrep⟩:=xo.con x d h2
   exact ok_con xo (pe_glob h1 hm hr h3) hrep λ_=>rfl
  ·exact ok_bad
theorem ok_const {q:Bool} (xo:XOkB q X K P C Γ) (c:Const) (k:Nat) (pos:Pos):Ok3 X K P C (.Constant c k pos) (cConst c):=by
 cases c with
 | none=>exact ok_con xo pe_non (λG=>by simp [Rep]) λ_=>rfl
 | bool b=>exact ok_con xo pe_bl (λG=>by simp [Rep]) λ_=>rfl
 | int i=>exact ok_con xo pe_int (λG=>by simp [Rep]) λ_=>rfl
 | str s =>
  simp only [cConst]
  split
  ·rename_i h
   exact ok_con xo pe_str (λG=>by simp only [Rep]; exact ⟨trivial,h⟩) λ_=>rfl
  ·exact ok_bad
 | _=>exact ok_bad
theorem star_ok {e:Expr} (h:notStar e=true) (es:List Expr) (env:PySem.Env):starEach (e :: es) env=(false,eval e env) :: starEach es env:=by
 cases e <;> first | rfl | cases h
theorem pa_nilD:PA X [] (tDs K P C []):=by
 refine TA.imp_pa pa_nil λσ H Q q=>?_
 obtain ⟨ρ,G,ds,ρ',r,e,k⟩:=q
 simp only [evs,Option.some.injEq,Prod.mk.injEq,Out.ok.injEq] at e
 obtain ⟨rfl,rfl⟩:=e
 exact k [] H G (Aft.refl r) Reps.nil
theorem pa_consD {e:Expr} {es:List Expr} {c:E} {cs:List E} (h:Ok3 X K P C e c) (t:PA X es (tDs K P C cs)) (ns:notStar e=true):PA X (e :: es) (tDs K P C (c :: cs)):=by
 refine TA.imp_pa (pa_cons h.v t (star_ok ns _ _)) λσ H Q q=>?_
 obtain ⟨ρ,G,ds,ρ',r,e,k⟩:=q
 rw [evs] at e
 obtain ⟨v,ρ1,e1,e2⟩:=bind_ok e
 obtain ⟨ds',ρ2,e3,e4⟩:=bind_ok e2
 cases e4
 refine ⟨ρ,G,v,ρ1,r,e1,λx H1 G1 a1 hx=>?_⟩
 obtain ⟨G1',a1',rx⟩:=a1.share hx
 refine ⟨ρ1,G1',ds',_,a1'.rel,e3,λxs H2 G2 a2 hxs=>?_⟩
 exact k (x :: xs) H2 G2 (a1'.trans a2) (Reps.cons (Rep.mono a2.ext.gg _ rx) hxs)
theorem pa_nilH:PA X [] (tHs K P C []):=by
 refine TA.imp_pa pa_nil λσ H Q q=>?_
 obtain ⟨ρ,G,ds,ρ',r,e,k⟩:=q
 simp only [evHs,Option.some.injEq,Prod.mk.injEq,Out.ok.injEq] at e
 obtain ⟨rfl,rfl⟩:=e
 exact k [] H G (Aft.refl r) rfl
theorem HReps.new_mono {H G:Hp} {own new new':Addr→Prop} {σ:St} (w:∀ a,new a→new' a):∀ {hs:List Hd} {xs:List V},HReps K H G own new σ hs xs→HReps K H G own new' σ hs xs
 | [],_,h=>h
 | h :: hs,_,r=>by
  obtain ⟨x,r',rfl,h1,h2,h3⟩:=r
  exact ⟨x,r',rfl,h1.new_mono w,HReps.new_mono w h2,h3⟩
theorem pa_consH {e:Expr} {es:List Expr} {c:E} {cs:List E} (h:Ok3 X K P C e c) (t:PA X es (tHs K P C cs)) (ns:notStar e=true):PA X (e :: es) (tHs K P C (c :: cs)):=by
 refine TA.imp_pa (pa_cons h.h t (star_ok ns _ _)) λσ H Q q=>?_
 obtain ⟨ρ,G,ds,ρ',r,e,k⟩:=q
 rw [evHs] at e
 obtain ⟨v,ρ1,e1,e2⟩:=bind_ok e
 obtain ⟨ds',ρ2,e3,e4⟩:=bind_ok e2
 cases e4
 refine ⟨ρ,G,v,ρ1,r,e1,λx H1 G1 a1 hx=>⟨ρ1,G1,ds',_,a1.rel,e3,λxs H2 G2 a2 hxs=>?_⟩⟩
 refine k (x :: xs) H2 G2 (a1.trans a2) ⟨x,xs,rfl,hx.wait a2.ext λa z=>.inl (a2.own a z),hxs.new_mono λa z=>a1.ext.hx a z,λd a hd ha ht=>?_⟩
 subst hd
 obtain ⟨b,e5,g,o,n,m⟩:=hx
 rw [ha] at e5; cases e5
 obtain ⟨vs,hv⟩:=o.there
 have:=(hxs.tmp_own ht).2.1
 rw [show H1 a=none from this] at hv
 cases hv
theorem HReps.getAll {H G:Hp} {own new:Addr→Prop} {σ:St} {ρ:Env} (r:Rel K ρ σ H G):∀ {hs:List Hd} {xs:List V} {ds:List D},HReps K H G own new σ hs xs→getAll hs ρ=some ds→RepRs K H G ds xs
 | [],_,_,h,e=>by cases (show _=[] from h); cases e; rfl
 | h :: hs,_,ds,hh,e=>by
  obtain ⟨x,r',rfl,h1,h2,h3⟩:=hh
  simp only [CI.getAll] at e
  cases q:h.get ρ with
  | none=>rw [q] at e; cases e
  | some d =>
   rw [q] at e
   cases q2:CI.getAll hs ρ with
   | none=>rw [q2] at e; cases e
   | some ds' =>
    rw [q2] at e
    cases e
    exact ⟨x,r',rfl,h1.read r q,HReps.getAll r h2 q2⟩
theorem ok_bin (xo:XOk X K P C Γ) {a b:Expr} {ca cb:E} {op:Operator} {pos:Pos} (ha:Ok3 X K P C a ca) (hb:Ok3 X K P C b cb):Ok3 X K P C (.BinOp a op b pos) (.bin op ca cb):=by
 refine mk3 xo (TE.imp_pe (pe_op (bin_ok xo.keq op) ha.h hb.h) λσ H Q q=>?_) (λi z=>nomatch z) (λρ=>rfl) λ_=>rfl
 obtain ⟨ρ,G,v,ρ',r,e,k⟩:=q
 obtain ⟨hx,ρ1,e1,e⟩:=bind_ok e
 obtain ⟨hy,ρ2,e2,e⟩:=bind_ok e
 obtain ⟨e3,rfl⟩:=done_ok e
 refine ⟨ρ,G,hx,ρ1,r,e1,λx H1 G1 a1 rx=>⟨ρ1,G1,hy,ρ',a1.rel,e2,λy H2 G2 a2 ry=>?_⟩⟩
 cases q1:hx.get ρ' with
 | none=>rw [q1] at e3; cases e3
 | some d =>
  cases q2:hy.get ρ' with
  | none=>rw [q1,q2] at e3; cases e3
  | some d2 =>
   rw [q1,q2] at e3
   simp only [Option.bind_some] at e3
   split at e3
   ·rename_i hm
    have rx':=rx.wait a2.ext λa z=>.inl (a2.own a z)
    refine ⟨G2,d,d2,v,a2.rel.sub,rx'.read a2.rel q1,ry.read a2.rel q2,λho ds hd=>?_,e3,λz H3 hm3=>?_⟩
    ·subst ho; subst hd
     cases hx with
     | slot i=>simp [mulOk] at hm
     | val w =>
      cases w with
      | sh _=>simp [mulOk] at hm
      | od _=>simp [mulOk] at hm
      | ow w =>
       simp only [Hd.get,RV.d,Option.some.injEq] at q1
       subst q1
       obtain ⟨c,e5,g,⟨vs,o1,o2⟩,n,m⟩:=rx'
       exact ⟨c,vs,e5,o1,o2⟩
    ·obtain ⟨G3,a3,v3⟩:=(a1.trans a2).made hm3
     exact k z H3 G3 a3 v3
   ·cases e3
theorem ok_neg (xo:XOk X K P C Γ) {a:Expr} {ca:E} {pos:Pos} (ha:Ok3 X K P C a ca):Ok3 X K P C (.UnaryOp .USub a pos) (.neg ca):=by
 refine mk3 xo (TE.imp_pe (pe_un un_neg ha.v) λσ H Q q=>?_) (λi z=>nomatch z) (λρ=>rfl) λ_=>rfl
 obtain ⟨ρ,G,v,ρ',r,e,k⟩:=q
 obtain ⟨w,ρ1,e1,e⟩:=bind_ok e
 split at e
 ·rename_i i hi
  cases e
  refine ⟨ρ,G,w,_,r,e1,λx H1 G1 a1 rx=>?_⟩
  have:=rx.readR
  rw [hi] at this
  cases this.int
  exact ⟨i,rfl,k _ H1 G1 a1 (by show Rep K G1 (.int (-i)) _; simp [Rep])⟩
 ·cases e
theorem pe_notT {a:Expr} {ta:TE} {pos:Pos} (ha:PE X a ta):PE X (.UnaryOp .Not a pos) (λσ H Q=>ta σ H λx H'=>∃ k,TruV X.K x H' k∧Q (.bl (!k)) H'):=by
 intro pins s σ H Q I h
 refine UnaryOp_ (thn (ha pins s σ H _ I h) λv s1 ⟨x,H1,I1,r1,q1⟩=>?_)
 exact not_of (thn (tru_ok pins s1 σ H1 x v (λk H'=>Q (.bl (!k)) H') I1 r1 q1) λb s2 ⟨H2,I2,q2⟩=>⟨.bl (!b),H2,I2,rfl,q2⟩)
theorem ok_not (xo:XOk X K P C Γ) {a:Expr} {ca:E} {pos:Pos} (ha:Ok3 X K P C a ca):Ok3 X K P C (.UnaryOp .Not a pos) (.not ca):=by
 have v:PE X (.UnaryOp .Not a pos) (tE K P C (.not ca)):=by
  refine TE.imp_pe (pe_notT ha.h) λσ H Q q=>?_
  obtain ⟨ρ,G,v,ρ',r,e,k⟩:=q
  obtain ⟨w,ρ1,e1,e⟩:=bind_ok e
  obtain ⟨e2,rfl⟩:=done_ok e
  refine ⟨ρ,G,w,ρ',r,e1,λx H1 G1 a1 rx=>?_⟩
  cases q:w.get ρ' with
  | none=>rw [q] at e2; cases e2
  | some d =>
   rw [q] at e2
   simp only [Option.bind_some] at e2
   cases q2:truthD d with
   | none=>rw [q2] at e2; cases e2
   | some b =>
    rw [q2] at e2
    cases e2
    refine ⟨b, ?_,k _ H1 G1 a1 (by show Rep K G1 (.bl _) _; simp [Rep])⟩
    rw [xo.keq]
    exact truth_ok a1.rel.sub (rx.read a1.rel q) q2
 refine ⟨v, ?_,tE_tH v λi z=>nomatch z⟩
 refine TT.imp_pt (pt_not ha.t) λσ H Q q=>?_
 obtain ⟨ρ,G,b,ρ',r,e,k⟩:=q
 obtain ⟨w,ρ1,e1,e⟩:=bind_ok e
 split at e
 ·rename_i b'
  cases e
  exact ⟨ρ,G,b',_,r,e1,λH1 G1 a1=>k H1 G1 a1⟩
 ·cases e
theorem cmp_core {σ:St} {H G H1 G1 H2 G2:Hp} {ρ ρ1 ρ2:Env} {hx hy:Hd} {x y:V} {op:CmpOp} {b:Bool} (a1:Aft K ρ σ H G ρ1 H1 G1) (rx:HRep K H1 G1 (Own ρ1 σ) (Fresh H) σ hx x) (a2:Aft K ρ1 σ H1 G1 ρ2 H2 G2) (ry:HRep K H2 G2 (Own ρ2 σ) (Fresh H1) σ hy y)
  (e:((hx.get ρ2).bind λd=>(hy.get ρ2).bind λe=>cmpD op d e)=some b) (Q:VK) (q:Q (.bl b) H2):rCmp K op x y H2 Q:=by
 cases q1:hx.get ρ2 with
 | none=>rw [q1] at e; cases e
 | some d =>
  cases q2:hy.get ρ2 with
  | none=>rw [q1,q2] at e; cases e
  | some d2 =>
   rw [q1,q2] at e
   exact ⟨G2,d,d2,b,a2.rel.sub,(rx.wait a2.ext λa z=>.inl (a2.own a z)).read a2.rel q1,ry.read a2.rel q2,e,q⟩
theorem map_bl {o:Option Bool} {v:RV} (e:(o.map λb=>RV.sh (.bl b))=some v):∃ b,o=some b∧v=.sh (.bl b):=by
 cases o with
 | none=>cases e
 | some b=>cases e; exact ⟨b,rfl,rfl⟩
theorem bind2_bl {x y:Option D} {f:D→D→Option Bool} {v:RV} (e:(x.bind λd=>y.bind λe=>(f d e).map λb=>RV.sh (.bl b))=some v):∃ b,(x.bind λd=>y.bind λe=>f d e)=some b∧v=.sh (.bl b):=by
 cases x with
 | none=>cases e
 | some d =>
  cases y with
  | none=>cases e
  | some d2=>exact map_bl e
theorem ok_cmp (xo:XOk X K P C Γ) {a b:Expr} {ca cb:E} {op:CmpOp} {pos:Pos} (ha:Ok3 X K P C a ca) (hb:Ok3 X K P C b cb) (hm:behindInMarks op b=false):Ok3 X K P C (.Compare a [op] [b] pos) (.cmp op ca cb):=by
 have core:∀ σ H (Q:VK),(∃ (ρ:Env) (G:Hp) (b:Bool) (ρ':Env),Rel K ρ σ H G∧ev P C false (.cmp op ca cb) ρ=some (.ok (.sh (.bl b)),ρ')∧∀ H' G',Aft K ρ σ H G ρ' H' G'→Q (.bl b) H') →
   tOp (rCmp K op) (tH K P C ca) (tH K P C cb) σ H Q:=λσ H Q q=>by
  obtain ⟨ρ,G,b,ρ',r,e,k⟩:=q
  obtain ⟨hx,ρ1,e1,e⟩:=bind_ok e
  obtain ⟨hy,ρ2,e2,e⟩:=bind_ok e
  obtain ⟨e3,rfl⟩:=done_ok e
  obtain ⟨b',e4,e5⟩:=bind2_bl e3
  cases e5
  exact ⟨ρ,G,hx,ρ1,r,e1,λx H1 G1 a1 rx=>⟨ρ1,G1,hy,ρ',a1.rel,e2,λy H2 G2 a2 ry=>cmp_core a1 rx a2 ry e4 Q (k H2 G2 (a1.trans a2))⟩⟩
 have v:PE X (.Compare a [op] [b] pos) (tE K P C (.cmp op ca cb)):=by
  refine TE.imp_pe (pe_cmpR (cmp_ok xo.keq xo.hu op) ha.h hb.h hm) λσ H Q q=>core σ H Q ?_
  obtain ⟨ρ,G,v,ρ',r,e,k⟩:=q
  have e0:=e
  obtain ⟨hx,ρ1,e1,e⟩:=bind_ok e
  obtain ⟨hy,ρ2,e2,e⟩:=bind_ok e
  obtain ⟨e3,rfl⟩:=done_ok e
  obtain ⟨b',e4,rfl⟩:=bind2_bl e3
  exact ⟨ρ,G,b',ρ',r,e0,λH' G' a=>k _ H' G' a (by show Rep K G' (.bl _) _; simp [Rep])⟩
 refine ⟨v, ?_,tE_tH v λi z=>nomatch z⟩
 refine TT.imp_pt (pt_cmpR (cmp_ok xo.keq xo.hu op) ha.h hb.h hm) λσ H Q q=>core σ H _ ?_
 obtain ⟨ρ,G,b',ρ',r,e,k⟩:=q
 exact ⟨ρ,G,b',ρ',r,e,λH' G' a=>⟨b',rfl,k H' G' a⟩⟩
theorem ok_cmp2 (xo:XOk X K P C Γ) {a b c:Expr} {ca cb cc:E} {op op':CmpOp} {pos:Pos} (ha:Ok3 X K P C a ca) (hb:Ok3 X K P C b cb) (hc:Ok3 X K P C c cc) (hm:behindInMarks op' c=false):Ok3 X K P C (.Compare a [op,op'] [b,c] pos) (.cmp2 op op' ca cb cc):=by
 have core:∀ σ H (Q:VK),(∃ (ρ:Env) (G:Hp) (b:Bool) (ρ':Env),Rel K ρ σ H G∧ev P C false (.cmp2 op op' ca cb cc) ρ=some (.ok (.sh (.bl b)),ρ')∧∀ H' G',Aft K ρ σ H G ρ' H' G'→Q (.bl b) H') →
   tChain (rCmp K op) (rCmp K op') (tH K P C ca) (tH K P C cb) (tH K P C cc) σ H Q:=λσ H Q q=>by
  obtain ⟨ρ,G,b,ρ',r,e,k⟩:=q
  obtain ⟨hx,ρ1,e1,e⟩:=bind_ok e
  obtain ⟨hy,ρ2,e2,e⟩:=bind_ok e
  refine ⟨ρ,G,hx,ρ1,r,e1,λx H1 G1 a1 rx=>⟨ρ1,G1,hy,ρ2,a1.rel,e2,λy H2 G2 a2 ry=>?_⟩⟩
  split at e
  ·cases e
  ·rename_i e4
   cases e
   refine cmp_core a1 rx a2 ry e4 _ ⟨false,rfl, ?_⟩
   rw [if_neg Bool.false_ne_true]
   exact k H2 G2 (a1.trans a2)
  ·rename_i e4
   obtain ⟨hz,ρ3,e5,e⟩:=bind_ok e
   obtain ⟨e6,rfl⟩:=done_ok e
   obtain ⟨b',e7,e8⟩:=bind2_bl e6
   cases e8
   refine cmp_core a1 rx a2 ry e4 _ ⟨true,rfl, ?_⟩
   rw [if_pos rfl]
   exact ⟨ρ2,G2,hz,ρ',a2.rel,e5,λz H3 G3 a3 rz=>cmp_core (a1.trans a2) (ry.new_mono λa z=>a1.ext.hx a z) a3 rz e7 Q (k H3 G3 ((a1.trans a2).trans a3))⟩
 have hl:lastMarks [op,op'] [b,c]=false:=hm
 have v:PE X (.Compare a [op,op'] [b,c] pos) (tE K P C (.cmp2 op op' ca cb cc)):=by
  refine TE.imp_pe (pe_chain (cmp_ok xo.keq xo.hu op) (cmp_ok xo.keq xo.hu op') ha.h hb.h hc.h hl) λσ H Q q=>core σ H Q ?_
  obtain ⟨ρ,G,v,ρ',r,e,k⟩:=q
  have e0:=e
  have:∃ b,v=.sh (.bl b):=by
   obtain ⟨hx,ρ1,e1,e⟩:=bind_ok e
   obtain ⟨hy,ρ2,e2,e⟩:=bind_ok e
   split at e
   ·cases e
   ·cases e; exact ⟨_,rfl⟩
   ·obtain ⟨hz,ρ3,e5,e⟩:=bind_ok e
    obtain ⟨e6,rfl⟩:=done_ok e
    obtain ⟨b',e7,e8⟩:=bind2_bl e6
    exact ⟨b',e8⟩
  obtain ⟨b',rfl⟩:=this
  exact ⟨ρ,G,b',ρ',r,e0,λH' G' a=>k _ H' G' a (by show Rep K G' (.bl _) _; simp [Rep])⟩
 refine ⟨v, ?_,tE_tH v λi z=>nomatch z⟩
 refine TT.imp_pt (pt_chain (cmp_ok xo.keq xo.hu op) (cmp_ok xo.keq xo.hu op') ha.h hb.h hc.h hl) λσ H Q q=>core σ H _ ?_
 obtain ⟨ρ,G,b',ρ',r,e,k⟩:=q
 exact ⟨ρ,G,b',ρ',r,e,λH' G' a=>⟨b',rfl,k H' G' a⟩⟩
end
section
variable {X:Cx} {K:PySem.W.Frag} {P:Pins} {C:Calls} {Γ:CC}
theorem PW.imp {e:Expr} {t u:TT} (h:PW X e t) (w:∀ σ H Q,u σ H Q→t σ H Q):PW X e u:=λwh pins s σ H Q I q=>h wh pins s σ H Q I (w σ H Q q)
theorem and_v {σ:St} {H:Hp} {Q:VK} {ca cb:E} (q:tE K P C (.and ca cb) σ H Q):tAndV (tE K P C ca) (tE K P C cb) σ H Q:=by
 obtain ⟨ρ,G,v,ρ',r,e,k⟩:=q
 obtain ⟨w,ρ1,e1,e⟩:=bind_ok e
 refine ⟨ρ,G,w,ρ1,r,e1,λx H1 G1 a1 rx=>?_⟩
 split at e
 ·refine ⟨true,rep_bl (K:=K) (G:=G1) rx, ?_⟩
  refine iteT ?_
  exact ⟨ρ1,G1,v,ρ',a1.rel,e,λy H2 G2 a2 ry=>k y H2 G2 (a1.trans a2) (ry.new_mono λa z=>a1.ext.hx a z)⟩
 ·refine ⟨false,rep_bl (K:=K) (G:=G1) rx, ?_⟩
  refine iteF ?_
  cases e
  exact k _ H1 G1 a1 (by show Rep K G1 (.bl _) _; simp [Rep])
 ·cases e
theorem and_t {σ:St} {H:Hp} {Q:Bool→Hp→Prop} {ca cb:E} (q:tT K P C (.and ca cb) σ H Q):tAnd (tT K P C ca) (tT K P C cb) σ H Q:=by
 obtain ⟨ρ,G,b,ρ',r,e,k⟩:=q
 obtain ⟨w,ρ1,e1,e⟩:=bind_ok e
 split at e
 ·refine ⟨ρ,G,true,ρ1,r,e1,λH1 G1 a1=>?_⟩
  refine iteT ?_
  exact ⟨ρ1,G1,b,ρ',a1.rel,e,λH2 G2 a2=>k H2 G2 (a1.trans a2)⟩
 ·refine ⟨ρ,G,false,ρ1,r,e1,λH1 G1 a1=>?_⟩
  refine iteF ?_
  cases e
  exact k H1 G1 a1
 ·cases e
theorem or_v {σ:St} {H:Hp} {Q:VK} {ca cb:E} (q:tE K P C (.or ca cb) σ H Q):tOrV (tE K P C ca) (tE K P C cb) σ H Q:=by
 obtain ⟨ρ,G,v,ρ',r,e,k⟩:=q
 obtain ⟨w,ρ1,e1,e⟩:=bind_ok e
 refine ⟨ρ,G,w,ρ1,r,e1,λx H1 G1 a1 rx=>?_⟩
 split at e
 ·refine ⟨true,rep_bl (K:=K) (G:=G1) rx, ?_⟩
  refine iteT ?_
  cases e
  exact k _ H1 G1 a1 (by show Rep K G1 (.bl _) _; simp [Rep])
 ·refine ⟨false,rep_bl (K:=K) (G:=G1) rx, ?_⟩
  refine iteF ?_
  exact ⟨ρ1,G1,v,ρ',a1.rel,e,λy H2 G2 a2 ry=>k y H2 G2 (a1.trans a2) (ry.new_mono λa z=>a1.ext.hx a z)⟩
 ·cases e
theorem or_t {σ:St} {H:Hp} {Q:Bool→Hp→Prop} {ca cb:E} (q:tT K P C (.or ca cb) σ H Q):tOr (tT K P C ca) (tT K P C cb) σ H Q:=by
 obtain ⟨ρ,G,b,ρ',r,e,k⟩:=q
 obtain ⟨w,ρ1,e1,e⟩:=bind_ok e
 split at e
 ·refine ⟨ρ,G,true,ρ1,r,e1,λH1 G1 a1=>?_⟩
  refine iteT ?_
  cases e
  exact k H1 G1 a1
 ·refine ⟨ρ,G,false,ρ1,r,e1,λH1 G1 a1=>?_⟩
  refine iteF ?_
  exact ⟨ρ1,G1,b,ρ',a1.rel,e,λH2 G2 a2=>k H2 G2 (a1.trans a2)⟩
 ·cases e
structure Ok2 (X:Cx) (K:PySem.W.Frag) (P:Pins) (C:Calls) (op:BoolOp) (vs:List Expr) (c:E):Prop where
 v:∀ pos,PE X (.BoolOp op vs pos) (tE K P C c)
 w:∀ pos,PW X (.BoolOp op vs pos) (tT K P C c)
theorem ok2_and1 {a:Expr} {c:E} (h:Ok3 X K P C a c):Ok2 X K P C .And [a] c:=⟨λ_=>pe_one h.v,λ_=>pw_and1 h.t⟩
theorem ok2_or1 {a:Expr} {c:E} (h:Ok3 X K P C a c):Ok2 X K P C .Or [a] c:=⟨λ_=>pe_one h.v,λ_=>pw_or1 h.t⟩
theorem ok2_and {a b:Expr} {r:List Expr} {ca cb:E} (h:Ok3 X K P C a ca) (t:Ok2 X K P C .And (b :: r) cb):Ok2 X K P C .And (a :: b :: r) (.and ca cb) :=
 ⟨λpos=>TE.imp_pe (pe_and h.v (t.v pos)) λ_ _ _ q=>and_v q,λpos=>PW.imp (pw_and h.t (t.w pos)) λ_ _ _ q=>and_t q⟩
theorem ok2_or {a b:Expr} {r:List Expr} {ca cb:E} (h:Ok3 X K P C a ca) (t:Ok2 X K P C .Or (b :: r) cb):Ok2 X K P C .Or (a :: b :: r) (.or ca cb) :=
 ⟨λpos=>TE.imp_pe (pe_or h.v (t.v pos)) λ_ _ _ q=>or_v q,λpos=>PW.imp (pw_or h.t (t.w pos)) λ_ _ _ q=>or_t q⟩
theorem Ok2.ok3 {op:BoolOp} {vs:List Expr} {c:E} {pos:Pos} (h:Ok2 X K P C op vs c) (n:∀ i,c≠.var i):Ok3 X K P C (.BoolOp op vs pos) c:=⟨h.v pos,(h.w pos).pt,tE_tH (h.v pos) n⟩
theorem ok_tup (xo:XOk X K P C Γ) {es:List Expr} {cs:List E} {k0:Nat} {pos:Pos} (h:PA X es (tDs K P C cs)):Ok3 X K P C (.Tuple es k0 pos) (.tup cs):=by
 refine mk3 xo (TE.imp_pe (pe_tup h) λσ H Q q=>?_) (λi z=>nomatch z) (λρ=>rfl) λ_=>rfl
 obtain ⟨ρ,G,v,ρ',r,e,k⟩:=q
 obtain ⟨ds,ρ1,e1,e⟩:=bind_ok e
 split at e
 ·rename_i hz
  cases e
  refine ⟨ρ,G,ds,_,r,e1,λxs H1 G1 a1 rx=>⟨by rw [rx.len]; exact smallL_ok hz,λp hp=>?_⟩⟩
  obtain ⟨a2,v2⟩:=a1.tup_new hp rx
  exact k _ _ _ a2 v2
 ·cases e
theorem ok_lst {q:Bool} (xo:XOkB q X K P C Γ) {es:List Expr} {cs:List E} {pos:Pos} (h:PA X es (tDs K P C cs)):Ok3 X K P C (.List es pos) (.lst cs):=by
 refine mk3 xo (TE.imp_pe (pe_lst h) λσ H Q q=>?_) (λi z=>nomatch z) (λρ=>rfl) λ_=>rfl
 obtain ⟨ρ,G,v,ρ',r,e,k⟩:=q
 obtain ⟨ds,ρ1,e1,e⟩:=bind_ok e
 split at e
 ·rename_i hz
  cases e
  refine ⟨ρ,G,ds,_,r,e1,λxs H1 G1 a1 rx=>⟨by rw [rx.len]; exact smallL_ok hz,λp hp=>?_⟩⟩
  obtain ⟨a2,v2⟩:=a1.own_new hp rx
  exact k _ _ _ a2 v2
 ·cases e
theorem ok_ix (xo:XOk X K P C Γ) {a b:Expr} {ca cb:E} {pos:Pos} (ha:Ok3 X K P C a ca) (hb:Ok3 X K P C b cb) (hs:PlainIx b):Ok3 X K P C (.Subscript a b pos) (.ix ca cb):=by
 refine mk3 xo (TE.imp_pe (pe_ix (ix_ok xo.keq (by have:=xo.hu; omega)) ha.h hb.v hs) λσ H Q q=>?_) (λi z=>nomatch z) (λρ=>rfl) λ_=>rfl
 obtain ⟨ρ,G,v,ρ',r,e,k⟩:=q
 obtain ⟨hx,ρ1,e1,e⟩:=bind_ok e
 obtain ⟨w,ρ2,e2,e⟩:=bind_ok e
 obtain ⟨e3,rfl⟩:=done_ok e
 refine ⟨ρ,G,hx,ρ1,r,e1,λx H1 G1 a1 rx=>⟨ρ1,G1,w,ρ',a1.rel,e2,λy H2 G2 a2 ry=>?_⟩⟩
 cases q1:hx.get ρ' with
 | none=>rw [q1] at e3; cases e3
 | some d =>
  rw [q1] at e3
  simp only [Option.bind_some] at e3
  cases q2:ixD d w.d with
  | none=>rw [q2] at e3; cases e3
  | some d2 =>
   rw [q2] at e3
   cases e3
   exact ⟨G2,d,w.d,d2,a2.rel.sub,(rx.wait a2.ext λa z=>.inl (a2.own a z)).read a2.rel q1,ry.readR,q2,λz hz=>k z H2 G2 (a1.trans a2) hz⟩
noncomputable def tO (K:PySem.W.Frag) (P:Pins) (C:Calls) (c:E):TO:=λσ H Q=>∃ (ρ:Env) (G:Hp) (o:Option D) (ρ':Env),Rel K ρ σ H G∧part c (ev P C false c ρ) ρ=some (.ok o,ρ')∧∃ i,partD o=some i∧∀ H' G',Aft K ρ σ H G ρ' H' G'→Q i H'
theorem po_noneC:PO X none (tO K P C .omt):=λpins s σ H Q I ⟨ρ,G,o,ρ',r,e,i,e2,k⟩=>by
 simp only [part,isOmit,if_true,Option.some.injEq,Prod.mk.injEq,Out.ok.injEq] at e
 obtain ⟨rfl,rfl⟩:=e
 cases e2
 exact po_none pins s σ H Q I (k H G (Aft.refl r))
theorem po_someC {e:Expr} {c:E} (h:Ok3 X K P C e c):PO X (some e) (tO K P C (noOmit c)):=λpins s σ H Q I ⟨ρ,G,o,ρ',r,e1,i,e2,k⟩=>by
 have key:∀ c',noOmit c=c'→isOmit c'=false→(∀ ρ,ev P C false c' ρ=ev P C false c ρ∨ev P C false c' ρ=none)→wpAny (model X.prog X.w) X.A (evalPart (some e) X.env) (λu s'=>∃ o H',Inv X pins σ H' s'∧IsPart u o∧Q o H') X.xe s:=λc' e0 hno he=>by
  rw [e0] at e1
  simp only [part,hno,Bool.false_eq_true,if_false] at e1
  obtain ⟨w,ρ1,e3,e4⟩:=bind_ok e1
  cases e4
  rcases he ρ with he | he
  ·rw [he] at e3
   refine po_some h.v pins s σ H Q I ⟨ρ,G,w,_,r,e3,λx H1 G1 a1 rx=>?_⟩
   cases q:w.d <;> rw [q] at e2 <;> simp only [partD,reduceCtorEq,Option.some.injEq] at e2
   subst e2
   have:=rx.readR
   rw [q] at this
   exact ⟨_,this.int,k H1 G1 a1⟩
  ·rw [he] at e3; cases e3
 cases c with
 | omt=>exact key .bad rfl rfl λρ=>.inr (rfl)
 | _=>exact key _ rfl rfl λρ=>.inl rfl
theorem ok_sl (xo:XOk X K P C Γ) {a:Expr} {lo hi:Option Expr} {ca cl ch:E} {pos p2:Pos} (ha:Ok3 X K P C a ca) (hl:PO X lo (tO K P C cl)) (hh:PO X hi (tO K P C ch)):Ok3 X K P C (.Subscript a (.Slice lo hi none p2) pos) (.sl ca cl ch):=by
 refine mk3 xo (TE.imp_pe (pe_slice (sl_ok xo.keq) ha.h hl hh) λσ H Q q=>?_) (λi z=>nomatch z) (λρ=>rfl) λ_=>rfl
 obtain ⟨ρ,G,v,ρ',r,e,k⟩:=q
 obtain ⟨hx,ρ1,e1,e⟩:=bind_ok e
 obtain ⟨l,ρ2,e2,e⟩:=bind_ok e
 obtain ⟨h,ρ3,e3,e⟩:=bind_ok e
 obtain ⟨e4,rfl⟩:=done_ok e
 cases q1:hx.get ρ' with
 | none=>rw [q1] at e4; cases e4
 | some d =>
  cases q2:partD l with
  | none=>rw [q1,q2] at e4; cases e4
  | some l' =>
   cases q3:partD h with
   | none=>rw [q1,q2,q3] at e4; cases e4
   | some h' =>
    rw [q1,q2,q3] at e4
    simp only [Option.bind_some] at e4
    refine ⟨ρ,G,hx,ρ1,r,e1,λx H1 G1 a1 rx=>⟨ρ1,G1,l,ρ2,a1.rel,e2,l',q2,λH2 G2 a2=>⟨ρ2,G2,h,ρ',a2.rel,e3,h',q3,λH3 G3 a3=>?_⟩⟩⟩
    have a23:=a2.trans a3
    refine ⟨G3,d,v,a3.rel.sub,(rx.wait a23.ext λa z=>.inl (a23.own a z)).read a3.rel q1,e4,λz H4 hm=>?_⟩
    obtain ⟨G4,a4,v4⟩:=(a1.trans a23).made hm
    exact k z H4 G4 a4 v4
theorem star_any {es:List Expr} (h:es.all notStar=true) (env:PySem.Env) (pos:Pos):(backTo pos (starEach es env)).any (·.1)=false∧(backTo pos (starEach es env)).all (λx=>!x.1)=true:=by
 induction es with
 | nil=>exact ⟨rfl,rfl⟩
 | cons e es ih =>
  rw [List.all_cons,Bool.and_eq_true] at h
  rw [star_ok h.1]
  obtain ⟨i1,i2⟩:=ih h.2
  unfold backTo at *
  refine ⟨?_, ?_⟩
  ·rw [List.map_cons,List.any_cons,i1]; rfl
  ·rw [List.map_cons,List.all_cons,i2]; rfl
theorem ok_call (xo:XOk X K P C Γ) {f:Str} {g:String} {e:Expr} {es:List Expr} {cs:List E} {p pos:Pos} (hf:Γ.glob f=.fn g) (ns:(e :: es).all notStar=true) (ha:PA X (e :: es) (tHs K P C cs)):Ok3 X K P C (.Call (.Name f p) (e :: es) [] pos) (.call g cs):=by
 obtain ⟨h1,h2,h3,h4⟩:=CC.glob_ok xo hf (λz=>nomatch z)
 obtain ⟨fa,fd,ps,k0,F,hr,hm,hk,hb⟩:=(xo.fn f g h2).ex
 rw [List.all_cons,Bool.and_eq_true] at ns
 refine mk3 xo (TE.imp_pe (pe_call F hr h1 hm hk hb .nil pass0 ha h3 (star_ok ns.1 _ _) (star_any ns.2 _ _).1) λσ H Q q=>?_) (λi z=>nomatch z) (λρ=>rfl) λ_=>rfl
 obtain ⟨ρ,G,v,ρ',r,e,k⟩:=q
 obtain ⟨hs,ρ1,e1,e⟩:=bind_ok e
 refine ⟨ρ,G,hs,ρ1,r,e1,λxs H1 G1 a1 rx=>?_⟩
 obtain ⟨as,G2,as',d1,d2,d3,_,d4⟩:=doCall_ok a1 rx e
 rw [List.append_nil]
 refine ⟨?_,as,G2,v,as',d1,d2,d3,λx H' G' a hv=>?_⟩
 ·have:=d1.len
  rw [List.length_map] at this
  omega
 ·obtain ⟨a5,v5⟩:=d4 x H' G' a hv
  exact k x H' G' a5 v5
theorem biOf_ok {f:Str} {b:BI} (h:biOf f=some b):bootBuiltins f=some (biV b):=by
 unfold biOf at h
 repeat (split at h; · (rename_i hf; cases h; subst hf; first | exact PySem.boot_len | decide +kernel | rfl))
 cases h
theorem ok_bif (xo:XOk X K P C Γ) {f:Str} {b:BI} {e:Expr} {es:List Expr} {cs:List E} {p pos:Pos} (hf:Γ.glob f=.blt) (hb:biOf f=some b) (ns:(e :: es).all notStar=true) (ha:PA X (e :: es) (tHs K P C cs)):Ok3 X K P C (.Call (.Name f p) (e :: es) [] pos) (.bif b cs):=by
 obtain ⟨h1,h2,h3,h4⟩:=CC.glob_ok xo hf (λz=>nomatch z)
 have hm:=xo.blt f h2
 have hv:=biOf_ok hb
 rw [List.all_cons,Bool.and_eq_true] at ns
 have hp:PE X (.Call (.Name f p) (e :: es) [] pos) (tCB (rBi K b) (tHs K P C cs)):=by
  have hc:=bi_ok xo.keq xo.calm xo.hh xo.rm b
  cases b <;> first
   | exact pe_callB hc h1 hm hv ha h4 h3 (star_ok ns.1 _ _) (star_any ns.2 _ _).1
   | exact pe_callTy hc h1 hm hv ha h4 h3 (star_ok ns.1 _ _) (star_any ns.2 _ _).1
 refine mk3 xo (TE.imp_pe hp λσ H Q q=>?_) (λi z=>nomatch z) (λρ=>rfl) λ_=>rfl
 obtain ⟨ρ,G,v,ρ',r,e,k⟩:=q
 obtain ⟨hs,ρ1,e1,e⟩:=bind_ok e
 obtain ⟨e2,rfl⟩:=done_ok e
 refine ⟨ρ,G,hs,ρ',r,e1,λxs H1 G1 a1 rx=>?_⟩
 cases q1:getAll hs ρ' with
 | none=>rw [q1] at e2; cases e2
 | some ds =>
  rw [q1] at e2
  refine ⟨G1,ds,v,a1.rel.sub,rx.getAll a1.rel q1,e2,λz H' hm=>?_⟩
  obtain ⟨G2,a2,v2⟩:=a1.made hm
  exact k z H' G2 a2 v2
end
section
variable {X:Cx} {K:PySem.W.Frag} {P:Pins} {C:Calls} {Γ:CC}
theorem isOw_ok {ρ:Env} {i:Nat} (h:isOw ρ i=true):∃ ds p l,ρ[i]?=some (.ow (.lst ds) p l):=by
 unfold isOw at h
 split at h
 ·rename_i d p l e; exact ⟨d,p,l,e⟩
 ·cases h
theorem Rel.writeO {ρ:Env} {σ:St} {H G:Hp} (r:Rel K ρ σ H G) {i:Nat} {d:D} {p l:Bool} {a:Addr} {d':D} {ob:HO} (h:ρ[i]?=some (.ow d p l)) (hx:σ[i]?=some (some (.ref a))) (hr:OwRep K (upd H a ob) G a d') :
  Aft K ρ σ H G (ρ.set i (.ow d' p l)) (upd H a ob) G:=by
 obtain ⟨b,h1,g,o⟩:=r.ow i d p l h
 rw [hx] at h1; cases h1
 have hn:H a≠none:=(r.owned ⟨i,d,p,l,h,hx⟩).1
 have r0:Rel K (ρ.set i .un) σ (upd H a ob) G:=by
  have ru:=r.unset i
  have nu:=r.unset_not h hx
  refine ⟨ru.len,λb u e=>?_,ru.sh,λj d' p' l' hj=>?_,ru.inj⟩
  ·have:b≠a:=λz=>by subst z; rw [g] at e; cases e
   rw [upd_ne this]; exact ru.sub b u e
  ·obtain ⟨b,h3,h4,h5⟩:=ru.ow j d' p' l' hj
   have hb:b≠a:=λz=>by subst z; exact nu ⟨j,d',p',l',hj,h3⟩
   exact ⟨b,h3,h4,h5.mono (Sm.refl _) λ_ z=>by rw [upd_ne hb]; exact z⟩
 refine ⟨r0.put_ow hx g hr (r.unset_not h hx),⟨Sm.refl _,λb u e nb=>?_,λb e=>?_,λb e g' _=>g'⟩,Evo.set (by rw [h]; exact ⟨rfl,rfl⟩)⟩
 ·have:b≠a:=λz=>by subst z; exact nb ⟨i,d,p,l,h,hx⟩
  rw [upd_ne this]; exact e
 ·by_cases hb:b=a
  ·subst hb; rw [upd_same] at e; cases e
  ·rwa [upd_ne hb] at e
theorem Rel.write {ρ:Env} {σ:St} {H G:Hp} (r:Rel K ρ σ H G) {i:Nat} {d:D} {p l:Bool} {a:Addr} {ds:List D} {vs:List V} (h:ρ[i]?=some (.ow d p l)) (hx:σ[i]?=some (some (.ref a))) (hr:Reps K G ds vs) :
  Aft K ρ σ H G (ρ.set i (.ow (.lst ds) p l)) (upd H a (.lst vs)) G:=r.writeO h hx ⟨vs,upd_same,hr⟩
theorem ok_app (xo:XOk X K P C Γ) {x:Str} {i:Nat} {a:Expr} {ca:E} {p apos cpos:Pos} (hi:Γ.slot x=some i) (hl:(apos.endLine == cpos.line)=true) (ns:notStar a=true) (ha:Ok3 X K P C a ca) :
  Ok3 X K P C (.Call (.Attribute (.Name x p) ("append":Str) apos) [a] [] cpos) (.app i ca):=by
 have hp:PE X (.Name x p) (tVar i):=CC.slot_ok xo hi
 have hpa:PA X [a] (tCons (tE K P C ca) tNil):=pa_cons ha.v pa_nil (star_ok ns _ _)
 have hall:[a].all notStar=true:=by rw [List.all_cons,ns]; rfl
 refine mk3 xo (TE.imp_pe (pe_bm PySem.F.plainAttrs_list PySem.F.slot_list_append PySem.F.type_list_append mt_append hp hpa rfl (by
   rw [Bool.and_eq_true,Bool.and_eq_true]; exact ⟨⟨(star_any hall _ _).2,rfl⟩,rfl⟩) hl (star_ok ns _ _) rfl) λσ H Q q=>?_) (λi z=>nomatch z) (λρ=>rfl) λ_=>rfl
 obtain ⟨ρ,G,v,ρ',r,e,k⟩:=q
 replace e:(if isOw ρ i then _ else none)=_:=e
 split at e
 ·rename_i ho
  obtain ⟨d0,p0,l0,h0⟩:=isOw_ok ho
  obtain ⟨b,hb,g0,o0⟩:=r.ow i _ p0 l0 h0
  obtain ⟨w,ρ1,e1,e⟩:=bind_ok e
  refine ⟨.ref b,hb,.inl ⟨rfl, ?_⟩,ρ,G,w,ρ1,r,e1,λy H1 G1 a1 ry=>?_⟩
  ·obtain ⟨vs,hv,_⟩:=o0
   exact ⟨vs,SqL.of hv⟩
  ·split at e
   ·rename_i ds p1 h1
    split at e
    ·rename_i hz
     cases e
     obtain ⟨G2,a2,r2⟩:=a1.share ry
     obtain ⟨b',hb',g1,vs,hv,hr⟩:=a2.rel.ow i _ _ _ h1
     rw [hb] at hb'; cases hb'
     have:=hr.len
     refine ⟨b,vs,y,rfl,rfl,hv, ?_, ?_⟩
     ·have:=smallL_ok hz
      omega
     ·have a3:=a2.rel.write h1 hb (hr.app (Reps.cons r2 Reps.nil))
      exact k _ _ _ (a2.trans a3) (by show Rep K G2 .non _; simp [Rep])
    ·cases e
   ·cases e
 ·cases e
theorem upd_upd {H:Hp} {p:Addr} {a b:HO}:upd (upd H p a) p b=upd H p b:=by
 funext q
 by_cases h:q=p
 ·subst h; rw [upd_same,upd_same]
 ·rw [upd_ne h,upd_ne h,upd_ne h]
theorem Rel.poke {ρ:Env} {σ:St} {H G:Hp} (r:Rel K ρ σ H G) {a:Addr} {o:HO} (g:G a=none) (n:¬ Own ρ σ a):Rel K ρ σ (upd H a o) G:=by
 refine ⟨r.len,λb u e=>?_,r.sh,λj d' p' l' hj=>?_,r.inj⟩
 ·have:b≠a:=λz=>by subst z; rw [g] at e; cases e
  rw [upd_ne this]; exact r.sub b u e
 ·obtain ⟨b,h3,h4,h5⟩:=r.ow j d' p' l' hj
  have hb:b≠a:=λz=>by subst z; exact n ⟨j,d',p',l',hj,h3⟩
  exact ⟨b,h3,h4,h5.mono (Sm.refl _) λ_ z=>by rw [upd_ne hb]; exact z⟩
theorem Aft.poke {ρ ρ':Env} {σ:St} {H G H' G':Hp} (b:Aft K ρ σ H G ρ' H' G') {a:Addr} {o:HO} (h:H a=none) (g:G' a=none) (n:¬ Own ρ' σ a):Aft K ρ σ H G ρ' (upd H' a o) G':=by
 refine ⟨b.rel.poke g n,⟨b.ext.gg,λc u e nc=>?_,λc e=>?_,b.ext.gn⟩,b.evo⟩
 ·have:c≠a:=λz=>by subst z; rw [h] at e; cases e
  rw [upd_ne this]; exact b.ext.hh c u e nc
 ·by_cases hc:c=a
  ·subst hc; rw [upd_same] at e; cases e
  ·rw [upd_ne hc] at e; exact b.ext.hx c e
theorem tyOf_ok {q:Bool} (xo:XOkB q X K P C Γ) {t:Expr} {ty:Ty} (h:tyOf Γ t=some ty):PE X t (tC (tyV1 ty))∧notStar t=true:=by
 cases t <;> simp only [tyOf,reduceCtorEq] at h
 rename_i x pos
 split at h
 ·rename_i hg
  obtain ⟨h1,h2,h3,h4⟩:=CC.glob_ok xo hg (λz=>nomatch z)
  have hm:=xo.blt x h2
  refine ⟨?_,rfl⟩
  split at h
  ·rename_i hx; cases h; subst hx; exact pe_bltn h1 hm (u:=.type "int") (by decide +kernel) rfl
  ·split at h
   ·rename_i hx; cases h; subst hx; exact pe_bltn h1 hm (u:=.type "bool") (by decide +kernel) rfl
   ·split at h
    ·rename_i hx; cases h; subst hx; exact pe_bltn h1 hm (u:=.type "str") (by decide +kernel) rfl
    ·split at h
     ·rename_i hx; cases h; subst hx; exact pe_bltn h1 hm (u:=.type "list") (by decide +kernel) rfl
     ·split at h
      ·rename_i hx; cases h; subst hx; exact pe_bltn h1 hm (u:=.type "tuple") (by decide +kernel) rfl
      ·split at h
       ·rename_i hx; cases h; subst hx; exact pe_bltn h1 hm (u:=.type "ValueError") (by decide +kernel) rfl
       ·cases h
 ·cases h
theorem ok_isi {q:Bool} (xo:XOkB q X K P C Γ) {a t:Expr} {ca:E} {ty:Ty} {p pos:Pos} (hf:Γ.glob ("isinstance":Str)=.blt) (ht:tyOf Γ t=some ty) (ns:notStar a=true) (ha:Ok3 X K P C a ca) :
  Ok3 X K P C (.Call (.Name ("isinstance":Str) p) [a,t] [] pos) (.isi ca [ty]):=by
 obtain ⟨h1,h2,h3,h4⟩:=CC.glob_ok xo hf (λz=>nomatch z)
 have hm:=xo.blt _ h2
 obtain ⟨pt,nt⟩:=tyOf_ok xo ht
 have hpa:PA X [a,t] (tCons (tH K P C ca) (tCons (tC (tyV1 ty)) tNil)):=pa_cons ha.h (pa_cons pt pa_nil (star_ok nt _ _)) (star_ok ns _ _)
 have hall:[t].all notStar=true:=by rw [List.all_cons,nt]; rfl
 have hp:=pe_callB (p:=p) (pos:=pos) (isi_ok xo.keq ty) h1 hm (by decide +kernel) hpa h4 h3 (star_ok ns _ _) (star_any hall _ _).1
 refine mk3 xo (TE.imp_pe hp λσ H Q q=>?_) (λi z=>nomatch z) (λρ=>rfl) λ_=>rfl
 obtain ⟨ρ,G,v,ρ',r,e,k⟩:=q
 obtain ⟨hx,ρ1,e1,e⟩:=bind_ok e
 obtain ⟨e2,rfl⟩:=done_ok e
 refine ⟨ρ,G,hx,ρ',r,e1,λx H1 G1 a1 rx=>?_⟩
 cases q1:hx.get ρ' with
 | none=>rw [q1] at e2; cases e2
 | some d =>
  rw [q1] at e2
  simp only [Option.bind_some,isTys] at e2
  cases q2:isTy ty d with
  | none=>rw [q2] at e2; cases e2
  | some b =>
   rw [q2] at e2
   simp only [Option.bind_some,Option.map_some,Bool.or_false,Option.some.injEq] at e2
   subst e2
   exact ⟨G1,d,x,b,a1.rel.sub,rfl,rx.read a1.rel q1,q2,k _ H1 G1 a1 (by show Rep K G1 (.bl _) _; simp [Rep])⟩
theorem plainIx_of {b:Expr} (h:∀ lo hi p,b≠.Slice lo hi none p):PlainIx b:=λo i=>by
 cases b <;> first
  | rfl
  | (rename_i lo hi st p; cases st with
    | none=>exact absurd rfl (h lo hi p)
    | some s=>rfl)
end
section
variable {X:Cx} {K:PySem.W.Frag} {P:Pins} {C:Calls} {Γ:CC}
theorem ok_bitl (xo:XOk X K P C Γ) {x:Str} {p apos cpos:Pos} (hl:(apos.endLine == cpos.line)=true):Ok3 X K P C (.Call (.Attribute (.Name x p) "bit_length" apos) [] [] cpos) (.bitl (cName Γ x)):=by
 have ha:=ok_name xo x p
 refine mk3 xo (TE.imp_pe (pe_bm0 PySem.F.plainAttrs_int slot_int_bit_length type_int_bit_length mt_bits ha.h rfl hl) λσ H Q q=>?_) (λi z=>nomatch z) (λρ=>rfl) λ_=>rfl
 obtain ⟨ρ,G,v,ρ',r,e,k⟩:=q
 obtain ⟨hx,ρ1,e1,e⟩:=bind_ok e
 obtain ⟨e3,rfl⟩:=done_ok e
 refine ⟨ρ,G,hx,ρ',r,e1,λx H1 G1 a1 rx=>?_⟩
 cases q1:hx.get ρ' with
 | none=>rw [q1] at e3; cases e3
 | some d =>
  rw [q1] at e3
  simp only [Option.bind_some] at e3
  cases d <;> simp only [bitD,reduceCtorEq] at e3
  cases e3
  cases (rx.read a1.rel q1).int
  exact ⟨rfl,_,rfl,rfl,k _ H1 G1 a1 (by show Rep K G1 (.int _) _; simp [Rep])⟩
theorem RepR.ins {H G:Hp} {c:Str} {ns:List Str} {ds:List D} {x:V} (h:RepR K H G (.ins c ns ds) x):Rep K G (.ins c ns ds) x:=by
 rcases h with h | ⟨a,rfl,h⟩
 ·exact h
 ·exact h.elim
theorem call_isX (hK:X.K=K):CallR X (.builtin "isinstance") (λxs H Q=>∃ a Ca Da b,xs=[.ref a,.ref Da]∧(∃ pp,H a=some (.ext (ExcO a Ca pp)))∧ExcG K Ca∧PySem.W.kitOne K (.ref Ca) (.ref Da)=some b∧Q (.bl b) H):=by
 intro pins s σ H xs us Q I r h
 obtain ⟨a,Ca,Da,b,rfl,⟨pp,ha⟩,g,e,q⟩:=h
 subst hK
 obtain ⟨u,w,rfl,ru,rw'⟩:=vals2 r
 cases ru
 cases rw'
 exact PySem.W.kia_one (kitx_exc g) I.kIn (I.hok a _ ha).1 e (λz=>nomatch z) λtk=>⟨.bl b,H,I.tok tk,rfl,q⟩
theorem vals_refs:∀ {Ds:List Addr} {us:List Value},Vals (Ds.map V.ref) us→us=Ds.map Value.ref
 | [],_,.nil=>rfl
 | _ :: _,_,.cons r t=>by rw [List.map_cons,← vals_refs t]; cases (show _=_ from r); rfl
theorem call_isXt (hK:X.K=K):CallR X (.builtin "isinstance") (λxs H Q=>∃ (a Ca p:Addr) (Ds:List Addr) (b:Bool),xs=[.ref a,.ref p]∧(∃ pp,H a=some (.ext (ExcO a Ca pp)))∧ExcG K Ca∧H p=some (.tup (Ds.map V.ref))∧PySem.W.kitAny K (.ref Ca) (Ds.map Value.ref)=some b∧Q (.bl b) H):=by
 intro pins s σ H xs us Q I r h
 obtain ⟨a,Ca,p,Ds,b,rfl,⟨pp,ha⟩,g,hp,e,q⟩:=h
 subst hK
 obtain ⟨u,w,rfl,ru,rw'⟩:=vals2 r
 cases ru
 cases rw'
 obtain ⟨_,its,rv,⟨oc,od,oda,osl⟩,h4,h5,n,h6⟩:=I.hok p _ hp
 cases (show oc=_ from h5)
 cases (show oda=_ from h6)
 obtain rfl:=vals_refs rv
 exact PySem.W.kia_tup (kitx_exc g) I.kIn (I.hok a _ ha).1 h4 e (λz=>nomatch z) λtk=>⟨.bl b,H,I.tok tk,rfl,q⟩
inductive XDs (K:PySem.W.Frag):List (List Str × List Str)→List Addr→Prop
 | nil:XDs K [] []
 | cons {s n:List Str} {D:Addr} {sn:List (List Str × List Str)} {Ds:List Addr} (hs:∀ c∈s,∀ C,PySem.W.nsIn K mainGlobals c=some (some (.ref C))→PySem.W.isIn K (.ref C) D=true)
   (hn:∀ c∈n,∀ C,PySem.W.nsIn K mainGlobals c=some (some (.ref C))→PySem.W.kin_not K C D=true) (t:XDs K sn Ds):XDs K ((s,n) :: sn) (D :: Ds)
theorem xds_any {c:Str} {Ca:Addr} (hc:PySem.W.nsIn K mainGlobals c=some (some (.ref Ca))):∀ {sn:List (List Str × List Str)} {Ds:List Addr} {b:Bool},XDs K sn Ds→isXs c sn=some b→PySem.W.kitAny K (.ref Ca) (Ds.map Value.ref)=some b
 | _,_,b,.nil,e=>by cases e; rfl
 | _,_,b,.cons (s:=s) (n:=n) (D:=D) hs hn t,e=>by
  simp only [isXs] at e
  rw [List.map_cons]
  unfold PySem.W.kitAny
  split at e
  ·rename_i h1
   cases e
   rw [kit_is (hs c (by simpa using h1) Ca hc)]
  ·split at e
   ·rename_i h2
    rw [kit_not (hn c (by simpa using h2) Ca hc)]
    exact xds_any hc t e
   ·cases e
theorem pa_subXs {q:Bool} (xo:XOkB q X K P C Γ):∀ {es:List Expr} {sn:List (List Str × List Str)},subXs Γ es=some sn→∃ Ds,XDs K sn Ds∧PA X es (λσ H Q=>Q (Ds.map V.ref) H)∧Ds.length=es.length
 | [],_,h=>by
  simp only [subXs,Option.some.injEq] at h
  subst h
  exact ⟨[],.nil,pa_nil,rfl⟩
 | e :: es,sn,h=>by
  unfold subXs at h
  split at h
  ·cases h; simp_all
  ·rename_i x p es' heq
   cases heq
   split at h
   ·rename_i s n hx
    cases q:subXs Γ es with
    | none=>rw [q] at h; cases h
    | some sn' =>
     rw [q] at h
     cases h
     obtain ⟨Ds,h1,h2,h3⟩:=pa_subXs xo q
     obtain ⟨x1,x2,x3,x4⟩:=CC.globS_ok xo hx (λz=>nomatch z)
     obtain ⟨D,d1,d2,d3⟩:=(xo.subx x s n x2).ex
     exact ⟨D :: Ds,.cons d2 d3 h1,TA.imp_pa (pa_cons (pe_glob x1 d1 (v:=.ref D) rfl x3) h2 rfl) λσ H Q q=>q,by rw [List.length_cons,List.length_cons,h3]⟩
   ·cases h
  ·cases h
theorem isX_fin {qq:Bool} (xo:XOkB qq X K P C Γ) {sn:List (List Str × List Str)} {ca:E} {σ:St} {H:Hp} {Q:VK} (q:tE K P C (.isX ca sn) σ H Q):tH K P C ca σ H λx H1=>∃ a Ca b G1,x=.ref a∧Same G1 H1∧(∃ pp,H1 a=some (.ext (ExcO a Ca pp)))∧ExcG K Ca∧(∀ {Ds:List Addr},XDs K sn Ds→PySem.W.kitAny K (.ref Ca) (Ds.map Value.ref)=some b)∧Q (.bl b) H1∧∀ p o,H1 p=none→Q (.bl b) (upd H1 p o):=by
 obtain ⟨ρ,G,v,ρ',r,e,k⟩:=q
 obtain ⟨hx,ρ1,e1,e⟩:=bind_ok e
 obtain ⟨e2,rfl⟩:=done_ok e
 refine ⟨ρ,G,hx,ρ',r,e1,λy H1 G1 a1 rx=>?_⟩
 cases q1:hx.get ρ' with
 | none=>rw [q1] at e2; cases e2
 | some d =>
  rw [q1] at e2
  simp only [Option.bind_some] at e2
  cases d <;> simp only [isXD,reduceCtorEq] at e2
  rename_i c _
  cases q2:isXs c sn with
  | none=>rw [q2] at e2; cases e2
  | some b =>
   rw [q2] at e2
   cases e2
   obtain ⟨a,Ca,pp,rfl,g1,g2,g3,_⟩:=(rx.read a1.rel q1).exn a1.rel.sub
   exact ⟨a,Ca,b,G1,rfl,a1.rel.sub,⟨pp,g3⟩,g2,λt=>xds_any g1 t q2,k _ H1 G1 a1 (by show Rep K G1 (.bl b) _; simp [Rep]),λp o hp=>k _ _ G1 (a1.layH hp) (by show Rep K G1 (.bl b) _; simp [Rep])⟩
theorem ok_isC {q:Bool} (xo:XOkB q X K P C Γ) {a t:Expr} {ca:E} {p pos:Pos} (hf:Γ.glob ("isinstance":Str)=.blt) (ns:notStar a=true) (ha:Ok3 X K P C a ca):Ok3 X K P C (.Call (.Name ("isinstance":Str) p) [a,t] [] pos) (subC Γ t ca):=by
 unfold subC
 split
 ·rename_i x p2
  split
  ·rename_i s n hx
   exact ok_bad
  ·rename_i s n hx
   obtain ⟨h1,h2,h3,h4⟩:=CC.glob_ok xo hf (λz=>nomatch z)
   have hm:=xo.blt _ h2
   obtain ⟨x1,x2,x3,x4⟩:=CC.globS_ok xo hx (λz=>nomatch z)
   obtain ⟨Da,d1,d2,d3⟩:=(xo.subx x s n x2).ex
   have hpa:PA X [a,.Name x p2] (tCons (tH K P C ca) (tCons (tC (.ref Da)) tNil)):=pa_cons ha.h (pa_cons (pe_glob x1 d1 rfl x3) pa_nil rfl) (star_ok ns _ _)
   have hp:=pe_callB (p:=p) (pos:=pos) (call_isX xo.keq) h1 hm (by decide +kernel) hpa h4 h3 (star_ok ns _ _) rfl
   refine mk3 xo (TE.imp_pe hp λσ H Q q=>?_) (λi z=>nomatch z) (λρ=>rfl) λ_=>rfl
   obtain ⟨ρ,G,hd',ρ',r,e1,k⟩:=isX_fin xo q
   refine ⟨ρ,G,hd',ρ',r,e1,λy H1 G1 a1 rx=>?_⟩
   obtain ⟨a',Ca,b,G2,rfl,_,g3,g2,ky,q1,_⟩:=k y H1 G1 a1 rx
   refine ⟨a',Ca,Da,b,rfl,g3,g2, ?_,q1⟩
   have z:=ky (.cons d2 d3 .nil)
   simp only [List.map_cons,List.map_nil,PySem.W.kitAny] at z
   split at z
   ·rename_i z1; rw [z1]; exact z
   ·rename_i z1; rw [z1]; exact z
   ·cases z
  ·exact ok_bad
 ·rename_i es k0 p2
  split
  ·rename_i sn hsn
   split
   case isFalse=>exact ok_bad
   rename_i hle
   obtain ⟨h1,h2,h3,h4⟩:=CC.glob_ok xo hf (λz=>nomatch z)
   have hm:=xo.blt _ h2
   obtain ⟨Ds,x1,x2,x3⟩:=pa_subXs xo hsn
   have hpa:PA X [a,.Tuple es k0 p2] (tCons (tH K P C ca) (tCons (tTup λσ H Q=>Q (Ds.map V.ref) H) tNil)):=pa_cons ha.h (pa_cons (pe_tup x2) pa_nil rfl) (star_ok ns _ _)
   have hp:=pe_callB (p:=p) (pos:=pos) (call_isXt xo.keq) h1 hm (by decide +kernel) hpa h4 h3 (star_ok ns _ _) rfl
   refine mk3 xo (TE.imp_pe hp λσ H Q q=>?_) (λi z=>nomatch z) (λρ=>rfl) λ_=>rfl
   obtain ⟨ρ,G,hd',ρ',r,e1,k⟩:=isX_fin xo q
   refine ⟨ρ,G,hd',ρ',r,e1,λy H1 G1 a1 rx=>?_⟩
   obtain ⟨a',Ca,b,G2,rfl,_,⟨pp,g3⟩,g2,ky,_,q2⟩:=k y H1 G1 a1 rx
   refine ⟨?_,λt ht=>?_⟩
   ·rw [List.length_map,x3,sizeLine_eq]; omega
   ·refine ⟨a',Ca,t,Ds,b,rfl,⟨pp,by rw [upd_ne (ne_of_none g3 ht)]; exact g3⟩,g2,upd_same,ky x1,q2 t _ ht⟩
  ·exact ok_bad
 ·exact ok_bad
end
structure AftS (K:PySem.W.Frag) (ρ:Env) (σ:St) (H G:Hp) (ρ':Env) (σ':St) (H' G':Hp):Prop where
 rel:Rel K ρ' σ' H' G'
 ext:Ext (Own ρ σ) H G H' G'
 own:∀ a,Own ρ' σ' a→Own ρ σ a∨H a=none
 un:∀ i:Nat,ρ'[i]?=some .un→ρ[i]?=some .un∧σ'[i]?=σ[i]?
 pin:∀ (i:Nat) d l,ρ[i]?=some (.ow d true l)→σ'[i]?=σ[i]?∧∃ d',ρ'[i]?=some (.ow d' true l)
 len:ρ'.length=ρ.length
section
variable {K:PySem.W.Frag} {ρ ρ' ρ1 ρ2:Env} {σ σ' σ1 σ2:St} {H G H' G' H1 G1 H2 G2:Hp}
theorem AftS.refl (r:Rel K ρ σ H G):AftS K ρ σ H G ρ σ H G:=⟨r,Ext.refl,λ_ h=>.inl h,λ_ h=>⟨h,rfl⟩,λ_ d _ h=>⟨rfl,d,h⟩,rfl⟩
theorem Aft.s (r:Rel K ρ σ H G) (a:Aft K ρ σ H G ρ' H' G'):AftS K ρ σ H G ρ' σ H' G':=by
 refine ⟨a.rel,a.ext,λx h=>.inl (a.own x h),λi h=>⟨?_,rfl⟩,λi d l h=>⟨rfl, ?_⟩, ?_⟩
 ·have:=a.evo i
  rw [h] at this
  cases e:ρ[i]? with
  | none=>rw [e] at this; exact this.elim
  | some s=>rw [e] at this; cases s <;> first | rfl | exact this.elim
 ·have:=a.evo i
  rw [h] at this
  cases e:ρ'[i]? with
  | none=>rw [e] at this; exact this.elim
  | some s =>
   rw [e] at this
   cases s with
   | ow d' p' l'=>obtain ⟨rfl,rfl⟩:=this; exact ⟨d',rfl⟩
   | sh d'=>exact absurd (show true=false from this) (by simp)
   | _=>exact this.elim
 ·rw [a.rel.len,r.len]
theorem AftS.trans (a:AftS K ρ σ H G ρ1 σ1 H1 G1) (b:AftS K ρ1 σ1 H1 G1 ρ2 σ2 H2 G2):AftS K ρ σ H G ρ2 σ2 H2 G2:=by
 refine ⟨b.rel,a.ext.trans a.own b.ext,λx h=>?_,λi h=>?_,λi d l h=>?_,b.len.trans a.len⟩
 ·rcases b.own x h with z | z
  ·exact a.own x z
  ·exact .inr (a.ext.hx x z)
 ·obtain ⟨h1,h2⟩:=b.un i h
  obtain ⟨h3,h4⟩:=a.un i h1
  exact ⟨h3,h2.trans h4⟩
 ·obtain ⟨h1,d',h2⟩:=a.pin i d l h
  obtain ⟨h3,h4⟩:=b.pin i d' l h2
  exact ⟨h3.trans h1,h4⟩
def FlowK (K:PySem.W.Frag) (ρ:Env) (σ:St) (H G:Hp) (ρ':Env) (D:Ends):Fl→Prop
 | .nx=>∀ σ' H' G',AftS K ρ σ H G ρ' σ' H' G'→D.nx σ' H'
 | .bk=>∀ σ' H' G',AftS K ρ σ H G ρ' σ' H' G'→D.bk σ' H'
 | .ct=>∀ σ' H' G',AftS K ρ σ H G ρ' σ' H' G'→D.ct σ' H'
 | .rt v=>∀ x σ' H' G',AftS K ρ σ H G ρ' σ' H' G'→VRep K H' G' (Own ρ' σ') (λa=>Own ρ σ a∨H a=none) v x→D.rt x H'
 | .ex _=>False
theorem FlowK.pre {D:Ends} {fl:Fl} (a:AftS K ρ σ H G ρ1 σ1 H1 G1) (h:FlowK K ρ σ H G ρ' D fl):FlowK K ρ1 σ1 H1 G1 ρ' D fl:=by
 cases fl with
 | nx=>exact λσ' H' G' b=>h σ' H' G' (a.trans b)
 | bk=>exact λσ' H' G' b=>h σ' H' G' (a.trans b)
 | ct=>exact λσ' H' G' b=>h σ' H' G' (a.trans b)
 | rt v=>exact λx σ' H' G' b hv=>h x σ' H' G' (a.trans b) (hv.new_mono λc z=>by
   rcases z with z | z
   ·exact a.own c z
   ·exact .inr (a.ext.hx c z))
 | ex e=>exact h
end
noncomputable def tS (K:PySem.W.Frag) (P:Pins) (C:Calls) (W:Nat) (c:S):TS:=λD σ H=>∃ (ρ:Env) (G:Hp) (fl:Fl) (ρ':Env),Rel K ρ σ H G∧ex P C W c ρ=some (fl,ρ')∧FlowK K ρ σ H G ρ' D fl
noncomputable def tSs (K:PySem.W.Frag) (P:Pins) (C:Calls) (W:Nat) (c:List S):TS:=λD σ H=>∃ (ρ:Env) (G:Hp) (fl:Fl) (ρ':Env),Rel K ρ σ H G∧exs P C W c ρ=some (fl,ρ')∧FlowK K ρ σ H G ρ' D fl
theorem TS.imp_ps {X:Cx} {e:Stmt} {t u:TS} (h:PS X e t) (w:∀ D σ H,u D σ H→t D σ H):PS X e u:=λpins s σ H D I q=>h pins s σ H D I (w D σ H q)
theorem TS.imp_pss {X:Cx} {e:List Stmt} {t u:TS} (h:PSs X e t) (w:∀ D σ H,u D σ H→t D σ H):PSs X e u:=λpins s σ H D I q=>h pins s σ H D I (w D σ H q)
section
variable {X:Cx} {K:PySem.W.Frag} {P:Pins} {C:Calls} {W:Nat} {Γ:CC}
theorem flow_ok {α:Type} {r:Res α} {f:α→Env→Run} {fl:Fl} {ρ:Env} (h:r.flow f=some (fl,ρ)) (n:∀ e,fl≠.ex e):∃ a ρ1,r=some (.ok a,ρ1)∧f a ρ1=some (fl,ρ):=by
 unfold Res.flow at h
 split at h
 ·cases h
 ·cases h; exact absurd rfl (n _)
 ·exact ⟨_,_,rfl,h⟩
theorem FlowK.ne {ρ ρ':Env} {σ:St} {H G:Hp} {D:Ends} {fl:Fl} (h:FlowK K ρ σ H G ρ' D fl):∀ e,fl≠.ex e:=λe z=>by subst z; exact h
theorem pss_nilS:PSs X [] (tSs K P C W []):=TS.imp_pss pss_nil λD σ H ⟨ρ,G,fl,ρ',r,e,k⟩=>by
 simp only [exs,Option.some.injEq,Prod.mk.injEq] at e
 obtain ⟨rfl,rfl⟩:=e
 exact k σ H G (AftS.refl r)
theorem pss_consS {st:Stmt} {rest:List Stmt} {c:S} {cs:List S} (h1:PS X st (tS K P C W c)) (h2:PSs X rest (tSs K P C W cs)):PSs X (st :: rest) (tSs K P C W (c :: cs)):=by
 refine TS.imp_pss (pss_cons h1 h2) λD σ H ⟨ρ,G,fl,ρ',r,e,k⟩=>?_
 rw [exs] at e
 cases q:ex P C W c ρ with
 | none=>rw [q] at e; cases e
 | some y =>
  obtain ⟨fl1,ρ1⟩:=y
  rw [q] at e
  refine ⟨ρ,G,fl1,ρ1,r,q, ?_⟩
  cases fl1 with
  | nx=>exact λσ1 H1 G1 a1=>⟨ρ1,G1,fl,ρ',a1.rel,e,k.pre a1⟩
  | bk=>cases e; exact k
  | ct=>cases e; exact k
  | rt v=>cases e; exact k
  | ex x=>cases e; exact k
theorem Rel.storeR {ρ ρ':Env} {σ:St} {H G:Hp} {new:Addr→Prop} {i:Nat} {v:RV} {x:V} (r:Rel K ρ σ H G) (e:store i v ρ=some ρ') (h:VRep K H G (Own ρ σ) new v x) :
  Rel K ρ' (σ.set i (some x)) H G∧(∀ a,Own ρ' (σ.set i (some x)) a→Own ρ σ a∨new a)∧(∀ j:Nat,ρ'[j]?=some .un→ρ[j]?=some .un∧(σ.set i (some x))[j]?=σ[j]?) ∧
  (∀ (j:Nat) d l,ρ[j]?=some (.ow d true l)→(σ.set i (some x))[j]?=σ[j]?∧∃ d',ρ'[j]?=some (.ow d' true l))∧ρ'.length=ρ.length:=by
 have key:∃ sl,i<ρ.length∧ρ'=ρ.set i sl∧(∀ d l,ρ[i]?≠some (.ow d true l))∧((∃ d,v=.sh d∧sl=.sh d)∨∃ d,v=.ow d∧sl=.ow d false false):=by
  unfold store at e
  split at e
  ·cases e
  ·cases e
  ·cases e
  ·rename_i s h1 h2 h3
   have hnp:∀ d l,ρ[i]?≠some (.ow d true l):=λd l z=>by rw [h3] at z; cases z; exact h1 _ _ rfl
   have hlt:=(List.getElem?_eq_some_iff.mp h3).1
   cases v with
   | sh d=>cases e; exact ⟨_,hlt,rfl,hnp,.inl ⟨d,rfl,rfl⟩⟩
   | ow d=>cases e; exact ⟨_,hlt,rfl,hnp,.inr ⟨d,rfl,rfl⟩⟩
   | od d=>cases e
 obtain ⟨sl,hi,rfl,np,hs⟩:=key
 have his:i<σ.length:=by rw [← r.len]; exact hi
 have hx:(σ.set i (some x))[i]?=some (some x):=List.getElem?_set_self his
 have ne:∀ j:Nat,j≠i→(σ.set i (some x))[j]?=σ[j]?:=λj h=>List.getElem?_set_ne (λz=>h z.symm)
 have oth:∀ (j:Nat) s,(ρ.set i sl)[j]?=some s→(j=i∧s=sl)∨(j≠i∧ρ[j]?=some s):=λj s h=>by
  rcases set_cases h with ⟨h1,h2,_⟩ | h
  ·exact .inl ⟨h1,h2⟩
  ·exact .inr h
 refine ⟨⟨by rw [List.length_set,List.length_set]; exact r.len,r.sub,λj d h1=>?_,λj d p l h1=>?_,λj k d p l d' p' l' a h1 h2 h3 h4=>?_⟩,λa ⟨j,d,p,l,h1,h2⟩=>?_,λj h1=>?_,λj d l h1=>?_,by rw [List.length_set]⟩
 ·rcases oth j _ h1 with ⟨rfl,z⟩ | ⟨nj,z⟩
  ·rcases hs with ⟨d0,rfl,rfl⟩ | ⟨d0,rfl,rfl⟩
   ·cases z; exact ⟨x,hx,h⟩
   ·cases z
  ·rw [ne j nj]; exact r.sh j d z
 ·rcases oth j _ h1 with ⟨rfl,z⟩ | ⟨nj,z⟩
  ·rcases hs with ⟨d0,rfl,rfl⟩ | ⟨d0,rfl,rfl⟩
   ·cases z
   ·cases z
    obtain ⟨a,rfl,g,o,_,_⟩:=h
    exact ⟨a,hx,g,o⟩
  ·rw [ne j nj]; exact r.ow j d p l z
 ·rcases oth j _ h1 with ⟨rfl,z⟩ | ⟨nj,z⟩
  ·rcases oth k _ h2 with ⟨rfl,z'⟩ | ⟨nk,z'⟩
   ·rfl
   ·rcases hs with ⟨d0,rfl,rfl⟩ | ⟨d0,rfl,rfl⟩
    ·cases z
    ·obtain ⟨b,rfl,g,o,no,_⟩:=h
     rw [hx] at h3; cases h3
     rw [ne k nk] at h4
     exact absurd ⟨k,_,_,_,z',h4⟩ no
  ·rcases oth k _ h2 with ⟨rfl,z'⟩ | ⟨nk,z'⟩
   ·rcases hs with ⟨d0,rfl,rfl⟩ | ⟨d0,rfl,rfl⟩
    ·cases z'
    ·obtain ⟨b,rfl,g,o,no,_⟩:=h
     rw [hx] at h4; cases h4
     rw [ne j nj] at h3
     exact absurd ⟨j,_,_,_,z,h3⟩ no
   ·rw [ne j nj] at h3
    rw [ne k nk] at h4
    exact r.inj _ _ _ _ _ _ _ _ _ z z' h3 h4
 ·rcases oth j _ h1 with ⟨rfl,z⟩ | ⟨nj,z⟩
  ·rcases hs with ⟨d0,rfl,rfl⟩ | ⟨d0,rfl,rfl⟩
   ·cases z
   ·obtain ⟨b,rfl,g,o,no,m⟩:=h
    rw [hx] at h2; cases h2
    exact .inr m
  ·rw [ne j nj] at h2; exact .inl ⟨j,d,p,l,z,h2⟩
 ·rcases oth j _ h1 with ⟨rfl,z⟩ | ⟨nj,z⟩
  ·rcases hs with ⟨d0,rfl,rfl⟩ | ⟨d0,rfl,rfl⟩ <;> cases z
  ·exact ⟨z,ne j nj⟩
 ·by_cases hj:j=i
  ·subst hj; exact absurd h1 (np d l)
  ·exact ⟨ne j hj,d,by rw [List.getElem?_set_ne (λz=>hj z.symm)]; exact h1⟩
theorem Aft.store {ρ ρ1 ρ':Env} {σ:St} {H G H1 G1:Hp} {i:Nat} {v:RV} {x:V} (r:Rel K ρ σ H G) (a:Aft K ρ σ H G ρ1 H1 G1) (e:store i v ρ1=some ρ') (h:VRep K H1 G1 (Own ρ1 σ) (Fresh H) v x):AftS K ρ σ H G ρ' (σ.set i (some x)) H1 G1:=by
 obtain ⟨h1,h2,h3,h4,h5⟩:=a.rel.storeR e h
 have s:=Aft.s r a
 refine ⟨h1,a.ext,λb z=>?_,λj z=>?_,λj d l z=>?_,h5.trans s.len⟩
 ·rcases h2 b z with z | z
  ·exact s.own b z
  ·exact .inr z
 ·obtain ⟨z1,z2⟩:=h3 j z
  obtain ⟨z3,z4⟩:=s.un j z1
  exact ⟨z3,z2⟩
 ·obtain ⟨_,d',z2⟩:=s.pin j d l z
  exact h4 j d' l z2
theorem Rel.store1 {ρ ρ':Env} {σ:St} {H G:Hp} {i:Nat} {d:D} {x:V} (r:Rel K ρ σ H G) (e:store i (.sh d) ρ=some ρ') (h:Rep K G d x):AftS K ρ σ H G ρ' (σ.set i (some x)) H G :=
 Aft.store r (Aft.refl r) e h
noncomputable def gB (K:PySem.W.Frag) (one:Bool) (is:List Nat):TG:=λv σ H Q=>∃ (ρ:Env) (G:Hp) (d:D) (ρ':Env),Rel K ρ σ H G∧Rep K G d v∧bindT one is d ρ=some ρ'∧∀ σ',AftS K ρ σ H G ρ' σ' H G→Q σ' H
noncomputable def gBs (K:PySem.W.Frag) (is:List Nat):TGs:=λvs σ H Q=>∃ (ρ:Env) (G:Hp) (ds:List D) (ρ':Env),Rel K ρ σ H G∧Reps K G ds vs∧stores is ds ρ=some ρ'∧∀ σ',AftS K ρ σ H G ρ' σ' H G→Q σ' H
theorem pg_one {tg:Expr} {i:Nat} (h:PG X tg (gName i)):PG X tg (gB K true [i]):=λpins s σ H v u Q I rv ⟨ρ,G,d,ρ',r,hd,e,k⟩ =>
 h pins s σ H v u Q I rv (k _ (r.store1 (by simpa only [bindT] using e) hd))
theorem pgs_nilB:PGs X [] (gBs K []):=λpins s σ H vs us Q I rv ⟨ρ,G,ds,ρ',r,hd,e,k⟩=>by
 cases ds with
 | nil =>
  simp only [stores,Option.some.injEq] at e
  subst e
  simp only [Reps] at hd
  subst hd
  exact pgs_nil pins s σ H [] us Q I rv ⟨rfl,k σ (AftS.refl r)⟩
 | cons d ds=>simp [stores] at e
theorem pgs_consB {e:Expr} {es:List Expr} {i:Nat} {is:List Nat} (h:PG X e (gName i)) (t:PGs X es (gBs K is)) (hs:(assignEach (e :: es) X.env).map (·.2)=assign e X.env :: (assignEach es X.env).map (·.2)):PGs X (e :: es) (gBs K (i :: is)) :=
 λpins s σ H vs us Q I rv ⟨ρ,G,ds,ρ',r,hd,e,k⟩=>by
  cases ds with
  | nil=>simp [stores] at e
  | cons d ds =>
   simp only [stores] at e
   cases q:store i (.sh d) ρ with
   | none=>rw [q] at e; cases e
   | some ρ1 =>
    rw [q] at e
    simp only [Reps] at hd
    obtain ⟨v,r',rfl,h1,h2⟩:=hd
    have a1:=r.store1 q h1
    exact pgs_cons h t hs pins s σ H (v :: r') us Q I rv ⟨v,r',rfl,ρ1,G,ds,ρ',a1.rel,h2,e,λσ' a2=>k σ' (a1.trans a2)⟩
theorem stores_len:∀ {is:List Nat} {ds:List D} {ρ ρ':Env},stores is ds ρ=some ρ'→ds.length=is.length
 | [],[],_,_,_=>rfl
 | [],_ :: _,_,_,e=>by simp [stores] at e
 | _ :: _,[],_,_,e=>by simp [stores] at e
 | i :: is,d :: ds,ρ,ρ',e=>by
  simp only [stores] at e
  cases q:store i (.sh d) ρ with
  | none=>rw [q] at e; cases e
  | some ρ1=>rw [q] at e; simp [stores_len e]
theorem pg_many (xo:XOk X K P C Γ) {es:List Expr} {k0:Nat} {pos:Pos} {is:List Nat} (t:PGs X es (gBs K is)) (hn:(assignEach es X.env).length=is.length) (hst:(assignEach es X.env).findIdx? (·.1)=none):PG X (.Tuple es k0 pos) (gB K false is) :=
 λpins s σ H v u Q I rv ⟨ρ,G,d,ρ',r,hd,e,k⟩=>by
  cases d with
  | tup ds =>
   simp only [bindT] at e
   simp only [Rep] at hd
   obtain ⟨a,vs,rfl,h1,h2⟩:=hd
   refine pg_tup xo.calm t hn hst pins s σ H (.ref a) u Q I rv ⟨a,vs,rfl, ?_, ?_,ρ,G,ds,ρ',r,h2,e,k⟩
   ·rw [xo.keq]; exact sqT_mono r.sub h1
   ·rw [h2.len]; exact stores_len e
  | _=>simp only [bindT,reduceCtorEq] at e
end
mutual
noncomputable def walksS (x:Str):Stmt→Bool
 | .For _ it body _ _=>(nameOf it == some x) || walksSs x body
 | .If _ a b _=>walksSs x a || walksSs x b
 | _=>false
noncomputable def walksSs (x:Str):List Stmt→Bool
 | []=>false
 | s :: r=>walksS x s || walksSs x r
end
def itE (Γ:CC) (it:Expr) (body:List Stmt) (cs:List E):List E:=cs
noncomputable def rseC (Γ:CC):Expr→S
 | .Call (.Name x _) args [] _=>if args.all notStar && (decide (args≠[]) && decide (args.length≤100)) then (match Γ.glob x with | .exc=>.rse x (cEs Γ args) | .exi=>.rsi x (cEs Γ args) | _=>.bad) else .bad
 | _=>.bad
noncomputable def hnd:List ExceptHandler→Option (Str × Str × List Stmt)
 | [.ExceptHandler (some c) (some n) body _]=>(nameOf c).map λx=>(x,n,body)
 | _=>none
theorem nameOf_inv {e:Expr} {x:Str} (h:nameOf e=some x):∃ p,e=.Name x p:=by
 cases e <;> first | exact ono h | exact ⟨_,congrArg (λy=>Expr.Name y _) (Option.some.inj h)⟩
theorem hnd_inv {hs:List ExceptHandler} {x n:Str} {body:List Stmt} (h:hnd hs=some (x,n,body)):∃ p q,hs=[.ExceptHandler (some (.Name x p)) (some n) body q]:=by
 obtain _ | ⟨⟨ty,nm,bd,p2⟩,_ | ⟨_,_⟩⟩:=hs
 ·exact ono h
 ·obtain _ | c:=ty
  ·exact ono h
  ·obtain _ | n':=nm
   ·exact ono h
   ·replace h:(nameOf c).map (λx=>(x,n',bd))=some (x,n,body):=h
    cases hc:nameOf c with
    | none=>rw [hc] at h; exact ono h
    | some y =>
     rw [hc] at h
     cases h
     obtain ⟨p,rfl⟩:=nameOf_inv hc
     exact ⟨_,_,rfl⟩
 ·obtain _ | c:=ty <;> obtain _ | n':=nm <;> exact ono h
noncomputable def asgN:List Stmt→Option (Str × Str)
 | [.Assign [t] v _]=>(nameOf t).bind λy=>(nameOf v).map λn=>(y,n)
 | _=>none
def AsgI (ss:List Stmt) (y n:Str):Prop:=∃ p q r,ss=[.Assign [.Name y p] (.Name n q) r]
theorem asgN_inv {ss:List Stmt} {y n:Str} (h:asgN ss=some (y,n)):AsgI ss y n:=by
 obtain _ | ⟨st,_ | ⟨_,_⟩⟩:=ss
 ·exact ono h
 ·cases st with
  | Assign ts v r =>
   obtain _ | ⟨t,_ | ⟨_,_⟩⟩:=ts
   ·exact ono h
   ·replace h:((nameOf t).bind λy=>(nameOf v).map λn=>(y,n))=some (y,n):=h
    cases h1:nameOf t with
    | none=>rw [h1] at h; exact ono h
    | some y' =>
     rw [h1] at h
     cases h2:nameOf v with
     | none=>rw [h2] at h; exact ono h
     | some n' =>
      rw [h2] at h
      cases h
      obtain ⟨p,rfl⟩:=nameOf_inv h1
      obtain ⟨q,rfl⟩:=nameOf_inv h2
      exact Exists.intro _ ⟨_,_,rfl⟩
   ·exact ono h
  | _=>exact ono h
 ·cases st with
  | Assign ts v r=>obtain _ | ⟨t,_ | ⟨_,_⟩⟩:=ts <;> exact ono h
  | _=>exact ono h
noncomputable def tryA1 (Γ:CC) (cb:List S) (x n:Str) (body:List Stmt):S:=match asgN body with
 | some (y,n')=>if n' == n then (match Γ.globE x,Γ.slotL n,Γ.slotL y with
  | .exs cs,some i,some j=>.tryA cb cs i j
  | _,_,_=>.bad) else .bad
 | none=>.bad
def tryB1 (Γ:CC) (cb:List S) (x n:Str) (body:List Stmt):S:=.bad
noncomputable def isAsgN (n:Str) (body:List Stmt):Bool:=match asgN body with
 | some (_,n')=>n' == n
 | none=>false
def tryO1 (cb:List S) (hs:List ExceptHandler) (o f:List Stmt):S:=.bad
def tryN1 (Γ:CC) (cb:List S) (hs:List ExceptHandler):S:=tryO1 cb hs [] []
noncomputable def tryC (Γ:CC) (cb:List S) (hs:List ExceptHandler) (o f:List Stmt):S :=
 if o.isEmpty && f.isEmpty then (match hnd hs with
  | some (x,n,body)=>if (Γ.names.lookup n == some .local) && Γ.top then (if isAsgN n body then tryA1 Γ cb x n body else if body.isEmpty then .bad else tryB1 Γ cb x n body) else .bad
  | none=>if Γ.top then tryN1 Γ cb hs else .bad) else .bad
def retC (e:Expr) (c:E):S:=.ret c
def scrOf (Γ:CC) (s:Stmt) (r:List Stmt):Option (Nat × Nat × E × E):=none
noncomputable def scrW (o:Option (Nat × Nat × E × E)) (c:S) (cs:List S):List S :=
 match o with
 | none=>c :: cs
 | some (i,j,ce,cc)=>.scr i j ce cc :: cs.drop 3
def dnm:Str:=("_law_parts":Str)
def tmpC (Γ:CC) (c:E):E:=match Γ.slot dnm with
 | some i=>.tmp i c
 | none=>c
noncomputable def asgE (Γ:CC) (x:Str) (e:Expr):E:=if x == dnm then (match e with
  | .List es _=>if es.all notStar then .dlst (cEs Γ es) else cE Γ e
  | _=>cE Γ e)
 else cE Γ e
noncomputable def setA (Γ:CC) (a k e:Expr):S:=match a with
 | .Name x _=>(match Γ.slot x with
  | some i=>if notComp e && notSlice k then (if x == dnm then .dset i none (cE Γ k) (cE Γ e) else .set i (cE Γ k) (cE Γ e)) else .bad
  | none=>.bad)
 | .Subscript (.Name x _) (.Constant (.int c) _ _) _=>(match Γ.slot x with
  | some i=>if notComp e && notSlice k && (x == dnm) && decide (0≤c) then .dset i (some c.toNat) (cE Γ k) (cE Γ e) else .bad
  | none=>.bad)
 | _=>.bad
noncomputable def kifOf (Γ:CC) (s:Stmt) (r:List Stmt):Option (Nat × Nat × E × E):=match s,r with
 | .Assign [.Name x _] e _,.If c _ [] _ :: _=>(match Γ.slot dnm,Γ.slotL x with
  | some i,some j=>if (x == ("_law_kept":Str)) && notComp e then some (i,j,cE Γ e,cE Γ c) else none
  | _,_=>none)
 | _,_=>none
noncomputable def kifW (o:Option (Nat × Nat × E × E)) (cs cs':List S):List S:=match o with
 | none=>cs'
 | some (i,j,ce,cc)=>.kif i j ce cc :: cs.drop 1
mutual
noncomputable def cS (Γ:CC):Stmt→S
 | .Pass _=>.pass
 | .Break _=>.brk
 | .Continue _=>.cnt
 | .Return (some e) _=>retC e (cE Γ e)
 | .Return none _=>.retN
 | .Expr e _=>if notComp e then .expr (cE Γ e) else .bad
 | .If c a b _=>.ifs (tmpC Γ (cE Γ c)) (cSs Γ a) (cSs Γ b)
 | .While c body [] _=>.bad
 | .For tg it body [] _=>match tgOf Γ tg,itOf Γ it with
  | some (one,is),some (k,its)=>if tgFit k one then .for is one k (itE Γ it body (cEs Γ its)) (cSs Γ body) else .bad
  | _,_=>.bad
 | .Assign [.Name x _] e _=>match Γ.slotL x with
  | some i=>if notComp e || isLC e then .asg i (asgE Γ x e) else .bad
  | none=>.bad
 | .Assign [.Tuple ts _ _] e _=>match tgNames Γ ts with
  | some is=>if notComp e && notTup e then .asgT is (cE Γ e) else .bad
  | none=>.bad
 | .Assign [.Subscript a k _] e _=>setA Γ a k e
 | .AugAssign (.Name x _) .Add e _=>(match Γ.slotL x with
  | some i=>if notComp e then .bad else .bad
  | none=>.bad)
 | .Raise (some e) none _=>rseC Γ e
 | .Try body hs o f _=>tryC Γ (cSs Γ body) hs o f
 | _=>.bad
noncomputable def cSs (Γ:CC):List Stmt→List S
 | []=>[]
 | s :: r=>kifW (kifOf Γ s r) (cSs Γ r) (scrW (scrOf Γ s r) (cS Γ s) (cSs Γ r))
end
section
variable {X:Cx} {K:PySem.W.Frag} {P:Pins} {C:Calls} {W:Nat} {Γ:CC}
theorem swaps_ok {e:Expr} (h:notComp e=true) (t:Option Expr) (line:Nat) (env:PySem.Env):swapsWith e t line env=pure false:=by
 cases e <;> first | rfl | cases h
theorem swapsSole_ok {e:Expr} (h:notComp e=true) (t:Expr) (line:Nat) (env:PySem.Env):swapsWithSole [t] e line env=pure false:=swaps_ok h _ _ _
theorem ps_badS {st:Stmt} {c:S} (h:∀ ρ,ex P C W c ρ=none):PS X st (tS K P C W c):=λpins s σ H D I ⟨ρ,G,fl,ρ',r,e,k⟩=>by rw [h] at e; cases e
theorem ps_bad {st:Stmt}:PS X st (tS K P C W .bad):=ps_badS λρ=>rfl
theorem ps_passS {pos:Pos}:PS X (.Pass pos) (tS K P C W .pass):=TS.imp_ps ps_pass λD σ H ⟨ρ,G,fl,ρ',r,e,k⟩=>by
 cases e
 exact k σ H G (AftS.refl r)
theorem ps_brkS {pos:Pos}:PS X (.Break pos) (tS K P C W .brk):=TS.imp_ps ps_break λD σ H ⟨ρ,G,fl,ρ',r,e,k⟩=>by
 cases e
 exact k σ H G (AftS.refl r)
theorem ps_cntS {pos:Pos}:PS X (.Continue pos) (tS K P C W .cnt):=TS.imp_ps ps_continue λD σ H ⟨ρ,G,fl,ρ',r,e,k⟩=>by
 cases e
 exact k σ H G (AftS.refl r)
theorem ps_exprS {e:Expr} {c:E} {pos:Pos} (h:Ok3 X K P C e c) (n:notComp e=true):PS X (.Expr e pos) (tS K P C W (.expr c)):=by
 refine TS.imp_ps (ps_expr h.v (swaps_ok n _ _ _)) λD σ H ⟨ρ,G,fl,ρ',r,e,k⟩=>?_
 obtain ⟨v,ρ1,e1,e2⟩:=flow_ok e k.ne
 cases e2
 exact ⟨ρ,G,v,_,r,e1,λx H' G' a hv=>k σ H' G' (Aft.s r a)⟩
theorem ps_retNS {pos:Pos}:PS X (.Return none pos) (tS K P C W .retN):=TS.imp_ps ps_retN λD σ H ⟨ρ,G,fl,ρ',r,e,k⟩=>by
 cases e
 exact k .non σ H G (AftS.refl r) (by show Rep K G .non _; simp [Rep])
theorem Rel.give {ρ:Env} {σ:St} {H G:Hp} (r:Rel K ρ σ H G) {i:Nat} {d:D} {l:Bool} {a:Addr} (h:ρ[i]?=some (.ow d false l)) (hx:σ[i]?=some (some (.ref a))) :
  AftS K ρ σ H G (ρ.set i .mv) σ H G∧VRep K H G (Own (ρ.set i .mv) σ) (λa=>Own ρ σ a∨H a=none) (.ow d) (.ref a):=by
 have key:∀ (j:Nat) (sl:Sl),(ρ.set i .mv)[j]?=some sl→(j=i∧sl=.mv)∨(j≠i∧ρ[j]?=some sl):=λj sl z=>by
  rcases set_cases z with ⟨e,z,_⟩ | z
  ·exact .inl ⟨e,z⟩
  ·exact .inr z
 obtain ⟨b,h1,g,o⟩:=r.ow i d false l h
 rw [hx] at h1; cases h1
 have own':∀ c,Own (ρ.set i .mv) σ c→Own ρ σ c∧c≠a:=λc ⟨j,d',p',l',z,w⟩=>by
  rcases key j _ z with ⟨_,q⟩ | ⟨nj,q⟩
  ·cases q
  ·refine ⟨⟨j,d',p',l',q,w⟩,λz=>?_⟩
   subst z
   exact nj (r.inj _ _ _ _ _ _ _ _ _ q h w hx)
 refine ⟨⟨⟨by rw [List.length_set]; exact r.len,r.sub,λj d' z=>?_,λj d' p' l' z=>?_,λj k d1 p1 l1 d2 p2 l2 c z1 z2 z3 z4=>?_⟩,Ext.refl,λc z=>.inl (own' c z).1,λj z=>?_,λj d' l' z=>⟨rfl,d', ?_⟩,by rw [List.length_set]⟩,a,rfl,g,o,λz=>(own' a z).2 rfl,.inl ⟨i,d,false,l,h,hx⟩⟩
 ·rcases key j _ z with ⟨_,q⟩ | ⟨nj,q⟩
  ·cases q
  ·exact r.sh j d' q
 ·rcases key j _ z with ⟨_,q⟩ | ⟨nj,q⟩
  ·cases q
  ·exact r.ow j d' p' l' q
 ·rcases key j _ z1 with ⟨_,q⟩ | ⟨nj,q⟩
  ·cases q
  ·rcases key k _ z2 with ⟨_,q'⟩ | ⟨nk,q'⟩
   ·cases q'
   ·exact r.inj _ _ _ _ _ _ _ _ _ q q' z3 z4
 ·rcases key j _ z with ⟨_,q⟩ | ⟨nj,q⟩
  ·cases q
  ·exact ⟨q,rfl⟩
 ·have nj:j≠i:=λw=>by subst w; rw [h] at z; cases z
  rw [List.getElem?_set_ne (λw=>nj w.symm)]; exact z
theorem ps_retS {e:Expr} {c:E} {pos:Pos} (h:Ok3 X K P C e c):PS X (.Return (some e) pos) (tS K P C W (.ret c)):=by
 by_cases hv:∃ i,c=.var i
 ·obtain ⟨i,rfl⟩:=hv
  refine TS.imp_ps (ps_ret h.h) λD σ H ⟨ρ,G,fl,ρ',r,e,k⟩=>?_
  replace e:(match ρ[i]? with | some (.ow d false _)=>some (.rt (.ow d),ρ.set i .mv) | some (.sh d)=>some (.rt (.sh d),ρ) | _=>none)=some (fl,ρ'):=e
  split at e
  ·rename_i d l hd
   cases e
   obtain ⟨a,h1,g,o⟩:=r.ow i d false l hd
   refine ⟨ρ,G,.slot i,ρ,r,by simp [hd,hd,Sl.get,CI.hd],λx H' G' a1 hx=>?_⟩
   obtain ⟨a',h1',g',o'⟩:=a1.rel.ow i d false l hd
   have hx:σ[i]?=some (some x):=hx
   rw [hx] at h1'; cases h1'
   obtain ⟨s1,v1⟩:=a1.rel.give hd hx
   exact (k.pre (Aft.s r a1)) _ σ H' G' s1 v1
  ·rename_i d hd
   cases e
   obtain ⟨v,h1,h2⟩:=r.sh i d hd
   refine ⟨ρ,G,.slot i,ρ,r,by simp [hd,Sl.get,CI.hd],λx H' G' a1 hx=>?_⟩
   obtain ⟨v',h1',h2'⟩:=a1.rel.sh i d hd
   have hx:σ[i]?=some (some x):=hx
   rw [hx] at h1'; cases h1'
   exact k x σ H' G' (Aft.s r a1) h2'
  ·cases e
 ·refine TS.imp_ps (ps_ret h.v) λD σ H ⟨ρ,G,fl,ρ',r,e,k⟩=>?_
  have e':(ev P C false c ρ).flow (λv ρ1=>some (.rt v,ρ1))=some (fl,ρ'):=by
   cases c <;> first | exact absurd ⟨_,rfl⟩ hv | exact e
  obtain ⟨v,ρ1,e1,e2⟩:=flow_ok e' k.ne
  cases e2
  exact ⟨ρ,G,v,_,r,e1,λx H' G' a hv=>k x σ H' G' (Aft.s r a) (hv.new_mono λa z=>.inr z)⟩
theorem ps_ifS {c:Expr} {a b:List Stmt} {cc:E} {ca cb:List S} {pos:Pos} (hc:Ok3 X K P C c cc) (ha:PSs X a (tSs K P C W ca)) (hb:PSs X b (tSs K P C W cb)):PS X (.If c a b pos) (tS K P C W (.ifs cc ca cb)):=by
 refine TS.imp_ps (ps_if hc.t ha hb) λD σ H ⟨ρ,G,fl,ρ',r,e,k⟩=>?_
 obtain ⟨v,ρ1,e1,e2⟩:=flow_ok e k.ne
 split at e2
 ·refine ⟨ρ,G,true,ρ1,r,e1,λH1 G1 a1=>?_⟩
  refine iteT ?_
  exact ⟨ρ1,G1,fl,ρ',a1.rel,e2,k.pre (Aft.s r a1)⟩
 ·refine ⟨ρ,G,false,ρ1,r,e1,λH1 G1 a1=>?_⟩
  refine iteF ?_
  exact ⟨ρ1,G1,fl,ρ',a1.rel,e2,k.pre (Aft.s r a1)⟩
 ·cases e2
theorem slotL_ok {qq:Bool} (xo:XOkB qq X K P C Γ) (hfn:∀ x,Γ.isLoc x=true→X.fn x=true∨X.env.scope.names.lookup x=some .local) {x:Str} {i:Nat} (h:Γ.slotL x=some i) {pos:Pos}:PG X (.Name x pos) (gName i):=by
 unfold CC.slotL at h
 split at h
 ·rename_i hl
  have hN:X.N[i]?=some x:=by
   unfold CC.slot at h
   split at h
   ·cases h
   ·split at h
    ·rw [xo.neq]; exact idxOf_get h
    ·cases h
  refine pg_name (by rw [xo.neq]; exact xo.nd) hN ?_ (hfn x hl)
  unfold L2.Loc
  rw [xo.nm]
  unfold CC.isLoc at hl
  rw [Bool.or_eq_true,Bool.and_eq_true] at hl
  rcases hl with hl | hl
  ·exact .inl (eq_of_beq hl)
  ·exact .inr (eq_of_beq hl.2)
 ·cases h
theorem ps_asgS {qq:Bool} (xo:XOkB qq X K P C Γ) (hfn:∀ x,Γ.isLoc x=true→X.fn x=true∨X.env.scope.names.lookup x=some .local) {x:Str} {i:Nat} {e:Expr} {c:E} {p pos:Pos} (hi:Γ.slotL x=some i) (h:Ok3 X K P C e c) (n:notComp e=true):PS X (.Assign [.Name x p] e pos) (tS K P C W (.asg i c)):=by
 refine TS.imp_ps (ps_asg h.v (slotL_ok xo hfn hi) (swapsSole_ok n _ _ _)) λD σ H ⟨ρ,G,fl,ρ',r,e,k⟩=>?_
 obtain ⟨v,ρ1,e1,e2⟩:=flow_ok e k.ne
 unfold goOn at e2
 cases q:store i v ρ1 with
 | none=>rw [q] at e2; cases e2
 | some ρ2 =>
  rw [q] at e2
  cases e2
  exact ⟨ρ,G,v,ρ1,r,e1,λx H' G' a hv=>k _ H' G' (Aft.store r a q hv)⟩
theorem tgNames_ok (xo:XOk X K P C Γ) (hfn:∀ x,Γ.isLoc x=true→X.fn x=true∨X.env.scope.names.lookup x=some .local):∀ {ts:List Expr} {is:List Nat},tgNames Γ ts=some is→PGs X ts (gBs K is)∧(assignEach ts X.env).length=is.length∧(assignEach ts X.env).findIdx? (·.1)=none∧ts.length=is.length
 | [],is,h=>by cases h; exact ⟨pgs_nilB,rfl,rfl,rfl⟩
 | e :: es,is,h=>by
  simp only [tgNames] at h
  cases q:tgName Γ e with
  | none=>rw [q] at h; cases h
  | some i =>
   rw [q] at h
   simp only [Option.bind_some] at h
   cases q2:tgNames Γ es with
   | none=>rw [q2] at h; cases h
   | some is' =>
    rw [q2] at h
    cases h
    obtain ⟨h1,h2,h3,h4⟩:=tgNames_ok xo hfn q2
    cases e <;> simp only [tgName,reduceCtorEq] at q
    refine ⟨pgs_consB (slotL_ok xo hfn q) h1 rfl, ?_, ?_,by simp [h4]⟩
    ·show (assignEach es X.env).length+1=is'.length+1
     rw [h2]
    ·show ((false,_) :: assignEach es X.env).findIdx? (·.1)=none
     rw [List.findIdx?_cons,h3]
     rfl
theorem swapped_none {ts:List Expr} {k0:Nat} {p:Pos} {e:Expr} (h:notTup e=true) (env:PySem.Env):swappedStores [.Tuple ts k0 p] e env=pure none:=by
 cases e <;> first | rfl | cases h
theorem ps_asgTS (xo:XOk X K P C Γ) (hfn:∀ x,Γ.isLoc x=true→X.fn x=true∨X.env.scope.names.lookup x=some .local) {ts:List Expr} {is:List Nat} {e:Expr} {c:E} {k0:Nat} {p pos:Pos} (hi:tgNames Γ ts=some is) (h:Ok3 X K P C e c) (n:notComp e=true) (n2:notTup e=true):PS X (.Assign [.Tuple ts k0 p] e pos) (tS K P C W (.asgT is c)):=by
 obtain ⟨h1,h2,h3,h4⟩:=tgNames_ok xo hfn hi
 refine TS.imp_ps (ps_asg h.v (pg_many xo h1 h2 h3) (swapsSole_ok n _ _ _) (swapped_none n2 _)) λD σ H ⟨ρ,G,fl,ρ',r,e,k⟩=>?_
 obtain ⟨v,ρ1,e1,e2⟩:=flow_ok e k.ne
 unfold goOn at e2
 cases q:bindT false is v.d ρ1 with
 | none=>rw [q] at e2; cases e2
 | some ρ2 =>
  rw [q] at e2
  cases e2
  refine ⟨ρ,G,v,ρ1,r,e1,λx H' G' a hv=>?_⟩
  obtain ⟨G2,a2,r2⟩:=a.share hv
  exact ⟨ρ1,G2,v.d,_,a2.rel,r2,q,λσ' b=>k σ' H' G2 ((Aft.s r a2).trans b)⟩
def rSetD (K:PySem.W.Frag):TSet:=λ_ _ _ _ _=>False
def rSetM:TSet:=λ_ _ _ _ _=>False
theorem set_both (hu:X.A.units+11<cLine):PSet X (λo i v H Q=>rSetL o i v H Q∨rSetM o i v H Q∨rSetD X.K o i v H Q):=by
 intro pins s σ H o i v ov iv u Q I ro ri rv h
 rcases h with h | h | h
 ·exact set_list pins s σ H o i v ov iv u Q I ro ri rv h
 ·exact h.elim
 ·exact h.elim
theorem ps_setS (xo:XOk X K P C Γ) {x:Str} {i:Nat} {e j:Expr} {c cj:E} {p p2 pos:Pos} (hi:Γ.slot x=some i) (h:Ok3 X K P C e c) (hj:Ok3 X K P C j cj) (n:notComp e=true)
  (ha:∀ v,assign (.Subscript (.Name x p) j p2) X.env v=(do
   let ov ← holding [v] (eval (.Name x p) X.env)
   let iv ← holding [v,ov] (eval j X.env)
   standAt p2
   holding [v,ov,iv] (setItem ov iv v)
   release [v,ov,iv] [])):PS X (.Assign [.Subscript (.Name x p) j p2] e pos) (tS K P C W (.set i cj c)):=by
 have hp:PE X (.Name x p) (tVar i):=CC.slot_ok xo hi
 refine TS.imp_ps (ps_asg h.v (pg_sub hp hj.v (xo.keq ▸ set_both (by have:=xo.hu; omega)) ha) (swapsSole_ok n _ _ _)) λD σ H ⟨ρ,G,fl,ρ',r,e,k⟩=>?_
 obtain ⟨v,ρ1,e1,e2⟩:=flow_ok e k.ne
 split at e2
 ·rename_i ho
  obtain ⟨w,ρ2,e3,e4⟩:=flow_ok e2 k.ne
  split at e4
  ·rename_i ds p1 nn hs hw
   unfold goOn at e4
   cases q:ixN ds.length nn with
   | none=>rw [q] at e4; cases e4
   | some m =>
    rw [q] at e4
    cases e4
    refine ⟨ρ,G,v,ρ1,r,e1,λy H1 G1 a1 hv=>?_⟩
    obtain ⟨d0,p0,l0,h0⟩:=isOw_ok ho
    obtain ⟨b,hb,g0,o0⟩:=a1.rel.ow i _ p0 l0 h0
    refine ⟨.ref b,hb,ρ1,G1,w,ρ2,a1.rel,e3,λz H2 G2 a2 hz=>?_⟩
    have hv2:=hv.wait a2.ext λa z=>.inl (a2.own a z)
    obtain ⟨G3,a3,r3⟩:=(a1.trans a2).share hv2
    obtain ⟨b',hb',g1,vs,hvs,hr⟩:=a3.rel.ow i _ _ _ hs
    rw [hb] at hb'; cases hb'
    have hzi:=hz.readR
    rw [hw] at hzi
    cases hzi.int
    have a4:=a3.rel.write hs hb (hr.set r3 m)
    exact .inl ⟨b,vs,nn,m,rfl,rfl,hvs,by rw [hr.len]; exact q,k σ _ _ (Aft.s r (a3.trans a4))⟩
  ·cases e4
 ·cases e2
end
section
variable {X:Cx} {K:PySem.W.Frag} {P:Pins} {C:Calls} {W:Nat} {Γ:CC}
theorem takeOut_rel {ρ:Env} {σ:St} {H G:Hp} {o:Option Nat} (r:Rel K ρ σ H G):Rel K (takeOut o ρ) σ H G∧∀ a,Own (takeOut o ρ) σ a→Own ρ σ a:=by
 cases o with
 | none=>exact ⟨r,λ_ z=>z⟩
 | some i=>exact ⟨r.unset i,λ_ z=>z.unset⟩
theorem putBack_aft {ρ1 ρf ρ':Env} {σ σf:St} {H1 G1 Hf Gf:Hp} {o:Option Nat} (r:Rel K ρ1 σ H1 G1) (ho:∀ i,o=some i→∃ d p l,ρ1[i]?=some (.ow d p l)) (e:putBack o ρ1 ρf=some ρ') (a:AftS K (takeOut o ρ1) σ H1 G1 ρf σf Hf Gf) :
  AftS K ρ1 σ H1 G1 ρ' σf Hf Gf∧∀ c,Own ρ' σf c→Own ρf σf c∨(Own ρ1 σ c∧¬ Own (takeOut o ρ1) σ c):=by
 cases o with
 | none =>
  simp only [putBack,Option.some.injEq] at e
  subst e
  exact ⟨a,λ_ z=>.inl z⟩
 | some i =>
  obtain ⟨d,p,l,hi⟩:=ho i rfl
  obtain ⟨b,hb,g,ob⟩:=r.ow i d p l hi
  have hob:Own ρ1 σ b:=⟨i,d,p,l,hi,hb⟩
  have nob:¬ Own (ρ1.set i .un) σ b:=r.unset_not hi hb
  have hne:H1 b≠none:=(r.owned hob).1
  simp only [putBack] at e
  split at e
  ·rename_i sl hf hs
   rw [hi] at hs; cases hs
   cases e
   obtain ⟨hu1,hu2⟩:=a.un i hf
   have hx:σf[i]?=some (some (.ref b)):=hu2.trans hb
   have gb:Gf b=none:=a.ext.gn b hne g nob
   have of:OwRep K Hf Gf b d:=ob.mono a.ext.gg λo' h'=>a.ext.hh b o' h' nob
   have nf:¬ Own ρf σf b:=λz=>by
    rcases a.own b z with z | z
    ·exact nob z
    ·exact hne z
   have rf:Rel K (ρf.set i (.ow d p l)) σf Hf Gf:=(a.rel.unset i).put_ow hx gb of λz=>nf z.unset
   have own':∀ c,Own (ρf.set i (.ow d p l)) σf c→c=b∨Own ρf σf c:=λc z=>by
    rcases z.put_ow hx with z | z
    ·exact .inl z
    ·exact .inr z.unset
   refine ⟨⟨rf,a.ext.weaken λc z=>z.unset,λc z=>?_,λj z=>?_,λj d' l' z=>?_,by rw [List.length_set,a.len]; exact List.length_set⟩,λc z=>?_⟩
   ·rcases own' c z with rfl | z
    ·exact .inl hob
    ·rcases a.own c z with z | z
     ·exact .inl z.unset
     ·exact .inr z
   ·rcases set_cases z with ⟨_,w,_⟩ | ⟨nj,w⟩
    ·cases w
    ·obtain ⟨w1,w2⟩:=a.un j w
     have w1':(ρ1.set i .un)[j]?=some .un:=w1
     rw [List.getElem?_set_ne (λq=>nj q.symm)] at w1'
     exact ⟨w1',w2⟩
   ·by_cases hj:j=i
    ·subst hj
     rw [hi] at z; cases z
     refine ⟨hu2,d, ?_⟩
     rw [List.getElem?_set_self (List.getElem?_eq_some_iff.mp hf).1]
    ·have z':(takeOut (some i) ρ1)[j]?=some (.ow d' true l'):=by
      show (ρ1.set i .un)[j]?=_
      rw [List.getElem?_set_ne (λq=>hj q.symm)]; exact z
     obtain ⟨w1,d2,w2⟩:=a.pin j d' l' z'
     exact ⟨w1,d2,by rw [List.getElem?_set_ne (λq=>hj q.symm)]; exact w2⟩
   ·rcases own' c z with rfl | z
    ·exact .inr ⟨hob,nob⟩
    ·exact .inl z
  ·cases e
theorem FlowK.restore {ρ1 ρf ρ':Env} {σ:St} {H1 G1:Hp} {o:Option Nat} {D:Ends} {fl:Fl} (r:Rel K ρ1 σ H1 G1) (ho:∀ i,o=some i→∃ d p l,ρ1[i]?=some (.ow d p l)) (e:putBack o ρ1 ρf=some ρ') (k:FlowK K ρ1 σ H1 G1 ρ' D fl) :
  FlowK K (takeOut o ρ1) σ H1 G1 ρf D fl:=by
 cases fl with
 | nx=>exact λσ' H' G' b=>k σ' H' G' (putBack_aft r ho e b).1
 | bk=>exact λσ' H' G' b=>k σ' H' G' (putBack_aft r ho e b).1
 | ct=>exact λσ' H' G' b=>k σ' H' G' (putBack_aft r ho e b).1
 | rt v =>
  refine λx σ' H' G' b hv=>?_
  obtain ⟨b1,b2⟩:=putBack_aft r ho e b
  refine k x σ' H' G' b1 ?_
  cases v with
  | sh d=>exact hv
  | ow d =>
   obtain ⟨c,rfl,g,oo,n,m⟩:=hv
   refine ⟨c,rfl,g,oo,λz=>?_, ?_⟩
   ·rcases b2 c z with z | ⟨z1,z2⟩
    ·exact n z
    ·rcases m with m | m
     ·exact z2 m
     ·exact (r.owned z1).1 m
   ·rcases m with m | m
    ·exact .inl ((takeOut_rel r).2 c m)
    ·exact .inr m
  | od d =>
   obtain ⟨c,rfl,g,oo,n,m,vs,hvs,hr⟩:=hv
   have key:∀ c,¬ Own ρf σ' c→(Own (takeOut o ρ1) σ c∨H1 c=none)→¬ Own ρ' σ' c∧(Own ρ1 σ c∨H1 c=none):=λc n m=>by
    refine ⟨λz=>?_, ?_⟩
    ·rcases b2 c z with z | ⟨z1,z2⟩
     ·exact n z
     ·rcases m with m | m
      ·exact z2 m
      ·exact (r.owned z1).1 m
    ·rcases m with m | m
     ·exact .inl ((takeOut_rel r).2 c m)
     ·exact .inr m
   exact ⟨c,rfl,g,oo,(key c n m).1,(key c n m).2,vs,hvs,λx hx=>let ⟨b,ws,h1,h2,h3,h4,h5,h6⟩:=hr x hx; ⟨b,ws,h1,h2,h3,(key b h4 h5).1,(key b h4 h5).2,h6⟩⟩
 | ex x=>exact k
def LoopP (K:PySem.W.Frag) (P:Pins) (C:Calls) (W:Nat) (one:Bool) (tg:List Nat) (cb:List S) (ρ0:Env) (σ0:St) (H0 G0:Hp) (fl:Fl) (ρf:Env) (ds:List D) (i:Nat):St→Hp→Prop:=λσ H =>
 ∃ ρ G,AftS K ρ0 σ0 H0 G0 ρ σ H G∧loopF (bindT one tg) (exs P C W cb) (ds.drop i) ρ=some (fl,ρf)
theorem loop_turn {one:Bool} {tg:List Nat} {cb:List S} {ρ0 ρf:Env} {σ0 σ:St} {H0 G0 H:Hp} {fl:Fl} {ds:List D} {i:Nat} {d:D} {x:V} {D0:Ends} (hk:FlowK K ρ0 σ0 H0 G0 ρf D0 fl) (hd:ds[i]?=some d) (hx:Rep K G0 d x)
  (h:LoopP K P C W one tg cb ρ0 σ0 H0 G0 fl ρf ds i σ H) :
  gB K one tg x σ H λσ2 H2=>tSs K P C W cb { D0 with nx:=LoopP K P C W one tg cb ρ0 σ0 H0 G0 fl ρf ds (i+1),ct:=LoopP K P C W one tg cb ρ0 σ0 H0 G0 fl ρf ds (i+1),bk:=D0.nx } σ2 H2:=by
 obtain ⟨ρ,G,a,e⟩:=h
 have hl:i<ds.length:=(List.getElem?_eq_some_iff.mp hd).1
 have ed:ds.drop i=d :: ds.drop (i+1):=by
  rw [List.drop_eq_getElem_cons hl]
  congr 1
  rw [List.getElem?_eq_getElem hl] at hd
  exact Option.some.inj hd
 rw [ed] at e
 simp only [loopF] at e
 cases q:bindT one tg d ρ with
 | none=>rw [q] at e; cases e
 | some ρ1 =>
  rw [q] at e
  simp only at e
  refine ⟨ρ,G,d,ρ1,a.rel,Rep.mono a.ext.gg d hx,q,λσ1 a1=>?_⟩
  have a01:=a.trans a1
  cases q2:exs P C W cb ρ1 with
  | none=>rw [q2] at e; cases e
  | some y =>
   obtain ⟨fl1,ρ2⟩:=y
   rw [q2] at e
   refine ⟨ρ1,G,fl1,ρ2,a1.rel,q2, ?_⟩
   cases fl1 with
   | nx=>exact λσ2 H2 G2 a2=>⟨ρ2,G2,a01.trans a2,e⟩
   | ct=>exact λσ2 H2 G2 a2=>⟨ρ2,G2,a01.trans a2,e⟩
   | bk=>cases e; exact λσ2 H2 G2 a2=>hk σ2 H2 G2 (a01.trans a2)
   | rt v=>cases e; exact hk.pre a01
   | ex x=>cases e; exact hk
theorem loop_turn2 {one:Bool} {tg:List Nat} {cb:List S} {ρ0 ρf:Env} {σ0 σ:St} {H0 G0 H:Hp} {fl:Fl} {ds:List D} {i:Nat} {d:D} {x:V} {D0:Ends} (hk:FlowK K ρ0 σ0 H0 G0 ρf D0 fl) (hd:ds[i]?=some d)
  (h:∃ ρ G,AftS K ρ0 σ0 H0 G0 ρ σ H G∧Rep K G d x∧loopF (bindT one tg) (exs P C W cb) (ds.drop i) ρ=some (fl,ρf)) :
  gB K one tg x σ H λσ2 H2=>tSs K P C W cb { D0 with nx:=LoopP K P C W one tg cb ρ0 σ0 H0 G0 fl ρf ds (i+1),ct:=LoopP K P C W one tg cb ρ0 σ0 H0 G0 fl ρf ds (i+1),bk:=D0.nx } σ2 H2:=by
 obtain ⟨ρ,G,a,hx,e⟩:=h
 have hl:i<ds.length:=(List.getElem?_eq_some_iff.mp hd).1
 have ed:ds.drop i=d :: ds.drop (i+1):=by
  rw [List.drop_eq_getElem_cons hl]
  congr 1
  rw [List.getElem?_eq_getElem hl] at hd
  exact Option.some.inj hd
 rw [ed] at e
 simp only [loopF] at e
 cases q:bindT one tg d ρ with
 | none=>rw [q] at e; cases e
 | some ρ1 =>
  rw [q] at e
  simp only at e
  refine ⟨ρ,G,d,ρ1,a.rel,hx,q,λσ1 a1=>?_⟩
  have a01:=a.trans a1
  cases q2:exs P C W cb ρ1 with
  | none=>rw [q2] at e; cases e
  | some y =>
   obtain ⟨fl1,ρ2⟩:=y
   rw [q2] at e
   refine ⟨ρ1,G,fl1,ρ2,a1.rel,q2, ?_⟩
   cases fl1 with
   | nx=>exact λσ2 H2 G2 a2=>⟨ρ2,G2,a01.trans a2,e⟩
   | ct=>exact λσ2 H2 G2 a2=>⟨ρ2,G2,a01.trans a2,e⟩
   | bk=>cases e; exact λσ2 H2 G2 a2=>hk σ2 H2 G2 (a01.trans a2)
   | rt v=>cases e; exact hk.pre a01
   | ex x=>cases e; exact hk
theorem for_enum {a:Addr} {lo:Int} {xs:List V} {g:TG} {tb:TS} {D:Ends} {σ:St} {H:Hp} (Pv:Nat→St→Hp→Prop) (h0:Pv 0 σ H) (hl:∀ i σ H,i≤xs.length→Pv i σ H→SqL K H a xs)
  (hs:∀ i y p σ H,xs[i]?=some y→H p=none→Pv i σ H→g (.ref p) σ (upd H p (.tup [.int (lo+(i:Int)),y])) λσ2 H2=>tb { D with nx:=Pv (i+1),ct:=Pv (i+1),bk:=D.nx } σ2 H2) (hd:∀ σ H,Pv xs.length σ H→D.nx σ H) :
  ∃ W:Nat→Nat→St→Hp→Prop,(∃ m,W 0 m σ H)∧∀ i m σ H,W i m σ H →
   ((Ite K a lo).stop i H∧D.nx σ H)∨((Ite K a lo).go i H∧∃ N:St→Hp→Prop,(∀ σ' H',N σ' H'→∃ m',m'<m∧W (i+1) m' σ' H')∧∀ x H',(Ite K a lo).yld i H x H'→g x σ H' λσ2 H2=>tb { D with nx:=N,ct:=N,bk:=D.nx } σ2 H2):=by
 refine ⟨λi m σ H=>m=xs.length - i∧i≤xs.length∧Pv i σ H,⟨xs.length,by simp,Nat.zero_le _,h0⟩, ?_⟩
 rintro i m σ H ⟨rfl,hi,p⟩
 have q:=hl i σ H hi p
 by_cases hlt:i<xs.length
 ·refine .inr ⟨⟨xs,xs[i],q,by simp [hlt]⟩,Pv (i+1),λσ' H' p'=>⟨xs.length - (i+1),by omega,rfl,hlt,p'⟩,λx H' y=>?_⟩
  obtain ⟨p0,y0,hn,rfl,rfl,hy⟩:=y
  exact hs i y0 p0 σ H (hy xs q) hn p
 ·have e:i=xs.length:=by omega
  subst e
  exact .inl ⟨⟨xs,q,Nat.le_refl _⟩,hd σ H p⟩
theorem enumD_len {lo:Int} {ds:List D}:(enumD lo ds).length=ds.length:=by unfold enumD; simp
theorem enumD_get {lo:Int} {ds:List D} {i:Nat} {d:D} (h:ds[i]?=some d):(enumD lo ds)[i]?=some (.tup [.int (lo+(i:Int)),d]):=by
 have hl:i<ds.length:=(List.getElem?_eq_some_iff.mp h).1
 unfold enumD
 rw [List.getElem?_map,List.getElem?_range hl,Option.map_some,List.getD_eq_getElem?_getD,h]
 rfl
theorem enum_rep {G:Hp} {p:Addr} {i:Int} {d:D} {y:V} (hg:G p=none) (h:Rep K G d y):Rep K (upd G p (.tup [.int i,y])) (.tup [.int i,d]) (.ref p):=by
 simp only [Rep]
 exact ⟨p,_,rfl,SqT.of upd_same,Reps.cons (by simp [Rep]) (Reps.cons (Rep.mono (Sm.laid hg) d h) Reps.nil)⟩
theorem loop_end {one:Bool} {tg:List Nat} {cb:List S} {ρ0 ρf:Env} {σ0 σ:St} {H0 G0 H:Hp} {fl:Fl} {ds:List D} {D0:Ends} (hk:FlowK K ρ0 σ0 H0 G0 ρf D0 fl) (h:LoopP K P C W one tg cb ρ0 σ0 H0 G0 fl ρf ds ds.length σ H):D0.nx σ H:=by
 obtain ⟨ρ,G,a,e⟩:=h
 rw [List.drop_length] at e
 simp only [loopF,Option.some.injEq,Prod.mk.injEq] at e
 obtain ⟨rfl,rfl⟩:=e
 exact hk σ H G a
def Src (K:PySem.W.Frag) (ρ:Env) (σ:St) (H G:Hp) (a:Addr) (vs:List V):Prop:=SqL K G a vs∨(H a=some (.lst vs)∧G a=none∧¬ Own ρ σ a)
theorem Src.now {ρ ρ':Env} {σ σ':St} {H G H' G':Hp} {a:Addr} {vs:List V} (h:Src K ρ σ H G a vs) (b:AftS K ρ σ H G ρ' σ' H' G'):SqL K H' a vs:=by
 rcases h with h | ⟨h1,h2,h3⟩
 ·exact b.rel.sub.seq (b.ext.gg.seq h)
 ·exact SqL.of (b.ext.hh a _ h1 h3)
def FHw (K:PySem.W.Frag) (P:Pins) (C:Calls) (k0:ItK) (its:List E) (σ:St) (H:Hp) (R:It→Hp→Prop):Prop:=∃ (ρ:Env) (G:Hp) (hs:List Hd) (ρ1:Env) (ds:List D) (o:Option Nat),Rel K ρ σ H G∧evHs P C its ρ=some (.ok hs,ρ1)∧itemsOf k0 hs ρ1=some (ds,o) ∧
   ∀ H1 G1,Aft K ρ σ H G ρ1 H1 G1→(∀ i,o=some i→∃ d p l,ρ1[i]?=some (.ow d p l)) →
    (∀ a vs,Src K (takeOut o ρ1) σ H1 G1 a vs→Reps K G1 ds vs→R (Itl K a) H1)∧(∀ a vs,SqT K G1 a vs→Reps K G1 ds vs→R (Itt K a) H1)∧(∀ (lo:Int) (n:Nat),ds=(List.range n).map (λ(j:Nat)=>D.int (lo+(j:Int)))→R (Itr lo n) H1)∧(∀ a vs ds0 lo,ds=enumD lo ds0→Src K (takeOut o ρ1) σ H1 G1 a vs→Reps K G1 ds0 vs→R (Ite K a lo) H1)
theorem for_ok (po:PassesOwn (model X.prog X.w) X.A X.env X.xe) (xo:XOk X K P C Γ) {tg it:Expr} {body:List Stmt} {pos:Pos} {one:Bool} {is:List Nat} {k0:ItK} {its:List E} {cb:List S} {wi:TI} (hg:PG X tg (gB K one is)) (hb:PSs X body (tSs K P C W cb))
  (hs:∀ x,foldedSetIterable it X.env x=pure x) (hi:PI X tg it wi)
  (hw:∀ σ H (R:It→Hp→Prop),FHw K P C k0 its σ H R→wi σ H R) :
  PS X (.For tg it body [] pos) (tS K P C W (.for is one k0 its cb)):=by
 refine TS.imp_ps (ps_for po xo.calm hi hg hb hs) λD σ H ⟨ρ,G,fl,ρ',r,e,k⟩=>?_
 obtain ⟨hs,ρ1,e1,e2⟩:=flow_ok e k.ne
 cases q:itemsOf k0 hs ρ1 with
 | none=>rw [q] at e2; cases e2
 | some y =>
  obtain ⟨ds,o⟩:=y
  rw [q] at e2
  simp only at e2
  cases q2:loopF (bindT one is) (exs P C W cb) ds (takeOut o ρ1) with
  | none=>rw [q2] at e2; cases e2
  | some y =>
   obtain ⟨fl1,ρf⟩:=y
   rw [q2] at e2
   simp only [Run.restore] at e2
   cases q3:putBack o ρ1 ρf with
   | none=>rw [q3] at e2; cases e2
   | some ρ2 =>
    rw [q3] at e2
    cases e2
    refine hw σ H _ ⟨ρ,G,hs,ρ1,ds,o,r,e1,q,λH1 G1 a1 ho=>?_⟩
    have k1:FlowK K (takeOut o ρ1) σ H1 G1 ρf D fl:=FlowK.restore a1.rel ho q3 (k.pre (Aft.s r a1))
    have p0:LoopP K P C W one is cb (takeOut o ρ1) σ H1 G1 fl ρf ds 0 σ H1:=⟨takeOut o ρ1,G1,AftS.refl (takeOut_rel a1.rel).1,q2⟩
    refine ⟨λa vs hsrc hr=>?_,λa vs ht hr=>?_,λlo n hds=>?_,λa vs ds0 lo hds hsrc hr=>?_⟩
    ·refine for_list (K:=K) (a:=a) (xs:=vs) (LoopP K P C W one is cb (takeOut o ρ1) σ H1 G1 fl ρf ds) p0 (λi σ2 H2 _ ⟨ρ2,G2,b,_⟩=>hsrc.now b) (λi x σ2 H2 hx hp=>?_) (λσ2 H2 hp=>?_)
     ·have hl:i<ds.length:=by rw [← hr.len]; exact (List.getElem?_eq_some_iff.mp hx).1
      obtain ⟨x',h1,h2⟩:=hr.get (List.getElem?_eq_getElem hl)
      rw [hx] at h1; cases h1
      exact loop_turn k1 (List.getElem?_eq_getElem hl) h2 hp
     ·rw [hr.len] at hp
      exact loop_end k1 hp
    ·refine for_tup (K:=K) (a:=a) (xs:=vs) (LoopP K P C W one is cb (takeOut o ρ1) σ H1 G1 fl ρf ds) p0 (λi σ2 H2 _ ⟨ρ2,G2,b,_⟩=>sqT_mono b.rel.sub (sqT_mono b.ext.gg ht)) (λi x σ2 H2 hx hp=>?_) (λσ2 H2 hp=>?_)
     ·have hl:i<ds.length:=by rw [← hr.len]; exact (List.getElem?_eq_some_iff.mp hx).1
      obtain ⟨x',h1,h2⟩:=hr.get (List.getElem?_eq_getElem hl)
      rw [hx] at h1; cases h1
      exact loop_turn k1 (List.getElem?_eq_getElem hl) h2 hp
     ·rw [hr.len] at hp
      exact loop_end k1 hp
    ·have hlen:ds.length=n:=by rw [hds]; simp
     refine for_range (lo:=lo) (n:=n) (LoopP K P C W one is cb (takeOut o ρ1) σ H1 G1 fl ρf ds) p0 (λi σ2 H2 hi hp=>?_) (λσ2 H2 hp=>?_)
     ·have hd:ds[i]?=some (.int (lo+(i:Int))):=by rw [hds]; simp [hi]
      exact loop_turn k1 hd (by simp [Rep]) hp
     ·rw [← hlen] at hp
      exact loop_end k1 hp
    ·subst hds
     refine for_enum (K:=K) (a:=a) (xs:=vs) (LoopP K P C W one is cb (takeOut o ρ1) σ H1 G1 fl ρf (enumD lo ds0)) p0 (λi σ2 H2 _ ⟨ρ2,G2,b,_⟩=>hsrc.now b) (λi y p σ2 H2 hx hn hp=>?_) (λσ2 H2 hp=>?_)
     ·have hl:i<ds0.length:=by rw [← hr.len]; exact (List.getElem?_eq_some_iff.mp hx).1
      obtain ⟨x',h1,h2⟩:=hr.get (List.getElem?_eq_getElem hl)
      rw [hx] at h1; cases h1
      obtain ⟨ρ2,G2,b,e2⟩:=hp
      have b2:=b.trans (Aft.s b.rel ((Aft.refl b.rel).layG (o:=.tup [.int (lo+(i:Int)),y]) hn))
      exact loop_turn2 k1 (enumD_get (List.getElem?_eq_getElem hl)) ⟨ρ2,_,b2,enum_rep (Same.free b.rel.sub hn) (Rep.mono b.ext.gg _ h2),e2⟩
     ·rw [hr.len,← enumD_len] at hp
      exact loop_end k1 hp
end
section
variable {X:Cx} {K:PySem.W.Frag} {P:Pins} {C:Calls} {W:Nat} {Γ:CC}
theorem PI.or {tg it:Expr} {w w':TI} (h:PI X tg it w) (h':PI X tg it w'):PI X tg it (λσ H R=>w σ H R∨w' σ H R):=λpins s σ H R I q=>by
 rcases q with q | q
 ·exact h pins s σ H R I q
 ·exact h' pins s σ H R I q
theorem evHs1 {c:E} {ρ ρ1:Env} {hs:List Hd} (e:evHs P C [c] ρ=some (.ok hs,ρ1)):∃ h,hs=[h]∧hd c (ev P C false c ρ) ρ=some (.ok h,ρ1):=by
 rw [evHs] at e
 obtain ⟨h,ρ2,e1,e2⟩:=bind_ok e
 rw [evHs] at e2
 simp only [Res.bind] at e2
 cases e2
 exact ⟨h,rfl,e1⟩
theorem of_hw (hK:X.K=K) {c:E} (σ:St) (H:Hp) (R:It→Hp→Prop) (q:∃ (ρ:Env) (G:Hp) (hs:List Hd) (ρ1:Env) (ds:List D) (o:Option Nat),Rel K ρ σ H G∧evHs P C [c] ρ=some (.ok hs,ρ1)∧itemsOf .of hs ρ1=some (ds,o) ∧
   ∀ H1 G1,Aft K ρ σ H G ρ1 H1 G1→(∀ i,o=some i→∃ d p l,ρ1[i]?=some (.ow d p l)) →
    (∀ a vs,Src K (takeOut o ρ1) σ H1 G1 a vs→Reps K G1 ds vs→R (Itl K a) H1)∧(∀ a vs,SqT K G1 a vs→Reps K G1 ds vs→R (Itt K a) H1)∧(∀ (lo:Int) (n:Nat),ds=(List.range n).map (λ(j:Nat)=>D.int (lo+(j:Int)))→R (Itr lo n) H1)∧(∀ a vs ds0 lo,ds=enumD lo ds0→Src K (takeOut o ρ1) σ H1 G1 a vs→Reps K G1 ds0 vs→R (Ite K a lo) H1)) :
  iList X.K (tH K P C c) σ H R∨iTup X.K (tH K P C c) σ H R:=by
 obtain ⟨ρ,G,hs,ρ1,ds,o,r,e,ei,k⟩:=q
 obtain ⟨h,rfl,e1⟩:=evHs1 e
 rw [hK]
 cases h with
 | slot i =>
  simp only [itemsOf] at ei
  split at ei
  ·rename_i ds' p l hi
   cases ei
   refine .inl ⟨ρ,G,.slot i,ρ1,r,e1,λx H1 G1 a1 hx=>?_⟩
   have hx:σ[i]?=some (some x):=hx
   obtain ⟨b,h1,g,vs,hv,hr⟩:=a1.rel.ow i _ _ _ hi
   rw [hx] at h1; cases h1
   exact ⟨b,rfl,⟨vs,SqL.of hv⟩,(k H1 G1 a1 λj z=>by cases z; exact ⟨_,_,_,hi⟩).1 b vs (.inr ⟨hv,g,a1.rel.unset_not hi hx⟩) hr⟩
  ·rename_i ds' hi
   cases ei
   refine .inl ⟨ρ,G,.slot i,ρ1,r,e1,λx H1 G1 a1 hx=>?_⟩
   have hx:σ[i]?=some (some x):=hx
   obtain ⟨v,h1,h2⟩:=a1.rel.sh i _ hi
   rw [hx] at h1; cases h1
   simp only [Rep] at h2
   obtain ⟨b,vs,rfl,h3,h4⟩:=h2
   exact ⟨b,rfl,⟨vs,a1.rel.sub.seq h3⟩,(k H1 G1 a1 λj z=>by cases z).1 b vs (.inl h3) h4⟩
  ·rename_i ds' hi
   cases ei
   refine .inr ⟨ρ,G,.slot i,ρ1,r,e1,λx H1 G1 a1 hx=>?_⟩
   have hx:σ[i]?=some (some x):=hx
   obtain ⟨v,h1,h2⟩:=a1.rel.sh i _ hi
   rw [hx] at h1; cases h1
   simp only [Rep] at h2
   obtain ⟨b,vs,rfl,h3,h4⟩:=h2
   exact ⟨b,rfl,⟨vs,sqT_mono a1.rel.sub h3⟩,(k H1 G1 a1 λj z=>by cases z).2.1 b vs h3 h4⟩
  ·cases ei
 | val v =>
  simp only [itemsOf] at ei
  split at ei
  ·rename_i ds' hd
   cases ei
   refine .inl ⟨ρ,G,.val v,ρ1,r,e1,λx H1 G1 a1 hx=>?_⟩
   cases v with
   | sh d =>
    simp only [RV.d] at hd
    subst hd
    have hx:Rep K G1 (.lst ds) x:=hx
    simp only [Rep] at hx
    obtain ⟨b,vs,rfl,h3,h4⟩:=hx
    exact ⟨b,rfl,⟨vs,a1.rel.sub.seq h3⟩,(k H1 G1 a1 λj z=>by cases z).1 b vs (.inl h3) h4⟩
   | ow d =>
    simp only [RV.d] at hd
    subst hd
    obtain ⟨b,rfl,g,⟨vs,hv,hr⟩,n,m⟩:=hx
    exact ⟨b,rfl,⟨vs,SqL.of hv⟩,(k H1 G1 a1 λj z=>by cases z).1 b vs (.inr ⟨hv,g,n⟩) hr⟩
   | od d=>exact hx.elim
  ·rename_i ds' hd
   cases ei
   refine .inr ⟨ρ,G,.val v,ρ1,r,e1,λx H1 G1 a1 hx=>?_⟩
   cases v with
   | sh d =>
    simp only [RV.d] at hd
    subst hd
    have hx:Rep K G1 (.tup ds) x:=hx
    simp only [Rep] at hx
    obtain ⟨b,vs,rfl,h3,h4⟩:=hx
    exact ⟨b,rfl,⟨vs,sqT_mono a1.rel.sub h3⟩,(k H1 G1 a1 λj z=>by cases z).2.1 b vs h3 h4⟩
   | ow d =>
    simp only [RV.d] at hd
    subst hd
    obtain ⟨b,rfl,g,o,n,m⟩:=hx
    exact o.elim
   | od d=>exact hx.elim
  ·cases ei
theorem rng1_hw {c:E} (σ:St) (H:Hp) (R:It→Hp→Prop) (q:∃ (ρ:Env) (G:Hp) (hs:List Hd) (ρ1:Env) (ds:List D) (o:Option Nat),Rel K ρ σ H G∧evHs P C [c] ρ=some (.ok hs,ρ1)∧itemsOf .rng hs ρ1=some (ds,o) ∧
   ∀ H1 G1,Aft K ρ σ H G ρ1 H1 G1→(∀ i,o=some i→∃ d p l,ρ1[i]?=some (.ow d p l)) →
    (∀ a vs,Src K (takeOut o ρ1) σ H1 G1 a vs→Reps K G1 ds vs→R (Itl K a) H1)∧(∀ a vs,SqT K G1 a vs→Reps K G1 ds vs→R (Itt K a) H1)∧(∀ (lo:Int) (n:Nat),ds=(List.range n).map (λ(j:Nat)=>D.int (lo+(j:Int)))→R (Itr lo n) H1)∧(∀ a vs ds0 lo,ds=enumD lo ds0→Src K (takeOut o ρ1) σ H1 G1 a vs→Reps K G1 ds0 vs→R (Ite K a lo) H1)) :
  iRng1 (tHs K P C [c]) σ H R:=by
 obtain ⟨ρ,G,hs,ρ1,ds,o,r,e,ei,k⟩:=q
 refine ⟨ρ,G,hs,ρ1,r,e,λxs H1 G1 a1 hx=>?_⟩
 obtain ⟨h,rfl,e1⟩:=evHs1 e
 obtain ⟨x,r',rfl,h1,h2,_⟩:=hx
 cases (show r'=[] from h2)
 simp only [itemsOf] at ei
 split at ei
 ·rename_i n hn
  split at ei
  ·rename_i hb
   cases ei
   cases (h1.read a1.rel hn).int
   refine ⟨n,rfl,by omega,by omega,(k H1 G1 a1 λj z=>by cases z).2.2.1 0 n.toNat ?_⟩
   congr 1
   funext j
   rw [Int.zero_add]
  ·cases ei
 ·cases ei
theorem rng2_hw {c c2:E} (σ:St) (H:Hp) (R:It→Hp→Prop) (q:∃ (ρ:Env) (G:Hp) (hs:List Hd) (ρ1:Env) (ds:List D) (o:Option Nat),Rel K ρ σ H G∧evHs P C [c,c2] ρ=some (.ok hs,ρ1)∧itemsOf .rng hs ρ1=some (ds,o) ∧
   ∀ H1 G1,Aft K ρ σ H G ρ1 H1 G1→(∀ i,o=some i→∃ d p l,ρ1[i]?=some (.ow d p l)) →
    (∀ a vs,Src K (takeOut o ρ1) σ H1 G1 a vs→Reps K G1 ds vs→R (Itl K a) H1)∧(∀ a vs,SqT K G1 a vs→Reps K G1 ds vs→R (Itt K a) H1)∧(∀ (lo:Int) (n:Nat),ds=(List.range n).map (λ(j:Nat)=>D.int (lo+(j:Int)))→R (Itr lo n) H1)∧(∀ a vs ds0 lo,ds=enumD lo ds0→Src K (takeOut o ρ1) σ H1 G1 a vs→Reps K G1 ds0 vs→R (Ite K a lo) H1)) :
  iRng2 (tHs K P C [c,c2]) σ H R:=by
 obtain ⟨ρ,G,hs,ρ1,ds,o,r,e,ei,k⟩:=q
 refine ⟨ρ,G,hs,ρ1,r,e,λxs H1 G1 a1 hx=>?_⟩
 rw [evHs] at e
 obtain ⟨h,ρ2,e1,e2⟩:=bind_ok e
 obtain ⟨hs',ρ3,e3,e4⟩:=bind_ok e2
 obtain ⟨h',rfl,e5⟩:=evHs1 e3
 cases e4
 obtain ⟨x,r',rfl,h1,h2,_⟩:=hx
 obtain ⟨y,r'',rfl,h3,h4,_⟩:=h2
 cases (show r''=[] from h4)
 simp only [itemsOf] at ei
 split at ei
 ·rename_i m n hm hn
  split at ei
  ·rename_i hb
   cases ei
   cases (h1.read a1.rel hm).int
   cases (h3.read a1.rel hn).int
   exact ⟨m,n,rfl,by omega,(k H1 G1 a1 λj z=>by cases z).2.2.1 m (n - m).toNat rfl⟩
  ·cases ei
 ·cases ei
theorem enum_hw (hK:X.K=K) {c:E} {lo:Int} (σ:St) (H:Hp) (R:It→Hp→Prop) (q:∃ (ρ:Env) (G:Hp) (hs:List Hd) (ρ1:Env) (ds:List D) (o:Option Nat),Rel K ρ σ H G∧evHs P C [c] ρ=some (.ok hs,ρ1)∧itemsOf (.enum lo) hs ρ1=some (ds,o) ∧
   ∀ H1 G1,Aft K ρ σ H G ρ1 H1 G1→(∀ i,o=some i→∃ d p l,ρ1[i]?=some (.ow d p l)) →
    (∀ a vs,Src K (takeOut o ρ1) σ H1 G1 a vs→Reps K G1 ds vs→R (Itl K a) H1)∧(∀ a vs,SqT K G1 a vs→Reps K G1 ds vs→R (Itt K a) H1)∧(∀ (lo:Int) (n:Nat),ds=(List.range n).map (λ(j:Nat)=>D.int (lo+(j:Int)))→R (Itr lo n) H1)∧(∀ a vs ds0 lo,ds=enumD lo ds0→Src K (takeOut o ρ1) σ H1 G1 a vs→Reps K G1 ds0 vs→R (Ite K a lo) H1)) :
  iEnum X.K lo (tHs K P C [c]) σ H R:=by
 obtain ⟨ρ,G,hs,ρ1,ds,o,r,e,ei,k⟩:=q
 rw [hK]
 refine ⟨ρ,G,hs,ρ1,r,e,λxs H1 G1 a1 hxs=>?_⟩
 obtain ⟨h,rfl,e1⟩:=evHs1 e
 obtain ⟨x,r',rfl,hx,h2,_⟩:=hxs
 cases (show r'=[] from h2)
 cases h with
 | slot i =>
  simp only [itemsOf] at ei
  have hx:σ[i]?=some (some x):=hx
  split at ei
  ·rename_i ds' p l hi
   cases ei
   obtain ⟨b,h1,g,vs,hv,hr⟩:=a1.rel.ow i _ _ _ hi
   rw [hx] at h1; cases h1
   exact ⟨b,rfl,⟨vs,SqL.of hv⟩,(k H1 G1 a1 λj z=>by cases z; exact ⟨_,_,_,hi⟩).2.2.2 b vs _ lo rfl (.inr ⟨hv,g,a1.rel.unset_not hi hx⟩) hr⟩
  ·rename_i ds' hi
   cases ei
   obtain ⟨v,h1,h2⟩:=a1.rel.sh i _ hi
   rw [hx] at h1; cases h1
   simp only [Rep] at h2
   obtain ⟨b,vs,rfl,h3,h4⟩:=h2
   exact ⟨b,rfl,⟨vs,a1.rel.sub.seq h3⟩,(k H1 G1 a1 λj z=>by cases z).2.2.2 b vs _ lo rfl (.inl h3) h4⟩
  ·cases ei
 | val v =>
  simp only [itemsOf] at ei
  split at ei
  ·rename_i ds' hd
   cases ei
   cases v with
   | sh d =>
    simp only [RV.d] at hd
    subst hd
    have hx:Rep K G1 (.lst ds') x:=hx
    simp only [Rep] at hx
    obtain ⟨b,vs,rfl,h3,h4⟩:=hx
    exact ⟨b,rfl,⟨vs,a1.rel.sub.seq h3⟩,(k H1 G1 a1 λj z=>by cases z).2.2.2 b vs _ lo rfl (.inl h3) h4⟩
   | ow d =>
    simp only [RV.d] at hd
    subst hd
    obtain ⟨b,rfl,g,⟨vs,hv,hr⟩,n,m⟩:=hx
    exact ⟨b,rfl,⟨vs,SqL.of hv⟩,(k H1 G1 a1 λj z=>by cases z).2.2.2 b vs _ lo rfl (.inr ⟨hv,g,n⟩) hr⟩
   | od d=>exact hx.elim
  ·cases ei
theorem folded_ok {e:Expr} (h:notSet e=true) (env:PySem.Env):∀ x,foldedSetIterable e env x=pure x:=λx=>by
 cases e <;> first | rfl | cases h
theorem tgOf_ok (xo:XOk X K P C Γ) (hfn:∀ x,Γ.isLoc x=true→X.fn x=true∨X.env.scope.names.lookup x=some .local) {tg:Expr} {one:Bool} {is:List Nat} (h:tgOf Γ tg=some (one,is)):PG X tg (gB K one is):=by
 cases tg <;> simp only [tgOf,reduceCtorEq] at h
 ·rename_i x pos
  cases q:Γ.slotL x with
  | none=>rw [q] at h; cases h
  | some i=>rw [q] at h; cases h; exact pg_one (slotL_ok xo hfn q)
 ·rename_i es k0 pos
  cases q:tgNames Γ es with
  | none=>rw [q] at h; cases h
  | some is' =>
   rw [q] at h
   cases h
   obtain ⟨h1,h2,h3,h4⟩:=tgNames_ok xo hfn q
   exact pg_many xo h1 h2 h3
end
section
variable {K:PySem.W.Frag} {σ σ':St} {H G H' G':Hp}
theorem pad_get {as:List Sl} {n i:Nat} {s:Sl} (h:(as ++ List.replicate n Sl.un)[i]?=some s):(as[i]?=some s)∨(as.length≤i∧s=.un):=by
 by_cases hl:i<as.length
 ·rw [List.getElem?_append_left hl] at h; exact .inl h
 ·rw [List.getElem?_append_right (by omega),List.getElem?_replicate] at h
  split at h
  ·cases h; exact .inr ⟨by omega,rfl⟩
  ·cases h
theorem start_get {N:List Str} {vs:List V} {i:Nat} (h:i<vs.length):(L2.start N vs)[i]?=(vs.map some)[i]?:=by
 unfold L2.start
 rw [List.getElem?_append_left (by rw [List.length_map]; exact h)]
theorem Rel.pad {as:List Sl} {vs:List V} {N:List Str} {n:Nat} (r:Rel K as (vs.map some) H G) (hn:N.length=as.length+n):Rel K (as ++ List.replicate n .un) (L2.start N vs) H G∧∀ a,Own (as ++ List.replicate n .un) (L2.start N vs) a→Own as (vs.map some) a:=by
 have hl:as.length=vs.length:=by have:=r.len; rwa [List.length_map] at this
 have st:∀ i:Nat,i<as.length→(L2.start N vs)[i]?=(vs.map some)[i]?:=λi h=>start_get (by omega)
 have lt:∀ {i:Nat} {s:Sl},as[i]?=some s→i<as.length:=λh=>(List.getElem?_eq_some_iff.mp h).1
 refine ⟨⟨by unfold L2.start; simp; omega,r.sub,λi d h=>?_,λi d p l h=>?_,λi j d p l d' p' l' a h1 h2 h3 h4=>?_⟩,λa ⟨i,d,p,l,h1,h2⟩=>?_⟩
 ·rcases pad_get h with h | ⟨_,h⟩
  ·rw [st i (lt h)]; exact r.sh i d h
  ·cases h
 ·rcases pad_get h with h | ⟨_,h⟩
  ·rw [st i (lt h)]; exact r.ow i d p l h
  ·cases h
 ·rcases pad_get h1 with h1 | ⟨_,h1⟩
  ·rcases pad_get h2 with h2 | ⟨_,h2⟩
   ·rw [st i (lt h1)] at h3
    rw [st j (lt h2)] at h4
    exact r.inj _ _ _ _ _ _ _ _ _ h1 h2 h3 h4
   ·cases h2
  ·cases h1
 ·rcases pad_get h1 with h1 | ⟨_,h1⟩
  ·rw [st i (lt h1)] at h2
   exact ⟨i,d,p,l,h1,h2⟩
  ·cases h1
theorem back_get:∀ {as:List Sl} {ρ:Env} (i:Nat),as.length≤ρ.length→(back as ρ)[i]?=(as[i]?).bind λa=>match a with | .ow _ _ _=>ρ[i]? | a=>some a
 | [],ρ,i,_=>by cases ρ <;> simp [back]
 | a :: as,[],i,h=>by simp at h
 | a :: as,b :: ρ,i,h=>by
  have ih:=λj=>back_get (as:=as) (ρ:=ρ) j (by simpa using h)
  cases i with
  | zero=>cases a <;> simp [back]
  | succ i=>cases a <;> simp [back,ih i]
theorem back_aft {as:List Sl} {vs:List V} {N:List Str} {n:Nat} {ρ':Env} (r:Rel K as (vs.map some) H G) (hp:as.all pinOk=true) (hn:N.length=as.length+n)
  (a:AftS K (as ++ List.replicate n .un) (L2.start N vs) H G ρ' σ' H' G'):Aft K as (vs.map some) H G (back as ρ') H' G'∧∀ c,Own (back as ρ') (vs.map some) c→Own ρ' σ' c:=by
 have hl:as.length=vs.length:=by have:=r.len; rwa [List.length_map] at this
 have lt:∀ {i:Nat} {s:Sl},as[i]?=some s→i<as.length:=λh=>(List.getElem?_eq_some_iff.mp h).1
 have st:∀ i:Nat,i<as.length→(L2.start N vs)[i]?=(vs.map some)[i]?:=λi h=>start_get (by omega)
 have hlen:as.length≤ρ'.length:=by rw [a.len,List.length_append]; omega
 have at0:∀ {i:Nat} {s:Sl},as[i]?=some s→(as ++ List.replicate n .un)[i]?=some s:=λh=>by rw [List.getElem?_append_left (lt h)]; exact h
 have pin:∀ (i:Nat) d p l,as[i]?=some (.ow d p l)→p=true∧σ'[i]?=(vs.map some)[i]?∧∃ d',ρ'[i]?=some (.ow d' true l):=λi d p l h=>by
  have h1:=List.all_eq_true.mp hp _ (List.mem_of_getElem? h)
  simp only [pinOk] at h1
  subst h1
  obtain ⟨h2,d',h3⟩:=a.pin i d l (at0 h)
  exact ⟨rfl,h2.trans (st i (lt h)),d',h3⟩
 have oth:∀ {i:Nat} {s:Sl},(back as ρ')[i]?=some s→(∃ d d' l,as[i]?=some (.ow d true l)∧s=.ow d' true l∧ρ'[i]?=some s∧σ'[i]?=(vs.map some)[i]?)∨(as[i]?=some s∧∀ d p l,s≠.ow d p l):=λ{i s} h=>by
  rw [back_get i hlen] at h
  cases e:as[i]? with
  | none=>rw [e] at h; cases h
  | some b =>
   rw [e] at h
   cases b with
   | ow d p l =>
    obtain ⟨rfl,h1,d',h2⟩:=pin i d p l e
    simp only [Option.bind_some] at h
    rw [h2] at h
    cases h
    exact .inl ⟨d,d',l,rfl,rfl,h2,h1⟩
   | un=>cases h; exact .inr ⟨rfl,λd p l z=>nomatch z⟩
   | mv=>cases h; exact .inr ⟨rfl,λd p l z=>nomatch z⟩
   | sh d=>cases h; exact .inr ⟨rfl,λd p l z=>nomatch z⟩
 have blen:(back as ρ').length=as.length:=by
  apply Nat.le_antisymm
  ·refine Nat.le_of_not_lt λz=>?_
   have:=back_get (as:=as) (ρ:=ρ') as.length hlen
   rw [List.getElem?_eq_getElem z,List.getElem?_eq_none (Nat.le_refl _)] at this
   cases this
  ·refine Nat.le_of_not_lt λz=>?_
   have h1:=back_get (as:=as) (ρ:=ρ') (back as ρ').length hlen
   rw [List.getElem?_eq_none (Nat.le_refl _),List.getElem?_eq_getElem z] at h1
   cases e:as[(back as ρ').length] with
   | ow d p l =>
    have e':as[(back as ρ').length]?=some (.ow d p l):=by rw [List.getElem?_eq_getElem z,e]
    obtain ⟨_,_,d',h2⟩:=pin _ d p l e'
    rw [e] at h1
    simp only [Option.bind_some] at h1
    rw [h2] at h1
    cases h1
   | un=>rw [e] at h1; cases h1
   | mv=>rw [e] at h1; cases h1
   | sh d=>rw [e] at h1; cases h1
 refine ⟨⟨⟨by rw [blen]; exact r.len,a.rel.sub,λi d h=>?_,λi d p l h=>?_,λi j d p l d' p' l' c h1 h2 h3 h4=>?_⟩,a.ext.weaken λc z=>(r.pad hn).2 c z,λi=>?_⟩,λc ⟨i,d,p,l,h1,h2⟩=>?_⟩
 ·rcases oth h with ⟨_,_,_,_,z,_,_⟩ | ⟨z,_⟩
  ·cases z
  ·obtain ⟨v,h1,h2⟩:=r.sh i d z
   exact ⟨v,h1,Rep.mono a.ext.gg d h2⟩
 ·rcases oth h with ⟨d0,d',l',h1,h2,h3,h4⟩ | ⟨_,z⟩
  ·rw [← h4]; exact a.rel.ow i d p l h3
  ·exact absurd rfl (z d p l)
 ·rcases oth h1 with ⟨_,_,_,_,_,z3,z4⟩ | ⟨_,z⟩
  ·rcases oth h2 with ⟨_,_,_,_,_,w3,w4⟩ | ⟨_,w⟩
   ·rw [← z4] at h3
    rw [← w4] at h4
    exact a.rel.inj _ _ _ _ _ _ _ _ _ z3 w3 h3 h4
   ·exact absurd rfl (w _ _ _)
  ·exact absurd rfl (z _ _ _)
 ·rw [back_get i hlen]
  cases e:as[i]? with
  | none=>trivial
  | some b =>
   cases b with
   | ow d p l =>
    obtain ⟨rfl,_,d',h2⟩:=pin i d p l e
    simp only [Option.bind_some]
    rw [h2]
    exact ⟨rfl,rfl⟩
   | un=>trivial
   | mv=>trivial
   | sh d=>trivial
 ·rcases oth h1 with ⟨_,_,_,_,_,z3,z4⟩ | ⟨_,z⟩
  ·rw [← z4] at h2
   exact ⟨i,d,p,l,z3,h2⟩
  ·exact absurd rfl (z _ _ _)
end
end CI
namespace L2
open PySem PySem.Spec PyProof.Rows
theorem lookup_mem {α β:Type} [BEq α] [LawfulBEq α]:∀ {l:List (α × β)} {x:α} {k:β},l.lookup x=some k→(x,k)∈l
 | [],x,k,h=>by simp at h
 | (y,k') :: r,x,k,h=>by
  rw [List.lookup_cons] at h
  split at h
  ·rename_i e
   have e:=eq_of_beq e
   subst e
   cases h
   exact List.mem_cons_self
  ·exact List.mem_cons_of_mem _ (lookup_mem h)
theorem clos_ok {env:PySem.Env} {scope:Scope} (h:∀ p∈scope.names,p.2=.free→∃ c,env.cells.lookup p.1=some c) :
  ∃ cl,closureFor scope env=pure cl∧(∀ x c,cl.lookup x=some c→env.cells.lookup x=some c)∧∀ p∈scope.names,p.2=.free→∃ c,cl.lookup p.1=some c:=by
 have key:∀ (names:List (Str × NameKind)) (acc:List (Str × Addr)),(∀ p∈names,p.2=.free→∃ c,env.cells.lookup p.1=some c)→(∀ x c,acc.lookup x=some c→env.cells.lookup x=some c) →
   ∃ cl,(forIn names acc λ(p:Str × NameKind) (cs:List (Str × Addr))=>(if (p.2 == NameKind.free)=true then do let a ← cellOf env p.1; pure (ForInStep.yield ((p.1,a) :: cs)) else pure (ForInStep.yield cs):Sem _))=pure cl ∧
    (∀ x c,cl.lookup x=some c→env.cells.lookup x=some c)∧(∀ p∈names,p.2=.free→∃ c,cl.lookup p.1=some c)∧∀ x c,acc.lookup x=some c→∃ c',cl.lookup x=some c':=by
  intro names
  induction names with
  | nil=>intro acc _ h2; exact ⟨acc,by simp,h2,λp hp=>(nomatch hp),λx c e=>⟨c,e⟩⟩
  | cons p r ih =>
   intro acc h1 h2
   by_cases hp:p.2=.free
   ·obtain ⟨c,hc⟩:=h1 p List.mem_cons_self hp
    have e:cellOf env p.1=pure c:=by unfold cellOf; rw [hc]
    obtain ⟨cl,q1,q2,q3,q4⟩:=ih ((p.1,c) :: acc) (λq hq=>h1 q (List.mem_cons_of_mem _ hq)) (λx c' z=>by
     rw [List.lookup_cons] at z
     split at z
     ·rename_i w; rw [eq_of_beq w,hc]; exact z
     ·exact h2 x c' z)
    refine ⟨cl, ?_,q2,λq hq hf=>?_,λx c' z=>?_⟩
    ·rw [List.forIn_cons]
     have hb:(p.2 == NameKind.free)=true:=by rw [hp]; rfl
     rw [if_pos hb,e]
     simp only [pure_bind]
     exact q1
    ·rcases List.mem_cons.mp hq with w | w
     ·subst w
      exact q4 q.1 c (by rw [List.lookup_cons]; simp)
     ·exact q3 q w hf
    ·by_cases w:x=p.1
     ·subst w
      exact q4 p.1 c (by rw [List.lookup_cons]; simp)
     ·refine q4 x c' ?_
      rw [List.lookup_cons]
      have:(x == p.1)=false:=beq_eq_false_iff_ne.mpr w
      rw [this]
      exact z
   ·obtain ⟨cl,q1,q2,q3,q4⟩:=ih acc (λq hq=>h1 q (List.mem_cons_of_mem _ hq)) h2
    refine ⟨cl, ?_,q2,λq hq hf=>?_,q4⟩
    ·rw [List.forIn_cons]
     have hb:¬ (p.2 == NameKind.free)=true:=by simpa using hp
     rw [if_neg hb]
     simp only [pure_bind]
     exact q1
    ·rcases List.mem_cons.mp hq with w | w
     ·subst w; exact absurd hf hp
     ·exact q3 q w hf
 obtain ⟨cl,q1,q2,q3,_⟩:=key scope.names [] h (λx c e=>by simp at e)
 refine ⟨cl, ?_,q2,q3⟩
 unfold closureFor
 have:(forIn scope.names ([]:List (Str × Addr)) λ(x:Str × NameKind) (r:List (Str × Addr))=>(match x with | (name,kind)=>if (kind == NameKind.free)=true then do let a ← cellOf env name; pure (ForInStep.yield ((name,a) :: r)) else pure (ForInStep.yield r):Sem _))=pure cl:=q1
 simp only [this,pure_bind,bind_pure]
 first | rfl | (rw [this]; rfl) | skip
theorem relabel_inv {env:PySem.Env}:∀ {names:List (Str × NameKind)} {x:Str} {k':NameKind},
  (names.map λ(n,k)=>if (k == NameKind.free && env.scope.kind == .function && env.kindOf n == some .cell) then (n,NameKind.cell) else (n,k)).lookup x=some k'→∃ k,names.lookup x=some k∧(k'=k∨(k=.free∧k'=.cell))
 | [],x,k',h=>by simp at h
 | (n,k) :: r,x,k',h=>by
  have ih:=@relabel_inv env r x k'
  have h':List.lookup x ((if (k == NameKind.free && env.scope.kind == .function && env.kindOf n == some .cell)=true then (n,NameKind.cell) else (n,k)) :: (r.map λ(n,k)=>if (k == NameKind.free && env.scope.kind == .function && env.kindOf n == some .cell) then (n,NameKind.cell) else (n,k)))=some k':=h
  by_cases hc:(k == NameKind.free && env.scope.kind == .function && env.kindOf n == some .cell)=true
  ·rw [if_pos hc] at h'
   rw [List.lookup_cons] at h' ⊢
   cases hx:x == n with
   | true=>rw [hx] at h'; cases h'; simp only [Bool.and_eq_true,beq_iff_eq] at hc; exact ⟨k,rfl,.inr ⟨hc.1.1,rfl⟩⟩
   | false=>rw [hx] at h'; exact ih h'
  ·rw [if_neg hc] at h'
   rw [List.lookup_cons] at h' ⊢
   cases hx:x == n with
   | true=>rw [hx] at h'; cases h'; exact ⟨k,rfl,.inl rfl⟩
   | false=>rw [hx] at h'; exact ih h'
theorem relabel_free {env:PySem.Env}:∀ {names:List (Str × NameKind)} {x:Str},names.lookup x=some .free →
  (names.map λ(n,k)=>if (k == NameKind.free && env.scope.kind == .function && env.kindOf n == some .cell) then (n,NameKind.cell) else (n,k)).lookup x=some .cell ∨
  (names.map λ(n,k)=>if (k == NameKind.free && env.scope.kind == .function && env.kindOf n == some .cell) then (n,NameKind.cell) else (n,k)).lookup x=some .free
 | [],x,h=>by simp at h
 | (n,k) :: r,x,h=>by
  have ih:=@relabel_free env r x
  show List.lookup x ((if (k == NameKind.free && env.scope.kind == .function && env.kindOf n == some .cell)=true then (n,NameKind.cell) else (n,k)) :: _)=_∨List.lookup x ((if (k == NameKind.free && env.scope.kind == .function && env.kindOf n == some .cell)=true then (n,NameKind.cell) else (n,k)) :: _)=_
  rw [List.lookup_cons] at h
  by_cases hc:(k == NameKind.free && env.scope.kind == .function && env.kindOf n == some .cell)=true
  ·rw [if_pos hc,List.lookup_cons]
   cases hx:x == n with
   | true=>exact .inl rfl
   | false=>rw [hx] at h; exact ih h
  ·rw [if_neg hc,List.lookup_cons]
   cases hx:x == n with
   | true=>rw [hx] at h; exact .inr h
   | false=>rw [hx] at h; exact ih h
theorem compLoop_any {prog:Program} {w:World} {A:Around} {R:Result→Shared→Prop} {s:Shared} {elt target iter:Expr} {ifs:List Expr} {scope:Scope} {pos:Pos} {it acc:Value} {env:PySem.Env} (I:Nat→Shared→Prop)
  (turn:∀ n s,I n s→wpAny (model prog w) A (pyNext it) (λr s₁=>match r with
   | none=>R (.ok .next) s₁
   | some v=>wpAny (model prog w) A (letOwnedTupleGo target it v) (λ_ s₁=>wpAny (model prog w) A (assign target env v) (λ_ s₂ =>
     wpAny (model prog w) A (forIn ifs true λc r=>if r=true then do let ok ← isTrue c env (eval c env); pure (ForInStep.yield ok) else pure (ForInStep.yield r)) (λok s₃ =>
      if ok=true then wpAny (model prog w) A (eval elt env) (λx s₄ =>
       wpAny (model prog w) A (call (.builtin "list.append") [acc,x]) (λ_ s₅=>∃ m,m<n∧I m s₅) (notedBy (model prog w) A env λe s'=>R (.error e) s') s₄) (notedBy (model prog w) A env λe s'=>R (.error e) s') s₃
      else ∃ m,m<n∧I m s₃) (notedBy (model prog w) A env λe s'=>R (.error e) s') s₂) (notedBy (model prog w) A env λe s'=>R (.error e) s') s₁) (notedBy (model prog w) A env λe s'=>R (.error e) s') s₁) (notedBy (model prog w) A env λe s'=>R (.error e) s') s)
  (n:Nat) (h:I n s):codeAny (model prog w) A (.compLoop (.ListComp elt [⟨target,iter,ifs,0⟩] scope pos) 0 it acc env) R s:=by
 refine codeAny_loop rfl I (λn s hI=>?_) n h
 show wpAny _ A ((compTurn (.ListComp elt [⟨target,iter,ifs,0⟩] scope pos) 0 it acc env).onRaise (λx=>do noteFrame x env; theTreesLotGoes x)) _ _ s
 refine wpAny_noted ?_
 rw [compTurn_list]
 refine wpAny_bind (wpAny_standAt (wpAny_bind (wpAny_mono (turn n s hI) (λr s₁ h₁=>?_) λ_ _ h'=>h')))
 cases r with
 | none=>exact wpAny_pure h₁
 | some v =>
  refine wpAny_bind (wpAny_mono h₁ (λ_ s₁' h₁'=>?_) λ_ _ h'=>h')
  refine wpAny_bind (wpAny_mono h₁' (λ_ s₂ h₂=>wpAny_bind (wpAny_mono h₂ (λok s₃ h₃=>?_) λ_ _ h'=>h')) λ_ _ h'=>h')
  cases ok with
  | false=>exact wpAny_pure ⟨rfl,h₃⟩
  | true =>
   exact wpAny_bind (wpAny_bind (wpAny_mono h₃ (λx s₄ h₄=>wpAny_bind (wpAny_mono h₄ (λ_ s₅ h₅=>wpAny_pure (wpAny_pure ⟨rfl,h₅⟩)) λ_ _ h'=>h')) λ_ _ h'=>h'))
noncomputable def blk (X:Cx) (scope:Scope) (cl:List (Str × Addr)) (C:Addr) (N':List Str) (s₃:Shared) (H₃:Hp) (fp:List Addr) (xe:Value→Shared→Prop):Cx :=
 { X with N:=N',s₀:=s₃,H₀:=H₃,env:=compEnvC scope cl C X.env,outer:=X.stack,stack:=X.stack,ex:=fp,fn:=λ_=>false,pn:=[],xe:=xe }
def Blk (X:Cx) (scope:Scope) (N':List Str) (X':Cx):Prop:=∃ cl C s₃ H₃ fp xe,X'=blk X scope cl C N' s₃ H₃ fp xe
section
variable {X:Cx} {pins:List (Addr × Obj)} {σ:St} {H:Hp} {s:Shared}
theorem start_at {N:List Str} {vs:List V} {i:Nat} {v:V} (h:(start N vs)[i]?=some (some v)):vs[i]?=some v:=by
 unfold start at h
 by_cases hl:i<vs.length
 ·rw [List.getElem?_append_left (by rw [List.length_map]; exact hl),List.getElem?_map,List.getElem?_eq_getElem hl] at h
  rw [List.getElem?_eq_getElem hl]
  simpa using h
 ·rw [List.getElem?_append_right (by rw [List.length_map]; omega),List.getElem?_replicate] at h
  split at h
  ·cases h
  ·cases h
theorem Inv.block {scope:Scope} {cl:List (Str × Addr)} {N':List Str} {fp:List Addr} {xe:Value→Shared→Prop} {vs:List V} {h₄:Heap} {tk:Nat} {ob:Obj} (I:Inv X pins σ H s)
  (hkind:scope.kind=.function) (hcell:∀ y∈scope.names,y.2≠.cell) (sub:∀ x c,cl.lookup x=some c→X.env.cells.lookup x=some c) (hasF:∀ p∈scope.names,p.2=.free→∃ c,cl.lookup p.1=some c)
  (hfk:∀ p∈scope.names,p.2=.free→X.env.kindOf p.1=some .cell∨X.env.kindOf p.1=some .free)
  (hf:∀ b∈fp,FpOk X pins H b) (hfo:∀ b∈fp,b<s.heap.objs.size) (hvl:vs.length≤N'.length)
  (himp:∀ (i:Nat) x v,N'[i]?=some x→vs[i]?=some v→∃ j:Nat,X.N[j]?=some x∧σ[j]?=some (some v)∧scope.names.lookup x=some .free)
  (m:Str→Option Value) (hns:h₄.Ns s.heap.objs.size m) (hsb:Heap.SameBut s.heap.objs.size (s.heap.push ob) h₄) :
  Inv (blk X scope cl s.heap.objs.size N' s H fp xe) [] (start N' vs) H { s with heap:=h₄,toks:=tk }:=by
 have old:∀ b o,s.heap.get? b=some o→h₄.get? b=some o:=λb o e=>(hsb.2 b (Nat.ne_of_lt (Heap.lt_size e))).trans (Heap.get?_push_of_some _ e)
 have freeOf:∀ x,(relabel scope X.env).names.lookup x=some .cell∨(relabel scope X.env).names.lookup x=some .free→scope.names.lookup x=some .free:=λx hx=>by
  rcases hx with hx | hx
  ·obtain ⟨k,h1,h2⟩:=relabel_inv (env:=X.env) hx
   rcases h2 with h2 | ⟨h2,_⟩
   ·subst h2; exact absurd rfl (hcell _ (lookup_mem h1))
   ·subst h2; exact h1
  ·obtain ⟨k,h1,h2⟩:=relabel_inv (env:=X.env) hx
   rcases h2 with h2 | ⟨_,h2⟩
   ·subst h2; exact h1
   ·cases h2
 have ok:(blk X scope cl s.heap.objs.size N' s H fp xe).Ok:=by
  refine ⟨I.ok.mod,hkind,I.ok.glob,I.ok.blt,Nat.le_refl _,λx y c h1 h2=>I.ok.inj x y c (sub x c h1) (sub y c h2),λx hx=>?_,λx c h=>(nomatch h),I.ok.hd,I.ok.frames,.inl rfl,λb hb=>⟨Nat.ne_of_lt (hfo b hb),λx c e=>(hf b hb).2.2.2.2.1 x c (sub x c e)⟩,λb o e=>I.bs b o e,Nat.le_trans I.ok.bsz I.sz,λb o e hb=>?_,λb hb z=>?_,I.stack,I.stkFree⟩
  ·exact hasF (x,.free) (lookup_mem (freeOf x hx)) rfl
  ·rcases (hf b hb).2.2.2.1 with z | z
   ·exact I.ok.noex b o e z
   ·rw [(I.ok.bs b o e).1] at z; cases z
  ·rcases List.mem_cons.mp (I.stkSub b z) with z | z
   ·exact (hf b hb).2.1 z
   ·exact (hf b hb).2.2.1 z
 refine ⟨ok,rfl,I.bare,Un.kept old,⟨m,hns,λi x v e1 e2 e3=>?_⟩,λx c e=>?_,I.hok.fresh (Nat.le_refl _),λx c e=>I.freeC x c (sub x c e),λp hp=>(nomatch hp),I.hok.kept old, ?_⟩
 ·obtain ⟨j,h1,h2,h3⟩:=himp i x v e1 (start_at e2)
  have hk:=hfk (x,.free) (lookup_mem h3) rfl
  obtain ⟨m0,hn0,hl⟩:=I.loc
  obtain ⟨u,r,lk⟩:=hl j x v h1 h2 (.inr hk)
  refine ⟨u,r, ?_⟩
  rcases lk with ⟨k,_⟩ | ⟨k,c,e,z⟩
  ·rcases hk with hk | hk
   ·rw [hk] at k; cases k
   ·rw [hk] at k; cases k
  ·obtain ⟨c',hc'⟩:=hasF (x,.free) (lookup_mem h3) rfl
   have ec:=sub x c' hc'
   rw [e] at ec
   cases ec
   obtain ⟨o,ho,hd⟩:=z
   exact .inr ⟨relabel_free (env:=X.env) h3,c,hc',o,old c o ho,hd⟩
 ·obtain ⟨v,o,ho,hd⟩:=I.cell x c (sub x c e)
  exact ⟨v,o,old c o ho,hd⟩
 ·show (start N' vs).length=N'.length
  unfold start
  simp
  omega
def PTs (X:Cx) (ifs:List Expr) (t:TT):Prop:=∀ (pins:List (Addr × Obj)) (s:Shared) (σ:St) (H:Hp) (Q:Bool→Hp→Prop),Inv X pins σ H s→t σ H Q →
 wpAny (model X.prog X.w) X.A (forIn ifs true λc r=>if r=true then do let ok ← isTrue c X.env (eval c X.env); pure (ForInStep.yield ok) else pure (ForInStep.yield r)) (TP X pins σ Q) X.xe s
theorem pts_nil:PTs X [] (λσ H Q=>Q true H):=λpins s σ H Q I h=>wpAny_tests_nil ⟨H,I,h⟩
theorem pts_one {c:Expr} {t:TT} (h:PT X c t):PTs X [c] t:=λpins s σ H Q I q=>wpAny_tests_one (h pins s σ H Q I q)
def tCompJ (N:List Str) (scope:Scope) (N':List Str) (g:TG) (tt:TT) (te:TE) (σ:St) (Q:VK) (J:It) (H1:Hp):Prop:=∃ vs:List V,vs.length≤N'.length ∧
 (∀ (i:Nat) x v,N'[i]?=some x→vs[i]?=some v→∃ j:Nat,N[j]?=some x∧σ[j]?=some (some v)∧scope.names.lookup x=some .free) ∧
 ∀ D,H1 D=none→∃ (n:Nat) (LP:Nat→St→Hp→Prop),LP 0 (start N' vs) (upd H1 D (.lst []))∧∀ i σ' H',LP i σ' H' →
  (J.stop i H'∧Q (.ref D) H')∨(i<n∧J.go i H'∧∀ x H2,J.yld i H' x H2→g x σ' H2 λσ2 H3=>tt σ2 H3 λb H4 =>
   if b=true then te σ2 H4 λy H5=>∃ ys,H5 D=some (.lst ys)∧ys.length<sizeLine∧LP (i+1) σ2 (upd H5 D (.lst (ys ++ [y]))) else LP (i+1) σ2 H4)
noncomputable def tComp (N:List Str) (scope:Scope) (N':List Str) (wi:TI) (g:TG) (tt:TT) (te:TE):TE:=λσ H Q=>wi σ H (tCompJ N scope N' g tt te σ Q)
theorem comp_core {use:Option (Value→Sem Unit)} {QF:Value→Shared→Prop} {ps:Pos} {Q:VK} {elt tg iter:Expr} {ifs:List Expr} {scope:Scope} {pos:Pos} {N':List Str} {wi:TI} {g:TG} {tt:TT} {te:TE} (hc:X.calm=true) (hi:PI X tg iter wi) (hs:∀ x,foldedSetIterable iter X.env x=pure x)
  (hkind:scope.kind=.function) (hcell:∀ y∈scope.names,y.2≠.cell) (hnames:∀ x∈scope.names,x.2=.local→scope.names.lookup x.1=some .local)
  (hfk:∀ p∈scope.names,p.2=.free→X.env.kindOf p.1=some .cell∨X.env.kindOf p.1=some .free)
  (hg:∀ X',Blk X scope N' X'→PG X' tg g) (ht:∀ X',Blk X scope N' X'→PTs X' ifs tt) (he:∀ X',Blk X scope N' X'→PE X' elt te) (I:Inv X pins σ H s) (h:tComp X.N scope N' wi g tt te σ H Q)
  (fin:∀ (D C:Addr) (H':Hp) (s':Shared),Inv X pins σ H' s'→Q (.ref D) H'→H' C=none→X.s₀.heap.objs.size≤C→C≠X.env.locals→(∀ x c,X.env.cells.lookup x=some c→c≠C)→(∀ p∈X.pn ++ pins,p.1≠C)→(∃ m,s'.heap.Ns C m) →
   compPost (model X.prog X.w) X.A X.xe use QF (.ref D) C (.ok .next) s') :
  wpAny (model X.prog X.w) X.A (comprehension (.ListComp elt [⟨tg,iter,ifs,0⟩] scope pos) scope X.env ps (newList []) false (eval iter X.env) use) QF X.xe s:=by
 obtain ⟨cl,hclos,sub,hasF⟩:=clos_ok (env:=X.env) (scope:=scope) λp hp hf=>I.ok.has p.1 (hfk p hp hf)
 refine wpAny_comprehension_free (use:=use) rfl hs hclos hkind hnames (thn (hi pins s σ H _ I h) λv s1 h1=>thn h1 λitv s2 h2=>?_)
 obtain ⟨it,fp,tn,J,H2,e,I2,T,st2,f2,vs,hvl,himp,hD⟩:=h2
 subst e
 have fpl:∀ b∈fp,b<s2.heap.objs.size:=λb hb=>by
  obtain ⟨o,e,_⟩:=T.obj _ _ st2 b hb
  exact Heap.lt_size e
 refine wpAny_newObj_type (wpAny_newFunctionEnv hcell (by intro y hy; simp at hy) (λh₁ hns₁ hsb₁=>?_) hkind)
 dsimp only at hns₁ hsb₁ ⊢
 have I3:Inv X pins σ (upd H2 s2.heap.objs.size (.lst [])) { s2 with heap:=s2.heap.push { cls:=.type "list",dict:=none,data:=.seq ([]:List Value).toArray } }:=I2.lnew (its:=[]) (t':=s2.toks) .nil (Nat.zero_le _)
 obtain ⟨n,LP,l0,turn⟩:=hD s2.heap.objs.size I2.fresh
 generalize hs3:({ s2 with heap:=s2.heap.push { cls:=.type "list",dict:=none,data:=.seq ([]:List Value).toArray } }:Shared)=s3 at I3
 have hh3:s3.heap=s2.heap.push { cls:=.type "list",dict:=none,data:=.seq ([]:List Value).toArray }:=by rw [← hs3]
 rw [← hh3] at hns₁ hsb₁ ⊢
 have f3:∀ b∈fp,FpOk X pins (upd H2 s2.heap.objs.size (.lst [])) b:=λb hb=>⟨by rw [upd_ne (Nat.ne_of_lt (fpl b hb))]; exact (f2 b hb).1,(f2 b hb).2⟩
 have fpl3:∀ b∈fp,b<s3.heap.objs.size:=λb hb=>by rw [hh3,Heap.size_push]; exact Nat.lt_succ_of_lt (fpl b hb)
 let R:Result→Shared→Prop:=compPost (model X.prog X.w) X.A X.xe use QF (.ref s2.heap.objs.size) s3.heap.objs.size
 let X':Cx:=blk X scope cl s3.heap.objs.size N' s3 (upd H2 s2.heap.objs.size (.lst [])) fp (notedBy (model X.prog X.w) X.A (compEnvC scope cl s3.heap.objs.size X.env) λe s'=>R (.error e) s')
 have hX':Blk X scope N' X':=⟨_,_,_,_,_,_,rfl⟩
 have I4:∀ tk,Inv X' [] (start N' vs) (upd H2 s2.heap.objs.size (.lst [])) { s3 with heap:=h₁,toks:=tk }:=λtk=>I3.block hkind hcell sub hasF hfk f3 fpl3 hvl himp _ hns₁ hsb₁
 have old:∀ b o,s3.heap.get? b=some o→h₁.get? b=some o:=λb o e=>(hsb₁.2 b (Nat.ne_of_lt (Heap.lt_size e))).trans (Heap.get?_push_of_some _ e)
 have st4:tn 0 h₁:=T.keep _ _ _ st2 λb hb o e=>old b o (by rw [hh3]; exact Heap.get?_push_of_some _ e)
 have stat:∀ {H':Hp},(∀ b∈fp,H' b=none)→∀ b∈fp,FpOk X' [] H' b:=λhn b hb=>⟨hn b hb,Nat.ne_of_lt (fpl3 b hb),λz=>by
  rcases List.mem_cons.mp (I3.stkSub b z) with z | z
  ·exact (f2 b hb).2.1 z
  ·exact (f2 b hb).2.2.1 z,.inl hb,λx c e=>(f2 b hb).2.2.2.2.1 x c (sub x c e),λp hp=>(nomatch hp)⟩
 have loop:∀ tk,codeAny (model X.prog X.w) X.A (.compLoop (.ListComp elt [⟨tg,iter,ifs,0⟩] scope pos) 0 (.ref it) (.ref s2.heap.objs.size) (compEnvC scope cl s3.heap.objs.size X.env)) R { s3 with heap:=h₁,toks:=tk }:=by
  intro tk
  refine compLoop_any (λm s'=>∃ i σ' H',m=n - i∧Inv X' [] σ' H' s'∧tn i s'.heap∧(∀ b∈fp,H' b=none)∧LP i σ' H') ?_ n ⟨0,_,_,by simp,I4 tk,st4,λb hb=>(f3 b hb).1,l0⟩
  rintro m s5 ⟨i,σ5,H5,rfl,I5,st5,fr5,w5⟩
  rcases turn i σ5 H5 w5 with ⟨stop,qn⟩ | ⟨hin,go,step⟩
  ·refine thn (T.done X' rfl rfl rfl hc i [] s5 σ5 H5 _ I5 (stat fr5) st5 stop) λr s6 ⟨hr,I6⟩=>?_
   subst hr
   obtain ⟨m6,hn6,_⟩:=I6.loc
   have IX:Inv X pins σ H5 s6:=I3.call' (s':=s6) (ch:=fp) I6.os I6.base I6.hok I6.bare λb hb=>⟨(f2 b hb).2.2.2.1,(f2 b hb).2.1,(f2 b hb).2.2.2.2.1,(f2 b hb).2.2.2.2.2⟩
   refine fin _ _ H5 s6 IX qn I6.free I3.sz (λz=>Nat.lt_irrefl _ (Nat.lt_of_lt_of_le I3.lt (Nat.le_of_eq z))) (λx c e z=>?_) (λp hp z=>?_) ⟨m6,hn6⟩
   ·obtain ⟨v,o,ho,hd⟩:=I3.cell x c e
    rw [z] at ho
    exact Nat.lt_irrefl _ (Heap.lt_size ho)
   ·have:=(I3.pin p hp).1
    rw [z] at this
    exact Nat.lt_irrefl _ (Heap.lt_size this)
  ·refine thn (T.item X' rfl rfl rfl hc i [] s5 σ5 H5 _ I5 (stat fr5) st5 go) λr s6 ⟨u,hr,h6⟩=>?_
   subst hr
   refine thn h6 λ_ s7 ⟨x,H7,I7,r7,y7,st7,fr7⟩=>?_
   have I7':=I7.pinned (stat fr7) (T.obj _ _ st7)
   have again:∀ {σ8:St} {H8:Hp} {s8:Shared},Inv X' ([] ++ pinsAt fp s7.heap) σ8 H8 s8→LP (i+1) σ8 H8→∃ m,m<n - i∧∃ i σ' H',m=n - i∧Inv X' [] σ' H' s8∧tn i s8.heap∧(∀ b∈fp,H' b=none)∧LP i σ' H':=λ{σ8 H8 s8} I8 w8=>by
    refine ⟨n - (i+1),by omega,i+1,σ8,H8,rfl,I8.unpinned,T.keep _ _ _ st7 λb hb o e=>(I8.pin (b,o) (List.mem_append_right _ (List.mem_append_right _ (mem_pinsAt hb e)))).1,λb hb=>?_,w8⟩
    obtain ⟨o,e,d⟩:=T.obj _ _ st7 b hb
    exact (I8.pin (b,o) (List.mem_append_right _ (List.mem_append_right _ (mem_pinsAt hb e)))).2.1
   refine thn (hg X' hX' _ s7 σ5 H7 x u _ I7' r7 (step x H7 y7)) λ_ s8 ⟨σ8,H8,I8,q8⟩=>?_
   refine thn (ht X' hX' _ s8 σ8 H8 _ I8 q8) λb s9 ⟨H9,I9,q9⟩=>?_
   cases b with
   | false=>exact again I9 q9
   | true =>
    refine thn (he X' hX' _ s9 σ8 H9 _ I9 q9) λy s10 ⟨yv,H10,I10,r10,ys,hy,hz,q10⟩=>?_
    refine thn (mt_append (X:=X') _ s10 σ8 H10 (.ref s2.heap.objs.size) [yv] (.ref s2.heap.objs.size) [y] (λ_ H'=>LP (i+1) σ8 H') I10 rfl (.cons r10 .nil) ⟨_,ys,yv,rfl,rfl,hy,hz,q10⟩) λ_ s11 ⟨_,H11,I11,_,q11⟩=>?_
    exact again I11 q11
 subst hs3
 exact codeAny_compStart_list (loop _) (T.self _ 0 _ _ _ st4 (loop _))
theorem pe_comp {elt tg iter:Expr} {ifs:List Expr} {scope:Scope} {pos:Pos} {N':List Str} {wi:TI} {g:TG} {tt:TT} {te:TE} (hc:X.calm=true) (hi:PI X tg iter wi) (hs:∀ x,foldedSetIterable iter X.env x=pure x)
  (hkind:scope.kind=.function) (hcell:∀ y∈scope.names,y.2≠.cell) (hnames:∀ x∈scope.names,x.2=.local→scope.names.lookup x.1=some .local)
  (hfk:∀ p∈scope.names,p.2=.free→X.env.kindOf p.1=some .cell∨X.env.kindOf p.1=some .free)
  (hg:∀ X',Blk X scope N' X'→PG X' tg g) (ht:∀ X',Blk X scope N' X'→PTs X' ifs tt) (he:∀ X',Blk X scope N' X'→PE X' elt te) :
  PE X (.ListComp elt [⟨tg,iter,ifs,0⟩] scope pos) (tComp X.N scope N' wi g tt te):=by
 intro pins s σ H Q I h
 rw [eval_ListComp]
 refine comp_core (use:=none) (QF:=EP X pins σ Q) hc hi hs hkind hcell hnames hfk hg ht he I h λD C H' s' I' q hC hz hL hcl hp hm=>?_
 obtain ⟨m,hm⟩:=hm
 refine ⟨m,hm,λh' sb=>⟨.ref D,H',I'.turned (t':=s'.toks) (λb o hb e=>(sb.2 b hb).trans e) hC hL (.inr (Heap.get?_none_of_le hz)) hcl hp,rfl,q⟩⟩
theorem ps_comp_used {elt tg iter:Expr} {ifs:List Expr} {scope:Scope} {pos py spos:Pos} {y:Str} {i:Nat} {N':List Str} {wi:TI} {g:TG} {tt:TT} {te:TE} (hsw:swapsWith (.ListComp elt [⟨tg,iter,ifs,0⟩] scope pos) (some (.Name y py)) spos.line X.env=pure true)
  (hN:X.N.Nodup) (hy:X.N[i]?=some y) (hx:Loc X.env.scope y) (hf:X.fn y=true∨X.env.scope.names.lookup y=some .local) (hc:X.calm=true) (hi:PI X tg iter wi) (hs:∀ x,foldedSetIterable iter X.env x=pure x)
  (hkind:scope.kind=.function) (hcell:∀ y∈scope.names,y.2≠.cell) (hnames:∀ x∈scope.names,x.2=.local→scope.names.lookup x.1=some .local)
  (hfk:∀ p∈scope.names,p.2=.free→X.env.kindOf p.1=some .cell∨X.env.kindOf p.1=some .free)
  (hg:∀ X',Blk X scope N' X'→PG X' tg g) (ht:∀ X',Blk X scope N' X'→PTs X' ifs tt) (he:∀ X',Blk X scope N' X'→PE X' elt te) :
  PS X (.Assign [.Name y py] (.ListComp elt [⟨tg,iter,ifs,0⟩] scope pos) spos) (tAsg (tComp X.N scope N' wi g tt te) (gName i)):=by
 intro pins s σ H D0 I h
 rw [exec_Assign_Name_used _ _ _ _ hsw]
 refine wpAny_bind (wpAny_standAt (wpAny_bind ?_))
 show wpAny _ X.A (do let _ ← comprehension (.ListComp elt [⟨tg,iter,ifs,0⟩] scope pos) scope X.env _ (newList []) false (eval iter X.env) (some (assign (.Name y py) X.env))) _ _ s
 refine wpAny_bind (wpAny_mono (comp_core (use:=some (assign (.Name y py) X.env)) (QF:=λ_ s'=>SP X pins D0 .next s') hc hi hs hkind hcell hnames hfk hg ht he I h λD C H' s' I' q hC hz hL hcl hp hm=>?_) (λ_ s' hq=>wpAny_pure (wpAny_pure hq)) λ_ _ e=>e)
 obtain ⟨m,hm⟩:=hm
 refine wpAny_assign_Name (store_ok2 I' hN hy hx (v:=.ref D) rfl (λs2 I2 ⟨a,sb,ha⟩=>?_) hf)
 have hne:a≠C:=by
  rcases ha with rfl | ha
  ·exact Ne.symm hL
  ·exact hcl _ _ ha
 refine ⟨m,hm.sameBut sb (Ne.symm hne),λh' sb2=>⟨_,H',I2.turned (t':=s2.toks) (λb o hb e=>(sb2.2 b hb).trans e) hC hL (.inr (Heap.get?_none_of_le hz)) hcl hp,q⟩⟩
end
end L2
namespace CI
open PySem PySem.Spec PyProof.Rows L2
section
variable {X:Cx} {K:PySem.W.Frag} {P:Pins} {C:Calls} {Γ:CC}
theorem XOk.inner (xo:XOk X K P C Γ) (hk:X.env.scope.kind=.function) {scope:Scope} (nd:(frees scope ++ locs scope).Nodup) {X':Cx} (b:Blk X scope (Γ.inner scope).N X'):XOk X' K P C (Γ.inner scope):=by
 obtain ⟨cl,C0,s₃,H₃,fp,xe,rfl⟩:=b
 refine XOk.of xo.keq rfl ?_ nd xo.calm xo.hh xo.hu xo.con xo.blt (λx f h=>?_) (λx ns h=>?_) (λm tb c f h1 h2=>?_) xo.rm xo.sub xo.subx ⟨xo.exc,λx h=>?_⟩ xo.exs (λx f h=>?_) xo.tp
 ·show (relabel scope X.env).names=(Γ.inner scope).names
  unfold relabel CC.inner
  simp only
  congr 1
  funext p
  obtain ⟨n,k⟩:=p
  have e:X.env.kindOf n=Γ.names.lookup n:=by unfold PySem.Env.kindOf; rw [xo.nm]
  simp only [hk,e]
  simp
 ·obtain ⟨fa,fd,ps,k,h1,h2,h3,h4,h5⟩:=(xo.fn x f h).ex
  exact ⟨⟨fa,fd,ps,k,h1,h2,h3,h4,h5⟩⟩
 ·obtain ⟨Ca,fa,fd,ps,h1,h2,h3,h4,h5,h6⟩:=(xo.cls x ns h).ex
  exact ⟨⟨Ca,fa,fd,ps,h1,h2,h3,h4,h5,h6⟩⟩
 ·obtain ⟨Ca,fa,fd,ps,k,z1,z2,z3,z4,z5,z6⟩:=(xo.mth m tb c f h1 h2).ex
  exact ⟨⟨Ca,fa,fd,ps,k,z1,z2,z3,z4,z5,z6⟩⟩
 ·exact ⟨trivial⟩
 ·obtain ⟨fa,fd,ps,k,h1,h2,h3,h4,h5⟩:=(xo.fnX x f h).ex
  exact ⟨⟨fa,fd,ps,k,h1,h2,h3,h4,h5⟩⟩
noncomputable def tTs (K:PySem.W.Frag) (P:Pins) (C:Calls) (cs:List E):TT:=λσ H Q=>∃ (ρ:Env) (G:Hp) (b:Bool) (ρ':Env),Rel K ρ σ H G∧evTs P C cs ρ=some (.ok (.sh (.bl b)),ρ') ∧
 ∀ H' G',Aft K ρ σ H G ρ' H' G'→Q b H'
theorem pts_nilC:PTs X [] (tTs K P C []):=λpins s σ H Q I ⟨ρ,G,b,ρ',r,e,k⟩=>by
 rw [evTs] at e
 cases e
 exact pts_nil pins s σ H Q I (k H G (Aft.refl r))
theorem pts_oneC {c:Expr} {cc:E} (h:Ok3 X K P C c cc):PTs X [c] (tTs K P C [cc]):=λpins s σ H Q I ⟨ρ,G,b,ρ',r,e,k⟩=>by
 refine pts_one h.t pins s σ H Q I ?_
 rw [evTs] at e
 obtain ⟨v,ρ1,e1,e2⟩:=bind_ok e
 split at e2
 ·rw [evTs] at e2
  cases e2
  exact ⟨ρ,G,true,_,r,e1,k⟩
 ·cases e2
  exact ⟨ρ,G,false,_,r,e1,k⟩
 ·cases e2
theorem AftS.poke {ρ ρ':Env} {σ σ':St} {H G H' G':Hp} (b:AftS K ρ σ H G ρ' σ' H' G') {a:Addr} {o:HO} (h:H a=none) (g:G' a=none) (n:¬ Own ρ' σ' a):AftS K ρ σ H G ρ' σ' (upd H' a o) G':=by
 refine ⟨b.rel.poke g n,⟨b.ext.gg,λc u e nc=>?_,λc e=>?_,b.ext.gn⟩,b.own,b.un,b.pin,b.len⟩
 ·have:c≠a:=λz=>by subst z; rw [h] at e; cases e
  rw [upd_ne this]; exact b.ext.hh c u e nc
 ·by_cases hc:c=a
  ·subst hc; rw [upd_same] at e; cases e
  ·rw [upd_ne hc] at e; exact b.ext.hx c e
theorem compL_len {tests elt:Env→Res RV} {bind:D→Env→Option Env}:∀ {ds acc acc':List D} {ρ ρ':Env},compL tests elt bind ds acc ρ=some (.ok acc',ρ')→acc.length≤acc'.length
 | [],acc,acc',ρ,ρ',e=>by simp only [compL,Option.some.injEq,Prod.mk.injEq,Out.ok.injEq] at e; rw [e.1]; exact Nat.le_refl _
 | d :: ds,acc,acc',ρ,ρ',e=>by
  simp only [compL] at e
  split at e
  ·cases e
  ·obtain ⟨c,ρ2,e1,e2⟩:=bind_ok e
   split at e2
   ·obtain ⟨v,ρ3,e3,e4⟩:=bind_ok e2
    have:=compL_len e4
    simp at this
    omega
   ·exact compL_len e2
   ·cases e2
theorem slots_reps {H G:Hp} {own new:Addr→Prop} {σ:St}:∀ (imp:List Nat) (ρ:Env) (as:List Sl) (ρ1:Env),Rel K ρ σ H G→lend (imp.map λ_=>true) (imp.map Hd.slot) ρ=some (as,ρ1) →
  ∃ xs,HReps K H G own new σ (imp.map Hd.slot) xs∧xs.length=imp.length∧(∀ a,¬ Tmp (imp.map Hd.slot) xs a)∧∀ (j:Nat) v,xs[j]?=some v→∃ i:Nat,imp[j]?=some i∧σ[i]?=some (some v)
 | [],ρ,as,ρ1,r,e=>⟨[],rfl,rfl,λa z=>z,λj v h=>by simp at h⟩
 | i :: imp,ρ,as,ρ1,r,e=>by
  have go:∀ (ρ2:Env) (as2:List Sl) (ρ3:Env),Rel K ρ2 σ H G→lend (imp.map λ_=>true) (imp.map Hd.slot) ρ2=some (as2,ρ3)→(∃ v,σ[i]?=some (some v)) →
    ∃ xs,HReps K H G own new σ ((i :: imp).map Hd.slot) xs∧xs.length=(i :: imp).length∧(∀ a,¬ Tmp ((i :: imp).map Hd.slot) xs a)∧∀ (j:Nat) v,xs[j]?=some v→∃ i':Nat,(i :: imp)[j]?=some i'∧σ[i']?=some (some v):=by
   intro ρ2 as2 ρ3 r2 e2 ⟨v,hv⟩
   obtain ⟨xs,h1,h2,h3,h4⟩:=slots_reps imp ρ2 as2 ρ3 r2 e2
   refine ⟨v :: xs,⟨v,xs,rfl,hv,h1,λd a z=>(nomatch z)⟩,by simp [h2],λa z=>h3 a z,λj w hw=>?_⟩
   cases j with
   | zero=>simp only [List.getElem?_cons_zero,Option.some.injEq] at hw; subst hw; exact ⟨i,rfl,hv⟩
   | succ j=>exact h4 j w (by simpa using hw)
  simp only [List.map_cons,lend] at e
  split at e
  ·rename_i d hi
   cases q:lend (imp.map λ_=>true) (imp.map Hd.slot) ρ with
   | none=>rw [q] at e; cases e
   | some y=>exact go ρ y.1 y.2 r q (r.bound (by rw [hi]; rfl))
  ·rename_i d p l hi
   cases q:lend (imp.map λ_=>true) (imp.map Hd.slot) (ρ.set i .un) with
   | none=>rw [q] at e; cases e
   | some y=>exact go _ y.1 y.2 (r.unset i) q (r.bound (by rw [hi]; rfl))
  ·cases e
theorem putBack_evo {ρ1 ρ2 ρ':Env} {o:Option Nat} (ho:∀ i,o=some i→∃ d p l,ρ1[i]?=some (.ow d p l)) (e:putBack o ρ1 ρ2=some ρ') (h:Evo (takeOut o ρ1) ρ2):Evo ρ1 ρ':=by
 cases o with
 | none=>simp only [putBack,Option.some.injEq] at e; subst e; exact h
 | some i =>
  obtain ⟨d,p,l,hi⟩:=ho i rfl
  simp only [putBack] at e
  split at e
  ·rename_i sl hf hs
   rw [hi] at hs; cases hs
   cases e
   intro j
   by_cases hj:j=i
   ·subst hj
    rw [hi,List.getElem?_set_self (List.getElem?_eq_some_iff.mp hf).1]
    exact KindLe.refl _
   ·have:=h j
    rw [List.getElem?_set_ne (λz=>hj z.symm)]
    have e2:(takeOut (some i) ρ1)[j]?=ρ1[j]?:=by
     show (ρ1.set i .un)[j]?=_
     rw [List.getElem?_set_ne (λz=>hj z.symm)]
    rw [e2] at this
    exact this
  ·cases e
theorem imps_ok {Γ:CC}:∀ {xs:List Str} {imp:List Nat},Γ.imps xs=some imp→imp.length=xs.length∧∀ (j:Nat) x i,xs[j]?=some x→imp[j]?=some i→Γ.N[i]?=some x
 | [],imp,h=>by simp only [CC.imps,Option.some.injEq] at h; subst h; exact ⟨rfl,λj x i z=>by simp at z⟩
 | x :: xs,imp,h=>by
  simp only [CC.imps] at h
  cases q:Γ.N.idxOf? x with
  | none=>rw [q] at h; cases h
  | some i =>
   rw [q] at h
   simp only [Option.bind_some] at h
   cases q2:Γ.imps xs with
   | none=>rw [q2] at h; cases h
   | some r =>
    rw [q2] at h
    simp only [Option.map_some,Option.some.injEq] at h
    subst h
    obtain ⟨h1,h2⟩:=imps_ok q2
    refine ⟨by simp [h1],λj y k hy hk=>?_⟩
    cases j with
    | zero =>
     simp only [List.getElem?_cons_zero,Option.some.injEq] at hy hk
     subst hy hk
     exact idxOf_get q
    | succ j=>exact h2 j y k (by simpa using hy) (by simpa using hk)
structure ScOk (Γ:CC) (scope:Scope):Prop where
 kind:scope.kind=.function
 cell:∀ y∈scope.names,y.2≠.cell
 names:∀ x∈scope.names,x.2=.local→scope.names.lookup x.1=some .local
 free:∀ x∈scope.names,x.2=.free→scope.names.lookup x.1=some .free
 out:∀ p∈scope.names,p.2=.free→Γ.names.lookup p.1=some .cell∨Γ.names.lookup p.1=some .free
 nd:(frees scope ++ locs scope).Nodup
theorem scOk_ok {scope:Scope} (h:Γ.scOk scope=true):ScOk Γ scope:=by
 unfold CC.scOk at h
 simp only [Bool.and_eq_true,List.all_eq_true,decide_eq_true_eq,beq_iff_eq,bne_iff_ne,Bool.or_eq_true,ne_eq] at h
 obtain ⟨⟨⟨⟨h1,h2⟩,h3⟩,h4⟩,h5⟩:=h
 refine ⟨h1,h2,λx hx hl=>?_,λx hx hf=>?_,λx hx hf=>?_,h5⟩
 ·rcases h3 x hx with z | z
  ·exact absurd hl z
  ·exact z
 ·rcases h4 x hx with z | z
  ·exact absurd hf z
  ·exact z.1
 ·rcases h4 x hx with z | z
  ·exact absurd hf z
  ·exact z.2
theorem frees_free {scope:Scope} {x:Str} (sc:ScOk Γ scope) (h:x∈frees scope):scope.names.lookup x=some .free:=by
 unfold frees at h
 obtain ⟨p,hp,rfl⟩:=List.mem_map.mp h
 obtain ⟨h1,h2⟩:=List.mem_filter.mp hp
 exact sc.free p h1 (eq_of_beq h2)
def JOk (K:PySem.W.Frag) (ρ0:Env) (σ0:St) (H1 G2:Hp) (ds:List D) (J:It):Prop:=∀ i H' ρc σ' Gc,AftS K ρ0 σ0 H1 G2 ρc σ' H' Gc→(i=ds.length→J.stop i H')∧(i<ds.length→J.go i H')∧∀ d x H2,ds[i]?=some d→J.yld i H' x H2→∃ Gd,Aft K ρc σ' H' Gc ρc H2 Gd∧Rep K Gd d x
theorem its_ok {ρ1 ρ0:Env} {σ σ0:St} {H1 G1 G2:Hp} {ds:List D} {o:Option Nat} (gg2:Same G1 G2) (own:∀ c,Own ρ0 σ0 c→Own (takeOut o ρ1) σ c) :
  (∀ a vs,Src K (takeOut o ρ1) σ H1 G1 a vs→Reps K G1 ds vs→JOk K ρ0 σ0 H1 G2 ds (Itl K a))∧(∀ a vs,SqT K G1 a vs→Reps K G1 ds vs→JOk K ρ0 σ0 H1 G2 ds (Itt K a))∧(∀ (lo:Int) (n:Nat),ds=(List.range n).map (λ(j:Nat)=>D.int (lo+(j:Int)))→JOk K ρ0 σ0 H1 G2 ds (Itr lo n))∧(∀ a vs ds0 lo,ds=enumD lo ds0→Src K (takeOut o ρ1) σ H1 G1 a vs→Reps K G1 ds0 vs→JOk K ρ0 σ0 H1 G2 ds (Ite K a lo))∧(∀ x,ds=strDs x→PyData.strOk x=true→JOk K ρ0 σ0 H1 G2 ds (Its x)):=by
 refine ⟨λa vs hsrc hr=>?_,λa vs ht hr=>?_,λlo n hds=>?_,λa vs ds0 lo hds hsrc hr=>?_,λx hds hok=>?_⟩
 ·intro i H' ρc σ' Gc af
  have hnow:SqL K H' a vs:=by
   rcases hsrc with h | ⟨h1,h2,h3⟩
   ·exact af.rel.sub.seq (af.ext.gg.seq (gg2.seq h))
   ·exact SqL.of (af.ext.hh a _ h1 λz=>h3 (own a z))
  refine ⟨λhi=>⟨vs,hnow,by rw [hr.len]; omega⟩,λhi=>?_,λd x H2 hd hy=>?_⟩
  ·obtain ⟨x',h1,h2⟩:=hr.get (List.getElem?_eq_getElem hi)
   exact ⟨vs,x',hnow,h1⟩
  ·obtain ⟨rfl,hy⟩:=hy
   obtain ⟨x',h1,h2⟩:=hr.get hd
   have:=hy vs hnow
   rw [h1] at this
   cases this
   exact ⟨_,Aft.refl af.rel,Rep.mono af.ext.gg d (Rep.mono gg2 d h2)⟩
 ·intro i H' ρc σ' Gc af
  have hnow:SqT K H' a vs:=sqT_mono af.rel.sub (sqT_mono af.ext.gg (sqT_mono gg2 ht))
  refine ⟨λhi=>⟨vs,hnow,by rw [hr.len]; omega⟩,λhi=>?_,λd x H2 hd hy=>?_⟩
  ·obtain ⟨x',h1,h2⟩:=hr.get (List.getElem?_eq_getElem hi)
   exact ⟨vs,x',hnow,h1⟩
  ·obtain ⟨rfl,hy⟩:=hy
   obtain ⟨x',h1,h2⟩:=hr.get hd
   have:=hy vs hnow
   rw [h1] at this
   cases this
   exact ⟨_,Aft.refl af.rel,Rep.mono af.ext.gg d (Rep.mono gg2 d h2)⟩
 ·intro i H' ρc σ' Gc af
  have hlen:ds.length=n:=by rw [hds]; simp
  refine ⟨λhi=>by show n≤i; omega,λhi=>by show i<n; omega,λd x H2 hd hy=>?_⟩
  obtain ⟨rfl,hy⟩:=hy
  have hi:i<n:=by rw [← hlen]; exact (List.getElem?_eq_some_iff.mp hd).1
  have hd':ds[i]?=some (.int (lo+(i:Int))):=by rw [hds]; simp [hi]
  rw [hd'] at hd
  cases hd
  subst hy
  exact ⟨_,Aft.refl af.rel,by simp [Rep]⟩
 ·intro i H' ρc σ' Gc af
  subst hds
  have hnow:SqL K H' a vs:=by
   rcases hsrc with h | ⟨h1,h2,h3⟩
   ·exact af.rel.sub.seq (af.ext.gg.seq (gg2.seq h))
   ·exact SqL.of (af.ext.hh a _ h1 λz=>h3 (own a z))
  refine ⟨λhi=>⟨vs,hnow,by rw [hr.len,← enumD_len (lo:=lo)]; omega⟩,λhi=>?_,λd x H2 hd hy=>?_⟩
  ·obtain ⟨x',h1,h2⟩:=hr.get (List.getElem?_eq_getElem (by rw [enumD_len] at hi; exact hi))
   exact ⟨vs,x',hnow,h1⟩
  ·obtain ⟨p0,y0,hn,rfl,rfl,hy⟩:=hy
   have hl:i<ds0.length:=by rw [← enumD_len (lo:=lo)]; exact (List.getElem?_eq_some_iff.mp hd).1
   obtain ⟨x',h1,h2⟩:=hr.get (List.getElem?_eq_getElem hl)
   have hy:=hy vs hnow
   rw [h1] at hy
   cases hy
   rw [enumD_get (List.getElem?_eq_getElem hl)] at hd
   cases hd
   exact ⟨_,(Aft.refl af.rel).layG hn,enum_rep (Same.free af.rel.sub hn) (Rep.mono af.ext.gg _ (Rep.mono gg2 _ h2))⟩
 ·intro i H' ρc σ' Gc af
  have hlen:ds.length=x.cps.size:=by rw [hds]; simp [strDs]
  refine ⟨λhi=>by show x.cps.size≤i; omega,λhi=>by show i<x.cps.size; omega,λd v H2 hd hy=>?_⟩
  obtain ⟨rfl,c,hc,rfl⟩:=hy
  rw [hds] at hd
  unfold strDs at hd
  rw [List.getElem?_map,Array.getElem?_toList,hc] at hd
  cases hd
  refine ⟨_,Aft.refl af.rel, ?_⟩
  unfold Rep
  refine ⟨rfl, ?_⟩
  unfold PyData.strOk at hok ⊢
  have:=Array.all_eq_true.mp hok i (Array.getElem?_eq_some_iff.mp hc).1
  rw [(Array.getElem?_eq_some_iff.mp hc).2] at this
  simpa using this
abbrev HwE (K:PySem.W.Frag) (P:Pins) (C:Calls) (k0:ItK) (its:List E) (σ:St) (H:Hp) (R:It→Hp→Prop):Prop:=∃ (ρ:Env) (G:Hp) (hs:List Hd) (ρ1:Env) (ds:List D) (o:Option Nat),Rel K ρ σ H G∧evHs P C its ρ=some (.ok hs,ρ1)∧itemsOf k0 hs ρ1=some (ds,o) ∧
   ∀ H1 G1,Aft K ρ σ H G ρ1 H1 G1→(∀ i,o=some i→∃ d p l,ρ1[i]?=some (.ow d p l)) →
    (∀ a vs,Src K (takeOut o ρ1) σ H1 G1 a vs→Reps K G1 ds vs→R (Itl K a) H1)∧(∀ a vs,SqT K G1 a vs→Reps K G1 ds vs→R (Itt K a) H1)∧(∀ (lo:Int) (n:Nat),ds=(List.range n).map (λ(j:Nat)=>D.int (lo+(j:Int)))→R (Itr lo n) H1)∧(∀ a vs ds0 lo,ds=enumD lo ds0→Src K (takeOut o ρ1) σ H1 G1 a vs→Reps K G1 ds0 vs→R (Ite K a lo) H1)∧(∀ x,ds=strDs x→PyData.strOk x=true→R (Its x) H1)
abbrev Hw4 (K:PySem.W.Frag) (P:Pins) (C:Calls) (k0:ItK) (its:List E) (σ:St) (H:Hp) (R:It→Hp→Prop):Prop:=∃ (ρ:Env) (G:Hp) (hs:List Hd) (ρ1:Env) (ds:List D) (o:Option Nat),Rel K ρ σ H G∧evHs P C its ρ=some (.ok hs,ρ1)∧itemsOf k0 hs ρ1=some (ds,o) ∧
   ∀ H1 G1,Aft K ρ σ H G ρ1 H1 G1→(∀ i,o=some i→∃ d p l,ρ1[i]?=some (.ow d p l)) →
    (∀ a vs,Src K (takeOut o ρ1) σ H1 G1 a vs→Reps K G1 ds vs→R (Itl K a) H1)∧(∀ a vs,SqT K G1 a vs→Reps K G1 ds vs→R (Itt K a) H1)∧(∀ (lo:Int) (n:Nat),ds=(List.range n).map (λ(j:Nat)=>D.int (lo+(j:Int)))→R (Itr lo n) H1)∧(∀ a vs ds0 lo,ds=enumD lo ds0→Src K (takeOut o ρ1) σ H1 G1 a vs→Reps K G1 ds0 vs→R (Ite K a lo) H1)
theorem hw4 {K:PySem.W.Frag} {P:Pins} {C:Calls} {k0:ItK} {its:List E} {σ:St} {H:Hp} {R:It→Hp→Prop} (q:HwE K P C k0 its σ H R):Hw4 K P C k0 its σ H R:=by
 obtain ⟨ρ,G,hs,ρ1,ds,o,r,e,ei,k⟩:=q
 refine ⟨ρ,G,hs,ρ1,ds,o,r,e,ei,λH1 G1 a ho=>?_⟩
 obtain ⟨k1,k2,k3,k4,_⟩:=k H1 G1 a ho
 exact ⟨k1,k2,k3,k4⟩
theorem comp_gen (xo:XOk X K P C Γ) {scope:Scope} {ce:E} {k0:ItK} {its cond:List E} {imp is:List Nat} {wi:TI} {elt:Env→Res RV} (helt:∀ ρ v ρ',elt ρ=some (.ok v,ρ')→ev P C false ce ρ=some (.ok v,ρ')) (sc:ScOk Γ scope) (himp:Γ.imps (frees scope)=some imp)
  (hw:∀ σ H (R:It→Hp→Prop),HwE K P C k0 its σ H R→wi σ H R)
  {σ:St} {H:Hp} {Q:VK} (h:∃ (ρ:Env) (G:Hp) (v:RV) (ρ':Env),Rel K ρ σ H G∧evG P C elt is k0 its cond imp (locs scope).length ρ=some (.ok v,ρ')∧∀ x H' G',Aft K ρ σ H G ρ' H' G'→VRep K H' G' (Own ρ' σ) (Fresh H) v x→((∀ ρ v ρ',elt ρ=some (.ok v,ρ')→∃ ds,v=.ow (.lst ds)∧ds.length≤1000)→∀ a,x=.ref a→Rows H' (Own ρ' σ) (Fresh H) a)→Q x H'):tComp X.N scope (Γ.inner scope).N wi (gB K (is.length == 1) is) (tTs K P C cond) (tE K P C ce) σ H Q:=by
 obtain ⟨ρ,G,v,ρ',r,e,k⟩:=h
 unfold evG at e
 obtain ⟨hs',ρ1,e1,e2⟩:=bind_ok e
 cases q:itemsOf k0 hs' ρ1 with
 | none=>rw [q] at e2; cases e2
 | some y =>
  obtain ⟨ds,o⟩:=y
  rw [q] at e2
  obtain ⟨v',ρ2,e3,e4⟩:=bind_ok e2
  unfold giveOut at e4
  cases q3:putBack o ρ1 ρ2 with
  | none=>rw [q3] at e4; cases e4
  | some ρ3 =>
   rw [q3] at e4
   simp only [Option.map_some,Option.some.injEq,Prod.mk.injEq,Out.ok.injEq] at e4
   obtain ⟨rfl,rfl⟩:=e4
   unfold tComp
   refine hw σ H _ ⟨ρ,G,hs',ρ1,ds,o,r,e1,q,λH1 G1 a1 ho=>?_⟩
   have R0:=(takeOut_rel (o:=o) a1.rel).1
   have hld:∃ as ρ4,lend (imp.map λ_=>true) (imp.map Hd.slot) (takeOut o ρ1)=some (as,ρ4):=by
    unfold doCall at e3
    cases q4:lend (imp.map λ_=>true) (imp.map Hd.slot) (takeOut o ρ1) with
    | none=>rw [q4] at e3; cases e3
    | some y=>exact ⟨y.1,y.2,rfl⟩
   obtain ⟨as0,ρ4,hld⟩:=hld
   obtain ⟨xs,hx1,hx2,hx3,hx4⟩:=slots_reps (own:=Own (takeOut o ρ1) σ) (new:=Fresh H1) imp _ _ _ R0 hld
   obtain ⟨as,G2,as',ra,hal,ef,⟨gg2,ao2⟩,kk⟩:=doCall_ok (Aft.refl R0) hx1 e3
   unfold compF at ef
   split at ef
   ·rename_i hp
    obtain ⟨acc,ρi,e5,e6⟩:=bind_ok ef
    split at e6
    ·rename_i hz
     simp only [Option.some.injEq,Prod.mk.injEq,Out.ok.injEq] at e6
     obtain ⟨rfl,rfl⟩:=e6
     obtain ⟨il,ig⟩:=imps_ok himp
     have hNl:(Γ.inner scope).N.length=as.length+(locs scope).length:=by
      show (frees scope ++ locs scope).length=_
      rw [List.length_append,hal,List.length_map,il]
     obtain ⟨rp,op⟩:=ra.pad hNl
     have hsz:=smallL_ok hz
     -- the block's turns
     have turns:∀ (J:It),JOk K (as ++ List.replicate (locs scope).length .un) (start (Γ.inner scope).N xs) H1 G2 ds J→tCompJ X.N scope (Γ.inner scope).N (gB K (is.length == 1) is) (tTs K P C cond) (tE K P C ce) σ Q J H1:=by
      intro J hJ
      refine Exists.intro xs ⟨by rw [hNl,hx2,hal,List.length_map]; omega,λi x v hN hv=>?_,λD hD=>?_⟩
      ·obtain ⟨j,hj,hσ⟩:=hx4 i v hv
       have hlt:i<(frees scope).length:=by
        rw [← il]
        exact (List.getElem?_eq_some_iff.mp hj).1
       have hfx:(frees scope)[i]?=some x:=by
        have:(frees scope ++ locs scope)[i]?=some x:=hN
        rwa [List.getElem?_append_left hlt] at this
       exact ⟨j,by rw [xo.neq]; exact ig i x j hfx hj,hσ,frees_free sc (List.mem_of_getElem? hfx)⟩
      ·have fin:∀ σ' H' Gc ys,AftS K (as ++ List.replicate (locs scope).length .un) (start (Γ.inner scope).N xs) H1 G2 ρi σ' H' Gc→H' D=some (.lst ys)→Gc D=none→¬ Own ρi σ' D→Reps K Gc acc ys→((∀ ρ v ρ',elt ρ=some (.ok v,ρ')→∃ ds,v=.ow (.lst ds)∧ds.length≤1000)→RowsI H' (Own ρi σ') (λb=>H1 b=none∧b≠D) ys)→Q (.ref D) H':=by
        intro σ' H' Gc ys a hHD hGD hnD hr hR
        obtain ⟨b1,b2⟩:=back_aft ra hp hNl a
        obtain ⟨c1,c2⟩:=kk (.ref D) H' Gc b1 ⟨D,rfl,hGD,⟨ys,hHD,hr⟩,λz=>hnD (b2 D z),hD⟩
        obtain ⟨d1,d2⟩:=putBack_aft a1.rel ho q3 (Aft.s R0 c1)
        have a2:Aft K ρ1 σ H1 G1 ρ3 H' Gc:=⟨d1.rel,d1.ext,putBack_evo ho q3 c1.evo⟩
        obtain ⟨D',e',g',o',n',f'⟩:=c2
        cases e'
        refine k _ _ _ (a1.trans a2) ⟨D,rfl,g',o',λz=>?_,a1.fresh hD⟩ λhF c hc=>?_
        ·rcases d2 D z with z | ⟨z,_⟩
         ·exact n' z
         ·exact (a1.rel.owned z).1 hD
        ·cases hc
         refine ⟨ys,hHD,λx hx=>?_⟩
         obtain ⟨b,ws,z1,z2,z3,_,z5,z6⟩:=hR hF x hx
         exact ⟨b,ws,z1,z2,z3,λz=>(a1.rel.owned (a2.own b z)).1 z5,a1.fresh z5,z6⟩
       clear kk k q3 R0 ho a1 hp hNl ra hal gg2 ao2 hx1 hx2 hx3 hx4 hld e3 q e1 r himp il ig op
       refine ⟨ds.length,λi σ' H'=>i≤ds.length∧∃ ρc Gc ac ys,AftS K (as ++ List.replicate (locs scope).length .un) (start (Γ.inner scope).N xs) H1 G2 ρc σ' H' Gc∧H' D=some (.lst ys)∧Gc D=none∧¬ Own ρc σ' D∧Reps K Gc ac ys∧compL (evTs P C cond) elt (bindT (is.length == 1) is) (ds.drop i) ac ρc=some (.ok acc,ρi)∧((∀ ρ v ρ',elt ρ=some (.ok v,ρ')→∃ ds,v=.ow (.lst ds)∧ds.length≤1000)→RowsI H' (Own ρc σ') (λb=>H1 b=none∧b≠D) ys), ?_, ?_⟩
       ·have g2:G2 D=none:=by
         cases z:G2 D with
         | none=>rfl
         | some u=>have:=rp.sub D u z; rw [hD] at this; cases this
        exact ⟨Nat.zero_le _,_,G2,[],[],Aft.s rp ((Aft.refl rp).layH hD),upd_same,g2,rp.notOwn hD,Reps.nil,e5,λ_ x hx=>nomatch hx⟩
       ·rintro i σ' H' ⟨hil,ρc,Gc,ac,ys,a,hHD,hGD,hnD,hr,ec,hR⟩
        obtain ⟨j1,j2,j3⟩:=hJ i H' ρc σ' Gc a
        by_cases hlt:i<ds.length
        ·refine .inr ⟨hlt,j2 hlt,λx H2 hy=>?_⟩
         have hd:ds[i]?=some ds[i]:=List.getElem?_eq_getElem hlt
         obtain ⟨Gd,afd,hrep⟩:=j3 _ x H2 hd hy
         have hGD:=afd.ext.gn D (by rw [hHD]; simp) hGD hnD
         have hR:=λz=>(hR z).step afd.ext.hh λb w=>.inl (afd.own b w)
         have hHD:=afd.ext.hh D _ hHD hnD
         have hr:=Reps.mono afd.ext.gg _ hr
         have a:=a.trans (Aft.s a.rel afd)
         rw [List.drop_eq_getElem_cons hlt] at ec
         simp only [compL] at ec
         split at ec
         ·cases ec
         ·rename_i ρb hb
          obtain ⟨c,ρt,et,ec⟩:=bind_ok ec
          refine ⟨ρc,Gd,ds[i],ρb,a.rel,hrep,hb,λσ1 ab=>?_⟩
          have a01:=a.trans ab
          have hR:=λz=>(hR z).step (λb o w _=>w) ab.own
          have nb:¬ Own ρb σ1 D:=λz=>by
           rcases ab.own D z with z | z
           ·exact hnD z
           ·rw [hHD] at z; cases z
          split at ec
          ·obtain ⟨w,ρe,ee,ec⟩:=bind_ok ec
           refine ⟨ρb,Gd,true,ρt,ab.rel,et,λH3 G3 at3=>?_⟩
           have h3:H3 D=some (.lst ys):=at3.ext.hh D _ hHD nb
           have g3:G3 D=none:=at3.ext.gn D (by rw [hHD]; simp) hGD nb
           have n3:¬ Own ρt σ1 D:=λz=>nb (at3.own D z)
           dsimp only
           rw [if_pos rfl]
           refine ⟨ρt,G3,w,ρe,at3.rel,helt _ _ _ ee,λy H4 G4 a4 ry=>?_⟩
           obtain ⟨G5,a5,ry5⟩:=a4.share ry
           have h4:H4 D=some (.lst ys):=a5.ext.hh D _ h3 n3
           have g5:G5 D=none:=a5.ext.gn D (by rw [h3]; simp) g3 n3
           have n5:¬ Own ρe σ1 D:=λz=>n3 (a5.own D z)
           have hlen:=compL_len ec
           have hyl:=hr.len
           rw [List.length_append] at hlen
           simp only [List.length_cons,List.length_nil] at hlen
           have a05:=(a01.trans (Aft.s ab.rel at3)).trans (Aft.s at3.rel a5)
           refine ⟨ys,h4,by omega,hlt,ρe,G5,ac ++ [w.d],ys ++ [y],a05.poke hD g5 n5,upd_same,g5,n5, ?_,ec,λhF x hx=>?_⟩
           ·exact (Reps.mono a5.ext.gg _ (Reps.mono at3.ext.gg _ hr)).app (Reps.cons ry5 Reps.nil)
           ·rcases List.mem_append.mp hx with hx | hx
            ·obtain ⟨b,ws,z1,z2,z3,z4,z5,z6⟩:=((hR hF).step at3.ext.hh λb w=>.inl (at3.own b w)).step a5.ext.hh (λb w=>.inl (a5.own b w)) x hx
             exact ⟨b,ws,z1,by rw [upd_ne z6]; exact z2,z3,z4,z5,z6⟩
            ·rw [List.mem_singleton.mp hx]
             obtain ⟨dw,rfl,hdw⟩:=hF _ _ _ ee
             obtain ⟨b,rfl,_,⟨ws,z1,z2⟩,z3,z4⟩:=ry
             have hbD:b≠D:=λz=>by subst z; have:H3 b=none:=z4; rw [h3] at this; cases this
             exact ⟨b,ws,rfl,by rw [upd_ne hbD]; exact z1,by rw [z2.len]; exact hdw,z3,(a01.trans (Aft.s ab.rel at3)).ext.hx b z4,hbD⟩
          ·refine ⟨ρb,Gd,false,ρt,ab.rel,et,λH3 G3 at3=>?_⟩
           have h3:H3 D=some (.lst ys):=at3.ext.hh D _ hHD nb
           have g3:G3 D=none:=at3.ext.gn D (by rw [hHD]; simp) hGD nb
           have n3:¬ Own ρt σ1 D:=λz=>nb (at3.own D z)
           dsimp only
           rw [if_neg (by decide)]
           exact ⟨hlt,ρt,G3,ac,ys,a01.trans (Aft.s ab.rel at3),h3,g3,n3,Reps.mono at3.ext.gg _ hr,ec,λhF=>(hR hF).step at3.ext.hh λb w=>.inl (at3.own b w)⟩
          ·cases ec
        ·have hie:i=ds.length:=by omega
         refine .inl ⟨j1 hie, ?_⟩
         subst hie
         rw [List.drop_length] at ec
         simp only [compL,Option.some.injEq,Prod.mk.injEq,Out.ok.injEq] at ec
         obtain ⟨rfl,rfl⟩:=ec
         exact fin _ _ _ _ a hHD hGD hnD hr hR
     have noTmp:∀ c,Own as (xs.map some) c→Own (takeOut o ρ1) σ c:=λc z=>by
      rcases ao2 c z with z | z
      ·exact z
      ·exact absurd z (hx3 c)
     obtain ⟨w1,w2,w3,w4,w5⟩:=its_ok (K:=K) (ρ1:=ρ1) (σ:=σ) (H1:=H1) (ds:=ds) (o:=o) gg2 λc z=>noTmp c (op c z)
     exact ⟨λa vs h1 h2=>turns _ (w1 a vs h1 h2),λa vs h1 h2=>turns _ (w2 a vs h1 h2),λlo n h1=>turns _ (w3 lo n h1),λa vs ds0 lo h1 h2 h3=>turns _ (w4 a vs ds0 lo h1 h2 h3),λx h1 h2=>turns _ (w5 x h1 h2)⟩
    ·cases e6
   ·cases ef
theorem comp_imp (xo:XOk X K P C Γ) {scope:Scope} {ce:E} {k0:ItK} {its cond:List E} {imp is:List Nat} {wi:TI} (sc:ScOk Γ scope) (himp:Γ.imps (frees scope)=some imp)
  (hw:∀ σ H (R:It→Hp→Prop),HwE K P C k0 its σ H R→wi σ H R)
  {σ:St} {H:Hp} {Q:VK} (h:tE K P C (.comp ce is k0 its cond imp (locs scope).length) σ H Q):tComp X.N scope (Γ.inner scope).N wi (gB K (is.length == 1) is) (tTs K P C cond) (tE K P C ce) σ H Q:=by
 obtain ⟨ρ,G,v,ρ',r,e,k⟩:=h
 exact comp_gen xo (elt:=ev P C false ce) (λ_ _ _ z=>z) sc himp hw ⟨ρ,G,v,ρ',r,e,λx H' G' a hv _=>k x H' G' a hv⟩
theorem comp_impD (xo:XOk X K P C Γ) {scope:Scope} {ce:E} {k0:ItK} {its:List E} {imp is:List Nat} {wi:TI} (sc:ScOk Γ scope) (himp:Γ.imps (frees scope)=some imp)
  (hw:∀ σ H (R:It→Hp→Prop),HwE K P C k0 its σ H R→wi σ H R)
  {σ:St} {H:Hp} {Q:VK} (h:∃ (ρ:Env) (G:Hp) (d:D) (ρ':Env),Rel K ρ σ H G∧evD P C ce is k0 its imp (locs scope).length ρ=some (.ok (.ow d),ρ')∧∀ x H' G',Aft K ρ σ H G ρ' H' G'→VRep K H' G' (Own ρ' σ) (Fresh H) (.od d) x→Q x H'):tComp X.N scope (Γ.inner scope).N wi (gB K (is.length == 1) is) (tTs K P C []) (tE K P C ce) σ H Q:=by
 obtain ⟨ρ,G,d,ρ',r,e,k⟩:=h
 have hO:∀ ρ v ρ',odO (ev P C false ce ρ)=some (.ok v,ρ')→ev P C false ce ρ=some (.ok v,ρ')∧∃ ds,v=.ow (.lst ds)∧ds.length≤1000:=λρ v ρ' z=>by
  unfold odO at z
  split at z
  ·rename_i q
   split at z
   ·rename_i hl
    cases z
    exact ⟨q,_,rfl,hl⟩
   ·cases z
  ·cases z
 refine comp_gen xo (elt:=λρ=>odO (ev P C false ce ρ)) (λρ v ρ' z=>(hO ρ v ρ' z).1) sc himp hw ⟨ρ,G,.ow d,ρ',r,e,λx H' G' a hv hR=>k x H' G' a ?_⟩
 obtain ⟨c,rfl,g,o,n,m⟩:=hv
 exact ⟨c,rfl,g,o,n,m,hR (λρ v ρ' z=>(hO ρ v ρ' z).2) c rfl⟩
noncomputable def tDE (K:PySem.W.Frag) (P:Pins) (C:Calls) (c:E):TE:=λσ H Q=>match c with
 | .comp ce is k0 its [] imp nl=>∃ (ρ:Env) (G:Hp) (d:D) (ρ':Env),Rel K ρ σ H G∧evD P C ce is k0 its imp nl ρ=some (.ok (.ow d),ρ')∧∀ x H' G',Aft K ρ σ H G ρ' H' G'→VRep K H' G' (Own ρ' σ) (Fresh H) (.od d) x→Q x H'
 | _=>False
def OkU (X:Cx) (K:PySem.W.Frag) (P:Pins) (C:Calls) (e:Expr) (c:E):Prop:=∀ (x:Str) (i:Nat) (p pos:Pos),X.N.Nodup→X.N[i]?=some x→Loc X.env.scope x→(X.fn x=true∨X.env.scope.names.lookup x=some .local) →
 PS X (.Assign [.Name x p] e pos) (tAsg (tE K P C c) (gName i))
theorem okU_bad {e:Expr}:OkU X K P C e .bad:=λx i p pos _ _ _ _ pins s σ H D I h=>by
 obtain ⟨ρ,G,v,ρ',r,e,k⟩:=h
 cases e
theorem ok_comp (xo:XOk X K P C Γ) {elt tg iter:Expr} {ifs:List Expr} {scope:Scope} {pos:Pos} {ce:E} {k0:ItK} {its cond:List E} {imp is:List Nat} {wi:TI} (sc:ScOk Γ scope) (himp:Γ.imps (frees scope)=some imp) (htg:tgOf (Γ.inner scope) tg=some (is.length == 1,is))
  (hi:PI X tg iter wi) (hs:∀ x,foldedSetIterable iter X.env x=pure x)
  (hw:∀ σ H (R:It→Hp→Prop),HwE K P C k0 its σ H R→wi σ H R)
  (he:∀ X',XOk X' K P C (Γ.inner scope)→Ok3 X' K P C elt ce) (ht:∀ X',XOk X' K P C (Γ.inner scope)→PTs X' ifs (tTs K P C cond)) :
  Ok3 X K P C (.ListComp elt [⟨tg,iter,ifs,0⟩] scope pos) (.comp ce is k0 its cond imp (locs scope).length)∧OkU X K P C (.ListComp elt [⟨tg,iter,ifs,0⟩] scope pos) (.comp ce is k0 its cond imp (locs scope).length)∧PE X (.ListComp elt [⟨tg,iter,ifs,0⟩] scope pos) (tDE K P C (.comp ce is k0 its cond imp (locs scope).length)):=by
 have all:X.env.scope.kind=.function→(∀ X',Blk X scope (Γ.inner scope).N X'→PG X' tg (gB K (is.length == 1) is))∧(∀ X',Blk X scope (Γ.inner scope).N X'→PTs X' ifs (tTs K P C cond))∧∀ X',Blk X scope (Γ.inner scope).N X'→PE X' elt (tE K P C ce):=by
  intro hk
  have xi:∀ X',Blk X scope (Γ.inner scope).N X'→XOk X' K P C (Γ.inner scope):=λX' b=>xo.inner hk sc.nd b
  have hfn:∀ X',Blk X scope (Γ.inner scope).N X'→∀ x,(Γ.inner scope).isLoc x=true→X'.fn x=true∨X'.env.scope.names.lookup x=some .local:=λX' b x hx=>by
   rw [(xi X' b).nm]
   unfold CC.isLoc at hx
   rw [Bool.or_eq_true,Bool.and_eq_true] at hx
   rcases hx with hx | hx
   ·exact .inr (eq_of_beq hx)
   ·exact absurd hx.1 (by simp [CC.inner])
  exact ⟨λX' b=>tgOf_ok (xi X' b) (hfn X' b) htg,λX' b=>ht X' (xi X' b),λX' b=>(he X' (xi X' b)).v⟩
 have hfk:∀ p∈scope.names,p.2=.free→X.env.kindOf p.1=some .cell∨X.env.kindOf p.1=some .free:=λp hp hf=>by unfold PySem.Env.kindOf; rw [xo.nm]; exact sc.out p hp hf
 have hPE:PE X (.ListComp elt [⟨tg,iter,ifs,0⟩] scope pos) (tE K P C (.comp ce is k0 its cond imp (locs scope).length)):=λpins s σ H Q I h=>by
  obtain ⟨h1,h2,h3⟩:=all I.ok.kind
  exact pe_comp (N':=(Γ.inner scope).N) xo.calm hi hs sc.kind sc.cell sc.names hfk h1 h2 h3 pins s σ H Q I (comp_imp xo sc himp hw h)
 refine ⟨mk3 xo hPE (λi z=>nomatch z) (λρ=>rfl) λ_=>rfl,λx i p spos hN hx hl hf=>?_,λpins s σ H Q I h=>?_⟩
 case refine_2 =>
  obtain ⟨h1,h2,h3⟩:=all I.ok.kind
  cases cond with
  | nil=>exact pe_comp (N':=(Γ.inner scope).N) xo.calm hi hs sc.kind sc.cell sc.names hfk h1 h2 h3 pins s σ H Q I (comp_impD xo sc himp hw h)
  | cons _ _=>exact h.elim
 obtain ⟨b,hb⟩:∃ b:Bool,swapsWith (.ListComp elt [⟨tg,iter,ifs,0⟩] scope pos) (some (.Name x p)) spos.line X.env=pure b:=⟨_,rfl⟩
 cases b with
 | false=>exact ps_asg hPE (pg_name hN hx hl hf) hb
 | true =>
  intro pins s σ H D I h
  obtain ⟨h1,h2,h3⟩:=all I.ok.kind
  exact ps_comp_used hb hN hx hl hf xo.calm hi hs sc.kind sc.cell sc.names hfk h1 h2 h3 pins s σ H D I (comp_imp xo sc himp hw h)
end
structure ArgsOk (X:Cx) (K:PySem.W.Frag) (P:Pins) (C:Calls) (e:Expr) (cs:List E):Prop where
 h:∀ (f:Str) (p:Pos) (args:List Expr) (kw:List _) (pos:Pos),e=.Call (.Name f p) args kw pos→args.all notStar=true→PA X args (tHs K P C cs)∧cs.length=args.length
theorem cEs_len {Γ:CC}:∀ (es:List Expr),(cEs Γ es).length=es.length
 | []=>by rw [cEs]; rfl
 | e :: es=>by rw [cEs,List.length_cons,List.length_cons,cEs_len es]
section
variable {X:Cx} {K:PySem.W.Frag} {P:Pins} {C:Calls} {Γ:CC}
theorem tgOf_many {Γ:CC} {tg:Expr} {one:Bool} {is:List Nat} (h:tgOf Γ tg=some (one,is)) (n:one=false):∃ elts k p,tg=.Tuple elts k p:=by
 cases tg <;> simp only [tgOf,reduceCtorEq] at h
 ·rename_i x pos
  cases q:Γ.slotL x with
  | none=>rw [q] at h; cases h
  | some i=>rw [q] at h; cases h; cases n
 ·exact ⟨_,_,_,rfl⟩
theorem comp_elim (xo:XOk X K P C Γ) {tg iter:Expr} {scope:Scope} {ci ce:E} {cargs cond:List E} (hci:Ok3 X K P C iter ci) (hca:ArgsOk X K P C iter cargs) {Φ:E→Prop} (bad:Φ .bad)
  (good:∀ {k0:ItK} {its:List E} {imp is:List Nat} {wi:TI},ScOk Γ scope→Γ.imps (frees scope)=some imp→tgOf (Γ.inner scope) tg=some (is.length == 1,is)→PI X tg iter wi→(∀ x,foldedSetIterable iter X.env x=pure x) →
   (∀ σ H (R:It→Hp→Prop),HwE K P C k0 its σ H R→wi σ H R)→Φ (.comp ce is k0 its cond imp (locs scope).length)) :
  Φ (compC Γ scope tg iter ci cargs cond ce):=by
 unfold compC
 split
 ·rename_i hsc
  have sc:=scOk_ok hsc
  split
  ·rename_i imp one is k0 its0 q1 q2 q3
   split
   ·rename_i hsg; exact (Bool.false_ne_true hsg).elim
   split
   ·rename_i hone
    rw [Bool.and_eq_true,Bool.and_eq_true] at hone
    obtain ⟨⟨hone,hfit⟩,hns⟩:=hone
    have hone:=eq_of_beq hone
    subst hone
    have gen:∀ e:Expr,iter=e→notSet e=true→some (ItK.of,[e])=some (k0,its0)→Φ (.comp ce is k0 (itsC k0 ci cargs) cond imp (locs scope).length):=λe he' hn hq=>by
     subst he'
     cases hq
     exact good sc q1 q2 (PI.or (pi_list hci.h) (pi_tup hci.h)) (folded_ok hn _) (λσ H R q=>of_hw xo.keq σ H R (hw4 q))
    unfold itOf at q3
    split at q3
    ·rename_i f p args pos'
     split at q3
     ·rename_i hf
      have hf:=eq_of_beq hf
      subst hf
      split at q3
      ·rename_i hgl
       split at q3
       ·rename_i hc
        cases q3
        rw [Bool.and_eq_true] at hc
        obtain ⟨h1,h2,h3,h4⟩:=CC.glob_ok xo hgl (λz=>nomatch z)
        have hm:=xo.blt _ h2
        obtain ⟨hpa,hcl⟩:=hca.h _ _ _ _ _ rfl hc.1
        match its0,cargs,hc,hpa,hcl with
        | [a],[c1],hc,hpa,_ =>
         have ns:=hc.1
         rw [List.all_cons,Bool.and_eq_true] at ns
         exact good sc q1 q2 (pi_range1 h1 hm hpa (by rw [star_ok ns.1]; rfl)) (λ_=>rfl) (λσ H R q=>rng1_hw σ H R (hw4 q))
        | [a,b],[c1,c2],hc,hpa,_ =>
         have ns:=hc.1
         rw [List.all_cons,Bool.and_eq_true,List.all_cons,Bool.and_eq_true] at ns
         exact good sc q1 q2 (pi_range2 h1 hm hpa (by rw [star_ok ns.1,star_ok ns.2.1]; rfl) (by rw [star_ok ns.2.1]; rfl)) (λ_=>rfl) (λσ H R q=>rng2_hw σ H R (hw4 q))
        | [],_,hc,_,_=>simp at hc
        | _ :: _ :: _ :: _,_,hc,_,_=>simp at hc
       ·cases q3
      ·cases q3
     ·split at q3
      ·rename_i hf
       have hf:=eq_of_beq hf
       subst hf
       split at q3
       ·rename_i hgl
        split at q3
        ·rename_i hc
         cases q3
         rw [Bool.and_eq_true] at hc
         obtain ⟨h1,h2,h3,h4⟩:=CC.glob_ok xo hgl (λz=>nomatch z)
         have hm:=xo.blt _ h2
         obtain ⟨hpa,hcl⟩:=hca.h _ _ _ _ _ rfl hc.1
         match its0,cargs,hc,hpa,hcl with
         | [a],[c1],hc,hpa,_ =>
          have ns:=hc.1
          rw [List.all_cons,Bool.and_eq_true] at ns
          obtain ⟨elts,kk,tp,rfl⟩:=tgOf_many q2 (by simpa [tgFit] using hfit)
          exact good sc q1 q2 (pi_enum h1 hm hpa (by rw [star_ok ns.1]; rfl)) (λ_=>rfl) (λσ H R q=>enum_hw xo.keq σ H R (hw4 q))
         | [],_,hc,_,_=>simp at hc
         | _ :: _ :: _,_,hc,_,_=>simp at hc
        ·cases q3
       ·cases q3
      ·exact gen _ rfl rfl q3
    ·split at q3
     ·split at q3
      ·cases q3; exact absurd hns (by decide)
      ·cases q3
     ·cases q3
    ·split at q3
     ·exact gen _ rfl ‹_› q3
     ·cases q3
   ·exact bad
  ·exact bad
 ·exact bad
theorem comp_case (xo:XOk X K P C Γ) {elt tg iter:Expr} {ifs:List Expr} {scope:Scope} {pos:Pos} {ci ce:E} {cargs cond:List E} (hci:Ok3 X K P C iter ci) (hca:ArgsOk X K P C iter cargs)
  (he:∀ X',XOk X' K P C (Γ.inner scope)→Ok3 X' K P C elt ce) (ht:∀ X',XOk X' K P C (Γ.inner scope)→PTs X' ifs (tTs K P C cond)) :
  Ok3 X K P C (.ListComp elt [⟨tg,iter,ifs,0⟩] scope pos) (compC Γ scope tg iter ci cargs cond ce)∧OkU X K P C (.ListComp elt [⟨tg,iter,ifs,0⟩] scope pos) (compC Γ scope tg iter ci cargs cond ce)∧PE X (.ListComp elt [⟨tg,iter,ifs,0⟩] scope pos) (tDE K P C (compC Γ scope tg iter ci cargs cond ce)) :=
 comp_elim xo hci hca (Φ:=λc=>Ok3 X K P C (.ListComp elt [⟨tg,iter,ifs,0⟩] scope pos) c∧OkU X K P C (.ListComp elt [⟨tg,iter,ifs,0⟩] scope pos) c∧PE X (.ListComp elt [⟨tg,iter,ifs,0⟩] scope pos) (tDE K P C c)) ⟨ok_bad,okU_bad,λpins s σ H Q I h=>h.elim⟩ λsc q1 q2 hi hs hw=>ok_comp xo sc q1 q2 hi hs hw he ht
end
def RevI (i:Expr):Prop:=∃ k p1 p2 p3,i=.Slice none none (some (.UnaryOp .USub (.Constant (.int 1) k p1) p2)) p3
theorem isRev_inv {i:Expr} (h:isRev i=true):RevI i:=by
 cases i with
 | Slice lo hi st q =>
  obtain _ | _:=lo
  ·obtain _ | _:=hi
   ·obtain _ | st:=st
    ·exact bno h
    ·cases st with
     | UnaryOp op a p =>
      cases op with
      | USub =>
       cases a with
       | Constant c k p1 =>
        cases c with
        | int n =>
         have h:=eq_of_beq (show (n == 1)=true from h)
         subst h
         exact Exists.intro _ ⟨_,_,_,rfl⟩
        | _=>exact bno h
       | _=>exact bno h
      | _=>exact bno h
     | _=>exact bno h
   ·exact bno h
  ·exact bno h
 | _=>exact bno h
theorem ix_or (Γ:CC) (a i:Expr) (p:Pos):(∃ lo hi q,i=.Slice lo hi none q)∨((∀ lo hi q,i≠.Slice lo hi none q)∧cE Γ (.Subscript a i p)=if isRev i then .bad else .ix (cE Γ a) (cE Γ i)):=by
 cases i with
 | Slice lo hi st q =>
  cases st with
  | none=>exact .inl ⟨_,_,_,rfl⟩
  | some _=>exact .inr ⟨(λ_ _ _ z=>nomatch z),rfl⟩
 | _=>exact .inr ⟨(λ_ _ _ z=>nomatch z),rfl⟩
def IhE (K:PySem.W.Frag) (P:Pins) (C:Calls) (n:Nat):Prop:=∀ (X:Cx) (Γ:CC),XOk X K P C Γ→∀ e:Expr,sizeOf e<n→Ok3 X K P C e (cE Γ e)
theorem lt_sz {a b n:Nat} (h:a<b) (k:b<n+1):a<n:=Nat.lt_of_lt_of_le h (Nat.le_of_lt_succ k)
section
variable {X:Cx} {K:PySem.W.Frag} {P:Pins} {C:Calls} {Γ:CC} {n:Nat}
theorem sz_hd {e:Expr} {r:List Expr} (h:sizeOf (e :: r)<n):sizeOf e<n:=Nat.lt_trans (by simp; omega) h
theorem sz_tl {e:Expr} {r:List Expr} (h:sizeOf (e :: r)<n):sizeOf r<n:=Nat.lt_trans (by simp; omega) h
theorem esD_n (ih:IhE K P C n) (xo:XOk X K P C Γ):∀ es:List Expr,sizeOf es<n→es.all notStar=true→PA X es (tDs K P C (cEs Γ es))
 | [],_,_=>pa_nilD
 | e :: r,hs,h=>by
  rw [List.all_cons,Bool.and_eq_true] at h
  exact pa_consD (ih _ _ xo e (sz_hd hs)) (esD_n ih xo r (sz_tl hs) h.2) h.1
theorem esH_n (ih:IhE K P C n) (xo:XOk X K P C Γ):∀ es:List Expr,sizeOf es<n→es.all notStar=true→PA X es (tHs K P C (cEs Γ es))
 | [],_,_=>pa_nilH
 | e :: r,hs,h=>by
  rw [List.all_cons,Bool.and_eq_true] at h
  exact pa_consH (ih _ _ xo e (sz_hd hs)) (esH_n ih xo r (sz_tl hs) h.2) h.1
theorem and_n (ih:IhE K P C n) (xo:XOk X K P C Γ):∀ vs:List Expr,sizeOf vs<n→vs≠[]→Ok2 X K P C .And vs (cAnd Γ vs)
 | [],_,h=>absurd rfl h
 | [a],hs,_=>ok2_and1 (ih _ _ xo a (sz_hd hs))
 | a :: b :: r,hs,_=>ok2_and (ih _ _ xo a (sz_hd hs)) (and_n ih xo (b :: r) (sz_tl hs) (λz=>nomatch z))
theorem or_n (ih:IhE K P C n) (xo:XOk X K P C Γ):∀ vs:List Expr,sizeOf vs<n→vs≠[]→Ok2 X K P C .Or vs (cOr Γ vs)
 | [],_,h=>absurd rfl h
 | [a],hs,_=>ok2_or1 (ih _ _ xo a (sz_hd hs))
 | a :: b :: r,hs,_=>ok2_or (ih _ _ xo a (sz_hd hs)) (or_n ih xo (b :: r) (sz_tl hs) (λz=>nomatch z))
theorem o_n (ih:IhE K P C n) (xo:XOk X K P C Γ):∀ o:Option Expr,sizeOf o<n→PO X o (tO K P C (cO Γ o))
 | none,_=>po_noneC
 | some e,hs=>po_someC (ih _ _ xo e (Nat.lt_trans (by simp) hs))
theorem args_n (ih:IhE K P C n) (xo:XOk X K P C Γ) (e:Expr) (hs:sizeOf e<n):ArgsOk X K P C e (cArgs Γ e):=by
 cases e <;> first
  | (rename_i f args kw pos; exact ⟨λf' p' args' kw' pos' z ns=>by cases z; exact ⟨esH_n ih xo args (Nat.lt_trans (by simp; omega) hs) ns,cEs_len args⟩⟩)
  | exact ⟨λf' p' args' kw' pos' z ns=>by cases z⟩
end
theorem cE_step {X:Cx} {K:PySem.W.Frag} {P:Pins} {C:Calls} {Γ:CC} {n:Nat} (ih:IhE K P C n) (xo:XOk X K P C Γ) (e:Expr) (hsz:sizeOf e<n+1):Ok3 X K P C e (cE Γ e):=by
 cases e with
 | Name x p =>
  exact ok_name xo _ _
 | Constant c k p =>
  exact ok_const xo _ _ _
 | Tuple es k p =>
  show Ok3 X K P C _ (if es.all notStar then .tup (cEs Γ es) else .bad)
  split
  ·exact ok_tup xo (esD_n ih xo _ (lt_sz (by simp; omega) hsz) ‹_›)
  ·exact ok_bad
 | List es p =>
  show Ok3 X K P C _ (if es.all notStar then .lst (cEs Γ es) else .bad)
  split
  ·exact ok_lst xo (esD_n ih xo _ (lt_sz (by simp; omega) hsz) ‹_›)
  ·exact ok_bad
 | Dict ks vs p=>exact ok_bad
 | BinOp a op b p =>
  exact ok_bin xo (ih _ _ xo _ (lt_sz (by simp; omega) hsz)) (ih _ _ xo _ (lt_sz (by simp; omega) hsz))
 | UnaryOp op a p =>
  cases op with
  | Not =>
   exact ok_not xo (ih _ _ xo _ (lt_sz (by simp; omega) hsz))
  | USub =>
   exact ok_neg xo (ih _ _ xo _ (lt_sz (by simp; omega) hsz))
  | _=>exact ok_bad
 | Compare a ops cs p =>
  obtain _ | ⟨op,_ | ⟨op',_ | ⟨_,_⟩⟩⟩:=ops
  ·exact ok_bad
  ·obtain _ | ⟨b,_ | ⟨_,_⟩⟩:=cs
   ·exact ok_bad
   ·show Ok3 X K P C _ (if behindInMarks op b then .bad else .cmp op (cE Γ a) (cE Γ b))
    split
    ·exact ok_bad
    ·exact ok_cmp xo (ih _ _ xo _ (lt_sz (by simp; omega) hsz)) (ih _ _ xo _ (lt_sz (by simp; omega) hsz)) (by rename_i h; simpa using h)
   ·exact ok_bad
  ·obtain _ | ⟨b,_ | ⟨c,_ | ⟨_,_⟩⟩⟩:=cs
   ·exact ok_bad
   ·exact ok_bad
   ·show Ok3 X K P C _ (if behindInMarks op' c then .bad else .cmp2 op op' (cE Γ a) (cE Γ b) (cE Γ c))
    split
    ·exact ok_bad
    ·exact ok_cmp2 xo (ih _ _ xo _ (lt_sz (by simp; omega) hsz)) (ih _ _ xo _ (lt_sz (by simp; omega) hsz)) (ih _ _ xo _ (lt_sz (by simp; omega) hsz)) (by rename_i h; simpa using h)
   ·exact ok_bad
  ·exact ok_bad
 | BoolOp op vs p =>
  obtain _ | ⟨a,_ | ⟨b,r⟩⟩:=vs
  ·cases op <;> exact ok_bad
  ·cases op <;> exact ok_bad
  ·cases op with
   | And =>
    exact (ok2_and (ih _ _ xo _ (lt_sz (by simp; omega) hsz)) (and_n ih xo _ (lt_sz (by simp; omega) hsz) (by simp))).ok3 λi z=>nomatch z
   | Or =>
    exact (ok2_or (ih _ _ xo _ (lt_sz (by simp; omega) hsz)) (or_n ih xo _ (lt_sz (by simp; omega) hsz) (by simp))).ok3 λi z=>nomatch z
 | IfExp c a b p =>
  exact ok_bad
 | Subscript a i p =>
  rcases ix_or Γ a i p with ⟨lo,hi,q,rfl⟩ | ⟨hn,e⟩
  ·exact ok_sl xo (ih _ _ xo _ (lt_sz (by simp; omega) hsz)) (o_n ih xo _ (lt_sz (by simp; omega) hsz)) (o_n ih xo _ (lt_sz (by simp; omega) hsz))
  ·rw [e]
   split
   ·rename_i hr
    obtain ⟨k,p1,p2,p3,rfl⟩:=isRev_inv hr
    exact ok_bad
   ·exact ok_ix xo (ih _ _ xo _ (lt_sz (by simp; omega) hsz)) (ih _ _ xo _ (lt_sz (by simp; omega) hsz)) (plainIx_of hn)
 | Call fn args kw pos =>
  cases fn with
  | Name f p =>
   cases kw with
   | nil =>
    show Ok3 X K P C _ (if args.all notStar && decide (args≠[]) then (match Γ.glob f with | .fn g=>.call g (cEs Γ args) | .cls ns=>.bad | .blt=>if f=("isinstance":Str) then isiC Γ args (cEs Γ args) else bltC f args (cEs Γ args) | _=>.bad) else .bad)
    split
    ·rename_i hc
     rw [Bool.and_eq_true] at hc
     obtain ⟨ns,ne⟩:=hc
     cases args with
     | nil=>simp at ne
     | cons a r =>
      split
      ·rename_i g hg
       exact ok_call xo hg ns (esH_n ih xo _ (lt_sz (by simp; omega) hsz) ns)
      ·rename_i g hg
       exact ok_bad
      ·rename_i hg
       split
       ·rename_i hf
        subst hf
        unfold isiC
        split
        ·rename_i t a' _ e1 e2
         split
         ·rename_i ty hty
          simp only [cEs,List.cons.injEq] at e1 e2
          obtain ⟨rfl,rfl⟩:=e1
          obtain ⟨rfl,_⟩:=e2
          rw [List.all_cons,Bool.and_eq_true] at ns
          exact ok_isi xo hg hty ns.1 (ih _ _ xo _ (lt_sz (by simp; omega) hsz))
         ·simp only [cEs,List.cons.injEq] at e1 e2
          obtain ⟨rfl,rfl⟩:=e1
          obtain ⟨rfl,_⟩:=e2
          rw [List.all_cons,Bool.and_eq_true] at ns
          exact ok_isC xo hg ns.1 (ih _ _ xo _ (lt_sz (by simp; omega) hsz))
        ·exact ok_bad
       ·unfold bltC
        split
        ·rename_i hf2
         subst hf2
         exact ok_bif xo hg (b:=.len) rfl ns (esH_n ih xo _ (lt_sz (by simp; omega) hsz) ns)
        ·split
         ·exact ok_bad
         ·split
          ·exact ok_bad
          ·split
           ·rename_i hf2
            subst hf2
            exact ok_bif xo hg (b:=.list) rfl ns (esH_n ih xo _ (lt_sz (by simp; omega) hsz) ns)
           ·split
            ·rename_i b hb
             exact ok_bif xo hg hb ns (esH_n ih xo _ (lt_sz (by simp; omega) hsz) ns)
            ·exact ok_bad
      ·exact ok_bad
    ·exact ok_bad
   | cons _ _=>exact ok_bad
  | Attribute o m apos =>
   cases o with
   | Name x p =>
    cases kw with
    | nil =>
     show Ok3 X K P C _ (attC Γ x m apos pos args (cEs Γ args))
     unfold attC
     split
     ·rename_i tb hm
      split
      ·rename_i hc
       rw [Bool.and_eq_true,Bool.and_eq_true] at hc
       obtain ⟨⟨ns,hl⟩,hf⟩:=hc
       split
       ·exact ok_bad
       ·exact ok_bad
      ·exact ok_bad
     ·split
      ·rename_i a c hcs
       split
       ·rename_i hc
        rw [Bool.and_eq_true,Bool.and_eq_true] at hc
        obtain ⟨⟨ns,hl⟩,hm⟩:=hc
        have hm:=eq_of_beq hm
        subst hm
        split
        ·simp only [cEs,List.cons.injEq] at hcs
         obtain ⟨rfl,_⟩:=hcs
         exact ok_app xo ‹_› hl ns (ih _ _ xo _ (lt_sz (by simp; omega) hsz))
        ·exact ok_bad
       ·split
        ·rename_i hc
         rw [Bool.and_eq_true,Bool.and_eq_true] at hc
         obtain ⟨⟨ns,hl⟩,hm⟩:=hc
         have hm:=eq_of_beq hm
         subst hm
         exact ok_bad
        ·split
         ·rename_i hc
          rw [Bool.and_eq_true,Bool.and_eq_true] at hc
          obtain ⟨⟨ns,hl⟩,hm⟩:=hc
          have hm:=eq_of_beq hm
          subst hm
          exact ok_bad
         ·exact ok_bad
      ·split
       ·rename_i hc
        rw [Bool.and_eq_true] at hc
        obtain ⟨hl,hm⟩:=hc
        have hm:=eq_of_beq hm
        subst hm
        exact ok_bitl xo hl
       ·exact ok_bad
      ·rename_i a b c c' hcs
       split
       ·rename_i hc
        rw [Bool.and_eq_true,Bool.and_eq_true,Bool.and_eq_true] at hc
        obtain ⟨⟨⟨ns,ns2⟩,hl⟩,hm⟩:=hc
        have hm:=eq_of_beq hm
        subst hm
        split
        ·simp only [cEs,List.cons.injEq] at hcs
         obtain ⟨rfl,rfl,_⟩:=hcs
         exact ok_bad
        ·exact ok_bad
       ·exact ok_bad
      ·exact ok_bad
    | cons _ _=>exact ok_bad
   | Call g as kw2 p2 =>
    cases as with
    | nil=>exact ok_bad
    | cons a0 as0 =>
     cases kw with
     | nil =>
      show Ok3 X K P C _ (methC Γ m apos pos args (cE Γ (.Call g (a0 :: as0) kw2 p2)) (cEs Γ args))
      unfold methC
      split
      ·rename_i tb hm
       split
       ·rename_i hc
        rw [Bool.and_eq_true,Bool.and_eq_true] at hc
        exact ok_bad
       ·exact ok_bad
      ·exact ok_bad
     | cons _ _=>exact ok_bad
   | _=>exact ok_bad
  | _=>exact ok_bad
 | Attribute o f p =>
  cases o with
  | Name x q =>
   exact ok_bad
  | _=>exact ok_bad
 | ListComp elt gs scope pos =>
  obtain _ | ⟨⟨tg,iter,ifs,m⟩,_ | ⟨_,_⟩⟩:=gs
  ·exact ok_bad
  ·obtain _ | ⟨c,_ | ⟨_,_⟩⟩:=ifs <;> obtain (_ | _) | _:=m
   ·exact (comp_case xo (ih _ _ xo _ (lt_sz (by simp; omega) hsz)) (args_n ih xo _ (lt_sz (by simp; omega) hsz)) (λX' xo'=>ih _ _ xo' _ (lt_sz (by simp; omega) hsz)) (λX' xo'=>pts_nilC)).1
   ·exact ok_bad
   ·exact ok_bad
   ·exact (comp_case xo (ih _ _ xo _ (lt_sz (by simp; omega) hsz)) (args_n ih xo _ (lt_sz (by simp; omega) hsz)) (λX' xo'=>ih _ _ xo' _ (lt_sz (by simp; omega) hsz)) (λX' xo'=>pts_oneC (ih _ _ xo' _ (lt_sz (by simp; omega) hsz)))).1
   all_goals exact ok_bad
  ·obtain _ | ⟨c,_ | ⟨_,_⟩⟩:=ifs <;> obtain (_ | _) | _:=m <;> exact ok_bad
 | _=>exact ok_bad
theorem ihE_all {K:PySem.W.Frag} {P:Pins} {C:Calls}:∀ n:Nat,IhE K P C n
 | 0=>λ_ _ _ _ h=>absurd h (Nat.not_lt_zero _)
 | n+1=>λ_ _ xo e h=>cE_step (ihE_all n) xo e h
section
variable {X:Cx} {K:PySem.W.Frag} {P:Pins} {C:Calls} {Γ:CC}
theorem cE_ok (xo:XOk X K P C Γ) (e:Expr):Ok3 X K P C e (cE Γ e):=ihE_all _ _ _ xo e (Nat.lt_succ_self _)
theorem cArgs_ok (xo:XOk X K P C Γ) (e:Expr):ArgsOk X K P C e (cArgs Γ e):=args_n (ihE_all _) xo e (Nat.lt_succ_self _)
theorem cEs_okD (xo:XOk X K P C Γ) (es:List Expr) (h:es.all notStar=true):PA X es (tDs K P C (cEs Γ es)):=esD_n (ihE_all _) xo es (Nat.lt_succ_self _) h
theorem cEs_okH (xo:XOk X K P C Γ) (es:List Expr) (h:es.all notStar=true):PA X es (tHs K P C (cEs Γ es)):=esH_n (ihE_all _) xo es (Nat.lt_succ_self _) h
end
theorem okU_of {X:Cx} {K:PySem.W.Frag} {P:Pins} {C:Calls} {Γ:CC} (xo:XOk X K P C Γ) (e:Expr) (h:isLC e=true):OkU X K P C e (cE Γ e):=by
 cases e <;> simp only [isLC,Bool.false_eq_true] at h
 rename_i elt gs scope pos
 obtain _ | ⟨⟨tg,iter,ifs,n⟩,_ | ⟨_,_⟩⟩:=gs
 ·exact okU_bad
 ·obtain _ | ⟨c,_ | ⟨_,_⟩⟩:=ifs <;> obtain (_ | _) | _:=n
  ·exact (comp_case xo (cE_ok xo iter) (cArgs_ok xo iter) (λX' xo'=>cE_ok xo' elt) (λX' xo'=>pts_nilC)).2.1
  ·exact okU_bad
  ·exact okU_bad
  ·exact (comp_case xo (cE_ok xo iter) (cArgs_ok xo iter) (λX' xo'=>cE_ok xo' elt) (λX' xo'=>pts_oneC (cE_ok xo' c))).2.1
  all_goals exact okU_bad
 ·obtain _ | ⟨c,_ | ⟨_,_⟩⟩:=ifs <;> obtain (_ | _) | _:=n <;> exact okU_bad
section
variable {X:Cx} {K:PySem.W.Frag} {P:Pins} {C:Calls} {W:Nat} {Γ:CC}
def XFl (X:Cx) (K:PySem.W.Frag) (ρ:Env) (σ:St) (H G:Hp) (ρ':Env) (x:Exc):Prop:=∀ pins σ' H' G' s' a Ca p,AftS K ρ σ H G ρ' σ' H' G'→Inv X pins σ' H' s'→FlyO X pins H' s'.heap a Ca p→PySem.W.nsIn K mainGlobals x.cls=some (some (.ref Ca))→ExcG K Ca→Pay K G' Ca p x.num→X.xe (.ref a) s'
theorem XFl.pre {ρ ρ1 ρ':Env} {σ σ1:St} {H G H1 G1:Hp} {x:Exc} (a:AftS K ρ σ H G ρ1 σ1 H1 G1) (h:XFl X K ρ σ H G ρ' x):XFl X K ρ1 σ1 H1 G1 ρ' x:=λpins σ' H' G' s' b Ca p q=>h pins σ' H' G' s' b Ca p (a.trans q)
noncomputable def tEX (X:Cx) (K:PySem.W.Frag) (P:Pins) (C:Calls) (c:E):TE:=λσ H _=>∃ ρ G x ρ',Rel K ρ σ H G∧evX P C c ρ=some (x,ρ')∧XFl X K ρ σ H G ρ' x
noncomputable def tHsX (X:Cx) (K:PySem.W.Frag) (P:Pins) (C:Calls) (cs:List E):TA:=λσ H _=>∃ ρ G x ρ',Rel K ρ σ H G∧evXs P C cs ρ=some (x,ρ')∧XFl X K ρ σ H G ρ' x
noncomputable def tSX (X:Cx) (K:PySem.W.Frag) (P:Pins) (C:Calls) (W:Nat) (c:S):TS:=λ_ σ H=>∃ ρ G x ρ',Rel K ρ σ H G∧exX P C W c ρ=some (x,ρ')∧XFl X K ρ σ H G ρ' x
noncomputable def tSsX (X:Cx) (K:PySem.W.Frag) (P:Pins) (C:Calls) (W:Nat) (c:List S):TS:=λ_ σ H=>∃ ρ G x ρ',Rel K ρ σ H G∧exsX P C W c ρ=some (x,ρ')∧XFl X K ρ σ H G ρ' x
theorem pe_or {e:Expr} {t u:TE} (h1:PE X e t) (h2:PE X e u):PE X e (λσ H Q=>t σ H Q∨u σ H Q):=λpins s σ H Q I q=>q.elim (h1 pins s σ H Q I) (h2 pins s σ H Q I)
theorem ps_or {st:Stmt} {t u:TS} (h1:PS X st t) (h2:PS X st u):PS X st (λD σ H=>t D σ H∨u D σ H):=λpins s σ H D I q=>q.elim (h1 pins s σ H D I) (h2 pins s σ H D I)
end
section
variable {X:Cx} {pins:List (Addr × Obj)} {σ:L2.St} {H:Hp} {s:Shared}
end
section
variable {K:PySem.W.Frag} {ρ0 ρ:Env} {σ:St} {H0 G0 H G:Hp}
end
section
variable {X:Cx} {K:PySem.W.Frag} {P:Pins} {C:Calls} {Γ:CC}
def OkUX (X:Cx) (K:PySem.W.Frag) (P:Pins) (C:Calls) (e:Expr) (c:E):Prop:=∀ (W:Nat) (x:Str) (i:Nat) (p pos:Pos),X.N.Nodup→X.N[i]?=some x→Loc X.env.scope x→(X.fn x=true∨X.env.scope.names.lookup x=some .local) →
 PS X (.Assign [.Name x p] e pos) (tSX X K P C W (.asg i c))
end
section
variable {X:Cx} {K:PySem.W.Frag} {P:Pins} {C:Calls} {W:Nat} {Γ:CC}
def isRs:E→Bool
 | .call _ _=>true
 | _=>false
theorem nc_name {x:Str}:isRs (cName Γ x)=false:=by unfold cName; split; rfl; split <;> rfl
theorem nc_const {c:Const}:isRs (cConst c)=false:=by
 cases c <;> first | rfl | (show isRs (if _ then _ else _)=false; split <;> rfl)
theorem nc_dict {ks:List (Option Expr)} {vs:List Expr} {cs es:List E}:isRs (dictC ks vs cs es)=false:=by unfold dictC; (repeat' split) <;> rfl
theorem nc_txt {x m:Str} {p q:Pos} {a:Expr}:isRs (txtC Γ x m p q a)=false:=by
 rfl
theorem nc_att {x m:Str} {p q:Pos} {as:List Expr} {cs:List E}:isRs (attC Γ x m p q as cs)=false:=by unfold attC; repeat' split <;> first | rfl | exact nc_txt | skip
theorem nc_meth {m:Str} {p q:Pos} {as:List Expr} {a:E} {cs:List E}:isRs (methC Γ m p q as a cs)=false:=by unfold methC; repeat' split <;> try rfl
theorem nc_sub {t:Expr} {a:E}:isRs (subC Γ t a)=false:=by unfold subC; repeat' split <;> try rfl
theorem nc_isi {as:List Expr} {cs:List E}:isRs (isiC Γ as cs)=false:=by
 unfold isiC
 split
 ·split
  ·rfl
  ·exact nc_sub
 ·rfl
theorem nc_len {as:List Expr} {cs:List E}:isRs (lenC as cs)=false:=by unfold lenC; first | rfl | (repeat' split <;> try rfl)
theorem nc_list {as:List Expr} {cs:List E}:isRs (listC as cs)=false:=by unfold listC; first | rfl | (repeat' split <;> try rfl)
theorem nc_blt {f:Str} {as:List Expr} {cs:List E}:isRs (bltC f as cs)=false:=by
 unfold bltC setC
 split
 ·exact nc_len
 ·split
  ·(repeat' split) <;> rfl
  ·split
   ·rfl
   ·split
    ·exact nc_list
    ·split <;> rfl
theorem nc_ite {b:Prop} [Decidable b] {a c:E} (h1:isRs a=false) (h2:isRs c=false):isRs (if b then a else c)=false:=by split <;> assumption
def CallR (Γ:CC) (e:Expr):Prop:=(∃ f p a r pos g,e=.Call (.Name f p) (a :: r) [] pos∧Γ.glob f=.fn g∧(a :: r).all notStar=true∧cE Γ e=.call g (cEs Γ (a :: r)))∨∃ elt tg iter ifs sc pos,e=.ListComp elt [⟨tg,iter,ifs,0⟩] sc pos∧(ifs=[]∨∃ c1,ifs=[c1])
theorem call_inv0 {e:Expr} (h:isRs (cE Γ e)=true):CallR Γ e:=by
 cases e with
 | Name x p=>exact bno ((nc_name (x:=x)).symm.trans h)
 | Constant c _ _=>exact bno ((nc_const (c:=c)).symm.trans h)
 | Tuple es _ _=>exact bno ((nc_ite (b:=es.all notStar=true) (a:=.tup (cEs Γ es)) (c:=.bad) rfl rfl).symm.trans h)
 | List es _=>exact bno ((nc_ite (b:=es.all notStar=true) (a:=.lst (cEs Γ es)) (c:=.bad) rfl rfl).symm.trans h)
 | Dict ks vs _=>exact bno ((nc_dict (ks:=ks) (vs:=vs) (cs:=cOs Γ ks) (es:=cEs Γ vs)).symm.trans h)
 | BinOp a op b _=>exact bno h
 | UnaryOp op a _=>cases op <;> exact bno h
 | Compare a ops bs _ =>
  obtain _ | ⟨o1,_ | ⟨o2,_ | ⟨o3,_⟩⟩⟩:=ops <;> obtain _ | ⟨b1,_ | ⟨b2,_ | ⟨b3,_⟩⟩⟩:=bs <;> first
   | exact bno h
   | exact bno ((nc_ite (b:=behindInMarks o1 b1=true) (a:=.bad) (c:=.cmp o1 (cE Γ a) (cE Γ b1)) rfl rfl).symm.trans h)
   | exact bno ((nc_ite (b:=behindInMarks o2 b2=true) (a:=.bad) (c:=.cmp2 o1 o2 (cE Γ a) (cE Γ b1) (cE Γ b2)) rfl rfl).symm.trans h)
 | BoolOp op es _ =>
  cases op <;> obtain _ | ⟨a,_ | ⟨b,r⟩⟩:=es <;> exact bno h
 | IfExp c a b _=>exact bno h
 | Subscript a i _ =>
  rcases ix_or Γ a i ‹Pos› with ⟨lo,hi,q,rfl⟩ | ⟨_,z⟩
  ·exact bno h
  ·rw [z] at h
   exact bno ((nc_ite rfl rfl).symm.trans h)
 | Attribute o f _=>cases o <;> exact bno h
 | ListComp elt gens sc _ =>
  obtain _ | ⟨⟨tg,it,ifs,n⟩,_ | ⟨_,_⟩⟩:=gens
  ·exact bno h
  ·obtain _ | ⟨c1,_ | ⟨_,_⟩⟩:=ifs <;> obtain (_ | _) | _:=n <;> first
    | exact Or.inr ⟨elt,tg,it,[],sc,_,rfl,.inl rfl⟩
    | exact Or.inr ⟨elt,tg,it,[c1],sc,_,rfl,.inr ⟨c1,rfl⟩⟩
    | exact bno h
  ·obtain _ | ⟨c1,_ | ⟨_,_⟩⟩:=ifs <;> obtain (_ | _) | _:=n <;> exact bno h
 | Call fn args kw pos =>
  cases fn with
  | Name f p =>
   cases kw with
   | nil =>
    change isRs (if args.all notStar && decide (args≠[]) then (match Γ.glob f with | .fn g=>.call g (cEs Γ args) | .cls ns=>.bad | .blt=>if f=("isinstance":Str) then isiC Γ args (cEs Γ args) else bltC f args (cEs Γ args) | _=>.bad) else .bad)=true at h
    split at h
    ·rename_i hc
     split at h
     ·rename_i g hg
      rw [Bool.and_eq_true] at hc
      cases args with
      | nil=>simp at hc
      | cons a r =>
       refine Or.inl ⟨f,p,a,r,pos,g,rfl,hg,hc.1, ?_⟩
       show (if (a :: r).all notStar && decide ((a :: r)≠[]) then (match Γ.glob f with | .fn g=>E.call g (cEs Γ (a :: r)) | .cls ns=>E.bad | .blt=>if f=("isinstance":Str) then isiC Γ (a :: r) (cEs Γ (a :: r)) else bltC f (a :: r) (cEs Γ (a :: r)) | _=>.bad) else .bad)=_
       rw [if_pos (by rw [hc.1]; simp),hg]
     ·cases h
     ·rw [nc_ite nc_isi nc_blt] at h; cases h
     ·cases h
    ·cases h
   | cons _ _=>exact bno h
  | Attribute o m apos =>
   cases kw with
   | nil =>
    cases o with
    | Name x p=>exact bno ((nc_att (x:=x) (m:=m) (p:=apos) (q:=pos) (as:=args) (cs:=cEs Γ args)).symm.trans h)
    | Call g as0 kw0 p0 =>
     cases as0 with
     | nil=>exact bno h
     | cons a0 r0=>exact bno ((nc_meth (m:=m) (p:=apos) (q:=pos) (as:=args) (a:=cE Γ (.Call g (a0 :: r0) kw0 p0)) (cs:=cEs Γ args)).symm.trans h)
    | _=>exact bno h
   | cons _ _ =>
    cases o with
    | Call g as0 kw0 p0=>cases as0 <;> exact bno h
    | _=>exact bno h
  | _=>exact bno h
 | _=>exact bno h
theorem call_inv {e:Expr} (h:isRs (cE Γ e)=true):(∃ f p a r pos g,e=.Call (.Name f p) (a :: r) [] pos∧Γ.glob f=.fn g∧(a :: r).all notStar=true∧cE Γ e=.call g (cEs Γ (a :: r)))∨∃ elt tg iter ifs sc pos,e=.ListComp elt [⟨tg,iter,ifs,0⟩] sc pos∧(ifs=[]∨∃ c1,ifs=[c1]):=call_inv0 h
theorem evX_call {c:E} {ρ ρ':Env} {x:Exc} (h:evX P C c ρ=some (x,ρ')):isRs c=true:=by
 cases c <;> first | rfl | (simp [evX] at h)
theorem rs_comp {sc:Scope} {tg it:Expr} {ci:E} {as cs:List E} {ce:E} (h:isRs (compC Γ sc tg it ci as cs ce)=true):False:=by
 unfold compC at h
 (repeat' split at h) <;> cases h
def IhX (K:PySem.W.Frag) (P:Pins) (C:Calls) (n:Nat):Prop:=∀ (X:Cx) (Γ:CC),XOk X K P C Γ→∀ e:Expr,sizeOf e<n→PE X e (tEX X K P C (cE Γ e))
theorem esX_n {X:Cx} {Γ:CC} {n:Nat} (ih:IhX K P C n) (xo:XOk X K P C Γ):∀ es:List Expr,sizeOf es<n→es.all notStar=true→PA X es (tHsX X K P C (cEs Γ es))
 | [],_,_=>by
  intro pos pins s σ H Q I ⟨ρ,G,x,ρ',r,e0,k⟩
  simp only [cEs,evXs] at e0
  cases e0
 | e :: es,hs,ns=>by
  have ns':=ns
  rw [List.all_cons,Bool.and_eq_true] at ns'
  refine TA.imp_pa (pa_cons (pe_or (cE_ok xo e).h (ih _ _ xo e (sz_hd hs))) (esX_n ih xo es (sz_tl hs) ns'.2) (star_ok ns'.1 _ _)) λσ H Q ⟨ρ,G,x,ρ',r,e0,k⟩=>?_
  simp only [cEs,evXs] at e0
  split at e0
  ·rename_i v ρ1 q1
   exact .inl ⟨ρ,G,v,ρ1,r,q1,λy H1 G1 a1 _=>⟨ρ1,G1,x,ρ',a1.rel,e0,k.pre (Aft.s r a1)⟩⟩
  ·exact .inr ⟨ρ,G,x,ρ',r,e0,k⟩
theorem cEX_step {X:Cx} {Γ:CC} {n:Nat} (ih:IhX K P C n) (xo:XOk X K P C Γ) (e:Expr) (hsz:sizeOf e<n+1):PE X e (tEX X K P C (cE Γ e)):=by
 intro pins s σ H Q I ⟨ρ,G,x,ρ',r,e0,k⟩
 rcases call_inv (evX_call e0) with ⟨f,p,a,rest,pos,g,rfl,hf,ns,hc⟩ | ⟨elt,tg,iter,ifs,sc,pos,rfl,rfl | ⟨c1,rfl⟩⟩
 case inr.inl=>exact (rs_comp (show isRs (compC Γ sc tg iter (cE Γ iter) (cArgs Γ iter) [] (cE (Γ.inner sc) elt))=true from evX_call e0)).elim
 case inr.inr=>exact (rs_comp (show isRs (compC Γ sc tg iter (cE Γ iter) (cArgs Γ iter) [cE (Γ.inner sc) c1] (cE (Γ.inner sc) elt))=true from evX_call e0)).elim
 rw [hc] at e0
 obtain ⟨h1,h2,h3,h4⟩:=CC.glob_ok xo hf (λz=>nomatch z)
 obtain ⟨fa,fd,ps,k0,F,hr,hm,hk,hb⟩:=(xo.fnX f g h2).ex
 have ns':=ns
 rw [List.all_cons,Bool.and_eq_true] at ns'
 simp only [evX] at e0
 have argsX:evXs P C (cEs Γ (a :: rest)) ρ=some (x,ρ')→wpAny (model X.prog X.w) X.A (eval (.Call (.Name f p) (a :: rest) [] pos) X.env) (EP X pins σ Q) X.xe s:=λz =>
  pe_callX F hr h1 hm hk hb (esX_n ih xo (a :: rest) (lt_sz (by simp; omega) hsz) ns) h3 (star_ok ns'.1 _ _) (star_any ns'.2 _ _).1 pins s σ H Q I ⟨ρ,G,x,ρ',r,z,k⟩
 split at e0
 ·rename_i hs ρ1 q1
  split at e0
  ·rename_i x' ρ2 q2
   cases e0
   refine pe_callX F hr h1 hm hk hb (cEs_okH xo (a :: rest) ns) h3 (star_ok ns'.1 _ _) (star_any ns'.2 _ _).1 pins s σ H Q I ⟨ρ,G,hs,ρ1,r,q1,λxs H1 G1 a1 rx=>?_⟩
   obtain ⟨as,G2,as',d1,d2,d3,d4⟩:=doCall_ex a1 rx q2
   refine ⟨λv p H'=>∃ Ca G',v=.ref Ca∧Aft K ρ σ H G ρ' H' G'∧PySem.W.nsIn K mainGlobals x.cls=some (some (.ref Ca))∧ExcG K Ca∧Pay K G' Ca p x.num,⟨?_,as,G2,x,as',d1,d2,d3,λH' G' Ca p b hn hg hp=>⟨Ca,G',rfl,d4 H' G' b,hn,hg,hp⟩⟩,λpins' b Cb p H' s' I' F' ⟨Ca,G',z,b1,b2,b3,b4⟩=>?_⟩
   ·have:=d1.len
    rw [List.length_map] at this
    omega
   ·cases z
    exact k pins' σ H' G' s' b Cb p (Aft.s r b1) I' F' b2 b3 b4
  ·cases e0
 ·exact argsX e0
theorem ihX_all:∀ n:Nat,IhX K P C n
 | 0=>λ_ _ _ _ h=>absurd h (Nat.not_lt_zero _)
 | n+1=>λ_ _ xo e h=>cEX_step (ihX_all n) xo e h
theorem cEX_ok {X:Cx} {Γ:CC} (xo:XOk X K P C Γ) (e:Expr):PE X e (tEX X K P C (cE Γ e)):=ihX_all _ _ _ xo e (Nat.lt_succ_self _)
theorem cUX_ok (xo:XOk X K P C Γ) {elt tg iter:Expr} {ifs:List Expr} {sc:Scope} {pos:Pos} (h:ifs=[]∨∃ c1,ifs=[c1]):OkUX X K P C (.ListComp elt [⟨tg,iter,ifs,0⟩] sc pos) (cE Γ (.ListComp elt [⟨tg,iter,ifs,0⟩] sc pos)):=by
 intro W x i p pos _ _ _ _ pins s σ H D I ⟨ρ,G,x0,ρ',r,e0,k⟩
 rcases h with rfl | ⟨c1,rfl⟩
 ·exact (rs_comp (show isRs (compC Γ sc tg iter (cE Γ iter) (cArgs Γ iter) [] (cE (Γ.inner sc) elt))=true from evX_call (P:=P) (C:=C) e0)).elim
 ·exact (rs_comp (show isRs (compC Γ sc tg iter (cE Γ iter) (cArgs Γ iter) [cE (Γ.inner sc) c1] (cE (Γ.inner sc) elt))=true from evX_call (P:=P) (C:=C) e0)).elim
end
section
variable {X:Cx} {K:PySem.W.Frag} {P:Pins} {C:Calls} {W:Nat} {Γ:CC} {pins pins':List (Addr × Obj)} {σ:St} {H G:Hp} {s:Shared}
abbrev Cx.re (X:Cx) (E:Value→Shared→Prop) (pn:List (Addr × Obj)):Cx:={ X with xe:=E,pn:=pn }
abbrev Cx.ma (X:Cx) (v:Value):Cx:={ X with A:=X.A.mark (some v),calm:=false,xe:=λ_ _=>False }
theorem ok_re {E:Value→Shared→Prop} {pn:List (Addr × Obj)} (o:X.Ok):(Cx.re X E pn).Ok :=
 ⟨o.mod,o.kind,o.glob,o.blt,o.above,o.inj,o.has,o.cab,o.hd,o.frames,o.stk,o.exf,o.bs,o.bsz,o.noex,o.exfs,o.funs,o.frf⟩
theorem ok_un {E:Value→Shared→Prop} {pn:List (Addr × Obj)} (o:(Cx.re X E pn).Ok):X.Ok :=
 ⟨o.mod,o.kind,o.glob,o.blt,o.above,o.inj,o.has,o.cab,o.hd,o.frames,o.stk,o.exf,o.bs,o.bsz,o.noex,o.exfs,o.funs,o.frf⟩
theorem ok_ma {v:Value} (o:X.Ok):(Cx.ma X v).Ok :=
 ⟨o.mod,o.kind,o.glob,o.blt,o.above,o.inj,o.has,o.cab,(λz=>nomatch z),o.frames,o.stk,o.exf,o.bs,o.bsz,o.noex,o.exfs,o.funs,o.frf⟩
theorem inv_re {E:Value→Shared→Prop} (I:Inv X pins σ H s):Inv (Cx.re X E (X.pn ++ pins)) [] σ H s :=
 ⟨ok_re I.ok,I.os,I.bare,I.base,I.loc,I.cell,I.free,I.freeC,λp hp=>I.pin p (by simpa using hp),I.hok,I.len⟩
theorem inv_un {E:Value→Shared→Prop} (I:Inv (Cx.re X E (X.pn ++ pins)) pins' σ H s):Inv X pins σ H s :=
 ⟨ok_un I.ok,I.os,I.bare,I.base,I.loc,I.cell,I.free,I.freeC,λp hp=>I.pin p (List.mem_append_left _ hp),I.hok,I.len⟩
theorem inv_ma {v:Value} (I:Inv X pins σ H s):Inv (Cx.ma X v) pins σ H s :=
 ⟨ok_ma I.ok,I.os,I.bare,I.base,I.loc,I.cell,I.free,I.freeC,I.pin,I.hok,I.len⟩
theorem inv_am {E:Value→Shared→Prop} {v:Value} (o:X.Ok) (I:Inv (Cx.ma (Cx.re X E (X.pn ++ pins)) v) pins' σ H s):Inv X pins σ H s :=
 ⟨o,I.os,I.bare,I.base,I.loc,I.cell,I.free,I.freeC,λp hp=>I.pin p (List.mem_append_left _ hp),I.hok,I.len⟩
theorem XOk.re {E:Value→Shared→Prop} {pn:List (Addr × Obj)} (xo:XOk X K P C Γ):XOk (Cx.re X E pn) K P C Γ :=
 XOk.of xo.keq xo.neq xo.nm xo.nd xo.calm xo.hh xo.hu xo.con xo.blt (λx f h=>⟨(xo.fn x f h).ex⟩) (λx ns h=>⟨(xo.cls x ns h).ex⟩) (λm tb c f h1 h2=>⟨(xo.mth m tb c f h1 h2).ex⟩) xo.rm xo.sub xo.subx ⟨xo.exc,λx h=>⟨(xo.exi x h).ex⟩⟩ xo.exs (λx f h=>⟨(xo.fnX x f h).ex⟩) xo.tp
theorem aft_gone {ρ:Env} {i:Nat} {d:D} (r:Rel K ρ σ H G) (h:ρ[i]?=some (.sh d)):AftS K ρ σ H G (ρ.set i .mv) (σ.set i none) H G:=by
 have oth:∀ {j:Nat} {sl:Sl},(ρ.set i .mv)[j]?=some sl→(j=i∧sl=.mv)∨(j≠i∧ρ[j]?=some sl∧(σ.set i none)[j]?=σ[j]?):=λ{j sl} q=>by
  rcases set_cases q with ⟨h1,h2,_⟩ | ⟨h1,h2⟩
  ·exact .inl ⟨h1,h2⟩
  ·exact .inr ⟨h1,h2,List.getElem?_set_ne (λz=>h1 z.symm)⟩
 refine ⟨⟨by rw [List.length_set,List.length_set]; exact r.len,r.sub,λj d' q=>?_,λj d' p l q=>?_,λj k d1 p1 l1 d2 p2 l2 a q1 q2 q3 q4=>?_⟩,Ext.refl,λa ⟨j,d',p,l,q1,q2⟩=>?_,λj q=>?_,λj d' l q=>?_,by rw [List.length_set]⟩
 ·rcases oth q with ⟨_,z⟩ | ⟨_,z,z2⟩
  ·cases z
  ·rw [z2]; exact r.sh j d' z
 ·rcases oth q with ⟨_,z⟩ | ⟨_,z,z2⟩
  ·cases z
  ·rw [z2]; exact r.ow j d' p l z
 ·rcases oth q1 with ⟨_,z⟩ | ⟨_,z,z2⟩
  ·cases z
  ·rcases oth q2 with ⟨_,w⟩ | ⟨_,w,w2⟩
   ·cases w
   ·rw [z2] at q3
    rw [w2] at q4
    exact r.inj _ _ _ _ _ _ _ _ _ z w q3 q4
 ·rcases oth q1 with ⟨_,z⟩ | ⟨_,z,z2⟩
  ·cases z
  ·rw [z2] at q2
   exact .inl ⟨j,d',p,l,z,q2⟩
 ·rcases oth q with ⟨_,z⟩ | ⟨_,z,z2⟩
  ·cases z
  ·exact ⟨z,z2⟩
 ·have hj:j≠i:=λz=>by rw [z,h] at q; cases q
  exact ⟨List.getElem?_set_ne (λz=>hj z.symm),d',by rw [List.getElem?_set_ne (λz=>hj z.symm)]; exact q⟩
theorem store_sh {i:Nat} {d:D} {ρ ρ':Env} (h:store i (.sh d) ρ=some ρ'):ρ'=ρ.set i (.sh d)∧i<ρ.length:=by
 unfold store at h
 split at h
 ·cases h
 ·cases h
 ·cases h
 ·rename_i q
  cases h
  exact ⟨rfl,(List.getElem?_eq_some_iff.mp q).1⟩
theorem aft_caught {ρ ρ1 ρ2 ρ3:Env} {σ1:St} {H1 G1:Hp} {a:Addr} {o:HO} {c:D} {i j:Nat} (a0:AftS K ρ σ H G ρ1 σ1 H1 G1) (ha:H1 a=none) (rep:Rep K (upd G1 a o) c (.ref a)) (e2:store i (.sh c) ρ1=some ρ2) (e3:store j (.sh c) ρ2=some ρ3) (hij:i≠j) :
  AftS K ρ σ H G (ρ3.set i .mv) (((σ1.set i (some (.ref a))).set j (some (.ref a))).set i none) (upd H1 a o) (upd G1 a o):=by
 have b1:AftS K ρ1 σ1 H1 G1 ρ1 σ1 (upd H1 a o) (upd G1 a o):=⟨a0.rel.layG ha,Ext.layG a0.rel.sub ha,λ_ h=>.inl h,λ_ h=>⟨h,rfl⟩,λ_ d _ h=>⟨rfl,d,h⟩,rfl⟩
 have b2:=b1.rel.store1 e2 rep
 have b3:=b2.rel.store1 e3 rep
 obtain ⟨q1,l1⟩:=store_sh e2
 obtain ⟨q2,l2⟩:=store_sh e3
 refine a0.trans (b1.trans (b2.trans (b3.trans (aft_gone b3.rel (d:=c) ?_))))
 rw [q2,List.getElem?_set_ne (λz=>hij z.symm),q1,List.getElem?_set_self l1]
theorem ps_tryS (xo:XOk X K P C Γ) (stk:X.stack=X.env :: X.outer) (fr:X.env.frame=some X.env.locals) {body:List Stmt} {cb:List S} {x n y:Str} {cs:List Str} {i j:Nat} {np p3 p4 p5 hp pos:Pos}
  (hb:∀ E pn,PassesOwn (model X.prog X.w) X.A X.env E→PSs (Cx.re X E pn) body (tSs K P C W cb)) (hbx:∀ E pn,PassesOwn (model X.prog X.w) X.A X.env E→PSs (Cx.re X E pn) body (tSsX (Cx.re X E pn) K P C W cb))
  (hx:Γ.globE x=.exs cs) (hi:X.N[i]?=some n) (hn:X.env.scope.names.lookup n=some .local) (hnb:badName n=false) (hj:X.N[j]?=some y) (hy:L2.Loc X.env.scope y) (hyf:X.fn y=true∨X.env.scope.names.lookup y=some .local) :
  PS X (.Try body [.ExceptHandler (some (.Name x np)) (some n) [.Assign [.Name y p3] (.Name n p4) p5] hp] [] [] pos) (tS K P C W (.tryA cb cs i j)):=by
 intro pins s σ H D I ⟨ρ,G,fl,ρ',r,e,k⟩
 have hN:X.N.Nodup:=by rw [xo.neq]; exact xo.nd
 have hloc:L2.Loc X.env.scope n:=.inl hn
 refine wpAny_Try_except ?_
 replace e:(match exs P C W cb ρ with | some (.nx,ρ1)=>some (.nx,ρ1) | _=>caught cs i j (exsX P C W cb ρ))=some (fl,ρ'):=e
 split at e
 ·rename_i ρ1 q
  cases e
  refine wpAny_mono (hb _ (X.pn ++ pins) PassesOwn.looking [] s σ H D (inv_re I) ⟨ρ,G,.nx,ρ',r,q,k⟩) (λf s1 h1=>?_) λ_ _ z=>z
  cases f with
  | next =>
   obtain ⟨σ',H',J,z⟩:=h1
   exact wpAny_execs_nil ⟨σ',H',inv_un J,z⟩
  | brk=>obtain ⟨σ',H',J,z⟩:=h1; exact ⟨σ',H',inv_un J,z⟩
  | cont=>obtain ⟨σ',H',J,z⟩:=h1; exact ⟨σ',H',inv_un J,z⟩
  | ret u=>obtain ⟨v,σ',H',J,w,z⟩:=h1; exact ⟨v,σ',H',inv_un J,w,z⟩
 ·unfold caught at e
  split at e
  ·cases e
  ·rename_i x0 ρ1 q
   split at e
   ·rename_i hc
    obtain ⟨hc,hij⟩:=hc
    cases q2:store i (.sh (.exn x0.cls x0.num)) ρ1 with
    | none=>rw [q2] at e; cases e
    | some ρ2 =>
     rw [q2] at e
     simp only [Option.bind_some] at e
     cases q3:store j (.sh (.exn x0.cls x0.num)) ρ2 with
     | none=>rw [q3] at e; cases e
     | some ρ3 =>
      rw [q3] at e
      cases e
      have nb:=hnb
      simp only [badName,Bool.or_eq_false_iff] at nb
      refine wpAny_mono (hbx _ (X.pn ++ pins) PassesOwn.looking [] s σ H { nx:=λ_ _=>False,bk:=λ_ _=>False,ct:=λ_ _=>False,rt:=λ_ _=>False } (inv_re I) ⟨ρ,G,x0,ρ1,r,q, ?_⟩) (λf s1 h1=>?_) λ_ _ z=>z
      ·intro pins' σ' H' G' s' a Ca pp aft I' F hcl hg hpy
       refine note_ok (X:=Cx.re X _ (X.pn ++ pins)) I' stk fr F λh1 I1 F1=>flight_ok (X:=Cx.re X _ (X.pn ++ pins)) I1 F.1 F1 λh2 I2 F2=>?_
       have hgl:∃ D0,X.mg x=some (.ref D0)∧(∃ i,ExcP K D0 i)∧PySem.W.mroIn K Ca (.ref D0)=some true∧Gl X x∧(x == ("__debug__":Str))=false:=by
        unfold CC.globE at hx
        split at hx
        ·cases hx
        ·rename_i hbd
         split at hx
         ·rename_i hig
          obtain ⟨D0,d1,d2,d3⟩:=(xo.exs x cs hx).ex
          refine ⟨D0,d1,d2,d3 _ (by simpa using hc) Ca hcl, ?_, ?_⟩
          ·unfold Gl PySem.Env.kindOf
           rw [xo.nm]
           exact eq_of_beq hig
          ·simp only [badName,Bool.not_eq_true,Bool.or_eq_false_iff] at hbd
           exact hbd.1.1
         ·cases hx
       obtain ⟨D0,d1,d2,d3,d4,d5⟩:=hgl
       have hK:=xo.keq
       subst hK
       obtain ⟨oe,vs,a0,T,oT,ts,he,hcc,hd,h0,fT,h1',hne,hT,hdT,h3⟩:=id F2
       refine wpAny_handleBy_cons (codeAny_handlers_test (ld_glob (X:=Cx.ma (Cx.re X _ (X.pn ++ pins)) (.ref a)) (inv_ma I2) d4 d1 ?_ d5)) (by intro z; cases z)
       refine excM (inv_ma (v:=.ref a) I2).kIn hg.q.choose_spec d2.choose_spec d3 he hcc.1 ?_
       refine codeAny_handlers_suite_as ?_
       refine flight_ok I2 F.1 F2 λh3 I3 F3=>?_
       obtain ⟨oe',vs',a0',T',oT',ts',he',hcc',hd',_⟩:=id F3
       have eo:ExcO a Ca pp h3:=⟨oe',vs',he',hcc',hd'⟩
       have I4:=inv_track (o:=.ext (ExcO a Ca pp)) I3 F.1 ⟨eo,⟨oe',he'⟩,λh4 h5 z w=>by
        obtain ⟨o1,v1,z1,z2,z3⟩:=z
        exact ⟨o1,v1,w o1 z1,z2,z3⟩⟩
       refine store_ok (X:=Cx.ma (Cx.re X _ (X.pn ++ pins)) (.ref a)) (v:=.ref a) (inv_ma (v:=.ref a) I4) hN hi hloc rfl (λs5 I5=>?_) (.inr hn)
       have il:i<σ'.length:=by rw [I'.len]; exact (List.getElem?_eq_some_iff.mp hi).1
       have hsu:=λE=>pss_one (ps_set (X:=Cx.ma (Cx.re X E (X.pn ++ pins)) (.ref a)) (pos:=p5) (pos':=p3) (i:=j) hN hj hy (pe_var (pos:=p4) hi (.inl hn) nb.1.1 nb.1.2) rfl hyf)
       refine wpAny_mono (hsu _ pins' s5 _ _ { nx:=λσ6 H6=>σ6=(σ'.set i (some (.ref a))).set j (some (.ref a))∧H6=upd H' a (.ext (ExcO a Ca pp)),bk:=λ_ _=>False,ct:=λ_ _=>False,rt:=λ_ _=>False } I5 ⟨.ref a,List.getElem?_set_self il,rfl,rfl⟩) (λf s6 h6=>?_) λ_ _ z=>z.elim
       cases f with
       | next =>
        obtain ⟨σ6,H6,J,rfl,rfl⟩:=h6
        refine goes_ok (inv_am I.ok J) hN hi hn λs7 J7=>⟨_,_,J7,k _ _ (upd G' a (.ext (ExcO a Ca pp))) (aft_caught aft F.1.1 ?_ q2 q3 hij)⟩
        simp only [Rep]
        exact ⟨a,Ca,pp,rfl,hcl,hg,upd_same,hpy.mono (Sm.laid (Same.free aft.rel.sub F.1.1))⟩
       | brk=>obtain ⟨_,_,_,z⟩:=h6; exact z.elim
       | cont=>obtain ⟨_,_,_,z⟩:=h6; exact z.elim
       | ret u=>obtain ⟨_,_,_,_,_,z⟩:=h6; exact z.elim
      ·cases f with
       | next=>obtain ⟨_,_,_,z⟩:=h1; exact z.elim
       | brk=>obtain ⟨_,_,_,z⟩:=h1; exact z.elim
       | cont=>obtain ⟨_,_,_,z⟩:=h1; exact z.elim
       | ret u=>obtain ⟨_,_,_,_,_,z⟩:=h1; exact z.elim
   ·cases e
theorem ps_tryO1 {body o f:List Stmt} {hs:List ExceptHandler} {cb:List S} {pos:Pos}
  (hb:∀ E pn,PassesOwn (model X.prog X.w) X.A X.env E→PSs (Cx.re X E pn) body (tSs K P C W cb)):PS X (.Try body hs o f pos) (tS K P C W (tryO1 cb hs o f)):=ps_bad
theorem XOk.ma {E:Value→Shared→Prop} {pn:List (Addr × Obj)} {v:Value} (xo:XOk X K P C Γ):XOkB false (Cx.ma (Cx.re X E pn) v) K P C Γ:=⟨xo.keq,xo.neq,xo.nm,xo.nd,xo.con,xo.blt,xo.sub,xo.subx,λz=>nomatch z⟩
end
section
variable {X:Cx} {K:PySem.W.Frag} {P:Pins} {C:Calls} {W:Nat} {Γ:CC}
theorem AftS.junk {ρ ρ':Env} {σ σ':St} {H G H' G':Hp} (b:AftS K ρ σ H G ρ' σ' H' G') {j:Nat} {x:V} (hj:ρ'[j]?=some .mv):AftS K ρ σ H G ρ' (σ'.set j (some x)) H' G':=by
 have ne:∀ (i:Nat) s,s≠.mv→ρ'[i]?=some s→(σ'.set j (some x))[i]?=σ'[i]?:=λi s n h=>by
  have:j≠i:=λz=>by subst z; rw [hj] at h; cases h; exact n rfl
  exact List.getElem?_set_ne this
 refine ⟨⟨by rw [List.length_set]; exact b.rel.len,b.rel.sub,λi d h=>?_,λi d p l h=>?_,λi k d p l d' p' l' a h1 h2 h3 h4=>?_⟩,b.ext,λa ⟨i,d,p,l,h1,h2⟩=>?_,λi h=>?_,λi d l h=>?_,b.len⟩
 ·rw [ne i _ (by simp) h]; exact b.rel.sh i d h
 ·rw [ne i _ (by simp) h]; exact b.rel.ow i d p l h
 ·rw [ne i _ (by simp) h1] at h3
  rw [ne k _ (by simp) h2] at h4
  exact b.rel.inj i k d p l d' p' l' a h1 h2 h3 h4
 ·rw [ne i _ (by simp) h1] at h2
  exact b.own a ⟨i,d,p,l,h1,h2⟩
 ·rw [ne i _ (by simp) h]; exact b.un i h
 ·obtain ⟨h1,d',h2⟩:=b.pin i d l h
  rw [ne i _ (by simp) h2]
  exact ⟨h1,d',h2⟩
end
abbrev Cell:=V ⊕ Addr × List V
def cAt (cs:List Cell) (c:Addr):Option (List V):=((cellA cs).find? λp=>decide (p.1=c)).map (·.2)
noncomputable def unf (H:Hp) (a:Addr) (cs:List Cell):Hp:=λc=>if c=a then some (.lst (cs.map cellV)) else match cAt cs c with | some ws=>some (.lst ws) | none=>H c
noncomputable def fld (H:Hp) (a:Addr) (cs:List Cell):Hp:=λc=>if c=a then some (.dls cs) else match cAt cs c with | some _=>some (.own a) | none=>H c
section
variable {H:Hp} {a c:Addr} {cs:List Cell} {ws:List V}
theorem cAt_mem (h:cAt cs c=some ws):(c,ws)∈cellA cs:=by
 unfold cAt at h
 cases q:(cellA cs).find? λp=>decide (p.1=c) with
 | none=>rw [q] at h; cases h
 | some p =>
  rw [q] at h
  cases h
  have h1:=List.find?_some q
  have h2:=List.mem_of_find?_eq_some q
  have h1:=of_decide_eq_true h1
  subst h1
  exact h2
theorem find_nd:∀ {l:List (Addr × List V)} {c:Addr} {ws:List V},(l.map (·.1)).Nodup→(c,ws)∈l→l.find? (λp=>decide (p.1=c))=some (c,ws)
 | [],_,_,_,h=>nomatch h
 | p :: l,c,ws,nd,h=>by
  rw [List.map_cons,List.nodup_cons] at nd
  rw [List.find?_cons]
  by_cases hp:p.1=c
  ·rw [decide_eq_true hp]
   rcases List.mem_cons.mp h with z | z
   ·rw [z]
   ·exact absurd (List.mem_map.mpr ⟨_,z,hp.symm⟩) nd.1
  ·rw [decide_eq_false hp]
   rcases List.mem_cons.mp h with z | z
   ·exact absurd (by rw [← z]) hp
   ·exact find_nd nd.2 z
theorem cAt_of (nd:((cellA cs).map (·.1)).Nodup) (h:(c,ws)∈cellA cs):cAt cs c=some ws:=by
 unfold cAt; rw [find_nd nd h]; rfl
theorem unf_a:unf H a cs a=some (.lst (cs.map cellV)):=if_pos rfl
theorem unf_b (n:c≠a) (e:cAt cs c=some ws):unf H a cs c=some (.lst ws):=by unfold unf; rw [if_neg n,e]
theorem unf_c (n:c≠a) (e:cAt cs c=none):unf H a cs c=H c:=by unfold unf; rw [if_neg n,e]
theorem fld_a:fld H a cs a=some (.dls cs):=if_pos rfl
theorem fld_b (n:c≠a) (e:cAt cs c=some ws):fld H a cs c=some (.own a):=by unfold fld; rw [if_neg n,e]
theorem fld_c (n:c≠a) (e:cAt cs c=none):fld H a cs c=H c:=by unfold fld; rw [if_neg n,e]
end
def Dlf (H:Hp):Prop:=∀ a cs,H a=some (.dls cs)→((cellA cs).map (·.1)).Nodup∧∀ p∈cellA cs,p.1≠a∧H p.1=some (.own a)
section
variable {X:Cx} {pins:List (Addr × Obj)} {σ:St} {H H':Hp} {s:Shared} {a:Addr} {cs:List Cell}
theorem inv_dlf (I:Inv X pins σ H s):Dlf H:=λa cs e=>by
 obtain ⟨_,_,nd,q⟩:=(show ObjOk X.prog X.w H s.heap a (.dls cs) from I.hok a _ e)
 exact ⟨nd,λp hp=>⟨(q p hp).1,(q p hp).2.1⟩⟩
theorem Dlf.own (F:Dlf H) (e:H a=some (.dls cs)) {c:Addr} {ws:List V} (h:cAt cs c=some ws):c≠a∧H c=some (.own a):=(F a cs e).2 _ (cAt_mem h)
theorem inv_relab (I:Inv X pins σ H s) (n:∀ b,H' b=none↔H b=none) (t:∀ b o,H b=some o→(∀ xs,o≠.lst xs)→(∀ cs,o≠.dls cs)→(∀ x,o≠.own x)→H' b=some o) (k:HOk X.prog X.w H' s.heap):Inv X pins σ H' s :=
 ⟨I.ok,I.os,I.bare,I.base.trans ⟨λ_ _ q _ _ _=>q,λb o q _ _ _=>⟨o.slots,q⟩,λb _ _ q _=>(n b).mpr q,λ_ o q _=>⟨o,q⟩,λb xs q=>t b _ q (λ_ z=>nomatch z) (λ_ z=>nomatch z) (λ_ z=>nomatch z),λb o u q=>t b _ q (λ_ z=>nomatch z) (λ_ z=>nomatch z) (λ_ z=>nomatch z),
  λb ps q=>⟨#[],by rw [t b _ q (λ_ z=>nomatch z) (λ_ z=>nomatch z) (λ_ z=>nomatch z)]; simp⟩⟩,I.loc,I.cell,(n _).mpr I.free,λx c e=>(n _).mpr (I.freeC x c e),
  λp hp=>let ⟨h1,h2,h3⟩:=I.pin p hp; ⟨h1,(n _).mpr h2,h3⟩,k,I.len⟩
def Rl (X:Cx) (H H':Hp):Prop:=∀ pins σ s,Inv X pins σ H s→Inv X pins σ H' s
theorem Rl.refl:Rl X H H:=λ_ _ _ I=>I
theorem rl_unf (e:H a=some (.dls cs)):Rl X H (unf H a cs):=λpins σ s I=>by
 have F:=inv_dlf I
 have hk:=I.hok
 obtain ⟨z,⟨its,n,r,q⟩,nd,k⟩:=(show ObjOk X.prog X.w H s.heap a (.dls cs) from hk a _ e)
 have oth:∀ b o,H b=some o→(∀ cs,o≠.dls cs)→o≠.own a→unf H a cs b=some o:=λb o q1 q2 q3=>by
  have hb:b≠a:=λz=>by subst z; rw [e] at q1; cases q1; exact q2 _ rfl
  have hc:cAt cs b=none:=by
   cases w:cAt cs b with
   | none=>rfl
   | some ws =>
    have:=(F.own e w).2
    rw [q1] at this
    cases this
    exact absurd rfl q3
  rw [unf_c hb hc]; exact q1
 refine inv_relab I (λb=>?_) (λb o q1 _ q2 q3=>oth b o q1 q2 (q3 a)) λb u q1=>?_
 ·by_cases hb:b=a
  ·subst hb; rw [unf_a,e]; simp
  ·cases w:cAt cs b with
   | none=>rw [unf_c hb w]
   | some ws=>rw [unf_b hb w,(F.own e w).2]; simp
 ·by_cases hb:b=a
  ·subst hb; rw [unf_a] at q1; cases q1
   exact ⟨by rw [List.length_map]; exact z,its,n,r,q⟩
  ·cases w:cAt cs b with
   | some ws =>
    rw [unf_b hb w] at q1; cases q1
    obtain ⟨_,_,k1,its,n,k2,k3⟩:=k _ (cAt_mem w)
    exact ⟨k1,its,n,k2,k3⟩
   | none =>
    rw [unf_c hb w] at q1
    refine (hk b u q1).stay (λ_ _ _ z=>z) (λc hc=>?_) λc xs hc=>oth c _ hc (λ_ z=>nomatch z) (λz=>nomatch z)
    refine oth c _ hc (λ_ z=>nomatch z) λz=>?_
    cases z
    exact hb rfl
theorem rl_fld (ea:H a=some (.lst (cs.map cellV))) (eb:∀ p∈cellA cs,p.1≠a∧H p.1=some (.lst p.2)) (nd:((cellA cs).map (·.1)).Nodup) (ha:H' a=some (.dls cs)) (hb:∀ p∈cellA cs,H' p.1=some (.own a))
  (ho:∀ c,c≠a→cAt cs c=none→H' c=H c∨(H' c=some (.own a)∧∃ ws,H c=some (.lst ws))):Rl X H H':=λpins σ s I=>by
 have hk:=I.hok
 have oth:∀ b o,H b=some o→(∀ xs,o≠.lst xs)→H' b=some o:=λb o q1 q2=>by
  have h1:b≠a:=λz=>by subst z; rw [ea] at q1; cases q1; exact q2 _ rfl
  have h2:cAt cs b=none:=by
   cases w:cAt cs b with
   | none=>rfl
   | some ws =>
    have:=(eb _ (cAt_mem w)).2
    rw [q1] at this
    cases this
    exact absurd rfl (q2 _)
  rcases ho b h1 h2 with z | ⟨_,ws,z⟩
  ·rw [z]; exact q1
  ·rw [q1] at z; cases z; exact absurd rfl (q2 _)
 refine inv_relab I (λb=>?_) (λb o q1 q2 _ _=>oth b o q1 q2) λb u q1=>?_
 ·by_cases h1:b=a
  ·subst h1; rw [ha,ea]; simp
  ·cases w:cAt cs b with
   | some ws=>rw [hb _ (cAt_mem w),(eb _ (cAt_mem w)).2]; simp
   | none =>
    rcases ho b h1 w with z | ⟨z,ws,z'⟩
    ·rw [z]
    ·rw [z,z']; simp
 ·have own:∀ {b:Addr} {ws:List V},H b=some (.lst ws)→∃ o,s.heap.get? b=some o:=λq=>by
   obtain ⟨_,_,_,_,q⟩:=(show ObjOk X.prog X.w H s.heap _ (.lst _) from hk _ _ q)
   exact ⟨_,q⟩
  by_cases h1:b=a
  ·subst h1; rw [ha] at q1; cases q1
   obtain ⟨z,its,n,r,q⟩:=(show ObjOk X.prog X.w H s.heap b (.lst _) from hk b _ ea)
   refine ⟨by rw [List.length_map] at z; exact z,⟨its,n,r,q⟩,nd,λp hp=>?_⟩
   obtain ⟨z,its,n,r,q⟩:=(show ObjOk X.prog X.w H s.heap p.1 (.lst _) from hk _ _ (eb p hp).2)
   exact ⟨(eb p hp).1,hb p hp,z,its,n,r,q⟩
  ·cases w:cAt cs b with
   | some ws =>
    rw [hb _ (cAt_mem w)] at q1; cases q1
    exact own (eb _ (cAt_mem w)).2
   | none =>
    rcases ho b h1 w with z | ⟨z,ws,z'⟩
    ·rw [z] at q1
     exact (hk b u q1).stay (λ_ _ _ z=>z) (λc hc=>oth c _ hc (λ_ z=>nomatch z)) λc xs hc=>oth c _ hc (λ_ z=>nomatch z)
    ·rw [z] at q1; cases q1
     exact own z'
theorem pe_gh {e:Expr} {t:TE} (h:PE X e t):PE X e (λσ H Q=>Dlf H→∃ H1,Rl X H H1∧t σ H1 λx H'=>∃ H2,Rl X H' H2∧Q x H2):=λpins s σ H Q I q=>by
 obtain ⟨H1,r,q⟩:=q (inv_dlf I)
 exact thn (h pins s σ H1 _ (r _ _ _ I) q) λu s' ⟨x,H',I',rx,H2,r2,q2⟩=>⟨x,H2,r2 _ _ _ I',rx,q2⟩
theorem pt_gh {e:Expr} {t:TT} (h:PT X e t):PT X e (λσ H Q=>Dlf H→∃ H1,Rl X H H1∧t σ H1 λx H'=>∃ H2,Rl X H' H2∧Q x H2):=λpins s σ H Q I q=>by
 obtain ⟨H1,r,q⟩:=q (inv_dlf I)
 exact thn (h pins s σ H1 _ (r _ _ _ I) q) λu s' ⟨H',I',H2,r2,q2⟩=>⟨H2,r2 _ _ _ I',q2⟩
theorem set_gh:PSet X (λo i v H Q=>rSetL o i v H λH'=>∃ H2,Rl X H' H2∧Q H2):=λpins s σ H o i v ov iv u Q I ro ri rv h =>
 thn (set_list pins s σ H o i v ov iv u _ I ro ri rv h) λ_ s' ⟨H',I',H2,r2,q⟩=>⟨H2,r2 _ _ _ I',q⟩
end
theorem toks_at:∀ {r r':Env} (j:Nat),Toks r r'→(r[j]?=none∧r'[j]?=none)∨∃ s s',r[j]?=some s∧r'[j]?=some s'∧tok s s'
 | [],r',j,h=>by cases (show r'=[] from h); exact .inl ⟨rfl,rfl⟩
 | s :: r,r',j,h=>by
  obtain ⟨s',r'',rfl,h1,h2⟩:=h
  cases j with
  | zero=>exact .inr ⟨s,s',rfl,rfl,h1⟩
  | succ j=>simpa using toks_at j h2
theorem tok_sh {s:Sl} {d:D} (h:tok s (.sh d)):s=.sh d:=by
 cases s with
 | ow d' p l=>obtain ⟨ns,h⟩:=h; cases h
 | _=>exact h.symm
theorem tok_ow {s:Sl} {d:D} {p l:Bool} (h:tok s (.ow d p l)):∃ (d0:D) (ns:List Int),s=.ow d0 p l∧d=.lst (ns.map .int):=by
 cases s with
 | ow d' p l=>obtain ⟨ns,h⟩:=h; cases h; exact ⟨_,ns,rfl,rfl⟩
 | _=>exact nomatch h
theorem tok_le {s s':Sl} (h:tok s s'):KindLe (some s) (some s'):=by
 cases s with
 | ow d' p l=>obtain ⟨ns,h⟩:=h; cases h; exact ⟨rfl,rfl⟩
 | _=>cases (show s'=_ from h); exact KindLe.refl _
section
variable {X:Cx} {K:PySem.W.Frag} {P:Pins} {C:Calls} {W:Nat} {Γ:CC} {ρ ρ2:Env} {σ:St} {H G H3 G3:Hp} {i:Nat} {ds:List D} {p l:Bool} {a:Addr} {cs:List Cell}
theorem rep_flat {G':Hp} {d:D} {x:V} (f:flatD d=true) (h:Rep K G d x):Rep K G' d x:=by
 cases d <;> first | exact bno f | (simp only [Rep] at h ⊢; exact h)
theorem reps_int {G':Hp}:∀ {ns:List Int} {vs:List V},Reps K G (ns.map .int) vs→Reps K G' (ns.map .int) vs
 | [],_,h=>h
 | n :: ns,_,h=>by
  obtain ⟨v,r,rfl,h1,h2⟩:=h
  exact ⟨v,r,rfl,rep_flat rfl h1,reps_int h2⟩
theorem OwRep.nown {d:D} {x:Addr} (h:OwRep K H G a d):H a≠some (.own x):=λe=>by
 cases d with
 | lst ds=>obtain ⟨_,h,_⟩:=h; rw [e] at h; cases h
 | dl ds=>obtain ⟨_,h,_⟩:=h; rw [e] at h; cases h
 | _=>exact h
theorem cells_rep {G':Hp} (sm:Sm G G'):∀ {ds:List D} {cs:List Cell},Paired (DCell K G) ds cs→(∀ q∈cellA cs,G' q.1=some (.lst q.2))→Reps K G' ds (cs.map cellV)
 | _,_,.nil,_=>rfl
 | d :: ds,.inl v :: cs,.cons h t,k=>⟨v,_,rfl,Rep.mono sm d h.2,cells_rep sm t k⟩
 | d :: ds,.inr q :: cs,.cons h t,k=>by
  obtain ⟨es,rfl,h⟩:=h
  refine ⟨.ref q.1,_,rfl, ?_,cells_rep sm t λq' hq=>k q' (List.mem_cons_of_mem _ hq)⟩
  simp only [Rep]
  exact ⟨q.1,q.2,rfl,SqL.of (k q List.mem_cons_self),Reps.mono sm es h⟩
theorem dl_in (r:Rel K ρ σ H G) (hi:ρ[i]?=some (.ow (.dl ds) p l)) (F:Dlf H):∃ a cs,σ[i]?=some (some (.ref a))∧G a=none∧H a=some (.dls cs)∧Paired (DCell K G) ds cs∧Sm G (unf G a cs)∧Rel K (ρ.set i (.sh (.lst ds))) σ (unf H a cs) (unf G a cs):=by
 obtain ⟨a,hx,g,cs,hH,pr⟩:=r.ow i _ p l hi
 obtain ⟨nd,fc⟩:=F a cs hH
 have ca:∀ {c:Addr} {ws:List V},cAt cs c=some ws→c≠a∧H c=some (.own a):=λh=>F.own hH h
 have sm:Sm G (unf G a cs):=λc o n e=>by
  have hc:c≠a:=λz=>by subst z; rw [g] at e; cases e
  cases w:cAt cs c with
  | none=>rw [unf_c hc w]; exact e
  | some ws =>
   have:=(ca w).2
   rw [r.sub _ _ e] at this
   cases this
   exact absurd rfl (n a)
 refine ⟨a,cs,hx,g,hH,pr,sm,⟨by rw [List.length_set]; exact r.len,λc o e=>?_,λj d h=>?_,λj d p' l' h=>?_,λj k d1 p1 l1 d2 p2 l2 c h1 h2 h3 h4=>?_⟩⟩
 ·by_cases hc:c=a
  ·subst hc; rw [unf_a] at e ⊢; exact e
  ·cases w:cAt cs c with
   | none=>rw [unf_c hc w] at e ⊢; exact r.sub _ _ e
   | some ws=>rw [unf_b hc w] at e ⊢; exact e
 ·rcases set_cases h with ⟨rfl,z,_⟩ | ⟨_,z⟩
  ·cases z
   refine ⟨.ref a,hx, ?_⟩
   simp only [Rep]
   exact ⟨a,_,rfl,SqL.of unf_a,cells_rep sm pr λq hq=>unf_b (fc q hq).1 (cAt_of nd hq)⟩
  ·obtain ⟨v,h1,h2⟩:=r.sh j d z
   exact ⟨v,h1,Rep.mono sm d h2⟩
 ·rcases set_cases h with ⟨_,z,_⟩ | ⟨ne,z⟩
  ·cases z
  ·obtain ⟨c,h1,h2,h3⟩:=r.ow j d p' l' z
   have hc:c≠a:=λz'=>by subst z'; exact ne (r.inj _ _ _ _ _ _ _ _ _ z hi h1 hx)
   have hw:cAt cs c=none:=by
    cases w:cAt cs c with
    | none=>rfl
    | some ws=>exact absurd (ca w).2 h3.nown
   exact ⟨c,h1,by rw [unf_c hc hw]; exact h2,h3.mono sm λo z=>by rw [unf_c hc hw]; exact z⟩
 ·rcases set_cases h1 with ⟨_,z,_⟩ | ⟨_,z⟩
  ·cases z
  ·rcases set_cases h2 with ⟨_,z',_⟩ | ⟨_,z'⟩
   ·cases z'
   ·exact r.inj _ _ _ _ _ _ _ _ _ z z' h3 h4
theorem own_sh {d:D} {c:Addr} (h:Own (ρ.set i (.sh d)) σ c):Own ρ σ c:=h.put_sh.unset
theorem dl_out (r:Rel K ρ σ H G) (hi:ρ[i]?=some (.ow (.dl ds) p l)) (F:Dlf H) (hx:σ[i]?=some (some (.ref a))) (g:G a=none) (hH:H a=some (.dls cs)) (af:Aft K (ρ.set i (.sh (.lst ds))) σ (unf H a cs) (unf G a cs) ρ2 H3 G3) (tk:Toks (ρ.set i .un) (ρ2.set i .un))
  {cs':List Cell} {ds':List D} (pr:Paired (DCell K G) ds' cs') (nw:∀ c ws,cAt cs' c=some ws→cAt cs c=none→G c=none∧¬ Own ρ σ c) (na:∀ c ws,cAt cs' c=some ws→c≠a) :
  Rel K (ρ2.set i (.ow (.dl ds') p l)) σ (fld (fld H3 a cs) a cs') G∧Ext (λc=>Own ρ σ c∨(cAt cs c=none∧∃ ws,cAt cs' c=some ws)) H G (fld (fld H3 a cs) a cs') G∧Evo ρ (ρ2.set i (.ow (.dl ds') p l)):=by
 have ca:∀ {c:Addr} {ws:List V},cAt cs c=some ws→c≠a∧H c=some (.own a):=λh=>F.own hH h
 have hil:i<ρ.length:=(List.getElem?_eq_some_iff.mp hi).1
 have owna:Own ρ σ a:=⟨i,_,_,_,hi,hx⟩
 have ne2:∀ j:Nat,j≠i→(ρ.set i .un)[j]?=ρ[j]?∧(ρ2.set i .un)[j]?=ρ2[j]?:=λj h=>⟨List.getElem?_set_ne (λz=>h z.symm),List.getElem?_set_ne (λz=>h z.symm)⟩
 have len2:ρ2.length=ρ.length:=by
  have h1:=af.rel.len
  have h2:=r.len
  omega
 have tj:∀ (j:Nat) (s':Sl),j≠i→ρ2[j]?=some s'→∃ s,ρ[j]?=some s∧tok s s':=λj s' h e=>by
  rcases toks_at j tk with ⟨_,z⟩ | ⟨s,s2,z1,z2,z3⟩
  ·rw [(ne2 j h).2,e] at z; cases z
  ·rw [(ne2 j h).2,e] at z2
   cases z2
   rw [(ne2 j h).1] at z1
   exact ⟨s,z1,z3⟩
 -- the places by their kind
 have at0:∀ {c o},H c=some o→¬ Own ρ σ c→cAt cs c=none→H3 c=some o:=λ{c o} h n w=>by
  have hc:c≠a:=λz=>by subst z; exact n owna
  exact af.ext.hh c o (by rw [unf_c hc w]; exact h) λz=>n (own_sh z)
 have kc:∀ {c},c≠a→cAt cs c=none→cAt cs' c=none→fld (fld H3 a cs) a cs' c=H3 c:=λh w w'=>by rw [fld_c h w',fld_c h w]
 have keep:∀ {c o},H c=some o→¬ Own ρ σ c→¬ (cAt cs c=none∧∃ ws,cAt cs' c=some ws)→fld (fld H3 a cs) a cs' c=some o:=λ{c o} h n n2=>by
  have hc:c≠a:=λz=>by subst z; exact n owna
  cases w:cAt cs c with
  | some ws =>
   have e:=(ca w).2
   rw [h] at e; cases e
   cases w':cAt cs' c with
   | some ws'=>exact fld_b hc w'
   | none=>rw [fld_c hc w']; exact fld_b hc w
  | none =>
   cases w':cAt cs' c with
   | some ws'=>exact absurd ⟨w,ws',w'⟩ n2
   | none=>rw [kc hc w w']; exact at0 h n w
 refine ⟨⟨by rw [List.length_set,len2]; exact r.len,λc o e=>?_,λj d h=>?_,λj d p' l' h=>?_,λj k d1 p1 l1 d2 p2 l2 c h1 h2 h3 h4=>?_⟩,⟨Sm.refl _,λc o h n=>?_,λc h=>?_,λ_ _ z _=>z⟩,λj=>?_⟩
 ·have n:¬ Own ρ σ c:=λz=>by have:=(r.owned z).2; rw [e] at this; cases this
  exact keep (r.sub _ _ e) n λ⟨z1,ws,z2⟩=>by have:=(nw c ws z2 z1).1; rw [e] at this; cases this
 ·rcases set_cases h with ⟨_,z,_⟩ | ⟨ne,z⟩
  ·cases z
  ·obtain ⟨s,z1,z2⟩:=tj j _ ne z
   rw [tok_sh z2] at z1
   exact r.sh j d z1
 ·rcases set_cases h with ⟨rfl,z,_⟩ | ⟨ne,z⟩
  ·cases z
   exact ⟨a,hx,g,cs',fld_a,pr⟩
  ·obtain ⟨s,z1,z2⟩:=tj j _ ne z
   obtain ⟨d0,ns,rfl,rfl⟩:=tok_ow z2
   obtain ⟨c,k1,k2,k3⟩:=r.ow j _ _ _ z1
   obtain ⟨c',m1,m2,vs,m3,m4⟩:=af.rel.ow j _ _ _ z
   rw [k1] at m1; cases m1
   have hc:c≠a:=λz'=>by subst z'; exact ne (r.inj _ _ _ _ _ _ _ _ _ z1 hi k1 hx)
   have hw:cAt cs c=none:=by
    cases w:cAt cs c with
    | none=>rfl
    | some ws=>exact absurd (ca w).2 k3.nown
   have hw':cAt cs' c=none:=by
    cases w:cAt cs' c with
    | none=>rfl
    | some ws=>exact absurd ⟨j,_,_,_,z1,k1⟩ (nw c ws w hw).2
   exact ⟨c,k1,k2,vs,by rw [kc hc hw hw']; exact m3,reps_int m4⟩
 ·have key:∀ (j:Nat) d p' l',(ρ2.set i (.ow (.dl ds') p l))[j]?=some (.ow d p' l')→∃ d,ρ[j]?=some (.ow d p' l'):=λj d p' l' h=>by
   rcases set_cases h with ⟨rfl,z,_⟩ | ⟨ne,z⟩
   ·cases z; exact ⟨_,hi⟩
   ·obtain ⟨s,z1,z2⟩:=tj j _ ne z
    obtain ⟨d0,ns,rfl,_⟩:=tok_ow z2
    exact ⟨d0,z1⟩
  obtain ⟨e1,w1⟩:=key _ _ _ _ h1
  obtain ⟨e2,w2⟩:=key _ _ _ _ h2
  exact r.inj _ _ _ _ _ _ _ _ _ w1 w2 h3 h4
 ·exact keep h (λz=>n (.inl z)) λz=>n (.inr z)
 ·by_cases hc:c=a
  ·subst hc; rw [fld_a] at h; cases h
  ·cases w':cAt cs' c with
   | some ws=>rw [fld_b hc w'] at h; cases h
   | none =>
    cases w:cAt cs c with
    | some ws=>rw [fld_c hc w',fld_b hc w] at h; cases h
    | none =>
     rw [kc hc w w'] at h
     have:=af.ext.hx c h
     rw [unf_c hc w] at this
     exact this
 ·by_cases hj:j=i
  ·subst hj
   rw [List.getElem?_set_self (by rw [len2]; exact hil),hi]
   exact ⟨rfl,rfl⟩
  ·rw [List.getElem?_set_ne (λz=>hj z.symm)]
   rcases toks_at j tk with ⟨z,z'⟩ | ⟨s,s2,z1,z2,z3⟩
   ·rw [(ne2 j hj).1] at z
    rw [(ne2 j hj).2] at z'
    rw [z,z']; exact KindLe.refl _
   ·rw [(ne2 j hj).1] at z1
    rw [(ne2 j hj).2] at z2
    rw [z1,z2]; exact tok_le z3
theorem dl_mid (F:Dlf H) (hH:H a=some (.dls cs)) (af:Aft K (ρ.set i (.sh (.lst ds))) σ (unf H a cs) (unf G a cs) ρ2 H3 G3):H3 a=some (.lst (cs.map cellV))∧∀ q∈cellA cs,q.1≠a∧H3 q.1=some (.lst q.2):=by
 obtain ⟨nd,fc⟩:=F a cs hH
 exact ⟨af.rel.sub _ _ (af.ext.gg.app (λ_ z=>nomatch z) unf_a),λq hq=>⟨(fc q hq).1,af.rel.sub _ _ (af.ext.gg.app (λ_ z=>nomatch z) (unf_b (fc q hq).1 (cAt_of nd hq)))⟩⟩
theorem dl_tmp (r:Rel K ρ σ H G) (hi:ρ[i]?=some (.ow (.dl ds) p l)) (F:Dlf H):∃ Hu Gu,Rl X H Hu∧Rel K (ρ.set i (.sh (.lst ds))) σ Hu Gu∧∀ ρ2 H3 G3,Aft K (ρ.set i (.sh (.lst ds))) σ Hu Gu ρ2 H3 G3→Toks (ρ.set i .un) (ρ2.set i .un) →
  ∃ H2,Rl X H3 H2∧Aft K ρ σ H G (ρ2.set i (.ow (.dl ds) p l)) H2 G:=by
 obtain ⟨a,cs,hx,g,hH,pr,sm,ru⟩:=dl_in r hi F
 obtain ⟨nd,fc⟩:=F a cs hH
 refine ⟨_,_,rl_unf hH,ru,λρ2 H3 G3 af tk=>?_⟩
 obtain ⟨m1,m2⟩:=dl_mid F hH af
 have nn:∀ c ws,cAt cs c=some ws→cAt cs c=none→False:=λc ws h h'=>by rw [h] at h'; cases h'
 obtain ⟨o1,o2,o3⟩:=dl_out r hi F hx g hH af tk pr (λc ws h h'=>(nn c ws h h').elim) λc ws h=>(fc _ (cAt_mem h)).1
 refine ⟨_,rl_fld m1 m2 nd fld_a (λq hq=>fld_b (m2 q hq).1 (cAt_of nd hq)) λc h1 h2=>.inl (by rw [fld_c h1 h2,fld_c h1 h2]),o1,o2.weaken λc z=>?_,o3⟩
 rcases z with z | ⟨z,ws,z'⟩
 ·exact z
 ·exact (nn c ws z' z).elim
theorem tmp_inv {f:Env→Res RV} {v:RV} {ρ':Env} (e:tmpO i ρ f=some (.ok v,ρ')):(∃ ds p l d ρ2,ρ[i]?=some (.ow (.dl ds) p l)∧f (ρ.set i (.sh (.lst ds)))=some (.ok (.sh d),ρ2)∧flatD d=true∧Toks (ρ.set i .un) (ρ2.set i .un)∧v=.sh d∧ρ'=ρ2.set i (.ow (.dl ds) p l))∨f ρ=some (.ok v,ρ'):=by
 unfold tmpO at e
 split at e
 ·rename_i ds p l hi
  split at e
  ·rename_i d ρ2 hf
   split at e
   ·rename_i hc
    cases e
    exact .inl ⟨ds,p,l,d,ρ2,hi,hf,hc.1,hc.2,rfl,rfl⟩
   ·cases e
  ·cases e
 ·exact .inr e
theorem ok_tmp {e:Expr} {c:E} (h:Ok3 X K P C e c) (i:Nat):Ok3 X K P C e (.tmp i c):=by
 have v:PE X e (tE K P C (.tmp i c)):=TE.imp_pe (pe_gh h.v) λσ H Q ⟨ρ,G,v,ρ',r,e,k⟩ F=>by
  rcases tmp_inv (show tmpO i ρ (ev P C false c)=_ from e) with ⟨ds,p,l,d,ρ2,hi,hf,hd,tk,rfl,rfl⟩ | e
  ·obtain ⟨Hu,Gu,h1,h2,h3⟩:=dl_tmp (X:=X) r hi F
   refine ⟨Hu,h1,_,Gu,_,ρ2,h2,hf,λx H3 G3 af hv=>?_⟩
   obtain ⟨H2,h4,h5⟩:=h3 _ _ _ af tk
   exact ⟨H2,h4,k x H2 G h5 (rep_flat hd hv)⟩
  ·exact ⟨H,Rl.refl,ρ,G,v,ρ',r,e,λx H' G' af hv=>⟨H',Rl.refl,k x H' G' af hv⟩⟩
 refine ⟨v, ?_,tE_tH v λi z=>nomatch z⟩
 refine TT.imp_pt (pt_gh h.t) λσ H Q ⟨ρ,G,b,ρ',r,e,k⟩ F=>?_
 rcases tmp_inv (show tmpO i ρ (ev P C true c)=_ from e) with ⟨ds,p,l,d,ρ2,hi,hf,hd,tk,hv,rfl⟩ | e
 ·cases hv
  obtain ⟨Hu,Gu,h1,h2,h3⟩:=dl_tmp (X:=X) r hi F
  refine ⟨Hu,h1,_,Gu,_,ρ2,h2,hf,λH3 G3 af=>?_⟩
  obtain ⟨H2,h4,h5⟩:=h3 _ _ _ af tk
  exact ⟨H2,h4,k H2 G h5⟩
 ·exact ⟨H,Rl.refl,ρ,G,b,ρ',r,e,λH' G' af=>⟨H',Rl.refl,k H' G' af⟩⟩
theorem Rel.mvs {σ':St} {j:Nat} (r:Rel K ρ σ H G) (hl:σ'.length=σ.length) (hs:∀ m:Nat,m≠j→σ'[m]?=σ[m]?):Rel K (ρ.set j .mv) σ' H G:=by
 have oth:∀ {m:Nat} {sl:Sl},(ρ.set j .mv)[m]?=some sl→sl≠.mv→m≠j∧ρ[m]?=some sl:=λh n=>by
  rcases set_cases h with ⟨_,z,_⟩ | z
  ·exact absurd z n
  ·exact z
 refine ⟨by rw [List.length_set,hl]; exact r.len,r.sub,λm d h=>?_,λm d p l h=>?_,λm k d p l d' p' l' c h1 h2 h3 h4=>?_⟩
 ·obtain ⟨n,z⟩:=oth h (by simp)
  rw [hs m n]; exact r.sh m d z
 ·obtain ⟨n,z⟩:=oth h (by simp)
  rw [hs m n]; exact r.ow m d p l z
 ·obtain ⟨n,z⟩:=oth h1 (by simp)
  obtain ⟨n',z'⟩:=oth h2 (by simp)
  rw [hs m n] at h3
  rw [hs k n'] at h4
  exact r.inj _ _ _ _ _ _ _ _ _ z z' h3 h4
theorem aft_mvs {j:Nat} (r:Rel K ρ σ H G) (h:∀ d p l,ρ[j]?≠some (.ow d p l)):AftS K ρ σ H G (ρ.set j .mv) σ H G:=by
 refine ⟨r.mvs rfl λ_ _=>rfl,Ext.refl,λc ⟨m,d,p,l,h1,h2⟩=>?_,λm h1=>?_,λm d l h1=>?_,by rw [List.length_set]⟩
 ·rcases set_cases h1 with ⟨_,z,_⟩ | ⟨_,z⟩
  ·cases z
  ·exact .inl ⟨m,d,p,l,z,h2⟩
 ·rcases set_cases h1 with ⟨_,z,_⟩ | ⟨_,z⟩
  ·cases z
  ·exact ⟨z,rfl⟩
 ·have:m≠j:=λz=>by subst z; exact h _ _ _ h1
  exact ⟨rfl,d,by rw [List.getElem?_set_ne (λz=>this z.symm)]; exact h1⟩
theorem kif_nx {j:Nat} {ce cc:E} {ρ':Env} {fl:Fl} (q:ex P C W (.kif i j ce cc) ρ=some (fl,ρ')):fl=.nx:=by
 replace q:kifO i j ρ _ _=_:=q
 unfold kifO at q
 split at q
 ·split at q
  ·split at q
   ·split at q
    ·cases q; rfl
    ·cases q
   ·cases q
  ·cases q
 ·cases q
theorem kif_gen (xo:XOk X K P C Γ) (hfn:∀ x,Γ.isLoc x=true→X.fn x=true∨X.env.scope.names.lookup x=some .local) {x:Str} {e c:Expr} {a0 r4:List Stmt} {j:Nat} {p1 pos1 pos2:Pos} (hj:Γ.slotL x=some j) (hnc:notComp e=true)
  {u:TS} (h4:PSs X r4 u):PSs X (.Assign [.Name x p1] e pos1 :: .If c a0 [] pos2 :: r4) (λD σ H=>∃ (ρ:Env) (G:Hp) (ρ':Env),Rel K ρ σ H G∧ex P C W (.kif i j (cE Γ e) (cE Γ c)) ρ=some (.nx,ρ')∧∀ σ' H' G',AftS K ρ σ H G ρ' σ' H' G'→u D σ' H'):=by
 have hA:=ps_asg (pos:=pos1) (pe_gh (cE_ok xo e).v) (slotL_ok xo hfn hj (pos:=p1)) (swapsSole_ok hnc _ _ _)
 have hB:PS X (.If c a0 [] pos2) (tIfS _ (λ_ _ _=>False) tNext):=ps_if (pt_gh (cE_ok xo c).t) (λ_ _ _ _ _ _ z=>z.elim) pss_nil
 refine TS.imp_pss (pss_cons hA (pss_cons hB h4)) λD σ H ⟨ρ,G,ρ',r,q,k⟩=>?_
 clear hA hB h4
 replace q:kifO i j ρ _ _=_:=q
 unfold kifO at q
 split at q
 case h_2=>cases q
 rename_i ds p l s0 hi hs0
 split at q
 case h_2=>cases q
 rename_i v ρ2 qe
 split at q
 case h_2=>cases q
 rename_i ρ3 qc
 split at q
 case isFalse=>cases q
 rename_i hc
 cases q
 obtain ⟨hij,hno,tk,hj2⟩:=hc
 intro F
 obtain ⟨a,cs,hx,g,hH,pr,sm,ru⟩:=dl_in r hi F
 obtain ⟨nd,fc⟩:=F a cs hH
 refine ⟨_,rl_unf hH,_,_,v,ρ2,ru,qe,λx0 H1 G1 a1 hv=>⟨H1,Rl.refl, ?_⟩⟩
 obtain ⟨G2,a2,hrep⟩:=a1.share hv
 have hjl:j<ρ.length:=(List.getElem?_eq_some_iff.mp hs0).1
 have st:store j (.sh v.d) ρ2=some (ρ2.set j (.sh v.d)):=by
  unfold store
  rw [hj2]
  cases s0 with
  | ow d p l=>exact absurd rfl (hno d p l)
  | _=>rfl
 have aB:AftS K (ρ.set i (.sh (.lst ds))) σ (unf H a cs) (unf G a cs) (ρ2.set j (.sh v.d)) (σ.set j (some x0)) H1 G2:=Aft.store ru a2 st hrep
 show Dlf H1→_
 intro F1
 refine ⟨H1,Rl.refl,_,G2,false,ρ3,aB.rel,qc,λH2 G3 f3=>?_⟩
 have hσ:∀ m:Nat,m≠j→σ[m]?=(σ.set j (some x0))[m]?:=λm n=>(List.getElem?_set_ne (λz=>n z.symm)).symm
 have own1:∀ {c:Addr},Own (ρ.set i (.sh (.lst ds))) σ c→Own ((ρ.set j .mv).set i (.sh (.lst ds))) σ c:=λ{c} ⟨m,d,p',l',h1,h2⟩=>by
  rcases set_cases h1 with ⟨_,z,_⟩ | ⟨ne,z⟩
  ·cases z
  ·have:m≠j:=λw=>by subst w; rw [hs0] at z; cases z; exact hno _ _ _ rfl
   exact ⟨m,d,p',l',by rw [List.getElem?_set_ne (λz=>ne z.symm),List.getElem?_set_ne (λz=>this z.symm)]; exact z,h2⟩
 have af:Aft K ((ρ.set j .mv).set i (.sh (.lst ds))) σ (unf H a cs) (unf G a cs) (ρ3.set j .mv) H2 G3:=by
  refine ⟨f3.rel.mvs (by rw [List.length_set]) hσ,(aB.ext.weaken λc z=>own1 z).trans (own1:=Own (ρ2.set j (.sh v.d)) (σ.set j (some x0))) (λc z=>?_) f3.ext,λm=>?_⟩
  ·rcases aB.own c z with w | w
   ·exact .inl (own1 w)
   ·exact .inr w
  ·by_cases hm:m=j
   ·subst hm
    have l3:m<ρ3.length:=by rw [f3.rel.len,List.length_set,← r.len]; exact hjl
    rw [List.getElem?_set_ne hij,List.getElem?_set_self hjl,List.getElem?_set_self l3]
    exact KindLe.refl _
   ·have h1:=a2.evo m
    have h2:=f3.evo m
    rw [List.getElem?_set_ne (λz=>hm z.symm)] at h2
    have h3:((ρ.set j .mv).set i (.sh (.lst ds)))[m]?=(ρ.set i (.sh (.lst ds)))[m]?:=by
     by_cases hmi:m=i
     ·subst hmi
      have:m<ρ.length:=(List.getElem?_eq_some_iff.mp hi).1
      rw [List.getElem?_set_self (by rw [List.length_set]; exact this),List.getElem?_set_self this]
     ·rw [List.getElem?_set_ne (λz=>hmi z.symm),List.getElem?_set_ne (λz=>hmi z.symm),List.getElem?_set_ne (λz=>hm z.symm)]
    rw [h3,List.getElem?_set_ne (λz=>hm z.symm)]
    exact h1.trans h2
 have hno':∀ d p l,ρ[j]?≠some (.ow d p l):=λd p l z=>by rw [hs0] at z; cases z; exact hno _ _ _ rfl
 have rm:=aft_mvs (H:=H) (G:=G) r hno'
 have hi':(ρ.set j .mv)[i]?=some (.ow (.dl ds) p l):=by rw [List.getElem?_set_ne (λz=>hij z.symm)]; exact hi
 have nn:∀ c ws,cAt cs c=some ws→cAt cs c=none→False:=λc ws h h'=>by rw [h] at h'; cases h'
 obtain ⟨m1,m2⟩:=dl_mid (ρ:=ρ.set j .mv) F hH af
 obtain ⟨o1,o2,o3⟩:=dl_out rm.rel hi' F hx g hH af tk pr (λc ws h h'=>(nn c ws h h').elim) λc ws h=>(fc _ (cAt_mem h)).1
 refine ⟨fld (fld H2 a cs) a cs,rl_fld m1 m2 nd fld_a (λq hq=>fld_b (m2 q hq).1 (cAt_of nd hq)) λc h1 h2=>.inl (by rw [fld_c h1 h2,fld_c h1 h2]), ?_⟩
 dsimp only
 rw [if_neg Bool.false_ne_true]
 have fin:Aft K (ρ.set j .mv) σ H G ((ρ3.set j .mv).set i (.ow (.dl ds) p l)) _ G:=⟨o1,o2.weaken λc z=>by
  rcases z with z | ⟨z,ws,z'⟩
  ·exact z
  ·exact (nn c ws z' z).elim,o3⟩
 have l3:j<ρ3.length:=by rw [f3.rel.len,List.length_set,← r.len]; exact hjl
 exact k _ _ _ ((rm.trans (Aft.s rm.rel fin)).junk (x:=x0) (by rw [List.getElem?_set_ne hij,List.getElem?_set_self l3]))
theorem dlV_ok {own new:Addr→Prop}:∀ {hs:List Hd} {xs:List V} {ds:List D},HReps K H G own new σ hs xs→dlV hs=some ds→∃ cs:List Cell,xs=cs.map cellV∧Paired (DCell K G) ds cs∧((cellA cs).map (·.1)).Nodup ∧
  ∀ q∈cellA cs,Tmp hs xs q.1∧H q.1=some (.lst q.2)
 | [],xs,ds,h,e=>by
  cases (show xs=[] from h)
  cases e
  exact ⟨[],rfl,.nil,List.nodup_nil,λq hq=>nomatch hq⟩
 | .val (.sh d) :: hs,xs,ds,h,e=>by
  obtain ⟨x,r,rfl,h1,h2,h3⟩:=h
  simp only [dlV] at e
  split at e
  ·rename_i hf
   cases q:dlV hs with
   | none=>rw [q] at e; cases e
   | some ds' =>
    rw [q] at e
    cases e
    obtain ⟨cs,rfl,k1,k2,k3⟩:=dlV_ok h2 q
    exact ⟨.inl x :: cs,rfl,.cons ⟨hf,h1⟩ k1,k2,k3⟩
  ·cases e
 | .val (.ow (.lst es)) :: hs,xs,ds,h,e=>by
  obtain ⟨x,r,rfl,h1,h2,h3⟩:=h
  simp only [dlV] at e
  cases q:dlV hs with
  | none=>rw [q] at e; cases e
  | some ds' =>
   rw [q] at e
   cases e
   obtain ⟨cs,rfl,k1,k2,k3⟩:=dlV_ok h2 q
   obtain ⟨b,rfl,g,⟨ws,hb,hr⟩,n,m⟩:=h1
   refine ⟨.inr (b,ws) :: cs,rfl,.cons ⟨es,rfl,hr⟩ k1, ?_,λq hq=>?_⟩
   ·show (b :: (cellA cs).map (·.1)).Nodup
    rw [List.nodup_cons]
    refine ⟨λz=>?_,k2⟩
    obtain ⟨q,hq,rfl⟩:=List.mem_map.mp z
    exact h3 _ _ rfl rfl (k3 q hq).1
   ·rcases List.mem_cons.mp (show q∈(b,ws) :: cellA cs from hq) with rfl | z
    ·exact ⟨.inl rfl,hb⟩
    ·exact ⟨.inr (k3 q z).1,(k3 q z).2⟩
 | .slot _ :: _,_,_,_,e=>by cases e
 | .val (.ow .non) :: _,_,_,_,e=>by cases e
 | .val (.ow (.bl _)) :: _,_,_,_,e=>by cases e
 | .val (.ow (.int _)) :: _,_,_,_,e=>by cases e
 | .val (.ow (.str _)) :: _,_,_,_,e=>by cases e
 | .val (.ow (.tup _)) :: _,_,_,_,e=>by cases e
 | .val (.ow (.ins _ _ _)) :: _,_,_,_,e=>by cases e
 | .val (.ow (.dct _)) :: _,_,_,_,e=>by cases e
 | .val (.ow (.exn _ _)) :: _,_,_,_,e=>by cases e
 | .val (.ow (.dcs _ _)) :: _,_,_,_,e=>by cases e
 | .val (.ow (.dl _)) :: _,_,_,_,e=>by cases e
 | .val (.od _) :: _,_,_,_,e=>by cases e
theorem ok_dlst (xo:XOk X K P C Γ) {es:List Expr} {cs:List E} {pos:Pos} (h:PA X es (tHs K P C cs)):Ok3 X K P C (.List es pos) (.dlst cs):=by
 refine mk3 xo (TE.imp_pe (pe_gh (pe_lst h)) λσ H Q ⟨ρ,G,v,ρ',r,e,k⟩ F=>?_) (λi z=>nomatch z) (λρ=>rfl) λ_=>rfl
 replace e:(evHs P C cs ρ).bind _=some (.ok v,ρ'):=e
 obtain ⟨hs,ρ1,e1,e2⟩:=bind_ok e
 unfold dlO at e2
 split at e2
 case h_2=>cases e2
 rename_i ds hds
 split at e2
 case isFalse=>cases e2
 rename_i hz
 cases e2
 refine ⟨H,Rl.refl,ρ,G,hs,_,r,e1,λxs H1 G1 a1 hx=>?_⟩
 obtain ⟨qs,rfl,pr,nd,kq⟩:=dlV_ok hx hds
 have tm:∀ {q},q∈cellA qs→¬ Own ρ' σ q.1∧H q.1=none∧H1 q.1≠none∧G1 q.1=none:=λhq=>hx.tmp_own (kq _ hq).1
 have hl:∀ {ds:List D} {qs:List Cell},Paired (DCell K G1) ds qs→qs.length=ds.length:=λh=>by
  induction h with
  | nil=>rfl
  | cons _ _ ih=>rw [List.length_cons,List.length_cons,ih]
 refine ⟨by rw [List.length_map,hl pr]; exact smallL_ok hz,λp hp=>?_⟩
 have np:∀ {q},q∈cellA qs→q.1≠p:=λhq z=>by have:=(tm hq).2.2.1; rw [z] at this; exact this hp
 have cn:∀ {c},H c≠none→cAt qs c=none:=λ{c} hc=>by
  cases w:cAt qs c with
  | none=>rfl
  | some ws=>exact absurd (tm (cAt_mem w)).2.1 hc
 have kk:∀ {c},c≠p→cAt qs c=none→fld (upd H1 p (.lst (qs.map cellV))) p qs c=H1 c:=λh1 h2=>by rw [fld_c h1 h2,upd_ne h1]
 refine ⟨fld (upd H1 p (.lst (qs.map cellV))) p qs,rl_fld upd_same (λq hq=>⟨np hq,by rw [upd_ne (np hq)]; exact (kq q hq).2⟩) nd fld_a (λq hq=>fld_b (np hq) (cAt_of nd hq)) λc h1 h2=>.inl (fld_c h1 h2), ?_⟩
 have gp:G1 p=none:=Same.free a1.rel.sub hp
 have np':∀ {c o},H1 c=some o→c≠p:=λh z=>by subst z; rw [hp] at h; cases h
 refine k _ _ G1 ⟨⟨a1.rel.len,λc o h=>?_,a1.rel.sh,λj d p' l' h=>?_,a1.rel.inj⟩,⟨a1.ext.gg,λc o h n=>?_,λc h=>?_,a1.ext.gn⟩,a1.evo⟩ ⟨p,rfl,gp,⟨qs,fld_a,pr⟩,a1.rel.notOwn hp,a1.fresh hp⟩
 ·have h1:=a1.rel.sub _ _ h
  have w:cAt qs c=none:=by
   cases w:cAt qs c with
   | none=>rfl
   | some ws=>have:=(tm (cAt_mem w)).2.2.2; rw [h] at this; cases this
  rw [kk (np' h1) w]; exact h1
 ·obtain ⟨c,h1,h2,h3⟩:=a1.rel.ow j d p' l' h
  have w:cAt qs c=none:=by
   cases w:cAt qs c with
   | none=>rfl
   | some ws=>exact absurd ⟨j,_,_,_,h,h1⟩ (tm (cAt_mem w)).1
  obtain ⟨o,ho⟩:=h3.there
  exact ⟨c,h1,h2,h3.mono (Sm.refl _) λo z=>by rw [kk (np' ho) w]; exact z⟩
 ·have h1:=a1.ext.hh c o h n
  rw [kk (np' h1) (cn (by rw [h]; simp))]; exact h1
 ·by_cases hc:c=p
  ·subst hc; rw [fld_a] at h; cases h
  ·cases w:cAt qs c with
   | some ws=>exact (tm (cAt_mem w)).2.1
   | none=>rw [kk hc w] at h; exact a1.ext.hx c h
theorem paired_get {α β:Type} {F:α→β→Prop}:∀ {as:List α} {bs:List β} {n:Nat} {a:α},Paired F as bs→as[n]?=some a→∃ b,bs[n]?=some b∧F a b
 | _,_,n,_,.nil,e=>by simp at e
 | _,_,0,_,.cons h t,e=>by simp at e; subst e; exact ⟨_,rfl,h⟩
 | _,_,n+1,_,.cons h t,e=>by simpa using paired_get t (by simpa using e)
theorem paired_set {α β:Type} {F:α→β→Prop} {a:α} {b:β} (h:F a b):∀ {as:List α} {bs:List β} (n:Nat),Paired F as bs→Paired F (as.set n a) (bs.set n b)
 | _,_,_,.nil=>.nil
 | _,_,0,.cons _ t=>.cons h t
 | _,_,n+1,.cons h' t=>.cons h' (paired_set h n t)
theorem paired_len {α β:Type} {F:α→β→Prop}:∀ {as:List α} {bs:List β},Paired F as bs→bs.length=as.length
 | _,_,.nil=>rfl
 | _,_,.cons _ t=>by rw [List.length_cons,List.length_cons,paired_len t]
theorem cellA_set:∀ {cs:List Cell} {n:Nat} {x:Cell} {q:Addr × List V},q∈cellA (cs.set n x)→(∃ y,x=.inr y∧q=y)∨(q∈cellA cs)
 | [],_,_,_,h=>nomatch h
 | .inl v :: cs,0,.inl w,q,h=>.inr h
 | .inl v :: cs,0,.inr w,q,h=>by
  rcases List.mem_cons.mp (show q∈w :: cellA cs from h) with z | z
  ·exact .inl ⟨w,rfl,z⟩
  ·exact .inr z
 | .inr v :: cs,0,.inl w,q,h=>.inr (List.mem_cons_of_mem _ h)
 | .inr v :: cs,0,.inr w,q,h=>by
  rcases List.mem_cons.mp (show q∈w :: cellA cs from h) with z | z
  ·exact .inl ⟨w,rfl,z⟩
  ·exact .inr (List.mem_cons_of_mem _ z)
 | .inl v :: cs,n+1,x,q,h=>cellA_set (cs:=cs) (n:=n) (show q∈cellA (cs.set n x) from h)
 | .inr v :: cs,n+1,x,q,h=>by
  rcases List.mem_cons.mp (show q∈v :: cellA (cs.set n x) from h) with z | z
  ·exact .inr (by rw [z]; exact List.mem_cons_self)
  ·rcases cellA_set z with w | w
   ·exact .inl w
   ·exact .inr (List.mem_cons_of_mem _ w)
theorem cellA_get:∀ {cs:List Cell} {n:Nat} {y:Addr × List V},cs[n]?=some (.inr y)→y∈cellA cs
 | [],_,_,h=>by simp at h
 | .inl v :: cs,0,_,h=>by simp at h
 | .inr v :: cs,0,_,h=>by simp at h; subst h; exact List.mem_cons_self
 | .inl v :: cs,n+1,y,h=>cellA_get (cs:=cs) (n:=n) (by simpa using h)
 | .inr v :: cs,n+1,y,h=>List.mem_cons_of_mem _ (cellA_get (cs:=cs) (n:=n) (by simpa using h))
theorem nodup_set:∀ {cs:List Cell} {n:Nat} {x:Cell},((cellA cs).map (·.1)).Nodup→(∀ y,x=.inr y→(∃ ws,cs[n]?=some (.inr (y.1,ws)))∨∀ q∈cellA cs,q.1≠y.1)→((cellA (cs.set n x)).map (·.1)).Nodup
 | [],_,_,nd,_=>nd
 | .inl v :: cs,0,.inl w,nd,_=>nd
 | .inr v :: cs,0,.inl w,nd,_=>(List.nodup_cons.mp (show (v.1 :: (cellA cs).map (·.1)).Nodup from nd)).2
 | .inl v :: cs,0,.inr w,nd,k=>by
  show (w.1 :: (cellA cs).map (·.1)).Nodup
  rw [List.nodup_cons]
  refine ⟨λz=>?_,nd⟩
  obtain ⟨q,hq,e⟩:=List.mem_map.mp z
  rcases k w rfl with ⟨ws,h⟩ | h
  ·simp at h
  ·exact h q hq e
 | .inr v :: cs,0,.inr w,nd,k=>by
  have nd:=List.nodup_cons.mp (show (v.1 :: (cellA cs).map (·.1)).Nodup from nd)
  show (w.1 :: (cellA cs).map (·.1)).Nodup
  rw [List.nodup_cons]
  refine ⟨λz=>?_,nd.2⟩
  rcases k w rfl with ⟨ws,h⟩ | h
  ·simp at h; subst h; exact nd.1 z
  ·obtain ⟨q,hq,e⟩:=List.mem_map.mp z
   exact h q (List.mem_cons_of_mem _ hq) e
 | .inl v :: cs,n+1,x,nd,k=>nodup_set (cs:=cs) (n:=n) nd λy hy=>by
  rcases k y hy with ⟨ws,h⟩ | h
  ·exact .inl ⟨ws,by simpa using h⟩
  ·exact .inr h
 | .inr v :: cs,n+1,x,nd,k=>by
  have nd:=List.nodup_cons.mp (show (v.1 :: (cellA cs).map (·.1)).Nodup from nd)
  show (v.1 :: (cellA (cs.set n x)).map (·.1)).Nodup
  rw [List.nodup_cons]
  refine ⟨λz=>?_,nodup_set nd.2 λy hy=>?_⟩
  ·obtain ⟨q,hq,e⟩:=List.mem_map.mp z
   rcases cellA_set hq with ⟨y,hy,rfl⟩ | w
   ·rcases k q hy with ⟨ws,h⟩ | h
    ·refine nd.1 (List.mem_map.mpr ⟨(q.1,ws),cellA_get (n:=n) (by simpa using h),e⟩)
    ·exact h v List.mem_cons_self e.symm
   ·exact nd.1 (List.mem_map.mpr ⟨q,w,e⟩)
  ·rcases k y hy with ⟨ws,h⟩ | h
   ·exact .inl ⟨ws,by simpa using h⟩
   ·exact .inr λq hq=>h q (List.mem_cons_of_mem _ hq)
theorem dset_fin (r:Rel K ρ σ H G) (hi:ρ[i]?=some (.ow (.dl ds) p false)) (F:Dlf H) (hx:σ[i]?=some (some (.ref a))) (g:G a=none) (hH:H a=some (.dls cs)) (pr:Paired (DCell K G) ds cs) (af:Aft K (ρ.set i (.sh (.lst ds))) σ (unf H a cs) (unf G a cs) ρ2 H3 G3) (tk:Toks (ρ.set i .un) (ρ2.set i .un))
  {ρ0:Env} {H0 G0:Hp} (a0:Aft K ρ0 σ H0 G0 ρ H G) {n:Nat} {d:D} {x:Cell} {H4:Hp} (hl:n<cs.length) (hc:DCell K G d x) (h4a:H4 a=some (.lst ((cs.set n x).map cellV))) (h4o:∀ c,c≠a→(∀ ws,x≠.inr (c,ws))→H4 c=H3 c)
  (hn:∀ y,x=.inr y→H4 y.1=some (.lst y.2)∧((∃ ws,cs[n]?=some (.inr (y.1,ws)))∨(H y.1=some (.lst y.2)∧G y.1=none∧¬ Own ρ σ y.1∧H0 y.1=none))) :
  ∃ H2,Rl X H4 H2∧Aft K ρ0 σ H0 G0 (ρ2.set i (.ow (.dl (ds.set n d)) p false)) H2 G:=by
 obtain ⟨nd,fc⟩:=F a cs hH
 obtain ⟨m1,m2⟩:=dl_mid F hH af
 have owna:Own ρ σ a:=⟨i,_,_,_,hi,hx⟩
 have old:∀ {y},x=.inr y→(H y.1=some (.lst y.2)∧G y.1=none∧¬ Own ρ σ y.1∧H0 y.1=none)→∀ q∈cellA cs,q.1≠y.1:=λ_ h q hq z=>by
  have:=(fc q hq).2
  rw [z,h.1] at this; cases this
 have nd':((cellA (cs.set n x)).map (·.1)).Nodup:=nodup_set nd λy hy=>by
  rcases (hn y hy).2 with h | h
  ·exact .inl h
  ·exact .inr (old hy h)
 have na:∀ c ws,cAt (cs.set n x) c=some ws→c≠a:=λc ws h=>by
  rcases cellA_set (cAt_mem h) with ⟨y,hy,e⟩ | h
  ·subst e
   rcases (hn _ hy).2 with ⟨ws',h⟩ | h
   ·exact (fc _ (cellA_get h)).1
   ·exact λz=>by
     have z:c=a:=z
     subst z; exact h.2.2.1 owna
  ·exact (fc _ h).1
 have nw:∀ c ws,cAt (cs.set n x) c=some ws→cAt cs c=none→x=.inr (c,ws)∧G c=none∧¬ Own ρ σ c∧H0 c=none:=λc ws h h'=>by
  rcases cellA_set (cAt_mem h) with ⟨y,hy,e⟩ | h
  ·subst e
   rcases (hn _ hy).2 with ⟨ws',h⟩ | h
   ·rw [cAt_of nd (cellA_get h)] at h'; cases h'
   ·exact ⟨hy,h.2⟩
  ·rw [cAt_of nd h] at h'; cases h'
 obtain ⟨o1,o2,o3⟩:=dl_out r hi F hx g hH af tk (paired_set hc n pr) (λc ws h h'=>(nw c ws h h').2.imp id (·.1)) na
 refine ⟨_,rl_fld h4a (λq hq=>?_) nd' fld_a (λq hq=>fld_b (na _ _ (cAt_of nd' hq)) (cAt_of nd' hq)) λc h1 h2=>?_,o1,a0.ext.trans (own1:=λc=>Own ρ σ c∨(cAt cs c=none∧∃ ws,cAt (cs.set n x) c=some ws)) (λc z=>?_) o2,a0.evo.trans o3⟩
 ·refine ⟨na _ _ (cAt_of nd' hq), ?_⟩
  by_cases hq2:∃ ws,x=.inr (q.1,ws)
  ·obtain ⟨ws,hw⟩:=hq2
   have h1:=(hn _ hw).1
   have h3:(q.1,ws)∈cellA (cs.set n x):=cellA_get (n:=n) (by rw [List.getElem?_set_self hl,hw])
   have e1:=cAt_of nd' h3
   rw [cAt_of nd' (show (q.1,q.2)∈_ from hq)] at e1
   cases e1
   exact h1
  ·rcases cellA_set hq with ⟨y,hy,e⟩ | h'
   ·subst e; exact absurd ⟨_,hy⟩ hq2
   ·rw [h4o q.1 (m2 q h').1 λws z=>hq2 ⟨ws,z⟩]
    exact (m2 q h').2
 ·by_cases hq2:∃ ws,x=.inr (c,ws)
  ·obtain ⟨ws,hw⟩:=hq2
   have:=cAt_of nd' (cellA_get (cs:=cs.set n x) (n:=n) (y:=(c,ws)) (by rw [List.getElem?_set_self hl,hw]))
   rw [h2] at this; cases this
  ·cases w:cAt cs c with
   | some ws' =>
    refine .inr ⟨by rw [fld_c h1 h2,fld_b h1 w],ws', ?_⟩
    rw [h4o c h1 λws z=>hq2 ⟨ws,z⟩]
    exact (m2 _ (cAt_mem w)).2
   | none =>
    refine .inl ?_
    rw [fld_c h1 h2,fld_c h1 w,h4o c h1 λws z=>hq2 ⟨ws,z⟩]
 ·rcases z with z | ⟨z,ws,z'⟩
  ·exact .inl (a0.own c z)
  ·exact .inr (nw c ws z' z).2.2.2
theorem ixN_nat {n:Nat} {k:Int} (h0:0≤k) (h1:k<n):ixN n k=some k.toNat:=by unfold ixN; rw [if_pos h0,if_pos h1]
theorem set_same {α:Type}:∀ {l:List α} {n:Nat} {x:α},l[n]?=some x→l.set n x=l
 | [],_,_,h=>by simp at h
 | y :: l,0,x,h=>by simp at h; subst h; rfl
 | y :: l,n+1,x,h=>by rw [List.set_cons_succ,set_same (by simpa using h)]
theorem dset_inv {c:Option Nat} {v:RV} {f:Env→Res RV} {fl:Fl} {ρ':Env} (e:dsetO i c v ρ f=some (fl,ρ')):∃ ds p n ρ2 ds',ρ[i]?=some (.ow (.dl ds) p false)∧f (ρ.set i (.sh (.lst ds)))=some (.ok (.sh (.int n)),ρ2)∧Toks (ρ.set i .un) (ρ2.set i .un)∧dputD c n v ds=some ds'∧fl=.nx∧ρ'=ρ2.set i (.ow (.dl ds') p false):=by
 unfold dsetO at e
 split at e
 case h_2=>cases e
 rename_i ds p hs
 split at e
 case h_2=>cases e
 rename_i n ρ2 q
 split at e
 case isFalse=>cases e
 rename_i tk
 unfold dsetR at e
 split at e
 case h_2=>cases e
 rename_i ds' hd
 cases e
 exact ⟨ds,p,n,ρ2,ds',hs,q,tk,hd,rfl,rfl⟩
theorem ps_dset1 (xo:XOk X K P C Γ) {x:Str} {e j:Expr} {c cj:E} {p p2 pos:Pos} (hi:Γ.slot x=some i) (h:Ok3 X K P C e c) (hj:Ok3 X K P C j cj) (n:notComp e=true)
  (ha:∀ v,assign (.Subscript (.Name x p) j p2) X.env v=(do
   let ov ← holding [v] (eval (.Name x p) X.env)
   let iv ← holding [v,ov] (eval j X.env)
   standAt p2
   holding [v,ov,iv] (setItem ov iv v)
   release [v,ov,iv] [])):PS X (.Assign [.Subscript (.Name x p) j p2] e pos) (tS K P C W (.dset i none cj c)):=by
 have hp:PE X (.Name x p) (tVar i):=CC.slot_ok xo hi
 refine TS.imp_ps (ps_asg h.v (pg_sub (pe_gh hp) hj.v set_gh ha) (swapsSole_ok n _ _ _)) λDD σ H ⟨ρ,G,fl,ρ',r,e,k⟩=>?_
 obtain ⟨v,ρ1,e1,e2⟩:=flow_ok e k.ne
 obtain ⟨ds,p,m,ρ2,ds',hs,q,tk,hd,rfl,rfl⟩:=dset_inv e2
 refine ⟨ρ,G,v,ρ1,r,e1,λy H1 G1 a1 hv F=>?_⟩
 obtain ⟨a,cs,hx,g,hH,pr,sm,ru⟩:=dl_in a1.rel hs F
 refine ⟨_,rl_unf hH,.ref a,hx,_,Rl.refl,_,_,.sh (.int m),ρ2,ru,q,λz H3 G3 af hz=>?_⟩
 cases (show z=.int m from hz)
 obtain ⟨m1,m2⟩:=dl_mid F hH af
 have hl:=paired_len pr
 have fin:∀ {d:D} {xc:Cell},0≤m→m<ds.length→ds'=ds.set m.toNat d→cellV xc=y→DCell K G1 d xc→(∀ w,xc=.inr w→H3 w.1=some (.lst w.2)∧w.1≠a∧H1 w.1=some (.lst w.2)∧G1 w.1=none∧¬ Own ρ1 σ w.1∧H w.1=none) →
   rSetL (.ref a) (.int m) y H3 λH'=>∃ H2,Rl X H' H2∧DD.nx σ H2:=λ{d xc} h0 h1 hds hy hc hn=>by
  subst hds hy
  obtain ⟨H2,h2,h3⟩:=dset_fin (X:=X) a1.rel hs F hx g hH pr af tk a1 (n:=m.toNat) (x:=xc) (H4:=upd H3 a (.lst ((cs.map cellV).set m.toNat (cellV xc)))) (by omega) hc (by rw [upd_same,List.map_set]) (λc hc _=>upd_ne hc) λw hw=>by
   obtain ⟨h1,h2,h3⟩:=hn w hw
   exact ⟨by rw [upd_ne h2]; exact h1,.inr h3⟩
  exact ⟨a,_,m,m.toNat,rfl,rfl,m1,ixN_nat h0 (by rw [List.length_map,hl]; exact h1),H2,h2,k σ H2 G1 (Aft.s r h3)⟩
 cases v with
 | sh d =>
  replace hd:(@ite _ _ (cl _) (some (ds.set m.toNat d)) none)=some ds':=hd
  split at hd
  ·rename_i hc
   cases hd
   exact fin hc.2.1 hc.2.2 rfl (xc:=.inl y) rfl ⟨hc.1,hv⟩ λw hw=>nomatch hw
  ·cases hd
 | ow dd =>
  cases dd with
  | lst es =>
   replace hd:(@ite _ _ (cl _) (some (ds.set m.toNat (.lst es))) none)=some ds':=hd
   split at hd
   ·rename_i hc
    cases hd
    obtain ⟨b,rfl,gb,⟨ws,hb,hr⟩,nb,fb⟩:=hv
    have hba:b≠a:=λz=>by subst z; exact nb ⟨i,_,_,_,hs,hx⟩
    have hbc:cAt cs b=none:=by
     cases w:cAt cs b with
     | none=>rfl
     | some ws'=>have:=(F.own hH w).2; rw [hb] at this; cases this
    refine fin hc.1 hc.2 rfl (xc:=.inr (b,ws)) rfl ⟨es,rfl,hr⟩ λw hw=>?_
    cases hw
    exact ⟨af.ext.hh b _ (by rw [unf_c hba hbc]; exact hb) λz=>nb (own_sh z),hba,hb,gb,nb,fb⟩
   ·cases hd
  | _=>cases hd
 | od dd=>cases hd
theorem ps_dset2 (xo:XOk X K P C Γ) {x:Str} {e j:Expr} {c cj:E} {ci:Int} {kk:Nat} {p p1 p2 p3 pos:Pos} (hi:Γ.slot x=some i) (h:Ok3 X K P C e c) (hj:Ok3 X K P C j cj) (n:notComp e=true) (hci:0≤ci)
  (ha:∀ v,assign (.Subscript (.Subscript (.Name x p) (.Constant (.int ci) kk p1) p3) j p2) X.env v=(do
   let ov ← holding [v] (eval (.Subscript (.Name x p) (.Constant (.int ci) kk p1) p3) X.env)
   let iv ← holding [v,ov] (eval j X.env)
   standAt p2
   holding [v,ov,iv] (setItem ov iv v)
   release [v,ov,iv] [])):PS X (.Assign [.Subscript (.Subscript (.Name x p) (.Constant (.int ci) kk p1) p3) j p2] e pos) (tS K P C W (.dset i (some ci.toNat) cj c)):=by
 have hp:PE X (.Name x p) (tVar i):=CC.slot_ok xo hi
 have hq:PE X (.Subscript (.Name x p) (.Constant (.int ci) kk p1) p3) (tOp (rIxL X.K) (tVar i) (tC (.int ci))):=pe_ix ix_list hp pe_int λ_ _=>rfl
 refine TS.imp_ps (ps_asg h.v (pg_sub (pe_gh hq) hj.v set_gh ha) (swapsSole_ok n _ _ _)) λD σ H ⟨ρ,G,fl,ρ',r,e,k⟩=>?_
 obtain ⟨v,ρ1,e1,e2⟩:=flow_ok e k.ne
 obtain ⟨ds,p,m,ρ2,ds',hs,q,tk,hd,rfl,rfl⟩:=dset_inv e2
 refine ⟨ρ,G,v,ρ1,r,e1,λy H1 G1 a1 hv F=>?_⟩
 obtain ⟨a,cs,hx,g,hH,pr,sm,ru⟩:=dl_in a1.rel hs F
 cases v with
 | ow dd=>cases dd <;> cases hd
 | od dd=>cases hd
 | sh d =>
  replace hd:(match ds[ci.toNat]? with | some (.lst es)=>@ite _ (0≤m∧m<es.length) (cl _) (some (ds.set ci.toNat (.lst (es.set m.toNat d)))) none | _=>none)=some ds':=hd
  split at hd
  case h_2=>cases hd
  rename_i es hes
  split at hd
  case isFalse=>cases hd
  rename_i hc
  cases hd
  obtain ⟨xc,hxc,dc⟩:=paired_get pr hes
  cases xc with
  | inl w=>exact bno dc.1
  | inr bw =>
   obtain ⟨b,ws⟩:=bw
   obtain ⟨es',e3,hr⟩:=dc
   cases e3
   have hat:atI (cs.map cellV) ci=some (.ref b):=by
    have:=atI_nat (xs:=cs.map cellV) (j:=ci.toNat) (v:=.ref b) (by rw [List.getElem?_map,hxc]; rfl)
    rwa [Int.toNat_of_nonneg hci] at this
   refine ⟨_,rl_unf hH,.ref a,hx,a,_,ci,.ref b,rfl,rfl,SqL.of unf_a,hat,_,Rl.refl,_,_,.sh (.int m),ρ2,ru,q,λz H3 G3 af hz=>?_⟩
   cases (show z=.int m from hz)
   obtain ⟨m1,m2⟩:=dl_mid F hH af
   obtain ⟨hba,hb3⟩:=m2 _ (cellA_get hxc)
   have hlc:ci.toNat<cs.length:=(List.getElem?_eq_some_iff.mp hxc).1
   obtain ⟨H2,h2,h3⟩:=dset_fin (X:=X) a1.rel hs F hx g hH pr af tk a1 (n:=ci.toNat) (d:=.lst (es.set m.toNat d)) (x:=.inr (b,ws.set m.toNat y)) (H4:=upd H3 b (.lst (ws.set m.toNat y))) hlc ⟨_,rfl,hr.set hv m.toNat⟩
    (by rw [upd_ne (λz=>hba z.symm),m1,List.map_set,set_same (by rw [List.getElem?_map,hxc]; rfl)]) (λc _ h=>upd_ne λz=>by subst z; exact h _ rfl) λw hw=>by
     cases hw
     exact ⟨upd_same,.inl ⟨ws,hxc⟩⟩
   exact ⟨b,ws,m,m.toNat,rfl,rfl,hb3,ixN_nat hc.1 (by rw [hr.len]; exact hc.2),H2,h2,k σ H2 G1 (Aft.s r h3)⟩
theorem ok_tmpC {e:Expr} {c:E} (h:Ok3 X K P C e c):Ok3 X K P C e (tmpC Γ c):=by
 unfold tmpC
 split
 ·exact ok_tmp h _
 ·exact h
theorem ok_asgE (xo:XOk X K P C Γ) (x:Str) (e:Expr):Ok3 X K P C e (asgE Γ x e):=by
 unfold asgE
 split
 ·split
  ·split
   ·exact ok_dlst xo (cEs_okH xo _ ‹_›)
   ·exact cE_ok xo _
  ·exact cE_ok xo _
 ·exact cE_ok xo _
theorem asgE_or (x:Str) (e:Expr):asgE Γ x e=cE Γ e∨∃ cs,asgE Γ x e=.dlst cs:=by
 unfold asgE
 split
 ·split
  ·split
   ·exact .inr ⟨_,rfl⟩
   ·exact .inl rfl
  ·exact .inl rfl
 ·exact .inl rfl
theorem asgE_LC (x:Str) {e:Expr} (h:isLC e=true):asgE Γ x e=cE Γ e:=by
 unfold asgE
 split
 ·cases e <;> first | rfl | exact bno h
 ·rfl
theorem ps_setA (xo:XOk X K P C Γ) (a k e:Expr) {p2 pos:Pos}:PS X (.Assign [.Subscript a k p2] e pos) (tS K P C W (setA Γ a k e)):=by
 unfold setA
 split
 ·rename_i x p
  split
  ·split
   ·rename_i h
    rw [Bool.and_eq_true] at h
    have h2:=h.2
    split
    ·exact ps_dset1 xo ‹_› (cE_ok xo _) (cE_ok xo _) h.1 λv=>by cases k <;> first | rfl | cases h2
    ·exact ps_setS xo ‹_› (cE_ok xo _) (cE_ok xo _) h.1 λv=>by cases k <;> first | rfl | cases h2
   ·exact ps_bad
  ·exact ps_bad
 ·split
  ·split
   ·rename_i h
    rw [Bool.and_eq_true,Bool.and_eq_true,Bool.and_eq_true] at h
    have h2:=h.1.1.2
    exact ps_dset2 xo ‹_› (cE_ok xo _) (cE_ok xo _) h.1.1.1 (of_decide_eq_true h.2) λv=>by cases k <;> first | rfl | cases h2
   ·exact ps_bad
  ·exact ps_bad
 ·exact ps_bad
theorem kifOf_inv {s:Stmt} {r:List Stmt} {i j:Nat} {ce cc:E} (h:kifOf Γ s r=some (i,j,ce,cc)):∃ x p1 e pos1 c a0 pos2 r4,s=.Assign [.Name x p1] e pos1∧r=.If c a0 [] pos2 :: r4∧Γ.slotL x=some j∧notComp e=true∧ce=cE Γ e∧cc=cE Γ c:=by
 unfold kifOf at h
 split at h
 ·rename_i x p1 e pos1 c a0 pos2 r4
  split at h
  ·split at h
   ·rename_i hc
    rw [Bool.and_eq_true] at hc
    cases h
    exact ⟨_,_,_,_,_,_,_,_,rfl,rfl,‹_›,hc.2,rfl,rfl⟩
   ·cases h
  ·cases h
 ·cases h
end
section
variable {X:Cx} {K:PySem.W.Frag} {P:Pins} {C:Calls} {W:Nat} {Γ:CC}
theorem slotL_at (xo:XOk X K P C Γ) {x:Str} {i:Nat} (h:Γ.slotL x=some i):X.N[i]?=some x∧L2.Loc X.env.scope x∧Γ.isLoc x=true:=by
 unfold CC.slotL at h
 split at h
 ·rename_i hl
  have hN:X.N[i]?=some x:=by
   unfold CC.slot at h
   split at h
   ·cases h
   ·split at h
    ·rw [xo.neq]; exact idxOf_get h
    ·cases h
  refine ⟨hN, ?_,hl⟩
  unfold L2.Loc
  rw [xo.nm]
  unfold CC.isLoc at hl
  rw [Bool.or_eq_true,Bool.and_eq_true] at hl
  rcases hl with hl | hl
  ·exact .inl (eq_of_beq hl)
  ·exact .inr (eq_of_beq hl.2)
 ·cases h
theorem ps_asgU (xo:XOk X K P C Γ) (hfn:∀ x,Γ.isLoc x=true→X.fn x=true∨X.env.scope.names.lookup x=some .local) {x:Str} {i:Nat} {e:Expr} {c:E} {p pos:Pos} (hi:Γ.slotL x=some i) (h:OkU X K P C e c):PS X (.Assign [.Name x p] e pos) (tS K P C W (.asg i c)):=by
 obtain ⟨h1,h2,h3⟩:=slotL_at xo hi
 refine TS.imp_ps (h x i p pos (by rw [xo.neq]; exact xo.nd) h1 h2 (hfn x h3)) λD σ H ⟨ρ,G,fl,ρ',r,e,k⟩=>?_
 obtain ⟨v,ρ1,e1,e2⟩:=flow_ok e k.ne
 unfold goOn at e2
 cases q:store i v ρ1 with
 | none=>rw [q] at e2; cases e2
 | some ρ2 =>
  rw [q] at e2
  cases e2
  exact ⟨ρ,G,v,ρ1,r,e1,λx H' G' a hv=>k _ H' G' (Aft.store r a q hv)⟩
theorem for_okE (xo:XOk X K P C Γ) (hfn:∀ x,Γ.isLoc x=true→X.fn x=true∨X.env.scope.names.lookup x=some .local) {tg it:Expr} {one:Bool} {is:List Nat} {k0:ItK} {its:List Expr} {Φ:List E→Prop}
  (ht:tgOf Γ tg=some (one,is)) (hi:itOf Γ it=some (k0,its)) (hfit:tgFit k0 one=true) (fin:∀ {wi:TI} {its':List E},(∀ x,foldedSetIterable it X.env x=pure x)→PI X tg it wi→(∀ σ H (R:It→Hp→Prop),FHw K P C k0 its' σ H R→wi σ H R)→Φ its'):Φ (cEs Γ its):=by
 have gen:∀ e:Expr,it=e→notSet e=true→some (ItK.of,[e])=some (k0,its)→Φ (cEs Γ its):=λe he hn hq=>by
  subst he
  cases hq
  exact fin (folded_ok hn _) (PI.or (pi_list (cE_ok xo it).h) (pi_tup (cE_ok xo it).h)) λσ H R q=>of_hw xo.keq σ H R q
 unfold itOf at hi
 split at hi
 ·rename_i f p args pos'
  split at hi
  ·rename_i hf
   have hf:=eq_of_beq hf
   subst hf
   split at hi
   ·rename_i hgl
    split at hi
    ·rename_i hc
     cases hi
     rw [Bool.and_eq_true] at hc
     obtain ⟨h1,h2,h3,h4⟩:=CC.glob_ok xo hgl (λz=>nomatch z)
     have hm:=xo.blt _ h2
     match its,hc with
     | [a],hc =>
      have ns:=hc.1
      rw [List.all_cons,Bool.and_eq_true] at ns
      exact fin (λ_=>rfl) (pi_range1 h1 hm (cEs_okH xo [a] hc.1) (by rw [star_ok ns.1]; rfl)) λσ H R q=>rng1_hw σ H R q
     | [a,b],hc =>
      have ns:=hc.1
      rw [List.all_cons,Bool.and_eq_true,List.all_cons,Bool.and_eq_true] at ns
      exact fin (λ_=>rfl) (pi_range2 h1 hm (cEs_okH xo [a,b] hc.1) (by rw [star_ok ns.1,star_ok ns.2.1]; rfl) (by rw [star_ok ns.2.1]; rfl)) λσ H R q=>rng2_hw σ H R q
     | [],hc=>simp at hc
     | _ :: _ :: _ :: _,hc=>simp at hc
    ·cases hi
   ·cases hi
  ·split at hi
   ·rename_i hf
    have hf:=eq_of_beq hf
    subst hf
    split at hi
    ·rename_i hgl
     split at hi
     ·rename_i hc
      cases hi
      rw [Bool.and_eq_true] at hc
      obtain ⟨h1,h2,h3,h4⟩:=CC.glob_ok xo hgl (λz=>nomatch z)
      have hm:=xo.blt _ h2
      match its,hc with
      | [a],hc =>
       have ns:=hc.1
       rw [List.all_cons,Bool.and_eq_true] at ns
       obtain ⟨elts,kk,tp,rfl⟩:=tgOf_many ht (by simpa [tgFit] using hfit)
       exact fin (λ_=>rfl) (pi_enum h1 hm (cEs_okH xo [a] hc.1) (by rw [star_ok ns.1]; rfl)) λσ H R q=>enum_hw xo.keq σ H R q
      | [],hc=>simp at hc
      | _ :: _ :: _,hc=>simp at hc
     ·cases hi
    ·cases hi
   ·exact gen _ rfl rfl hi
 ·split at hi
  ·rename_i hc
   rw [Bool.and_eq_true,Bool.and_eq_true,Bool.and_eq_true] at hc
   obtain ⟨⟨⟨hf,hx⟩,ns⟩,h1⟩:=hc
   have hf:=eq_of_beq hf
   have hx:=eq_of_beq hx
   have h1:=eq_of_beq h1
   subst hf hx h1
   split at hi
   ·rename_i hgl
    cases hi
    obtain ⟨h1,h2,h3,h4⟩:=CC.glob_ok xo hgl (λz=>nomatch z)
    have hm:=xo.blt _ h2
    obtain ⟨elts,kk,tp,rfl⟩:=tgOf_many ht (by simpa [tgFit] using hfit)
    exact fin (λ_=>rfl) (pi_enumS h1 hm (cEs_okH xo [_] (by rw [List.all_cons,ns]; rfl)) (by rw [star_ok ns]; rfl)) λσ H R q=>enum_hw xo.keq σ H R q
   ·cases hi
  ·cases hi
 ·split at hi
  ·exact gen _ rfl ‹_› hi
  ·cases hi
theorem for_okF (xo:XOk X K P C Γ) (hfn:∀ x,Γ.isLoc x=true→X.fn x=true∨X.env.scope.names.lookup x=some .local) {tg it:Expr} {body:List Stmt} {one:Bool} {is:List Nat} {k0:ItK} {its:List Expr} {Φ:List E→Prop}
  (ht:tgOf Γ tg=some (one,is)) (hi:itOf Γ it=some (k0,its)) (hfit:tgFit k0 one=true) (fin:∀ {wi:TI} {its':List E},(∀ x,foldedSetIterable it X.env x=pure x)→PI X tg it wi→(∀ σ H (R:It→Hp→Prop),FHw K P C k0 its' σ H R→wi σ H R)→Φ its'):Φ (itE Γ it body (cEs Γ its)):=by
 exact for_okE xo hfn ht hi hfit fin
theorem evs_len:∀ {cs:List E} {ds:List D} {ρ ρ':Env},evs P C cs ρ=some (.ok ds,ρ')→ds.length=cs.length
 | [],_,_,_,h=>by simp only [evs] at h; cases h; rfl
 | c :: cs,ds,ρ,ρ',h=>by
  simp only [evs] at h
  obtain ⟨v,ρ1,_,h⟩:=bind_ok h
  obtain ⟨ds',ρ2,h2,h⟩:=bind_ok h
  cases h
  rw [List.length_cons,List.length_cons,evs_len h2]
mutual
theorem cS_ok {X:Cx} (po:PassesOwn (model X.prog X.w) X.A X.env X.xe) (xo:XOk X K P C Γ) (hfn:∀ x,Γ.isLoc x=true→X.fn x=true∨X.env.scope.names.lookup x=some .local) (sk:Γ.top=true→X.stack=X.env :: X.outer∧X.env.frame=some X.env.locals) (st:Stmt):PS X st (tS K P C W (cS Γ st)):=by
 cases st with
 | Pass _=>exact ps_passS
 | Break _=>exact ps_brkS
 | Continue _=>exact ps_cntS
 | Return e _ =>
  cases e with
  | some e=>exact ps_retS (cE_ok xo e)
  | none=>exact ps_retNS
 | Expr e _ =>
  show PS X _ (tS K P C W (if notComp e then .expr (cE Γ e) else .bad))
  split
  ·exact ps_exprS (cE_ok xo _) ‹_›
  ·exact ps_bad
 | If c a b _=>exact ps_ifS (ok_tmpC (cE_ok xo _)) (cSs_ok po xo hfn sk a) (cSs_ok po xo hfn sk b)
 | While c b o _ =>
  cases o with
  | nil=>exact ps_bad
  | cons _ _=>exact ps_bad
 | For tg it b o _ =>
  cases o with
  | nil =>
   show PS X _ (tS K P C W (match tgOf Γ tg,itOf Γ it with
    | some (one,is),some (k,its)=>if tgFit k one then .for is one k (itE Γ it b (cEs Γ its)) (cSs Γ b) else .bad
    | _,_=>.bad))
   cases h1:tgOf Γ tg with
   | none=>exact ps_bad
   | some t =>
    cases h2:itOf Γ it with
    | none=>exact ps_bad
    | some u =>
     show PS X _ (tS K P C W (if tgFit u.1 t.1 then .for t.2 t.1 u.1 (itE Γ it b (cEs Γ u.2)) (cSs Γ b) else .bad))
     split
     ·exact for_okF xo hfn h1 h2 ‹_› (Φ:=λits'=>PS X (.For tg it b [] _) (tS K P C W (.for t.2 t.1 u.1 its' (cSs Γ b)))) λhs hi hw=>for_ok po xo (tgOf_ok xo hfn h1) (cSs_ok po xo hfn sk b) hs hi hw
     ·exact ps_bad
  | cons _ _=>exact ps_bad
 | Assign ts e _ =>
  obtain _ | ⟨t,_ | ⟨_,_⟩⟩:=ts
  ·exact ps_bad
  ·cases t with
   | Name x p =>
    show PS X _ (tS K P C W (match Γ.slotL x with | some i=>if notComp e || isLC e then .asg i (asgE Γ x e) else .bad | none=>.bad))
    split
    ·split
     ·rename_i hc
      rw [Bool.or_eq_true] at hc
      rcases hc with hc | hc
      ·exact ps_asgS xo hfn ‹_› (ok_asgE xo x e) hc
      ·rw [asgE_LC x hc]
       exact ps_asgU xo hfn ‹_› (okU_of xo _ hc)
     ·exact ps_bad
    ·exact ps_bad
   | Tuple ts _ _ =>
    show PS X _ (tS K P C W (match tgNames Γ ts with | some is=>if notComp e && notTup e then .asgT is (cE Γ e) else .bad | none=>.bad))
    split
    ·split
     ·rename_i h
      rw [Bool.and_eq_true] at h
      exact ps_asgTS xo hfn ‹_› (cE_ok xo _) h.1 h.2
     ·exact ps_bad
    ·exact ps_bad
   | Subscript a k _=>exact ps_setA xo a k e
   | _=>exact ps_bad
  ·cases t with
   | Subscript a _ _=>cases a <;> exact ps_bad
   | _=>exact ps_bad
 | AugAssign t op e _ =>
  cases t with
  | Name x p =>
   cases op with
   | Add =>
    show PS X _ (tS K P C W (match Γ.slotL x with | some i=>if notComp e then .bad else .bad | none=>.bad))
    split
    ·split
     ·exact ps_bad
     ·exact ps_bad
    ·exact ps_bad
   | _=>exact ps_bad
  | _=>exact ps_bad
 | Raise e c _ =>
  cases e with
  | none=>exact ps_bad
  | some e =>
   cases c with
   | none =>
    show PS X _ (tS K P C W (rseC Γ e))
    unfold rseC
    split
    ·split
     ·split
      ·exact ps_badS λρ=>rfl
      ·exact ps_badS λρ=>rfl
      ·exact ps_bad
     ·exact ps_bad
    ·exact ps_bad
   | some _=>exact ps_bad
 | Try body hs o f _ =>
  show PS X _ (tS K P C W (tryC Γ (cSs Γ body) hs o f))
  unfold tryC
  split
  ·rename_i hof
   rw [Bool.and_eq_true] at hof
   obtain rfl:=List.isEmpty_iff.mp hof.1
   obtain rfl:=List.isEmpty_iff.mp hof.2
   split
   ·rename_i x n bd hh
    obtain ⟨np,hp,rfl⟩:=hnd_inv hh
    split
    ·rename_i hc
     rw [Bool.and_eq_true] at hc
     obtain ⟨h2,h3⟩:=hc
     have h2:=eq_of_beq h2
     obtain ⟨s1,s2⟩:=sk h3
     split
     ·unfold tryA1
      split
      ·rename_i y n' ha
       obtain ⟨p3,p4,p5,rfl⟩:=asgN_inv ha
       split
       ·rename_i h1
        have h1:=eq_of_beq h1
        subst h1
        split
        ·rename_i cs i j e1 e2 e3
         obtain ⟨a1,a2,a3⟩:=slotL_at xo e2
         obtain ⟨b1,b2,b3⟩:=slotL_at xo e3
         have hnb:badName n'=false:=by
          cases z:badName n' with
          | false=>rfl
          | true =>
           have w:Γ.slot n'=none:=by unfold CC.slot; rw [if_pos z]
           unfold CC.slotL at e2
           rw [w] at e2
           simp at e2
         exact ps_tryS xo s1 s2 (λE pn po'=>cSs_ok (X:=Cx.re X E pn) po' xo.re hfn sk body) (λE pn po'=>cSsX_ok (X:=Cx.re X E pn) po' xo.re hfn sk body) e1 a1 (by rw [xo.nm]; exact h2) hnb b1 b2 (hfn y b3)
        ·exact ps_bad
       ·exact ps_bad
      ·exact ps_bad
     ·split
      ·exact ps_bad
      ·exact ps_bad
    ·exact ps_bad
   ·split
    ·exact ps_tryO1 λE pn po'=>cSs_ok (X:=Cx.re X E pn) po' xo.re hfn sk body
    ·exact ps_bad
  ·exact ps_bad
 | _=>exact ps_bad
theorem cSs_ok {X:Cx} (po:PassesOwn (model X.prog X.w) X.A X.env X.xe) (xo:XOk X K P C Γ) (hfn:∀ x,Γ.isLoc x=true→X.fn x=true∨X.env.scope.names.lookup x=some .local) (sk:Γ.top=true→X.stack=X.env :: X.outer∧X.env.frame=some X.env.locals) (sts:List Stmt):PSs X sts (tSs K P C W (cSs Γ sts)):=by
 cases sts with
 | nil=>exact pss_nilS
 | cons s r =>
  cases qk:kifOf Γ s r with
  | some o =>
   obtain ⟨i,j,ce,cc⟩:=o
   obtain ⟨x,p1,e,pos1,c,a0,pos2,r4,rfl,rfl,hj,hnc,rfl,rfl⟩:=kifOf_inv qk
   have:cSs Γ (.Assign [.Name x p1] e pos1 :: .If c a0 [] pos2 :: r4)=.kif i j (cE Γ e) (cE Γ c) :: cSs Γ r4:=by
    show kifW (kifOf Γ _ _) _ _=_
    rw [qk]
    rfl
   rw [this]
   refine TS.imp_pss (kif_gen (W:=W) (i:=i) xo hfn hj hnc (cSs_ok po xo hfn sk r4)) λD σ H ⟨ρ,G,fl,ρ',r,e0,k⟩=>?_
   rw [exs] at e0
   cases q2:ex P C W (.kif i j (cE Γ e) (cE Γ c)) ρ with
   | none=>rw [q2] at e0; cases e0
   | some y =>
    obtain ⟨fl1,ρ1⟩:=y
    rw [q2] at e0
    have:=kif_nx q2
    subst this
    exact ⟨ρ,G,ρ1,r,q2,λσ1 H1 G1 a1=>⟨ρ1,G1,fl,ρ',a1.rel,e0,k.pre a1⟩⟩
  | none =>
   cases q:scrOf Γ s r with
   | none =>
    have:cSs Γ (s :: r)=cS Γ s :: cSs Γ r:=by
     show kifW (kifOf Γ s r) _ (scrW (scrOf Γ s r) _ _)=_
     rw [qk]
     show scrW (scrOf Γ s r) _ _=_
     rw [q]; rfl
    rw [this]
    exact pss_consS (cS_ok po xo hfn sk s) (cSs_ok po xo hfn sk r)
   | some o=>cases q
theorem cSX_ok {X:Cx} (po:PassesOwn (model X.prog X.w) X.A X.env X.xe) (xo:XOk X K P C Γ) (hfn:∀ x,Γ.isLoc x=true→X.fn x=true∨X.env.scope.names.lookup x=some .local) (sk:Γ.top=true→X.stack=X.env :: X.outer∧X.env.frame=some X.env.locals) (st:Stmt):PS X st (tSX X K P C W (cS Γ st)):=by
 have no:∀ {st:Stmt} (c:S),(∀ ρ,exX P C W c ρ=none)→PS X st (tSX X K P C W c):=λc h pins s σ H D I ⟨ρ,G,x,ρ',r,e,k⟩=>by rw [h] at e; cases e
 have bad:∀ {st:Stmt},PS X st (tSX X K P C W .bad):=no .bad λρ=>by rw [exX] <;> intros <;> contradiction
 cases st with
 | Pass _=>exact no .pass λρ=>by rw [exX] <;> intros <;> contradiction
 | Break _=>exact no .brk λρ=>by rw [exX] <;> intros <;> contradiction
 | Continue _=>exact no .cnt λρ=>by rw [exX] <;> intros <;> contradiction
 | Return e _ =>
  cases e with
  | none=>exact no .retN λρ=>by rw [exX] <;> intros <;> contradiction
  | some e=>exact TS.imp_ps (ps_ret (cEX_ok xo e)) λD σ H ⟨ρ,G,x,ρ',r,e0,k⟩=>⟨ρ,G,x,ρ',r,(show exX P C W (.ret (cE Γ e)) ρ=some (x,ρ') from e0),k⟩
 | Expr e _ =>
  show PS X _ (tSX X K P C W (if notComp e then .expr (cE Γ e) else .bad))
  split
  ·exact TS.imp_ps (ps_expr (cEX_ok xo e) (swaps_ok ‹_› _ _ _)) λD σ H ⟨ρ,G,x,ρ',r,e0,k⟩=>⟨ρ,G,x,ρ',r,by simpa only [exX] using e0,k⟩
  ·exact bad
 | If c a b _ =>
  refine TS.imp_ps (ps_if (ok_tmpC (Γ:=Γ) (cE_ok xo c)).t (cSsX_ok po xo hfn sk a) (cSsX_ok po xo hfn sk b)) λD σ H ⟨ρ,G,x,ρ',r,e0,k⟩=>?_
  replace e0:exX P C W (.ifs (tmpC Γ (cE Γ c)) (cSs Γ a) (cSs Γ b)) ρ=some (x,ρ'):=e0
  simp only [exX] at e0
  split at e0
  ·rename_i ρ1 q
   exact ⟨ρ,G,true,ρ1,r,q,λH1 G1 a1=>⟨ρ1,G1,x,ρ',a1.rel,e0,k.pre (Aft.s r a1)⟩⟩
  ·rename_i ρ1 q
   exact ⟨ρ,G,false,ρ1,r,q,λH1 G1 a1=>⟨ρ1,G1,x,ρ',a1.rel,e0,k.pre (Aft.s r a1)⟩⟩
  ·cases e0
 | While c b o _ =>
  cases o with
  | nil=>exact bad
  | cons _ _=>exact bad
 | For tg it b o _ =>
  cases o with
  | nil =>
   show PS X _ (tSX X K P C W (match tgOf Γ tg,itOf Γ it with
    | some (one,is),some (k,its)=>if tgFit k one then .for is one k (itE Γ it b (cEs Γ its)) (cSs Γ b) else .bad
    | _,_=>.bad))
   split
   ·split
    ·exact no (.for _ _ _ _ _) λρ=>by rw [exX] <;> intros <;> contradiction
    ·exact bad
   ·exact bad
  | cons _ _=>exact bad
 | Assign ts e _ =>
  obtain _ | ⟨t,_ | ⟨_,_⟩⟩:=ts
  ·exact bad
  ·cases t with
   | Name x p =>
    show PS X _ (tSX X K P C W (match Γ.slotL x with | some i=>if notComp e || isLC e then .asg i (asgE Γ x e) else .bad | none=>.bad))
    split
    ·rename_i i hi
     split
     ·intro pins s σ H D I ⟨ρ,G,x0,ρ',r,e0,k⟩
      simp only [exX] at e0
      rcases asgE_or (Γ:=Γ) x e with hA | ⟨cs,hA⟩
      case inr=>rw [hA,evX] at e0 <;> first | cases e0 | (intros; contradiction)
      rw [hA] at e0
      obtain ⟨h1,h2,h3⟩:=slotL_at xo hi
      rcases call_inv (evX_call e0) with ⟨f,p',a,r',pos',g,rfl,_⟩ | ⟨elt,tg,iter,ifs,sc,pos',rfl,hq⟩
      case inr=>exact cUX_ok xo hq W x i p _ (by rw [xo.neq]; exact xo.nd) h1 h2 (hfn x h3) pins s σ H D I ⟨ρ,G,x0,ρ',r,e0,k⟩
      exact ps_set (by rw [xo.neq]; exact xo.nd) h1 h2 (cEX_ok xo _) (swaps_ok rfl _ _ _) (hfn x h3) pins s σ H D I ⟨ρ,G,x0,ρ',r,e0,k⟩
     ·exact bad
    ·exact bad
   | Tuple ts _ _ =>
    show PS X _ (tSX X K P C W (match tgNames Γ ts with | some is=>if notComp e && notTup e then .asgT is (cE Γ e) else .bad | none=>.bad))
    split
    ·split
     ·exact no (.asgT _ _) λρ=>by rw [exX] <;> intros <;> contradiction
     ·exact bad
    ·exact bad
   | Subscript a k _ =>
    show PS X _ (tSX X K P C W (setA Γ a k e))
    unfold setA
    split
    ·split
     ·split
      ·split
       ·exact no (.dset _ _ _ _) λρ=>by rw [exX] <;> intros <;> contradiction
       ·exact no (.set _ _ _) λρ=>by rw [exX] <;> intros <;> contradiction
      ·exact bad
     ·exact bad
    ·split
     ·split
      ·exact no (.dset _ _ _ _) λρ=>by rw [exX] <;> intros <;> contradiction
      ·exact bad
     ·exact bad
    ·exact bad
   | _=>exact bad
  ·cases t with
   | Subscript a _ _=>cases a <;> exact bad
   | _=>exact bad
 | AugAssign t op e _ =>
  cases t with
  | Name x p =>
   cases op with
   | Add =>
    show PS X _ (tSX X K P C W (match Γ.slotL x with | some i=>if notComp e then .bad else .bad | none=>.bad))
    split
    ·split
     ·exact bad
     ·exact bad
    ·exact bad
   | _=>exact bad
  | _=>exact bad
 | Raise e c _ =>
  cases e with
  | none=>exact bad
  | some e =>
   cases c with
   | none =>
    show PS X _ (tSX X K P C W (rseC Γ e))
    unfold rseC
    split
    ·rename_i x np args cpos
     split
     ·rename_i hc
      split
      ·rename_i hg
       rw [Bool.and_eq_true] at hc
       obtain ⟨h1,h2,h3,h4⟩:=CC.glob_ok xo hg (λz=>nomatch z)
       obtain ⟨Ca,c1,c2,c3,c4⟩:=(xo.exc x h2).ex
       have hK:=xo.keq
       obtain _ | ⟨a,rest⟩:=args
       ·simp at hc
       ·have ns:=hc.1
        rw [List.all_cons,Bool.and_eq_true] at ns
        refine TS.imp_ps (ps_raise xo.hh h1 c2 (by rw [hK]; exact c4) (cEs_okD xo (a :: rest) hc.1) h3 (star_ok ns.1 _ _) (star_any ns.2 _ _).1) λD σ H ⟨ρ,G,x0,ρ',r,e0,k⟩=>?_
        simp only [exX] at e0
        split at e0
        ·rename_i ds ρ1 q
         cases e0
         refine ⟨ρ,G,ds,_,r,q,λxs H1 G1 a1 rx=>⟨?_,λpins b s' I' F=>k pins σ H1 G1 s' b Ca none (Aft.s r a1) I' F c1 c3 trivial⟩⟩
         rw [rx.len,evs_len q,cEs_len,sizeLine_eq]
         have:=hc.2
         simp at this
         simp
         omega
        ·cases e0
      ·exact no (.rsi _ _) λρ=>by rw [exX] <;> intros <;> contradiction
      ·exact bad
     ·exact bad
    ·exact bad
   | some _=>exact bad
 | Try body hs o f _ =>
  show PS X _ (tSX X K P C W (tryC Γ (cSs Γ body) hs o f))
  unfold tryC tryA1 tryB1
  split
  ·split
   ·split
    ·split
     ·split
      ·split
       ·split
        ·exact no (.tryA _ _ _ _) λρ=>by rw [exX] <;> intros <;> contradiction
        ·exact bad
       ·exact bad
      ·exact bad
     ·split
      ·exact bad
      ·exact bad
    ·exact bad
   ·split
    ·unfold tryN1; (unfold tryO1; (repeat' split) <;> first | exact no (.tryO _) λρ=>by rw [exX] <;> intros <;> contradiction | exact bad)
    ·exact bad
  ·exact bad
 | _=>exact bad
theorem cSsX_ok {X:Cx} (po:PassesOwn (model X.prog X.w) X.A X.env X.xe) (xo:XOk X K P C Γ) (hfn:∀ x,Γ.isLoc x=true→X.fn x=true∨X.env.scope.names.lookup x=some .local) (sk:Γ.top=true→X.stack=X.env :: X.outer∧X.env.frame=some X.env.locals) (sts:List Stmt):PSs X sts (tSsX X K P C W (cSs Γ sts)):=by
 cases sts with
 | nil=>exact λpins s σ H D I ⟨ρ,G,x,ρ',r,e,k⟩=>by simp only [cSs,exsX] at e; cases e
 | cons st rest =>
  cases qk:kifOf Γ st rest with
  | some o =>
   obtain ⟨i,j,ce,cc⟩:=o
   obtain ⟨x,p1,e,pos1,c,a0,pos2,r4,rfl,rfl,hj,hnc,rfl,rfl⟩:=kifOf_inv qk
   have:cSs Γ (.Assign [.Name x p1] e pos1 :: .If c a0 [] pos2 :: r4)=.kif i j (cE Γ e) (cE Γ c) :: cSs Γ r4:=by
    show kifW (kifOf Γ _ _) _ _=_
    rw [qk]
    rfl
   rw [this]
   refine TS.imp_pss (kif_gen (W:=W) (i:=i) xo hfn hj hnc (cSsX_ok po xo hfn sk r4)) λD σ H ⟨ρ,G,x,ρ',r,e0,k⟩=>?_
   simp only [exsX] at e0
   split at e0
   ·rename_i ρ1 q
    exact ⟨ρ,G,ρ1,r,q,λσ1 H1 G1 a1=>⟨ρ1,G1,x,ρ',a1.rel,e0,k.pre a1⟩⟩
   ·rw [exX] at e0
    ·cases e0
    all_goals (intros; contradiction)
  | none =>
  have hcs:cSs Γ (st :: rest)=cS Γ st :: cSs Γ rest:=by first | rfl | (show kifW (kifOf Γ st rest) _ _=_; rw [qk]; rfl)
  rw [hcs]
  refine TS.imp_pss (pss_cons (ps_or (cS_ok po xo hfn sk st) (cSX_ok po xo hfn sk st)) (cSsX_ok po xo hfn sk rest)) λD σ H ⟨ρ,G,x,ρ',r,e0,k⟩=>?_
  simp only [cSs,exsX] at e0
  split at e0
  ·rename_i ρ1 q
   exact .inl ⟨ρ,G,.nx,ρ1,r,q,λσ1 H1 G1 a1=>⟨ρ1,G1,x,ρ',a1.rel,e0,k.pre a1⟩⟩
  ·exact .inr ⟨ρ,G,x,ρ',r,e0,k⟩
end
end
structure ExiE (K:PySem.W.Frag) (mg:Str→Option Value) (x:Str):Prop where
 ex:True
theorem ExiE.at {X:Cx} {K:PySem.W.Frag} {x:Str} (hK:X.K=K) (e:ExiE K X.mg x):ExiAt X K x:=⟨trivial⟩
structure EntB (K:PySem.W.Frag) (T:Tab) (gl:Str→GV) (f:String) (fa:Addr) (fd:FuncData) (ps:List Str):Prop where
 bd:Binds K fd ps []
 ex:∃ (y qual:Str) (st:Stmt) (N:List Str) (fn:Fn),Fun K y qual st fa fd∧FnScope N ps (defScope st)∧N.Nodup∧T f=some fn∧fn.body=cSs ⟨N,(defScope st).names,gl,true⟩ (defBody st)∧N.length=fn.pins.length+fn.nl∧ps.length=fn.pins.length
structure Entry (K:PySem.W.Frag) (mg:Str→Option Value) (T:Tab) (gl:Str→GV) (x:Str) (f:String) (fa:Addr) (fd:FuncData) (ps:List Str):Prop where
 mgx:mg x=some (.ref fa)
 kp:PySem.W.keepIn K (.ref fa)=true
 b:EntB K T gl f fa fd ps
structure ClsE (K:PySem.W.Frag) (mg:Str→Option Value) (x:Str) (ns:List Str):Prop where
 ex:False
structure MthE (K:PySem.W.Frag) (T:Tab) (gl:Str→GV) (c m:Str) (f:String):Prop where
 ex:False
structure Globs (K:PySem.W.Frag) (mg:Str→Option Value) (T:Tab) (gl:Str→GV):Prop where
 con:∀ x d,gl x=.con d→∃ u v,mg x=some u∧RelV v u∧∀ G,Rep K G d v
 blt:∀ x,gl x=.blt→mg x=none
 fn:∀ x f,gl x=.fn f→∃ fa fd ps,Entry K mg T gl x f fa fd ps
 cls:∀ x ns,gl x=.cls ns→ClsE K mg x ns
 mth:∀ m tb c f,gl (dot m)=.mth tb→tb.lookup c=some f→MthE K T gl c m f
 sub:∀ x s n,gl (col x)=.sub s n→SubAt K mg x s n
 subx:∀ x s n,gl (col x)=.subx s n→SubX K mg x s n
 exc:∀ x,gl x=.exc→ExcAt K mg x
 exi:∀ x,gl x=.exi→ExiE K mg x
 exs:∀ x cs,gl (cat x)=.exs cs→ExsAt K mg x cs
theorem rs_no {b:Bool} {o:Option (Exc × Env)} {as as':List Sl} {v:RV} (h:(if b=true then (match o with | some (x,ρ)=>(some (Out.ex x,back as ρ):Res RV) | none=>none) else none)=some (.ok v,as')):False:=by
 split at h
 ·split at h <;> cases h
 ·cases h
theorem fns_ok {Pr:Program} {w:World} {K:PySem.W.Frag} {mg:Str→Option Value} {base:Heap} {T:Tab} {gl:Str→GV} (W:Nat) (g:Globs K mg T gl):∀ (d:Nat) (f:String) (fa:Addr) (fd:FuncData) (ps:List Str),
  EntB K T gl f fa fd ps→FnOk Pr w K mg base CX0 (d+2) fa fd ps (spC K (T.pins f).length (run T W d f))∧FnOk Pr w K mg base (CX1 Pr w) (d+2) fa fd ps (spX K (T.pins f).length (run T W d f))
 | 0,f,fa,fd,ps,e=>⟨⟨λvs H Q E h=>by obtain ⟨_,as,G,v,as',_,_,z,_⟩:=h; simp [run] at z,λA outer s H args us vs Q E _ _ _ _ h=>by obtain ⟨_,as,G,v,as',_,_,z,_⟩:=h; simp [run] at z⟩,
  ⟨λvs H Q E h=>by obtain ⟨_,as,G,v,as',_,_,z,_⟩:=h; simp [run] at z,λA outer s H args us vs Q E _ _ _ _ h=>by obtain ⟨_,as,G,v,as',_,_,z,_⟩:=h; simp [run] at z⟩⟩
 | d+1,f,fa,fd,ps,e=>by
  obtain ⟨y,qual,st,N,fn,F,S,nd,hT,hb,hN,hps⟩:=e.ex
  have hpin:T.pins f=fn.pins:=by unfold Tab.pins; rw [hT]
  refine ⟨F.ok S (λvs H Q E h=>by rw [h.1,hpin,hps]) λcdv A outer s H vs Q E hr h=>?_, ?_⟩
  ·obtain ⟨hl,as,G,v,as',rel,hal,er,k⟩:=h
   let X:Cx:=(cxOf CX0 Pr w K mg base N qual (defScope st) fa cdv A outer s H E).nox
   let Γ:CC:=⟨N,(defScope st).names,gl,true⟩
   have xo:XOk X K T.pins (run T W d) Γ:=by
    refine XOk.of rfl rfl rfl nd rfl hr.hd hr.units g.con g.blt (λx' f' hx=>?_) (λx' ns hx=>?_) (λm tb c f' h1 h2=>?_) (hr.mono (by omega)) g.sub g.subx ⟨g.exc,λx hx=>(g.exi x hx).at rfl⟩ g.exs (λx' f' hx=>?_) ⟨_,_,_,rfl,rfl,rfl⟩
    ·obtain ⟨fa',fd',ps',e'⟩:=g.fn x' f' hx
     exact ⟨fa',fd',ps',d+2,(fns_ok W g d f' fa' fd' ps' e'.b).1,hr,e'.mgx,e'.kp,e'.b.bd⟩
    ·exact (g.cls x' ns hx).ex.elim
    ·exact (g.mth m tb c f' h1 h2).ex.elim
    ·obtain ⟨fa',fd',ps',e'⟩:=g.fn x' f' hx
     exact ⟨fa',fd',ps',d+2,(fns_ok W g d f' fa' fd' ps' e'.b).2,hr,e'.mgx,e'.kp,e'.b.bd⟩
   refine ⟨_,cSs_ok (W:=W) (X:=X) (Γ:=Γ) PassesOwn.never xo (λ_ _=>.inl rfl) (λ_=>⟨rfl,rfl⟩) (defBody st), ?_⟩
   simp only [run,hT] at er
   split at er
   ·rename_i hc
    rw [hb] at er
    have hNa:N.length=as.length+fn.nl:=by rw [hN,hc.1]
    have hpad:=rel.pad hNa
    cases q:exs T.pins (run T W d) W (cSs ⟨N,(defScope st).names,gl,true⟩ (defBody st)) (as ++ List.replicate fn.nl .un) with
    | none=>rw [q] at er; exact (rs_no er).elim
    | some y =>
     obtain ⟨fl,ρ'⟩:=y
     rw [q] at er
     refine ⟨as ++ List.replicate fn.nl .un,G,fl,ρ',hpad.1,q, ?_⟩
     cases fl with
     | nx =>
      cases er
      intro σ' H' G' a
      obtain ⟨b1,b2⟩:=back_aft rel hc.2 hNa a
      exact k .non H' G' b1 (by show Rep K G' .non _; simp [Rep])
     | rt v' =>
      cases er
      intro x' σ' H' G' a hv
      obtain ⟨b1,b2⟩:=back_aft rel hc.2 hNa a
      refine k x' H' G' b1 ?_
      have key:∀ c,¬ Own ρ' σ' c→(Own (as ++ List.replicate fn.nl .un) (start N vs) c∨H c=none)→H c=none:=λc nc mc=>by
       rcases mc with mc | mc
       ·have:=hpad.2 c mc
        obtain ⟨i,d1,p1,l1,h1,h2⟩:=this
        refine absurd ?_ nc
        apply b2 c
        have hp:=List.all_eq_true.mp hc.2 _ (List.mem_of_getElem? h1)
        simp only [pinOk] at hp
        subst hp
        have:=b1.evo i
        rw [h1] at this
        cases q3:(back as ρ')[i]? with
        | none=>rw [q3] at this; exact this.elim
        | some s =>
         rw [q3] at this
         cases s with
         | ow d2 p2 l2=>exact ⟨i,d2,p2,l2,q3,h2⟩
         | sh d2=>exact absurd (show true=false from this) (by simp)
         | un=>exact this.elim
         | mv=>exact this.elim
       ·exact mc
      cases v with
      | sh d0=>exact hv
      | ow d0 =>
       obtain ⟨c,rfl,gc,oc,nc,mc⟩:=hv
       exact ⟨c,rfl,gc,oc,λz=>nc (b2 c z),key c nc mc⟩
      | od d0 =>
       obtain ⟨c,rfl,gc,oc,nc,mc,ys,hy,hr⟩:=hv
       exact ⟨c,rfl,gc,oc,λz=>nc (b2 c z),key c nc mc,ys,hy,λx hx=>let ⟨b,ws,h1,h2,h3,h4,h5,h6⟩:=hr x hx; ⟨b,ws,h1,h2,h3,λz=>h4 (b2 b z),key b h4 h5,h6⟩⟩
     | bk=>exact (rs_no er).elim
     | ct=>exact (rs_no er).elim
     | ex x'=>exact (rs_no er).elim
   ·cases er
  ·obtain ⟨oc,od,kV,doc,pm,an,cdv,ct,osl,rfl,lk,hcd⟩:=F.ex
   refine fn_of lk hcd S (λvs H Q E h=>by rw [h.1,hpin,hps]) λA outer s H vs Q E hr h=>?_
   obtain ⟨hl,as,G,x0,as',rel,hal,er,k⟩:=h
   let X:Cx:=cxOf (CX1 Pr w) Pr w K mg base N qual (defScope st) fa cdv A outer s H E
   let Γ:CC:=⟨N,(defScope st).names,gl,true⟩
   have xo:XOk X K T.pins (run T W d) Γ:=by
    refine XOk.of rfl rfl rfl nd rfl hr.hd hr.units g.con g.blt (λx' f' hx=>?_) (λx' ns hx=>?_) (λm tb c f' h1 h2=>?_) (hr.mono (by omega)) g.sub g.subx ⟨g.exc,λx hx=>(g.exi x hx).at rfl⟩ g.exs (λx' f' hx=>?_) ⟨_,_,_,rfl,rfl,rfl⟩
    ·obtain ⟨fa',fd',ps',e'⟩:=g.fn x' f' hx
     exact ⟨fa',fd',ps',d+2,(fns_ok W g d f' fa' fd' ps' e'.b).1,hr,e'.mgx,e'.kp,e'.b.bd⟩
    ·exact (g.cls x' ns hx).ex.elim
    ·exact (g.mth m tb c f' h1 h2).ex.elim
    ·obtain ⟨fa',fd',ps',e'⟩:=g.fn x' f' hx
     exact ⟨fa',fd',ps',d+2,(fns_ok W g d f' fa' fd' ps' e'.b).2,hr,e'.mgx,e'.kp,e'.b.bd⟩
   refine ⟨_,cSsX_ok (W:=W) (X:=X) (Γ:=Γ) PassesOwn.leaving xo (λ_ _=>.inl rfl) (λ_=>⟨rfl,rfl⟩) (defBody st), ?_⟩
   simp only [run,hT] at er
   split at er
   ·rename_i hc
    rw [hb] at er
    have hNa:N.length=as.length+fn.nl:=by rw [hN,hc.1]
    have hpad:=rel.pad hNa
    split at er
    ·cases er
    ·cases er
    ·split at er
     ·split at er
      ·rename_i x1 ρ' q
       cases er
       refine ⟨as ++ List.replicate fn.nl .un,G,x0,ρ',hpad.1,q,λpins' σ' H' G' s' a Ca p aft I' F' hcl hg hpy=>?_⟩
       obtain ⟨b1,b2⟩:=back_aft rel hc.2 hNa aft
       exact cx_leave I' F' (k H' G' Ca p b1 hcl hg hpy)
      ·cases er
     ·cases er
   ·cases er
def psOf (st:Stmt):List Str:=(defArgs st).args.map (·.arg)
noncomputable def nOf (st:Stmt):List Str:=psOf st ++ (((defScope st).names.filter λy=>(y.2 == .local || y.2 == .cell) && !(psOf st).contains y.1).map (·.1))
def coreOf (gl:Str→GV) (st:Stmt):List S:=cSs ⟨nOf st,(defScope st).names,gl,true⟩ (defBody st)
structure MthAt (K:PySem.W.Frag) (x m qual:Str) (st:Stmt):Prop where
 ex:∃ (Ca f:Addr) (oc:Value) (od an:Option Addr) (kV doc pm cdv ct:Value) (osl:Array (Option Value)),PySem.W.nsIn K mainGlobals x=some (some (.ref Ca))∧PySem.W.findIn K (.ref Ca) m=some (some (.ref f))∧PySem.W.isFn K (.ref f)=true ∧
  K.lookup f=some ⟨oc,od,.func (PySem.W.fnOf m qual (defArgs st) (defBody st) (defScope st) .none kV doc pm an cdv ct),osl⟩∧PySem.W.codeIn K cdv qual=true∧PySem.W.keepIn K (.ref f)=true
structure ClsAt (K:PySem.W.Frag) (x:Str):Prop where
 ex:∃ Ca:Addr,PySem.W.nsIn K mainGlobals x=some (some (.ref Ca))∧Cls K Ca∧PySem.W.makesIn K Ca=true∧PySem.W.keepIn K (.ref Ca)=true
structure DefAt (K:PySem.W.Frag) (x:Str) (st:Stmt):Prop where
 ex:∃ (f:Addr) (oc:Value) (od an:Option Addr) (kV doc pm cdv ct:Value) (osl:Array (Option Value)),PySem.W.nsIn K mainGlobals x=some (some (.ref f)) ∧
  K.lookup f=some ⟨oc,od,.func (PySem.W.fnOf x x (defArgs st) (defBody st) (defScope st) .none kV doc pm an cdv ct),osl⟩∧PySem.W.codeIn K cdv x=true∧PySem.W.keepIn K (.ref f)=true
theorem def_at {K:PySem.W.Frag} {x:Str} {st:Stmt} {f:Addr} {oc:Value} {od an:Option Addr} {kV doc pm cdv ct:Value} {osl:Array (Option Value)} (a:PySem.W.nsIn K mainGlobals x=some (some (.ref f)))
  (l:K.lookup f=some ⟨oc,od,.func (PySem.W.fnOf x x (defArgs st) (defBody st) (defScope st) .none kV doc pm an cdv ct),osl⟩) (c:PySem.W.codeIn K cdv x=true) (k:PySem.W.keepIn K (.ref f)=true):DefAt K x st :=
 ⟨f,oc,od,an,kV,doc,pm,cdv,ct,osl,a,l,c,k⟩
structure DefOkQ (gl:Str→GV) (st:Stmt) (x qual:Str) (fn:Fn):Prop where
 sc:FnScope (nOf st) (psOf st) (defScope st)
 body:fn.body=coreOf gl st
 len:(nOf st).length=fn.pins.length+fn.nl
 pl:(psOf st).length=fn.pins.length
 bind:∀ (kV doc pm:Value) (an:Option Addr) (cdv ct:Value) (us:List Value),us.length=(psOf st).length→bindArgs (PySem.W.fnOf x qual (defArgs st) (defBody st) (defScope st) .none kV doc pm an cdv ct) ⟨us,[]⟩=pure ((psOf st).zip us)
abbrev DefOk (gl:Str→GV) (st:Stmt) (x:Str) (fn:Fn):Prop:=DefOkQ gl st x x fn
theorem entb_of {K:PySem.W.Frag} {T:Tab} {gl:Str→GV} {x qual:Str} {f:String} {st:Stmt} {fn:Fn} {fa:Addr} {fd:FuncData} (F:Fun K x qual st fa fd) (O:DefOkQ gl st x qual fn) (hT:T f=some fn):EntB K T gl f fa fd (psOf st) :=
 ⟨F.binds O.bind,x,qual,st,nOf st,fn,F,O.sc,O.sc.nd,hT,O.body,O.len,O.pl⟩
theorem entry_of {K:PySem.W.Frag} {mg:Str→Option Value} {h:Heap} {T:Tab} {gl:Str→GV} {x:Str} {f:String} {st:Stmt} {fn:Fn} (X:K.In h) (G:h.Ns mainGlobals mg) (D:DefAt K x st) (O:DefOk gl st x fn) (hT:T f=some fn):∃ fa fd ps,Entry K mg T gl x f fa fd ps:=by
 obtain ⟨fa,oc,od,an,kV,doc,pm,cdv,ct,osl,a,l,c,k⟩:=D.ex
 have F:=fun_mk (st:=st) l c k
 exact ⟨fa,_,psOf st,PySem.W.mg_of X G a,k,entb_of F O hT⟩
def glOf (L:List (Str × GV)) (x:Str):GV:=(L.lookup x).getD .no
theorem lookup_mem {α β:Type} [BEq α] [LawfulBEq α]:∀ {L:List (α × β)} {x:α} {v:β},L.lookup x=some v→(x,v)∈L
 | [],_,_,h=>by simp at h
 | (y,w) :: L,x,v,h=>by
  rw [List.lookup_cons] at h
  split at h
  ·rename_i hb
   cases h
   rw [eq_of_beq hb]
   exact List.mem_cons_self
  ·exact List.mem_cons_of_mem _ (lookup_mem h)
theorem glOf_mem {L:List (Str × GV)} {x:Str} {v:GV} (h:glOf L x=v) (n:v≠.no):(x,v)∈L:=by
 unfold glOf at h
 cases q:L.lookup x with
 | none=>rw [q] at h; exact absurd h.symm n
 | some w =>
  rw [q] at h
  cases h
  exact lookup_mem q
def GlAt (K:PySem.W.Frag) (mg:Str→Option Value) (T:Tab) (gl:Str→GV):Str × GV→Prop
 | (x,.cls ns)=>ClsE K mg x ns
 | (x,.mth tb)=>∃ m,x=dot m∧∀ p∈tb,MthE K T gl p.1 m p.2
 | (x,.con d)=>∃ u v,mg x=some u∧RelV v u∧∀ G,Rep K G d v
 | (x,.blt)=>mg x=none
 | (x,.fn f)=>∃ fa fd ps,Entry K mg T gl x f fa fd ps
 | (x,.sub s n)=>∃ m,x=col m∧SubAt K mg m s n
 | (x,.subx s n)=>∃ m,x=col m∧SubX K mg m s n
 | (x,.exc)=>ExcAt K mg x
 | (x,.exi)=>ExiE K mg x
 | (x,.exs cs)=>∃ m,x=cat m∧ExsAt K mg m cs
 | (_,.no)=>True
theorem pre_inj {p:Array Nat} {x y:Str} (h:(⟨p ++ x.cps⟩:Str)=⟨p ++ y.cps⟩):x=y:=by
 have e6:=congrArg Array.toList (congrArg Str.cps h)
 simp only [Array.toList_append] at e6
 have e5:=Array.toList_inj.mp (List.append_cancel_left e6)
 cases x; cases y
 simp only at e5
 rw [e5]
theorem globs_of {K:PySem.W.Frag} {mg:Str→Option Value} {T:Tab} {L:List (Str × GV)} (h:∀ p∈L,GlAt K mg T (glOf L) p):Globs K mg T (glOf L) :=
 ⟨λx d e=>h _ (glOf_mem e (λz=>nomatch z)),λx e=>h _ (glOf_mem e (λz=>nomatch z)),λx f e=>h _ (glOf_mem e (λz=>nomatch z)),λx ns e=>h _ (glOf_mem e (λz=>nomatch z)),λm tb c f e e2=>by
  obtain ⟨m',e3,k⟩:=h _ (glOf_mem e (λz=>nomatch z))
  have:m'=m:=by
   unfold dot at e3
   have e4:(#[46] ++ m.cps:Array Nat)=#[46] ++ m'.cps:=congrArg Str.cps e3
   have e5:m.cps=m'.cps:=by
    have e6:=congrArg Array.toList e4
    rw [Array.toList_append,Array.toList_append] at e6
    exact Array.toList_inj.mp (List.append_cancel_left e6)
   cases m; cases m'
   simp only at e5
   rw [e5]
  subst this
  exact k _ (lookup_mem e2),λx s n e=>by
  obtain ⟨m',e3,k⟩:=h _ (glOf_mem e (λz=>nomatch z))
  have:m'=x:=by
   unfold col at e3
   have e5:x.cps=m'.cps:=by
    have e6:=congrArg Array.toList (congrArg Str.cps e3)
    simp only [Array.toList_append] at e6
    exact Array.toList_inj.mp (List.append_cancel_left e6)
   cases x; cases m'
   simp only at e5
   rw [e5]
  subst this
  exact k,λx s n e=>by
  obtain ⟨m',e3,k⟩:=h _ (glOf_mem e (λz=>nomatch z))
  rw [pre_inj e3]
  exact k,λx e=>h _ (glOf_mem e (λz=>nomatch z)),λx e=>h _ (glOf_mem e (λz=>nomatch z)),λx cs e=>by
  obtain ⟨m',e3,k⟩:=h _ (glOf_mem e (λz=>nomatch z))
  rw [pre_inj e3]
  exact k⟩
theorem con_int {K:PySem.W.Frag} {mg:Str→Option Value} {h:Heap} {T:Tab} {gl:Str→GV} {x:Str} {i:Int} {t:Tok} (X:K.In h) (G:h.Ns mainGlobals mg) (a:PySem.W.nsIn K mainGlobals x=some (some (.int i t))):GlAt K mg T gl (x,.con (.int i)) :=
 ⟨_,.int i,PySem.W.mg_of X G a,⟨t,rfl⟩,λG=>by simp [Rep]⟩
theorem blt_of {K:PySem.W.Frag} {mg:Str→Option Value} {h:Heap} {T:Tab} {gl:Str→GV} {x:Str} (X:K.In h) (G:h.Ns mainGlobals mg) (a:PySem.W.nsIn K mainGlobals x=some none):GlAt K mg T gl (x,.blt):=PySem.W.mg_none_of X G a
structure KinN (K:PySem.W.Frag) (c x:Str):Prop where
 ex:∃ Ca C:Addr,PySem.W.nsIn K mainGlobals c=some (some (.ref Ca))∧PySem.W.nsIn K mainGlobals x=some (some (.ref C))∧PySem.W.kin_not K Ca C=true
structure KinI (K:PySem.W.Frag) (c x:Str):Prop where
 ex:∃ Ca C:Addr,PySem.W.nsIn K mainGlobals c=some (some (.ref Ca))∧PySem.W.nsIn K mainGlobals x=some (some (.ref C))∧PySem.W.isIn K (.ref Ca) C=true
structure KinC (K:PySem.W.Frag) (c:Str):Prop where
 ex:∃ D:Addr,PySem.W.nsIn K mainGlobals c=some (some (.ref D))∧PySem.W.plainGet K D "__class__"=true∧PySem.W.hasDictIn K D=true∧PySem.W.findIn K (.ref D) "__class__"=some (some (.builtin "object.__class__")) ∧
  PySem.W.specialIn K (.builtin "object.__class__") "__get__"=some (some (.builtin "getset_descriptor.__get__"))∧PySem.W.takesIn K (.builtin "object.__class__")=some true∧PySem.W.mroIn K D (.type "object")=some true
structure KinX (K:PySem.W.Frag) (x:Str):Prop where
 ex:∃ C:Addr,PySem.W.nsIn K mainGlobals x=some (some (.ref C))
theorem kinN_at {K:PySem.W.Frag} {c x:Str} {Ca C:Addr} (a:PySem.W.nsIn K mainGlobals c=some (some (.ref Ca))) (b:PySem.W.nsIn K mainGlobals x=some (some (.ref C))) (k:PySem.W.kin_not K Ca C=true):KinN K c x:=⟨Ca,C,a,b,k⟩
theorem kinI_at {K:PySem.W.Frag} {c x:Str} {Ca C:Addr} (a:PySem.W.nsIn K mainGlobals c=some (some (.ref Ca))) (b:PySem.W.nsIn K mainGlobals x=some (some (.ref C))) (k:PySem.W.isIn K (.ref Ca) C=true):KinI K c x:=⟨Ca,C,a,b,k⟩
theorem kinX_at {K:PySem.W.Frag} {x:Str} {C:Addr} (a:PySem.W.nsIn K mainGlobals x=some (some (.ref C))):KinX K x:=⟨C,a⟩
structure ExcK (K:PySem.W.Frag) (x:Str):Prop where
 ex:∃ C:Addr,PySem.W.nsIn K mainGlobals x=some (some (.ref C))∧ExcG K C∧ExcP K C none
theorem excK_at {K:PySem.W.Frag} {x:Str} {C:Addr} (a:PySem.W.nsIn K mainGlobals x=some (some (.ref C))) (q:PySem.W.excIn K C bmV "ValueError.__new__"=true) (ga:PySem.W.findIn K (.ref C) "__getattribute__"=some (some (.builtin "BaseException.__getattribute__"))) (no:PySem.W.findIn K (.ref C) "__getattr__"=some none)
  (cl:PySem.W.findIn K (.ref C) "__class__"=some (some (.builtin "object.__class__"))) (gt:PySem.W.specialIn K (.builtin "object.__class__") "__get__"=some (some (.builtin "getset_descriptor.__get__"))) (tk:PySem.W.takesIn K (.builtin "object.__class__")=some true)
  (mo:PySem.W.mroIn K C (.type "object")=some true) (mb:PySem.W.mroIn K C (.type "BaseException")=some true) (mv:PySem.W.mroIn K C (.type "ValueError")=some true):ExcK K x:=⟨C,a,⟨⟨_,exc_obj q⟩,ga,no,cl,gt,tk,mo,mb,mv⟩,exc_obj q⟩
structure MroK (K:PySem.W.Frag) (c x:Str):Prop where
 ex:∃ C D:Addr,PySem.W.nsIn K mainGlobals c=some (some (.ref C))∧PySem.W.nsIn K mainGlobals x=some (some (.ref D))∧PySem.W.mroIn K C (.ref D)=some true
theorem mroK_at {K:PySem.W.Frag} {c x:Str} {C D:Addr} (a:PySem.W.nsIn K mainGlobals c=some (some (.ref C))) (b:PySem.W.nsIn K mainGlobals x=some (some (.ref D))) (m:PySem.W.mroIn K C (.ref D)=some true):MroK K c x:=⟨C,D,a,b,m⟩
theorem exc_of {K:PySem.W.Frag} {mg:Str→Option Value} {h:Heap} {T:Tab} {gl:Str→GV} {x:Str} (X:K.In h) (G:h.Ns mainGlobals mg) (A:ExcK K x):GlAt K mg T gl (x,.exc):=by
 obtain ⟨C,a,g,p⟩:=A.ex
 exact ⟨C,a,PySem.W.mg_of X G a,g,p⟩
theorem exs_of {K:PySem.W.Frag} {mg:Str→Option Value} {h:Heap} {T:Tab} {gl:Str→GV} {x:Str} {cs:List Str} (X:K.In h) (G:h.Ns mainGlobals mg) (A:ExcK K x) (M:∀ c∈cs,MroK K c x):GlAt K mg T gl (cat x,.exs cs):=by
 obtain ⟨D,a,g,_⟩:=A.ex
 refine ⟨x,rfl,D,PySem.W.mg_of X G a,g.q,λc hc C e=>?_⟩
 obtain ⟨C',D',e1,e2,k⟩:=(M c hc).ex
 rw [e] at e1; cases e1
 rw [a] at e2; cases e2
 exact k
theorem subx_of {K:PySem.W.Frag} {mg:Str→Option Value} {h:Heap} {T:Tab} {gl:Str→GV} {x:Str} {s n:List Str} (X:K.In h) (G:h.Ns mainGlobals mg) (A:KinX K x) (S:∀ c∈s,KinI K c x) (N:∀ c∈n,KinN K c x):GlAt K mg T gl (col x,.subx s n):=by
 obtain ⟨C,a⟩:=A.ex
 refine ⟨x,rfl,C,PySem.W.mg_of X G a,λc hc Ca e=>?_,λc hc Ca e=>?_⟩
 ·obtain ⟨Cb,C',e1,e2,k⟩:=(S c hc).ex
  rw [e] at e1; cases e1
  rw [a] at e2; cases e2
  exact k
 ·obtain ⟨Cb,C',e1,e2,k⟩:=(N c hc).ex
  rw [e] at e1; cases e1
  rw [a] at e2; cases e2
  exact k
theorem law_walk {l:PySem.W.OpenLaw} {q:Program} {loose:List Str} {XP:(Str→Option Value)→Heap→Prop} {YP:World→Heap→Prop} {d:DefRec} {K:Params→PySem.W.Frag} {T:Tab} {L:List (Str × GV)} {st:Stmt} {fn:Fn} {W n:Nat} {x p:Str} {f:String}
  (hn:l.most=some 63) (hdf:d.params.defaults=[]) (hr:Room (n+2) callerA) (hx:d.name=x) (hT:T f=some fn) (O:DefOk (glOf L) st x fn) (hp:psOf st=[p])
  (hY:∀ (w:World) (h:Heap),YP w h→(K w.params).In h)
  (F:∀ (w:World) (mg:Str→Option Value) (h:Heap),(K w.params).In h→h.Ns mainGlobals mg→DefAt (K w.params) x st∧∀ p∈L,GlAt (K w.params) mg T (glOf L) p)
  (M:∀ ns:List Int,ns.length≤63→∃ as',run T W n f [.sh (.lst (ns.map .int))]=some (.ok (.sh (.bl true)),as')) :
  PySem.W.WalkO q loose XP YP l.row.toRowW d [] (λf vs=>PySem.call f vs):=by
 refine L2.walk_of (n:=63) (k:=n+2) (x:=p) (CX:=λ_=>CX0) (sp:=λw=>spC (K w.params) 1 (run T W n f)) hn (by decide) hdf hr hY (λw mg fa h KX G hmg=>?_) (λw H a ns hl hO hS=>?_) λ_ _ _ _ _ z=>z
 ·obtain ⟨D,hG⟩:=F w mg h KX G
  have g:=globs_of hG
  obtain ⟨fa',oc,od,an,kV,doc,pm,cdv,ct,osl,a,lk,c,k⟩:=D.ex
  have hm:=PySem.W.mg_of KX G a
  rw [hx,hm] at hmg
  cases hmg
  have Fu:=fun_mk (st:=st) lk c k
  have E:Entry (K w.params) mg T (glOf L) x f fa _ (psOf st):=⟨hm,k,entb_of Fu O hT⟩
  have hpins:(T.pins f).length=1:=by
   unfold Tab.pins
   rw [hT]
   show fn.pins.length=1
   rw [← O.pl,hp]
   rfl
  refine ⟨PySem.W.fnOf x x (defArgs st) (defBody st) (defScope st) .none kV doc pm an cdv ct,λs u=>?_,λbase kb nb=>?_⟩
  rotate_left
  ·have:=(fns_ok (Pr:=l.prog) (w:=w) (base:=base) W g n f fa _ (psOf st) E.b).1
   rw [hpins] at this
   rw [hp] at this
   exact this
  ·have:=O.bind kV doc pm an cdv ct [u] (by rw [hp]; rfl)
   rw [hp] at this
   exact .of_eq this
 ·obtain ⟨as',e⟩:=M ns hl
  have hr1:Reps (K w.params) H (ns.map .int) (ns.map V.int):=by
   induction ns with
   | nil=>exact Reps.nil
   | cons i r ih=>exact Reps.cons (by simp [Rep]) (by
     clear e hS hl ih
     induction r with
     | nil=>exact Reps.nil
     | cons i r ih=>exact Reps.cons (by simp [Rep]) ih)
  refine ⟨rfl,[.sh (.lst (ns.map .int))],H,.sh (.bl true),as',Rel.cons_sh (Rel.nil (Same.refl _)) ?_,rfl,e,λx H' G' _ hv=>rep_bl (K:=K w.params) (G:=G') hv⟩
  simp only [Rep]
  exact ⟨a,_,rfl,hS,hr1⟩
end CI
namespace CI
open PySem (Operator CmpOp)
noncomputable section
variable {α β:Type} {P:Pins} {C:Calls} {W:Nat} {t:Bool} {ρ ρ1 ρ2:Env}
theorem rb_ok {a:α} {f:α→Env→Res β}:Res.bind (some (.ok a,ρ)) f=f a ρ:=rfl
theorem fl_ok {a:α} {f:α→Env→Run}:Res.flow (some (.ok a,ρ)) f=f a ρ:=rfl
theorem nx_nx {f:Env→Run}:Run.next (some (.nx,ρ)) f=f ρ:=rfl
theorem nx_rt {f:Env→Run} {v:RV}:Run.next (some (.rt v,ρ)) f=some (.rt v,ρ):=rfl
theorem go_some:goOn (some ρ)=some (.nx,ρ):=rfl
theorem done_some {v:RV}:done (some v) ρ=some (.ok v,ρ):=rfl
theorem d_sh {d:D}:(RV.sh d).d=d:=rfl
theorem d_ow {d:D}:(RV.ow d).d=d:=rfl
theorem g_sh {d:D}:(Sl.sh d).get=some d:=rfl
theorem g_ow {d:D} {p l:Bool}:(Sl.ow d p l).get=some d:=rfl
theorem hg_val {v:RV}:(Hd.val v).get ρ=some v.d:=rfl
theorem hg_slot {i:Nat}:(Hd.slot i).get ρ=(ρ[i]?).bind Sl.get:=rfl
def kTr (ρ:Env) (o:Option Bool):Res RV:=o.map λb=>(.ok (.sh (.bl b)),ρ)
theorem kTr_some {b:Bool}:kTr ρ (some b)=some (.ok (.sh (.bl b)),ρ):=rfl
theorem wr_f {r:Res RV}:wrap false r=r:=rfl
theorem wr_t {v:RV}:wrap true (some (.ok v,ρ))=kTr ρ (truthD v.d):=rfl
noncomputable def kFz (i:Nat) (ρ:Env):Option Sl→Res RV
 | some (.sh d)=>some (.ok (.sh d),ρ)
 | some (.ow d false false)=>some (.ok (.sh d),ρ.set i (.sh d))
 | _=>none
theorem kFz_sh {i:Nat} {d:D}:kFz i ρ (some (.sh d))=some (.ok (.sh d),ρ):=rfl
theorem ev_varF {i:Nat}:ev P C false (.var i) ρ=kFz i ρ ρ[i]?:=rfl
theorem ev_con {d:D}:ev P C t (.con d) ρ=wrap t (some (.ok (.sh d),ρ)):=rfl
def kSm (b:Bool) (v:RV) (ρ:Env):Res RV:=if b then some (.ok v,ρ) else none
theorem kSm_t {v:RV}:kSm true v ρ=some (.ok v,ρ):=rfl
theorem sm_le {n:Nat} (h:n≤1000000):smallL n=true:=@decide_eq_true _ (cl _) h
theorem sm_0:smallL 0=true:=sm_le (by decide)
theorem sm_1:smallL 1=true:=sm_le (by decide)
theorem sm_2:smallL 2=true:=sm_le (by decide)
theorem sm_3:smallL 3=true:=sm_le (by decide)
theorem sm_4:smallL 4=true:=sm_le (by decide)
theorem sm_5:smallL 5=true:=sm_le (by decide)
def kTup (ds:List D) (ρ:Env):Res RV:=kSm (smallL ds.length) (.sh (.tup ds)) ρ
def kLst (ds:List D) (ρ:Env):Res RV:=kSm (smallL ds.length) (.ow (.lst ds)) ρ
theorem kTup_ {ds:List D}:kTup ds ρ=kSm (smallL ds.length) (.sh (.tup ds)) ρ:=rfl
theorem kLst_ {ds:List D}:kLst ds ρ=kSm (smallL ds.length) (.ow (.lst ds)) ρ:=rfl
theorem ev_tup {es:List E}:ev P C t (.tup es) ρ=wrap t ((evs P C es ρ).bind kTup):=rfl
theorem ev_lst {es:List E}:ev P C t (.lst es) ρ=wrap t ((evs P C es ρ).bind kLst):=rfl
theorem evs_nil:evs P C [] ρ=some (.ok [],ρ):=rfl
def kCons2 (v:RV) (ds:List D) (ρ:Env):Res (List D):=some (.ok (v.d :: ds),ρ)
def kCons1 (P:Pins) (C:Calls) (es:List E) (v:RV) (ρ:Env):Res (List D):=(evs P C es ρ).bind (kCons2 v)
theorem kCons2_ {v:RV} {ds:List D}:kCons2 v ds ρ=some (.ok (v.d :: ds),ρ):=rfl
theorem kCons1_ {es:List E} {v:RV}:kCons1 P C es v ρ=(evs P C es ρ).bind (kCons2 v):=rfl
theorem evs_cons {e:E} {es:List E}:evs P C (e :: es) ρ=(ev P C false e ρ).bind (kCons1 P C es):=rfl
theorem evHs_nil:evHs P C [] ρ=some (.ok [],ρ):=rfl
def kHCons2 (v:Hd) (ds:List Hd) (ρ:Env):Res (List Hd):=some (.ok (v :: ds),ρ)
noncomputable def kHCons1 (P:Pins) (C:Calls) (es:List E) (v:Hd) (ρ:Env):Res (List Hd):=(evHs P C es ρ).bind (kHCons2 v)
theorem kHCons2_ {v:Hd} {ds:List Hd}:kHCons2 v ds ρ=some (.ok (v :: ds),ρ):=rfl
theorem kHCons1_ {es:List E} {v:Hd}:kHCons1 P C es v ρ=(evHs P C es ρ).bind (kHCons2 v):=rfl
def opd (P:Pins) (C:Calls) (e:E) (ρ:Env):Res Hd:=hd e (ev P C false e ρ) ρ
def kVal (v:RV) (ρ:Env):Res Hd:=some (.ok (.val v.low),ρ)
theorem kVal_ {d:D}:kVal (.sh d) ρ=some (.ok (.val (.sh d)),ρ):=rfl
theorem kValO_ {d:D}:kVal (.ow d) ρ=some (.ok (.val (.ow d)),ρ):=rfl
def kSlot (i:Nat) (ρ:Env) (b:Bool):Res Hd:=if b then some (.ok (.slot i),ρ) else none
theorem kSlot_t {i:Nat}:kSlot i ρ true=some (.ok (.slot i),ρ):=rfl
theorem opd_var {i:Nat}:opd P C (.var i) ρ=kSlot i ρ ((ρ[i]?).bind Sl.get).isSome:=rfl
theorem opd_con {d:D}:opd P C (.con d) ρ=some (.ok (.val (.sh d)),ρ):=rfl
theorem opd_lst {es:List E}:opd P C (.lst es) ρ=(ev P C false (.lst es) ρ).bind kVal:=rfl
theorem opd_bin {op:Operator} {a b:E}:opd P C (.bin op a b) ρ=(ev P C false (.bin op a b) ρ).bind kVal:=rfl
theorem opd_neg {a:E}:opd P C (.neg a) ρ=(ev P C false (.neg a) ρ).bind kVal:=rfl
theorem opd_ix {a b:E}:opd P C (.ix a b) ρ=(ev P C false (.ix a b) ρ).bind kVal:=rfl
theorem opd_sl {a b c:E}:opd P C (.sl a b c) ρ=(ev P C false (.sl a b c) ρ).bind kVal:=rfl
theorem opd_call {f:String} {es:List E}:opd P C (.call f es) ρ=(ev P C false (.call f es) ρ).bind kVal:=rfl
theorem opd_bif {f:BI} {es:List E}:opd P C (.bif f es) ρ=(ev P C false (.bif f es) ρ).bind kVal:=rfl
theorem opd_isi {a:E} {ts:List Ty}:opd P C (.isi a ts) ρ=(ev P C false (.isi a ts) ρ).bind kVal:=rfl
theorem opd_comp {elt:E} {tg:List Nat} {k:ItK} {its cond:List E} {imp:List Nat} {nl:Nat}:opd P C (.comp elt tg k its cond imp nl) ρ=(ev P C false (.comp elt tg k its cond imp nl) ρ).bind kVal:=rfl
theorem evHs_cons {e:E} {es:List E}:evHs P C (e :: es) ρ=(opd P C e ρ).bind (kHCons1 P C es):=rfl
noncomputable def binO (op:Operator) (x:Hd) (a b:Option D):Option RV:=a.bind λd=>b.bind λe=>if mulOk op x d then binD op d e else none
def kBin2 (op:Operator) (x y:Hd) (ρ:Env):Res RV:=done (binO op x (x.get ρ) (y.get ρ)) ρ
noncomputable def kBin1 (P:Pins) (C:Calls) (op:Operator) (b:E) (x:Hd) (ρ:Env):Res RV:=(opd P C b ρ).bind (kBin2 op x)
theorem kBin2_ {op:Operator} {x y:Hd}:kBin2 op x y ρ=done (binO op x (x.get ρ) (y.get ρ)) ρ:=rfl
theorem kBin1_ {op:Operator} {b:E} {x:Hd}:kBin1 P C op b x ρ=(opd P C b ρ).bind (kBin2 op x):=rfl
theorem ev_bin {op:Operator} {a b:E}:ev P C t (.bin op a b) ρ=wrap t ((opd P C a ρ).bind (kBin1 P C op b)):=rfl
theorem binO_i {op:Operator} {x:Hd} {i:Int} {e:D}:binO op x (some (.int i)) (some e)=binD op (.int i) e:=by
 unfold binO mulOk; cases op <;> rfl
theorem binO_m {d:D} {ds:List D} {e:D}:binO .Mult (.val (.ow d)) (some (.lst ds)) (some e)=binD .Mult (.lst ds) e:=rfl
theorem b_add {i j:Int}:binD .Add (.int i) (.int j)=some (.sh (.int (i+j))):=rfl
theorem b_sub {i j:Int}:binD .Sub (.int i) (.int j)=some (.sh (.int (i - j))):=rfl
theorem b_mul {i j:Int} (h:(-(2 ^ 64)<i∧i<2 ^ 64)∨(-(2 ^ 64)<j∧j<2 ^ 64)):binD .Mult (.int i) (.int j)=some (.sh (.int (i*j))):=if_pos h
theorem b_mulR {i j:Int} (h1:-18446744073709551616<j) (h2:j<18446744073709551616):binD .Mult (.int i) (.int j)=some (.sh (.int (i*j))):=b_mul (.inr ⟨h1,h2⟩)
theorem b_mulL {i j:Int} (h1:-18446744073709551616<i) (h2:i<18446744073709551616):binD .Mult (.int i) (.int j)=some (.sh (.int (i*j))):=b_mul (.inl ⟨h1,h2⟩)
theorem b_div {i j:Int} (h:0<j∧j<100000000000000000000000000000000000000000000000000000000000000000000000000000000):binD .FloorDiv (.int i) (.int j)=some (.sh (.int (i / j))):=if_pos h
theorem b_mod {i j:Int} (h:0<j):binD .Mod (.int i) (.int j)=some (.sh (.int (i % j))):=if_pos h
theorem b_pow {i j:Int} (h:0≤j∧j≤1000∧i.natAbs<2 ^ 64):binD .Pow (.int i) (.int j)=some (.sh (.int (i ^ j.toNat))):=if_pos h
theorem b_shl1 {j:Int} (h:0≤j) (h2:j≤1000):binD .LShift (.int 1) (.int j)=some (.sh (.int (2 ^ j.toNat))):=by
 show @ite _ _ (cl _) _ _=_
 rw [if_pos ⟨h,h2,by decide⟩,Int.one_mul]
theorem b_cat {xs ys:List D} (h:smallL (xs.length+ys.length)=true):binD .Add (.lst xs) (.lst ys)=some (.ow (.lst (xs ++ ys))):=if_pos h
theorem b_rep {xs:List D} {k:Int} (h1:-(2 ^ 31)≤k) (h2:k≤1000) (h3:smallL (xs.length*k.toNat)=true):binD .Mult (.lst xs) (.int k)=some (.ow (.lst (List.replicate k.toNat xs).flatten)):=if_pos ⟨h1,h2,h3⟩
theorem b_cat0 {ys:List D}:binD .Add (.tup []) (.tup ys)=some (.sh (.tup ys)):=rfl
theorem b_catT {x:D} {xs ys:List D} (h:smallL (xs.length+1+ys.length)=true):binD .Add (.tup (x :: xs)) (.tup ys)=some (.sh (.tup (x :: xs ++ ys))):=if_pos h
def kNeg (v:RV) (ρ:Env):Res RV:=match v.d with
 | .int i=>some (.ok (.sh (.int (-i))),ρ)
 | _=>none
theorem kNeg_ {i:Int}:kNeg (.sh (.int i)) ρ=some (.ok (.sh (.int (-i))),ρ):=rfl
theorem ev_neg {a:E}:ev P C t (.neg a) ρ=wrap t ((ev P C false a ρ).bind kNeg):=rfl
noncomputable def kNotT (v:RV) (ρ:Env):Res RV:=match v with
 | .sh (.bl b)=>some (.ok (.sh (.bl (!b))),ρ)
 | _=>none
theorem kNotT_ {b:Bool}:kNotT (.sh (.bl b)) ρ=some (.ok (.sh (.bl (!b))),ρ):=rfl
theorem ev_notT {a:E}:ev P C true (.not a) ρ=(ev P C true a ρ).bind kNotT:=rfl
def notO (o:Option D):Option RV:=o.bind λd=>(truthD d).map λb=>.sh (.bl (!b))
def kNotF (x:Hd) (ρ:Env):Res RV:=done (notO (x.get ρ)) ρ
theorem kNotF_ {x:Hd}:kNotF x ρ=done (notO (x.get ρ)) ρ:=rfl
theorem notO_bl {b:Bool}:notO (some (.bl b))=some (.sh (.bl (!b))):=rfl
theorem ev_notF {a:E}:ev P C false (.not a) ρ=(opd P C a ρ).bind kNotF:=rfl
noncomputable def cmpO (op:CmpOp) (a b:Option D):Option RV:=a.bind λd=>b.bind λe=>(cmpD op d e).map λb=>.sh (.bl b)
theorem cmpO_ {op:CmpOp} {d e:D}:cmpO op (some d) (some e)=(cmpD op d e).map λb=>.sh (.bl b):=rfl
def cmpB (op:CmpOp) (a b:Option D):Option Bool:=a.bind λd=>b.bind λe=>cmpD op d e
theorem cmpB_ {op:CmpOp} {d e:D}:cmpB op (some d) (some e)=cmpD op d e:=rfl
def kCmp2 (op:CmpOp) (x y:Hd) (ρ:Env):Res RV:=done (cmpO op (x.get ρ) (y.get ρ)) ρ
noncomputable def kCmp1 (P:Pins) (C:Calls) (op:CmpOp) (b:E) (x:Hd) (ρ:Env):Res RV:=(opd P C b ρ).bind (kCmp2 op x)
theorem kCmp2_ {op:CmpOp} {x y:Hd}:kCmp2 op x y ρ=done (cmpO op (x.get ρ) (y.get ρ)) ρ:=rfl
theorem kCmp1_ {op:CmpOp} {b:E} {x:Hd}:kCmp1 P C op b x ρ=(opd P C b ρ).bind (kCmp2 op x):=rfl
theorem ev_cmp {op:CmpOp} {a b:E}:ev P C t (.cmp op a b) ρ=(opd P C a ρ).bind (kCmp1 P C op b):=rfl
def kCh3 (op:CmpOp) (y z:Hd) (ρ:Env):Res RV:=done (cmpO op (y.get ρ) (z.get ρ)) ρ
theorem kCh3_ {op:CmpOp} {x y:Hd}:kCh3 op x y ρ=done (cmpO op (x.get ρ) (y.get ρ)) ρ:=rfl
noncomputable def kCh (P:Pins) (C:Calls) (op':CmpOp) (y:Hd) (c:E) (ρ:Env):Option Bool→Res RV
 | none=>none
 | some false=>some (.ok (.sh (.bl false)),ρ)
 | some true=>(opd P C c ρ).bind (kCh3 op' y)
theorem kCh_b {op':CmpOp} {y:Hd} {c:E} {b:Bool}:kCh P C op' y c ρ (some b)=if b=true then (opd P C c ρ).bind (kCh3 op' y) else some (.ok (.sh (.bl false)),ρ):=by cases b <;> rfl
noncomputable def kCh2 (P:Pins) (C:Calls) (op op':CmpOp) (c:E) (x y:Hd) (ρ:Env):Res RV:=kCh P C op' y c ρ (cmpB op (x.get ρ) (y.get ρ))
noncomputable def kCh1 (P:Pins) (C:Calls) (op op':CmpOp) (b c:E) (x:Hd) (ρ:Env):Res RV:=(opd P C b ρ).bind (kCh2 P C op op' c x)
theorem kCh2_ {op op':CmpOp} {c:E} {x y:Hd}:kCh2 P C op op' c x y ρ=kCh P C op' y c ρ (cmpB op (x.get ρ) (y.get ρ)):=rfl
theorem kCh1_ {op op':CmpOp} {b c:E} {x:Hd}:kCh1 P C op op' b c x ρ=(opd P C b ρ).bind (kCh2 P C op op' c x):=rfl
theorem ev_cmp2 {op op':CmpOp} {a b c:E}:ev P C t (.cmp2 op op' a b c) ρ=(opd P C a ρ).bind (kCh1 P C op op' b c):=rfl
theorem c_lt {i j:Int}:cmpD .Lt (.int i) (.int j)=some (decide (i<j)):=rfl
theorem c_le {i j:Int}:cmpD .LtE (.int i) (.int j)=some (decide (i≤j)):=rfl
theorem c_gt {i j:Int}:cmpD .Gt (.int i) (.int j)=some (decide (j<i)):=rfl
theorem c_ge {i j:Int}:cmpD .GtE (.int i) (.int j)=some (decide (j≤i)):=rfl
theorem c_eqi {i j:Int}:cmpD .Eq (.int i) (.int j)=some (decide (i=j)):=rfl
theorem c_nei {i j:Int}:cmpD .NotEq (.int i) (.int j)=some (!decide (i=j)):=rfl
theorem c_eq {d e:D} (h1:okD 20 d=true) (h2:okD 20 e=true):cmpD .Eq d e=some (eqD d e):=by
 show (if (okD 20 d && okD 20 e)=true then some (eqD d e) else none)=_
 rw [h1,h2]; rfl
theorem c_ne {d e:D} (h1:okD 20 d=true) (h2:okD 20 e=true):cmpD .NotEq d e=some (!eqD d e):=by
 show (if (okD 20 d && okD 20 e)=true then some (!eqD d e) else none)=_
 rw [h1,h2]; rfl
theorem c_eqs {a b:PySem.Str}:cmpD .Eq (.str a) (.str b)=some (a == b):=rfl
theorem t_bl {b:Bool}:truthD (.bl b)=some b:=rfl
noncomputable def kAnd (P:Pins) (C:Calls) (t:Bool) (b:E) (v:RV) (ρ:Env):Res RV:=match v with
 | .sh (.bl true)=>ev P C t b ρ
 | .sh (.bl false)=>some (.ok (.sh (.bl false)),ρ)
 | _=>none
noncomputable def kOr (P:Pins) (C:Calls) (t:Bool) (b:E) (v:RV) (ρ:Env):Res RV:=match v with
 | .sh (.bl true)=>some (.ok (.sh (.bl true)),ρ)
 | .sh (.bl false)=>ev P C t b ρ
 | _=>none
theorem ev_and {a b:E}:ev P C t (.and a b) ρ=(ev P C t a ρ).bind (kAnd P C t b):=rfl
theorem ev_or {a b:E}:ev P C t (.or a b) ρ=(ev P C t a ρ).bind (kOr P C t b):=rfl
theorem kAnd_b {b:E} {x:Bool}:kAnd P C t b (.sh (.bl x)) ρ=if x=true then ev P C t b ρ else some (.ok (.sh (.bl false)),ρ):=by cases x <;> rfl
theorem kOr_b {b:E} {x:Bool}:kOr P C t b (.sh (.bl x)) ρ=if x=true then some (.ok (.sh (.bl true)),ρ) else ev P C t b ρ:=by cases x <;> rfl
def ixO (a:Option D) (k:D):Option RV:=a.bind λd=>(ixD d k).map .sh
def kIx2 (x:Hd) (k:RV) (ρ:Env):Res RV:=done (ixO (x.get ρ) k.d) ρ
def kIx1 (P:Pins) (C:Calls) (i:E) (x:Hd) (ρ:Env):Res RV:=(ev P C false i ρ).bind (kIx2 x)
theorem kIx2_ {x:Hd} {k:RV}:kIx2 x k ρ=done (ixO (x.get ρ) k.d) ρ:=rfl
theorem kIx1_ {i:E} {x:Hd}:kIx1 P C i x ρ=(ev P C false i ρ).bind (kIx2 x):=rfl
theorem ev_ix {a i:E}:ev P C t (.ix a i) ρ=wrap t ((opd P C a ρ).bind (kIx1 P C i)):=rfl
theorem ixO_tI {ds:List D} {i:Int}:ixO (some (.tup ds)) (.int i)=(L2.atI ds i).map RV.sh:=rfl
theorem ixO_lI {ds:List D} {i:Int}:ixO (some (.lst ds)) (.int i)=(L2.atI ds i).map RV.sh:=rfl
theorem at_nat {α:Type} {xs:List α} {n:Nat}:L2.atI xs (OfNat.ofNat n)=xs[n]?:=by
 show L2.atI xs ((n:Nat):Int)=_
 cases h:xs[n]? with
 | some v=>exact L2.atI_nat h
 | none =>
  unfold L2.atI L2.ixN
  have:=List.getElem?_eq_none_iff.mp h
  rw [if_pos (by omega),if_neg (by omega)]
  rfl
theorem at_0 {α:Type} {xs:List α}:L2.atI xs 0=xs[0]?:=at_nat (n:=0)
theorem at_1 {α:Type} {xs:List α}:L2.atI xs 1=xs[1]?:=at_nat (n:=1)
theorem at_2 {α:Type} {xs:List α}:L2.atI xs 2=xs[2]?:=at_nat (n:=2)
theorem at_3 {α:Type} {xs:List α}:L2.atI xs 3=xs[3]?:=at_nat (n:=3)
theorem at_4 {α:Type} {xs:List α}:L2.atI xs 4=xs[4]?:=at_nat (n:=4)
def slO (a l h:Option D):Option RV:=a.bind λd=>(partD l).bind λl=>(partD h).bind λh=>slD d l h
def kSl3 (x:Hd) (l h:Option D) (ρ:Env):Res RV:=done (slO (x.get ρ) l h) ρ
def prt (P:Pins) (C:Calls) (e:E) (ρ:Env):Res (Option D):=part e (ev P C false e ρ) ρ
noncomputable def kSl2 (P:Pins) (C:Calls) (hi:E) (x:Hd) (l:Option D) (ρ:Env):Res RV:=(prt P C hi ρ).bind (kSl3 x l)
def kSl1 (P:Pins) (C:Calls) (lo hi:E) (x:Hd) (ρ:Env):Res RV:=(prt P C lo ρ).bind (kSl2 P C hi x)
theorem kSl3_ {x:Hd} {l h:Option D}:kSl3 x l h ρ=done (slO (x.get ρ) l h) ρ:=rfl
theorem kSl2_ {hi:E} {x:Hd} {l:Option D}:kSl2 P C hi x l ρ=(prt P C hi ρ).bind (kSl3 x l):=rfl
theorem kSl1_ {lo hi:E} {x:Hd}:kSl1 P C lo hi x ρ=(prt P C lo ρ).bind (kSl2 P C hi x):=rfl
theorem prt_omt:prt P C .omt ρ=some (.ok none,ρ):=rfl
theorem prt_con {d:D}:prt P C (.con d) ρ=some (.ok (some d),ρ):=rfl
theorem ev_sl {a lo hi:E}:ev P C t (.sl a lo hi) ρ=wrap t ((opd P C a ρ).bind (kSl1 P C lo hi)):=rfl
def kCall (P:Pins) (C:Calls) (f:String) (hs:List Hd) (ρ:Env):Res RV:=doCall (P f) (C f) hs ρ
theorem kCall_ {f:String} {hs:List Hd}:kCall P C f hs ρ=doCall (P f) (C f) hs ρ:=rfl
theorem ev_call {f:String} {es:List E}:ev P C t (.call f es) ρ=wrap t ((evHs P C es ρ).bind (kCall P C f)):=rfl
noncomputable def kCl2 (pins:List Bool) (hs:List Hd) (ρ ρ1:Env):Res RV→Res RV
 | none=>none
 | some (o,as')=>(giveBack pins hs as' ρ ρ1).map λρ'=>(o,ρ')
noncomputable def kCl1 (pins:List Bool) (f:List Sl→Res RV) (hs:List Hd) (ρ:Env):Option (List Sl × Env)→Res RV
 | none=>none
 | some (as,ρ1)=>kCl2 pins hs ρ ρ1 (f as)
theorem doCall_ {pins:List Bool} {f:List Sl→Res RV} {hs:List Hd}:doCall pins f hs ρ=kCl1 pins f hs ρ (lend pins hs ρ):=rfl
theorem kCl1_ {pins:List Bool} {f:List Sl→Res RV} {hs:List Hd} {as:List Sl}:kCl1 pins f hs ρ (some (as,ρ1))=kCl2 pins hs ρ ρ1 (f as):=rfl
def kCl3 (o:Out RV) (x:Option Env):Res RV:=x.map λρ'=>(o,ρ')
theorem kCl3_ {o:Out RV}:kCl3 o (some ρ)=some (o,ρ):=rfl
theorem kCl2_ {pins:List Bool} {hs:List Hd} {o:Out RV} {as':List Sl}:kCl2 pins hs ρ ρ1 (some (o,as'))=kCl3 o (giveBack pins hs as' ρ ρ1):=rfl
def kLd (a:Sl) (o:Option (List Sl × Env)):Option (List Sl × Env):=o.map λ(as,ρ')=>(a :: as,ρ')
theorem kLd_ {a:Sl} {as:List Sl}:kLd a (some (as,ρ))=some (a :: as,ρ):=rfl
theorem ld_nil:lend [] [] ρ=some ([],ρ):=rfl
theorem ld_sh {p:Bool} {ps:List Bool} {d:D} {r:List Hd}:lend (p :: ps) (.val (.sh d) :: r) ρ=kLd (.sh d) (lend ps r ρ):=rfl
theorem ld_owT {ps:List Bool} {d:D} {r:List Hd}:lend (true :: ps) (.val (.ow d) :: r) ρ=kLd (.ow d true false) (lend ps r ρ):=rfl
theorem ld_owF {ps:List Bool} {d:D} {r:List Hd}:lend (false :: ps) (.val (.ow d) :: r) ρ=kLd (.sh d) (lend ps r ρ):=rfl
noncomputable def kLs (p:Bool) (ps:List Bool) (i:Nat) (r:List Hd) (ρ:Env):Option Sl→Option (List Sl × Env)
 | some (.sh d)=>kLd (.sh d) (lend ps r ρ)
 | some (.ow d pin lk)=>match p with
  | true=>kLd (.ow d true lk) (lend ps r (ρ.set i .un))
  | false=>if pin || lk then none else kLd (.sh d) (lend ps r (ρ.set i (.sh d)))
 | _=>none
theorem ld_slot {p:Bool} {ps:List Bool} {i:Nat} {r:List Hd}:lend (p :: ps) (.slot i :: r) ρ=kLs p ps i r ρ ρ[i]?:=rfl
theorem kLs_sh {p:Bool} {ps:List Bool} {i:Nat} {r:List Hd} {d:D}:kLs p ps i r ρ (some (.sh d))=kLd (.sh d) (lend ps r ρ):=rfl
theorem kLs_owT {ps:List Bool} {i:Nat} {r:List Hd} {d:D} {pin lk:Bool}:kLs true ps i r ρ (some (.ow d pin lk))=kLd (.ow d true lk) (lend ps r (ρ.set i .un)):=rfl
theorem gb_nil {ρ0:Env}:giveBack [] [] [] ρ0 ρ=some ρ:=rfl
theorem gb_f {ps:List Bool} {i:Nat} {hs:List Hd} {a:Sl} {as:List Sl} {ρ0:Env}:giveBack (false :: ps) (.slot i :: hs) (a :: as) ρ0 ρ=giveBack ps hs as ρ0 ρ:=rfl
theorem gb_fv {ps:List Bool} {v:RV} {hs:List Hd} {a:Sl} {as:List Sl} {ρ0:Env}:giveBack (false :: ps) (.val v :: hs) (a :: as) ρ0 ρ=giveBack ps hs as ρ0 ρ:=rfl
theorem gb_val {ps:List Bool} {v:RV} {hs:List Hd} {a:Sl} {as:List Sl} {ρ0:Env}:giveBack (true :: ps) (.val v :: hs) (a :: as) ρ0 ρ=giveBack ps hs as ρ0 ρ:=rfl
noncomputable def kGb (ps:List Bool) (i:Nat) (hs:List Hd) (a:Sl) (as:List Sl) (ρ0 ρ:Env) (o:Option Sl):Option Env :=
  match o,a with
  | some (.ow _ pin lk),.ow d _ _=>giveBack ps hs as ρ0 (ρ.set i (.ow d pin lk))
  | some (.ow _ _ _),_=>none
  | _,_=>giveBack ps hs as ρ0 ρ
theorem gb_slot {ps:List Bool} {i:Nat} {hs:List Hd} {a:Sl} {as:List Sl} {ρ0:Env}:giveBack (true :: ps) (.slot i :: hs) (a :: as) ρ0 ρ=kGb ps i hs a as ρ0 ρ ρ0[i]?:=rfl
theorem kGb_ow {ps:List Bool} {i:Nat} {hs:List Hd} {as:List Sl} {ρ0:Env} {d d':D} {p l p' l':Bool}:kGb ps i hs (.ow d p l) as ρ0 ρ (some (.ow d' p' l'))=giveBack ps hs as ρ0 (ρ.set i (.ow d p' l')):=rfl
theorem kGb_sh {ps:List Bool} {i:Nat} {hs:List Hd} {a:Sl} {as:List Sl} {ρ0:Env} {d:D}:kGb ps i hs a as ρ0 ρ (some (.sh d))=giveBack ps hs as ρ0 ρ:=rfl
def kBif (f:BI) (hs:List Hd) (ρ:Env):Res RV:=done ((getAll hs ρ).bind (biD f)) ρ
theorem kBif_ {f:BI} {hs:List Hd}:kBif f hs ρ=done ((getAll hs ρ).bind (biD f)) ρ:=rfl
theorem ev_bif {f:BI} {es:List E}:ev P C t (.bif f es) ρ=wrap t ((evHs P C es ρ).bind (kBif f)):=rfl
theorem ga_nil:getAll [] ρ=some []:=rfl
def gaC (a:Option D) (b:Option (List D)):Option (List D):=a.bind λd=>b.map (d :: ·)
theorem gaC_ {d:D} {ds:List D}:gaC (some d) (some ds)=some (d :: ds):=rfl
theorem ga_cons {h:Hd} {r:List Hd}:getAll (h :: r) ρ=gaC (h.get ρ) (getAll r ρ):=rfl
theorem f_lenL {ds:List D}:biD .len [.lst ds]=some (.sh (.int ds.length)):=rfl
theorem f_lenT {ds:List D}:biD .len [.tup ds]=some (.sh (.int ds.length)):=rfl
theorem f_intB {b:Bool}:biD .int [.bl b]=some (.sh (.int (if b then 1 else 0))):=rfl
theorem f_listL {ds:List D}:biD .list [.lst ds]=some (.ow (.lst ds)):=rfl
theorem f_listT {ds:List D}:biD .list [.tup ds]=some (.ow (.lst ds)):=rfl
theorem f_tupL {ds:List D}:biD .tuple [.lst ds]=some (.sh (.tup ds)):=rfl
def isiO (ts:List Ty):Option D→Option RV
 | some d=>(isTys ts d).map λb=>.sh (.bl b)
 | none=>none
def kIsi (ts:List Ty) (x:Hd) (ρ:Env):Res RV:=done (isiO ts (x.get ρ)) ρ
theorem kIsi_ {ts:List Ty} {x:Hd}:kIsi ts x ρ=done (isiO ts (x.get ρ)) ρ:=rfl
theorem ev_isi {a:E} {ts:List Ty}:ev P C t (.isi a ts) ρ=wrap t ((opd P C a ρ).bind (kIsi ts)):=by
 rw [ev]
 show wrap t ((opd P C a ρ).bind _)=_
 congr 2
 funext x ρ1
 unfold kIsi
 cases x.get ρ1 <;> rfl
theorem io_int_non:isiO [.int] (some (.non))=some (.sh (.bl false)):=rfl
theorem io_int_bl {b:Bool}:isiO [.int] (some (.bl b))=some (.sh (.bl true)):=rfl
theorem io_int_int {i:Int}:isiO [.int] (some (.int i))=some (.sh (.bl true)):=rfl
theorem io_int_str {x:PySem.Str}:isiO [.int] (some (.str x))=some (.sh (.bl false)):=rfl
theorem io_int_tup {ds:List D}:isiO [.int] (some (.tup ds))=some (.sh (.bl false)):=rfl
theorem io_int_lst {ds:List D}:isiO [.int] (some (.lst ds))=some (.sh (.bl false)):=rfl
theorem io_bool_non:isiO [.bool] (some (.non))=some (.sh (.bl false)):=rfl
theorem io_bool_bl {b:Bool}:isiO [.bool] (some (.bl b))=some (.sh (.bl true)):=rfl
theorem io_bool_int {i:Int}:isiO [.bool] (some (.int i))=some (.sh (.bl false)):=rfl
theorem io_bool_str {x:PySem.Str}:isiO [.bool] (some (.str x))=some (.sh (.bl false)):=rfl
theorem io_bool_tup {ds:List D}:isiO [.bool] (some (.tup ds))=some (.sh (.bl false)):=rfl
theorem io_bool_lst {ds:List D}:isiO [.bool] (some (.lst ds))=some (.sh (.bl false)):=rfl
theorem io_str_non:isiO [.str] (some (.non))=some (.sh (.bl false)):=rfl
theorem io_str_bl {b:Bool}:isiO [.str] (some (.bl b))=some (.sh (.bl false)):=rfl
theorem io_str_int {i:Int}:isiO [.str] (some (.int i))=some (.sh (.bl false)):=rfl
theorem io_str_str {x:PySem.Str}:isiO [.str] (some (.str x))=some (.sh (.bl true)):=rfl
theorem io_str_tup {ds:List D}:isiO [.str] (some (.tup ds))=some (.sh (.bl false)):=rfl
theorem io_str_lst {ds:List D}:isiO [.str] (some (.lst ds))=some (.sh (.bl false)):=rfl
theorem io_tuple_tup {ds:List D}:isiO [.tuple] (some (.tup ds))=some (.sh (.bl true)):=rfl
noncomputable def kApp (i:Nat) (d:D) (ρ:Env) (o:Option Sl):Res RV:=match o with
 | some (.ow (.lst ds) p false)=>if smallL (ds.length+1) then some (.ok (.sh .non),ρ.set i (.ow (.lst (ds ++ [d])) p false)) else none
 | _=>none
def kApp1 (i:Nat) (v:RV) (ρ:Env):Res RV:=kApp i v.d ρ ρ[i]?
theorem kApp1_ {i:Nat} {v:RV}:kApp1 i v ρ=kApp i v.d ρ ρ[i]?:=rfl
theorem kApp_ {i:Nat} {d:D} {ds:List D} {p:Bool}:kApp i d ρ (some (.ow (.lst ds) p false))=kSm (smallL (ds.length+1)) (.sh .non) (ρ.set i (.ow (.lst (ds ++ [d])) p false)):=rfl
def kIf0 (r:Res RV) (b:Bool):Res RV:=if b then r else none
theorem kIf0_t {r:Res RV}:kIf0 r true=r:=rfl
theorem ev_app {i:Nat} {a:E}:ev P C t (.app i a) ρ=wrap t (kIf0 ((ev P C false a ρ).bind (kApp1 i)) (isOw ρ i)):=rfl
def isOwO:Option Sl→Bool
 | some (.ow (.lst _) _ _)=>true
 | _=>false
theorem isOw_:isOw ρ i=isOwO ρ[i]?:=rfl
theorem isOwO_ow {ds:List D} {p l:Bool}:isOwO (some (.ow (.lst ds) p l))=true:=rfl
def kAsg (i:Nat) (v:RV) (ρ:Env):Run:=goOn (store i v ρ)
theorem kAsg_ {i:Nat} {v:RV}:kAsg i v ρ=goOn (store i v ρ):=rfl
theorem ex_asg {i:Nat} {e:E}:ex P C W (.asg i e) ρ=(ev P C false e ρ).flow (kAsg i):=rfl
noncomputable def stO (i:Nat) (v:RV) (ρ:Env) (o:Option Sl):Option Env:=match o with
 | none=>none
 | some (.ow _ true _)=>none
 | some (.ow _ _ true)=>none
 | some _=>match v with
  | .sh d=>some (ρ.set i (.sh d))
  | .ow d=>some (ρ.set i (.ow d false false))
  | .od _=>none
theorem st_ {i:Nat} {v:RV}:store i v ρ=stO i v ρ ρ[i]?:=rfl
theorem stO_unS {i:Nat} {d:D}:stO i (.sh d) ρ (some .un)=some (ρ.set i (.sh d)):=rfl
theorem stO_unO {i:Nat} {d:D}:stO i (.ow d) ρ (some .un)=some (ρ.set i (.ow d false false)):=rfl
theorem stO_shS {i:Nat} {d d':D}:stO i (.sh d) ρ (some (.sh d'))=some (ρ.set i (.sh d)):=rfl
def okS:Sl→Bool
 | .un=>true
 | .mv=>true
 | .sh _=>true
 | .ow _ false false=>true
 | _=>false
theorem stO_okS {i:Nat} {d:D} {s:Sl} (h:okS s=true):stO i (.sh d) ρ (some s)=some (ρ.set i (.sh d)):=by
 cases s with
 | ow d p l=>cases p <;> cases l <;> first | rfl | cases h
 | _=>rfl
theorem stO_okO {i:Nat} {d:D} {s:Sl} (h:okS s=true):stO i (.ow d) ρ (some s)=some (ρ.set i (.ow d false false)):=by
 cases s with
 | ow d p l=>cases p <;> cases l <;> first | rfl | cases h
 | _=>rfl
theorem okS_un:okS .un=true:=rfl
theorem okS_sh {d:D}:okS (.sh d)=true:=rfl
theorem bt_one {i:Nat} {d:D}:bindT true [i] d ρ=store i (.sh d) ρ:=rfl
theorem bt_many {i:Nat} {is:List Nat} {ds:List D}:bindT false (i :: is) (.tup ds) ρ=stores (i :: is) ds ρ:=rfl
theorem ss_nil:stores [] [] ρ=some ρ:=rfl
def kSs (is:List Nat) (ds:List D) (o:Option Env):Option Env:=o.bind (stores is ds)
theorem ss_cons {i:Nat} {is:List Nat} {d:D} {ds:List D}:stores (i :: is) (d :: ds) ρ=kSs is ds (store i (.sh d) ρ):=rfl
theorem kSs_ {is:List Nat} {ds:List D}:kSs is ds (some ρ)=stores is ds ρ:=rfl
noncomputable def setO (i:Nat) (v:D) (ρ:Env):Option Sl→D→Run
 | some (.ow (.lst ds) p false),.int n=>goOn ((L2.ixN ds.length n).map λm=>ρ.set i (.ow (.lst (ds.set m v)) p false))
 | _,_=>none
def kSet2 (i:Nat) (v:RV) (j:RV) (ρ:Env):Run:=setO i v.d ρ ρ[i]? j.d
noncomputable def putO (i:Nat) (v j:RV) (ρ:Env):Option Sl→Run
 | o=>match o,j,v with
  | some (.ow (.dct kvs) p false),.sh (.int n),.sh (.int m)=>if smallL (kvs.length+1) then some (.nx,ρ.set i (.ow (.dct (putI kvs n m)) p false)) else none
  | _,_,_=>none
def kPut2 (i:Nat) (v:RV) (j:RV) (ρ:Env):Run:=putO i v j ρ ρ[i]?
theorem kPut2_ {i:Nat} {v j:RV}:kPut2 i v j ρ=putO i v j ρ ρ[i]?:=rfl
def isDcO:Option Sl→Bool
 | some (.ow (.dct _) _ _)=>true
 | _=>false
theorem isDc_ {i:Nat}:isDc ρ i=isDcO ρ[i]?:=rfl
def kIf2 (r r':Run) (b:Bool):Run:=if b then r else r'
theorem kIf2_t {r r':Run}:kIf2 r r' true=r:=rfl
def kPS (i:Nat) (v:RV) (j:RV) (ρ:Env):Run:=setS i ρ ρ[i]? (skey j.d) v
theorem kPS_ {i:Nat} {v j:RV}:kPS i v j ρ=setS i ρ ρ[i]? (skey j.d) v:=rfl
def isDsO:Option Sl→Bool
 | some (.ow (.dcs _ _) _ _)=>true
 | _=>false
theorem isDs_ {i:Nat}:isDs ρ i=isDsO ρ[i]?:=rfl
def kPutS (P:Pins) (C:Calls) (i:Nat) (k:E) (v:RV) (ρ:Env):Run:=none
theorem kPutS_ {i:Nat} {k:E} {v:RV}:kPutS P C i k v ρ=none:=rfl
noncomputable def kSet1 (P:Pins) (C:Calls) (i:Nat) (k:E) (v:RV) (ρ:Env):Run:=kIf2 ((ev P C false k ρ).flow (kSet2 i v)) (kPutS P C i k v ρ) (isOw ρ i)
theorem kSet2_ {i:Nat} {v j:RV}:kSet2 i v j ρ=setO i v.d ρ ρ[i]? j.d:=rfl
theorem kSet1_ {i:Nat} {k:E} {v:RV}:kSet1 P C i k v ρ=kIf2 ((ev P C false k ρ).flow (kSet2 i v)) (kPutS P C i k v ρ) (isOw ρ i):=rfl
theorem ex_set {i:Nat} {k e:E}:ex P C W (.set i k e) ρ=(ev P C false e ρ).flow (kSet1 P C i k):=rfl
theorem ixN_1 {n:Nat}:L2.ixN (n+2) 1=some 1:=by unfold L2.ixN; rw [if_pos (by omega),if_pos (by omega)]; rfl
theorem setO_1 {i:Nat} {v a b:D} {ds:List D} {p:Bool}:setO i v ρ (some (.ow (.lst (a :: b :: ds)) p false)) (.int 1)=some (.nx,ρ.set i (.ow (.lst (a :: v :: ds)) p false)):=by
 show goOn ((L2.ixN (ds.length+2) 1).map _)=_
 rw [ixN_1]; rfl
def kDrop (v:RV) (ρ:Env):Run:=some (.nx,ρ)
theorem kDrop_ {v:RV}:kDrop v ρ=some (.nx,ρ):=rfl
theorem ex_expr {e:E}:ex P C W (.expr e) ρ=(ev P C false e ρ).flow kDrop:=rfl
noncomputable def kTmp1 (i:Nat) (ρ:Env) (ds:List D) (p l:Bool):Res RV→Res RV
 | some (.ok (.sh d),ρ')=>@ite _ (flatD d=true∧Toks (ρ.set i .un) (ρ'.set i .un)) (cl _) (some (.ok (.sh d),ρ'.set i (.ow (.dl ds) p l))) none
 | _=>none
noncomputable def kTmp (i:Nat) (ρ:Env) (f:Env→Res RV):Option Sl→Res RV
 | some (.ow (.dl ds) p l)=>kTmp1 i ρ ds p l (f (ρ.set i (.sh (.lst ds))))
 | _=>f ρ
theorem ev_tmp {i:Nat} {a:E}:ev P C t (.tmp i a) ρ=kTmp i ρ (ev P C t a) ρ[i]?:=rfl
theorem kTmp_dl {i:Nat} {f:Env→Res RV} {ds:List D} {p l:Bool}:kTmp i ρ f (some (.ow (.dl ds) p l))=kTmp1 i ρ ds p l (f (ρ.set i (.sh (.lst ds)))):=rfl
theorem kTmp_sh {i:Nat} {f:Env→Res RV} {d:D}:kTmp i ρ f (some (.sh d))=f ρ:=rfl
theorem flat_bl {b:Bool}:flatD (.bl b)=true:=(rfl)
theorem tk_nil:Toks [] []=True:=propext ⟨λ_=>trivial,λ_=>rfl⟩
theorem tk_cons {s s':Sl} {r r':Env}:Toks (s :: r) (s' :: r')=(tok s s'∧Toks r r'):=propext ⟨λ⟨_,_,e,h⟩=>by cases e; exact h,λh=>⟨_,_,rfl,h⟩⟩
theorem tk_sh {d:D}:tok (.sh d) (.sh d)=True:=propext ⟨λ_=>trivial,λ_=>rfl⟩
theorem tk_un:tok .un .un=True:=propext ⟨λ_=>trivial,λ_=>rfl⟩
theorem tk_mv:tok .mv .mv=True:=propext ⟨λ_=>trivial,λ_=>rfl⟩
theorem tk_pen {d:D} {p l:Bool} {a b:Int}:tok (.ow d p l) (.ow (.lst [.int a,.int b]) p l)=True:=propext ⟨λ_=>trivial,λ_=>⟨[a,b],rfl⟩⟩
def Tk:Nat→Env→Env→Prop
 | 0,_ :: r,_ :: r'=>Toks r r'
 | i+1,s :: r,s' :: r'=>tok s s'∧Tk i r r'
 | _,_,_=>False
theorem Tk.to:∀ {i:Nat} {ρ ρ':Env},Tk i ρ ρ'→Toks (ρ.set i .un) (ρ'.set i .un)
 | 0,_ :: _,_ :: _,h=>⟨_,_,rfl,rfl,h⟩
 | _+1,_ :: _,_ :: _,h=>⟨_,_,rfl,h.1,Tk.to h.2⟩
 | 0,[],_,h=>h.elim
 | _+1,[],_,h=>h.elim
 | 0,_ :: _,[],h=>h.elim
 | _+1,_ :: _,[],h=>h.elim
theorem tk_0 {s s':Sl} {r r':Env}:Tk 0 (s :: r) (s' :: r')=Toks r r':=(rfl)
theorem tk_S {i:Nat} {s s':Sl} {r r':Env}:Tk (i+1) (s :: r) (s' :: r')=(tok s s'∧Tk i r r'):=(rfl)
theorem kTmp1_ {i:Nat} {ds:List D} {p l:Bool} {d:D} {ρ':Env} (hf:flatD d=true) (tk:Tk i ρ ρ'):kTmp1 i ρ ds p l (some (.ok (.sh d),ρ'))=some (.ok (.sh d),ρ'.set i (.ow (.dl ds) p l)):=if_pos ⟨hf,tk.to⟩
noncomputable def kDs3 (i:Nat) (c:Option Nat) (v:RV) (ρ:Env) (ds:List D) (p:Bool):Res RV→Run
 | some (.ok (.sh (.int n)),ρ2)=>@ite _ (Toks (ρ.set i .un) (ρ2.set i .un)) (cl _) (dsetR i p ρ2 (dputD c n v ds)) none
 | _=>none
noncomputable def kDs2 (i:Nat) (c:Option Nat) (v:RV) (ρ:Env) (f:Env→Res RV):Option Sl→Run
 | some (.ow (.dl ds) p false)=>kDs3 i c v ρ ds p (f (ρ.set i (.sh (.lst ds))))
 | _=>none
noncomputable def kDs1 (P:Pins) (C:Calls) (i:Nat) (c:Option Nat) (k:E) (v:RV) (ρ:Env):Run:=kDs2 i c v ρ (ev P C false k) ρ[i]?
theorem kDs1_ {i:Nat} {c:Option Nat} {k:E} {v:RV}:kDs1 P C i c k v ρ=kDs2 i c v ρ (ev P C false k) ρ[i]?:=rfl
theorem kDs2_ {i:Nat} {c:Option Nat} {v:RV} {f:Env→Res RV} {ds:List D} {p:Bool}:kDs2 i c v ρ f (some (.ow (.dl ds) p false))=kDs3 i c v ρ ds p (f (ρ.set i (.sh (.lst ds)))):=rfl
theorem kDs3_ {i:Nat} {c:Option Nat} {v:RV} {ds:List D} {p:Bool} {n:Int} (tk:Tk i ρ ρ2):kDs3 i c v ρ ds p (some (.ok (.sh (.int n)),ρ2))=dsetR i p ρ2 (dputD c n v ds):=if_pos tk.to
theorem dsR_ {i:Nat} {p:Bool} {ds:List D}:dsetR i p ρ2 (some ds)=some (.nx,ρ2.set i (.ow (.dl ds) p false)):=rfl
theorem ex_dset {i:Nat} {c:Option Nat} {k e:E}:ex P C W (.dset i c k e) ρ=(ev P C false e ρ).flow (kDs1 P C i c k):=rfl
def kDl (hs:List Hd) (ρ:Env):Res RV:=dlO ρ (dlV hs)
theorem kDl_ {hs:List Hd}:kDl hs ρ=dlO ρ (dlV hs):=rfl
theorem ev_dlst {es:List E}:ev P C t (.dlst es) ρ=wrap t ((evHs P C es ρ).bind kDl):=rfl
theorem kif_ {i j:Nat} {e c:E} {ds:List D} {p l:Bool} {s:Sl} {v:RV} {ρ3:Env} (h1:ρ[i]?=some (.ow (.dl ds) p l)) (h2:ρ[j]?=some s) (h3:ev P C false e (ρ.set i (.sh (.lst ds)))=some (.ok v,ρ2)) (h4:ev P C true c (ρ2.set j (.sh v.d))=some (.ok (.sh (.bl false)),ρ3))
  (h5:i≠j) (h6:∀ d p l,s≠.ow d p l) (h7:Toks ((ρ.set j .mv).set i .un) ((ρ3.set j .mv).set i .un)) (h8:ρ2[j]?=some s):ex P C W (.kif i j e c) ρ=some (.nx,(ρ3.set j .mv).set i (.ow (.dl ds) p l)):=by
 show kifO i j ρ (ev P C false e) (ev P C true c)=_
 unfold kifO
 rw [h1,h2]
 dsimp only
 rw [h3]
 dsimp only
 rw [h4]
 exact if_pos ⟨h5,h6,h7,h8⟩
noncomputable def retO (i:Nat) (ρ:Env):Option Sl→Run
 | some (.ow d false _)=>some (.rt (.ow d),ρ.set i .mv)
 | some (.sh d)=>some (.rt (.sh d),ρ)
 | _=>none
theorem retO_sh {i:Nat} {d:D}:retO i ρ (some (.sh d))=some (.rt (.sh d),ρ):=rfl
def kRet (v:RV) (ρ:Env):Run:=some (.rt v,ρ)
theorem kRet_ {v:RV}:kRet v ρ=some (.rt v,ρ):=rfl
theorem ex_retV {i:Nat}:ex P C W (.ret (.var i)) ρ=retO i ρ ρ[i]?:=rfl
theorem er_con {d:D}:ex P C W (.ret (.con d)) ρ=(ev P C false (.con d) ρ).flow kRet:=rfl
theorem er_tup {es:List E}:ex P C W (.ret (.tup es)) ρ=(ev P C false (.tup es) ρ).flow kRet:=rfl
theorem er_lst {es:List E}:ex P C W (.ret (.lst es)) ρ=(ev P C false (.lst es) ρ).flow kRet:=rfl
theorem er_bin {op:Operator} {a b:E}:ex P C W (.ret (.bin op a b)) ρ=(ev P C false (.bin op a b) ρ).flow kRet:=rfl
theorem er_cmp {op:CmpOp} {a b:E}:ex P C W (.ret (.cmp op a b)) ρ=(ev P C false (.cmp op a b) ρ).flow kRet:=rfl
theorem er_and {a b:E}:ex P C W (.ret (.and a b)) ρ=(ev P C false (.and a b) ρ).flow kRet:=rfl
theorem er_call {f:String} {es:List E}:ex P C W (.ret (.call f es)) ρ=(ev P C false (.call f es) ρ).flow kRet:=rfl
noncomputable def kIf (P:Pins) (C:Calls) (W:Nat) (a b:List S) (v:RV) (ρ:Env):Run:=match v with
 | .sh (.bl true)=>exs P C W a ρ
 | .sh (.bl false)=>exs P C W b ρ
 | _=>none
theorem kIf_b {a b:List S} {x:Bool}:kIf P C W a b (.sh (.bl x)) ρ=if x=true then exs P C W a ρ else exs P C W b ρ:=by cases x <;> rfl
theorem ex_ifs {c:E} {a b:List S}:ex P C W (.ifs c a b) ρ=(ev P C true c ρ).flow (kIf P C W a b):=rfl
noncomputable def forO (P:Pins) (C:Calls) (W:Nat) (tg:List Nat) (one:Bool) (body:List S) (ρ:Env):Option (List D × Option Nat)→Run
 | none=>none
 | some (ds,o)=>(loopF (bindT one tg) (exs P C W body) ds (takeOut o ρ)).restore o ρ
theorem forO_ {tg:List Nat} {one:Bool} {body:List S} {ds:List D} {o:Option Nat}:forO P C W tg one body ρ (some (ds,o))=(loopF (bindT one tg) (exs P C W body) ds (takeOut o ρ)).restore o ρ:=rfl
noncomputable def kFor (P:Pins) (C:Calls) (W:Nat) (tg:List Nat) (one:Bool) (k:ItK) (body:List S) (hs:List Hd) (ρ:Env):Run:=forO P C W tg one body ρ (itemsOf k hs ρ)
theorem kFor_ {tg:List Nat} {one:Bool} {k:ItK} {body:List S} {hs:List Hd}:kFor P C W tg one k body hs ρ=forO P C W tg one body ρ (itemsOf k hs ρ):=rfl
theorem ex_for {tg:List Nat} {one:Bool} {k:ItK} {its:List E} {body:List S}:ex P C W (.for tg one k its body) ρ=(evHs P C its ρ).flow (kFor P C W tg one k body):=rfl
theorem exs_nil:exs P C W [] ρ=some (.nx,ρ):=rfl
theorem exs_cons {s:S} {r:List S}:exs P C W (s :: r) ρ=(ex P C W s ρ).next (exs P C W r):=rfl
theorem rs_none {r:Run} {ρ0:Env}:r.restore none ρ0=r:=by cases r with | none=>rfl | some y=>obtain ⟨fl,ρ⟩:=y; rfl
theorem to_none:takeOut none ρ=ρ:=rfl
theorem it_r1 {a:Hd} {n:Int} (h:a.get ρ=some (.int n)) (h1:-1000000≤n) (h2:n≤1000000):itemsOf .rng [a] ρ=some ((List.range n.toNat).map λ(j:Nat)=>.int (j:Int),none):=by
 simp only [itemsOf,h]; exact if_pos ⟨h1,h2⟩
theorem it_ts {i:Nat} {ds:List D} (h:ρ[i]?=some (.sh (.tup ds))):itemsOf .of [.slot i] ρ=some (ds,none):=by simp only [itemsOf,h]
theorem loopF_inv {bind:D→Env→Option Env} {body:Env→Run} (I:Env→Prop) {ds:List D} (h:∀ d∈ds,∀ ρ,I ρ→∃ ρ1,bind d ρ=some ρ1∧∃ ρ2,body ρ1=some (.nx,ρ2)∧I ρ2):∀ {ρ:Env},I ρ→∃ ρ',loopF bind body ds ρ=some (.nx,ρ')∧I ρ':=by
 induction ds with
 | nil=>exact λhρ=>⟨_,rfl,hρ⟩
 | cons d ds ih =>
  intro ρ hρ
  obtain ⟨ρ1,e1,ρ2,e2,h2⟩:=h d (by simp) ρ hρ
  obtain ⟨ρ',e3,h3⟩:=ih (λd' hd'=>h d' (by simp [hd'])) h2
  exact ⟨ρ',by simp only [loopF,e1,e2,e3],h3⟩
theorem loopF_inv' {bind:D→Env→Option Env} {body:Env→Run} (I:List D→Env→Prop) {ds:List D} (h:∀ pre d post,ds=pre ++ d :: post→∀ ρ,I pre ρ→∃ ρ1,bind d ρ=some ρ1∧∃ ρ2,body ρ1=some (.nx,ρ2)∧I (pre ++ [d]) ρ2) {ρ:Env} (h0:I [] ρ):∃ ρ',loopF bind body ds ρ=some (.nx,ρ')∧I ds ρ':=by
 have key:∀ (post pre:List D) (ρ:Env),ds=pre ++ post→I pre ρ→∃ ρ',loopF bind body post ρ=some (.nx,ρ')∧I ds ρ':=by
  intro post
  induction post with
  | nil=>intro pre ρ e hp; rw [List.append_nil] at e; subst e; exact ⟨ρ,rfl,hp⟩
  | cons d post ih =>
   intro pre ρ e hp
   obtain ⟨ρ1,e1,ρ2,e2,h2⟩:=h pre d post e ρ hp
   obtain ⟨ρ',e3,h3⟩:=ih (pre ++ [d]) ρ2 (by rw [e]; simp) h2
   exact ⟨ρ',by simp only [loopF,e1,e2,e3],h3⟩
 exact key ds [] ρ rfl h0
noncomputable def kRun (as:List Sl):Run→Res RV
 | some (.nx,ρ)=>some (.ok (.sh .non),back as ρ)
 | some (.rt v,ρ)=>some (.ok v,back as ρ)
 | _=>none
theorem kRun_nx {as:List Sl}:kRun as (some (.nx,ρ))=some (.ok (.sh .non),back as ρ):=rfl
theorem kRun_rt {as:List Sl} {v:RV}:kRun as (some (.rt v,ρ))=some (.ok v,back as ρ):=rfl
theorem run_ {T:Tab} {n:Nat} {f:String} {as:List Sl} {fn:Fn} (hT:T f=some fn) (h1:as.length=fn.pins.length) (h2:as.all pinOk=true) (h3:fn.rs=false:=by rfl):run T W (n+1) f as=kRun as (exs T.pins (run T W n) W fn.body (as ++ List.replicate fn.nl .un)):=by
 simp only [run,hT]
 rw [if_pos ⟨h1,h2⟩,h3]
 generalize exs T.pins (run T W n) W fn.body (as ++ List.replicate fn.nl .un)=r
 obtain _ | ⟨fl,ρ⟩:=r
 ·rfl
 ·cases fl <;> rfl
noncomputable def raised (T:Tab) (W n:Nat) (fn:Fn) (as:List Sl):Option (Exc × Env):=exsX T.pins (run T W n) W fn.body (as ++ List.replicate fn.nl .un)
noncomputable def kRunX (as:List Sl) (r:Run) (o:Option (Exc × Env)):Res RV:=match r with
 | some (.nx,ρ)=>some (.ok (.sh .non),back as ρ)
 | some (.rt v,ρ)=>some (.ok v,back as ρ)
 | _=>match o with
  | some (x,ρ)=>some (.ex x,back as ρ)
  | none=>none
theorem kRunX_nx {as:List Sl} {o:Option (Exc × Env)}:kRunX as (some (.nx,ρ)) o=some (.ok (.sh .non),back as ρ):=rfl
theorem kRunX_rt {as:List Sl} {v:RV} {o:Option (Exc × Env)}:kRunX as (some (.rt v,ρ)) o=some (.ok v,back as ρ):=rfl
theorem kRunX_n {as:List Sl} {o:Option (Exc × Env)}:kRunX as none o=(match o with | some (x,ρ)=>some (.ex x,back as ρ) | none=>none):=rfl
theorem run_X {T:Tab} {n:Nat} {f:String} {as:List Sl} {fn:Fn} (hT:T f=some fn) (h1:as.length=fn.pins.length) (h2:as.all pinOk=true) (h3:fn.rs=true:=by rfl):run T W (n+1) f as=kRunX as (exs T.pins (run T W n) W fn.body (as ++ List.replicate fn.nl .un)) (raised T W n fn as):=by
 simp only [run,hT]
 rw [if_pos ⟨h1,h2⟩,h3]
 unfold raised
 generalize exs T.pins (run T W n) W fn.body (as ++ List.replicate fn.nl .un)=r
 obtain _ | ⟨fl,ρ⟩:=r
 ·rfl
 ·cases fl <;> rfl
end
end CI
namespace CI
open PySem PySem.Spec PyProof.Rows L2
noncomputable def conOk:D→Value→Bool
 | .non,.none=>true
 | .bl a,.bool b=>a == b
 | .int i,.int j _=>i == j
 | .str x,.str y _=>x == y && PyData.strOk x
 | _,_=>false
noncomputable def conOks:List D→List Value→Bool
 | [],[]=>true
 | d :: ds,v :: vs=>conOk d v && conOks ds vs
 | _,_=>false
theorem conOk_ok {K:PySem.W.Frag} {d:D} {u:Value} (h:conOk d u=true):∃ v,RelV v u∧∀ G,Rep K G d v:=by
 cases d <;> cases u <;> simp only [conOk,Bool.false_eq_true] at h
 ·exact ⟨.non,rfl,λG=>by simp [Rep]⟩
 ·exact ⟨.bl _,rfl,λG=>by simp [Rep,eq_of_beq h]⟩
 ·rename_i i j t
  exact ⟨.int i,⟨t,by rw [eq_of_beq h]⟩,λG=>by simp [Rep]⟩
 ·rename_i x y t
  rw [Bool.and_eq_true] at h
  exact ⟨.str x,⟨t,by rw [eq_of_beq h.1]⟩,λG=>by simp [Rep,h.2]⟩
theorem conOks_ok {K:PySem.W.Frag}:∀ {ds:List D} {us:List Value},conOks ds us=true→∃ vs,Vals vs us∧∀ G,Reps K G ds vs
 | [],[],_=>⟨[],.nil,λG=>Reps.nil⟩
 | d :: ds,u :: us,h=>by
  simp only [conOks,Bool.and_eq_true] at h
  obtain ⟨v,h1,h2⟩:=conOk_ok (K:=K) h.1
  obtain ⟨vs,h3,h4⟩:=conOks_ok (K:=K) h.2
  exact ⟨v :: vs,.cons h1 h3,λG=>Reps.cons (h2 G) (h4 G)⟩
 | [],_ :: _,h=>by simp [conOks] at h
 | _ :: _,[],h=>by simp [conOks] at h
theorem con_tup {K:PySem.W.Frag} {mg:Str→Option Value} {h:Heap} {T:Tab} {gl:Str→GV} {x:Str} {a:Addr} {its:Array Value} {n:Nat} {dd:Option Addr} {sl} {ds:List D} (X:K.In h) (G:h.Ns mainGlobals mg)
  (ha:PySem.W.nsIn K mainGlobals x=some (some (.ref a))) (hl:K.lookup a=some ⟨.type "tuple",dd,.seq its n,sl⟩) (hc:conOks ds its.toList=true) (hz:decide (its.size≤1000)=true):GlAt K mg T gl (x,.con (.tup ds)):=by
 obtain ⟨vs,h1,h2⟩:=conOks_ok (K:=K) hc
 refine ⟨_,.ref a,PySem.W.mg_of X G ha,rfl,λG=>?_⟩
 simp only [Rep]
 exact ⟨a,vs,rfl,.inr ⟨_,its,n,hl,rfl,rfl,Nat.le_trans (of_decide_eq_true hz) (by decide),h1⟩,h2 G⟩
noncomputable section
variable {P:Pins} {C:Calls} {t:Bool} {ρ ρ1:Env}
noncomputable def kComp (P:Pins) (C:Calls) (elt:E) (tg:List Nat) (k:ItK) (cond:List E) (imp:List Nat) (nl:Nat) (hs:List Hd) (ρ1:Env):Res RV :=
 match itemsOf k hs ρ1 with
 | none=>none
 | some (ds,o)=>(doCall (imp.map λ_=>true) (compF (evTs P C cond) (ev P C false elt) (bindT (tg.length == 1) tg) ds nl) (imp.map Hd.slot) (takeOut o ρ1)).bind (giveOut o ρ1)
theorem ev_comp {elt:E} {tg:List Nat} {k:ItK} {its cond:List E} {imp:List Nat} {nl:Nat}:ev P C t (.comp elt tg k its cond imp nl) ρ=wrap t ((evHs P C its ρ).bind (kComp P C elt tg k cond imp nl)):=rfl
theorem kComp_n {elt:E} {tg:List Nat} {k:ItK} {cond:List E} {imp:List Nat} {nl:Nat} {hs:List Hd} {ds:List D} (h:itemsOf k hs ρ1=some (ds,none)) :
  kComp P C elt tg k cond imp nl hs ρ1=(doCall (imp.map λ_=>true) (compF (evTs P C cond) (ev P C false elt) (bindT (tg.length == 1) tg) ds nl) (imp.map Hd.slot) ρ1).bind (giveOut none ρ1):=by
 unfold kComp; rw [h]; rfl
theorem giveOut_n {v:RV} {ρ2:Env}:giveOut none ρ1 v ρ2=some (.ok v,ρ2):=rfl
noncomputable def kCmpF (as:List Sl) (acc:List D) (ρi:Env):Res RV:=if smallL acc.length then some (.ok (.ow (.lst acc)),back as ρi) else none
theorem compF_ {tests elt:Env→Res RV} {bind:D→Env→Option Env} {ds:List D} {nl:Nat} {as:List Sl} (h:as.all pinOk=true):compF tests elt bind ds nl as=(compL tests elt bind ds [] (as ++ List.replicate nl .un)).bind (kCmpF as):=by
 unfold compF; rw [if_pos h]; rfl
theorem kCmpF_ {as:List Sl} {acc:List D} {ρi:Env} (h:smallL acc.length=true):kCmpF as acc ρi=some (.ok (.ow (.lst acc)),back as ρi):=by unfold kCmpF; rw [if_pos h]
theorem evTs_nil:evTs P C [] ρ=some (.ok (.sh (.bl true)),ρ):=rfl
noncomputable def kTs (P:Pins) (C:Calls) (es:List E) (v:RV) (ρ1:Env):Res RV:=match v with
 | .sh (.bl true)=>evTs P C es ρ1
 | .sh (.bl false)=>some (.ok (.sh (.bl false)),ρ1)
 | _=>none
theorem kTs_1 {b:Bool}:kTs P C [] (.sh (.bl b)) ρ1=some (.ok (.sh (.bl b)),ρ1):=by
 cases b
 ·rfl
 ·show evTs P C [] ρ1=_
  exact evTs_nil
theorem pinOk_sh {d:D}:pinOk (.sh d)=true:=rfl
theorem compL_inv {tests elt:Env→Res RV} {bind:D→Env→Option Env} {ds:List D} (I:Nat→List D→Env→Prop)
  (step:∀ (j:Nat) (d:D),ds[j]?=some d→∀ acc ρ,I j acc ρ→∃ ρ1 c ρ2,bind d ρ=some ρ1∧tests ρ1=some (.ok (.sh (.bl c)),ρ2)∧(c=true→∃ v ρ3,elt ρ2=some (.ok v,ρ3)∧I (j+1) (acc ++ [v.d]) ρ3)∧(c=false→I (j+1) acc ρ2)) :
  ∀ acc ρ,I 0 acc ρ→∃ acc' ρ',compL tests elt bind ds acc ρ=some (.ok acc',ρ')∧I ds.length acc' ρ'∧acc'.length≤acc.length+ds.length:=by
 have key:∀ (es:List D) (j:Nat),ds.drop j=es→∀ acc ρ,I j acc ρ→∃ acc' ρ',compL tests elt bind es acc ρ=some (.ok acc',ρ')∧I (j+es.length) acc' ρ'∧acc'.length≤acc.length+es.length:=by
  intro es
  induction es with
  | nil=>intro j _ acc ρ h; exact ⟨acc,ρ,rfl,h,by simp⟩
  | cons d es ih =>
   intro j hj acc ρ h
   have hd:ds[j]?=some d:=by
    have:(ds.drop j)[0]?=some d:=by rw [hj]; rfl
    simpa using this
   have hj':ds.drop (j+1)=es:=by
    have:(ds.drop j).drop 1=es:=by rw [hj]; rfl
    rw [List.drop_drop] at this
    exact this
   obtain ⟨ρ1,c,ρ2,h1,h2,h3,h4⟩:=step j d hd acc ρ h
   simp only [compL,h1,h2,Res.bind]
   cases c with
   | false =>
    obtain ⟨acc',ρ',e1,e2,e3⟩:=ih (j+1) hj' acc ρ2 (h4 rfl)
    refine ⟨acc',ρ',e1, ?_,by simp only [List.length_cons]; omega⟩
    have:j+(d :: es).length=j+1+es.length:=by simp only [List.length_cons]; omega
    rw [this]; exact e2
   | true =>
    obtain ⟨v,ρ3,h5,h6⟩:=h3 rfl
    obtain ⟨acc',ρ',e1,e2,e3⟩:=ih (j+1) hj' (acc ++ [v.d]) ρ3 h6
    simp only [h5]
    refine ⟨acc',ρ',e1, ?_,by simp only [List.length_append,List.length_cons,List.length_nil] at e3 ⊢; omega⟩
    have:j+(d :: es).length=j+1+es.length:=by simp only [List.length_cons]; omega
    rw [this]; exact e2
 intro acc ρ h
 have:=key ds 0 rfl acc ρ h
 simpa using this
theorem smallL_ {n:Nat} (h:n≤1000000):smallL n=true:=sm_le h
end
end CI
namespace CI
open PySem (Operator CmpOp Str)
noncomputable section
variable {P:Pins} {C:Calls} {W:Nat} {t:Bool} {ρ ρ1 ρ2:Env}
def isXO (sn:List (List PySem.Str × List PySem.Str)) (o:Option D):Option RV:=o.bind (isXD sn)
def kIsX (sn:List (List PySem.Str × List PySem.Str)) (x:Hd) (ρ:Env):Res RV:=done (isXO sn (x.get ρ)) ρ
theorem kIsX_ {sn:List (List PySem.Str × List PySem.Str)} {x:Hd}:kIsX sn x ρ=done (isXO sn (x.get ρ)) ρ:=rfl
theorem ev_isX {a:E} {sn:List (List PySem.Str × List PySem.Str)}:ev P C t (.isX a sn) ρ=wrap t ((opd P C a ρ).bind (kIsX sn)):=rfl
noncomputable def kTry (cs:List PySem.Str) (i j:Nat) (r:Run) (o:Option (Exc × Env)):Run:=match r with
 | some (.nx,ρ1)=>some (.nx,ρ1)
 | _=>caught cs i j o
theorem ex_tryA {b:List S} {cs:List PySem.Str} {i j:Nat}:ex P C W (.tryA b cs i j) ρ=kTry cs i j (exs P C W b ρ) (exsX P C W b ρ):=rfl
noncomputable def kAX (r:Res Hd) (f:Env→Option (Exc × Env)) (o:Option (Exc × Env)):Option (Exc × Env):=match r with
 | some (.ok _,ρ1)=>f ρ1
 | _=>o
theorem evXs_cons {e:E} {es:List E}:evXs P C (e :: es) ρ=kAX (opd P C e ρ) (evXs P C es) (evX P C e ρ):=rfl
theorem kAX_ok {h:Hd} {f:Env→Option (Exc × Env)} {o:Option (Exc × Env)}:kAX (some (.ok h,ρ)) f o=f ρ:=rfl
theorem fl_ex {α:Type} {x:Exc} {f:α→Env→Run}:Res.flow (some (.ex x,ρ)) f=some (.ex x,ρ):=rfl
theorem nx_ex {x:Exc} {f:Env→Run}:Run.next (some (.ex x,ρ)) f=some (.ex x,ρ):=rfl
theorem nx_none {f:Env→Run}:Run.next none f=none:=rfl
theorem ex_rse {c:PySem.Str} {es:List E}:ex P C W (.rse c es) ρ=none:=rfl
noncomputable def kSX (r:Run) (f:Env→Option (Exc × Env)) (o:Option (Exc × Env)):Option (Exc × Env):=match r with
 | some (.nx,ρ1)=>f ρ1
 | _=>o
theorem exsX_cons {s:S} {r:List S}:exsX P C W (s :: r) ρ=kSX (ex P C W s ρ) (exsX P C W r) (exX P C W s ρ):=rfl
theorem kSX_nx {f:Env→Option (Exc × Env)} {o:Option (Exc × Env)}:kSX (some (.nx,ρ)) f o=f ρ:=rfl
theorem kSX_n {f:Env→Option (Exc × Env)} {o:Option (Exc × Env)}:kSX none f o=o:=rfl
theorem kSX_ex {x:Exc} {f:Env→Option (Exc × Env)} {o:Option (Exc × Env)}:kSX (some (.ex x,ρ)) f o=o:=rfl
noncomputable def kIX (r:Res RV) (f g:Env→Option (Exc × Env)):Option (Exc × Env):=match r with
 | some (.ok (.sh (.bl true)),ρ1)=>f ρ1
 | some (.ok (.sh (.bl false)),ρ1)=>g ρ1
 | _=>none
theorem exX_ifs {c:E} {a b:List S}:exX P C W (.ifs c a b) ρ=kIX (ev P C true c ρ) (exsX P C W a) (exsX P C W b):=rfl
theorem kIX_t {f g:Env→Option (Exc × Env)}:kIX (some (.ok (.sh (.bl true)),ρ)) f g=f ρ:=rfl
theorem kIX_f {f g:Env→Option (Exc × Env)}:kIX (some (.ok (.sh (.bl false)),ρ)) f g=g ρ:=rfl
noncomputable def kRX (c:PySem.Str) (r:Res (List D)):Option (Exc × Env):=match r with
 | some (.ok _,ρ1)=>some (⟨c,none⟩,ρ1)
 | _=>none
theorem exX_rse {c:PySem.Str} {es:List E}:exX P C W (.rse c es) ρ=kRX c (evs P C es ρ):=rfl
theorem kRX_ {c:PySem.Str} {ds:List D}:kRX c (some (.ok ds,ρ))=some (⟨c,none⟩,ρ):=rfl
theorem exX_expr {e:E}:exX P C W (.expr e) ρ=evX P C e ρ:=rfl
def kDX (r:Res RV):Option (Exc × Env):=match r with
 | some (.ex x,ρ')=>some (x,ρ')
 | _=>none
theorem kDX_ {x:Exc}:kDX (some (.ex x,ρ))=some (x,ρ):=rfl
noncomputable def kCX (P:Pins) (C:Calls) (f:String) (r:Res (List Hd)) (o:Option (Exc × Env)):Option (Exc × Env):=match r with
 | some (.ok hs,ρ1)=>kDX (doCall (P f) (C f) hs ρ1)
 | _=>o
theorem evX_call_ {f:String} {es:List E}:evX P C (.call f es) ρ=kCX P C f (evHs P C es ρ) (evXs P C es ρ):=rfl
theorem kCX_ {f:String} {hs:List Hd} {o:Option (Exc × Env)}:kCX P C f (some (.ok hs,ρ)) o=kDX (doCall (P f) (C f) hs ρ):=rfl
theorem kTry_ex {cs:List PySem.Str} {i j:Nat} {x:Exc} {o:Option (Exc × Env)}:kTry cs i j (some (.ex x,ρ)) o=caught cs i j o:=rfl
noncomputable def kCa (i j:Nat) (d:D) (o:Option Env):Run:=o.bind λρ2=>(store j (.sh d) ρ2).map λρ3=>(.nx,ρ3.set i .mv)
theorem caught_ {cs:List PySem.Str} {i j:Nat} {x:Exc} (h:cs.contains x.cls=true) (h':i≠j):caught cs i j (some (x,ρ))=kCa i j (.exn x.cls x.num) (store i (.sh (.exn x.cls x.num)) ρ):=by
 show (if cs.contains x.cls=true∧i≠j then _ else none)=_
 rw [if_pos ⟨h,h'⟩]
 rfl
def kCb (i:Nat) (o:Option Env):Run:=o.map λρ3=>(.nx,ρ3.set i .mv)
theorem kCa_ {i j:Nat} {d:D}:kCa i j d (some ρ)=kCb i (store j (.sh d) ρ):=rfl
theorem kCb_ {i:Nat}:kCb i (some ρ)=some (.nx,ρ.set i .mv):=rfl
theorem io_verr {c:PySem.Str} {m:Option Int}:isiO [.verr] (some (.exn c m))=some (.sh (.bl true)):=rfl
theorem isX_ {sn:List (List PySem.Str × List PySem.Str)} {c:PySem.Str} {m:Option Int} {b:Bool} (h:isXs c sn=some b):isXO sn (some (.exn c m))=some (.sh (.bl b)):=by
 show (isXs c sn).map _=_
 rw [h]
 rfl
theorem opd_bitl {a:E}:opd P C (.bitl a) ρ=(ev P C false (.bitl a) ρ).bind kVal:=rfl
def bitO (o:Option D):Option RV:=o.bind bitD
theorem bitO_ {i:Int}:bitO (some (.int i))=some (.sh (.int (PySem.Builtin.Int.intBits i))):=rfl
def kBit (x:Hd) (ρ:Env):Res RV:=done (bitO (x.get ρ)) ρ
theorem kBit_ {x:Hd}:kBit x ρ=done (bitO (x.get ρ)) ρ:=rfl
theorem ev_bitl {a:E}:ev P C t (.bitl a) ρ=wrap t ((opd P C a ρ).bind kBit):=rfl
theorem zg0 {α:Type} {a:α} {l:List α}:(a :: l)[0]?=some a:=rfl
theorem zg1 {α:Type} {a:α} {l:List α} {n:Nat}:(a :: l)[n+1]?=l[n]?:=rfl
theorem zs0 {α:Type} {a b:α} {l:List α}:(a :: l).set 0 b=b :: l:=rfl
theorem zs1 {α:Type} {a b:α} {l:List α} {n:Nat}:(a :: l).set (n+1) b=a :: l.set n b:=rfl
theorem zb {α β:Type} {a:α} {f:α→Option β}:(some a).bind f=f a:=rfl
theorem zm {α β:Type} {a:α} {f:α→β}:(some a).map f=some (f a):=rfl
theorem zi {α:Type} {a:α}:(some a).isSome=true:=rfl
theorem zc {α:Type} {a:α} {l m:List α}:(a :: l) ++ m=a :: (l ++ m):=rfl
theorem zn {α:Type} {l:List α}:[] ++ l=l:=rfl
theorem zr0 {α:Type} {a:α}:List.replicate 0 a=[]:=rfl
theorem zr1 {α:Type} {a:α} {n:Nat}:List.replicate (n+1) a=a :: List.replicate n a:=rfl
theorem zl0 {α:Type}:([]:List α).length=0:=rfl
theorem zl1 {α:Type} {a:α} {l:List α}:(a :: l).length=l.length+1:=rfl
theorem znt:(!true)=false:=rfl
theorem znf:(!false)=true:=rfl
theorem zko {d:D} {p l:Bool} {as:List Sl} {b:Sl} {bs:Env}:back (.ow d p l :: as) (b :: bs)=b :: back as bs:=rfl
theorem zks {d:D} {as:List Sl} {b:Sl} {bs:Env}:back (.sh d :: as) (b :: bs)=.sh d :: back as bs:=rfl
theorem zkn {bs:Env}:back [] bs=[]:=rfl
end
theorem len1 {α:Type} {Q:List α→Prop} (h:∀ a0,Q [a0]) (us:List α) (hl:us.length=1):Q us:=by
 obtain _ | ⟨a0,r0⟩:=us
 ·simp at hl
 obtain _ | ⟨x,y⟩:=r0
 ·exact h a0
 ·simp at hl
theorem len2 {α:Type} {Q:List α→Prop} (h:∀ a0 a1,Q [a0,a1]) (us:List α) (hl:us.length=2):Q us:=by
 obtain _ | ⟨a0,r0⟩:=us
 ·simp at hl
 obtain _ | ⟨a1,r1⟩:=r0
 ·simp at hl
 obtain _ | ⟨x,y⟩:=r1
 ·exact h a0 a1
 ·simp at hl
theorem len3 {α:Type} {Q:List α→Prop} (h:∀ a0 a1 a2,Q [a0,a1,a2]) (us:List α) (hl:us.length=3):Q us:=by
 obtain _ | ⟨a0,r0⟩:=us
 ·simp at hl
 obtain _ | ⟨a1,r1⟩:=r0
 ·simp at hl
 obtain _ | ⟨a2,r2⟩:=r1
 ·simp at hl
 obtain _ | ⟨x,y⟩:=r2
 ·exact h a0 a1 a2
 ·simp at hl
theorem len4 {α:Type} {Q:List α→Prop} (h:∀ a0 a1 a2 a3,Q [a0,a1,a2,a3]) (us:List α) (hl:us.length=4):Q us:=by
 obtain _ | ⟨a0,r0⟩:=us
 ·simp at hl
 obtain _ | ⟨a1,r1⟩:=r0
 ·simp at hl
 obtain _ | ⟨a2,r2⟩:=r1
 ·simp at hl
 obtain _ | ⟨a3,r3⟩:=r2
 ·simp at hl
 obtain _ | ⟨x,y⟩:=r3
 ·exact h a0 a1 a2 a3
 ·simp at hl
theorem len5 {α:Type} {Q:List α→Prop} (h:∀ a0 a1 a2 a3 a4,Q [a0,a1,a2,a3,a4]) (us:List α) (hl:us.length=5):Q us:=by
 obtain _ | ⟨a0,r0⟩:=us
 ·simp at hl
 obtain _ | ⟨a1,r1⟩:=r0
 ·simp at hl
 obtain _ | ⟨a2,r2⟩:=r1
 ·simp at hl
 obtain _ | ⟨a3,r3⟩:=r2
 ·simp at hl
 obtain _ | ⟨a4,r4⟩:=r3
 ·simp at hl
 obtain _ | ⟨x,y⟩:=r4
 ·exact h a0 a1 a2 a3 a4
 ·simp at hl
open PySem PySem.Spec PyProof.Rows L2 in
def BQ (x qual:PySem.Str) (st:PySem.Stmt) (kV doc pm:PySem.Value) (an:Option PySem.Addr) (cdv ct:PySem.Value) (us:List PySem.Value):Prop:=PySem.bindArgs (PySem.W.fnOf x qual (defArgs st) (defBody st) (defScope st) .none kV doc pm an cdv ct) ⟨us,[]⟩=pure ((psOf st).zip us)
theorem fc {α:Type} {P:α→Prop} {a:α} {l:List α} (h:P a) (t:∀ x∈l,P x):∀ x∈a :: l,P x:=List.forall_mem_cons.mpr ⟨h,t⟩
section
open PySem PySem.Spec PyProof.Rows L2
abbrev Sc4 (st:Stmt):Prop:=(nOf st).Nodup∧(nOf st).take (psOf st).length=psOf st∧(∀ x∈psOf st,(defScope st).names.lookup x=some .local∨(defScope st).names.lookup x=some .cell)∧∀ y∈(defScope st).names,y.2≠.free
abbrev BnA (x qual:PySem.Str) (st:PySem.Stmt):Prop:=∀ (kV doc pm:PySem.Value) (an:Option PySem.Addr) (cdv ct:PySem.Value) (us:List PySem.Value),us.length=(psOf st).length→BQ x qual st kV doc pm an cdv ct us
theorem mkD {gl:PySem.Str→GV} {st:Stmt} {x qual:PySem.Str} {fn:Fn} (h1:(defScope st).kind=.function) (h2:(defScope st).isCoroutine=false) (h3:(defScope st).isGenerator=false) (h:Sc4 st∧(nOf st).length=fn.pins.length+fn.nl∧(psOf st).length=fn.pins.length) (b:fn.body=coreOf gl st) (q:BnA x qual st):DefOkQ gl st x qual fn :=
 ⟨⟨h1,h2,h3,h.1.1,h.1.2.1,h.1.2.2.1,h.1.2.2.2⟩,b,h.2.1,h.2.2,q⟩
variable {x qual:PySem.Str} {st:Stmt}
theorem bn1 (hn:(psOf st).length=1) (h:∀ kV doc pm an cdv ct a0,BQ x qual st kV doc pm an cdv ct [a0]):BnA x qual st:=λkV doc pm an cdv ct us hl=>len1 (h kV doc pm an cdv ct) us (hl.trans hn)
theorem bn2 (hn:(psOf st).length=2) (h:∀ kV doc pm an cdv ct a0 a1,BQ x qual st kV doc pm an cdv ct [a0,a1]):BnA x qual st:=λkV doc pm an cdv ct us hl=>len2 (h kV doc pm an cdv ct) us (hl.trans hn)
theorem bn3 (hn:(psOf st).length=3) (h:∀ kV doc pm an cdv ct a0 a1 a2,BQ x qual st kV doc pm an cdv ct [a0,a1,a2]):BnA x qual st:=λkV doc pm an cdv ct us hl=>len3 (h kV doc pm an cdv ct) us (hl.trans hn)
theorem bn4 (hn:(psOf st).length=4) (h:∀ kV doc pm an cdv ct a0 a1 a2 a3,BQ x qual st kV doc pm an cdv ct [a0,a1,a2,a3]):BnA x qual st:=λkV doc pm an cdv ct us hl=>len4 (h kV doc pm an cdv ct) us (hl.trans hn)
theorem bn5 (hn:(psOf st).length=5) (h:∀ kV doc pm an cdv ct a0 a1 a2 a3 a4,BQ x qual st kV doc pm an cdv ct [a0,a1,a2,a3,a4]):BnA x qual st:=λkV doc pm an cdv ct us hl=>len5 (h kV doc pm an cdv ct) us (hl.trans hn)
end
end CI
namespace Tx
open PySem PySem.Spec PyProof.Rows L2 CI
noncomputable def top (i:Nat):Stmt:=PySem.Challenge.pw_canonwright_k04_no_house.main.body.getD i (.Pass ⟨0,0,0,0⟩)
noncomputable def xy_Broken:List Str:=[]
noncomputable def xn_Broken:List Str:=["NoHouse"]
noncomputable def xy_NoNote:List Str:=[]
noncomputable def xn_NoNote:List Str:=["NoHouse"]
noncomputable def xy_NoNumber:List Str:=[]
noncomputable def xn_NoNumber:List Str:=["NoHouse"]
noncomputable def xy_NoRow:List Str:=[]
noncomputable def xn_NoRow:List Str:=["NoHouse"]
noncomputable def xy_NoRule:List Str:=[]
noncomputable def xn_NoRule:List Str:=["NoHouse"]
noncomputable def xy_NoText:List Str:=[]
noncomputable def xn_NoText:List Str:=["NoHouse"]
noncomputable def xy_NoVoice:List Str:=[]
noncomputable def xn_NoVoice:List Str:=["NoHouse"]
noncomputable def xy_TooMany:List Str:=[]
noncomputable def xn_TooMany:List Str:=["NoHouse"]
noncomputable def xy_Unlike:List Str:=[]
noncomputable def xn_Unlike:List Str:=["NoHouse"]
noncomputable def xy_NoHouse:List Str:=["NoHouse"]
noncomputable def xn_NoHouse:List Str:=[]
noncomputable def cs_CanonError:List Str:=["NoHouse"]
noncomputable def xs_0:List (List Str × List Str):=[(xy_Broken,xn_Broken),(xy_NoNote,xn_NoNote),(xy_NoNumber,xn_NoNumber),(xy_NoRow,xn_NoRow),(xy_NoRule,xn_NoRule),(xy_NoText,xn_NoText),(xy_NoVoice,xn_NoVoice),(xy_TooMany,xn_TooMany),(xy_Unlike,xn_Unlike)]
noncomputable def xs_1:List (List Str × List Str):=[(xy_NoHouse,xn_NoHouse)]
noncomputable def L:List (Str × GV):=[((Str.ofString "WAYS",GV.con (.tup [(.str ("like":Str)),(.str ("against":Str)),(.str ("aside":Str)),(.str ("any":Str))])):Str × GV),((Str.ofString "LATE",GV.con (.int 0)):Str × GV),((Str.ofString "SHIFT",GV.con (.int 1)):Str × GV),((Str.ofString "TURNED",GV.con (.int 2)):Str × GV),((Str.ofString "is_whole",GV.fn "is_whole"):Str × GV),((Str.ofString "is_within",GV.fn "is_within"):Str × GV),((Str.ofString "are_within",GV.fn "are_within"):Str × GV),((Str.ofString "is_follower",GV.fn "is_follower"):Str × GV),((Str.ofString "is_way",GV.fn "is_way"):Str × GV),((Str.ofString "are_spans",GV.fn "are_spans"):Str × GV),((Str.ofString "is_rule",GV.fn "is_rule"):Str × GV),((Str.ofString "check_frame",GV.fn "check_frame"):Str × GV),((Str.ofString "house_of",GV.fn "house_of"):Str × GV),((Str.ofString "_law_pen",GV.fn "L_pen"):Str × GV),((Str.ofString "_law_draw",GV.fn "L_draw"):Str × GV),((Str.ofString "_law_rule",GV.fn "L_rule"):Str × GV),((Str.ofString "_law_house",GV.fn "L_house"):Str × GV),((Str.ofString "_law_put_out",GV.fn "L_put_out"):Str × GV),((Str.ofString "_law_refused",GV.fn "L_refused"):Str × GV),((Str.ofString "law",GV.fn "law"):Str × GV),((Str.ofString "ValueError",GV.blt):Str × GV),((Str.ofString "all",GV.blt):Str × GV),((Str.ofString "bool",GV.blt):Str × GV),((Str.ofString "enumerate",GV.blt):Str × GV),((Str.ofString "int",GV.blt):Str × GV),((Str.ofString "isinstance",GV.blt):Str × GV),((Str.ofString "len",GV.blt):Str × GV),((Str.ofString "list",GV.blt):Str × GV),((Str.ofString "range",GV.blt):Str × GV),((Str.ofString "str",GV.blt):Str × GV),((Str.ofString "tuple",GV.blt):Str × GV),((Str.ofString "NoHouse",GV.exc):Str × GV),((col "Broken",GV.subx xy_Broken xn_Broken):Str × GV),((col "NoNote",GV.subx xy_NoNote xn_NoNote):Str × GV),((col "NoNumber",GV.subx xy_NoNumber xn_NoNumber):Str × GV),((col "NoRow",GV.subx xy_NoRow xn_NoRow):Str × GV),((col "NoRule",GV.subx xy_NoRule xn_NoRule):Str × GV),((col "NoText",GV.subx xy_NoText xn_NoText):Str × GV),((col "NoVoice",GV.subx xy_NoVoice xn_NoVoice):Str × GV),((col "TooMany",GV.subx xy_TooMany xn_TooMany):Str × GV),((col "Unlike",GV.subx xy_Unlike xn_Unlike):Str × GV),((col "NoHouse",GV.subx xy_NoHouse xn_NoHouse):Str × GV),((cat "CanonError",GV.exs cs_CanonError):Str × GV)]
noncomputable def el_are_within_0:E:=(.call "is_within" [(.var 3),(.var 1),(.var 0)])
noncomputable def bd_house_of_0:List S:=[(.ifs (.not (.call "is_follower" [(.var 6)])) [.bad] [])]
noncomputable def bd_house_of_1:List S:=[(.ifs (.not (.call "is_rule" [(.var 1),(.var 2),(.bif .len [(.var 3)]),(.var 6)])) [.bad] [])]
noncomputable def bd_L_house_0:List S:=[(.asg 8 (.call "L_draw" [(.var 0),(.ix (.lst [(.con (.int 2)),(.con (.int 5))]) (.bif .int [(.var 1)]))])),(.expr (.app 6 (.tup [(.var 8),(.bin .Sub (.call "L_draw" [(.var 0),(.con (.int 25))]) (.con (.int 12))),(.cmp .Eq (.call "L_draw" [(.var 0),(.con (.int 4))]) (.con (.int 0)))])))]
noncomputable def bd_L_house_1:List S:=[(.expr (.app 9 (.call "L_rule" [(.var 0),(.var 2),(.var 3),(.var 4),(.var 5)])))]
noncomputable def bd_law_0:List S:=[(.asg 3 (.dlst [(.ix (.var 1) (.con (.int 0))),(.ix (.var 1) (.con (.int 1))),(.ix (.var 1) (.con (.int 2))),(.bif .list [(.ix (.var 1) (.con (.int 3)))]),(.bif .list [(.ix (.var 1) (.con (.int 4)))])])),(.ifs (.tmp 3 (.cmp .NotEq (.call "house_of" [(.ix (.var 3) (.con (.int 0))),(.ix (.var 3) (.con (.int 1))),(.ix (.var 3) (.con (.int 2))),(.ix (.var 3) (.con (.int 3))),(.ix (.var 3) (.con (.int 4)))]) (.var 1))) [(.ret (.con (.bl false)))] []),(.expr (.call "L_put_out" [(.call "L_pen" [(.var 0),(.bin .Add (.con (.int 2)) (.var 2))]),(.var 3)])),(.kif 3 4 (.lst [(.bif .list [(.ix (.var 3) (.con (.int 3)))]),(.bif .list [(.ix (.var 3) (.con (.int 4)))])]) (.or (.not (.call "L_refused" [(.var 3)])) (.cmp .NotEq (.lst [(.ix (.var 3) (.con (.int 3))),(.ix (.var 3) (.con (.int 4)))]) (.var 4))))]
noncomputable def st_L_rule_0:S:=(.asg 5 (.call "L_draw" [(.var 0),(.con (.int 9))]))
theorem x_st_L_rule_0 {P:Pins} {C:Calls} {W:Nat} {ρ:CI.Env}:ex P C W st_L_rule_0 ρ=ex P C W (.asg 5 (.call "L_draw" [(.var 0),(.con (.int 9))])) ρ:=(rfl)
noncomputable def st_L_rule_1:S:=(.ifs (.cmp .Lt (.var 5) (.con (.int 2))) [(.ret (.tup [(.con (.str ("span":Str))),(.call "L_draw" [(.var 0),(.var 2)]),(.call "L_draw" [(.var 0),(.bin .LShift (.con (.int 1)) (.var 3))])]))] [])
theorem x_st_L_rule_1 {P:Pins} {C:Calls} {W:Nat} {ρ:CI.Env}:ex P C W st_L_rule_1 ρ=ex P C W (.ifs (.cmp .Lt (.var 5) (.con (.int 2))) [(.ret (.tup [(.con (.str ("span":Str))),(.call "L_draw" [(.var 0),(.var 2)]),(.call "L_draw" [(.var 0),(.bin .LShift (.con (.int 1)) (.var 3))])]))] []) ρ:=(rfl)
noncomputable def st_L_rule_2:S:=(.ifs (.cmp .Eq (.var 5) (.con (.int 2))) [(.ret (.tup [(.con (.str ("span":Str))),(.call "L_draw" [(.var 0),(.var 2)]),(.bin .Sub (.bin .Sub (.bin .LShift (.con (.int 1)) (.var 3)) (.con (.int 1))) (.bin .LShift (.con (.int 1)) (.call "L_draw" [(.var 0),(.var 3)])))]))] [])
theorem x_st_L_rule_2 {P:Pins} {C:Calls} {W:Nat} {ρ:CI.Env}:ex P C W st_L_rule_2 ρ=ex P C W (.ifs (.cmp .Eq (.var 5) (.con (.int 2))) [(.ret (.tup [(.con (.str ("span":Str))),(.call "L_draw" [(.var 0),(.var 2)]),(.bin .Sub (.bin .Sub (.bin .LShift (.con (.int 1)) (.var 3)) (.con (.int 1))) (.bin .LShift (.con (.int 1)) (.call "L_draw" [(.var 0),(.var 3)])))]))] []) ρ:=(rfl)
noncomputable def st_L_rule_3:S:=(.ifs (.cmp .Eq (.var 5) (.con (.int 3))) [(.ret (.tup [(.con (.str ("leap":Str))),(.call "L_draw" [(.var 0),(.ix (.lst [(.con (.int 13)),(.bin .Add (.var 1) (.con (.int 1)))]) (.call "L_draw" [(.var 0),(.con (.int 2))]))])]))] [])
theorem x_st_L_rule_3 {P:Pins} {C:Calls} {W:Nat} {ρ:CI.Env}:ex P C W st_L_rule_3 ρ=ex P C W (.ifs (.cmp .Eq (.var 5) (.con (.int 3))) [(.ret (.tup [(.con (.str ("leap":Str))),(.call "L_draw" [(.var 0),(.ix (.lst [(.con (.int 13)),(.bin .Add (.var 1) (.con (.int 1)))]) (.call "L_draw" [(.var 0),(.con (.int 2))]))])]))] []) ρ:=(rfl)
noncomputable def st_L_rule_4:S:=(.ifs (.cmp .Eq (.var 5) (.con (.int 4))) [(.ret (.tup [(.con (.str ("back":Str))),(.bin .Add (.con (.int 1)) (.call "L_draw" [(.var 0),(.con (.int 12))])),(.bin .Add (.con (.int 1)) (.call "L_draw" [(.var 0),(.con (.int 12))]))]))] [])
theorem x_st_L_rule_4 {P:Pins} {C:Calls} {W:Nat} {ρ:CI.Env}:ex P C W st_L_rule_4 ρ=ex P C W (.ifs (.cmp .Eq (.var 5) (.con (.int 4))) [(.ret (.tup [(.con (.str ("back":Str))),(.bin .Add (.con (.int 1)) (.call "L_draw" [(.var 0),(.con (.int 12))])),(.bin .Add (.con (.int 1)) (.call "L_draw" [(.var 0),(.con (.int 12))]))]))] []) ρ:=(rfl)
noncomputable def st_L_rule_5:S:=(.ifs (.cmp .Eq (.var 5) (.con (.int 5))) [(.ret (.tup [(.con (.str ("again":Str))),(.bin .Add (.con (.int 1)) (.call "L_draw" [(.var 0),(.con (.int 3))]))]))] [])
theorem x_st_L_rule_5 {P:Pins} {C:Calls} {W:Nat} {ρ:CI.Env}:ex P C W st_L_rule_5 ρ=ex P C W (.ifs (.cmp .Eq (.var 5) (.con (.int 5))) [(.ret (.tup [(.con (.str ("again":Str))),(.bin .Add (.con (.int 1)) (.call "L_draw" [(.var 0),(.con (.int 3))]))]))] []) ρ:=(rfl)
noncomputable def st_L_rule_6:S:=(.ifs (.cmp .Eq (.var 5) (.con (.int 6))) [(.asg 6 (.ix (.lst [(.bin .Sub (.call "L_draw" [(.var 0),(.con (.int 121))]) (.con (.int 60))),(.bin .Sub (.call "L_draw" [(.var 0),(.con (.int 20))]) (.con (.int 12)))]) (.call "L_draw" [(.var 0),(.con (.int 2))]))),(.ret (.tup [(.con (.str ("range":Str))),(.var 6),(.bin .Add (.var 6) (.call "L_draw" [(.var 0),(.bin .Sub (.con (.int 61)) (.var 6))]))]))] [])
theorem x_st_L_rule_6 {P:Pins} {C:Calls} {W:Nat} {ρ:CI.Env}:ex P C W st_L_rule_6 ρ=ex P C W (.ifs (.cmp .Eq (.var 5) (.con (.int 6))) [(.asg 6 (.ix (.lst [(.bin .Sub (.call "L_draw" [(.var 0),(.con (.int 121))]) (.con (.int 60))),(.bin .Sub (.call "L_draw" [(.var 0),(.con (.int 20))]) (.con (.int 12)))]) (.call "L_draw" [(.var 0),(.con (.int 2))]))),(.ret (.tup [(.con (.str ("range":Str))),(.var 6),(.bin .Add (.var 6) (.call "L_draw" [(.var 0),(.bin .Sub (.con (.int 61)) (.var 6))]))]))] []) ρ:=(rfl)
noncomputable def st_L_rule_7:S:=(.ifs (.cmp .Eq (.var 5) (.con (.int 7))) [(.asg 7 (.call "L_draw" [(.var 0),(.bin .Add (.var 4) (.con (.int 1)))])),(.ret (.tup [(.con (.str ("above":Str))),(.var 7),(.bin .Mod (.bin .Add (.bin .Add (.var 7) (.con (.int 1))) (.call "L_draw" [(.var 0),(.var 4)])) (.bin .Add (.var 4) (.con (.int 1))))]))] [])
theorem x_st_L_rule_7 {P:Pins} {C:Calls} {W:Nat} {ρ:CI.Env}:ex P C W st_L_rule_7 ρ=ex P C W (.ifs (.cmp .Eq (.var 5) (.con (.int 7))) [(.asg 7 (.call "L_draw" [(.var 0),(.bin .Add (.var 4) (.con (.int 1)))])),(.ret (.tup [(.con (.str ("above":Str))),(.var 7),(.bin .Mod (.bin .Add (.bin .Add (.var 7) (.con (.int 1))) (.call "L_draw" [(.var 0),(.var 4)])) (.bin .Add (.var 4) (.con (.int 1))))]))] []) ρ:=(rfl)
noncomputable def st_L_rule_8:S:=(.asg 8 (.tup [(.con (.str ("like":Str))),(.con (.str ("against":Str))),(.con (.str ("aside":Str))),(.con (.str ("any":Str)))]))
theorem x_st_L_rule_8 {P:Pins} {C:Calls} {W:Nat} {ρ:CI.Env}:ex P C W st_L_rule_8 ρ=ex P C W (.asg 8 (.tup [(.con (.str ("like":Str))),(.con (.str ("against":Str))),(.con (.str ("aside":Str))),(.con (.str ("any":Str)))])) ρ:=(rfl)
noncomputable def st_L_rule_9:S:=(.ret (.tup [(.con (.str ("never":Str))),(.call "L_draw" [(.var 0),(.var 3)]),(.call "L_draw" [(.var 0),(.var 3)]),(.ix (.var 8) (.call "L_draw" [(.var 0),(.con (.int 4))]))]))
theorem x_st_L_rule_9 {P:Pins} {C:Calls} {W:Nat} {ρ:CI.Env}:ex P C W st_L_rule_9 ρ=ex P C W (.ret (.tup [(.con (.str ("never":Str))),(.call "L_draw" [(.var 0),(.var 3)]),(.call "L_draw" [(.var 0),(.var 3)]),(.ix (.var 8) (.call "L_draw" [(.var 0),(.con (.int 4))]))])) ρ:=(rfl)
noncomputable def st_L_put_out_0:S:=(.asg 2 (.call "L_draw" [(.var 0),(.con (.int 5))]))
noncomputable def st_L_put_out_1:S:=(.asg 3 (.bin .Add (.con (.int 1)) (.ix (.lst [(.con (.int 0)),(.call "L_draw" [(.var 0),(.con (.int 10))]),(.call "L_draw" [(.var 0),(.bin .Pow (.con (.int 10)) (.con (.int 59)))])]) (.call "L_draw" [(.var 0),(.con (.int 3))]))))
noncomputable def st_L_put_out_2:S:=(.ifs (.tmp 1 (.cmp .Lt (.var 2) (.con (.int 3)))) [(.dset 1 none (.var 2) (.ix (.lst [(.bin .Sub (.con (.int 1)) (.var 3)),(.bin .Add (.ix (.lst [(.con (.int 7)),(.con (.int 4)),(.con (.int 12))]) (.var 2)) (.var 3))]) (.call "L_draw" [(.var 0),(.con (.int 2))])))] [(.ifs (.tmp 1 (.cmp .Eq (.var 2) (.con (.int 3)))) [(.dset 1 none (.con (.int 3)) (.bin .Mult (.lst [(.tup [(.con (.int 0)),(.con (.int 0)),(.con (.bl false))])]) (.ix (.lst [(.con (.int 0)),(.con (.int 4)),(.con (.int 5)),(.con (.int 40))]) (.call "L_draw" [(.var 0),(.con (.int 4))]))))] [(.dset 1 none (.con (.int 4)) (.bin .Mult (.lst [(.tup [(.con (.str ("leap":Str))),(.con (.int 12))])]) (.bin .Add (.con (.int 9)) (.call "L_draw" [(.var 0),(.con (.int 60))]))))])])
noncomputable def st_L_put_out_3:S:=(.asg 4 (.call "L_draw" [(.var 0),(.con (.int 4))]))
noncomputable def st_L_put_out_4:S:=(.ifs (.tmp 1 (.and (.cmp .Eq (.var 4) (.con (.int 0))) (.cmp .NotEq (.ix (.var 1) (.con (.int 3))) (.lst [])))) [(.dset 1 (some 3) (.call "L_draw" [(.var 0),(.bif .len [(.ix (.var 1) (.con (.int 3)))])]) (.ix (.lst [(.con .non),(.tup [(.con (.int 5)),(.con (.int 0)),(.con (.bl false))]),(.con (.str ("voice":Str))),(.tup [])]) (.call "L_draw" [(.var 0),(.con (.int 4))])))] [])
noncomputable def st_L_put_out_5:S:=(.ifs (.tmp 1 (.and (.cmp .Eq (.var 4) (.con (.int 1))) (.cmp .NotEq (.ix (.var 1) (.con (.int 4))) (.lst [])))) [(.dset 1 (some 4) (.call "L_draw" [(.var 0),(.bif .len [(.ix (.var 1) (.con (.int 4)))])]) (.ix (.lst [(.con .non),(.tup [(.con (.str ("leap":Str))),(.con (.int 13))]),(.con (.str ("leap":Str))),(.tup [])]) (.call "L_draw" [(.var 0),(.con (.int 4))])))] [])
noncomputable def fn_is_whole:Fn:=⟨[true],0,[(.ret (.and (.isi (.var 0) [.int]) (.not (.isi (.var 0) [.bool]))))],false⟩
noncomputable def fn_is_within:Fn:=⟨[true,true,true],0,[(.ret (.and (.call "is_whole" [(.var 0)]) (.cmp2 .LtE .LtE (.var 1) (.var 0) (.var 2))))],false⟩
noncomputable def fn_are_within:Fn:=⟨[true,true,true,true],0,[(.ret (.and (.cmp .Eq (.bif .len [(.var 0)]) (.var 1)) (.bif .all [(.comp el_are_within_0 [3] .of [(.var 0)] [] [3,2] 2)])))],false⟩
noncomputable def fn_is_follower:Fn:=⟨[true],0,[(.ifs (.or (.not (.isi (.var 0) [.tuple])) (.cmp .NotEq (.bif .len [(.var 0)]) (.con (.int 3)))) [(.ret (.con (.bl false)))] []),(.ret (.and (.call "is_within" [(.ix (.var 0) (.con (.int 0))),(.con (.int 0)),(.con (.int 4))]) (.and (.call "is_within" [(.ix (.var 0) (.con (.int 1))),(.neg (.con (.int 12))),(.con (.int 12))]) (.isi (.ix (.var 0) (.con (.int 2))) [.bool]))))],false⟩
noncomputable def fn_is_way:Fn:=⟨[true],0,[(.ret (.and (.isi (.var 0) [.str]) (.cmp .In (.var 0) (.con (.tup [(.str ("like":Str)),(.str ("against":Str)),(.str ("aside":Str)),(.str ("any":Str))])))))],false⟩
noncomputable def fn_are_spans:Fn:=⟨[true,true],0,[(.ret (.and (.call "is_whole" [(.var 0)]) (.and (.cmp .GtE (.var 0) (.con (.int 0))) (.cmp .LtE (.bitl (.var 0)) (.var 1)))))],false⟩
noncomputable def fn_is_rule:Fn:=⟨[true,true,true,true],2,[(.ifs (.or (.not (.isi (.var 3) [.tuple])) (.or (.cmp .Eq (.bif .len [(.var 3)]) (.con (.int 0))) (.not (.isi (.ix (.var 3) (.con (.int 0))) [.str])))) [(.ret (.con (.bl false)))] []),(.asg 4 (.ix (.var 3) (.con (.int 0)))),(.asg 5 (.sl (.var 3) (.con (.int 1)) .omt)),(.ifs (.cmp .Eq (.var 4) (.con (.str ("span":Str)))) [(.ret (.and (.cmp .Eq (.bif .len [(.var 5)]) (.con (.int 2))) (.and (.call "is_within" [(.ix (.var 5) (.con (.int 0))),(.con (.int 0)),(.bin .Sub (.var 0) (.con (.int 1)))]) (.call "are_spans" [(.ix (.var 5) (.con (.int 1))),(.var 1)]))))] []),(.ifs (.cmp .Eq (.var 4) (.con (.str ("leap":Str)))) [(.ret (.call "are_within" [(.var 5),(.con (.int 1)),(.con (.int 0)),(.con (.int 12))]))] []),(.ifs (.cmp .Eq (.var 4) (.con (.str ("back":Str)))) [(.ret (.call "are_within" [(.var 5),(.con (.int 2)),(.con (.int 1)),(.con (.int 12))]))] []),(.ifs (.cmp .Eq (.var 4) (.con (.str ("again":Str)))) [(.ret (.call "are_within" [(.var 5),(.con (.int 1)),(.con (.int 1)),(.con (.int 3))]))] []),(.ifs (.cmp .Eq (.var 4) (.con (.str ("range":Str)))) [(.ret (.and (.call "are_within" [(.var 5),(.con (.int 2)),(.neg (.con (.int 60))),(.con (.int 60))]) (.cmp .LtE (.ix (.var 5) (.con (.int 0))) (.ix (.var 5) (.con (.int 1))))))] []),(.ifs (.cmp .Eq (.var 4) (.con (.str ("above":Str)))) [(.ret (.and (.call "are_within" [(.var 5),(.con (.int 2)),(.con (.int 0)),(.var 2)]) (.cmp .NotEq (.ix (.var 5) (.con (.int 0))) (.ix (.var 5) (.con (.int 1))))))] []),(.ifs (.cmp .Eq (.var 4) (.con (.str ("never":Str)))) [(.ret (.and (.cmp .Eq (.bif .len [(.var 5)]) (.con (.int 3))) (.and (.call "are_within" [(.sl (.var 5) .omt (.con (.int 2))),(.con (.int 2)),(.con (.int 0)),(.bin .Sub (.var 1) (.con (.int 1)))]) (.call "is_way" [(.ix (.var 5) (.con (.int 2)))]))))] []),(.ret (.con (.bl false)))],false⟩
noncomputable def fn_check_frame:Fn:=⟨[true,true,true,false,false],0,[(.ifs (.not (.call "is_within" [(.var 0),(.con (.int 1)),(.con (.int 7))])) [(.rse "NoHouse" [(.con (.str ("notes are from 1 to 7":Str)))])] []),(.ifs (.not (.call "is_within" [(.var 1),(.con (.int 1)),(.con (.int 4))])) [(.rse "NoHouse" [(.con (.str ("a bar has from 1 to 4 beats":Str)))])] []),(.ifs (.not (.call "is_within" [(.var 2),(.con (.int 1)),(.con (.int 12))])) [(.rse "NoHouse" [(.con (.str ("an octave is from 1 to 12":Str)))])] []),(.ifs (.not (.cmp2 .LtE .LtE (.con (.int 1)) (.bif .len [(.var 3)]) (.con (.int 3)))) [(.rse "NoHouse" [(.con (.str ("followers are one to three":Str)))])] []),(.ifs (.cmp .Gt (.bif .len [(.var 4)]) (.con (.int 8))) [(.rse "NoHouse" [(.con (.str ("rules are at most eight":Str)))])] [])],true⟩
noncomputable def fn_house_of:Fn:=⟨[false,false,false,false,false],2,[(.expr (.call "check_frame" [(.var 0),(.var 1),(.var 2),(.var 3),(.var 4)])),(.for [5,6] false (.enum 1) [(.var 3)] bd_house_of_0),(.for [5,6] false (.enum 0) [(.var 4)] bd_house_of_1),(.ret (.tup [(.var 0),(.var 1),(.var 2),(.bif .tuple [(.var 3)]),(.bif .tuple [(.var 4)])]))],true⟩
noncomputable def fn_L_pen:Fn:=⟨[true,false],1,[(.ifs (.and (.cmp .Lt (.var 1) (.bif .len [(.var 0)])) (.cmp .Eq (.bin .Mod (.ix (.var 0) (.con (.int 0))) (.con (.int 2))) (.con (.int 0)))) [(.ret (.lst [(.con (.int 0)),(.ix (.var 0) (.var 1))]))] []),(.asg 2 (.bin .Add (.bin .Mult (.con (.int 30011)) (.var 1)) (.con (.int 7)))),(.ifs (.cmp .Gt (.bif .len [(.var 0)]) (.con (.int 0))) [(.asg 2 (.bin .Mod (.ix (.var 0) (.bin .Mod (.var 1) (.bif .len [(.var 0)]))) (.con (.int 2147483587)))),(.asg 2 (.bin .Add (.bin .Add (.var 2) (.bin .Mult (.con (.int 48611)) (.bin .FloorDiv (.var 1) (.bif .len [(.var 0)])))) (.bin .Mult (.con (.int 3)) (.var 1))))] []),(.ret (.lst [(.con (.int 1)),(.bin .Mod (.bin .Add (.bin .Add (.bin .Mult (.var 2) (.con (.int 48271))) (.bin .Mult (.con (.int 11)) (.var 1))) (.con (.int 1))) (.con (.int 2147483647)))]))],false⟩
noncomputable def fn_L_draw:Fn:=⟨[true,true],2,[(.ifs (.cmp .Eq (.ix (.var 0) (.con (.int 0))) (.con (.int 0))) [(.asg 2 (.bin .Mod (.ix (.var 0) (.con (.int 1))) (.var 1))),(.set 0 (.con (.int 1)) (.bin .FloorDiv (.ix (.var 0) (.con (.int 1))) (.var 1))),(.ret (.var 2))] []),(.set 0 (.con (.int 1)) (.bin .Mod (.bin .Add (.bin .Mult (.ix (.var 0) (.con (.int 1))) (.con (.int 69621))) (.con (.int 7))) (.con (.int 2147483629)))),(.asg 3 (.bin .Mod (.bin .Mult (.bin .Add (.bin .Add (.bin .Mult (.bin .Mod (.ix (.var 0) (.con (.int 1))) (.con (.int 65521))) (.con (.int 40503))) (.bin .FloorDiv (.ix (.var 0) (.con (.int 1))) (.con (.int 65521)))) (.con (.int 1))) (.con (.int 16807))) (.con (.int 2147483647)))),(.ret (.bin .Mod (.bin .FloorDiv (.var 3) (.con (.int 13))) (.var 1)))],false⟩
noncomputable def fn_L_rule:Fn:=⟨[true,true,true,true,true],4,[st_L_rule_0,st_L_rule_1,st_L_rule_2,st_L_rule_3,st_L_rule_4,st_L_rule_5,st_L_rule_6,st_L_rule_7,st_L_rule_8,st_L_rule_9],false⟩
noncomputable def fn_L_house:Fn:=⟨[true],9,[(.asg 1 (.cmp .Eq (.call "L_draw" [(.var 0),(.con (.int 2))]) (.con (.int 0)))),(.asg 2 (.bin .Add (.con (.int 1)) (.call "L_draw" [(.var 0),(.ix (.lst [(.con (.int 4)),(.con (.int 7))]) (.bif .int [(.var 1)]))]))),(.asg 3 (.bin .Add (.con (.int 1)) (.call "L_draw" [(.var 0),(.ix (.lst [(.con (.int 2)),(.con (.int 4))]) (.bif .int [(.var 1)]))]))),(.asg 4 (.bin .Add (.con (.int 1)) (.call "L_draw" [(.var 0),(.con (.int 12))]))),(.asg 5 (.bin .Add (.con (.int 1)) (.call "L_draw" [(.var 0),(.ix (.lst [(.con (.int 2)),(.con (.int 3))]) (.bif .int [(.var 1)]))]))),(.asg 6 (.lst [])),(.for [7] true .rng [(.var 5)] bd_L_house_0),(.asg 9 (.lst [])),(.for [7] true .rng [(.call "L_draw" [(.var 0),(.con (.int 9))])] bd_L_house_1),(.ret (.tup [(.var 2),(.var 3),(.var 4),(.bif .tuple [(.var 6)]),(.bif .tuple [(.var 9)])]))],false⟩
noncomputable def fn_L_put_out:Fn:=⟨[true,true],3,[st_L_put_out_0,st_L_put_out_1,st_L_put_out_2,st_L_put_out_3,st_L_put_out_4,st_L_put_out_5],false⟩
noncomputable def fn_L_refused:Fn:=⟨[true],2,[(.asg 1 (.con .non)),(.tryA [(.expr (.call "house_of" [(.ix (.var 0) (.con (.int 0))),(.ix (.var 0) (.con (.int 1))),(.ix (.var 0) (.con (.int 2))),(.ix (.var 0) (.con (.int 3))),(.ix (.var 0) (.con (.int 4)))]))] cs_CanonError 2 1),(.ifs (.tmp 0 (.isX (.var 1) xs_0)) [(.ret (.con (.bl false)))] []),(.ret (.and (.isX (.var 1) xs_1) (.isi (.var 1) [.verr])))],false⟩
noncomputable def fn_law:Fn:=⟨[true],4,[(.asg 1 (.call "L_house" [(.call "L_pen" [(.var 0),(.con (.int 1))])])),(.for [2] true .rng [(.con (.int 4))] bd_law_0),(.ret (.cmp .Eq (.call "house_of" [(.ix (.var 1) (.con (.int 0))),(.ix (.var 1) (.con (.int 1))),(.ix (.var 1) (.con (.int 2))),(.bif .list [(.ix (.var 1) (.con (.int 3)))]),(.bif .list [(.ix (.var 1) (.con (.int 4)))])]) (.var 1)))],false⟩
noncomputable def TL:List (String × Fn):=[("is_whole",fn_is_whole),("is_within",fn_is_within),("are_within",fn_are_within),("is_follower",fn_is_follower),("is_way",fn_is_way),("are_spans",fn_are_spans),("is_rule",fn_is_rule),("check_frame",fn_check_frame),("house_of",fn_house_of),("L_pen",fn_L_pen),("L_draw",fn_L_draw),("L_rule",fn_L_rule),("L_house",fn_L_house),("L_put_out",fn_L_put_out),("L_refused",fn_L_refused),("law",fn_law)]
noncomputable def T:Tab:=λf=>TL.lookup f
theorem T_is_whole:T "is_whole"=some fn_is_whole:=rfl
theorem P_is_whole:T.pins "is_whole"=[true]:=rfl
theorem T_is_within:T "is_within"=some fn_is_within:=rfl
theorem P_is_within:T.pins "is_within"=[true,true,true]:=rfl
theorem T_are_within:T "are_within"=some fn_are_within:=rfl
theorem P_are_within:T.pins "are_within"=[true,true,true,true]:=rfl
theorem T_is_follower:T "is_follower"=some fn_is_follower:=rfl
theorem P_is_follower:T.pins "is_follower"=[true]:=rfl
theorem T_is_way:T "is_way"=some fn_is_way:=rfl
theorem P_is_way:T.pins "is_way"=[true]:=rfl
theorem T_are_spans:T "are_spans"=some fn_are_spans:=rfl
theorem P_are_spans:T.pins "are_spans"=[true,true]:=rfl
theorem T_is_rule:T "is_rule"=some fn_is_rule:=rfl
theorem P_is_rule:T.pins "is_rule"=[true,true,true,true]:=rfl
theorem T_check_frame:T "check_frame"=some fn_check_frame:=rfl
theorem P_check_frame:T.pins "check_frame"=[true,true,true,false,false]:=rfl
theorem T_house_of:T "house_of"=some fn_house_of:=rfl
theorem P_house_of:T.pins "house_of"=[false,false,false,false,false]:=rfl
theorem T_L_pen:T "L_pen"=some fn_L_pen:=rfl
theorem P_L_pen:T.pins "L_pen"=[true,false]:=rfl
theorem T_L_draw:T "L_draw"=some fn_L_draw:=rfl
theorem P_L_draw:T.pins "L_draw"=[true,true]:=rfl
theorem T_L_rule:T "L_rule"=some fn_L_rule:=rfl
theorem P_L_rule:T.pins "L_rule"=[true,true,true,true,true]:=rfl
theorem T_L_house:T "L_house"=some fn_L_house:=rfl
theorem P_L_house:T.pins "L_house"=[true]:=rfl
theorem T_L_put_out:T "L_put_out"=some fn_L_put_out:=rfl
theorem P_L_put_out:T.pins "L_put_out"=[true,true]:=rfl
theorem T_L_refused:T "L_refused"=some fn_L_refused:=rfl
theorem P_L_refused:T.pins "L_refused"=[true]:=rfl
theorem T_law:T "law"=some fn_law:=rfl
theorem ix_0_NoHouse {m:Option Int}:isXO xs_0 (some (.exn "NoHouse" m))=some (.sh (.bl false)):=isX_ (by decide +kernel)
theorem ix_1_NoHouse {m:Option Int}:isXO xs_1 (some (.exn "NoHouse" m))=some (.sh (.bl true)):=isX_ (by decide +kernel)
theorem cc_CanonError_NoHouse:cs_CanonError.contains (Str.ofString "NoHouse")=true:=by decide +kernel
theorem ok_is_whole:DefOk (glOf L) (top 17) "is_whole" fn_is_whole:=mkD rfl rfl rfl (by decide +kernel) (by kernel_rfl) (bn1 rfl λ_ _ _ _ _ _ _=>rfl)
theorem ok_is_within:DefOk (glOf L) (top 18) "is_within" fn_is_within:=mkD rfl rfl rfl (by decide +kernel) (by kernel_rfl) (bn3 rfl λ_ _ _ _ _ _ _ _ _=>rfl)
theorem ok_are_within:DefOk (glOf L) (top 19) "are_within" fn_are_within:=mkD rfl rfl rfl (by decide +kernel) (by kernel_rfl) (bn4 rfl λ_ _ _ _ _ _ _ _ _ _=>rfl)
theorem ok_is_follower:DefOk (glOf L) (top 20) "is_follower" fn_is_follower:=mkD rfl rfl rfl (by decide +kernel) (by kernel_rfl) (bn1 rfl λ_ _ _ _ _ _ _=>rfl)
theorem ok_is_way:DefOk (glOf L) (top 21) "is_way" fn_is_way:=mkD rfl rfl rfl (by decide +kernel) (by kernel_rfl) (bn1 rfl λ_ _ _ _ _ _ _=>rfl)
theorem ok_are_spans:DefOk (glOf L) (top 22) "are_spans" fn_are_spans:=mkD rfl rfl rfl (by decide +kernel) (by kernel_rfl) (bn2 rfl λ_ _ _ _ _ _ _ _=>rfl)
theorem ok_is_rule:DefOk (glOf L) (top 23) "is_rule" fn_is_rule:=mkD rfl rfl rfl (by decide +kernel) (by kernel_rfl) (bn4 rfl λ_ _ _ _ _ _ _ _ _ _=>rfl)
theorem ok_check_frame:DefOk (glOf L) (top 24) "check_frame" fn_check_frame:=mkD rfl rfl rfl (by decide +kernel) (by kernel_rfl) (bn5 rfl λ_ _ _ _ _ _ _ _ _ _ _=>rfl)
theorem ok_house_of:DefOk (glOf L) (top 25) "house_of" fn_house_of:=mkD rfl rfl rfl (by decide +kernel) (by kernel_rfl) (bn5 rfl λ_ _ _ _ _ _ _ _ _ _ _=>rfl)
theorem ok_L_pen:DefOk (glOf L) (top 27) "_law_pen" fn_L_pen:=mkD rfl rfl rfl (by decide +kernel) (by kernel_rfl) (bn2 rfl λ_ _ _ _ _ _ _ _=>rfl)
theorem ok_L_draw:DefOk (glOf L) (top 28) "_law_draw" fn_L_draw:=mkD rfl rfl rfl (by decide +kernel) (by kernel_rfl) (bn2 rfl λ_ _ _ _ _ _ _ _=>rfl)
theorem ok_L_rule:DefOk (glOf L) (top 29) "_law_rule" fn_L_rule:=mkD rfl rfl rfl (by decide +kernel) (by kernel_rfl) (bn5 rfl λ_ _ _ _ _ _ _ _ _ _ _=>rfl)
theorem ok_L_house:DefOk (glOf L) (top 30) "_law_house" fn_L_house:=mkD rfl rfl rfl (by decide +kernel) (by kernel_rfl) (bn1 rfl λ_ _ _ _ _ _ _=>rfl)
theorem ok_L_put_out:DefOk (glOf L) (top 31) "_law_put_out" fn_L_put_out:=mkD rfl rfl rfl (by decide +kernel) (by kernel_rfl) (bn2 rfl λ_ _ _ _ _ _ _ _=>rfl)
theorem ok_L_refused:DefOk (glOf L) (top 32) "_law_refused" fn_L_refused:=mkD rfl rfl rfl (by decide +kernel) (by kernel_rfl) (bn1 rfl λ_ _ _ _ _ _ _=>rfl)
theorem ok_law:DefOk (glOf L) (top 33) "law" fn_law:=mkD rfl rfl rfl (by decide +kernel) (by kernel_rfl) (bn1 rfl λ_ _ _ _ _ _ _=>rfl)
end Tx
namespace Mx
open CI Tx
set_option compiler.extract_closed false
set_option genSizeOf false
local macro_rules | `(tactic| walk_at $s:str) => do if !s.getString.startsWith "!" then Lean.Macro.throwUnsupported else `(tactic| simp only [$[$((("rb_ok fl_ok nx_nx nx_rt go_some done_some d_sh d_ow g_sh g_ow hg_val hg_slot kTr_some wr_f wr_t kFz_sh ev_varF ev_con kSm_t sm_0 sm_1 sm_2 sm_3 sm_4 sm_5 kTup_ kLst_ ev_tup ev_lst evs_nil kCons2_ kCons1_ evs_cons evHs_nil kHCons2_ kHCons1_ kVal_ kValO_ kSlot_t opd_var opd_con opd_lst opd_bin opd_neg opd_ix opd_sl opd_call opd_bif opd_isi opd_comp evHs_cons kBin2_ kBin1_ ev_bin binO_i binO_m b_add b_sub b_mulR b_mulL b_div b_mod b_shl1 b_cat b_catT kNeg_ ev_neg kNotT_ ev_notT kNotF_ notO_bl ev_notF cmpO_ cmpB_ kCmp2_ kCmp1_ ev_cmp kCh3_ kCh_b kCh2_ kCh1_ ev_cmp2 c_lt c_le c_gt c_ge c_eqi c_nei c_eqs t_bl ev_and ev_or kAnd_b kOr_b kIx2_ kIx1_ ev_ix ixO_tI ixO_lI at_0 at_1 at_2 at_3 at_4 kSl3_ kSl2_ kSl1_ prt_omt prt_con ev_sl kCall_ doCall_ kCl1_ kCl3_ kCl2_ kLd_ ld_nil ld_sh ld_owT ld_owF ld_slot kLs_sh kLs_owT gb_nil gb_f gb_fv gb_val gb_slot kGb_ow kGb_sh kBif_ ev_bif ga_nil gaC_ ga_cons f_lenL f_lenT f_intB f_listL f_listT f_tupL kIsi_ ev_isi io_int_non io_int_bl io_int_int io_int_str io_int_tup io_int_lst io_bool_non io_bool_bl io_bool_int io_bool_str io_bool_tup io_bool_lst io_str_non io_str_bl io_str_int io_str_str io_str_tup io_str_lst io_tuple_tup kApp1_ kApp_ kIf0_t ev_app isOw_ isOwO_ow kAsg_ ex_asg st_ stO_unS stO_unO stO_shS stO_okS okS_un okS_sh kSet2_ kSet1_ ex_set setO_1 kDrop_ ex_expr retO_sh kRet_ ex_retV er_con er_tup er_lst er_bin er_cmp er_and er_call kIf_b ex_ifs forO_ kFor_ ex_for exs_nil exs_cons rs_none to_none kRun_nx kRun_rt ev_comp giveOut_n pinOk_sh opd_bitl bitO_ kBit_ ev_bitl zg0 zg1 zs0 zs1 zb zm zi zc zn zr0 zr1 zl0 zl1 znt znf zko zks zkn ev_call kPut2_ isDc_ kIf2_t kIsX_ ev_isX fl_ex nx_ex nx_none ex_rse exsX_cons kSX_nx kSX_n kSX_ex exX_ifs kIX_t kIX_f exX_rse kRX_ exX_expr kDX_ evX_call_ kCX_ kTry_ex ex_tryA kCa_ kCb_ kRunX_nx kRunX_rt kRunX_n io_verr evXs_cons kAX_ok b_cat0 kPS_ isDs_ kPutS_ ev_tmp kTmp_dl kTmp_sh kTmp1_ flat_bl tk_0 tk_S tk_nil tk_cons tk_sh tk_un tk_mv tk_pen kDs1_ kDs2_ kDs3_ dsR_ ex_dset kDl_ ev_dlst P_is_whole P_is_within P_are_within P_is_follower P_is_way P_are_spans P_is_rule P_check_frame P_house_of P_L_pen P_L_draw P_L_rule P_L_house P_L_put_out P_L_refused if_true if_false Bool.false_eq_true decide_true decide_false Bool.true_eq_false not_true_eq_false not_false_eq_true and_self and_true true_and or_true true_or List.length_append reduceIte Int.reduceLT Int.reduceLE Int.reduceGT Int.reduceNeg Nat.reduceAdd Nat.reduceLT Nat.reduceLeDiff Int.reduceEq Int.reduceNe Nat.reduceBEq List.map_cons List.map_nil List.all_cons List.all_nil Bool.and_true Bool.true_and Bool.false_and Bool.and_false List.length_nil List.length_cons beq_self_eq_true compF_ kCmpF_ kTs_1".splitOn " ") ++ (((s.getString.drop 1).toString.replace "%" "List.length_map").replace "&" "Bool.or_false Bool.false_or Bool.or_true Bool.true_or" |>.splitOn " ")).filter (· ≠ "") |>.toArray.map λx => Lean.mkIdent x.toName):term],*, *])
theorem cib:type_of% (And.intro @bt_one (And.intro @st_ (And.intro @List.getElem?_cons_zero.{0} (And.intro @List.getElem?_cons_succ.{0} (And.intro @List.set_cons_zero.{0} (And.intro @List.set_cons_succ.{0} (And.intro @bt_many (And.intro @ss_cons (And.intro @ss_nil @kSs_))))))))):=(And.intro @bt_one (And.intro @st_ (And.intro @List.getElem?_cons_zero.{0} (And.intro @List.getElem?_cons_succ.{0} (And.intro @List.set_cons_zero.{0} (And.intro @List.set_cons_succ.{0} (And.intro @bt_many (And.intro @ss_cons (And.intro @ss_nil @kSs_)))))))))
def drawS (k s m:Int):Int:=if k=0 then s / m else (s*69621+7) % 2147483629
noncomputable def drawV (k s m:Int):Int:=if k=0 then s % m else ((((s*69621+7) % 2147483629) % 65521*40503+((s*69621+7) % 2147483629) / 65521+1)*16807 % 2147483647) / 13 % m
theorem draw_spec {W n:Nat} {k s m:Int} (h1:0<m) (h2:m<100000000000000000000000000000000000000000000000000000000000000000000000000000000):run T W (n+1) "L_draw" [.ow (.lst [.int k,.int s]) true false,.sh (.int m)]=some (.ok (.sh (.int (drawV k s m))),[.ow (.lst [.int k,.int (drawS k s m)]) true false,.sh (.int m)]):=by
 rw [run_ T_L_draw rfl rfl]
 unfold fn_L_draw
 by_cases hk:k=0
 ·subst hk
  unfold drawS drawV
  walk_at "!"
 ·unfold drawS drawV
  walk_at "!"
theorem drawV_lo {k s m:Int} (h:0<m):0≤drawV k s m:=by unfold drawV; split <;> exact Int.emod_nonneg _ (by omega)
theorem drawV_hi {k s m:Int} (h:0<m):drawV k s m<m:=by unfold drawV; split <;> exact Int.emod_lt_of_pos _ h
noncomputable def thD:D→Bool
 | .non=>true | .bl _=>true | .int _=>true | .str _=>true | .tup _=>true | .lst _=>true
 | _=>false
def whD:D→Bool
 | .int _=>true
 | _=>false
theorem iswhole_spec {W n:Nat} {d:D} (h:thD d=true):run T W (n+1) "is_whole" [.sh d]=some (.ok (.sh (.bl (whD d))),[.sh d]):=by
 rw [run_ T_is_whole rfl rfl]
 unfold fn_is_whole
 cases d <;> first | (simp only [thD,Bool.false_eq_true] at h; done) | (walk_at "!"; rfl) | (walk_at "!"; done)
def wiD (lo hi:Int):D→Bool
 | .int i=>decide (lo≤i) && decide (i≤hi)
 | _=>false
theorem within_spec {W n:Nat} {d:D} {lo hi:Int} (h:thD d=true):run T W (n+2) "is_within" [.sh d,.sh (.int lo),.sh (.int hi)]=some (.ok (.sh (.bl (wiD lo hi d))),[.sh d,.sh (.int lo),.sh (.int hi)]):=by
 rw [run_ T_is_within rfl rfl]
 unfold fn_is_within
 walk_at "!"
 try (simp only [P_is_whole]; walk_at "!")
 simp only [iswhole_spec h]
 walk_at "!"
 by_cases hw:whD d=true
 ·obtain ⟨i,rfl⟩:∃ i,d=.int i:=by cases d <;> first | exact ⟨_,rfl⟩ | cases hw
  simp only [whD]
  walk_at "!"
  simp only [wiD]
  by_cases h1:lo≤i <;> by_cases h2:i≤hi <;> simp only [h1,h2] <;> walk_at "!" <;> rfl
 ·have hw:whD d=false:=by cases e:whD d; rfl; exact absurd e hw
  have hv:wiD lo hi d=false:=by cases d <;> first | rfl | cases hw
  simp only [hw,hv]
  walk_at "!"
noncomputable def penV (ns:List Int) (k:Nat):Int × Int :=
 if k<ns.length∧ns.headD 0 % 2=0 then (0,ns.getD k 0)
 else (1,((if 0<ns.length then ns.getD (k % ns.length) 0 % 2147483587+48611*((k / ns.length:Nat):Int)+3*(k:Int) else 30011*(k:Int)+7)*48271+11*(k:Int)+1) % 2147483647)
theorem at_map {ns:List Int} {k:Nat} (h:k<ns.length):L2.atI (ns.map D.int) (k:Int)=some (.int (ns.getD k 0)):=by
 apply L2.atI_nat
 rw [List.getElem?_map,List.getElem?_eq_getElem h]
 simp [h]
theorem pen_spec {W n:Nat} {ns:List Int} {k:Nat} (hn:ns.length≤63) (hk:k≤100000):run T W (n+1) "L_pen" [.sh (.lst (ns.map .int)),.sh (.int (k:Int))]=some (.ok (.ow (.lst [.int (penV ns k).1,.int (penV ns k).2])),[.sh (.lst (ns.map .int)),.sh (.int (k:Int))]):=by
 rw [run_ T_L_pen rfl rfl]
 unfold fn_L_pen
 by_cases h0:ns=[]
 ·subst h0
  have hb:decide ((k:Int)<((0:Nat):Int))=false:=decide_eq_false (by omega)
  have hb':decide (((0:Nat):Int) > 0)=false:=rfl
  have hb2:decide (0<((0:Nat):Int))=false:=rfl
  have hb3:decide ((k:Int)<0)=false:=decide_eq_false (by omega)
  have ev:penV [] k=(1,((30011*(k:Int)+7)*48271+11*(k:Int)+1) % 2147483647):=by
   unfold penV; rw [if_neg (by simp),if_neg (by simp)]
  walk_at "!%"
 ·have hpos:0<ns.length:=List.length_pos_iff.mpr h0
  have hb2:decide (0<(ns.length:Int))=true:=decide_eq_true (by omega)
  have e0:(ns.map D.int)[0]?=some (.int (ns.headD 0)):=by cases ns with | nil=>exact absurd rfl h0 | cons a r=>rfl
  have e1:(0:Int)<(ns.length:Int):=by omega
  have e2:(ns.length:Int)<100000000000000000000000000000000000000000000000000000000000000000000000000000000:=by omega
  have e3:(k:Int) / (ns.length:Int)=((k / ns.length:Nat):Int):=by rw [Int.natCast_ediv]
  have e4:(k:Int) % (ns.length:Int)=((k % ns.length:Nat):Int):=by rw [Int.natCast_emod]
  have e5:=at_map (ns:=ns) (k:=k % ns.length) (Nat.mod_lt _ hpos)
  by_cases hk2:k<ns.length
  ·have hb:decide ((k:Int)<(ns.length:Int))=true:=decide_eq_true (by omega)
   have e6:=at_map hk2
   by_cases hm:ns.headD 0 % 2=0
   ·have ev:penV ns k=(0,ns.getD k 0):=by unfold penV; rw [if_pos ⟨hk2,hm⟩]
    clear hk2
    walk_at "!%"
   ·have hm':decide (ns.headD 0 % 2=0)=false:=decide_eq_false hm
    have ev:penV ns k=(1,((ns.getD (k % ns.length) 0 % 2147483587+48611*((k / ns.length:Nat):Int)+3*(k:Int))*48271+11*(k:Int)+1) % 2147483647):=by
     unfold penV; rw [if_neg (λz=>hm z.2),if_pos hpos]
    clear hk2 hm
    walk_at "!%"
  ·have hb:decide ((k:Int)<(ns.length:Int))=false:=decide_eq_false (by omega)
   have ev:penV ns k=(1,((ns.getD (k % ns.length) 0 % 2147483587+48611*((k / ns.length:Nat):Int)+3*(k:Int))*48271+11*(k:Int)+1) % 2147483647):=by
    unfold penV; rw [if_neg (λz=>hk2 z.1),if_pos hpos]
   clear hk2
   walk_at "!%"
theorem sw_span_leap:((PySem.Str.ofString "span") == (PySem.Str.ofString "leap"))=false:=by decide +kernel
theorem sw_span_back:((PySem.Str.ofString "span") == (PySem.Str.ofString "back"))=false:=by decide +kernel
theorem sw_span_again:((PySem.Str.ofString "span") == (PySem.Str.ofString "again"))=false:=by decide +kernel
theorem sw_span_range:((PySem.Str.ofString "span") == (PySem.Str.ofString "range"))=false:=by decide +kernel
theorem sw_span_above:((PySem.Str.ofString "span") == (PySem.Str.ofString "above"))=false:=by decide +kernel
theorem sw_span_never:((PySem.Str.ofString "span") == (PySem.Str.ofString "never"))=false:=by decide +kernel
theorem sw_in_span:cmpD .In (.str (PySem.Str.ofString "span")) (.tup [.str (PySem.Str.ofString "leap"),.str (PySem.Str.ofString "back"),.str (PySem.Str.ofString "again")])=some false:=(rfl)
theorem sw_leap_span:((PySem.Str.ofString "leap") == (PySem.Str.ofString "span"))=false:=by decide +kernel
theorem sw_leap_back:((PySem.Str.ofString "leap") == (PySem.Str.ofString "back"))=false:=by decide +kernel
theorem sw_leap_again:((PySem.Str.ofString "leap") == (PySem.Str.ofString "again"))=false:=by decide +kernel
theorem sw_leap_range:((PySem.Str.ofString "leap") == (PySem.Str.ofString "range"))=false:=by decide +kernel
theorem sw_leap_above:((PySem.Str.ofString "leap") == (PySem.Str.ofString "above"))=false:=by decide +kernel
theorem sw_leap_never:((PySem.Str.ofString "leap") == (PySem.Str.ofString "never"))=false:=by decide +kernel
theorem sw_in_leap:cmpD .In (.str (PySem.Str.ofString "leap")) (.tup [.str (PySem.Str.ofString "leap"),.str (PySem.Str.ofString "back"),.str (PySem.Str.ofString "again")])=some true:=(rfl)
theorem sw_back_span:((PySem.Str.ofString "back") == (PySem.Str.ofString "span"))=false:=by decide +kernel
theorem sw_back_leap:((PySem.Str.ofString "back") == (PySem.Str.ofString "leap"))=false:=by decide +kernel
theorem sw_back_again:((PySem.Str.ofString "back") == (PySem.Str.ofString "again"))=false:=by decide +kernel
theorem sw_back_range:((PySem.Str.ofString "back") == (PySem.Str.ofString "range"))=false:=by decide +kernel
theorem sw_back_above:((PySem.Str.ofString "back") == (PySem.Str.ofString "above"))=false:=by decide +kernel
theorem sw_back_never:((PySem.Str.ofString "back") == (PySem.Str.ofString "never"))=false:=by decide +kernel
theorem sw_in_back:cmpD .In (.str (PySem.Str.ofString "back")) (.tup [.str (PySem.Str.ofString "leap"),.str (PySem.Str.ofString "back"),.str (PySem.Str.ofString "again")])=some true:=(rfl)
theorem sw_again_span:((PySem.Str.ofString "again") == (PySem.Str.ofString "span"))=false:=by decide +kernel
theorem sw_again_leap:((PySem.Str.ofString "again") == (PySem.Str.ofString "leap"))=false:=by decide +kernel
theorem sw_again_back:((PySem.Str.ofString "again") == (PySem.Str.ofString "back"))=false:=by decide +kernel
theorem sw_again_range:((PySem.Str.ofString "again") == (PySem.Str.ofString "range"))=false:=by decide +kernel
theorem sw_again_above:((PySem.Str.ofString "again") == (PySem.Str.ofString "above"))=false:=by decide +kernel
theorem sw_again_never:((PySem.Str.ofString "again") == (PySem.Str.ofString "never"))=false:=by decide +kernel
theorem sw_in_again:cmpD .In (.str (PySem.Str.ofString "again")) (.tup [.str (PySem.Str.ofString "leap"),.str (PySem.Str.ofString "back"),.str (PySem.Str.ofString "again")])=some true:=(rfl)
theorem sw_range_span:((PySem.Str.ofString "range") == (PySem.Str.ofString "span"))=false:=by decide +kernel
theorem sw_range_leap:((PySem.Str.ofString "range") == (PySem.Str.ofString "leap"))=false:=by decide +kernel
theorem sw_range_back:((PySem.Str.ofString "range") == (PySem.Str.ofString "back"))=false:=by decide +kernel
theorem sw_range_again:((PySem.Str.ofString "range") == (PySem.Str.ofString "again"))=false:=by decide +kernel
theorem sw_range_above:((PySem.Str.ofString "range") == (PySem.Str.ofString "above"))=false:=by decide +kernel
theorem sw_range_never:((PySem.Str.ofString "range") == (PySem.Str.ofString "never"))=false:=by decide +kernel
theorem sw_in_range:cmpD .In (.str (PySem.Str.ofString "range")) (.tup [.str (PySem.Str.ofString "leap"),.str (PySem.Str.ofString "back"),.str (PySem.Str.ofString "again")])=some false:=(rfl)
theorem sw_above_span:((PySem.Str.ofString "above") == (PySem.Str.ofString "span"))=false:=by decide +kernel
theorem sw_above_leap:((PySem.Str.ofString "above") == (PySem.Str.ofString "leap"))=false:=by decide +kernel
theorem sw_above_back:((PySem.Str.ofString "above") == (PySem.Str.ofString "back"))=false:=by decide +kernel
theorem sw_above_again:((PySem.Str.ofString "above") == (PySem.Str.ofString "again"))=false:=by decide +kernel
theorem sw_above_range:((PySem.Str.ofString "above") == (PySem.Str.ofString "range"))=false:=by decide +kernel
theorem sw_above_never:((PySem.Str.ofString "above") == (PySem.Str.ofString "never"))=false:=by decide +kernel
theorem sw_in_above:cmpD .In (.str (PySem.Str.ofString "above")) (.tup [.str (PySem.Str.ofString "leap"),.str (PySem.Str.ofString "back"),.str (PySem.Str.ofString "again")])=some false:=(rfl)
theorem sw_never_span:((PySem.Str.ofString "never") == (PySem.Str.ofString "span"))=false:=by decide +kernel
theorem sw_never_leap:((PySem.Str.ofString "never") == (PySem.Str.ofString "leap"))=false:=by decide +kernel
theorem sw_never_back:((PySem.Str.ofString "never") == (PySem.Str.ofString "back"))=false:=by decide +kernel
theorem sw_never_again:((PySem.Str.ofString "never") == (PySem.Str.ofString "again"))=false:=by decide +kernel
theorem sw_never_range:((PySem.Str.ofString "never") == (PySem.Str.ofString "range"))=false:=by decide +kernel
theorem sw_never_above:((PySem.Str.ofString "never") == (PySem.Str.ofString "above"))=false:=by decide +kernel
theorem sw_in_never:cmpD .In (.str (PySem.Str.ofString "never")) (.tup [.str (PySem.Str.ofString "leap"),.str (PySem.Str.ofString "back"),.str (PySem.Str.ofString "again")])=some false:=(rfl)
theorem sw_all:type_of% (And.intro @sw_span_leap (And.intro @sw_span_back (And.intro @sw_span_again (And.intro @sw_span_range (And.intro @sw_span_above (And.intro @sw_span_never (And.intro @sw_in_span (And.intro @sw_leap_span (And.intro @sw_leap_back (And.intro @sw_leap_again (And.intro @sw_leap_range (And.intro @sw_leap_above (And.intro @sw_leap_never (And.intro @sw_in_leap (And.intro @sw_back_span (And.intro @sw_back_leap (And.intro @sw_back_again (And.intro @sw_back_range (And.intro @sw_back_above (And.intro @sw_back_never (And.intro @sw_in_back (And.intro @sw_again_span (And.intro @sw_again_leap (And.intro @sw_again_back (And.intro @sw_again_range (And.intro @sw_again_above (And.intro @sw_again_never (And.intro @sw_in_again (And.intro @sw_range_span (And.intro @sw_range_leap (And.intro @sw_range_back (And.intro @sw_range_again (And.intro @sw_range_above (And.intro @sw_range_never (And.intro @sw_in_range (And.intro @sw_above_span (And.intro @sw_above_leap (And.intro @sw_above_back (And.intro @sw_above_again (And.intro @sw_above_range (And.intro @sw_above_never (And.intro @sw_in_above (And.intro @sw_never_span (And.intro @sw_never_leap (And.intro @sw_never_back (And.intro @sw_never_again (And.intro @sw_never_range (And.intro @sw_never_above @sw_in_never)))))))))))))))))))))))))))))))))))))))))))))))):=(And.intro @sw_span_leap (And.intro @sw_span_back (And.intro @sw_span_again (And.intro @sw_span_range (And.intro @sw_span_above (And.intro @sw_span_never (And.intro @sw_in_span (And.intro @sw_leap_span (And.intro @sw_leap_back (And.intro @sw_leap_again (And.intro @sw_leap_range (And.intro @sw_leap_above (And.intro @sw_leap_never (And.intro @sw_in_leap (And.intro @sw_back_span (And.intro @sw_back_leap (And.intro @sw_back_again (And.intro @sw_back_range (And.intro @sw_back_above (And.intro @sw_back_never (And.intro @sw_in_back (And.intro @sw_again_span (And.intro @sw_again_leap (And.intro @sw_again_back (And.intro @sw_again_range (And.intro @sw_again_above (And.intro @sw_again_never (And.intro @sw_in_again (And.intro @sw_range_span (And.intro @sw_range_leap (And.intro @sw_range_back (And.intro @sw_range_again (And.intro @sw_range_above (And.intro @sw_range_never (And.intro @sw_in_range (And.intro @sw_above_span (And.intro @sw_above_leap (And.intro @sw_above_back (And.intro @sw_above_again (And.intro @sw_above_range (And.intro @sw_above_never (And.intro @sw_in_above (And.intro @sw_never_span (And.intro @sw_never_leap (And.intro @sw_never_back (And.intro @sw_never_again (And.intro @sw_never_range (And.intro @sw_never_above @sw_in_never))))))))))))))))))))))))))))))))))))))))))))))))
def awV (k lo hi:Int) (ps:List D):Bool:=decide ((ps.length:Int)=k) && ps.all (wiD lo hi)
noncomputable def wayD:D→Bool
 | .str x=>inD (.str x) [.str (PySem.Str.ofString "like"),.str (PySem.Str.ofString "against"),.str (PySem.Str.ofString "aside"),.str (PySem.Str.ofString "any")]
 | _=>false
def spV (ba oc:Int):List D→Bool
 | [a,b]=>wiD 0 (ba - 1) a && wiD 0 (2 ^ oc.toNat - 1) b
 | _=>false
def leI:List D→Bool
 | [.int i,.int j]=>decide (i≤j)
 | _=>false
def neI:List D→Bool
 | [.int i,.int j]=>!decide (i=j)
 | _=>false
def neV (oc:Int):List D→Bool
 | [a,b,c]=>wiD 0 (oc - 1) a && (wiD 0 (oc - 1) b && wayD c)
 | _=>false
theorem f_allD {Z:List D} {p:D→Bool}:biD .all [.lst (Z.map λz=>.bl (p z))]=some (.sh (.bl (Z.all p))):=by
 have h:boolsD (Z.map λz=>.bl (p z))=some (Z.map p):=by
  induction Z with
  | nil=>rfl
  | cons z Z ih=>simp [boolsD,ih]
 show (boolsD _).map _=_
 rw [h]
 simp [List.all_map]
theorem wi_int {lo hi:Int} {d:D} (h:wiD lo hi d=true):∃ i,d=.int i∧lo≤i∧i≤hi:=by
 cases d with
 | int i =>
  simp only [wiD,Bool.and_eq_true,decide_eq_true_eq] at h
  exact ⟨i,rfl,h.1,h.2⟩
 | _=>cases h
theorem wh_no {lo hi:Int} {d:D} (h:whD d=false):wiD lo hi d=false:=by cases d <;> first | rfl | cases h
theorem wh_int {d:D} (h:whD d=true):∃ i,d=.int i:=by cases d <;> first | exact ⟨_,rfl⟩ | cases h
theorem are_within_spec {W n:Nat} {k lo hi:Int} {ps:List D} (hl:ps.length≤1000) (hy:ps.all thD=true) :
  run T W (n+3) "are_within" [.sh (.tup ps),.sh (.int k),.sh (.int lo),.sh (.int hi)]=some (.ok (.sh (.bl (awV k lo hi ps))),[.sh (.tup ps),.sh (.int k),.sh (.int lo),.sh (.int hi)]):=by
 rw [run_ T_are_within rfl rfl]
 unfold fn_are_within
 have hi':itemsOf .of [.slot 0] [.sh (.tup ps),.sh (.int k),.sh (.int lo),.sh (.int hi)]=some (ps,none):=it_ts rfl
 obtain ⟨acc,ρi,e,⟨t1,rfl,ht1,rfl⟩,_⟩:=compL_inv (tests:=evTs T.pins (run T W (n+2)) []) (elt:=ev T.pins (run T W (n+2)) false el_are_within_0) (bind:=bindT true [3]) (ds:=ps)
  (λj acc ρ=>∃ (t1:Sl),ρ=[.sh (.int hi),.sh (.int lo),.un,t1]∧okS t1=true∧acc=(ps.take j).map λy=>.bl (wiD lo hi y))
  (λj d hd acc ρ hρ=>by
   obtain ⟨t1,rfl,ht1,rfl⟩:=hρ
   have hw:=within_spec (W:=W) (n:=n) (lo:=lo) (hi:=hi) (List.all_eq_true.mp hy d (List.mem_of_getElem? hd))
   refine ⟨_,true,_,by simp only [cib,stO_okS ht1] <;> rfl,evTs_nil,λ_=>?_,λz=>nomatch z⟩
   refine ⟨.sh (.bl (wiD lo hi d)),[.sh (.int hi),.sh (.int lo),.un,.sh d], ?_,_,rfl,rfl,by rw [List.take_succ,hd,List.map_append]; rfl⟩
   unfold el_are_within_0
   clear hd hy hi' ht1 hl
   walk_at "!within_spec f_allD %")
  [] [.sh (.int hi),.sh (.int lo),.un,.un] ⟨_,rfl,rfl,rfl⟩
 rw [List.take_length] at e
 have hsm:smallL ps.length=true:=smallL_ (by omega)
 cases c:decide ((ps.length:Int)=k)
 ·have hv:awV k lo hi ps=false:=by unfold awV; rw [c]; rfl
  clear hy hl ht1
  walk_at "!within_spec f_allD %"
 ·have hv:awV k lo hi ps=ps.all (wiD lo hi):=by unfold awV; rw [c]; rfl
  clear hy hl ht1
  walk_at "!within_spec f_allD %"
  rw [kComp_n hi']
  walk_at "!within_spec f_allD %"
  all_goals (rw [compF_ rfl]; walk_at "!within_spec f_allD %")
theorem spans_b {i oc:Int} (h0:0≤i) (h1:0≤oc):decide ((PySem.Builtin.Int.intBits i:Int)≤oc)=decide (i≤2 ^ oc.toNat - 1):=by
 apply decide_eq_decide.mpr
 obtain ⟨m,rfl⟩:∃ m:Nat,oc=m:=⟨oc.toNat,by omega⟩
 have h:=PySem.intBits_le_iff (m:=m) (x:=i)
 have e:((2 ^ m:Nat):Int)=(2:Int) ^ m:=by norm_cast
 rw [Int.toNat_natCast,← e]
 constructor
 ·intro q
  have:=h.mp (by omega)
  omega
 ·intro q
  have:=h.mpr (by omega)
  omega
theorem are_spans_spec {W n:Nat} {oc:Int} {d:D} (h1:0≤oc) (hd:thD d=true) :
  run T W (n+2) "are_spans" [.sh d,.sh (.int oc)]=some (.ok (.sh (.bl (wiD 0 (2 ^ oc.toNat - 1) d))),[.sh d,.sh (.int oc)]):=by
 rw [run_ T_are_spans rfl rfl]
 unfold fn_are_spans
 have hw:=iswhole_spec (W:=W) (n:=n) hd
 cases c:whD d
 ·rw [wh_no c]
  rw [c] at hw
  clear c hd h1
  walk_at "!iswhole_spec"
 ·obtain ⟨i,rfl⟩:=wh_int c
  rw [c] at hw
  by_cases c1:0≤i
  ·have c1':decide (0≤i)=true:=decide_eq_true c1
   have hs:=spans_b c1 h1
   have hv:wiD 0 (2 ^ oc.toNat - 1) (.int i)=decide (i≤2 ^ oc.toNat - 1):=by
    show (decide (0≤i) && _)=_
    rw [c1',Bool.true_and]
   rw [hv,← hs]
   clear c hd c1 hs hv h1
   walk_at "!iswhole_spec"
  ·have c1':decide (0≤i)=false:=decide_eq_false c1
   have hv:wiD 0 (2 ^ oc.toNat - 1) (.int i)=false:=by
    show (decide (0≤i) && _)=_
    rw [c1',Bool.false_and]
   clear c hd c1 h1
   walk_at "!iswhole_spec"
theorem c_inW {x:PySem.Str}:cmpD .In (.str x) (.tup [.str (PySem.Str.ofString "like"),.str (PySem.Str.ofString "against"),.str (PySem.Str.ofString "aside"),.str (PySem.Str.ofString "any")])=some (wayD (.str x)):=(rfl)
theorem is_way_spec {W n:Nat} {d:D} (hd:thD d=true):run T W (n+1) "is_way" [.sh d]=some (.ok (.sh (.bl (wayD d))),[.sh d]):=by
 rw [run_ T_is_way rfl rfl]
 unfold fn_is_way
 cases d <;> first | (simp only [thD,Bool.false_eq_true] at hd; done) | (clear hd; walk_at "!c_inW"; rfl) | (clear hd; walk_at "!c_inW"; done)
theorem sl_t1 {a:D} {ps:List D}:slO (some (.tup (a :: ps))) (some (.int 1)) none=some (.sh (.tup ps)):=by
 show slD (.tup (a :: ps)) (some 1) none=_
 have e:HT.sIx (a :: ps).length 0 (some 1)=1:=by
  have h:=HT.sIx_nat (a :: ps).length 0 1
  rw [show ((1:Nat):Int)=1 from rfl] at h
  rw [h,List.length_cons]
  omega
 first
  | show some (RV.sh (.tup (cutD (a :: ps) (some 1) none)))=_
  | (show (if HT.sIx (a :: ps).length 0 (some 1)=0∧HT.sIx (a :: ps).length (a :: ps).length none=(a :: ps).length then none else some (RV.sh (.tup (cutD (a :: ps) (some 1) none))))=_; rw [e,if_neg (λz=>absurd z.1 (by decide))])
 unfold cutD
 rw [e,HT.sIx_none,List.drop_one,List.tail_cons,List.take_of_length_le (by simp)]
theorem sl_32 {a b c:D}:slO (some (.tup [a,b,c])) none (some (.int 2))=some (.sh (.tup [a,b])):=(rfl)
theorem aw2 {lo hi:Int} {ps:List D} (h:awV 2 lo hi ps=true):∃ i j,ps=[.int i,.int j]∧lo≤i∧i≤hi∧lo≤j∧j≤hi:=by
 unfold awV at h
 simp only [Bool.and_eq_true,decide_eq_true_eq] at h
 match ps,h with
 | [a,b],h =>
  simp only [List.all_cons,List.all_nil,Bool.and_true,Bool.and_eq_true] at h
  obtain ⟨i,rfl,i1,i2⟩:=wi_int h.2.1
  obtain ⟨j,rfl,j1,j2⟩:=wi_int h.2.2
  exact ⟨i,j,rfl,i1,i2,j1,j2⟩
 | [],h=>simp at h
 | [_],h=>simp at h
 | _ :: _ :: _ :: _,h=>simp only [List.length_cons] at h; omega
theorem q22:decide (((2:Nat):Int)=2)=true:=(rfl)
theorem q33:decide (((3:Nat):Int)=3)=true:=(rfl)
theorem q20:decide (((2:Nat):Int)=0)=false:=(rfl)
theorem rule_aw {W n:Nat} {ba oc ma:D} {ps:List D} (hl:ps.length≤1000) (hy:ps.all thD=true) :
  (run T W (n+4) "is_rule" [.sh ba,.sh oc,.sh ma,.sh (.tup (.str (PySem.Str.ofString "leap") :: ps))]=some (.ok (.sh (.bl (awV 1 0 12 ps))),[.sh ba,.sh oc,.sh ma,.sh (.tup (.str (PySem.Str.ofString "leap") :: ps))])) ∧
  (run T W (n+4) "is_rule" [.sh ba,.sh oc,.sh ma,.sh (.tup (.str (PySem.Str.ofString "back") :: ps))]=some (.ok (.sh (.bl (awV 2 1 12 ps))),[.sh ba,.sh oc,.sh ma,.sh (.tup (.str (PySem.Str.ofString "back") :: ps))])) ∧
  (run T W (n+4) "is_rule" [.sh ba,.sh oc,.sh ma,.sh (.tup (.str (PySem.Str.ofString "again") :: ps))]=some (.ok (.sh (.bl (awV 1 1 3 ps))),[.sh ba,.sh oc,.sh ma,.sh (.tup (.str (PySem.Str.ofString "again") :: ps))])):=by
 have l0:decide (((ps.length+1:Nat):Int)=0)=false:=decide_eq_false (by omega)
 have h1:=are_within_spec (W:=W) (n:=n) (k:=1) (lo:=0) (hi:=12) hl hy
 have h2:=are_within_spec (W:=W) (n:=n) (k:=2) (lo:=1) (hi:=12) hl hy
 have h3:=are_within_spec (W:=W) (n:=n) (k:=1) (lo:=1) (hi:=3) hl hy
 clear hl hy
 refine ⟨?_, ?_, ?_⟩
 all_goals
  rw [run_ T_is_rule rfl rfl]
  unfold fn_is_rule
  walk_at "!sw_all sl_t1 sl_32 q22 q33 q20"
theorem rule_span {W n:Nat} {ba oc:Int} {ma:D} {ps:List D} (ho:0≤oc) (hy:ps.all thD=true) :
  run T W (n+4) "is_rule" [.sh (.int ba),.sh (.int oc),.sh ma,.sh (.tup (.str (PySem.Str.ofString "span") :: ps))]=some (.ok (.sh (.bl (spV ba oc ps))),[.sh (.int ba),.sh (.int oc),.sh ma,.sh (.tup (.str (PySem.Str.ofString "span") :: ps))]):=by
 have l0:decide (((ps.length+1:Nat):Int)=0)=false:=decide_eq_false (by omega)
 rw [run_ T_is_rule rfl rfl]
 unfold fn_is_rule
 by_cases c:∃ a b,ps=[a,b]
 ·obtain ⟨a,b,rfl⟩:=c
  simp only [List.all_cons,List.all_nil,Bool.and_true,Bool.and_eq_true] at hy
  have h1:=within_spec (W:=W) (n:=n+1) (lo:=0) (hi:=ba - 1) hy.1
  have h2:=are_spans_spec (W:=W) (n:=n+1) ho hy.2
  have l3:decide (((3:Nat):Int)=0)=false:=rfl
  have hv:spV ba oc [a,b]=(wiD 0 (ba - 1) a && wiD 0 (2 ^ oc.toNat - 1) b):=rfl
  clear hy ho
  cases c1:wiD 0 (ba - 1) a
  ·rw [c1] at h1 hv
   have hv:spV ba oc [a,b]=false:=hv
   walk_at "!sw_all sl_t1 sl_32 q22 q33 q20"
  ·rw [c1] at h1 hv
   have hv:spV ba oc [a,b]=wiD 0 (2 ^ oc.toNat - 1) b:=hv
   walk_at "!sw_all sl_t1 sl_32 q22 q33 q20"
 ·have l2:decide ((ps.length:Int)=2)=false:=decide_eq_false λz=>c (by
   match ps,z with
   | [a,b],_=>exact ⟨a,b,rfl⟩
   | [],z=>simp at z
   | [_],z=>simp at z
   | _ :: _ :: _ :: _,z=>simp only [List.length_cons] at z; omega)
  have hv:spV ba oc ps=false:=by
   unfold spV
   split
   ·exact absurd ⟨_,_,rfl⟩ c
   ·rfl
  clear c hy ho
  walk_at "!sw_all sl_t1 sl_32 q22 q33 q20"
theorem rule_two {W n:Nat} {ba oc:D} {ma:Int} {ps:List D} (hl:ps.length≤1000) (hy:ps.all thD=true) :
  (run T W (n+4) "is_rule" [.sh ba,.sh oc,.sh (.int ma),.sh (.tup (.str (PySem.Str.ofString "range") :: ps))]=some (.ok (.sh (.bl (awV 2 (-60) 60 ps && leI ps))),[.sh ba,.sh oc,.sh (.int ma),.sh (.tup (.str (PySem.Str.ofString "range") :: ps))])) ∧
  (run T W (n+4) "is_rule" [.sh ba,.sh oc,.sh (.int ma),.sh (.tup (.str (PySem.Str.ofString "above") :: ps))]=some (.ok (.sh (.bl (awV 2 0 ma ps && neI ps))),[.sh ba,.sh oc,.sh (.int ma),.sh (.tup (.str (PySem.Str.ofString "above") :: ps))])):=by
 have l0:decide (((ps.length+1:Nat):Int)=0)=false:=decide_eq_false (by omega)
 have h1:=are_within_spec (W:=W) (n:=n) (k:=2) (lo:=-60) (hi:=60) hl hy
 have h2:=are_within_spec (W:=W) (n:=n) (k:=2) (lo:=0) (hi:=ma) hl hy
 clear hl hy
 have l3:decide (((3:Nat):Int)=0)=false:=rfl
 constructor
 ·rw [run_ T_is_rule rfl rfl]
  unfold fn_is_rule
  clear h2
  walk_at "!sw_all sl_t1 sl_32 q22 q33 q20"
  cases c:awV 2 (-60) 60 ps
  ·walk_at "!"
   all_goals rfl
  ·clear h1
   obtain ⟨i,j,rfl,_⟩:=aw2 c
   have hv:(true && leI [.int i,.int j])=decide (i≤j):=rfl
   clear c
   walk_at "!sw_all sl_t1 sl_32 q22 q33 q20"
 ·rw [run_ T_is_rule rfl rfl]
  unfold fn_is_rule
  clear h1
  walk_at "!sw_all sl_t1 sl_32 q22 q33 q20"
  cases c:awV 2 0 ma ps
  ·walk_at "!"
   all_goals rfl
  ·clear h2
   obtain ⟨i,j,rfl,_⟩:=aw2 c
   have hv:(true && neI [.int i,.int j])=!decide (i=j):=rfl
   clear c
   walk_at "!sw_all sl_t1 sl_32 q22 q33 q20"
theorem rule_never {W n:Nat} {ba ma:D} {oc:Int} {ps:List D} (hy:ps.all thD=true) :
  run T W (n+4) "is_rule" [.sh ba,.sh (.int oc),.sh ma,.sh (.tup (.str (PySem.Str.ofString "never") :: ps))]=some (.ok (.sh (.bl (neV oc ps))),[.sh ba,.sh (.int oc),.sh ma,.sh (.tup (.str (PySem.Str.ofString "never") :: ps))]):=by
 have l0:decide (((ps.length+1:Nat):Int)=0)=false:=decide_eq_false (by omega)
 rw [run_ T_is_rule rfl rfl]
 unfold fn_is_rule
 by_cases c:∃ a b d,ps=[a,b,d]
 ·obtain ⟨a,b,d,rfl⟩:=c
  simp only [List.all_cons,List.all_nil,Bool.and_true,Bool.and_eq_true] at hy
  have h1:=are_within_spec (W:=W) (n:=n) (k:=2) (lo:=0) (hi:=oc - 1) (ps:=[a,b]) (by simp) (by simp [hy.1,hy.2.1])
  have h2:=is_way_spec (W:=W) (n:=n+2) hy.2.2
  have l4:decide (((4:Nat):Int)=0)=false:=rfl
  have hv:neV oc [a,b,d]=(awV 2 0 (oc - 1) [a,b] && wayD d):=by
   unfold neV awV
   simp [Bool.and_assoc]
  clear hy
  cases c1:awV 2 0 (oc - 1) [a,b]
  ·rw [c1] at h1 hv
   have hv:neV oc [a,b,d]=false:=hv
   walk_at "!sw_all sl_t1 sl_32 q22 q33 q20"
  ·rw [c1] at h1 hv
   have hv:neV oc [a,b,d]=wayD d:=hv
   walk_at "!sw_all sl_t1 sl_32 q22 q33 q20"
 ·have l2:decide ((ps.length:Int)=3)=false:=decide_eq_false λz=>c (by
   match ps,z with
   | [a,b,d],_=>exact ⟨a,b,d,rfl⟩
   | [],z=>simp at z
   | [_],z=>simp at z
   | [_,_],z=>simp at z
   | _ :: _ :: _ :: _ :: _,z=>simp only [List.length_cons] at z; omega)
  have hv:neV oc ps=false:=by
   unfold neV
   split
   ·exact absurd ⟨_,_,_,rfl⟩ c
   ·rfl
  clear c hy
  walk_at "!sw_all sl_t1 sl_32 q22 q33 q20"
theorem pw {j:Int} (h1:0≤j) (h2:j≤12):(0:Int)<2 ^ j.toNat∧(2:Int) ^ j.toNat<100000000000000000000000000000000000000000000000000000000000000000000000000000000:=by
 have h:j.toNat≤12:=by omega
 generalize j.toNat=q at h
 have h3:2 ^ q≤2 ^ 12:=Nat.pow_le_pow_right (by decide) h
 have h4:(2:Int) ^ q≤4096:=by exact_mod_cast h3
 exact ⟨Int.pow_pos (by decide),Int.lt_of_le_of_lt h4 (by decide)⟩
inductive RuleD (no ba oc ma:Int):D→Prop
 | span (a b:Int) (h1:0≤a) (h2:a<ba) (h3:0≤b) (h4:b<2 ^ oc.toNat):RuleD no ba oc ma (.tup [.str "span",.int a,.int b])
 | leap (a:Int) (h1:0≤a) (h2:a≤12):RuleD no ba oc ma (.tup [.str "leap",.int a])
 | back (a b:Int) (h1:1≤a) (h2:a≤12) (h3:1≤b) (h4:b≤12):RuleD no ba oc ma (.tup [.str "back",.int a,.int b])
 | again (a:Int) (h1:1≤a) (h2:a≤3):RuleD no ba oc ma (.tup [.str "again",.int a])
 | range (a b:Int) (h1:-60≤a) (h2:a≤b) (h3:b≤60):RuleD no ba oc ma (.tup [.str "range",.int a,.int b])
 | above (v w:Nat) (h1:(v:Int)≤ma) (h2:(w:Int)≤ma) (h3:v≠w):RuleD no ba oc ma (.tup [.str "above",.int (v:Int),.int (w:Int)])
 | never (a b:Int) (x:PySem.Str) (h1:0≤a) (h2:a<oc) (h3:0≤b) (h4:b<oc) (h5:x="like"∨x="against"∨x="aside"∨x="any"):RuleD no ba oc ma (.tup [.str "never",.int a,.int b,.str x])
section
variable {P:Pins} {C:Calls} {W:Nat} {k s no ba oc ma w:Int} {u6 u7 u8:Sl}
noncomputable def envR (k s no ba oc ma w:Int) (u6 u7 u8:Sl):Env:=[.ow (.lst [.int k,.int s]) true false,.sh (.int no),.sh (.int ba),.sh (.int oc),.sh (.int ma),.sh (.int w),u6,u7,u8]
theorem ifR {a:List S} {i:Int}:ex P C W (.ifs (.cmp .Eq (.var 5) (.con (.int i))) a []) (envR k s no ba oc ma w u6 u7 u8)=if w=i then exs P C W a (envR k s no ba oc ma w u6 u7 u8) else some (.nx,envR k s no ba oc ma w u6 u7 u8):=by
 unfold envR
 by_cases h:w=i
 ·have h':decide (w=i)=true:=decide_eq_true h
  rw [if_pos h]
  clear h
  walk_at "!"
 ·have h':decide (w=i)=false:=decide_eq_false h
  rw [if_neg h]
  clear h
  walk_at "!"
end
theorem at2 {a b:Int} {c:Int} (h1:0≤c) (h2:c<2):L2.atI [D.int a,D.int b] c=some (.int (if c=0 then a else b)):=by
 have:c=0∨c=1:=by omega
 rcases this with rfl | rfl <;> rfl
theorem atW {c:Int} (h1:0≤c) (h2:c<4):∃ x:PySem.Str,L2.atI [D.str "like",D.str "against",D.str "aside",D.str "any"] c=some (.str x)∧(x="like"∨x="against"∨x="aside"∨x="any"):=by
 have:c=0∨c=1∨c=2∨c=3:=by omega
 rcases this with rfl | rfl | rfl | rfl
 ·exact ⟨_,rfl,.inl rfl⟩
 ·exact ⟨_,rfl,.inr (.inl rfl)⟩
 ·exact ⟨_,rfl,.inr (.inr (.inl rfl))⟩
 ·exact ⟨_,rfl,.inr (.inr (.inr rfl))⟩
theorem rule_spec {W n:Nat} {k s0 no ba oc ma:Int} (n1:1≤no) (n2:no≤7) (b1:1≤ba) (b2:ba≤4) (o1:1≤oc) (o2:oc≤12) (m1:1≤ma) (m2:ma≤3) :
  ∃ s' d,run T W (n+2) "L_rule" [.ow (.lst [.int k,.int s0]) true false,.sh (.int no),.sh (.int ba),.sh (.int oc),.sh (.int ma)]=some (.ok (.sh d),[.ow (.lst [.int k,.int s']) true false,.sh (.int no),.sh (.int ba),.sh (.int oc),.sh (.int ma)])∧RuleD no ba oc ma d:=by
 rw [run_ T_L_rule rfl rfl]
 unfold fn_L_rule
 have g1:0<ba:=by omega
 have g2:ba<100000000000000000000000000000000000000000000000000000000000000000000000000000000:=by omega
 have g3:0<oc:=by omega
 have g4:oc<100000000000000000000000000000000000000000000000000000000000000000000000000000000:=by omega
 have g5:0≤oc:=by omega
 have g6:oc≤1000:=by omega
 obtain ⟨g7,g8⟩:=pw g5 o2
 have g9:0<ma:=by omega
 have g10:ma<100000000000000000000000000000000000000000000000000000000000000000000000000000000:=by omega
 have g11:0<ma+1:=by omega
 have g12:ma+1<100000000000000000000000000000000000000000000000000000000000000000000000000000000:=by omega
 have v1:=drawV_lo (k:=k) (s:=s0) (m:=9) (by decide)
 have v2:=drawV_hi (k:=k) (s:=s0) (m:=9) (by decide)
 have e0:ex T.pins (run T W (n+1)) W st_L_rule_0 ([.ow (.lst [.int k,.int s0]) true false,.sh (.int no),.sh (.int ba),.sh (.int oc),.sh (.int ma)] ++ List.replicate 4 .un)=some (.nx,envR k (drawS k s0 9) no ba oc ma (drawV k s0 9) .un .un .un):=by
  unfold envR
  rw [x_st_L_rule_0]
  clear g1 g2 g3 g4 g5 g6 g7 g8 g9 g10 g11 g12 v1 v2 n1 n2 b1 b2 o1 o2 m1 m2
  walk_at "!draw_spec"
 generalize drawV k s0 9=w at *
 generalize drawS k s0 9=s at *
 rw [exs_cons,e0,nx_nx,exs_cons]
 clear e0
 -- a return of a statement ends the def
 have fin:∀ {st:S} {r:List S} {s':Int} {d:D} {u6 u7 u8:Sl},ex T.pins (run T W (n+1)) W st (envR k s no ba oc ma w .un .un .un)=some (.rt (.sh d),envR k s' no ba oc ma w u6 u7 u8)→RuleD no ba oc ma d →
   ∃ s'' d,kRun [.ow (.lst [.int k,.int s0]) true false,.sh (.int no),.sh (.int ba),.sh (.int oc),.sh (.int ma)] ((ex T.pins (run T W (n+1)) W st (envR k s no ba oc ma w .un .un .un)).next (exs T.pins (run T W (n+1)) W r))=some (.ok (.sh d),[.ow (.lst [.int k,.int s'']) true false,.sh (.int no),.sh (.int ba),.sh (.int oc),.sh (.int ma)])∧RuleD no ba oc ma d:=λh hd=>by
  rw [h,nx_rt,kRun_rt]
  exact ⟨_,_,rfl,hd⟩
 by_cases c0:w<2
 ·refine fin (s':=drawS k (drawS k s ba) (2 ^ oc.toNat)) (d:=.tup [.str "span",.int (drawV k s ba),.int (drawV k (drawS k s ba) (2 ^ oc.toNat))]) (u6:=.un) (u7:=.un) (u8:=.un) ?_ (.span _ _ (drawV_lo g1) (drawV_hi g1) (drawV_lo g7) (drawV_hi g7))
  have c0':decide (w<2)=true:=decide_eq_true c0
  rw [x_st_L_rule_1]
  unfold envR
  clear n1 n2 b1 b2 o1 o2 m1 m2 v1 v2 c0 fin
  walk_at "!draw_spec"
 have e1:ex T.pins (run T W (n+1)) W st_L_rule_1 (envR k s no ba oc ma w .un .un .un)=some (.nx,envR k s no ba oc ma w .un .un .un):=by
  have c0':decide (w<2)=false:=decide_eq_false c0
  rw [x_st_L_rule_1]
  unfold envR
  clear n1 n2 b1 b2 o1 o2 m1 m2 v1 v2 c0 fin
  walk_at "!draw_spec"
 rw [e1,nx_nx,exs_cons]
 clear e1
 by_cases c2:w=2
 ·have x1:=drawV_lo (k:=k) (s:=drawS k s ba) (m:=oc) g3
  have x2:=drawV_hi (k:=k) (s:=drawS k s ba) (m:=oc) g3
  have x3:drawV k (drawS k s ba) oc≤1000:=by omega
  have h4:(2:Int) ^ (drawV k (drawS k s ba) oc).toNat≤2 ^ oc.toNat - 1:=by
   have h1:(drawV k (drawS k s ba) oc).toNat+1≤oc.toNat:=by omega
   have h2:(2:Int) ^ ((drawV k (drawS k s ba) oc).toNat+1)≤2 ^ oc.toNat:=by
    have h3:2 ^ ((drawV k (drawS k s ba) oc).toNat+1)≤2 ^ oc.toNat:=Nat.pow_le_pow_right (by decide) h1
    exact_mod_cast h3
   have h4:(2:Int) ^ ((drawV k (drawS k s ba) oc).toNat+1)=2 ^ (drawV k (drawS k s ba) oc).toNat*2:=Int.pow_succ _ _
   have h5:(0:Int)<2 ^ (drawV k (drawS k s ba) oc).toNat:=Int.pow_pos (by decide)
   omega
  have h5:(0:Int)<2 ^ (drawV k (drawS k s ba) oc).toNat:=Int.pow_pos (by decide)
  refine fin (s':=drawS k (drawS k s ba) oc) (d:=.tup [.str "span",.int (drawV k s ba),.int (2 ^ oc.toNat - 1 - 2 ^ (drawV k (drawS k s ba) oc).toNat)]) (u6:=.un) (u7:=.un) (u8:=.un) ?_ (.span _ _ (drawV_lo g1) (drawV_hi g1) (by omega) (by omega))
  rw [x_st_L_rule_2,ifR,if_pos c2]
  unfold envR
  clear n1 n2 b1 b2 o1 o2 m1 m2 v1 v2 c0 fin h4 h5 x2
  walk_at "!draw_spec"
 rw [x_st_L_rule_2,ifR,if_neg c2,nx_nx,exs_cons]
 by_cases c3:w=3
 ·have x1:=drawV_lo (k:=k) (s:=s) (m:=2) (by decide)
  have x2:=drawV_hi (k:=k) (s:=s) (m:=2) (by decide)
  have hat:=at2 (a:=13) (b:=no+1) x1 x2
  obtain ⟨q,hq⟩:∃ q,q=(if drawV k s 2=0 then 13 else no+1):=⟨_,rfl⟩
  rw [← hq] at hat
  have q1:0<q:=by rw [hq]; split <;> omega
  have q2:q≤13:=by rw [hq]; split <;> omega
  have q3:q<100000000000000000000000000000000000000000000000000000000000000000000000000000000:=by omega
  refine fin (s':=drawS k (drawS k s 2) q) (d:=.tup [.str "leap",.int (drawV k (drawS k s 2) q)]) (u6:=.un) (u7:=.un) (u8:=.un) ?_ (.leap _ (drawV_lo q1) (by have:=drawV_hi (k:=k) (s:=drawS k s 2) q1; omega))
  rw [x_st_L_rule_3,ifR,if_pos c3]
  unfold envR
  clear n1 n2 b1 b2 o1 o2 m1 m2 v1 v2 c0 fin q2 hq x1 x2
  walk_at "!draw_spec"
 rw [x_st_L_rule_3,ifR,if_neg c3,nx_nx,exs_cons]
 by_cases c4:w=4
 ·have x1:=drawV_lo (k:=k) (s:=s) (m:=12) (by decide)
  have x2:=drawV_hi (k:=k) (s:=s) (m:=12) (by decide)
  have x3:=drawV_lo (k:=k) (s:=drawS k s 12) (m:=12) (by decide)
  have x4:=drawV_hi (k:=k) (s:=drawS k s 12) (m:=12) (by decide)
  refine fin (s':=drawS k (drawS k s 12) 12) (d:=.tup [.str "back",.int (1+drawV k s 12),.int (1+drawV k (drawS k s 12) 12)]) (u6:=.un) (u7:=.un) (u8:=.un) ?_ (.back _ _ (by omega) (by omega) (by omega) (by omega))
  rw [x_st_L_rule_4,ifR,if_pos c4]
  unfold envR
  clear n1 n2 b1 b2 o1 o2 m1 m2 v1 v2 c0 fin x1 x2 x3 x4
  walk_at "!draw_spec"
 rw [x_st_L_rule_4,ifR,if_neg c4,nx_nx,exs_cons]
 by_cases c5:w=5
 ·have x1:=drawV_lo (k:=k) (s:=s) (m:=3) (by decide)
  have x2:=drawV_hi (k:=k) (s:=s) (m:=3) (by decide)
  refine fin (s':=drawS k s 3) (d:=.tup [.str "again",.int (1+drawV k s 3)]) (u6:=.un) (u7:=.un) (u8:=.un) ?_ (.again _ (by omega) (by omega))
  rw [x_st_L_rule_5,ifR,if_pos c5]
  unfold envR
  clear n1 n2 b1 b2 o1 o2 m1 m2 v1 v2 c0 fin x1 x2
  walk_at "!draw_spec"
 rw [x_st_L_rule_5,ifR,if_neg c5,nx_nx,exs_cons]
 by_cases c6:w=6
 ·have u1:=drawV_lo (k:=k) (s:=s) (m:=121) (by decide)
  have u2:=drawV_hi (k:=k) (s:=s) (m:=121) (by decide)
  have u3:=drawV_lo (k:=k) (s:=drawS k s 121) (m:=20) (by decide)
  have u4:=drawV_hi (k:=k) (s:=drawS k s 121) (m:=20) (by decide)
  have u5:=drawV_lo (k:=k) (s:=drawS k (drawS k s 121) 20) (m:=2) (by decide)
  have u6:=drawV_hi (k:=k) (s:=drawS k (drawS k s 121) 20) (m:=2) (by decide)
  have hat:=at2 (a:=drawV k s 121 - 60) (b:=drawV k (drawS k s 121) 20 - 12) u5 u6
  obtain ⟨lo,hlo⟩:∃ lo,lo=(if drawV k (drawS k (drawS k s 121) 20) 2=0 then drawV k s 121 - 60 else drawV k (drawS k s 121) 20 - 12):=⟨_,rfl⟩
  rw [← hlo] at hat
  have q1:lo≤60:=by rw [hlo]; split <;> omega
  have q2:-60≤lo:=by rw [hlo]; split <;> omega
  have y1:0<61 - lo:=by omega
  have y2:61 - lo<100000000000000000000000000000000000000000000000000000000000000000000000000000000:=by omega
  obtain ⟨s1,hs1⟩:∃ s1,s1=drawS k (drawS k (drawS k s 121) 20) 2:=⟨_,rfl⟩
  have z1:=drawV_lo (k:=k) (s:=s1) y1
  have z2:=drawV_hi (k:=k) (s:=s1) y1
  refine fin (s':=drawS k s1 (61 - lo)) (d:=.tup [.str "range",.int lo,.int (lo+drawV k s1 (61 - lo))]) (u6:=.sh (.int lo)) (u7:=.un) (u8:=.un) ?_ (.range _ _ q2 (by omega) (by omega))
  rw [x_st_L_rule_6,ifR,if_pos c6]
  have hs1':=hs1.symm
  unfold envR
  clear n1 n2 b1 b2 o1 o2 m1 m2 v1 v2 c0 fin u1 u2 u3 u4 u5 u6 q1 q2 z1 z2 hlo hs1
  walk_at "!draw_spec"
 rw [x_st_L_rule_6,ifR,if_neg c6,nx_nx,exs_cons]
 by_cases c7:w=7
 ·have x1:=drawV_lo (k:=k) (s:=s) g11
  have x2:=drawV_hi (k:=k) (s:=s) g11
  have x3:=drawV_lo (k:=k) (s:=drawS k s (ma+1)) g9
  have x4:=drawV_hi (k:=k) (s:=drawS k s (ma+1)) g9
  obtain ⟨a,ha⟩:∃ a:Nat,drawV k s (ma+1)=(a:Int):=⟨_,(Int.toNat_of_nonneg x1).symm⟩
  have y1:=Int.emod_nonneg ((a:Int)+1+drawV k (drawS k s (ma+1)) ma) (b:=ma+1) (by omega)
  have y2:=Int.emod_lt_of_pos ((a:Int)+1+drawV k (drawS k s (ma+1)) ma) (b:=ma+1) (by omega)
  obtain ⟨b,hb⟩:∃ b:Nat,((a:Int)+1+drawV k (drawS k s (ma+1)) ma) % (ma+1)=(b:Int):=⟨_,(Int.toNat_of_nonneg y1).symm⟩
  have hne:a≠b:=λz=>by
   subst z
   rcases Int.lt_or_le ((a:Int)+1+drawV k (drawS k s (ma+1)) ma) (ma+1) with h | h
   ·rw [Int.emod_eq_of_lt (by omega) h] at hb
    omega
   ·have h2:((a:Int)+1+drawV k (drawS k s (ma+1)) ma) % (ma+1)=((a:Int)+1+drawV k (drawS k s (ma+1)) ma - (ma+1)):=by
     rw [← Int.sub_emod_right,Int.emod_eq_of_lt (by omega) (by omega)]
    omega
  refine fin (s':=drawS k (drawS k s (ma+1)) ma) (d:=.tup [.str "above",.int (a:Int),.int (b:Int)]) (u6:=.un) (u7:=.sh (.int (a:Int))) (u8:=.un) ?_ (.above _ _ (by omega) (by omega) hne)
  rw [x_st_L_rule_7,ifR,if_pos c7]
  unfold envR
  clear n1 n2 b1 b2 o1 o2 m1 m2 v1 v2 c0 fin x1 x2 x3 x4 y1 y2 hne
  walk_at "!draw_spec"
 rw [x_st_L_rule_7,ifR,if_neg c7,nx_nx,exs_cons,x_st_L_rule_8]
 have x1:=drawV_lo (k:=k) (s:=drawS k (drawS k s oc) oc) (m:=4) (by decide)
 have x2:=drawV_hi (k:=k) (s:=drawS k (drawS k s oc) oc) (m:=4) (by decide)
 obtain ⟨x,hat,hx⟩:=atW x1 x2
 refine ⟨drawS k (drawS k (drawS k s oc) oc) 4,.tup [.str "never",.int (drawV k s oc),.int (drawV k (drawS k s oc) oc),.str x], ?_,.never _ _ _ (drawV_lo g3) (drawV_hi g3) (drawV_lo g3) (drawV_hi g3) hx⟩
 unfold envR
 clear n1 n2 b1 b2 o1 o2 m1 m2 v1 v2 c0 fin x1 x2 hx
 walk_at "!x_st_L_rule_9 draw_spec"
def toD (f:Int × Int × Bool):D:=.tup [.int f.1,.int f.2.1,.bl f.2.2]
theorem atb2 {g:Bool} {a b:Int}:L2.atI [D.int a,D.int b] (if g=true then 1 else 0)=some (.int (if g=true then b else a)):=by cases g <;> rfl
theorem ifp {g:Bool} {a b:Int} (ha:0<a) (hb:0<b):0<(if g=true then b else a):=by cases g <;> simpa
theorem ifh {g:Bool} {a b c:Int} (ha:a<c) (hb:b<c):(if g=true then b else a)<c:=by cases g <;> simpa
structure HouseOk (no ba oc:Int) (fs:List (Int × Int × Bool)):Prop where
 n1:1≤no
 n2:no≤7
 b1:1≤ba
 b2:ba≤4
 o1:1≤oc
 o2:oc≤12
 l1:1≤fs.length
 l2:fs.length≤3
 f:∀ f∈fs,0≤f.1∧f.1≤4∧-12≤f.2.1∧f.2.1≤12
theorem house_spec {W n:Nat} {k s:Int}:∃ s' no ba oc fs rs,run T W (n+3) "L_house" [.ow (.lst [.int k,.int s]) true false]=some (.ok (.sh (.tup [.int no,.int ba,.int oc,.tup (fs.map toD),.tup rs])),[.ow (.lst [.int k,.int s']) true false])∧HouseOk no ba oc fs∧rs.length≤8∧∀ d∈rs,RuleD no ba oc (fs.length:Int) d:=by
 rw [run_ T_L_house rfl rfl]
 unfold fn_L_house
 generalize hg:decide (drawV k s 2=0)=g
 have p1:=ifp (g:=g) (a:=4) (b:=7) (by decide) (by decide)
 have p2:=ifh (g:=g) (a:=4) (b:=7) (c:=100000000000000000000000000000000000000000000000000000000000000000000000000000000) (by decide) (by decide)
 have p3:=ifp (g:=g) (a:=2) (b:=4) (by decide) (by decide)
 have p4:=ifh (g:=g) (a:=2) (b:=4) (c:=100000000000000000000000000000000000000000000000000000000000000000000000000000000) (by decide) (by decide)
 have p5:=ifp (g:=g) (a:=2) (b:=3) (by decide) (by decide)
 have p6:=ifh (g:=g) (a:=2) (b:=3) (c:=100000000000000000000000000000000000000000000000000000000000000000000000000000000) (by decide) (by decide)
 have p7:=ifp (g:=g) (a:=2) (b:=5) (by decide) (by decide)
 have p8:=ifh (g:=g) (a:=2) (b:=5) (c:=100000000000000000000000000000000000000000000000000000000000000000000000000000000) (by decide) (by decide)
 obtain ⟨s1,hs1⟩:∃ s1,s1=drawS k s 2:=⟨_,rfl⟩
 obtain ⟨no,hno⟩:∃ no,no=1+drawV k s1 (if g=true then 7 else 4):=⟨_,rfl⟩
 obtain ⟨s2,hs2⟩:∃ s2,s2=drawS k s1 (if g=true then 7 else 4):=⟨_,rfl⟩
 obtain ⟨ba,hba⟩:∃ ba,ba=1+drawV k s2 (if g=true then 4 else 2):=⟨_,rfl⟩
 obtain ⟨s3,hs3⟩:∃ s3,s3=drawS k s2 (if g=true then 4 else 2):=⟨_,rfl⟩
 obtain ⟨oc,hoc⟩:∃ oc,oc=1+drawV k s3 12:=⟨_,rfl⟩
 obtain ⟨s4,hs4⟩:∃ s4,s4=drawS k s3 12:=⟨_,rfl⟩
 obtain ⟨ma,hma⟩:∃ ma,ma=1+drawV k s4 (if g=true then 3 else 2):=⟨_,rfl⟩
 obtain ⟨s5,hs5⟩:∃ s5,s5=drawS k s4 (if g=true then 3 else 2):=⟨_,rfl⟩
 have n1:1≤no:=by have:=drawV_lo (k:=k) (s:=s1) p1; omega
 have n2:no≤7:=by
  have:=drawV_hi (k:=k) (s:=s1) p1
  have:(if g=true then (7:Int) else 4)≤7:=by cases g <;> decide
  omega
 have b1:1≤ba:=by have:=drawV_lo (k:=k) (s:=s2) p3; omega
 have b2:ba≤4:=by
  have:=drawV_hi (k:=k) (s:=s2) p3
  have:(if g=true then (4:Int) else 2)≤4:=by cases g <;> decide
  omega
 have o1:1≤oc:=by have:=drawV_lo (k:=k) (s:=s3) (m:=12) (by decide); omega
 have o2:oc≤12:=by have:=drawV_hi (k:=k) (s:=s3) (m:=12) (by decide); omega
 have m1:1≤ma:=by have:=drawV_lo (k:=k) (s:=s4) p5; omega
 have m2:ma≤3:=by
  have:=drawV_hi (k:=k) (s:=s4) p5
  have:(if g=true then (3:Int) else 2)≤3:=by cases g <;> decide
  omega
 have hi1:itemsOf .rng [.slot 5] [.ow (.lst [.int k,.int s5]) true false,.sh (.bl g),.sh (.int no),.sh (.int ba),.sh (.int oc),.sh (.int ma),.ow (.lst []) false false,.un,.un,.un]=some ((List.range ma.toNat).map λ(j:Nat)=>.int (j:Int),none):=it_r1 rfl (by omega) (by omega)
 have key1:=loopF_inv' (bind:=bindT true [7]) (body:=exs T.pins (run T W (n+2)) W bd_L_house_0)
  (λpre ρ=>∃ s6 fs t7 t8,ρ=[.ow (.lst [.int k,.int s6]) true false,.sh (.bl g),.sh (.int no),.sh (.int ba),.sh (.int oc),.sh (.int ma),.ow (.lst (fs.map toD)) false false,t7,t8,.un]∧okS t7=true∧okS t8=true∧fs.length=pre.length∧∀ f∈fs,0≤f.1∧f.1≤4∧-12≤f.2.1∧f.2.1≤12)
  (ds:=(List.range ma.toNat).map λ(j:Nat)=>.int (j:Int)) (λpre d post hds ρ hρ=>by
   obtain ⟨s6,fs,t7,t8,rfl,h7,h8,hl,hf⟩:=hρ
   have hlen:pre.length<ma.toNat:=by
    have:=congrArg List.length hds
    simp at this
    omega
   refine ⟨_,by simp only [cib,stO_okS h7] <;> rfl, ?_⟩
   have hsm:smallL ((fs.map toD).length+1)=true:=smallL_ (by simp; omega)
   have la:=drawV_lo (k:=k) (s:=s6) p7
   have lb:=drawV_hi (k:=k) (s:=s6) p7
   have lc:(if g=true then (5:Int) else 2)≤5:=by cases g <;> decide
   have sa:=drawV_lo (k:=k) (s:=drawS k s6 (if g=true then 5 else 2)) (m:=25) (by decide)
   have sb:=drawV_hi (k:=k) (s:=drawS k s6 (if g=true then 5 else 2)) (m:=25) (by decide)
   refine ⟨[.ow (.lst [.int k,.int (drawS k (drawS k (drawS k s6 (if g=true then 5 else 2)) 25) 4)]) true false,.sh (.bl g),.sh (.int no),.sh (.int ba),.sh (.int oc),.sh (.int ma),.ow (.lst ((fs ++ [(drawV k s6 (if g=true then 5 else 2),drawV k (drawS k s6 (if g=true then 5 else 2)) 25 - 12,decide (drawV k (drawS k (drawS k s6 (if g=true then 5 else 2)) 25) 4=0))]).map toD)) false false,.sh d,.sh (.int (drawV k s6 (if g=true then 5 else 2))),.un], ?_,_,_,_,_,rfl,rfl,rfl,by simp [hl],λf hm=>?_⟩
   ·unfold bd_L_house_0
    clear hf hds la lb lc sa sb hg hno hs2 hba hs3 hoc hs4 hma hs5 n1 n2 b1 b2 o1 o2 m1 m2 hlen hl hi1 hs1
    walk_at "!atb2 draw_spec"
    simp only [List.map_append,List.map_cons,List.map_nil,toD]
   ·rcases List.mem_append.mp hm with hm | hm
    ·exact hf f hm
    ·rw [List.mem_singleton.mp hm]
     refine ⟨la, ?_, ?_, ?_⟩ <;> simp only <;> omega)
  (ρ:=[.ow (.lst [.int k,.int s5]) true false,.sh (.bl g),.sh (.int no),.sh (.int ba),.sh (.int oc),.sh (.int ma),.ow (.lst []) false false,.un,.un,.un]) ⟨_,[],_,_,rfl,rfl,rfl,rfl,λf h=>nomatch h⟩
 obtain ⟨ρ1,el1,s6,fs,t7,t8,rfl,h7,h8,hl,hf⟩:=key1
 have hl:fs.length=ma.toNat:=by rw [hl]; simp
 have hr1:=drawV_lo (k:=k) (s:=s6) (m:=9) (by decide)
 have hr2:=drawV_hi (k:=k) (s:=s6) (m:=9) (by decide)
 have hi2:itemsOf .rng [.val (.sh (.int (drawV k s6 9)))] [.ow (.lst [.int k,.int (drawS k s6 9)]) true false,.sh (.bl g),.sh (.int no),.sh (.int ba),.sh (.int oc),.sh (.int ma),.ow (.lst (fs.map toD)) false false,t7,t8,.ow (.lst []) false false]=some ((List.range (drawV k s6 9).toNat).map λ(j:Nat)=>.int (j:Int),none):=it_r1 rfl (by omega) (by omega)
 have key2:=loopF_inv' (bind:=bindT true [7]) (body:=exs T.pins (run T W (n+2)) W bd_L_house_1)
  (λpre ρ=>∃ s7 rs t7,ρ=[.ow (.lst [.int k,.int s7]) true false,.sh (.bl g),.sh (.int no),.sh (.int ba),.sh (.int oc),.sh (.int ma),.ow (.lst (fs.map toD)) false false,t7,t8,.ow (.lst rs) false false]∧okS t7=true∧rs.length=pre.length∧∀ d∈rs,RuleD no ba oc ma d)
  (ds:=(List.range (drawV k s6 9).toNat).map λ(j:Nat)=>.int (j:Int)) (λpre d post hds ρ hρ=>by
   obtain ⟨s7,rs,t7,rfl,h7,hl,hR⟩:=hρ
   have hlen:pre.length<(drawV k s6 9).toNat:=by
    have:=congrArg List.length hds
    simp at this
    omega
   refine ⟨_,by simp only [cib,stO_okS h7] <;> rfl, ?_⟩
   have hsm:smallL (rs.length+1)=true:=smallL_ (by omega)
   obtain ⟨s8,dr,er,hrd⟩:=rule_spec (W:=W) (n:=n) (k:=k) (s0:=s7) n1 n2 b1 b2 o1 o2 m1 m2
   refine ⟨[.ow (.lst [.int k,.int s8]) true false,.sh (.bl g),.sh (.int no),.sh (.int ba),.sh (.int oc),.sh (.int ma),.ow (.lst (fs.map toD)) false false,.sh d,t8,.ow (.lst (rs ++ [dr])) false false], ?_,_,_,_,rfl,rfl,by simp [hl],λd hd=>(List.mem_append.mp hd).elim (hR d) λq=>by rw [List.mem_singleton.mp q]; exact hrd⟩
   unfold bd_L_house_1
   clear hR hrd hf hds hg hno hs2 hba hs3 hoc hs4 hma hs5 n1 n2 b1 b2 o1 o2 m1 m2 hlen hl hi1 hs1 el1 hi2 hr1 hr2
   walk_at "!draw_spec atb2")
  (ρ:=[.ow (.lst [.int k,.int (drawS k s6 9)]) true false,.sh (.bl g),.sh (.int no),.sh (.int ba),.sh (.int oc),.sh (.int ma),.ow (.lst (fs.map toD)) false false,t7,t8,.ow (.lst []) false false]) ⟨_,[],_,rfl,h7,rfl,λ_ z=>nomatch z⟩
 obtain ⟨ρ2,el2,s7,rs,t7',rfl,h7',hlr,hR⟩:=key2
 have hlr2:rs.length≤8:=by rw [hlr]; simp; omega
 have hlm:(fs.length:Int)=ma:=by omega
 refine ⟨s7,no,ba,oc,fs,rs, ?_,⟨n1,n2,b1,b2,o1,o2,by omega,by omega,hf⟩,hlr2,by rw [hlm]; exact hR⟩
 clear hf n1 n2 b1 b2 o1 o2 m1 m2 hl hlr hr1 hr2 hR hlr2 hlm
 have e1:=hno.symm
 have e2:=hs2.symm
 have e3:=hba.symm
 have e4:=hs3.symm
 have e5:=hoc.symm
 have e6:=hs4.symm
 have e7:=hma.symm
 have e8:=hs5.symm
 have e9:=hs1.symm
 clear hno hs2 hba hs3 hoc hs4 hma hs5 hs1
 walk_at "!atb2 draw_spec"
noncomputable def houseD (no ba oc:Int) (fs:List (Int × Int × Bool)) (rs:List D):D:=.tup [.int no,.int ba,.int oc,.tup (fs.map toD),.tup rs]
theorem is_whole_int {W n:Nat} {i:Int}:run T W (n+1) "is_whole" [.sh (.int i)]=some (.ok (.sh (.bl true)),[.sh (.int i)]):=by
 rw [run_ T_is_whole rfl rfl]
 unfold fn_is_whole
 walk_at "!"
theorem within_ok {W n:Nat} {i a b:Int} (h1:a≤i) (h2:i≤b):run T W (n+2) "is_within" [.sh (.int i),.sh (.int a),.sh (.int b)]=some (.ok (.sh (.bl true)),[.sh (.int i),.sh (.int a),.sh (.int b)]):=by
 rw [run_ T_is_within rfl rfl]
 unfold fn_is_within
 have c1:decide (a≤i)=true:=decide_eq_true h1
 have c2:decide (i≤b)=true:=decide_eq_true h2
 clear h1 h2
 walk_at "!is_whole_int"
mutual
theorem eqD_refl:∀ (n:Nat) (d:D),okD n d=true→eqD d d=true
 | _,.non,_=>by simp [eqD]
 | _,.bl _,_=>by simp [eqD]
 | _,.int _,_=>by simp [eqD]
 | _,.str _,_=>by simp [eqD]
 | 0,.tup _,h=>by simp [okD] at h
 | 0,.lst _,h=>by simp [okD] at h
 | n+1,.tup ds,h=>by simp only [okD] at h; simp only [eqD]; exact eqDs_refl n ds h
 | n+1,.lst ds,h=>by simp only [okD] at h; simp only [eqD]; exact eqDs_refl n ds h
 | _,.ins _ _ _,h=>by simp [okD] at h
 | _,.dct _,h=>by simp [okD] at h
 | _,.exn _ _,h=>by simp [okD] at h
 | _,.dcs _ _,h=>by simp [okD] at h
 | _,.dl _,h=>by simp [okD] at h
theorem eqDs_refl:∀ (n:Nat) (ds:List D),ds.all (okD n)=true→eqDs ds ds=true
 | _,[],_=>by simp [eqDs]
 | n,d :: ds,h=>by
  simp only [List.all_cons,Bool.and_eq_true] at h
  simp only [eqDs,eqD_refl n d h.1,eqDs_refl n ds h.2,Bool.and_self]
end
theorem c_neR {d:D} (h:okD 20 d=true):cmpD .NotEq d d=some false:=by rw [c_ne h h,eqD_refl 20 d h]; rfl
theorem c_eqR {d:D} (h:okD 20 d=true):cmpD .Eq d d=some true:=by rw [c_eq h h,eqD_refl 20 d h]
def rsOk (no ba oc ma:Int) (rs:List D):Prop:=rs.length≤8∧∀ d∈rs,RuleD no ba oc ma d
theorem okD_rule {no ba oc ma:Int} {d:D} {n:Nat} (h:RuleD no ba oc ma d):okD (n+1) d=true:=by cases h <;> simp [okD]
theorem okD_house {no ba oc ma:Int} {fs:List (Int × Int × Bool)} {rs:List D} (h:rsOk no ba oc ma rs):okD 20 (houseD no ba oc fs rs)=true:=by
 have h1:(fs.map toD).all (okD 18)=true:=List.all_eq_true.mpr λd hd=>by obtain ⟨f,_,rfl⟩:=List.mem_map.mp hd; rfl
 have h2:rs.all (okD 18)=true:=List.all_eq_true.mpr λd hd=>okD_rule (h.2 d hd)
 show (true && (true && (true && ((fs.map toD).all (okD 18) && (rs.all (okD 18) && true)))))=true
 rw [h1,h2]
 rfl
theorem rule_yes {W n:Nat} {no ba oc ma:Int} {d:D} (o1:1≤oc) (h:RuleD no ba oc ma d):run T W (n+4) "is_rule" [.sh (.int ba),.sh (.int oc),.sh (.int ma),.sh d]=some (.ok (.sh (.bl true)),[.sh (.int ba),.sh (.int oc),.sh (.int ma),.sh d]):=by
 have dt:∀ {p:Prop} [Decidable p],p→decide p=true:=λh=>decide_eq_true h
 cases h with
 | span a b h1 h2 h3 h4 =>
  have e:=rule_span (W:=W) (n:=n) (ba:=ba) (oc:=oc) (ma:=.int ma) (ps:=[.int a,.int b]) (by omega) rfl
  rwa [show spV ba oc [.int a,.int b]=true by simp only [spV,wiD,Bool.and_eq_true]; exact ⟨⟨dt h1,dt (by omega)⟩,dt h3,dt (by omega)⟩] at e
 | leap a h1 h2 =>
  have e:=(rule_aw (W:=W) (n:=n) (ba:=.int ba) (oc:=.int oc) (ma:=.int ma) (ps:=[.int a]) (by simp) rfl).1
  rwa [show awV 1 0 12 [.int a]=true by simp only [awV,wiD,List.all_cons,List.all_nil,Bool.and_true,Bool.and_eq_true]; exact ⟨rfl,dt h1,dt h2⟩] at e
 | back a b h1 h2 h3 h4 =>
  have e:=(rule_aw (W:=W) (n:=n) (ba:=.int ba) (oc:=.int oc) (ma:=.int ma) (ps:=[.int a,.int b]) (by simp) rfl).2.1
  rwa [show awV 2 1 12 [.int a,.int b]=true by simp only [awV,wiD,List.all_cons,List.all_nil,Bool.and_true,Bool.and_eq_true]; exact ⟨rfl,⟨dt h1,dt h2⟩,dt h3,dt h4⟩] at e
 | again a h1 h2 =>
  have e:=(rule_aw (W:=W) (n:=n) (ba:=.int ba) (oc:=.int oc) (ma:=.int ma) (ps:=[.int a]) (by simp) rfl).2.2
  rwa [show awV 1 1 3 [.int a]=true by simp only [awV,wiD,List.all_cons,List.all_nil,Bool.and_true,Bool.and_eq_true]; exact ⟨rfl,dt h1,dt h2⟩] at e
 | range a b h1 h2 h3 =>
  have e:=(rule_two (W:=W) (n:=n) (ba:=.int ba) (oc:=.int oc) (ma:=ma) (ps:=[.int a,.int b]) (by simp) rfl).1
  rwa [show (awV 2 (-60) 60 [.int a,.int b] && leI [.int a,.int b])=true by simp only [awV,leI,wiD,List.all_cons,List.all_nil,Bool.and_true,Bool.and_eq_true]; exact ⟨⟨rfl,⟨dt h1,dt (by omega)⟩,dt (by omega),dt h3⟩,dt h2⟩] at e
 | above v w h1 h2 h3 =>
  have e:=(rule_two (W:=W) (n:=n) (ba:=.int ba) (oc:=.int oc) (ma:=ma) (ps:=[.int v,.int w]) (by simp) rfl).2
  rwa [show (awV 2 0 ma [.int v,.int w] && neI [.int v,.int w])=true by simp only [awV,neI,wiD,List.all_cons,List.all_nil,Bool.and_true,Bool.and_eq_true]; exact ⟨⟨rfl,⟨dt (by omega),dt h1⟩,dt (by omega),dt h2⟩,by rw [decide_eq_false (by omega)]; rfl⟩] at e
 | never a b x h1 h2 h3 h4 h5 =>
  have e:=rule_never (W:=W) (n:=n) (ba:=.int ba) (ma:=.int ma) (oc:=oc) (ps:=[.int a,.int b,.str x]) rfl
  have hx:wayD (.str x)=true:=by rcases h5 with rfl | rfl | rfl | rfl <;> decide +kernel
  rwa [show neV oc [.int a,.int b,.str x]=true by simp only [neV,wiD,hx,Bool.and_true,Bool.and_eq_true]; exact ⟨⟨dt h1,dt (by omega)⟩,dt h3,dt (by omega)⟩] at e
theorem fol_yes {W n:Nat} {f:Int × Int × Bool} (h:0≤f.1∧f.1≤4∧-12≤f.2.1∧f.2.1≤12):run T W (n+3) "is_follower" [.sh (toD f)]=some (.ok (.sh (.bl true)),[.sh (toD f)]):=by
 rw [run_ T_is_follower rfl rfl]
 unfold fn_is_follower toD
 have h1:=within_ok (W:=W) (n:=n) (i:=f.1) (a:=0) (b:=4) h.1 h.2.1
 have h2:=within_ok (W:=W) (n:=n) (i:=f.2.1) (a:=-12) (b:=12) h.2.2.1 h.2.2.2
 have e6:decide (((3:Nat):Int)=3)=true:=rfl
 clear h
 walk_at "!within_ok"
theorem enum_mem {lo:Int} {ds:List D} {d:D} (h:d∈enumD lo ds):∃ (j:Int) (x:D),d=.tup [.int j,x]∧x∈ds:=by
 unfold enumD at h
 obtain ⟨j,hj,rfl⟩:=List.mem_map.mp h
 have hj:j<ds.length:=List.mem_range.mp hj
 exact ⟨_,_,rfl,by rw [List.getD_eq_getElem?_getD,List.getElem?_eq_getElem hj]; exact List.getElem_mem hj⟩
theorem frame_yes {W n:Nat} {no ba oc:Int} {fs:List (Int × Int × Bool)} {vs rs:List D} (ho:HouseOk no ba oc fs) (hv:vs.length=fs.length) (hr:rs.length≤8) :
  run T W (n+3) "check_frame" [.sh (.int no),.sh (.int ba),.sh (.int oc),.sh (.lst vs),.sh (.lst rs)]=some (.ok (.sh .non),[.sh (.int no),.sh (.int ba),.sh (.int oc),.sh (.lst vs),.sh (.lst rs)]):=by
 rw [run_X T_check_frame rfl rfl]
 unfold fn_check_frame
 have h1:=within_ok (W:=W) (n:=n) (i:=no) (a:=1) (b:=7) ho.n1 ho.n2
 have h2:=within_ok (W:=W) (n:=n) (i:=ba) (a:=1) (b:=4) ho.b1 ho.b2
 have h3:=within_ok (W:=W) (n:=n) (i:=oc) (a:=1) (b:=12) ho.o1 ho.o2
 have q1:=ho.l1
 have q2:=ho.l2
 have h4:decide ((1:Int)≤(vs.length:Int))=true:=decide_eq_true (by omega)
 have h5:decide ((vs.length:Int)≤3)=true:=decide_eq_true (by omega)
 have h6:decide ((8:Int)<(rs.length:Int))=false:=decide_eq_false (by omega)
 clear ho hv hr q1 q2
 walk_at "!within_ok"
noncomputable def Fits (no ba oc:Int) (vs rs:List D):Bool:=wiD 1 7 (.int no) && (wiD 1 4 (.int ba) && (wiD 1 12 (.int oc) && (decide ((1:Int)≤(vs.length:Int)) && (decide ((vs.length:Int)≤3) && !decide ((8:Int)<(rs.length:Int))))))
theorem frame_no {W n:Nat} {no ba oc:Int} {vs rs:List D} (h:Fits no ba oc vs rs=false) :
  run T W (n+3) "check_frame" [.sh (.int no),.sh (.int ba),.sh (.int oc),.sh (.lst vs),.sh (.lst rs)]=some (.ex ⟨"NoHouse",none⟩,[.sh (.int no),.sh (.int ba),.sh (.int oc),.sh (.lst vs),.sh (.lst rs)]):=by
 rw [run_X T_check_frame rfl rfl]
 unfold raised fn_check_frame
 have h1:=within_spec (W:=W) (n:=n) (d:=.int no) (lo:=1) (hi:=7) rfl
 have h2:=within_spec (W:=W) (n:=n) (d:=.int ba) (lo:=1) (hi:=4) rfl
 have h3:=within_spec (W:=W) (n:=n) (d:=.int oc) (lo:=1) (hi:=12) rfl
 unfold Fits at h
 cases q1:wiD 1 7 (.int no) with
 | false=>rw [q1] at h1; clear h q1 h2 h3; walk_at "!within_ok"
 | true =>
  rw [q1] at h h1
  cases q2:wiD 1 4 (.int ba) with
  | false=>rw [q2] at h2; clear h q1 q2 h3; walk_at "!within_ok"
  | true =>
   rw [q2] at h h2
   cases q3:wiD 1 12 (.int oc) with
   | false=>rw [q3] at h3; clear h q1 q2 q3; walk_at "!within_ok"
   | true =>
    rw [q3] at h h3
    cases q4:decide ((1:Int)≤(vs.length:Int)) with
    | false=>clear h q1 q2 q3; walk_at "!within_ok"
    | true =>
     cases q5:decide ((vs.length:Int)≤3) with
     | false=>clear h q1 q2 q3; walk_at "!within_ok"
     | true =>
      cases q6:decide ((8:Int)<(rs.length:Int)) with
      | true=>clear h q1 q2 q3; walk_at "!within_ok"
      | false=>rw [q4,q5,q6] at h; cases h
theorem kRunX_ex {as:List Sl} {x:Exc} {ρ:Env} {o:Option (Exc × Env)}:kRunX as (some (.ex x,ρ)) o=(match o with | some (x,ρ)=>some (.ex x,back as ρ) | none=>none):=rfl
theorem house_no {W n:Nat} {no ba oc:Int} {vs rs:List D} (h:Fits no ba oc vs rs=false) :
  run T W (n+4) "house_of" [.sh (.int no),.sh (.int ba),.sh (.int oc),.sh (.lst vs),.sh (.lst rs)]=some (.ex ⟨"NoHouse",none⟩,[.sh (.int no),.sh (.int ba),.sh (.int oc),.sh (.lst vs),.sh (.lst rs)]):=by
 rw [run_X T_house_of rfl rfl]
 unfold raised fn_house_of
 have hf:=frame_no (W:=W) (n:=n) h
 clear h
 walk_at "!kRunX_ex"
theorem house_of_spec {W n:Nat} {no ba oc:Int} {fs:List (Int × Int × Bool)} {rs:List D} (ho:HouseOk no ba oc fs) (hr:rsOk no ba oc fs.length rs) :
  run T W (n+5) "house_of" [.sh (.int no),.sh (.int ba),.sh (.int oc),.sh (.lst (fs.map toD)),.sh (.lst rs)]=some (.ok (.sh (houseD no ba oc fs rs)),[.sh (.int no),.sh (.int ba),.sh (.int oc),.sh (.lst (fs.map toD)),.sh (.lst rs)]):=by
 rw [run_X T_house_of rfl rfl]
 unfold fn_house_of
 have hf:=frame_yes (W:=W) (n:=n+1) (vs:=fs.map toD) ho (by simp) hr.1
 have hi1:itemsOf (.enum 1) [.slot 3] [.sh (.int no),.sh (.int ba),.sh (.int oc),.sh (.lst (fs.map toD)),.sh (.lst rs),.un,.un]=some (enumD 1 (fs.map toD),none):=rfl
 obtain ⟨ρ1,e1,t5,t6,rfl,ht5,ht6⟩:=loopF_inv (bind:=bindT false [5,6]) (body:=exs T.pins (run T W (n+4)) W bd_house_of_0)
  (λρ=>∃ t5 t6,ρ=[.sh (.int no),.sh (.int ba),.sh (.int oc),.sh (.lst (fs.map toD)),.sh (.lst rs),t5,t6]∧okS t5=true∧okS t6=true)
  (ds:=enumD 1 (fs.map toD)) (λd hd ρ hρ=>by
   obtain ⟨t5,t6,rfl,h5,h6⟩:=hρ
   obtain ⟨j,x,rfl,hx⟩:=enum_mem hd
   obtain ⟨f,hff,rfl⟩:=List.mem_map.mp hx
   refine ⟨_,by simp only [cib,stO_okS h5,stO_okS h6] <;> rfl, ?_⟩
   have hw:=fol_yes (W:=W) (n:=n+1) (ho.f f hff)
   unfold bd_house_of_0
   clear hd hx hff ho hr hf hi1 h5 h6
   walk_at "!kRunX_ex"
   refine ⟨_,rfl,_,_,rfl,rfl,rfl⟩)
  (ρ:=[.sh (.int no),.sh (.int ba),.sh (.int oc),.sh (.lst (fs.map toD)),.sh (.lst rs),.un,.un]) ⟨_,_,rfl,rfl,rfl⟩
 have hi2:itemsOf (.enum 0) [.slot 4] [.sh (.int no),.sh (.int ba),.sh (.int oc),.sh (.lst (fs.map toD)),.sh (.lst rs),t5,t6]=some (enumD 0 rs,none):=rfl
 obtain ⟨ρ2,e2,t5',t6',rfl,ht5',ht6'⟩:=loopF_inv (bind:=bindT false [5,6]) (body:=exs T.pins (run T W (n+4)) W bd_house_of_1)
  (λρ=>∃ t5 t6,ρ=[.sh (.int no),.sh (.int ba),.sh (.int oc),.sh (.lst (fs.map toD)),.sh (.lst rs),t5,t6]∧okS t5=true∧okS t6=true)
  (ds:=enumD 0 rs) (λd hd ρ hρ=>by
   obtain ⟨t5,t6,rfl,h5,h6⟩:=hρ
   obtain ⟨j,x,rfl,hx⟩:=enum_mem hd
   refine ⟨_,by simp only [cib,stO_okS h5,stO_okS h6] <;> rfl, ?_⟩
   have hw:=rule_yes (W:=W) (n:=n) ho.o1 (hr.2 x hx)
   have hl:((fs.map toD).length:Int)=(fs.length:Int):=by rw [List.length_map]
   unfold bd_house_of_1
   clear hd hx ho hr hf hi1 hi2 h5 h6 e1
   walk_at "!kRunX_ex"
   refine ⟨_,rfl,_,_,rfl,rfl,rfl⟩)
  (ρ:=[.sh (.int no),.sh (.int ba),.sh (.int oc),.sh (.lst (fs.map toD)),.sh (.lst rs),t5,t6]) ⟨_,_,rfl,ht5,ht6⟩
 unfold houseD
 clear ho hr ht5 ht6
 walk_at "!kRunX_ex"
theorem ca_h {ρ:Env}:caught cs_CanonError 2 1 (some (⟨"NoHouse",none⟩,ρ))=kCa 2 1 (.exn "NoHouse" none) (store 2 (.sh (.exn "NoHouse" none)) ρ):=caught_ cc_CanonError_NoHouse (by decide)
theorem refused_spec {W n:Nat} {no ba oc:Int} {vs rs:List D} (h:Fits no ba oc vs rs=false) :
  run T W (n+5) "L_refused" [.sh (.lst [.int no,.int ba,.int oc,.lst vs,.lst rs])]=some (.ok (.sh (.bl true)),[.sh (.lst [.int no,.int ba,.int oc,.lst vs,.lst rs])]):=by
 rw [run_ T_L_refused rfl rfl]
 unfold fn_L_refused
 have hf:=house_no (W:=W) (n:=n) h
 clear h
 walk_at "!ca_h ix_0_NoHouse ix_1_NoHouse"
theorem p59:binD .Pow (.int 10) (.int 59)=some (.sh (.int 100000000000000000000000000000000000000000000000000000000000)):=by
 rw [b_pow (by decide)]; rfl
theorem b_rep {x:D} {m:Int} (h0:0≤m) (h1:m≤1000):binD .Mult (.lst [x]) (.int m)=some (.ow (.lst (List.replicate m.toNat x))):=by
 have e:(List.replicate m.toNat [x]).flatten=List.replicate m.toNat x:=by
  generalize m.toNat=k
  induction k with
  | zero=>rfl
  | succ k ih=>rw [List.replicate_succ,List.flatten_cons,ih,List.replicate_succ]; rfl
 refine (if_pos ⟨by omega,h1,sm_le (by simp; omega)⟩).trans ?_
 rw [e]
theorem at_mem {ds:List D} {v:Int} (h1:0≤v) (h2:v<ds.length):∃ d,L2.atI ds v=some d∧d∈ds:=by
 have e:L2.ixN ds.length v=some v.toNat:=by
  unfold L2.ixN
  rw [if_pos h1,if_pos (by omega)]
 refine ⟨ds[v.toNat]'(by omega), ?_,List.getElem_mem _⟩
 unfold L2.atI
 rw [e,Option.bind_some,List.getElem?_eq_getElem]
section
variable {a b c d e x:D} {v:Int} {es ws:List D} {m:Int}
theorem dp_0:dputD none 0 (.sh (.int v)) [a,b,c,d,e]=some [.int v,b,c,d,e]:=if_pos ⟨rfl,by decide,by simp⟩
theorem dp_1:dputD none 1 (.sh (.int v)) [a,b,c,d,e]=some [a,.int v,c,d,e]:=if_pos ⟨rfl,by decide,by simp⟩
theorem dp_2:dputD none 2 (.sh (.int v)) [a,b,c,d,e]=some [a,b,.int v,d,e]:=if_pos ⟨rfl,by decide,by simp⟩
theorem dp_3:dputD none 3 (.ow (.lst es)) [a,b,c,d,e]=some [a,b,c,.lst es,e]:=if_pos ⟨by decide,by simp⟩
theorem dp_4:dputD none 4 (.ow (.lst es)) [a,b,c,d,e]=some [a,b,c,d,.lst es]:=if_pos ⟨by decide,by simp⟩
theorem dp_3i (h1:0≤m) (h2:m<es.length):dputD (some 3) m (.sh x) [a,b,c,.lst es,e]=some [a,b,c,.lst (es.set m.toNat x),e]:=if_pos ⟨h1,h2⟩
theorem dp_4i (h1:0≤m) (h2:m<es.length):dputD (some 4) m (.sh x) [a,b,c,d,.lst es]=some [a,b,c,d,.lst (es.set m.toNat x)]:=if_pos ⟨h1,h2⟩
end
theorem far_ok {k s:Int} (hs:0≤drawV k s 3) (hs2:drawV k s 3<3) {b c:Int} (hb:0≤b) (hc:0≤c):∃ f,L2.atI [D.int 0,.int b,.int c] (drawV k s 3)=some (.int f)∧0≤f:=by
 obtain ⟨d,h1,h2⟩:=at_mem (ds:=[D.int 0,.int b,.int c]) hs (by simpa using hs2)
 simp only [List.mem_cons,List.not_mem_nil,or_false] at h2
 rcases h2 with rfl | rfl | rfl
 ·exact ⟨0,h1,by decide⟩
 ·exact ⟨b,h1,hb⟩
 ·exact ⟨c,h1,hc⟩
theorem put2 {W n:Nat} {k s no ba oc far way:Int} {vs rs:List D} (hf:1≤far) (w1:0≤way) (w2:way<5) (hv:vs.all (okD 18)=true) (hr:rs.all (okD 18)=true) (lv:vs.length≤100) (lr:rs.length≤100) :
  ∃ s' no' ba' oc' vs' rs',ex T.pins (run T W (n+1)) W st_L_put_out_2 [.ow (.lst [.int k,.int s]) true false,.ow (.dl [.int no,.int ba,.int oc,.lst vs,.lst rs]) true false,.sh (.int way),.sh (.int far),.un] =
   some (.nx,[.ow (.lst [.int k,.int s']) true false,.ow (.dl [.int no',.int ba',.int oc',.lst vs',.lst rs']) true false,.sh (.int way),.sh (.int far),.un])∧Fits no' ba' oc' vs' rs'=false∧vs'.all (okD 18)=true∧rs'.all (okD 18)=true∧vs'.length≤100∧rs'.length≤100:=by
 have a1:=drawV_lo (k:=k) (s:=s) (m:=2) (by decide)
 have a2:=drawV_hi (k:=k) (s:=s) (m:=2) (by decide)
 obtain rfl | rfl | rfl | rfl | rfl:way=0∨way=1∨way=2∨way=3∨way=4:=by omega
 ·have e:=at2 (a:=1 - far) (b:=7+far) a1 a2
  refine ⟨drawS k s 2,(if drawV k s 2=0 then 1 - far else 7+far),ba,oc,vs,rs, ?_, ?_,hv,hr,lv,lr⟩
  ·unfold st_L_put_out_2
   have g:decide ((0:Int)<3)=true:=rfl
   clear hf w1 w2 hv hr lv lr a1 a2
   walk_at "!p59 dp_0 dp_1 dp_2 dp_3 dp_4 draw_spec"
  ·have:wiD 1 7 (.int (if drawV k s 2=0 then 1 - far else 7+far))=false:=by
    simp only [wiD]
    split
    ·rw [decide_eq_false (by omega)]; rfl
    ·rw [decide_eq_false (show ¬ (7+far≤7) by omega),Bool.and_false]
   unfold Fits; rw [this]; rfl
 ·have e:=at2 (a:=1 - far) (b:=4+far) a1 a2
  refine ⟨drawS k s 2,no,(if drawV k s 2=0 then 1 - far else 4+far),oc,vs,rs, ?_, ?_,hv,hr,lv,lr⟩
  ·unfold st_L_put_out_2
   have g:decide ((1:Int)<3)=true:=rfl
   clear hf w1 w2 hv hr lv lr a1 a2
   walk_at "!p59 dp_0 dp_1 dp_2 dp_3 dp_4 draw_spec"
  ·have:wiD 1 4 (.int (if drawV k s 2=0 then 1 - far else 4+far))=false:=by
    simp only [wiD]
    split
    ·rw [decide_eq_false (by omega)]; rfl
    ·rw [decide_eq_false (show ¬ (4+far≤4) by omega),Bool.and_false]
   unfold Fits; rw [this,Bool.false_and,Bool.and_false]
 ·have e:=at2 (a:=1 - far) (b:=12+far) a1 a2
  refine ⟨drawS k s 2,no,ba,(if drawV k s 2=0 then 1 - far else 12+far),vs,rs, ?_, ?_,hv,hr,lv,lr⟩
  ·unfold st_L_put_out_2
   have g:decide ((2:Int)<3)=true:=rfl
   clear hf w1 w2 hv hr lv lr a1 a2
   walk_at "!p59 dp_0 dp_1 dp_2 dp_3 dp_4 draw_spec"
  ·have:wiD 1 12 (.int (if drawV k s 2=0 then 1 - far else 12+far))=false:=by
    simp only [wiD]
    split
    ·rw [decide_eq_false (by omega)]; rfl
    ·rw [decide_eq_false (show ¬ (12+far≤12) by omega),Bool.and_false]
   unfold Fits; rw [this,Bool.false_and,Bool.and_false,Bool.and_false]
 ·have b1:=drawV_lo (k:=k) (s:=s) (m:=4) (by decide)
  have b2:=drawV_hi (k:=k) (s:=s) (m:=4) (by decide)
  obtain ⟨m,hm,h0,h1,h3⟩:∃ m,L2.atI [D.int 0,.int 4,.int 5,.int 40] (drawV k s 4)=some (.int m)∧0≤m∧m≤40∧(m=0∨4≤m):=by
   obtain ⟨d,h1,h2⟩:=at_mem (ds:=[D.int 0,.int 4,.int 5,.int 40]) b1 (by simpa using b2)
   simp only [List.mem_cons,List.not_mem_nil,or_false] at h2
   rcases h2 with rfl | rfl | rfl | rfl
   ·exact ⟨0,h1,by decide,by decide,by decide⟩
   ·exact ⟨4,h1,by decide,by decide,by decide⟩
   ·exact ⟨5,h1,by decide,by decide,by decide⟩
   ·exact ⟨40,h1,by decide,by decide,by decide⟩
  have e:=b_rep (x:=.tup [.int 0,.int 0,.bl false]) h0 (by omega)
  refine ⟨drawS k s 4,no,ba,oc,List.replicate m.toNat (.tup [.int 0,.int 0,.bl false]),rs, ?_, ?_, ?_,hr,by rw [List.length_replicate]; omega,lr⟩
  ·unfold st_L_put_out_2
   have g:decide ((3:Int)<3)=false:=rfl
   have g2:decide ((3:Int)=3)=true:=rfl
   clear hf w1 w2 hv hr lv lr a1 a2 b1 b2 h0 h1 h3
   walk_at "!p59 dp_0 dp_1 dp_2 dp_3 dp_4 draw_spec"
  ·have:(decide ((1:Int)≤((List.replicate m.toNat (D.tup [.int 0,.int 0,.bl false])).length:Int)) && (decide (((List.replicate m.toNat (D.tup [.int 0,.int 0,.bl false])).length:Int)≤3) && !decide ((8:Int)<(rs.length:Int))))=false:=by
    rw [List.length_replicate]
    rcases h3 with h3 | h3
    ·rw [decide_eq_false (by omega)]; rfl
    ·rw [decide_eq_false (show ¬ ((m.toNat:Int)≤3) by omega),Bool.false_and,Bool.and_false]
   unfold Fits; rw [this,Bool.and_false,Bool.and_false,Bool.and_false]
  ·rw [List.all_eq_true]
   intro x hx
   rw [List.eq_of_mem_replicate hx]; rfl
 ·have b1:=drawV_lo (k:=k) (s:=s) (m:=60) (by decide)
  have b2:=drawV_hi (k:=k) (s:=s) (m:=60) (by decide)
  have e:=b_rep (x:=.tup [.str "leap",.int 12]) (m:=9+drawV k s 60) (by omega) (by omega)
  refine ⟨drawS k s 60,no,ba,oc,vs,List.replicate (9+drawV k s 60).toNat (.tup [.str "leap",.int 12]), ?_, ?_,hv, ?_,lv,by rw [List.length_replicate]; omega⟩
  ·unfold st_L_put_out_2
   have g:decide ((4:Int)<3)=false:=rfl
   have g2:decide ((4:Int)=3)=false:=rfl
   clear hf w1 w2 hv hr lv lr a1 a2 b1 b2
   walk_at "!p59 dp_0 dp_1 dp_2 dp_3 dp_4 draw_spec"
  ·have:decide ((8:Int)<((List.replicate (9+drawV k s 60).toNat (D.tup [.str "leap",.int 12])).length:Int))=true:=decide_eq_true (by rw [List.length_replicate]; omega)
   unfold Fits; rw [this,Bool.not_true,Bool.and_false,Bool.and_false,Bool.and_false,Bool.and_false,Bool.and_false]
  ·rw [List.all_eq_true]
   intro x hx
   rw [List.eq_of_mem_replicate hx]; rfl
theorem okD_up:∀ {n:Nat} {d:D},okD n d=true→okD (n+1) d=true
 | 0,d,h=>by cases d <;> first | rfl | exact nomatch h
 | n+1,.tup ds,h=>by
  replace h:ds.all (okD n)=true:=h
  show ds.all (okD (n+1))=true
  rw [List.all_eq_true] at h ⊢
  exact λx hx=>okD_up (h x hx)
 | n+1,.lst ds,h=>by
  replace h:ds.all (okD n)=true:=h
  show ds.all (okD (n+1))=true
  rw [List.all_eq_true] at h ⊢
  exact λx hx=>okD_up (h x hx)
 | _+1,.non,_=>rfl
 | _+1,.bl _,_=>rfl
 | _+1,.int _,_=>rfl
 | _+1,.str _,_=>rfl
 | _+1,.ins _ _ _,h=>nomatch h
 | _+1,.dct _,h=>nomatch h
 | _+1,.exn _ _,h=>nomatch h
 | _+1,.dcs _ _,h=>nomatch h
 | _+1,.dl _,h=>nomatch h
theorem c_neL {L:List D} (h:L.all (okD 18)=true):cmpD .NotEq (.lst L) (.lst [])=some (!L.isEmpty):=by
 have h2:okD 20 (.lst L)=true:=by
  show L.all (okD 19)=true
  rw [List.all_eq_true] at h ⊢
  exact λx hx=>okD_up (h x hx)
 rw [c_ne h2 rfl]
 cases L <;> rfl
theorem all_set {vs:List D} {m:Nat} {d:D} (h:vs.all (okD 18)=true) (hd:okD 18 d=true):(vs.set m d).all (okD 18)=true:=by
 rw [List.all_eq_true] at h ⊢
 intro x hx
 rcases List.mem_or_eq_of_mem_set hx with z | rfl
 ·exact h x z
 ·exact hd
theorem none4 {k s:Int} {a:D} (ha:okD 18 a=true) {x:PySem.Str}:∃ d,L2.atI [D.non,a,.str x,.tup []] (drawV k s 4)=some d∧okD 18 d=true:=by
 obtain ⟨d,h1,h2⟩:=at_mem (ds:=[D.non,a,.str x,.tup []]) (drawV_lo (k:=k) (s:=s) (m:=4) (by decide)) (by simpa using drawV_hi (k:=k) (s:=s) (m:=4) (by decide))
 simp only [List.mem_cons,List.not_mem_nil,or_false] at h2
 rcases h2 with rfl | rfl | rfl | rfl
 ·exact ⟨_,h1,rfl⟩
 ·exact ⟨_,h1,ha⟩
 ·exact ⟨_,h1,rfl⟩
 ·exact ⟨_,h1,rfl⟩
theorem put4 {W n:Nat} {k s no ba oc far way bd:Int} {vs rs:List D} (hv:vs.all (okD 18)=true) (lv:vs.length≤100) :
  ∃ s' vs',ex T.pins (run T W (n+1)) W st_L_put_out_4 [.ow (.lst [.int k,.int s]) true false,.ow (.dl [.int no,.int ba,.int oc,.lst vs,.lst rs]) true false,.sh (.int way),.sh (.int far),.sh (.int bd)] =
   some (.nx,[.ow (.lst [.int k,.int s']) true false,.ow (.dl [.int no,.int ba,.int oc,.lst vs',.lst rs]) true false,.sh (.int way),.sh (.int far),.sh (.int bd)])∧vs'.length=vs.length∧vs'.all (okD 18)=true:=by
 by_cases hb:bd=0
 ·subst hb
  have hc:=c_neL hv
  cases vs with
  | nil =>
   refine ⟨s,[], ?_,rfl,rfl⟩
   unfold st_L_put_out_4
   have g:decide ((0:Int)=0)=true:=rfl
   have g2:(!([]:List D).isEmpty)=false:=rfl
   clear hv lv
   walk_at "!p59 draw_spec"
  | cons y ys =>
   obtain ⟨d,h1,h2⟩:=none4 (k:=k) (s:=s) (a:=.tup [.int 5,.int 0,.bl false]) (x:="voice") rfl
   have g9:(0:Int)<((y :: ys).length:Int):=by rw [List.length_cons]; omega
   have g10:((y :: ys).length:Int)<100000000000000000000000000000000000000000000000000000000000000000000000000000000:=by omega
   have a1:=drawV_lo (k:=k) (s:=drawS k s 4) g9
   have a2:=drawV_hi (k:=k) (s:=drawS k s 4) g9
   have hd:=dp_3i (a:=.int no) (b:=.int ba) (c:=.int oc) (e:=.lst rs) (x:=d) a1 a2
   have hal:=all_set (m:=(drawV k (drawS k s 4) ((y :: ys).length:Int)).toNat) hv h2
   refine ⟨drawS k (drawS k s 4) ((y :: ys).length:Int),(y :: ys).set (drawV k (drawS k s 4) ((y :: ys).length:Int)).toNat d, ?_,List.length_set,hal⟩
   unfold st_L_put_out_4
   have g:decide ((0:Int)=0)=true:=rfl
   have g2:(!(y :: ys).isEmpty)=true:=rfl
   generalize (y :: ys)=L at *
   clear hv lv h2 hal a1 a2
   walk_at "!p59 draw_spec"
 ·refine ⟨s,vs, ?_,rfl,hv⟩
  unfold st_L_put_out_4
  have g:decide (bd=0)=false:=decide_eq_false hb
  clear hv lv hb
  walk_at "!p59 draw_spec"
theorem put5 {W n:Nat} {k s no ba oc far way bd:Int} {vs rs:List D} (hv:rs.all (okD 18)=true) (lv:rs.length≤100) :
  ∃ s' rs',ex T.pins (run T W (n+1)) W st_L_put_out_5 [.ow (.lst [.int k,.int s]) true false,.ow (.dl [.int no,.int ba,.int oc,.lst vs,.lst rs]) true false,.sh (.int way),.sh (.int far),.sh (.int bd)] =
   some (.nx,[.ow (.lst [.int k,.int s']) true false,.ow (.dl [.int no,.int ba,.int oc,.lst vs,.lst rs']) true false,.sh (.int way),.sh (.int far),.sh (.int bd)])∧rs'.length=rs.length∧rs'.all (okD 18)=true:=by
 by_cases hb:bd=1
 ·subst hb
  have hc:=c_neL hv
  cases rs with
  | nil =>
   refine ⟨s,[], ?_,rfl,rfl⟩
   unfold st_L_put_out_5
   have g:decide ((1:Int)=1)=true:=rfl
   have g2:(!([]:List D).isEmpty)=false:=rfl
   clear hv lv
   walk_at "!p59 draw_spec"
  | cons y ys =>
   obtain ⟨d,h1,h2⟩:=none4 (k:=k) (s:=s) (a:=.tup [.str "leap",.int 13]) (x:="leap") rfl
   have g9:(0:Int)<((y :: ys).length:Int):=by rw [List.length_cons]; omega
   have g10:((y :: ys).length:Int)<100000000000000000000000000000000000000000000000000000000000000000000000000000000:=by omega
   have a1:=drawV_lo (k:=k) (s:=drawS k s 4) g9
   have a2:=drawV_hi (k:=k) (s:=drawS k s 4) g9
   have hd:=dp_4i (a:=.int no) (b:=.int ba) (c:=.int oc) (d:=.lst vs) (x:=d) a1 a2
   have hal:=all_set (m:=(drawV k (drawS k s 4) ((y :: ys).length:Int)).toNat) hv h2
   refine ⟨drawS k (drawS k s 4) ((y :: ys).length:Int),(y :: ys).set (drawV k (drawS k s 4) ((y :: ys).length:Int)).toNat d, ?_,List.length_set,hal⟩
   unfold st_L_put_out_5
   have g:decide ((1:Int)=1)=true:=rfl
   have g2:(!(y :: ys).isEmpty)=true:=rfl
   generalize (y :: ys)=L at *
   clear hv lv h2 hal a1 a2
   walk_at "!p59 draw_spec"
 ·refine ⟨s,rs, ?_,rfl,hv⟩
  unfold st_L_put_out_5
  have g:decide (bd=1)=false:=decide_eq_false hb
  clear hv lv hb
  walk_at "!p59 draw_spec"
theorem fits_len {no ba oc:Int} {vs vs' rs rs':List D} (h1:vs'.length=vs.length) (h2:rs'.length=rs.length):Fits no ba oc vs' rs'=Fits no ba oc vs rs:=by unfold Fits; rw [h1,h2]
theorem put_out_spec {W n:Nat} {k s no ba oc:Int} {vs rs:List D} (hv:vs.all (okD 18)=true) (hr:rs.all (okD 18)=true) (lv:vs.length≤100) (lr:rs.length≤100) :
  ∃ s' no' ba' oc' vs' rs',run T W (n+2) "L_put_out" [.ow (.lst [.int k,.int s]) true false,.ow (.dl [.int no,.int ba,.int oc,.lst vs,.lst rs]) true false] =
   some (.ok (.sh .non),[.ow (.lst [.int k,.int s']) true false,.ow (.dl [.int no',.int ba',.int oc',.lst vs',.lst rs']) true false])∧Fits no' ba' oc' vs' rs'=false∧vs'.all (okD 18)=true∧rs'.all (okD 18)=true:=by
 have w1:=drawV_lo (k:=k) (s:=s) (m:=5) (by decide)
 have w2:=drawV_hi (k:=k) (s:=s) (m:=5) (by decide)
 generalize hs1:drawS k s 5=s1
 generalize hwy:drawV k s 5=way at w1 w2
 have b1:=drawV_lo (k:=k) (s:=s1) (m:=10) (by decide)
 have c1:=drawV_lo (k:=k) (s:=drawS k s1 10) (m:=100000000000000000000000000000000000000000000000000000000000) (by decide)
 generalize hs3:drawS k (drawS k s1 10) 100000000000000000000000000000000000000000000000000000000000=s3
 obtain ⟨f,hf,f0⟩:=far_ok (k:=k) (s:=s3) (drawV_lo (by decide)) (drawV_hi (by decide)) b1 c1
 obtain ⟨s4,no',ba',oc',vs1,rs1,e2,h1,h2,h3,h4,h5⟩:=put2 (W:=W) (n:=n) (k:=k) (s:=drawS k s3 3) (no:=no) (ba:=ba) (oc:=oc) (far:=1+f) (by omega) w1 w2 hv hr lv lr
 obtain ⟨s5,vs2,e4,h6,h7⟩:=put4 (W:=W) (n:=n) (k:=k) (s:=drawS k s4 4) (no:=no') (ba:=ba') (oc:=oc') (far:=1+f) (way:=way) (bd:=drawV k s4 4) (rs:=rs1) h2 h4
 obtain ⟨s6,rs2,e5,h8,h9⟩:=put5 (W:=W) (n:=n) (k:=k) (s:=s5) (no:=no') (ba:=ba') (oc:=oc') (far:=1+f) (way:=way) (bd:=drawV k s4 4) (vs:=vs2) h3 h5
 refine ⟨s6,no',ba',oc',vs2,rs2, ?_,(fits_len h6 h8).trans h1,h7,h9⟩
 have e0:ex T.pins (run T W (n+1)) W st_L_put_out_0 [.ow (.lst [.int k,.int s]) true false,.ow (.dl [.int no,.int ba,.int oc,.lst vs,.lst rs]) true false,.un,.un,.un]=some (.nx,[.ow (.lst [.int k,.int s1]) true false,.ow (.dl [.int no,.int ba,.int oc,.lst vs,.lst rs]) true false,.sh (.int way),.un,.un]):=by
  unfold st_L_put_out_0
  clear e2 e4 e5 hf hs3 b1 c1 w1 w2 h1 h2 h3 h4 h5 h6 h7 h8 h9 hv hr lv lr f0
  walk_at "!p59 draw_spec"
 have e1:ex T.pins (run T W (n+1)) W st_L_put_out_1 [.ow (.lst [.int k,.int s1]) true false,.ow (.dl [.int no,.int ba,.int oc,.lst vs,.lst rs]) true false,.sh (.int way),.un,.un]=some (.nx,[.ow (.lst [.int k,.int (drawS k s3 3)]) true false,.ow (.dl [.int no,.int ba,.int oc,.lst vs,.lst rs]) true false,.sh (.int way),.sh (.int (1+f)),.un]):=by
  unfold st_L_put_out_1
  clear e0 e2 e4 e5 hs1 hwy b1 c1 w1 w2 h1 h2 h3 h4 h5 h6 h7 h8 h9 hv hr lv lr f0
  walk_at "!p59 draw_spec"
 have e3:ex T.pins (run T W (n+1)) W st_L_put_out_3 [.ow (.lst [.int k,.int s4]) true false,.ow (.dl [.int no',.int ba',.int oc',.lst vs1,.lst rs1]) true false,.sh (.int way),.sh (.int (1+f)),.un]=some (.nx,[.ow (.lst [.int k,.int (drawS k s4 4)]) true false,.ow (.dl [.int no',.int ba',.int oc',.lst vs1,.lst rs1]) true false,.sh (.int way),.sh (.int (1+f)),.sh (.int (drawV k s4 4))]):=by
  unfold st_L_put_out_3
  clear e0 e1 e2 e4 e5 hf hs1 hs3 hwy b1 c1 w1 w2 h1 h2 h3 h4 h5 h6 h7 h8 h9 hv hr lv lr f0
  walk_at "!p59 draw_spec"
 rw [run_ T_L_put_out rfl rfl]
 unfold fn_L_put_out
 clear hf hs1 hs3 hwy b1 c1 w1 w2 h1 h2 h3 h4 h5 h6 h7 h8 h9 hv hr lv lr f0
 walk_at "!p59 draw_spec"
theorem dlO5 {ρ:Env} {a b c:Int} {vs rs:List D}:dlO ρ (dlV [.val (.sh (.int a)),.val (.sh (.int b)),.val (.sh (.int c)),.val (.ow (.lst vs)),.val (.ow (.lst rs))])=some (.ok (.ow (.dl [.int a,.int b,.int c,.lst vs,.lst rs])),ρ):=if_pos sm_5
theorem tk_no {s:Sl} (h:∀ d p l,s≠.ow d p l):tok s s=True:=propext ⟨λ_=>trivial,λ_=>by
 cases s with
 | ow d p l=>exact absurd rfl (h d p l)
 | _=>rfl⟩
abbrev env4 (ns:List Int) (h:D) (t2 t3 t4:Sl):Env:=[.sh (.lst (ns.map .int)),.sh h,t2,t3,t4]
theorem body4 {W:Nat} {ns:List Int} {no ba oc:Int} {fs:List (Int × Int × Bool)} {rs:List D} {j:Nat} {t3 t4:Sl} (hn:ns.length≤63) (hj:j<4) (ho:HouseOk no ba oc fs) (hr:rsOk no ba oc fs.length rs) (h3:okS t3=true) (h4:∀ d p l,t4≠.ow d p l) :
  ∃ d5,exs T.pins (run T W 29) W bd_law_0 (env4 ns (houseD no ba oc fs rs) (.sh (.int (j:Int))) t3 t4)=some (.nx,env4 ns (houseD no ba oc fs rs) (.sh (.int (j:Int))) (.ow (.dl d5) false false) .mv):=by
 have hp:=pen_spec (W:=W) (n:=28) (ns:=ns) (k:=2+j) hn (by omega)
 rw [show ((2+j:Nat):Int)=2+(j:Int) by omega] at hp
 have hh:=house_of_spec (W:=W) (n:=24) ho hr
 have o1:(fs.map toD).all (okD 18)=true:=List.all_eq_true.mpr λd hd=>by obtain ⟨f,_,rfl⟩:=List.mem_map.mp hd; rfl
 have o2:rs.all (okD 18)=true:=List.all_eq_true.mpr λd hd=>okD_rule (hr.2 d hd)
 have q:=c_neR (okD_house (fs:=fs) hr)
 obtain ⟨s',no',ba',oc',vs',rs',e2,f1,f2,f3⟩:=put_out_spec (W:=W) (n:=27) (k:=(penV ns (2+j)).1) (s:=(penV ns (2+j)).2) (no:=no) (ba:=ba) (oc:=oc) (vs:=fs.map toD) (rs:=rs) o1 o2 (by have:=ho.l2; simp; omega) (by have:=hr.1; omega)
 have hrf:=refused_spec (W:=W) (n:=24) f1
 have q2:cmpD .NotEq (.lst [.lst vs',.lst rs']) (.lst [.lst vs',.lst rs'])=some false:=c_neR (by
  show ([D.lst vs',.lst rs']:List D).all (okD 19)=true
  simp only [List.all_cons,List.all_nil,Bool.and_true,Bool.and_eq_true]
  exact ⟨f2,f3⟩)
 refine ⟨[.int no',.int ba',.int oc',.lst vs',.lst rs'], ?_⟩
 have st:=stO_okO (ρ:=env4 ns (houseD no ba oc fs rs) (.sh (.int (j:Int))) t3 t4) (i:=3) (d:=.dl [.int no,.int ba,.int oc,.lst (fs.map toD),.lst rs]) h3
 have i0:ixO (some (houseD no ba oc fs rs)) (.int 0)=some (.sh (.int no)):=rfl
 have i1:ixO (some (houseD no ba oc fs rs)) (.int 1)=some (.sh (.int ba)):=rfl
 have i2:ixO (some (houseD no ba oc fs rs)) (.int 2)=some (.sh (.int oc)):=rfl
 have i3:ixO (some (houseD no ba oc fs rs)) (.int 3)=some (.sh (.tup (fs.map toD))):=rfl
 have i4:ixO (some (houseD no ba oc fs rs)) (.int 4)=some (.sh (.tup rs)):=rfl
 have k0:ex T.pins (run T W 29) W (.kif 3 4 (.lst [(.bif .list [(.ix (.var 3) (.con (.int 3)))]),(.bif .list [(.ix (.var 3) (.con (.int 4)))])]) (.or (.not (.call "L_refused" [(.var 3)])) (.cmp .NotEq (.lst [(.ix (.var 3) (.con (.int 3))),(.ix (.var 3) (.con (.int 4)))]) (.var 4))))
   (env4 ns (houseD no ba oc fs rs) (.sh (.int (j:Int))) (.ow (.dl [.int no',.int ba',.int oc',.lst vs',.lst rs']) false false) t4)=some (.nx,env4 ns (houseD no ba oc fs rs) (.sh (.int (j:Int))) (.ow (.dl [.int no',.int ba',.int oc',.lst vs',.lst rs']) false false) .mv):=by
  refine kif_ (v:=.ow (.lst [.lst vs',.lst rs'])) (ρ2:=env4 ns (houseD no ba oc fs rs) (.sh (.int (j:Int))) (.sh (.lst [.int no',.int ba',.int oc',.lst vs',.lst rs'])) t4) (ρ3:=env4 ns (houseD no ba oc fs rs) (.sh (.int (j:Int))) (.sh (.lst [.int no',.int ba',.int oc',.lst vs',.lst rs'])) (.sh (.lst [.lst vs',.lst rs']))) rfl rfl ?_ ?_ (by decide) h4 ?_ rfl
  ·clear hp hh o1 o2 q e2 f1 f2 f3 hrf q2 st i0 i1 i2 i3 i4 ho hr h3 h4 hn hj
   walk_at "!dlO5"
  ·clear hp hh o1 o2 q e2 f1 f2 f3 st i0 i1 i2 i3 i4 ho hr h3 h4 hn hj
   walk_at "!dlO5"
  ·simp only [List.set_cons_zero,List.set_cons_succ,tk_cons,tk_sh,tk_un,tk_mv,tk_nil,and_self]
 have t44:=tk_no h4
 unfold bd_law_0
 clear o1 o2 f1 f2 f3 hrf q2 ho hr h3 h4 hn hj
 walk_at "!dlO5"
theorem law_spec (W:Nat) (ns:List Int) (hn:ns.length≤63):∃ as',run T W 30 "law" [.sh (.lst (ns.map .int))]=some (.ok (.sh (.bl true)),as'):=by
 rw [run_ T_law rfl rfl]
 unfold fn_law
 have hp1:=pen_spec (W:=W) (n:=28) (ns:=ns) (k:=1) hn (by omega)
 have k1:((1:Nat):Int)=1:=rfl
 rw [k1] at hp1
 obtain ⟨s1,no,ba,oc,fs,rs,h1,ho,hr⟩:=house_spec (W:=W) (n:=26) (k:=(penV ns 1).1) (s:=(penV ns 1).2)
 replace hr:rsOk no ba oc fs.length rs:=hr
 replace h1:run T W (26+3) "L_house" [.ow (.lst [.int (penV ns 1).1,.int (penV ns 1).2]) true false]=some (.ok (.sh (houseD no ba oc fs rs)),[.ow (.lst [.int (penV ns 1).1,.int s1]) true false]):=h1
 have hh:=house_of_spec (W:=W) (n:=24) ho hr
 have q3:=c_eqR (okD_house (fs:=fs) hr)
 have hi:itemsOf .rng [.val (.sh (.int 4))] [.sh (.lst (ns.map .int)),.sh (houseD no ba oc fs rs),.un,.un,.un]=some ((List.range 4).map λ(j:Nat)=>.int (j:Int),none):=if_pos (by decide)
 obtain ⟨ρ1,e1,t2,t3,t4,rfl,_,_,_⟩:=loopF_inv (bind:=bindT true [2]) (body:=exs T.pins (run T W 29) W bd_law_0)
  (λρ=>∃ t2 t3 t4,ρ=[.sh (.lst (ns.map .int)),.sh (houseD no ba oc fs rs),t2,t3,t4]∧okS t2=true∧okS t3=true∧∀ d p l,t4≠.ow d p l)
  (ds:=(List.range 4).map λ(j:Nat)=>.int (j:Int)) (λd hd ρ hρ=>by
   obtain ⟨t2,t3,t4,rfl,h2,h3,h4⟩:=hρ
   obtain ⟨j,hj,rfl⟩:=List.mem_map.mp hd
   refine ⟨_,by simp only [cib,stO_okS h2] <;> rfl, ?_⟩
   obtain ⟨d5,e⟩:=body4 (W:=W) (j:=j) hn (List.mem_range.mp hj) ho hr h3 h4
   exact ⟨_,e,_,_,_,rfl,rfl,rfl,λd p l z=>nomatch z⟩)
  (ρ:=[.sh (.lst (ns.map .int)),.sh (houseD no ba oc fs rs),.un,.un,.un]) ⟨_,_,_,rfl,rfl,rfl,λd p l z=>nomatch z⟩
 have i0:ixO (some (houseD no ba oc fs rs)) (.int 0)=some (.sh (.int no)):=rfl
 have i1:ixO (some (houseD no ba oc fs rs)) (.int 1)=some (.sh (.int ba)):=rfl
 have i2:ixO (some (houseD no ba oc fs rs)) (.int 2)=some (.sh (.int oc)):=rfl
 have i3:ixO (some (houseD no ba oc fs rs)) (.int 3)=some (.sh (.tup (fs.map toD))):=rfl
 have i4:ixO (some (houseD no ba oc fs rs)) (.int 4)=some (.sh (.tup rs)):=rfl
 clear hn ho hr k1
 walk_at "!dlO5"
 exact ⟨_,rfl⟩
end Mx
namespace PySem.W.Fast
def tw10006805958660991427:=True
def tw10018174971943882393:=True
def tw10073950591305963517:=True
def tw10120708496873753386:=True
def tw10149197288317912367:=True
def tw10230273730779554254:=True
def tw1046217444743800603:=True
def tw10483303876724462148:=True
def tw10536654316095776126:=True
def tw10576077757755782992:=True
def tw1060034617474233005:=True
def tw1070765500636773612:=True
def tw10824490711121458684:=True
def tw11232957067132992731:=True
def tw11467983186863954602:=True
def tw11532642845541528033:=True
def tw1162808765674569185:=True
def tw11632820318558825603:=True
def tw11696174652245931820:=True
def tw11727758203171082258:=True
def tw11865635468439319756:=True
def tw12042896260760587882:=True
def tw12124071493551826792:=True
def tw12138886528593976911:=True
def tw1214047128005720552:=True
def tw12216892980954179518:=True
def tw12448857187491469549:=True
def tw125032302141573653:=True
def tw12546989623479287820:=True
def tw12564204626136392604:=True
def tw12661120871497937997:=True
def tw12774485118173908178:=True
def tw12841693229518833349:=True
def tw13039795892733324650:=True
def tw13127804525812885206:=True
def tw13371215622727171163:=True
def tw13455676613000721699:=True
def tw13553877677266909316:=True
def tw13667080649270543986:=True
def tw13850682052381775581:=True
def tw13934627231519083548:=True
def tw14002140395680777182:=True
def tw14004338821658377488:=True
def tw14077343847645216086:=True
def tw1427677197592210203:=True
def tw14397255540667531247:=True
def tw14498984331236113955:=True
def tw14541380996977673963:=True
def tw14776231924632542384:=True
def tw14864052414784507300:=True
def tw15029745651669227071:=True
def tw15067148343854408043:=True
def tw15074117735913422164:=True
def tw15087121943044262609:=True
def tw15125980177097905686:=True
def tw15354212349997521363:=True
def tw15361763461814958575:=True
def tw15373080407195026130:=True
def tw15482245439742321820:=True
def tw15543869289994923699:=True
def tw15564254844286399069:=True
def tw15680318003837941261:=True
def tw15703973411873456303:=True
def tw1578772927882270823:=True
def tw15794072109438050534:=True
def tw16456775061269622841:=True
def tw16464955175338854479:=True
def tw16547211859623468266:=True
def tw1656843513933895568:=True
def tw16801664178878084490:=True
def tw17379707122780239095:=True
def tw17407387219962241046:=True
def tw17472618744523279360:=True
def tw17568049895512362668:=True
def tw17602318291161953301:=True
def tw17727776211193569412:=True
def tw177371127481888377:=True
def tw17822796100949509493:=True
def tw17890542348268240085:=True
def tw17908121708757984434:=True
def tw17914381118990654826:=True
def tw17991929023167063440:=True
def tw18080943517431949968:=True
def tw18085685511291520221:=True
def tw18121287018557735462:=True
def tw18137913083505058518:=True
def tw18179010916101938662:=True
def tw18349685672507781650:=True
def tw18362394949158933765:=True
def tw18395560127485349561:=True
def tw1839801895224725006:=True
def tw1878880142124685651:=True
def tw2164760538973293489:=True
def tw2212492111562055592:=True
def tw2448582300095451077:=True
def tw2463053845892119492:=True
def tw2562595647230386534:=True
def tw2648745445149154850:=True
def tw2726943262914281744:=True
def tw2750066023131967846:=True
def tw2807962046988275167:=True
def tw2905861720506624554:=True
def tw328612579375757901:=True
def tw3347930597296168051:=True
def tw3450358210537268943:=True
def tw3621437457792852151:=True
def tw3774697780951887609:=True
def tw3879426338519281394:=True
def tw3880696822415232929:=True
def tw3978641364455557129:=True
def tw4297033765575756358:=True
def tw4387162868131462992:=True
def tw4444085627492396474:=True
def tw4545617270099889021:=True
def tw4672352485012040054:=True
def tw4678664982641745615:=True
def tw4769129742235952110:=True
def tw4772094109884639211:=True
def tw4794769138977224364:=True
def tw4832818458973724665:=True
def tw4871385166978472864:=True
def tw4877328686089689097:=True
def tw489880772568793058:=True
def tw4969119728532573485:=True
def tw4994729518868636988:=True
def tw5020290461900319226:=True
def tw5430432736752023437:=True
def tw5504862338886827142:=True
def tw5597765536998244344:=True
def tw5638230590891743907:=True
def tw574484938872733015:=True
def tw5873707746480370021:=True
def tw6015164870747350110:=True
def tw6023397132648691270:=True
def tw6046118726092296204:=True
def tw6174062494473423507:=True
def tw6195002984229422934:=True
def tw6211602352000832282:=True
def tw6280870404757184144:=True
def tw6312003745373548456:=True
def tw6570667257011683849:=True
def tw6779213087147379699:=True
def tw7001801915701417195:=True
def tw7229929654608211996:=True
def tw7241828906838979969:=True
def tw734113211648128001:=True
def tw7638306693820884295:=True
def tw8030879232677678871:=True
def tw8108498274949124692:=True
def tw8124774221103932094:=True
def tw8148857087504078068:=True
def tw8165347998032396613:=True
def tw8196634949303040586:=True
def tw829873491135702705:=True
def tw8354287283218317414:=True
def tw8515100556755071947:=True
def tw863150309920177639:=True
def tw8686555326731323790:=True
def tw8695334738305545855:=True
def tw8739809108923540647:=True
def tw8766295313941055646:=True
def tw8925359088932595797:=True
def tw8955989324419070778:=True
def tw8981106283092541545:=True
def tw9041987002041762188:=True
def tw9076202901539004194:=True
def tw9190368389696078107:=True
def tw926606869768526065:=True
def tw9467370770176788570:=True
def tw9772694451800418468:=True
def tw9861014793894720215:=True
end PySem.W.Fast
open PySem PySem.W PyProof.Rows
set_option maxRecDepth 100000 in
set_option maxHeartbeats 0 in
theorem PySem.Challenge.cw_canonwright_k04_no_house_holds : PySem.Challenge.rw_canonwright_k04_no_house.Holds := by
 w_on; o_law; k_head; (case hw=>w_witness2)
 k_fill
 refine CI.law_walk (l:=PySem.Challenge.rw_canonwright_k04_no_house) (T:=Tx.T) (L:=Tx.L) (st:=Tx.top 33) (fn:=Tx.fn_law) (W:=1000000) (n:=30) (x:="law") (p:="_law_script") (f:="law") rfl rfl ⟨rfl,by decide,by decide,rfl⟩ rfl Tx.T_law Tx.ok_law (by decide +kernel) (λw h Y=>PySem.W.kIn_of Y) ?factF ?mathM
 case mathM=>exact Mx.law_spec _
 case factF =>
  intro w mg h KX G
  have D_is_whole:CI.DefAt (L2.KOf KX) "is_whole" (Tx.top 17):=by
   refine' CI.def_at ?a ?l ?c ?k
   (case a | l | c | k=>dsimp only [L2.KOf]; k_is)
  have D_is_within:CI.DefAt (L2.KOf KX) "is_within" (Tx.top 18):=by
   refine' CI.def_at ?a ?l ?c ?k
   (case a | l | c | k=>dsimp only [L2.KOf]; k_is)
  have D_are_within:CI.DefAt (L2.KOf KX) "are_within" (Tx.top 19):=by
   refine' CI.def_at ?a ?l ?c ?k
   (case a | l | c | k=>dsimp only [L2.KOf]; k_is)
  have D_is_follower:CI.DefAt (L2.KOf KX) "is_follower" (Tx.top 20):=by
   refine' CI.def_at ?a ?l ?c ?k
   (case a | l | c | k=>dsimp only [L2.KOf]; k_is)
  have D_is_way:CI.DefAt (L2.KOf KX) "is_way" (Tx.top 21):=by
   refine' CI.def_at ?a ?l ?c ?k
   (case a | l | c | k=>dsimp only [L2.KOf]; k_is)
  have D_are_spans:CI.DefAt (L2.KOf KX) "are_spans" (Tx.top 22):=by
   refine' CI.def_at ?a ?l ?c ?k
   (case a | l | c | k=>dsimp only [L2.KOf]; k_is)
  have D_is_rule:CI.DefAt (L2.KOf KX) "is_rule" (Tx.top 23):=by
   refine' CI.def_at ?a ?l ?c ?k
   (case a | l | c | k=>dsimp only [L2.KOf]; k_is)
  have D_check_frame:CI.DefAt (L2.KOf KX) "check_frame" (Tx.top 24):=by
   refine' CI.def_at ?a ?l ?c ?k
   (case a | l | c | k=>dsimp only [L2.KOf]; k_is)
  have D_house_of:CI.DefAt (L2.KOf KX) "house_of" (Tx.top 25):=by
   refine' CI.def_at ?a ?l ?c ?k
   (case a | l | c | k=>dsimp only [L2.KOf]; k_is)
  have D_L_pen:CI.DefAt (L2.KOf KX) "_law_pen" (Tx.top 27):=by
   refine' CI.def_at ?a ?l ?c ?k
   (case a | l | c | k=>dsimp only [L2.KOf]; k_is)
  have D_L_draw:CI.DefAt (L2.KOf KX) "_law_draw" (Tx.top 28):=by
   refine' CI.def_at ?a ?l ?c ?k
   (case a | l | c | k=>dsimp only [L2.KOf]; k_is)
  have D_L_rule:CI.DefAt (L2.KOf KX) "_law_rule" (Tx.top 29):=by
   refine' CI.def_at ?a ?l ?c ?k
   (case a | l | c | k=>dsimp only [L2.KOf]; k_is)
  have D_L_house:CI.DefAt (L2.KOf KX) "_law_house" (Tx.top 30):=by
   refine' CI.def_at ?a ?l ?c ?k
   (case a | l | c | k=>dsimp only [L2.KOf]; k_is)
  have D_L_put_out:CI.DefAt (L2.KOf KX) "_law_put_out" (Tx.top 31):=by
   refine' CI.def_at ?a ?l ?c ?k
   (case a | l | c | k=>dsimp only [L2.KOf]; k_is)
  have D_L_refused:CI.DefAt (L2.KOf KX) "_law_refused" (Tx.top 32):=by
   refine' CI.def_at ?a ?l ?c ?k
   (case a | l | c | k=>dsimp only [L2.KOf]; k_is)
  have D_law:CI.DefAt (L2.KOf KX) "law" (Tx.top 33):=by
   refine' CI.def_at ?a ?l ?c ?k
   (case a | l | c | k=>dsimp only [L2.KOf]; k_is)
  have C_WAYS:CI.GlAt (L2.KOf KX) mg Tx.T (CI.glOf Tx.L) ("WAYS",.con (.tup [(.str ("like":Str)),(.str ("against":Str)),(.str ("aside":Str)),(.str ("any":Str))])):=by
   refine' CI.con_tup KX G ?a ?l ?c ?z
   (case a | l=>dsimp only [L2.KOf]; k_is)
   (case c=>first | rfl | decide +kernel)
   (case z=>rfl)
  have C_LATE:CI.GlAt (L2.KOf KX) mg Tx.T (CI.glOf Tx.L) ("LATE",.con (.int 0)):=by
   refine' CI.con_int KX G ?a
   (case a=>dsimp only [L2.KOf]; k_is)
  have C_SHIFT:CI.GlAt (L2.KOf KX) mg Tx.T (CI.glOf Tx.L) ("SHIFT",.con (.int 1)):=by
   refine' CI.con_int KX G ?a
   (case a=>dsimp only [L2.KOf]; k_is)
  have C_TURNED:CI.GlAt (L2.KOf KX) mg Tx.T (CI.glOf Tx.L) ("TURNED",.con (.int 2)):=by
   refine' CI.con_int KX G ?a
   (case a=>dsimp only [L2.KOf]; k_is)
  have B_ValueError:CI.GlAt (L2.KOf KX) mg Tx.T (CI.glOf Tx.L) ("ValueError",.blt):=by
   refine' CI.blt_of KX G ?a
   (case a=>dsimp only [L2.KOf]; k_is)
  have B_all:CI.GlAt (L2.KOf KX) mg Tx.T (CI.glOf Tx.L) ("all",.blt):=by
   refine' CI.blt_of KX G ?a
   (case a=>dsimp only [L2.KOf]; k_is)
  have B_bool:CI.GlAt (L2.KOf KX) mg Tx.T (CI.glOf Tx.L) ("bool",.blt):=by
   refine' CI.blt_of KX G ?a
   (case a=>dsimp only [L2.KOf]; k_is)
  have B_enumerate:CI.GlAt (L2.KOf KX) mg Tx.T (CI.glOf Tx.L) ("enumerate",.blt):=by
   refine' CI.blt_of KX G ?a
   (case a=>dsimp only [L2.KOf]; k_is)
  have B_int:CI.GlAt (L2.KOf KX) mg Tx.T (CI.glOf Tx.L) ("int",.blt):=by
   refine' CI.blt_of KX G ?a
   (case a=>dsimp only [L2.KOf]; k_is)
  have B_isinstance:CI.GlAt (L2.KOf KX) mg Tx.T (CI.glOf Tx.L) ("isinstance",.blt):=by
   refine' CI.blt_of KX G ?a
   (case a=>dsimp only [L2.KOf]; k_is)
  have B_len:CI.GlAt (L2.KOf KX) mg Tx.T (CI.glOf Tx.L) ("len",.blt):=by
   refine' CI.blt_of KX G ?a
   (case a=>dsimp only [L2.KOf]; k_is)
  have B_list:CI.GlAt (L2.KOf KX) mg Tx.T (CI.glOf Tx.L) ("list",.blt):=by
   refine' CI.blt_of KX G ?a
   (case a=>dsimp only [L2.KOf]; k_is)
  have B_range:CI.GlAt (L2.KOf KX) mg Tx.T (CI.glOf Tx.L) ("range",.blt):=by
   refine' CI.blt_of KX G ?a
   (case a=>dsimp only [L2.KOf]; k_is)
  have B_str:CI.GlAt (L2.KOf KX) mg Tx.T (CI.glOf Tx.L) ("str",.blt):=by
   refine' CI.blt_of KX G ?a
   (case a=>dsimp only [L2.KOf]; k_is)
  have B_tuple:CI.GlAt (L2.KOf KX) mg Tx.T (CI.glOf Tx.L) ("tuple",.blt):=by
   refine' CI.blt_of KX G ?a
   (case a=>dsimp only [L2.KOf]; k_is)
  have X_NoHouse:CI.ExcK (L2.KOf KX) "NoHouse":=by
   refine' CI.excK_at ?a ?xq ?ga ?no ?cl ?gt ?tk ?mo ?mb ?mv
   (case a | ga | no | cl | gt | tk | mo | mb | mv=>dsimp only [L2.KOf]; k_is)
   (case xq=>dsimp only [L2.KOf]; k_exc)
  have X_CanonError:CI.ExcK (L2.KOf KX) "CanonError":=by
   refine' CI.excK_at ?a ?xq ?ga ?no ?cl ?gt ?tk ?mo ?mb ?mv
   (case a | ga | no | cl | gt | tk | mo | mb | mv=>dsimp only [L2.KOf]; k_is)
   (case xq=>dsimp only [L2.KOf]; k_exc)
  have SX_Broken:CI.KinX (L2.KOf KX) "Broken":=by
   refine' CI.kinX_at ?a
   (case a=>dsimp only [L2.KOf]; k_is)
  have SN_NoHouse_Broken:CI.KinN (L2.KOf KX) "NoHouse" "Broken":=by
   refine' CI.kinN_at ?a ?b ?k
   (case a | b=>dsimp only [L2.KOf]; k_is)
   (case k=>dsimp only [L2.KOf]; kin_no)
  have SX_NoNote:CI.KinX (L2.KOf KX) "NoNote":=by
   refine' CI.kinX_at ?a
   (case a=>dsimp only [L2.KOf]; k_is)
  have SN_NoHouse_NoNote:CI.KinN (L2.KOf KX) "NoHouse" "NoNote":=by
   refine' CI.kinN_at ?a ?b ?k
   (case a | b=>dsimp only [L2.KOf]; k_is)
   (case k=>dsimp only [L2.KOf]; kin_no)
  have SX_NoNumber:CI.KinX (L2.KOf KX) "NoNumber":=by
   refine' CI.kinX_at ?a
   (case a=>dsimp only [L2.KOf]; k_is)
  have SN_NoHouse_NoNumber:CI.KinN (L2.KOf KX) "NoHouse" "NoNumber":=by
   refine' CI.kinN_at ?a ?b ?k
   (case a | b=>dsimp only [L2.KOf]; k_is)
   (case k=>dsimp only [L2.KOf]; kin_no)
  have SX_NoRow:CI.KinX (L2.KOf KX) "NoRow":=by
   refine' CI.kinX_at ?a
   (case a=>dsimp only [L2.KOf]; k_is)
  have SN_NoHouse_NoRow:CI.KinN (L2.KOf KX) "NoHouse" "NoRow":=by
   refine' CI.kinN_at ?a ?b ?k
   (case a | b=>dsimp only [L2.KOf]; k_is)
   (case k=>dsimp only [L2.KOf]; kin_no)
  have SX_NoRule:CI.KinX (L2.KOf KX) "NoRule":=by
   refine' CI.kinX_at ?a
   (case a=>dsimp only [L2.KOf]; k_is)
  have SN_NoHouse_NoRule:CI.KinN (L2.KOf KX) "NoHouse" "NoRule":=by
   refine' CI.kinN_at ?a ?b ?k
   (case a | b=>dsimp only [L2.KOf]; k_is)
   (case k=>dsimp only [L2.KOf]; kin_no)
  have SX_NoText:CI.KinX (L2.KOf KX) "NoText":=by
   refine' CI.kinX_at ?a
   (case a=>dsimp only [L2.KOf]; k_is)
  have SN_NoHouse_NoText:CI.KinN (L2.KOf KX) "NoHouse" "NoText":=by
   refine' CI.kinN_at ?a ?b ?k
   (case a | b=>dsimp only [L2.KOf]; k_is)
   (case k=>dsimp only [L2.KOf]; kin_no)
  have SX_NoVoice:CI.KinX (L2.KOf KX) "NoVoice":=by
   refine' CI.kinX_at ?a
   (case a=>dsimp only [L2.KOf]; k_is)
  have SN_NoHouse_NoVoice:CI.KinN (L2.KOf KX) "NoHouse" "NoVoice":=by
   refine' CI.kinN_at ?a ?b ?k
   (case a | b=>dsimp only [L2.KOf]; k_is)
   (case k=>dsimp only [L2.KOf]; kin_no)
  have SX_TooMany:CI.KinX (L2.KOf KX) "TooMany":=by
   refine' CI.kinX_at ?a
   (case a=>dsimp only [L2.KOf]; k_is)
  have SN_NoHouse_TooMany:CI.KinN (L2.KOf KX) "NoHouse" "TooMany":=by
   refine' CI.kinN_at ?a ?b ?k
   (case a | b=>dsimp only [L2.KOf]; k_is)
   (case k=>dsimp only [L2.KOf]; kin_no)
  have SX_Unlike:CI.KinX (L2.KOf KX) "Unlike":=by
   refine' CI.kinX_at ?a
   (case a=>dsimp only [L2.KOf]; k_is)
  have SN_NoHouse_Unlike:CI.KinN (L2.KOf KX) "NoHouse" "Unlike":=by
   refine' CI.kinN_at ?a ?b ?k
   (case a | b=>dsimp only [L2.KOf]; k_is)
   (case k=>dsimp only [L2.KOf]; kin_no)
  have SX_NoHouse:CI.KinX (L2.KOf KX) "NoHouse":=by
   refine' CI.kinX_at ?a
   (case a=>dsimp only [L2.KOf]; k_is)
  have SY_NoHouse_NoHouse:CI.KinI (L2.KOf KX) "NoHouse" "NoHouse":=by
   refine' CI.kinI_at ?a ?b ?k
   (case a | b | k=>dsimp only [L2.KOf]; k_is)
  have M_NoHouse_CanonError:CI.MroK (L2.KOf KX) "NoHouse" "CanonError":=by
   refine' CI.mroK_at ?a ?b ?m
   (case a | b | m=>dsimp only [L2.KOf]; k_is)
  refine ⟨D_law, ?_⟩
  unfold Tx.L
  refine CI.fc (C_WAYS) ?_
  refine CI.fc (C_LATE) ?_
  refine CI.fc (C_SHIFT) ?_
  refine CI.fc (C_TURNED) ?_
  refine CI.fc (CI.entry_of KX G D_is_whole Tx.ok_is_whole Tx.T_is_whole) ?_
  refine CI.fc (CI.entry_of KX G D_is_within Tx.ok_is_within Tx.T_is_within) ?_
  refine CI.fc (CI.entry_of KX G D_are_within Tx.ok_are_within Tx.T_are_within) ?_
  refine CI.fc (CI.entry_of KX G D_is_follower Tx.ok_is_follower Tx.T_is_follower) ?_
  refine CI.fc (CI.entry_of KX G D_is_way Tx.ok_is_way Tx.T_is_way) ?_
  refine CI.fc (CI.entry_of KX G D_are_spans Tx.ok_are_spans Tx.T_are_spans) ?_
  refine CI.fc (CI.entry_of KX G D_is_rule Tx.ok_is_rule Tx.T_is_rule) ?_
  refine CI.fc (CI.entry_of KX G D_check_frame Tx.ok_check_frame Tx.T_check_frame) ?_
  refine CI.fc (CI.entry_of KX G D_house_of Tx.ok_house_of Tx.T_house_of) ?_
  refine CI.fc (CI.entry_of KX G D_L_pen Tx.ok_L_pen Tx.T_L_pen) ?_
  refine CI.fc (CI.entry_of KX G D_L_draw Tx.ok_L_draw Tx.T_L_draw) ?_
  refine CI.fc (CI.entry_of KX G D_L_rule Tx.ok_L_rule Tx.T_L_rule) ?_
  refine CI.fc (CI.entry_of KX G D_L_house Tx.ok_L_house Tx.T_L_house) ?_
  refine CI.fc (CI.entry_of KX G D_L_put_out Tx.ok_L_put_out Tx.T_L_put_out) ?_
  refine CI.fc (CI.entry_of KX G D_L_refused Tx.ok_L_refused Tx.T_L_refused) ?_
  refine CI.fc (CI.entry_of KX G D_law Tx.ok_law Tx.T_law) ?_
  refine CI.fc (B_ValueError) ?_
  refine CI.fc (B_all) ?_
  refine CI.fc (B_bool) ?_
  refine CI.fc (B_enumerate) ?_
  refine CI.fc (B_int) ?_
  refine CI.fc (B_isinstance) ?_
  refine CI.fc (B_len) ?_
  refine CI.fc (B_list) ?_
  refine CI.fc (B_range) ?_
  refine CI.fc (B_str) ?_
  refine CI.fc (B_tuple) ?_
  refine CI.fc (CI.exc_of KX G X_NoHouse) ?_
  refine CI.fc (CI.subx_of KX G SX_Broken (by unfold Tx.xy_Broken; exact λ_ h=>nomatch h) (by unfold Tx.xn_Broken; exact CI.fc (SN_NoHouse_Broken) (λ_ h=>nomatch h))) ?_
  refine CI.fc (CI.subx_of KX G SX_NoNote (by unfold Tx.xy_NoNote; exact λ_ h=>nomatch h) (by unfold Tx.xn_NoNote; exact CI.fc (SN_NoHouse_NoNote) (λ_ h=>nomatch h))) ?_
  refine CI.fc (CI.subx_of KX G SX_NoNumber (by unfold Tx.xy_NoNumber; exact λ_ h=>nomatch h) (by unfold Tx.xn_NoNumber; exact CI.fc (SN_NoHouse_NoNumber) (λ_ h=>nomatch h))) ?_
  refine CI.fc (CI.subx_of KX G SX_NoRow (by unfold Tx.xy_NoRow; exact λ_ h=>nomatch h) (by unfold Tx.xn_NoRow; exact CI.fc (SN_NoHouse_NoRow) (λ_ h=>nomatch h))) ?_
  refine CI.fc (CI.subx_of KX G SX_NoRule (by unfold Tx.xy_NoRule; exact λ_ h=>nomatch h) (by unfold Tx.xn_NoRule; exact CI.fc (SN_NoHouse_NoRule) (λ_ h=>nomatch h))) ?_
  refine CI.fc (CI.subx_of KX G SX_NoText (by unfold Tx.xy_NoText; exact λ_ h=>nomatch h) (by unfold Tx.xn_NoText; exact CI.fc (SN_NoHouse_NoText) (λ_ h=>nomatch h))) ?_
  refine CI.fc (CI.subx_of KX G SX_NoVoice (by unfold Tx.xy_NoVoice; exact λ_ h=>nomatch h) (by unfold Tx.xn_NoVoice; exact CI.fc (SN_NoHouse_NoVoice) (λ_ h=>nomatch h))) ?_
  refine CI.fc (CI.subx_of KX G SX_TooMany (by unfold Tx.xy_TooMany; exact λ_ h=>nomatch h) (by unfold Tx.xn_TooMany; exact CI.fc (SN_NoHouse_TooMany) (λ_ h=>nomatch h))) ?_
  refine CI.fc (CI.subx_of KX G SX_Unlike (by unfold Tx.xy_Unlike; exact λ_ h=>nomatch h) (by unfold Tx.xn_Unlike; exact CI.fc (SN_NoHouse_Unlike) (λ_ h=>nomatch h))) ?_
  refine CI.fc (CI.subx_of KX G SX_NoHouse (by unfold Tx.xy_NoHouse; exact CI.fc (SY_NoHouse_NoHouse) (λ_ h=>nomatch h)) (by unfold Tx.xn_NoHouse; exact λ_ h=>nomatch h)) ?_
  refine CI.fc (CI.exs_of KX G X_CanonError (by unfold Tx.cs_CanonError; exact CI.fc (M_NoHouse_CanonError) (λ_ h=>nomatch h))) ?_
  exact λ_ h=>nomatch h
