import PyProof.Rows.All
import Wide.All
import OpenK.AllK
import Wide.FinOn
import Lean
import PyProof.EqAt
import PyProof.EqKinds
import PyProof.TupleCall
import OpenK.KOwn
import PyProof.NsDelKeeps
import KE.KIsAll
import PyProof.ExcArgsOwn
import PyProof.ExcAttrAll.ValueError
import PyProof.NeData
import PySem.Challenge.RW_canonwright_k36_notes_that_show_a_round
set_option Elab.async false
set_option linter.all false
set_option maxRecDepth 100000
theorem ZB:type_of% @Bool.and_eq_true:=@Bool.and_eq_true
theorem Za.{u}:type_of% @List.length_append.{u}:=@List.length_append.{u}
theorem Zb.{u}:type_of% @List.getElem?_eq_getElem.{u}:=@List.getElem?_eq_getElem.{u}
theorem Zc.{u}:type_of% @List.getElem?_eq_some_iff.{u}:=@List.getElem?_eq_some_iff.{u}
theorem Zd:type_of% @PySem.Heap.get?_push_of_some:=@PySem.Heap.get?_push_of_some
theorem Ze.{u}:type_of% @List.mem_cons_of_mem.{u}:=@List.mem_cons_of_mem.{u}
theorem Zf.{u}:type_of% @List.getElem?_set_ne.{u}:=@List.getElem?_set_ne.{u}
theorem Zg.{u}:type_of% @List.length_singleton.{u}:=@List.length_singleton.{u}
theorem Zh.{u,v}:type_of% @List.getElem?_map.{u,v}:=@List.getElem?_map.{u,v}
theorem Zi.{u}:type_of% @List.size_toArray.{u}:=@List.size_toArray.{u}
theorem Zj.{u}:type_of% @List.all_cons.{u}:=@List.all_cons.{u}
theorem Zk.{u}:type_of% @List.length_cons.{u}:=@List.length_cons.{u}
theorem Zl:type_of% @Nat.lt_of_lt_of_le:=@Nat.lt_of_lt_of_le
theorem Zm:type_of% @decide_eq_false:=@decide_eq_false
theorem Zn:type_of% @decide_eq_true:=@decide_eq_true
theorem Zo.{u}:type_of% @if_pos.{u}:=@if_pos.{u}
theorem Zp.{u}:type_of% @if_neg.{u}:=@if_neg.{u}
theorem Zq:type_of% @Nat.le_refl:=@Nat.le_refl
theorem Zr:type_of% @Nat.le_trans:=@Nat.le_trans
theorem Zs.{u,v}:type_of% @List.map_cons.{u,v}:=@List.map_cons.{u,v}
theorem Zt:type_of% @PySem.wpAny_bind:=@PySem.wpAny_bind
theorem Zu:type_of% @PySem.wpAny_pure:=@PySem.wpAny_pure
theorem Zv:type_of% @PySem.Heap.lt_size:=@PySem.Heap.lt_size
theorem Zw:type_of% @PySem.Heap.get?_push_size:=@PySem.Heap.get?_push_size
theorem Zy.{u}:type_of% @eq_of_beq.{u}:=@eq_of_beq.{u}
theorem Zz:type_of% @Nat.ne_of_lt:=@Nat.ne_of_lt
theorem zd.{u,v}:type_of% @List.map_append.{u,v}:=@List.map_append.{u,v}
theorem ze.{u}:type_of% @List.mem_singleton.{u}:=@List.mem_singleton.{u}
theorem zf.{u}:type_of% @List.take_of_length_le.{u}:=@List.take_of_length_le.{u}
theorem zg.{u}:type_of% @List.length_set.{u}:=@List.length_set.{u}
theorem zh.{u}:type_of% @List.mem_cons_self.{u}:=@List.mem_cons_self.{u}
theorem zj.{u}:type_of% @List.mem_of_getElem?.{u}:=@List.mem_of_getElem?.{u}
theorem zk.{u}:type_of% @List.getElem?_set_self.{u}:=@List.getElem?_set_self.{u}
theorem zl.{u,v}:type_of% @List.mem_map.{u,v}:=@List.mem_map.{u,v}
theorem zo.{u}:type_of% @List.mem_append.{u}:=@List.mem_append.{u}
theorem zp:type_of% @List.length_range:=@List.length_range
theorem zr.{u}:type_of% @List.getElem?_cons_zero.{u}:=@List.getElem?_cons_zero.{u}
open PySem.W (Frag nsIn findIn)
open PySem (Str)
namespace L2
open PySem PySem.Spec PyProof.Rows
abbrev cN:=Sum Int Str
noncomputable def QN:cN→Value→Bool
 | .inl k,v=>Value.isInt k v
 | .inr x,v=>Value.isStrOf x v
noncomputable def aDV (w:World):cN→Int
 | .inl k=>hashInt k
 | .inr x=>hashStr w x
theorem dJ:∀ {k:cN} {v:Value},QN k v=true→(∃ i t,k=Sum.inl i∧v=Value.int i t)∨(∃ x t,k=Sum.inr x∧v=Value.str x t)
 | .inl i,v,h=>by
  obtain ⟨t,e⟩:=Value.isInt_shape (k:=i) (v:=v) h;exact .inl ⟨i,t,rfl,e⟩
 | .inr x,v,h=>by
  obtain ⟨t,e⟩:=Value.isStrOf_shape (x:=x) (v:=v) h;exact .inr ⟨x,t,rfl,e⟩
theorem aAX (a b:Int):decide ((Sum.inl a:cN)=Sum.inl b)=(a == b):=by
 by_cases e:a=b
 ·subst e; simp
 ·have h:¬ (Sum.inl a:cN)=Sum.inl b:=fun q=>e (Sum.inl.inj q)
  rw [Zm h];exact (beq_eq_false_iff_ne.mpr e).symm
theorem ZU (a b:Str):decide ((Sum.inr a:cN)=Sum.inr b)=decide (a=b):=by
 by_cases e:a=b
 ·subst e; simp
 ·have h:¬ (Sum.inr a:cN)=Sum.inr b:=fun q=>e (Sum.inr.inj q)
  rw [Zm h,Zm e]
theorem ZZ (a:Int) (b:Str):decide ((Sum.inl a:cN)=Sum.inr b)=false:=Zm (fun q=>nomatch q)
theorem YC (a:Str) (b:Int):decide ((Sum.inr a:cN)=Sum.inl b)=false:=Zm (fun q=>nomatch q)
noncomputable def yJ (prog:Program) (w:World):PySem.KeyKind prog w cN where
 is:=QN
 hash:=aDV w
 inj:=fun v a b ha hb=>by
  rcases dJ ha with ⟨i,t,rfl,rfl⟩ | ⟨x,t,rfl,rfl⟩
  ·rcases dJ hb with ⟨j,u,rfl,e⟩ | ⟨y,u,rfl,e⟩
   ·injection e with e1 _; rw [e1]
   ·exact nomatch e
  ·rcases dJ hb with ⟨j,u,rfl,e⟩ | ⟨y,u,rfl,e⟩
   ·exact nomatch e
   ·injection e with e1 _; rw [e1]
 byValue:=fun k v h=>by
  rcases dJ h with ⟨i,t,rfl,rfl⟩ | ⟨x,t,rfl,rfl⟩ <;> rfl
 pyHash:=fun hv h=>by
  rcases dJ hv with ⟨i,t,rfl,rfl⟩ | ⟨x,t,rfl,rfl⟩
  ·exact wpAny_pyHash_int h
  ·exact wpAny_pyHash_str h
 eqBool:=fun hu hv h=>by
  rcases dJ hu with ⟨i,t,rfl,rfl⟩ | ⟨x,t,rfl,rfl⟩
  ·rcases dJ hv with ⟨j,u,rfl,rfl⟩ | ⟨y,u,rfl,rfl⟩
   ·rw [aAX] at h; exact wpAny_eqBool_int h
   ·rw [ZZ] at h; exact SeqAt.EqAt.int_str i t y u _ _ _ _ h
  ·rcases dJ hv with ⟨j,u,rfl,rfl⟩ | ⟨y,u,rfl,rfl⟩
   ·rw [YC] at h; exact SeqAt.EqAt.str_int x t j u _ _ _ _ h
   ·rw [ZU] at h; exact wpAny_eqBool_str h
 «strs»:=fun k x t v h=>by
  rcases dJ h with ⟨i,u,rfl,e⟩ | ⟨y,u,rfl,e⟩
  ·exact nomatch e
  ·injection e with e1 _
   subst e1;cases v <;> rfl
inductive V where
 | non | bl (b:Bool) | int (i:Int) | str (x:Str) | byt (b:Array UInt8) | flt (b:UInt64) | ref (a:Addr) | ty (n:String)
 deriving DecidableEq
def bC:V→Value→Prop
 | .non,u=>u=Value.none
 | .bl b,u=>u=Value.bool b
 | .int i,u=>∃ t,u=Value.int i t
 | .str x,u=>∃ t,u=Value.str x t
 | .byt b,u=>∃ t,u=Value.bytes b t
 | .flt b,u=>∃ t,u=Value.float b t
 | .ref a,u=>u=Value.ref a
 | .ty n,u=>u=Value.type n
abbrev aT:List V→List Value→Prop:=Paired bC
theorem aT.length {xs:List V} {us:List Value} (r:aT xs us):xs.length=us.length:=Paired.length r
theorem aT.get:∀ {xs:List V} {us:List Value} {i:Nat} {x:V},aT xs us→xs[i]?=some x→∃ u,us[i]?=some u∧bC x u
 | _,_,_,_,.nil,e=>by simp at e
 | _,_,0,_,.cons r _,e=>by simp at e; subst e; exact ⟨_,rfl,r⟩
 | _,_,i+1,x,.cons _ t,e=>by
  obtain ⟨u,h1,h2⟩:=aT.get (i:=i) (x:=x) t (by simpa using e);exact ⟨u,by simpa using h1,h2⟩
theorem aT.set {x:V} {u:Value} (r:bC x u):∀ {xs:List V} {us:List Value} (i:Nat),aT xs us→aT (xs.set i x) (us.set i u)
 | _,_,_,.nil=>.nil
 | _,_,0,.cons _ t=>.cons r t
 | _,_,i+1,.cons q t=>.cons q (aT.set r i t)
theorem aT.append:∀ {xs ys:List V} {us ws:List Value},aT xs us→aT ys ws→aT (xs ++ ys) (us ++ ws)
 | _,_,_,_,.nil,s=>s
 | _,_,_,_,.cons r t,s=>.cons r (aT.append t s)
theorem aT.take:∀ {xs:List V} {us:List Value} (n:Nat),aT xs us→aT (xs.take n) (us.take n)
 | _,_,0,_=>.nil
 | _,_,_+1,.nil=>.nil
 | _,_,n+1,.cons r t=>.cons r (aT.take n t)
theorem aT.drop:∀ {xs:List V} {us:List Value} (n:Nat),aT xs us→aT (xs.drop n) (us.drop n)
 | _,_,0,r=>r
 | _,_,_+1,.nil=>.nil
 | _,_,n+1,.cons _ t=>aT.drop n t
def iR:Option V→Option Value→Prop
 | some v,some u=>bC v u
 | none,none=>True
 | _,_=>False
def KV {κ:Type}:List (κ × V)→List (κ × Value)→Prop:=Paired fun (p:κ × V) (q:κ × Value)=>p.1=q.1∧bC p.2 q.2
noncomputable def kV:cN→V
 | .inl i=>.int i
 | .inr x=>.str x
inductive HO where
 | lst (xs:List V)
 | tup (xs:List V)
 | dK (kvs:List (cN × V)) | dT (kvs:List (List cN × V))
 | set (S:Int→Bool) (n:Nat)
 | ins (C dx:Addr) (fs:List (Str × V))
 | own (x:Addr)
 | xd (fs:List (Str × V))
 | met (f x:Addr)
 | rng (lo hi:Int)
 | frz (o:Obj) (u:HO)
 | tbl (ps:Array Value)
 | ext (φ:Heap→Prop)
abbrev Hp:=Addr→Option HO
noncomputable def aV (H:Hp) (a:Addr) (o:HO):Hp:=fun b=>if b=a then some o else H b
theorem bE {H:Hp} {a:Addr} {o:HO}:aV H a o a=some o:=by unfold aV; rw [Zo rfl]
theorem aO {H:Hp} {a b:Addr} {o:HO} (h:b≠a):aV H a o b=H b:=by unfold aV; rw [Zp h]
theorem bU {H:Hp} {a b:Addr} {o:HO} (h:H a=some o) (h':H b=none):a≠b:=by
 intro e; subst e; rw [h] at h'; cases h'
section
variable (P:Program) (w:World)
def dW (H:Hp) (h:Heap) (a:Addr):HO→Prop
 | .lst xs=>xs.length≤sizeLine∧∃ (its:List Value) (n:Nat),aT xs its∧h.get? a=some { cls:=.type "list",data:=.seq its.toArray n }
 | .tup xs=>xs.length≤sizeLine∧∃ its:List Value,aT xs its∧IsTup h a its.toArray
 | .dK kvs=>kvs.length≤sizeLine∧(a == sysModules)=false∧∃ vs,KV kvs vs∧h.DictOf (yJ P w) a vs
 | .dT kvs=>kvs.length≤sizeLine∧(a == sysModules)=false∧∃ xs:List (List cN × Addr × Value),
   Paired (fun (p:List cN × V) (q:List cN × Addr × Value)=>p.1=q.1∧H q.2.1=some (.tup (p.1.map kV))∧bC p.2 q.2.2) kvs xs ∧
   ∃ o es ep,h.get? a=some o∧o.ExactDict∧o.data=.dict es ep∧es.toList=xs.map (entryOfKey (tupleKind (yJ P w)))∧(xs.map (·.1)).Nodup
 | .set S n=>h.SetOf (intKind P w) a S n
 | .ins C dx fs=>H dx=some (.own a)∧fs.length≤1000∧dx≠a∧h.get? a=some (PySem.W.instObj C dx) ∧
   ∃ mA,h.Ns1 dx mA∧(∀ f,iR (fs.lookup f) (mA f))∧PySem.Within mA (fs.map (·.1))
 | .own _=>∃ o,h.get? a=some o
 | .xd fs=>∃ mA,h.Ns1 a mA∧∀ f,iR (fs.lookup f) (mA f)
 | .rng lo hi=>∃ t u v,h.get? a=some { cls:=.type "range",data:=.fields #[.int lo t,.int hi u,.int 1 v] }
 | .frz o u=>h.get? a=some o∧dW H h a u
 | .tbl ps=>h.get? a=some { cls:=.none,data:=.fields ps }
 | .met f x=>h.get? a=some (PySem.W.methodObj (.ref f) (.ref x))
 | .ext φ=>φ h∧(∃ o,h.get? a=some o)∧∀ h1 h2:Heap,φ h1→(∀ o,h1.get? a=some o→h2.get? a=some o)→φ h2
def gU (H:Hp) (h:Heap):Prop:=∀ a o,H a=some o→dW P w H h a o
end
section
variable {P:Program} {w:World} {H H':Hp} {h h':Heap} {a:Addr} {o:HO}
theorem dW.lt (x:dW P w H h a o):a<h.objs.size:=by
 cases o with
 | lst xs=>obtain ⟨_,_,_,_,e⟩:=x; exact Zv e
 | tup xs=>obtain ⟨_,_,_,p⟩:=x; exact p.lt
 | dK kvs=>obtain ⟨_,_,_,_,o,_,_,e,_⟩:=x; exact Zv e
 | dT kvs=>obtain ⟨_,_,_,_,o,_,_,e,_⟩:=x; exact Zv e
 | set S n=>obtain ⟨o,_,_,_,e,_⟩:=x; exact Zv e
 | ins C dx fs=>obtain ⟨_,_,_,e,_⟩:=x; exact Zv e
 | own y=>obtain ⟨_,e⟩:=x; exact Zv e
 | xd fs=>obtain ⟨_,⟨_,_,_,e,_⟩,_⟩:=x; exact Zv e
 | rng lo hi=>obtain ⟨_,_,_,e⟩:=x; exact Zv e
 | frz ob u=>obtain ⟨e,_⟩:=x; exact Zv e
 | tbl ps=>exact Zv (show h.get? a=some _ from x)
 | met f y=>exact Zv (show h.get? a=some _ from x)
 | ext φ=>obtain ⟨_,⟨_,e⟩,_⟩:=x; exact Zv e
theorem Paired.mapP {α β:Type} {F G:α→β→Prop}:∀ {l₁:List α} {l₂:List β},Paired F l₁ l₂→(∀ a b,F a b→G a b)→Paired G l₁ l₂
 | _,_,.nil,_=>.nil
 | _,_,.cons r t,f=>.cons (f _ _ r) (Paired.mapP t f)
theorem dW.stay (x:dW P w H h a o) (k:∀ b u,(b=a∨H b=some (.own a))→h.get? b=some u→h'.get? b=some u)
  (ho:∀ b,H b=some (.own a)→H' b=some (.own a)) (ht:∀ b xs,H b=some (.tup xs)→H' b=some (.tup xs)):dW P w H' h' a o:=by
 induction o with
 | lst xs=>obtain ⟨z,its,n,r,e⟩:=x; exact ⟨z,its,n,r,k _ _ (.inl rfl) e⟩
 | tup xs=>obtain ⟨z,its,r,ob,e,c⟩:=x; exact ⟨z,its,r,ob,k _ _ (.inl rfl) e,c⟩
 | dK kvs=>obtain ⟨z,y,vs,r,ob,es,ep,e,c⟩:=x; exact ⟨z,y,vs,r,ob,es,ep,k _ _ (.inl rfl) e,c⟩
 | dT kvs =>
  obtain ⟨z,y,xs,r,ob,es,ep,e,c⟩:=x;exact ⟨z,y,xs,Paired.mapP r fun p q z=>⟨z.1,ht _ _ z.2.1,z.2.2⟩,ob,es,ep,k _ _ (.inl rfl) e,c⟩
 | set S n=>obtain ⟨ob,es,ep,t,e,c⟩:=x; exact ⟨ob,es,ep,t,k _ _ (.inl rfl) e,c⟩
 | ins C dx fs =>
  obtain ⟨d,z,ne,e,mA,⟨od,es,ep,e2,c⟩,r⟩:=x;exact ⟨ho _ d,z,ne,k _ _ (.inl rfl) e,mA,⟨od,es,ep,k _ _ (.inr d) e2,c⟩,r⟩
 | own y=>obtain ⟨ob,e⟩:=x; exact ⟨ob,k _ _ (.inl rfl) e⟩
 | xd fs=>obtain ⟨mA,⟨od,es,ep,e,c⟩,r⟩:=x; exact ⟨mA,⟨od,es,ep,k _ _ (.inl rfl) e,c⟩,r⟩
 | rng lo hi=>obtain ⟨t,u,v,e⟩:=x; exact ⟨t,u,v,k _ _ (.inl rfl) e⟩
 | frz ob u ih=>obtain ⟨e,q⟩:=x; exact ⟨k _ _ (.inl rfl) e,ih q⟩
 | tbl ps =>
  have e:h.get? a=some { cls:=.none,data:=.fields ps }:=x;show h'.get? a=some { cls:=.none,data:=.fields ps };exact k a _ (.inl rfl) e
 | met f y =>
  have e:h.get? a=some (PySem.W.methodObj (.ref f) (.ref y)):=x;show h'.get? a=some (PySem.W.methodObj (.ref f) (.ref y));exact k a _ (.inl rfl) e
 | ext φ=>obtain ⟨p,⟨o,e⟩,st⟩:=x; exact ⟨st _ _ p fun o q=>k _ _ (.inl rfl) q,⟨o,k _ _ (.inl rfl) e⟩,st⟩
theorem gU.lt (x:gU P w H h) (e:H a=some o):a<h.objs.size:=(x a o e).lt
theorem gU.fresh (x:gU P w H h) (e:h.objs.size≤a):H a=none:=by
 cases q:H a with
 | none=>rfl
 | some u=>exact absurd (Zl (x.lt q) e) (Nat.lt_irrefl _)
theorem gU.kept (x:gU P w H h) (k:∀ b u,h.get? b=some u→h'.get? b=some u):gU P w H h':=fun a o e =>
 (x a o e).stay (fun b u _ q=>k b u q) (fun _ q=>q) fun _ _ q=>q
theorem gU.laid (x:gU P w H h) (k:∀ b u,h.get? b=some u→h'.get? b=some u) (hp:h.objs.size≤a) (new:dW P w (aV H a o) h' a o):gU P w (aV H a o) h':=fun b u e=>by
 have hn:=x.fresh hp;by_cases hb:b=a
 ·subst hb; rw [bE] at e; cases e; exact new
 ·rw [aO hb] at e;exact (x b u e).stay (fun c v _ q=>k c v q) (fun c q=>by rw [aO (bU q hn)]; exact q) fun c xs q=>by rw [aO (bU q hn)]; exact q
end
def Rd (H:Hp) (a:Addr) (u:HO):Prop:=H a=some u∨∃ o,H a=some (.frz o u)
theorem Rd.ok {P:Program} {w:World} {H:Hp} {h:Heap} {a:Addr} {u:HO} (r:Rd H a u) (x:gU P w H h):dW P w H h a u:=by
 rcases r with r | ⟨o,r⟩
 ·exact x a u r
 ·obtain ⟨_,q⟩:=x a _ r;exact q
def LK:Option HO→Prop
 | some (.lst _)=>True
 | some (.dK _)=>True
 | some (.dT _)=>True
 | some (.set _ _)=>True
 | some (.ins _ _ _)=>True
 | some (.ext _)=>True
 | _=>False
section
variable {P:Program} {w:World} {H:Hp} {h h':Heap} {x e:Addr} {o':HO}
theorem gU.write (ok:gU P w H h) (mu:LK (H x)) (he:e=x∨H e=some (.own x)) (k:∀ b u,b≠e→h.get? b=some u→h'.get? b=some u) (heo:∃ u,h'.get? e=some u)
  (new:dW P w (aV H x o') h' x o'):gU P w (aV H x o') h':=fun b u q=>by
 have nown:∀ c y,H c=some (.own y)→c≠x:=fun c y r z=>by subst z; rw [r] at mu; exact mu
 have ntup:∀ c xs,H c=some (.tup xs)→c≠x:=fun c xs r z=>by subst z; rw [r] at mu; exact mu
 by_cases hb:b=x
 ·subst hb; rw [bE] at q; cases q; exact new
 ·rw [aO hb] at q;by_cases hbe:b=e
  ·have q':H b=some (.own x):=by
    rcases he with z | z
    ·exact absurd (hbe.trans z) hb
    ·rw [hbe]; exact z
   rw [q] at q'; cases q';obtain ⟨v,hv⟩:=heo;exact ⟨v,by rw [hbe]; exact hv⟩
  ·refine (ok b u q).stay (fun c v hc r=>k c v ?_ r) (fun c r=>by rw [aO (nown c b r)]; exact r) fun c xs r=>by rw [aO (ntup c xs r)]; exact r
   rcases hc with rfl | hc
   ·exact hbe
   ·rintro rfl
    rcases he with z | z
    ·exact nown c b hc z
    ·rw [hc] at z; cases z; exact hb rfl
end
structure Un (fs ex:List Addr) (H H':Hp) (h h':Heap):Prop where
 keep:∀ b o,h.get? b=some o→H b=none→b ∉ fs→b ∉ ex→h'.get? b=some o
 slot:∀ b o,h.get? b=some o→H b=none→b∈fs→b ∉ ex→∃ sl,h'.get? b=some { o with slots:=sl }
 free:∀ b o,h.get? b=some o→H b=none→b ∉ ex→H' b=none
 there:∀ b o,h.get? b=some o→b ∉ ex→∃ o',h'.get? b=some o'
 tups:∀ b xs,H b=some (.tup xs)→H' b=some (.tup xs)
 frzs:∀ b o u,H b=some (.frz o u)→H' b=some (.frz o u)
 tbls:∀ b ps,H b=some (.tbl ps)→∃ more,H' b=some (.tbl (ps ++ more))
section
variable {fs fs' ex ex':List Addr} {H H1 H2:Hp} {h h1 h2 h':Heap} {a x e:Addr} {o:HO}
theorem Un.any (u:Un fs ex H H1 h h1) {b:Addr} {ob:Obj} (q:h.get? b=some ob) (n:H b=none) (hx:b ∉ ex):∃ sl,h1.get? b=some { ob with slots:=sl }:=by
 by_cases hb:b∈fs
 ·exact u.slot b ob q n hb hx
 ·exact ⟨ob.slots,u.keep b ob q n hb hx⟩
theorem Un.kept (k:∀ b u,h.get? b=some u→h'.get? b=some u):Un fs ex H H h h' :=
 ⟨fun b ob q _ _ _=>k b ob q,fun b ob q _ _ _=>⟨ob.slots,k b ob q⟩,fun _ _ _ n _=>n,fun b ob q _=>⟨ob,k b ob q⟩,fun _ _ q=>q,fun _ _ _ q=>q,fun _ ps q=>⟨#[],by rw [q]; simp⟩⟩
theorem Un.refl:Un fs ex H H h h:=Un.kept fun _ _ q=>q
theorem Un.laid (k:∀ b u,h.get? b=some u→h'.get? b=some u) (hp:h.objs.size≤a) (hn:H a=none):Un fs ex H (aV H a o) h h' where
 keep:=fun b u q _ _ _=>k b u q
 slot:=fun b u q _ _ _=>⟨u.slots,k b u q⟩
 free:=fun b u q n _=>by rw [aO (Zz (Zl (Zv q) hp))]; exact n
 there:=fun b u q _=>⟨u,k b u q⟩
 tups:=fun b xs q=>by rw [aO (bU q hn)]; exact q
 frzs:=fun b u xs q=>by rw [aO (bU q hn)]; exact q
 tbls:=fun b ps q=>⟨#[],by rw [aO (bU q hn),q]; simp⟩
theorem Un.write (mu:LK (H x)) (he:e=x∨H e=some (.own x)) (k:∀ b u,b≠e→h.get? b=some u→h'.get? b=some u) (heo:∃ u,h'.get? e=some u):Un fs ex H (aV H x o) h h':=by
 have hx:∀ b,H b=none→b≠x:=fun b n z=>by subst z; rw [n] at mu; exact mu
 have hb:∀ b,H b=none→b≠e:=fun b n z=>by
  subst z;rcases he with r | r
  ·exact hx b n r
  ·rw [n] at r; cases r
 have hm:∀ b u,H b=some u→¬ LK (some u)→b≠x:=fun b u q nm z=>by subst z; rw [q] at mu; exact nm mu
 refine ⟨fun b u q n _ _=>k b u (hb b n) q,fun b u q n _ _=>⟨u.slots,k b u (hb b n) q⟩,fun b u q n _=>by rw [aO (hx b n)]; exact n,fun b u q _=>?_,
  fun b xs q=>by rw [aO (hm b _ q fun z=>z)]; exact q,fun b u xs q=>by rw [aO (hm b _ q fun z=>z)]; exact q,fun b ps q=>⟨#[],by rw [aO (hm b _ q fun z=>z),q]; simp⟩⟩
 by_cases hbe:b=e
 ·subst hbe; exact heo
 ·exact ⟨u,k b u hbe q⟩
end
noncomputable def QO (h:Heap) (H:Hp):List Addr:=(List.range h.objs.size).filter fun a=>(H a).isSome
noncomputable def pN (h:Heap) (H:Hp):Heap:=PySem.W.hideAll h (QO h H)
theorem JI (h:Heap) (H:Hp):(pN h H).objs.size=h.objs.size:=PySem.W.hideAll_size _ _
theorem MM {h:Heap} {H:Hp} {b:Addr} {o:Obj} (e:h.get? b=some o) (n:H b=none):(pN h H).get? b=some o :=
 PySem.W.hideAll_get _ e fun hm=>by
  have q:(H b).isSome=true:=(List.mem_filter.mp hm).2;rw [n] at q; simp at q
theorem UE {h:Heap} {H:Hp} {b:Addr} {o:Obj} (e:(pN h H).get? b=some o):h.get? b=some o∧H b=none:=by
 have e':h.get? b=some o:=PySem.W.of_hideAll (QO h H) e;refine ⟨e', ?_⟩
 cases q:H b with
 | none=>rfl
 | some x =>
  have hm:b∈QO h H:=List.mem_filter.mpr ⟨List.mem_range.mpr (Zv e'),by simp [q]⟩;have z:(pN h H).get? b=none:=PySem.W.hideAll_none (QO h H) hm;rw [z] at e; cases e
noncomputable def S5 (g h:Heap) (L:Addr):List (Addr × Obj):=(List.range h.objs.size).filterMap fun a=>if a=L∨(g.get? a).isSome=true then none else (h.get? a).map fun o=>(a,o)
noncomputable def jA (g h:Heap) (L d:Addr):List (Addr × Obj):=(S5 g h L).filter fun p=>decide (p.1≠d)
structure Mod (K:Frag) (mg:Str→Option Value) (base:Heap):Prop where
 kin:K.In base
 glob:base.Ns mainGlobals mg
 blt:∃ mb,base.Ns builtinsNs mb∧∀ x:Str,x≠"__name__"→mb x=bootBuiltins x
 nolimit:base.NoLimit
structure Cx where
 prog:Program
 w:World
 K:Frag
 mg:Str→Option Value
 base:Heap
 A:Around
 N:List Str
 s₀:Shared
 H₀:Hp
 env:Env
 outer:List Env
 stack:List Env
 ex:List Addr
 fn:Str→Bool
 calm:Bool
 pn:List (Addr × Obj)
 xe:Value→Shared→Prop
def rH (l:List Env):List Addr:=l.filterMap (·.frame)
abbrev Cx.fs (X:Cx):List Addr:=rH X.outer
def L4 (sc:Scope) (x:Str):Prop:=sc.names.lookup x=some .local∨sc.names.lookup x=some .cell∨sc.names.lookup x=some .free
def y8 (sc:Scope) (x:Str):Prop:=sc.names.lookup x=some .local∨sc.names.lookup x=some .cell
def aEo (env:Env) (h:Heap) (m:Str→Option Value) (x:Str) (u:Value):Prop :=
 (env.kindOf x=some .local∧m x=some u)∨((env.kindOf x=some .cell∨env.kindOf x=some .free)∧∃ c,env.cells.lookup x=some c∧h.IsCell c (some u))
structure Cx.Ok (X:Cx):Prop where
 mod:Mod X.K X.mg X.base
 kind:X.env.scope.kind=.function
 glob:X.env.globals=mainGlobals
 blt:X.env.builtins=builtinsNs
 above:X.s₀.heap.objs.size≤X.env.locals
 inj:∀ x y c,X.env.cells.lookup x=some c→X.env.cells.lookup y=some c→x=y
 has:∀ x,(X.env.kindOf x=some .cell∨X.env.kindOf x=some .free)→∃ c,X.env.cells.lookup x=some c
 cab:∀ x c,X.fn x=true→X.env.cells.lookup x=some c→X.s₀.heap.objs.size≤c
 hd:X.calm=true→X.A.handled=none
 frames:X.A.frames=some X.stack
 stk:X.stack=X.outer∨(X.stack=X.env :: X.outer∧X.env.frame=some X.env.locals)
 exf:∀ b∈X.ex,b≠X.env.locals∧∀ x c,X.env.cells.lookup x=some c→c≠b
 bs:∀ b o,X.base.get? b=some o→X.s₀.heap.get? b=some o∧X.H₀ b=none
 bsz:X.base.objs.size≤X.s₀.heap.objs.size
 noex:∀ b o,X.base.get? b=some o→b ∉ X.ex
 exfs:∀ b∈X.ex,b ∉ X.fs
 funs:X.s₀.heap.FunFrames X.base X.outer
 frf:∀ b∈X.fs,X.H₀ b=none
structure Inv (X:Cx) (pins:List (Addr × Obj)) (σ:List (Option V)) (H:Hp) (s:Shared):Prop where
 ok:X.Ok
 os:s.os=X.s₀.os
 bare:AllBare s.gens
 base:Un X.fs X.ex X.H₀ H X.s₀.heap s.heap
 loc:∃ m,s.heap.Ns X.env.locals m∧∀ (i:Nat) (x:Str) (v:V),X.N[i]?=some x→σ[i]?=some (some v)→L4 X.env.scope x→∃ u,bC v u∧aEo X.env s.heap m x u
 cell:∀ x c,X.env.cells.lookup x=some c→∃ v,s.heap.IsCell c v
 free:H X.env.locals=none
 freeC:∀ x c,X.env.cells.lookup x=some c→H c=none
 pin:∀ p∈X.pn ++ pins,s.heap.get? p.1=some p.2∧H p.1=none∧p.1≠X.env.locals∧p.1 ∉ X.fs∧∀ v,p.2.data≠.cell v
 hok:gU X.prog X.w H s.heap
 len:σ.length=X.N.length
section
variable {X:Cx} {pins:List (Addr × Obj)} {σ:List (Option V)} {H H':Hp} {s:Shared} {h':Heap}
theorem Cx.Ok.nofr (ok:X.Ok) {b:Addr} {o:Obj} (e:X.base.get? b=some o):b ∉ X.fs:=fun hb=>by
 have:=(ok.funs.mem hb).1
 rw [e] at this; cases this
theorem Inv.bs (I:Inv X pins σ H s):∀ b o,X.base.get? b=some o→s.heap.get? b=some o∧H b=none:=fun b o e =>
 ⟨I.base.keep b o (I.ok.bs b o e).1 (I.ok.bs b o e).2 (I.ok.nofr e) (I.ok.noex b o e),I.base.free b o (I.ok.bs b o e).1 (I.ok.bs b o e).2 (I.ok.noex b o e)⟩
theorem Inv.bk (I:Inv X pins σ H s):∀ b o,X.base.get? b=some o→s.heap.get? b=some o:=fun b o e=>(I.bs b o e).1
theorem Inv.mod (I:Inv X pins σ H s):Mod X.K X.mg X.base:=I.ok.mod
theorem Inv.kIn (I:Inv X pins σ H s):X.K.In s.heap:=I.ok.mod.kin.keeps I.bk
theorem Inv.lt (I:Inv X pins σ H s):X.env.locals<s.heap.objs.size:=let ⟨_,hn,_⟩:=I.loc; hn.lt
theorem Inv.sz (I:Inv X pins σ H s):X.s₀.heap.objs.size≤s.heap.objs.size:=Zr I.ok.above (Nat.le_of_lt I.lt)
theorem Inv.nofs (I:Inv X pins σ H s) {a:Addr} (h:s.heap.objs.size≤a):a ∉ X.fs:=fun hb=>by
 obtain ⟨_,o,ho,_⟩:=I.ok.funs.mem hb;exact absurd (Zl (Zv ho) (Zr I.sz h)) (Nat.lt_irrefl _)
theorem Inv.cne (I:Inv X pins σ H s):∀ x c,X.env.cells.lookup x=some c→c≠X.env.locals:=fun x c e z=>by
 obtain ⟨v,o,ho,hd⟩:=I.cell x c e;obtain ⟨m,⟨o',es,ep,ho',hd',_⟩,_⟩:=I.loc;rw [z,ho'] at ho; cases ho; rw [hd'] at hd; cases hd
theorem Inv.funs (I:Inv X pins σ H s):s.heap.FunFrames X.base X.outer:=by
 have all:∀ (l:List Env),(∀ b∈rH l,b∈X.fs)→X.s₀.heap.FunFrames X.base l→s.heap.FunFrames X.base l:=by
  intro l
  induction l with
  | nil=>intro _ _; trivial
  | cons env r ih =>
   intro hs hl;obtain ⟨hk,⟨L,o,hf,hn,ho,hd⟩,hr⟩:=hl;have hL:L∈X.fs:=hs L (by unfold rH; rw [List.filterMap_cons,hf]; exact zh);obtain ⟨sl,e⟩:=I.base.slot L o ho (I.ok.frf L hL) hL fun z=>I.ok.exfs L z hL
   exact ⟨hk,⟨L,_,hf,hn,e,hd⟩,ih (fun b hb=>hs b (by unfold rH; rw [List.filterMap_cons,hf]; exact Ze _ hb)) hr⟩
 exact all X.outer (fun _ hb=>hb) I.ok.funs
theorem Inv.stack (I:Inv X pins σ H s):s.heap.FunFrames X.base X.stack:=by
 rcases I.ok.stk with e | ⟨e,hf⟩
 ·rw [e]; exact I.funs
 ·rw [e];obtain ⟨m,hn,_⟩:=I.loc;refine .cons (by rw [I.ok.kind]; decide) hf hn ?_ I.funs;exact Heap.get?_none_of_le (Zr I.ok.bsz I.ok.above)
theorem Inv.stkSub (I:Inv X pins σ H s):∀ b∈rH X.stack,b∈X.env.locals :: X.fs:=fun b hb=>by
 rcases I.ok.stk with e | ⟨e,hf⟩
 ·rw [e] at hb; exact Ze _ hb
 ·rw [e] at hb;unfold rH at hb;rw [List.filterMap_cons,hf] at hb;exact hb
theorem Inv.stkFree (I:Inv X pins σ H s):∀ b∈rH X.stack,H b=none:=fun b hb=>by
 rcases List.mem_cons.mp (I.stkSub b hb) with e | hb
 ·rw [e]; exact I.free
 ·obtain ⟨_,o,ho,_⟩:=I.ok.funs.mem hb;exact I.base.free b o ho (I.ok.frf b hb) fun z=>I.ok.exfs b z hb
theorem Inv.step {g':Array GenState} {t':Nat} {d':Drawn} {ch:List Addr} (I:Inv X pins σ H s)
  (hch:∀ b∈ch,(b∈X.ex∨X.s₀.heap.get? b=none)∧b≠X.env.locals∧(∀ x c,X.env.cells.lookup x=some c→c≠b)∧∀ p∈X.pn ++ pins,p.1≠b)
  (keep:∀ b o,b≠X.env.locals→b ∉ X.fs→b ∉ ch→s.heap.get? b=some o→H b=none→h'.get? b=some o)
  (slot:∀ b o,b≠X.env.locals→b∈X.fs→b ∉ ch→s.heap.get? b=some o→H b=none→∃ sl,h'.get? b=some { o with slots:=sl }) (free:∀ b o,b ∉ ch→s.heap.get? b=some o→H b=none→H' b=none)
  (there:∀ b o,b ∉ ch→s.heap.get? b=some o→∃ o',h'.get? b=some o')
  (tups:∀ b xs,H b=some (.tup xs)→H' b=some (.tup xs)) (frzs:∀ b o u,H b=some (.frz o u)→H' b=some (.frz o u)) (tbls:∀ b ps,H b=some (.tbl ps)→∃ more,H' b=some (.tbl (ps ++ more)))
  (ns:∀ m,s.heap.Ns X.env.locals m→h'.Ns X.env.locals m) (hok:gU X.prog X.w H' h') (hg:AllBare g') :
  Inv X pins σ H' { s with heap:=h',gens:=g',drawn:=d',toks:=t' }:=by
 have neL:∀ b o,X.s₀.heap.get? b=some o→b≠X.env.locals:=fun b o e=>Zz (Zl (Zv e) I.ok.above)
 have neC:∀ b o,X.s₀.heap.get? b=some o→b ∉ X.ex→b ∉ ch:=fun b o e hx hb=>by
  rcases (hch b hb).1 with z | z
  ·exact hx z
  ·rw [z] at e; cases e
 have cellK:∀ x c,X.env.cells.lookup x=some c→∀ v,s.heap.IsCell c v→h'.IsCell c v:=fun x c e v ⟨o,ho,hd⟩=>by
  have nch:c ∉ ch:=fun z=>(hch c z).2.2.1 x c e rfl
  by_cases hc:c∈X.fs
  ·obtain ⟨sl,q⟩:=slot c o (I.cne x c e) hc nch ho (I.freeC x c e);exact ⟨_,q,hd⟩
  ·exact ⟨o,keep c o (I.cne x c e) hc nch ho (I.freeC x c e),hd⟩
 refine ⟨I.ok,I.os,hg,⟨fun b o e n hb hx=>?_,fun b o e n hb hx=>?_,fun b o e n hx=>?_,fun b o e hx=>?_,fun b xs e=>tups b xs (I.base.tups b xs e),fun b o xs e=>frzs b o xs (I.base.frzs b o xs e),fun b ps e=>?_⟩, ?_,fun x c e=>?_, ?_,fun x c e=>?_,fun p hp=>?_,hok,I.len⟩
 ·exact keep b o (neL b o e) hb (neC b o e hx) (I.base.keep b o e n hb hx) (I.base.free b o e n hx)
 ·obtain ⟨sl,e1⟩:=I.base.slot b o e n hb hx;obtain ⟨sl',e2⟩:=slot b _ (neL b o e) hb (neC b o e hx) e1 (I.base.free b o e n hx);exact ⟨sl',e2⟩
 ·obtain ⟨o',e1⟩:=I.base.there b o e hx;exact free b o' (neC b o e hx) e1 (I.base.free b o e n hx)
 ·obtain ⟨o',e1⟩:=I.base.there b o e hx;exact there b o' (neC b o e hx) e1
 ·obtain ⟨m1,e1⟩:=I.base.tbls b ps e;obtain ⟨m2,e2⟩:=tbls b _ e1;exact ⟨m1 ++ m2,by rw [e2,Array.append_assoc]⟩
 ·obtain ⟨m,hn,hl⟩:=I.loc;refine ⟨m,ns m hn,fun i x v e1 e2 e3=>?_⟩;obtain ⟨u,r,l⟩:=hl i x v e1 e2 e3;refine ⟨u,r, ?_⟩;rcases l with l | ⟨k,c,e,z⟩
  ·exact .inl l
  ·exact .inr ⟨k,c,e,cellK x c e _ z⟩
 ·obtain ⟨v,z⟩:=I.cell x c e;exact ⟨v,cellK x c e v z⟩
 ·obtain ⟨m,⟨o,_,_,ho,_⟩,_⟩:=I.loc;exact free _ o (fun z=>(hch _ z).2.1 rfl) ho I.free
 ·obtain ⟨v,o,ho,hd⟩:=I.cell x c e;exact free c o (fun z=>(hch c z).2.2.1 x c e rfl) ho (I.freeC x c e)
 ·obtain ⟨e,n,ne,nf,d⟩:=I.pin p hp;have nch:p.1 ∉ ch:=fun z=>(hch p.1 z).2.2.2 p hp rfl
  exact ⟨keep p.1 p.2 ne nf nch e n,free p.1 p.2 nch e n,ne,nf,d⟩
theorem Inv.un {t':Nat} (I:Inv X pins σ H s) (u:Un X.fs [] H H' s.heap h') (hok:gU X.prog X.w H' h'):Inv X pins σ H' { s with heap:=h',toks:=t' }:=by
 obtain ⟨m,⟨o,es,ep,ho,r⟩,_⟩:=id I.loc;obtain ⟨sl,hL⟩:=u.any ho I.free (by simp)
 exact I.step (g':=s.gens) (d':=s.drawn) (ch:=[]) (fun _ z=>nomatch z) (fun b o _ hb _ e n=>u.keep b o e n hb (by simp)) (fun b o _ hb _ e n=>u.slot b o e n hb (by simp)) (fun b o _ e n=>u.free b o e n (by simp)) (fun b o _ e=>u.there b o e (by simp)) u.tups u.frzs u.tbls (fun m' hm=>by
  obtain ⟨o',es',ep',ho',r'⟩:=hm;rw [ho] at ho'; cases ho'
  exact ⟨_,es',ep',hL,r'⟩) hok I.bare
theorem Inv.call {g':Array GenState} {t':Nat} {d':Drawn} {ch:List Addr} (I:Inv X pins σ H s) (u:Un (rH X.stack) ch H H' s.heap h') (hok:gU X.prog X.w H' h') (hg:AllBare g')
  (hch:∀ b∈ch,(b∈X.ex∨X.s₀.heap.get? b=none)∧b≠X.env.locals∧(∀ x c,X.env.cells.lookup x=some c→c≠b)∧∀ p∈X.pn ++ pins,p.1≠b) :
  Inv X pins σ H' { s with heap:=h',gens:=g',drawn:=d',toks:=t' }:=by
 obtain ⟨m,⟨o,es,ep,ho,r⟩,_⟩:=id I.loc;obtain ⟨sl,hL⟩:=u.any ho I.free fun z=>(hch _ z).2.1 rfl
 exact I.step (ch:=ch) hch (fun b o hL hb hc e n=>u.keep b o e n (fun z=>(List.mem_cons.mp (I.stkSub b z)).elim hL hb) hc) (fun b o _ _ hc e n=>u.any e n hc) (fun b o hc e n=>u.free b o e n hc) (fun b o hc e=>u.there b o e hc) u.tups u.frzs u.tbls (fun m' hm=>by
  obtain ⟨o',es',ep',ho',r'⟩:=hm;rw [ho] at ho'; cases ho'
  exact ⟨_,es',ep',hL,r'⟩) hok hg
theorem Inv.turned {t':Nat} {it:Addr} (I:Inv X pins σ H s) (k:∀ b o,b≠it→s.heap.get? b=some o→h'.get? b=some o) (hn:H it=none) (hL:it≠X.env.locals)
  (h1:it∈X.ex∨X.s₀.heap.get? it=none) (h2:∀ x c,X.env.cells.lookup x=some c→c≠it) (h3:∀ p∈X.pn ++ pins,p.1≠it):Inv X pins σ H { s with heap:=h',toks:=t' }:=by
 have nit:∀ b u,H b=some u→b≠it:=fun b u e z=>by rw [z,hn] at e; cases e
 refine I.step (g':=s.gens) (d':=s.drawn) (ch:=[it]) (fun b hb=>?_) (fun b o _ _ hc e _=>k b o (fun z=>hc (by simp [z])) e) (fun b o _ _ hc e _=>⟨o.slots,k b o (fun z=>hc (by simp [z])) e⟩) (fun _ _ _ _ n=>n)
  (fun b o hc e=>⟨o,k b o (fun z=>hc (by simp [z])) e⟩) (fun _ _ e=>e) (fun _ _ _ e=>e) (fun b ps e=>⟨#[],by rw [e]; simp⟩) (fun m hm=>?_) (fun b u e=>?_) I.bare
 ·have e:b=it:=by simpa using hb
  subst e;exact ⟨h1,hL,h2,h3⟩
 ·obtain ⟨o,es,ep,ho,r⟩:=hm;exact ⟨o,es,ep,k _ o (Ne.symm hL) ho,r⟩
 ·refine (I.hok b u e).stay (fun c v hc q=>k c v ?_ q) (fun _ q=>q) fun _ _ q=>q
  rcases hc with z | z
  ·rw [z]; exact nit b u e
  ·exact nit c _ z
theorem Inv.tok (I:Inv X pins σ H s) (t:Nat):Inv X pins σ H { s with toks:=t }:=I.un (h':=s.heap) (t':=t) Un.refl I.hok
theorem Inv.kept {t':Nat} (I:Inv X pins σ H s) (k:∀ b u,s.heap.get? b=some u→h'.get? b=some u):Inv X pins σ H { s with heap:=h',toks:=t' }:=I.un (Un.kept k) (I.hok.kept k)
theorem Inv.laid {a:Addr} {o:HO} {t':Nat} (I:Inv X pins σ H s) (k:∀ b u,s.heap.get? b=some u→h'.get? b=some u) (hp:s.heap.objs.size≤a) (new:dW X.prog X.w (aV H a o) h' a o) :
  Inv X pins σ (aV H a o) { s with heap:=h',toks:=t' }:=I.un (Un.laid k hp (I.hok.fresh hp)) (I.hok.laid k hp new)
theorem Inv.write {x e:Addr} {o:HO} {t':Nat} (I:Inv X pins σ H s) (mu:LK (H x)) (he:e=x∨H e=some (.own x)) (k:∀ b u,b≠e→s.heap.get? b=some u→h'.get? b=some u) (heo:∃ u,h'.get? e=some u)
  (new:dW X.prog X.w (aV H x o) h' x o):Inv X pins σ (aV H x o) { s with heap:=h',toks:=t' }:=I.un (Un.write mu he k heo) (I.hok.write mu he k heo new)
theorem Inv.pins_of {pins':List (Addr × Obj)} (I:Inv X pins σ H s) (h:∀ p∈pins',s.heap.get? p.1=some p.2∧H p.1=none∧p.1≠X.env.locals∧p.1 ∉ X.fs∧∀ v,p.2.data≠.cell v):Inv X pins' σ H s :=
 ⟨I.ok,I.os,I.bare,I.base,I.loc,I.cell,I.free,I.freeC,fun p hp=>(zo.mp hp).elim (fun z=>I.pin p (List.mem_append_left _ z)) (h p),I.hok,I.len⟩
theorem BR {N:List Str} (hN:N.Nodup) {i j:Nat} {x:Str} (a:N[i]?=some x) (b:N[j]?=some x):i=j:=by
 obtain ⟨h1,e1⟩:=Zc.mp a;obtain ⟨h2,e2⟩:=Zc.mp b;exact (List.getElem_inj hN).mp (e1.trans e2.symm)
theorem AE {M:Model} {A:Around} {E:Value→Shared→Prop} {i:Nat} {x:Str} {v:V} {u:Value} {Q:Unit→Shared→Prop} (I:Inv X pins σ H s) (hN:X.N.Nodup) (hi:X.N[i]?=some x) (hx:y8 X.env.scope x) (r:bC v u)
  (h:∀ s',Inv X pins (σ.set i (some v)) H s'→(∃ a,Heap.SameBut a s.heap s'.heap∧(a=X.env.locals∨X.env.cells.lookup x=some a))→Q () s') (hf:X.fn x=true∨X.env.scope.names.lookup x=some .local:=by first | exact .inl rfl | exact .inr rfl | assumption):wpAny M A (storeName X.env x u) Q E s:=by
 obtain ⟨m,hn,hl⟩:=id I.loc;have hcls:(X.env.scope.kind == .class || (X.env.scope.kind == .module && X.env.locals != X.env.globals))=false:=by rw [I.ok.kind]; rfl
 have hiσ:i<σ.length:=by rw [I.len]; exact (Zc.mp hi).1
 have cne:=I.cne
 have tracked:∀ {a:Addr} {h':Heap},(∃ o,s.heap.get? a=some o∧H a=none)→Heap.SameBut a s.heap h'→gU X.prog X.w H h':=fun {a h'} ha hs b ob e=>by
  obtain ⟨_,_,hfree⟩:=ha;refine (I.hok b ob e).stay (fun c w' hc q=>(hs.2 c ?_).trans q) (fun _ q=>q) fun _ _ q=>q
  rintro rfl
  rcases hc with rfl | hc
  ·rw [hfree] at e; cases e
  ·rw [hfree] at hc; cases hc
 rcases hx with hk | hk
 ·refine wpAny_storeName_local hk hn (fun h' hn' hs=>?_) hcls;obtain ⟨oL,_,_,hoL,_⟩:=id hn;refine h _ ⟨I.ok,I.os,I.bare,⟨fun b o e n hb hx=>?_,fun b o e n hb hx=>?_,I.base.free,fun b o e hx=>?_,I.base.tups,I.base.frzs,I.base.tbls⟩,⟨_,hn',fun j y v' e1 e2 e3=>?_⟩,fun y c e=>?_,I.free,I.freeC,fun p hp=>?_,tracked ⟨oL,hoL,I.free⟩ hs,by simpa using I.len⟩ ⟨_,hs,.inl rfl⟩
  ·exact (hs.2 b (Zz (Zl (Zv e) I.ok.above))).trans (I.base.keep b o e n hb hx)
  ·obtain ⟨sl,e1⟩:=I.base.slot b o e n hb hx;exact ⟨sl,(hs.2 b (Zz (Zl (Zv e) I.ok.above))).trans e1⟩
  ·obtain ⟨o',e1⟩:=I.base.there b o e hx;exact ⟨o',(hs.2 b (Zz (Zl (Zv e) I.ok.above))).trans e1⟩
  ·by_cases hj:j=i
   ·subst hj;rw [hi] at e1; cases e1;rw [zk hiσ] at e2;cases e2;exact ⟨u,r,.inl ⟨hk,by simp⟩⟩
   ·rw [Zf (Ne.symm hj)] at e2;obtain ⟨u',r',q⟩:=hl j y v' e1 e2 e3;refine ⟨u',r', ?_⟩;rcases q with ⟨k,e⟩ | ⟨k,c,e,z⟩
    ·refine .inl ⟨k, ?_⟩
     have:y≠x:=fun e=>hj (BR hN e1 (e ▸ hi))
     simp [this,e]
    ·exact .inr ⟨k,c,e,z.sameBut hs (cne y c e)⟩
  ·obtain ⟨w',z⟩:=I.cell y c e;exact ⟨w',z.sameBut hs (cne y c e)⟩
  ·obtain ⟨e,n,ne,nf,d⟩:=I.pin p hp;exact ⟨(hs.2 p.1 ne).trans e,n,ne,nf,d⟩
 ·have hfn:X.fn x=true:=by
   rcases hf with z | z
   ·exact z
   ·rw [z] at hk; cases hk
  obtain ⟨c,hc⟩:=I.ok.has x (.inl hk);obtain ⟨w',z⟩:=I.cell x c hc;refine wpAny_storeName_cell I.ok.kind hk hc z (fun h' hc' hs=>?_);obtain ⟨oc,hoc,hocd⟩:=id z;refine h { s with heap:=h' } ⟨I.ok,I.os,I.bare,⟨fun b o e n hb hx=>?_,fun b o e n hb hx=>?_,I.base.free,fun b o e hx=>?_,I.base.tups,I.base.frzs,I.base.tbls⟩,⟨m,hn.sameBut hs (Ne.symm (cne x c hc)),fun j y v' e1 e2 e3=>?_⟩,fun y c' e=>?_,I.free,I.freeC,fun p hp=>?_,tracked ⟨oc,hoc,I.freeC x c hc⟩ hs,by simpa using I.len⟩ ⟨c,hs,.inr hc⟩
  ·exact (hs.2 b (Zz (Zl (Zv e) (I.ok.cab x c hfn hc)))).trans (I.base.keep b o e n hb hx)
  ·obtain ⟨sl,e1⟩:=I.base.slot b o e n hb hx;exact ⟨sl,(hs.2 b (Zz (Zl (Zv e) (I.ok.cab x c hfn hc)))).trans e1⟩
  ·obtain ⟨o',e1⟩:=I.base.there b o e hx;exact ⟨o',(hs.2 b (Zz (Zl (Zv e) (I.ok.cab x c hfn hc)))).trans e1⟩
  ·by_cases hj:j=i
   ·subst hj;rw [hi] at e1; cases e1;rw [zk hiσ] at e2;cases e2;exact ⟨u,r,.inr ⟨.inl hk,c,hc,hc'⟩⟩
   ·rw [Zf (Ne.symm hj)] at e2;obtain ⟨u',r',q⟩:=hl j y v' e1 e2 e3;refine ⟨u',r', ?_⟩;rcases q with q | ⟨k,c',e,z'⟩
    ·exact .inl q
    ·refine .inr ⟨k,c',e,z'.sameBut hs ?_⟩
     rintro rfl
     exact hj (BR hN e1 (I.ok.inj _ _ _ e hc ▸ hi))
  ·by_cases hcc:c'=c
   ·subst hcc; exact ⟨_,hc'⟩
   ·obtain ⟨w2,z2⟩:=I.cell y c' e;exact ⟨w2,z2.sameBut hs hcc⟩
  ·obtain ⟨e,n,ne,nf,d⟩:=I.pin p hp;refine ⟨(hs.2 p.1 ?_).trans e,n,ne,nf,d⟩;intro q;rw [q,hoc] at e;have q':oc=p.2:=Option.some.inj e;exact d w' (by rw [← q']; exact hocd)
theorem NI {M:Model} {A:Around} {E:Value→Shared→Prop} {i:Nat} {x:Str} {v:V} {u:Value} {Q:Unit→Shared→Prop} (I:Inv X pins σ H s) (hN:X.N.Nodup) (hi:X.N[i]?=some x) (hx:y8 X.env.scope x) (r:bC v u)
  (h:∀ s',Inv X pins (σ.set i (some v)) H s'→Q () s') (hf:X.fn x=true∨X.env.scope.names.lookup x=some .local:=by first | exact .inl rfl | exact .inr rfl | assumption):wpAny M A (storeName X.env x u) Q E s :=
 AE I hN hi hx r (fun s' I' _=>h s' I') hf
theorem Inv.call' {s':Shared} {ch:List Addr} (I:Inv X pins σ H s) (ho:s'.os=s.os) (u:Un (rH X.stack) ch H H' s.heap s'.heap) (hok:gU X.prog X.w H' s'.heap) (hg:AllBare s'.gens)
  (hch:∀ b∈ch,(b∈X.ex∨X.s₀.heap.get? b=none)∧b≠X.env.locals∧(∀ x c,X.env.cells.lookup x=some c→c≠b)∧∀ p∈X.pn ++ pins,p.1≠b):Inv X pins σ H' s':=by
 obtain ⟨h',g',d',t',o'⟩:=s';have e:o'=s.os:=ho;subst e;exact I.call (g':=g') (t':=t') (d':=d') u hok hg hch
end
abbrev XK:=Value→Option Addr→Hp→Prop
abbrev St:=List (Option V)
abbrev VK:=V→Hp→Prop
abbrev TE:=St→Hp→VK→Prop
abbrev TT:=St→Hp→(Bool→Hp→Prop)→Prop
abbrev TA:=St→Hp→(List V→Hp→Prop)→Prop
structure Ends where
 nx:St→Hp→Prop
 rt:VK
 bk:St→Hp→Prop:=fun _ _=>False
 ct:St→Hp→Prop:=fun _ _=>False
abbrev TS:=Ends→St→Hp→Prop
def EP (X:Cx) (pins:List (Addr × Obj)) (σ:St) (Q:VK) (u:Value) (s':Shared):Prop:=∃ v H',Inv X pins σ H' s'∧bC v u∧Q v H'
def TP (X:Cx) (pins:List (Addr × Obj)) (σ:St) (Q:Bool→Hp→Prop) (b:Bool) (s':Shared):Prop:=∃ H',Inv X pins σ H' s'∧Q b H'
def AP (X:Cx) (pins:List (Addr × Obj)) (σ:St) (Q:List V→Hp→Prop) (us:List Value) (s':Shared):Prop:=∃ vs H',Inv X pins σ H' s'∧aT vs us∧Q vs H'
def SP (X:Cx) (pins:List (Addr × Obj)) (D:Ends) (f:Flow) (s':Shared):Prop :=
 match f with
 | .next=>∃ σ' H',Inv X pins σ' H' s'∧D.nx σ' H'
 | .brk=>∃ σ' H',Inv X pins σ' H' s'∧D.bk σ' H'
 | .cont=>∃ σ' H',Inv X pins σ' H' s'∧D.ct σ' H'
 | .ret u=>∃ v σ' H',Inv X pins σ' H' s'∧bC v u∧D.rt v H'
def PE (X:Cx) (e:Expr) (t:TE):Prop :=
 ∀ (pins:List (Addr × Obj)) (s:Shared) (σ:St) (H:Hp) (Q:VK),Inv X pins σ H s→t σ H Q→wpAny (model X.prog X.w) X.A (eval e X.env) (EP X pins σ Q) X.xe s
def PT (X:Cx) (e:Expr) (t:TT):Prop :=
 ∀ (pins:List (Addr × Obj)) (s:Shared) (σ:St) (H:Hp) (Q:Bool→Hp→Prop),Inv X pins σ H s→t σ H Q→wpAny (model X.prog X.w) X.A (isTrue e X.env (eval e X.env)) (TP X pins σ Q) X.xe s
def PW (X:Cx) (e:Expr) (t:TT):Prop :=
 ∀ (whole:Sem Value) (pins:List (Addr × Obj)) (s:Shared) (σ:St) (H:Hp) (Q:Bool→Hp→Prop),Inv X pins σ H s→t σ H Q→wpAny (model X.prog X.w) X.A (isTrue e X.env whole) (TP X pins σ Q) X.xe s
theorem PW.pt {X:Cx} {e:Expr} {t:TT} (h:PW X e t):PT X e t:=h _
def PA (X:Cx) (es:List Expr) (t:TA):Prop :=
 ∀ (pos:Pos) (pins:List (Addr × Obj)) (s:Shared) (σ:St) (H:Hp) (Q:List V→Hp→Prop),Inv X pins σ H s→t σ H Q→wpAny (model X.prog X.w) X.A (spliced (backTo pos (starEach es X.env))) (AP X pins σ Q) X.xe s
def PS (X:Cx) (st:Stmt) (t:TS):Prop :=
 ∀ (pins:List (Addr × Obj)) (s:Shared) (σ:St) (H:Hp) (D:Ends),Inv X pins σ H s→t D σ H→wpAny (model X.prog X.w) X.A (exec st X.env) (SP X pins D) X.xe s
def hW (X:Cx) (st:List Stmt) (t:TS):Prop :=
 ∀ (pins:List (Addr × Obj)) (s:Shared) (σ:St) (H:Hp) (D:Ends),Inv X pins σ H s→t D σ H→wpAny (model X.prog X.w) X.A (execs st X.env) (SP X pins D) X.xe s
theorem bH {α:Type} {t:Sem α} {Q Q':α→Shared→Prop} {M:Model} {A:Around} {E:Value→Shared→Prop} {s:Shared} (h:wpAny M A t Q E s) (hQ:∀ a s,Q a s→Q' a s):wpAny M A t Q' E s:=wpAny_mono h hQ fun _ _ x=>x
section
variable {X:Cx}
theorem bin {a b:Expr} {ta tb:TE} (ha:PE X a ta) (hb:PE X b tb) {pins:List (Addr × Obj)} {s:Shared} {σ:St} {H:Hp} {R:V→V→Hp→Prop} (I:Inv X pins σ H s) (h:ta σ H fun x H1=>tb σ H1 fun y H2=>R x y H2)
  {α:Type} {Q:α→Shared→Prop} {f:Value→Value→Sem α}
  (hf:∀ v u s2 x y H2,Inv X pins σ H2 s2→bC x v→bC y u→R x y H2→wpAny (model X.prog X.w) X.A (f v u) Q X.xe s2) :
  wpAny (model X.prog X.w) X.A (eval a X.env) (fun v s₁=>wpAny (model X.prog X.w) X.A (eval b X.env) (fun u s₂=>wpAny (model X.prog X.w) X.A (f v u) Q X.xe s₂) X.xe s₁) X.xe s:=by
 refine bH (ha pins s σ H _ I h) fun v s1 ⟨x,H1,I1,r1,q1⟩=>?_
 refine bH (hb pins s1 σ H1 _ I1 q1) fun u s2 ⟨y,H2,I2,r2,q2⟩=>?_
 exact hf v u s2 x y H2 I2 r1 r2 q2
noncomputable def vG (i:Nat):TE:=fun σ H Q=>∃ v,σ[i]?=some (some v)∧Q v H
noncomputable def tC (v:V):TE:=fun _ H Q=>Q v H
theorem DU {i:Nat} {x:Str} {pos:Pos} (hN:X.N[i]?=some x) (hv:L4 X.env.scope x) (hd:(x == ("__debug__":Str))=false:=by decide) (hcd:(x == ("__classdict__":Str))=false:=by decide):PE X (.Name x pos) (vG i):=by
 intro pins s σ H Q I h;obtain ⟨v,e,h⟩:=h;obtain ⟨m,hn,hl⟩:=I.loc;obtain ⟨u,r,l⟩:=hl i x v hN e hv;have fin:EP X pins σ Q u s:=⟨v,H,I,r,h⟩
 rcases l with ⟨hk,hm⟩ | ⟨hk,c,hc,hcell⟩
 ·exact wpAny_Name (wpAny_loadName_local I.ok.kind hk hn hm fin) hd
 ·rcases hk with hk | hk
  ·exact wpAny_Name (wpAny_loadName_cell I.ok.kind hk hc hcell fin) hd
  ·exact wpAny_Name (wpAny_loadName_free I.ok.kind hk hc hcell fin hcd) hd
theorem DI {i j pos}:PE X (.Constant (.int i) j pos) (tC (.int i)):=fun _ _ _ H _ I h=>wpAny_Constant_int ⟨.int i,H,I.tok _,⟨_,rfl⟩,h⟩
theorem aCB {b j pos}:PE X (.Constant (.bool b) j pos) (tC (.bl b)):=fun _ _ _ H _ I h=>Constant_bool ⟨.bl b,H,I,rfl,h⟩
theorem XN {j pos}:PE X (.Constant .none j pos) (tC .non):=fun _ _ _ H _ I h=>Constant_none ⟨.non,H,I,rfl,h⟩
theorem X9 {x j pos}:PE X (.Constant (.str x) j pos) (tC (.str x)):=fun _ _ _ H _ I h=>Calls.Constant_str ⟨.str x,H,I.tok _,⟨_,rfl⟩,h⟩
def Gl (X:Cx) (x:Str):Prop:=X.env.kindOf x=some .globalImplicit
theorem yA {E:Value→Shared→Prop} {pins:List (Addr × Obj)} {s:Shared} {σ:St} {H:Hp} {x:Str} {u:Value} {pos:Pos} {Q:Value→Shared→Prop} (I:Inv X pins σ H s) (hg:Gl X x) (hm:X.mg x=some u) (h:Q u s)
  (hd:(x == ("__debug__":Str))=false:=by decide):wpAny (model X.prog X.w) X.A (eval (.Name x pos) X.env) Q E s :=
 Calls.Name_function_global I.ok.kind hg (Calls.loadGlobal_global (by rw [I.ok.glob]; exact I.mod.glob.keeps I.bk) hm h) hd
theorem l8 {E:Value→Shared→Prop} {pins:List (Addr × Obj)} {s:Shared} {σ:St} {H:Hp} {x:Str} {u:Value} {pos:Pos} {Q:Value→Shared→Prop} (I:Inv X pins σ H s) (hg:Gl X x) (hm:X.mg x=none) (hv:bootBuiltins x=some u) (h:Q u s)
  (hn:x≠"__name__":=by decide) (hd:(x == ("__debug__":Str))=false:=by decide):wpAny (model X.prog X.w) X.A (eval (.Name x pos) X.env) Q E s:=by
 obtain ⟨mb,h1,h2⟩:=I.mod.blt;exact Calls.Name_function_global I.ok.kind hg (Calls.loadGlobal_builtin (by rw [I.ok.glob]; exact I.mod.glob.keeps I.bk) hm (by rw [I.ok.blt]; exact h1.keeps I.bk) ((h2 x hn).trans hv) h) hd
theorem VH {x:Str} {v:V} {u:Value} {pos:Pos} (hg:Gl X x) (hm:X.mg x=some u) (r:bC v u) (hd:(x == ("__debug__":Str))=false:=by decide):PE X (.Name x pos) (tC v) :=
 fun _ _ _ H _ I h=>yA I hg hm ⟨v,H,I,r,h⟩ hd
theorem l5 {x:Str} {v:V} {u:Value} {pos:Pos} (hg:Gl X x) (hm:X.mg x=none) (hv:bootBuiltins x=some u) (r:bC v u) (hn:x≠"__name__":=by decide) (hd:(x == ("__debug__":Str))=false:=by decide):PE X (.Name x pos) (tC v) :=
 fun _ _ _ H _ I h=>l8 I hg hm hv ⟨v,H,I,r,h⟩ hn hd
variable {a b:Expr} {ta tb:TE} {pos:Pos}
variable {tA tB':TT} {jA:List Expr}
noncomputable def aAT (t u:TT):TT:=fun σ H Q=>t σ H fun c H1=>if c=true then u σ H1 Q else Q false H1
noncomputable def tOr (t u:TT):TT:=fun σ H Q=>t σ H fun c H1=>if c=true then Q true H1 else u σ H1 Q
noncomputable def aDu (t:TT):TT:=fun σ H Q=>t σ H fun c H1=>Q (!c) H1
theorem WT (ha:PT X a tA):PW X (.BoolOp .And [a] pos) tA:=by
 intro wh pins s σ H Q I h;refine isTrue_and (bH (ha pins s σ H Q I h) fun c s1 e=>?_)
 cases c with
 | true=>exact isTrue_and_nil e
 | false=>exact e
theorem W7 (ha:PT X a tA):PW X (.BoolOp .Or [a] pos) tA:=by
 intro wh pins s σ H Q I h;refine isTrue_or (bH (ha pins s σ H Q I h) fun c s1 e=>?_)
 cases c with
 | false=>exact isTrue_or_nil e
 | true=>exact e
theorem aAE (ha:PT X a tA) (hb:PW X (.BoolOp .And (b :: jA) pos) tB'):PW X (.BoolOp .And (a :: b :: jA) pos) (aAT tA tB'):=by
 intro wh pins s σ H Q I h;refine isTrue_and (bH (ha pins s σ H _ I h) fun c s1 ⟨H1,I1,q1⟩=>?_)
 cases c with
 | true=>exact hb wh pins s1 σ H1 Q I1 q1
 | false=>exact ⟨H1,I1,q1⟩
theorem aBW (ha:PT X a tA) (hb:PW X (.BoolOp .Or (b :: jA) pos) tB'):PW X (.BoolOp .Or (a :: b :: jA) pos) (tOr tA tB'):=by
 intro wh pins s σ H Q I h;refine isTrue_or (bH (ha pins s σ H _ I h) fun c s1 ⟨H1,I1,q1⟩=>?_)
 cases c with
 | true=>exact ⟨H1,I1,q1⟩
 | false=>exact hb wh pins s1 σ H1 Q I1 q1
theorem W3 (ha:PT X a tA):PT X (.UnaryOp .Not a pos) (aDu tA):=by
 intro pins s σ H Q I h;exact isTrue_not (ha pins s σ H (fun c H1=>Q (!c) H1) I h)
noncomputable def RC (ta tb:TE):TE:=fun σ H Q=>ta σ H fun x H1=>∃ c,x=.bl c∧if c=true then tb σ H1 Q else Q (.bl false) H1
noncomputable def XU (ta tb:TE):TE:=fun σ H Q=>ta σ H fun x H1=>∃ c,x=.bl c∧if c=true then Q (.bl true) H1 else tb σ H1 Q
theorem LC {op} {t:TE} (h:PE X a t):PE X (.BoolOp op [a] pos) t:=fun pins s σ H Q I hw=>BoolOp_one (h pins s σ H Q I hw)
theorem aAJ (ha:PE X a ta) (hb:PE X (.BoolOp .And (b :: jA) pos) tb):PE X (.BoolOp .And (a :: b :: jA) pos) (RC ta tb):=by
 intro pins s σ H Q I h;refine BoolOp_and (bH (ha pins s σ H _ I h) fun v s1 ⟨x,H1,I1,r1,q1⟩=>?_);obtain ⟨c,rfl,q1⟩:=q1;cases r1;refine wpAny_truthy_bool ?_
 cases c with
 | true=>exact hb pins s1 σ H1 Q I1 q1
 | false=>exact ⟨.bl false,H1,I1,rfl,q1⟩
theorem Q1 (ha:PE X a ta) (hb:PE X (.BoolOp .Or (b :: jA) pos) tb):PE X (.BoolOp .Or (a :: b :: jA) pos) (XU ta tb):=by
 intro pins s σ H Q I h;refine BoolOp_or (bH (ha pins s σ H _ I h) fun v s1 ⟨x,H1,I1,r1,q1⟩=>?_);obtain ⟨c,rfl,q1⟩:=q1;cases r1;refine wpAny_truthy_bool ?_
 cases c with
 | false=>exact hb pins s1 σ H1 Q I1 q1
 | true=>exact ⟨.bl true,H1,I1,rfl,q1⟩
end
def b9 (K:Frag) (H:Hp) (a:Addr) (xs:List V):Prop :=
 Rd H a (.lst xs) ∨
  ∃ (o:Obj) (its:Array Value) (n:Nat),K.lookup a=some o∧o.cls=.type "list"∧o.dict=none∧o.data=.seq its n∧its.size≤sizeLine∧aT xs its.toList
def cW (K:Frag) (H:Hp) (a:Addr) (xs:List V):Prop :=
 Rd H a (.tup xs) ∨
  ∃ (o:Obj) (its:Array Value) (n:Nat),K.lookup a=some o∧o.cls=.type "tuple"∧o.data=.seq its n∧its.size≤sizeLine∧aT xs its.toList
noncomputable def aDy:Value→Option V
 | .none=>some .non
 | .bool b=>some (.bl b)
 | .int i _=>some (.int i)
 | .str x _=>some (.str x)
 | .bytes b _=>some (.byt b)
 | .float b _=>some (.flt b)
 | .ref a=>some (.ref a)
 | .type n=>some (.ty n)
 | _=>none
theorem bC.abs {x:V} {u:Value} (r:bC x u):aDy u=some x:=by
 cases x with
 | non=>cases r; rfl
 | bl _=>cases r; rfl
 | int _=>obtain ⟨t,rfl⟩:=r; rfl
 | str _=>obtain ⟨t,rfl⟩:=r; rfl
 | byt _=>obtain ⟨t,rfl⟩:=r; rfl
 | flt _=>obtain ⟨t,rfl⟩:=r; rfl
 | ref _=>cases r; rfl
 | ty _=>cases r; rfl
theorem bC.inj {x y:V} {u:Value} (r:bC x u) (q:bC y u):x=y:=Option.some.inj (r.abs.symm.trans q.abs)
theorem aT.inj:∀ {xs ys:List V} {us:List Value},aT xs us→aT ys us→xs=ys
 | _,_,_,.nil,.nil=>rfl
 | _,_,_,.cons r t,.cons r' t'=>by rw [r.inj r',aT.inj t t']
section
variable {X:Cx} {pins:List (Addr × Obj)} {σ:St} {H:Hp} {s:Shared} {a:Addr} {xs ys:List V}
theorem b9.of {K:Frag} (h:H a=some (.lst xs)):b9 K H a xs:=.inl (.inl h)
theorem cW.of {K:Frag} (h:H a=some (.tup xs)):cW K H a xs:=.inl (.inl h)
theorem Inv.list (I:Inv X pins σ H s) (h:b9 X.K H a xs):∃ its:List Value,aT xs its∧PlainL s.heap a its.toArray∧xs.length≤sizeLine:=by
 rcases h with h | ⟨o,its,n,hk,hc,hd,hs,hz,r⟩
 ·obtain ⟨z,its,n,r,e⟩:=h.ok I.hok;exact ⟨its,r,⟨_,n,e,rfl,rfl,rfl⟩,z⟩
 ·refine ⟨its.toList,r,⟨o,n,I.kIn a o hk,hc,hd,by simpa using hs⟩, ?_⟩;have e:=r.length;simp only [Array.length_toList] at e;omega
theorem Inv.tuple (I:Inv X pins σ H s) (h:cW X.K H a xs):∃ its:List Value,aT xs its∧IsTup s.heap a its.toArray∧xs.length≤sizeLine:=by
 rcases h with h | ⟨o,its,n,hk,hc,hs,hz,r⟩
 ·obtain ⟨z,its,r,p⟩:=h.ok I.hok;exact ⟨its,r,p,z⟩
 ·refine ⟨its.toList,r,⟨o,I.kIn a o hk,hc,n,by simpa using hs⟩, ?_⟩;have e:=r.length;simp only [Array.length_toList] at e;omega
theorem Inv.list_inj (I:Inv X pins σ H s) (h:b9 X.K H a xs) (h':b9 X.K H a ys):xs=ys:=by
 obtain ⟨its,r,⟨o,n,e,_,_,d⟩,_⟩:=I.list h;obtain ⟨its',r',⟨o',n',e',_,_,d'⟩,_⟩:=I.list h';rw [e] at e'; cases e';rw [d] at d'
 injection d' with d1 _
 have:its=its':=by simpa using congrArg Array.toList d1
 subst this;exact r.inj r'
theorem Inv.tuple_inj (I:Inv X pins σ H s) (h:cW X.K H a xs) (h':cW X.K H a ys):xs=ys:=by
 obtain ⟨its,r,⟨o,e,_,n,d⟩,_⟩:=I.tuple h;obtain ⟨its',r',⟨o',e',_,n',d'⟩,_⟩:=I.tuple h';rw [e] at e'; cases e';rw [d] at d'
 injection d' with d1 _
 have:its=its':=by simpa using congrArg Array.toList d1
 subst this;exact r.inj r'
end
abbrev Cx.wish (X:Cx) (E:Value→Shared→Prop):Cx:={ X with xe:=E }
abbrev Cx.nox (X:Cx):Cx:=X.wish fun _ _=>False
theorem Cx.Ok.wish {X:Cx} (ok:X.Ok) (E:Value→Shared→Prop):(X.wish E).Ok :=
 ⟨ok.mod,ok.kind,ok.glob,ok.blt,ok.above,ok.inj,ok.has,ok.cab,ok.hd,ok.frames,ok.stk,ok.exf,ok.bs,ok.bsz,ok.noex,ok.exfs,ok.funs,ok.frf⟩
theorem Cx.Ok.unwish {X:Cx} {E:Value→Shared→Prop} (ok:(X.wish E).Ok):X.Ok :=
 ⟨ok.mod,ok.kind,ok.glob,ok.blt,ok.above,ok.inj,ok.has,ok.cab,ok.hd,ok.frames,ok.stk,ok.exf,ok.bs,ok.bsz,ok.noex,ok.exfs,ok.funs,ok.frf⟩
section
variable {X:Cx} {pins:List (Addr × Obj)} {σ:St} {H:Hp} {s:Shared} {E:Value→Shared→Prop}
theorem Inv.wish (I:Inv X pins σ H s) (E:Value→Shared→Prop):Inv (X.wish E) pins σ H s:=⟨I.ok.wish E,I.os,I.bare,I.base,I.loc,I.cell,I.free,I.freeC,I.pin,I.hok,I.len⟩
theorem Inv.unwish (I:Inv (X.wish E) pins σ H s):Inv X pins σ H s:=⟨I.ok.unwish,I.os,I.bare,I.base,I.loc,I.cell,I.free,I.freeC,I.pin,I.hok,I.len⟩
theorem SP.unwish {D:Ends} {f:Flow} {s':Shared} (h:SP (X.wish E) pins D f s'):SP X pins D f s':=by
 cases f with
 | next=>obtain ⟨σ',H',I,q⟩:=h; exact ⟨σ',H',I.unwish,q⟩
 | brk=>obtain ⟨σ',H',I,q⟩:=h; exact ⟨σ',H',I.unwish,q⟩
 | cont=>obtain ⟨σ',H',I,q⟩:=h; exact ⟨σ',H',I.unwish,q⟩
 | ret u=>obtain ⟨v,σ',H',I,r,q⟩:=h; exact ⟨v,σ',H',I.unwish,r,q⟩
theorem hW.nox {st:List Stmt} {t:TS} (h:hW X.nox st t):hW X st t:=fun pins s σ H D I hw =>
 wpAny_mono (h pins s σ H D (I.wish _) hw) (fun _ _ q=>q.unwish) fun _ _ z=>False.elim z
end
section
variable {X:Cx} {st:Stmt} {jA:List Stmt} {t u:TS} {e:Expr} {te:TE} {pos:Pos}
noncomputable def GA:TS:=fun D σ H=>D.nx σ H
noncomputable def aEp (t u:TS):TS:=fun D σ H=>t { D with nx:=u D } σ H
theorem E6:hW X [] GA:=fun _ _ σ H _ I h=>wpAny_execs_nil ⟨σ,H,I,h⟩
theorem BY (h1:PS X st t) (h2:hW X jA u):hW X (st :: jA) (aEp t u):=by
 intro pins s σ H D I h;refine wpAny_execs_cons (bH (h1 pins s σ H { D with nx:=u D } I h) fun f s1 q=>?_)
 cases f with
 | next =>
  obtain ⟨σ',H',I',q⟩:=q;exact h2 pins s1 σ' H' D I' q
 | ret v=>exact q
 | brk=>exact q
 | cont=>exact q
noncomputable def X6:TS:=fun D σ H=>D.bk σ H
noncomputable def aCT:TS:=fun D σ H=>D.ct σ H
theorem WN:PS X (.Pass pos) GA:=fun _ _ σ H _ I h=>wpAny_Pass ⟨σ,H,I,h⟩
theorem PV:PS X (.Break pos) X6:=fun _ _ σ H _ I h=>wpAny_Break ⟨σ,H,I,h⟩
theorem EC:PS X (.Continue pos) aCT:=fun _ _ σ H _ I h=>wpAny_Continue ⟨σ,H,I,h⟩
theorem Inv.quiet {pins:List (Addr × Obj)} {σ:St} {H:Hp} {s:Shared} (I:Inv X pins σ H s):interactive X.env=false:=by simp [interactive,I.ok.kind]
noncomputable def aCs (te:TE):TS:=fun D σ H=>te σ H fun _ H1=>D.nx σ H1
theorem WV (he:PE X e te) (hs:swapsWith e none pos.line X.env=pure false:=by rfl):PS X (.Expr e pos) (aCs te):=by
 intro pins s σ H D I h;exact wpAny_Expr_any (bH (he pins s σ H _ I h) fun v s1 ⟨x,H1,I1,r1,q1⟩=>⟨σ,H1,I1,q1⟩) I.quiet hs
noncomputable def aDJ (te:TE):TS:=fun D σ H=>te σ H D.rt
theorem ME (he:PE X e te):PS X (.Return (some e) pos) (aDJ te):=by
 intro pins s σ H D I h;exact wpAny_Return_some (bH (he pins s σ H _ I h) fun v s1 ⟨x,H1,I1,r1,q1⟩=>⟨x,σ,H1,I1,r1,q1⟩)
noncomputable def aCA:TS:=fun D _ H=>D.rt .non H
theorem TJ:PS X (.Return none pos) aCA:=fun _ _ σ H _ I h=>wpAny_Return_none ⟨.non,σ,H,I,rfl,h⟩
noncomputable def aEu (c:TT) (t u:TS):TS:=fun D σ H=>c σ H fun b H1=>if b=true then t D σ H1 else u D σ H1
theorem aBN {c:Expr} {a b:List Stmt} {tc:TT} (hc:PT X c tc) (ha:hW X a t) (hb:hW X b u):PS X (.If c a b pos) (aEu tc t u):=by
 intro pins s σ H D I h;refine wpAny_If (bH (hc pins s σ H _ I h) fun d s1 ⟨H1,I1,q1⟩=>?_)
 cases d with
 | true=>exact ha pins s1 σ H1 D I1 q1
 | false=>exact hb pins s1 σ H1 D I1 q1
end
abbrev TG:=V→St→Hp→(St→Hp→Prop)→Prop
abbrev uH:=List V→St→Hp→(St→Hp→Prop)→Prop
def PG (X:Cx) (target:Expr) (t:TG):Prop :=
 ∀ (pins:List (Addr × Obj)) (s:Shared) (σ:St) (H:Hp) (v:V) (u:Value) (Q:St→Hp→Prop),Inv X pins σ H s→bC v u→t v σ H Q →
  wpAny (model X.prog X.w) X.A (assign target X.env u) (fun _ s'=>∃ σ' H',Inv X pins σ' H' s'∧Q σ' H') X.xe s
def uJ (X:Cx) (ts:List Expr) (t:uH):Prop :=
 ∀ (pins:List (Addr × Obj)) (s:Shared) (σ:St) (H:Hp) (vs:List V) (us:List Value) (Q:St→Hp→Prop),Inv X pins σ H s→aT vs us→t vs σ H Q →
  wpAny (model X.prog X.w) X.A (assignInOrder ((assignEach ts X.env).map (·.2)) us) (fun _ s'=>∃ σ' H',Inv X pins σ' H' s'∧Q σ' H') X.xe s
abbrev C4:=V→V→V→Hp→(Hp→Prop)→Prop
def QH (X:Cx) (t:C4):Prop :=
 ∀ (pins:List (Addr × Obj)) (s:Shared) (σ:St) (H:Hp) (o i v:V) (ov iv u:Value) (Q:Hp→Prop),Inv X pins σ H s→bC o ov→bC i iv→bC v u→t o i v H Q →
  wpAny (model X.prog X.w) X.A (setItem ov iv u) (fun _ s'=>∃ H',Inv X pins σ H' s'∧Q H') X.xe s
section
variable {X:Cx} {pos:Pos}
noncomputable def tN (i:Nat):TG:=fun v σ H Q=>Q (σ.set i (some v)) H
theorem F9 {i:Nat} {x:Str} (hN:X.N.Nodup) (hi:X.N[i]?=some x) (hx:y8 X.env.scope x) (hf:X.fn x=true∨X.env.scope.names.lookup x=some .local:=by first | exact .inl rfl | exact .inr rfl | assumption):PG X (.Name x pos) (tN i):=by
 intro pins s σ H v u Q I r h;exact wpAny_assign_Name (NI I hN hi hx r (fun s' I'=>⟨_,H,I',h⟩) hf)
noncomputable def aD4:uH:=fun vs σ H Q=>vs=[]∧Q σ H
noncomputable def aCk (t:TG) (u:uH):uH:=fun vs σ H Q=>∃ v r,vs=v :: r∧t v σ H fun σ' H'=>u r σ' H' Q
theorem SW:uJ X [] aD4:=by
 intro pins s σ H vs us Q I r h;obtain ⟨e,h⟩:=h;subst e;cases r;exact assignInOrder_nil ⟨σ,H,I,h⟩
theorem PJ {e:Expr} {es:List Expr} {t:TG} {u:uH} (h1:PG X e t) (h2:uJ X es u)
  (hs:(assignEach (e :: es) X.env).map (·.2)=assign e X.env :: (assignEach es X.env).map (·.2):=by rfl):uJ X (e :: es) (aCk t u):=by
 intro pins s σ H vs us Q I r h;obtain ⟨v,vr,e1,h⟩:=h;subst e1
 cases r with
 | cons r rr =>
  rw [hs];refine assignInOrder_cons (bH (h1 pins s σ H _ _ _ I r h) fun _ s1 ⟨σ1,H1,I1,q1⟩=>?_);exact h2 pins s1 σ1 H1 _ _ Q I1 rr q1
noncomputable def aDO (K:Frag) (n:Nat) (t:uH):TG:=fun v σ H Q=>∃ a xs,v=.ref a∧cW K H a xs∧xs.length=n∧t xs σ H Q
theorem aAt {es:List Expr} {k:Nat} {t:uH} {n:Nat} (hc:X.calm=true) (h:uJ X es t)
  (hn:(assignEach es X.env).length=n:=by rfl) (hst:(assignEach es X.env).findIdx? (·.1)=none:=by rfl):PG X (.Tuple es k pos) (aDO X.K n t):=by
 intro pins s σ H v u Q I r hw;obtain ⟨a,xs,e1,hq,hl,hw⟩:=hw;subst e1;cases r;obtain ⟨its,rv,ht,hz⟩:=I.tuple hq;refine assign_Tuple_tuple (I.ok.hd hc) ht (by simp [hn,← hl,rv.length]) hst fun h' hx=>?_
 have I1:Inv X pins σ H { s with heap:=h' }:=I.kept (t':=s.toks) fun b o e=>hx b o (Zz (Zv e)) e
 exact h pins _ σ H xs _ Q I1 (by simpa using rv) hw
noncomputable def aD8 (to ti:TE) (t:C4):TG:=fun v σ H Q=>to σ H fun o H1=>ti σ H1 fun i H2=>t o i v H2 fun H3=>Q σ H3
theorem ZP {o i:Expr} {to ti:TE} {t:C4} (ho:PE X o to) (hi:PE X i ti) (hs:QH X t)
  (ha:∀ v,assign (.Subscript o i pos) X.env v=(do
   let ov ← holding [v] (eval o X.env)
   let iv ← holding [v,ov] (eval i X.env)
   standAt pos
   holding [v,ov,iv] (setItem ov iv v)
   release [v,ov,iv] []):=by intro _; rfl):PG X (.Subscript o i pos) (aD8 to ti t):=by
 intro pins s σ H v u Q I r h;rw [ha];refine Zt (wpAny_holding (bH (ho pins s σ H _ I h) fun ov s1 ⟨x,H1,I1,r1,q1⟩=>?_));refine Zt (wpAny_holding (bH (hi pins s1 σ H1 _ I1 q1) fun iv s2 ⟨y,H2,I2,r2,q2⟩=>?_));refine Zt (wpAny_standAt (Zt (wpAny_holding (bH (hs pins s2 σ H2 x y v ov iv u _ I2 r1 r2 r q2) fun _ s3 ⟨H3,I3,q3⟩=>?_))));exact wpAny_release ⟨σ,H3,I3,q3⟩
noncomputable def OP (te:TE) (g:TG):TS:=fun D σ H=>te σ H fun x H1=>g x σ H1 D.nx
theorem wB {tg e:Expr} {te:TE} {g:TG} (he:PE X e te) (hg:PG X tg g) (hs:swapsWithSole [tg] e pos.line X.env=pure false:=by rfl) (hw:swappedStores [tg] e X.env=pure none:=by rfl)
  (h1:(assignEach [tg] X.env).map (·.2)=[assign tg X.env]:=by rfl):PS X (.Assign [tg] e pos) (OP te g):=by
 intro pins s σ H D I h;refine wpAny_Assign_stores (bH (he pins s σ H _ I h) fun v s1 ⟨x,H1,I1,r1,q1⟩=>?_) hs hw;rw [h1];exact bH (hg pins s1 σ H1 x v _ I1 r1 q1) fun _ s2 q=>q
end
section
variable {X:Cx} {pos:Pos}
end
structure It where
 go:Nat→Hp→Prop
 yld:Nat→Hp→V→Hp→Prop
 stop:Nat→Hp→Prop
def jG (X:Cx) (pins:List (Addr × Obj)) (H:Hp) (b:Addr):Prop :=
 H b=none∧b≠X.env.locals∧b ∉ X.fs∧(b∈X.ex∨X.s₀.heap.get? b=none)∧(∀ x c,X.env.cells.lookup x=some c→c≠b)∧∀ p∈X.pn ++ pins,p.1≠b
theorem Inv.fpOk {X:Cx} {pins:List (Addr × Obj)} {σ:St} {H H':Hp} {s:Shared} {b:Addr} (I:Inv X pins σ H s) (hb:s.heap.objs.size≤b) (hn:H' b=none):jG X pins H' b:=by
 refine ⟨hn,Nat.ne_of_gt (Zl I.lt hb),I.nofs hb,.inr (Heap.get?_none_of_le (Zr I.sz hb)),fun x c e z=>?_,fun p hp z=>?_⟩
 ·obtain ⟨v,q⟩:=I.cell x c e;exact absurd (Zl q.lt (by rw [z]; exact hb)) (Nat.lt_irrefl _)
 ·exact absurd (Zl (Zv (I.pin p hp).1) (by rw [z]; exact hb)) (Nat.lt_irrefl _)
structure Turn (P:Program) (w:World) (K:Frag) (tg:Expr) (J:It) (fp:List Addr) (it:Addr) (tn:Nat→Heap→Prop):Prop where
 mem:it∈fp
 obj:∀ i h,tn i h→∀ b∈fp,∃ o,h.get? b=some o∧∀ v,o.data≠.cell v
 keep:∀ i h h',tn i h→(∀ b∈fp,∀ o,h.get? b=some o→h'.get? b=some o)→tn i h'
 item:∀ (X:Cx),X.prog=P→X.w=w→X.K=K→X.calm=true→∀ (i:Nat) (pins:List (Addr × Obj)) (s:Shared) (σ:St) (H:Hp) (E:Value→Shared→Prop),Inv X pins σ H s→(∀ b∈fp,jG X pins H b)→tn i s.heap→J.go i H →
  wpAny (model P w) X.A (pyNext (.ref it)) (fun r s1=>∃ u,r=some u ∧
   wpAny (model P w) X.A (letOwnedTupleGo tg (.ref it) u) (fun _ s2=>∃ x H',Inv X pins σ H' s2∧bC x u∧J.yld i H x H'∧tn (i+1) s2.heap∧∀ b∈fp,H' b=none) E s1) E s
 done:∀ (X:Cx),X.prog=P→X.w=w→X.K=K→X.calm=true→∀ (i:Nat) (pins:List (Addr × Obj)) (s:Shared) (σ:St) (H:Hp) (E:Value→Shared→Prop),Inv X pins σ H s→(∀ b∈fp,jG X pins H b)→tn i s.heap→J.stop i H →
  wpAny (model P w) X.A (pyNext (.ref it)) (fun r s1=>r=none∧Inv X pins σ H s1) E s
 self:∀ (A:Around) (i:Nat) (s:Shared) (Q:Value→Shared→Prop) (E:Value→Shared→Prop),tn i s.heap→Q (.ref it) s→wpAny (model P w) A (pyIter (.ref it)) Q E s
abbrev TI:=St→Hp→(It→Hp→Prop)→Prop
def PIE (X:Cx) (pins:List (Addr × Obj)) (σ:St) (tg:Expr) (R:It→Hp→Prop) (itv:Value) (s2:Shared):Prop :=
 ∃ (it:Addr) (fp:List Addr) (tn:Nat→Heap→Prop) (J:It) (H':Hp),itv=.ref it∧Inv X pins σ H' s2∧Turn X.prog X.w X.K tg J fp it tn∧tn 0 s2.heap∧(∀ b∈fp,jG X pins H' b)∧R J H'
def PI (X:Cx) (tg iter:Expr) (wi:TI):Prop :=
 ∀ (pins:List (Addr × Obj)) (s:Shared) (σ:St) (H:Hp) (R:It→Hp→Prop),Inv X pins σ H s→wi σ H R →
  wpAny (model X.prog X.w) X.A (eval iter X.env) (fun v s1=>wpAny (model X.prog X.w) X.A (pyIter v) (PIE X pins σ tg R) X.xe s1) X.xe s
theorem HN {M:Model} {A:Around} {E:Value→Shared→Prop} {s:Shared} {tg:Expr} {it:Addr} {u:Value} {o:Obj} {n:String} {vs:Array Value} {Q:Unit→Shared→Prop} (ho:s.heap.get? it=some o) (hc:o.cls=.type n) (hd:o.data=.fields vs)
  (hn:["enumerate","zip","dict_itemiterator","dict_reverseitemiterator","odict_iterator","itertools.zip_longest","itertools.pairwise"].contains n=false) (hQ:Q () s):wpAny M A (letOwnedTupleGo tg (.ref it) u) Q E s:=by
 unfold letOwnedTupleGo
 cases tg <;> first
  | exact Zu hQ
  | (cases u <;> first
    | exact Zu hQ
    | (refine Zt (wpAny_load ho ?_)
       rw [hc,hd];show wpAny M A (if (["enumerate","zip","dict_itemiterator","dict_reverseitemiterator","odict_iterator","itertools.zip_longest","itertools.pairwise"].contains n && vs[0]? == some (rawInt _))=true then _ else _) Q E s;rw [Zp (by intro h; rw [hn,Bool.false_and] at h; cases h)]
       exact Zu hQ))
noncomputable def rD (K:Frag) (a:Addr):It :=
 ⟨fun i H=>∃ xs x,b9 K H a xs∧xs[i]?=some x,fun i H x H'=>H'=H∧∀ xs,b9 K H a xs→xs[i]?=some x,fun i H=>∃ xs,b9 K H a xs∧xs.length≤i⟩
noncomputable def qZ (K:Frag) (a:Addr):It :=
 ⟨fun i H=>∃ xs x,cW K H a xs∧xs[i]?=some x,fun i H x H'=>H'=H∧∀ xs,cW K H a xs→xs[i]?=some x,fun i H=>∃ xs,cW K H a xs∧xs.length≤i⟩
noncomputable def nA (lo:Int) (n:Nat):It:=⟨fun i _=>i<n,fun i H x H'=>H'=H∧x=.int (lo+i),fun i _=>n≤i⟩
theorem JX {P:Program} {w:World} {K:Frag} {tg:Expr} (a it:Addr):Turn P w K tg (rD K a) [it] it (fun i h=>h.IsListIter it a i) where
 mem:=by simp
 obj:=fun i h st b hb=>by
  have e:b=it:=by simpa using hb
  subst e;obtain ⟨o,e,c,d⟩:=st;exact ⟨o,e,fun v z=>by rw [d] at z; cases z⟩
 keep:=fun i h h' st k=>st.at fun o e=>k it (by simp) o e
 item:=by
  intro X hP hw hK hc i pins s σ H E I hf st hg;subst hP hw hK;obtain ⟨xs,x,hq,hx⟩:=hg;obtain ⟨its,rv,p,hz⟩:=I.list hq;obtain ⟨u,hu,ru⟩:=rv.get hx;obtain ⟨f0,f1,f2,f3,f4,f5⟩:=hf it (by simp);refine wpAny_pyNext_list_item st p.isList (x:=u) (by simpa using hu) fun h' st' sb=>?_
  have I1:Inv X pins σ H { s with heap:=h' }:=I.turned (t':=s.toks) (fun b o hb e=>(sb.2 b hb).trans e) f0 f1 f3 f4 f5;obtain ⟨o,e,c,d⟩:=id st';exact ⟨u,rfl,HN (s:={ s with heap:=h' }) e c d (by decide) ⟨x,H,I1,ru,⟨rfl,fun ys hy=>by rw [I.list_inj hy hq]; exact hx⟩,st',fun b hb=>(hf b hb).1⟩⟩
 done:=by
  intro X hP hw hK hc i pins s σ H E I hf st hg;subst hP hw hK;obtain ⟨xs,hq,hx⟩:=hg;obtain ⟨its,rv,p,hz⟩:=I.list hq;obtain ⟨f0,f1,f2,f3,f4,f5⟩:=hf it (by simp);have hl:=rv.length;exact wpAny_pyNext_list_end (I.ok.hd hc) st p.isList (by simp; omega) fun h' eb=>⟨rfl,I.turned (t':=s.toks) (fun b o hb e=>eb b o hb e) f0 f1 f3 f4 f5⟩
 self:=fun _ _ _ _ _ st h=>wpAny_pyIter_listiter st h
theorem HF {P:Program} {w:World} {K:Frag} {tg:Expr} (a it:Addr):Turn P w K tg (qZ K a) [it] it (fun i h=>h.IsTupleIter it a i) where
 mem:=by simp
 obj:=fun i h st b hb=>by
  have e:b=it:=by simpa using hb
  subst e;obtain ⟨o,e,c,d⟩:=st;exact ⟨o,e,fun v z=>by rw [d] at z; cases z⟩
 keep:=fun i h h' st k=>st.at fun o e=>k it (by simp) o e
 item:=by
  intro X hP hw hK hc i pins s σ H E I hf st hg;subst hP hw hK;obtain ⟨xs,x,hq,hx⟩:=hg;obtain ⟨its,rv,p,hz⟩:=I.tuple hq;obtain ⟨u,hu,ru⟩:=rv.get hx;obtain ⟨f0,f1,f2,f3,f4,f5⟩:=hf it (by simp);refine wpAny_pyNext_tuple_item st (show s.heap.IsTuple a its.toArray from p) (x:=u) (by simpa using hu) fun h' st' sb=>?_
  have I1:Inv X pins σ H { s with heap:=h' }:=I.turned (t':=s.toks) (fun b o hb e=>(sb.2 b hb).trans e) f0 f1 f3 f4 f5;obtain ⟨o,e,c,d⟩:=id st';exact ⟨u,rfl,HN (s:={ s with heap:=h' }) e c d (by decide) ⟨x,H,I1,ru,⟨rfl,fun ys hy=>by rw [I.tuple_inj hy hq]; exact hx⟩,st',fun b hb=>(hf b hb).1⟩⟩
 done:=by
  intro X hP hw hK hc i pins s σ H E I hf st hg;subst hP hw hK;obtain ⟨xs,hq,hx⟩:=hg;obtain ⟨its,rv,p,hz⟩:=I.tuple hq;obtain ⟨f0,f1,f2,f3,f4,f5⟩:=hf it (by simp);have hl:=rv.length;exact wpAny_pyNext_tuple_end (I.ok.hd hc) st (show s.heap.IsTuple a its.toArray from p) (by simp; omega) fun h' eb=>⟨rfl,I.turned (t':=s.toks) (fun b o hb e=>eb b o hb e) f0 f1 f3 f4 f5⟩
 self:=fun _ _ _ _ _ st h=>wpAny_pyIter_tupleiter st h
theorem GB {P:Program} {w:World} {K:Frag} {tg:Expr} (it:Addr) (lo:Int) (n:Nat):Turn P w K tg (nA lo n) [it] it (fun i h=>IsRangeIter h it (lo+(i:Nat)*1) ((n:Int) - (i:Nat)) 1) where
 mem:=by simp
 obj:=fun i h st b hb=>by
  have e:b=it:=by simpa using hb
  subst e
  exact ⟨_,st,fun v z=>by
   have z':Data.fields _=Data.cell v:=z
   cases z'⟩
 keep:=fun i h h' st k=>k it (by simp) _ st
 item:=by
  intro X hP hw hK hc i pins s σ H E I hf st hg;subst hP hw hK;obtain ⟨f0,f1,f2,f3,f4,f5⟩:=hf it (by simp);have W:=Walks.range (prog:=X.prog) (w:=X.w) (I.ok.hd hc) it lo 1 n;refine W.item i s _ _ hg st fun v h' tk hv st' kk=>?_
  obtain ⟨t,rfl⟩:=hv;have I1:Inv X pins σ H { s with heap:=h',toks:=tk }:=I.turned (fun b o hb e=>kk b o (by simpa using hb) e) f0 f1 f3 f4 f5;refine ⟨_,rfl,HN (s:={ s with heap:=h',toks:=tk }) (n:="range_iterator") st' rfl rfl (by decide) ⟨.int (lo+i),H,I1,⟨t, ?_⟩,⟨rfl,rfl⟩,st',fun b hb=>(hf b hb).1⟩⟩;rw [Int.mul_one]
 done:=by
  intro X hP hw hK hc i pins s σ H E I hf st hg;subst hP hw hK;obtain ⟨f0,f1,f2,f3,f4,f5⟩:=hf it (by simp);exact wpAny_pyNext_range_end (I.ok.hd hc) st (by have:n≤i:=hg; omega) fun h' eb=>⟨rfl,I.turned (t':=s.toks) (fun b o hb e=>eb b o hb e) f0 f1 f3 f4 f5⟩
 self:=fun _ _ _ _ _ st h=>wpAny_pyIter_rangeiter st h
section
variable {X:Cx} {tg:Expr}
noncomputable def RO (K:Frag) (tl:TE):TI:=fun σ H R=>tl σ H fun x H1=>∃ a,x=.ref a∧(∃ xs,b9 K H1 a xs)∧R (rD K a) H1
noncomputable def WX (K:Frag) (tl:TE):TI:=fun σ H R=>tl σ H fun x H1=>∃ a,x=.ref a∧(∃ xs,cW K H1 a xs)∧R (qZ K a) H1
theorem FQ {l:Expr} {tl:TE} (hl:PE X l tl):PI X tg l (RO X.K tl):=by
 intro pins s σ H R I h;refine bH (hl pins s σ H _ I h) fun v s1 ⟨x,H1,I1,r1,q1⟩=>?_
 obtain ⟨a,e,⟨xs,hq⟩,q⟩:=q1;subst e;cases r1;obtain ⟨its,rv,p,hz⟩:=I1.list hq;refine wpAny_pyIter_list p.isList ?_;refine ⟨s1.heap.objs.size,[s1.heap.objs.size],_,_,H1,rfl,I1.kept (t':=s1.toks) fun b o e=>Zd _ e,JX a _,⟨_,Zw _ rfl,rfl,rfl⟩,fun b hb=>?_,q⟩;have e:b=s1.heap.objs.size:=by simpa using hb
 subst e;exact I1.fpOk (Zq _) (I1.hok.fresh (Zq _))
theorem K8 {l:Expr} {tl:TE} (hl:PE X l tl):PI X tg l (WX X.K tl):=by
 intro pins s σ H R I h;refine bH (hl pins s σ H _ I h) fun v s1 ⟨x,H1,I1,r1,q1⟩=>?_
 obtain ⟨a,e,⟨xs,hq⟩,q⟩:=q1;subst e;cases r1;obtain ⟨its,rv,p,hz⟩:=I1.tuple hq;refine wpAny_pyIter_tuple (show s1.heap.IsTuple a its.toArray from p) ?_;refine ⟨s1.heap.objs.size,[s1.heap.objs.size],_,_,H1,rfl,I1.kept (t':=s1.toks) fun b o e=>Zd _ e,HF a _,⟨_,Zw _ rfl,rfl,rfl⟩,fun b hb=>?_,q⟩;have e:b=s1.heap.objs.size:=by simpa using hb
 subst e;exact I1.fpOk (Zq _) (I1.hok.fresh (Zq _))
theorem B6 {pins:List (Addr × Obj)} {σ:St} {H:Hp} {s:Shared} {R:It→Hp→Prop} {E:Value→Shared→Prop} {lo hi:Int} {t u v:Tok} {tk:Nat} (I:Inv X pins σ H s) (h1:-(2 ^ 62)≤lo) (h2:lo<2 ^ 62) (h3:-(2 ^ 62)≤hi) (h4:hi<2 ^ 62)
  (q:R (nA lo (hi - lo).toNat) H):wpAny (model X.prog X.w) X.A (pyIter (.ref s.heap.objs.size)) (PIE X pins σ tg R) E { s with heap:=s.heap.push { cls:=.type "range",data:=.fields #[.int lo t,.int hi u,.int 1 v] },toks:=tk }:=by
 refine wpAny_pyIter_range (IsRange.new ..) (small_one h1 h2 h3 h4) ?_;have I1:Inv X pins σ H { s with heap:=s.heap.push { cls:=.type "range",data:=.fields #[.int lo t,.int hi u,.int 1 v] },toks:=tk }:=I.kept fun b o e=>Zd _ e
 refine ⟨(s.heap.push { cls:=.type "range",data:=.fields #[.int lo t,.int hi u,.int 1 v] }).objs.size,[(s.heap.push { cls:=.type "range",data:=.fields #[.int lo t,.int hi u,.int 1 v] }).objs.size],_,_,H,rfl,
  I1.kept (t':=tk) fun b o e=>Zd _ e,GB _ lo (hi - lo).toNat, ?_,fun b hb=>?_,q⟩
 ·have e1:lo+((0:Nat):Int)*1=lo:=by simp
  have e2:(((hi - lo).toNat:Nat):Int) - ((0:Nat):Int)=Builtin.Range.rangeSize lo hi 1:=by rw [rangeSize_one]; split <;> omega
  show IsRangeIter _ _ (lo+((0:Nat):Int)*1) ((((hi - lo).toNat:Nat):Int) - ((0:Nat):Int)) 1;rw [e1,e2];exact Zw _ rfl
 ·have e:b=(s.heap.push { cls:=.type "range",data:=.fields #[.int lo t,.int hi u,.int 1 v] }).objs.size:=by simpa using hb
  subst e;exact I1.fpOk (Zq _) (I1.hok.fresh (Zq _))
noncomputable def QQ (ta:TA):TI:=fun σ H R=>ta σ H fun vs H1=>∃ j:Int,vs=[.int j]∧-(2 ^ 62)≤j∧j<2 ^ 62∧R (nA 0 j.toNat) H1
noncomputable def QY (ta:TA):TI:=fun σ H R=>ta σ H fun vs H1=>∃ i j:Int,vs=[.int i,.int j]∧(-(2 ^ 62)≤i∧i<2 ^ 62∧-(2 ^ 62)≤j∧j<2 ^ 62)∧R (nA i (j - i).toNat) H1
theorem AD {a:Expr} {ta:TA} {p pos:Pos} (hg:Gl X "range") (hm:X.mg "range"=none) (ha:PA X [a] ta) (hs:starEach [a] X.env=[(false,eval a X.env)]:=by rfl):PI X tg (.Call (.Name "range" p) [a] [] pos) (QQ ta):=by
 intro pins s σ H R I h;refine Call_ (l8 I hg hm boot_range (PyProof.Rows.callWith_type1 (bH (ha pos pins s σ H _ I h) fun us s1 ⟨vs,H1,I1,r1,q1⟩=>?_) hs rfl));obtain ⟨j,e,q1,q2,q⟩:=q1;subst e
 cases r1 with
 | cons r rr =>
  cases rr;obtain ⟨t,rfl⟩:=r;exact call_range_1 (B6 I1 (by omega) (by omega) q1 q2 (by simpa using q))
theorem AI {a b:Expr} {ta:TA} {p pos:Pos} (hg:Gl X "range") (hm:X.mg "range"=none) (ha:PA X [a,b] ta) (hs:starEach [a,b] X.env=[(false,eval a X.env),(false,eval b X.env)]:=by rfl) (hs2:starEach [b] X.env=[(false,eval b X.env)]:=by rfl) :
  PI X tg (.Call (.Name "range" p) [a,b] [] pos) (QY ta):=by
 intro pins s σ H R I h;refine Call_ (l8 I hg hm boot_range (PyProof.Rows.callWith_type1 (bH (ha pos pins s σ H _ I h) fun us s1 ⟨vs,H1,I1,r1,q1⟩=>?_) (by rw [hs,hs2]) (by rw [hs2]; rfl)));obtain ⟨i,j,e,⟨q1,q2,q3,q4⟩,q⟩:=q1;subst e
 cases r1 with
 | cons r rr =>
  cases rr with
  | cons r' rr =>
   cases rr;obtain ⟨t,rfl⟩:=r;obtain ⟨t',rfl⟩:=r';exact call_range_2 (B6 I1 q1 q2 q3 q4 q)
noncomputable def aDZ (wi:TI) (g:TG) (tb:TS):TS:=fun D σ H=>wi σ H fun J H1=>∃ W:Nat→Nat→St→Hp→Prop,(∃ m,W 0 m σ H1)∧∀ i m σ H,W i m σ H →
 (J.stop i H∧D.nx σ H)∨(J.go i H∧∃ N:St→Hp→Prop,(∀ σ' H',N σ' H'→∃ m',m'<m∧W (i+1) m' σ' H')∧∀ x H',J.yld i H x H'→g x σ H' fun σ2 H2=>tb { D with nx:=N,ct:=N,bk:=D.nx } σ2 H2)
noncomputable def sN (fp:List Addr) (h:Heap):List (Addr × Obj):=fp.filterMap fun b=>(h.get? b).map fun o=>(b,o)
theorem lQ {fp:List Addr} {h:Heap} {b:Addr} {o:Obj} (hb:b∈fp) (e:h.get? b=some o):(b,o)∈sN fp h:=List.mem_filterMap.mpr ⟨b,hb,by rw [e]; rfl⟩
theorem K7 {fp:List Addr} {h:Heap} {p:Addr × Obj} (hp:p∈sN fp h):p.1∈fp∧h.get? p.1=some p.2:=by
 obtain ⟨b,hb,e⟩:=List.mem_filterMap.mp hp
 cases q:h.get? b with
 | none=>rw [q] at e; cases e
 | some o =>
  rw [q] at e;have e':(b,o)=p:=Option.some.inj e;subst e';exact ⟨hb,q⟩
theorem Inv.pinned {pins:List (Addr × Obj)} {σ:St} {H:Hp} {s:Shared} {fp:List Addr} (I:Inv X pins σ H s) (hf:∀ b∈fp,jG X pins H b) (ho:∀ b∈fp,∃ o,s.heap.get? b=some o∧∀ v,o.data≠.cell v):Inv X (pins ++ sN fp s.heap) σ H s :=
 I.pins_of fun p hp=>(zo.mp hp).elim (fun z=>I.pin p (List.mem_append_right _ z)) fun z=>by
  obtain ⟨hb,e⟩:=K7 z;obtain ⟨f0,f1,f2,_⟩:=hf p.1 hb;obtain ⟨o,e',d⟩:=ho p.1 hb;rw [e] at e'; cases e';exact ⟨e,f0,f1,f2,d⟩
theorem Inv.unpinned {pins pl:List (Addr × Obj)} {σ:St} {H:Hp} {s:Shared} (I:Inv X (pins ++ pl) σ H s):Inv X pins σ H s:=I.pins_of fun p hp=>I.pin p (List.mem_append_right _ (List.mem_append_left _ hp))
theorem XT {iter:Expr} {body:List Stmt} {wi:TI} {g:TG} {tb:TS} {pos:Pos} (hp:PassesOwn (model X.prog X.w) X.A X.env X.xe) (hc:X.calm=true) (hi:PI X tg iter wi) (hg:PG X tg g) (hb:hW X body tb)
  (hs:∀ x,foldedSetIterable iter X.env x=pure x:=by intro _; rfl):PS X (.For tg iter body [] pos) (aDZ wi g tb):=by
 intro pins s σ H D I h;refine wpAny_For (bH (hi pins s σ H _ I h) fun v s1 h1=>bH h1 fun itv s2 h2=>?_) hs;obtain ⟨it,fp,tn,J,H2,e,I2,T,st2,f2,W,⟨m0,w0⟩,turn⟩:=h2;subst e
 -- what stays true of the iterator's objects through the loop
 have stat:∀ {H':Hp},(∀ b∈fp,H' b=none)→∀ b∈fp,jG X pins H' b:=fun hn b hb=>⟨hn b hb,(f2 b hb).2⟩
 refine codeAny_forLoop_any (fun n s'=>∃ i σ' H',Inv X pins σ' H' s'∧tn i s'.heap∧(∀ b∈fp,H' b=none)∧W i n σ' H') ?_ m0 ⟨0,σ,H2,I2,st2,fun b hb=>(f2 b hb).1,w0⟩
 rintro n s3 ⟨i,σ3,H3,I3,st3,fr3,w3⟩
 rcases turn i n σ3 H3 w3 with ⟨stop,qn⟩ | ⟨go,N,hN,step⟩
 ·refine wpAny_passesOwn hp (bH (T.done X rfl rfl rfl hc i pins s3 σ3 H3 X.xe I3 (stat fr3) st3 stop) fun r s4 ⟨hr,I4⟩=>?_);subst hr;exact wpAny_execs_nil ⟨σ3,H3,I4,qn⟩
 ·refine wpAny_passesOwn hp (bH (T.item X rfl rfl rfl hc i pins s3 σ3 H3 X.xe I3 (stat fr3) st3 go) fun r s4 ⟨u,hr,h4⟩=>?_);subst hr;refine wpAny_passesOwn hp (bH h4 fun _ s5 ⟨x,H5,I5,r5,y5,st5,fr5⟩=>?_);have I5':=I5.pinned (stat fr5) (T.obj _ _ st5);refine wpAny_passesOwn hp (bH (hg _ s5 σ3 H5 x u _ I5' r5 (step x H5 y5)) fun _ s6 ⟨σ6,H6,I6,q6⟩=>?_);refine wpAny_passesOwn hp (bH (hb _ s6 σ6 H6 _ I6 q6) fun f s7 q7=>?_)
  have again:∀ {σ7:St} {H7:Hp},Inv X (pins ++ sN fp s5.heap) σ7 H7 s7→N σ7 H7→∃ m,m<n∧∃ i σ' H',Inv X pins σ' H' s7∧tn i s7.heap∧(∀ b∈fp,H' b=none)∧W i m σ' H':=fun {σ7 H7} I7 n7=>by
   obtain ⟨m',hm,w7⟩:=hN σ7 H7 n7;refine ⟨m',hm,i+1,σ7,H7,I7.unpinned,T.keep _ _ _ st5 fun b hb o e=>(I7.pin (b,o) (List.mem_append_right _ (List.mem_append_right _ (lQ hb e)))).1,fun b hb=>?_,w7⟩;obtain ⟨o,e,d⟩:=T.obj _ _ st5 b hb;exact (I7.pin (b,o) (List.mem_append_right _ (List.mem_append_right _ (lQ hb e)))).2.1
  cases f with
  | next=>obtain ⟨σ7,H7,I7,n7⟩:=q7; exact again I7 n7
  | cont=>obtain ⟨σ7,H7,I7,n7⟩:=q7; exact again I7 n7
  | brk=>obtain ⟨σ7,H7,I7,q7⟩:=q7; exact ⟨σ7,H7,I7.unpinned,q7⟩
  | ret v=>obtain ⟨x7,σ7,H7,I7,r7,q7⟩:=q7; exact ⟨x7,σ7,H7,I7.unpinned,r7,q7⟩
end
theorem PF {K:Frag} {a:Addr} {xs:List V} {g:TG} {tb:TS} {D:Ends} {σ:St} {H:Hp} (Pv:Nat→St→Hp→Prop) (h0:Pv 0 σ H) (hl:∀ i σ H,i≤xs.length→Pv i σ H→b9 K H a xs)
  (hs:∀ i x σ H,xs[i]?=some x→Pv i σ H→g x σ H fun σ2 H2=>tb { D with nx:=Pv (i+1),ct:=Pv (i+1),bk:=D.nx } σ2 H2) (hd:∀ σ H,Pv xs.length σ H→D.nx σ H) :
  ∃ W:Nat→Nat→St→Hp→Prop,(∃ m,W 0 m σ H)∧∀ i m σ H,W i m σ H →
   ((rD K a).stop i H∧D.nx σ H)∨((rD K a).go i H∧∃ N:St→Hp→Prop,(∀ σ' H',N σ' H'→∃ m',m'<m∧W (i+1) m' σ' H')∧∀ x H',(rD K a).yld i H x H'→g x σ H' fun σ2 H2=>tb { D with nx:=N,ct:=N,bk:=D.nx } σ2 H2):=by
 refine ⟨fun i m σ H=>m=xs.length - i∧i≤xs.length∧Pv i σ H,⟨xs.length,by simp,Nat.zero_le _,h0⟩, ?_⟩
 rintro i m σ H ⟨rfl,hi,p⟩
 have q:=hl i σ H hi p;by_cases hlt:i<xs.length
 ·refine .inr ⟨⟨xs,xs[i],q,by simp [hlt]⟩,Pv (i+1),fun σ' H' p'=>⟨xs.length - (i+1),by omega,rfl,hlt,p'⟩,fun x H' y=>?_⟩;obtain ⟨e,y⟩:=y;subst e;exact hs i x σ _ (y xs q) p
 ·have e:i=xs.length:=by omega
  subst e;exact .inl ⟨⟨xs,q,Zq _⟩,hd σ H p⟩
theorem V6 {K:Frag} {a:Addr} {xs:List V} {g:TG} {tb:TS} {D:Ends} {σ:St} {H:Hp} (Pv:Nat→St→Hp→Prop) (h0:Pv 0 σ H) (hl:∀ i σ H,i≤xs.length→Pv i σ H→cW K H a xs)
  (hs:∀ i x σ H,xs[i]?=some x→Pv i σ H→g x σ H fun σ2 H2=>tb { D with nx:=Pv (i+1),ct:=Pv (i+1),bk:=D.nx } σ2 H2) (hd:∀ σ H,Pv xs.length σ H→D.nx σ H) :
  ∃ W:Nat→Nat→St→Hp→Prop,(∃ m,W 0 m σ H)∧∀ i m σ H,W i m σ H →
   ((qZ K a).stop i H∧D.nx σ H)∨((qZ K a).go i H∧∃ N:St→Hp→Prop,(∀ σ' H',N σ' H'→∃ m',m'<m∧W (i+1) m' σ' H')∧∀ x H',(qZ K a).yld i H x H'→g x σ H' fun σ2 H2=>tb { D with nx:=N,ct:=N,bk:=D.nx } σ2 H2):=by
 refine ⟨fun i m σ H=>m=xs.length - i∧i≤xs.length∧Pv i σ H,⟨xs.length,by simp,Nat.zero_le _,h0⟩, ?_⟩
 rintro i m σ H ⟨rfl,hi,p⟩
 have q:=hl i σ H hi p;by_cases hlt:i<xs.length
 ·refine .inr ⟨⟨xs,xs[i],q,by simp [hlt]⟩,Pv (i+1),fun σ' H' p'=>⟨xs.length - (i+1),by omega,rfl,hlt,p'⟩,fun x H' y=>?_⟩;obtain ⟨e,y⟩:=y;subst e;exact hs i x σ _ (y xs q) p
 ·have e:i=xs.length:=by omega
  subst e;exact .inl ⟨⟨xs,q,Zq _⟩,hd σ H p⟩
theorem JS {lo:Int} {n:Nat} {g:TG} {tb:TS} {D:Ends} {σ:St} {H:Hp} (Pv:Nat→St→Hp→Prop) (h0:Pv 0 σ H)
  (hs:∀ i σ H,i<n→Pv i σ H→g (.int (lo+i)) σ H fun σ2 H2=>tb { D with nx:=Pv (i+1),ct:=Pv (i+1),bk:=D.nx } σ2 H2) (hd:∀ σ H,Pv n σ H→D.nx σ H) :
  ∃ W:Nat→Nat→St→Hp→Prop,(∃ m,W 0 m σ H)∧∀ i m σ H,W i m σ H →
   ((nA lo n).stop i H∧D.nx σ H)∨((nA lo n).go i H∧∃ N:St→Hp→Prop,(∀ σ' H',N σ' H'→∃ m',m'<m∧W (i+1) m' σ' H')∧∀ x H',(nA lo n).yld i H x H'→g x σ H' fun σ2 H2=>tb { D with nx:=N,ct:=N,bk:=D.nx } σ2 H2):=by
 refine ⟨fun i m σ H=>m=n - i∧i≤n∧Pv i σ H,⟨n,by simp,Nat.zero_le _,h0⟩, ?_⟩
 rintro i m σ H ⟨rfl,hi,p⟩
 by_cases hlt:i<n
 ·refine .inr ⟨hlt,Pv (i+1),fun σ' H' p'=>⟨n - (i+1),by omega,rfl,hlt,p'⟩,fun x H' y=>?_⟩;obtain ⟨e,y⟩:=y;subst e y;exact hs i σ _ hlt p
 ·have e:i=n:=by omega
  subst e;exact .inl ⟨Zq _,hd σ H p⟩
abbrev R2:=V→V→Hp→VK→Prop
def dU (X:Cx) (f:Value→Value→Sem Value) (r:R2):Prop :=
 ∀ (pins:List (Addr × Obj)) (s:Shared) (σ:St) (H:Hp) (x y:V) (v u:Value) (Q:VK),Inv X pins σ H s→bC x v→bC y u→r x y H Q →
  wpAny (model X.prog X.w) X.A (f v u) (EP X pins σ Q) X.xe s
def YA (X:Cx) (f:Value→Sem Value) (r:V→Hp→VK→Prop):Prop :=
 ∀ (pins:List (Addr × Obj)) (s:Shared) (σ:St) (H:Hp) (x:V) (v:Value) (Q:VK),Inv X pins σ H s→bC x v→r x H Q →
  wpAny (model X.prog X.w) X.A (f v) (EP X pins σ Q) X.xe s
def eJ (X:Cx) (f:Value) (r:List V→Hp→VK→Prop):Prop :=
 ∀ (pins:List (Addr × Obj)) (s:Shared) (σ:St) (H:Hp) (xs:List V) (us:List Value) (Q:VK),Inv X pins σ H s→aT xs us→r xs H Q →
  wpAny (model X.prog X.w) X.A (call f us) (EP X pins σ Q) X.xe s
def aDm (X:Cx) (r:V→Hp→(Bool→Hp→Prop)→Prop):Prop :=
 ∀ (pins:List (Addr × Obj)) (s:Shared) (σ:St) (H:Hp) (x:V) (v:Value) (Q:Bool→Hp→Prop),Inv X pins σ H s→bC x v→r x H Q →
  wpAny (model X.prog X.w) X.A (truthy v) (TP X pins σ Q) X.xe s
noncomputable def KU (r:R2) (ta tb:TE):TE:=fun σ H Q=>ta σ H fun x H1=>tb σ H1 fun y H2=>r x y H2 Q
noncomputable def tUn (r:V→Hp→VK→Prop) (ta:TE):TE:=fun σ H Q=>ta σ H fun x H1=>r x H1 Q
noncomputable def rI (C:Int→Int→Prop) (g:Int→Int→V):R2:=fun x y H Q=>∃ i j,x=.int i∧y=.int j∧C i j∧Q (g i j) H
noncomputable def wX (g:Int→Int→V):R2:=fun x y H Q=>∃ i j,x=.int i∧y=.int j∧Q (g i j) H
def rU (g:Int→V):V→Hp→VK→Prop:=fun x H Q=>∃ i,x=.int i∧Q (g i) H
section
variable {X:Cx} {a b c:Expr} {ta tb tc:TE} {pos:Pos}
theorem OK (ha:PE X a ta) (hb:PE X b tb) {pins:List (Addr × Obj)} {s:Shared} {σ:St} {H:Hp} {R:V→V→Hp→Prop} (I:Inv X pins σ H s)
  (h:ta σ H fun x H1=>tb σ H1 fun y H2=>R x y H2) {Q:Value→Shared→Prop} {f:Value→Value→Sem Value}
  (hf:∀ v u s2 x y H2,Inv X pins σ H2 s2→bC x v→bC y u→R x y H2→wpAny (model X.prog X.w) X.A (f v u) Q X.xe s2) :
  wpAny (model X.prog X.w) X.A (eval a X.env) (fun v s₁=>wpAny (model X.prog X.w) X.A (eval b X.env) (fun u s₂=>wpAny (model X.prog X.w) X.A (f v u) Q X.xe s₂) X.xe s₁) X.xe s:=by
 refine bH (ha pins s σ H _ I h) fun v s1 ⟨x,H1,I1,r1,q1⟩=>?_
 refine bH (hb pins s1 σ H1 _ I1 q1) fun u s2 ⟨y,H2,I2,r2,q2⟩=>?_
 exact hf v u s2 x y H2 I2 r1 r2 q2
theorem aB4 {op:Operator} {r:R2} (ho:dU X (binaryOp op) r) (ha:PE X a ta) (hb:PE X b tb):PE X (.BinOp a op b pos) (KU r ta tb):=by
 intro pins s σ H Q I h;exact wpAny_BinOp (OK ha hb I h fun v u s2 x y H2 I2 rx ry q=>ho pins s2 σ H2 x y v u Q I2 rx ry q)
theorem aCF {op:UnaryOp} {r:V→Hp→VK→Prop} (ho:YA X (unaryOp op) r) (ha:PE X a ta):PE X (.UnaryOp op a pos) (tUn r ta):=by
 intro pins s σ H Q I h;exact UnaryOp_ (bH (ha pins s σ H _ I h) fun v s1 ⟨x,H1,I1,r1,q1⟩=>ho pins s1 σ H1 x v Q I1 r1 q1)
theorem JO {f:Value→Value→Sem Value} {C:Int→Int→Prop} {g:Int→Int→Int}
  (rule:∀ (i j:Int) (t u:Tok) (s:Shared) (Q:Value→Shared→Prop) (E:Value→Shared→Prop),C i j→Q (.int (g i j) s.toks) { s with toks:=s.toks+1 }→wpAny (model X.prog X.w) X.A (f (.int i t) (.int j u)) Q E s) :
  dU X f (rI C fun i j=>.int (g i j)):=by
 intro pins s σ H x y v u Q I rx ry h;obtain ⟨i,j,rfl,rfl,hc,q⟩:=h;obtain ⟨t,rfl⟩:=rx;obtain ⟨t',rfl⟩:=ry;exact rule i j t t' s _ _ hc ⟨.int (g i j),H,I.tok _,⟨_,rfl⟩,q⟩
theorem QG {f:Value→Value→Sem Value} {g:Int→Int→Int}
  (rule:∀ (i j:Int) (t u:Tok) (s:Shared) (Q:Value→Shared→Prop) (E:Value→Shared→Prop),Q (.int (g i j) s.toks) { s with toks:=s.toks+1 }→wpAny (model X.prog X.w) X.A (f (.int i t) (.int j u)) Q E s) :
  dU X f (wX fun i j=>.int (g i j)):=by
 intro pins s σ H x y v u Q I rx ry h;obtain ⟨i,j,rfl,rfl,q⟩:=h;obtain ⟨t,rfl⟩:=rx;obtain ⟨t',rfl⟩:=ry;exact rule i j t t' s _ _ ⟨.int (g i j),H,I.tok _,⟨_,rfl⟩,q⟩
theorem HX {f:Value→Value→Sem Value} {g:Int→Int→Bool}
  (rule:∀ (i j:Int) (t u:Tok) (s:Shared) (Q:Value→Shared→Prop) (E:Value→Shared→Prop),Q (.bool (g i j)) s→wpAny (model X.prog X.w) X.A (f (.int i t) (.int j u)) Q E s) :
  dU X f (wX fun i j=>.bl (g i j)):=by
 intro pins s σ H x y v u Q I rx ry h;obtain ⟨i,j,rfl,rfl,q⟩:=h;obtain ⟨t,rfl⟩:=rx;obtain ⟨t',rfl⟩:=ry;exact rule i j t t' s _ _ ⟨.bl (g i j),H,I,rfl,q⟩
def aDx (i j:Int):Prop:=0≤j∧j≤1000000∧i.natAbs<2 ^ 64
def O2 (i j:Int):Prop:=(-(2 ^ 64)<i∧i<2 ^ 64)∨(-(2 ^ 64)<j∧j<2 ^ 64)
theorem O2.ok {i j:Int} (h:O2 i j):IntMulOk i j:=by
 rcases h with ⟨h1,h2⟩ | ⟨h1,h2⟩
 ·exact .of_left (intBits_le_64 h1 h2)
 ·exact .of_right (intBits_le_64 h1 h2)
theorem two_pow_nn (k:Nat):(0:Int)≤2 ^ k:=by
 rw [two_pow_cast];exact Int.natCast_nonneg _
theorem aAY:dU X (binaryOp .Add) (wX fun i j=>.int (i+j)):=QG fun _ _ _ _ _ _ _ q=>add_int q
theorem Z8:dU X (binaryOp .Sub) (wX fun i j=>.int (i - j)):=QG fun _ _ _ _ _ _ _ q=>sub_int q
theorem aAf:dU X (binaryOp .Mult) (rI O2 fun i j=>.int (i*j)):=JO fun _ _ _ _ _ _ _ hc q=>mul_int q hc.ok
theorem aBb:dU X (binaryOp .Mod) (rI (fun _ j=>0<j) fun i j=>.int (i % j)):=JO fun i j _ _ _ _ _ hc q=>by
 have h1:(0:Int)<j:=hc;exact mod_int' (by omega) (by rw [Int.fmod_eq_emod_of_nonneg i (by omega)]; exact q)
theorem Z5:dU X (binaryOp .LShift) (rI aDx fun i j=>.int (i*2 ^ j.toNat)):=JO fun _ _ _ _ _ _ _ hc q=>lshift_int_small hc.1 hc.2.1 hc.2.2 q
theorem ZQ:dU X (binaryOp .RShift) (rI (fun _ j=>0≤j) fun i j=>.int (i / 2 ^ j.toNat)):=JO fun i j _ _ _ _ _ hc q =>
 rshift_int hc (by rw [Int.fdiv_eq_ediv_of_nonneg i (two_pow_nn _)]; exact q)
theorem XF:dU X (binaryOp .BitAnd) (wX fun i j=>.int (Builtin.bitAnd i j)):=QG fun _ _ _ _ _ _ _ q=>and_int q
theorem unI {f:Value→Sem Value} {g:Int→Int}
  (rule:∀ (i:Int) (t:Tok) (s:Shared) (Q:Value→Shared→Prop) (E:Value→Shared→Prop),Q (.int (g i) s.toks) { s with toks:=s.toks+1 }→wpAny (model X.prog X.w) X.A (f (.int i t)) Q E s) :
  YA X f (rU fun i=>.int (g i)):=by
 intro pins s σ H x v Q I rx h;obtain ⟨i,rfl,q⟩:=h;obtain ⟨t,rfl⟩:=rx;exact rule i t s _ _ ⟨.int (g i),H,I.tok _,⟨_,rfl⟩,q⟩
theorem ZS:YA X (unaryOp .USub) (rU fun i=>.int (-i)):=unI fun _ _ _ _ _ q=>neg_int q
end
section
variable {X:Cx} {a b c:Expr} {ta tb tc:TE} {pos:Pos}
theorem JU {pins:List (Addr × Obj)} {σ:St} {H:Hp} {s:Shared} {Q:VK} {k k':Bool} (I:Inv X pins σ H s) (q:Q (.bl k) H) (e:k=k'):EP X pins σ Q (.bool k') s:=by
 subst e;exact ⟨.bl k,H,I,rfl,q⟩
theorem aBM:dU X (compareOp .Lt) (wX fun i j=>.bl (decide (i<j))):=HX fun _ _ _ _ _ _ _ q=>lt_int q
theorem aCQ:dU X (compareOp .LtE) (wX fun i j=>.bl (decide (i≤j))):=HX fun _ _ _ _ _ _ _ q=>le_int q
theorem aCO:dU X (compareOp .Gt) (wX fun i j=>.bl (decide (j<i))):=HX fun _ _ _ _ _ _ _ q=>gt_int q
theorem aCq:dU X (compareOp .GtE) (wX fun i j=>.bl (decide (j≤i))):=HX fun _ _ _ _ _ _ _ q=>ge_int q
theorem XW:dU X (compareOp .Is) (fun x y H Q=>y=.non∧Q (.bl (decide (x=.non))) H):=by
 intro pins s σ H x y v u Q I rx ry h;obtain ⟨rfl,q⟩:=h;cases ry;refine is_none_gen (JU I q ?_)
 cases x <;> first
  | (cases rx; rfl)
  | (obtain ⟨t,rfl⟩:=rx; rfl)
theorem RZ:dU X (compareOp .IsNot) (fun x y H Q=>y=.non∧Q (.bl (!decide (x=.non))) H):=by
 intro pins s σ H x y v u Q I rx ry h;obtain ⟨rfl,q⟩:=h;cases ry;refine isnot_none_gen (JU I q ?_)
 cases x <;> first
  | (cases rx; rfl)
  | (obtain ⟨t,rfl⟩:=rx; rfl)
theorem SO {op:CmpOp} {r:R2} (ho:dU X (compareOp op) r) (ha:PE X a ta) (hb:PE X b tb) (hm:behindInMarks op b=false):PE X (.Compare a [op] [b] pos) (KU r ta tb):=by
 intro pins s σ H Q I h;exact wpAny_Compare1 (OK ha hb I h fun v u s2 x y H2 I2 rx ry q=>ho pins s2 σ H2 x y v u Q I2 rx ry q) hm
noncomputable def QT (t:TE):TT:=fun σ H Q=>t σ H fun x H'=>∃ k,x=.bl k∧Q k H'
theorem R9 {op:CmpOp} {r:R2} (ho:dU X (compareOp op) r) (ha:PE X a ta) (hb:PE X b tb) (hm:behindInMarks op b=false):PT X (.Compare a [op] [b] pos) (QT (KU r ta tb)):=by
 intro pins s σ H Q I h
 refine wpAny_isTrue_Compare1 (bH (ha pins s σ H _ I h) fun v s1 ⟨x,H1,I1,r1,q1⟩=>bH (hb pins s1 σ H1 _ I1 q1) fun u s2 ⟨y,H2,I2,r2,q2⟩ =>
  bH (ho pins s2 σ H2 x y v u _ I2 r1 r2 q2) fun c s3 ⟨z,H3,I3,r3,k,e,q3⟩=>?_) hm
 subst e;cases r3;exact wpAny_truthy_bool ⟨H3,I3,q3⟩
noncomputable def C1 (r r':R2) (ta tb tc:TE):TE:=fun σ H Q=>ta σ H fun x H1=>tb σ H1 fun y H2=>r x y H2 fun z H3=>∃ k,z=.bl k ∧
 (if k=true then tc σ H3 fun w' H4=>r' y w' H4 Q else Q (.bl false) H3)
theorem NF {op op':CmpOp} {r r':R2} (ho:dU X (compareOp op) r) (ho':dU X (compareOp op') r') (ha:PE X a ta) (hb:PE X b tb) (hc:PE X c tc)
  (hm:lastMarks [op,op'] [b,c]=false:=by with_unfolding_all rfl):PE X (.Compare a [op,op'] [b,c] pos) (C1 r r' ta tb tc):=by
 intro pins s σ H Q I h
 refine Compare_chain (bH (ha pins s σ H _ I h) fun v s1 ⟨x,H1,I1,r1,q1⟩=>chain_link (bH (hb pins s1 σ H1 _ I1 q1) fun u s2 ⟨y,H2,I2,r2,q2⟩ =>
  bH (ho pins s2 σ H2 x y v u _ I2 r1 r2 q2) fun d s3 ⟨z,H3,I3,r3,k,e,q3⟩=>?_)) hm
 subst e;cases r3;refine wpAny_truthy_bool ?_
 cases k with
 | false=>exact ite_ff ⟨.bl false,H3,I3,rfl,q3⟩
 | true=>exact ite_tt (chain_last (bH (hc pins s3 σ H3 _ I3 q3) fun w' s4 ⟨z',H4,I4,r4,q4⟩=>ho' pins s4 σ H4 y z' u w' Q I4 r2 r4 q4))
theorem OW {op op':CmpOp} {r r':R2} (ho:dU X (compareOp op) r) (ho':dU X (compareOp op') r') (ha:PE X a ta) (hb:PE X b tb) (hc:PE X c tc)
  (hm:lastMarks [op,op'] [b,c]=false:=by with_unfolding_all rfl):PT X (.Compare a [op,op'] [b,c] pos) (QT (C1 r r' ta tb tc)):=by
 intro pins s σ H Q I h
 refine isTrue_chain (bH (ha pins s σ H _ I h) fun v s1 ⟨x,H1,I1,r1,q1⟩=>test_link (bH (hb pins s1 σ H1 _ I1 q1) fun u s2 ⟨y,H2,I2,r2,q2⟩ =>
  bH (ho pins s2 σ H2 x y v u _ I2 r1 r2 q2) fun d s3 ⟨z,H3,I3,r3,k,e,q3⟩=>?_)) hm
 subst e;cases r3;refine wpAny_truthy_bool ?_
 cases k with
 | false =>
  obtain ⟨k',e',q'⟩:=q3;cases e';exact ite_ff ⟨H3,I3,q'⟩
 | true =>
  refine ite_tt (test_last (bH (hc pins s3 σ H3 _ I3 q3) fun w' s4 ⟨z',H4,I4,r4,q4⟩=>bH (ho' pins s4 σ H4 y z' u w' _ I4 r2 r4 q4) fun d' s5 ⟨z2,H5,I5,r5,k2,e2,q5⟩=>?_));subst e2;cases r5;exact wpAny_truthy_bool ⟨H5,I5,q5⟩
def GC (K:Frag) (x:V) (H:Hp) (k:Bool):Prop :=
 match x with
 | .non=>k=false
 | .bl b=>k=b
 | .int i=>k=(i != 0)
 | .str y=>y.length≤sizeLine∧k=((y.length:Int) != 0)
 | .byt y=>y.size≤sizeLine∧k=((y.size:Int) != 0)
 | .ref p=>(∃ xs,b9 K H p xs∧k=!xs.isEmpty)∨(∃ xs,cW K H p xs∧k=!xs.isEmpty)∨∃ kvs,H p=some (.dK kvs)∧k=!kvs.isEmpty
 | _=>False
theorem GI {κ:Type} {kvs:List (κ × V)} {vs:List (κ × Value)} (r:KV kvs vs):(!vs.isEmpty)=!kvs.isEmpty:=by
 cases r <;> rfl
theorem wO {xs:List V} {its:List Value} (r:aT xs its):(!its.toArray.isEmpty)=!xs.isEmpty:=by
 cases r <;> simp
theorem mC:(sizeLine:Nat)<2 ^ 63:=by rw [sizeLine_eq]; decide
theorem JF:aDm X (fun x H Q=>∃ k,GC X.K x H k∧Q k H):=by
 intro pins s σ H x v Q I rx h;obtain ⟨k,e,q⟩:=h;have hl:=mC;have hs:sizeLine=16777216:=sizeLine_eq
 cases x with
 | non =>
  cases rx;have e':k=false:=e;subst e';exact truthy_none ⟨H,I,q⟩
 | bl b =>
  cases rx;have e':k=b:=e;subst e';exact wpAny_truthy_bool ⟨H,I,q⟩
 | int i =>
  obtain ⟨t,rfl⟩:=rx;have e':k=(i != 0):=e;subst e';exact PySem.P.truthy_int ⟨H,I,q⟩
 | str y =>
  obtain ⟨t,rfl⟩:=rx;obtain ⟨hy,e'⟩:y.length≤sizeLine∧k=((y.length:Int) != 0):=e;subst e';exact PySem.P.truthy_str (by omega) ⟨H,I.tok _,q⟩
 | byt y =>
  obtain ⟨t,rfl⟩:=rx;obtain ⟨hy,e'⟩:y.size≤sizeLine∧k=((y.size:Int) != 0):=e;subst e';exact PySem.W.truthy_bytes (by omega) ⟨H,I.tok _,q⟩
 | ref p =>
  cases rx;have e':(∃ xs,b9 X.K H p xs∧k=!xs.isEmpty)∨(∃ xs,cW X.K H p xs∧k=!xs.isEmpty)∨∃ kvs,H p=some (.dK kvs)∧k=!kvs.isEmpty:=e
  rcases e' with ⟨xs,hx,e'⟩ | ⟨xs,hx,e'⟩ | ⟨kvs,hx,e'⟩
  ·subst e';obtain ⟨its,r,pl,hz⟩:=I.list hx;have hlen:=r.length;exact wpAny_truthy_list pl.isList (by simp only [Zi]; omega) ⟨H,I.tok _,by rw [wO r]; exact q⟩
  ·subst e';obtain ⟨its,r,pl,hz⟩:=I.tuple hx;have hlen:=r.length;exact truthy_tuple pl (by simp only [Zi]; omega) ⟨H,I.tok _,by rw [wO r]; exact q⟩
  ·subst e';obtain ⟨hz,hS,vs,r,m⟩:kvs.length≤sizeLine∧(p == sysModules)=false∧∃ vs,KV kvs vs∧s.heap.DictOf (yJ X.prog X.w) p vs:=I.hok p _ hx
   have hlen:kvs.length=vs.length:=Paired.length r;exact wpAny_truthy_dict hS m (by omega) ⟨H,I.tok _,by rw [GI r]; exact q⟩
 | _=>exact (show False from e).elim
theorem BK (ha:PE X a ta) (he:∀ whole,isTrue a X.env whole=(do let v ← whole; standAt a.pos; holding [v] (truthy v))) :
  PT X a (fun σ H Q=>ta σ H fun x H'=>∃ k,GC X.K x H' k∧Q k H'):=by
 intro pins s σ H Q I h;exact isTrue_plain (bH (ha pins s σ H _ I h) fun v s1 ⟨x,H1,I1,r1,q1⟩=>JF pins s1 σ H1 x v Q I1 r1 q1) (he _)
theorem iG {x:V} {us:List Value} (r:aT [x] us):∃ u,us=[u]∧bC x u:=by
 cases r with
 | cons r1 r2=>cases r2; exact ⟨_,rfl,r1⟩
theorem BB {x y:V} {us:List Value} (r:aT [x,y] us):∃ u w',us=[u,w']∧bC x u∧bC y w':=by
 cases r with
 | cons r1 r2 =>
  cases r2 with
  | cons r3 r4=>cases r4; exact ⟨_,_,rfl,r1,r3⟩
theorem PN:eJ X (.builtin "abs") (fun xs H Q=>∃ i,xs=[.int i]∧Q (.int (if i<0 then -i else i)) H):=by
 intro pins s σ H xs us Q I r h;obtain ⟨i,rfl,q⟩:=h;obtain ⟨u,rfl,t,rfl⟩:=iG r;exact call_abs_int fun u tk=>⟨.int (if i<0 then -i else i),H,I.tok _,⟨_,rfl⟩,q⟩
theorem LM (hc:X.calm=true):eJ X (.builtin "max") (fun xs H Q=>∃ i j,xs=[.int i,.int j]∧Q (.int (if j > i then j else i)) H):=by
 intro pins s σ H xs us Q I r h;obtain ⟨i,j,rfl,q⟩:=h;obtain ⟨u,w',rfl,⟨t,rfl⟩,⟨t',rfl⟩⟩:=BB r;refine max_two_ints (I.ok.hd hc) fun h' tk k=>⟨_,H,I.kept k, ?_,q⟩
 by_cases hj:j > i
 ·rw [Zo hj,Zo hj]; exact ⟨_,rfl⟩
 ·rw [Zp hj,Zp hj]; exact ⟨_,rfl⟩
theorem z9:eJ X (.type "int") (fun xs H Q=>(∃ i,xs=[.int i]∧Q (.int i) H)∨∃ k,xs=[.bl k]∧Q (.int (if k then 1 else 0)) H):=by
 intro pins s σ H xs us Q I r h;rcases h with ⟨i,rfl,q⟩ | ⟨k,rfl,q⟩
 ·obtain ⟨u,rfl,t,rfl⟩:=iG r;exact call_int_int ⟨.int i,H,I,⟨_,rfl⟩,q⟩
 ·obtain ⟨u,rfl,r1⟩:=iG r;cases r1;exact call_int_bool ⟨.int (if k then 1 else 0),H,I.tok _,⟨_,rfl⟩,q⟩
end
structure ObjM (h:Heap) (x dx C:Addr) (mA:Str→Option Value):Prop where
 obj:h.get? x=some (PySem.W.instObj C dx)
 ns:h.Ns1 dx mA
 ne:dx≠x
theorem JM {h:Heap} {dx:Addr} {mA:Str→Option Value} (n:h.Ns1 dx mA):∃ od,h.get? dx=some od∧∀ name,PySem.W.lookIn name od=some (mA name):=by
 obtain ⟨o,es,ep,ho,hd,hk,_,hm⟩:=n;refine ⟨o,ho,fun name=>?_⟩;have e:=hm name;unfold nsFind findBy at e;rw [← Array.find?_toList] at e;unfold PySem.W.lookIn;rw [hd];dsimp only;split
 ·rename_i y q;rw [q] at e;exact congrArg some e
 ·rename_i q;rw [q] at e
  have a:es.toList.any (·.refKey)=false:=by
   rw [List.any_eq_false];intro y hy;obtain ⟨z,t,hkey⟩:=hk y (Array.mem_toList_iff.mp hy);simp [DictEntry.refKey,hkey]
  have a':¬ es.toList.any (·.refKey)=true:=by rw [a]; exact Bool.false_ne_true
  rw [Zp a'];exact congrArg some e
theorem ObjM.look {h:Heap} {x dx C:Addr} {mA:Str→Option Value} (I:ObjM h x dx C mA):∃ od,PySem.W.InstAt h x (PySem.W.instObj C dx) C (some od)∧∀ name,PySem.W.lookIn name od=some (mA name) :=
 let ⟨od,ho,hl⟩:=JM I.ns
 ⟨od,⟨I.obj,rfl,rfl,ho⟩,hl⟩
section
variable {prog:Program} {w:World} {A:Around} {E:Value→Shared→Prop} {s:Shared} {K:Frag} {x dx C f:Addr} {mA:Str→Option Value} {name:Str} {v:Value}
theorem TC {expr:Bool} {Q:Value→Shared→Prop} (X:K.In s.heap) (I:ObjM s.heap x dx C mA) (hg:PySem.W.plainGet K C name=true) (hh:PySem.W.hasDictIn K C=true)
  (ha:findIn K (.ref C) name=some none) (hv:mA name=some v) (hv':PySem.W.handedIn v=true) (h:Q v { s with toks:=s.toks+1 }) :
  wpAny (model prog w) A (getAttr (.ref x) name expr) Q E s:=by
 obtain ⟨od,J,hl⟩:=I.look;exact PySem.W.get_value X J (PySem.W.plainGet_of hg).1 (PySem.W.findObj_own hh ha rfl (by rw [hl,hv])) hv' h
theorem MS {pl:Sem Bool} {Q:Value × List Value→Shared→Prop} (X:K.In s.heap) (I:ObjM s.heap x dx C mA) (hg:PySem.W.plainGet K C name=true)
  (hf:findIn K (.ref C) name=some (some (.ref f))) (ht:PySem.W.isFn K (.ref f)=true) (hv:mA name=none) (h:Q (.ref f,[.ref x]) s) :
  wpAny (model prog w) A (getMethod (.ref x) name pl) Q E s:=by
 obtain ⟨od,J,hl⟩:=I.look;exact PySem.W.method_fn X J (PySem.W.plainGet_of hg).1 (PySem.W.plainGet_of hg).2 hf (beq_iff_eq.mp ht) (by show (PySem.W.lookIn name od).map (·.isSome)=some false; rw [hl,hv]; rfl) h
theorem V2 {ns:List Str} {Q:Unit→Shared→Prop} (X:K.In s.heap) (I:ObjM s.heap x dx C mA)
  (hs:findIn K (.ref C) "__setattr__"=some (some (.builtin "object.__setattr__"))) (hp:PySem.W.plainOver K C=true) (ht:PySem.W.takerIn K C name=some none) (hh:PySem.W.hasDictIn K C=true)
  (hw:PySem.Within mA ns) (hsz:ns.length≤sizeLine)
  (h:∀ h',ObjM h' x dx C (fun y=>if y=name then some v else mA y)→Heap.SameBut dx s.heap h'→Q () { s with heap:=h',toks:=s.toks+2 }) :
  wpAny (model prog w) A (setAttr (.ref x) name v) Q E s:=by
 obtain ⟨od,J,hl⟩:=I.look;refine PySem.W.set_plain X J hs (PySem.W.osa_open (s:={ s with toks:=s.toks+1 }) (r:=none) X J hp ht fun b=>?_);obtain ⟨cd,hc,hd'⟩:=PySem.W.any_some hh;have hx:s.heap.get? x=some ⟨.ref C,some dx,.plain,#[]⟩:=I.obj;refine Zt (Zu (Zt (Zt (wpAny_loadPart hx (Zt (PySem.W.Looks.here (s:={ s with toks:=s.toks+1 }) (PySem.W.looks_clsIn X hc) ?_))))));rw [hd'];refine Zu (a:=some dx) (Zt (Zu (Zt ?_)));refine wpAny_nsSet1 (s:={ s with toks:=s.toks+1 }) I.ns fun h' hn2 hs2=>?_
 obtain ⟨oD,esD,epD,hoD,hdD,hcD⟩:=hn2.count (PySem.Within.cons name v hw);refine Zt (wpAny_lookBehind hoD (by rw [hdD]; exact pastItsLine_dict (Zr hcD (by rw [Zk]; omega))) ?_);exact Zu (h _ ⟨(hs2.2 _ (Ne.symm I.ne)).trans I.obj,hn2,I.ne⟩ hs2)
theorem NS {R:Result→Shared→Prop} {vs:List Value} {kw:List (Str × Value)} (X:K.In s.heap) (hm:PySem.W.makesIn K C=true)
  (hi:findIn K (.ref C) "__init__"=some (some (.ref f))) (hf:PySem.W.typeIn K (.ref f)=some (.type "function"))
  (h:codeAny (model prog w) (A.under (.builtin "type.__call__" ⟨.ref C :: vs,kw⟩)) (.call (.ref f) ⟨.ref (s.heap.objs.size+1) :: vs,kw⟩) (PySem.W.InitBack (s.heap.objs.size+1) R)
   { s with heap:=(s.heap.push PySem.W.emptyDict).push (PySem.W.instObj C s.heap.objs.size) }) :
  codeAny (model prog w) A (.call (.ref C) ⟨vs,kw⟩) R s:=by
 obtain ⟨hh,g,d,t,os⟩:=s;exact PySem.W.make_core (PySem.W.makes_of X hm) (PySem.W.looks_findIn X hi) (fun self=>PySem.W.bind_fn X self hf) (.inl rfl) h
end
noncomputable def gH (f:Str) (v:V):List (Str × V)→List (Str × V)
 | []=>[(f,v)]
 | (g,x) :: r=>if g=f then (g,v) :: r else (g,x) :: gH f v r
theorem uG (f g:Str) (v:V):∀ fs:List (Str × V),(gH f v fs).lookup g=if g=f then some v else fs.lookup g
 | []=>by
  show List.lookup g [(f,v)]=_;by_cases h:g=f
  ·have hb:(g == f)=true:=beq_iff_eq.mpr h;simp only [List.lookup,hb,Zo h]
  ·have hb:(g == f)=false:=beq_eq_false_iff_ne.mpr h;simp only [List.lookup,hb,Zp h]
 | (k,x) :: r=>by
  have ih:=uG f g v r;rw [show gH f v ((k,x) :: r)=(if k=f then (k,v) :: r else (k,x) :: gH f v r) from rfl];by_cases hk:k=f
  ·rw [Zo hk];by_cases h:g=k
   ·have hb:(g == k)=true:=beq_iff_eq.mpr h;simp only [List.lookup,hb,Zo (h.trans hk)]
   ·have hb:(g == k)=false:=beq_eq_false_iff_ne.mpr h;simp only [List.lookup,hb,Zp (fun e:g=f=>h (e.trans hk.symm))]
  ·rw [Zp hk];by_cases h:g=k
   ·have hb:(g == k)=true:=beq_iff_eq.mpr h;simp only [List.lookup,hb,Zp (fun e:g=f=>hk (h.symm.trans e))]
   ·have hb:(g == k)=false:=beq_eq_false_iff_ne.mpr h;simp only [List.lookup,hb];exact ih
theorem rX (f:Str) (v:V):∀ fs:List (Str × V),f∈(gH f v fs).map (·.1)∧∀ g,g∈fs.map (·.1)→g∈(gH f v fs).map (·.1)
 | []=>⟨by simp [gH],fun g h=>by simp at h⟩
 | (k,x) :: r=>by
  obtain ⟨i1,i2⟩:=rX f v r;rw [show gH f v ((k,x) :: r)=(if k=f then (k,v) :: r else (k,x) :: gH f v r) from rfl];by_cases hk:k=f
  ·rw [Zo hk];subst hk;exact ⟨by simp,fun g h=>by simpa using h⟩
  ·rw [Zp hk];refine ⟨?_,fun g h=>?_⟩
   ·rw [Zs];exact Ze _ i1
   ·rw [Zs] at h ⊢;rcases List.mem_cons.mp h with e | e
    ·exact List.mem_cons.mpr (.inl e)
    ·exact Ze _ (i2 g e)
theorem uM (f:Str) (v:V):∀ fs:List (Str × V),(gH f v fs).length≤fs.length+1
 | []=>by simp [gH]
 | (k,x) :: r=>by
  have ih:=uM f v r;rw [show gH f v ((k,x) :: r)=(if k=f then (k,v) :: r else (k,x) :: gH f v r) from rfl];by_cases hk:k=f
  ·rw [Zo hk,Zk,Zk]; omega
  ·rw [Zp hk,Zk,Zk]; omega
theorem iR.some_of {v:V} {o:Option Value} (r:iR (some v) o):∃ u,o=some u∧bC v u:=by
 cases o with
 | none=>exact (show False from r).elim
 | some u=>exact ⟨u,rfl,r⟩
theorem iR.none_of {o:Option Value} (r:iR none o):o=none:=by
 cases o with
 | none=>rfl
 | some u=>exact (show False from r).elim
theorem JH {v:V} {u:Value} (r:bC v u):PySem.W.handedIn u=true:=by
 cases v with
 | non=>cases (show u=Value.none from r); rfl
 | bl b=>cases (show u=Value.bool b from r); rfl
 | int i=>obtain ⟨t,e⟩:=(show ∃ t,u=Value.int i t from r); cases e; rfl
 | str x=>obtain ⟨t,e⟩:=(show ∃ t,u=Value.str x t from r); cases e; rfl
 | byt b=>obtain ⟨t,e⟩:=(show ∃ t,u=Value.bytes b t from r); cases e; rfl
 | flt b=>obtain ⟨t,e⟩:=(show ∃ t,u=Value.float b t from r); cases e; rfl
 | ref a=>cases (show u=Value.ref a from r); rfl
 | ty n=>cases (show u=Value.type n from r); rfl
section
variable {P:Program} {w:World} {H H':Hp} {h h':Heap} {a C dx:Addr} {fs fs':List (Str × V)}
theorem yI (hok:gU P w H h) (e:H a=some (.ins C dx fs)):∃ mA,ObjM h a dx C mA∧(∀ f,iR (fs.lookup f) (mA f))∧PySem.Within mA (fs.map (·.1))∧fs.length≤1000∧H dx=some (.own a):=by
 obtain ⟨d,z,ne,ob,mA,n,r,q⟩:=(show dW P w H h a (.ins C dx fs) from hok a _ e)
 exact ⟨mA,⟨ob,n,ne⟩,r,q,z,d⟩
end
structure Cls (K:Frag) (C:Addr):Prop where
 pg:PySem.W.plainGet K C Str.empty=true
 hd:PySem.W.hasDictIn K C=true
 po:PySem.W.plainOver K C=true
 sa:findIn K (.ref C) "__setattr__"=some (some (.builtin "object.__setattr__"))
theorem Cls.get {K:Frag} {C:Addr} (c:Cls K C) (f:Str):PySem.W.plainGet K C f=true:=c.pg
def kX (K:Frag) (C:Addr) (f:Str):Prop:=findIn K (.ref C) f=some none
theorem kX.taker {K:Frag} {C:Addr} {f:Str} (n:kX K C f):PySem.W.takerIn K C f=some none:=by
 unfold PySem.W.takerIn;rw [show findIn K (.ref C) f=some none from n];rfl
structure Con (K:Frag) (C:Addr) (f:Str) (v:V) (u:Value):Prop where
 at_:findIn K (.ref C) f=some (some u)
 rel:bC v u
 get:PySem.W.specialIn K u "__get__"=some none
 cp:PySem.W.copiedNames.contains f=false
structure Meth (K:Frag) (C:Addr) (m:Str) (f:Addr):Prop where
 at_:findIn K (.ref C) m=some (some (.ref f))
 fn:PySem.W.isFn K (.ref f)=true
 kp:PySem.W.keepIn K (.ref f)=true
section
variable {X:Cx} {pins:List (Addr × Obj)} {σ:St} {H:Hp} {s:Shared} {a C dx:Addr} {fs:List (Str × V)} {f:Str} {v:V} {A:Around} {E:Value→Shared→Prop}
theorem HU {b:Bool} {Q:Value→Shared→Prop} (I:Inv X pins σ H s) (e:H a=some (.ins C dx fs)) (c:Cls X.K C) (n:kX X.K C f) (l:fs.lookup f=some v)
  (h:∀ u s',Inv X pins σ H s'→bC v u→Q u s'):wpAny (model X.prog X.w) A (getAttr (.ref a) f b) Q E s:=by
 obtain ⟨mA,O,r,_,_,_⟩:=yI I.hok e;obtain ⟨u,hu,ru⟩:=iR.some_of (v:=v) (o:=mA f) (by rw [← l]; exact r f);exact TC I.kIn O (c.get f) c.hd n hu (JH ru) (h u _ (I.tok _) ru)
theorem xB {m:Str} {g:Addr} {pl:Sem Bool} {Q:Value × List Value→Shared→Prop} (I:Inv X pins σ H s) (e:H a=some (.ins C dx fs)) (c:Cls X.K C) (k:Meth X.K C m g) (l:fs.lookup m=none)
  (h:Q (.ref g,[.ref a]) s):wpAny (model X.prog X.w) A (getMethod (.ref a) m pl) Q E s:=by
 obtain ⟨mA,O,r,_,_,_⟩:=yI I.hok e;have hn:mA m=none:=iR.none_of (by rw [← l]; exact r m);exact MS I.kIn O (c.get m) k.at_ k.fn hn h
theorem HP {y:V} {u:Value} {Q:Unit→Shared→Prop} (I:Inv X pins σ H s) (e:H a=some (.ins C dx fs)) (c:Cls X.K C) (n:kX X.K C f) (hl:fs.length<1000) (ry:bC y u)
  (h:∀ s',Inv X pins σ (aV H a (.ins C dx (gH f y fs))) s'→Q () s'):wpAny (model X.prog X.w) A (setAttr (.ref a) f u) Q E s:=by
 obtain ⟨mA,O,r,wi,_,ho⟩:=yI I.hok e;have hz:(fs.map (·.1)).length≤sizeLine:=by rw [List.length_map,sizeLine_eq]; omega
 refine V2 I.kIn O c.sa c.po n.taker c.hd wi hz fun h' O' sb=>h _ ?_
 have hd:∃ o,h'.get? dx=some o:=let ⟨o,_,_,e',_⟩:=O'.ns; ⟨o,e'⟩
 refine I.write (x:=a) (e:=dx) (by rw [e]; exact True.intro) (.inr ho) (fun b q hb z=>(sb.2 b hb).trans z) hd ?_;refine ⟨by rw [aO O.ne]; exact ho, ?_,O.ne,O'.obj,_,O'.ns,fun g=>?_,fun g hg=>?_⟩
 ·have:=uM f y fs; omega
 ·show iR ((gH f y fs).lookup g) (if g=f then some u else mA g);rw [uG];by_cases q:g=f
  ·rw [Zo q,Zo q]; exact ry
  ·rw [Zp q,Zp q]; exact r g
 ·by_cases q:g=f
  ·rw [q]; exact (rX f y fs).1
  ·refine (rX f y fs).2 g (wi g fun z=>hg ?_);show (if g=f then some u else mA g)=none;rw [Zp q]; exact z
theorem Inv.made (I:Inv X pins σ H s):Inv X pins σ (aV (aV H s.heap.objs.size (.own (s.heap.objs.size+1))) (s.heap.objs.size+1) (.ins C s.heap.objs.size []))
  { s with heap:=(s.heap.push PySem.W.emptyDict).push (PySem.W.instObj C s.heap.objs.size) }:=by
 have e1:(s.heap.push PySem.W.emptyDict).get? s.heap.objs.size=some PySem.W.emptyDict:=Zw s.heap rfl
 have e2:((s.heap.push PySem.W.emptyDict).push (PySem.W.instObj C s.heap.objs.size)).get? (s.heap.objs.size+1)=some (PySem.W.instObj C s.heap.objs.size):=by
  have:=Zw (s.heap.push PySem.W.emptyDict) (o:=PySem.W.instObj C s.heap.objs.size) rfl
  rwa [Heap.size_push] at this
 have e3:(s.heap.push PySem.W.emptyDict).Ns s.heap.objs.size (fun _=>none):=⟨PySem.W.emptyDict,#[],_,e1,rfl,(fun e he=>absurd he (by simp)),fun _=>rfl⟩
 have I1:=I.laid (a:=s.heap.objs.size) (o:=.own (s.heap.objs.size+1)) (h':=s.heap.push PySem.W.emptyDict) (t':=s.toks) (fun b u q=>Zd _ q) (Zq _) ⟨_,e1⟩;refine I1.laid (a:=s.heap.objs.size+1) (o:=.ins C s.heap.objs.size []) (t':=s.toks) (fun b u q=>Zd _ q) (Nat.le_of_eq (Heap.size_push _ _)) ?_;have ne:s.heap.objs.size≠s.heap.objs.size+1:=Zz (Nat.lt_succ_self _);refine ⟨by rw [aO ne,bE],Nat.zero_le _,ne,e2,fun _=>none,(Heap.Ns1.of_empty e3).at fun o q=>Zd _ q,fun _=>True.intro,fun y hy=>absurd rfl hy⟩
theorem TQ {prog:Program} {w:World} {env:Env} {e:Expr} {f:Str} {pos:Pos} {s:Shared} {Q:Value→Shared→Prop} (hb:attributeBase e f env (eval e env)=eval e env)
  (h:wpAny (model prog w) A (eval e env) (fun o s₁=>wpAny (model prog w) A (getAttr o f true) Q E s₁) E s):wpAny (model prog w) A (eval (.Attribute e f pos) env) Q E s :=
 Attribute_any_ h (by rw [arm_eval_Attribute,hb])
end
noncomputable def aDY (K:Frag) (ta:TE) (f:Str):TE:=fun σ H Q=>ta σ H fun x H1=>∃ a C dx fs v,x=.ref a∧H1 a=some (.ins C dx fs)∧Cls K C∧kX K C f∧fs.lookup f=some v∧Q v H1
noncomputable def aDK (K:Frag) (ta tv:TE) (f:Str):TS:=fun D σ H=>tv σ H fun y H1=>ta σ H1 fun x H2=>∃ a C dx fs,x=.ref a∧H2 a=some (.ins C dx fs)∧Cls K C∧kX K C f∧fs.length<1000 ∧
 D.nx σ (aV H2 a (.ins C dx (gH f y fs)))
section
variable {X:Cx} {o e value:Expr} {f:Str} {pos pos' tpos:Pos} {ta tv:TE}
theorem Z4 (he:PE X e ta) (hb:attributeBase e f X.env (eval e X.env)=eval e X.env):PE X (.Attribute e f pos) (aDY X.K ta f):=by
 intro pins s σ H Q I h;refine TQ hb (bH (he pins s σ H _ I h) fun u s1 ⟨x,H1,I1,rx,a,C,dx,fs,v,ex,ea,c,n,l,q⟩=>?_);subst ex;obtain rfl:u=Value.ref a:=rx;exact HU I1 ea c n l fun u' s2 I2 ru=>⟨v,H1,I2,ru,q⟩
theorem aAW (ha:PE X o ta) (hv:PE X value tv) (hs:swapsWith value (some (.Attribute o f pos')) pos.line X.env=pure false):PS X (.Assign [.Attribute o f pos'] value pos) (aDK X.K ta tv f):=by
 intro pins s σ H D I h;refine plainObj_wpAny_Assign_Attribute (bH (hv pins s σ H _ I h) fun u s1 ⟨y,H1,I1,ry,q⟩=>bH (ha pins s1 σ H1 _ I1 q) fun ov s2 ⟨x,H2,I2,rx,a,C,dx,fs,ex,ea,c,n,l,q2⟩=>?_) hs;subst ex;obtain rfl:ov=Value.ref a:=rx;exact HP I2 ea c n l ry fun s3 I3=>⟨σ,_,I3,q2⟩
end
section
variable {X:Cx} {pins:List (Addr × Obj)} {σ:St} {H:Hp} {s:Shared} {A:Around} {E:Value→Shared→Prop} {Q:Value→Shared→Prop} {c:Value} {b:Bool}
inductive TyOf (K:Frag) (H:Hp):V→Value→Prop where
 | non:TyOf K H .non (.type "NoneType")
 | bl (x:Bool):TyOf K H (.bl x) (.type "bool")
 | int (i:Int):TyOf K H (.int i) (.type "int")
 | str (x:Str):TyOf K H (.str x) (.type "str")
 | flt (x:UInt64):TyOf K H (.flt x) (.type "float")
 | lst {a:Addr} {xs:List V} (e:H a=some (.lst xs)):TyOf K H (.ref a) (.type "list")
 | frz {a:Addr} {o:Obj} {xs:List V} (e:H a=some (.frz o (.lst xs))):TyOf K H (.ref a) (.type "list")
 | tup {a:Addr} {xs:List V} (e:H a=some (.tup xs)):TyOf K H (.ref a) (.type "tuple")
 | dK {a:Addr} {kvs:List (cN × V)} (e:H a=some (.dK kvs)):TyOf K H (.ref a) (.type "dict")
 | dT {a:Addr} {kvs:List (List cN × V)} (e:H a=some (.dT kvs)):TyOf K H (.ref a) (.type "dict")
 | ins {a C dx:Addr} {fs:List (Str × V)} (e:H a=some (.ins C dx fs)) (cl:Cls K C) (ha:findIn K (.ref C) "__class__"=some (some (.builtin "object.__class__")))
   (hn:PySem.W.specialIn K (.builtin "object.__class__") "__get__"=some (some (.builtin "getset_descriptor.__get__"))) (htk:PySem.W.takesIn K (.builtin "object.__class__")=some true)
   (hm:PySem.W.mroIn K C (.type "object")=some true):TyOf K H (.ref a) (.ref C)
end
structure Room (k:Nat) (A:Around):Prop where
 hd:A.handled=none
 dp:A.depth+3*k+5<recursionLimit
 un:A.units+16*k+200<cLine
 gs:A.guards=some []
theorem Room.mono {j k:Nat} {A:Around} (r:Room k A) (h:j≤k):Room j A:=⟨r.hd,by have:=r.dp; omega,by have:=r.un; omega,by first | exact r.gs | simpa [Around.deeper,Around.under,Code.guards,Code.isGuard,pushGuards,guardIds] using r.gs⟩
theorem Room.deeper {k:Nat} {A:Around} (r:Room (k+1) A) (env:Env):Room k (A.deeper env) :=
 ⟨r.hd,by have:=r.dp; show A.depth+1+3*k+5<_; omega,by have:=r.un; show A.units+3+16*k+200<_; omega,by first | exact r.gs | simpa [Around.deeper,Around.under,Code.guards,Code.isGuard,pushGuards,guardIds] using r.gs⟩
theorem HQ {A:Around} {C:Addr} {us:List Value} {kw:List (Str × Value)}:(A.under (.builtin "type.__call__" ⟨.ref C :: us,kw⟩)).depth=A.depth+1:=by
 first | rfl | simp [Around.under,Code.weight,Code.isCreation,Code.isGuard,Code.isCaller,Code.frames,Code.isFrame,guardIds]
theorem HS {A:Around} {C:Addr} {us:List Value} {kw:List (Str × Value)}:(A.under (.builtin "type.__call__" ⟨.ref C :: us,kw⟩)).units=A.units+1:=by
 first | rfl | simp [Around.under,Code.cUnits,Code.frames,Code.isFrame]
theorem Room.make {k:Nat} {A:Around} (r:Room (k+1) A) (C:Addr) (us:List Value) (kw:List (Str × Value)):Room k (A.under (.builtin "type.__call__" ⟨.ref C :: us,kw⟩)) :=
 ⟨r.hd,by have:=r.dp; rw [HQ]; omega,by have:=r.un; rw [HS]; omega,by first | exact r.gs | simpa [Around.deeper,Around.under,Code.guards,Code.isGuard,pushGuards,guardIds] using r.gs⟩
theorem Room.depth {k:Nat} {A:Around} (r:Room k A):A.depth<recursionLimit:=by have:=r.dp; omega
theorem Room.units {k:Nat} {A:Around} (r:Room k A):A.units+64<cLine:=by have:=r.un; omega
noncomputable def yV:TA:=fun _ H Q=>Q [] H
noncomputable def sY (ta:TE) (tr:TA):TA:=fun σ H Q=>ta σ H fun x H1=>tr σ H1 fun xs H2=>Q (x :: xs) H2
section
variable {X:Cx} {e:Expr} {es:List Expr} {te:TE} {t:TA} {pos:Pos}
theorem mL:PA X [] yV:=fun _ _ _ _ H Q I h=>Calls.spliced_nil ⟨[],H,I,.nil,h⟩
theorem jR (ha:PE X e te) (hr:PA X es t) (hs:starEach (e :: es) X.env=(false,eval e X.env) :: starEach es X.env:=by rfl):PA X (e :: es) (sY te t):=by
 intro pos pins s σ H Q I h;rw [hs];show wpAny _ _ (spliced ((false,eval e X.env) :: backTo pos (starEach es X.env))) _ _ s;refine Calls.spliced_cons (bH (ha pins s σ H _ I h) fun u s1 ⟨x,H1,I1,r1,q1⟩=>?_);exact bH (hr pos pins s1 σ H1 _ I1 q1) fun us s2 ⟨xs,H2,I2,r2,q2⟩=>⟨x :: xs,H2,I2,.cons r1 r2,q2⟩
noncomputable def aEw (t:TA):TE:=fun σ H Q=>t σ H fun xs H1=>xs.length≤sizeLine∧∀ p,H1 p=none→Q (.ref p) (aV H1 p (.tup xs))
noncomputable def aD9 (t:TA):TE:=fun σ H Q=>t σ H fun xs H1=>xs.length≤sizeLine∧∀ p,H1 p=none→Q (.ref p) (aV H1 p (.lst xs))
theorem W6 {x1} (h:PA X es t):PE X (.Tuple es x1 pos) (aEw t):=by
 intro pins s σ H Q I hq;refine wpAny_Tuple_spliced (bH (h pos pins s σ H _ I hq) fun us s1 ⟨xs,H1,I1,r,z,q⟩=>⟨by rw [← r.length]; exact z, ?_⟩);have hf:H1 s1.heap.objs.size=none:=I1.hok.fresh (Zq _);refine ⟨.ref s1.heap.objs.size,aV H1 s1.heap.objs.size (.tup xs),I1.laid (t':=s1.toks) (fun b u e=>Zd _ e) (Zq _) ?_,rfl,q _ hf⟩;exact ⟨z,us,r,⟨_,Zw _ rfl,rfl,_,rfl⟩⟩
theorem Y0 (h:PA X es t):PE X (.List es pos) (aD9 t):=by
 intro pins s σ H Q I hq;refine wpAny_List_spliced (bH (h pos pins s σ H _ I hq) fun us s1 ⟨xs,H1,I1,r,z,q⟩=>⟨by rw [← r.length]; exact z, ?_⟩);have hf:H1 s1.heap.objs.size=none:=I1.hok.fresh (Zq _);refine ⟨.ref s1.heap.objs.size,aV H1 s1.heap.objs.size (.lst xs),I1.laid (t':=s1.toks) (fun b u e=>Zd _ e) (Zq _) ?_,rfl,q _ hf⟩;exact ⟨z,us,0,r,Zw _ rfl⟩
end
abbrev Sp:=List V→Hp→VK→XK→Prop
abbrev sE:=List Env→Hp→Shared→XK→Value→Shared→Prop
structure Env0 (P:Program) (w:World) (K:Frag) (mg:Str→Option Value) (base:Heap) (A:Around) (outer:List Env) (s:Shared) (H:Hp):Prop where
 frames:A.frames=some outer
 mod:Mod K mg base
 bs:∀ b o,base.get? b=some o→s.heap.get? b=some o∧H b=none
 bsz:base.objs.size≤s.heap.objs.size
 funs:s.heap.FunFrames base outer
 frf:∀ b∈rH outer,H b=none
 hok:gU P w H s.heap
 bare:AllBare s.gens
def CE (outer:List Env) (P:Program) (w:World) (H:Hp) (s:Shared) (Q:VK) (u:Value) (s':Shared):Prop :=
 ∃ v H',s'.os=s.os∧AllBare s'.gens∧Un (rH outer) [] H H' s.heap s'.heap∧gU P w H' s'.heap∧bC v u∧Q v H'
def CR (CX:sE) (outer:List Env) (P:Program) (w:World) (H:Hp) (s:Shared) (Q:VK) (E:XK) (r:Result) (s':Shared):Prop :=
 match r with
 | .ok (.ret u)=>CE outer P w H s Q u s'
 | .ok _=>False
 | .error e=>CX outer H s E e s'
structure FnOk (P:Program) (w:World) (K:Frag) (mg:Str→Option Value) (base:Heap) (CX:sE) (k:Nat) (f:Addr) (fd:FuncData) (ps:List Str) (sp:Sp):Prop where
 len:∀ vs H Q E,sp vs H Q E→vs.length=ps.length
 run:∀ (A:Around) (outer:List Env) (s:Shared) (H:Hp) (args:Args) (us:List Value) (vs:List V) (Q:VK) (E:XK),Room k A→Env0 P w K mg base A outer s H→BindsTo s fd args (ps.zip us)→aT vs us→sp vs H Q E →
  codeAny (model P w) A (.call (.ref f) args) (CR CX outer P w H s Q E) s
theorem Env0.make {P:Program} {w:World} {K:Frag} {mg:Str→Option Value} {base:Heap} {A:Around} {outer:List Env} {s:Shared} {H:Hp} (e:Env0 P w K mg base A outer s H) (C:Addr) (us:List Value) (kw:List (Str × Value)) :
  Env0 P w K mg base (A.under (.builtin "type.__call__" ⟨.ref C :: us,kw⟩)) outer s H:=⟨by first | exact e.frames | (simpa [Around.under,Code.envs,Code.isFrame,pushEnvs] using e.frames),e.mod,e.bs,e.bsz,e.funs,e.frf,e.hok,e.bare⟩
section
variable {X:Cx} {pins:List (Addr × Obj)} {σ:St} {H:Hp} {s s':Shared}
theorem Inv.env0 (I:Inv X pins σ H s):Env0 X.prog X.w X.K X.mg X.base X.A X.stack s H :=
 ⟨I.ok.frames,I.ok.mod,I.bs,Zr I.ok.bsz I.sz,I.stack,I.stkFree,I.hok,I.bare⟩
theorem Inv.after {Q:VK} {u:Value} (I:Inv X pins σ H s) (h:CE X.stack X.prog X.w H s Q u s'):EP X pins σ Q u s':=by
 obtain ⟨v,H',os,bare,un,hok,r,q⟩:=h;obtain ⟨hh,g,d,t,os'⟩:=s';obtain rfl:os'=s.os:=os;exact ⟨v,H',I.call (h':=hh) (g':=g) (d':=d) (t':=t) (ch:=[]) un hok bare (fun b z=>absurd z (by simp)),r,q⟩
end
noncomputable def aCi (sp:Sp) (dvs:List V) (E:XK) (t:TA):TE:=fun σ H Q=>t σ H fun vs H1=>sp (vs ++ dvs) H1 Q E
noncomputable def ID (C:Addr) (m:Str) (sp:Sp) (dvs:List V) (E:XK) (ta:TE) (t:TA):TE:=fun σ H Q=>ta σ H fun x H1=>∃ a dx fs,x=.ref a∧H1 a=some (.ins C dx fs)∧fs.lookup m=none ∧
 t σ H1 fun vs H2=>sp (x :: (vs ++ dvs)) H2 Q E
noncomputable def aCu (C:Addr) (sp:Sp) (dvs:List V) (E:XK) (t:TA):TE:=fun σ H Q=>t σ H fun vs H1=>∀ x dx,H1 x=none→H1 dx=none→dx≠x →
 sp (.ref x :: (vs ++ dvs)) (aV (aV H1 dx (.own x)) x (.ins C dx [])) (fun v H2=>v=.non∧Q (.ref x) H2) E
def hE (K:Frag) (fd:FuncData) (ps:List Str) (ds:List Value):Prop :=
 ∀ (s:Shared) (us:List Value),K.In s.heap→(us ++ ds).length=ps.length→BindsTo s fd ⟨us,[]⟩ (ps.zip (us ++ ds))
theorem hE.all {K:Frag} {fd:FuncData} {ps:List Str} (h:∀ us:List Value,us.length=ps.length→bindArgs fd ⟨us,[]⟩=pure (ps.zip us)):hE K fd ps []:=fun s us _ hl=>by
 rw [List.append_nil] at hl ⊢;exact .of_eq (h us hl)
def mK (CX:sE) (X:Cx) (E:XK):Prop:=∀ (pins:List (Addr × Obj)) (σ:St) (H:Hp) (s:Shared) (e:Value) (s':Shared),Inv X pins σ H s→CX X.stack H s E e s'→X.xe e s'
section
variable {X:Cx} {CX:sE} {k:Nat} {f C:Addr} {fd:FuncData} {ps:List Str} {sp:Sp} {dvs:List V} {ds:List Value} {E:XK} {x m:Str} {p pos apos:Pos} {e o:Expr} {es:List Expr} {ta:TE} {t:TA}
theorem BM {pins:List (Addr × Obj)} {σ:St} {H:Hp} {s:Shared} {Q:VK} {us:List Value} {vs:List V} (F:FnOk X.prog X.w X.K X.mg X.base CX k f fd ps sp) (hr:Room k X.A) (hb:hE X.K fd ps ds) (hd:aT dvs ds) (hx:mK CX X E)
  (I:Inv X pins σ H s) (r:aT vs us) (h:sp (vs ++ dvs) H Q E):wpAny (model X.prog X.w) X.A (call (.ref f) us) (EP X pins σ Q) X.xe s:=by
 have r2:aT (vs ++ dvs) (us ++ ds):=r.append hd;have hl:(us ++ ds).length=ps.length:=by rw [← r2.length]; exact F.len _ _ _ _ h
 refine wpAny_call (codeAny_mono (F.run X.A X.stack s H ⟨us,[]⟩ (us ++ ds) (vs ++ dvs) Q E hr I.env0 (hb s us I.kIn hl) r2 h) fun r s' hq=>?_)
 cases r with
 | error e=>exact hx pins σ H s e s' I hq
 | ok fl =>
  cases fl with
  | ret u=>exact I.after hq
  | next=>exact False.elim hq
  | brk=>exact False.elim hq
  | cont=>exact False.elim hq
theorem VP (F:FnOk X.prog X.w X.K X.mg X.base CX k f fd ps sp) (hr:Room k X.A) (hg:Gl X x) (hm:X.mg x=some (.ref f)) (hk:PySem.W.keepIn X.K (.ref f)=true) (hb:hE X.K fd ps ds) (hd:aT dvs ds) (hx:mK CX X E)
  (ha:PA X (e :: es) t) (hdb:(x == ("__debug__":Str))=false:=by decide) (he:starEach (e :: es) X.env=(false,eval e X.env) :: starEach es X.env:=by rfl) (hpl:(backTo pos (starEach es X.env)).any (·.1)=false:=by rfl) :
  PE X (.Call (.Name x p) (e :: es) [] pos) (aCi sp dvs E t):=by
 intro pins s σ H Q I h;refine wpAny_Call_Name_kw (yA I hg hm ?_ hdb);refine PySem.W.callWith_K (h₀:=X.base) I.ok.mod.kin hk (bH (ha pos pins s σ H _ I h) fun us s1 ⟨vs,H1,I1,r,q⟩=>⟨I1.kIn, ?_⟩) he hpl;exact BM F hr hb hd hx I1 r q
theorem UX {pl:Sem Bool} (he:PE X o ta) (c:Cls X.K C) (hm:Meth X.K C m f) (F:FnOk X.prog X.w X.K X.mg X.base CX k f fd ps sp) (hr:Room k X.A) (hb:hE X.K fd ps ds) (hd:aT dvs ds) (hx:mK CX X E) (ha:PA X (e :: es) t)
  (hst:starEach (e :: es) X.env=(false,eval e X.env) :: starEach es X.env:=by rfl) (hpl:(backTo pos (starEach es X.env)).any (·.1)=false:=by rfl)
  (ht:eval (.Call (.Attribute o m apos) (e :: es) [] pos) X.env=(do
   let ov ← eval o X.env
   standAt apos.atName
   let (f,first) ← holding [ov] (getMethod ov m pl)
   callWith pos f first (backTo pos (starEach (e :: es) X.env)) (backToKw pos (keywordEach [] X.env))):=by rfl) :
  PE X (.Call (.Attribute o m apos) (e :: es) [] pos) (ID C m sp dvs E ta t):=by
 intro pins s σ H Q I h;refine PySem.W.methodCall_KW (pl:=pl) (bH (he pins s σ H _ I h) fun u s1 ⟨x,H1,I1,rx,a,dx,fs,ex,ea,l,q⟩=>?_) ht;subst ex;obtain rfl:u=Value.ref a:=rx;refine xB I1 ea c hm l ?_;refine PySem.W.callWith_K (first:=[.ref a]) (h₀:=X.base) I.ok.mod.kin hm.kp (bH (ha pos pins s1 σ H1 _ I1 q) fun us s2 ⟨vs,H2,I2,r,q2⟩=>⟨I2.kIn, ?_⟩) hst hpl;exact BM (us:=.ref a :: us) (vs:=.ref a :: vs) F hr hb hd hx I2 (.cons rfl r) q2
theorem OU {pl:Sem Bool} (he:PE X o ta) (c:Cls X.K C) (hm:Meth X.K C m f) (F:FnOk X.prog X.w X.K X.mg X.base CX k f fd ps sp) (hr:Room k X.A) (hb:hE X.K fd ps ds) (hd:aT dvs ds) (hx:mK CX X E)
  (ht:eval (.Call (.Attribute o m apos) [] [] pos) X.env=(do
   let ov ← eval o X.env
   standAt apos.atName
   let (f,first) ← holding [ov] (getMethod ov m pl)
   callWith pos f first (backTo pos (starEach [] X.env)) (backToKw pos (keywordEach [] X.env))):=by rfl) :
  PE X (.Call (.Attribute o m apos) [] [] pos) (ID C m sp dvs E ta yV):=by
 intro pins s σ H Q I h;refine PySem.W.methodCall_KW (pl:=pl) (bH (he pins s σ H _ I h) fun u s1 ⟨x,H1,I1,rx,a,dx,fs,ex,ea,l,q⟩=>?_) ht;subst ex;obtain rfl:u=Value.ref a:=rx;refine xB I1 ea c hm l ?_;exact PySem.W.callWith_K0 (first:=[.ref a]) I1.kIn hm.kp (BM (us:=[.ref a]) (vs:=[.ref a]) F hr hb hd hx I1 (.cons rfl .nil) q)
structure Mk (K:Frag) (C f:Addr):Prop where
 makes:PySem.W.makesIn K C=true
 init:findIn K (.ref C) "__init__"=some (some (.ref f))
 fn:PySem.W.isFn K (.ref f)=true
 kp:PySem.W.keepIn K (.ref C)=true
theorem NN {pins:List (Addr × Obj)} {σ:St} {H:Hp} {s:Shared} {Q:VK} {us:List Value} {vs:List V} (M:Mk X.K C f) (F:FnOk X.prog X.w X.K X.mg X.base CX k f fd ps sp) (hr:Room (k+1) X.A) (hb:hE X.K fd ps ds) (hd:aT dvs ds)
  (hx:mK CX X E) (I:Inv X pins σ H s) (r:aT vs us)
  (h:∀ x dx,H x=none→H dx=none→dx≠x→sp (.ref x :: (vs ++ dvs)) (aV (aV H dx (.own x)) x (.ins C dx [])) (fun v H2=>v=.non∧Q (.ref x) H2) E) :
  wpAny (model X.prog X.w) X.A (call (.ref C) us) (EP X pins σ Q) X.xe s:=by
 have hq:=h (s.heap.objs.size+1) s.heap.objs.size (I.hok.fresh (Nat.le_succ _)) (I.hok.fresh (Zq _)) (Zz (Nat.lt_succ_self _));have I2:=Inv.made (C:=C) I;have r2:aT (V.ref (s.heap.objs.size+1) :: (vs ++ dvs)) (Value.ref (s.heap.objs.size+1) :: (us ++ ds)):=.cons rfl (r.append hd)
 have hl:(Value.ref (s.heap.objs.size+1) :: us ++ ds).length=ps.length:=by
  have e:=r2.length;rw [F.len _ _ _ _ hq] at e;exact e.symm
 refine wpAny_call (NS (f:=f) I.kIn M.makes M.init (beq_iff_eq.mp M.fn) (codeAny_mono (F.run _ X.stack _ _ ⟨Value.ref (s.heap.objs.size+1) :: us,[]⟩ (Value.ref (s.heap.objs.size+1) :: (us ++ ds)) _ _ E (hr.make C us [])
  (I2.env0.make C us []) (hb _ (Value.ref (s.heap.objs.size+1) :: us) I2.kIn hl) r2 hq) fun r s' hq'=>?_))
 cases r with
 | error e=>exact hx pins σ _ _ e s' I2 hq'
 | ok fl =>
  cases fl with
  | ret u =>
   obtain ⟨v,H',I3,rv,ev,q3⟩:=I2.after hq';subst ev;exact ⟨rv,⟨V.ref (s.heap.objs.size+1),H',I3,rfl,q3⟩⟩
  | next=>exact False.elim hq'
  | brk=>exact False.elim hq'
  | cont=>exact False.elim hq'
theorem WL (M:Mk X.K C f) (F:FnOk X.prog X.w X.K X.mg X.base CX k f fd ps sp) (hr:Room (k+1) X.A) (hg:Gl X x) (hm:X.mg x=some (.ref C)) (hb:hE X.K fd ps ds) (hd:aT dvs ds) (hx:mK CX X E)
  (ha:PA X (e :: es) t) (hdb:(x == ("__debug__":Str))=false:=by decide) (he:starEach (e :: es) X.env=(false,eval e X.env) :: starEach es X.env:=by rfl) (hpl:(backTo pos (starEach es X.env)).any (·.1)=false:=by rfl) :
  PE X (.Call (.Name x p) (e :: es) [] pos) (aCu C sp dvs E t):=by
 intro pins s σ H Q I h;refine wpAny_Call_Name_kw (yA I hg hm ?_ hdb);refine PySem.W.callWith_K (h₀:=X.base) I.ok.mod.kin M.kp (bH (ha pos pins s σ H _ I h) fun us s1 ⟨vs,H1,I1,r,q⟩=>⟨I1.kIn, ?_⟩) he hpl;exact NN M F hr hb hd hx I1 r q
end
def PK (X:Cx) (kws:List Keyword) (t:TA):Prop :=
 ∀ (pos:Pos) (pins:List (Addr × Obj)) (s:Shared) (σ:St) (H:Hp) (Q:List V→Hp→Prop),Inv X pins σ H s→t σ H Q→wpAny (model X.prog X.w) X.A (evalAll ((backToKw pos (keywordEach kws X.env)).map (·.2))) (AP X pins σ Q) X.xe s
section
variable {X:Cx} {CX:sE} {k:Nat} {f C:Addr} {fd:FuncData} {ps ks:List Str} {sp:Sp} {E:XK} {x m:Str} {p pos apos kpos:Pos} {e o:Expr} {es:List Expr} {kws:List Keyword} {te ta:TE} {t tk:TA} {nm:Option Str}
theorem YR:PK X [] yV:=fun _ _ _ _ H Q I h=>wpAny_evalAll_nil ⟨[],H,I,.nil,h⟩
theorem VD (ha:PE X e te) (hr:PK X kws t):PK X (⟨nm,e,kpos⟩ :: kws) (sY te t):=by
 intro pos pins s σ H Q I h;show wpAny _ _ (evalAll ((do let v ← eval e X.env; standAt pos; pure v) :: (backToKw pos (keywordEach kws X.env)).map (·.2))) _ _ s;refine wpAny_evalAll_cons (Zt (bH (ha pins s σ H _ I h) fun u s1 ⟨x,H1,I1,r1,q1⟩=>Zt (wpAny_standAt (Zu ?_))));exact bH (hr pos pins s1 σ H1 _ I1 q1) fun us s2 ⟨xs,H2,I2,r2,q2⟩=>⟨x :: xs,H2,I2,.cons r1 r2,q2⟩
structure KBinds (K:Frag) (fd:FuncData) (ps ks:List Str) (g:List Value→List Value→List Value) (gV:List V→List V→List V):Prop where
 to:∀ (s:Shared) (us ws:List Value),K.In s.heap→(g us ws).length=ps.length→BindsTo s fd ⟨us,ks.zip ws⟩ (ps.zip (g us ws))
 rel:∀ {vs:List V} {us:List Value} {zs:List V} {ws:List Value},aT vs us→aT zs ws→aT (gV vs zs) (g us ws)
variable {g:List Value→List Value→List Value} {gV:List V→List V→List V}
end
structure FnScope (N P:List Str) (sc:Scope):Prop where
 kind:sc.kind=.function
 co:sc.isCoroutine=false
 gen:sc.isGenerator=false
 nd:N.Nodup
 pre:N.take P.length=P
 par:∀ x∈P,sc.names.lookup x=some .local∨sc.names.lookup x=some .cell
 nofree:∀ y∈sc.names,y.2≠.free
theorem y3 {kindOf:Str→Option NameKind} {x:Str}:∀ {binds:List (Str × Value)} {m:Str→Option Value},(∀ v,(x,v) ∉ binds)→bindL kindOf binds m x=m x
 | [],_,_=>rfl
 | (n,v) :: r,m,h=>by
  unfold bindL;rw [y3 fun w hw=>h w (Ze _ hw)];split
  ·have:x≠n:=by rintro rfl; exact h v zh
   simp [this]
  ·rfl
theorem AG {kindOf:Str→Option NameKind} {x:Str}:∀ {binds:List (Str × Value)} {m:Str→Option Value},(∀ v,(x,v) ∉ binds)→bindC kindOf binds m x=m x
 | [],_,_=>rfl
 | (n,v) :: r,m,h=>by
  unfold bindC;rw [AG fun w hw=>h w (Ze _ hw)];split
  ·rfl
  ·have:x≠n:=by rintro rfl; exact h v zh
   simp [this]
theorem z8 {kindOf:Str→Option NameKind} {x:Str} {v:Value}:∀ {P:List Str} {vs:List Value} {i:Nat} {m:Str→Option Value},P.Nodup→P[i]?=some x→vs[i]?=some v→kindOf x=some .local →
  bindL kindOf (P.zip vs) m x=some v
 | [],_,_,_,_,h,_,_=>by simp at h
 | _ :: _,[],_,_,_,_,h,_=>by simp at h
 | p :: P,w :: vs,0,m,nd,h1,h2,hk=>by
  simp at h1 h2; subst h1; subst h2;show bindL kindOf ((p,w) :: P.zip vs) m p=_;unfold bindL;rw [y3 fun v hv=>(List.nodup_cons.mp nd).1 (List.of_mem_zip hv).1,Zo hk];simp
 | p :: P,w :: vs,i+1,m,nd,h1,h2,hk=>by
  show bindL kindOf ((p,w) :: P.zip vs) m x=_;unfold bindL;exact z8 (i:=i) (List.nodup_cons.mp nd).2 (by simpa using h1) (by simpa using h2) hk
theorem AH {kindOf:Str→Option NameKind} {x:Str} {v:Value}:∀ {P:List Str} {vs:List Value} {i:Nat} {m:Str→Option Value},P.Nodup→P[i]?=some x→vs[i]?=some v→kindOf x≠some .local →
  bindC kindOf (P.zip vs) m x=some v
 | [],_,_,_,_,h,_,_=>by simp at h
 | _ :: _,[],_,_,_,_,h,_=>by simp at h
 | p :: P,w :: vs,0,m,nd,h1,h2,hk=>by
  simp at h1 h2; subst h1; subst h2;show bindC kindOf ((p,w) :: P.zip vs) m p=_;unfold bindC;rw [AG fun v hv=>(List.nodup_cons.mp nd).1 (List.of_mem_zip hv).1,Zp hk];simp
 | p :: P,w :: vs,i+1,m,nd,h1,h2,hk=>by
  show bindC kindOf ((p,w) :: P.zip vs) m x=_;unfold bindC;exact AH (i:=i) (List.nodup_cons.mp nd).2 (by simpa using h1) (by simpa using h2) hk
noncomputable def cL (N:List Str) (vs:List V):St:=vs.map some ++ List.replicate (N.length - vs.length) none
noncomputable def sT (CX:sE) (P:Program) (w:World) (K:Frag) (mg:Str→Option Value) (base:Heap) (N:List Str) (qual:Str) (scope:Scope) (f:Addr) (cd:Value) (A:Around) (outer:List Env) (s:Shared) (H:Hp) (E:XK):Cx where
 prog:=P
 w:=w
 K:=K
 mg:=mg
 base:=base
 A:=A.deeper (envOfC qual scope s.heap.objs.size f cd)
 N:=N
 s₀:=s
 H₀:=H
 env:=envOfC qual scope s.heap.objs.size f cd
 outer:=outer
 stack:=envOfC qual scope s.heap.objs.size f cd :: outer
 ex:=[]
 calm:=true
 fn:=fun _=>true
 pn:=[]
 xe:=fun e s'=>wpAny (model P w) (A.deeper (envOfC qual scope s.heap.objs.size f cd)) (leaving (envOfC qual scope s.heap.objs.size f cd) e) (fun _ s''=>CX outer H s E e s'') (fun e' s''=>CX outer H s E e' s'') s'
theorem CG {sc:Scope} {n:Nat} {x:Str} (h:sc.names.lookup x=some .cell):∃ c,(cellsFrom n sc.names []).lookup x=some c:=by
 have q:=PySem.W.cellsFrom_some sc.names n [] (.inl h);exact Option.isSome_iff_exists.mp q
theorem KD {CX:sE} {P:Program} {w:World} {K:Frag} {mg:Str→Option Value} {base:Heap} {N ps:List Str} {qual:Str} {scope:Scope} {f:Addr} {cd:Value} {A:Around} {outer:List Env} {s s1:Shared} {H:Hp} {E:XK} {us:List Value} {vs:List V}
  (S:FnScope N ps scope) (hd:A.handled=none) (e0:Env0 P w K mg base A outer s H) (hl:vs.length=ps.length) (r:aT vs us)
  (x:InCallC s s.heap.objs.size (bindL (envOfC qual scope s.heap.objs.size f cd).kindOf (ps.zip us) fun _=>none) (cellsFrom (s.heap.objs.size+1) scope.names []) (bindC (envOfC qual scope s.heap.objs.size f cd).kindOf (ps.zip us) fun _=>none) s1) :
  Inv (sT CX P w K mg base N qual scope f cd A outer s H E) [] (cL N vs) H s1:=by
 have hpl:ps.length≤N.length:=by have:=congrArg List.length S.pre; rw [List.length_take] at this; omega
 obtain ⟨h1,tk,rfl,hk⟩:=x.done;have noA:∀ b:Addr,b ∉ (sT CX P w K mg base N qual scope f cd A outer s H E).ex:=fun b z=>absurd (show b∈([]:List Addr) from z) (by simp)
 refine ⟨⟨e0.mod,S.kind,rfl,rfl,Zq _,fun y z c h1 h2=>?_,fun y hy=>?_,fun y c _ h=>?_,fun _=>hd,Around.frames_deeper e0.frames,.inr ⟨rfl,rfl⟩,fun b z=>absurd z (noA b),e0.bs,e0.bsz,fun b _ _=>noA b,fun b z=>absurd z (noA b),e0.funs,e0.frf⟩,
  rfl,e0.bare,Un.kept hk,⟨_,x.toInCall.ns,fun i y v h1 h2 h3=>?_⟩,fun y c h=>⟨_,x.cell y c h⟩,e0.hok.fresh (Zq _),fun y c h=>?_,fun p hp=>absurd (show p∈([]:List (Addr × Obj)) from hp) (by simp),e0.hok.kept hk, ?_⟩
 ·exact name_of_addr x.apart (PySem.mem_of_lookup h1) (PySem.mem_of_lookup h2)
 ·have hy:scope.names.lookup y=some .cell∨scope.names.lookup y=some .free:=hy;rcases hy with hy | hy
  ·exact CG hy
  ·exact absurd rfl (S.nofree _ (PySem.mem_of_lookup hy))
 ·exact Nat.le_of_lt (x.above y c (PySem.mem_of_lookup h))
 ·have hi:i<vs.length:=by
   unfold cL at h2;by_cases hi:i<vs.length
   ·exact hi
   ·rw [List.getElem?_append_right (by simpa using hi)] at h2;rw [List.getElem?_replicate] at h2;split at h2 <;> cases h2
  have ha:vs[i]?=some v:=by
   unfold cL at h2;rw [List.getElem?_append_left (by simpa using hi),Zh] at h2
   cases e:vs[i]? with
   | none=>rw [e] at h2; cases h2
   | some a=>rw [e] at h2; cases h2; rfl
  obtain ⟨u,hu,rv⟩:=r.get ha
  have hp:ps[i]?=some y:=by
   rw [← S.pre,List.getElem?_take_of_lt (by omega)]; exact h1
  have ndP:ps.Nodup:=by rw [← S.pre]; exact S.nd.sublist (List.take_sublist _ _)
  refine ⟨u,rv, ?_⟩;rcases S.par y (zj hp) with k | k
  ·exact .inl ⟨k,z8 ndP hp hu k⟩
  ·obtain ⟨c,e⟩:=CG (n:=s.heap.objs.size+1) k;refine .inr ⟨.inl k,c,e, ?_⟩;have q:=x.cell y c e;rw [AH ndP hp hu (by show scope.names.lookup y≠_; rw [k]; decide)] at q;exact q
 ·exact e0.hok.fresh (Nat.le_of_lt (x.above y c (PySem.mem_of_lookup h)))
 ·unfold cL;show _=N.length;rw [Za,List.length_map,List.length_replicate];omega
theorem aBv {CX:sE} {P:Program} {w:World} {K:Frag} {mg:Str→Option Value} {base:Heap} {k:Nat} {f:Addr} {name qual:Str} {params:Arguments} {body:List Stmt} {scope:Scope} {dV kV doc pm cdv ct oc:Value} {an od:Option Addr}
  {osl:Array (Option Value)} {N ps:List Str} {sp:Sp} (lk:K.lookup f=some ⟨oc,od,.func (PySem.W.fnOf name qual params body scope dV kV doc pm an cdv ct),osl⟩) (hcd:PySem.W.codeIn K cdv qual=true) (S:FnScope N ps scope)
  (len:∀ vs H Q E,sp vs H Q E→vs.length=ps.length)
  (hbody:∀ (A:Around) (outer:List Env) (s:Shared) (H:Hp) (vs:List V) (Q:VK) (E:XK),Room k (A.deeper (envOfC qual scope s.heap.objs.size f cdv))→sp vs H Q E →
   ∃ t,hW (sT CX P w K mg base N qual scope f cdv A outer s H E) body t∧t { nx:=fun _ H'=>Q .non H',rt:=Q } (cL N vs) H) :
  FnOk P w K mg base CX (k+1) f (PySem.W.fnOf name qual params body scope dV kV doc pm an cdv ct) ps sp:=by
 refine ⟨len,fun A outer s H args us vs Q E hr e0 hb r hsp=>?_⟩;have hl:=len _ _ _ _ hsp;have KX:K.In s.heap:=e0.mod.kin.keeps fun b o e=>(e0.bs b o e).1
 have lim:s.heap.NoLimit:=e0.mod.nolimit.keeps fun b o e=>(e0.bs b o e).1
 have hkind:∀ y∈ps.zip us,scope.names.lookup y.1=some .local∨(scope.names.lookup y.1=some .cell∧((cellsFrom (s.heap.objs.size+1) scope.names []).lookup y.1).isSome=true):=fun ⟨n,v⟩ hy=>by
  rcases S.par n (List.of_mem_zip hy).1 with q | q
  ·exact .inl q
  ·exact .inr ⟨q,PySem.W.cellsFrom_some _ _ _ (.inl q)⟩
 refine codeAny_call_function hr.depth (KX _ _ lk) rfl S.co S.gen rfl (PySem.W.codeRec_of KX hcd) (hb _ _ _ _ ?_);refine wpAny_newFunctionEnv_cells S.kind hkind fun env he s1 x=>?_
 subst he;refine ⟨lim.keeps x.toInCall.keep,codeAny_func ?_⟩;obtain ⟨t,ht,hq⟩:=hbody A outer s H vs Q E (hr.deeper _) hsp;have I:Inv (sT CX P w K mg base N qual scope f cdv A outer s H E) [] (cL N vs) H s1:=KD S hr.hd e0 hl r x;refine wpAny_mono (ht [] s1 (cL N vs) H _ I hq) (fun fl s' hs=>?_) fun e s' hs=>hs
 have fin:∀ {σ':St} {H':Hp} {v:V} {u:Value},Inv (sT CX P w K mg base N qual scope f cdv A outer s H E) [] σ' H' s'→bC v u→Q v H'→CE outer P w H s Q u s' :=
  fun {σ' H' v u} J rv q=>⟨v,H',J.os,J.bare,J.base,J.hok,rv,q⟩
 cases fl with
 | ret u =>
  obtain ⟨v,σ',H',J,rv,q⟩:=hs;exact fin J rv q
 | next =>
  obtain ⟨σ',H',J,q⟩:=hs;exact fin (v:=V.non) (u:=Value.none) J rfl q
 | brk =>
  obtain ⟨_,_,_,q⟩:=hs;exact False.elim q
 | cont =>
  obtain ⟨_,_,_,q⟩:=hs;exact False.elim q
section
variable {X:Cx} {x:Str} {p pos:Pos} {e:Expr} {es:List Expr} {t:TA} {id T:String} {r:List V→Hp→VK→Prop}
noncomputable def tCB (r:List V→Hp→VK→Prop) (t:TA):TE:=fun σ H Q=>t σ H fun vs H1=>r vs H1 Q
theorem vE (hc:eJ X (.builtin id) r) (hg:Gl X x) (hm:X.mg x=none) (hv:bootBuiltins x=some (.builtin id)) (ha:PA X (e :: es) t) (hn:x≠"__name__":=by decide) (hdb:(x == ("__debug__":Str))=false:=by decide)
  (he:starEach (e :: es) X.env=(false,eval e X.env) :: starEach es X.env:=by rfl) (hpl:(backTo pos (starEach es X.env)).any (·.1)=false:=by rfl):PE X (.Call (.Name x p) (e :: es) [] pos) (tCB r t):=by
 intro pins s σ H Q I h;refine wpAny_Call_Name_kw (l8 I hg hm hv ?_ hn hdb);exact PyProof.Rows.callWith_builtin1 (bH (ha pos pins s σ H _ I h) fun us s1 ⟨vs,H1,I1,r1,q1⟩=>hc pins s1 σ H1 vs us Q I1 r1 q1) he hpl
theorem nK (hc:eJ X (.type T) r) (hg:Gl X x) (hm:X.mg x=none) (hv:bootBuiltins x=some (.type T)) (ha:PA X (e :: es) t) (hn:x≠"__name__":=by decide) (hdb:(x == ("__debug__":Str))=false:=by decide)
  (he:starEach (e :: es) X.env=(false,eval e X.env) :: starEach es X.env:=by rfl) (hpl:(backTo pos (starEach es X.env)).any (·.1)=false:=by rfl):PE X (.Call (.Name x p) (e :: es) [] pos) (tCB r t):=by
 intro pins s σ H Q I h;refine wpAny_Call_Name_kw (l8 I hg hm hv ?_ hn hdb);exact PyProof.Rows.callWith_type1 (bH (ha pos pins s σ H _ I h) fun us s1 ⟨vs,H1,I1,r1,q1⟩=>hc pins s1 σ H1 vs us Q I1 r1 q1) he hpl
end
end L2
namespace HT
open PySem PyProof.Rows
section
open PySem.SeqAt
open PySem.AutoSeq1 (wpAny_loadPart')
open PySem.MeetsSeq PySem.MeetsSeq2 PySem.MeetsSeq3
end
section
variable {prog:Program} {w:World} {A:Around} {E:Value→Shared→Prop} {s:Shared}
theorem SX {t b:Addr} {vs ws:List Value} {Q:Value→Shared→Prop} (ht:IsTup s.heap t vs.toArray) (hb:IsTup s.heap b ws.toArray) (hv:vs≠[])
  (h1:ws=[]→Q (.ref t) s) (h2:ws≠[]→Q (.ref s.heap.objs.size) { s with heap:=s.heap.push { cls:=.type "tuple",data:=.seq (vs ++ ws).toArray } })
  (hsz:vs.length+ws.length≤sizeLine):wpAny (model prog w) A (binaryOp .Add (.ref t) (.ref b)) Q E s:=by
 obtain ⟨⟨cls,dd,data,sl⟩,ho,hc,n,hd⟩:=id ht;obtain ⟨⟨cls2,dd2,data2,sl2⟩,ho2,hc2,n2,hd2⟩:=id hb;simp only at hc hd hc2 hd2;subst hc hd hc2 hd2;have e:vs.toArray ++ ws.toArray=(vs ++ ws).toArray:=by simp
 by_cases hw:ws=[]
 ·exact concat_meets ⟨_,ho,rfl⟩ ⟨_,ho2,rfl⟩ noFill_tuple_add seq_tuple_add PySem.F.slot_tuple_add PySem.F.entry_tuple_add (PySem.F.args_tuple_add_2 _ _)
   (tuple_addW1 t b vs.toArray ws.toArray n n2 dd dd2 sl sl2 (by simpa using hv) (by simp [hw])) ⟨ho,ho2,h1 hw⟩
 ·refine concat_meets ⟨_,ho,rfl⟩ ⟨_,ho2,rfl⟩ noFill_tuple_add seq_tuple_add PySem.F.slot_tuple_add PySem.F.entry_tuple_add (PySem.F.args_tuple_add_2 _ _)
   (tuple_addW2 t b vs.toArray ws.toArray n n2 dd dd2 sl sl2 (by simpa using hv) (by simpa using hw) (by rw [Zi,Zi]; exact hsz)) ⟨ho,ho2, ?_⟩
  rw [e];exact h2 hw
noncomputable def bT (n d:Nat):Option Int→Nat
 | none=>d
 | some v=>if v<0 then (v+(n:Int)).toNat else min v.toNat n
theorem pH (n d:Nat):bT n d none=d:=rfl
theorem oU (n d k:Nat):bT n d (some (k:Int))=min k n:=by
 show (if (k:Int)<0 then ((k:Int)+(n:Int)).toNat else min (k:Int).toNat n)=min k n;rw [Zp (by omega),Int.toNat_natCast]
theorem aAp (n d:Nat) (hd:d≤n) (o:Option Int):bT n d o≤n:=by
 cases o with
 | none=>exact hd
 | some v =>
  show (if v<0 then (v+(n:Int)).toNat else min v.toNat n)≤n;by_cases hv:v<0
  ·rw [Zo hv]; omega
  ·rw [Zp hv]; exact Nat.min_le_right _ _
theorem FW (v:Int) (n d:Nat):(if v<0 then max (v+(n:Int)) 0 else min v (n:Int))=((bT n d (some v):Nat):Int):=by
 show (if v<0 then max (v+(n:Int)) 0 else min v (n:Int))=(((if v<0 then (v+(n:Int)).toNat else min v.toNat n):Nat):Int);by_cases hv:v<0
 ·simp only [Zo hv]; omega
 ·simp only [Zp hv]; omega
theorem IE (lo hi:Option Int) (n:Nat):Builtin.Slice.sliceAdjust lo hi 1 (n:Int)=(((bT n 0 lo:Nat):Int),((bT n n hi:Nat):Int)):=by
 have h1:¬ ((1:Int)<0):=by omega
 unfold Builtin.Slice.sliceAdjust;simp only [h1,if_false];refine Prod.ext ?_ ?_
 ·cases lo with
  | none=>rfl
  | some v=>exact FW v n 0
 ·cases hi with
  | none=>rfl
  | some v=>exact FW v n n
theorem G8 (i j:Nat):Builtin.Slice.slicePlaces (i:Int) (j:Int) 1=j - i:=by
 unfold Builtin.Slice.slicePlaces;have h1:(1:Int) > 0:=by omega
 simp only [h1,if_true,Int.ediv_one]
 split <;> omega
theorem wG {v:Value} {o:Option Int} {Q:Option Int→Shared→Prop} (p:IsPart v o) (h:Q o s):wpAny (model prog w) A (Builtin.Slice.slicePartIndex v) Q E s:=by
 cases p with
 | none=>exact slicePart_none h
 | int i t=>exact slicePart_int h
theorem vN {sl:Addr} {vl vu:Value} {lo hi:Option Int} {n:Nat} {Q:Int × Int × Nat→Shared→Prop} (hs:s.heap.IsSliceOf sl vl vu .none) (pl:IsPart vl lo) (pu:IsPart vu hi)
  (h:Q (((bT n 0 lo:Nat):Int),1,bT n n hi - bT n 0 lo) s):wpAny (model prog w) A (Builtin.Slice.sliceApplied (.ref sl) (pure (n:Int))) Q E s:=by
 obtain ⟨os,hos,hcs,hds⟩:=id hs;unfold Builtin.Slice.sliceApplied Builtin.Slice.sliceFields;refine Zt (Zt (wpAny_field hos hds (x:=vl) rfl (Zt (wpAny_field hos hds (x:=vu) rfl (Zt (wpAny_field hos hds (x:=.none) rfl (Zu ?_)))))));refine Zt (slicePart_none ?_);show wpAny _ _ (if ((1:Int) == 0)=true then _ else _) _ _ s;rw [Zp (by decide)];refine Zt (wG pl (Zt (wG pu (Zt (Zu ?_)))));show wpAny _ _ (match Builtin.Slice.sliceAdjust lo hi 1 (n:Int) with | (lo,hi)=>pure (lo,(1:Int),Builtin.Slice.slicePlaces lo hi 1)) _ _ s;rw [IE lo hi n];show wpAny _ _ (pure (((bT n 0 lo:Nat):Int),(1:Int),Builtin.Slice.slicePlaces ((bT n 0 lo:Nat):Int) ((bT n n hi:Nat):Int) 1)) _ _ s;rw [G8];exact Zu h
theorem MT (xs:Array Value) (i k:Nat):((List.range k).filterMap fun (m:Nat)=>xs[((i:Int)+(m:Int)*1).toNat]?).toArray=((xs.toList.drop i).take k).toArray:=by
 have e:(fun (m:Nat)=>xs[((i:Int)+(m:Int)*1).toNat]?)=fun m=>xs[i+m]?:=by
  funext m
  have:((i:Int)+(m:Int)*1).toNat=i+m:=by omega
  rw [this]
 rw [e]
 have:=pick_run xs i k
 rw [List.filterMap_map] at this;have e2:((fun x=>xs[x]?) ∘ fun x=>i+x)=fun m=>xs[i+m]?:=rfl
 rw [e2] at this;rw [this]
theorem tY {t sl:Addr} {items:Array Value} {vl vu:Value} {lo hi:Option Int} {Q:Value→Shared→Prop} (ht:IsTup s.heap t items) (hs:s.heap.IsSliceOf sl vl vu .none) (pl:IsPart vl lo) (pu:IsPart vu hi)
  (hw:¬ (bT items.size 0 lo=0∧bT items.size items.size hi=items.size))
  (h:Q (.ref s.heap.objs.size) { s with heap:=s.heap.push { cls:=.type "tuple",data:=.seq ((items.toList.drop (bT items.size 0 lo)).take (bT items.size items.size hi - bT items.size 0 lo)).toArray } })
  (hsz:items.size≤sizeLine):wpAny (model prog w) A (getItem (.ref t) (.ref sl)) Q E s:=by
 have htake:sizeOk (.seq ((items.toList.drop (bT items.size 0 lo)).take (bT items.size items.size hi - bT items.size 0 lo)).toArray):=by
  show ((items.toList.drop (bT items.size 0 lo)).take (bT items.size items.size hi - bT items.size 0 lo)).toArray.size≤sizeLine;rw [Zi,List.length_take,List.length_drop,Array.length_toList];omega
 have hj:bT items.size items.size hi≤items.size:=aAp _ _ (Zq _) hi;obtain ⟨os,hos,hcs,hds⟩:=id hs;have hTs:s.TypeIs (.ref sl) "slice":=⟨os,hos,hcs⟩
 unfold getItem
 try with_reducible refine wpAny_holding ?_
 first | refine Zt (Zu ?_) | skip
 refine Zt (wpAny_sequenceKey ht.typeIs (by decide) ?_)
 refine Zt (wpAny_callSpecial?_slot (name:=Str.ofString "__getitem__") ht.typeIs PyProof.Rows.slot_tuple_getitem
  (wpAny_call_entry PyProof.Rows.slot_tuple_getitem ht.typeIs entry_tuple_getitem ?_ (args_tuple_getitem _ _)))
 show wpAny _ _ (Builtin.Tuple.tupleItemsOf (.ref t) >>= _) _ _ s;refine Zt (tupleItemsOf_ ht ?_);refine Zt (wpAny_typeOf hTs ?_);rw [Zo (by decide)];refine Zt (vN hs pl pu ?_)
 have hno:¬ ((((bT items.size 0 lo:Nat):Int) == 0 && (1:Int) == 1 && (bT items.size items.size hi - bT items.size 0 lo) == items.size)=true):=by
  intro q;rw [ZB,ZB] at q;have q1:((bT items.size 0 lo:Nat):Int)=0:=Zy q.1.1;have q2:bT items.size items.size hi - bT items.size 0 lo=items.size:=Zy q.2;exact hw ⟨by omega,by omega⟩
 show wpAny _ _ (if (((bT items.size 0 lo:Nat):Int) == 0 && (1:Int) == 1 && (bT items.size items.size hi - bT items.size 0 lo) == items.size)=true then _ else _) _ _ s;rw [Zp hno,MT]
 first
  | exact Zt (m:=Builtin.Tuple.tupleExact _) (wpAny_newObj_type (Zu ⟨_,rfl,Zu h⟩) htake)
  | exact Zt (m:=Builtin.Tuple.tupleExact _) (wpAny_newObj_type (Zt (Zu (Zu ⟨_,rfl,Zu h⟩))) htake)
  | exact Zt (Zt (m:=Builtin.Tuple.tupleExact _) (wpAny_newObj_type (Zu (Zu ⟨_,rfl,Zu h⟩)) htake))
  | exact Zt (Zt (m:=Builtin.Tuple.tupleExact _) (wpAny_newObj_type (Zu ⟨_,rfl,Zu h⟩) htake))
end
end HT
namespace L2
open PySem PySem.Spec PyProof.Rows
abbrev TO:=St→Hp→(Option Int→Hp→Prop)→Prop
def PO (X:Cx) (e:Option Expr) (t:TO):Prop :=
 ∀ (pins:List (Addr × Obj)) (s:Shared) (σ:St) (H:Hp) (Q:Option Int→Hp→Prop),Inv X pins σ H s→t σ H Q →
  wpAny (model X.prog X.w) X.A (evalPart e X.env) (fun u s'=>∃ o H',Inv X pins σ H' s'∧IsPart u o∧Q o H') X.xe s
noncomputable def R8:TO:=fun _ H Q=>Q none H
noncomputable def aCc (t:TE):TO:=fun σ H Q=>t σ H fun x H1=>∃ i,x=.int i∧Q (some i) H1
section
variable {X:Cx} {e:Expr} {te:TE} {lo hi:Option Expr} {tl th:TO} {pos p2:Pos}
theorem VR:PO X none R8:=by
 intro pins s σ H Q I h;rw [evalPart_none];exact Zu ⟨none,H,I,.none,h⟩
theorem UA (h:PE X e te):PO X (some e) (aCc te):=by
 intro pins s σ H Q I hw;rw [evalPart_some];refine bH (h pins s σ H _ I hw) fun u s1 ⟨x,H1,I1,r1,q1⟩=>?_
 obtain ⟨i,rfl,q⟩:=q1;obtain ⟨t,rfl⟩:=r1;exact ⟨some i,H1,I1,.int i t,q⟩
def wQ (X:Cx) (r:V→Option Int→Option Int→Hp→VK→Prop):Prop :=
 ∀ (pins:List (Addr × Obj)) (s:Shared) (σ:St) (H:Hp) (x:V) (v vl vu:Value) (lo hi:Option Int) (sl:Addr) (Q:VK),Inv X pins σ H s→bC x v→s.heap.IsSliceOf sl vl vu .none→IsPart vl lo→IsPart vu hi→r x lo hi H Q →
  ∃ T id,typeLookup (.type T) "__getitem__"=pure (some (.builtin id))∧s.TypeIs v T∧wpAny (model X.prog X.w) X.A (getItem v (.ref sl)) (EP X pins σ Q) X.xe s
theorem wQ.or {r r':V→Option Int→Option Int→Hp→VK→Prop} (h:wQ X r) (h':wQ X r'):wQ X (fun x lo hi H Q=>r x lo hi H Q∨r' x lo hi H Q):=by
 intro pins s σ H x v vl vu lo hi sl Q I rx hs pl pu q;rcases q with q | q
 ·exact h pins s σ H x v vl vu lo hi sl Q I rx hs pl pu q
 ·exact h' pins s σ H x v vl vu lo hi sl Q I rx hs pl pu q
noncomputable def tSl (r:V→Option Int→Option Int→Hp→VK→Prop) (te:TE) (tl th:TO):TE:=fun σ H Q=>te σ H fun x H1=>tl σ H1 fun l H2=>th σ H2 fun u H3=>r x l u H3 Q
theorem QD {r:V→Option Int→Option Int→Hp→VK→Prop} (hr:wQ X r) (he:PE X e te) (hl:PO X lo tl) (hu:PO X hi th):PE X (.Subscript e (.Slice lo hi none p2) pos) (tSl r te tl th):=by
 intro pins s σ H Q I h;refine Subscript_ (bH (he pins s σ H _ I h) fun v s1 ⟨x,H1,I1,r1,q1⟩=>?_);refine wpAny_Slice (bH (hl pins s1 σ H1 _ I1 q1) fun vl s2 ⟨l,H2,I2,pl,q2⟩=>bH (hu pins s2 σ H2 _ I2 q2) fun vu s3 ⟨u,H3,I3,pu,q3⟩=>?_);rw [evalPart_none];refine Zu ?_;have I4:Inv X pins σ H3 { s3 with heap:=s3.heap.push { cls:=.type "slice",data:=.fields #[vl,vu,.none] } }:=I3.kept (t':=s3.toks) fun b ob q=>Zd _ q
 obtain ⟨T,id,hT,ht,hg⟩:=hr pins { s3 with heap:=s3.heap.push { cls:=.type "slice",data:=.fields #[vl,vu,.none] } } σ H3 x v vl vu l u s3.heap.objs.size Q I4 r1 (Heap.IsSliceOf.new ..) pl pu q3;show wpAny (model X.prog X.w) X.A (subscriptTail e (.Slice lo hi none p2) v (.ref s3.heap.objs.size)) (EP X pins σ Q) X.xe { s3 with heap:=s3.heap.push { cls:=.type "slice",data:=.fields #[vl,vu,.none] } };exact tail_any (ops:=[.ref s3.heap.objs.size,v]) ht hT hg (by with_unfolding_all rfl)
noncomputable def sF (xs:List V) (lo hi:Option Int):List V:=(xs.drop (HT.bT xs.length 0 lo)).take (HT.bT xs.length xs.length hi - HT.bT xs.length 0 lo)
theorem uV (xs:List V) (lo hi:Option Int):(sF xs lo hi).length≤xs.length:=by
 unfold sF;rw [List.length_take,List.length_drop];omega
def aDB (K:Frag):V→Option Int→Option Int→Hp→VK→Prop:=fun x lo hi H Q=>∃ a xs,x=.ref a∧cW K H a xs ∧
 ¬ (HT.bT xs.length 0 lo=0∧HT.bT xs.length xs.length hi=xs.length)∧∀ p,H p=none→Q (.ref p) (aV H p (.tup (sF xs lo hi)))
theorem aAB:wQ X (aDB X.K):=by
 intro pins s σ H x v vl vu lo hi sl Q I rx hs pl pu h;obtain ⟨a,xs,rfl,hx,hw,q⟩:=h;cases rx;obtain ⟨its,r,ht,hz⟩:=I.tuple hx;have hlen:its.toArray.size=xs.length:=by rw [Zi]; exact r.length.symm
 refine ⟨"tuple",_,PyProof.Rows.slot_tuple_getitem.lookup,ht.typeIs, ?_⟩;refine HT.tY ht hs pl pu (by rw [hlen]; exact hw) ?_ (by rw [hlen]; exact hz);rw [hlen];refine ⟨.ref s.heap.objs.size,_,I.laid (t':=s.toks) (o:=.tup (sF xs lo hi)) (fun b ob q=>Zd _ q) (Zq _) ?_,rfl,q _ (I.hok.fresh (Zq _))⟩;exact ⟨Zr (uV xs lo hi) hz,_,(r.drop (HT.bT xs.length 0 lo)).take (HT.bT xs.length xs.length hi - HT.bT xs.length 0 lo),IsTup.new _ _⟩
noncomputable def aBu (K:Frag):R2:=fun x y H Q=>∃ a b xs ys,x=.ref a∧y=.ref b∧cW K H a xs∧cW K H b ys∧xs≠[]∧xs.length+ys.length≤sizeLine ∧
 (ys=[]→Q (.ref a) H)∧(ys≠[]→∀ p,H p=none→Q (.ref p) (aV H p (.tup (xs ++ ys))))
theorem aT.nil_iff {xs:List V} {us:List Value} (r:aT xs us):us=[]↔xs=[]:=by
 cases r with
 | nil=>simp
 | cons _ _=>simp
theorem US:dU X (binaryOp .Add) (aBu X.K):=by
 intro pins s σ H x y v u Q I rx ry h;obtain ⟨a,b,xs,ys,rfl,rfl,ha,hb,hx,hz,q1,q2⟩:=h;cases rx;cases ry;obtain ⟨its,r1,p1,_⟩:=I.tuple ha;obtain ⟨its2,r2,p2,_⟩:=I.tuple hb;refine HT.SX p1 p2 (fun z=>hx (r1.nil_iff.mp z)) (fun z=>⟨.ref a,H,I,rfl,q1 (r2.nil_iff.mp z)⟩) (fun z=>?_) (by rw [← r1.length,← r2.length]; exact hz);refine ⟨.ref s.heap.objs.size,_,I.laid (t':=s.toks) (o:=.tup (xs ++ ys)) (fun b ob q=>Zd _ q) (Zq _) ?_,rfl,q2 (fun w=>z (r2.nil_iff.mpr w)) _ (I.hok.fresh (Zq _))⟩;exact ⟨by rw [Za]; exact hz,_,r1.append r2,IsTup.new _ _⟩
end
noncomputable def lI (n:Nat) (i:Int):Option Nat:=if 0≤i then (if i<n then some i.toNat else none) else if -(n:Int)≤i then some (i+n).toNat else none
noncomputable def cJ {α:Type} (xs:List α) (i:Int):Option α:=(lI xs.length i).bind fun j=>xs[j]?
theorem E7 {n:Nat} {i:Int} {j:Nat} (h:lI n i=some j):seqIndex? i n=some j∧j<n∧-(n:Int)≤i∧i<n:=by
 unfold lI at h;by_cases h0:0≤i
 ·rw [Zo h0] at h;by_cases h1:i<n
  ·rw [Zo h1] at h;have e:i.toNat=j:=Option.some.inj h;exact ⟨by rw [seqIndex_of h0 h1,e],by omega,by omega,h1⟩
  ·rw [Zp h1] at h; cases h
 ·rw [Zp h0] at h;by_cases h1:-(n:Int)≤i
  ·rw [Zo h1] at h;have e:(i+n).toNat=j:=Option.some.inj h;exact ⟨by rw [seqIndex_neg (by omega) h1,e],by omega,h1,by omega⟩
  ·rw [Zp h1] at h; cases h
theorem yC {α:Type} {xs:List α} {i:Int} {v:α} (h:cJ xs i=some v):∃ j,seqIndex? i xs.length=some j∧xs[j]?=some v∧j<xs.length∧-(xs.length:Int)≤i∧i<xs.length:=by
 unfold cJ at h
 cases e:lI xs.length i with
 | none=>rw [e] at h; cases h
 | some j =>
  rw [e] at h;obtain ⟨h1,h2,h3,h4⟩:=E7 e;exact ⟨j,h1,h,h2,h3,h4⟩
theorem kB {α:Type} {xs:List α} {j:Nat} {v:α} (h:xs[j]?=some v):cJ xs (j:Int)=some v:=by
 have hj:j<xs.length:=(Zc.mp h).1
 have e:lI xs.length (j:Int)=some j:=by
  unfold lI;rw [Zo (by omega),Zo (by omega)]; simp
 unfold cJ; rw [e]; exact h
def yL (b:Expr):Prop:=∀ o i,subscripted b false o i=operate [o,i] (getItem o i)
def lM (X:Cx) (r:R2):Prop :=
 ∀ (value slice:Expr) (pins:List (Addr × Obj)) (s:Shared) (σ:St) (H:Hp) (x y:V) (v u:Value) (Q:VK),Inv X pins σ H s→bC x v→bC y u→r x y H Q →
  subscripted slice false v u=operate [v,u] (getItem v u)→wpAny (model X.prog X.w) X.A (subscriptTail value slice v u) (EP X pins σ Q) X.xe s
def MtR (X:Cx) (id:String) (r:V→List V→Hp→VK→Prop):Prop :=
 ∀ (pins:List (Addr × Obj)) (s:Shared) (σ:St) (H:Hp) (x:V) (xs:List V) (v:Value) (us:List Value) (Q:VK),Inv X pins σ H s→bC x v→aT xs us→r x xs H Q →
  wpAny (model X.prog X.w) X.A (call (.builtin id) (v :: us)) (EP X pins σ Q) X.xe s
section
variable {X:Cx} {a b:Expr} {ta tb:TE} {pos:Pos}
theorem lM.or {r r':R2} (h:lM X r) (h':lM X r'):lM X (fun x y H Q=>r x y H Q∨r' x y H Q):=by
 intro value slice pins s σ H x y v u Q I rx ry q hs;rcases q with q | q
 ·exact h value slice pins s σ H x y v u Q I rx ry q hs
 ·exact h' value slice pins s σ H x y v u Q I rx ry q hs
theorem aBB {r:R2} (hr:lM X r) (ha:PE X a ta) (hb:PE X b tb) (hs:yL b):PE X (.Subscript a b pos) (KU r ta tb):=by
 intro pins s σ H Q I h;exact Subscript_ (OK ha hb I h fun v u s2 x y H2 I2 rx ry q=>hr a b pins s2 σ H2 x y v u Q I2 rx ry q (hs _ _))
noncomputable def aA9 (K:Frag):R2:=fun x y H Q=>∃ p xs i v,x=.ref p∧y=.int i∧b9 K H p xs∧cJ xs i=some v∧Q v H
noncomputable def aAD (K:Frag):R2:=fun x y H Q=>∃ p xs i v,x=.ref p∧y=.int i∧cW K H p xs∧cJ xs i=some v∧Q v H
noncomputable def GO:R2:=fun x y H Q=>∃ z i c,x=.str z∧y=.int i∧z.length≤sizeLine∧cJ z.cps.toList i=some c∧Q (.str ⟨#[c]⟩) H
theorem VE:lM X (aA9 X.K):=by
 intro value slice pins s σ H x y v u Q I rx ry h hs;obtain ⟨p,xs,i,z,rfl,rfl,hq,he,q⟩:=h;cases rx;obtain ⟨t,rfl⟩:=ry;obtain ⟨its,r,pl,hz⟩:=I.list hq;obtain ⟨j,h1,h2,h3,h4,h5⟩:=yC he;obtain ⟨w,ew,rw'⟩:=r.get h2;have hl:=r.length;have hn:=mC;have fin:EP X pins σ Q w s:=⟨z,H,I,rw',q⟩
 by_cases h0:0≤i
 ·have hj:i.toNat=j:=by
   rw [seqIndex_of h0 h5] at h1;exact Option.some.inj h1
  exact item_listR pl.isList h0 (by omega) (by rw [hj]; simpa using ew) fin hs
 ·have hj:(i+(its.toArray.size:Int)).toNat=j:=by
   rw [seqIndex_neg (by omega) h4] at h1;rw [Zi,← hl];exact Option.some.inj h1
  exact subscriptTail_builtinR (x:=w) pl.isList.typeIs slot_list_getitem.lookup
   (wpAny_getItem_list_neg (Q:=fun r s'=>r=w∧EP X pins σ Q r s') pl.isList (by omega) (by rw [Zi] <;> omega) (by omega) (by rw [hj]; simpa using ew) ⟨rfl,fin⟩) hs
theorem XE:lM X (aAD X.K):=by
 intro value slice pins s σ H x y v u Q I rx ry h hs;obtain ⟨p,xs,i,z,rfl,rfl,hq,he,q⟩:=h;cases rx;obtain ⟨t,rfl⟩:=ry;obtain ⟨its,r,pl,hz⟩:=I.tuple hq;obtain ⟨j,h1,h2,h3,h4,h5⟩:=yC he;obtain ⟨w,ew,rw'⟩:=r.get h2;have hl:=r.length;have hn:=mC;have fin:EP X pins σ Q w s:=⟨z,H,I,rw',q⟩
 exact subscriptTail_builtinR (x:=w) pl.typeIs slot_tuple_getitem.lookup
  (getItem_tuple (j:=j) (Q:=fun r s'=>r=w∧EP X pins σ Q r s') pl (by omega) (by omega) (by rw [Zi,← hl]; exact h1) (by simpa using ew) ⟨rfl,fin⟩) hs
theorem ZH:lM X GO:=by
 intro value slice pins s σ H x y v u Q I rx ry h hs;obtain ⟨z,i,c,rfl,rfl,hz,he,q⟩:=h;obtain ⟨t,rfl⟩:=rx;obtain ⟨t',rfl⟩:=ry;obtain ⟨j,h1,h2,h3,h4,h5⟩:=yC he;have hl:z.cps.toList.length=z.length:=by simp [Str.length]
 rw [hl] at h1 h4 h5;have hn:=mC
 exact tail_any (typeIs_str s z t) slot_str_getitem.lookup (getItem_str (c:=c) (by
  have e1:decide (i < -(2 ^ 63:Int))=false:=Zm (by omega);have e2:decide (i ≥ 2 ^ 63)=false:=Zm (by omega)
  rw [e1,e2,Bool.or_false]) (by rw [h1]; simpa using h2) ⟨.str ⟨#[c]⟩,H,I.tok _,⟨_,rfl⟩,q⟩) hs
noncomputable def rIx (K:Frag):R2:=fun x y H Q=>aA9 K x y H Q∨aAD K x y H Q∨GO x y H Q
theorem XC:lM X (rIx X.K):=VE.or (XE.or ZH)
theorem IK (its:List Value) (n j:Nat) (u:Value):Obj.mapSeq (·.setIfInBounds j u) { cls:=.type "list",data:=.seq its.toArray n }={ cls:=.type "list",data:=.seq (its.set j u).toArray n }:=by
 simp [Obj.mapSeq]
theorem Inv.lst {pins:List (Addr × Obj)} {σ:St} {H:Hp} {s:Shared} {p:Addr} {xs:List V} (I:Inv X pins σ H s) (h:H p=some (.lst xs)) :
  ∃ (its:List Value) (n:Nat),aT xs its∧s.heap.get? p=some { cls:=.type "list",data:=.seq its.toArray n }∧xs.length≤sizeLine:=by
 obtain ⟨z,its,n,r,e⟩:=I.hok p _ h;exact ⟨its,n,r,e,z⟩
theorem Inv.lstUpd {pins:List (Addr × Obj)} {σ:St} {H:Hp} {s:Shared} {p:Addr} {xs ys:List V} {its its':List Value} {n n':Nat} {f:Obj→Obj} (I:Inv X pins σ H s) (h:H p=some (.lst xs))
  (ho:s.heap.get? p=some { cls:=.type "list",data:=.seq its.toArray n }) (hf:f { cls:=.type "list",data:=.seq its.toArray n }={ cls:=.type "list",data:=.seq its'.toArray n' }) (r:aT ys its') (hz:ys.length≤sizeLine) (t:Nat) :
  Inv X pins σ (aV H p (.lst ys)) { s with heap:=s.heap.update p f,toks:=t }:=by
 have e:(s.heap.update p f).get? p=some { cls:=.type "list",data:=.seq its'.toArray n' }:=by
  rw [Heap.get?_update_self f ho (by rw [hf] <;> rfl),hf]
 refine I.write (x:=p) (e:=p) (by rw [h]; trivial) (.inl rfl) (fun b u hb q=>(Heap.get?_update_other _ _ (Ne.symm hb)).trans q) ⟨_,e⟩ ?_;exact ⟨hz,its',n',r,e⟩
def RK:V→V→V→Hp→(Hp→Prop)→Prop:=fun o i v H Q=>∃ p xs k j,o=.ref p∧i=.int k∧H p=some (.lst xs)∧lI xs.length k=some j∧Q (aV H p (.lst (xs.set j v)))
theorem O6:QH X RK:=by
 intro pins s σ H o i v ov iv u Q I ro ri rv h;obtain ⟨p,xs,k,j,rfl,rfl,hp,hj,q⟩:=h;cases ro;obtain ⟨t,rfl⟩:=ri;obtain ⟨its,n,r,ho,hz⟩:=I.lst hp;obtain ⟨h1,h2,h3,h4⟩:=E7 hj;have hl:=r.length;have hn:=mC
 have I':Inv X pins σ (aV H p (.lst (xs.set j v))) { s with heap:=s.heap.update p (Obj.mapSeq (·.setIfInBounds j u)) } :=
  I.lstUpd hp ho (IK its n j u) (r.set rv j) (by rw [zg]; exact hz) s.toks
 by_cases h0:0≤k
 ·have hk:k.toNat=j:=by
   rw [seqIndex_of h0 h4] at h1;exact Option.some.inj h1
  exact PySem.W.ki_setAt ho h0 (by omega) (by rw [Zi,← hl]; exact h4) (by rw [hk]; exact ⟨_,I',q⟩)
 ·have hk:(k+(its.toArray.size:Int)).toNat=j:=by
   rw [seqIndex_neg (by omega) h3] at h1;rw [Zi,← hl];exact Option.some.inj h1
  exact PySem.W.ki_setBack ho (by omega) (by rw [Zi,← hl]; exact h3) (by omega) (by rw [hk]; exact ⟨_,I',q⟩)
theorem C7 (lo hi:Option Int) (n:Nat):(sliceBounds lo hi none n).1=((HT.bT n 0 lo:Nat):Int)∧(sliceBounds lo hi none n).2.1=((HT.bT n n hi:Nat):Int)∧(sliceBounds lo hi none n).2.2=1:=by
 refine ⟨?_, ?_,rfl⟩
 ·cases lo with
  | none=>simp [sliceBounds,HT.bT]
  | some i =>
   simp only [sliceBounds,HT.bT,Option.getD_none,show (1:Int) > 0 by decide,if_true];by_cases h:i<0
   ·simp only [h,if_true] <;> omega
   ·simp only [h,if_false] <;> omega
 ·cases hi with
  | none=>simp [sliceBounds,HT.bT]
  | some i =>
   simp only [sliceBounds,HT.bT,Option.getD_none,show (1:Int) > 0 by decide,if_true];by_cases h:i<0
   ·simp only [h,if_true] <;> omega
   ·simp only [h,if_false] <;> omega
theorem AL (its:List Value) (lo hi:Option Int):slicePick its.toArray lo hi none=((its.drop (HT.bT its.length 0 lo)).take (HT.bT its.length its.length hi - HT.bT its.length 0 lo)).toArray:=by
 obtain ⟨h1,h2,h3⟩:=C7 lo hi its.toArray.size;unfold slicePick;rw [h1,h2,h3];simp only [sliceRange_one,pick_run,Zi] <;> rfl
def aEb (K:Frag):V→Option Int→Option Int→Hp→VK→Prop:=fun x lo hi H Q=>∃ a xs,x=.ref a∧b9 K H a xs∧∀ p,H p=none→Q (.ref p) (aV H p (.lst (sF xs lo hi)))
theorem U2:wQ X (aEb X.K):=by
 intro pins s σ H x v vl vu lo hi sl Q I rx hs pl pu h;obtain ⟨a,xs,rfl,hx,q⟩:=h;cases rx;obtain ⟨its,r,ht,hz⟩:=I.list hx;have hlen:=r.length;refine ⟨"list",_,slot_list_getitem.lookup,ht.isList.typeIs, ?_⟩;refine wpAny_getItem_list_slice ht.isList hs pl pu .none (by simp) ?_ (by rw [Zi] <;> omega);rw [AL,← hlen];refine ⟨.ref s.heap.objs.size,_,I.laid (t':=s.toks) (o:=.lst (sF xs lo hi)) (fun b ob q=>Zd _ q) (Zq _) ?_,rfl,q _ (I.hok.fresh (Zq _))⟩;exact ⟨Zr (uV xs lo hi) hz,_,0,(r.drop (HT.bT xs.length 0 lo)).take (HT.bT xs.length xs.length hi - HT.bT xs.length 0 lo),Zw _ rfl⟩
noncomputable def kU:V→Bool
 | .non=>true
 | .bl _=>true
 | .int _=>true
 | .str _=>true
 | _=>false
noncomputable def n8:V→V→Bool
 | .non,.non=>true
 | .bl a,.bl b=>a == b
 | .bl a,.int b=>(if a then 1 else 0) == b
 | .int a,.bl b=>a == (if b then 1 else 0)
 | .int a,.int b=>a == b
 | .str a,.str b=>a == b
 | _,_=>false
theorem ZE {A:Around} {s:Shared} {y x:V} {u v:Value} (ry:bC y u) (rx:bC x v) (fy:kU y=true) (fx:kU x=true):SeqAt.EqAt A s u v (n8 y x):=by
 cases y with
 | non =>
  cases ry
  cases x with
  | non=>cases rx; exact SeqAt.EqAt.same _
  | bl b=>cases rx; exact SeqAt.EqAt.none_bool b
  | int b=>obtain ⟨t,rfl⟩:=rx; exact SeqAt.EqAt.none_int b t
  | str b=>obtain ⟨t,rfl⟩:=rx; exact SeqAt.EqAt.none_str b t
  | _=>exact absurd (show false=true from fx) Bool.false_ne_true
 | bl a =>
  cases ry
  cases x with
  | non=>cases rx; exact SeqAt.EqAt.bool_none a
  | bl b=>cases rx; exact SeqAt.EqAt.bool_bool a b
  | int b=>obtain ⟨t,rfl⟩:=rx; exact SeqAt.EqAt.bool_int a b t
  | str b=>obtain ⟨t,rfl⟩:=rx; exact SeqAt.EqAt.bool_str a b t
  | _=>exact absurd (show false=true from fx) Bool.false_ne_true
 | int a =>
  obtain ⟨t',rfl⟩:=ry
  cases x with
  | non=>cases rx; exact SeqAt.EqAt.int_none a t'
  | bl b=>cases rx; exact SeqAt.EqAt.int_bool a t' b
  | int b=>obtain ⟨t,rfl⟩:=rx; exact SeqAt.EqAt.int_int a t' b t
  | str b=>obtain ⟨t,rfl⟩:=rx; exact SeqAt.EqAt.int_str a t' b t
  | _=>exact absurd (show false=true from fx) Bool.false_ne_true
 | str a =>
  obtain ⟨t',rfl⟩:=ry
  cases x with
  | non=>cases rx; exact SeqAt.EqAt.str_none a t'
  | bl b=>cases rx; exact SeqAt.EqAt.str_bool a t' b
  | int b=>obtain ⟨t,rfl⟩:=rx; exact SeqAt.EqAt.str_int a t' b t
  | str b=>obtain ⟨t,rfl⟩:=rx; exact SeqAt.EqAt.str_str a t' b t
  | _=>exact absurd (show false=true from fx) Bool.false_ne_true
 | _=>exact absurd (show false=true from fy) Bool.false_ne_true
noncomputable def xI (x:V) (u:Value):Bool:=match u with
 | .none=>n8 .non x
 | .bool b=>n8 (.bl b) x
 | .int i _=>n8 (.int i) x
 | .str z _=>n8 (.str z) x
 | _=>false
theorem IV {x y:V} {u:Value} (r:bC y u) (f:kU y=true):xI x u=n8 y x:=by
 cases y with
 | non=>cases r; rfl
 | bl b=>cases r; rfl
 | int i=>obtain ⟨t,rfl⟩:=r; rfl
 | str z=>obtain ⟨t,rfl⟩:=r; rfl
 | _=>exact absurd (show false=true from f) Bool.false_ne_true
theorem yP {x:V}:∀ {xs:List V} {us:List Value},aT xs us→xs.all kU=true→us.any (xI x)=xs.any fun y=>n8 y x
 | _,_,.nil,_=>rfl
 | y :: xs,u :: us,.cons r t,f=>by
  rw [Zj,ZB] at f;rw [List.any_cons,List.any_cons,IV r f.1,yP t f.2]
theorem vD {A:Around} {s:Shared} {x:V} {v:Value} (rx:bC x v) (fx:kU x=true):∀ {xs:List V} {us:List Value},aT xs us→xs.all kU=true→∀ u∈us,SeqAt.EqAt A s u v (xI x u)
 | _,_,.nil,_=>fun u hu=>by cases hu
 | y :: xs,u :: us,.cons r t,f=>fun u' hu=>by
  rw [Zj,ZB] at f;rcases List.mem_cons.mp hu with rfl | hu
  ·rw [IV r f.1]; exact ZE r rx f.1 fx
  ·exact vD rx fx t f.2 u' hu
noncomputable def QS (x:V) (xs:List V):Bool:=xs.any fun y=>n8 y x
noncomputable def rIn (K:Frag) (neg:Bool):R2:=fun x y H Q=>∃ p xs,y=.ref p∧(b9 K H p xs∨cW K H p xs)∧kU x=true∧xs.all kU=true∧Q (.bl (if neg then !QS x xs else QS x xs)) H
theorem AF:dU X (compareOp .In) (rIn X.K false):=by
 intro pins s σ H x y v u Q I rx ry h;obtain ⟨p,xs,rfl,hq,fx,fs,q⟩:=h;cases ry;rcases hq with hq | hq
 ·obtain ⟨its,r,pl,hz⟩:=I.list hq;refine SeqAt.in_listAt (xI x) pl.isList (fun w hw=>vD rx fx r fs w (by simpa using hw)) ⟨.bl _,H,I,rfl, ?_⟩;rw [show its.toArray.any (xI x)=its.any (xI x) by simp,yP r fs];exact q
 ·obtain ⟨its,r,pl,hz⟩:=I.tuple hq;refine SeqAt.in_tupleAt (xI x) pl (fun w hw=>vD rx fx r fs w (by simpa using hw)) ⟨.bl _,H,I,rfl, ?_⟩;rw [show its.toArray.any (xI x)=its.any (xI x) by simp,yP r fs];exact q
theorem sJ:eJ X (.builtin "len") (fun xs H Q=>∃ p ys,xs=[.ref p]∧(b9 X.K H p ys∨cW X.K H p ys)∧Q (.int ys.length) H):=by
 intro pins s σ H xs us Q I r h;obtain ⟨p,ys,rfl,hq,q⟩:=h;obtain ⟨u,rfl,rx⟩:=iG r;cases rx;have hn:=mC;rcases hq with hq | hq
 ·obtain ⟨its,r',pl,hz⟩:=I.list hq;have hlen:=r'.length;exact Calls.call_len_list pl.isList (by simp only [Zi] <;> omega) ⟨.int ys.length,H,I.tok _,⟨s.toks+1,by rw [Zi,hlen]⟩,q⟩
 ·obtain ⟨its,r',pl,hz⟩:=I.tuple hq;have hlen:=r'.length;exact len_tuple pl (by simp only [Zi] <;> omega) ⟨.int ys.length,H,I.tok _,⟨s.toks+1,by rw [Zi,hlen]⟩,q⟩
theorem BX:eJ X (.builtin "len") (fun xs H Q=>∃ z,xs=[.str z]∧z.length≤sizeLine∧Q (.int z.length) H):=by
 intro pins s σ H xs us Q I r h;obtain ⟨z,rfl,hz,q⟩:=h;obtain ⟨u,rfl,t,rfl⟩:=iG r;have hn:=mC;exact len_str (by omega) ⟨.int z.length,H,I.tok _,⟨_,rfl⟩,q⟩
theorem sL:eJ X (.type "list") (fun xs H Q=>∃ p ys,xs=[.ref p]∧(b9 X.K H p ys∨cW X.K H p ys)∧∀ l,H l=none→Q (.ref l) (aV H l (.lst ys))):=by
 intro pins s σ H xs us Q I r h;obtain ⟨p,ys,rfl,hq,q⟩:=h;obtain ⟨u,rfl,rx⟩:=iG r;cases rx
 have fin:∀ (its:List Value),aT ys its→ys.length≤sizeLine→∀ (h':Heap) (c':Nat),(∀ b o',s.heap.get? b=some o'→h'.get? b=some o') →
   h'.get? s.heap.objs.size=some { cls:=.type "list",dict:=none,data:=.seq its.toArray c',slots:=#[] }→EP X pins σ Q (.ref s.heap.objs.size) { s with heap:=h' }:=fun its r' hz h' c' kp e =>
  ⟨.ref s.heap.objs.size,_,I.laid (t':=s.toks) kp (Zq _) (show dW X.prog X.w _ h' _ (.lst ys) from ⟨hz,its,c',r',e⟩),rfl,q _ (I.hok.fresh (Zq _))⟩
 rcases hq with hq | hq
 ·obtain ⟨its,r',pl,hz⟩:=I.list hq;have hlen:=r'.length;obtain ⟨o,ho,hc,n,hd⟩:=pl.isList;exact call_list_seq p (.inl rfl) ho hc hd (fun h' c' kp e=>fin its r' hz h' c' kp e) (by simp only [Zi] <;> omega)
 ·obtain ⟨its,r',pl,hz⟩:=I.tuple hq;have hlen:=r'.length;obtain ⟨o,ho,hc,n,hd⟩:=pl;exact call_list_seq p (.inr rfl) ho hc hd (fun h' c' kp e=>fin its r' hz h' c' kp e) (by simp only [Zi] <;> omega)
theorem qL:eJ X (.type "tuple") (fun xs H Q=>∃ p ys,xs=[.ref p]∧((b9 X.K H p ys∧∀ l,H l=none→Q (.ref l) (aV H l (.tup ys)))∨(cW X.K H p ys∧Q (.ref p) H))):=by
 intro pins s σ H xs us Q I r h;obtain ⟨p,ys,rfl,h⟩:=h;obtain ⟨u,rfl,rx⟩:=iG r;cases rx;rcases h with ⟨hq,q⟩ | ⟨hq,q⟩
 ·obtain ⟨its,r',pl,hz⟩:=I.list hq;have hlen:=r'.length;refine call_tuple_list pl.isList (fun h' kp=>?_) (by simp only [Zi] <;> omega);have I1:Inv X pins σ H { s with heap:=h' }:=I.kept (t':=s.toks) kp
  have I2:Inv X pins σ (aV H h'.objs.size (.tup ys)) { s with heap:=h'.push { cls:=.type "tuple",data:=.seq its.toArray } } :=
   I1.laid (t':=s.toks) (fun b o e=>Zd _ e) (Zq _) (show dW X.prog X.w _ _ _ (.tup ys) from ⟨hz,its,r',IsTup.new _ _⟩)
  exact ⟨.ref h'.objs.size,_,I2,rfl,q _ (I1.hok.fresh (Zq _))⟩
 ·obtain ⟨its,r',pl,hz⟩:=I.tuple hq;exact call_tuple_same pl ⟨.ref p,H,I,rfl,q⟩
def tyV (K:Frag) (T:String) (x:V) (H:Hp):Prop:=match x with
 | .str _=>T="str"
 | .int _=>T="int"
 | .ref p=>(T="list"∧∃ xs,b9 K H p xs)∨(T="tuple"∧∃ o,K.lookup p=some o∧o.cls=.type "tuple"∧o.dict=none) ∨
   (T="dict"∧((∃ kvs,H p=some (.dK kvs))∨∃ kvs,H p=some (.dT kvs)))∨(T="set"∧∃ S n,H p=some (.set S n))
 | _=>False
theorem YT {pins:List (Addr × Obj)} {σ:St} {H:Hp} {s:Shared} {T:String} {x:V} {v:Value} (I:Inv X pins σ H s) (r:bC x v) (ty:tyV X.K T x H) :
  s.TypeIs v T∧∀ a,v=.ref a→∃ ob,s.heap.get? a=some ob∧ob.dict=none:=by
 cases x with
 | str z =>
  obtain ⟨t,rfl⟩:=r;cases (show T="str" from ty);exact ⟨typeIs_str s z t,fun _ e=>nomatch e⟩
 | int i =>
  obtain ⟨t,rfl⟩:=r;cases (show T="int" from ty);exact ⟨typeIs_int s i t,fun _ e=>nomatch e⟩
 | ref p =>
  cases r;rcases ty with ⟨rfl,xs,hq⟩ | ⟨rfl,o,hk,hc,hd⟩ | ⟨rfl,hk⟩ | ⟨rfl,S,n,hk⟩
  ·obtain ⟨its,_,pl,_⟩:=I.list hq;refine ⟨pl.isList.typeIs,fun a e=>?_⟩;cases e;obtain ⟨o,n,e,c,hd,_⟩:=pl;exact ⟨o,e,hd⟩
  ·refine ⟨⟨o,I.kIn p o hk,hc⟩,fun a e=>?_⟩;cases e;exact ⟨o,I.kIn _ o hk,hd⟩
  ·have z:∃ o,s.heap.get? p=some o∧o.ExactDict:=by
    rcases hk with ⟨kvs,hk⟩ | ⟨kvs,hk⟩
    ·obtain ⟨_,_,_,_,o,_,_,e,ex,_⟩:=I.hok p _ hk;exact ⟨o,e,ex⟩
    ·obtain ⟨_,_,_,_,o,_,_,e,ex,_⟩:=I.hok p _ hk;exact ⟨o,e,ex⟩
   obtain ⟨o,e,ex⟩:=z;refine ⟨⟨o,e,ex.1⟩,fun a e2=>?_⟩;cases e2;exact ⟨o,e,ex.2.1⟩
  ·obtain ⟨o,_,_,_,e,ex,_⟩:=I.hok p _ hk;refine ⟨⟨o,e,ex.1⟩,fun a e2=>?_⟩;cases e2;exact ⟨o,e,ex.2.1⟩
 | _=>exact False.elim ty
noncomputable def tBM (K:Frag) (T:String) (r:V→List V→Hp→VK→Prop) (to:TE) (t:TA):TE:=fun σ H Q=>to σ H fun x H1=>tyV K T x H1∧t σ H1 fun xs H2=>r x xs H2 Q
variable {o e:Expr} {es:List Expr} {to:TE} {t:TA} {name:Str} {apos cpos:Pos} {T id:String} {r:V→List V→Hp→VK→Prop}
theorem aBI (pa:PlainAttrs T) (slot:Slot T name id) (hty:typeOf (.builtin id)=pure (.type "method_descriptor")) (hm:MtR X id r) (ho:PE X o to) (ha:PA X (e :: es) t)
  (hbase:attributeBase o name X.env (eval o X.env)=eval o X.env:=by rfl)
  (hfew:((backTo cpos (starEach (e :: es) X.env)).all (fun x=>!x.1) && (backToKw cpos (keywordEach [] X.env)).all (fun x=>x.1.isSome)
   && decide ((e :: es).length+([]:List Keyword).length+(if ([]:List Keyword).isEmpty then 0 else 1)<30))=true:=by rfl)
  (hline:(apos.endLine == cpos.line)=true:=by rfl) (hs:starEach (e :: es) X.env=(false,eval e X.env) :: starEach es X.env:=by rfl) (hplain:(backTo cpos (starEach es X.env)).any (·.1)=false:=by rfl) :
  PE X (.Call (.Attribute o name apos) (e :: es) [] cpos) (tBM X.K T r to t):=by
 intro pins s σ H Q I h;refine wpAny_Call_method_late hbase hfew hline rfl (bH (ho pins s σ H _ I h) fun v s1 ⟨x,H1,I1,r1,ty,q1⟩=>?_);obtain ⟨h1,h2⟩:=YT I1 r1 ty;refine ⟨T,id,pa,slot,hty,h1,h2, ?_⟩;have hA:=ha cpos pins s1 σ H1 _ I1 q1;rw [hs] at hA ⊢;refine Calls.callWith_builtin (by show (false || (backTo cpos (starEach es X.env)).any (·.1))=false; rw [hplain] <;> rfl) (Calls.evalArgs_plain ?_);exact bH hA fun us s2 ⟨vs,H2,I2,r2,q2⟩=>hm pins s2 σ H2 x vs v us Q I2 r1 r2 q2
end
def MtM (X:Cx) (id:String) (r:V→List V→Hp→VK→Prop):Prop :=
 ∀ (pins:List (Addr × Obj)) (s:Shared) (σ:St) (H:Hp) (x:V) (xs:List V) (v:Value) (us:List Value) (Q:VK),Inv X pins σ H s→bC x v→aT xs us→r x xs H Q →
  wpAny (model X.prog X.w) X.A (call (.builtin id) (v :: us)) (EP X pins σ Q) X.xe s
theorem aT.one:∀ {x:V} {us:List Value},aT [x] us→∃ u,us=[u]∧bC x u
 | _,_,.cons r .nil=>⟨_,rfl,r⟩
theorem aT.rep {xs:List V} {us:List Value} (h:aT xs us):∀ k:Nat,aT (List.replicate k xs).flatten (List.replicate k us).flatten
 | 0=>.nil
 | k+1=>by
  rw [List.replicate_succ,List.replicate_succ,List.flatten_cons,List.flatten_cons];exact aT.append h (aT.rep h k)
theorem zH (its:List Value):∀ (k:Nat) (acc:List Value),
  List.foldl (fun x1 x2=>x1 ++ x2) acc.toArray (List.replicate k its.toArray)=(acc ++ (List.replicate k its).flatten).toArray
 | 0,acc=>by simp
 | k+1,acc=>by
  have e:acc.toArray ++ its.toArray=(acc ++ its).toArray:=by simp
  have e2:(acc ++ its) ++ (List.replicate k its).flatten=acc ++ (List.replicate (k+1) its).flatten:=by
   rw [List.replicate_succ,List.flatten_cons,List.append_assoc]
  rw [← e2,← zH its k (acc ++ its),← e,List.replicate_succ,List.foldl_cons]
section
variable {X:Cx} {pins:List (Addr × Obj)} {σ:St} {H:Hp} {s:Shared} {l b:Addr} {xs ys zs:List V}
theorem Inv.lset {its its':List Value} {n:Nat} {f:Array Value→Array Value} {t':Nat} (I:Inv X pins σ H s) (hH:H l=some (.lst xs))
  (e:s.heap.get? l=some { cls:=.type "list",data:=.seq its.toArray n }) (hf:f its.toArray=its'.toArray) (hv:aT ys its') (hz:ys.length≤sizeLine) :
  Inv X pins σ (aV H l (.lst ys)) { s with heap:=s.heap.update l (Obj.mapSeq f),toks:=t' }:=by
 have q:=PySem.IsL.update e f;rw [hf] at q;refine I.write (x:=l) (e:=l) (by rw [hH]; exact trivial) (.inl rfl) (fun b' u hb hu=>(Heap.get?_update_other s.heap (Obj.mapSeq f) (Ne.symm hb)).trans hu) ⟨_,q⟩ ?_;exact ⟨hz,its',_,hv,q⟩
theorem Inv.lnew {its:List Value} {t':Nat} (I:Inv X pins σ H s) (hv:aT ys its) (hz:ys.length≤sizeLine) :
  Inv X pins σ (aV H s.heap.objs.size (.lst ys)) { s with heap:=s.heap.push { cls:=.type "list",data:=.seq its.toArray },toks:=t' } :=
 I.laid (fun _ _ q=>Zd _ q) (Zq _) ⟨hz,its,0,hv,Zw _ rfl⟩
theorem Inv.fresh (I:Inv X pins σ H s):H s.heap.objs.size=none:=I.hok.fresh (Zq _)
theorem Inv.lstM (I:Inv X pins σ H s) (hH:H l=some (.lst xs)):xs.length≤sizeLine∧∃ (its:List Value) (n:Nat),aT xs its∧xs.length=its.length∧s.heap.get? l=some { cls:=.type "list",data:=.seq its.toArray n }:=by
 obtain ⟨z,its,n,r,e⟩:=I.hok l _ hH;exact ⟨z,its,n,r,r.length,e⟩
theorem MZ {n:Nat} (h:n≤sizeLine):Builtin.List.listTooLong n=false:=by
 unfold Builtin.List.listTooLong;exact Zm (by omega)
end
section
variable {X:Cx}
def S9:V→List V→Hp→VK→Prop:=fun x vs H Q=>∃ l xs y,x=.ref l∧vs=[y]∧H l=some (.lst xs)∧xs.length<sizeLine∧Q .non (aV H l (.lst (xs ++ [y])))
theorem zQ:MtM X "list.append" S9:=by
 intro pins s σ H x vs v us Q I rx rv h;obtain ⟨l,xs,y,rfl,rfl,hH,hz,q⟩:=h;cases rx;obtain ⟨u,rfl,ru⟩:=rv.one;obtain ⟨z,its,n,r,hl,e⟩:=I.lstM hH;refine call_meets F.slot_list_append ⟨_,e,rfl⟩ F.entry_list_append (F.args_list_append_2 _ _) (PySem.list_append l its.toArray n u (by rw [Zi]; omega)) ⟨e, ?_⟩;refine ⟨.non,_,I.lset (its':=its ++ [u]) hH e (by simp) (r.append (.cons ru .nil)) ?_,rfl,q⟩;rw [Za,Zg];omega
noncomputable def aDv:R2:=fun x y H Q=>∃ l k xs,x=.ref l∧y=.int k∧H l=some (.lst xs)∧-(2 ^ 63)≤k∧k<2 ^ 63∧xs.length*k.toNat≤sizeLine ∧
 ∀ p,H p=none→Q (.ref p) (aV H p (.lst (List.replicate k.toNat xs).flatten))
theorem SG {α:Type} (xs:List α) (k:Nat):(List.replicate k xs).flatten.length=k*xs.length:=by
 induction k with
 | zero=>simp
 | succ k ih=>rw [List.replicate_succ,List.flatten_cons,Za,ih,Nat.succ_mul,Nat.add_comm]
theorem Y9:dU X (binaryOp .Mult) aDv:=by
 intro pins s σ H x y v u Q I rx ry h;obtain ⟨l,k,xs,rfl,rfl,hH,h1,h2,hz,q⟩:=h;cases rx;obtain ⟨t,rfl⟩:=ry;obtain ⟨z,its,n,r,hl,e⟩:=I.lstM hH;have hlen:its.toArray.size*k.toNat≤sizeLine:=by rw [Zi,← hl]; exact hz
 have hcap:¬ its.toArray.size*k.toNat > (2 ^ 63 - 1) / 8:=by
  have:(sizeLine:Nat)≤(2 ^ 63 - 1) / 8:=by decide
  omega
 have hfit:¬ (!Builtin.List.listFitsIndex k)=true:=by
  rw [fitsIndex_both h1 h2];exact Bool.false_ne_true
 have hlong:¬ Builtin.List.listTooLong (its.toArray.size*k.toNat)=true:=by
  rw [MZ hlen];exact Bool.false_ne_true
 have hnew:List.foldl (fun x1 x2=>x1 ++ x2) #[] (List.replicate (if its.toArray.isEmpty=true then 0 else k.toNat) its.toArray)=(List.replicate k.toNat its).flatten.toArray:=by
  have f0:∀ m:Nat,List.foldl (fun x1 x2=>x1 ++ x2) #[] (List.replicate m its.toArray)=(List.replicate m its).flatten.toArray:=fun m=>by
   have:=zH its m []
   rw [List.nil_append] at this;exact this
  rw [f0]
  cases its with
  | nil=>simp
  | cons a r'=>rw [Zp (by simp)]
 refine wpAny_binaryOp_repeat_ref (T:="list") (U:="int") (by decide) ⟨_,e,rfl⟩ (fun s'=>typeIs_int s' k t) noFill_list_mul F.fills_int_mul F.slot_int_rmul repeat_list F.slot_int_index.lookup
  (call_meets F.slot_int_rmul (typeIs_int s k t) F.entry_int_rmul (F.args_int_rmul_2 _ _) (int___rmul___int_list k t l its.toArray n)
   ⟨e,rfl,⟨_,e,rfl⟩,call_meets F.slot_list_mul ⟨_,e,rfl⟩ F.entry_list_mul (F.args_list_mul_2 _ _) (AutoListH.list___mul___list_int_3 l its.toArray n k t hfit hcap hlong) ⟨e, ?_⟩⟩)
 rw [hnew];exact ⟨.ref _,_,I.lnew (t':=s.toks) (r.rep k.toNat) (by rw [SG,Nat.mul_comm]; exact hz),rfl,q _ I.fresh⟩
end
section
variable {prog:Program} {w:World} {A:Around} {E:Value→Shared→Prop} {s:Shared}
end
section
variable {X:Cx}
end
end L2
namespace Att
open PySem PySem.W PySem.Calls PyProof.Rows
theorem wH {P:Params} {h:Heap}:∀ (ns:List Int) (vs:List Value),WellAll P h vs (ns.map WData.int)→IntsAre vs ns:=by
 intro ns
 induction ns with
 | nil =>
  intro vs w;rw [List.map_nil] at w;cases w;exact .nil
 | cons n ns ih =>
  intro vs w;rw [Zs] at w
  cases w with
  | cons a b =>
   cases a;exact .cons _ _ (ih _ b)
theorem LA {l:OpenLaw} {n:Nat} (hn:l.most=some n) {P:Params} {h:Heap} {args:List WData} {vals:List Value}
  (hpre:l.row.toRowW.claim.pre args=true) (hwl:WellAll P h vals args) :
  ∃ a vs ns,vals=[Value.ref a]∧args=[WData.list (ns.map WData.int)]∧h.get? a=some { cls:=.type "list",data:=.seq vs.toArray }∧IntsAre vs ns∧ns.length≤n:=by
 have hsh:WShape.hasAll [] args [.list .int]=true:=(pre_splitW hpre).1;have hc:l.pre.holds [] { args:=args }=true:=(pre_splitW hpre).2;obtain ⟨d,r,rfl,h1,h2⟩:=hasAllW_cons hsh;obtain rfl:=hasAllW_nil h2;obtain ⟨xs,rfl,h3⟩:=hasW_list h1;obtain ⟨ns,rfl⟩:=items_int h3
 have hlen:ns.length≤n:=by
  unfold OpenLaw.pre at hc
  have h4:(WTm.not (.lt (.lit (.int (n:Int))) (.len (.arg 0)))).holds [] { args:=[.list (ns.map .int)] }=true:=by
   have h4:=(holds_andW hc).1;rw [hn] at h4;exact h4
  have h5:=condW_of h4 (w_not (w_lt w_lit (w_len_list (w_arg rfl))));rw [List.length_map] at h5;refine Nat.le_of_not_lt fun q=>?_
  have q':(n:Int)<((ns.length:Nat):Int):=by omega
  first
   | (rw [Zn q'] at h5; exact absurd h5 (by decide))
   | (simp at h5; omega)
 cases hwl with
 | cons w1 w2 =>
  cases w2
  cases w1 with
  | list ho hall=>exact ⟨_,_,ns,rfl,rfl,ho,wH ns _ hall,hlen⟩
theorem KY (l:OpenLaw) (args:List WData):l.row.toRowW.claim.post args (.bool true) args=true :=
 postW_of (r:=l.row.toRowW) (X:=(true == true))
  (show WShape.has [] (.bool true) .bool=true by first | rfl | decide | simp [WShape.has,WShape.arms,WShape.armsAll])
  (show (WTm.eq .res (.lit (.bool true))).value [] { args:=args,res:=some (.bool true),after:=args }=some (.bool (true == true)) from w_eq_bool (w_res rfl) w_lit) rfl
theorem EM {l:OpenLaw} {n:Nat} {q:Program} {loose:List Str} {XP:(Str→Option Value)→Heap→Prop} {YP:World→Heap→Prop} {d:DefRec}
  (hn:l.most=some n) (hdf:d.params.defaults=[])
  (call:∀ (w:World) (s₀ s₁:Shared) (mg mb:Str→Option Value) (fa:Addr) (o:Obj) (pm cd doc:Value) (a:Addr) (vs:List Value) (ns:List Int),
   Ground q loose [] XP w s₀ mg mb s₁.heap→YP w s₁.heap →
   s₁.heap.get? fa=some o→o.data=.func (docDef d.name d.params d.body d.scope pm cd doc)→s₁.heap.CodeRec cd d.name→mg d.name=some (.ref fa) →
   s₁.heap.get? a=some { cls:=.type "list",data:=.seq vs.toArray }→IntsAre vs ns→ns.length≤n→s₁.gens=#[] →
   codeAny (model l.prog w) callerA (.call (.ref fa) ⟨[.ref a],[]⟩) (fun r s'=>r=.ok (.ret (.bool true))∧OldK s₁.heap s'.heap∧s'.os=s₁.os∧AllBare s'.gens) s₁) :
  WalkO q loose XP YP l.row.toRowW d [] (fun f vs=>PySem.call f vs):=by
 intro w s₀ s₁ mg mb G Y fa o pm cd doc dV kV ho hd hcd hD hmg hg args vals as hpre hlay hrd hwl hlo;obtain rfl:dV=.none:=Dflts.none hD hdf;obtain rfl:kV=.none:=Dflts.noKw hD;obtain ⟨a,vs,ns,rfl,rfl,hobj,hints,hlen⟩:=LA hn hpre hwl;refine enter_call (codeAny_mono (call w s₀ s₁ mg mb fa o pm cd doc a vs ns G Y ho (fd_plain hd) hcd hmg hobj hints hlen hg) fun r s' hq=>?_);obtain ⟨rfl,h2,h3,h4⟩:=hq;exact ⟨.inl ⟨.bool true,.bool true,[],rfl,fun _=>rfl,.bool true,KY l _,fun _=>⟨List.Pairwise.nil,fun _ hm=>(nomatch hm)⟩⟩,h2,h3,h4⟩
section
variable {prog:Program} {w:World} {A:Around} {E:Value→Shared→Prop} {s:Shared} {K:Frag}
end
end Att
namespace L2
open PySem PySem.Spec PyProof.Rows
theorem zM:∀ {vs:List Value} {ns:List Int},IntsAre vs ns→aT (ns.map V.int) vs
 | _,_,.nil=>.nil
 | _,_,.cons n t h=>.cons ⟨t,rfl⟩ (zM h)
def OJ (H:Hp):Prop:=∀ b,H b=none∨∃ o xs,H b=some (.frz o (.lst xs))
theorem QI {P:Program} {w:World} {K:Frag} {mg mb:Str→Option Value} {CX:sE} {k:Nat} {fa a:Addr} {fd:FuncData} {x:Str} {sp:Sp} {s₁:Shared} {vs:List Value} {ns:List Int}
  (KX:K.In s₁.heap) (hns:s₁.heap.Ns mainGlobals mg) (hb:s₁.heap.Ns builtinsNs mb) (hbb:∀ x:Str,x≠"__name__"→mb x=bootBuiltins x) (hlim:s₁.heap.NoLimit) (hg:s₁.gens=#[])
  (ha:s₁.heap.get? a=some { cls:=.type "list",data:=.seq vs.toArray }) (hi:IntsAre vs ns) (hl:ns.length≤sizeLine) (hr:Room k callerA)
  (F:∀ base:Heap,K.In base→base.Ns mainGlobals mg→FnOk P w K mg base CX k fa fd [x] sp) (hbind:∀ (s:Shared) (u:Value),BindsTo s fd ⟨[u],[]⟩ [(x,u)])
  (hsp:∀ H:Hp,OJ H→b9 K H a (ns.map V.int)→sp [.ref a] H (fun v _=>v=.bl true) fun _ _ _=>False)
  (hCX:∀ H e s',CX [] H s₁ (fun _ _ _=>False) e s'→False) :
  codeAny (model P w) callerA (.call (.ref fa) ⟨[.ref a],[]⟩) (fun r s'=>r=.ok (.ret (.bool true))∧OldK s₁.heap s'.heap∧s'.os=s₁.os∧AllBare s'.gens) s₁:=by
 have rv:=zM hi;have lenV:=hi.length
 -- from an abstract heap in which nothing but the script may be tracked
 have core:∀ H:Hp,OJ H→b9 K H a (ns.map V.int)→gU P w H s₁.heap→(∀ b,H b≠none→b=a)→(H a≠none→K.lookup a=none) →
   codeAny (model P w) callerA (.call (.ref fa) ⟨[.ref a],[]⟩) (fun r s'=>r=.ok (.ret (.bool true))∧OldK s₁.heap s'.heap∧s'.os=s₁.os∧AllBare s'.gens) s₁:=by
  intro H hO hS hok hA hK;have base_of:∀ {b:Addr} {o:Obj},s₁.heap.get? b=some o→H b=none→(pN s₁.heap H).get? b=some o:=fun e n=>MM e n
  have noA:∀ {b:Addr} {o:Obj} {es:Array DictEntry} {ep:Nat},s₁.heap.get? b=some o→o.data=.dict es ep→H b=none:=fun {b o es ep} e d=>by
   cases q:H b with
   | none=>rfl
   | some u =>
    have e':b=a:=hA b (by rw [q]; simp);subst e';rw [ha] at e; cases e;have d':Data.seq vs.toArray _=Data.dict es ep:=d;cases d'
  have nsK:∀ {b:Addr} {m:Str→Option Value},s₁.heap.Ns b m→(pN s₁.heap H).Ns b m:=fun {b m} ⟨o,es,ep,e,d,r⟩=>⟨o,es,ep,base_of e (noA e d),d,r⟩
  have hKb:K.In (pN s₁.heap H):=fun b o e=>base_of (KX b o e) (by
   cases q:H b with
   | none=>rfl
   | some u =>
    have e':b=a:=hA b (by rw [q]; simp);subst e'
    rw [hK (by rw [q]; simp)] at e; cases e)
  have hM:Mod K mg (pN s₁.heap H):=⟨hKb,nsK hns,⟨mb,nsK hb,hbb⟩,let ⟨mc,h1,h2⟩:=hlim; ⟨mc,nsK h1,h2⟩⟩
  have e0:Env0 P w K mg (pN s₁.heap H) callerA [] s₁ H:=⟨rfl,hM,fun b o e=>UE e,Nat.le_of_eq (JI _ _),trivial,fun b hb=>absurd (show b∈([]:List Addr) from hb) (by simp),hok,.of_eq hg⟩
  refine codeAny_mono ((F _ hKb (nsK hns)).run callerA [] s₁ H ⟨[.ref a],[]⟩ [.ref a] [.ref a] _ _ hr e0 (hbind s₁ (.ref a)) (.cons rfl .nil) (hsp H hO hS)) fun r s' h=>?_
  cases r with
  | error e=>exact (hCX H e s' h).elim
  | ok fl =>
   cases fl with
   | next=>exact False.elim h
   | brk=>exact False.elim h
   | cont=>exact False.elim h
   | ret u =>
    obtain ⟨v,H',os,bare,un,hok',r',q⟩:=h;have q':v=.bl true:=q;subst q';obtain rfl:u=Value.bool true:=r';refine ⟨rfl,OldK.of_keep fun b o e=>?_,os,bare⟩
    cases q:H b with
    | none=>exact un.keep b o e q (by intro z; exact absurd (show b∈([]:List Addr) from z) (by simp)) (by simp)
    | some u =>
     rcases hO b with z | ⟨ob,xs,z⟩
     ·rw [q] at z; cases z
     ·have z2:=un.frzs b ob _ z;obtain ⟨e1,_⟩:=hok b _ z;obtain ⟨e2,_⟩:=hok' b _ z2;rw [e] at e1; cases e1;exact e2
 cases hk:K.lookup a with
 | some o =>
  -- the script is one of the module's own objects
  have e:=KX a o hk;rw [ha] at e;cases e;refine core (fun _=>none) (fun _=>.inl rfl) (.inr ⟨_,vs.toArray,_,hk,rfl,rfl,rfl,by rw [Zi,lenV]; exact hl,by simpa using rv⟩) (fun b u z=>by have z':(none:Option HO)=some u:=z; cases z') (fun b z=>absurd rfl z) fun z=>absurd rfl z
 | none =>
  refine core (fun b=>if b=a then some (.frz { cls:=.type "list",data:=.seq vs.toArray } (.lst (ns.map V.int))) else none) (fun b=>?_) (.inl (.inr ⟨{ cls:=.type "list",data:=.seq vs.toArray },Zo rfl⟩)) (fun b u z=>?_) (fun b z=>?_) fun _=>hk
  ·by_cases hb:b=a
   ·exact .inr ⟨_,_,Zo hb⟩
   ·exact .inl (Zp hb)
  ·by_cases hb:b=a
   ·have z':=(Zo hb).symm.trans z;cases z';subst hb;exact ⟨ha,by rw [List.length_map]; exact hl,vs,_,rv,ha⟩
   ·have z':=(Zp hb).symm.trans z;cases z'
  ·by_cases hb:b=a
   ·exact hb
   ·exact absurd (Zp hb) z
abbrev aC {K:Frag} {h:Heap} (_:K.In h):Frag:=K
theorem SY {l:PySem.W.OpenLaw} {n k:Nat} {q:Program} {loose:List Str} {XP:(Str→Option Value)→Heap→Prop} {YP:World→Heap→Prop} {d:DefRec} {K:Params→Frag} {CX:World→sE} {sp:World→Sp} {x:Str}
  (hn:l.most=some n) (hn2:n≤sizeLine) (hdf:d.params.defaults=[]) (hr:Room k callerA)
  (hY:∀ (w:World) (h:Heap),YP w h→(K w.params).In h)
  (F:∀ (w:World) (mg:Str→Option Value) (fa:Addr) (h:Heap),(K w.params).In h→h.Ns mainGlobals mg→mg d.name=some (.ref fa) →
   ∃ fd:FuncData,(∀ (s:Shared) (u:Value),BindsTo s fd ⟨[u],[]⟩ [(x,u)]) ∧
    ∀ base:Heap,(K w.params).In base→base.Ns mainGlobals mg→FnOk l.prog w (K w.params) mg base (CX w) k fa fd [x] (sp w))
  (hsp:∀ (w:World) (H:Hp) (a:Addr) (ns:List Int),ns.length≤n→OJ H→b9 (K w.params) H a (ns.map V.int)→sp w [.ref a] H (fun v _=>v=.bl true) fun _ _ _=>False)
  (hCX:∀ (w:World) (H:Hp) (s:Shared) (e:Value) (s':Shared),CX w [] H s (fun _ _ _=>False) e s'→False) :
  PySem.W.WalkO q loose XP YP l.row.toRowW d [] (fun f vs=>PySem.call f vs):=by
 refine Att.EM hn hdf fun w s₀ s₁ mg mb fa o pm cd doc a vs ns G Y ho hd hcd hmg hobj hints hlen hg=>?_
 have KX:=hY w _ Y;obtain ⟨fd,hb,hF⟩:=F w mg fa _ KX G.T.g hmg;exact QI KX G.T.g G.T.b G.T.builtins G.T.nolimit hg hobj hints (Zr hlen hn2) hr hF hb (fun H hO hS=>hsp w H a ns hlen hO hS) fun H e s'=>hCX w H s₁ e s'
noncomputable def eE (s:Stmt):Arguments:=match s with
 | .FunctionDef _ a _ _ _ _ _ _ _ _=>a
 | _=>{ posonlyargs:=[],args:=[],vararg:=none,kwonlyargs:=[],kw_defaults:=[],kwarg:=none,defaults:=[] }
noncomputable def cA (s:Stmt):List Stmt:=match s with
 | .FunctionDef _ _ b _ _ _ _ _ _ _=>b
 | _=>[]
noncomputable def a6 (s:Stmt):Scope:=match s with
 | .FunctionDef _ _ _ _ _ _ sc _ _ _=>sc
 | _=>{ kind:=.function,names:=[],isGenerator:=false,isCoroutine:=false }
abbrev sS:sE:=fun _ _ _ _ _ _=>False
abbrev E0:XK:=fun _ _ _=>False
theorem A7 {X:Cx}:mK sS X E0:=fun _ _ _ _ _ _ _ h=>h.elim
structure Fun (K:Frag) (x qual:Str) (st:Stmt) (f:Addr) (fd:FuncData):Prop where
 ex:∃ (oc:Value) (od:Option Addr) (kV doc pm:Value) (an:Option Addr) (cdv ct:Value) (osl:Array (Option Value)),
  fd=PySem.W.fnOf x qual (eE st) (cA st) (a6 st) .none kV doc pm an cdv ct∧K.lookup f=some ⟨oc,od,.func fd,osl⟩∧PySem.W.codeIn K cdv qual=true
 kp:PySem.W.keepIn K (.ref f)=true
section
variable {P:Program} {w:World} {K:Frag} {mg:Str→Option Value} {base:Heap}
theorem Fun.ok {x qual:Str} {st:Stmt} {f:Addr} {fd:FuncData} {N ps:List Str} {k:Nat} {sp:Sp} (F:Fun K x qual st f fd) (S:FnScope N ps (a6 st)) (len:∀ vs H Q E,sp vs H Q E→vs.length=ps.length)
  (hbody:∀ (cdv:Value) (A:Around) (outer:List Env) (s:Shared) (H:Hp) (vs:List V) (Q:VK) (E:XK),Room k (A.deeper (envOfC qual (a6 st) s.heap.objs.size f cdv))→sp vs H Q E →
   ∃ t,hW (sT sS P w K mg base N qual (a6 st) f cdv A outer s H E).nox (cA st) t∧t { nx:=fun _ H'=>Q .non H',rt:=Q } (cL N vs) H):FnOk P w K mg base sS (k+1) f fd ps sp:=by
 obtain ⟨oc,od,kV,doc,pm,an,cdv,ct,osl,rfl,lk,hcd⟩:=F.ex;refine aBv lk hcd S len fun A outer s H vs Q E hr hsp=>?_
 obtain ⟨t,h,q⟩:=hbody cdv A outer s H vs Q E hr hsp;exact ⟨t,h.nox,q⟩
theorem Fun.binds {x qual:Str} {st:Stmt} {f:Addr} {fd:FuncData} {ps:List Str} (F:Fun K x qual st f fd)
  (h:∀ (kV doc pm:Value) (an:Option Addr) (cdv ct:Value) (us:List Value),us.length=ps.length→bindArgs (PySem.W.fnOf x qual (eE st) (cA st) (a6 st) .none kV doc pm an cdv ct) ⟨us,[]⟩=pure (ps.zip us)):hE K fd ps []:=by
 obtain ⟨oc,od,kV,doc,pm,an,cdv,ct,osl,rfl,lk,hcd⟩:=F.ex;exact .all (h kV doc pm an cdv ct)
theorem vZ {x qual:Str} {st:Stmt} {f:Addr} {oc:Value} {od an:Option Addr} {osl:Array (Option Value)} {kV doc pm cdv ct:Value} (l:K.lookup f=some ⟨oc,od,.func (PySem.W.fnOf x qual (eE st) (cA st) (a6 st) .none kV doc pm an cdv ct),osl⟩)
  (c:PySem.W.codeIn K cdv qual=true) (k:PySem.W.keepIn K (.ref f)=true):Fun K x qual st f (PySem.W.fnOf x qual (eE st) (cA st) (a6 st) .none kV doc pm an cdv ct):=⟨⟨oc,od,kV,doc,pm,an,cdv,ct,osl,rfl,l,c⟩,k⟩
end
section
variable {X:Cx}
end
theorem CY {A B:Prop} (h:B):if false=true then A else B:=by
 rw [Zp Bool.false_ne_true];exact h
theorem B0 {A B:Prop} (h:A):if true=true then A else B:=by
 rw [Zo rfl];exact h
def aM (H H':Hp):Prop:=∀ b o,H b=some o→H' b=some o
theorem aM.refl (H:Hp):aM H H:=fun _ _ h=>h
theorem aM.trans {H H1 H2:Hp} (a:aM H H1) (b:aM H1 H2):aM H H2:=fun c o h=>b c o (a c o h)
theorem aM.free {H H':Hp} (e:aM H H') {l:Addr} (h:H' l=Option.none):H l=Option.none:=by
 cases q:H l with
 | none=>rfl
 | some o =>
  rw [e l o q] at h;cases h
theorem aM.seq {K:Frag} {H H':Hp} {a:Addr} {xs:List V} (e:aM H H') (h:b9 K H a xs):b9 K H' a xs:=by
 rcases h with (h | ⟨o,h⟩) | h
 ·exact .inl (.inl (e _ _ h))
 ·exact .inl (.inr ⟨o,e _ _ h⟩)
 ·exact .inr h
end L2
set_option maxHeartbeats 4000000
namespace L2
open PySem PySem.Spec PyProof.Rows
section
variable {κ:Type} [DecidableEq κ]
noncomputable def k9 (kvs:List (κ × V)) (k:κ):Option V:=(kvs.find? fun kv=>decide (kv.1=k)).map (·.2)
noncomputable def r6 (kvs:List (κ × V)) (k:κ) (v:V):List (κ × V) :=
 if (kvs.any fun kv=>decide (kv.1=k))=true then kvs.map (fun kv=>if kv.1=k then (kv.1,v) else kv) else kvs ++ [(k,v)]
noncomputable def Q2 (kvs:List (κ × V)) (k:κ):List (κ × V):=kvs.filter fun kv=>decide (kv.1≠k)
theorem vC {p:κ × V} {r:List (κ × V)} {k:κ} (e:p.1=k):k9 (p :: r) k=some p.2:=by simp [k9,List.find?_cons,e]
theorem u0 {p:κ × V} {r:List (κ × V)} {k:κ} (e:¬ p.1=k):k9 (p :: r) k=k9 r k:=by simp [k9,List.find?_cons,e]
theorem CU (k:κ):∀ kvs:List (κ × V),(kvs.any fun kv=>decide (kv.1=k))=(k9 kvs k).isSome
 | []=>rfl
 | p :: r=>by
  rw [List.any_cons];by_cases e:p.1=k
  ·simp only [vC e,Zn e,Bool.true_or,Option.isSome_some]
  ·rw [u0 e,Zm e,Bool.false_or]; exact CU k r
theorem iR.isSome_eq {o:Option V} {u:Option Value} (r:iR o u):o.isSome=u.isSome:=by
 cases o with
 | none=>cases u with
  | none=>rfl
  | some _=>exact (show False from r).elim
 | some _=>cases u with
  | none=>exact (show False from r).elim
  | some _=>rfl
theorem iR.getD {o:Option V} {u:Option Value} {d:V} {d':Value} (r:iR o u) (rd:bC d d'):bC (o.getD d) (u.getD d'):=by
 cases o with
 | none=>cases u with
  | none=>exact rd
  | some _=>exact (show False from r).elim
 | some _=>cases u with
  | none=>exact (show False from r).elim
  | some _=>exact r
theorem KV.val {kvs:List (κ × V)} {vs:List (κ × Value)} (r:KV kvs vs) (k:κ):iR (k9 kvs k) (valueAt vs k):=by
 unfold KV at r
 induction r with
 | nil=>exact True.intro
 | @cons p q ps qs h t ih =>
  obtain ⟨h1,h2⟩:=h;by_cases e:p.1=k
  ·have e':q.1=k:=h1.symm.trans e;have b:valueAt (q :: qs) k=some q.2:=by simp [valueAt,List.find?_cons,e']
   rw [vC e,b]; exact h2
  ·have e':¬ q.1=k:=fun z=>e (h1.trans z)
   have b:valueAt (q :: qs) k=valueAt qs k:=by simp [valueAt,List.find?_cons,e']
   rw [u0 e,b]; exact ih
theorem KV.any {kvs:List (κ × V)} {vs:List (κ × Value)} (r:KV kvs vs) (k:κ):(kvs.any fun kv=>decide (kv.1=k))=vs.any fun kv=>decide (kv.1=k):=by
 unfold KV at r
 induction r with
 | nil=>rfl
 | cons h t ih=>rw [List.any_cons,List.any_cons,ih,h.1]
theorem KV.repl {kvs:List (κ × V)} {vs:List (κ × Value)} (r:KV kvs vs) (k:κ) {y:V} {u:Value} (ry:bC y u) :
  KV (kvs.map fun kv=>if kv.1=k then (kv.1,y) else kv) (vs.map fun kv=>if kv.1=k then (kv.1,u) else kv):=by
 unfold KV at r ⊢
 induction r with
 | nil=>exact .nil
 | @cons p q ps qs h t ih =>
  rw [Zs,Zs];refine .cons ?_ ih;obtain ⟨h1,h2⟩:=h;by_cases e:p.1=k
  ·rw [Zo e,Zo (h1.symm.trans e)]; exact ⟨h1,ry⟩
  ·rw [Zp e,Zp (fun z=>e (h1.trans z))]; exact ⟨h1,h2⟩
theorem KV.put {kvs:List (κ × V)} {vs:List (κ × Value)} (r:KV kvs vs) (k:κ) {y:V} {u:Value} (ry:bC y u):KV (r6 kvs k y) (stored vs k u):=by
 unfold r6 stored;rw [r.any k];by_cases e:(vs.any fun kv=>decide (kv.1=k))=true
 ·rw [Zo e,Zo e]; exact r.repl k ry
 ·rw [Zp e,Zp e]; exact Paired.snoc r ⟨rfl,ry⟩
theorem KV.drop {kvs:List (κ × V)} {vs:List (κ × Value)} (r:KV kvs vs) (k:κ):KV (Q2 kvs k) (without vs k):=by
 unfold KV at r ⊢;unfold Q2 without
 induction r with
 | nil=>exact .nil
 | @cons p q ps qs h t ih =>
  obtain ⟨h1,h2⟩:=h;rw [List.filter_cons,List.filter_cons];by_cases e:p.1=k
  ·have a:¬ decide (p.1≠k)=true:=by simp [e]
   have b:¬ decide (q.1≠k)=true:=by simp [h1.symm.trans e]
   rw [Zp a,Zp b]; exact ih
  ·have e':¬ q.1=k:=fun z=>e (h1.trans z)
   have a:decide (p.1≠k)=true:=by simp [e]
   have b:decide (q.1≠k)=true:=by simp [e']
   rw [Zo a,Zo b]; exact .cons ⟨h1,h2⟩ ih
theorem KV.keys {kvs:List (κ × V)} {vs:List (κ × Value)} (r:KV kvs vs):kvs.map (·.1)=vs.map (·.1):=by
 unfold KV at r
 induction r with
 | nil=>rfl
 | cons h t ih=>rw [Zs,Zs,ih,h.1]
theorem KV.length {kvs:List (κ × V)} {vs:List (κ × Value)} (r:KV kvs vs):kvs.length=vs.length:=Paired.length r
end
abbrev KT (H:Hp):List (List cN × V)→List (List cN × Addr × Value)→Prop:=Paired fun p q=>p.1=q.1∧H q.2.1=some (.tup (p.1.map kV))∧bC p.2 q.2.2
theorem KT.val {H:Hp} {kvs:List (List cN × V)} {xs:List (List cN × Addr × Value)} (r:KT H kvs xs) (k:List cN):iR (k9 kvs k) ((atKey xs k).map (·.2)):=by
 induction r with
 | nil=>exact True.intro
 | @cons p q ps qs h t ih =>
  obtain ⟨h1,_,h2⟩:=h;by_cases e:p.1=k
  ·have e':q.1=k:=h1.symm.trans e;have b:atKey (q :: qs) k=some q.2:=by simp [atKey,List.find?_cons,e']
   rw [vC e,b]; exact h2
  ·have e':¬ q.1=k:=fun z=>e (h1.trans z)
   have b:atKey (q :: qs) k=atKey qs k:=by simp [atKey,List.find?_cons,e']
   rw [u0 e,b]; exact ih
theorem KT.repl {H:Hp} {kvs:List (List cN × V)} {xs:List (List cN × Addr × Value)} (r:KT H kvs xs) (k:List cN) {y:V} {u:Value} (ry:bC y u) :
  KT H (kvs.map fun kv=>if kv.1=k then (kv.1,y) else kv) (xs.map (putAt k u)):=by
 induction r with
 | nil=>exact .nil
 | @cons p q ps qs h t ih =>
  rw [Zs,Zs];refine .cons ?_ ih;obtain ⟨h1,h2,h3⟩:=h;unfold putAt;by_cases e:p.1=k
  ·rw [Zo e,Zo (h1.symm.trans e)]; exact ⟨h1,h2,ry⟩
  ·rw [Zp e,Zp (fun z=>e (h1.trans z))]; exact ⟨h1,h2,h3⟩
theorem KT.put {H:Hp} {kvs:List (List cN × V)} {xs:List (List cN × Addr × Value)} (r:KT H kvs xs) (k:List cN) {b:Addr} {y:V} {u:Value} (hb:H b=some (.tup (k.map kV))) (ry:bC y u) :
  KT H (r6 kvs k y) (storedH xs k b u):=by
 have e:(kvs.any fun kv=>decide (kv.1=k))=(atKey xs k).isSome:=by
  rw [CU,(r.val k).isSome_eq,Option.isSome_map]
 unfold r6 storedH;rw [e];by_cases q:(atKey xs k).isSome=true
 ·rw [Zo q,Zo q]; exact r.repl k ry
 ·rw [Zp q,Zp q]; exact Paired.snoc r ⟨rfl,hb,ry⟩
theorem KT.keeps {H H':Hp} {kvs:List (List cN × V)} {xs:List (List cN × Addr × Value)} (r:KT H kvs xs) (ht:∀ b ys,H b=some (.tup ys)→H' b=some (.tup ys)):KT H' kvs xs :=
 Paired.mapP r fun _ _ z=>⟨z.1,ht _ _ z.2.1,z.2.2⟩
section
variable {P:Program} {w:World} {H:Hp} {h:Heap} {a:Addr}
end
def GN (H:Hp) (a:Addr) (y:V) (r:Option V):Prop :=
 (∃ kvs k,Rd H a (.dK kvs)∧y=kV k∧r=k9 kvs k)∨∃ kvs k b,Rd H a (.dT kvs)∧y=.ref b∧H b=some (.tup (k.map kV))∧r=k9 kvs k
def GU (H:Hp) (a:Addr) (y v:V) (H':Hp):Prop :=
 (∃ kvs k,H a=some (.dK kvs)∧y=kV k∧kvs.length<sizeLine∧H'=aV H a (.dK (r6 kvs k v))) ∨
 ∃ kvs k b,H a=some (.dT kvs)∧y=.ref b∧H b=some (.tup (k.map kV))∧kvs.length<sizeLine∧H'=aV H a (.dT (r6 kvs k v))
theorem GN.k {H:Hp} {a:Addr} {kvs:List (cN × V)} {k:cN} (e:H a=some (.dK kvs)):GN H a (kV k) (k9 kvs k):=.inl ⟨kvs,k,.inl e,rfl,rfl⟩
theorem GN.t {H:Hp} {a b:Addr} {kvs:List (List cN × V)} {k:List cN} (e:H a=some (.dT kvs)) (eb:H b=some (.tup (k.map kV))):GN H a (.ref b) (k9 kvs k):=.inr ⟨kvs,k,b,.inl e,rfl,eb,rfl⟩
theorem GU.k {H:Hp} {a:Addr} {kvs:List (cN × V)} {k:cN} {v:V} (e:H a=some (.dK kvs)) (hl:kvs.length<sizeLine):GU H a (kV k) v (aV H a (.dK (r6 kvs k v))):=.inl ⟨kvs,k,e,rfl,hl,rfl⟩
theorem GU.t {H:Hp} {a b:Addr} {kvs:List (List cN × V)} {k:List cN} {v:V} (e:H a=some (.dT kvs)) (eb:H b=some (.tup (k.map kV))) (hl:kvs.length<sizeLine) :
  GU H a (.ref b) v (aV H a (.dT (r6 kvs k v))):=.inr ⟨kvs,k,b,e,rfl,eb,hl,rfl⟩
section
variable {X:Cx} {pins:List (Addr × Obj)} {σ:St} {H:Hp} {s:Shared} {a:Addr} {y v:V} {u r:Value} {o:Option V} {A:Around} {E:Value→Shared→Prop}
theorem Inv.big (I:Inv X pins σ H s):sysModules<s.heap.objs.size:=by
 have h:mainGlobals<s.heap.objs.size:=(I.mod.glob.keeps I.bk).lt;exact Nat.lt_trans (by decide) h
theorem FC {h':Heap} {t':Nat} {ob:HO} (I:Inv X pins σ H s) (mu:LK (H a)) (hs:Heap.SameBut a s.heap h') (he:∃ q,h'.get? a=some q) (new:dW X.prog X.w (aV H a ob) h' a ob) :
  Inv X pins σ (aV H a ob) { s with heap:=h',toks:=t' } :=
 I.write (x:=a) (e:=a) mu (.inl rfl) (fun b q hb z=>(hs.2 b hb).trans z) he new
end
section
variable {X:Cx} {pins:List (Addr × Obj)} {σ:St} {H:Hp} {s:Shared} {a:Addr} {kvs:List (cN × V)} {k:cN} {u:Value} {A:Around} {E:Value→Shared→Prop}
end
section
variable {X:Cx} {o i e value:Expr} {pos pos' tpos:Pos} {td ty tv:TE}
end
section
variable {X:Cx} {pos:Pos}
end
structure M1 (X:Cx) (o:Expr) (m:Str) (apos:Pos) (e:Expr) (cpos:Pos):Prop where
 base:attributeBase o m X.env (eval o X.env)=eval o X.env
 few:((backTo cpos (starEach [e] X.env)).all (fun x=>!x.1) && (backToKw cpos (keywordEach [] X.env)).all (fun x=>x.1.isSome)
  && decide (([e]:List Expr).length+([]:List Keyword).length+(if ([]:List Keyword).isEmpty then 0 else 1)<30))=true
 line:(apos.endLine == cpos.line)=true
 trees:backTo cpos (starEach [e] X.env)=[(false,eval e X.env)]
structure M2 (X:Cx) (o:Expr) (m:Str) (apos:Pos) (e f:Expr) (cpos:Pos):Prop where
 base:attributeBase o m X.env (eval o X.env)=eval o X.env
 few:((backTo cpos (starEach [e,f] X.env)).all (fun x=>!x.1) && (backToKw cpos (keywordEach [] X.env)).all (fun x=>x.1.isSome)
  && decide (([e,f]:List Expr).length+([]:List Keyword).length+(if ([]:List Keyword).isEmpty then 0 else 1)<30))=true
 line:(apos.endLine == cpos.line)=true
 trees:backTo cpos (starEach [e,f] X.env)=[(false,eval e X.env),(false,eval f X.env)]
section
variable {X:Cx} {pins:List (Addr × Obj)} {σ:St} {H:Hp} {s:Shared} {a:Addr} {y d:V} {u r:Value} {o:Option V} {A:Around} {E:Value→Shared→Prop}
end
section
variable {X:Cx} {o e f:Expr} {apos cpos:Pos} {td ty tx:TE}
end
section
variable {X:Cx} {pins:List (Addr × Obj)} {σ:St} {H:Hp} {s:Shared} {a:Addr} {kvs:List (cN × V)} {A:Around} {E:Value→Shared→Prop}
end
section
variable {X:Cx} {pins:List (Addr × Obj)} {σ:St} {H:Hp} {s:Shared} {a:Addr} {y:V} {u:Value} {A:Around} {E:Value→Shared→Prop}
end
abbrev fE:=Int × List Int
section
variable {P:Program} {w:World} {A:Around} {E:Value→Shared→Prop} {s:Shared} {h:Heap}
def fF (P:Program) (w:World) (h:Heap) (k:fE) (a:Addr):Prop:=∃ (t:Tok) (b:Addr),IsTup h a #[.int k.1 t,.ref b]∧IsTupleKey (intKind P w) h k.2 b
noncomputable def C5 (P:Program) (w:World) (k:fE):Int:=reduceHash (Builtin.Tuple.tupleHashOf [hashInt k.1,tupleKeyHash (intKind P w) k.2])
theorem fF.inj {a:Addr} {x y:fE} (hx:fF P w h x a) (hy:fF P w h y a):x=y:=by
 obtain ⟨t,b,⟨o,e,_,n,d⟩,kx⟩:=hx;obtain ⟨t',b',⟨o',e',_,n',d'⟩,ky⟩:=hy;rw [e] at e';cases e';rw [d] at d';have z:=(Data.seq.inj d').1;have z1:Value.int x.1 t=Value.int y.1 t':=congrArg (fun (q:Array Value)=>q.getD 0 .none) z;have z2:Value.ref b=Value.ref b':=congrArg (fun (q:Array Value)=>q.getD 1 .none) z;cases z2;exact Prod.ext (Value.int.inj z1).1 ((tupleKind (intKind P w)).inj kx ky)
theorem fF.keeps {h':Heap} {k:fE} {a d:Addr} {o:Obj} {es:Array DictEntry} {ep:Nat} (hk:fF P w h k a) (e:h.get? d=some o) (ed:o.data=.dict es ep) (sb:Heap.SameBut d h h'):fF P w h' k a:=by
 obtain ⟨t,b,⟨o',e',c,n,d'⟩,kb⟩:=hk
 have ne:a≠d:=fun z=>by
  subst z;rw [e'] at e;cases e;rw [d'] at ed;cases ed
 exact ⟨t,b,⟨o',(sb.2 a ne).trans e',c,n,d'⟩,(tupleKind (intKind P w)).keeps kb e ed sb⟩
noncomputable def zN (k:fE):PyData:=.tuple [.int k.1,.tuple (k.2.map .int)]
theorem uW:∀ {ns:List Int} {us:List Value},PySem.ItemsAre (intKind P w) ns us→∃ as,ReadsAll h us (ns.map .int) as
 | _,_,.nil=>⟨_,.nil⟩
 | _,_,.cons hk t=>by
  obtain ⟨as,r⟩:=uW t;obtain ⟨tk,rfl⟩:=Value.isInt_shape hk;exact ⟨_,.cons (.int _ _) r⟩
theorem fF.reads {k:fE} {a:Addr} (hk:fF P w h k a):∃ as,Reads h (.ref a) (zN k) as:=by
 obtain ⟨t,b,⟨o,e,c,n,d⟩,o2,its,n2,e2,c2,d2,i2⟩:=hk;obtain ⟨as,r⟩:=uW (h:=h) i2;exact ⟨_,.tuple e c d (.cons (.int _ _) (.cons (.tuple e2 c2 d2 r) .nil))⟩
theorem YS {ns:List Int}:PyData.canLayAll0 (ns.map .int)=true:=by
 induction ns with
 | nil=>simp [PyData.canLayAll0]
 | cons n ns ih=>simp [PyData.canLayAll0,PyData.canLay0,ih]
theorem EX {k:fE}:(zN k).canLay0=true:=by simp [zN,PyData.canLay0,PyData.canLayAll0,YS]
theorem N0 {ns:List Int}:PyData.depthAll (ns.map .int)≤1:=by
 induction ns with
 | nil=>simp [PyData.depthAll]
 | cons n ns ih=>simp [PyData.depthAll,PyData.depth]; omega
theorem LJ {k:fE}:(zN k).depth≤5:=by
 have:=N0 (ns:=k.2)
 simp [zN,PyData.depth,PyData.depthAll];omega
theorem KW:∀ {ns ms:List Int},PyData.eqvAll (ns.map .int) (ms.map .int)=decide (ns=ms)
 | [],[]=>by simp [PyData.eqvAll]
 | [],_ :: _=>by simp [PyData.eqvAll]
 | _ :: _,[]=>by simp [PyData.eqvAll]
 | n :: ns,m :: ms=>by
  rw [Zs,Zs,PyData.eqvAll,KW];simp only [PyData.eqv,List.cons.injEq,Bool.decide_and];congr 1
theorem SE {x y:fE}:(zN x).eqv (zN y)=decide (x=y):=by
 obtain ⟨a,as⟩:=x;obtain ⟨b,bs⟩:=y;simp only [zN,PyData.eqv,PyData.eqvAll,KW,Bool.and_true,Prod.mk.injEq,Bool.decide_and];congr 1
theorem TX {a b:Addr} {c:Bool} {Q:Bool→Shared→Prop} (hs:a=b→c=true) (r:SeqAt.RcAt A s (.ref a) (.ref b) c) (q:Q c s):wpAny (model P w) A (eqBool (.ref a) (.ref b)) Q E s:=by
 unfold eqBool;refine wpAny_holding ?_;by_cases e:a=b
 ·subst e;rw [Zo (by simp)];rw [hs rfl] at q;exact Zt (wpAny_rule (Zu q))
 ·rw [Zp (by simpa using e)];exact Zt (r P w E _ (wpAny_truthy_bool q))
theorem fF.eqBool {x y:fE} {a b:Addr} {Q:Bool→Shared→Prop} (hu:A.units+8<cLine) (hx:fF P w s.heap x a) (hy:fF P w s.heap y b) (q:Q (decide (x=y)) s):wpAny (model P w) A (eqBool (.ref a) (.ref b)) Q E s:=by
 obtain ⟨as,r1⟩:=hx.reads;obtain ⟨bs,r2⟩:=hy.reads;have d1:=LJ (k:=x);refine TX (fun e=>Zn (by subst e; exact hx.inj hy)) ?_ q;rw [← SE];exact SeqAt.rcAt_reads r1 r2 EX EX (by omega)
theorem fF.pyHash {k:fE} {a:Addr} {Q:Int→Shared→Prop} (hu:A.units+8<cLine) (hk:fF P w s.heap k a) (q:Q (C5 P w k) { s with toks:=s.toks+(k.2.length+3) }):wpAny (model P w) A (pyHash (.ref a)) Q E s:=by
 obtain ⟨t,b,ht,kb⟩:=hk;show wpAny _ _ (pyHashByItsType (.ref a)) _ _ s;refine W.pyHash_slot ht.typeIs F.slot_tuple_hash F.entry_tuple_hash (F.args_tuple_hash_1 _) rfl (.inr (by omega)) ?_;unfold Builtin.«tuple.__hash__»;show wpAny _ _ (Builtin.Tuple.tupleItemsOf (.ref a) >>= _) _ _ s;refine Zt (tupleItemsOf_ ht ?_);rw [← Array.forIn_toList];simp only [List.forIn_cons,List.forIn_nil,bind_assoc,pure_bind];refine Zt (wpAny_pyHash_int ?_);refine Zt (wpAny_pyHash_tuple (knd:=intKind P w) (by show A.units+1<cLine; omega) kb ?_);refine Zt (wpAny_mkInt (Zu ⟨_,_,rfl, ?_⟩));have e:s.toks+1+(k.2.length+1)+1=s.toks+(k.2.length+3):=by omega
 show Q (C5 P w k) { s with toks:=s.toks+1+(k.2.length+1)+1 };rw [e];exact q
theorem zS {d:Nat} {a:Addr} {its:Array Value} {Q:Bool→Shared→Prop} (ht:IsTup s.heap a its) (hi:∀ v∈its.toList,∀ (R:Bool→Shared→Prop),R true s→wpAny (model P w) A (eqIsQuiet d v) R E s) (q:Q true s):wpAny (model P w) A (eqIsQuiet (d+1) (.ref a)) Q E s:=by
 unfold eqIsQuiet;refine Zt (wpAny_specialOf ht.typeIs (PyProof.Rows.slot_tuple_eq.lookup) ?_);obtain ⟨o,e,c,n,dd⟩:=id ht;show wpAny _ _ (isInstance (.ref a) (.type "tuple") >>= _) _ _ s;refine Zt (wpAny_isInstance ht.typeIs (by with_unfolding_all rfl) ?_);show wpAny _ _ (seqItems? (.ref a) >>= _) _ _ s;refine Zt (wpAny_seqItems e dd ?_)
 have key:∀ {k:Option Bool × Unit→Sem Bool},wpAny (model P w) A (k (none,())) Q E s→∀ xs:List Value,(∀ v∈xs,v∈its.toList)→wpAny (model P w) A (forIn xs ((none:Option Bool),()) (fun y _=>do
    let v ← eqIsQuiet d y
    if (!v)=true then pure (ForInStep.done (some false,())) else pure (ForInStep.yield (none,()))) >>= k) Q E s:=by
  intro k hk xs
  induction xs with
  | nil=>intro _; exact Zt (Zu hk)
  | cons x xs ih =>
   intro hm;have ih:=ih fun v hv=>hm v (Ze _ hv)
   simp only [List.forIn_cons,bind_assoc] at ih ⊢;refine Zt (hi x (hm x zh) _ ?_);simp only [Bool.not_true,Bool.false_eq_true,if_false,pure_bind];exact ih
 show wpAny _ _ (forIn its _ _ >>= _) _ _ s;rw [← Array.forIn_toList];exact key (Zu q) its.toList fun _ h=>h
theorem zK {d:Nat} {i:Int} {t:Tok} {Q:Bool→Shared→Prop} (q:Q true s):wpAny (model P w) A (eqIsQuiet d (.int i t)) Q E s:=by
 unfold eqIsQuiet;exact Zu q
theorem E5:∀ {ns:List Int} {us:List Value},PySem.ItemsAre (intKind P w) ns us→∀ v∈us,∃ i t,v=.int i t
 | _,_,.nil=>fun _ h=>nomatch h
 | _,_,.cons hk r=>fun v hv=>by
  rcases List.mem_cons.mp hv with rfl | hv
  ·obtain ⟨t,e⟩:=Value.isInt_shape hk;exact ⟨_,t,e⟩
  ·exact E5 r v hv
theorem fF.quiet {k:fE} {a:Addr} {Q:Bool→Shared→Prop} (hk:fF P w s.heap k a) (q:Q true s):wpAny (model P w) A (eqIsQuiet 8 (.ref a)) Q E s:=by
 obtain ⟨t,b,ht,o2,its,n2,e2,c2,d2,i2⟩:=hk;refine zS (d:=7) ht (fun v hv R hR=>?_) q;rcases List.mem_cons.mp (show v∈[Value.int k.1 t,Value.ref b] from hv) with rfl | hv
 ·exact zK hR
 ·rw [ze.mp hv];refine zS (d:=6) (its:=its) ⟨o2,e2,c2,n2,d2⟩ (fun v hv R hR=>?_) hR;obtain ⟨i,t,rfl⟩:=E5 i2 v hv;exact zK hR
end
noncomputable def jS (P:Program) (w:World):HeapKind P w fE where
 is:=fF P w
 hash:=C5 P w
 draws:=fun k=>k.2.length+3
 room:=fun A=>A.units+8<cLine
 inj:=fF.inj
 keeps:=fF.keeps
 pyHash:=fun hu hk q=>fF.pyHash hu hk q
 eqBool:=fun hu hx hy q=>fF.eqBool hu hx hy q
 quiet:=fun hk q=>fF.quiet hk q
section
end
abbrev rN:=List (fE × Addr × Value)
noncomputable def hS (k:fE):Int:=reduceHash (Builtin.Tuple.tupleHashOf [hashInt k.1,reduceHash (Builtin.Tuple.tupleHashOf (k.2.map hashInt))])
noncomputable def aAQ (x:fE × Addr × Value):DictEntry:={ hash:=hS x.1,key:=.ref x.2.1,val:=x.2.2 }
def fK (a:Addr) (xs:rN) (h:Heap):Prop:=∃ o es ep,h.get? a=some o∧o.ExactDict∧o.data=.dict es ep∧es.toList=xs.map aAQ
def cQ (K:Frag) (H:Hp) (k:fE) (b:Addr):Prop:=∃ c,cW K H b [.int k.1,.ref c]∧cW K H c (k.2.map V.int)
structure DS (K:Frag) (H:Hp) (a:Addr) (xs:rN):Prop where
 at_:H a=some (.ext (fK a xs))
 nd:(xs.map (·.1)).Nodup
 len:xs.length≤sizeLine
 sm:(a == sysModules)=false
 keys:∀ x∈xs,cQ K H x.1 x.2.1
section
variable {X:Cx} {pins:List (Addr × Obj)} {σ:St} {H:Hp} {s:Shared} {a b:Addr} {xs:rN} {k:fE} {A:Around} {E:Value→Shared→Prop}
theorem cQ.is (I:Inv X pins σ H s) (e:cQ X.K H k b):(jS X.prog X.w).is s.heap k b:=by
 obtain ⟨c,e1,e2⟩:=e;obtain ⟨its,r,ht,_⟩:=I.tuple e1;obtain ⟨its2,r2,⟨o,h1,h2,n,h3⟩,_⟩:=I.tuple e2;obtain ⟨u,v,rfl,ru,rv⟩:=BB r;obtain ⟨t,rfl⟩:=ru;cases rv;refine ⟨t,c,ht,o,its2.toArray,n,h1,h2,h3, ?_⟩
 have key:∀ {ns:List Int} {us:List Value},aT (ns.map V.int) us→PySem.ItemsAre (intKind X.prog X.w) ns us:=by
  intro ns
  induction ns with
  | nil=>intro us q; cases q; exact .nil
  | cons n ns ih =>
   intro us q;rw [Zs] at q
   cases q with
   | cons q1 q2 =>
    obtain ⟨t,rfl⟩:=q1;exact .cons (by show Value.isInt n (.int n t)=true; simp [Value.isInt]) (ih q2)
 simpa using key r2
theorem KI {P:Program} {w:World}:entryOfKey (jS P w)=aAQ:=rfl
theorem DS.dict (I:Inv X pins σ H s) (d:DS X.K H a xs):s.heap.DictOfH (jS X.prog X.w) a xs:=by
 obtain ⟨⟨o,es,ep,h1,h2,h3,h4⟩,_⟩:=(show dW X.prog X.w H s.heap a (.ext (fK a xs)) from I.hok a _ d.at_)
 exact ⟨o,es,ep,h1,h2,h3,by rw [KI]; exact h4,fun x hx=>(d.keys x hx).is I,d.nd⟩
theorem fK.stay {h1 h2:Heap} (r:fK a xs h1) (k:∀ o,h1.get? a=some o→h2.get? a=some o):fK a xs h2:=by
 obtain ⟨o,es,ep,e,r⟩:=r;exact ⟨o,es,ep,k o e,r⟩
theorem fK.ok {P:Program} {w:World} {H:Hp} {h:Heap} (d:h.DictOfH (jS P w) a xs):dW P w H h a (.ext (fK a xs)):=by
 obtain ⟨o,es,ep,h1,h2,h3,h4,_⟩:=d;exact ⟨⟨o,es,ep,h1,h2,h3,by rw [← KI (P:=P) (w:=w)]; exact h4⟩,⟨o,h1⟩,fun _ _ r k=>r.stay k⟩
theorem EI {v:Value}:(storedH xs k b v).length≤xs.length+1:=by unfold storedH; split <;> simp
theorem CT {K:Frag} {H:Hp} {v:Value} (h:∀ x∈xs,cQ K H x.1 x.2.1) (hk:cQ K H k b):∀ x∈storedH xs k b v,cQ K H x.1 x.2.1:=by
 unfold storedH;split
 ·intro x hx;obtain ⟨y,hy,rfl⟩:=zl.mp hx;unfold putAt;split
  ·exact h y hy
  ·exact h y hy
 ·intro x hx;rcases zo.mp hx with hx | hx
  ·exact h x hx
  ·rw [ze.mp hx]; exact hk
theorem K0 {p:Addr × Value} {Q:Value→Shared→Prop} (hu:A.units+9<cLine) (I:Inv X pins σ H s) (d:DS X.K H a xs) (hk:cQ X.K H k b) (e:atKey xs k=some p) (h:∀ s',Inv X pins σ H s'→Q p.2 s'):wpAny (model X.prog X.w) A (getItem (.ref a) (.ref b)) Q E s :=
 wpAny_getItem_heap (show A.units+1+8<cLine by omega) (hk.is I) (d.dict I) e (h _ (I.tok _))
theorem aEs {Q:Value→Shared→Prop} (hu:A.units+9<cLine) (I:Inv X pins σ H s) (d:DS X.K H a xs) (hk:cQ X.K H k b) (h:∀ s',Inv X pins σ H s'→Q (.bool (atKey xs k).isSome) s'):wpAny (model X.prog X.w) A (compareOp .In (.ref b) (.ref a)) Q E s :=
 wpAny_in_heap (show A.units+1+8<cLine by omega) (hk.is I) d.sm (d.dict I) (h _ (I.tok _))
theorem aBD {P:Program} {w:World} {h:Heap} (d:h.DictOfH (jS P w) a xs):(xs.map (·.1)).Nodup:=by
 obtain ⟨_,_,_,_,_,_,_,_,nd⟩:=d;exact nd
theorem KJ {v:Value} {Q:Unit→Shared→Prop} (hu:A.units+9<cLine) (I:Inv X pins σ H s) (d:DS X.K H a xs) (hk:cQ X.K H k b) (hl:xs.length<sizeLine)
  (h:∀ s',Inv X pins σ (aV H a (.ext (fK a (storedH xs k b v)))) s'→((storedH xs k b v).map (·.1)).Nodup→Q () s'):wpAny (model X.prog X.w) A (setItem (.ref a) (.ref b) v) Q E s :=
 wpAny_setItem_heap (show A.units+1+8<cLine by omega) (hk.is I) (d.dict I) (fun h' dd hs=>h _ (FC I (by rw [d.at_]; exact True.intro) hs (let ⟨o,_,_,e,_⟩:=dd; ⟨o,e⟩) (fK.ok dd)) (aBD dd)) (Nat.le_of_lt hl)
theorem VO {P:Program} {w:World} {H:Hp} (h:Heap):dW P w H (h.push { cls:=.type "dict",data:=.dict #[] }) h.objs.size (.ext (fK h.objs.size [])) :=
 ⟨⟨_,#[],0,Zw _ rfl,⟨rfl,rfl,rfl⟩,rfl,rfl⟩,⟨_,Zw _ rfl⟩,fun _ _ r k=>r.stay k⟩
noncomputable def aA2 (K:Frag) (tk tv:TE):TE:=fun σ H Q=>∀ p,H p=none→(p == sysModules)=false→tk σ (aV H p (.ext (fK p []))) fun x H1=>tv σ H1 fun y H2=>H2 p=some (.ext (fK p []))∧∃ k b,x=.ref b∧cQ K H2 k b∧∀ v,bC y v→Q (.ref p) (aV H2 p (.ext (fK p [(k,b,v)])))
theorem NX {pos:Pos} {ke ve:Expr} {tk tv:TE} (hu:X.A.units+9<cLine) (hk:PE X ke tk) (hv:PE X ve tv):PE X (.Dict [some ke] [ve] pos) (aA2 X.K tk tv):=by
 intro pins s σ H Q I q;have hn:=I.hok.fresh (Zq s.heap.objs.size);have sm:(s.heap.objs.size == sysModules)=false:=beq_eq_false_iff_ne.mpr (Ne.symm (Zz I.big));have I1:=I.laid (a:=s.heap.objs.size) (o:=.ext (fK s.heap.objs.size [])) (h':=s.heap.push { cls:=.type "dict",data:=.dict #[] }) (t':=s.toks) (fun _ _ q=>Zd _ q) (Zq _) (VO s.heap);refine wpAny_Dict_any rfl rfl (by simp) (by simp) (pairTrees_cons_walk (bH (hk pins _ σ _ _ I1 (q _ hn sm)) fun u s1 ⟨x,H1,I2,rx,q1⟩=>bH (hv pins s1 σ H1 _ I2 q1) fun w2 s2 ⟨y,H2,I3,ry,q2⟩=>pairTrees_nil_walk ?_));obtain ⟨e,k,b,rfl,kk,q3⟩:=q2;cases rx;have d:DS X.K H2 s.heap.objs.size []:=⟨e,by simp,by simp,sm,fun x hx=>nomatch hx⟩
 unfold storeAll;simp only [List.forIn_cons,List.forIn_nil,bind_assoc,pure_bind];refine Zt (wpAny_dictSet_heap (knd:=jS X.prog X.w) (show X.A.units+8<cLine by omega) (kk.is I3) (d.dict I3) (fun h' dd hs=>Zu ⟨.ref s.heap.objs.size,_,FC I3 (by rw [e]; exact True.intro) hs (let ⟨o,_,_,e,_⟩:=dd; ⟨o,e⟩) (fK.ok dd),rfl,q3 _ ry⟩) (by simp))
end
end L2
namespace HT
open PySem PySem.Spec PyProof.Rows
section
variable {prog:Program} {w:World} {A:Around} {E:Value→Shared→Prop} {s:Shared}
end
end HT
namespace L2
open PySem PySem.Spec PyProof.Rows
section
variable {X:Cx} {e st:Expr} {te tst:TE} {pos p2:Pos}
theorem aT.rev {xs:List V} {us:List Value} (r:aT xs us):aT xs.reverse us.reverse:=by
 induction r with
 | nil=>exact .nil
 | cons r1 r2 ih =>
  rw [List.reverse_cons,List.reverse_cons];exact ih.append (.cons r1 .nil)
end
section
variable {prog:Program} {w:World} {A:Around} {E:Value→Shared→Prop} {s:Shared}
theorem zB {it t:Addr} {items:Array Value} (hne:t≠it):∀ (n i:Nat) (s:Shared) (Q:List Value→Shared→Prop),s.heap.IsListIter it t i→s.heap.IsList t items→i+n≤items.size →
  (∀ h',h'.IsListIter it t (i+n)→Heap.SameBut it s.heap h'→Q ((items.toList.drop i).take n) { s with heap:=h' })→wpAny (model prog w) A (draw (.ref it) n) Q E s
 | 0,i,s,Q,hit,_,_,hQ=>by
  show wpAny _ _ (pure []) Q E s;exact Zu (by simpa using hQ s.heap hit (Heap.SameBut.refl ..))
 | n+1,i,s,Q,hit,ht,hle,hQ=>by
  have hlt:i<items.size:=by omega
  show wpAny _ _ (pyNext (.ref it) >>= _) Q E s;refine Zt (wpAny_pyNext_list_item hit ht (x:=items[i]) (by simp [hlt]) fun h₁ hit₁ hs₁=>?_);refine Zt (wpAny_holding (zB hne n (i+1) _ _ hit₁ (ht.extBut hs₁.extBut hne) (by omega) fun h₂ hit₂ hs₂=>Zu ?_));have hd:items.toList.drop i=items[i] :: items.toList.drop (i+1):=by simp [List.drop_eq_getElem_cons,hlt]
  have:=hQ h₂ (by rw [show i+(n+1)=i+1+n by omega]; exact hit₂) (hs₁.trans hs₂)
  rw [hd,List.take_succ_cons] at this;exact this
theorem uY {t:Addr} {items:Array Value} {Q:List Value→Shared→Prop} (hh:A.handled=none) (ht:s.heap.IsList t items)
  (hQ:∀ h',Heap.ExtBut s.heap.objs.size s.heap h'→Q items.toList { s with heap:=h' }):wpAny (model prog w) A (unpackItems (.ref t) items.size none) Q E s:=by
 have hlt:t≠s.heap.objs.size:=by obtain ⟨o,ho,_⟩:=ht; exact Zz (Zv ho)
 unfold unpackItems;refine Zt ?_;unfold notIterableAtAll;refine Zt (wpAny_specialOf ht.typeIs slot_list_iter.lookup ?_);refine Zu ?_;simp only [Bool.false_eq_true,if_false];refine Zt (wpAny_holding (wpAny_pyIter_list ht ?_));refine Zt (wpAny_holding (zB hlt items.size 0 _ _ ⟨_,Zw _ rfl,rfl,rfl⟩ (ht.push _) (by omega) fun h₁ hit₁ hs₁=>?_))
 have hall:List.take items.size (List.drop 0 items.toList)=items.toList:=by
  rw [List.drop_zero]; exact zf (by simp)
 rw [hall];rw [Zp (by simp)];have ht₁:h₁.IsList t items:=(ht.push _).extBut hs₁.extBut hlt;refine Zt (wpAny_holding (wpAny_pyNext_list_end hh hit₁ ht₁ (by simp) fun h₂ he₂=>?_));simp only [Option.isSome_none,Bool.false_eq_true,if_false];exact Zu (hQ h₂ fun b o hb e=>he₂ b o hb (hs₁.extBut b o hb (Zd _ e)))
end
noncomputable def aD2 (K:Frag) (n:Nat) (t:uH):TG:=fun v σ H Q=>∃ a xs,v=.ref a∧b9 K H a xs∧xs.length=n∧t xs σ H Q
theorem Z0 {X:Cx} {pos:Pos} {es:List Expr} {k:Nat} {t:uH} {n:Nat} (hc:X.calm=true) (h:uJ X es t)
  (hn:(assignEach es X.env).length=n) (hst:(assignEach es X.env).findIdx? (·.1)=none):PG X (.Tuple es k pos) (aD2 X.K n t):=by
 intro pins s σ H v u Q I r hw;obtain ⟨a,xs,e1,hq,hl,hw⟩:=hw;subst e1;cases r;obtain ⟨its,rv,ht,hz⟩:=I.list hq;rw [assign_Tuple];refine Zt (wpAny_standAt ?_);unfold unpack;rw [show (assignEach es X.env).length=its.toArray.size by simp [hn,← hl,rv.length],hst];refine Zt (wpAny_holding (uY (I.ok.hd hc) ht.isList fun h' hx=>?_));have I1:Inv X pins σ H { s with heap:=h' }:=I.kept (t':=s.toks) fun b o e=>hx b o (Zz (Zv e)) e
 exact h pins _ σ H xs _ Q I1 (by simpa using rv) hw
end L2
namespace CI
open PySem PySem.Spec PyProof.Rows L2
section
variable {X:Cx} {pins:List (Addr × Obj)} {σ:L2.St} {H H':Hp} {s:Shared} {h':Heap} {a C:Addr}
def TrO (X:Cx) (pins:List (Addr × Obj)) (H:Hp) (h:Heap) (a C:Addr) (fl:Value):Prop :=
 ∃ oe vs a0 T oT ts,h.get? a=some oe∧oe.cls=.ref C∧oe.data=.fields vs∧vs[0]?=some a0∧jG X pins H T∧vs[1]?=some (.ref T)∧T≠a∧h.get? T=some oT∧oT.data=.fields ts∧ts[3]?=some fl
def MdO (h:Heap) (a C:Addr):Prop:=∃ oe vs a0,h.get? a=some oe∧oe.cls=.ref C∧oe.data=.fields vs∧vs[0]?=some a0∧vs[1]?=some .none
def aEj (X:Cx) (pins:List (Addr × Obj)) (H:Hp) (h:Heap) (a C:Addr):Prop:=jG X pins H a∧(MdO h a C∨∃ fl,TrO X pins H h a C fl)
variable {M:Model} {A:Around} {E:Value→Shared→Prop} {Q:Unit→Shared→Prop}
end
section
variable {X:Cx} {pins:List (Addr × Obj)} {σ:L2.St} {H:Hp} {s s':Shared}
end
abbrev K2:List Value:=[.type "ValueError",.type "Exception",.type "BaseException",.type "object"]
theorem FA {K:Frag} {C:Addr} {n:String} (q:PySem.W.excIn K C K2 n=true):∃ (tl:List Value) (N:Addr),(∀ v,PySem.W.mroIn K C v=some ((Value.ref C :: tl).contains v)) ∧
  ∀ {h:Heap},K.In h→∃ (nm qn:Str) (bs:List Value) (hd:Bool) (sn:List Str) (sub:List Value) (ab:Bool) (nF:Option Bool) (dd:Option Addr) (k0 k1 k2 k3 k5:Option Value),
   h.get? C=some (excClassObj nm qn C N bs tl hd sn sub ab nF dd k0 k1 k2 k3 k5 n)∧h.Ns N (h.nsMap N)∧h.nsMap N "__init__"=none∧OwnTail h K2 tl:=by
 unfold PySem.W.excIn at q;split at q
 ·rename_i dd cd sl lk;split at q
  ·rename_i C' tl k0 k1 k2 k3 n' k5 e1 e2;rw [ZB,ZB,ZB,ZB,ZB] at q;obtain ⟨⟨⟨⟨⟨q1,q2⟩,q3⟩,q4⟩,q5⟩,q6⟩:=q;have q1:=beq_iff_eq.mp q1;have q2:=beq_iff_eq.mp q2;have q6:=beq_iff_eq.mp q6;subst q1 q2;refine ⟨tl,cd.ns,fun v=>?_,fun {h} X=>?_⟩
   ·unfold PySem.W.mroIn PySem.W.clsIn;rw [lk];simp only [Option.bind_some];rw [e1,Zp (by simp)]
   ·refine ⟨cd.name,cd.qualname,cd.bases,cd.hasDict,cd.slotNames,cd.subclasses,cd.abstract,cd.collection,dd,k0,k1,k2,k3,k5, ?_,.of_isNs (PySem.W.isNs_of_in X q5),PySem.W.nsMap_none_of_in X q5 q6,PySem.W.tail_of_in X q4⟩;rw [X _ _ lk];have e3:sl=#[k0,k1,k2,k3,some (.builtin n'),k5]:=Array.toList_inj.mp e2;rw [e3];obtain ⟨c1,c2,c3,c4,c5,c6,c7,c8,c9,c10,c11⟩:=cd;simp only [Bool.not_eq_true'] at q3;simp only at e1;subst e1 q3;rfl
  ·cases q
 ·cases q
structure ExcN (K:Frag) (mg:Str→Option Value) (c:Str):Prop where
 ex:∃ C,nsIn K mainGlobals c=some (some (.ref C))∧mg c=some (.ref C)∧PySem.W.excIn K C K2 "ValueError.__new__"=true
section
variable {X:Cx} {pins:List (Addr × Obj)} {σ:L2.St} {H:Hp} {s:Shared} {h':Heap} {a C:Addr}
end
end CI
namespace CI
open PySem PySem.Spec PySem.Calls PyProof.Rows L2 PySem.W PySem.Builtin PySem.Builtin.ObjectAttr PySem.Builtin.Getset_descriptor
def pG (a C:Addr) (h:Heap):Prop:=∃ oe vs,h.get? a=some oe∧oe.cls=.ref C∧oe.data=.fields vs
theorem pG.ty {a C:Addr} {h:Heap} {M:Model} (x:pG a C h):Looks M h (typeOf (.ref a)) (.ref C):=by
 obtain ⟨oe,vs,e,c,_⟩:=x;rw [← c];exact (Looks.ld e).andThen .now
structure ExcG (K:Frag) (C:Addr):Prop where
 q:excIn K C K2 "ValueError.__new__"=true
 ga:findIn K (.ref C) "__getattribute__"=some (some (.builtin "BaseException.__getattribute__"))
 no:findIn K (.ref C) "__getattr__"=some none
 cl:findIn K (.ref C) "__class__"=some (some (.builtin "object.__class__"))
 gt:specialIn K (.builtin "object.__class__") "__get__"=some (some (.builtin "getset_descriptor.__get__"))
 tk:takesIn K (.builtin "object.__class__")=some true
 mo:mroIn K C (.type "object")=some true
 mb:mroIn K C (.type "BaseException")=some true
 mv:mroIn K C (.type "ValueError")=some true
section
variable {prog:Program} {w:World} {A:Around} {E:Value→Shared→Prop} {s:Shared} {K:Frag} {a C:Addr}
theorem T4 {tp:Value} {R:Result→Shared→Prop} (X:K.In s.heap) (G:ExcG K C) (x:pG a C s.heap) (h:R (.ok (.ret (.ref C))) s) :
  codeAny (model prog w) A (.call (.builtin "getset_descriptor.__get__") ⟨[.builtin "object.__class__",.ref a,tp],[]⟩) R s:=by
 obtain ⟨hh,g,dr,t,os⟩:=s;have L0:=x.ty (M:=model prog w);have L1:=looks_mroIn (M:=model prog w) X G.mo;refine codeAny_call_builtin KF.slot_gs.plain KF.entry_gs (KF.slot_gs.check _ _ _ _ _ _ _ _ KF.type_class (KF.args_gs _ _ _) ?_);unfold Builtin.«getset_descriptor.__get__»; unfold descrGet;rw [dga_obj];refine Zt (Zu ?_);unfold descrGetter; unfold descrCheckInstance; unfold descrNameAndClass; unfold isInstance;simp only [KF.owner_class]
 repeat lk
 refine ⟨Code.quiet_builtin _ (by decide +kernel),codeAny_builtin KF.entry_class ?_⟩;unfold Builtin.«object.__class__»; unfold shownTypeOf
 repeat lk
 exact h
theorem MH {M:Model} {h:Heap} (X:K.In h) (G:ExcG K C):Looks M h (find (.ref a) (.ref C) "__class__") (.bind (.builtin "getset_descriptor.__get__") (.builtin "object.__class__")):=by
 have L3:=looks_takesIn (M:=M) X G.tk;refine (looks_findIn X G.cl).andThen ((looks_specialIn X G.gt).andThen ?_);exact (show Looks M h (dataDescriptor? (some (.builtin "object.__class__")) (some (.builtin "getset_descriptor.__get__"))) (some (.builtin "getset_descriptor.__get__",.builtin "object.__class__")) from L3.andThen .now).andThen (Looks.tag .now)
theorem JW {tk:Tok} {Q:Fin→Shared→Prop} (X:K.In s.heap) (G:ExcG K C) (x:pG a C s.heap) (h:Q (.done (.ret (.ref C))) s) :
  wpAny (model prog w) A (Builtin.«object.__getattribute__» ⟨[.ref a,.str "__class__" tk],[]⟩) Q E s:=by
 obtain ⟨hh,g,dr,t,os⟩:=s;have L0:=x.ty (M:=model prog w);have L1:=MH (M:=model prog w) (a:=a) X G
 repeat (any_goals (first | assumption | with_reducible refine Looks.at (by assumption) ?_ | wp_step))
 refine T4 X G x ?_
 repeat (any_goals (first | assumption | wp_step))
theorem JA {v:Value} {Q:Unit→Shared→Prop} (X:K.In s.heap) (G:ExcG K C) (x:pG a C s.heap) (h:Q () s):wpAny (model prog w) A (checkBuiltinCall "BaseException.__getattribute__" ⟨[.ref a,v],[]⟩) Q E s:=by
 obtain ⟨hh,g,dr,t,os⟩:=s;have L0:=x.ty (M:=model prog w);have L3:=looks_mroIn (M:=model prog w) X G.mb;have z:=PySem.F.args_bexc_ga (.ref a) v;simp only [checkBuiltinCall,show builtinKind "BaseException.__getattribute__"=some .slot from by decide +kernel,show splitId "BaseException.__getattribute__"=some ("BaseException","__getattribute__") from by decide +kernel];refine Zt ?_;unfold isInstance
 repeat (any_goals (first | assumption | with_reducible refine Looks.at (by assumption) ?_ | wp_step))
theorem VT {Q:Option Value→Shared→Prop} (X:K.In s.heap) (G:ExcG K C) (x:pG a C s.heap) (h:Q (some (.ref C)) { s with toks:=s.toks+1 }):wpAny (model prog w) A (getAttr? (.ref a) "__class__") Q E s:=by
 obtain ⟨hh,g,dr,t,os⟩:=s;have L0:=x.ty (M:=model prog w);have L1:=looks_findIn (M:=model prog w) X G.ga;have L2:=looks_findIn (M:=model prog w) X G.no;have L3:=looks_mroIn (M:=model prog w) X G.mb;have f3:=PySem.F.excAttr_ValueError.ga.bind (.ref a);unfold getAttr? getAttrBy? getAttrBy;refine Zt (wpAny_mkText (Zt (wpAny_attempt (wpAny_holding (Zt (L0.at (Zt (L1.at ?_))))))));have n1:(onTheHeap (Value.ref C) && Value.builtin "BaseException.__getattribute__" == Value.builtin "object.__getattribute__")=false:=by rw [show (Value.builtin "BaseException.__getattribute__" == Value.builtin "object.__getattribute__")=false from by decide +kernel,Bool.and_false]
 dsimp only;rw [Zp (by rw [n1]; exact Bool.false_ne_true)];unfold getAttrByItsOwn
 repeat (any_goals (first | assumption | with_reducible refine Looks.at (by assumption) ?_ | wp_step))
 refine codeAny_call_builtin PySem.F.attr_ValueError.ga.plain PySem.F.entry_bexc_ga (JA (s:=⟨hh,g,dr,t+1,os⟩) X G x (JW (s:=⟨hh,g,dr,t+1,os⟩) X G x ?_))
 repeat (any_goals (first | assumption | wp_step))
theorem OZ (G:ExcG K C):KitX K (.ref a) (.ref C) (pG a C) where
 ty:=fun _ _ _ x=>x.ty
 it:=fun _ _ X _=>by
  obtain ⟨tl,N,_,k⟩:=FA G.q;obtain ⟨nm,qn,bs,hd,sn,sub,ab,nF,dd,k0,k1,k2,k3,k5,hC,_⟩:=k X;intro A' Q' E' s' k' q;unfold isType loadHead;exact Zt (wpAny_loadPart (k' _ _ hC) (Zu q))
 ne:=fun h tp dd its n sl X htp=>by
  obtain ⟨tl,N,_,k⟩:=FA G.q;obtain ⟨nm,qn,bs,hd,sn,sub,ab,nF,dd,k0,k1,k2,k3,k5,hC,_⟩:=k X;refine Bool.eq_false_iff.mpr fun q=>?_
  have e:C=tp:=Value.ref.inj (beq_iff_eq.mp q);subst e;rw [hC] at htp;have z:=congrArg Obj.data (Option.some.inj htp);cases z
 ca:=fun X x k=>VT X G x k
theorem PZ (G:ExcG K C):kitOne K (.ref C) (.type "ValueError")=some true:=by
 unfold kitOne kitCls;rw [Zp (by simp)];show (if kitMeta "ValueError"=true then subIn K (.ref C) (.type "ValueError") else none)=some true;rw [Zo (by decide +kernel)];exact G.mv
end
end CI
namespace CI
open PySem
inductive D where
 | non | bl (b:Bool) | int (i:Int) | str (x:Str) | tup (ds:List D) | lst (ds:List D)
 | ins (c:Str) (ns:List Str) (ds:List D) | dct (kvs:List (Int × Int)) | exn (c:Str) | dcs (kvs:List ((Int × List Int) × Int))
 deriving Inhabited
inductive RV where
 | sh (d:D) | ow (d:D)
noncomputable def RV.d:RV→D
 | .sh d=>d
 | .ow d=>d
inductive Sl where
 | un | mv | sh (d:D) | ow (d:D) (pin lk:Bool)
noncomputable def Sl.get:Sl→Option D
 | .un=>none
 | .mv=>none
 | .sh d=>some d
 | .ow d _ _=>some d
structure Exc where
 cls:Str
inductive Out (α:Type) where
 | ok (a:α) | ex (e:Exc)
abbrev Env:=List Sl
abbrev aS (α:Type):=Option (Out α × Env)
noncomputable def aS.bind {α β:Type} (r:aS α) (f:α→Env→aS β):aS β :=
 match r with
 | none=>none
 | some (.ex e,ρ)=>some (.ex e,ρ)
 | some (.ok a,ρ)=>f a ρ
inductive Hd where
 | slot (i:Nat) | val (v:RV)
noncomputable def Hd.get (h:Hd) (ρ:Env):Option D :=
 match h with
 | .slot i=>(ρ[i]?).bind Sl.get
 | .val v=>some v.d
noncomputable def getAll:List Hd→Env→Option (List D)
 | [],_=>some []
 | h :: r,ρ=>(h.get ρ).bind fun d=>(getAll r ρ).map (d :: ·)
inductive Ty where
 | int | bool | str | list | tuple | dict | cls (c:Nat) | verr
inductive BI where
 | len | abs | int | list | tuple | min | max | all | repr
 deriving DecidableEq
inductive ItK where
 | rng | of | enum (lo:Int)
 deriving DecidableEq
inductive E where
 | bad | omt
 | var (i:Nat)
 | con (d:D)
 | tup (es:List E) | lst (es:List E)
 | bin (op:Operator) (a b:E)
 | neg (a:E) | not (a:E)
 | cmp (op:CmpOp) (a b:E)
 | cmp2 (op op':CmpOp) (a b c:E)
 | and (a b:E) | or (a b:E)
 | ite (c a b:E)
 | ix (a i:E)
 | sl (a lo hi:E)
 | rev (a:E)
 | call (f:String) (args:List E)
 | bif (f:BI) (args:List E)
 | isi (a:E) (ts:List Ty)
 | isC (a:E) (s n:List Str)
 | isX (a:E) (sn:List (List Str × List Str))
 | app (i:Nat) (a:E)
 | ext (i:Nat) (a:E)
 | dict (kvs:List (Int × Int))
 | dict1 (k:E) (n:Int)
 | insr (i:Nat) (k a:E)
 | frz (i:Nat)
 | bitl (a:E)
 | mkset (a:E) | nset (a:E)
 | mkrng (es:List E) | lrng (es:List E)
 | fld (a:E) (f:Str)
 | make (c:Str) (ns:List Str) (args:List E)
 | meth (i:Nat) (m:Str) (tb:List (Str × String)) (args:List E)
 | methE (a:E) (m:Str) (tb:List (Str × String)) (args:List E)
 | comp (elt:E) (tg:List Nat) (k:ItK) (its:List E) (cond:List E) (imp:List Nat) (nl:Nat)
inductive S where
 | bad | pass | brk | cnt
 | asg (i:Nat) (e:E)
 | asgT (is:List Nat) (e:E)
 | set (i:Nat) (k e:E)
 | expr (e:E)
 | ret (e:E) | retN
 | ifs (c:E) (a b:List S)
 | for (tg:List Nat) (one:Bool) (k:ItK) (its:List E) (body:List S)
 | whl (c:E) (body:List S)
 | rse (c:Str) (args:List E)
 | tryA (body:List S) (cs:List Str) (i j:Nat)
 | tryB (body:List S) (cs:List Str) (i:Nat) (ss:List S)
 | tryN (body:List S) (cs:List Str)
 | aug (i:Nat) (e:E)
noncomputable def bG:Nat→D→Bool
 | _,.non=>true
 | _,.bl _=>true
 | _,.int _=>true
 | _,.str _=>true
 | n+1,.tup ds=>ds.all (bG n)
 | n+1,.lst ds=>ds.all (bG n)
 | _,_=>false
mutual
noncomputable def dR:D→D→Bool
 | .non,.non=>true
 | .bl a,.bl b=>a == b
 | .bl a,.int b=>(if a then 1 else 0) == b
 | .int a,.bl b=>a == (if b then 1 else 0)
 | .int a,.int b=>a == b
 | .str a,.str b=>a == b
 | .tup a,.tup b=>mD a b
 | .lst a,.lst b=>mD a b
 | _,_=>false
noncomputable def mD:List D→List D→Bool
 | [],[]=>true
 | a :: as,b :: bs=>dR a b && mD as bs
 | _,_=>false
end
noncomputable def cl (p:Prop):Decidable p:=Classical.propDecidable p
noncomputable section
noncomputable def hV:D→Option Bool
 | .non=>some false
 | .bl b=>some b
 | .int i=>some (i != 0)
 | .str x=>@ite _ (x.length≤1000000) (cl _) (some ((x.length:Int) != 0)) none
 | .tup ds=>some (!ds.isEmpty)
 | .lst ds=>some (!ds.isEmpty)
 | _=>none
noncomputable def aK (n:Nat):Bool:=@decide (n≤1000000) (cl _)
noncomputable def dA:Operator→D→D→Option RV
 | .Add,.int i,.int j=>some (.sh (.int (i+j)))
 | .Sub,.int i,.int j=>some (.sh (.int (i - j)))
 | .Mult,.int i,.int j=>@ite _ ((-(2 ^ 64)<i∧i<2 ^ 64)∨(-(2 ^ 64)<j∧j<2 ^ 64)) (cl _) (some (.sh (.int (i*j)))) none
 | .FloorDiv,.int i,.int j=>@ite _ (0<j∧j<100000000000000000000000000000000000000000000000000000000000000000000000000000000) (cl _) (some (.sh (.int (i / j)))) none
 | .Mod,.int i,.int j=>@ite _ (0<j) (cl _) (some (.sh (.int (i % j)))) none
 | .LShift,.int i,.int j=>@ite _ (0≤j∧j≤1000∧i.natAbs<2 ^ 64) (cl _) (some (.sh (.int (i*2 ^ j.toNat)))) none
 | .RShift,.int i,.int j=>@ite _ (0≤j) (cl _) (some (.sh (.int (i / 2 ^ j.toNat)))) none
 | .BitAnd,.int i,.int j=>some (.sh (.int (Builtin.bitAnd i j)))
 | .Add,.lst xs,.lst ys=>if aK (xs.length+ys.length) then some (.ow (.lst (xs ++ ys))) else none
 | .Add,.tup [],.tup ys=>some (.sh (.tup ys))
 | .Add,.tup (x :: xs),.tup ys=>if aK (xs.length+1+ys.length) then some (.sh (.tup (x :: xs ++ ys))) else none
 | .Mult,.lst xs,.int k=>@ite _ (-(2 ^ 31)≤k∧k≤1000∧aK (xs.length*k.toNat)) (cl _) (some (.ow (.lst (List.replicate k.toNat xs).flatten))) none
 | _,_,_=>none
noncomputable def eL:D→Bool
 | .non=>true | .bl _=>true | .int _=>true | .str _=>true
 | _=>false
noncomputable def E8 (x:D) (ds:List D):Bool:=ds.any fun y=>dR y x
noncomputable def aD0 (kvs:List (Int × Int)) (n m:Int):List (Int × Int):=if (kvs.any fun p=>decide (p.1=n))=true then kvs.map (fun p=>if p.1=n then (p.1,m) else p) else kvs ++ [(n,m)]
noncomputable def dI:List D→Option (List Int)
 | []=>some []
 | .int i :: r=>(dI r).map (i :: ·)
 | _=>none
noncomputable def iW:D→Option (Int × List Int)
 | .tup [.int t,.tup ds]=>(dI ds).map fun ns=>(t,ns)
 | _=>none
noncomputable def gW (kvs:List ((Int × List Int) × Int)) (k:Int × List Int):Option Int:=(kvs.find? fun p=>decide (p.1=k)).map (·.2)
noncomputable def nP (kvs:List ((Int × List Int) × Int)) (k:Int × List Int) (m:Int):List ((Int × List Int) × Int):=if (gW kvs k).isSome=true then kvs.map (fun p=>if p.1=k then (p.1,m) else p) else kvs ++ [(k,m)]
noncomputable def PL (x:D) (kvs:List ((Int × List Int) × Int)):Option Bool:=(iW x).map fun k=>(gW kvs k).isSome
noncomputable def bX:CmpOp→D→D→Option Bool
 | .Eq,x,y=>if bG 20 x && bG 20 y then some (dR x y) else none
 | .NotEq,x,y=>if bG 20 x && bG 20 y then some (!dR x y) else none
 | .Lt,.int i,.int j=>some (decide (i<j))
 | .LtE,.int i,.int j=>some (decide (i≤j))
 | .Gt,.int i,.int j=>some (decide (j<i))
 | .GtE,.int i,.int j=>some (decide (j≤i))
 | .Is,.bl a,.bl b=>some (a == b)
 | .Is,.non,.non=>some true
 | .Is,_,.non=>some false
 | .IsNot,.non,.non=>some false
 | .IsNot,_,.non=>some true
 | .In,x,.tup ds=>if eL x && ds.all eL then some (E8 x ds) else none
 | .In,x,.lst ds=>if eL x && ds.all eL then some (E8 x ds) else none
 | .In,x,.dcs kvs=>PL x kvs
 | _,_,_=>none
noncomputable def atD (ds:List D) (i:Int):Option D:=L2.cJ ds i
noncomputable def LQ:D→D→Option D
 | .tup ds,.int i=>atD ds i
 | .lst ds,.int i=>atD ds i
 | .dcs kvs,x=>((iW x).bind (gW kvs)).map .int
 | .str x,.int i=>@ite _ (x.length≤1000000) (cl _) ((L2.cJ x.cps.toList i).map fun c=>.str ⟨#[c]⟩) none
 | _,_=>none
noncomputable def jV (ds:List D) (lo hi:Option Int):List D:=(ds.drop (HT.bT ds.length 0 lo)).take (HT.bT ds.length ds.length hi - HT.bT ds.length 0 lo)
noncomputable def nH:Option D→Option (Option Int)
 | none=>some none
 | some (.int i)=>some (some i)
 | _=>none
noncomputable def QP:D→Option Int→Option Int→Option RV
 | .lst ds,lo,hi=>some (.ow (.lst (jV ds lo hi)))
 | .tup ds,lo,hi=>if HT.bT ds.length 0 lo=0∧HT.bT ds.length ds.length hi=ds.length then none else some (.sh (.tup (jV ds lo hi)))
 | _,_,_=>none
noncomputable def aDC:D→Option RV
 | .tup ds=>some (.sh (.tup ds.reverse))
 | _=>none
noncomputable def hX:List D→Option (List Bool)
 | []=>some []
 | .bl b :: r=>(hX r).map (b :: ·)
 | _=>none
mutual
noncomputable def eH:D→PyData
 | .non=>.none
 | .bl b=>.bool b
 | .int i=>.int i
 | .str x=>.str x
 | .tup ds=>.tuple (iM ds)
 | .lst ds=>.list (iM ds)
 | .ins _ _ _=>.none
 | .dct _=>.none
 | .exn _=>.none
 | .dcs _=>.none
noncomputable def iM:List D→List PyData
 | []=>[]
 | d :: ds=>eH d :: iM ds
end
noncomputable def lH:BI→List D→Option RV
 | .len,[.lst ds]=>some (.sh (.int ds.length))
 | .len,[.tup ds]=>some (.sh (.int ds.length))
 | .len,[.str x]=>@ite _ (x.length≤1000000) (cl _) (some (.sh (.int x.length))) none
 | .abs,[.int i]=>some (.sh (.int (if i<0 then -i else i)))
 | .int,[.int i]=>some (.sh (.int i))
 | .int,[.bl b]=>some (.sh (.int (if b then 1 else 0)))
 | .list,[.lst ds]=>some (.ow (.lst ds))
 | .list,[.tup ds]=>some (.ow (.lst ds))
 | .tuple,[.lst ds]=>some (.sh (.tup ds))
 | .tuple,[.tup ds]=>some (.sh (.tup ds))
 | .max,[.int i,.int j]=>some (.sh (.int (if j > i then j else i)))
 | .max,[.lst ds]=>match dI ds with
  | some (i :: r)=>some (.sh (.int (r.foldl (fun m y=>if y > m then y else m) i)))
  | _=>none
 | .all,[.lst ds]=>(hX ds).map fun bs=>.sh (.bl (bs.all id))
 | _,_=>none
noncomputable def HW:Ty→D→Option Bool
 | .int,d=>match d with
  | .int _=>some true | .bl _=>some true | .non=>some false | .str _=>some false | .tup _=>some false | .lst _=>some false
  | _=>none
 | .bool,d=>match d with
  | .bl _=>some true | .int _=>some false | .non=>some false | .str _=>some false | .tup _=>some false | .lst _=>some false
  | _=>none
 | .str,d=>match d with
  | .str _=>some true | .bl _=>some false | .int _=>some false | .non=>some false | .tup _=>some false | .lst _=>some false
  | _=>none
 | .list,d=>match d with
  | .lst _=>some true | .bl _=>some false | .int _=>some false | .non=>some false | .tup _=>some false | .str _=>some false
  | _=>none
 | .tuple,d=>match d with
  | .tup _=>some true | .bl _=>some false | .int _=>some false | .non=>some false | .lst _=>some false | .str _=>some false
  | _=>none
 | .verr,d=>match d with
  | .exn _=>some true
  | _=>none
 | _,_=>none
noncomputable def A5:List Ty→D→Option Bool
 | [],_=>some false
 | t :: r,d=>(HW t d).bind fun b=>(A5 r d).map fun c=>b || c
noncomputable def aDp (s n:List Str):D→Option RV
 | .ins c _ _=>if s.contains c then some (.sh (.bl true)) else if n.contains c then some (.sh (.bl false)) else none
 | _=>none
noncomputable def XM (c:Str):List (List Str × List Str)→Option Bool
 | []=>some false
 | (s,n) :: r=>if s.contains c then some true else if n.contains c then XM c r else none
noncomputable def aDX (sn:List (List Str × List Str)):D→Option RV
 | .exn c=>(XM c sn).map fun b=>.sh (.bl b)
 | _=>none
noncomputable def aDr:D→Option RV
 | .int i=>some (.sh (.int (Builtin.Int.intBits i)))
 | _=>none
noncomputable def wJ:D→Option RV
 | .lst ds=>match dI ds with
  | some is=>@ite _ (is.length≤1000) (cl _) (some (.sh (.int (PyProof.Rows.firstMet (fun i=>is.getD i 0) is.length).length))) none
  | none=>none
 | _=>none
noncomputable def tR:List D→Option RV
 | [.int j]=>@ite _ (-1000000≤j∧j≤1000000) (cl _) (some (.ow (.lst ((List.range (j - 0).toNat).map fun (n:Nat)=>.int (0+(n:Int)))))) none
 | [.int i,.int j]=>@ite _ ((-1000000≤i∧i≤1000000)∧(-1000000≤j∧j≤1000000)) (cl _) (some (.ow (.lst ((List.range (j - i).toNat).map fun (n:Nat)=>.int (i+(n:Int)))))) none
 | _=>none
noncomputable def OL:D→Str→Option D
 | .ins _ ns ds,f=>(ns.zip ds).lookup f
 | _,_=>none
noncomputable def fQ (c:Str) (ns:List Str) (m:Str) (tb:List (Str × String)):Option String:=if ns.contains m then none else tb.lookup c
noncomputable def bK (t:Bool) (r:aS RV):aS RV :=
 match t with
 | false=>r
 | true=>r.bind fun v ρ=>(hV v.d).map fun b=>(.ok (.sh (.bl b)),ρ)
noncomputable def hd (e:E) (r:aS RV) (ρ:Env):aS Hd :=
 match e with
 | .var i=>if ((ρ[i]?).bind Sl.get).isSome then some (.ok (.slot i),ρ) else none
 | _=>r.bind fun v ρ'=>some (.ok (.val v),ρ')
noncomputable def B8:E→Bool
 | .omt=>true
 | _=>false
noncomputable def yU (e:E) (r:aS RV) (ρ:Env):aS (Option D) :=
 if B8 e then some (.ok none,ρ) else r.bind fun v ρ'=>some (.ok (some v.d),ρ')
noncomputable def tQ (op:Operator) (x:Hd) (d:D):Bool :=
 match op,d with
 | .Mult,.lst _=>match x with
  | .val (.ow _)=>true
  | _=>false
 | _,_=>true
noncomputable def nN (ρ:Env) (i:Nat):Bool :=
 match ρ[i]? with
 | some (.ow (.lst _) _ _)=>true
 | _=>false
noncomputable def xX (ρ:Env) (i:Nat):Bool :=
 match ρ[i]? with
 | some (.ow (.dcs _) _ _)=>true
 | _=>false
noncomputable def aEv (ρ:Env) (i:Nat):Bool :=
 match ρ[i]? with
 | some (.ow (.dct _) _ _)=>true
 | _=>false
noncomputable def BP (i:Nat) (ρ:Env):aS RV :=
 match ρ[i]? with
 | some (.sh d)=>some (.ok (.sh d),ρ)
 | some (.ow d false false)=>some (.ok (.sh d),ρ.set i (.sh d))
 | _=>none
noncomputable def done (o:Option RV) (ρ:Env):aS RV:=o.map fun v=>(.ok v,ρ)
noncomputable def store (i:Nat) (v:RV) (ρ:Env):Option Env :=
 match ρ[i]? with
 | none=>none
 | some (.ow _ true _)=>none
 | some (.ow _ _ true)=>none
 | some _=>some (ρ.set i (match v with | .sh d=>.sh d | .ow d=>.ow d false false))
noncomputable def dD:List Nat→List D→Env→Option Env
 | [],[],ρ=>some ρ
 | i :: is,d :: ds,ρ=>(store i (.sh d) ρ).bind (dD is ds)
 | _,_,_=>none
noncomputable def a8 (one:Bool) (tg:List Nat) (d:D) (ρ:Env):Option Env :=
 match one,tg,d with
 | true,[i],d=>store i (.sh d) ρ
 | false,is,.tup ds=>dD is ds ρ
 | false,is,.lst ds=>dD is ds ρ
 | _,_,_=>none
abbrev Calls:=String→List Sl→aS RV
noncomputable def bL (pins:List Bool) (hs:List Hd) (ρ:Env):Option (List Sl × Env) :=
 match pins,hs with
 | [],[]=>some ([],ρ)
 | p :: ps,.val (.sh d) :: r=>(bL ps r ρ).map fun (as,ρ')=>(.sh d :: as,ρ')
 | p :: ps,.val (.ow d) :: r=>(bL ps r ρ).map fun (as,ρ')=>((if p then .ow d true false else .sh d) :: as,ρ')
 | p :: ps,.slot i :: r =>
  match ρ[i]? with
  | some (.sh d)=>(bL ps r ρ).map fun (as,ρ')=>(.sh d :: as,ρ')
  | some (.ow d pin lk) =>
   match p with
   | true=>(bL ps r (ρ.set i .un)).map fun (as,ρ')=>(.ow d true lk :: as,ρ')
   | false=>if pin || lk then none else (bL ps r (ρ.set i (.sh d))).map fun (as,ρ')=>(.sh d :: as,ρ')
  | _=>none
 | _,_=>none
noncomputable def aW (pins:List Bool) (hs:List Hd) (as:List Sl) (ρ0 ρ:Env):Option Env :=
 match pins,hs,as with
 | [],[],[]=>some ρ
 | true :: ps,.slot i :: r,a :: as =>
  match ρ0[i]?,a with
  | some (.ow _ pin lk),.ow d _ _=>aW ps r as ρ0 (ρ.set i (.ow d pin lk))
  | some (.ow _ _ _),_=>none
  | _,_=>aW ps r as ρ0 ρ
 | _ :: ps,_ :: r,_ :: as=>aW ps r as ρ0 ρ
 | _,_,_=>none
noncomputable def fL (pins:List Bool) (f:List Sl→aS RV) (hs:List Hd) (ρ:Env):aS RV :=
 match bL pins hs ρ with
 | none=>none
 | some (as,ρ1) =>
  match f as with
  | none=>none
  | some (o,as')=>(aW pins hs as' ρ ρ1).map fun ρ'=>(o,ρ')
noncomputable def dM (lo:Int) (ds:List D):List D:=(List.range ds.length).map fun (j:Nat)=>.tup [.int (lo+(j:Int)),ds.getD j .non]
noncomputable def aH (k:ItK) (hs:List Hd) (ρ:Env):Option (List D × Option Nat) :=
 match k,hs with
 | .rng,[a]=>match a.get ρ with
  | some (.int n)=>@ite _ (-1000000≤n∧n≤1000000) (cl _) (some ((List.range n.toNat).map fun (j:Nat)=>.int (j:Int),none)) none
  | _=>none
 | .rng,[a,b]=>match a.get ρ,b.get ρ with
  | some (.int m),some (.int n)=>@ite _ ((-1000000≤m∧m≤1000000)∧(-1000000≤n∧n≤1000000)) (cl _) (some ((List.range (n - m).toNat).map fun (j:Nat)=>.int (m+(j:Int)),none)) none
  | _,_=>none
 | .enum lo,[.slot i]=>match ρ[i]? with
  | some (.ow (.lst ds) _ _)=>some (dM lo ds,some i)
  | some (.sh (.lst ds))=>some (dM lo ds,none)
  | _=>none
 | .enum lo,[.val v]=>match v.d with
  | .lst ds=>some (dM lo ds,none)
  | _=>none
 | .of,[.slot i]=>match ρ[i]? with
  | some (.ow (.lst ds) _ _)=>some (ds,some i)
  | some (.sh (.lst ds))=>some (ds,none)
  | some (.sh (.tup ds))=>some (ds,none)
  | _=>none
 | .of,[.val v]=>match v.d with
  | .lst ds=>some (ds,none)
  | .tup ds=>some (ds,none)
  | _=>none
 | _,_=>none
noncomputable def a7 (o:Option Nat) (ρ:Env):Env :=
 match o with
 | none=>ρ
 | some i=>ρ.set i .un
noncomputable def eS (o:Option Nat) (ρ0 ρ:Env):Option Env :=
 match o with
 | none=>some ρ
 | some i=>match ρ[i]?,ρ0[i]? with
  | some .un,some sl=>some (ρ.set i sl)
  | _,_=>none
noncomputable def fZ (tests:Env→aS RV) (elt:Env→aS RV) (bind:D→Env→Option Env):List D→List D→Env→aS (List D)
 | [],acc,ρ=>some (.ok acc,ρ)
 | d :: ds,acc,ρ=>match bind d ρ with
  | none=>none
  | some ρ1=>(tests ρ1).bind fun c ρ2=>match c with
   | .sh (.bl true)=>(elt ρ2).bind fun v ρ3=>fZ tests elt bind ds (acc ++ [v.d]) ρ3
   | .sh (.bl false)=>fZ tests elt bind ds acc ρ2
   | _=>none
noncomputable def back:List Sl→Env→List Sl
 | .ow _ _ _ :: as,b :: bs=>b :: back as bs
 | a :: as,_ :: bs=>a :: back as bs
 | _,_=>[]
noncomputable def l3:Sl→Bool
 | .ow _ p _=>p
 | .sh _=>true
 | _=>false
noncomputable def tK (tests:Env→aS RV) (elt:Env→aS RV) (bind:D→Env→Option Env) (ds:List D) (nl:Nat) (as:List Sl):aS RV :=
 if as.all l3=true then (fZ tests elt bind ds [] (as ++ List.replicate nl .un)).bind fun acc ρi =>
  if aK acc.length then some (.ok (.ow (.lst acc)),back as ρi) else none
 else none
noncomputable def oH (o:Option Nat) (ρ1:Env) (v:RV) (ρ2:Env):aS RV:=(eS o ρ1 ρ2).map fun ρ'=>(.ok v,ρ')
structure Fn where
 pins:List Bool
 nl:Nat
 body:List S
 rs:Bool
abbrev aQ:=String→List Bool
mutual
noncomputable def ev (P:aQ) (C:Calls) (t:Bool):E→Env→aS RV
 | .bad,_=>none
 | .omt,_=>none
 | .var i,ρ=>match t with
  | true=>bK true (((ρ[i]?).bind Sl.get).map fun d=>(.ok (.sh d),ρ))
  | false=>BP i ρ
 | .con d,ρ=>bK t (some (.ok (.sh d),ρ))
 | .tup es,ρ=>bK t ((mJ P C es ρ).bind fun ds ρ'=>if aK ds.length then some (.ok (.sh (.tup ds)),ρ') else none)
 | .lst es,ρ=>bK t ((mJ P C es ρ).bind fun ds ρ'=>if aK ds.length then some (.ok (.ow (.lst ds)),ρ') else none)
 | .bin op a b,ρ=>bK t ((hd a (ev P C false a ρ) ρ).bind fun x ρ1=>(hd b (ev P C false b ρ1) ρ1).bind fun y ρ2 =>
   done ((x.get ρ2).bind fun d=>(y.get ρ2).bind fun e=>if tQ op x d then dA op d e else none) ρ2)
 | .neg a,ρ=>bK t ((ev P C false a ρ).bind fun v ρ1=>match v.d with
  | .int i=>some (.ok (.sh (.int (-i))),ρ1)
  | _=>none)
 | .not a,ρ=>match t with
  | true=>(ev P C true a ρ).bind fun v ρ1=>match v with
   | .sh (.bl b)=>some (.ok (.sh (.bl (!b))),ρ1)
   | _=>none
  | false=>(hd a (ev P C false a ρ) ρ).bind fun x ρ1=>done ((x.get ρ1).bind fun d=>(hV d).map fun b=>.sh (.bl (!b))) ρ1
 | .cmp op a b,ρ=>(hd a (ev P C false a ρ) ρ).bind fun x ρ1=>(hd b (ev P C false b ρ1) ρ1).bind fun y ρ2 =>
   done ((x.get ρ2).bind fun d=>(y.get ρ2).bind fun e=>(bX op d e).map fun b=>.sh (.bl b)) ρ2
 | .cmp2 op op' a b c,ρ=>(hd a (ev P C false a ρ) ρ).bind fun x ρ1=>(hd b (ev P C false b ρ1) ρ1).bind fun y ρ2 =>
   match (x.get ρ2).bind fun d=>(y.get ρ2).bind fun e=>bX op d e with
   | none=>none
   | some false=>some (.ok (.sh (.bl false)),ρ2)
   | some true=>(hd c (ev P C false c ρ2) ρ2).bind fun z ρ3 =>
    done ((y.get ρ3).bind fun d=>(z.get ρ3).bind fun e=>(bX op' d e).map fun b=>.sh (.bl b)) ρ3
 | .and a b,ρ=>(ev P C t a ρ).bind fun v ρ1=>match v with
  | .sh (.bl true)=>ev P C t b ρ1
  | .sh (.bl false)=>some (.ok (.sh (.bl false)),ρ1)
  | _=>none
 | .or a b,ρ=>(ev P C t a ρ).bind fun v ρ1=>match v with
  | .sh (.bl true)=>some (.ok (.sh (.bl true)),ρ1)
  | .sh (.bl false)=>ev P C t b ρ1
  | _=>none
 | .ite c a b,ρ=>(ev P C true c ρ).bind fun v ρ1=>match v with
  | .sh (.bl true)=>ev P C t a ρ1
  | .sh (.bl false)=>ev P C t b ρ1
  | _=>none
 | .ix a i,ρ=>bK t ((hd a (ev P C false a ρ) ρ).bind fun x ρ1=>(ev P C false i ρ1).bind fun k ρ2 =>
   done ((x.get ρ2).bind fun d=>(LQ d k.d).map .sh) ρ2)
 | .sl a lo hi,ρ=>bK t ((hd a (ev P C false a ρ) ρ).bind fun x ρ1 =>
   (yU lo (ev P C false lo ρ1) ρ1).bind fun l ρ2=>(yU hi (ev P C false hi ρ2) ρ2).bind fun h ρ3 =>
   done ((x.get ρ3).bind fun d=>(nH l).bind fun l=>(nH h).bind fun h=>QP d l h) ρ3)
 | .rev a,ρ=>bK t ((hd a (ev P C false a ρ) ρ).bind fun x ρ1=>done ((x.get ρ1).bind aDC) ρ1)
 | .call f es,ρ=>bK t ((cI P C es ρ).bind fun hs ρ1=>fL (P f) (C f) hs ρ1)
 | .bif f es,ρ=>bK t ((cI P C es ρ).bind fun hs ρ1=>done ((getAll hs ρ1).bind (lH f)) ρ1)
 | .isi a ts,ρ=>bK t ((hd a (ev P C false a ρ) ρ).bind fun x ρ1 =>
   done ((x.get ρ1).bind fun d=>(A5 ts d).map fun b=>.sh (.bl b)) ρ1)
 | .isX a sn,ρ=>bK t ((hd a (ev P C false a ρ) ρ).bind fun x ρ1=>done ((x.get ρ1).bind (aDX sn)) ρ1)
 | .isC a s n,ρ=>bK t ((hd a (ev P C false a ρ) ρ).bind fun x ρ1=>done ((x.get ρ1).bind (aDp s n)) ρ1)
 | .app i a,ρ=>bK t (if nN ρ i then (ev P C false a ρ).bind fun v ρ1=>match ρ1[i]? with
  | some (.ow (.lst ds) p false)=>if aK (ds.length+1) then some (.ok (.sh .non),ρ1.set i (.ow (.lst (ds ++ [v.d])) p false)) else none
  | _=>none
  else none)
 | .insr i k a,ρ=>bK t (if nN ρ i then (ev P C false k ρ).bind fun j ρ1=>(ev P C false a ρ1).bind fun v ρ2=>match ρ2[i]?,j with
  | some (.ow (.lst ds) p false),.sh (.int n)=>@ite _ ((0≤n∧n≤1000000)∧aK (ds.length+1)=true) (cl _) (some (.ok (.sh .non),ρ2.set i (.ow (.lst (ds.take n.toNat ++ v.d :: ds.drop n.toNat)) p false))) none
  | _,_=>none
  else none)
 | .dict kvs,ρ=>bK t (some (.ok (.ow (.dct kvs)),ρ))
 | .dict1 a n,ρ=>bK t ((ev P C false a ρ).bind fun v ρ1=>match iW v.d with
  | some k=>some (.ok (.ow (.dcs [(k,n)])),ρ1)
  | none=>none)
 | .ext i a,ρ=>bK t (if nN ρ i then (ev P C false a ρ).bind fun v ρ1=>match ρ1[i]?,v with
  | some (.ow (.lst ds) p false),.ow (.lst es)=>if aK (ds.length+es.length) then some (.ok (.sh .non),ρ1.set i (.ow (.lst (ds ++ es)) p false)) else none
  | _,_=>none
  else none)
 | .frz i,ρ=>bK t (BP i ρ)
 | .bitl a,ρ=>bK t ((hd a (ev P C false a ρ) ρ).bind fun x ρ1=>done ((x.get ρ1).bind aDr) ρ1)
 | .mkset _,_=>none
 | .mkrng _,_=>none
 | .lrng es,ρ=>bK t ((cI P C es ρ).bind fun hs ρ1=>done ((getAll hs ρ1).bind tR) ρ1)
 | .nset a,ρ=>bK t ((hd a (ev P C false a ρ) ρ).bind fun x ρ1=>done ((x.get ρ1).bind wJ) ρ1)
 | .fld a f,ρ=>bK t ((hd a (ev P C false a ρ) ρ).bind fun x ρ1=>done ((x.get ρ1).bind fun d=>(OL d f).map .sh) ρ1)
 | .make c ns es,ρ=>bK t ((mJ P C es ρ).bind fun ds ρ1=>if ds.length=ns.length then some (.ok (.sh (.ins c ns ds)),ρ1) else none)
 | .meth i m tb es,ρ=>bK t (match ρ[i]? with
  | some (.sh (.ins c ns ds))=>(match fQ c ns m tb with
   | some f=>(cI P C es ρ).bind fun hs ρ1=>fL (P f) (C f) (.val (.sh (.ins c ns ds)) :: hs) ρ1
   | none=>none)
  | _=>none)
 | .methE a m tb es,ρ=>bK t ((ev P C false a ρ).bind fun v ρ0=>match v with
  | .sh (.ins c ns ds)=>(match fQ c ns m tb with
   | some f=>(cI P C es ρ0).bind fun hs ρ1=>fL (P f) (C f) (.val (.sh (.ins c ns ds)) :: hs) ρ1
   | none=>none)
  | _=>none)
 | .comp elt tg k its cond imp nl,ρ=>bK t ((cI P C its ρ).bind fun hs ρ1 =>
   match aH k hs ρ1 with
   | none=>none
   | some (ds,o)=>(fL (imp.map fun _=>true) (tK (dY P C cond) (ev P C false elt) (a8 (tg.length == 1) tg) ds nl) (imp.map Hd.slot) (a7 o ρ1)).bind (oH o ρ1))
noncomputable def mJ (P:aQ) (C:Calls):List E→Env→aS (List D)
 | [],ρ=>some (.ok [],ρ)
 | e :: es,ρ=>(ev P C false e ρ).bind fun v ρ1=>(mJ P C es ρ1).bind fun ds ρ2=>some (.ok (v.d :: ds),ρ2)
noncomputable def cI (P:aQ) (C:Calls):List E→Env→aS (List Hd)
 | [],ρ=>some (.ok [],ρ)
 | e :: es,ρ=>(hd e (ev P C false e ρ) ρ).bind fun v ρ1=>(cI P C es ρ1).bind fun ds ρ2=>some (.ok (v :: ds),ρ2)
noncomputable def dY (P:aQ) (C:Calls):List E→Env→aS RV
 | [],ρ=>some (.ok (.sh (.bl true)),ρ)
 | e :: es,ρ=>(ev P C true e ρ).bind fun v ρ1=>match v with
  | .sh (.bl true)=>dY P C es ρ1
  | .sh (.bl false)=>some (.ok (.sh (.bl false)),ρ1)
  | _=>none
end
mutual
noncomputable def Q8 (P:aQ) (C:Calls):E→Env→Option (Exc × Env)
 | .call f es,ρ=>match cI P C es ρ with
  | some (.ok hs,ρ1)=>match fL (P f) (C f) hs ρ1 with
   | some (.ex x,ρ')=>some (x,ρ')
   | _=>none
  | _=>XG P C es ρ
 | _,_=>none
noncomputable def XG (P:aQ) (C:Calls):List E→Env→Option (Exc × Env)
 | [],_=>none
 | e :: es,ρ=>match hd e (ev P C false e ρ) ρ with
  | some (.ok _,ρ1)=>XG P C es ρ1
  | _=>Q8 P C e ρ
end
inductive Fl where
 | nx | bk | ct | rt (v:RV) | ex (e:Exc)
abbrev bR:=Option (Fl × Env)
noncomputable def aS.flow {α:Type} (r:aS α) (f:α→Env→bR):bR :=
 match r with
 | none=>none
 | some (.ex e,ρ)=>some (.ex e,ρ)
 | some (.ok a,ρ)=>f a ρ
noncomputable def bR.next (r:bR) (f:Env→bR):bR :=
 match r with
 | some (.nx,ρ)=>f ρ
 | r=>r
noncomputable def bR.restore (r:bR) (o:Option Nat) (ρ0:Env):bR :=
 match r with
 | none=>none
 | some (fl,ρ)=>(eS o ρ0 ρ).map fun ρ'=>(fl,ρ')
noncomputable def jH (o:Option Env):bR:=o.map fun ρ=>(.nx,ρ)
noncomputable def bW (bind:D→Env→Option Env) (body:Env→bR):List D→Env→bR
 | [],ρ=>some (.nx,ρ)
 | d :: ds,ρ=>match bind d ρ with
  | none=>none
  | some ρ1=>match body ρ1 with
   | some (.nx,ρ2)=>bW bind body ds ρ2
   | some (.ct,ρ2)=>bW bind body ds ρ2
   | some (.bk,ρ2)=>some (.nx,ρ2)
   | r=>r
noncomputable def HG (test:Env→aS RV) (body:Env→bR):Nat→Env→bR
 | 0,_=>none
 | n+1,ρ=>(test ρ).flow fun v ρ1=>match v with
  | .sh (.bl true)=>match body ρ1 with
   | some (.nx,ρ2)=>HG test body n ρ2
   | some (.ct,ρ2)=>HG test body n ρ2
   | some (.bk,ρ2)=>some (.nx,ρ2)
   | r=>r
  | .sh (.bl false)=>some (.nx,ρ1)
  | _=>none
noncomputable def aDM (i:Nat) (o:Option Sl) (r:aS RV):bR :=
 match o,r with
 | some (.sh (.int a)),some (.ok (.sh (.int b)),ρ1)=>jH (store i (.sh (.int (a+b))) ρ1)
 | _,_=>none
noncomputable def CO (i:Nat) (ρ:Env) (o:Option Sl) (k:Option (Int × List Int)) (v:RV):bR :=
 match o,k,v with
 | some (.ow (.dcs kvs) p false),some k,.sh (.int m)=>if aK (kvs.length+1) then some (.nx,ρ.set i (.ow (.dcs (nP kvs k m)) p false)) else none
 | _,_,_=>none
noncomputable def aEn (cs:List Str) (i:Nat) (o:Option (Exc × Env)):Option Env :=
 match o with
 | none=>none
 | some (x,ρ1)=>if cs.contains x.cls then store i (.sh (.exn x.cls)) ρ1 else none
noncomputable def aEk (i:Nat) (r:bR):bR :=
 match r with
 | some (.nx,ρ)=>(match ρ[i]? with | some (.sh _)=>some (.nx,ρ.set i .mv) | _=>none)
 | _=>none
noncomputable def X4 (cs:List Str) (i j:Nat) (o:Option (Exc × Env)):bR :=
 match o with
 | none=>none
 | some (x,ρ1)=>if cs.contains x.cls∧i≠j then (store i (.sh (.exn x.cls)) ρ1).bind fun ρ2=>(store j (.sh (.exn x.cls)) ρ2).map fun ρ3=>(.nx,ρ3.set i .mv) else none
noncomputable def U4 (cs:List Str) (o:Option (Exc × Env)):bR :=
 match o with
 | none=>none
 | some (x,ρ1)=>if cs.contains x.cls then some (.rt (.sh .non),ρ1) else none
mutual
noncomputable def ex (P:aQ) (C:Calls) (W:Nat):S→Env→bR
 | .bad,_=>none
 | .pass,ρ=>some (.nx,ρ)
 | .brk,ρ=>some (.bk,ρ)
 | .cnt,ρ=>some (.ct,ρ)
 | .asg i e,ρ=>(ev P C false e ρ).flow fun v ρ1=>jH (store i v ρ1)
 | .asgT is e,ρ=>(ev P C false e ρ).flow fun v ρ1=>jH (a8 false is v.d ρ1)
 | .set i k e,ρ=>(ev P C false e ρ).flow fun v ρ1=>if nN ρ1 i then (ev P C false k ρ1).flow fun j ρ2=>match ρ2[i]?,j.d with
  | some (.ow (.lst ds) p false),.int n=>jH ((L2.lI ds.length n).map fun m=>ρ2.set i (.ow (.lst (ds.set m v.d)) p false))
  | _,_=>none
  else if xX ρ1 i then (ev P C false k ρ1).flow fun j ρ2=>CO i ρ2 ρ2[i]? (iW j.d) v
  else none
 | .expr e,ρ=>(ev P C false e ρ).flow fun _ ρ1=>some (.nx,ρ1)
 | .ret e,ρ=>match e with
  | .var i=>match ρ[i]? with
   | some (.ow d false _)=>some (.rt (.ow d),ρ.set i .mv)
   | some (.sh d)=>some (.rt (.sh d),ρ)
   | _=>none
  | e=>(ev P C false e ρ).flow fun v ρ1=>some (.rt v,ρ1)
 | .retN,ρ=>some (.rt (.sh .non),ρ)
 | .ifs c a b,ρ=>(ev P C true c ρ).flow fun v ρ1=>match v with
  | .sh (.bl true)=>exs P C W a ρ1
  | .sh (.bl false)=>exs P C W b ρ1
  | _=>none
 | .for tg one k its body,ρ=>(cI P C its ρ).flow fun hs ρ1 =>
  match aH k hs ρ1 with
  | none=>none
  | some (ds,o)=>(bW (a8 one tg) (exs P C W body) ds (a7 o ρ1)).restore o ρ1
 | .whl c body,ρ=>HG (ev P C true c) (exs P C W body) W ρ
 | .rse _ _,_=>none
 | .aug i e,ρ=>aDM i ρ[i]? (ev P C false e ρ)
 | .tryA body cs i j,ρ=>match exs P C W body ρ with
  | some (.nx,ρ1)=>some (.nx,ρ1)
  | _=>X4 cs i j (u9 P C W body ρ)
 | .tryB body cs i ss,ρ=>match exs P C W body ρ with
  | some (.nx,ρ1)=>some (.nx,ρ1)
  | _=>match aEn cs i (u9 P C W body ρ) with
   | some ρ2=>aEk i (exs P C W ss ρ2)
   | none=>none
 | .tryN body cs,ρ=>match exs P C W body ρ with
  | some (.nx,ρ1)=>some (.nx,ρ1)
  | some (.rt v,ρ1)=>some (.rt v,ρ1)
  | _=>U4 cs (u9 P C W body ρ)
noncomputable def exs (P:aQ) (C:Calls) (W:Nat):List S→Env→bR
 | [],ρ=>some (.nx,ρ)
 | s :: r,ρ=>(ex P C W s ρ).next (exs P C W r)
noncomputable def exX (P:aQ) (C:Calls) (W:Nat):S→Env→Option (Exc × Env)
 | .asg _ e,ρ=>Q8 P C e ρ
 | .expr e,ρ=>Q8 P C e ρ
 | .ret e,ρ=>Q8 P C e ρ
 | .rse c es,ρ=>match mJ P C es ρ with
  | some (.ok _,ρ1)=>some (⟨c⟩,ρ1)
  | _=>none
 | .ifs c a b,ρ=>match ev P C true c ρ with
  | some (.ok (.sh (.bl true)),ρ1)=>u9 P C W a ρ1
  | some (.ok (.sh (.bl false)),ρ1)=>u9 P C W b ρ1
  | _=>none
 | _,_=>none
noncomputable def u9 (P:aQ) (C:Calls) (W:Nat):List S→Env→Option (Exc × Env)
 | [],_=>none
 | s :: r,ρ=>match ex P C W s ρ with
  | some (.nx,ρ1)=>u9 P C W r ρ1
  | _=>exX P C W s ρ
end
abbrev iZ:=String→Option Fn
noncomputable def iZ.pins (T:iZ):aQ:=fun f=>match T f with
 | some fn=>fn.pins
 | none=>[]
noncomputable def run (T:iZ) (W:Nat):Nat→Calls
 | 0=>fun _ _=>none
 | n+1=>fun f as=>match T f with
  | none=>none
  | some fn=>if as.length=fn.pins.length∧as.all l3=true then
    match exs T.pins (run T W n) W fn.body (as ++ List.replicate fn.nl .un) with
    | some (.nx,ρ)=>some (.ok (.sh .non),back as ρ)
    | some (.rt v,ρ)=>some (.ok v,back as ρ)
    | _=>if fn.rs then match u9 T.pins (run T W n) W fn.body (as ++ List.replicate fn.nl .un) with
     | some (x,ρ)=>some (.ex x,back as ρ)
     | none=>none
     else none
   else none
end
end CI
namespace CI
open PySem PySem.Spec PyProof.Rows L2
abbrev St:=L2.St
structure ClsF (K:Frag) (C:Addr) (ns:List Str):Prop where
 cl:Cls K C
 no:∀ f∈ns,kX K C f
noncomputable def W4 (kvs:List (Int × Int)):List (cN × V):=kvs.map fun p=>(Sum.inl p.1,.int p.2)
def J8 (K:Frag) (G:Hp) (a:Addr) (kvs:List ((Int × List Int) × Int)) (xs:rN):Prop:=(xs.map (·.1)).Nodup∧xs.length≤sizeLine∧(a == sysModules)=false∧(∀ x∈xs,cQ K G x.1 x.2.1)∧Paired (fun (p:(Int × List Int) × Int) (q:fE × Addr × Value)=>p.1=q.1∧∃ t,q.2.2=.int p.2 t) kvs xs
mutual
def aE (K:Frag) (G:Hp):D→V→Prop
 | .non,v=>v=.non
 | .bl b,v=>v=.bl b
 | .int i,v=>v=.int i
 | .str x,v=>v=.str x∧PyData.strOk x=true
 | .tup ds,v=>∃ a vs,v=.ref a∧cW K G a vs∧aB K G ds vs
 | .lst ds,v=>∃ a vs,v=.ref a∧b9 K G a vs∧aB K G ds vs
 | .ins c ns ds,v=>∃ a C dx vs,v=.ref a∧nsIn K mainGlobals c=some (some (.ref C))∧G a=some (.ins C dx (ns.zip vs))∧aB K G ds vs∧ClsF K C ns∧ns.length=vs.length
 | .dct kvs,v=>∃ a,v=.ref a∧G a=some (.dK (W4 kvs))
 | .exn c,v=>∃ a C,v=.ref a∧nsIn K mainGlobals c=some (some (.ref C))∧ExcG K C∧G a=some (.ext (pG a C))
 | .dcs kvs,v=>∃ a xs,v=.ref a∧G a=some (.ext (fK a xs))∧J8 K G a kvs xs
def aB (K:Frag) (G:Hp):List D→List V→Prop
 | [],vs=>vs=[]
 | d :: ds,vs=>∃ v r,vs=v :: r∧aE K G d v∧aB K G ds r
end
theorem dG {K:Frag} {G G':Hp} (s:aM G G') {a:Addr} {vs:List V} (h:cW K G a vs):cW K G' a vs:=by
 rcases h with (h | ⟨o,h⟩) | h
 ·exact .inl (.inl (s _ _ h))
 ·exact .inl (.inr ⟨o,s _ _ h⟩)
 ·exact .inr h
theorem cQ.mono {K:Frag} {G G':Hp} (s:aM G G') {k:fE} {b:Addr} (h:cQ K G k b):cQ K G' k b:=let ⟨c,h1,h2⟩:=h; ⟨c,dG s h1,dG s h2⟩
theorem J8.mono {K:Frag} {G G':Hp} (s:aM G G') {a:Addr} {kvs:List ((Int × List Int) × Int)} {xs:rN} (h:J8 K G a kvs xs):J8 K G' a kvs xs:=⟨h.1,h.2.1,h.2.2.1,fun x hx=>cQ.mono s (h.2.2.2.1 x hx),h.2.2.2.2⟩
mutual
theorem aE.mono {K:Frag} {G G':Hp} (s:aM G G'):∀ (d:D) {v:V},aE K G d v→aE K G' d v
 | .non,_,h=>by simpa [aE] using h
 | .bl _,_,h=>by simpa [aE] using h
 | .int _,_,h=>by simpa [aE] using h
 | .str _,_,h=>by simpa [aE] using h
 | .tup ds,_,h=>by
  simp only [aE] at h ⊢;obtain ⟨a,vs,e,h1,h2⟩:=h;exact ⟨a,vs,e,dG s h1,aB.mono s ds h2⟩
 | .lst ds,_,h=>by
  simp only [aE] at h ⊢;obtain ⟨a,vs,e,h1,h2⟩:=h;exact ⟨a,vs,e,s.seq h1,aB.mono s ds h2⟩
 | .ins c ns ds,_,h=>by
  simp only [aE] at h ⊢;obtain ⟨a,C,dx,vs,e,h1,h2,h3,h4,h5⟩:=h;exact ⟨a,C,dx,vs,e,h1,s _ _ h2,aB.mono s ds h3,h4,h5⟩
 | .dct kvs,_,h=>by
  simp only [aE] at h ⊢;obtain ⟨a,e,h1⟩:=h;exact ⟨a,e,s _ _ h1⟩
 | .exn c,_,h=>by
  simp only [aE] at h ⊢;obtain ⟨a,C,e,h1,h2,h3⟩:=h;exact ⟨a,C,e,h1,h2,s _ _ h3⟩
 | .dcs kvs,_,h=>by
  simp only [aE] at h ⊢;obtain ⟨a,xs,e,h1,h2⟩:=h;exact ⟨a,xs,e,s _ _ h1,h2.mono s⟩
theorem aB.mono {K:Frag} {G G':Hp} (s:aM G G'):∀ (ds:List D) {vs:List V},aB K G ds vs→aB K G' ds vs
 | [],_,h=>by simpa [aB] using h
 | d :: ds,_,h=>by
  simp only [aB] at h ⊢;obtain ⟨v,r,e,h1,h2⟩:=h;exact ⟨v,r,e,aE.mono s d h1,aB.mono s ds h2⟩
end
theorem aB.len {K:Frag} {G:Hp}:∀ {ds:List D} {vs:List V},aB K G ds vs→vs.length=ds.length
 | [],_,h=>by simp only [aB] at h; subst h; rfl
 | d :: ds,_,h=>by
  simp only [aB] at h;obtain ⟨v,r,rfl,_,h2⟩:=h;simp [aB.len h2]
theorem aB.nil {K:Frag} {G:Hp}:aB K G [] []:=by simp [aB]
theorem aB.cons {K:Frag} {G:Hp} {d:D} {ds:List D} {v:V} {vs:List V} (h:aE K G d v) (t:aB K G ds vs):aB K G (d :: ds) (v :: vs):=by
 simp only [aB]; exact ⟨v,vs,rfl,h,t⟩
theorem aB.app {K:Frag} {G:Hp}:∀ {ds es:List D} {vs ws:List V},aB K G ds vs→aB K G es ws→aB K G (ds ++ es) (vs ++ ws)
 | [],_,_,_,h,h'=>by simp only [aB] at h; subst h; exact h'
 | d :: ds,_,_,_,h,h'=>by
  simp only [aB] at h;obtain ⟨v,r,rfl,h1,h2⟩:=h;exact aB.cons h1 (aB.app h2 h')
theorem aB.rev {K:Frag} {G:Hp}:∀ {ds:List D} {vs:List V},aB K G ds vs→aB K G ds.reverse vs.reverse
 | [],vs,h=>by
  cases (show vs=[] from h);exact (show aB K G [] [] from rfl)
 | d :: ds,vs,h=>by
  obtain ⟨v,r,rfl,h1,h2⟩:=(show ∃ v r,vs=v :: r∧aE K G d v∧aB K G ds r from h)
  rw [List.reverse_cons,List.reverse_cons];exact h2.rev.app (show aB K G [d] [v] from ⟨v,[],rfl,h1,rfl⟩)
theorem aB.get {K:Frag} {G:Hp}:∀ {ds:List D} {vs:List V} {i:Nat} {d:D},aB K G ds vs→ds[i]?=some d→∃ v,vs[i]?=some v∧aE K G d v
 | [],_,_,_,_,e=>by simp at e
 | d :: ds,_,0,_,h,e=>by
  simp only [aB] at h;obtain ⟨v,r,rfl,h1,h2⟩:=h;simp at e; subst e;exact ⟨v,rfl,h1⟩
 | d :: ds,_,i+1,_,h,e=>by
  simp only [aB] at h;obtain ⟨v,r,rfl,h1,h2⟩:=h
  have:=aB.get (i:=i) h2 (by simpa using e)
  simpa using this
theorem aB.set {K:Frag} {G:Hp} {d:D} {v:V} (hv:aE K G d v):∀ {ds:List D} {vs:List V} (i:Nat),aB K G ds vs→aB K G (ds.set i d) (vs.set i v)
 | [],_,_,h=>by simp only [aB] at h; subst h; simp [aB]
 | e :: ds,_,0,h=>by
  simp only [aB] at h;obtain ⟨u,r,rfl,h1,h2⟩:=h;exact aB.cons hv h2
 | e :: ds,_,i+1,h=>by
  simp only [aB] at h;obtain ⟨u,r,rfl,h1,h2⟩:=h;exact aB.cons h1 (aB.set hv i h2)
theorem aB.take {K:Frag} {G:Hp}:∀ {ds:List D} {vs:List V} (n:Nat),aB K G ds vs→aB K G (ds.take n) (vs.take n)
 | _,_,0,_=>by simp [aB]
 | [],_,_+1,h=>by simp only [aB] at h; subst h; simp [aB]
 | e :: ds,_,n+1,h=>by
  simp only [aB] at h;obtain ⟨u,r,rfl,h1,h2⟩:=h;exact aB.cons h1 (aB.take n h2)
theorem aB.drop {K:Frag} {G:Hp}:∀ {ds:List D} {vs:List V} (n:Nat),aB K G ds vs→aB K G (ds.drop n) (vs.drop n)
 | _,_,0,h=>h
 | [],_,_+1,h=>by simp only [aB] at h; subst h; simp [aB]
 | e :: ds,_,n+1,h=>by
  simp only [aB] at h;obtain ⟨u,r,rfl,h1,h2⟩:=h;exact aB.drop n h2
theorem aB.rep {K:Frag} {G:Hp} {ds:List D} {vs:List V} (h:aB K G ds vs):∀ n,aB K G (List.replicate n ds).flatten (List.replicate n vs).flatten
 | 0=>aB.nil
 | n+1=>by
  rw [List.replicate_succ,List.replicate_succ,List.flatten_cons,List.flatten_cons];exact aB.app h (aB.rep h n)
def gY (K:Frag) (H G:Hp) (a:Addr):D→Prop
 | .lst ds=>∃ vs,H a=some (.lst vs)∧aB K G ds vs
 | .dct kvs=>H a=some (.dK (W4 kvs))
 | .dcs kvs=>∃ xs,H a=some (.ext (fK a xs))∧J8 K G a kvs xs
 | _=>False
def aR (ρ:Env) (σ:St) (a:Addr):Prop:=∃ (i:Nat) (d:D) (p l:Bool),ρ[i]?=some (.ow d p l)∧σ[i]?=some (some (.ref a))
structure Rel (K:Frag) (ρ:Env) (σ:St) (H G:Hp):Prop where
 len:ρ.length=σ.length
 sub:aM G H
 sh:∀ (i:Nat) (d:D),ρ[i]?=some (.sh d)→∃ v,σ[i]?=some (some v)∧aE K G d v
 ow:∀ (i:Nat) (d:D) (p l:Bool),ρ[i]?=some (.ow d p l)→∃ a,σ[i]?=some (some (.ref a))∧G a=none∧gY K H G a d
 inj:∀ (i j:Nat) (d:D) (p l:Bool) (d':D) (p' l':Bool) (a:Addr),ρ[i]?=some (.ow d p l)→ρ[j]?=some (.ow d' p' l')→σ[i]?=some (some (.ref a))→σ[j]?=some (some (.ref a))→i=j
structure Ext (own:Addr→Prop) (H G H' G':Hp):Prop where
 gg:aM G G'
 hh:∀ a o,H a=some o→¬ own a→H' a=some o
 hx:∀ a,H' a=none→H a=none
 gn:∀ a,H a≠none→G a=none→¬ own a→G' a=none
theorem Ext.refl {own:Addr→Prop} {H G:Hp}:Ext own H G H G:=⟨aM.refl _,fun _ _ h _=>h,fun _ h=>h,fun _ _ h _=>h⟩
theorem Ext.trans {own own1:Addr→Prop} {H G H1 G1 H2 G2:Hp} (a:Ext own H G H1 G1) (w:∀ x,own1 x→own x∨H x=none) (b:Ext own1 H1 G1 H2 G2):Ext own H G H2 G2:=by
 refine ⟨a.gg.trans b.gg,fun x o h n=>?_,fun x h=>a.hx x (b.hx x h),fun x h g n=>?_⟩
 ·refine b.hh x o (a.hh x o h n) fun z=>?_
  rcases w x z with z | z
  ·exact n z
  ·rw [h] at z; cases z
 ·have h1:H1 x≠none:=fun z=>h (a.hx x z)
  refine b.gn x h1 (a.gn x h g n) fun z=>?_
  rcases w x z with z | z
  ·exact n z
  ·exact h z
theorem Ext.weaken {own own':Addr→Prop} {H G H1 G1:Hp} (a:Ext own H G H1 G1) (w:∀ x,own x→own' x):Ext own' H G H1 G1 :=
 ⟨a.gg,fun x o h n=>a.hh x o h fun z=>n (w x z),a.hx,fun x h g n=>a.gn x h g fun z=>n (w x z)⟩
def dQ (K:Frag) (H G:Hp) (own:Addr→Prop) (new:Addr→Prop):RV→V→Prop
 | .sh d,v=>aE K G d v
 | .ow d,v=>∃ a,v=.ref a∧G a=none∧gY K H G a d∧¬ own a∧new a
def bV (K:Frag) (H G:Hp) (d:D) (v:V):Prop:=aE K G d v∨∃ a,v=.ref a∧gY K H G a d
def jK (K:Frag) (H G:Hp) (own:Addr→Prop) (new:Addr→Prop) (σ:St):Hd→V→Prop
 | .slot i,v=>σ[i]?=some (some v)
 | .val r,v=>dQ K H G own new r v
section
variable {K:Frag} {ρ:Env} {σ:St} {H G H' G':Hp} {own own' new new':Addr→Prop}
theorem gY.mono {a:Addr} {d:D} (h:gY K H G a d) (s:aM G G') (e:∀ o,H a=some o→H' a=some o):gY K H' G' a d:=by
 cases d with
 | lst ds =>
  obtain ⟨vs,h1,h2⟩:=h;exact ⟨vs,e _ h1,aB.mono s _ h2⟩
 | dct kvs=>exact e _ h
 | dcs kvs=>obtain ⟨xs,h1,h2⟩:=h; exact ⟨xs,e _ h1,h2.mono s⟩
 | _=>exact h
theorem gY.put {a:Addr} {d:D} (h:gY K H G a d):∃ o,H a=some o∧∀ G',aM G G'→G' a=some o→aE K G' d (.ref a):=by
 cases d with
 | lst ds =>
  obtain ⟨vs,h1,h2⟩:=h;exact ⟨_,h1,fun G' s e=>by simp only [aE]; exact ⟨a,vs,rfl,b9.of e,aB.mono s ds h2⟩⟩
 | dct kvs=>exact ⟨_,h,fun G' s e=>by simp only [aE]; exact ⟨a,rfl,e⟩⟩
 | dcs kvs=>obtain ⟨xs,h1,h2⟩:=h; exact ⟨_,h1,fun G' s e=>by simp only [aE]; exact ⟨a,xs,rfl,e,h2.mono s⟩⟩
 | _=>exact h.elim
theorem gY.there {a:Addr} {d:D} (h:gY K H G a d):∃ o,H a=some o:=let ⟨o,h,_⟩:=h.put; ⟨o,h⟩
theorem Rel.owned (r:Rel K ρ σ H G) {a:Addr} (o:aR ρ σ a):H a≠none∧G a=none:=by
 obtain ⟨i,d,p,l,h1,h2⟩:=o;obtain ⟨b,e,g,h⟩:=r.ow i d p l h1;rw [h2] at e; cases e;obtain ⟨vs,h⟩:=h.there;exact ⟨by rw [h]; simp,g⟩
theorem dQ.wait {v:RV} {x:V} (h:dQ K H G own new v x) (e:Ext own H G H' G') (w:∀ a,own' a→own a∨H a=none):dQ K H' G' own' new v x:=by
 cases v with
 | sh d=>exact aE.mono e.gg d h
 | ow d =>
  obtain ⟨a,rfl,g,o,n,m⟩:=h;obtain ⟨vs,hv⟩:=o.there;have ne:H a≠none:=by rw [hv]; simp
  refine ⟨a,rfl,e.gn a ne g n,o.mono e.gg fun o' h'=>e.hh a o' h' n,fun z=>?_,m⟩;rcases w a z with z | z
  ·exact n z
  ·exact ne z
theorem jK.wait {v:Hd} {x:V} (h:jK K H G own new σ v x) (e:Ext own H G H' G') (w:∀ a,own' a→own a∨H a=none):jK K H' G' own' new σ v x:=by
 cases v with
 | slot i=>exact h
 | val r=>exact dQ.wait h e w
theorem dQ.new_mono {v:RV} {x:V} (h:dQ K H G own new v x) (w:∀ a,new a→new' a):dQ K H G own new' v x:=by
 cases v with
 | sh d=>exact h
 | ow d =>
  obtain ⟨a,rfl,g,o,n,m⟩:=h;exact ⟨a,rfl,g,o,n,w a m⟩
theorem jK.new_mono {v:Hd} {x:V} (h:jK K H G own new σ v x) (w:∀ a,new a→new' a):jK K H G own new' σ v x:=by
 cases v with
 | slot i=>exact h
 | val r=>exact dQ.new_mono h w
theorem dQ.readR {v:RV} {x:V} (h:dQ K H G own new v x):bV K H G v.d x:=by
 cases v with
 | sh d=>exact .inl h
 | ow d =>
  obtain ⟨a,rfl,g,o,n,m⟩:=h;exact .inr ⟨a,rfl,o⟩
theorem Rel.get (r:Rel K ρ σ H G) {i:Nat} {d:D} {x:V} (h:(ρ[i]?).bind Sl.get=some d) (hx:σ[i]?=some (some x)):bV K H G d x:=by
 cases e:ρ[i]? with
 | none=>rw [e] at h; cases h
 | some sl =>
  rw [e] at h
  cases sl with
  | un=>cases h
  | mv=>cases h
  | sh d' =>
   cases h;obtain ⟨v,h1,h2⟩:=r.sh i _ e;rw [hx] at h1; cases h1;exact .inl h2
  | ow d' p l =>
   cases h;obtain ⟨a,h1,_,h2⟩:=r.ow i _ p l e;rw [hx] at h1; cases h1;exact .inr ⟨a,rfl,h2⟩
theorem jK.read {v:Hd} {x:V} {d:D} (h:jK K H G own new σ v x) (r:Rel K ρ σ H G) (e:v.get ρ=some d):bV K H G d x:=by
 cases v with
 | slot i=>exact r.get e h
 | val u =>
  simp only [Hd.get,Option.some.injEq] at e;subst e;exact dQ.readR h
theorem Rel.bound (r:Rel K ρ σ H G) {i:Nat} (h:((ρ[i]?).bind Sl.get).isSome=true):∃ v,σ[i]?=some (some v):=by
 cases e:ρ[i]? with
 | none=>rw [e] at h; cases h
 | some sl =>
  rw [e] at h
  cases sl with
  | un=>cases h
  | mv=>cases h
  | sh d' =>
   obtain ⟨v,h1,h2⟩:=r.sh i _ e;exact ⟨v,h1⟩
  | ow d' p l =>
   obtain ⟨a,h1,_,h2⟩:=r.ow i _ p l e;exact ⟨_,h1⟩
theorem bV.lst {ds:List D} {x:V} (s:aM G H) (h:bV K H G (.lst ds) x):∃ a vs,x=.ref a∧b9 K H a vs∧aB K G ds vs:=by
 rcases h with h | ⟨a,rfl,h⟩
 ·simp only [aE] at h;obtain ⟨a,vs,e,h1,h2⟩:=h;exact ⟨a,vs,e,s.seq h1,h2⟩
 ·obtain ⟨vs,h1,h2⟩:=h;exact ⟨a,vs,rfl,b9.of h1,h2⟩
theorem bV.tup {ds:List D} {x:V} (s:aM G H) (h:bV K H G (.tup ds) x):∃ a vs,x=.ref a∧cW K H a vs∧aB K G ds vs:=by
 rcases h with h | ⟨a,rfl,h⟩
 ·simp only [aE] at h;obtain ⟨a,vs,e,h1,h2⟩:=h;exact ⟨a,vs,e,dG s h1,h2⟩
 ·exact h.elim
theorem bV.int {i:Int} {x:V} (h:bV K H G (.int i) x):x=.int i:=by
 rcases h with h | ⟨a,rfl,h⟩
 ·simpa [aE] using h
 ·exact h.elim
theorem bV.bl {i:Bool} {x:V} (h:bV K H G (.bl i) x):x=.bl i:=by
 rcases h with h | ⟨a,rfl,h⟩
 ·simpa [aE] using h
 ·exact h.elim
theorem bV.str {i:Str} {x:V} (h:bV K H G (.str i) x):x=.str i∧PyData.strOk i=true:=by
 rcases h with h | ⟨a,rfl,h⟩
 ·simpa [aE] using h
 ·exact h.elim
theorem bV.non {x:V} (h:bV K H G .non x):x=.non:=by
 rcases h with h | ⟨a,rfl,h⟩
 ·simpa [aE] using h
 ·exact h.elim
theorem rG {i:Bool} {x:V} (h:aE K G (.bl i) x):x=.bl i:=by simpa [aE] using h
theorem aM.laid {a:Addr} {o:HO} (h:H a=none):aM H (aV H a o):=fun b u e=>by rw [aO (bU e h)]; exact e
theorem Rel.layG (r:Rel K ρ σ H G) {a:Addr} {o:HO} (h:H a=none):Rel K ρ σ (aV H a o) (aV G a o):=by
 have hg:G a=none:=aM.free r.sub h;refine ⟨r.len,fun b u e=>?_,fun i d e=>?_,fun i d p l e=>?_,r.inj⟩
 ·by_cases hb:b=a
  ·subst hb; rw [bE] at e ⊢; exact e
  ·rw [aO hb] at e ⊢; exact r.sub b u e
 ·obtain ⟨v,h1,h2⟩:=r.sh i d e;exact ⟨v,h1,aE.mono (aM.laid hg) d h2⟩
 ·obtain ⟨b,h1,h2,h3⟩:=r.ow i d p l e;obtain ⟨vs,hv⟩:=h3.there;have hb:b≠a:=bU hv h;refine ⟨b,h1,by rw [aO hb]; exact h2,h3.mono (aM.laid hg) fun o' h'=>by rw [aO hb]; exact h'⟩
theorem Ext.layG {a:Addr} {o:HO} (s:aM G H) (h:H a=none):Ext own H G (aV H a o) (aV G a o):=by
 have hg:G a=none:=aM.free s h;refine ⟨aM.laid hg,fun b u e _=>aM.laid h b u e,fun b e=>?_,fun b e g _=>?_⟩
 ·by_cases hb:b=a
  ·subst hb; exact h
  ·rwa [aO hb] at e
 ·by_cases hb:b=a
  ·subst hb; exact absurd h e
  ·rw [aO hb]; exact g
theorem Rel.layH (r:Rel K ρ σ H G) {a:Addr} {o:HO} (h:H a=none):Rel K ρ σ (aV H a o) G:=by
 refine ⟨r.len,r.sub.trans (aM.laid h),r.sh,fun i d p l e=>?_,r.inj⟩;obtain ⟨b,h1,h2,h3⟩:=r.ow i d p l e;obtain ⟨vs,hv⟩:=h3.there;have hb:b≠a:=bU hv h;exact ⟨b,h1,h2,h3.mono (aM.refl _) fun o' h'=>by rw [aO hb]; exact h'⟩
theorem Ext.layH {a:Addr} {o:HO} (h:H a=none):Ext own H G (aV H a o) G:=by
 refine ⟨aM.refl _,fun b u e _=>aM.laid h b u e,fun b e=>?_,fun b e g _=>g⟩;by_cases hb:b=a
 ·subst hb; exact h
 ·rwa [aO hb] at e
theorem Rel.notOwn (r:Rel K ρ σ H G) {a:Addr} (h:H a=none):¬ aR ρ σ a:=fun o=>(r.owned o).1 h
theorem aM.put {a:Addr} {o:HO} (h:G a=none):aM G (aV G a o):=aM.laid h
theorem dQ.share {v:RV} {x:V} (h:dQ K H G (aR ρ σ) new v x) (r:Rel K ρ σ H G) (hn:∀ a,new a→own a∨new' a) :
  ∃ G',Rel K ρ σ H G'∧aM G G'∧(∀ a,G' a≠none→G a≠none∨new a)∧aE K G' v.d x:=by
 cases v with
 | sh d=>exact ⟨G,r,aM.refl _,fun a z=>.inl z,h⟩
 | ow d =>
  obtain ⟨a,rfl,g,o,n,m⟩:=h;obtain ⟨ob,hv,hr⟩:=o.put;refine ⟨aV G a ob,⟨r.len,fun b u e=>?_,fun i d e=>?_,fun i d p l e=>?_,r.inj⟩,aM.put g,fun b z=>?_, ?_⟩
  ·by_cases hb:b=a
   ·subst hb; rw [bE] at e; rw [hv]; exact e
   ·rw [aO hb] at e; exact r.sub b u e
  ·obtain ⟨v,h1,h2⟩:=r.sh i d e;exact ⟨v,h1,aE.mono (aM.put g) d h2⟩
  ·obtain ⟨b,h1,h2,h3⟩:=r.ow i d p l e;have hb:b≠a:=fun z=>by subst z; exact n ⟨i,d,p,l,e,h1⟩
   exact ⟨b,h1,by rw [aO hb]; exact h2,h3.mono (aM.put g) fun _ z=>z⟩
  ·by_cases hb:b=a
   ·subst hb; exact .inr m
   ·rw [aO hb] at z; exact .inl z
  ·exact hr _ (aM.put g) bE
end
def dE:Option Sl→Option Sl→Prop
 | some (.ow _ p l),some (.ow _ p' l')=>p=p'∧l=l'
 | some (.ow _ p _),some (.sh _)=>p=false
 | some .un,some .un=>True
 | some .mv,some .mv=>True
 | some (.sh _),some (.sh _)=>True
 | none,none=>True
 | _,_=>False
theorem dE.refl (a:Option Sl):dE a a:=by
 cases a with
 | none=>trivial
 | some s=>cases s <;> first | trivial | exact ⟨rfl,rfl⟩
theorem dE.trans {a b c:Option Sl} (h:dE a b) (h':dE b c):dE a c:=by
 cases a with
 | none =>
  cases b with
  | none=>exact h'
  | some t=>cases t <;> exact h.elim
 | some s =>
  cases b with
  | none=>cases s <;> exact h.elim
  | some t =>
   cases c with
   | none=>cases t <;> exact h'.elim
   | some u=>cases s <;> cases t <;> cases u <;> simp_all [dE]
theorem dE.ow_of {a:Option Sl} {d:D} {p l:Bool} (h:dE a (some (.ow d p l))):∃ d',a=some (.ow d' p l):=by
 cases a with
 | none=>exact h.elim
 | some s=>cases s <;> first | exact h.elim | (obtain ⟨rfl,rfl⟩:=h; exact ⟨_,rfl⟩)
def i4 (ρ ρ':Env):Prop:=∀ i:Nat,dE ρ[i]? ρ'[i]?
theorem i4.refl (ρ:Env):i4 ρ ρ:=fun _=>dE.refl _
theorem i4.trans {a b c:Env} (h:i4 a b) (h':i4 b c):i4 a c:=fun i=>(h i).trans (h' i)
theorem i4.own {ρ ρ':Env} {σ:St} (h:i4 ρ ρ') (a:Addr) (o:aR ρ' σ a):aR ρ σ a:=by
 obtain ⟨i,d,p,l,h1,h2⟩:=o
 have:=h i
 rw [h1] at this;obtain ⟨d',e⟩:=this.ow_of;exact ⟨i,d',p,l,e,h2⟩
theorem i4.set {ρ:Env} {i:Nat} {s:Sl} (h:dE ρ[i]? (some s)):i4 ρ (ρ.set i s):=fun j=>by
 by_cases hij:j=i
 ·subst hij;by_cases hl:j<ρ.length
  ·rw [zk hl]; exact h
  ·rw [List.getElem?_eq_none (by omega)] at h;cases s <;> exact h.elim
 ·rw [Zf (fun z=>hij z.symm)];exact dE.refl _
structure Aft (K:Frag) (ρ:Env) (σ:St) (H G:Hp) (ρ':Env) (H' G':Hp):Prop where
 rel:Rel K ρ' σ H' G'
 ext:Ext (aR ρ σ) H G H' G'
 evo:i4 ρ ρ'
section
variable {K:Frag} {ρ ρ' ρ1 ρ2:Env} {σ:St} {H G H' G' H1 G1 H2 G2:Hp}
theorem Aft.own (a:Aft K ρ σ H G ρ' H' G'):∀ a,aR ρ' σ a→aR ρ σ a:=fun x h=>a.evo.own x h
theorem Aft.refl (r:Rel K ρ σ H G):Aft K ρ σ H G ρ H G:=⟨r,Ext.refl,i4.refl _⟩
theorem Aft.trans (a:Aft K ρ σ H G ρ1 H1 G1) (b:Aft K ρ1 σ H1 G1 ρ2 H2 G2):Aft K ρ σ H G ρ2 H2 G2 :=
 ⟨b.rel,a.ext.trans (fun x h=>.inl (a.own x h)) b.ext,a.evo.trans b.evo⟩
abbrev eZ (H:Hp):Addr→Prop:=fun a=>H a=none
theorem Aft.fresh (a:Aft K ρ σ H G ρ1 H1 G1) {x:Addr} (h:H1 x=none):H x=none:=a.ext.hx x h
theorem Aft.share (a:Aft K ρ σ H G ρ' H' G') {v:RV} {x:V} (h:dQ K H' G' (aR ρ' σ) (eZ H) v x):∃ G2,Aft K ρ σ H G ρ' H' G2∧aE K G2 v.d x:=by
 obtain ⟨G2,r2,s2,n2,h2⟩:=h.share (own:=fun _=>False) (new':=eZ H) a.rel (fun _ z=>.inr z);refine ⟨G2,⟨r2,⟨a.ext.gg.trans s2,a.ext.hh,a.ext.hx,fun b hb gb nb=>?_⟩,a.evo⟩,h2⟩
 cases e:G2 b with
 | none=>rfl
 | some o =>
  rcases n2 b (by rw [e]; simp) with z | z
  ·exact absurd (a.ext.gn b hb gb nb) z
  ·exact absurd z hb
theorem Aft.layG (a:Aft K ρ σ H G ρ' H' G') {p:Addr} {o:HO} (h:H' p=none):Aft K ρ σ H G ρ' (aV H' p o) (aV G' p o) :=
 a.trans ⟨a.rel.layG h,Ext.layG a.rel.sub h,i4.refl _⟩
theorem Aft.layH (a:Aft K ρ σ H G ρ' H' G') {p:Addr} {o:HO} (h:H' p=none):Aft K ρ σ H G ρ' (aV H' p o) G' :=
 a.trans ⟨a.rel.layH h,Ext.layH h,i4.refl _⟩
theorem Aft.own_new (a:Aft K ρ σ H G ρ' H' G') {p:Addr} {ds:List D} {vs:List V} (h:H' p=none) (r:aB K G' ds vs) :
  Aft K ρ σ H G ρ' (aV H' p (.lst vs)) G'∧dQ K (aV H' p (.lst vs)) G' (aR ρ' σ) (eZ H) (.ow (.lst ds)) (.ref p) :=
 ⟨a.layH h,p,rfl,aM.free a.rel.sub h,⟨vs,bE,r⟩,a.rel.notOwn h,a.fresh h⟩
theorem Aft.tup_new (a:Aft K ρ σ H G ρ' H' G') {p:Addr} {ds:List D} {vs:List V} (h:H' p=none) (r:aB K G' ds vs) :
  Aft K ρ σ H G ρ' (aV H' p (.tup vs)) (aV G' p (.tup vs))∧dQ K (aV H' p (.tup vs)) (aV G' p (.tup vs)) (aR ρ' σ) (eZ H) (.sh (.tup ds)) (.ref p):=by
 refine ⟨a.layG h, ?_⟩;show aE K _ (.tup ds) _;simp only [aE];exact ⟨p,vs,rfl,cW.of bE,aB.mono (aM.laid (aM.free a.rel.sub h)) ds r⟩
end
def mO:List Hd→List V→Addr→Prop
 | .val (.ow _) :: hs,x :: xs,a=>x=.ref a∨mO hs xs a
 | _ :: hs,_ :: xs,a=>mO hs xs a
 | _,_,_=>False
def dC (K:Frag) (H G:Hp) (own new:Addr→Prop) (σ:St):List Hd→List V→Prop
 | [],xs=>xs=[]
 | h :: hs,xs=>∃ x r,xs=x :: r∧jK K H G own new σ h x∧dC K H G own new σ hs r∧∀ d a,h=.val (.ow d)→x=.ref a→¬ mO hs r a
section
variable (K:Frag) (P:aQ) (C:Calls)
noncomputable def tE (c:E):TE:=fun σ H Q=>∃ (ρ:Env) (G:Hp) (v:RV) (ρ':Env),Rel K ρ σ H G∧ev P C false c ρ=some (.ok v,ρ') ∧
 ∀ x H' G',Aft K ρ σ H G ρ' H' G'→dQ K H' G' (aR ρ' σ) (eZ H) v x→Q x H'
noncomputable def tT (c:E):TT:=fun σ H Q=>∃ (ρ:Env) (G:Hp) (b:Bool) (ρ':Env),Rel K ρ σ H G∧ev P C true c ρ=some (.ok (.sh (.bl b)),ρ') ∧
 ∀ H' G',Aft K ρ σ H G ρ' H' G'→Q b H'
noncomputable def tH (c:E):TE:=fun σ H Q=>∃ (ρ:Env) (G:Hp) (h:Hd) (ρ':Env),Rel K ρ σ H G∧hd c (ev P C false c ρ) ρ=some (.ok h,ρ') ∧
 ∀ x H' G',Aft K ρ σ H G ρ' H' G'→jK K H' G' (aR ρ' σ) (eZ H) σ h x→Q x H'
noncomputable def CL (cs:List E):TA:=fun σ H Q=>∃ (ρ:Env) (G:Hp) (ds:List D) (ρ':Env),Rel K ρ σ H G∧mJ P C cs ρ=some (.ok ds,ρ') ∧
 ∀ xs H' G',Aft K ρ σ H G ρ' H' G'→aB K G' ds xs→Q xs H'
noncomputable def mP (cs:List E):TA:=fun σ H Q=>∃ (ρ:Env) (G:Hp) (hs:List Hd) (ρ':Env),Rel K ρ σ H G∧cI P C cs ρ=some (.ok hs,ρ') ∧
 ∀ xs H' G',Aft K ρ σ H G ρ' H' G'→dC K H' G' (aR ρ' σ) (eZ H) σ hs xs→Q xs H'
end
theorem TE.imp_pe {X:Cx} {e:Expr} {t u:TE} (h:PE X e t) (w:∀ σ H Q,u σ H Q→t σ H Q):PE X e u:=fun pins s σ H Q I q=>h pins s σ H Q I (w σ H Q q)
theorem TT.imp_pt {X:Cx} {e:Expr} {t u:TT} (h:PT X e t) (w:∀ σ H Q,u σ H Q→t σ H Q):PT X e u:=fun pins s σ H Q I q=>h pins s σ H Q I (w σ H Q q)
theorem TA.imp_pa {X:Cx} {e:List Expr} {t u:TA} (h:PA X e t) (w:∀ σ H Q,u σ H Q→t σ H Q):PA X e u:=fun pos pins s σ H Q I q=>h pos pins s σ H Q I (w σ H Q q)
theorem aL {α β:Type} {r:aS α} {f:α→Env→aS β} {b:β} {ρ:Env} (h:r.bind f=some (.ok b,ρ)):∃ a ρ1,r=some (.ok a,ρ1)∧f a ρ1=some (.ok b,ρ):=by
 unfold aS.bind at h;split at h
 ·cases h
 ·cases h
 ·exact ⟨_,_,rfl,h⟩
theorem eC {o:Option RV} {ρ ρ':Env} {v:RV} (h:done o ρ=some (.ok v,ρ')):o=some v∧ρ'=ρ:=by
 unfold done at h
 cases o with
 | none=>cases h
 | some u=>simp only [Option.map_some,Option.some.injEq,Prod.mk.injEq,Out.ok.injEq] at h; exact ⟨by rw [h.1],h.2.symm⟩
theorem aN (r:aS RV):bK false r=r:=rfl
theorem F7 {r:aS RV} {v:RV} {ρ':Env} (h:bK true r=some (.ok v,ρ')):∃ u b,r=some (.ok u,ρ')∧hV u.d=some b∧v=.sh (.bl b):=by
 obtain ⟨u,ρ1,h1,h2⟩:=aL h
 cases e:hV u.d with
 | none=>rw [e] at h2; cases h2
 | some b =>
  rw [e] at h2;simp only [Option.map_some,Option.some.injEq,Prod.mk.injEq,Out.ok.injEq] at h2;obtain ⟨h3,h4⟩:=h2;subst h4;exact ⟨u,b,h1,e,h3.symm⟩
section
variable {K:Frag} {P:aQ} {C:Calls} {σ:St} {H:Hp}
theorem tF {X:Cx} {e:Expr} {c:E} (h:PE X e (tE K P C c)) (n:∀ i,c≠.var i):PE X e (tH K P C c):=by
 refine TE.imp_pe h fun σ H Q q=>?_
 obtain ⟨ρ,G,hd',ρ',r,e1,k⟩:=q
 have:hd c (ev P C false c ρ) ρ=(ev P C false c ρ).bind fun v ρ'=>some (.ok (.val v),ρ'):=by
  cases c <;> first | rfl | exact absurd rfl (n _)
 rw [this] at e1;obtain ⟨v,ρ1,e2,e3⟩:=aL e1;cases e3;exact ⟨ρ,G,v,_,r,e2,fun x H' G' a hv=>k x H' G' a hv⟩
theorem WS {X:Cx} {e:Expr} {i:Nat} (h:PE X e (vG i)):PE X e (tE K P C (.var i)):=by
 refine TE.imp_pe h fun σ H Q q=>?_
 obtain ⟨ρ,G,v,ρ',r,e1,k⟩:=q;simp only [ev] at e1;unfold BP at e1;split at e1
 ·rename_i d hd;cases e1;obtain ⟨x,h1,h2⟩:=r.sh i d hd;exact ⟨x,h1,k x H G (Aft.refl r) h2⟩
 ·rename_i d hd;cases e1;obtain ⟨a,h1,g,o⟩:=r.ow i d _ _ hd;refine ⟨.ref a,h1, ?_⟩;obtain ⟨ob,hv,hr⟩:=o.put;have li:i<ρ.length:=(Zc.mp hd).1
  have oth:∀ (j:Nat) (sl:Sl),(ρ.set i (.sh d))[j]?=some sl→(j=i∧sl=.sh d)∨(j≠i∧ρ[j]?=some sl):=fun j sl hj=>by
   by_cases hij:j=i
   ·subst hij;rw [zk li] at hj;exact .inl ⟨rfl,(Option.some.inj hj).symm⟩
   ·rw [Zf (fun z=>hij z.symm)] at hj;exact .inr ⟨hij,hj⟩
  have own':∀ b,aR (ρ.set i (.sh d)) σ b→aR ρ σ b:=fun b ⟨j,d',p,l,h3,h4⟩=>by
   rcases oth j _ h3 with ⟨_,z⟩ | ⟨_,z⟩
   ·cases z
   ·exact ⟨j,d',p,l,z,h4⟩
  refine k (.ref a) H (aV G a ob) ⟨⟨?_,fun b u z=>?_,fun j d' hj=>?_,fun j d' p l hj=>?_,fun j k' d1 p1 l1 d2 p2 l2 b h3 h4 h5 h6=>?_⟩,⟨aM.put g,fun _ _ z _=>z,fun _ z=>z,fun b h3 h4 h5=>?_⟩,i4.set (by rw [hd]; rfl)⟩ ?_
  ·rw [zg]; exact r.len
  ·by_cases hb:b=a
   ·subst hb; rw [bE] at z; rw [hv]; exact z
   ·rw [aO hb] at z; exact r.sub b u z
  ·rcases oth j _ hj with ⟨rfl,z⟩ | ⟨_,z⟩
   ·cases z;exact ⟨_,h1,hr _ (aM.put g) bE⟩
   ·obtain ⟨x,h3,h4⟩:=r.sh j d' z;exact ⟨x,h3,aE.mono (aM.put g) d' h4⟩
  ·rcases oth j _ hj with ⟨_,z⟩ | ⟨ne,z⟩
   ·cases z
   ·obtain ⟨b,h3,h4,h5⟩:=r.ow j d' p l z;have hb:b≠a:=fun e=>by subst e; exact ne (r.inj _ _ _ _ _ _ _ _ _ z hd h3 h1)
    exact ⟨b,h3,by rw [aO hb]; exact h4,h5.mono (aM.put g) fun _ z=>z⟩
  ·rcases oth j _ h3 with ⟨_,z⟩ | ⟨_,z⟩
   ·cases z
   ·rcases oth k' _ h4 with ⟨_,z'⟩ | ⟨_,z'⟩
    ·cases z'
    ·exact r.inj _ _ _ _ _ _ _ _ _ z z' h5 h6
  ·by_cases hb:b=a
   ·subst hb; exact absurd ⟨i,_,_,_,hd,h1⟩ h5
   ·rw [aO hb]; exact h4
  ·exact hr _ (aM.put g) bE
 ·cases e1
theorem S2 {X:Cx} {e:Expr} {i:Nat} (h:PE X e (vG i)):PE X e (tH K P C (.var i)):=by
 refine TE.imp_pe h fun σ H Q q=>?_
 obtain ⟨ρ,G,hd',ρ',r,e1,k⟩:=q;simp only [hd] at e1;split at e1
 ·rename_i hb;cases e1;obtain ⟨x,hx⟩:=r.bound hb;exact ⟨x,hx,k x H G (Aft.refl r) hx⟩
 ·cases e1
theorem vJ {G:Hp} {d:D} {x:V} {b:Bool} (s:aM G H) (h:bV K H G d x) (e:hV d=some b):GC K x H b:=by
 cases d <;> simp only [hV,Option.some.injEq,reduceCtorEq] at e
 ·have:=h.non; subst this; exact e.symm
 ·have:=h.bl; subst this; exact e.symm
 ·have:=h.int; subst this; exact e.symm
 ·split at e
  ·rename_i hz;obtain ⟨rfl,_⟩:=h.str;exact ⟨Zr hz (by decide),(Option.some.inj e).symm⟩
  ·cases e
 ·obtain ⟨a,vs,rfl,h1,h2⟩:=h.tup s;refine .inr (.inl ⟨vs,h1, ?_⟩);rw [← e]
  have:=h2.len
  cases vs <;> cases ‹List D› <;> simp_all
 ·obtain ⟨a,vs,rfl,h1,h2⟩:=h.lst s;refine .inl ⟨vs,h1, ?_⟩;rw [← e]
  have:=h2.len
  cases vs <;> cases ‹List D› <;> simp_all
theorem aB3 {X:Cx} {e:Expr} {c:E} (hK:X.K=K) (h:PE X e (tE K P C c)) (hw:∀ ρ,ev P C true c ρ=bK true (ev P C false c ρ))
  (he:∀ whole,isTrue e X.env whole=(do let v ← whole; standAt e.pos; holding [v] (truthy v))):PT X e (tT K P C c):=by
 refine TT.imp_pt (BK h he) fun σ H Q q=>?_
 obtain ⟨ρ,G,b,ρ',r,e1,k⟩:=q;rw [hw] at e1;obtain ⟨u,b',e2,e3,e4⟩:=F7 e1;cases e4;refine ⟨ρ,G,u,ρ',r,e2,fun x H' G' a hv=>⟨b, ?_,k H' G' a⟩⟩;rw [hK];exact vJ a.rel.sub hv.readR e3
end
mutual
theorem FU:∀ (n:Nat) (d e:D),bG n d=true→bG n e=true→PyData.eqv (eH d) (eH e)=dR d e
 | n,.non,e,_,h=>by cases e <;> first | (cases n <;> simp [bG] at h; done) | simp [eH,PyData.eqv,dR]
 | n,.bl b,e,_,h=>by cases e <;> first | (cases n <;> simp [bG] at h; done) | simp [eH,PyData.eqv,dR]
 | n,.int b,e,_,h=>by cases e <;> first | (cases n <;> simp [bG] at h; done) | simp [eH,PyData.eqv,dR]
 | n,.str b,e,_,h=>by cases e <;> first | (cases n <;> simp [bG] at h; done) | simp [eH,PyData.eqv,dR]
 | n+1,.tup ds,e,h,h'=>by
  cases e with
  | tup es =>
   simp only [eH,PyData.eqv,dR];exact vF n ds es (by simpa [bG] using h) (by simpa [bG] using h')
  | ins=>simp [bG] at h'
  | dct=>simp [bG] at h'
  | dcs=>simp [bG] at h'
  | exn=>simp [bG] at h'
  | _=>simp [eH,PyData.eqv,dR]
 | n+1,.lst ds,e,h,h'=>by
  cases e with
  | lst es =>
   simp only [eH,PyData.eqv,dR];exact vF n ds es (by simpa [bG] using h) (by simpa [bG] using h')
  | ins=>simp [bG] at h'
  | dct=>simp [bG] at h'
  | dcs=>simp [bG] at h'
  | exn=>simp [bG] at h'
  | _=>simp [eH,PyData.eqv,dR]
 | 0,.tup ds,e,h,_=>by simp [bG] at h
 | 0,.lst ds,e,h,_=>by simp [bG] at h
 | n,.ins _ _ _,_,h,_=>by cases n <;> simp [bG] at h
 | n,.dct _,_,h,_=>by cases n <;> simp [bG] at h
 | n,.dcs _,_,h,_=>by cases n <;> simp [bG] at h
 | n,.exn _,_,h,_=>by cases n <;> simp [bG] at h
theorem vF:∀ (n:Nat) (ds es:List D),(∀ d∈ds,bG n d=true)→(∀ d∈es,bG n d=true)→PyData.eqvAll (iM ds) (iM es)=mD ds es
 | n,[],[],_,_=>by simp [iM,PyData.eqvAll,mD]
 | n,[],_ :: _,_,_=>by simp [iM,PyData.eqvAll,mD]
 | n,_ :: _,[],_,_=>by simp [iM,PyData.eqvAll,mD]
 | n,d :: ds,e :: es,h,h'=>by
  simp only [iM,PyData.eqvAll,mD];rw [FU n d e (h d (by simp)) (h' e (by simp)),vF n ds es (fun x hx=>h x (by simp [hx])) (fun x hx=>h' x (by simp [hx]))]
end
section
variable {X:Cx} {K:Frag} {pins:List (Addr × Obj)} {σ:St} {H G:Hp} {s:Shared}
mutual
theorem AB (I:Inv X pins σ H s) (hK:X.K=K) (sub:aM G H):∀ (n:Nat) (d:D) (x:V) (u:Value),bG n d=true→aE K G d x→bC x u→∃ as,Reads s.heap u (eH d) as∧PyData.canLay0 (eH d)=true∧PyData.depth (eH d)≤n
 | n,.non,x,u,_,h,r=>by
  simp only [aE] at h; subst h; cases r;exact ⟨_,Reads.none,by simp [eH,PyData.canLay0],by simp [eH,PyData.depth]⟩
 | n,.bl b,x,u,_,h,r=>by
  simp only [aE] at h; subst h; cases r;exact ⟨_,Reads.bool b,by simp [eH,PyData.canLay0],by simp [eH,PyData.depth]⟩
 | n,.int b,x,u,_,h,r=>by
  simp only [aE] at h; subst h; obtain ⟨t,rfl⟩:=r;exact ⟨_,Reads.int b t,by simp [eH,PyData.canLay0],by simp [eH,PyData.depth]⟩
 | n,.str b,x,u,_,h,r=>by
  simp only [aE] at h; obtain ⟨rfl,hs⟩:=h; obtain ⟨t,rfl⟩:=r;exact ⟨_,Reads.str b t,by simpa [eH,PyData.canLay0] using hs,by simp [eH,PyData.depth]⟩
 | n+1,.tup ds,x,u,ok,h,r=>by
  simp only [aE] at h;obtain ⟨a,vs,rfl,h1,h2⟩:=h;cases r;obtain ⟨its,rv,⟨o,ho,hc,m,hd⟩,hz⟩:=I.tuple (show cW X.K H a vs from hK ▸ dG sub h1);obtain ⟨as,r1,r2,r3⟩:=lS I hK sub n ds vs its (by simpa [bG] using ok) h2 rv;exact ⟨_,Reads.tuple ho hc hd (by simpa using r1),by simpa [eH,PyData.canLay0] using r2,by simp [eH,PyData.depth]; omega⟩
 | n+1,.lst ds,x,u,ok,h,r=>by
  simp only [aE] at h;obtain ⟨a,vs,rfl,h1,h2⟩:=h;cases r;obtain ⟨its,rv,⟨o,m,ho,hc,hn,hd⟩,hz⟩:=I.list (show b9 X.K H a vs from hK ▸ sub.seq h1);obtain ⟨as,r1,r2,r3⟩:=lS I hK sub n ds vs its (by simpa [bG] using ok) h2 rv;exact ⟨_,Reads.list ho hc hd (by simpa using r1),by simpa [eH,PyData.canLay0] using r2,by simp [eH,PyData.depth]; omega⟩
 | 0,.tup ds,_,_,h,_,_=>by simp [bG] at h
 | 0,.lst ds,_,_,h,_,_=>by simp [bG] at h
 | n,.ins _ _ _,_,_,h,_,_=>by cases n <;> simp [bG] at h
 | n,.dct _,_,_,h,_,_=>by cases n <;> simp [bG] at h
 | n,.dcs _,_,_,h,_,_=>by cases n <;> simp [bG] at h
 | n,.exn _,_,_,h,_,_=>by cases n <;> simp [bG] at h
theorem lS (I:Inv X pins σ H s) (hK:X.K=K) (sub:aM G H):∀ (n:Nat) (ds:List D) (xs:List V) (us:List Value),(∀ d∈ds,bG n d=true)→aB K G ds xs→aT xs us→∃ as,ReadsAll s.heap us (iM ds) as∧PyData.canLayAll0 (iM ds)=true∧PyData.depthAll (iM ds)≤n
 | n,[],xs,us,_,h,r=>by
  simp only [aB] at h; subst h; cases r;exact ⟨_,ReadsAll.nil,by simp [iM,PyData.canLayAll0],by simp [iM,PyData.depthAll]⟩
 | n,d :: ds,xs,us,ok,h,r=>by
  simp only [aB] at h;obtain ⟨v,r',rfl,h1,h2⟩:=h
  cases r with
  | cons ra rb =>
   obtain ⟨as,a1,a2,a3⟩:=AB I hK sub n d v _ (ok d (by simp)) h1 ra;obtain ⟨bs,b1,b2,b3⟩:=lS I hK sub n ds r' _ (fun x hx=>ok x (by simp [hx])) h2 rb;exact ⟨_,ReadsAll.cons a1 b1,by simp [iM,PyData.canLayAll0,a2,b2],by simp [iM,PyData.depthAll]; omega⟩
end
theorem vV (I:Inv X pins σ H s) (hK:X.K=K) (sub:aM G H) (n:Nat) (d:D) (x:V) (u:Value) (ok:bG n d=true) (h:bV K H G d x) (r:bC x u):∃ as,Reads s.heap u (eH d) as∧PyData.canLay0 (eH d)=true∧PyData.depth (eH d)≤n:=by
 rcases h with h | ⟨a,rfl,h⟩
 ·exact AB I hK sub n d x u ok h r
 ·cases r
  cases d <;> first | exact h.elim | skip
  case dct=>cases n <;> simp [bG] at ok
  case dcs=>cases n <;> simp [bG] at ok
  rename_i ds;obtain ⟨vs,h1,h2⟩:=h
  cases n with
  | zero=>simp [bG] at ok
  | succ n =>
   obtain ⟨its,rv,⟨o,m,ho,hc,hn,hd⟩,hz⟩:=I.list (b9.of h1);obtain ⟨as,r1,r2,r3⟩:=lS I hK sub n ds vs its (by simpa [bG] using ok) h2 rv;exact ⟨_,Reads.list ho hc hd (by simpa using r1),by simpa [eH,PyData.canLay0] using r2,by simp [eH,PyData.depth]; omega⟩
def xU (K:Frag) (H G:Hp) (v:RV) (x:V) (H':Hp):Prop :=
 (∃ d,v=.sh d∧aE K G d x∧H'=H) ∨
 (∃ ds vs p,v=.ow (.lst ds)∧H p=none∧aB K G ds vs∧x=.ref p∧H'=aV H p (.lst vs)) ∨
 (∃ ds vs p,v=.sh (.tup ds)∧H p=none∧aB K G ds vs∧x=.ref p∧H'=aV H p (.tup vs))
theorem Aft.made {ρ ρ':Env} {H0 G0 H2:Hp} (a:Aft K ρ σ H0 G0 ρ' H G) {v:RV} {x:V} (m:xU K H G v x H2) :
  ∃ G2,Aft K ρ σ H0 G0 ρ' H2 G2∧dQ K H2 G2 (aR ρ' σ) (eZ H0) v x:=by
 rcases m with ⟨d,rfl,h,rfl⟩ | ⟨ds,vs,p,rfl,h,r,rfl,rfl⟩ | ⟨ds,vs,p,rfl,h,r,rfl,rfl⟩
 ·exact ⟨G,a,h⟩
 ·exact ⟨_,a.own_new h r⟩
 ·exact ⟨_,a.tup_new h r⟩
noncomputable def aD5 (K:Frag) (op:Operator):R2:=fun x y H Q=>∃ G d e v,aM G H∧bV K H G d x∧bV K H G e y∧(op=.Mult→∀ ds,d=.lst ds→∃ a vs,x=.ref a∧H a=some (.lst vs)∧aB K G ds vs)∧dA op d e=some v∧∀ z H',xU K H G v z H'→Q z H'
theorem cK {i:Int}:xU K H G (.sh (.int i)) (.int i) H:=.inl ⟨_,rfl,by simp [aE],rfl⟩
theorem RY {i:Bool}:xU K H G (.sh (.bl i)) (.bl i) H:=.inl ⟨_,rfl,by simp [aE],rfl⟩
theorem fP {n:Nat} (h:aK n=true):n≤sizeLine:=Zr (@of_decide_eq_true _ (cl _) h) (by decide)
theorem oC (I:Inv X pins σ H s) {a:Addr} {vs:List V} (h:b9 X.K H a vs):∃ (its:List Value),aT vs its∧s.heap.IsList a its.toArray∧vs.length≤sizeLine:=by
 obtain ⟨its,r,p,z⟩:=I.list h;exact ⟨its,r,p.isList,z⟩
theorem dU.imp {f:Value→Value→Sem Value} {r r':R2} (h:dU X f r) (w:∀ x y H Q,r' x y H Q→r x y H Q):dU X f r':=fun pins s σ H x y v u Q I rx ry q=>h pins s σ H x y v u Q I rx ry (w x y H Q q)
noncomputable def aCg (K:Frag):R2:=fun x y H Q=>∃ l b xs zs,x=.ref l∧y=.ref b∧b9 K H l xs∧b9 K H b zs∧xs.length+zs.length≤sizeLine∧∀ p,H p=none→Q (.ref p) (aV H p (.lst (xs ++ zs)))
theorem TB:dU X (binaryOp .Add) (aCg X.K):=by
 intro pins s σ H x y v u Q I rx ry h;obtain ⟨l,b,xs,zs,rfl,rfl,hH,hB,hz,q⟩:=h;cases rx;cases ry;obtain ⟨its,r,hl,z⟩:=oC I hH;obtain ⟨its2,r2,hl2,z2⟩:=oC I hB;have e1:=r.length;have e2:=r2.length;obtain ⟨⟨cls,dd,data,sl⟩,ho,hc,n,hd⟩:=id hl;obtain ⟨⟨cls2,dd2,data2,sl2⟩,ho2,hc2,n2,hd2⟩:=id hl2;simp only at hc hd hc2 hd2;subst hc hd hc2 hd2;refine concat_meets ⟨_,ho,rfl⟩ ⟨_,ho2,rfl⟩ noFill_list_add seq_list_add PySem.F.slot_list_add PySem.F.entry_list_add (PySem.F.args_list_add_2 _ _) (list_addW l b its.toArray its2.toArray n n2 dd dd2 sl sl2 (by simp; omega)) ⟨ho,ho2, ?_⟩;have ea:its.toArray ++ its2.toArray=(its ++ its2).toArray:=by simp
 rw [ea];exact ⟨.ref _,_,I.lnew (t':=s.toks) (r.append r2) (by rw [Za]; omega),rfl,q _ I.fresh⟩
theorem NZ:dU X (binaryOp .FloorDiv) (rI (fun _ j=>0<j∧j<100000000000000000000000000000000000000000000000000000000000000000000000000000000) fun i j=>.int (i / j)):=JO fun i j _ _ _ _ _ hc q=>by
 have h1:(0:Int)<j:=hc.1;have h2:j<100000000000000000000000000000000000000000000000000000000000000000000000000000000:=hc.2;have h3:j.natAbs<2 ^ 300:=Zl (by omega:j.natAbs<100000000000000000000000000000000000000000000000000000000000000000000000000000000) (by decide);have h4:j.natAbs.log2<300:=(Nat.log2_lt (by omega)).mpr h3;exact PyProof.Rows.floordiv_int (by omega) (by rw [Int.fdiv_eq_ediv_of_nonneg i (by omega)]; exact q) (.inl (PyProof.noPylong_of_log2 (by omega)))
theorem aJ {α:Type _} {v:α} (e:none=some v):False:=nomatch e
theorem WU {X:Cx}:dU X (binaryOp .Add) (fun x y H Q=>∃ a b ys,x=.ref a∧y=.ref b∧cW X.K H a []∧cW X.K H b ys∧Q (.ref b) H):=by
 intro pins s σ H x y v u Q I rx ry h;obtain ⟨a,b,ys,rfl,rfl,ha,hb,q⟩:=h;cases rx;cases ry;obtain ⟨its,r1,p1,_⟩:=I.tuple ha;obtain ⟨its2,r2,p2,_⟩:=I.tuple hb;have e0:its=[]:=r1.nil_iff.mpr rfl;subst e0;obtain ⟨⟨cls,dd,data,sl⟩,ho,hc,n,hd⟩:=id p1;obtain ⟨⟨cls2,dd2,data2,sl2⟩,ho2,hc2,n2,hd2⟩:=id p2;simp only at hc hd hc2 hd2;subst hc hd hc2 hd2
 exact concat_meets ⟨_,ho,rfl⟩ ⟨_,ho2,rfl⟩ noFill_tuple_add seq_tuple_add PySem.F.slot_tuple_add PySem.F.entry_tuple_add (PySem.F.args_tuple_add_2 _ _)
  (tuple_addW0 a b [].toArray its2.toArray n n2 dd dd2 sl sl2 rfl) ⟨ho,ho2,⟨.ref b,H,I,rfl,q⟩⟩
theorem YL (hK:X.K=K) (op:Operator):dU X (binaryOp op) (aD5 K op):=by
 intro pins s σ H x y v u Q I rx ry h;obtain ⟨G,d,e,w,sub,hx,hy,hm,eb,k⟩:=h;subst hK
 cases op with
 | Add =>
  cases d with
  | int =>
   cases e with
   | int =>
    cases hx.int; cases hy.int;change some _=_ at eb;cases eb;exact aAY pins s σ H _ _ _ _ Q I rx ry ⟨_,_,rfl,rfl,k _ _ cK⟩
   | _=>exact (aJ eb).elim
  | lst xs =>
   cases e with
   | lst ys =>
    change (if aK (xs.length+ys.length) then some _ else none)=_ at eb;split at eb
    ·rename_i hz;cases eb;obtain ⟨a,vs,rfl,h1,h2⟩:=hx.lst sub;obtain ⟨b,ws,rfl,h3,h4⟩:=hy.lst sub;refine TB pins s σ H _ _ _ _ Q I rx ry ⟨a,b,vs,ws,rfl,rfl,h1,h3, ?_,fun p hp=>k _ _ (.inr (.inl ⟨_,_,p,rfl,hp,h2.app h4,rfl,rfl⟩))⟩;rw [h2.len,h4.len]; exact fP hz
    ·cases eb
   | _=>exact (aJ eb).elim
  | tup xs =>
   cases xs with
   | nil =>
    cases e with
    | tup ys0 =>
     change some _=_ at eb;cases eb;have hy':=hy;obtain ⟨a,vs,rfl,h1,h2⟩:=hx.tup sub;obtain ⟨b,ws,rfl,h3,h4⟩:=hy.tup sub;have e1:vs=[]:=List.length_eq_zero_iff.mp h2.len;subst e1;refine WU pins s σ H _ _ _ _ Q I rx ry ⟨a,b,ws,rfl,rfl,h1,h3, ?_⟩;rcases hy' with hy' | ⟨_,_,hy'⟩
     ·exact k _ _ (.inl ⟨_,rfl,hy',rfl⟩)
     ·exact hy'.elim
    | _=>exact (aJ eb).elim
   | cons x0 xs0 =>
    cases e with
    | tup ys0 =>
     change (if aK (xs0.length+1+ys0.length) then some _ else none)=_ at eb;split at eb
     ·rename_i hz;cases eb;have hx':=hx;obtain ⟨a,vs,rfl,h1,h2⟩:=hx.tup sub;obtain ⟨b,ws,rfl,h3,h4⟩:=hy.tup sub;have e1:=h2.len;have e2:=h4.len;refine US pins s σ H _ _ _ _ Q I rx ry ⟨a,b,vs,ws,rfl,rfl,h1,h3, ?_, ?_,fun hw=>?_,fun hw p hp=>?_⟩
      ·intro z; subst z; simp at e1
      ·rw [e1,e2]; exact fP hz
      ·subst hw;have e3:ys0=[]:=List.length_eq_zero_iff.mp e2.symm;subst e3;rcases hx' with hx' | ⟨_,_,hx'⟩
       ·exact k _ _ (.inl ⟨_,rfl,by simpa using hx',rfl⟩)
       ·exact hx'.elim
      ·exact k _ _ (.inr (.inr ⟨_,_,p,rfl,hp,h2.app h4,rfl,rfl⟩))
     ·cases eb
    | _=>exact (aJ eb).elim
  | _=>exact (aJ eb).elim
 | Sub =>
  cases d with
  | int =>
   cases e with
   | int =>
    cases hx.int; cases hy.int;change some _=_ at eb;cases eb;exact Z8 pins s σ H _ _ _ _ Q I rx ry ⟨_,_,rfl,rfl,k _ _ cK⟩
   | _=>exact (aJ eb).elim
  | _=>exact (aJ eb).elim
 | Mult =>
  cases d with
  | int =>
   cases e with
   | int =>
    cases hx.int; cases hy.int;change @ite _ _ (cl _) _ none=_ at eb;split at eb
    ·cases eb;exact aAf pins s σ H _ _ _ _ Q I rx ry ⟨_,_,rfl,rfl,‹_›,k _ _ cK⟩
    ·cases eb
   | _=>exact (aJ eb).elim
  | lst xs =>
   cases e with
   | int kk =>
    change @ite _ (-(2 ^ 31)≤kk∧kk≤1000∧aK (xs.length*kk.toNat)) (cl _) _ none=_ at eb;split at eb
    ·rename_i hc;cases eb;cases hy.int;obtain ⟨a,vs,rfl,h1,h2⟩:=hm rfl _ rfl;refine Y9 pins s σ H _ _ _ _ Q I rx ry ⟨a,_,vs,rfl,rfl,h1,by omega,by omega, ?_,fun p hp=>k _ _ (.inr (.inl ⟨_,_,p,rfl,hp,h2.rep _,rfl,rfl⟩))⟩;rw [h2.len]; exact fP hc.2.2
    ·cases eb
   | _=>exact (aJ eb).elim
  | _=>exact (aJ eb).elim
 | FloorDiv =>
  cases d with
  | int =>
   cases e with
   | int =>
    cases hx.int; cases hy.int;change @ite _ _ (cl _) _ none=_ at eb;split at eb
    ·cases eb;exact NZ pins s σ H _ _ _ _ Q I rx ry ⟨_,_,rfl,rfl,‹_›,k _ _ cK⟩
    ·cases eb
   | _=>exact (aJ eb).elim
  | _=>exact (aJ eb).elim
 | Mod =>
  cases d with
  | int =>
   cases e with
   | int =>
    cases hx.int; cases hy.int;change @ite _ _ (cl _) _ none=_ at eb;split at eb
    ·cases eb;exact aBb pins s σ H _ _ _ _ Q I rx ry ⟨_,_,rfl,rfl,‹_›,k _ _ cK⟩
    ·cases eb
   | _=>exact (aJ eb).elim
  | _=>exact (aJ eb).elim
 | Pow=>exact (aJ eb).elim
 | LShift =>
  cases d with
  | int =>
   cases e with
   | int =>
    cases hx.int; cases hy.int;change @ite _ _ (cl _) _ none=_ at eb;split at eb
    ·rename_i hc;cases eb;exact Z5 pins s σ H _ _ _ _ Q I rx ry ⟨_,_,rfl,rfl,⟨hc.1,by omega,hc.2.2⟩,k _ _ cK⟩
    ·cases eb
   | _=>exact (aJ eb).elim
  | _=>exact (aJ eb).elim
 | RShift =>
  cases d with
  | int =>
   cases e with
   | int =>
    cases hx.int; cases hy.int;change @ite _ _ (cl _) _ none=_ at eb;split at eb
    ·cases eb;exact ZQ pins s σ H _ _ _ _ Q I rx ry ⟨_,_,rfl,rfl,‹_›,k _ _ cK⟩
    ·cases eb
   | _=>exact (aJ eb).elim
  | _=>exact (aJ eb).elim
 | BitAnd =>
  cases d with
  | int =>
   cases e with
   | int =>
    cases hx.int; cases hy.int;change some _=_ at eb;cases eb;exact XF pins s σ H _ _ _ _ Q I rx ry ⟨_,_,rfl,rfl,k _ _ cK⟩
   | _=>exact (aJ eb).elim
  | _=>exact (aJ eb).elim
 | _=>exact (aJ eb).elim
noncomputable def CP (K:Frag) (op:CmpOp):R2:=fun x y H Q=>∃ G d e b,aM G H∧bV K H G d x∧bV K H G e y∧bX op d e=some b∧Q (.bl b) H
theorem tI {d:D} {x:V} (h:aE K G d x) (f:eL d=true):kU x=true∧∀ (e:D) (y:V),aE K G e y→eL e=true→n8 y x=dR e d:=by
 cases d <;> simp only [eL,Bool.false_eq_true] at f <;> simp only [aE] at h
 ·subst h;refine ⟨rfl,fun e y hy fe=>?_⟩;cases e <;> simp only [eL,Bool.false_eq_true] at fe <;> simp only [aE] at hy <;> (first | subst hy | (obtain ⟨rfl,_⟩:=hy)) <;> simp [n8,dR]
 ·subst h;refine ⟨rfl,fun e y hy fe=>?_⟩;cases e <;> simp only [eL,Bool.false_eq_true] at fe <;> simp only [aE] at hy <;> (first | subst hy | (obtain ⟨rfl,_⟩:=hy)) <;> simp [n8,dR]
 ·subst h;refine ⟨rfl,fun e y hy fe=>?_⟩;cases e <;> simp only [eL,Bool.false_eq_true] at fe <;> simp only [aE] at hy <;> (first | subst hy | (obtain ⟨rfl,_⟩:=hy)) <;> simp [n8,dR]
 ·obtain ⟨rfl,_⟩:=h;refine ⟨rfl,fun e y hy fe=>?_⟩;cases e <;> simp only [eL,Bool.false_eq_true] at fe <;> simp only [aE] at hy <;> (first | subst hy | (obtain ⟨rfl,_⟩:=hy)) <;> simp [n8,dR]
theorem bV.flat {d:D} {x:V} (h:bV K H G d x) (f:eL d=true):aE K G d x:=by
 rcases h with h | ⟨a,rfl,h⟩
 ·exact h
 ·cases d <;> first | exact h.elim | cases f
theorem DF {d:D} {x:V} (h:aE K G d x) (f:eL d=true):∀ {ds:List D} {vs:List V},aB K G ds vs→ds.all eL=true→vs.all kU=true∧QS x vs=E8 d ds
 | [],vs,h2,_=>by simp only [aB] at h2; subst h2; exact ⟨rfl,rfl⟩
 | e :: ds,vs,h2,fs=>by
  simp only [aB] at h2;obtain ⟨y,r,rfl,h3,h4⟩:=h2;rw [Zj,ZB] at fs;obtain ⟨a1,a2⟩:=DF h f h4 fs.2;obtain ⟨b1,_⟩:=tI h3 fs.1;have b2:=(tI h f).2 e y h3 fs.1;refine ⟨by rw [Zj,b1,a1]; rfl, ?_⟩
  unfold QS E8 at *
  rw [List.any_cons,List.any_cons,a2,b2]
theorem LD (I:Inv X pins σ H s) (hK:X.K=K) (sub:aM G H) {A:Around} (hu:A.units+20<cLine) {d e:D} {x y:V} {v u:Value} (od:bG 20 d=true) (oe:bG 20 e=true) (hx:bV K H G d x) (hy:bV K H G e y) (rx:bC x v) (ry:bC y u) :
  SeqAt.RcAt A s v u (dR d e)∧SeqAt.RcNeAt A s v u (!dR d e):=by
 obtain ⟨as,a1,a2,a3⟩:=vV I hK sub 20 d x v od hx rx;obtain ⟨bs,b1,b2,b3⟩:=vV I hK sub 20 e y u oe hy ry;rw [← FU 20 d e od oe];exact ⟨SeqAt.rcAt_reads a1 b1 a2 b2 (by omega),SeqAt.rcNeAt_reads a1 b1 a2 b2 (by omega)⟩
theorem DG:∀ {ds:List D} {ns:List Int},dI ds=some ns→ds=ns.map D.int
 | [],ns,h=>by cases h; rfl
 | .int i :: r,ns,h=>by
  replace h:(dI r).map (i :: ·)=some ns:=h
  cases q:dI r with
  | none=>rw [q] at h; cases h
  | some ms =>
   rw [q] at h;cases h;rw [Zs,← DG q]
 | .non :: _,_,h | .bl _ :: _,_,h | .str _ :: _,_,h | .tup _ :: _,_,h | .lst _ :: _,_,h | .ins _ _ _ :: _,_,h | .dct _ :: _,_,h | .exn _ :: _,_,h | .dcs _ :: _,_,h=>nomatch h
theorem aB.ints:∀ {ns:List Int} {vs:List V},aB K G (ns.map D.int) vs→vs=ns.map V.int
 | [],vs,h=>by simp only [List.map_nil,aB] at h; exact h
 | n :: ns,vs,h=>by
  simp only [Zs,aB] at h;obtain ⟨v,r,rfl,h1,h2⟩:=h;simp only [aE] at h1;rw [h1,aB.ints h2];rfl
theorem WW {d:D} {k:Int × List Int} (h:iW d=some k):d=.tup [.int k.1,.tup (k.2.map D.int)]:=by
 unfold iW at h;split at h
 ·rename_i t ds
  cases q:dI ds with
  | none=>rw [q] at h; cases h
  | some ns =>
   rw [q] at h;cases h;rw [DG q]
 ·cases h
theorem tM {d:D} {x:V} {k:Int × List Int} (hk:iW d=some k) (h:bV K H G d x):∃ b,x=.ref b∧cQ K G k b:=by
 rw [WW hk] at h;rcases h with h | ⟨_,_,h⟩
 ·simp only [aE,aB] at h;obtain ⟨a,vs,rfl,h1,v1,r1,rfl,rfl,v2,r2,rfl,⟨c,ws,rfl,h2,h3⟩,rfl⟩:=h;rw [aB.ints h3] at h2;exact ⟨a,rfl,c,h1,h2⟩
 ·exact h.elim
abbrev B2 (kvs:List ((Int × List Int) × Int)) (xs:rN):Prop:=Paired (fun (p:(Int × List Int) × Int) (q:fE × Addr × Value)=>p.1=q.1∧∃ t,q.2.2=.int p.2 t) kvs xs
theorem bV.dcs {kvs:List ((Int × List Int) × Int)} {x:V} (h:bV K H G (.dcs kvs) x) (sub:aM G H):∃ a xs,x=.ref a∧DS K H a xs∧B2 kvs xs:=by
 rcases h with h | ⟨a,rfl,xs,h1,h2⟩
 ·simp only [aE] at h;obtain ⟨a,xs,rfl,h1,h2⟩:=h;exact ⟨a,xs,rfl,⟨sub _ _ h1,h2.1,h2.2.1,h2.2.2.1,fun x hx=>cQ.mono sub (h2.2.2.2.1 x hx)⟩,h2.2.2.2.2⟩
 ·exact ⟨a,xs,rfl,⟨h1,h2.1,h2.2.1,h2.2.2.1,fun x hx=>cQ.mono sub (h2.2.2.2.1 x hx)⟩,h2.2.2.2.2⟩
theorem FG {kvs:List ((Int × List Int) × Int)} {xs:rN} (r:B2 kvs xs) (k:Int × List Int):(atKey xs k=none∧gW kvs k=none)∨∃ p n t,atKey xs k=some p∧gW kvs k=some n∧p.2=.int n t:=by
 unfold atKey gW
 induction r with
 | nil=>exact .inl ⟨rfl,rfl⟩
 | @cons p q ps qs h t ih =>
  obtain ⟨h1,tk,h2⟩:=h;rw [List.find?_cons,List.find?_cons,h1];by_cases e:q.1=k
  ·rw [Zn e];exact .inr ⟨_,_,tk,rfl,rfl,h2⟩
  ·rw [Zm e];exact ih
theorem zA {kvs:List ((Int × List Int) × Int)} {xs:rN} (r:B2 kvs xs) (k:Int × List Int):(atKey xs k).isSome=(gW kvs k).isSome:=by
 rcases FG r k with ⟨h1,h2⟩ | ⟨p,n,t,h1,h2,_⟩ <;> rw [h1,h2] <;> rfl
theorem UJ {k:Int × List Int} {m:Int} {t:Tok} {kvs:List ((Int × List Int) × Int)} {xs:rN} (r:B2 kvs xs):B2 (kvs.map fun p=>if p.1=k then (p.1,m) else p) (xs.map (putAt k (.int m t))):=by
 induction r with
 | nil=>exact .nil
 | @cons p q ps qs h tl ih =>
  obtain ⟨h1,tk,h2⟩:=h;rw [Zs,Zs];refine .cons ?_ ih;unfold putAt;rw [h1];by_cases e:q.1=k
  ·rw [Zo e,Zo e]; exact ⟨rfl,t,rfl⟩
  ·rw [Zp e,Zp e]; exact ⟨h1,tk,h2⟩
theorem aAL {kvs:List ((Int × List Int) × Int)} {xs:rN} (r:B2 kvs xs) {k:Int × List Int} {b:Addr} {m:Int} {t:Tok}:B2 (nP kvs k m) (storedH xs k b (.int m t)):=by
 unfold nP storedH;rw [zA r k];split
 ·exact UJ r
 ·exact Paired.snoc r ⟨rfl,t,rfl⟩
theorem bV.dct {kvs:List (Int × Int)} {x:V} (h:bV K H G (.dct kvs) x) (sub:aM G H):∃ a,x=.ref a∧H a=some (.dK (W4 kvs)):=by
 rcases h with h | ⟨a,rfl,h⟩
 ·simp only [aE] at h;obtain ⟨a,rfl,h⟩:=h;exact ⟨a,rfl,sub _ _ h⟩
 ·exact ⟨a,rfl,h⟩
theorem oG (hK:X.K=K) (hu:X.A.units+64<cLine) (op:CmpOp):dU X (compareOp op) (CP K op):=by
 intro pins s σ H x y v u Q I rx ry h;obtain ⟨G,d,e,b,sub,hx,hy,eb,k⟩:=h
 cases op with
 | Eq =>
  change (if bG 20 d && bG 20 e then some _ else none)=_ at eb;split at eb
  ·rename_i hc;cases eb;rw [ZB] at hc;exact (LD I hK sub (by omega) hc.1 hc.2 hx hy rx ry).1 _ _ _ _ ⟨.bl _,H,I,rfl,k⟩
  ·cases eb
 | NotEq =>
  change (if bG 20 d && bG 20 e then some _ else none)=_ at eb;split at eb
  ·rename_i hc;cases eb;rw [ZB] at hc;exact (LD I hK sub (by omega) hc.1 hc.2 hx hy rx ry).2 _ _ _ _ ⟨.bl _,H,I,rfl,k⟩
  ·cases eb
 | Lt =>
  cases d with
  | int =>
   cases e with
   | int =>
    cases hx.int; cases hy.int;change some _=_ at eb;cases eb;exact aBM pins s σ H _ _ _ _ Q I rx ry ⟨_,_,rfl,rfl,k⟩
   | _=>exact (aJ eb).elim
  | _=>exact (aJ eb).elim
 | LtE =>
  cases d with
  | int =>
   cases e with
   | int =>
    cases hx.int; cases hy.int;change some _=_ at eb;cases eb;exact aCQ pins s σ H _ _ _ _ Q I rx ry ⟨_,_,rfl,rfl,k⟩
   | _=>exact (aJ eb).elim
  | _=>exact (aJ eb).elim
 | Gt =>
  cases d with
  | int =>
   cases e with
   | int =>
    cases hx.int; cases hy.int;change some _=_ at eb;cases eb;exact aCO pins s σ H _ _ _ _ Q I rx ry ⟨_,_,rfl,rfl,k⟩
   | _=>exact (aJ eb).elim
  | _=>exact (aJ eb).elim
 | GtE =>
  cases d with
  | int =>
   cases e with
   | int =>
    cases hx.int; cases hy.int;change some _=_ at eb;cases eb;exact aCq pins s σ H _ _ _ _ Q I rx ry ⟨_,_,rfl,rfl,k⟩
   | _=>exact (aJ eb).elim
  | _=>exact (aJ eb).elim
 | Is =>
  cases e with
  | non =>
   cases hy.non;refine XW pins s σ H _ _ _ _ Q I rx ry ⟨rfl, ?_⟩;by_cases hd:d=.non
   ·subst hd;cases hx.non;change some _=_ at eb;cases eb;simpa using k
   ·have:¬ x=.non:=fun z=>by
     subst z;rcases hx with hx | ⟨_,z,_⟩
     ·cases d <;> first | exact hd rfl | simp [aE] at hx
     ·cases z
    cases d with
    | non=>exact absurd rfl hd
    | _ =>
     change some _=_ at eb;cases eb;simpa [this] using k
  | bl =>
   cases d with
   | bl =>
    cases hx.bl; cases hy.bl;change some _=_ at eb;cases eb;cases rx; cases ry;exact is_bool ⟨.bl _,H,I,rfl,k⟩
   | _=>exact (aJ eb).elim
  | _=>cases d <;> exact (aJ eb).elim
 | IsNot =>
  cases e with
  | non =>
   cases hy.non;refine RZ pins s σ H _ _ _ _ Q I rx ry ⟨rfl, ?_⟩;by_cases hd:d=.non
   ·subst hd;cases hx.non;change some _=_ at eb;cases eb;simpa using k
   ·have:¬ x=.non:=fun z=>by
     subst z;rcases hx with hx | ⟨_,z,_⟩
     ·cases d <;> first | exact hd rfl | simp [aE] at hx
     ·cases z
    cases d with
    | non=>exact absurd rfl hd
    | _ =>
     change some _=_ at eb;cases eb;simpa [this] using k
  | _=>cases d <;> exact (aJ eb).elim
 | In =>
  cases e with
  | tup ds =>
   change (if eL d && ds.all eL then some _ else none)=_ at eb;split at eb
   ·rename_i hc;cases eb;rw [ZB] at hc;obtain ⟨a,vs,rfl,h1,h2⟩:=hy.tup sub;obtain ⟨i1,i2⟩:=DF (hx.flat hc.1) hc.1 h2 hc.2;refine AF pins s σ H _ _ _ _ Q I rx ry ⟨a,vs,rfl,.inr (hK ▸ h1),(tI (hx.flat hc.1) hc.1).1,i1, ?_⟩;simpa [i2] using k
   ·cases eb
  | lst ds =>
   change (if eL d && ds.all eL then some _ else none)=_ at eb;split at eb
   ·rename_i hc;cases eb;rw [ZB] at hc;obtain ⟨a,vs,rfl,h1,h2⟩:=hy.lst sub;obtain ⟨i1,i2⟩:=DF (hx.flat hc.1) hc.1 h2 hc.2;refine AF pins s σ H _ _ _ _ Q I rx ry ⟨a,vs,rfl,.inl (hK ▸ h1),(tI (hx.flat hc.1) hc.1).1,i1, ?_⟩;simpa [i2] using k
   ·cases eb
  | dcs kvs =>
   change PL d kvs=_ at eb;unfold PL at eb
   cases hs:iW d with
   | none=>rw [hs] at eb; cases eb
   | some k0 =>
    rw [hs] at eb;cases eb;subst hK;obtain ⟨b0,rfl,kk⟩:=tM hs hx;obtain ⟨a,xs,rfl,ds,pr⟩:=hy.dcs sub;cases rx;cases ry;refine aEs (by omega) I ds (cQ.mono sub kk) fun s3 I3=>⟨.bl _,H,I3,rfl, ?_⟩
    rw [zA pr];exact k
  | _=>exact (aJ eb).elim
 | NotIn=>exact (aJ eb).elim
end
section
variable {X:Cx} {K:Frag} {pins:List (Addr × Obj)} {σ:St} {H G:Hp} {s:Shared}
theorem RQ {ds:List D} {vs:List V} {i:Int} {d:D} (h:aB K G ds vs) (e:cJ ds i=some d):∃ v,cJ vs i=some v∧aE K G d v:=by
 unfold cJ at e ⊢;rw [h.len]
 cases q:lI ds.length i with
 | none=>rw [q] at e; cases e
 | some j =>
  rw [q] at e;exact h.get e
noncomputable def aDN (K:Frag):R2:=fun x y H Q=>∃ G d e r,aM G H∧bV K H G d x∧bV K H G e y∧LQ d e=some r∧∀ z,aE K G r z→Q z H
theorem lM.imp {r r':R2} (h:lM X r) (w:∀ x y H Q,r' x y H Q→r x y H Q):lM X r':=fun va sl pins s σ H x y v u Q I rx ry q hs=>h va sl pins s σ H x y v u Q I rx ry (w x y H Q q) hs
theorem LW {x:Str} (h:PyData.strOk x=true) {i:Int} {c:Nat} (e:cJ x.cps.toList i=some c):PyData.strOk ⟨#[c]⟩=true:=by
 unfold PyData.strOk at *
 have hm:c∈x.cps.toList:=by
  unfold cJ at e
  cases q:lI x.cps.toList.length i with
  | none=>rw [q] at e; cases e
  | some j=>rw [q] at e; exact zj e
 have:=Array.all_eq_true'.mp h c (by simpa using hm)
 simpa using this
theorem aCr:lM X (fun _ _ _ _=>False):=fun _ _ _ _ _ _ _ _ _ _ _ _ _ _ h _=>h.elim
noncomputable def GO (K:Frag):R2:=fun x y H Q=>∃ a b xs k p n t,x=.ref a∧y=.ref b∧DS K H a xs∧cQ K H k b∧atKey xs k=some p∧p.2=.int n t∧Q (.int n) H
theorem DS.typeIs {a:Addr} {xs:rN} (I:Inv X pins σ H s) (d:DS X.K H a xs):s.TypeIs (.ref a) "dict":=by
 obtain ⟨o,es,ep,h1,h2,_⟩:=d.dict I;exact ⟨o,h1,h2.1⟩
theorem OC (hu:X.A.units+9<cLine):lM X (GO X.K):=by
 intro value slice pins s σ H x y v u Q I rx ry h hs;obtain ⟨a,b,xs,k,p,n,t,rfl,rfl,ds,kk,e,en,q⟩:=h;cases rx;cases ry;have hT:=DS.typeIs I ds;unfold subscriptTail;refine Zt ?_;rw [getitemInPython_of_ne hT.not_modules];refine Zt (wpAny_specialOf hT PySem.F.slot_dict_getitem.lookup ?_)
 have fin:wpAny (model X.prog X.w) X.A (subscripted slice false (.ref a) (.ref b)) (fun r s₃=>wpAny (model X.prog X.w) X.A (letTemporaryGo value (.ref a) r >>= fun _=>pure r) (EP X pins σ Q) X.xe s₃) X.xe s:=by
  rw [hs];exact wpAny_operating (K0 hu I ds kk e fun s3 I3=>Zt (wpAny_letTemporaryGo (Zu ⟨.int n,H,I3,⟨t,en⟩,q⟩)))
 first
  | exact Zu (Zt fin)
  | exact Zt (Zu (Zt fin))
  | exact Zt fin
theorem aCx (hK:X.K=K) (hu:X.A.units+9<cLine):lM X (aDN K):=by
 refine lM.imp ((XC.or aCr).or (OC hu)) fun x y H Q h=>?_
 obtain ⟨G,d,e,r,sub,hx,hy,er,k⟩:=h;subst hK;unfold LQ at er;split at er
 ·cases hy.int;obtain ⟨a,vs,rfl,h1,h2⟩:=hx.tup sub;obtain ⟨v,h3,h4⟩:=RQ h2 er;exact .inl (.inl (.inr (.inl ⟨a,vs,_,v,rfl,rfl,h1,h3,k v h4⟩)))
 ·cases hy.int;obtain ⟨a,vs,rfl,h1,h2⟩:=hx.lst sub;obtain ⟨v,h3,h4⟩:=RQ h2 er;exact .inl (.inl (.inl ⟨a,vs,_,v,rfl,rfl,h1,h3,k v h4⟩))
 ·rename_i kvs
  cases hs:iW e with
  | none=>rw [hs] at er; cases er
  | some k0 =>
   rw [hs] at er;simp only [Option.bind_some] at er;obtain ⟨b0,rfl,kk⟩:=tM hs hy;obtain ⟨a,xs,rfl,ds,pr⟩:=hx.dcs sub;rcases FG pr k0 with ⟨_,h2⟩ | ⟨p,n,t,h1,h2,h3⟩
   ·rw [h2] at er; cases er
   ·rw [h2] at er;cases er;exact .inr ⟨a,b0,xs,k0,p,n,t,rfl,rfl,ds,cQ.mono sub kk,h1,h3,k _ (by simp [aE])⟩
 ·split at er
  ·rename_i hz;cases hy.int;obtain ⟨rfl,ok⟩:=hx.str
   cases q:cJ ‹Str›.cps.toList ‹Int› with
   | none=>rw [q] at er; cases er
   | some c =>
    rw [q] at er;cases er;exact .inl (.inl (.inr (.inr ⟨_,_,c,rfl,rfl,Zr hz (by decide),q,k _ (show aE X.K G (.str _) _ by unfold aE; exact ⟨rfl,LW ok q⟩)⟩)))
  ·cases er
 ·cases er
theorem LZ {ds:List D} {vs:List V} {lo hi:Option Int} (h:aB K G ds vs):aB K G (jV ds lo hi) (sF vs lo hi):=by
 unfold jV sF;rw [h.len];exact (h.drop _).take _
def aD1 (K:Frag):V→Option Int→Option Int→Hp→VK→Prop:=fun x lo hi H Q=>∃ G d v,aM G H∧bV K H G d x∧QP d lo hi=some v∧∀ z H',xU K H G v z H'→Q z H'
theorem aCR (hK:X.K=K):wQ X (aD1 K):=by
 intro pins s σ H x v vl vu lo hi sl Q I rx hs pl pu h;refine wQ.or U2 aAB pins s σ H x v vl vu lo hi sl Q I rx hs pl pu ?_;obtain ⟨G,d,r,sub,hx,er,k⟩:=h;subst hK;unfold QP at er;split at er
 ·cases er;obtain ⟨a,vs,rfl,h1,h2⟩:=hx.lst sub;exact .inl ⟨a,vs,rfl,h1,fun p hp=>k _ _ (.inr (.inl ⟨_,_,p,rfl,hp,LZ h2,rfl,rfl⟩))⟩
 ·split at er
  ·cases er
  ·rename_i hw;cases er;obtain ⟨a,vs,rfl,h1,h2⟩:=hx.tup sub;exact .inr ⟨a,vs,rfl,h1,by rw [h2.len]; exact hw,fun p hp=>k _ _ (.inr (.inr ⟨_,_,p,rfl,hp,LZ h2,rfl,rfl⟩))⟩
 ·cases er
def xD (K:Frag) (H G:Hp):List D→List V→Prop
 | [],xs=>xs=[]
 | d :: ds,xs=>∃ x r,xs=x :: r∧bV K H G d x∧xD K H G ds r
theorem fC {d:D} {xs:List V} (h:xD K H G [d] xs):∃ x,xs=[x]∧bV K H G d x:=by
 obtain ⟨x,r,rfl,h1,h2⟩:=h;cases (show r=[] from h2);exact ⟨x,rfl,h1⟩
theorem JJ {d e:D} {xs:List V} (h:xD K H G [d,e] xs):∃ x y,xs=[x,y]∧bV K H G d x∧bV K H G e y:=by
 obtain ⟨x,r,rfl,h1,h2⟩:=h;obtain ⟨y,rfl,h3⟩:=fC h2;exact ⟨x,y,rfl,h1,h3⟩
def rBi (K:Frag) (f:BI):List V→Hp→VK→Prop:=fun xs H Q=>∃ G ds v,aM G H∧xD K H G ds xs∧lH f ds=some v∧∀ z H',xU K H G v z H'→Q z H'
noncomputable def biV:BI→Value
 | .len=>.builtin "len"
 | .abs=>.builtin "abs"
 | .int=>.type "int"
 | .list=>.type "list"
 | .tuple=>.type "tuple"
 | .min=>.builtin "min"
 | .max=>.builtin "max"
 | .all=>.builtin "all"
 | .repr=>.builtin "repr"
theorem CV:∀ {ds:List D} {vs:List V} {us:List Value} {bs:List Bool},aB K G ds vs→aT vs us→hX ds=some bs→LSm.BoolsAre us bs
 | [],_,_,_,h,r,e=>by
  simp only [aB] at h; subst h; cases r; cases e; exact .nil
 | d :: ds,_,_,_,h,r,e=>by
  simp only [aB] at h;obtain ⟨v,r',rfl,h1,h2⟩:=h
  cases r with
  | cons ra rb =>
   cases d <;> simp only [hX,reduceCtorEq] at e;rename_i b
   cases q:hX ds with
   | none=>rw [q] at e; cases e
   | some bs' =>
    rw [q] at e;cases e;simp only [aE] at h1;subst h1;cases ra;exact .cons b (CV h2 rb q)
theorem O3 (hc:X.A.handled=none):eJ X (.builtin "all") (fun xs H Q=>∃ a vs ds bs G,xs=[.ref a]∧b9 X.K H a vs∧aB X.K G ds vs∧hX ds=some bs∧Q (.bl (bs.all id)) H):=by
 intro pins s σ H xs us Q I r h;obtain ⟨a,vs,ds,bs,G,rfl,h1,h2,h3,q⟩:=h;obtain ⟨u,rfl,rx⟩:=iG r;cases rx;obtain ⟨its,rv,hl,z⟩:=oC I h1;have hb:=CV h2 rv h3;have hlt:a<s.heap.objs.size:=by obtain ⟨_,e,_⟩:=hl; exact Zv e
 refine call_all_walk (wpAny_pyIter_list hl ?_)
 refine ⟨s.heap.objs.size,[s.heap.objs.size,a],[s.heap.objs.size],its.toArray.size,_,_,fun i=>(bs[i]?).getD true,rfl,Walks.list (A:=X.A.in1) hc _ a (Zz hlt) its.toArray,
  ⟨⟨_,Zw _ rfl,rfl,rfl⟩,hl.push _⟩,fun i v s' Q' E' hP hQ=>?_,fun h' tk hk=>?_⟩
 ·obtain ⟨b,e,rfl⟩:=hb.get i v (by simpa using hP);simp only [e,Option.getD_some] at hQ;exact wpAny_truthy_bool hQ
 ·have e:((List.range its.toArray.size).all fun i=>(bs[i]?).getD true)=bs.all id:=by
   rw [Zi,hb.length]; exact LSm.range_all bs
  rw [e];exact ⟨.bl _,H,I.kept (t':=tk) (LSm.kept_iter hk),rfl,q⟩
theorem yT:∀ {ds:List D} {vs:List V} {us:List Value} {is:List Int},aB K G ds vs→aT vs us→dI ds=some is→IntsAre us is
 | [],_,_,_,h,r,e=>by
  simp only [aB] at h; subst h; cases r; cases e; exact .nil
 | d :: ds,_,_,_,h,r,e=>by
  simp only [aB] at h;obtain ⟨v,r',rfl,h1,h2⟩:=h
  cases r with
  | cons ra rb =>
   cases d <;> simp only [dI,reduceCtorEq] at e;rename_i b
   cases q:dI ds with
   | none=>rw [q] at e; cases e
   | some bs' =>
    rw [q] at e;cases e;simp only [aE] at h1;subst h1;obtain ⟨t,rfl⟩:=ra;exact .cons _ _ (yT h2 rb q)
theorem aD3 (i:Int):∀ (r:List Int),(r.foldl (fun m y=>if y > m then y else m) i)∈i :: r∧∀ a∈i :: r,a≤r.foldl (fun m y=>if y > m then y else m) i:=by
 intro r
 induction r generalizing i with
 | nil=>exact ⟨by simp,fun a ha=>by simp at ha; simp; omega⟩
 | cons y r ih =>
  simp only [List.foldl_cons];obtain ⟨h1,h2⟩:=ih (if y > i then y else i);refine ⟨?_,fun a ha=>?_⟩
  ·rcases List.mem_cons.mp h1 with h | h
   ·rw [h];split
    ·simp
    ·simp
   ·exact Ze _ (Ze _ h)
  ·have h3:=h2 (if y > i then y else i) (by simp);have h4:i≤(if y > i then y else i):=by split <;> omega
   have h5:y≤(if y > i then y else i):=by split <;> omega
   rcases List.mem_cons.mp ha with h | h
   ·rw [h]; exact Int.le_trans h4 h3
   ·rcases List.mem_cons.mp h with h | h
    ·rw [h]; exact Int.le_trans h5 h3
    ·exact h2 a (Ze _ h)
theorem IZ (hc:X.calm=true):eJ X (.builtin "max") (fun xs H Q=>∃ a vs ds i r G,xs=[.ref a]∧b9 X.K H a vs∧aB X.K G ds vs∧dI ds=some (i :: r)∧Q (.int (r.foldl (fun m y=>if y > m then y else m) i)) H):=by
 intro pins s σ H xs us Q I r h;obtain ⟨a,vs,ds,i,ns,G,rfl,h1,h2,h3,q⟩:=h;obtain ⟨u,rfl,rx⟩:=iG r;cases rx;obtain ⟨its,rv,hl,z⟩:=oC I h1;have hi:=yT h2 rv h3;obtain ⟨xs,e⟩:=hi.allInts.items
 have hns:i :: ns=xs.toList.map (·.1):=by
  rw [← hi.numsOf,← nums_intItems,← e]
 have hsz:0<xs.size:=by
  have h3:0<(i :: ns).length:=by simp
  rw [hns,List.length_map,Array.length_toList] at h3; exact h3
 rw [e] at hl;refine max_intList (I.ok.hd hc) hl hsz fun v h' tk hv hk=>?_
 obtain ⟨t,rfl⟩:=intItems_at hv;obtain ⟨k1,k2⟩:=argBest_gt (numAt xs) (xs.size - 1)
 have m1:numAt xs (argBest (fun i j=>decide (numAt xs i > numAt xs j)) (xs.size - 1))∈i :: ns:=by
  rw [hns,numAt_eq]; exact getD_mem (by rw [List.length_map,Array.length_toList]; omega)
 have m2:∀ b∈i :: ns,b≤numAt xs (argBest (fun i j=>decide (numAt xs i > numAt xs j)) (xs.size - 1)):=fun b ha=>by
  rw [hns] at ha;obtain ⟨j,hj,rfl⟩:=mem_getD ha;rw [List.length_map,Array.length_toList] at hj;rw [← numAt_eq]; exact k2 j (by omega)
 obtain ⟨m3,m4⟩:=aD3 i ns;have e2:numAt xs (argBest (fun i j=>decide (numAt xs i > numAt xs j)) (xs.size - 1))=ns.foldl (fun m y=>if y > m then y else m) i:=Int.le_antisymm (m4 _ m1) (m2 _ m3);refine ⟨.int _,H,I.kept hk,⟨t,rfl⟩, ?_⟩;rw [e2]; exact q
theorem aBT (hK:X.K=K) (hc:X.calm=true) (hh:X.A.handled=none) (rm:Room 2 X.A) (f:BI):eJ X (biV f) (rBi K f):=by
 intro pins s σ H xs us Q I r h;obtain ⟨G,ds,v,sub,hx,e,k⟩:=h;subst hK
 cases f with
 | len =>
  obtain _ | ⟨d,_ | ⟨_,_⟩⟩:=ds
  ·exact (aJ e).elim
  ·cases d with
   | lst =>
    change some _=_ at e;cases e;obtain ⟨x,rfl,h1⟩:=fC hx;obtain ⟨a,vs,rfl,h2,h3⟩:=h1.lst sub;exact sJ pins s σ H _ us Q I r ⟨a,vs,rfl,.inl h2,by rw [h3.len]; exact k _ _ cK⟩
   | tup =>
    change some _=_ at e;cases e;obtain ⟨x,rfl,h1⟩:=fC hx;obtain ⟨a,vs,rfl,h2,h3⟩:=h1.tup sub;exact sJ pins s σ H _ us Q I r ⟨a,vs,rfl,.inr h2,by rw [h3.len]; exact k _ _ cK⟩
   | str x =>
    change @ite _ (x.length≤1000000) (cl _) _ none=_ at e;split at e
    ·rename_i hz;cases e;obtain ⟨x,rfl,h1⟩:=fC hx;obtain ⟨rfl,_⟩:=h1.str;exact BX pins s σ H _ us Q I r ⟨_,rfl,Zr hz (by decide),k _ _ cK⟩
    ·cases e
   | _=>exact (aJ e).elim
  ·cases d <;> exact (aJ e).elim
 | abs =>
  obtain _ | ⟨d,_ | ⟨_,_⟩⟩:=ds
  ·exact (aJ e).elim
  ·cases d with
   | int =>
    change some _=_ at e;cases e;obtain ⟨x,rfl,h1⟩:=fC hx;cases h1.int;exact PN pins s σ H _ us Q I r ⟨_,rfl,k _ _ cK⟩
   | _=>exact (aJ e).elim
  ·cases d <;> exact (aJ e).elim
 | int =>
  obtain _ | ⟨d,_ | ⟨_,_⟩⟩:=ds
  ·exact (aJ e).elim
  ·cases d with
   | int =>
    change some _=_ at e;cases e;obtain ⟨x,rfl,h1⟩:=fC hx;cases h1.int;exact z9 pins s σ H _ us Q I r (.inl ⟨_,rfl,k _ _ cK⟩)
   | bl =>
    change some _=_ at e;cases e;obtain ⟨x,rfl,h1⟩:=fC hx;cases h1.bl;exact z9 pins s σ H _ us Q I r (.inr ⟨_,rfl,k _ _ cK⟩)
   | _=>exact (aJ e).elim
  ·cases d <;> exact (aJ e).elim
 | list =>
  obtain _ | ⟨d,_ | ⟨_,_⟩⟩:=ds
  ·exact (aJ e).elim
  ·cases d with
   | lst =>
    change some _=_ at e;cases e;obtain ⟨x,rfl,h1⟩:=fC hx;obtain ⟨a,vs,rfl,h2,h3⟩:=h1.lst sub;exact sL pins s σ H _ us Q I r ⟨a,vs,rfl,.inl h2,fun p hp=>k _ _ (.inr (.inl ⟨_,_,p,rfl,hp,h3,rfl,rfl⟩))⟩
   | tup =>
    change some _=_ at e;cases e;obtain ⟨x,rfl,h1⟩:=fC hx;obtain ⟨a,vs,rfl,h2,h3⟩:=h1.tup sub;exact sL pins s σ H _ us Q I r ⟨a,vs,rfl,.inr h2,fun p hp=>k _ _ (.inr (.inl ⟨_,_,p,rfl,hp,h3,rfl,rfl⟩))⟩
   | _=>exact (aJ e).elim
  ·cases d <;> exact (aJ e).elim
 | tuple =>
  obtain _ | ⟨d,_ | ⟨_,_⟩⟩:=ds
  ·exact (aJ e).elim
  ·cases d with
   | lst =>
    change some _=_ at e;cases e;obtain ⟨x,rfl,h1⟩:=fC hx;obtain ⟨a,vs,rfl,h2,h3⟩:=h1.lst sub;exact qL pins s σ H _ us Q I r ⟨a,vs,rfl,.inl ⟨h2,fun p hp=>k _ _ (.inr (.inr ⟨_,_,p,rfl,hp,h3,rfl,rfl⟩))⟩⟩
   | tup =>
    change some _=_ at e;cases e;obtain ⟨x,rfl,h1⟩:=fC hx;have h1':=h1;obtain ⟨a,vs,rfl,h2,h3⟩:=h1.tup sub;refine qL pins s σ H _ us Q I r ⟨a,vs,rfl,.inr ⟨h2, ?_⟩⟩;rcases h1' with h1' | ⟨_,_,h1'⟩
    ·exact k _ _ (.inl ⟨_,rfl,h1',rfl⟩)
    ·exact h1'.elim
   | _=>exact (aJ e).elim
  ·cases d <;> exact (aJ e).elim
 | min=>exact (aJ e).elim
 | max =>
  obtain _ | ⟨d,_ | ⟨d2,_ | ⟨_,_⟩⟩⟩:=ds
  ·exact (aJ e).elim
  ·cases d with
   | lst ds =>
    change (match dI ds with | some (i :: r)=>some (RV.sh (.int (r.foldl (fun m y=>if y > m then y else m) i))) | _=>none)=_ at e;split at e
    ·rename_i i r' q;cases e;obtain ⟨x,rfl,h1⟩:=fC hx;obtain ⟨a,vs,rfl,h2,h3⟩:=h1.lst sub;exact IZ hc pins s σ H _ us Q I r ⟨a,vs,ds,i,r',G,rfl,h2,h3,q,k _ _ cK⟩
    ·cases e
   | _=>exact (aJ e).elim
  ·cases d with
   | int =>
    cases d2 with
    | int =>
     change some _=_ at e;cases e;obtain ⟨x,y,rfl,h1,h2⟩:=JJ hx;cases h1.int; cases h2.int;exact LM hc pins s σ H _ us Q I r ⟨_,_,rfl,k _ _ cK⟩
    | _=>exact (aJ e).elim
   | _=>exact (aJ e).elim
  ·cases d with
   | int=>cases d2 <;> exact (aJ e).elim
   | _=>exact (aJ e).elim
 | all =>
  obtain _ | ⟨d,_ | ⟨_,_⟩⟩:=ds
  ·exact (aJ e).elim
  ·cases d with
   | lst ds =>
    change (hX ds).map _=_ at e
    cases q:hX ds with
    | none=>rw [q] at e; cases e
    | some bs =>
     rw [q] at e;cases e;obtain ⟨x,rfl,h1⟩:=fC hx;obtain ⟨a,vs,rfl,h2,h3⟩:=h1.lst sub;exact O3 hh pins s σ H _ us Q I r ⟨a,vs,ds,bs,G,rfl,h2,h3,q,k _ _ RY⟩
   | _=>exact (aJ e).elim
  ·cases d <;> exact (aJ e).elim
 | repr=>exact (aJ e).elim
theorem JV (hc:X.calm=true):eJ X (.type "set") (fun xs H Q=>∃ a vs ds is G,xs=[.ref a]∧b9 X.K H a vs∧aB X.K G ds vs∧dI ds=some is∧is.length≤1000∧∀ p S,H p=none→Q (.ref p) (aV H p (.set S (firstMet (fun i=>is.getD i 0) is.length).length))):=by
 intro pins s σ H xs us Q I r h;obtain ⟨a,vs,ds,is,G,rfl,h1,h2,h3,hz,q⟩:=h;obtain ⟨u,rfl,rx⟩:=iG r;cases rx;obtain ⟨its,rv,hl,z⟩:=oC I h1;have hi:=yT h2 rv h3;have hsz:its.toArray.size=is.length:=by rw [Zi]; exact hi.length
 refine call_set_list (I.ok.hd hc) hl hi (by rw [hsz]; exact Nat.lt_of_le_of_lt (Nat.add_le_add_right hz 1) (by decide)) fun h' tk hS hk=>?_
 rw [hsz] at hS;exact ⟨.ref s.heap.objs.size,_,I.laid (o:=.set (fun k'=>(firstMet (fun i=>is.getD i 0) is.length).any (· == k')) (firstMet (fun i=>is.getD i 0) is.length).length) (t':=tk) (fun b o e=>hk b o (Zv e) e) (Zq _) hS,rfl,q _ _ (I.hok.fresh (Zq _))⟩
theorem L7:eJ X (.builtin "len") (fun xs H Q=>∃ p S n,xs=[.ref p]∧H p=some (.set S n)∧Q (.int n) H):=by
 intro pins s σ H xs us Q I r h;obtain ⟨p,S,n,rfl,hp,q⟩:=h;obtain ⟨u,rfl,rx⟩:=iG r;cases rx;obtain ⟨o,es,ep,t,ho,hex,hd,_,_,hb,hf,rfl⟩:=I.hok p _ hp;refine call_len_set ho hex hd hf (by have:es.size<4096:=hb; omega) ⟨.int es.size,H,I.tok _,⟨_,rfl⟩,q⟩
theorem L5:eJ X (.type "range") (fun xs H Q=>∃ i j:Int,(xs=[.int i,.int j]∨(xs=[.int j]∧i=0))∧∀ p,H p=none→Q (.ref p) (aV H p (.rng i j))):=by
 intro pins s σ H xs us Q I r h;obtain ⟨i,j,rfl | ⟨rfl,rfl⟩,q⟩:=h
 ·obtain ⟨u,w,rfl,⟨t,rfl⟩,⟨t',rfl⟩⟩:=BB r;exact call_range_2 ⟨.ref s.heap.objs.size,_,I.laid (o:=.rng i j) (fun b o e=>Zd _ e) (Zq _) ⟨t,t',_,Zw _ rfl⟩,rfl,q _ (I.hok.fresh (Zq _))⟩
 ·obtain ⟨u,rfl,⟨t,rfl⟩⟩:=iG r;exact call_range_1 ⟨.ref s.heap.objs.size,_,I.laid (o:=.rng 0 j) (fun b o e=>Zd _ e) (Zq _) ⟨_,t,_,Zw _ rfl⟩,rfl,q _ (I.hok.fresh (Zq _))⟩
theorem EL {i:Int}:∀ {n:Nat} {its:List Value},its.length=n→(∀ (j:Nat) v,its[j]?=some v→∃ t,v=Value.int (i+(j:Int)) t)→aT ((List.range n).map fun (m:Nat)=>V.int (i+(m:Int))) its:=by
 intro n
 induction n generalizing i with
 | zero =>
  intro its h _
  cases its with
  | nil=>exact .nil
  | cons _ _=>cases h
 | succ n ih =>
  intro its h k
  cases its with
  | nil=>cases h
  | cons u r =>
   rw [List.range_succ_eq_map,Zs,List.map_map];refine .cons ?_ ?_
   ·obtain ⟨t,e⟩:=k 0 u rfl;exact ⟨t,e⟩
   ·have:=ih (i:=i+1) (its:=r) (by simpa using h) fun j v e=>by
     obtain ⟨t,e'⟩:=k (j+1) v (by simpa using e);exact ⟨t,by rw [e']; congr 1; omega⟩
    have e:((fun (m:Nat)=>V.int (i+(m:Int))) ∘ Nat.succ)=fun (m:Nat)=>V.int (i+1+(m:Int)):=by
     funext m
     show V.int _=V.int _;congr 1;omega
    rw [e];exact this
theorem JE (hc:X.calm=true):eJ X (.type "list") (fun xs H Q=>∃ p,∃ i j:Int,xs=[.ref p]∧H p=some (.rng i j)∧((-1000000≤i∧i≤1000000)∧(-1000000≤j∧j≤1000000))∧∀ q,H q=none→Q (.ref q) (aV H q (.lst ((List.range (j - i).toNat).map fun (m:Nat)=>V.int (i+(m:Int)))))):=by
 intro pins s σ H xs us Q I r h;obtain ⟨p,i,j,rfl,hp,hb,q⟩:=h;obtain ⟨u,rfl,rx⟩:=iG r;cases rx;obtain ⟨t,u',v,hr⟩:=I.hok p _ hp;have hn:Builtin.Range.rangeSize i j 1=((j - i).toNat:Nat):=by rw [rangeSize_one]; split <;> omega
 refine call_list_range (n:=(j - i).toNat) (I.ok.hd hc) hr (small_one (by omega) (by omega) (by omega) (by omega)) hn (by omega) fun h' tk acc' c' hk hS hacc=>?_
 refine ⟨.ref s.heap.objs.size,_,I.laid (o:=.lst ((List.range (j - i).toNat).map fun (m:Nat)=>V.int (i+(m:Int)))) (t':=tk) hk (Zq _) ⟨?_,acc'.toList,c', ?_, ?_⟩,rfl,q _ (I.hok.fresh (Zq _))⟩
 ·rw [List.length_map,zp]; show _≤sizeLine; rw [sizeLine_eq]; omega
 ·refine EL (by rw [Array.length_toList]; exact hacc.1) fun k v e=>?_
  obtain ⟨t2,e2⟩:=hacc.2 k v (by rw [← Array.getElem?_toList]; exact e);exact ⟨t2,by rw [e2]; congr 1; omega⟩
 ·rw [hS]
noncomputable def NA:Ty→V
 | .int=>.ty "int"
 | .bool=>.ty "bool"
 | .str=>.ty "str"
 | .list=>.ty "list"
 | .tuple=>.ty "tuple"
 | .dict=>.ty "dict"
 | .cls _=>.ty "dict"
 | .verr=>.ty "ValueError"
theorem bV.exn {c:Str} {x:V} (sub:aM G H) (h:bV K H G (.exn c) x):∃ a C,x=.ref a∧nsIn K mainGlobals c=some (some (.ref C))∧ExcG K C∧H a=some (.ext (pG a C)):=by
 rcases h with h | ⟨a,rfl,h⟩
 ·simp only [aE] at h;obtain ⟨a,C,e,h1,h2,h3⟩:=h;exact ⟨a,C,e,h1,h2,sub _ _ h3⟩
 ·exact h.elim
theorem aA7 (hK:X.K=K) (t:Ty):eJ X (.builtin "isinstance") (fun xs H Q=>∃ G d x b,aM G H∧xs=[x,NA t]∧bV K H G d x∧HW t d=some b∧Q (.bl b) H):=by
 intro pins s σ H xs us Q I r h;obtain ⟨G,d,x,b,sub,rfl,hx,e,q⟩:=h;subst hK;obtain ⟨u,w,rfl,rx,rw'⟩:=BB r;have fin:∀ tk,EP X pins σ Q (.bool b) { s with toks:=tk }:=fun tk=>⟨.bl b,H,I.tok tk,rfl,q⟩
 have key:∀ T:String,w=.type T→∀ c:String,(∀ S:Value→Option Bool,True)→True:=fun _ _ _ _=>trivial
 cases t <;> simp only [HW,reduceCtorEq] at e <;> (try (cases (show w=_ from rw')))
 all_goals
  cases d <;> simp only [Option.some.injEq,reduceCtorEq] at e <;> subst e
  all_goals first
   | (cases hx.non; cases (show u=Value.none from rx); exact PySem.W.kia_one PySem.W.kitx_none I.kIn True.intro (by rfl) (fun z=>nomatch z) fin)
   | (cases hx.bl; cases (show u=Value.bool _ from rx); exact PySem.W.kia_one PySem.W.kitx_bool I.kIn True.intro (by rfl) (fun z=>nomatch z) fin)
   | (cases hx.int; obtain ⟨t,q'⟩:=(show ∃ t,u=Value.int _ t from rx); cases q'; exact PySem.W.kia_one PySem.W.kitx_int I.kIn True.intro (by rfl) (fun z=>nomatch z) fin)
   | (obtain ⟨rfl,_⟩:=hx.str; obtain ⟨t,q'⟩:=(show ∃ t,u=Value.str _ t from rx); cases q'; exact PySem.W.kia_one PySem.W.kitx_str I.kIn True.intro (by rfl) (fun z=>nomatch z) fin)
   | (obtain ⟨a,vs,rfl,h2,h3⟩:=hx.lst sub; cases (show u=Value.ref a from rx); obtain ⟨its,_,⟨o,n,h4,h5,_⟩,_⟩:=I.list h2; exact PySem.W.kia_one PySem.W.kitx_list I.kIn ⟨o,h4,h5⟩ (by rfl) (fun z=>nomatch z) fin)
   | (obtain ⟨a,C,rfl,h2,h3,h4⟩:=hx.exn sub; cases (show u=Value.ref a from rx); exact PySem.W.kia_one (OZ h3) I.kIn (I.hok a _ h4).1 (PZ h3) (fun z=>nomatch z) fin)
   | (obtain ⟨a,vs,rfl,h2,h3⟩:=hx.tup sub; cases (show u=Value.ref a from rx); obtain ⟨its,_,⟨o,h4,h5,_⟩,_⟩:=I.tuple h2; exact PySem.W.kia_one PySem.W.kitx_tuple I.kIn ⟨o,h4,h5⟩ (by rfl) (fun z=>nomatch z) fin)
end
section
variable {X:Cx} {pins:List (Addr × Obj)} {σ:L2.St} {H:Hp} {s:Shared} {h':Heap}
theorem KZ {t':Nat} {e it p:Addr} {o:HO} (I:Inv X pins σ H s) (k:∀ b u,b≠e→b≠it→s.heap.get? b=some u→h'.get? b=some u) (fe:jG X pins H e) (fi:jG X pins H it) (hp:s.heap.objs.size≤p)
  (new:dW X.prog X.w (aV H p o) h' p o):Inv X pins σ (aV H p o) { s with heap:=h',toks:=t' }:=by
 have hn:H p=none:=I.hok.fresh hp;have ne:∀ {b:Addr} {u:HO},H b=some u→b≠e∧b≠it:=fun q=>⟨bU q fe.1,bU q fi.1⟩
 have nc:∀ {b:Addr},b ∉ [e,it]→b≠e∧b≠it:=fun hc=>⟨fun z=>hc (by simp [z]),fun z=>hc (by simp [z])⟩
 refine I.step (g':=s.gens) (d':=s.drawn) (ch:=[e,it]) (fun b hb=>?_) (fun b o _ _ hc q _=>k b o (nc hc).1 (nc hc).2 q) (fun b o _ _ hc q _=>⟨o.slots,k b o (nc hc).1 (nc hc).2 q⟩)
  (fun b o _ q n=>by rw [aO (Zz (Zl (Zv q) hp))]; exact n)
  (fun b o hc q=>⟨o,k b o (nc hc).1 (nc hc).2 q⟩) (fun b xs q=>by rw [aO (bU q hn)]; exact q) (fun b o u q=>by rw [aO (bU q hn)]; exact q) (fun b ps q=>⟨#[],by rw [aO (bU q hn),q]; simp⟩) (fun m hm=>?_) (fun b u q=>?_) I.bare
 ·have hb:b=e∨b=it:=by simpa using hb
  rcases hb with rfl | rfl
  ·exact ⟨fe.2.2.2.1,fe.2.1,fe.2.2.2.2.1,fe.2.2.2.2.2⟩
  ·exact ⟨fi.2.2.2.1,fi.2.1,fi.2.2.2.2.1,fi.2.2.2.2.2⟩
 ·obtain ⟨o,es,ep,ho,r⟩:=hm;exact ⟨o,es,ep,k _ o (Ne.symm fe.2.1) (Ne.symm fi.2.1) ho,r⟩
 ·by_cases hb:b=p
  ·subst hb; rw [bE] at q; cases q; exact new
  ·rw [aO hb] at q;refine (I.hok b u q).stay (fun c v hc z=>?_) (fun c q=>by rw [aO (bU q hn)]; exact q) fun c xs q=>by rw [aO (bU q hn)]; exact q
   have hc':c≠e∧c≠it:=by
    rcases hc with w | w
    ·rw [w]; exact ne q
    ·exact ne w
   exact k c v hc'.1 hc'.2 z
theorem EK {t':Nat} {e it:Addr} (I:Inv X pins σ H s) (k:∀ b u,b≠e→b≠it→s.heap.get? b=some u→h'.get? b=some u) (fe:jG X pins H e) (fi:jG X pins H it):Inv X pins σ H { s with heap:=h',toks:=t' }:=by
 have ne:∀ {b:Addr} {u:HO},H b=some u→b≠e∧b≠it:=fun q=>⟨bU q fe.1,bU q fi.1⟩
 have nc:∀ {b:Addr},b ∉ [e,it]→b≠e∧b≠it:=fun hc=>⟨fun z=>hc (by simp [z]),fun z=>hc (by simp [z])⟩
 refine I.step (g':=s.gens) (d':=s.drawn) (ch:=[e,it]) (fun b hb=>?_) (fun b o _ _ hc q _=>k b o (nc hc).1 (nc hc).2 q) (fun b o _ _ hc q _=>⟨o.slots,k b o (nc hc).1 (nc hc).2 q⟩)
  (fun _ _ _ _ n=>n) (fun b o hc q=>⟨o,k b o (nc hc).1 (nc hc).2 q⟩) (fun _ _ q=>q) (fun _ _ _ q=>q) (fun b ps q=>⟨#[],by rw [q]; simp⟩) (fun m hm=>?_) (fun b u q=>?_) I.bare
 ·have hb:b=e∨b=it:=by simpa using hb
  rcases hb with rfl | rfl
  ·exact ⟨fe.2.2.2.1,fe.2.1,fe.2.2.2.2.1,fe.2.2.2.2.2⟩
  ·exact ⟨fi.2.2.2.1,fi.2.1,fi.2.2.2.2.1,fi.2.2.2.2.2⟩
 ·obtain ⟨o,es,ep,ho,r⟩:=hm;exact ⟨o,es,ep,k _ o (Ne.symm fe.2.1) (Ne.symm fi.2.1) ho,r⟩
 ·refine (I.hok b u q).stay (fun c v hc z=>?_) (fun _ q=>q) fun _ _ q=>q
  have hc':c≠e∧c≠it:=by
   rcases hc with w | w
   ·rw [w]; exact ne q
   ·exact ne w
  exact k c v hc'.1 hc'.2 z
end
section
variable {prog:Program} {w:World} {A:Around} {E:Value→Shared→Prop} {s:Shared}
theorem TV {e it l:Addr} {c:Int} {i:Nat} {us:Array Value} {u old:Value} {Q:Value→Shared→Prop} (q1:IsEnum s.heap e it c old) (q2:s.heap.IsListIter it l i) (q3:s.heap.IsList l us) (q4:us[i]?=some u) (ne:e≠it)
  (k:∀ g,IsEnumOut g e it (c+1) u s.heap.objs.size→g.IsListIter it l (i+1)→g.get? s.heap.objs.size=some { cls:=.type "tuple",data:=.seq #[.int c s.toks,u] }→(∀ b o,b≠e→b≠it→s.heap.get? b=some o→g.get? b=some o)→Q (.ref s.heap.objs.size) { s with heap:=g,toks:=s.toks+1 }) :
  wpAny (model prog w) A (Builtin.«enumerate.__next__» ⟨[.ref e],[]⟩) (fun fin s'=>∃ v,fin=.done (.ret v)∧Q v s') E s:=by
 obtain ⟨m0,ge,dr,tk,os⟩:=s;refine Zt (m:=field (.ref e) 2) (wpAny_field q1 rfl (x:=.ref it) rfl (Zt (wpAny_nextOf_list_item q2 q3 q4 fun m1 t1 b1=>?_)));have b1:Heap.SameBut it m0 m1:=b1;have e1:IsEnum m1 e it c old:=(b1.2 e ne).trans q1;refine Zt (m:=field (.ref e) 3) (wpAny_field e1 rfl (x:=rawInt c) rfl (Zt (m:=field (.ref e) 4) (wpAny_field e1 rfl (x:=.none) rfl (Zt (m:=mkInt c) (wpAny_mkInt ?_)))));refine Zt (m:=setField (.ref e) 3 (rawInt (c+1))) (wpAny_setField_rec e1 (by simp) fun m2 e2 b2=>?_);have b2:Heap.SameBut e m1 m2:=b2;have e2:IsEnum m2 e it (c+1) old:=e2;refine Zt (m:=setField (.ref e) 4 .none) (wpAny_setField_rec e2 (by simp) fun m3 e3 b3=>?_);have b3:Heap.SameBut e m2 m3:=b3;have e3:IsEnum m3 e it (c+1) old:=e3;refine Zt (m:=newTuple [.int c tk,u]) (wpAny_newTuple ?_);have n3:m3.objs.size=m0.objs.size:=by rw [b3.1,b2.1,b1.1]
 have lt:e<m0.objs.size:=Zv q1;obtain ⟨m4,z4⟩:∃ m4,m3.push { cls:=.type "tuple",data:=.seq #[.int c tk,u] }=m4:=⟨_,rfl⟩
 have e4:IsEnum m4 e it (c+1) old:=z4 ▸ Zd _ e3;have p4:m4.get? m0.objs.size=some { cls:=.type "tuple",data:=.seq #[.int c tk,u] }:=z4 ▸ n3 ▸ Zw _ rfl;have k4:∀ b o,b≠e→b≠it→m0.get? b=some o→m4.get? b=some o:=fun b o x y q=>z4 ▸ Zd _ (b3.extBut b o x (b2.extBut b o x (b1.extBut b o y q)))
 have t4:m4.IsListIter it l (i+1):=by
  obtain ⟨o,ho,r⟩:=(t1.extBut b2.extBut ne.symm).extBut b3.extBut ne.symm;exact ⟨o,z4 ▸ Zd _ ho,r⟩
 rw [n3,z4];refine Zt (m:=Builtin.SmallTypes.ownedTupleIsFree (.ref e)) ?_;unfold Builtin.SmallTypes.ownedTupleIsFree;refine Zt (wpAny_field e4 rfl (x:=.none) rfl (Zu ?_));simp only [if_true];refine Zt (wpAny_rule (Zt (wpAny_field e4 rfl (x:=old) rfl (Zt (wpAny_setField_rec e4 (by simp) fun m5 e5 b5=>?_)))));have b5:Heap.SameBut e m4 m5:=b5;have e5:IsEnum m5 e it (c+1) u:=e5;refine Zt (m:=Builtin.SmallTypes.ownedTupleHandOut (.ref e) (.ref m0.objs.size)) ?_;unfold Builtin.SmallTypes.ownedTupleHandOut;refine Zt (wpAny_setField_rec e5 (by simp) fun m6 e6 b6=>?_);have b6:Heap.SameBut e m5 m6:=b6;have e6:IsEnumOut m6 e it (c+1) u m0.objs.size:=e6;refine wpAny_setField_rec e6 (by simp) fun m7 e7 b7=>?_
 have b7:Heap.SameBut e m6 m7:=b7;have st:∀ b o,b≠e→m4.get? b=some o→m7.get? b=some o:=fun b o x q=>b7.extBut b o x (b6.extBut b o x (b5.extBut b o x q))
 refine Zt (wpAny_letGo (Zu ⟨_,rfl,k m7 e7 ?_ (st _ _ (Nat.ne_of_gt lt) p4) fun b o x y q=>st b o x (k4 b o x y q)⟩));exact ((t4.extBut b5.extBut ne.symm).extBut b6.extBut ne.symm).extBut b7.extBut ne.symm
theorem KN {e it l:Addr} {c:Int} {i:Nat} {us:Array Value} {u old:Value} {Q:Option Value→Shared→Prop} (q1:IsEnum s.heap e it c old) (q2:s.heap.IsListIter it l i) (q3:s.heap.IsList l us) (q4:us[i]?=some u) (ne:e≠it)
  (k:∀ g,IsEnumOut g e it (c+1) u s.heap.objs.size→g.IsListIter it l (i+1)→g.get? s.heap.objs.size=some { cls:=.type "tuple",data:=.seq #[.int c s.toks,u] }→(∀ b o,b≠e→b≠it→s.heap.get? b=some o→g.get? b=some o)→Q (some (.ref s.heap.objs.size)) { s with heap:=g,toks:=s.toks+1 }) :
  wpAny (model prog w) A (pyNext (.ref e)) Q E s :=
 have ty:s.TypeIs (.ref e) "enumerate":=⟨_,q1,rfl⟩
 Zt (wpAny_attempt (wpAny_callSpecial?_slot (name:=Str.ofString "__next__") ty F.slot_enumerate_next (wpAny_call_entry F.slot_enumerate_next ty F.entry_enumerate_next (TV q1 q2 q3 q4 ne fun g a b c d=>Zu (k g a b c d)) (F.args_enumerate_next_1 _))))
theorem UN {e it l:Addr} {c:Int} {i:Nat} {us:Array Value} {old:Value} {Q:Option Value→Shared→Prop} (hh:A.handled=none) (q1:IsEnum s.heap e it c old) (q2:s.heap.IsListIter it l i) (q3:s.heap.IsList l us) (q4:us[i]?=none)
  (k:∀ g,Heap.ExtBut it s.heap g→Q none { s with heap:=g }):wpAny (model prog w) A (pyNext (.ref e)) Q E s:=by
 have ty:s.TypeIs (.ref e) "enumerate":=⟨_,q1,rfl⟩
 refine Zt (wpAny_attempt (wpAny_callSpecial?_slot (name:=Str.ofString "__next__") ty F.slot_enumerate_next (wpAny_call_entry F.slot_enumerate_next ty F.entry_enumerate_next ?_ (F.args_enumerate_next_1 _))));refine Zt (m:=field (.ref e) 2) (wpAny_field q1 rfl (x:=.ref it) rfl (Zt (wpAny_nextOf_list_end hh q2 q3 q4 fun g x ex px=>?_)));obtain ⟨o,ho,hc⟩:=px;exact Zt (wpAny_isInstance (T:="StopIteration") (b:=true) ⟨o,ho,hc⟩ isSubtype_stop (Zu (k _ ex)))
end
theorem WQ (l:Addr) (us:Array Value) (n:Nat) (dct:Option Addr) (sl:Array (Option Value)) (c:Int) (t:Tok) (hc:Builtin.SmallTypes.fitsIndex c=true) :
  Meets (Builtin.«enumerate.__new__» ⟨[.type "enumerate",.ref l],[("start",.int c t)]⟩) (fun _ R s=>s.heap.get? l=some { cls:=.type "list",dict:=dct,data:=.seq us n,slots:=sl } ∧
   R (.ok (.ret (.ref (s.heap.push { cls:=.type "list_iterator",data:=.fields #[.ref l,.int 0 0] }).objs.size)))
    { s with heap:=(s.heap.push { cls:=.type "list_iterator",data:=.fields #[.ref l,.int 0 0] }).push { cls:=.type "enumerate",data:=.fields #[.none,.bool false,.ref s.heap.objs.size,rawInt c,.none,.none] } }) :=
 .of_wp fun prog w A R s h=>by
  obtain ⟨hp,g,d,tk,os⟩:=s; obtain ⟨hl,h⟩:=h;have sb:=sub_enumerate;have isl:Heap.IsList (Shared.heap ⟨hp,g,d,tk,os⟩) l us:=⟨_,hl,rfl,n,rfl⟩
  wp_walk using AutoSeq1.wpAny_loadPart' hl
  refine wpAny_stack_any fun st=>Zu ?_
  split
  ·rename_i v _ _ _ _ _;cases (v == Value.type "enumerate")
   ·wp_walk using AutoSeq1.wpAny_loadPart' hl,wpAny_pyIter_list isl
    exact ⟨_,rfl,h⟩
   ·wp_walk using AutoSeq1.wpAny_loadPart' hl,wpAny_pyIter_list isl
    exact ⟨_,rfl,h⟩
  ·wp_walk using AutoSeq1.wpAny_loadPart' hl,wpAny_pyIter_list isl
   exact ⟨_,rfl,h⟩
theorem ZG (a:Value) (c:Int) (t:Tok):checkTypeCall "enumerate" ⟨[a],[("start",.int c t)]⟩=pure ():=by kernel_rfl
theorem R5 (a:Value) (c:Int) (t:Tok):checkBuiltinCall "enumerate.__new__" ⟨[.type "enumerate",a],[("start",.int c t)]⟩=pure ():=by kernel_rfl
theorem SF {a b:Value} {kw:List (Str × Value)}:Meets (Builtin.«object.__init__» ⟨[a,b],kw⟩) (fun _ R s=>s.TypeIs a "enumerate"∧R (.ok (.ret .none)) s):=by
 refine Meets.of_wp fun prog w A R s hs=>?_
 obtain ⟨ty,hq⟩:=hs;have hl:typeLookup (.type "enumerate") "__init__"=pure (some (.builtin "object.__init__")):=F.called_enumerate.init.lookup;have hm:=F.called_enumerate.made;have hne:(some "enumerate.__new__" != some "object.__new__")=true:=by decide
 repeat (any_goals (first | assumption | wp_step))
 exact ⟨_,rfl,hq⟩
theorem RU (a b:Value) (c:Int) (t:Tok):argsOk "object.__init__" ⟨[a,b],[("start",.int c t)]⟩:=by
 unfold argsOk;rw [signature?_of (id:="object.__init__") (n:="__init__".toList.reverse) (o:="object".toList.reverse) (by kernel_rfl) F.owner_object]
 kernel_rfl
section
variable {prog:Program} {w:World} {A:Around} {E:Value→Shared→Prop} {s:Shared}
theorem VL {l:Addr} {us:Array Value} {c:Int} {t:Tok} {Q:Value→Shared→Prop} (hc:Builtin.SmallTypes.fitsIndex c=true) (q:s.heap.IsList l us)
  (k:∀ g,IsEnum g (s.heap.objs.size+1) s.heap.objs.size c .none→g.IsListIter s.heap.objs.size l 0→(∀ b o,s.heap.get? b=some o→g.get? b=some o)→Q (.ref (s.heap.objs.size+1)) { s with heap:=g }) :
  wpAny (model prog w) A (call (.type "enumerate") [.ref l] [("start",.int c t)]) Q E s:=by
 have ft:=F.called_enumerate;obtain ⟨c0,tl,hmro⟩:=ft.mro;have hmade:=ft.made;have hsub:=ft.sub;obtain ⟨⟨cl,dct,dt,sl⟩,hl,hcl,n,hd⟩:=q;have hcl:cl=.type "list":=hcl;have hd:dt=.seq us n:=hd;subst hcl hd;refine wpAny_call (codeAny_of_tree ?_);change wpAny _ _ (callAny (.type "enumerate") _) _ _ _;refine Zu ⟨Code.quiet_builtin _ (by decide +kernel),codeAny_builtin F.entry_type_call ?_⟩;rw [Around.under_plain (weight_type_call_type "enumerate" _ _) (units_type_call_type "enumerate" _ _)];have h1:=ft.notType;have h2:=ft.canCreate;have h3:=ZG (.ref l) c t
 repeat (any_goals (first | assumption | wp_step))
 refine codeAny_mono (codeAny_call_builtin ft.plain F.entry_enumerate_new (wpAny_of_eq (R5 (.ref l) c t) (WQ l us n dct sl c t hc prog w A.in1 (wants (fun obj s1=>s1.TypeIs obj "enumerate"∧Q obj s1) E) s ⟨hl, ?_⟩))) fun r s1 hr=>?_
 ·have hz:(s.heap.push { cls:=.type "list_iterator",data:=.fields #[.ref l,.int 0 0] }).objs.size=s.heap.objs.size+1:=Heap.size_push ..;change _∧_;rw [hz]
  have he:IsEnum ((s.heap.push { cls:=.type "list_iterator",data:=.fields #[.ref l,.int 0 0] }).push { cls:=.type "enumerate",data:=.fields #[.none,.bool false,.ref s.heap.objs.size,rawInt c,.none,.none] }) (s.heap.objs.size+1) s.heap.objs.size c .none:=by
   have x:=Zw (s.heap.push { cls:=.type "list_iterator",data:=.fields #[.ref l,.int 0 0] }) (o:={ cls:=.type "enumerate",data:=.fields #[.none,.bool false,.ref s.heap.objs.size,rawInt c,.none,.none] }) rfl
   rwa [hz] at x
  exact ⟨⟨_,he,rfl⟩,k _ he ⟨_,Zd _ (Zw _ rfl),rfl,rfl⟩ fun b o x=>Zd _ (Zd _ x)⟩
 ·cases r with
  | error e=>exact hr
  | ok fl =>
   cases fl with
   | ret obj =>
    have hT:s1.TypeIs obj "enumerate":=hr.1;have hli:=ft.init.lookup;have hbi:=ft.init.bind obj
    repeat (any_goals (first | assumption | wp_step))
    refine codeAny_mono (codeAny_call_builtin ft.init.plain F.entry_object_init (ft.init.check _ _ _ _ _ _ _ _ hT (RU obj (.ref l) c t) (SF prog w A.in1 (wants (fun r s2=>r=.none∧Q obj s2) E) s1 ⟨hT,rfl,hr.2⟩))) fun r2 s2 hr2=>?_
    cases r2 with
    | error e=>exact hr2
    | ok fl2 =>
     cases fl2 with
     | ret r =>
      obtain ⟨rfl,hq⟩:=hr2
      repeat (any_goals (first | assumption | wp_step))
     | _=>exact hr2.elim
   | _=>exact hr.elim
end
noncomputable def rA (K:Frag) (a:Addr) (lo:Int):It :=
 ⟨fun i H=>∃ xs x,b9 K H a xs∧xs[i]?=some x,fun i H x H'=>∃ p y,H p=none∧x=.ref p∧H'=aV H p (.tup [.int (lo+(i:Int)),y])∧∀ xs,b9 K H a xs→xs[i]?=some y,fun i H=>∃ xs,b9 K H a xs∧xs.length≤i⟩
theorem zI {P:Program} {w:World} {K:Frag} {elts:List Expr} {k0:Nat} {pos:Pos} (a e it:Addr) (lo:Int) (hei:e≠it):Turn P w K (.Tuple elts k0 pos) (rA K a lo) [e,it] e (fun i h=>(∃ old,IsEnum h e it (lo+(i:Int)) old)∧h.IsListIter it a i) where
 mem:=by simp
 obj:=fun i h st b hb=>by
  obtain ⟨⟨old,h1⟩,o,h2,c,d⟩:=st;have hb:b=e∨b=it:=by simpa using hb
  rcases hb with rfl | rfl
  ·exact ⟨_,h1,fun v z=>by
    have z':Data.fields _=Data.cell v:=z
    cases z'⟩
  ·exact ⟨o,h2,fun v z=>by rw [d] at z; cases z⟩
 keep:=fun i h h' st k=>by
  obtain ⟨⟨old,h1⟩,h2⟩:=st;exact ⟨⟨old,k e (by simp) _ h1⟩,h2.at fun o q=>k it (by simp) o q⟩
 item:=by
  intro X hP hw hK hc i pins s σ H E I hf st hg;subst hP hw hK;obtain ⟨xs,x,hq,hx⟩:=hg;obtain ⟨its,rv,p,hz⟩:=I.list hq;obtain ⟨u,hu,ru⟩:=rv.get hx;obtain ⟨⟨old,he⟩,hit⟩:=st;have fe:=hf e (by simp);have fi:=hf it (by simp);refine KN he hit p.isList (u:=u) (by simpa using hu) hei fun h' ho hit' hT hk=>?_
  refine ⟨_,rfl,wpAny_letOwnedTupleGo_enum ho fun h2 he2 hs2=>?_⟩;have helt:e<s.heap.objs.size:=Zv he;have hilt:it<s.heap.objs.size:=by obtain ⟨_,q,_⟩:=hit; exact Zv q
  have ke:∀ b u,b≠e→b≠it→s.heap.get? b=some u→h2.get? b=some u:=fun b u n1 n2 q=>(hs2.2 b n1).trans (hk b u n1 n2 q)
  have hT2:h2.get? s.heap.objs.size=some { cls:=.type "tuple",data:=.seq #[.int (lo+(i:Int)) s.toks,u] }:=(hs2.2 _ (Nat.ne_of_gt helt)).trans hT;have hfr:H s.heap.objs.size=none:=I.hok.fresh (Zq _);have I2:Inv X pins σ (aV H s.heap.objs.size (.tup [.int (lo+(i:Int)),x])) { s with heap:=h2,toks:=s.toks+1 }:=KZ I ke fe fi (Zq _) ⟨by rw [sizeLine_eq]; simp,[.int (lo+(i:Int)) s.toks,u],.cons ⟨_,rfl⟩ (.cons ru .nil),⟨_,hT2,rfl,_,rfl⟩⟩;refine ⟨.ref s.heap.objs.size,aV H s.heap.objs.size (.tup [.int (lo+(i:Int)),x]),I2,rfl,⟨s.heap.objs.size,x,hfr,rfl,rfl,fun ys hy=>by rw [I.list_inj hy hq]; exact hx⟩,⟨⟨_,by rw [Int.natCast_add,Int.natCast_one,← Int.add_assoc]; exact he2⟩,hit'.at fun o q=>(hs2.2 it hei.symm).trans q⟩,fun b hb=>?_⟩
  ·have hb:b=e∨b=it:=by simpa using hb
   rcases hb with rfl | rfl
   ·rw [aO (Zz helt)]; exact fe.1
   ·rw [aO (Zz hilt)]; exact fi.1
 done:=by
  intro X hP hw hK hc i pins s σ H E I hf st hg;subst hP hw hK;obtain ⟨xs,hq,hx⟩:=hg;obtain ⟨its,rv,p,hz⟩:=I.list hq;obtain ⟨⟨old,he⟩,hit⟩:=st;have hl:=rv.length;exact UN (I.ok.hd hc) he hit p.isList (by simp; omega) fun h' eb=>⟨rfl,EK (t':=s.toks) I (fun b o _ n2 q=>eb b o n2 q) (hf e (by simp)) (hf it (by simp))⟩
 self:=fun _ _ _ _ _ st h=>by
  obtain ⟨⟨old,he⟩,_⟩:=st;exact wpAny_pyIter_enum he h
section
variable {X:Cx}
noncomputable def HR (K:Frag) (lo:Int) (ta:TA):TI:=fun σ H R=>ta σ H fun vs H1=>∃ a,vs=[.ref a]∧(∃ xs,b9 K H1 a xs)∧R (rA K a lo) H1
theorem zE:bootBuiltins "enumerate"=some (.type "enumerate"):=by decide +kernel
theorem EY {a:Expr} {ta:TA} {p pos tpos:Pos} {elts:List Expr} {k0:Nat} (hg:Gl X "enumerate") (hm:X.mg "enumerate"=none) (ha:PA X [a] ta) (hs:starEach [a] X.env=[(false,eval a X.env)]:=by rfl):PI X (.Tuple elts k0 tpos) (.Call (.Name "enumerate" p) [a] [] pos) (HR X.K 0 ta):=by
 intro pins s σ H R I h;refine Call_ (l8 I hg hm zE (PyProof.Rows.callWith_type1 (bH (ha pos pins s σ H _ I h) fun us s1 ⟨vs,H1,I1,r1,q1⟩=>?_) hs rfl));obtain ⟨l,e,⟨xs,hq⟩,q⟩:=q1;subst e
 cases r1 with
 | cons r rr =>
  cases rr;cases r;obtain ⟨its,rv,p,hz⟩:=I1.list hq;refine call_enumerate_list p.isList fun h' he hit hsz hk=>?_
  have I2:Inv X pins σ H1 { s1 with heap:=h' }:=I1.kept (t':=s1.toks) hk;refine wpAny_pyIter_enum he ?_;refine ⟨s1.heap.objs.size+1,[s1.heap.objs.size+1,s1.heap.objs.size],_,_,H1,rfl,I2,zI l _ _ 0 (Nat.succ_ne_self _),⟨⟨_,by simpa using he⟩,hit⟩,fun b hb=>?_,q⟩;have hb:b=s1.heap.objs.size+1∨b=s1.heap.objs.size:=by simpa using hb
  rcases hb with rfl | rfl
  ·exact I1.fpOk (Nat.le_succ _) (I1.hok.fresh (Nat.le_succ _))
  ·exact I1.fpOk (Zq _) (I1.hok.fresh (Zq _))
theorem MJ {a:Expr} {ta:TA} {p pos tpos kq kp:Pos} {j:Nat} {elts:List Expr} {k0:Nat} (hg:Gl X "enumerate") (hm:X.mg "enumerate"=none) (ha:PA X [a] ta) (hs:starEach [a] X.env=[(false,eval a X.env)]:=by rfl) :
  PI X (.Tuple elts k0 tpos) (.Call (.Name "enumerate" p) [a] [⟨some "start",.Constant (.int 1) j kq,kp⟩] pos) (HR X.K 1 ta):=by
 intro pins s σ H R I h;refine wpAny_Call_Name_kw (l8 I hg hm zE ?_);refine PySem.W.callWith_of (P:=fun _=>True) (by rw [hs]; rfl) (fun _ _=>⟨.machine,.inr (.inl rfl),PySem.W.Looks.now⟩) (evalArgs_kw2 rfl (bH (ha pos pins s σ H _ I h) fun us s1 ⟨vs,H1,I1,r1,q1⟩=>?_) hs);obtain ⟨l,e,⟨xs,hq⟩,q⟩:=q1;subst e
 cases r1 with
 | cons r rr =>
  cases rr;cases r;refine bH (VD (X:=X) (nm:=some "start") (kpos:=kp) (DI (i:=1) (j:=j) (pos:=kq)) YR pos pins s1 σ H1 (fun zs H2=>zs=[.int 1]∧H2=H1) I1 ⟨rfl,rfl⟩) fun ws s2 ⟨zs,H2,I2,rz,ez,eh⟩=>⟨trivial, ?_⟩
  subst ez eh
  cases rz with
  | cons rz rn =>
   cases rn;obtain ⟨t,rfl⟩:=rz;obtain ⟨its,rv,p,hz⟩:=I2.list hq;refine VL (c:=1) (by decide) p.isList fun h' he hit hk=>?_
   have I3:Inv X pins σ H2 { s2 with heap:=h' }:=I2.kept (t':=s2.toks) hk;refine wpAny_pyIter_enum he ?_;refine ⟨s2.heap.objs.size+1,[s2.heap.objs.size+1,s2.heap.objs.size],_,_,H2,rfl,I3,zI l _ _ 1 (Nat.succ_ne_self _),⟨⟨_,by simpa using he⟩,hit⟩,fun b hb=>?_,q⟩;have hb:b=s2.heap.objs.size+1∨b=s2.heap.objs.size:=by simpa using hb
   rcases hb with rfl | rfl
   ·exact I2.fpOk (Nat.le_succ _) (I2.hok.fresh (Nat.le_succ _))
   ·exact I2.fpOk (Zq _) (I2.hok.fresh (Zq _))
end
section
variable {K:Frag} {ρ ρ1:Env} {σ:St} {H G H' G':Hp} {own own' new new':Addr→Prop}
theorem cU {α:Type} {l:List α} {i j:Nat} {a b:α} (h:(l.set i a)[j]?=some b):(j=i∧b=a∧i<l.length)∨(j≠i∧l[j]?=some b):=by
 by_cases hij:j=i
 ·subst hij;by_cases hl:j<l.length
  ·rw [zk hl] at h;exact .inl ⟨rfl,(Option.some.inj h).symm,hl⟩
  ·rw [List.getElem?_eq_none (by rw [zg]; omega)] at h;cases h
 ·rw [Zf (fun z=>hij z.symm)] at h;exact .inr ⟨hij,h⟩
theorem Rel.unset (r:Rel K ρ σ H G) (i:Nat):Rel K (ρ.set i .un) σ H G:=by
 refine ⟨by rw [zg]; exact r.len,r.sub,fun j d h=>?_,fun j d p l h=>?_,fun j k d p l d' p' l' a h1 h2 h3 h4=>?_⟩
 ·rcases cU h with ⟨_,z,_⟩ | ⟨_,z⟩
  ·cases z
  ·exact r.sh j d z
 ·rcases cU h with ⟨_,z,_⟩ | ⟨_,z⟩
  ·cases z
  ·exact r.ow j d p l z
 ·rcases cU h1 with ⟨_,z,_⟩ | ⟨_,z⟩
  ·cases z
  ·rcases cU h2 with ⟨_,z',_⟩ | ⟨_,z'⟩
   ·cases z'
   ·exact r.inj _ _ _ _ _ _ _ _ _ z z' h3 h4
theorem aR.unset {i:Nat} {a:Addr} (h:aR (ρ.set i .un) σ a):aR ρ σ a:=by
 obtain ⟨j,d,p,l,h1,h2⟩:=h;rcases cU h1 with ⟨_,z,_⟩ | ⟨_,z⟩
 ·cases z
 ·exact ⟨j,d,p,l,z,h2⟩
theorem Rel.unset_not (r:Rel K ρ σ H G) {i:Nat} {d:D} {p l:Bool} {a:Addr} (h:ρ[i]?=some (.ow d p l)) (hx:σ[i]?=some (some (.ref a))):¬ aR (ρ.set i .un) σ a:=by
 rintro ⟨j,d',p',l',h1,h2⟩
 rcases cU h1 with ⟨_,z,_⟩ | ⟨ne,z⟩
 ·cases z
 ·exact ne (r.inj _ _ _ _ _ _ _ _ _ z h h2 hx)
theorem Rel.grow (r:Rel K ρ σ H G) {a:Addr} {ob:HO} (hv:H a=some ob) (g:G a=none) (no:¬ aR ρ σ a):Rel K ρ σ H (aV G a ob):=by
 refine ⟨r.len,fun b u e=>?_,fun i d e=>?_,fun i d p l e=>?_,r.inj⟩
 ·by_cases hb:b=a
  ·subst hb; rw [bE] at e; rw [hv]; exact e
  ·rw [aO hb] at e; exact r.sub b u e
 ·obtain ⟨v,h1,h2⟩:=r.sh i d e;exact ⟨v,h1,aE.mono (aM.put g) d h2⟩
 ·obtain ⟨b,h1,h2,h3⟩:=r.ow i d p l e;have hb:b≠a:=fun z=>by subst z; exact no ⟨i,d,p,l,e,h1⟩
  exact ⟨b,h1,by rw [aO hb]; exact h2,h3.mono (aM.put g) fun _ z=>z⟩
theorem Rel.put_sh (r:Rel K (ρ.set i .un) σ H G) {d:D} {v:V} (hx:σ[i]?=some (some v)) (hr:aE K G d v):Rel K (ρ.set i (.sh d)) σ H G:=by
 have key:∀ (j:Nat) (sl:Sl),(ρ.set i (.sh d))[j]?=some sl→(j=i∧sl=.sh d)∨(ρ.set i .un)[j]?=some sl:=fun j sl h=>by
  rcases cU h with ⟨e,z,_⟩ | ⟨ne,z⟩
  ·exact .inl ⟨e,z⟩
  ·exact .inr (by rw [Zf (fun q=>ne q.symm)]; exact z)
 refine ⟨by have:=r.len; rw [zg] at this ⊢; exact this,r.sub,fun j d' h=>?_,fun j d' p l h=>?_,fun j k d1 p l d2 p' l' a h1 h2 h3 h4=>?_⟩
 ·rcases key j _ h with ⟨rfl,z⟩ | z
  ·cases z; exact ⟨v,hx,hr⟩
  ·exact r.sh j d' z
 ·rcases key j _ h with ⟨rfl,z⟩ | z
  ·cases z
  ·exact r.ow j d' p l z
 ·rcases key j _ h1 with ⟨rfl,z⟩ | z
  ·cases z
  ·rcases key k _ h2 with ⟨rfl,z'⟩ | z'
   ·cases z'
   ·exact r.inj _ _ _ _ _ _ _ _ _ z z' h3 h4
theorem Rel.put_ow (r:Rel K (ρ.set i .un) σ H G) {d:D} {p l:Bool} {a:Addr} (hx:σ[i]?=some (some (.ref a))) (g:G a=none) (ho:gY K H G a d) (no:¬ aR (ρ.set i .un) σ a):Rel K (ρ.set i (.ow d p l)) σ H G:=by
 have key:∀ (j:Nat) (sl:Sl),(ρ.set i (.ow d p l))[j]?=some sl→(j=i∧sl=.ow d p l)∨(ρ.set i .un)[j]?=some sl:=fun j sl h=>by
  rcases cU h with ⟨e,z,_⟩ | ⟨ne,z⟩
  ·exact .inl ⟨e,z⟩
  ·exact .inr (by rw [Zf (fun q=>ne q.symm)]; exact z)
 refine ⟨by have:=r.len; rw [zg] at this ⊢; exact this,r.sub,fun j d' h=>?_,fun j d' p' l' h=>?_,fun j k d1 p1 l1 d2 p2 l2 b h1 h2 h3 h4=>?_⟩
 ·rcases key j _ h with ⟨rfl,z⟩ | z
  ·cases z
  ·exact r.sh j d' z
 ·rcases key j _ h with ⟨rfl,z⟩ | z
  ·cases z; exact ⟨a,hx,g,ho⟩
  ·exact r.ow j d' p' l' z
 ·rcases key j _ h1 with ⟨rfl,z⟩ | z
  ·rcases key k _ h2 with ⟨rfl,z'⟩ | z'
   ·rfl
   ·rw [hx] at h3; cases h3;exact absurd ⟨k,_,_,_,z',h4⟩ no
  ·rcases key k _ h2 with ⟨rfl,z'⟩ | z'
   ·rw [hx] at h4; cases h4;exact absurd ⟨j,_,_,_,z,h3⟩ no
   ·exact r.inj _ _ _ _ _ _ _ _ _ z z' h3 h4
theorem aR.put_sh {i:Nat} {d:D} {a:Addr} (h:aR (ρ.set i (.sh d)) σ a):aR (ρ.set i .un) σ a:=by
 obtain ⟨j,d',p,l,h1,h2⟩:=h;rcases cU h1 with ⟨_,z,_⟩ | ⟨ne,z⟩
 ·cases z
 ·exact ⟨j,d',p,l,by rw [Zf (fun q=>ne q.symm)]; exact z,h2⟩
theorem aR.put_ow {i:Nat} {d:D} {p l:Bool} {a b:Addr} (hx:σ[i]?=some (some (.ref b))) (h:aR (ρ.set i (.ow d p l)) σ a):a=b∨aR (ρ.set i .un) σ a:=by
 obtain ⟨j,d',p',l',h1,h2⟩:=h;rcases cU h1 with ⟨rfl,z,_⟩ | ⟨ne,z⟩
 ·rw [hx] at h2; cases h2; exact .inl rfl
 ·exact .inr ⟨j,d',p',l',by rw [Zf (fun q=>ne q.symm)]; exact z,h2⟩
theorem jK.grow {h:Hd} {x:V} (r:jK K H G own new σ h x) {G2:Hp} (s:aM G G2) (k:∀ a d,h=.val (.ow d)→x=.ref a→G2 a=none) (w:∀ a,own' a→own a):jK K H G2 own' new σ h x:=by
 cases h with
 | slot i=>exact r
 | val v =>
  cases v with
  | sh d=>exact aE.mono s d r
  | ow d =>
   obtain ⟨a,rfl,g,o,n,m⟩:=r;exact ⟨a,rfl,k a d rfl rfl,o.mono s fun _ z=>z,fun z=>n (w a z),m⟩
theorem dC.tmp_own:∀ {hs:List Hd} {xs:List V} {a:Addr},dC K H G own new σ hs xs→mO hs xs a→¬ own a∧new a∧H a≠none∧G a=none
 | [],_,_,h,t=>by cases (show _=[] from h); exact t.elim
 | h :: hs,_,a,r,t=>by
  obtain ⟨x,r',rfl,h1,h2,h3⟩:=r;have tl:mO hs r' a→¬ own a∧new a∧H a≠none∧G a=none:=fun t=>dC.tmp_own h2 t
  cases h with
  | slot i=>exact tl t
  | val v =>
   cases v with
   | sh d=>exact tl t
   | ow d =>
    rcases t with rfl | t
    ·obtain ⟨b,e,g,o,n,m⟩:=h1;cases e;obtain ⟨vs,hv⟩:=o.there;exact ⟨n,m,by rw [hv]; simp,g⟩
    ·exact tl t
theorem dC.grow:∀ {hs:List Hd} {xs:List V},dC K H G own new σ hs xs→∀ {G2:Hp},aM G G2→(∀ a,mO hs xs a→G2 a=none)→(∀ a,own' a→own a)→dC K H G2 own' new σ hs xs
 | [],_,h,_,_,_,_=>h
 | h :: hs,_,r,G2,s,k,w=>by
  obtain ⟨x,r',rfl,h1,h2,h3⟩:=r;refine ⟨x,r',rfl,h1.grow s (fun a d e1 e2=>k a (by subst e1; exact .inl e2)) w,dC.grow h2 s (fun a t=>k a ?_) w,h3⟩
  cases h with
  | slot i=>exact t
  | val v =>
   cases v with
   | sh d=>exact t
   | ow d=>exact .inr t
theorem Rel.nil (s:aM G H):Rel K [] [] H G:=⟨rfl,s,fun i d h=>by simp at h,fun i d p l h=>by simp at h,fun i j d p l d' p' l' a h=>by simp at h⟩
theorem Rel.cons_sh {as:List Sl} {τ:St} (r:Rel K as τ H G) {d:D} {x:V} (h:aE K G d x):Rel K (.sh d :: as) (some x :: τ) H G:=by
 refine ⟨by simp [r.len],r.sub,fun i d' e=>?_,fun i d' p l e=>?_,fun i j d1 p l d2 p' l' a h1 h2 h3 h4=>?_⟩
 ·cases i with
  | zero=>simp at e; subst e; exact ⟨x,rfl,h⟩
  | succ i=>simpa using r.sh i d' (by simpa using e)
 ·cases i with
  | zero=>simp at e
  | succ i=>simpa using r.ow i d' p l (by simpa using e)
 ·cases i with
  | zero=>simp at h1
  | succ i =>
   cases j with
   | zero=>simp at h2
   | succ j=>exact congrArg (·+1) (r.inj i j d1 p l d2 p' l' a (by simpa using h1) (by simpa using h2) (by simpa using h3) (by simpa using h4))
theorem Rel.cons_ow {as:List Sl} {τ:St} (r:Rel K as τ H G) {d:D} {p l:Bool} {a:Addr} (g:G a=none) (o:gY K H G a d) (n:¬ aR as τ a):Rel K (.ow d p l :: as) (some (.ref a) :: τ) H G:=by
 refine ⟨by simp [r.len],r.sub,fun i d' e=>?_,fun i d' p l e=>?_,fun i j d1 p1 l1 d2 p' l' b h1 h2 h3 h4=>?_⟩
 ·cases i with
  | zero=>simp at e
  | succ i=>simpa using r.sh i d' (by simpa using e)
 ·cases i with
  | zero =>
   simp only [zr,Option.some.injEq,Sl.ow.injEq] at e;obtain ⟨rfl,_,_⟩:=e;exact ⟨a,rfl,g,o⟩
  | succ i=>simpa using r.ow i d' p l (by simpa using e)
 ·cases i with
  | zero =>
   simp only [zr,Option.some.injEq,V.ref.injEq] at h3;subst h3
   cases j with
   | zero=>rfl
   | succ j=>exact absurd ⟨j,d2,p',l',by simpa using h2,by simpa using h4⟩ n
  | succ i =>
   cases j with
   | zero =>
    simp only [zr,Option.some.injEq,V.ref.injEq] at h4;subst h4;exact absurd ⟨i,d1,p1,l1,by simpa using h1,by simpa using h3⟩ n
   | succ j=>exact congrArg (·+1) (r.inj i j d1 p1 l1 d2 p' l' b (by simpa using h1) (by simpa using h2) (by simpa using h3) (by simpa using h4))
theorem aR.cons {as:List Sl} {τ:St} {sl:Sl} {v:Option V} {a:Addr} (h:aR (sl :: as) (v :: τ) a):(∃ d p l,sl=.ow d p l∧v=some (.ref a))∨aR as τ a:=by
 obtain ⟨i,d,p,l,h1,h2⟩:=h
 cases i with
 | zero=>exact .inl ⟨d,p,l,by simpa using h1,by simpa using h2⟩
 | succ i=>exact .inr ⟨i,d,p,l,by simpa using h1,by simpa using h2⟩
structure Lent (K:Frag) (ρ:Env) (σ:St) (H G:Hp) (hs:List Hd) (xs:List V) (as:List Sl) (ρ1:Env) (G2:Hp):Prop where
 gg:aM G G2
 gn:∀ a,G2 a≠none→G a≠none∨aR ρ σ a∨mO hs xs a
 ra:Rel K as (xs.map some) H G2
 rc:Rel K ρ1 σ H G2
 ao:∀ a,aR as (xs.map some) a→aR ρ σ a∨mO hs xs a
 an:∀ a,aR as (xs.map some) a→¬ aR ρ1 σ a
 ro:∀ a,aR ρ1 σ a→aR ρ σ a
theorem kH:∀ (hs:List Hd) (pins:List Bool) (ρ:Env) (G:Hp) (xs:List V) (as:List Sl) (ρ1:Env),Rel K ρ σ H G→dC K H G (aR ρ σ) new σ hs xs→bL pins hs ρ=some (as,ρ1) →
  ∃ G2,Lent K ρ σ H G hs xs as ρ1 G2
 | [],pins,ρ,G,xs,as,ρ1,r,h,e=>by
  cases (show xs=[] from h)
  cases pins with
  | cons p ps=>simp [bL] at e
  | nil =>
   simp only [bL,Option.some.injEq,Prod.mk.injEq] at e;obtain ⟨rfl,rfl⟩:=e;exact ⟨G,aM.refl _,fun a z=>.inl z,Rel.nil r.sub,r,fun a ⟨i,d,p,l,z,_⟩=>by simp at z,fun a ⟨i,d,p,l,z,_⟩=>by simp at z,fun _ z=>z⟩
 | .val (.sh d) :: hs,pins,ρ,G,xs,as,ρ1,r,h,e=>by
  obtain ⟨x,r',rfl,h1,h2,h3⟩:=h
  cases pins with
  | nil=>simp [bL] at e
  | cons p ps =>
   simp only [bL] at e
   cases q:bL ps hs ρ with
   | none=>rw [q] at e; cases e
   | some y =>
    obtain ⟨as',ρ'⟩:=y;rw [q] at e;simp only [Option.map_some,Option.some.injEq,Prod.mk.injEq] at e;obtain ⟨rfl,rfl⟩:=e;obtain ⟨G2,L⟩:=kH hs ps ρ G r' as' ρ' r h2 q;refine ⟨G2,L.gg,L.gn,L.ra.cons_sh (aE.mono L.gg d h1),L.rc,fun a z=>?_,fun a z=>?_,L.ro⟩
    ·rcases z.cons with ⟨_,_,_,z,_⟩ | z
     ·cases z
     ·exact L.ao a z
    ·rcases z.cons with ⟨_,_,_,z,_⟩ | z
     ·cases z
     ·exact L.an a z
 | .val (.ow d) :: hs,pins,ρ,G,xs,as,ρ1,r,h,e=>by
  obtain ⟨x,r',rfl,h1,h2,h3⟩:=h;obtain ⟨b,rfl,g,o,n,m⟩:=h1;have nt:¬ mO hs r' b:=h3 d b rfl rfl
  cases pins with
  | nil=>simp [bL] at e
  | cons p ps =>
   simp only [bL] at e
   cases q:bL ps hs ρ with
   | none=>rw [q] at e; cases e
   | some y =>
    obtain ⟨as',ρ'⟩:=y;rw [q] at e;simp only [Option.map_some,Option.some.injEq,Prod.mk.injEq] at e;obtain ⟨rfl,rfl⟩:=e
    cases p with
    | true =>
     obtain ⟨G2,L⟩:=kH hs ps ρ G r' as' ρ' r h2 q
     have g2:G2 b=none:=by
      cases w:G2 b with
      | none=>rfl
      | some o' =>
       rcases L.gn b (by rw [w]; simp) with z | z | z
       ·exact absurd g z
       ·exact absurd z n
       ·exact absurd z nt
     have nb:¬ aR as' (r'.map some) b:=fun z=>by
      rcases L.ao b z with z | z
      ·exact n z
      ·exact nt z
     refine ⟨G2,L.gg,fun a z=>?_,L.ra.cons_ow g2 (o.mono L.gg fun _ z=>z) nb,L.rc,fun a z=>?_,fun a z=>?_,L.ro⟩
     ·rcases L.gn a z with z | z | z
      ·exact .inl z
      ·exact .inr (.inl z)
      ·exact .inr (.inr (.inr z))
     ·rcases z.cons with ⟨_,_,_,_,z⟩ | z
      ·cases z; exact .inr (.inl rfl)
      ·rcases L.ao a z with z | z
       ·exact .inl z
       ·exact .inr (.inr z)
     ·rcases z.cons with ⟨_,_,_,_,z⟩ | z
      ·cases z; exact fun w=>n (L.ro _ w)
      ·exact L.an a z
    | false =>
     obtain ⟨ob,hv,hr⟩:=o.put
     have tb:∀ a,mO hs r' a→(aV G b ob) a=none:=fun a z=>by
      have hb:a≠b:=fun w=>by subst w; exact nt z
      rw [aO hb];exact (h2.tmp_own z).2.2.2
     obtain ⟨G2,L⟩:=kH hs ps ρ (aV G b ob) r' as' ρ' (r.grow hv g n) (h2.grow (aM.put g) tb fun _ z=>z) q;refine ⟨G2,(aM.put g).trans L.gg,fun a z=>?_,L.ra.cons_sh ?_,L.rc,fun a z=>?_,fun a z=>?_,L.ro⟩
     ·by_cases hb:a=b
      ·subst hb; exact .inr (.inr (.inl rfl))
      ·rcases L.gn a z with z | z | z
       ·rw [aO hb] at z; exact .inl z
       ·exact .inr (.inl z)
       ·exact .inr (.inr (.inr z))
     ·exact hr _ ((aM.put g).trans L.gg) (L.gg _ _ bE)
     ·rcases z.cons with ⟨_,_,_,z,_⟩ | z
      ·simp at z
      ·rcases L.ao a z with z | z
       ·exact .inl z
       ·exact .inr (.inr z)
     ·rcases z.cons with ⟨_,_,_,z,_⟩ | z
      ·simp at z
      ·exact L.an a z
 | .slot i :: hs,pins,ρ,G,xs,as,ρ1,r,h,e=>by
  obtain ⟨x,r',rfl,h1,h2,h3⟩:=h;have h1:σ[i]?=some (some x):=h1
  cases pins with
  | nil=>simp [bL] at e
  | cons p ps =>
   simp only [bL] at e;split at e
   ·rename_i d hd
    cases q:bL ps hs ρ with
    | none=>rw [q] at e; cases e
    | some y =>
     obtain ⟨as',ρ'⟩:=y;rw [q] at e;simp only [Option.map_some,Option.some.injEq,Prod.mk.injEq] at e;obtain ⟨rfl,rfl⟩:=e;obtain ⟨G2,L⟩:=kH hs ps ρ G r' as' ρ' r h2 q;obtain ⟨v,h4,h5⟩:=r.sh i d hd;rw [h1] at h4; cases h4;refine ⟨G2,L.gg,L.gn,L.ra.cons_sh (aE.mono L.gg d h5),L.rc,fun a z=>?_,fun a z=>?_,L.ro⟩
     ·rcases z.cons with ⟨_,_,_,z,_⟩ | z
      ·cases z
      ·exact L.ao a z
     ·rcases z.cons with ⟨_,_,_,z,_⟩ | z
      ·cases z
      ·exact L.an a z
   ·rename_i d pin lk hd;obtain ⟨b,h4,g,o⟩:=r.ow i d pin lk hd;rw [h1] at h4; cases h4;have hown:aR ρ σ b:=⟨i,d,pin,lk,hd,h1⟩
    have nt:¬ mO hs r' b:=fun z=>(h2.tmp_own z).1 hown
    have nu:¬ aR (ρ.set i .un) σ b:=r.unset_not hd h1
    cases p with
    | true =>
     simp only at e
     cases q:bL ps hs (ρ.set i .un) with
     | none=>rw [q] at e; cases e
     | some y =>
      obtain ⟨as',ρ'⟩:=y;rw [q] at e;simp only [Option.map_some,Option.some.injEq,Prod.mk.injEq] at e;obtain ⟨rfl,rfl⟩:=e;obtain ⟨G2,L⟩:=kH hs ps (ρ.set i .un) G r' as' ρ' (r.unset i) (h2.grow (aM.refl _) (fun a z=>(h2.tmp_own z).2.2.2) fun a z=>z.unset) q
      have g2:G2 b=none:=by
       cases w:G2 b with
       | none=>rfl
       | some o' =>
        rcases L.gn b (by rw [w]; simp) with z | z | z
        ·exact absurd g z
        ·exact absurd z nu
        ·exact absurd z nt
      have nb:¬ aR as' (r'.map some) b:=fun z=>by
       rcases L.ao b z with z | z
       ·exact nu z
       ·exact nt z
      refine ⟨G2,L.gg,fun a z=>?_,L.ra.cons_ow g2 (o.mono L.gg fun _ z=>z) nb,L.rc,fun a z=>?_,fun a z=>?_,fun a z=>(L.ro a z).unset⟩
      ·rcases L.gn a z with z | z | z
       ·exact .inl z
       ·exact .inr (.inl z.unset)
       ·exact .inr (.inr z)
      ·rcases z.cons with ⟨_,_,_,_,z⟩ | z
       ·cases z; exact .inl hown
       ·rcases L.ao a z with z | z
        ·exact .inl z.unset
        ·exact .inr z
      ·rcases z.cons with ⟨_,_,_,_,z⟩ | z
       ·cases z; exact fun w=>nu (L.ro _ w)
       ·exact L.an a z
    | false =>
     simp only at e;split at e
     ·cases e
     ·cases q:bL ps hs (ρ.set i (.sh d)) with
      | none=>rw [q] at e; cases e
      | some y =>
       obtain ⟨as',ρ'⟩:=y;rw [q] at e;simp only [Option.map_some,Option.some.injEq,Prod.mk.injEq] at e;obtain ⟨rfl,rfl⟩:=e;obtain ⟨ob,hv,hr⟩:=o.put
       have tb:∀ a,mO hs r' a→(aV G b ob) a=none:=fun a z=>by
        have hb:a≠b:=fun w=>by subst w; exact nt z
        rw [aO hb];exact (h2.tmp_own z).2.2.2
       have rb:∀ G2,aM (aV G b ob) G2→aE K G2 d (.ref b):=fun G2 s2=>hr _ ((aM.put g).trans s2) (s2 _ _ bE)
       obtain ⟨G2,L⟩:=kH hs ps (ρ.set i (.sh d)) (aV G b ob) r' as' ρ' (((r.unset i).grow hv g nu).put_sh h1 (rb _ (aM.refl _)))
        (h2.grow (aM.put g) tb fun a z=>z.put_sh.unset) q
       refine ⟨G2,(aM.put g).trans L.gg,fun a z=>?_,L.ra.cons_sh (rb G2 L.gg),L.rc,fun a z=>?_,fun a z=>?_,fun a z=>(L.ro a z).put_sh.unset⟩
       ·by_cases hb:a=b
        ·subst hb; exact .inr (.inl hown)
        ·rcases L.gn a z with z | z | z
         ·rw [aO hb] at z; exact .inl z
         ·exact .inr (.inl z.put_sh.unset)
         ·exact .inr (.inr z)
       ·rcases z.cons with ⟨_,_,_,z,_⟩ | z
        ·cases z
        ·rcases L.ao a z with z | z
         ·exact .inl z.put_sh.unset
         ·exact .inr z
       ·rcases z.cons with ⟨_,_,_,z,_⟩ | z
        ·cases z
        ·exact L.an a z
   ·cases e
end
section
variable {K:Frag} {ρ ρ1 ρ0:Env} {σ τ:St} {H G H' G' H0 G0:Hp} {own own' new new':Addr→Prop}
theorem Rel.keep (r:Rel K ρ σ H G) (e:Ext own H G H' G') (n:∀ a,aR ρ σ a→¬ own a) (s:aM G' H'):Rel K ρ σ H' G':=by
 refine ⟨r.len,s,fun i d h=>?_,fun i d p l h=>?_,r.inj⟩
 ·obtain ⟨v,h1,h2⟩:=r.sh i d h;exact ⟨v,h1,aE.mono e.gg d h2⟩
 ·obtain ⟨a,h1,g,o⟩:=r.ow i d p l h;have na:=n a ⟨i,d,p,l,h,h1⟩;obtain ⟨vs,hv⟩:=o.there;exact ⟨a,h1,e.gn a (by rw [hv]; simp) g na,o.mono e.gg fun o' h'=>e.hh a o' h' na⟩
theorem Rel.tail {a:Sl} {as:List Sl} {v:Option V} (r:Rel K (a :: as) (v :: τ) H G):Rel K as τ H G:=by
 refine ⟨by have:=r.len; simpa using this,r.sub,fun i d h=>?_,fun i d p l h=>?_,fun i j d p l d' p' l' b h1 h2 h3 h4=>?_⟩
 ·simpa using r.sh (i+1) d (by simpa using h)
 ·simpa using r.ow (i+1) d p l (by simpa using h)
 ·have:=r.inj (i+1) (j+1) d p l d' p' l' b (by simpa using h1) (by simpa using h2) (by simpa using h3) (by simpa using h4)
  omega
theorem aR.tail {a:Sl} {as:List Sl} {v:Option V} {b:Addr} (h:aR as τ b):aR (a :: as) (v :: τ) b:=by
 obtain ⟨i,d,p,l,h1,h2⟩:=h;exact ⟨i+1,d,p,l,by simpa using h1,by simpa using h2⟩
theorem nY:∀ (hs:List Hd) (pins:List Bool) (as:List Sl) (xs:List V) (ρ ρ':Env),Rel K as (xs.map some) H G→Rel K ρ σ H G→(∀ a,aR as (xs.map some) a→¬ aR ρ σ a)→dC K H0 G0 own new σ hs xs →
  aW pins hs as ρ0 ρ=some ρ'→Rel K ρ' σ H G∧∀ a,aR ρ' σ a→aR ρ σ a∨aR ρ0 σ a
 | [],pins,as,xs,ρ,ρ',ra,r,n,h,e=>by
  cases pins with
  | nil =>
   cases as with
   | nil =>
    simp only [aW,Option.some.injEq] at e;subst e;exact ⟨r,fun _ z=>.inl z⟩
   | cons a as=>simp [aW] at e
  | cons p ps=>cases p <;> cases as <;> simp [aW] at e
 | h :: hs,pins,as,xs,ρ,ρ',ra,r,n,hh,e=>by
  obtain ⟨x,r',rfl,h1,h2,h3⟩:=hh
  cases pins with
  | nil=>simp [aW] at e
  | cons p ps =>
   cases as with
   | nil=>cases p <;> simp [aW] at e
   | cons a as' =>
    have skip:aW ps hs as' ρ0 ρ=some ρ'→Rel K ρ' σ H G∧∀ a,aR ρ' σ a→aR ρ σ a∨aR ρ0 σ a:=fun e' =>
     nY hs ps as' r' ρ ρ' ra.tail r (fun b z=>n b z.tail) h2 e'
    cases p with
    | false=>cases h <;> exact skip (by simpa [aW] using e)
    | true =>
     cases h with
     | val v=>exact skip (by simpa [aW] using e)
     | slot i =>
      have h1:σ[i]?=some (some x):=h1;simp only [aW] at e;split at e
      ·rename_i _ pin lk d p' l' hi;obtain ⟨b,hb,g,o⟩:=ra.ow 0 d p' l' rfl;simp only [Zs,zr,Option.some.injEq] at hb;subst hb;have nb:¬ aR ρ σ b:=n b ⟨0,d,p',l',rfl,rfl⟩;have r2:Rel K (ρ.set i (.ow d pin lk)) σ H G:=(r.unset i).put_ow h1 g o fun z=>nb z.unset
       obtain ⟨r3,r4⟩:=nY hs ps as' r' (ρ.set i (.ow d pin lk)) ρ' ra.tail r2 (fun c z w=>by
        rcases w.put_ow h1 with rfl | w
        ·obtain ⟨j,d2,p2,l2,z1,z2⟩:=z
         have:=ra.inj 0 (j+1) d p' l' d2 p2 l2 c rfl (by simpa using z1) rfl (by simpa using z2)
         omega
        ·exact n c z.tail w.unset) h2 e
       refine ⟨r3,fun c z=>?_⟩;rcases r4 c z with z | z
       ·rcases z.put_ow h1 with rfl | z
        ·exact .inr ⟨i,_,pin,lk,hi,h1⟩
        ·exact .inl z.unset
       ·exact .inr z
      ·cases e
      ·exact skip e
def kO (pins:List Bool) (hs:List Hd) (i:Nat):Prop:=∃ j:Nat,pins[j]?=some true∧hs[j]?=some (.slot i)
theorem kO.cons {p:Bool} {ps:List Bool} {h:Hd} {hs:List Hd} {i:Nat} (l:kO ps hs i):kO (p :: ps) (h :: hs) i:=by
 obtain ⟨j,h1,h2⟩:=l;exact ⟨j+1,by simpa using h1,by simpa using h2⟩
theorem BW:∀ (hs:List Hd) (pins:List Bool) (ρ:Env) (as:List Sl) (ρ1:Env),bL pins hs ρ=some (as,ρ1)→∀ i:Nat,dE ρ[i]? ρ1[i]?∨(kO pins hs i∧∃ d p l,ρ[i]?=some (.ow d p l))
 | [],pins,ρ,as,ρ1,e,i=>by
  cases pins <;> simp [bL] at e;obtain ⟨_,rfl⟩:=e;exact .inl (dE.refl _)
 | h :: hs,pins,ρ,as,ρ1,e,i=>by
  cases pins with
  | nil=>cases h with
   | slot i=>simp [bL] at e
   | val v=>cases v <;> simp [bL] at e
  | cons p ps =>
   have fin:∀ {ρ':Env} {g:Sl},(bL ps hs ρ').map (fun (as,ρ')=>(g :: as,ρ'))=some (as,ρ1)→dE ρ'[i]? ρ1[i]?∨(kO ps hs i∧∃ d p l,ρ'[i]?=some (.ow d p l)):=by
    intro ρ' g e
    cases q:bL ps hs ρ' with
    | none=>rw [q] at e; cases e
    | some y =>
     obtain ⟨as',ρ2⟩:=y;rw [q] at e;simp only [Option.map_some,Option.some.injEq,Prod.mk.injEq] at e;obtain ⟨_,rfl⟩:=e;exact BW hs ps ρ' as' ρ2 q i
   have same:∀ {g:Sl},(bL ps hs ρ).map (fun (as,ρ')=>(g :: as,ρ'))=some (as,ρ1)→dE ρ[i]? ρ1[i]?∨(kO (p :: ps) (h :: hs) i∧∃ d p l,ρ[i]?=some (.ow d p l)):=by
    intro g e;rcases fin e with z | ⟨z,w⟩
    ·exact .inl z
    ·exact .inr ⟨z.cons,w⟩
   cases h with
   | val v=>cases v <;> exact same e
   | slot i0 =>
    simp only [bL] at e;split at e
    ·exact same e
    ·rename_i d pin lk hd
     cases p with
     | true =>
      simp only at e;by_cases hi:i=i0
      ·subst hi;exact .inr ⟨⟨0,rfl,rfl⟩,d,pin,lk,hd⟩
      ·have:=fin e
       rw [Zf (fun z=>hi z.symm)] at this;rcases this with z | ⟨z,w⟩
       ·exact .inl z
       ·exact .inr ⟨z.cons,w⟩
     | false =>
      simp only at e;split at e
      ·cases e
      ·rename_i hp;simp only [Bool.or_eq_true,not_or,Bool.not_eq_true] at hp;have ev0:i4 ρ (ρ.set i0 (.sh d)):=i4.set (by rw [hd]; exact hp.1);rcases fin e with z | ⟨z,d',p',l',w⟩
       ·exact .inl ((ev0 i).trans z)
       ·have:=ev0 i
        rw [w] at this;obtain ⟨d2,e2⟩:=this.ow_of;exact .inr ⟨z.cons,d2,p',l',e2⟩
    ·cases e
theorem mI:∀ (hs:List Hd) (pins:List Bool) (as:List Sl) (ρ ρ':Env),aW pins hs as ρ0 ρ=some ρ'→∀ i:Nat,(ρ'[i]?=ρ[i]?∨∃ d d' p l,ρ0[i]?=some (.ow d p l)∧ρ'[i]?=some (.ow d' p l)) ∧
  (kO pins hs i→(∃ d p l,ρ0[i]?=some (.ow d p l))→i<ρ.length→∃ d d' p l,ρ0[i]?=some (.ow d p l)∧ρ'[i]?=some (.ow d' p l))
 | [],pins,as,ρ,ρ',e,i=>by
  cases pins with
  | nil =>
   cases as with
   | nil =>
    simp only [aW,Option.some.injEq] at e;subst e;exact ⟨.inl rfl,fun ⟨j,h,_⟩=>by simp at h⟩
   | cons a as=>simp [aW] at e
  | cons p ps=>cases p <;> cases as <;> simp [aW] at e
 | h :: hs,pins,as,ρ,ρ',e,i=>by
  cases pins with
  | nil=>simp [aW] at e
  | cons p ps =>
   cases as with
   | nil=>cases p <;> simp [aW] at e
   | cons a as' =>
    have uncons:¬ (p=true∧h=.slot i)→kO (p :: ps) (h :: hs) i→kO ps hs i:=fun n ⟨j,h1,h2⟩=>by
     cases j with
     | zero =>
      simp only [zr,Option.some.injEq] at h1 h2;exact absurd ⟨h1,h2⟩ n
     | succ j=>exact ⟨j,by simpa using h1,by simpa using h2⟩
    have skip:¬ (p=true∧h=.slot i)∨¬ (∃ d p l,ρ0[i]?=some (.ow d p l))→aW ps hs as' ρ0 ρ=some ρ'→(ρ'[i]?=ρ[i]?∨∃ d d' p l,ρ0[i]?=some (.ow d p l)∧ρ'[i]?=some (.ow d' p l)) ∧
      (kO (p :: ps) (h :: hs) i→(∃ d p l,ρ0[i]?=some (.ow d p l))→i<ρ.length→∃ d d' p l,ρ0[i]?=some (.ow d p l)∧ρ'[i]?=some (.ow d' p l)):=fun n e'=>by
     obtain ⟨h1,h2⟩:=mI hs ps as' ρ ρ' e' i;refine ⟨h1,fun l o=>?_⟩;rcases n with n | n
     ·exact h2 (uncons n l) o
     ·exact absurd o n
    cases p with
    | false=>cases h <;> exact skip (.inl (by simp)) (by simpa [aW] using e)
    | true =>
     cases h with
     | val v=>exact skip (.inl (by simp)) (by simpa [aW] using e)
     | slot i0 =>
      simp only [aW] at e;split at e
      ·rename_i d0 pin lk d p' l' hi;obtain ⟨h1,h2⟩:=mI hs ps as' _ ρ' e i;by_cases hii:i=i0
       ·subst hii;refine ⟨?_,fun l o hl=>?_⟩
        ·rcases h1 with h1 | h1
         ·by_cases hl:i<ρ.length
          ·rw [zk hl] at h1;exact .inr ⟨_,_,_,_,hi,h1⟩
          ·exact .inl (by rw [h1,List.getElem?_eq_none (by rw [zg]; omega),List.getElem?_eq_none (by omega)])
         ·exact .inr h1
        ·rcases h1 with h1 | h1
         ·rw [zk hl] at h1;exact ⟨_,_,_,_,hi,h1⟩
         ·exact h1
       ·rw [Zf (fun z=>hii z.symm)] at h1;refine ⟨h1,fun l o hl=>h2 (uncons (fun z=>hii (by have:=z.2; simp at this; exact this.symm)) l) o (by rw [zg]; exact hl)⟩
      ·cases e
      ·rename_i hn1 hn2;refine skip ?_ e;by_cases hii:i=i0
       ·subst hii;refine .inr fun ⟨d,p,l,z⟩=>?_
        exact hn1 d p l z
       ·exact .inl fun z=>hii (by have:=z.2; simp at this; exact this.symm)
theorem rW {pins:List Bool} {f:List Sl→aS RV} {hs:List Hd} {xs:List V} {v:RV} {ρ':Env} (a:Aft K ρ0 σ H0 G0 ρ H G) (h:dC K H G (aR ρ σ) (eZ H0) σ hs xs) (e:fL pins f hs ρ=some (.ok v,ρ')) :
  ∃ as G2 as',Rel K as (xs.map some) H G2∧as.length=pins.length∧f as=some (.ok v,as')∧(aM G G2∧∀ c,aR as (xs.map some) c→aR ρ σ c∨mO hs xs c)∧∀ x H' G',Aft K as (xs.map some) H G2 as' H' G'→dQ K H' G' (aR as' (xs.map some)) (eZ H) v x →
   Aft K ρ0 σ H0 G0 ρ' H' G'∧dQ K H' G' (aR ρ' σ) (eZ H0) v x:=by
 unfold fL at e
 cases q:bL pins hs ρ with
 | none=>rw [q] at e; cases e
 | some y =>
  obtain ⟨as,ρ1⟩:=y;rw [q] at e;simp only at e
  cases q2:f as with
  | none=>rw [q2] at e; cases e
  | some y =>
   obtain ⟨o,as'⟩:=y;rw [q2] at e;simp only at e
   cases q3:aW pins hs as' ρ ρ1 with
   | none=>rw [q3] at e; cases e
   | some ρ2 =>
    rw [q3] at e;simp only [Option.map_some,Option.some.injEq,Prod.mk.injEq] at e;obtain ⟨rfl,rfl⟩:=e;obtain ⟨G2,L⟩:=kH hs pins ρ G xs as ρ1 a.rel h q;refine ⟨as,G2,as',L.ra, ?_,q2,⟨L.gg,L.ao⟩,fun x H' G' b hv=>?_⟩
    ·have:∀ (hs:List Hd) (pins:List Bool) (ρ:Env) (as:List Sl) (ρ1:Env),bL pins hs ρ=some (as,ρ1)→as.length=pins.length:=by
      intro hs
      induction hs with
      | nil =>
       intro pins ρ as ρ1 e;cases pins <;> simp [bL] at e;obtain ⟨rfl,_⟩:=e;rfl
      | cons h hs ih =>
       intro pins ρ as ρ1 e
       cases pins with
       | nil=>cases h with
        | slot i=>simp [bL] at e
        | val v=>cases v <;> simp [bL] at e
       | cons p ps =>
        have fin:∀ {o:Option (List Sl × Env)} {g:Sl},(o.map fun (as,ρ')=>(g :: as,ρ'))=some (as,ρ1)→(∀ as' ρ',o=some (as',ρ')→as'.length=ps.length)→as.length=(p :: ps).length:=by
         intro o g e k
         cases o with
         | none=>cases e
         | some y =>
          obtain ⟨as',ρ'⟩:=y;simp only [Option.map_some,Option.some.injEq,Prod.mk.injEq] at e;rw [← e.1,Zk,Zk,k as' ρ' rfl]
        cases h with
        | slot i =>
         simp only [bL] at e;split at e
         ·exact fin e fun as' ρ' z=>ih _ _ _ _ z
         ·split at e
          ·exact fin e fun as' ρ' z=>ih _ _ _ _ z
          ·split at e
           ·cases e
           ·exact fin e fun as' ρ' z=>ih _ _ _ _ z
         ·cases e
        | val v =>
         cases v with
         | sh d=>exact fin e fun as' ρ' z=>ih _ _ _ _ z
         | ow d=>exact fin e fun as' ρ' z=>ih _ _ _ _ z
     exact this hs pins ρ as ρ1 q
    ·have own_there:∀ c,aR as (xs.map some) c→H c≠none:=fun c z=>(L.ra.owned z).1
     have rc:Rel K ρ1 σ H' G':=L.rc.keep b.ext (fun c z w=>L.an c w z) b.rel.sub;obtain ⟨r3,r4⟩:=nY hs pins as' xs ρ1 ρ2 b.rel rc (fun c z w=>L.an c (b.own c z) w) h q3
     have own2:∀ c,aR ρ2 σ c→aR ρ σ c:=fun c z=>by
      rcases r4 c z with z | z
      ·exact L.ro c z
      ·exact z
     have hown:∀ c,aR as (xs.map some) c→aR ρ0 σ c∨H0 c=none:=fun c z=>by
      rcases L.ao c z with z | z
      ·exact .inl (a.own c z)
      ·exact .inr (h.tmp_own z).2.1
     have evo2:i4 ρ ρ2:=fun i=>by
      obtain ⟨g1,g2⟩:=mI hs pins as' ρ1 ρ2 q3 i;rcases BW hs pins ρ as ρ1 q i with z | ⟨z,o⟩
      ·rcases g1 with g1 | ⟨d,d',p,l,w1,w2⟩
       ·rw [g1]; exact z
       ·rw [w1,w2]; exact ⟨rfl,rfl⟩
      ·have hl:i<ρ1.length:=by
        obtain ⟨d,p,l,o⟩:=o;rw [L.rc.len,← a.rel.len];exact (Zc.mp o).1
       obtain ⟨d,d',p,l,w1,w2⟩:=g2 z o hl;rw [w1,w2]; exact ⟨rfl,rfl⟩
     refine ⟨⟨r3,⟨a.ext.gg.trans (L.gg.trans b.ext.gg),fun c o hc nc=>?_,fun c z=>a.ext.hx c (b.ext.hx c z),fun c hc gc nc=>?_⟩,a.evo.trans evo2⟩, ?_⟩
     ·refine b.ext.hh c o (a.ext.hh c o hc nc) fun z=>?_
      rcases hown c z with z | z
      ·exact nc z
      ·rw [hc] at z; cases z
     ·have hc':H c≠none:=fun z=>hc (a.ext.hx c z)
      have g1:G c=none:=a.ext.gn c hc gc nc
      have g2:G2 c=none:=by
       cases w:G2 c with
       | none=>rfl
       | some o =>
        rcases L.gn c (by rw [w]; simp) with z | z | z
        ·exact absurd g1 z
        ·exact absurd (a.own c z) nc
        ·exact absurd (h.tmp_own z).2.1 hc
      refine b.ext.gn c hc' g2 fun z=>?_
      rcases hown c z with z | z
      ·exact nc z
      ·exact hc z
     ·cases v with
      | sh d=>exact hv
      | ow d =>
       obtain ⟨c,rfl,g,o,n,m⟩:=hv;exact ⟨c,rfl,g,o,fun z=>(a.rel.owned (own2 c z)).1 m,a.ext.hx c m⟩
end
inductive GV where
 | no | con (d:D) | fn (f:String) | blt | cls (ns:List Str) | mth (tb:List (Str × String)) | sub (s n:List Str) | subx (s n:List Str) | exc | exs (cs:List Str)
structure CC where
 N:List Str
 names:List (Str × NameKind)
 gl:Str→GV
 top:Bool
noncomputable def CC.isGl (Γ:CC) (x:Str):Bool:=Γ.names.lookup x == some .globalImplicit
noncomputable def CC.isVis (Γ:CC) (x:Str):Bool:=Γ.names.lookup x == some .local || Γ.names.lookup x == some .cell || Γ.names.lookup x == some .free
noncomputable def jP (x:Str):Bool:=x == ("__debug__":Str) || x == ("__classdict__":Str) || x == ("__name__":Str)
noncomputable def CC.slot (Γ:CC) (x:Str):Option Nat:=if jP x then none else if Γ.isVis x then Γ.N.idxOf? x else none
noncomputable def CC.glob (Γ:CC) (x:Str):GV:=if jP x then .no else if Γ.isGl x then Γ.gl x else .no
noncomputable def wR (Γ:CC) (x:Str):E :=
 match Γ.slot x with
 | some i=>.var i
 | none=>match Γ.glob x with
  | .con d=>.con d
  | _=>.bad
noncomputable def CD:Const→E
 | .none=>.con .non
 | .bool b=>.con (.bl b)
 | .int i=>.con (.int i)
 | .str s=>if PyData.strOk s then .con (.str s) else .bad
 | _=>.bad
noncomputable def GH (f:Str):Option BI :=
 if f=("len":Str) then some .len else if f=("abs":Str) then some .abs else if f=("int":Str) then some .int else if f=("list":Str) then some .list
 else if f=("tuple":Str) then some .tuple else if f=("min":Str) then some .min else if f=("max":Str) then some .max else if f=("all":Str) then some .all else if f=("repr":Str) then some .repr else none
noncomputable def IQ (Γ:CC):Expr→Option Ty
 | .Name x _=>match Γ.glob x with
  | .blt=>if x=("int":Str) then some .int else if x=("bool":Str) then some .bool else if x=("str":Str) then some .str else if x=("list":Str) then some .list else if x=("tuple":Str) then some .tuple else if x=("ValueError":Str) then some .verr else none
  | _=>none
 | _=>none
theorem y4 {p:Prop} (h:false=true):p:=nomatch h
noncomputable def JK:Expr→Option Str
 | .Name x _=>some x
 | _=>none
noncomputable def rL:E→E
 | .omt=>.bad
 | c=>c
noncomputable def a9:Expr→Bool
 | .Starred _ _=>false
 | _=>true
noncomputable def nF (x:Str):Str:=⟨#[58] ++ x.cps⟩
noncomputable def CC.globS (Γ:CC) (x:Str):GV:=if jP x then .no else if Γ.isGl x then Γ.gl (nF x) else .no
noncomputable def Q0 (Γ:CC):List Expr→Option (List (List Str × List Str))
 | []=>some []
 | .Name x _ :: es=>(match Γ.globS x with
  | .subx s n=>(Q0 Γ es).map ((s,n) :: ·)
  | _=>none)
 | _=>none
noncomputable def IY (x:Str):Str:=⟨#[94] ++ x.cps⟩
noncomputable def Y8 (Γ:CC) (t:Expr) (a:E):E:=match t with
 | .Name x _=>(match Γ.globS x with
  | .sub s n=>.bad
  | .subx s n=>.bad
  | _=>.bad)
 | .Tuple es _ _=>(match Q0 Γ es with
  | some sn=>if es.length≤100 then .bad else .bad
  | none=>.bad)
 | _=>.bad
noncomputable def CK (Γ:CC) (args:List Expr) (cs:List E):E :=
 match args,cs with
 | [_,t],[a,_]=>(match IQ Γ t with | some ty=>.isi a [ty] | none=>Y8 Γ t a)
 | _,_=>.bad
noncomputable def IF:List (Option Expr)→List Expr→List E→E
 | [some _],[.Constant (.int b) _ _],[c]=>.dict1 c b
 | _,_,_=>.bad
noncomputable def sC (m:Str):Str:=⟨#[46] ++ m.cps⟩
noncomputable def OR (Γ:CC) (x m:Str) (apos cpos:Pos) (args:List Expr) (cs:List E):E :=
 match Γ.gl (sC m) with
 | .mth tb=>if args.all a9 && (apos.endLine == cpos.line) && decide (args.length<29) then (match Γ.slot x with | some i=>.meth i m tb cs | none=>.bad) else .bad
 | _=>match args,cs with
  | [a],[c]=>if a9 a && (apos.endLine == cpos.line) && (m == ("append":Str)) then (match Γ.slot x with | some i=>.app i c | none=>.bad) else if a9 a && (apos.endLine == cpos.line) && (m == ("extend":Str)) then .bad else .bad
  | [],[]=>if (apos.endLine == cpos.line) && (m == ("bit_length":Str)) then .bad else .bad
  | [a,b],[c,c']=>if a9 a && a9 b && (apos.endLine == cpos.line) && (m == ("insert":Str)) then (match Γ.slot x with | some i=>.bad | none=>.bad) else .bad
  | _,_=>.bad
noncomputable def GZ (Γ:CC) (m:Str) (apos cpos:Pos) (args:List Expr) (a:E) (cs:List E):E :=
 match Γ.gl (sC m) with
 | .mth tb=>if args.all a9 && (apos.endLine == cpos.line) && decide (args.length<29) then .bad else .bad
 | _=>.bad
noncomputable def CJ:Expr→Bool
 | .Call (.Name f _) [_] [] _=>f == ("set":Str)
 | _=>false
noncomputable def WY (args:List Expr) (cs:List E):E :=
 match args,cs with
 | [a],[.mkset c]=>if CJ a then .nset c else .bif .len cs
 | _,_=>.bif .len cs
noncomputable def M5 (cs:List E):E :=
 match cs with
 | [c]=>.mkset c
 | _=>.bad
noncomputable def BV:Expr→Bool
 | .Call (.Name f _) (_ :: _) [] _=>f == ("range":Str)
 | _=>false
noncomputable def RL (args:List Expr) (cs:List E):E :=
 match args,cs with
 | [a],[.mkrng c]=>if BV a then .lrng c else .bif .list cs
 | _,_=>.bif .list cs
noncomputable def uZ (f:Str) (args:List Expr) (cs:List E):E :=
 if f=("len":Str) then WY args cs else if f=("set":Str) then M5 cs else if f=("range":Str) then .mkrng cs else if f=("list":Str) then RL args cs else (match GH f with | some b=>.bif b cs | none=>.bad)
noncomputable def IA:Expr→Bool
 | .ListComp _ _ _ _=>true
 | _=>false
noncomputable def cY:Expr→Bool
 | .ListComp _ _ _ _=>false
 | .SetComp _ _ _ _=>false
 | .DictComp _ _ _ _ _=>false
 | _=>true
noncomputable def B5:Expr→Bool
 | .Slice _ _ _ _=>false
 | _=>true
noncomputable def vX:Expr→Bool
 | .Set _ _ _=>false
 | _=>true
noncomputable def xQ:Expr→Bool
 | .Tuple _ _ _=>false
 | _=>true
noncomputable def CC.isLoc (Γ:CC) (x:Str):Bool:=Γ.names.lookup x == some .local || (Γ.top && Γ.names.lookup x == some .cell)
noncomputable def CC.slotL (Γ:CC) (x:Str):Option Nat:=if Γ.isLoc x then Γ.slot x else none
noncomputable def DR (Γ:CC):Expr→Option Nat
 | .Name x _=>Γ.slotL x
 | _=>none
noncomputable def iF (Γ:CC):List Expr→Option (List Nat)
 | []=>some []
 | e :: es=>(DR Γ e).bind fun i=>(iF Γ es).map (i :: ·)
noncomputable def lG (Γ:CC):Expr→Option (Bool × List Nat)
 | .Name x _=>(Γ.slotL x).map fun i=>(true,[i])
 | .Tuple es _ _=>(iF Γ es).map fun is=>(false,is)
 | _=>none
noncomputable def rK (Γ:CC):Expr→Option (ItK × List Expr)
 | .Call (.Name f p) args [] pos=>if (f == ("range":Str)) then
   (match Γ.glob f with
   | .blt=>if args.all a9 && (args.length == 1 || args.length == 2) then some (.rng,args) else none
   | _=>none)
  else if (f == ("enumerate":Str)) then
   (match Γ.glob f with
   | .blt=>if args.all a9 && (args.length == 1) then some (.enum 0,args) else none
   | _=>none)
  else some (.of,[.Call (.Name f p) args [] pos])
 | .Call (.Name f p) [a] [⟨some x,.Constant (.int c) j q,kp⟩] pos=>if f == ("enumerate":Str) && x == ("start":Str) && a9 a && c == 1 then
   (match Γ.glob f with
   | .blt=>some (.enum 1,[a])
   | _=>none)
  else none
 | e=>if vX e then some (.of,[e]) else none
noncomputable def G6:Expr→Bool
 | .Slice none none (some (.UnaryOp .USub (.Constant (.int i) _ _) _)) _=>i == 1
 | _=>false
noncomputable def hU (scope:Scope):List Str:=(scope.names.filter fun p=>p.2 == NameKind.free).map (·.1)
noncomputable def iB (scope:Scope):List Str:=(scope.names.filter fun p=>p.2 == NameKind.local).map (·.1)
noncomputable def CC.inner (Γ:CC) (scope:Scope):CC :=
 ⟨hU scope ++ iB scope,scope.names.map fun (n,k)=>if (k == NameKind.free && Γ.names.lookup n == some .cell) then (n,NameKind.cell) else (n,k),Γ.gl,false⟩
noncomputable def CC.imps (Γ:CC):List Str→Option (List Nat)
 | []=>some []
 | x :: xs=>(Γ.N.idxOf? x).bind fun i=>(Γ.imps xs).map (i :: ·)
noncomputable def CC.scOk (Γ:CC) (scope:Scope):Bool:=(scope.kind == ScopeKind.function) && (scope.names.all fun p=>p.2 != NameKind.cell) && (scope.names.all fun p=>p.2 != NameKind.local || scope.names.lookup p.1 == some NameKind.local) &&
 (scope.names.all fun p=>p.2 != NameKind.free || (scope.names.lookup p.1 == some NameKind.free && (Γ.names.lookup p.1 == some NameKind.cell || Γ.names.lookup p.1 == some NameKind.free))) && decide (hU scope ++ iB scope).Nodup
noncomputable def aAC (k:ItK) (ci:E) (cargs:List E):List E:=match k with
 | .of=>[ci]
 | _=>cargs
noncomputable def lO (k:ItK) (one:Bool):Bool:=match k with
 | .enum _=>!one
 | _=>true
noncomputable def sZ (Γ:CC) (scope:Scope) (tg iter:Expr) (ci:E) (cargs cond:List E) (ce:E):E :=
 if Γ.scOk scope then
  match Γ.imps (hU scope),lG (Γ.inner scope) tg,rK Γ iter with
  | some imp,some (one,is),some (k,_)=>if one == (is.length == 1) && lO k one && k != .enum 1 then .comp ce is k (aAC k ci cargs) cond imp (iB scope).length else .bad
  | _,_,_=>.bad
 else .bad
mutual
noncomputable def cE (Γ:CC):Expr→E
 | .Name x _=>wR Γ x
 | .Constant c _ _=>CD c
 | .Tuple es _ _=>if es.all a9 then .tup (cG Γ es) else .bad
 | .List es _=>if es.all a9 then .lst (cG Γ es) else .bad
 | .Dict ks vs _=>IF ks vs (cOs Γ ks)
 | .BinOp a op b _=>.bin op (cE Γ a) (cE Γ b)
 | .UnaryOp .Not a _=>.not (cE Γ a)
 | .UnaryOp .USub a _=>.neg (cE Γ a)
 | .Compare a [op] [b] _=>if behindInMarks op b then .bad else .cmp op (cE Γ a) (cE Γ b)
 | .Compare a [op,op'] [b,c] _=>if behindInMarks op' c then .bad else .cmp2 op op' (cE Γ a) (cE Γ b) (cE Γ c)
 | .BoolOp .And (a :: b :: r) _=>.and (cE Γ a) (MW Γ (b :: r))
 | .BoolOp .Or (a :: b :: r) _=>.or (cE Γ a) (XJ Γ (b :: r))
 | .IfExp c a b _=>.bad
 | .Subscript a (.Slice lo hi none _) _=>.sl (cE Γ a) (cO Γ lo) (cO Γ hi)
 | .Subscript a i _=>if G6 i then .bad else .ix (cE Γ a) (cE Γ i)
 | .Call (.Name f _) args [] _=>if args.all a9 && decide (args≠[]) then
   match Γ.glob f with
   | .fn g=>.call g (cG Γ args)
   | .cls ns=>.make f ns (cG Γ args)
   | .blt=>if f=("isinstance":Str) then CK Γ args (cG Γ args)
     else uZ f args (cG Γ args)
   | _=>.bad
  else .bad
 | .Call (.Attribute (.Name x _) m apos) args [] cpos=>OR Γ x m apos cpos args (cG Γ args)
 | .Call (.Attribute (.Call g (a0 :: as0) kw p) m apos) args [] cpos=>GZ Γ m apos cpos args (cE Γ (.Call g (a0 :: as0) kw p)) (cG Γ args)
 | .Attribute (.Name x _) f _=>.fld (wR Γ x) f
 | .ListComp elt [⟨tg,iter,[],0⟩] scope _=>sZ Γ scope tg iter (cE Γ iter) (A3 Γ iter) [] (cE (Γ.inner scope) elt)
 | .ListComp elt [⟨tg,iter,[c],0⟩] scope _=>sZ Γ scope tg iter (cE Γ iter) (A3 Γ iter) [cE (Γ.inner scope) c] (cE (Γ.inner scope) elt)
 | _=>.bad
noncomputable def A3 (Γ:CC):Expr→List E
 | .Call _ args _ _=>cG Γ args
 | _=>[]
noncomputable def cG (Γ:CC):List Expr→List E
 | []=>[]
 | e :: es=>cE Γ e :: cG Γ es
noncomputable def cOs (Γ:CC):List (Option Expr)→List E
 | []=>[]
 | o :: os=>cO Γ o :: cOs Γ os
noncomputable def MW (Γ:CC):List Expr→E
 | []=>.bad
 | [a]=>cE Γ a
 | a :: b :: r=>.and (cE Γ a) (MW Γ (b :: r))
noncomputable def XJ (Γ:CC):List Expr→E
 | []=>.bad
 | [a]=>cE Γ a
 | a :: b :: r=>.or (cE Γ a) (XJ Γ (b :: r))
noncomputable def cO (Γ:CC):Option Expr→E
 | none=>.omt
 | some e=>rL (cE Γ e)
end
noncomputable def J3 (K:Frag) (n:Nat) (run:List Sl→aS RV):Sp:=fun vs H Q _=>vs.length=n∧∃ (as:List Sl) (G:Hp) (v:RV) (as':List Sl),Rel K as (vs.map some) H G∧as.length=n∧run as=some (.ok v,as') ∧
 ∀ x H' G',Aft K as (vs.map some) H G as' H' G'→dQ K H' G' (aR as' (vs.map some)) (eZ H) v x→Q x H'
structure FnAt (X:Cx) (K:Frag) (x:Str) (n:Nat) (run:List Sl→aS RV):Prop where
 ex:∃ (fa:Addr) (fd:FuncData) (ps:List Str) (k:Nat),FnOk X.prog X.w X.K X.mg X.base sS k fa fd ps (J3 K n run)∧Room k X.A∧X.mg x=some (.ref fa)∧PySem.W.keepIn X.K (.ref fa)=true∧hE X.K fd ps []
noncomputable def LX (K:Frag) (ns:List Str):Sp:=fun vs H Q _=>∃ a C dx xs,vs=.ref a :: xs∧xs.length=ns.length∧H a=some (.ins C dx [])∧ClsF K C ns∧Q .non (aV H a (.ins C dx (ns.zip xs)))
structure MkAt (X:Cx) (K:Frag) (x:Str) (ns:List Str):Prop where
 ex:∃ (Ca fa:Addr) (fd:FuncData) (ps:List Str),nsIn K mainGlobals x=some (some (.ref Ca))∧X.mg x=some (.ref Ca)∧Mk X.K Ca fa∧ClsF K Ca ns∧FnOk X.prog X.w X.K X.mg X.base sS 1 fa fd ps (LX K ns)∧hE X.K fd ps []
structure MethAt (X:Cx) (K:Frag) (c m:Str) (n:Nat) (run:List Sl→aS RV):Prop where
 ex:∃ (Ca fa:Addr) (fd:FuncData) (ps:List Str) (k:Nat),nsIn K mainGlobals c=some (some (.ref Ca))∧Meth X.K Ca m fa∧FnOk X.prog X.w X.K X.mg X.base sS k fa fd ps (J3 K n run)∧Room k X.A∧hE X.K fd ps []∧Cls K Ca
structure NotC (K:Frag) (D C:Addr):Prop where
 a:PySem.W.kin_not K D C=true
 b:PySem.W.plainGet K D "__class__"=true
 c:PySem.W.hasDictIn K D=true
 d:findIn K (.ref D) "__class__"=some (some (.builtin "object.__class__"))
 e:PySem.W.specialIn K (.builtin "object.__class__") "__get__"=some (some (.builtin "getset_descriptor.__get__"))
 f:PySem.W.takesIn K (.builtin "object.__class__")=some true
 g:PySem.W.mroIn K D (.type "object")=some true
structure SubAt (K:Frag) (mg:Str→Option Value) (x:Str) (s n:List Str):Prop where
 ex:∃ C,mg x=some (.ref C)∧(∀ c∈s,∀ Ca,nsIn K mainGlobals c=some (some (.ref Ca))→PySem.W.isIn K (.ref Ca) C=true)∧∀ c∈n,∀ Ca,nsIn K mainGlobals c=some (some (.ref Ca))→NotC K Ca C
structure FnAtX (X:Cx) (K:Frag) (x:Str) (n:Nat) (run:List Sl→aS RV):Prop where
 ex:True
structure ExcAt (K:Frag) (mg:Str→Option Value) (x:Str):Prop where
 ex:∃ C,nsIn K mainGlobals x=some (some (.ref C))∧mg x=some (.ref C)∧ExcG K C
structure ExsAt (K:Frag) (mg:Str→Option Value) (x:Str) (cs:List Str):Prop where
 ex:∃ D,mg x=some (.ref D)∧PySem.W.excIn K D K2 "ValueError.__new__"=true∧∀ c∈cs,∀ C,nsIn K mainGlobals c=some (some (.ref C))→PySem.W.mroIn K C (.ref D)=some true
structure SubX (K:Frag) (mg:Str→Option Value) (x:Str) (s n:List Str):Prop where
 ex:∃ D,mg x=some (.ref D)∧(∀ c∈s,∀ C,nsIn K mainGlobals c=some (some (.ref C))→PySem.W.isIn K (.ref C) D=true)∧∀ c∈n,∀ C,nsIn K mainGlobals c=some (some (.ref C))→PySem.W.kin_not K C D=true
structure XOkB (q:Bool) (X:Cx) (K:Frag) (P:aQ) (C:Calls) (Γ:CC):Prop where
 keq:X.K=K
 neq:X.N=Γ.N
 nm:X.env.scope.names=Γ.names
 nd:Γ.N.Nodup
 con:∀ x d,Γ.gl x=.con d→∃ u v,X.mg x=some u∧bC v u∧∀ G,aE K G d v
 blt:∀ x,Γ.gl x=.blt→X.mg x=none
 sub:∀ x s n,Γ.gl (nF x)=.sub s n→SubAt K X.mg x s n
 subx:∀ x s n,Γ.gl (nF x)=.subx s n→SubX K X.mg x s n
 cond:q=true→X.calm=true∧X.A.handled=none∧X.A.units+64<cLine∧(∀ x f,Γ.gl x=.fn f→FnAt X K x (P f).length (C f))∧(∀ x ns,Γ.gl x=.cls ns→MkAt X K x ns) ∧
  (∀ m tb c f,Γ.gl (sC m)=.mth tb→tb.lookup c=some f→MethAt X K c m (P f).length (C f))∧Room 2 X.A∧(∀ x,Γ.gl x=.exc→ExcAt K X.mg x)∧(∀ x cs,Γ.gl (IY x)=.exs cs→ExsAt K X.mg x cs)∧(∀ x f,Γ.gl x=.fn f→FnAtX X K x (P f).length (C f))∧∃ env0 outer0 L,X.stack=env0 :: outer0∧env0.frame=some L∧X.env.frame=some L
abbrev bP (X:Cx) (K:Frag) (P:aQ) (C:Calls) (Γ:CC):Prop:=XOkB true X K P C Γ
section
variable {X:Cx} {K:Frag} {P:aQ} {C:Calls} {Γ:CC}
theorem XOkB.calm (o:XOkB true X K P C Γ):X.calm=true:=(o.cond rfl).1
theorem XOkB.hh (o:XOkB true X K P C Γ):X.A.handled=none:=(o.cond rfl).2.1
theorem XOkB.hu (o:XOkB true X K P C Γ):X.A.units+64<cLine:=(o.cond rfl).2.2.1
theorem XOkB.fn (o:XOkB true X K P C Γ):∀ x f,Γ.gl x=.fn f→FnAt X K x (P f).length (C f):=(o.cond rfl).2.2.2.1
theorem XOkB.cls (o:XOkB true X K P C Γ):∀ x ns,Γ.gl x=.cls ns→MkAt X K x ns:=(o.cond rfl).2.2.2.2.1
theorem XOkB.mth (o:XOkB true X K P C Γ):∀ m tb c f,Γ.gl (sC m)=.mth tb→tb.lookup c=some f→MethAt X K c m (P f).length (C f):=(o.cond rfl).2.2.2.2.2.1
theorem XOkB.rm (o:XOkB true X K P C Γ):Room 2 X.A:=(o.cond rfl).2.2.2.2.2.2.1
theorem XOkB.exc (o:XOkB true X K P C Γ):∀ x,Γ.gl x=.exc→ExcAt K X.mg x:=(o.cond rfl).2.2.2.2.2.2.2.1
theorem XOkB.exs (o:XOkB true X K P C Γ):∀ x cs,Γ.gl (IY x)=.exs cs→ExsAt K X.mg x cs:=(o.cond rfl).2.2.2.2.2.2.2.2.1
theorem XOkB.fnX (o:XOkB true X K P C Γ):∀ x f,Γ.gl x=.fn f→FnAtX X K x (P f).length (C f):=(o.cond rfl).2.2.2.2.2.2.2.2.2.1
theorem XOkB.tp (o:XOkB true X K P C Γ):∃ env0 outer0 L,X.stack=env0 :: outer0∧env0.frame=some L∧X.env.frame=some L:=(o.cond rfl).2.2.2.2.2.2.2.2.2.2
theorem bP.of (keq:X.K=K) (neq:X.N=Γ.N) (nm:X.env.scope.names=Γ.names) (nd:Γ.N.Nodup) (calm:X.calm=true) (hh:X.A.handled=none) (hu:X.A.units+64<cLine)
  (con:∀ x d,Γ.gl x=.con d→∃ u v,X.mg x=some u∧bC v u∧∀ G,aE K G d v) (blt:∀ x,Γ.gl x=.blt→X.mg x=none) (fn:∀ x f,Γ.gl x=.fn f→FnAt X K x (P f).length (C f)) (cls:∀ x ns,Γ.gl x=.cls ns→MkAt X K x ns)
  (mth:∀ m tb c f,Γ.gl (sC m)=.mth tb→tb.lookup c=some f→MethAt X K c m (P f).length (C f)) (rm:Room 2 X.A) (sub:∀ x s n,Γ.gl (nF x)=.sub s n→SubAt K X.mg x s n) (subx:∀ x s n,Γ.gl (nF x)=.subx s n→SubX K X.mg x s n)
  (exc:∀ x,Γ.gl x=.exc→ExcAt K X.mg x) (exs:∀ x cs,Γ.gl (IY x)=.exs cs→ExsAt K X.mg x cs) (fnX:∀ x f,Γ.gl x=.fn f→FnAtX X K x (P f).length (C f)) (tp:∃ env0 outer0 L,X.stack=env0 :: outer0∧env0.frame=some L∧X.env.frame=some L):bP X K P C Γ :=
 ⟨keq,neq,nm,nd,con,blt,sub,subx,fun _=>⟨calm,hh,hu,fn,cls,mth,rm,exc,exs,fnX,tp⟩⟩
end
structure Ok3 (X:Cx) (K:Frag) (P:aQ) (C:Calls) (e:Expr) (c:E):Prop where
 v:PE X e (tE K P C c)
 t:PT X e (tT K P C c)
 h:PE X e (tH K P C c)
section
variable {X:Cx} {K:Frag} {P:aQ} {C:Calls} {Γ:CC}
theorem GG {e:Expr} {c:E} (h:∀ t ρ,ev P C t c ρ=none) (n:∀ i,c≠.var i):Ok3 X K P C e c:=by
 have v:PE X e (tE K P C c):=fun pins s σ H Q I ⟨ρ,G,w,ρ',r,z,k⟩=>by rw [h] at z; cases z
 exact ⟨v,(fun pins s σ H Q I ⟨ρ,G,w,ρ',r,z,k⟩=>by rw [h] at z; cases z),tF v n⟩
theorem aU {e:Expr}:Ok3 X K P C e .bad:=GG (fun t ρ=>by rw [ev]) fun i z=>nomatch z
theorem kA {e:Expr} {c:E} {q:Bool} (xo:XOkB q X K P C Γ) (h:PE X e (tE K P C c)) (n:∀ i,c≠.var i) (hw:∀ ρ,ev P C true c ρ=bK true (ev P C false c ρ))
  (he:∀ whole,isTrue e X.env whole=(do let v ← whole; standAt e.pos; holding [v] (truthy v))):Ok3 X K P C e c:=⟨h,aB3 xo.keq h hw he,tF h n⟩
theorem nC {α:Type} [BEq α] [LawfulBEq α] {l:List α} {x:α} {i:Nat} (h:l.idxOf? x=some i):l[i]?=some x:=by
 rw [List.idxOf?,List.findIdx?_eq_some_iff_getElem] at h;obtain ⟨h1,h2,_⟩:=h;rw [Zb h1];exact congrArg some (Zy h2)
theorem CC.slot_ok {q:Bool} (xo:XOkB q X K P C Γ) {x:Str} {i:Nat} (h:Γ.slot x=some i) {pos:Pos}:PE X (.Name x pos) (vG i):=by
 unfold CC.slot at h;split at h
 ·cases h
 ·rename_i hb;split at h
  ·rename_i hv;simp only [jP,Bool.or_eq_true,not_or,Bool.not_eq_true] at hb;refine DU (by rw [xo.neq]; exact nC h) ?_ hb.1.1 hb.1.2;unfold CC.isVis at hv;simp only [Bool.or_eq_true,beq_iff_eq] at hv;unfold L4;rw [xo.nm];rcases hv with (h | h) | h
   ·exact .inl h
   ·exact .inr (.inl h)
   ·exact .inr (.inr h)
  ·cases h
theorem CC.glob_ok {q:Bool} (xo:XOkB q X K P C Γ) {x:Str} {g:GV} (h:Γ.glob x=g) (hg:g≠.no):Gl X x∧Γ.gl x=g∧(x == ("__debug__":Str))=false∧x≠"__name__":=by
 unfold CC.glob at h;split at h
 ·exact absurd h.symm hg
 ·rename_i hb;split at h
  ·rename_i hv;simp only [jP,Bool.or_eq_true,not_or,Bool.not_eq_true] at hb;refine ⟨?_,h,hb.1.1,fun z=>?_⟩
   ·unfold Gl Env.kindOf;rw [xo.nm];unfold CC.isGl at hv;simpa using hv
   ·have:=hb.2
    rw [z] at this;simp at this
  ·exact absurd h.symm hg
theorem sV {e:Expr} {d:D} {v:V} {q:Bool} (xo:XOkB q X K P C Γ) (h:PE X e (tC v)) (r:∀ G,aE K G d v) (he:∀ whole,isTrue e X.env whole=(do let v ← whole; standAt e.pos; holding [v] (truthy v))):Ok3 X K P C e (.con d):=by
 refine kA xo (TE.imp_pe h fun σ H Q q=>?_) (fun i z=>nomatch z) (fun ρ=>by simp only [ev,aN]) he;obtain ⟨ρ,G,w,ρ',r',z,k⟩:=q;simp only [ev,aN] at z;cases z;exact k v H G (Aft.refl r') (r G)
theorem F4 {q:Bool} (xo:XOkB q X K P C Γ) (x:Str) (pos:Pos):Ok3 X K P C (.Name x pos) (wR Γ x):=by
 unfold wR;split
 ·rename_i i hi;have hp:=CC.slot_ok xo hi (pos:=pos);refine ⟨WS hp, ?_,S2 hp⟩
  -- a test of a local: looked at
  refine TT.imp_pt (BK hp fun _=>rfl) fun σ H Q q=>?_
  obtain ⟨ρ,G,b,ρ',r,e1,k⟩:=q;simp only [ev] at e1;obtain ⟨u,b',e2,e3,e4⟩:=F7 e1;cases e4
  cases w:(ρ[i]?).bind Sl.get with
  | none=>rw [w] at e2; cases e2
  | some d =>
   rw [w] at e2;simp only [Option.map_some,Option.some.injEq,Prod.mk.injEq,Out.ok.injEq] at e2;obtain ⟨rfl,rfl⟩:=e2;obtain ⟨x,hx⟩:=r.bound (i:=i) (by rw [w]; rfl);exact ⟨x,hx,b,by rw [xo.keq]; exact vJ r.sub (r.get w hx) e3,k H G (Aft.refl r)⟩
 ·split
  ·rename_i d hd;obtain ⟨h1,h2,h3,h4⟩:=CC.glob_ok xo hd (fun z=>nomatch z);obtain ⟨u,v,hm,hr,hrep⟩:=xo.con x d h2;exact sV xo (VH h1 hm hr h3) hrep fun _=>rfl
  ·exact aU
theorem OG {q:Bool} (xo:XOkB q X K P C Γ) (c:Const) (k:Nat) (pos:Pos):Ok3 X K P C (.Constant c k pos) (CD c):=by
 cases c with
 | none=>exact sV xo XN (fun G=>by simp [aE]) fun _=>rfl
 | bool b=>exact sV xo aCB (fun G=>by simp [aE]) fun _=>rfl
 | int i=>exact sV xo DI (fun G=>by simp [aE]) fun _=>rfl
 | str s =>
  simp only [CD];split
  ·rename_i h;exact sV xo X9 (fun G=>by simp only [aE]; exact ⟨trivial,h⟩) fun _=>rfl
  ·exact aU
 | _=>exact aU
theorem bQ {e:Expr} (h:a9 e=true) (es:List Expr) (env:PySem.Env):starEach (e :: es) env=(false,eval e env) :: starEach es env:=by
 cases e <;> first | rfl | cases h
theorem UO:PA X [] (CL K P C []):=by
 refine TA.imp_pa mL fun σ H Q q=>?_
 obtain ⟨ρ,G,ds,ρ',r,e,k⟩:=q;simp only [mJ,Option.some.injEq,Prod.mk.injEq,Out.ok.injEq] at e;obtain ⟨rfl,rfl⟩:=e;exact k [] H G (Aft.refl r) aB.nil
theorem PD {e:Expr} {es:List Expr} {c:E} {cs:List E} (h:Ok3 X K P C e c) (t:PA X es (CL K P C cs)) (ns:a9 e=true):PA X (e :: es) (CL K P C (c :: cs)):=by
 refine TA.imp_pa (jR h.v t (bQ ns _ _)) fun σ H Q q=>?_
 obtain ⟨ρ,G,ds,ρ',r,e,k⟩:=q;rw [mJ] at e;obtain ⟨v,ρ1,e1,e2⟩:=aL e;obtain ⟨ds',ρ2,e3,e4⟩:=aL e2;cases e4;refine ⟨ρ,G,v,ρ1,r,e1,fun x H1 G1 a1 hx=>?_⟩;obtain ⟨G1',a1',rx⟩:=a1.share hx;refine ⟨ρ1,G1',ds',_,a1'.rel,e3,fun xs H2 G2 a2 hxs=>?_⟩;exact k (x :: xs) H2 G2 (a1'.trans a2) (aB.cons (aE.mono a2.ext.gg _ rx) hxs)
theorem SA:PA X [] (mP K P C []):=by
 refine TA.imp_pa mL fun σ H Q q=>?_
 obtain ⟨ρ,G,ds,ρ',r,e,k⟩:=q;simp only [cI,Option.some.injEq,Prod.mk.injEq,Out.ok.injEq] at e;obtain ⟨rfl,rfl⟩:=e;exact k [] H G (Aft.refl r) rfl
theorem dC.new_mono {H G:Hp} {own new new':Addr→Prop} {σ:St} (w:∀ a,new a→new' a):∀ {hs:List Hd} {xs:List V},dC K H G own new σ hs xs→dC K H G own new' σ hs xs
 | [],_,h=>h
 | h :: hs,_,r=>by
  obtain ⟨x,r',rfl,h1,h2,h3⟩:=r;exact ⟨x,r',rfl,h1.new_mono w,dC.new_mono w h2,h3⟩
theorem NQ {e:Expr} {es:List Expr} {c:E} {cs:List E} (h:Ok3 X K P C e c) (t:PA X es (mP K P C cs)) (ns:a9 e=true):PA X (e :: es) (mP K P C (c :: cs)):=by
 refine TA.imp_pa (jR h.h t (bQ ns _ _)) fun σ H Q q=>?_
 obtain ⟨ρ,G,ds,ρ',r,e,k⟩:=q;rw [cI] at e;obtain ⟨v,ρ1,e1,e2⟩:=aL e;obtain ⟨ds',ρ2,e3,e4⟩:=aL e2;cases e4;refine ⟨ρ,G,v,ρ1,r,e1,fun x H1 G1 a1 hx=>⟨ρ1,G1,ds',_,a1.rel,e3,fun xs H2 G2 a2 hxs=>?_⟩⟩;refine k (x :: xs) H2 G2 (a1.trans a2) ⟨x,xs,rfl,hx.wait a2.ext fun a z=>.inl (a2.own a z),hxs.new_mono fun a z=>a1.ext.hx a z,fun d a hd ha ht=>?_⟩;subst hd;obtain ⟨b,e5,g,o,n,m⟩:=hx;rw [ha] at e5; cases e5;obtain ⟨vs,hv⟩:=o.there
 have:=(hxs.tmp_own ht).2.1
 rw [show H1 a=none from this] at hv;cases hv
theorem dC.getAll {H G:Hp} {own new:Addr→Prop} {σ:St} {ρ:Env} (r:Rel K ρ σ H G):∀ {hs:List Hd} {xs:List V} {ds:List D},dC K H G own new σ hs xs→getAll hs ρ=some ds→xD K H G ds xs
 | [],_,_,h,e=>by cases (show _=[] from h); cases e; rfl
 | h :: hs,_,ds,hh,e=>by
  obtain ⟨x,r',rfl,h1,h2,h3⟩:=hh;simp only [CI.getAll] at e
  cases q:h.get ρ with
  | none=>rw [q] at e; cases e
  | some d =>
   rw [q] at e
   cases q2:CI.getAll hs ρ with
   | none=>rw [q2] at e; cases e
   | some ds' =>
    rw [q2] at e;cases e;exact ⟨x,r',rfl,h1.read r q,dC.getAll r h2 q2⟩
theorem YF (xo:bP X K P C Γ) {a b:Expr} {ca cb:E} {op:Operator} {pos:Pos} (ha:Ok3 X K P C a ca) (hb:Ok3 X K P C b cb):Ok3 X K P C (.BinOp a op b pos) (.bin op ca cb):=by
 refine kA xo (TE.imp_pe (aB4 (YL xo.keq op) ha.h hb.h) fun σ H Q q=>?_) (fun i z=>nomatch z) (fun ρ=>by simp only [ev,aN]) fun _=>rfl
 obtain ⟨ρ,G,v,ρ',r,e,k⟩:=q;simp only [ev,aN] at e;obtain ⟨hx,ρ1,e1,e⟩:=aL e;obtain ⟨hy,ρ2,e2,e⟩:=aL e;obtain ⟨e3,rfl⟩:=eC e;refine ⟨ρ,G,hx,ρ1,r,e1,fun x H1 G1 a1 rx=>⟨ρ1,G1,hy,ρ',a1.rel,e2,fun y H2 G2 a2 ry=>?_⟩⟩
 cases q1:hx.get ρ' with
 | none=>rw [q1] at e3; cases e3
 | some d =>
  cases q2:hy.get ρ' with
  | none=>rw [q1,q2] at e3; cases e3
  | some d2 =>
   rw [q1,q2] at e3;simp only [Option.bind_some] at e3;split at e3
   ·rename_i hm;have rx':=rx.wait a2.ext fun a z=>.inl (a2.own a z)
    refine ⟨G2,d,d2,v,a2.rel.sub,rx'.read a2.rel q1,ry.read a2.rel q2,fun ho ds hd=>?_,e3,fun z H3 hm3=>?_⟩
    ·subst ho; subst hd
     cases hx with
     | slot i=>simp [tQ] at hm
     | val w =>
      cases w with
      | sh _=>simp [tQ] at hm
      | ow w =>
       simp only [Hd.get,RV.d,Option.some.injEq] at q1;subst q1;obtain ⟨c,e5,g,⟨vs,o1,o2⟩,n,m⟩:=rx';exact ⟨c,vs,e5,o1,o2⟩
    ·obtain ⟨G3,a3,v3⟩:=(a1.trans a2).made hm3;exact k z H3 G3 a3 v3
   ·cases e3
theorem XH (xo:bP X K P C Γ) {a:Expr} {ca:E} {pos:Pos} (ha:Ok3 X K P C a ca):Ok3 X K P C (.UnaryOp .USub a pos) (.neg ca):=by
 refine kA xo (TE.imp_pe (aCF ZS ha.v) fun σ H Q q=>?_) (fun i z=>nomatch z) (fun ρ=>by simp only [ev,aN]) fun _=>rfl
 obtain ⟨ρ,G,v,ρ',r,e,k⟩:=q;simp only [ev,aN] at e;obtain ⟨w,ρ1,e1,e⟩:=aL e;split at e
 ·rename_i i hi;cases e;refine ⟨ρ,G,w,_,r,e1,fun x H1 G1 a1 rx=>?_⟩
  have:=rx.readR
  rw [hi] at this;cases this.int;exact ⟨i,rfl,k _ H1 G1 a1 (by show aE K G1 (.int (-i)) _; simp [aE])⟩
 ·cases e
theorem V4 {a:Expr} {ta:TE} {pos:Pos} (ha:PE X a ta):PE X (.UnaryOp .Not a pos) (fun σ H Q=>ta σ H fun x H'=>∃ k,GC X.K x H' k∧Q (.bl (!k)) H'):=by
 intro pins s σ H Q I h;refine UnaryOp_ (bH (ha pins s σ H _ I h) fun v s1 ⟨x,H1,I1,r1,q1⟩=>?_);exact not_of (bH (JF pins s1 σ H1 x v (fun k H'=>Q (.bl (!k)) H') I1 r1 q1) fun b s2 ⟨H2,I2,q2⟩=>⟨.bl (!b),H2,I2,rfl,q2⟩)
theorem aBd (xo:bP X K P C Γ) {a:Expr} {ca:E} {pos:Pos} (ha:Ok3 X K P C a ca):Ok3 X K P C (.UnaryOp .Not a pos) (.not ca):=by
 have v:PE X (.UnaryOp .Not a pos) (tE K P C (.not ca)):=by
  refine TE.imp_pe (V4 ha.h) fun σ H Q q=>?_
  obtain ⟨ρ,G,v,ρ',r,e,k⟩:=q;simp only [ev] at e;obtain ⟨w,ρ1,e1,e⟩:=aL e;obtain ⟨e2,rfl⟩:=eC e;refine ⟨ρ,G,w,ρ',r,e1,fun x H1 G1 a1 rx=>?_⟩
  cases q:w.get ρ' with
  | none=>rw [q] at e2; cases e2
  | some d =>
   rw [q] at e2;simp only [Option.bind_some] at e2
   cases q2:hV d with
   | none=>rw [q2] at e2; cases e2
   | some b =>
    rw [q2] at e2;cases e2;refine ⟨b, ?_,k _ H1 G1 a1 (by show aE K G1 (.bl _) _; simp [aE])⟩;rw [xo.keq];exact vJ a1.rel.sub (rx.read a1.rel q) q2
 refine ⟨v, ?_,tF v fun i z=>nomatch z⟩;refine TT.imp_pt (W3 ha.t) fun σ H Q q=>?_
 obtain ⟨ρ,G,b,ρ',r,e,k⟩:=q;simp only [ev] at e;obtain ⟨w,ρ1,e1,e⟩:=aL e;split at e
 ·rename_i b';cases e;exact ⟨ρ,G,b',_,r,e1,fun H1 G1 a1=>k H1 G1 a1⟩
 ·cases e
theorem o4 {σ:St} {H G H1 G1 H2 G2:Hp} {ρ ρ1 ρ2:Env} {hx hy:Hd} {x y:V} {op:CmpOp} {b:Bool} (a1:Aft K ρ σ H G ρ1 H1 G1) (rx:jK K H1 G1 (aR ρ1 σ) (eZ H) σ hx x) (a2:Aft K ρ1 σ H1 G1 ρ2 H2 G2) (ry:jK K H2 G2 (aR ρ2 σ) (eZ H1) σ hy y)
  (e:((hx.get ρ2).bind fun d=>(hy.get ρ2).bind fun e=>bX op d e)=some b) (Q:VK) (q:Q (.bl b) H2):CP K op x y H2 Q:=by
 cases q1:hx.get ρ2 with
 | none=>rw [q1] at e; cases e
 | some d =>
  cases q2:hy.get ρ2 with
  | none=>rw [q1,q2] at e; cases e
  | some d2 =>
   rw [q1,q2] at e;exact ⟨G2,d,d2,b,a2.rel.sub,(rx.wait a2.ext fun a z=>.inl (a2.own a z)).read a2.rel q1,ry.read a2.rel q2,e,q⟩
theorem ZO {o:Option Bool} {v:RV} (e:(o.map fun b=>RV.sh (.bl b))=some v):∃ b,o=some b∧v=.sh (.bl b):=by
 cases o with
 | none=>cases e
 | some b=>cases e; exact ⟨b,rfl,rfl⟩
theorem pO {x y:Option D} {f:D→D→Option Bool} {v:RV} (e:(x.bind fun d=>y.bind fun e=>(f d e).map fun b=>RV.sh (.bl b))=some v):∃ b,(x.bind fun d=>y.bind fun e=>f d e)=some b∧v=.sh (.bl b):=by
 cases x with
 | none=>cases e
 | some d =>
  cases y with
  | none=>cases e
  | some d2=>exact ZO e
theorem aAV (xo:bP X K P C Γ) {a b:Expr} {ca cb:E} {op:CmpOp} {pos:Pos} (ha:Ok3 X K P C a ca) (hb:Ok3 X K P C b cb) (hm:behindInMarks op b=false):Ok3 X K P C (.Compare a [op] [b] pos) (.cmp op ca cb):=by
 have core:∀ σ H (Q:VK),(∃ (ρ:Env) (G:Hp) (b:Bool) (ρ':Env),Rel K ρ σ H G∧ev P C false (.cmp op ca cb) ρ=some (.ok (.sh (.bl b)),ρ')∧∀ H' G',Aft K ρ σ H G ρ' H' G'→Q (.bl b) H') →
   KU (CP K op) (tH K P C ca) (tH K P C cb) σ H Q:=fun σ H Q q=>by
  obtain ⟨ρ,G,b,ρ',r,e,k⟩:=q;simp only [ev] at e;obtain ⟨hx,ρ1,e1,e⟩:=aL e;obtain ⟨hy,ρ2,e2,e⟩:=aL e;obtain ⟨e3,rfl⟩:=eC e;obtain ⟨b',e4,e5⟩:=pO e3;cases e5;exact ⟨ρ,G,hx,ρ1,r,e1,fun x H1 G1 a1 rx=>⟨ρ1,G1,hy,ρ',a1.rel,e2,fun y H2 G2 a2 ry=>o4 a1 rx a2 ry e4 Q (k H2 G2 (a1.trans a2))⟩⟩
 have v:PE X (.Compare a [op] [b] pos) (tE K P C (.cmp op ca cb)):=by
  refine TE.imp_pe (SO (oG xo.keq xo.hu op) ha.h hb.h hm) fun σ H Q q=>core σ H Q ?_
  obtain ⟨ρ,G,v,ρ',r,e,k⟩:=q;have e0:=e;simp only [ev] at e;obtain ⟨hx,ρ1,e1,e⟩:=aL e;obtain ⟨hy,ρ2,e2,e⟩:=aL e;obtain ⟨e3,rfl⟩:=eC e;obtain ⟨b',e4,rfl⟩:=pO e3;exact ⟨ρ,G,b',ρ',r,e0,fun H' G' a=>k _ H' G' a (by show aE K G' (.bl _) _; simp [aE])⟩
 refine ⟨v, ?_,tF v fun i z=>nomatch z⟩;refine TT.imp_pt (R9 (oG xo.keq xo.hu op) ha.h hb.h hm) fun σ H Q q=>core σ H _ ?_
 obtain ⟨ρ,G,b',ρ',r,e,k⟩:=q;exact ⟨ρ,G,b',ρ',r,by simpa only [ev] using e,fun H' G' a=>⟨b',rfl,k H' G' a⟩⟩
theorem SR (xo:bP X K P C Γ) {a b c:Expr} {ca cb cc:E} {op op':CmpOp} {pos:Pos} (ha:Ok3 X K P C a ca) (hb:Ok3 X K P C b cb) (hc:Ok3 X K P C c cc) (hm:behindInMarks op' c=false):Ok3 X K P C (.Compare a [op,op'] [b,c] pos) (.cmp2 op op' ca cb cc):=by
 have core:∀ σ H (Q:VK),(∃ (ρ:Env) (G:Hp) (b:Bool) (ρ':Env),Rel K ρ σ H G∧ev P C false (.cmp2 op op' ca cb cc) ρ=some (.ok (.sh (.bl b)),ρ')∧∀ H' G',Aft K ρ σ H G ρ' H' G'→Q (.bl b) H') →
   C1 (CP K op) (CP K op') (tH K P C ca) (tH K P C cb) (tH K P C cc) σ H Q:=fun σ H Q q=>by
  obtain ⟨ρ,G,b,ρ',r,e,k⟩:=q;simp only [ev] at e;obtain ⟨hx,ρ1,e1,e⟩:=aL e;obtain ⟨hy,ρ2,e2,e⟩:=aL e;refine ⟨ρ,G,hx,ρ1,r,e1,fun x H1 G1 a1 rx=>⟨ρ1,G1,hy,ρ2,a1.rel,e2,fun y H2 G2 a2 ry=>?_⟩⟩;split at e
  ·cases e
  ·rename_i e4;cases e;refine o4 a1 rx a2 ry e4 _ ⟨false,rfl, ?_⟩;rw [Zp Bool.false_ne_true];exact k H2 G2 (a1.trans a2)
  ·rename_i e4;obtain ⟨hz,ρ3,e5,e⟩:=aL e;obtain ⟨e6,rfl⟩:=eC e;obtain ⟨b',e7,e8⟩:=pO e6;cases e8;refine o4 a1 rx a2 ry e4 _ ⟨true,rfl, ?_⟩;rw [Zo rfl];exact ⟨ρ2,G2,hz,ρ',a2.rel,e5,fun z H3 G3 a3 rz=>o4 (a1.trans a2) (ry.new_mono fun a z=>a1.ext.hx a z) a3 rz e7 Q (k H3 G3 ((a1.trans a2).trans a3))⟩
 have hl:lastMarks [op,op'] [b,c]=false:=hm
 have v:PE X (.Compare a [op,op'] [b,c] pos) (tE K P C (.cmp2 op op' ca cb cc)):=by
  refine TE.imp_pe (NF (oG xo.keq xo.hu op) (oG xo.keq xo.hu op') ha.h hb.h hc.h hl) fun σ H Q q=>core σ H Q ?_
  obtain ⟨ρ,G,v,ρ',r,e,k⟩:=q;have e0:=e
  have:∃ b,v=.sh (.bl b):=by
   simp only [ev] at e;obtain ⟨hx,ρ1,e1,e⟩:=aL e;obtain ⟨hy,ρ2,e2,e⟩:=aL e;split at e
   ·cases e
   ·cases e; exact ⟨_,rfl⟩
   ·obtain ⟨hz,ρ3,e5,e⟩:=aL e;obtain ⟨e6,rfl⟩:=eC e;obtain ⟨b',e7,e8⟩:=pO e6;exact ⟨b',e8⟩
  obtain ⟨b',rfl⟩:=this;exact ⟨ρ,G,b',ρ',r,e0,fun H' G' a=>k _ H' G' a (by show aE K G' (.bl _) _; simp [aE])⟩
 refine ⟨v, ?_,tF v fun i z=>nomatch z⟩;refine TT.imp_pt (OW (oG xo.keq xo.hu op) (oG xo.keq xo.hu op') ha.h hb.h hc.h hl) fun σ H Q q=>core σ H _ ?_
 obtain ⟨ρ,G,b',ρ',r,e,k⟩:=q;exact ⟨ρ,G,b',ρ',r,by simpa only [ev] using e,fun H' G' a=>⟨b',rfl,k H' G' a⟩⟩
end
section
variable {X:Cx} {K:Frag} {P:aQ} {C:Calls} {Γ:CC}
theorem PW.imp {e:Expr} {t u:TT} (h:PW X e t) (w:∀ σ H Q,u σ H Q→t σ H Q):PW X e u:=fun wh pins s σ H Q I q=>h wh pins s σ H Q I (w σ H Q q)
theorem aBS {σ:St} {H:Hp} {Q:VK} {ca cb:E} (q:tE K P C (.and ca cb) σ H Q):RC (tE K P C ca) (tE K P C cb) σ H Q:=by
 obtain ⟨ρ,G,v,ρ',r,e,k⟩:=q;simp only [ev] at e;obtain ⟨w,ρ1,e1,e⟩:=aL e;refine ⟨ρ,G,w,ρ1,r,e1,fun x H1 G1 a1 rx=>?_⟩;split at e
 ·refine ⟨true,rG (K:=K) (G:=G1) rx, ?_⟩;refine B0 ?_;exact ⟨ρ1,G1,v,ρ',a1.rel,e,fun y H2 G2 a2 ry=>k y H2 G2 (a1.trans a2) (ry.new_mono fun a z=>a1.ext.hx a z)⟩
 ·refine ⟨false,rG (K:=K) (G:=G1) rx, ?_⟩;refine CY ?_;cases e;exact k _ H1 G1 a1 (by show aE K G1 (.bl _) _; simp [aE])
 ·cases e
theorem aCa {σ:St} {H:Hp} {Q:Bool→Hp→Prop} {ca cb:E} (q:tT K P C (.and ca cb) σ H Q):aAT (tT K P C ca) (tT K P C cb) σ H Q:=by
 obtain ⟨ρ,G,b,ρ',r,e,k⟩:=q;simp only [ev] at e;obtain ⟨w,ρ1,e1,e⟩:=aL e;split at e
 ·refine ⟨ρ,G,true,ρ1,r,e1,fun H1 G1 a1=>?_⟩;refine B0 ?_;exact ⟨ρ1,G1,b,ρ',a1.rel,e,fun H2 G2 a2=>k H2 G2 (a1.trans a2)⟩
 ·refine ⟨ρ,G,false,ρ1,r,e1,fun H1 G1 a1=>?_⟩;refine CY ?_;cases e;exact k H1 G1 a1
 ·cases e
theorem aEh {σ:St} {H:Hp} {Q:VK} {ca cb:E} (q:tE K P C (.or ca cb) σ H Q):XU (tE K P C ca) (tE K P C cb) σ H Q:=by
 obtain ⟨ρ,G,v,ρ',r,e,k⟩:=q;simp only [ev] at e;obtain ⟨w,ρ1,e1,e⟩:=aL e;refine ⟨ρ,G,w,ρ1,r,e1,fun x H1 G1 a1 rx=>?_⟩;split at e
 ·refine ⟨true,rG (K:=K) (G:=G1) rx, ?_⟩;refine B0 ?_;cases e;exact k _ H1 G1 a1 (by show aE K G1 (.bl _) _; simp [aE])
 ·refine ⟨false,rG (K:=K) (G:=G1) rx, ?_⟩;refine CY ?_;exact ⟨ρ1,G1,v,ρ',a1.rel,e,fun y H2 G2 a2 ry=>k y H2 G2 (a1.trans a2) (ry.new_mono fun a z=>a1.ext.hx a z)⟩
 ·cases e
theorem aDL {σ:St} {H:Hp} {Q:Bool→Hp→Prop} {ca cb:E} (q:tT K P C (.or ca cb) σ H Q):tOr (tT K P C ca) (tT K P C cb) σ H Q:=by
 obtain ⟨ρ,G,b,ρ',r,e,k⟩:=q;simp only [ev] at e;obtain ⟨w,ρ1,e1,e⟩:=aL e;split at e
 ·refine ⟨ρ,G,true,ρ1,r,e1,fun H1 G1 a1=>?_⟩;refine B0 ?_;cases e;exact k H1 G1 a1
 ·refine ⟨ρ,G,false,ρ1,r,e1,fun H1 G1 a1=>?_⟩;refine CY ?_;exact ⟨ρ1,G1,b,ρ',a1.rel,e,fun H2 G2 a2=>k H2 G2 (a1.trans a2)⟩
 ·cases e
structure Ok2 (X:Cx) (K:Frag) (P:aQ) (C:Calls) (op:BoolOp) (vs:List Expr) (c:E):Prop where
 v:∀ pos,PE X (.BoolOp op vs pos) (tE K P C c)
 w:∀ pos,PW X (.BoolOp op vs pos) (tT K P C c)
theorem ON {a:Expr} {c:E} (h:Ok3 X K P C a c):Ok2 X K P C .And [a] c:=⟨fun _=>LC h.v,fun _=>WT h.t⟩
theorem S7 {a:Expr} {c:E} (h:Ok3 X K P C a c):Ok2 X K P C .Or [a] c:=⟨fun _=>LC h.v,fun _=>W7 h.t⟩
theorem F3 {a b:Expr} {r:List Expr} {ca cb:E} (h:Ok3 X K P C a ca) (t:Ok2 X K P C .And (b :: r) cb):Ok2 X K P C .And (a :: b :: r) (.and ca cb) :=
 ⟨fun pos=>TE.imp_pe (aAJ h.v (t.v pos)) fun _ _ _ q=>aBS q,fun pos=>PW.imp (aAE h.t (t.w pos)) fun _ _ _ q=>aCa q⟩
theorem KG {a b:Expr} {r:List Expr} {ca cb:E} (h:Ok3 X K P C a ca) (t:Ok2 X K P C .Or (b :: r) cb):Ok2 X K P C .Or (a :: b :: r) (.or ca cb) :=
 ⟨fun pos=>TE.imp_pe (Q1 h.v (t.v pos)) fun _ _ _ q=>aEh q,fun pos=>PW.imp (aBW h.t (t.w pos)) fun _ _ _ q=>aDL q⟩
theorem Ok2.ok3 {op:BoolOp} {vs:List Expr} {c:E} {pos:Pos} (h:Ok2 X K P C op vs c) (n:∀ i,c≠.var i):Ok3 X K P C (.BoolOp op vs pos) c:=⟨h.v pos,(h.w pos).pt,tF (h.v pos) n⟩
theorem ZD (xo:bP X K P C Γ) {es:List Expr} {cs:List E} {k0:Nat} {pos:Pos} (h:PA X es (CL K P C cs)):Ok3 X K P C (.Tuple es k0 pos) (.tup cs):=by
 refine kA xo (TE.imp_pe (W6 h) fun σ H Q q=>?_) (fun i z=>nomatch z) (fun ρ=>by simp only [ev,aN]) fun _=>rfl
 obtain ⟨ρ,G,v,ρ',r,e,k⟩:=q;simp only [ev,aN] at e;obtain ⟨ds,ρ1,e1,e⟩:=aL e;split at e
 ·rename_i hz;cases e;refine ⟨ρ,G,ds,_,r,e1,fun xs H1 G1 a1 rx=>⟨by rw [rx.len]; exact fP hz,fun p hp=>?_⟩⟩;obtain ⟨a2,v2⟩:=a1.tup_new hp rx;exact k _ _ _ a2 v2
 ·cases e
theorem ZV {q:Bool} (xo:XOkB q X K P C Γ) {es:List Expr} {cs:List E} {pos:Pos} (h:PA X es (CL K P C cs)):Ok3 X K P C (.List es pos) (.lst cs):=by
 refine kA xo (TE.imp_pe (Y0 h) fun σ H Q q=>?_) (fun i z=>nomatch z) (fun ρ=>by simp only [ev,aN]) fun _=>rfl
 obtain ⟨ρ,G,v,ρ',r,e,k⟩:=q;simp only [ev,aN] at e;obtain ⟨ds,ρ1,e1,e⟩:=aL e;split at e
 ·rename_i hz;cases e;refine ⟨ρ,G,ds,_,r,e1,fun xs H1 G1 a1 rx=>⟨by rw [rx.len]; exact fP hz,fun p hp=>?_⟩⟩;obtain ⟨a2,v2⟩:=a1.own_new hp rx;exact k _ _ _ a2 v2
 ·cases e
theorem aCH (xo:bP X K P C Γ) {a b:Expr} {ca cb:E} {pos:Pos} (ha:Ok3 X K P C a ca) (hb:Ok3 X K P C b cb) (hs:yL b):Ok3 X K P C (.Subscript a b pos) (.ix ca cb):=by
 refine kA xo (TE.imp_pe (aBB (aCx xo.keq (by have:=xo.hu; omega)) ha.h hb.v hs) fun σ H Q q=>?_) (fun i z=>nomatch z) (fun ρ=>by simp only [ev,aN]) fun _=>rfl
 obtain ⟨ρ,G,v,ρ',r,e,k⟩:=q;simp only [ev,aN] at e;obtain ⟨hx,ρ1,e1,e⟩:=aL e;obtain ⟨w,ρ2,e2,e⟩:=aL e;obtain ⟨e3,rfl⟩:=eC e;refine ⟨ρ,G,hx,ρ1,r,e1,fun x H1 G1 a1 rx=>⟨ρ1,G1,w,ρ',a1.rel,e2,fun y H2 G2 a2 ry=>?_⟩⟩
 cases q1:hx.get ρ' with
 | none=>rw [q1] at e3; cases e3
 | some d =>
  rw [q1] at e3;simp only [Option.bind_some] at e3
  cases q2:LQ d w.d with
  | none=>rw [q2] at e3; cases e3
  | some d2 =>
   rw [q2] at e3;cases e3;exact ⟨G2,d,w.d,d2,a2.rel.sub,(rx.wait a2.ext fun a z=>.inl (a2.own a z)).read a2.rel q1,ry.readR,q2,fun z hz=>k z H2 G2 (a1.trans a2) hz⟩
noncomputable def tO (K:Frag) (P:aQ) (C:Calls) (c:E):TO:=fun σ H Q=>∃ (ρ:Env) (G:Hp) (o:Option D) (ρ':Env),Rel K ρ σ H G∧yU c (ev P C false c ρ) ρ=some (.ok o,ρ')∧∃ i,nH o=some i∧∀ H' G',Aft K ρ σ H G ρ' H' G'→Q i H'
theorem OY:PO X none (tO K P C .omt):=fun pins s σ H Q I ⟨ρ,G,o,ρ',r,e,i,e2,k⟩=>by
 simp only [yU,B8,if_true,Option.some.injEq,Prod.mk.injEq,Out.ok.injEq] at e;obtain ⟨rfl,rfl⟩:=e;cases e2;exact VR pins s σ H Q I (k H G (Aft.refl r))
theorem OO {e:Expr} {c:E} (h:Ok3 X K P C e c):PO X (some e) (tO K P C (rL c)):=fun pins s σ H Q I ⟨ρ,G,o,ρ',r,e1,i,e2,k⟩=>by
 have key:∀ c',rL c=c'→B8 c'=false→(∀ ρ,ev P C false c' ρ=ev P C false c ρ∨ev P C false c' ρ=none)→wpAny (model X.prog X.w) X.A (evalPart (some e) X.env) (fun u s'=>∃ o H',Inv X pins σ H' s'∧IsPart u o∧Q o H') X.xe s:=fun c' e0 hno he=>by
  rw [e0] at e1;simp only [yU,hno,Bool.false_eq_true,if_false] at e1;obtain ⟨w,ρ1,e3,e4⟩:=aL e1;cases e4;rcases he ρ with he | he
  ·rw [he] at e3;refine UA h.v pins s σ H Q I ⟨ρ,G,w,_,r,e3,fun x H1 G1 a1 rx=>?_⟩;cases q:w.d <;> rw [q] at e2 <;> simp only [nH,reduceCtorEq,Option.some.injEq] at e2;subst e2
   have:=rx.readR
   rw [q] at this;exact ⟨_,this.int,k H1 G1 a1⟩
  ·rw [he] at e3; cases e3
 cases c with
 | omt=>exact key .bad rfl rfl fun ρ=>.inr (by rw [ev])
 | _=>exact key _ rfl rfl fun ρ=>.inl rfl
theorem aCl (xo:bP X K P C Γ) {a:Expr} {lo hi:Option Expr} {ca cl ch:E} {pos p2:Pos} (ha:Ok3 X K P C a ca) (hl:PO X lo (tO K P C cl)) (hh:PO X hi (tO K P C ch)):Ok3 X K P C (.Subscript a (.Slice lo hi none p2) pos) (.sl ca cl ch):=by
 refine kA xo (TE.imp_pe (QD (aCR xo.keq) ha.h hl hh) fun σ H Q q=>?_) (fun i z=>nomatch z) (fun ρ=>by simp only [ev,aN]) fun _=>rfl
 obtain ⟨ρ,G,v,ρ',r,e,k⟩:=q;simp only [ev,aN] at e;obtain ⟨hx,ρ1,e1,e⟩:=aL e;obtain ⟨l,ρ2,e2,e⟩:=aL e;obtain ⟨h,ρ3,e3,e⟩:=aL e;obtain ⟨e4,rfl⟩:=eC e
 cases q1:hx.get ρ' with
 | none=>rw [q1] at e4; cases e4
 | some d =>
  cases q2:nH l with
  | none=>rw [q1,q2] at e4; cases e4
  | some l' =>
   cases q3:nH h with
   | none=>rw [q1,q2,q3] at e4; cases e4
   | some h' =>
    rw [q1,q2,q3] at e4;simp only [Option.bind_some] at e4;refine ⟨ρ,G,hx,ρ1,r,e1,fun x H1 G1 a1 rx=>⟨ρ1,G1,l,ρ2,a1.rel,e2,l',q2,fun H2 G2 a2=>⟨ρ2,G2,h,ρ',a2.rel,e3,h',q3,fun H3 G3 a3=>?_⟩⟩⟩;have a23:=a2.trans a3;refine ⟨G3,d,v,a3.rel.sub,(rx.wait a23.ext fun a z=>.inl (a23.own a z)).read a3.rel q1,e4,fun z H4 hm=>?_⟩;obtain ⟨G4,a4,v4⟩:=(a1.trans a23).made hm;exact k z H4 G4 a4 v4
theorem fY {es:List Expr} (h:es.all a9=true) (env:PySem.Env) (pos:Pos):(backTo pos (starEach es env)).any (·.1)=false∧(backTo pos (starEach es env)).all (fun x=>!x.1)=true:=by
 induction es with
 | nil=>exact ⟨rfl,rfl⟩
 | cons e es ih =>
  rw [Zj,ZB] at h;rw [bQ h.1];obtain ⟨i1,i2⟩:=ih h.2
  unfold backTo at *
  refine ⟨?_, ?_⟩
  ·rw [Zs,List.any_cons,i1]; rfl
  ·rw [Zs,Zj,i2]; rfl
theorem RT (xo:bP X K P C Γ) {f:Str} {g:String} {e:Expr} {es:List Expr} {cs:List E} {p pos:Pos} (hf:Γ.glob f=.fn g) (ns:(e :: es).all a9=true) (ha:PA X (e :: es) (mP K P C cs)):Ok3 X K P C (.Call (.Name f p) (e :: es) [] pos) (.call g cs):=by
 obtain ⟨h1,h2,h3,h4⟩:=CC.glob_ok xo hf (fun z=>nomatch z);obtain ⟨fa,fd,ps,k0,F,hr,hm,hk,hb⟩:=(xo.fn f g h2).ex;rw [Zj,ZB] at ns;refine kA xo (TE.imp_pe (VP F hr h1 hm hk hb .nil A7 ha h3 (bQ ns.1 _ _) (fY ns.2 _ _).1) fun σ H Q q=>?_) (fun i z=>nomatch z) (fun ρ=>by simp only [ev,aN]) fun _=>rfl
 obtain ⟨ρ,G,v,ρ',r,e,k⟩:=q;simp only [ev,aN] at e;obtain ⟨hs,ρ1,e1,e⟩:=aL e;refine ⟨ρ,G,hs,ρ1,r,e1,fun xs H1 G1 a1 rx=>?_⟩;obtain ⟨as,G2,as',d1,d2,d3,_,d4⟩:=rW a1 rx e;rw [List.append_nil];refine ⟨?_,as,G2,v,as',d1,d2,d3,fun x H' G' a hv=>?_⟩
 ·have:=d1.len
  rw [List.length_map] at this;omega
 ·obtain ⟨a5,v5⟩:=d4 x H' G' a hv;exact k x H' G' a5 v5
theorem U0 {f:Str} {b:BI} (h:GH f=some b):bootBuiltins f=some (biV b):=by
 unfold GH at h
 repeat (split at h; · (rename_i hf; cases h; subst hf; first | exact PySem.boot_len | decide +kernel | rfl))
 cases h
theorem rE (xo:bP X K P C Γ) {f:Str} {b:BI} {e:Expr} {es:List Expr} {cs:List E} {p pos:Pos} (hf:Γ.glob f=.blt) (hb:GH f=some b) (ns:(e :: es).all a9=true) (ha:PA X (e :: es) (mP K P C cs)):Ok3 X K P C (.Call (.Name f p) (e :: es) [] pos) (.bif b cs):=by
 obtain ⟨h1,h2,h3,h4⟩:=CC.glob_ok xo hf (fun z=>nomatch z);have hm:=xo.blt f h2;have hv:=U0 hb;rw [Zj,ZB] at ns
 have hp:PE X (.Call (.Name f p) (e :: es) [] pos) (tCB (rBi K b) (mP K P C cs)):=by
  have hc:=aBT xo.keq xo.calm xo.hh xo.rm b
  cases b <;> first
   | exact vE hc h1 hm hv ha h4 h3 (bQ ns.1 _ _) (fY ns.2 _ _).1
   | exact nK hc h1 hm hv ha h4 h3 (bQ ns.1 _ _) (fY ns.2 _ _).1
 refine kA xo (TE.imp_pe hp fun σ H Q q=>?_) (fun i z=>nomatch z) (fun ρ=>by simp only [ev,aN]) fun _=>rfl
 obtain ⟨ρ,G,v,ρ',r,e,k⟩:=q;simp only [ev,aN] at e;obtain ⟨hs,ρ1,e1,e⟩:=aL e;obtain ⟨e2,rfl⟩:=eC e;refine ⟨ρ,G,hs,ρ',r,e1,fun xs H1 G1 a1 rx=>?_⟩
 cases q1:getAll hs ρ' with
 | none=>rw [q1] at e2; cases e2
 | some ds =>
  rw [q1] at e2;refine ⟨G1,ds,v,a1.rel.sub,rx.getAll a1.rel q1,e2,fun z H' hm=>?_⟩;obtain ⟨G2,a2,v2⟩:=a1.made hm;exact k z H' G2 a2 v2
end
section
variable {X:Cx} {K:Frag} {P:aQ} {C:Calls} {Γ:CC}
theorem F8 {ρ:Env} {i:Nat} (h:nN ρ i=true):∃ ds p l,ρ[i]?=some (.ow (.lst ds) p l):=by
 unfold nN at h;split at h
 ·rename_i d p l e; exact ⟨d,p,l,e⟩
 ·cases h
theorem Rel.writeO {ρ:Env} {σ:St} {H G:Hp} (r:Rel K ρ σ H G) {i:Nat} {d:D} {p l:Bool} {a:Addr} {d':D} {ob:HO} (h:ρ[i]?=some (.ow d p l)) (hx:σ[i]?=some (some (.ref a))) (hr:gY K (aV H a ob) G a d') :
  Aft K ρ σ H G (ρ.set i (.ow d' p l)) (aV H a ob) G:=by
 obtain ⟨b,h1,g,o⟩:=r.ow i d p l h;rw [hx] at h1; cases h1;have hn:H a≠none:=(r.owned ⟨i,d,p,l,h,hx⟩).1
 have r0:Rel K (ρ.set i .un) σ (aV H a ob) G:=by
  have ru:=r.unset i;have nu:=r.unset_not h hx;refine ⟨ru.len,fun b u e=>?_,ru.sh,fun j d' p' l' hj=>?_,ru.inj⟩
  ·have:b≠a:=fun z=>by subst z; rw [g] at e; cases e
   rw [aO this]; exact ru.sub b u e
  ·obtain ⟨b,h3,h4,h5⟩:=ru.ow j d' p' l' hj;have hb:b≠a:=fun z=>by subst z; exact nu ⟨j,d',p',l',hj,h3⟩
   exact ⟨b,h3,h4,h5.mono (aM.refl _) fun _ z=>by rw [aO hb]; exact z⟩
 refine ⟨r0.put_ow hx g hr (r.unset_not h hx),⟨aM.refl _,fun b u e nb=>?_,fun b e=>?_,fun b e g' _=>g'⟩,i4.set (by rw [h]; exact ⟨rfl,rfl⟩)⟩
 ·have:b≠a:=fun z=>by subst z; exact nb ⟨i,d,p,l,h,hx⟩
  rw [aO this]; exact e
 ·by_cases hb:b=a
  ·subst hb; rw [bE] at e; cases e
  ·rwa [aO hb] at e
theorem Rel.write {ρ:Env} {σ:St} {H G:Hp} (r:Rel K ρ σ H G) {i:Nat} {d:D} {p l:Bool} {a:Addr} {ds:List D} {vs:List V} (h:ρ[i]?=some (.ow d p l)) (hx:σ[i]?=some (some (.ref a))) (hr:aB K G ds vs) :
  Aft K ρ σ H G (ρ.set i (.ow (.lst ds) p l)) (aV H a (.lst vs)) G:=r.writeO h hx ⟨vs,bE,hr⟩
theorem aBe (xo:bP X K P C Γ) {x:Str} {i:Nat} {a:Expr} {ca:E} {p apos cpos:Pos} (hi:Γ.slot x=some i) (hl:(apos.endLine == cpos.line)=true) (ns:a9 a=true) (ha:Ok3 X K P C a ca) :
  Ok3 X K P C (.Call (.Attribute (.Name x p) ("append":Str) apos) [a] [] cpos) (.app i ca):=by
 have hp:PE X (.Name x p) (vG i):=CC.slot_ok xo hi;have hpa:PA X [a] (sY (tE K P C ca) yV):=jR ha.v mL (bQ ns _ _);have hall:[a].all a9=true:=by rw [Zj,ns]; rfl
 refine kA xo (TE.imp_pe (aBI PySem.F.plainAttrs_list PySem.F.slot_list_append PySem.F.type_list_append zQ hp hpa rfl (by
   rw [ZB,ZB]; exact ⟨⟨(fY hall _ _).2,rfl⟩,rfl⟩) hl (bQ ns _ _) rfl) fun σ H Q q=>?_) (fun i z=>nomatch z) (fun ρ=>by simp only [ev,aN]) fun _=>rfl
 obtain ⟨ρ,G,v,ρ',r,e,k⟩:=q;simp only [ev,aN] at e;split at e
 ·rename_i ho;obtain ⟨d0,p0,l0,h0⟩:=F8 ho;obtain ⟨b,hb,g0,o0⟩:=r.ow i _ p0 l0 h0;obtain ⟨w,ρ1,e1,e⟩:=aL e;refine ⟨.ref b,hb,.inl ⟨rfl, ?_⟩,ρ,G,w,ρ1,r,e1,fun y H1 G1 a1 ry=>?_⟩
  ·obtain ⟨vs,hv,_⟩:=o0;exact ⟨vs,b9.of hv⟩
  ·split at e
   ·rename_i ds p1 h1;split at e
    ·rename_i hz;cases e;obtain ⟨G2,a2,r2⟩:=a1.share ry;obtain ⟨b',hb',g1,vs,hv,hr⟩:=a2.rel.ow i _ _ _ h1;rw [hb] at hb'; cases hb'
     have:=hr.len
     refine ⟨b,vs,y,rfl,rfl,hv, ?_, ?_⟩
     ·have:=fP hz
      omega
     ·have a3:=a2.rel.write h1 hb (hr.app (aB.cons r2 aB.nil));exact k _ _ _ (a2.trans a3) (by show aE K G2 .non _; simp [aE])
    ·cases e
   ·cases e
 ·cases e
theorem E3 {H:Hp} {p:Addr} {a b:HO}:aV (aV H p a) p b=aV H p b:=by
 funext q
 by_cases h:q=p
 ·subst h; rw [bE,bE]
 ·rw [aO h,aO h,aO h]
theorem Rel.poke {ρ:Env} {σ:St} {H G:Hp} (r:Rel K ρ σ H G) {a:Addr} {o:HO} (g:G a=none) (n:¬ aR ρ σ a):Rel K ρ σ (aV H a o) G:=by
 refine ⟨r.len,fun b u e=>?_,r.sh,fun j d' p' l' hj=>?_,r.inj⟩
 ·have:b≠a:=fun z=>by subst z; rw [g] at e; cases e
  rw [aO this]; exact r.sub b u e
 ·obtain ⟨b,h3,h4,h5⟩:=r.ow j d' p' l' hj;have hb:b≠a:=fun z=>by subst z; exact n ⟨j,d',p',l',hj,h3⟩
  exact ⟨b,h3,h4,h5.mono (aM.refl _) fun _ z=>by rw [aO hb]; exact z⟩
theorem Aft.poke {ρ ρ':Env} {σ:St} {H G H' G':Hp} (b:Aft K ρ σ H G ρ' H' G') {a:Addr} {o:HO} (h:H a=none) (g:G' a=none) (n:¬ aR ρ' σ a):Aft K ρ σ H G ρ' (aV H' a o) G':=by
 refine ⟨b.rel.poke g n,⟨b.ext.gg,fun c u e nc=>?_,fun c e=>?_,b.ext.gn⟩,b.evo⟩
 ·have:c≠a:=fun z=>by subst z; rw [h] at e; cases e
  rw [aO this]; exact b.ext.hh c u e nc
 ·by_cases hc:c=a
  ·subst hc; rw [bE] at e; cases e
  ·rw [aO hc] at e; exact b.ext.hx c e
theorem N4 (xo:bP X K P C Γ) {ke:Expr} {ck:E} {n:Int} {j:Nat} {q pos:Pos} (hk:Ok3 X K P C ke ck):Ok3 X K P C (.Dict [some ke] [.Constant (.int n) j q] pos) (.dict1 ck n):=by
 refine kA xo (TE.imp_pe (NX (by have:=xo.hu; omega) hk.v DI) fun σ H Q q=>?_) (fun i z=>nomatch z) (fun ρ=>by simp only [ev,aN]) fun _=>rfl
 obtain ⟨ρ,G,v,ρ',r,e,k⟩:=q;simp only [ev,aN] at e;obtain ⟨w,ρ1,e1,e2⟩:=aL e;split at e2
 ·rename_i k0 hs;cases e2;intro p hp sm;have nO:=r.notOwn hp;have gO:=aM.free r.sub hp;refine ⟨ρ,G,w,ρ',((Aft.refl r).layH hp).rel,e1,fun x H1 G1 a1 rx=>?_⟩;have hH:H1 p=some (.ext (fK p [])):=a1.ext.hh p _ bE nO;have hG:G1 p=none:=a1.ext.gn p (by rw [bE]; simp) gO nO;have hN:¬ aR ρ' σ p:=fun z=>nO (a1.own p z)
  obtain ⟨b,rfl,kk⟩:=tM hs rx.readR;refine ⟨hH,k0,b,rfl,by rw [xo.keq]; exact cQ.mono a1.rel.sub kk,fun u ru=>?_⟩;obtain ⟨t,rfl⟩:=ru;have a0:Aft K ρ σ H G ρ' H1 G1:=((Aft.refl r).layH hp).trans a1;refine k _ _ G1 (a0.poke hp hG hN) ⟨p,rfl,hG,⟨_,bE, ?_⟩,hN,hp⟩;exact ⟨by simp,by rw [sizeLine_eq]; simp,sm,fun x hx=>by rw [ze.mp hx]; exact kk,.cons ⟨rfl,t,rfl⟩ .nil⟩
 ·cases e2
theorem N8 (xo:bP X K P C Γ) {ks:List (Option Expr)} {vs:List Expr} {cs:List E} {pos:Pos} (hk:∀ k c,ks=[some k]→cs=[c]→Ok3 X K P C k c):Ok3 X K P C (.Dict ks vs pos) (IF ks vs cs):=by
 unfold IF;split
 ·exact N4 xo (hk _ _ rfl rfl)
 ·exact aU
theorem VF {q:Bool} (xo:XOkB q X K P C Γ) {t:Expr} {ty:Ty} (h:IQ Γ t=some ty):PE X t (tC (NA ty))∧a9 t=true:=by
 cases t <;> simp only [IQ,reduceCtorEq] at h;rename_i x pos;split at h
 ·rename_i hg;obtain ⟨h1,h2,h3,h4⟩:=CC.glob_ok xo hg (fun z=>nomatch z);have hm:=xo.blt x h2;refine ⟨?_,rfl⟩;split at h
  ·rename_i hx; cases h; subst hx; exact l5 h1 hm (u:=.type "int") (by decide +kernel) rfl
  ·split at h
   ·rename_i hx; cases h; subst hx; exact l5 h1 hm (u:=.type "bool") (by decide +kernel) rfl
   ·split at h
    ·rename_i hx; cases h; subst hx; exact l5 h1 hm (u:=.type "str") (by decide +kernel) rfl
    ·split at h
     ·rename_i hx; cases h; subst hx; exact l5 h1 hm (u:=.type "list") (by decide +kernel) rfl
     ·split at h
      ·rename_i hx; cases h; subst hx; exact l5 h1 hm (u:=.type "tuple") (by decide +kernel) rfl
      ·split at h
       ·rename_i hx; cases h; subst hx; exact l5 h1 hm (u:=.type "ValueError") (by decide +kernel) rfl
       ·cases h
 ·cases h
theorem X5 {q:Bool} (xo:XOkB q X K P C Γ) {a t:Expr} {ca:E} {ty:Ty} {p pos:Pos} (hf:Γ.glob ("isinstance":Str)=.blt) (ht:IQ Γ t=some ty) (ns:a9 a=true) (ha:Ok3 X K P C a ca) :
  Ok3 X K P C (.Call (.Name ("isinstance":Str) p) [a,t] [] pos) (.isi ca [ty]):=by
 obtain ⟨h1,h2,h3,h4⟩:=CC.glob_ok xo hf (fun z=>nomatch z);have hm:=xo.blt _ h2;obtain ⟨pt,nt⟩:=VF xo ht;have hpa:PA X [a,t] (sY (tH K P C ca) (sY (tC (NA ty)) yV)):=jR ha.h (jR pt mL (bQ nt _ _)) (bQ ns _ _);have hall:[t].all a9=true:=by rw [Zj,nt]; rfl
 have hp:=vE (p:=p) (pos:=pos) (aA7 xo.keq ty) h1 hm (by decide +kernel) hpa h4 h3 (bQ ns _ _) (fY hall _ _).1;refine kA xo (TE.imp_pe hp fun σ H Q q=>?_) (fun i z=>nomatch z) (fun ρ=>by simp only [ev,aN]) fun _=>rfl
 obtain ⟨ρ,G,v,ρ',r,e,k⟩:=q;simp only [ev,aN] at e;obtain ⟨hx,ρ1,e1,e⟩:=aL e;obtain ⟨e2,rfl⟩:=eC e;refine ⟨ρ,G,hx,ρ',r,e1,fun x H1 G1 a1 rx=>?_⟩
 cases q1:hx.get ρ' with
 | none=>rw [q1] at e2; cases e2
 | some d =>
  rw [q1] at e2;simp only [Option.bind_some,A5] at e2
  cases q2:HW ty d with
  | none=>rw [q2] at e2; cases e2
  | some b =>
   rw [q2] at e2;simp only [Option.bind_some,Option.map_some,Bool.or_false,Option.some.injEq] at e2;subst e2;exact ⟨G1,d,x,b,a1.rel.sub,rfl,rx.read a1.rel q1,q2,k _ H1 G1 a1 (by show aE K G1 (.bl _) _; simp [aE])⟩
theorem GX {b:Expr} (h:∀ lo hi p,b≠.Slice lo hi none p):yL b:=fun o i=>by
 cases b <;> first
  | rfl
  | (rename_i lo hi st p; cases st with
    | none=>exact absurd rfl (h lo hi p)
    | some s=>rfl)
end
section
variable {X:Cx} {K:Frag} {P:aQ} {C:Calls} {Γ:CC}
theorem P1 {e:Expr} {c:E}:Ok3 X K P C e (.mkset c):=GG (fun t ρ=>by rw [ev]) fun i z=>nomatch z
theorem WD (xo:bP X K P C Γ) {e:Expr} {c:E} {p p2 pos pos2:Pos} (h1:Γ.glob "len"=.blt) (h2:Γ.glob "set"=.blt) (ns:a9 e=true) (ha:Ok3 X K P C e c) :
  Ok3 X K P C (.Call (.Name "len" p) [.Call (.Name "set" p2) [e] [] pos2] [] pos) (.nset c):=by
 obtain ⟨a1,a2,a3,a4⟩:=CC.glob_ok xo h1 (fun z=>nomatch z);obtain ⟨b1,b2,b3,b4⟩:=CC.glob_ok xo h2 (fun z=>nomatch z);have hp:PA X [e] (sY (tH K P C c) yV):=jR ha.h mL (bQ ns _ _);have hset:=nK (JV xo.calm) b1 (xo.blt _ b2) (by decide +kernel:bootBuiltins "set"=some (.type "set")) hp (pos:=pos2) (p:=p2) b4 b3 (bQ ns _ _) rfl;have hlen:=vE L7 a1 (xo.blt _ a2) PySem.boot_len (jR hset mL rfl) (pos:=pos) (p:=p) a4 a3 rfl rfl;refine kA xo (TE.imp_pe hlen fun σ H Q q=>?_) (fun i z=>nomatch z) (fun ρ=>by simp only [ev,aN]) fun _=>rfl
 obtain ⟨ρ,G,v,ρ',r,e,k⟩:=q;simp only [ev,aN] at e;obtain ⟨hx,ρ1,e1,e⟩:=aL e;obtain ⟨e3,rfl⟩:=eC e;refine ⟨ρ,G,hx,ρ',r,e1,fun x H1 G1 a1 rx=>?_⟩
 cases q1:hx.get ρ' with
 | none=>rw [q1] at e3; cases e3
 | some d =>
  rw [q1] at e3;simp only [Option.bind_some] at e3;cases d <;> simp only [wJ,reduceCtorEq] at e3;rename_i ds
  cases q2:dI ds with
  | none=>rw [q2] at e3; cases e3
  | some is =>
   rw [q2] at e3;simp only at e3;split at e3
   ·rename_i hz;cases e3;obtain ⟨b,vs,rfl,h3,h4⟩:=(rx.read a1.rel q1).lst a1.rel.sub;have hK:=xo.keq;refine ⟨b,vs,ds,is,G1,rfl,by rw [hK]; exact h3,by rw [hK]; exact h4,q2,hz,fun p S hn=>?_⟩;refine ⟨p,S,_,rfl,bE, ?_⟩;exact k _ _ G1 (a1.layH hn) (by show aE K G1 (.int _) _; simp [aE])
   ·cases e3
theorem OB {e:Expr} {c:List E}:Ok3 X K P C e (.mkrng c):=GG (fun t ρ=>by rw [ev]) fun i z=>nomatch z
theorem vL {G:Hp} {i:Int}:∀ l:List Nat,aB K G (l.map fun (n:Nat)=>D.int (i+(n:Int))) (l.map fun (n:Nat)=>V.int (i+(n:Int)))
 | []=>aB.nil
 | n :: l=>aB.cons (by simp [aE]) (vL l)
theorem TK (xo:bP X K P C Γ) {a:Expr} {b:List Expr} {cs:List E} {p p2 pos pos2:Pos} (h1:Γ.glob "list"=.blt) (h2:Γ.glob "range"=.blt) (ns:(a :: b).all a9=true) (ha:PA X (a :: b) (mP K P C cs)) :
  Ok3 X K P C (.Call (.Name "list" p) [.Call (.Name "range" p2) (a :: b) [] pos2] [] pos) (.lrng cs):=by
 obtain ⟨a1,a2,a3,a4⟩:=CC.glob_ok xo h1 (fun z=>nomatch z);obtain ⟨b1,b2,b3,b4⟩:=CC.glob_ok xo h2 (fun z=>nomatch z);rw [Zj,ZB] at ns;have hrng:=nK L5 b1 (xo.blt _ b2) boot_range ha (pos:=pos2) (p:=p2) b4 b3 (bQ ns.1 _ _) (fY ns.2 _ _).1;have hlst:=nK (JE xo.calm) a1 (xo.blt _ a2) (by decide +kernel:bootBuiltins "list"=some (.type "list")) (jR hrng mL rfl) (pos:=pos) (p:=p) a4 a3 rfl rfl;refine kA xo (TE.imp_pe hlst fun σ H Q q=>?_) (fun i z=>nomatch z) (fun ρ=>by simp only [ev,aN]) fun _=>rfl
 obtain ⟨ρ,G,v,ρ',r,e,k⟩:=q;simp only [ev,aN] at e;obtain ⟨hs,ρ1,e1,e⟩:=aL e;obtain ⟨e3,rfl⟩:=eC e;refine ⟨ρ,G,hs,ρ',r,e1,fun xs H1 G1 a1 rx=>?_⟩
 cases q1:getAll hs ρ' with
 | none=>rw [q1] at e3; cases e3
 | some ds =>
  rw [q1] at e3;simp only [Option.bind_some] at e3;have hd:=rx.getAll a1.rel q1;unfold tR at e3;split at e3
  ·rename_i j;split at e3
   ·rename_i hb;cases e3;obtain ⟨x,rfl,rx1⟩:=fC hd;cases rx1.int;refine ⟨0,j,.inr ⟨rfl,rfl⟩,fun p hp=>⟨p,0,j,rfl,bE,⟨by omega,hb⟩,fun q hq=>?_⟩⟩;obtain ⟨a5,v5⟩:=(a1.layH (o:=.rng 0 j) hp).own_new hq (vL (K:=K) (G:=G1) (i:=0) (List.range (j - 0).toNat));exact k _ _ G1 a5 v5
   ·cases e3
  ·rename_i i j;split at e3
   ·rename_i hb;cases e3;obtain ⟨x,y,rfl,rx1,rx2⟩:=JJ hd;cases rx1.int;cases rx2.int;refine ⟨i,j,.inl rfl,fun p hp=>⟨p,i,j,rfl,bE,hb,fun q hq=>?_⟩⟩;obtain ⟨a5,v5⟩:=(a1.layH (o:=.rng i j) hp).own_new hq (vL (K:=K) (G:=G1) (i:=i) (List.range (j - i).toNat));exact k _ _ G1 a5 v5
   ·cases e3
  ·cases e3
theorem vU {G:Hp} {f:Str}:∀ {ns:List Str} {ds:List D} {vs:List V} {d:D},aB K G ds vs→(ns.zip ds).lookup f=some d→f∈ns∧∃ v,(ns.zip vs).lookup f=some v∧aE K G d v
 | [],_,_,_,_,h=>by simp at h
 | n :: ns,[],_,_,_,h=>by simp at h
 | n :: ns,d0 :: ds,vs,d,r,h=>by
  simp only [aB] at r;obtain ⟨v,r',rfl,h1,h2⟩:=r;rw [List.zip_cons_cons,List.lookup_cons] at h ⊢
  cases q:(f == n) with
  | true =>
   rw [q] at h;cases h;exact ⟨by rw [Zy q]; simp,v,rfl,h1⟩
  | false =>
   rw [q] at h;obtain ⟨z1,v',z2,z3⟩:=vU h2 h;exact ⟨Ze _ z1,v',z2,z3⟩
theorem bV.ins {H G:Hp} {c:Str} {ns:List Str} {ds:List D} {x:V} (h:bV K H G (.ins c ns ds) x):aE K G (.ins c ns ds) x:=by
 rcases h with h | ⟨a,rfl,h⟩
 ·exact h
 ·exact h.elim
theorem Z7 (xo:bP X K P C Γ) {x f:Str} {p pos:Pos}:Ok3 X K P C (.Attribute (.Name x p) f pos) (.fld (wR Γ x) f):=by
 have ha:=F4 xo x p;refine kA xo (TE.imp_pe (Z4 ha.h rfl) fun σ H Q q=>?_) (fun i z=>nomatch z) (fun ρ=>by simp only [ev,aN]) fun _=>rfl
 obtain ⟨ρ,G,v,ρ',r,e,k⟩:=q;simp only [ev,aN] at e;obtain ⟨hx,ρ1,e1,e⟩:=aL e;obtain ⟨e3,rfl⟩:=eC e;refine ⟨ρ,G,hx,ρ',r,e1,fun x H1 G1 a1 rx=>?_⟩
 cases q1:hx.get ρ' with
 | none=>rw [q1] at e3; cases e3
 | some d =>
  rw [q1] at e3;simp only [Option.bind_some] at e3;cases d <;> simp only [OL,reduceCtorEq,Option.map_none] at e3;rename_i c ns ds
  cases q2:(ns.zip ds).lookup f with
  | none=>rw [q2] at e3; cases e3
  | some d' =>
   rw [q2] at e3;cases e3;have rr:=(rx.read a1.rel q1).ins;simp only [aE] at rr;obtain ⟨a,Ca,dx,vs,rfl,h1,h2,h3,h4,h5⟩:=rr;obtain ⟨z1,v',z2,z3⟩:=vU h3 q2;have hK:=xo.keq;exact ⟨a,Ca,dx,_,v',rfl,a1.rel.sub _ _ h2,by rw [hK]; exact h4.cl,by rw [hK]; exact h4.no f z1,z2,k v' H1 G1 a1 z3⟩
inductive XDs (K:Frag):List (List Str × List Str)→List Addr→Prop
 | nil:XDs K [] []
 | cons {s n:List Str} {D:Addr} {sn:List (List Str × List Str)} {Ds:List Addr} (hs:∀ c∈s,∀ C,nsIn K mainGlobals c=some (some (.ref C))→PySem.W.isIn K (.ref C) D=true)
   (hn:∀ c∈n,∀ C,nsIn K mainGlobals c=some (some (.ref C))→PySem.W.kin_not K C D=true) (t:XDs K sn Ds):XDs K ((s,n) :: sn) (D :: Ds)
theorem VS (xo:bP X K P C Γ) {f:Str} {ns:List Str} {e:Expr} {es:List Expr} {cs:List E} {p pos:Pos} (hf:Γ.glob f=.cls ns) (st:(e :: es).all a9=true) (ha:PA X (e :: es) (CL K P C cs)):Ok3 X K P C (.Call (.Name f p) (e :: es) [] pos) (.make f ns cs):=by
 obtain ⟨h1,h2,h3,h4⟩:=CC.glob_ok xo hf (fun z=>nomatch z);obtain ⟨Ca,fa,fd,ps,hn,hm,M,cf,F,hb⟩:=(xo.cls f ns h2).ex;rw [Zj,ZB] at st;refine kA xo (TE.imp_pe (WL M F xo.rm h1 hm hb .nil A7 ha h3 (bQ st.1 _ _) (fY st.2 _ _).1) fun σ H Q q=>?_) (fun i z=>nomatch z) (fun ρ=>by simp only [ev,aN]) fun _=>rfl
 obtain ⟨ρ,G,v,ρ',r,e,k⟩:=q;simp only [ev,aN] at e;obtain ⟨ds,ρ1,e1,e⟩:=aL e;split at e
 ·rename_i hl;cases e;refine ⟨ρ,G,ds,_,r,e1,fun xs H1 G1 a1 rx x dx nx ndx ne=>?_⟩;have el:xs.length=ns.length:=rx.len.trans hl;rw [List.append_nil];refine ⟨x,Ca,dx,xs,rfl,el,bE,cf,rfl, ?_⟩;rw [E3];have nx':(aV H1 dx (.own x)) x=none:=by rw [aO (Ne.symm ne)]; exact nx
  have a2:=(a1.layH (o:=.own x) ndx).layG (o:=.ins Ca dx (ns.zip xs)) nx';refine k (.ref x) _ _ a2 ?_;show aE K _ (.ins f ns ds) _;simp only [aE];exact ⟨x,Ca,dx,xs,rfl,hn,bE,aB.mono (aM.laid (aM.free a1.rel.sub nx)) ds rx,cf,el.symm⟩
 ·cases e
theorem mZ {α:Type} {f:Str}:∀ {ns:List Str} {vs:List α},ns.contains f=false→(ns.zip vs).lookup f=none
 | [],_,_=>by simp
 | n :: ns,[],_=>by simp
 | n :: ns,v :: vs,h=>by
  rw [List.contains_cons,Bool.or_eq_false_iff] at h;rw [List.zip_cons_cons,List.lookup_cons,h.1];exact mZ h.2
theorem FX {o:Expr} {m:Str} {es:List Expr} {apos pos:Pos} (st:es.all a9=true) (hln:(apos.endLine == pos.line)=true) (hfw:es.length<29) (env:PySem.Env) (hb:attributeBase o m env (eval o env)=eval o env:=by rfl):eval (.Call (.Attribute o m apos) es [] pos) env=(do
   let ov ← eval o env
   standAt apos.atName
   let (f,first) ← holding [ov] (getMethod ov m (do return (← importBound o env).getD true))
   callWith pos f first (backTo pos (starEach es env)) (backToKw pos (keywordEach [] env))):=by
 rw [arm_eval_Call]
 have hform:methodCallForm (es.length+([]:List Keyword).length) (backTo pos (starEach es env)) (backToKw pos (keywordEach [] env))=true:=by
  unfold methodCallForm;rw [(fY st env pos).2];simp only [Bool.true_and]
  have:(backToKw pos (keywordEach [] env))=[]:=rfl
  rw [this];simp;omega
 have hpos:methodCallPos true o env apos pos=pure pos:=by unfold methodCallPos; simp [hln]
 unfold methodCall;rw [hform];unfold calleeOf;simp only [if_true,hpos,hb];rfl
theorem SU (xo:bP X K P C Γ) {x m:Str} {i:Nat} {tb:List (Str × String)} {es:List Expr} {cs:List E} {p apos pos:Pos} (hi:Γ.slot x=some i) (hm:Γ.gl (sC m)=.mth tb) (st:es.all a9=true) (hln:(apos.endLine == pos.line)=true) (hfw:es.length<29) (ha:PA X es (mP K P C cs)) (hz:es=[]→cs=[]):Ok3 X K P C (.Call (.Attribute (.Name x p) m apos) es [] pos) (.meth i m tb cs):=by
 have hp:=CC.slot_ok xo hi (pos:=p);refine kA xo (fun pins s σ H Q I q=>?_) (fun i z=>nomatch z) (fun ρ=>by simp only [ev,aN]) fun _=>rfl
 obtain ⟨ρ,G,v,ρ',r,e,k⟩:=q;simp only [ev,aN] at e;split at e
 ·rename_i c ns ds hs;split at e
  ·rename_i f hmf;unfold fQ at hmf;split at hmf
   ·cases hmf
   ·rename_i hns;obtain ⟨Ca,fa,fd,ps,k0,hn,M,F,hr,hb,hcl⟩:=(xo.mth m tb c f hm hmf).ex;obtain ⟨x0,hx0,rx0⟩:=r.sh i _ hs;have rx1:=rx0;simp only [aE] at rx0;obtain ⟨a,Cb,dx,vs,rfl,h1,h2,h3,h4,h5⟩:=rx0;rw [hn] at h1; cases h1;obtain ⟨hd0,ρ1,e1,e⟩:=aL e;have hK:=xo.keq;have clX:Cls X.K Ca:=by rw [hK]; exact h4.cl
    have main:∀ t:TA,(∀ σ H Q,mP K P C cs σ H Q→t σ H Q)→ID Ca m (J3 K (P f).length (C f)) [] (fun _ _ _=>False) (vG i) t σ H Q:=fun t ht=>by
     refine ⟨.ref a,hx0,a,dx,_,rfl,r.sub _ _ h2,mZ (by simpa using hns),ht _ _ _ ⟨ρ,G,hd0,ρ1,r,e1,fun xs H1 G1 a1 rx=>?_⟩⟩;have rx':dC K H1 G1 (aR ρ1 σ) (eZ H) σ (.val (.sh (.ins c ns ds)) :: hd0) (.ref a :: xs):=⟨.ref a,xs,rfl,aE.mono a1.ext.gg _ rx1,rx,fun d b z=>by cases z⟩
     obtain ⟨as,G2,as',d1,d2,d3,_,d4⟩:=rW a1 rx' e;dsimp only;rw [List.append_nil];refine ⟨?_,as,G2,v,as',d1,d2,d3,fun x H' G' a hv=>?_⟩
     ·have:=d1.len
      rw [List.length_map] at this;omega
     ·obtain ⟨a5,v5⟩:=d4 x H' G' a hv;exact k x H' G' a5 v5
    cases es with
    | nil =>
     cases hz rfl;refine OU hp clX M F hr hb .nil A7 (FX st hln hfw _) pins s σ H Q I (main _ fun σ' H' Q' z=>?_);obtain ⟨ρ2,G2,hs2,ρ3,r2,e2,k2⟩:=z;rw [cI] at e2;cases e2;exact k2 [] H' G2 (Aft.refl r2) rfl
    | cons e0 es0 =>
     have st0:=st;rw [Zj,ZB] at st;exact UX hp clX M F hr hb .nil A7 ha (bQ st.1 _ _) (fY st.2 _ _).1 (FX st0 hln hfw _) pins s σ H Q I (main _ fun _ _ _ z=>z)
  ·cases e
 ·cases e
end
structure AftS (K:Frag) (ρ:Env) (σ:St) (H G:Hp) (ρ':Env) (σ':St) (H' G':Hp):Prop where
 rel:Rel K ρ' σ' H' G'
 ext:Ext (aR ρ σ) H G H' G'
 own:∀ a,aR ρ' σ' a→aR ρ σ a∨H a=none
 un:∀ i:Nat,ρ'[i]?=some .un→ρ[i]?=some .un∧σ'[i]?=σ[i]?
 pin:∀ (i:Nat) d l,ρ[i]?=some (.ow d true l)→σ'[i]?=σ[i]?∧∃ d',ρ'[i]?=some (.ow d' true l)
 len:ρ'.length=ρ.length
section
variable {K:Frag} {ρ ρ' ρ1 ρ2:Env} {σ σ' σ1 σ2:St} {H G H' G' H1 G1 H2 G2:Hp}
theorem AftS.refl (r:Rel K ρ σ H G):AftS K ρ σ H G ρ σ H G:=⟨r,Ext.refl,fun _ h=>.inl h,fun _ h=>⟨h,rfl⟩,fun _ d _ h=>⟨rfl,d,h⟩,rfl⟩
theorem Aft.s (r:Rel K ρ σ H G) (a:Aft K ρ σ H G ρ' H' G'):AftS K ρ σ H G ρ' σ H' G':=by
 refine ⟨a.rel,a.ext,fun x h=>.inl (a.own x h),fun i h=>⟨?_,rfl⟩,fun i d l h=>⟨rfl, ?_⟩, ?_⟩
 ·have:=a.evo i
  rw [h] at this
  cases e:ρ[i]? with
  | none=>rw [e] at this; exact this.elim
  | some s=>rw [e] at this; cases s <;> first | rfl | exact this.elim
 ·have:=a.evo i
  rw [h] at this
  cases e:ρ'[i]? with
  | none=>rw [e] at this; exact this.elim
  | some s =>
   rw [e] at this
   cases s with
   | ow d' p' l'=>obtain ⟨rfl,rfl⟩:=this; exact ⟨d',rfl⟩
   | sh d'=>exact absurd (show true=false from this) (by simp)
   | _=>exact this.elim
 ·rw [a.rel.len,r.len]
theorem AftS.trans (a:AftS K ρ σ H G ρ1 σ1 H1 G1) (b:AftS K ρ1 σ1 H1 G1 ρ2 σ2 H2 G2):AftS K ρ σ H G ρ2 σ2 H2 G2:=by
 refine ⟨b.rel,a.ext.trans a.own b.ext,fun x h=>?_,fun i h=>?_,fun i d l h=>?_,b.len.trans a.len⟩
 ·rcases b.own x h with z | z
  ·exact a.own x z
  ·exact .inr (a.ext.hx x z)
 ·obtain ⟨h1,h2⟩:=b.un i h;obtain ⟨h3,h4⟩:=a.un i h1;exact ⟨h3,h2.trans h4⟩
 ·obtain ⟨h1,d',h2⟩:=a.pin i d l h;obtain ⟨h3,h4⟩:=b.pin i d' l h2;exact ⟨h3.trans h1,h4⟩
def fX (K:Frag) (ρ:Env) (σ:St) (H G:Hp) (ρ':Env) (D:Ends):Fl→Prop
 | .nx=>∀ σ' H' G',AftS K ρ σ H G ρ' σ' H' G'→D.nx σ' H'
 | .bk=>∀ σ' H' G',AftS K ρ σ H G ρ' σ' H' G'→D.bk σ' H'
 | .ct=>∀ σ' H' G',AftS K ρ σ H G ρ' σ' H' G'→D.ct σ' H'
 | .rt v=>∀ x σ' H' G',AftS K ρ σ H G ρ' σ' H' G'→dQ K H' G' (aR ρ' σ') (fun a=>aR ρ σ a∨H a=none) v x→D.rt x H'
 | .ex _=>False
theorem fX.pre {D:Ends} {fl:Fl} (a:AftS K ρ σ H G ρ1 σ1 H1 G1) (h:fX K ρ σ H G ρ' D fl):fX K ρ1 σ1 H1 G1 ρ' D fl:=by
 cases fl with
 | nx=>exact fun σ' H' G' b=>h σ' H' G' (a.trans b)
 | bk=>exact fun σ' H' G' b=>h σ' H' G' (a.trans b)
 | ct=>exact fun σ' H' G' b=>h σ' H' G' (a.trans b)
 | rt v=>exact fun x σ' H' G' b hv=>h x σ' H' G' (a.trans b) (hv.new_mono fun c z=>by
   rcases z with z | z
   ·exact a.own c z
   ·exact .inr (a.ext.hx c z))
 | ex e=>exact h
end
noncomputable def tS (K:Frag) (P:aQ) (C:Calls) (W:Nat) (c:S):TS:=fun D σ H=>∃ (ρ:Env) (G:Hp) (fl:Fl) (ρ':Env),Rel K ρ σ H G∧ex P C W c ρ=some (fl,ρ')∧fX K ρ σ H G ρ' D fl
noncomputable def sH (K:Frag) (P:aQ) (C:Calls) (W:Nat) (c:List S):TS:=fun D σ H=>∃ (ρ:Env) (G:Hp) (fl:Fl) (ρ':Env),Rel K ρ σ H G∧exs P C W c ρ=some (fl,ρ')∧fX K ρ σ H G ρ' D fl
theorem TS.imp_ps {X:Cx} {e:Stmt} {t u:TS} (h:PS X e t) (w:∀ D σ H,u D σ H→t D σ H):PS X e u:=fun pins s σ H D I q=>h pins s σ H D I (w D σ H q)
theorem TS.imp_pss {X:Cx} {e:List Stmt} {t u:TS} (h:hW X e t) (w:∀ D σ H,u D σ H→t D σ H):hW X e u:=fun pins s σ H D I q=>h pins s σ H D I (w D σ H q)
section
variable {X:Cx} {K:Frag} {P:aQ} {C:Calls} {W:Nat} {Γ:CC}
theorem gG {α:Type} {r:aS α} {f:α→Env→bR} {fl:Fl} {ρ:Env} (h:r.flow f=some (fl,ρ)) (n:∀ e,fl≠.ex e):∃ a ρ1,r=some (.ok a,ρ1)∧f a ρ1=some (fl,ρ):=by
 unfold aS.flow at h;split at h
 ·cases h
 ·cases h; exact absurd rfl (n _)
 ·exact ⟨_,_,rfl,h⟩
theorem fX.ne {ρ ρ':Env} {σ:St} {H G:Hp} {D:Ends} {fl:Fl} (h:fX K ρ σ H G ρ' D fl):∀ e,fl≠.ex e:=fun e z=>by subst z; exact h
theorem OT:hW X [] (sH K P C W []):=TS.imp_pss E6 fun D σ H ⟨ρ,G,fl,ρ',r,e,k⟩=>by
 simp only [exs,Option.some.injEq,Prod.mk.injEq] at e;obtain ⟨rfl,rfl⟩:=e;exact k σ H G (AftS.refl r)
theorem LS {st:Stmt} {jA:List Stmt} {c:S} {cs:List S} (h1:PS X st (tS K P C W c)) (h2:hW X jA (sH K P C W cs)):hW X (st :: jA) (sH K P C W (c :: cs)):=by
 refine TS.imp_pss (BY h1 h2) fun D σ H ⟨ρ,G,fl,ρ',r,e,k⟩=>?_
 rw [exs] at e
 cases q:ex P C W c ρ with
 | none=>rw [q] at e; cases e
 | some y =>
  obtain ⟨fl1,ρ1⟩:=y;rw [q] at e;refine ⟨ρ,G,fl1,ρ1,r,q, ?_⟩
  cases fl1 with
  | nx=>exact fun σ1 H1 G1 a1=>⟨ρ1,G1,fl,ρ',a1.rel,e,k.pre a1⟩
  | bk=>cases e; exact k
  | ct=>cases e; exact k
  | rt v=>cases e; exact k
  | ex x=>cases e; exact k
theorem Rel.storeR {ρ ρ':Env} {σ:St} {H G:Hp} {new:Addr→Prop} {i:Nat} {v:RV} {x:V} (r:Rel K ρ σ H G) (e:store i v ρ=some ρ') (h:dQ K H G (aR ρ σ) new v x) :
  Rel K ρ' (σ.set i (some x)) H G∧(∀ a,aR ρ' (σ.set i (some x)) a→aR ρ σ a∨new a)∧(∀ j:Nat,ρ'[j]?=some .un→ρ[j]?=some .un∧(σ.set i (some x))[j]?=σ[j]?) ∧
  (∀ (j:Nat) d l,ρ[j]?=some (.ow d true l)→(σ.set i (some x))[j]?=σ[j]?∧∃ d',ρ'[j]?=some (.ow d' true l))∧ρ'.length=ρ.length:=by
 have key:∃ sl,i<ρ.length∧ρ'=ρ.set i sl∧(∀ d l,ρ[i]?≠some (.ow d true l))∧((∃ d,v=.sh d∧sl=.sh d)∨∃ d,v=.ow d∧sl=.ow d false false):=by
  unfold store at e;split at e
  ·cases e
  ·cases e
  ·cases e
  ·rename_i s h1 h2 h3;cases e;refine ⟨_,(Zc.mp h3).1,rfl,fun d l z=>?_, ?_⟩
   ·rw [h3] at z; cases z; exact h1 _ _ rfl
   ·cases v with
    | sh d=>exact .inl ⟨d,rfl,rfl⟩
    | ow d=>exact .inr ⟨d,rfl,rfl⟩
 obtain ⟨sl,hi,rfl,np,hs⟩:=key;have his:i<σ.length:=by rw [← r.len]; exact hi
 have hx:(σ.set i (some x))[i]?=some (some x):=zk his;have ne:∀ j:Nat,j≠i→(σ.set i (some x))[j]?=σ[j]?:=fun j h=>Zf (fun z=>h z.symm)
 have oth:∀ (j:Nat) s,(ρ.set i sl)[j]?=some s→(j=i∧s=sl)∨(j≠i∧ρ[j]?=some s):=fun j s h=>by
  rcases cU h with ⟨h1,h2,_⟩ | h
  ·exact .inl ⟨h1,h2⟩
  ·exact .inr h
 refine ⟨⟨by rw [zg,zg]; exact r.len,r.sub,fun j d h1=>?_,fun j d p l h1=>?_,fun j k d p l d' p' l' a h1 h2 h3 h4=>?_⟩,fun a ⟨j,d,p,l,h1,h2⟩=>?_,fun j h1=>?_,fun j d l h1=>?_,by rw [zg]⟩
 ·rcases oth j _ h1 with ⟨rfl,z⟩ | ⟨nj,z⟩
  ·rcases hs with ⟨d0,rfl,rfl⟩ | ⟨d0,rfl,rfl⟩
   ·cases z; exact ⟨x,hx,h⟩
   ·cases z
  ·rw [ne j nj]; exact r.sh j d z
 ·rcases oth j _ h1 with ⟨rfl,z⟩ | ⟨nj,z⟩
  ·rcases hs with ⟨d0,rfl,rfl⟩ | ⟨d0,rfl,rfl⟩
   ·cases z
   ·cases z;obtain ⟨a,rfl,g,o,_,_⟩:=h;exact ⟨a,hx,g,o⟩
  ·rw [ne j nj]; exact r.ow j d p l z
 ·rcases oth j _ h1 with ⟨rfl,z⟩ | ⟨nj,z⟩
  ·rcases oth k _ h2 with ⟨rfl,z'⟩ | ⟨nk,z'⟩
   ·rfl
   ·rcases hs with ⟨d0,rfl,rfl⟩ | ⟨d0,rfl,rfl⟩
    ·cases z
    ·obtain ⟨b,rfl,g,o,no,_⟩:=h;rw [hx] at h3; cases h3;rw [ne k nk] at h4;exact absurd ⟨k,_,_,_,z',h4⟩ no
  ·rcases oth k _ h2 with ⟨rfl,z'⟩ | ⟨nk,z'⟩
   ·rcases hs with ⟨d0,rfl,rfl⟩ | ⟨d0,rfl,rfl⟩
    ·cases z'
    ·obtain ⟨b,rfl,g,o,no,_⟩:=h;rw [hx] at h4; cases h4;rw [ne j nj] at h3;exact absurd ⟨j,_,_,_,z,h3⟩ no
   ·rw [ne j nj] at h3;rw [ne k nk] at h4;exact r.inj _ _ _ _ _ _ _ _ _ z z' h3 h4
 ·rcases oth j _ h1 with ⟨rfl,z⟩ | ⟨nj,z⟩
  ·rcases hs with ⟨d0,rfl,rfl⟩ | ⟨d0,rfl,rfl⟩
   ·cases z
   ·obtain ⟨b,rfl,g,o,no,m⟩:=h;rw [hx] at h2; cases h2;exact .inr m
  ·rw [ne j nj] at h2; exact .inl ⟨j,d,p,l,z,h2⟩
 ·rcases oth j _ h1 with ⟨rfl,z⟩ | ⟨nj,z⟩
  ·rcases hs with ⟨d0,rfl,rfl⟩ | ⟨d0,rfl,rfl⟩ <;> cases z
  ·exact ⟨z,ne j nj⟩
 ·by_cases hj:j=i
  ·subst hj; exact absurd h1 (np d l)
  ·exact ⟨ne j hj,d,by rw [Zf (fun z=>hj z.symm)]; exact h1⟩
theorem Aft.store {ρ ρ1 ρ':Env} {σ:St} {H G H1 G1:Hp} {i:Nat} {v:RV} {x:V} (r:Rel K ρ σ H G) (a:Aft K ρ σ H G ρ1 H1 G1) (e:store i v ρ1=some ρ') (h:dQ K H1 G1 (aR ρ1 σ) (eZ H) v x):AftS K ρ σ H G ρ' (σ.set i (some x)) H1 G1:=by
 obtain ⟨h1,h2,h3,h4,h5⟩:=a.rel.storeR e h;have s:=Aft.s r a;refine ⟨h1,a.ext,fun b z=>?_,fun j z=>?_,fun j d l z=>?_,h5.trans s.len⟩
 ·rcases h2 b z with z | z
  ·exact s.own b z
  ·exact .inr z
 ·obtain ⟨z1,z2⟩:=h3 j z;obtain ⟨z3,z4⟩:=s.un j z1;exact ⟨z3,z2⟩
 ·obtain ⟨_,d',z2⟩:=s.pin j d l z;exact h4 j d' l z2
theorem Rel.store1 {ρ ρ':Env} {σ:St} {H G:Hp} {i:Nat} {d:D} {x:V} (r:Rel K ρ σ H G) (e:store i (.sh d) ρ=some ρ') (h:aE K G d x):AftS K ρ σ H G ρ' (σ.set i (some x)) H G :=
 Aft.store r (Aft.refl r) e h
noncomputable def gB (K:Frag) (one:Bool) (is:List Nat):TG:=fun v σ H Q=>∃ (ρ:Env) (G:Hp) (d:D) (ρ':Env),Rel K ρ σ H G∧aE K G d v∧a8 one is d ρ=some ρ'∧∀ σ',AftS K ρ σ H G ρ' σ' H G→Q σ' H
noncomputable def J5 (K:Frag) (is:List Nat):uH:=fun vs σ H Q=>∃ (ρ:Env) (G:Hp) (ds:List D) (ρ':Env),Rel K ρ σ H G∧aB K G ds vs∧dD is ds ρ=some ρ'∧∀ σ',AftS K ρ σ H G ρ' σ' H G→Q σ' H
theorem aBg {tg:Expr} {i:Nat} (h:PG X tg (tN i)):PG X tg (gB K true [i]):=fun pins s σ H v u Q I rv ⟨ρ,G,d,ρ',r,hd,e,k⟩ =>
 h pins s σ H v u Q I rv (k _ (r.store1 (by simpa only [a8] using e) hd))
theorem P2:uJ X [] (J5 K []):=fun pins s σ H vs us Q I rv ⟨ρ,G,ds,ρ',r,hd,e,k⟩=>by
 cases ds with
 | nil =>
  simp only [dD,Option.some.injEq] at e;subst e;simp only [aB] at hd;subst hd;exact SW pins s σ H [] us Q I rv ⟨rfl,k σ (AftS.refl r)⟩
 | cons d ds=>simp [dD] at e
theorem L6 {e:Expr} {es:List Expr} {i:Nat} {is:List Nat} (h:PG X e (tN i)) (t:uJ X es (J5 K is)) (hs:(assignEach (e :: es) X.env).map (·.2)=assign e X.env :: (assignEach es X.env).map (·.2)):uJ X (e :: es) (J5 K (i :: is)) :=
 fun pins s σ H vs us Q I rv ⟨ρ,G,ds,ρ',r,hd,e,k⟩=>by
  cases ds with
  | nil=>simp [dD] at e
  | cons d ds =>
   simp only [dD] at e
   cases q:store i (.sh d) ρ with
   | none=>rw [q] at e; cases e
   | some ρ1 =>
    rw [q] at e;simp only [aB] at hd;obtain ⟨v,r',rfl,h1,h2⟩:=hd;have a1:=r.store1 q h1;exact PJ h t hs pins s σ H (v :: r') us Q I rv ⟨v,r',rfl,ρ1,G,ds,ρ',a1.rel,h2,e,fun σ' a2=>k σ' (a1.trans a2)⟩
theorem pJ:∀ {is:List Nat} {ds:List D} {ρ ρ':Env},dD is ds ρ=some ρ'→ds.length=is.length
 | [],[],_,_,_=>rfl
 | [],_ :: _,_,_,e=>by simp [dD] at e
 | _ :: _,[],_,_,e=>by simp [dD] at e
 | i :: is,d :: ds,ρ,ρ',e=>by
  simp only [dD] at e
  cases q:store i (.sh d) ρ with
  | none=>rw [q] at e; cases e
  | some ρ1=>rw [q] at e; simp [pJ e]
theorem FD (xo:bP X K P C Γ) {es:List Expr} {k0:Nat} {pos:Pos} {is:List Nat} (t:uJ X es (J5 K is)) (hn:(assignEach es X.env).length=is.length) (hst:(assignEach es X.env).findIdx? (·.1)=none):PG X (.Tuple es k0 pos) (gB K false is) :=
 fun pins s σ H v u Q I rv ⟨ρ,G,d,ρ',r,hd,e,k⟩=>by
  cases d with
  | tup ds =>
   simp only [a8] at e;simp only [aE] at hd;obtain ⟨a,vs,rfl,h1,h2⟩:=hd;refine aAt xo.calm t hn hst pins s σ H (.ref a) u Q I rv ⟨a,vs,rfl, ?_, ?_,ρ,G,ds,ρ',r,h2,e,k⟩
   ·rw [xo.keq]; exact dG r.sub h1
   ·rw [h2.len]; exact pJ e
  | lst ds =>
   simp only [a8] at e;obtain ⟨a,vs,rfl,h1,h2⟩:=bV.lst r.sub (.inl hd);refine Z0 xo.calm t hn hst pins s σ H (.ref a) u Q I rv ⟨a,vs,rfl, ?_, ?_,ρ,G,ds,ρ',r,h2,e,k⟩
   ·rw [xo.keq]; exact h1
   ·rw [h2.len]; exact pJ e
  | _=>simp only [a8,reduceCtorEq] at e
end
mutual
noncomputable def aAn (x:Str):Stmt→Bool
 | .For _ it body _ _=>(JK it == some x) || tV x body
 | .If _ a b _=>tV x a || tV x b
 | _=>false
noncomputable def tV (x:Str):List Stmt→Bool
 | []=>false
 | s :: r=>aAn x s || tV x r
end
noncomputable def QR (Γ:CC) (it:Expr) (body:List Stmt) (cs:List E):List E:=cs
noncomputable def MK (Γ:CC):Expr→S
 | .Call (.Name x _) args [] _=>if args.all a9 && (decide (args≠[]) && decide (args.length≤100)) then (match Γ.glob x with | .exc=>.rse x (cG Γ args) | _=>.bad) else .bad
 | _=>.bad
noncomputable def IW:List ExceptHandler→Option (Str × Str × List Stmt)
 | [.ExceptHandler (some c) (some n) body _]=>(JK c).map fun x=>(x,n,body)
 | _=>none
noncomputable def aDq (Γ:CC) (cb:List S) (hs:List ExceptHandler) (o f:List Stmt):S:=.bad
mutual
noncomputable def cS (Γ:CC):Stmt→S
 | .Pass _=>.pass
 | .Break _=>.brk
 | .Continue _=>.cnt
 | .Return (some e) _=>.ret (cE Γ e)
 | .Return none _=>.retN
 | .Expr e _=>if cY e then .expr (cE Γ e) else .bad
 | .If c a b _=>.ifs (cE Γ c) (rJ Γ a) (rJ Γ b)
 | .While c body [] _=>.bad
 | .For tg it body [] _=>match lG Γ tg,rK Γ it with
  | some (one,is),some (k,its)=>if lO k one then .for is one k (QR Γ it body (cG Γ its)) (rJ Γ body) else .bad
  | _,_=>.bad
 | .Assign [.Name x _] e _=>match Γ.slotL x with
  | some i=>if cY e || IA e then .asg i (cE Γ e) else .bad
  | none=>.bad
 | .Assign [.Tuple ts _ _] e _=>match iF Γ ts with
  | some is=>if cY e && xQ e then .asgT is (cE Γ e) else .bad
  | none=>.bad
 | .Assign [.Subscript (.Name x _) k _] e _=>match Γ.slot x with
  | some i=>if cY e && B5 k then .set i (cE Γ k) (cE Γ e) else .bad
  | none=>.bad
 | .AugAssign (.Name x _) .Add e _=>(match Γ.slotL x with
  | some i=>if cY e then .bad else .bad
  | none=>.bad)
 | .Raise (some e) none _=>MK Γ e
 | .Try body hs o f _=>aDq Γ (rJ Γ body) hs o f
 | _=>.bad
noncomputable def rJ (Γ:CC):List Stmt→List S
 | []=>[]
 | s :: r=>cS Γ s :: rJ Γ r
end
section
variable {X:Cx} {K:Frag} {P:aQ} {C:Calls} {W:Nat} {Γ:CC}
theorem D1 {e:Expr} (h:cY e=true) (t:Option Expr) (line:Nat) (env:PySem.Env):swapsWith e t line env=pure false:=by
 cases e <;> first | rfl | cases h
theorem mF {e:Expr} (h:cY e=true) (t:Expr) (line:Nat) (env:PySem.Env):swapsWithSole [t] e line env=pure false:=D1 h _ _ _
theorem F5 {st:Stmt} {c:S} (h:∀ ρ,ex P C W c ρ=none):PS X st (tS K P C W c):=fun pins s σ H D I ⟨ρ,G,fl,ρ',r,e,k⟩=>by rw [h] at e; cases e
theorem bS {st:Stmt}:PS X st (tS K P C W .bad):=F5 fun ρ=>by rw [ex]
theorem NR {pos:Pos}:PS X (.Pass pos) (tS K P C W .pass):=TS.imp_ps WN fun D σ H ⟨ρ,G,fl,ρ',r,e,k⟩=>by
 simp only [ex,Option.some.injEq,Prod.mk.injEq] at e;obtain ⟨rfl,rfl⟩:=e;exact k σ H G (AftS.refl r)
theorem TU {pos:Pos}:PS X (.Break pos) (tS K P C W .brk):=TS.imp_ps PV fun D σ H ⟨ρ,G,fl,ρ',r,e,k⟩=>by
 simp only [ex,Option.some.injEq,Prod.mk.injEq] at e;obtain ⟨rfl,rfl⟩:=e;exact k σ H G (AftS.refl r)
theorem UI {pos:Pos}:PS X (.Continue pos) (tS K P C W .cnt):=TS.imp_ps EC fun D σ H ⟨ρ,G,fl,ρ',r,e,k⟩=>by
 simp only [ex,Option.some.injEq,Prod.mk.injEq] at e;obtain ⟨rfl,rfl⟩:=e;exact k σ H G (AftS.refl r)
theorem ML {e:Expr} {c:E} {pos:Pos} (h:Ok3 X K P C e c) (n:cY e=true):PS X (.Expr e pos) (tS K P C W (.expr c)):=by
 refine TS.imp_ps (WV h.v (D1 n _ _ _)) fun D σ H ⟨ρ,G,fl,ρ',r,e,k⟩=>?_
 simp only [ex] at e;obtain ⟨v,ρ1,e1,e2⟩:=gG e k.ne;cases e2;exact ⟨ρ,G,v,_,r,e1,fun x H' G' a hv=>k σ H' G' (Aft.s r a)⟩
theorem OE {pos:Pos}:PS X (.Return none pos) (tS K P C W .retN):=TS.imp_ps TJ fun D σ H ⟨ρ,G,fl,ρ',r,e,k⟩=>by
 simp only [ex,Option.some.injEq,Prod.mk.injEq] at e;obtain ⟨rfl,rfl⟩:=e;exact k .non σ H G (AftS.refl r) (by show aE K G .non _; simp [aE])
theorem Rel.give {ρ:Env} {σ:St} {H G:Hp} (r:Rel K ρ σ H G) {i:Nat} {d:D} {l:Bool} {a:Addr} (h:ρ[i]?=some (.ow d false l)) (hx:σ[i]?=some (some (.ref a))) :
  AftS K ρ σ H G (ρ.set i .mv) σ H G∧dQ K H G (aR (ρ.set i .mv) σ) (fun a=>aR ρ σ a∨H a=none) (.ow d) (.ref a):=by
 have key:∀ (j:Nat) (sl:Sl),(ρ.set i .mv)[j]?=some sl→(j=i∧sl=.mv)∨(j≠i∧ρ[j]?=some sl):=fun j sl z=>by
  rcases cU z with ⟨e,z,_⟩ | z
  ·exact .inl ⟨e,z⟩
  ·exact .inr z
 obtain ⟨b,h1,g,o⟩:=r.ow i d false l h;rw [hx] at h1; cases h1
 have own':∀ c,aR (ρ.set i .mv) σ c→aR ρ σ c∧c≠a:=fun c ⟨j,d',p',l',z,w⟩=>by
  rcases key j _ z with ⟨_,q⟩ | ⟨nj,q⟩
  ·cases q
  ·refine ⟨⟨j,d',p',l',q,w⟩,fun z=>?_⟩;subst z;exact nj (r.inj _ _ _ _ _ _ _ _ _ q h w hx)
 refine ⟨⟨⟨by rw [zg]; exact r.len,r.sub,fun j d' z=>?_,fun j d' p' l' z=>?_,fun j k d1 p1 l1 d2 p2 l2 c z1 z2 z3 z4=>?_⟩,Ext.refl,fun c z=>.inl (own' c z).1,fun j z=>?_,fun j d' l' z=>⟨rfl,d', ?_⟩,by rw [zg]⟩,a,rfl,g,o,fun z=>(own' a z).2 rfl,.inl ⟨i,d,false,l,h,hx⟩⟩
 ·rcases key j _ z with ⟨_,q⟩ | ⟨nj,q⟩
  ·cases q
  ·exact r.sh j d' q
 ·rcases key j _ z with ⟨_,q⟩ | ⟨nj,q⟩
  ·cases q
  ·exact r.ow j d' p' l' q
 ·rcases key j _ z1 with ⟨_,q⟩ | ⟨nj,q⟩
  ·cases q
  ·rcases key k _ z2 with ⟨_,q'⟩ | ⟨nk,q'⟩
   ·cases q'
   ·exact r.inj _ _ _ _ _ _ _ _ _ q q' z3 z4
 ·rcases key j _ z with ⟨_,q⟩ | ⟨nj,q⟩
  ·cases q
  ·exact ⟨q,rfl⟩
 ·have nj:j≠i:=fun w=>by subst w; rw [h] at z; cases z
  rw [Zf (fun w=>nj w.symm)]; exact z
theorem WE {e:Expr} {c:E} {pos:Pos} (h:Ok3 X K P C e c):PS X (.Return (some e) pos) (tS K P C W (.ret c)):=by
 by_cases hv:∃ i,c=.var i
 ·obtain ⟨i,rfl⟩:=hv;refine TS.imp_ps (ME h.h) fun D σ H ⟨ρ,G,fl,ρ',r,e,k⟩=>?_
  simp only [ex] at e;split at e
  ·rename_i d l hd;cases e;obtain ⟨a,h1,g,o⟩:=r.ow i d false l hd;refine ⟨ρ,G,.slot i,ρ,r,by simp [hd,hd,Sl.get,CI.hd],fun x H' G' a1 hx=>?_⟩;obtain ⟨a',h1',g',o'⟩:=a1.rel.ow i d false l hd;have hx:σ[i]?=some (some x):=hx;rw [hx] at h1'; cases h1';obtain ⟨s1,v1⟩:=a1.rel.give hd hx;exact (k.pre (Aft.s r a1)) _ σ H' G' s1 v1
  ·rename_i d hd;cases e;obtain ⟨v,h1,h2⟩:=r.sh i d hd;refine ⟨ρ,G,.slot i,ρ,r,by simp [hd,Sl.get,CI.hd],fun x H' G' a1 hx=>?_⟩;obtain ⟨v',h1',h2'⟩:=a1.rel.sh i d hd;have hx:σ[i]?=some (some x):=hx;rw [hx] at h1'; cases h1';exact k x σ H' G' (Aft.s r a1) h2'
  ·cases e
 ·refine TS.imp_ps (ME h.v) fun D σ H ⟨ρ,G,fl,ρ',r,e,k⟩=>?_
  have e':(ev P C false c ρ).flow (fun v ρ1=>some (.rt v,ρ1))=some (fl,ρ'):=by
   cases c <;> first | exact absurd ⟨_,rfl⟩ hv | (simpa only [ex] using e)
  obtain ⟨v,ρ1,e1,e2⟩:=gG e' k.ne;cases e2;exact ⟨ρ,G,v,_,r,e1,fun x H' G' a hv=>k x σ H' G' (Aft.s r a) (hv.new_mono fun a z=>.inr z)⟩
theorem YE {c:Expr} {a b:List Stmt} {cc:E} {ca cb:List S} {pos:Pos} (hc:Ok3 X K P C c cc) (ha:hW X a (sH K P C W ca)) (hb:hW X b (sH K P C W cb)):PS X (.If c a b pos) (tS K P C W (.ifs cc ca cb)):=by
 refine TS.imp_ps (aBN hc.t ha hb) fun D σ H ⟨ρ,G,fl,ρ',r,e,k⟩=>?_
 simp only [ex] at e;obtain ⟨v,ρ1,e1,e2⟩:=gG e k.ne;split at e2
 ·refine ⟨ρ,G,true,ρ1,r,e1,fun H1 G1 a1=>?_⟩;refine B0 ?_;exact ⟨ρ1,G1,fl,ρ',a1.rel,e2,k.pre (Aft.s r a1)⟩
 ·refine ⟨ρ,G,false,ρ1,r,e1,fun H1 G1 a1=>?_⟩;refine CY ?_;exact ⟨ρ1,G1,fl,ρ',a1.rel,e2,k.pre (Aft.s r a1)⟩
 ·cases e2
theorem vH {qq:Bool} (xo:XOkB qq X K P C Γ) (hfn:∀ x,Γ.isLoc x=true→X.fn x=true∨X.env.scope.names.lookup x=some .local) {x:Str} {i:Nat} (h:Γ.slotL x=some i) {pos:Pos}:PG X (.Name x pos) (tN i):=by
 unfold CC.slotL at h;split at h
 ·rename_i hl
  have hN:X.N[i]?=some x:=by
   unfold CC.slot at h;split at h
   ·cases h
   ·split at h
    ·rw [xo.neq]; exact nC h
    ·cases h
  refine F9 (by rw [xo.neq]; exact xo.nd) hN ?_ (hfn x hl);unfold L2.y8;rw [xo.nm];unfold CC.isLoc at hl;rw [Bool.or_eq_true,ZB] at hl;rcases hl with hl | hl
  ·exact .inl (Zy hl)
  ·exact .inr (Zy hl.2)
 ·cases h
theorem UT {qq:Bool} (xo:XOkB qq X K P C Γ) (hfn:∀ x,Γ.isLoc x=true→X.fn x=true∨X.env.scope.names.lookup x=some .local) {x:Str} {i:Nat} {e:Expr} {c:E} {p pos:Pos} (hi:Γ.slotL x=some i) (h:Ok3 X K P C e c) (n:cY e=true):PS X (.Assign [.Name x p] e pos) (tS K P C W (.asg i c)):=by
 refine TS.imp_ps (wB h.v (vH xo hfn hi) (mF n _ _ _)) fun D σ H ⟨ρ,G,fl,ρ',r,e,k⟩=>?_
 simp only [ex] at e;obtain ⟨v,ρ1,e1,e2⟩:=gG e k.ne;unfold jH at e2
 cases q:store i v ρ1 with
 | none=>rw [q] at e2; cases e2
 | some ρ2 =>
  rw [q] at e2;cases e2;exact ⟨ρ,G,v,ρ1,r,e1,fun x H' G' a hv=>k _ H' G' (Aft.store r a q hv)⟩
theorem pK (xo:bP X K P C Γ) (hfn:∀ x,Γ.isLoc x=true→X.fn x=true∨X.env.scope.names.lookup x=some .local):∀ {ts:List Expr} {is:List Nat},iF Γ ts=some is→uJ X ts (J5 K is)∧(assignEach ts X.env).length=is.length∧(assignEach ts X.env).findIdx? (·.1)=none∧ts.length=is.length
 | [],is,h=>by cases h; exact ⟨P2,rfl,rfl,rfl⟩
 | e :: es,is,h=>by
  simp only [iF] at h
  cases q:DR Γ e with
  | none=>rw [q] at h; cases h
  | some i =>
   rw [q] at h;simp only [Option.bind_some] at h
   cases q2:iF Γ es with
   | none=>rw [q2] at h; cases h
   | some is' =>
    rw [q2] at h;cases h;obtain ⟨h1,h2,h3,h4⟩:=pK xo hfn q2;cases e <;> simp only [DR,reduceCtorEq] at q;refine ⟨L6 (vH xo hfn q) h1 rfl, ?_, ?_,by simp [h4]⟩
    ·show (assignEach es X.env).length+1=is'.length+1;rw [h2]
    ·show ((false,_) :: assignEach es X.env).findIdx? (·.1)=none;rw [List.findIdx?_cons,h3];rfl
theorem CW {ts:List Expr} {k0:Nat} {p:Pos} {e:Expr} (h:xQ e=true) (env:PySem.Env):swappedStores [.Tuple ts k0 p] e env=pure none:=by
 cases e <;> first | rfl | cases h
theorem PQ (xo:bP X K P C Γ) (hfn:∀ x,Γ.isLoc x=true→X.fn x=true∨X.env.scope.names.lookup x=some .local) {ts:List Expr} {is:List Nat} {e:Expr} {c:E} {k0:Nat} {p pos:Pos} (hi:iF Γ ts=some is) (h:Ok3 X K P C e c) (n:cY e=true) (n2:xQ e=true):PS X (.Assign [.Tuple ts k0 p] e pos) (tS K P C W (.asgT is c)):=by
 obtain ⟨h1,h2,h3,h4⟩:=pK xo hfn hi;refine TS.imp_ps (wB h.v (FD xo h1 h2 h3) (mF n _ _ _) (CW n2 _)) fun D σ H ⟨ρ,G,fl,ρ',r,e,k⟩=>?_
 simp only [ex] at e;obtain ⟨v,ρ1,e1,e2⟩:=gG e k.ne;unfold jH at e2
 cases q:a8 false is v.d ρ1 with
 | none=>rw [q] at e2; cases e2
 | some ρ2 =>
  rw [q] at e2;cases e2;refine ⟨ρ,G,v,ρ1,r,e1,fun x H' G' a hv=>?_⟩;obtain ⟨G2,a2,r2⟩:=a.share hv;exact ⟨ρ1,G2,v.d,_,a2.rel,r2,q,fun σ' b=>k σ' H' G2 ((Aft.s r a2).trans b)⟩
theorem VB {ρ:Env} {i:Nat} (h:xX ρ i=true):∃ kvs p l,ρ[i]?=some (.ow (.dcs kvs) p l):=by
 unfold xX at h;split at h
 ·rename_i d p l e; exact ⟨d,p,l,e⟩
 ·cases h
noncomputable def aBR (K:Frag):C4:=fun o i v H Q=>∃ a xs k b,o=.ref a∧i=.ref b∧DS K H a xs∧cQ K H k b∧xs.length<sizeLine∧∀ u,bC v u→((storedH xs k b u).map (·.1)).Nodup→Q (aV H a (.ext (fK a (storedH xs k b u))))
noncomputable def aBl:C4:=fun _ _ _ _ _=>False
theorem OA (hu:X.A.units+9<cLine):QH X (fun o i v H Q=>RK o i v H Q∨aBl o i v H Q∨aBR X.K o i v H Q):=by
 intro pins s σ H o i v ov iv u Q I ro ri rv h;rcases h with h | h | ⟨a,xs,k,b,rfl,rfl,d,kk,hl,q⟩
 ·exact O6 pins s σ H o i v ov iv u Q I ro ri rv h
 ·exact h.elim
 ·cases ro;cases ri;exact KJ hu I d kk hl fun s' I' nd=>⟨_,I',q _ rv nd⟩
theorem SH (xo:bP X K P C Γ) {x:Str} {i:Nat} {e j:Expr} {c cj:E} {p p2 pos:Pos} (hi:Γ.slot x=some i) (h:Ok3 X K P C e c) (hj:Ok3 X K P C j cj) (n:cY e=true)
  (ha:∀ v,assign (.Subscript (.Name x p) j p2) X.env v=(do
   let ov ← holding [v] (eval (.Name x p) X.env)
   let iv ← holding [v,ov] (eval j X.env)
   standAt p2
   holding [v,ov,iv] (setItem ov iv v)
   release [v,ov,iv] [])):PS X (.Assign [.Subscript (.Name x p) j p2] e pos) (tS K P C W (.set i cj c)):=by
 have hp:PE X (.Name x p) (vG i):=CC.slot_ok xo hi;refine TS.imp_ps (wB h.v (ZP hp hj.v (xo.keq ▸ OA (by have:=xo.hu; omega)) ha) (mF n _ _ _)) fun D σ H ⟨ρ,G,fl,ρ',r,e,k⟩=>?_
 simp only [ex] at e;obtain ⟨v,ρ1,e1,e2⟩:=gG e k.ne;split at e2
 ·rename_i ho;obtain ⟨w,ρ2,e3,e4⟩:=gG e2 k.ne;split at e4
  ·rename_i ds p1 nn hs hw;unfold jH at e4
   cases q:lI ds.length nn with
   | none=>rw [q] at e4; cases e4
   | some m =>
    rw [q] at e4;cases e4;refine ⟨ρ,G,v,ρ1,r,e1,fun y H1 G1 a1 hv=>?_⟩;obtain ⟨d0,p0,l0,h0⟩:=F8 ho;obtain ⟨b,hb,g0,o0⟩:=a1.rel.ow i _ p0 l0 h0;refine ⟨.ref b,hb,ρ1,G1,w,ρ2,a1.rel,e3,fun z H2 G2 a2 hz=>?_⟩;have hv2:=hv.wait a2.ext fun a z=>.inl (a2.own a z)
    obtain ⟨G3,a3,r3⟩:=(a1.trans a2).share hv2;obtain ⟨b',hb',g1,vs,hvs,hr⟩:=a3.rel.ow i _ _ _ hs;rw [hb] at hb'; cases hb';have hzi:=hz.readR;rw [hw] at hzi;cases hzi.int;have a4:=a3.rel.write hs hb (hr.set r3 m);exact .inl ⟨b,vs,nn,m,rfl,rfl,hvs,by rw [hr.len]; exact q,k σ _ _ (Aft.s r (a3.trans a4))⟩
  ·cases e4
 ·split at e2
  ·rename_i ho;obtain ⟨w,ρ2,e3,e4⟩:=gG e2 k.ne;unfold CO at e4;split at e4
   ·rename_i kvs p1 k0 m hs hk;split at e4
    ·rename_i hz;cases e4;refine ⟨ρ,G,_,ρ1,r,e1,fun y H1 G1 a1 hv=>?_⟩;obtain ⟨d0,p0,l0,h0⟩:=VB ho;obtain ⟨b,hb,g0,o0⟩:=a1.rel.ow i _ p0 l0 h0;refine ⟨.ref b,hb,ρ1,G1,w,ρ2,a1.rel,e3,fun z H2 G2 a2 hz2=>?_⟩;have hv:aE K G1 (.int m) y:=hv;simp only [aE] at hv;subst hv;obtain ⟨G3,a20,r3⟩:=a2.share hz2;have a3:=a1.trans a20;obtain ⟨b0,rfl,kk⟩:=tM (H:=H2) hk (.inl r3);obtain ⟨b',hb',g1,xs,hx,nd,hl,sm,hks,pr⟩:=a3.rel.ow i _ _ _ hs;rw [hb] at hb'; cases hb'
     have hsm:xs.length<sizeLine:=by
      have h1:=fP hz;have h2:=Paired.length pr;omega
     refine .inr (.inr ⟨b,xs,k0,b0,rfl,rfl,⟨hx,nd,hl,sm,fun x hx=>cQ.mono a3.rel.sub (hks x hx)⟩,cQ.mono a3.rel.sub kk,hsm,fun u ru nd2=>?_⟩);obtain ⟨t,rfl⟩:=ru;have a4:=a3.rel.writeO (ob:=.ext (fK b (storedH xs k0 b0 (.int m t)))) (d':=.dcs (nP kvs k0 m)) hs hb ⟨_,bE,nd2,Zr EI hsm,sm,CT hks kk,aAL pr⟩;exact k σ _ _ (Aft.s r (a3.trans a4))
    ·cases e4
   ·cases e4
  ·cases e2
end
section
variable {X:Cx} {K:Frag} {P:aQ} {C:Calls} {W:Nat} {Γ:CC}
theorem nQ {ρ:Env} {σ:St} {H G:Hp} {o:Option Nat} (r:Rel K ρ σ H G):Rel K (a7 o ρ) σ H G∧∀ a,aR (a7 o ρ) σ a→aR ρ σ a:=by
 cases o with
 | none=>exact ⟨r,fun _ z=>z⟩
 | some i=>exact ⟨r.unset i,fun _ z=>z.unset⟩
theorem i5 {ρ1 ρf ρ':Env} {σ σf:St} {H1 G1 Hf Gf:Hp} {o:Option Nat} (r:Rel K ρ1 σ H1 G1) (ho:∀ i,o=some i→∃ d p l,ρ1[i]?=some (.ow d p l)) (e:eS o ρ1 ρf=some ρ') (a:AftS K (a7 o ρ1) σ H1 G1 ρf σf Hf Gf) :
  AftS K ρ1 σ H1 G1 ρ' σf Hf Gf∧∀ c,aR ρ' σf c→aR ρf σf c∨(aR ρ1 σ c∧¬ aR (a7 o ρ1) σ c):=by
 cases o with
 | none =>
  simp only [eS,Option.some.injEq] at e;subst e;exact ⟨a,fun _ z=>.inl z⟩
 | some i =>
  obtain ⟨d,p,l,hi⟩:=ho i rfl;obtain ⟨b,hb,g,ob⟩:=r.ow i d p l hi;have hob:aR ρ1 σ b:=⟨i,d,p,l,hi,hb⟩
  have nob:¬ aR (ρ1.set i .un) σ b:=r.unset_not hi hb;have hne:H1 b≠none:=(r.owned hob).1;simp only [eS] at e;split at e
  ·rename_i sl hf hs;rw [hi] at hs; cases hs;cases e;obtain ⟨hu1,hu2⟩:=a.un i hf;have hx:σf[i]?=some (some (.ref b)):=hu2.trans hb;have gb:Gf b=none:=a.ext.gn b hne g nob;have of:gY K Hf Gf b d:=ob.mono a.ext.gg fun o' h'=>a.ext.hh b o' h' nob
   have nf:¬ aR ρf σf b:=fun z=>by
    rcases a.own b z with z | z
    ·exact nob z
    ·exact hne z
   have rf:Rel K (ρf.set i (.ow d p l)) σf Hf Gf:=(a.rel.unset i).put_ow hx gb of fun z=>nf z.unset
   have own':∀ c,aR (ρf.set i (.ow d p l)) σf c→c=b∨aR ρf σf c:=fun c z=>by
    rcases z.put_ow hx with z | z
    ·exact .inl z
    ·exact .inr z.unset
   refine ⟨⟨rf,a.ext.weaken fun c z=>z.unset,fun c z=>?_,fun j z=>?_,fun j d' l' z=>?_,by rw [zg,a.len]; exact zg⟩,fun c z=>?_⟩
   ·rcases own' c z with rfl | z
    ·exact .inl hob
    ·rcases a.own c z with z | z
     ·exact .inl z.unset
     ·exact .inr z
   ·rcases cU z with ⟨_,w,_⟩ | ⟨nj,w⟩
    ·cases w
    ·obtain ⟨w1,w2⟩:=a.un j w;have w1':(ρ1.set i .un)[j]?=some .un:=w1;rw [Zf (fun q=>nj q.symm)] at w1';exact ⟨w1',w2⟩
   ·by_cases hj:j=i
    ·subst hj;rw [hi] at z; cases z;refine ⟨hu2,d, ?_⟩;rw [zk (Zc.mp hf).1]
    ·have z':(a7 (some i) ρ1)[j]?=some (.ow d' true l'):=by
      show (ρ1.set i .un)[j]?=_;rw [Zf (fun q=>hj q.symm)]; exact z
     obtain ⟨w1,d2,w2⟩:=a.pin j d' l' z';exact ⟨w1,d2,by rw [Zf (fun q=>hj q.symm)]; exact w2⟩
   ·rcases own' c z with rfl | z
    ·exact .inr ⟨hob,nob⟩
    ·exact .inl z
  ·cases e
theorem fX.restore {ρ1 ρf ρ':Env} {σ:St} {H1 G1:Hp} {o:Option Nat} {D:Ends} {fl:Fl} (r:Rel K ρ1 σ H1 G1) (ho:∀ i,o=some i→∃ d p l,ρ1[i]?=some (.ow d p l)) (e:eS o ρ1 ρf=some ρ') (k:fX K ρ1 σ H1 G1 ρ' D fl) :
  fX K (a7 o ρ1) σ H1 G1 ρf D fl:=by
 cases fl with
 | nx=>exact fun σ' H' G' b=>k σ' H' G' (i5 r ho e b).1
 | bk=>exact fun σ' H' G' b=>k σ' H' G' (i5 r ho e b).1
 | ct=>exact fun σ' H' G' b=>k σ' H' G' (i5 r ho e b).1
 | rt v =>
  refine fun x σ' H' G' b hv=>?_
  obtain ⟨b1,b2⟩:=i5 r ho e b;refine k x σ' H' G' b1 ?_
  cases v with
  | sh d=>exact hv
  | ow d =>
   obtain ⟨c,rfl,g,oo,n,m⟩:=hv;refine ⟨c,rfl,g,oo,fun z=>?_, ?_⟩
   ·rcases b2 c z with z | ⟨z1,z2⟩
    ·exact n z
    ·rcases m with m | m
     ·exact z2 m
     ·exact (r.owned z1).1 m
   ·rcases m with m | m
    ·exact .inl ((nQ r).2 c m)
    ·exact .inr m
 | ex x=>exact k
def j9 (K:Frag) (P:aQ) (C:Calls) (W:Nat) (one:Bool) (tg:List Nat) (cb:List S) (ρ0:Env) (σ0:St) (H0 G0:Hp) (fl:Fl) (ρf:Env) (ds:List D) (i:Nat):St→Hp→Prop:=fun σ H =>
 ∃ ρ G,AftS K ρ0 σ0 H0 G0 ρ σ H G∧bW (a8 one tg) (exs P C W cb) (ds.drop i) ρ=some (fl,ρf)
theorem rT {one:Bool} {tg:List Nat} {cb:List S} {ρ0 ρf:Env} {σ0 σ:St} {H0 G0 H:Hp} {fl:Fl} {ds:List D} {i:Nat} {d:D} {x:V} {D0:Ends} (hk:fX K ρ0 σ0 H0 G0 ρf D0 fl) (hd:ds[i]?=some d) (hx:aE K G0 d x)
  (h:j9 K P C W one tg cb ρ0 σ0 H0 G0 fl ρf ds i σ H) :
  gB K one tg x σ H fun σ2 H2=>sH K P C W cb { D0 with nx:=j9 K P C W one tg cb ρ0 σ0 H0 G0 fl ρf ds (i+1),ct:=j9 K P C W one tg cb ρ0 σ0 H0 G0 fl ρf ds (i+1),bk:=D0.nx } σ2 H2:=by
 obtain ⟨ρ,G,a,e⟩:=h;have hl:i<ds.length:=(Zc.mp hd).1
 have ed:ds.drop i=d :: ds.drop (i+1):=by
  rw [List.drop_eq_getElem_cons hl];congr 1;rw [Zb hl] at hd;exact Option.some.inj hd
 rw [ed] at e;simp only [bW] at e
 cases q:a8 one tg d ρ with
 | none=>rw [q] at e; cases e
 | some ρ1 =>
  rw [q] at e;simp only at e;refine ⟨ρ,G,d,ρ1,a.rel,aE.mono a.ext.gg d hx,q,fun σ1 a1=>?_⟩;have a01:=a.trans a1
  cases q2:exs P C W cb ρ1 with
  | none=>rw [q2] at e; cases e
  | some y =>
   obtain ⟨fl1,ρ2⟩:=y;rw [q2] at e;refine ⟨ρ1,G,fl1,ρ2,a1.rel,q2, ?_⟩
   cases fl1 with
   | nx=>exact fun σ2 H2 G2 a2=>⟨ρ2,G2,a01.trans a2,e⟩
   | ct=>exact fun σ2 H2 G2 a2=>⟨ρ2,G2,a01.trans a2,e⟩
   | bk=>cases e; exact fun σ2 H2 G2 a2=>hk σ2 H2 G2 (a01.trans a2)
   | rt v=>cases e; exact hk.pre a01
   | ex x=>cases e; exact hk
theorem GY {one:Bool} {tg:List Nat} {cb:List S} {ρ0 ρf:Env} {σ0 σ:St} {H0 G0 H:Hp} {fl:Fl} {ds:List D} {i:Nat} {d:D} {x:V} {D0:Ends} (hk:fX K ρ0 σ0 H0 G0 ρf D0 fl) (hd:ds[i]?=some d)
  (h:∃ ρ G,AftS K ρ0 σ0 H0 G0 ρ σ H G∧aE K G d x∧bW (a8 one tg) (exs P C W cb) (ds.drop i) ρ=some (fl,ρf)) :
  gB K one tg x σ H fun σ2 H2=>sH K P C W cb { D0 with nx:=j9 K P C W one tg cb ρ0 σ0 H0 G0 fl ρf ds (i+1),ct:=j9 K P C W one tg cb ρ0 σ0 H0 G0 fl ρf ds (i+1),bk:=D0.nx } σ2 H2:=by
 obtain ⟨ρ,G,a,hx,e⟩:=h;have hl:i<ds.length:=(Zc.mp hd).1
 have ed:ds.drop i=d :: ds.drop (i+1):=by
  rw [List.drop_eq_getElem_cons hl];congr 1;rw [Zb hl] at hd;exact Option.some.inj hd
 rw [ed] at e;simp only [bW] at e
 cases q:a8 one tg d ρ with
 | none=>rw [q] at e; cases e
 | some ρ1 =>
  rw [q] at e;simp only at e;refine ⟨ρ,G,d,ρ1,a.rel,hx,q,fun σ1 a1=>?_⟩;have a01:=a.trans a1
  cases q2:exs P C W cb ρ1 with
  | none=>rw [q2] at e; cases e
  | some y =>
   obtain ⟨fl1,ρ2⟩:=y;rw [q2] at e;refine ⟨ρ1,G,fl1,ρ2,a1.rel,q2, ?_⟩
   cases fl1 with
   | nx=>exact fun σ2 H2 G2 a2=>⟨ρ2,G2,a01.trans a2,e⟩
   | ct=>exact fun σ2 H2 G2 a2=>⟨ρ2,G2,a01.trans a2,e⟩
   | bk=>cases e; exact fun σ2 H2 G2 a2=>hk σ2 H2 G2 (a01.trans a2)
   | rt v=>cases e; exact hk.pre a01
   | ex x=>cases e; exact hk
theorem M6 {a:Addr} {lo:Int} {xs:List V} {g:TG} {tb:TS} {D:Ends} {σ:St} {H:Hp} (Pv:Nat→St→Hp→Prop) (h0:Pv 0 σ H) (hl:∀ i σ H,i≤xs.length→Pv i σ H→b9 K H a xs)
  (hs:∀ i y p σ H,xs[i]?=some y→H p=none→Pv i σ H→g (.ref p) σ (aV H p (.tup [.int (lo+(i:Int)),y])) fun σ2 H2=>tb { D with nx:=Pv (i+1),ct:=Pv (i+1),bk:=D.nx } σ2 H2) (hd:∀ σ H,Pv xs.length σ H→D.nx σ H) :
  ∃ W:Nat→Nat→St→Hp→Prop,(∃ m,W 0 m σ H)∧∀ i m σ H,W i m σ H →
   ((rA K a lo).stop i H∧D.nx σ H)∨((rA K a lo).go i H∧∃ N:St→Hp→Prop,(∀ σ' H',N σ' H'→∃ m',m'<m∧W (i+1) m' σ' H')∧∀ x H',(rA K a lo).yld i H x H'→g x σ H' fun σ2 H2=>tb { D with nx:=N,ct:=N,bk:=D.nx } σ2 H2):=by
 refine ⟨fun i m σ H=>m=xs.length - i∧i≤xs.length∧Pv i σ H,⟨xs.length,by simp,Nat.zero_le _,h0⟩, ?_⟩
 rintro i m σ H ⟨rfl,hi,p⟩
 have q:=hl i σ H hi p;by_cases hlt:i<xs.length
 ·refine .inr ⟨⟨xs,xs[i],q,by simp [hlt]⟩,Pv (i+1),fun σ' H' p'=>⟨xs.length - (i+1),by omega,rfl,hlt,p'⟩,fun x H' y=>?_⟩;obtain ⟨p0,y0,hn,rfl,rfl,hy⟩:=y;exact hs i y0 p0 σ H (hy xs q) hn p
 ·have e:i=xs.length:=by omega
  subst e;exact .inl ⟨⟨xs,q,Zq _⟩,hd σ H p⟩
theorem fO {lo:Int} {ds:List D}:(dM lo ds).length=ds.length:=by unfold dM; simp
theorem nJ {lo:Int} {ds:List D} {i:Nat} {d:D} (h:ds[i]?=some d):(dM lo ds)[i]?=some (.tup [.int (lo+(i:Int)),d]):=by
 have hl:i<ds.length:=(Zc.mp h).1;unfold dM;rw [Zh,List.getElem?_range hl,Option.map_some,List.getD_eq_getElem?_getD,h];rfl
theorem BD {G:Hp} {p:Addr} {i:Int} {d:D} {y:V} (hg:G p=none) (h:aE K G d y):aE K (aV G p (.tup [.int i,y])) (.tup [.int i,d]) (.ref p):=by
 simp only [aE];exact ⟨p,_,rfl,cW.of bE,aB.cons (by simp [aE]) (aB.cons (aE.mono (aM.laid hg) d h) aB.nil)⟩
theorem o8 {one:Bool} {tg:List Nat} {cb:List S} {ρ0 ρf:Env} {σ0 σ:St} {H0 G0 H:Hp} {fl:Fl} {ds:List D} {D0:Ends} (hk:fX K ρ0 σ0 H0 G0 ρf D0 fl) (h:j9 K P C W one tg cb ρ0 σ0 H0 G0 fl ρf ds ds.length σ H):D0.nx σ H:=by
 obtain ⟨ρ,G,a,e⟩:=h;rw [List.drop_length] at e;simp only [bW,Option.some.injEq,Prod.mk.injEq] at e;obtain ⟨rfl,rfl⟩:=e;exact hk σ H G a
def lJ (K:Frag) (ρ:Env) (σ:St) (H G:Hp) (a:Addr) (vs:List V):Prop:=b9 K G a vs∨(H a=some (.lst vs)∧G a=none∧¬ aR ρ σ a)
theorem lJ.now {ρ ρ':Env} {σ σ':St} {H G H' G':Hp} {a:Addr} {vs:List V} (h:lJ K ρ σ H G a vs) (b:AftS K ρ σ H G ρ' σ' H' G'):b9 K H' a vs:=by
 rcases h with h | ⟨h1,h2,h3⟩
 ·exact b.rel.sub.seq (b.ext.gg.seq h)
 ·exact b9.of (b.ext.hh a _ h1 h3)
theorem sP (po:PassesOwn (model X.prog X.w) X.A X.env X.xe) (xo:bP X K P C Γ) {tg it:Expr} {body:List Stmt} {pos:Pos} {one:Bool} {is:List Nat} {k0:ItK} {its:List E} {cb:List S} {wi:TI} (hg:PG X tg (gB K one is)) (hb:hW X body (sH K P C W cb))
  (hs:∀ x,foldedSetIterable it X.env x=pure x) (hi:PI X tg it wi)
  (hw:∀ σ H (R:It→Hp→Prop),(∃ (ρ:Env) (G:Hp) (hs:List Hd) (ρ1:Env) (ds:List D) (o:Option Nat),Rel K ρ σ H G∧cI P C its ρ=some (.ok hs,ρ1)∧aH k0 hs ρ1=some (ds,o) ∧
   ∀ H1 G1,Aft K ρ σ H G ρ1 H1 G1→(∀ i,o=some i→∃ d p l,ρ1[i]?=some (.ow d p l)) →
    (∀ a vs,lJ K (a7 o ρ1) σ H1 G1 a vs→aB K G1 ds vs→R (rD K a) H1)∧(∀ a vs,cW K G1 a vs→aB K G1 ds vs→R (qZ K a) H1)∧(∀ (lo:Int) (n:Nat),ds=(List.range n).map (fun (j:Nat)=>D.int (lo+(j:Int)))→R (nA lo n) H1)∧(∀ a vs ds0 lo,ds=dM lo ds0→lJ K (a7 o ρ1) σ H1 G1 a vs→aB K G1 ds0 vs→R (rA K a lo) H1))→wi σ H R) :
  PS X (.For tg it body [] pos) (tS K P C W (.for is one k0 its cb)):=by
 refine TS.imp_ps (XT po xo.calm hi hg hb hs) fun D σ H ⟨ρ,G,fl,ρ',r,e,k⟩=>?_
 simp only [ex] at e;obtain ⟨hs,ρ1,e1,e2⟩:=gG e k.ne
 cases q:aH k0 hs ρ1 with
 | none=>rw [q] at e2; cases e2
 | some y =>
  obtain ⟨ds,o⟩:=y;rw [q] at e2;simp only at e2
  cases q2:bW (a8 one is) (exs P C W cb) ds (a7 o ρ1) with
  | none=>rw [q2] at e2; cases e2
  | some y =>
   obtain ⟨fl1,ρf⟩:=y;rw [q2] at e2;simp only [bR.restore] at e2
   cases q3:eS o ρ1 ρf with
   | none=>rw [q3] at e2; cases e2
   | some ρ2 =>
    rw [q3] at e2;cases e2;refine hw σ H _ ⟨ρ,G,hs,ρ1,ds,o,r,e1,q,fun H1 G1 a1 ho=>?_⟩;have k1:fX K (a7 o ρ1) σ H1 G1 ρf D fl:=fX.restore a1.rel ho q3 (k.pre (Aft.s r a1));have p0:j9 K P C W one is cb (a7 o ρ1) σ H1 G1 fl ρf ds 0 σ H1:=⟨a7 o ρ1,G1,AftS.refl (nQ a1.rel).1,q2⟩
    refine ⟨fun a vs hsrc hr=>?_,fun a vs ht hr=>?_,fun lo n hds=>?_,fun a vs ds0 lo hds hsrc hr=>?_⟩
    ·refine PF (K:=K) (a:=a) (xs:=vs) (j9 K P C W one is cb (a7 o ρ1) σ H1 G1 fl ρf ds) p0 (fun i σ2 H2 _ ⟨ρ2,G2,b,_⟩=>hsrc.now b) (fun i x σ2 H2 hx hp=>?_) (fun σ2 H2 hp=>?_)
     ·have hl:i<ds.length:=by rw [← hr.len]; exact (Zc.mp hx).1
      obtain ⟨x',h1,h2⟩:=hr.get (Zb hl);rw [hx] at h1; cases h1;exact rT k1 (Zb hl) h2 hp
     ·rw [hr.len] at hp;exact o8 k1 hp
    ·refine V6 (K:=K) (a:=a) (xs:=vs) (j9 K P C W one is cb (a7 o ρ1) σ H1 G1 fl ρf ds) p0 (fun i σ2 H2 _ ⟨ρ2,G2,b,_⟩=>dG b.rel.sub (dG b.ext.gg ht)) (fun i x σ2 H2 hx hp=>?_) (fun σ2 H2 hp=>?_)
     ·have hl:i<ds.length:=by rw [← hr.len]; exact (Zc.mp hx).1
      obtain ⟨x',h1,h2⟩:=hr.get (Zb hl);rw [hx] at h1; cases h1;exact rT k1 (Zb hl) h2 hp
     ·rw [hr.len] at hp;exact o8 k1 hp
    ·have hlen:ds.length=n:=by rw [hds]; simp
     refine JS (lo:=lo) (n:=n) (j9 K P C W one is cb (a7 o ρ1) σ H1 G1 fl ρf ds) p0 (fun i σ2 H2 hi hp=>?_) (fun σ2 H2 hp=>?_)
     ·have hd:ds[i]?=some (.int (lo+(i:Int))):=by rw [hds]; simp [hi]
      exact rT k1 hd (by simp [aE]) hp
     ·rw [← hlen] at hp;exact o8 k1 hp
    ·subst hds;refine M6 (K:=K) (a:=a) (xs:=vs) (j9 K P C W one is cb (a7 o ρ1) σ H1 G1 fl ρf (dM lo ds0)) p0 (fun i σ2 H2 _ ⟨ρ2,G2,b,_⟩=>hsrc.now b) (fun i y p σ2 H2 hx hn hp=>?_) (fun σ2 H2 hp=>?_)
     ·have hl:i<ds0.length:=by rw [← hr.len]; exact (Zc.mp hx).1
      obtain ⟨x',h1,h2⟩:=hr.get (Zb hl);rw [hx] at h1; cases h1;obtain ⟨ρ2,G2,b,e2⟩:=hp;have b2:=b.trans (Aft.s b.rel ((Aft.refl b.rel).layG (o:=.tup [.int (lo+(i:Int)),y]) hn));exact GY k1 (nJ (Zb hl)) ⟨ρ2,_,b2,BD (aM.free b.rel.sub hn) (aE.mono b.ext.gg _ h2),e2⟩
     ·rw [hr.len,← fO] at hp;exact o8 k1 hp
end
section
variable {X:Cx} {K:Frag} {P:aQ} {C:Calls} {W:Nat} {Γ:CC}
theorem PI.or {tg it:Expr} {w w':TI} (h:PI X tg it w) (h':PI X tg it w'):PI X tg it (fun σ H R=>w σ H R∨w' σ H R):=fun pins s σ H R I q=>by
 rcases q with q | q
 ·exact h pins s σ H R I q
 ·exact h' pins s σ H R I q
theorem A6 {c:E} {ρ ρ1:Env} {hs:List Hd} (e:cI P C [c] ρ=some (.ok hs,ρ1)):∃ h,hs=[h]∧hd c (ev P C false c ρ) ρ=some (.ok h,ρ1):=by
 rw [cI] at e;obtain ⟨h,ρ2,e1,e2⟩:=aL e;rw [cI] at e2;simp only [aS.bind] at e2;cases e2;exact ⟨h,rfl,e1⟩
theorem RM (hK:X.K=K) {c:E} (σ:St) (H:Hp) (R:It→Hp→Prop) (q:∃ (ρ:Env) (G:Hp) (hs:List Hd) (ρ1:Env) (ds:List D) (o:Option Nat),Rel K ρ σ H G∧cI P C [c] ρ=some (.ok hs,ρ1)∧aH .of hs ρ1=some (ds,o) ∧
   ∀ H1 G1,Aft K ρ σ H G ρ1 H1 G1→(∀ i,o=some i→∃ d p l,ρ1[i]?=some (.ow d p l)) →
    (∀ a vs,lJ K (a7 o ρ1) σ H1 G1 a vs→aB K G1 ds vs→R (rD K a) H1)∧(∀ a vs,cW K G1 a vs→aB K G1 ds vs→R (qZ K a) H1)∧(∀ (lo:Int) (n:Nat),ds=(List.range n).map (fun (j:Nat)=>D.int (lo+(j:Int)))→R (nA lo n) H1)∧(∀ a vs ds0 lo,ds=dM lo ds0→lJ K (a7 o ρ1) σ H1 G1 a vs→aB K G1 ds0 vs→R (rA K a lo) H1)) :
  RO X.K (tH K P C c) σ H R∨WX X.K (tH K P C c) σ H R:=by
 obtain ⟨ρ,G,hs,ρ1,ds,o,r,e,ei,k⟩:=q;obtain ⟨h,rfl,e1⟩:=A6 e;rw [hK]
 cases h with
 | slot i =>
  simp only [aH] at ei;split at ei
  ·rename_i ds' p l hi;cases ei;refine .inl ⟨ρ,G,.slot i,ρ1,r,e1,fun x H1 G1 a1 hx=>?_⟩;have hx:σ[i]?=some (some x):=hx;obtain ⟨b,h1,g,vs,hv,hr⟩:=a1.rel.ow i _ _ _ hi;rw [hx] at h1; cases h1;exact ⟨b,rfl,⟨vs,b9.of hv⟩,(k H1 G1 a1 fun j z=>by cases z; exact ⟨_,_,_,hi⟩).1 b vs (.inr ⟨hv,g,a1.rel.unset_not hi hx⟩) hr⟩
  ·rename_i ds' hi;cases ei;refine .inl ⟨ρ,G,.slot i,ρ1,r,e1,fun x H1 G1 a1 hx=>?_⟩;have hx:σ[i]?=some (some x):=hx;obtain ⟨v,h1,h2⟩:=a1.rel.sh i _ hi;rw [hx] at h1; cases h1;simp only [aE] at h2;obtain ⟨b,vs,rfl,h3,h4⟩:=h2;exact ⟨b,rfl,⟨vs,a1.rel.sub.seq h3⟩,(k H1 G1 a1 fun j z=>by cases z).1 b vs (.inl h3) h4⟩
  ·rename_i ds' hi;cases ei;refine .inr ⟨ρ,G,.slot i,ρ1,r,e1,fun x H1 G1 a1 hx=>?_⟩;have hx:σ[i]?=some (some x):=hx;obtain ⟨v,h1,h2⟩:=a1.rel.sh i _ hi;rw [hx] at h1; cases h1;simp only [aE] at h2;obtain ⟨b,vs,rfl,h3,h4⟩:=h2;exact ⟨b,rfl,⟨vs,dG a1.rel.sub h3⟩,(k H1 G1 a1 fun j z=>by cases z).2.1 b vs h3 h4⟩
  ·cases ei
 | val v =>
  simp only [aH] at ei;split at ei
  ·rename_i ds' hd;cases ei;refine .inl ⟨ρ,G,.val v,ρ1,r,e1,fun x H1 G1 a1 hx=>?_⟩
   cases v with
   | sh d =>
    simp only [RV.d] at hd;subst hd;have hx:aE K G1 (.lst ds) x:=hx;simp only [aE] at hx;obtain ⟨b,vs,rfl,h3,h4⟩:=hx;exact ⟨b,rfl,⟨vs,a1.rel.sub.seq h3⟩,(k H1 G1 a1 fun j z=>by cases z).1 b vs (.inl h3) h4⟩
   | ow d =>
    simp only [RV.d] at hd;subst hd;obtain ⟨b,rfl,g,⟨vs,hv,hr⟩,n,m⟩:=hx;exact ⟨b,rfl,⟨vs,b9.of hv⟩,(k H1 G1 a1 fun j z=>by cases z).1 b vs (.inr ⟨hv,g,n⟩) hr⟩
  ·rename_i ds' hd;cases ei;refine .inr ⟨ρ,G,.val v,ρ1,r,e1,fun x H1 G1 a1 hx=>?_⟩
   cases v with
   | sh d =>
    simp only [RV.d] at hd;subst hd;have hx:aE K G1 (.tup ds) x:=hx;simp only [aE] at hx;obtain ⟨b,vs,rfl,h3,h4⟩:=hx;exact ⟨b,rfl,⟨vs,dG a1.rel.sub h3⟩,(k H1 G1 a1 fun j z=>by cases z).2.1 b vs h3 h4⟩
   | ow d =>
    simp only [RV.d] at hd;subst hd;obtain ⟨b,rfl,g,o,n,m⟩:=hx;exact o.elim
  ·cases ei
theorem E2 {c:E} (σ:St) (H:Hp) (R:It→Hp→Prop) (q:∃ (ρ:Env) (G:Hp) (hs:List Hd) (ρ1:Env) (ds:List D) (o:Option Nat),Rel K ρ σ H G∧cI P C [c] ρ=some (.ok hs,ρ1)∧aH .rng hs ρ1=some (ds,o) ∧
   ∀ H1 G1,Aft K ρ σ H G ρ1 H1 G1→(∀ i,o=some i→∃ d p l,ρ1[i]?=some (.ow d p l)) →
    (∀ a vs,lJ K (a7 o ρ1) σ H1 G1 a vs→aB K G1 ds vs→R (rD K a) H1)∧(∀ a vs,cW K G1 a vs→aB K G1 ds vs→R (qZ K a) H1)∧(∀ (lo:Int) (n:Nat),ds=(List.range n).map (fun (j:Nat)=>D.int (lo+(j:Int)))→R (nA lo n) H1)∧(∀ a vs ds0 lo,ds=dM lo ds0→lJ K (a7 o ρ1) σ H1 G1 a vs→aB K G1 ds0 vs→R (rA K a lo) H1)) :
  QQ (mP K P C [c]) σ H R:=by
 obtain ⟨ρ,G,hs,ρ1,ds,o,r,e,ei,k⟩:=q;refine ⟨ρ,G,hs,ρ1,r,e,fun xs H1 G1 a1 hx=>?_⟩;obtain ⟨h,rfl,e1⟩:=A6 e;obtain ⟨x,r',rfl,h1,h2,_⟩:=hx;cases (show r'=[] from h2);simp only [aH] at ei;split at ei
 ·rename_i n hn;split at ei
  ·rename_i hb;cases ei;cases (h1.read a1.rel hn).int;refine ⟨n,rfl,by omega,by omega,(k H1 G1 a1 fun j z=>by cases z).2.2.1 0 n.toNat ?_⟩;congr 1
   funext j
   rw [Int.zero_add]
  ·cases ei
 ·cases ei
theorem FT {c c2:E} (σ:St) (H:Hp) (R:It→Hp→Prop) (q:∃ (ρ:Env) (G:Hp) (hs:List Hd) (ρ1:Env) (ds:List D) (o:Option Nat),Rel K ρ σ H G∧cI P C [c,c2] ρ=some (.ok hs,ρ1)∧aH .rng hs ρ1=some (ds,o) ∧
   ∀ H1 G1,Aft K ρ σ H G ρ1 H1 G1→(∀ i,o=some i→∃ d p l,ρ1[i]?=some (.ow d p l)) →
    (∀ a vs,lJ K (a7 o ρ1) σ H1 G1 a vs→aB K G1 ds vs→R (rD K a) H1)∧(∀ a vs,cW K G1 a vs→aB K G1 ds vs→R (qZ K a) H1)∧(∀ (lo:Int) (n:Nat),ds=(List.range n).map (fun (j:Nat)=>D.int (lo+(j:Int)))→R (nA lo n) H1)∧(∀ a vs ds0 lo,ds=dM lo ds0→lJ K (a7 o ρ1) σ H1 G1 a vs→aB K G1 ds0 vs→R (rA K a lo) H1)) :
  QY (mP K P C [c,c2]) σ H R:=by
 obtain ⟨ρ,G,hs,ρ1,ds,o,r,e,ei,k⟩:=q;refine ⟨ρ,G,hs,ρ1,r,e,fun xs H1 G1 a1 hx=>?_⟩;rw [cI] at e;obtain ⟨h,ρ2,e1,e2⟩:=aL e;obtain ⟨hs',ρ3,e3,e4⟩:=aL e2;obtain ⟨h',rfl,e5⟩:=A6 e3;cases e4;obtain ⟨x,r',rfl,h1,h2,_⟩:=hx;obtain ⟨y,r'',rfl,h3,h4,_⟩:=h2;cases (show r''=[] from h4);simp only [aH] at ei;split at ei
 ·rename_i m n hm hn;split at ei
  ·rename_i hb;cases ei;cases (h1.read a1.rel hm).int;cases (h3.read a1.rel hn).int;exact ⟨m,n,rfl,by omega,(k H1 G1 a1 fun j z=>by cases z).2.2.1 m (n - m).toNat rfl⟩
  ·cases ei
 ·cases ei
theorem yK (hK:X.K=K) {c:E} {lo:Int} (σ:St) (H:Hp) (R:It→Hp→Prop) (q:∃ (ρ:Env) (G:Hp) (hs:List Hd) (ρ1:Env) (ds:List D) (o:Option Nat),Rel K ρ σ H G∧cI P C [c] ρ=some (.ok hs,ρ1)∧aH (.enum lo) hs ρ1=some (ds,o) ∧
   ∀ H1 G1,Aft K ρ σ H G ρ1 H1 G1→(∀ i,o=some i→∃ d p l,ρ1[i]?=some (.ow d p l)) →
    (∀ a vs,lJ K (a7 o ρ1) σ H1 G1 a vs→aB K G1 ds vs→R (rD K a) H1)∧(∀ a vs,cW K G1 a vs→aB K G1 ds vs→R (qZ K a) H1)∧(∀ (lo:Int) (n:Nat),ds=(List.range n).map (fun (j:Nat)=>D.int (lo+(j:Int)))→R (nA lo n) H1)∧(∀ a vs ds0 lo,ds=dM lo ds0→lJ K (a7 o ρ1) σ H1 G1 a vs→aB K G1 ds0 vs→R (rA K a lo) H1)) :
  HR X.K lo (mP K P C [c]) σ H R:=by
 obtain ⟨ρ,G,hs,ρ1,ds,o,r,e,ei,k⟩:=q;rw [hK];refine ⟨ρ,G,hs,ρ1,r,e,fun xs H1 G1 a1 hxs=>?_⟩;obtain ⟨h,rfl,e1⟩:=A6 e;obtain ⟨x,r',rfl,hx,h2,_⟩:=hxs;cases (show r'=[] from h2)
 cases h with
 | slot i =>
  simp only [aH] at ei;have hx:σ[i]?=some (some x):=hx;split at ei
  ·rename_i ds' p l hi;cases ei;obtain ⟨b,h1,g,vs,hv,hr⟩:=a1.rel.ow i _ _ _ hi;rw [hx] at h1; cases h1;exact ⟨b,rfl,⟨vs,b9.of hv⟩,(k H1 G1 a1 fun j z=>by cases z; exact ⟨_,_,_,hi⟩).2.2.2 b vs _ lo rfl (.inr ⟨hv,g,a1.rel.unset_not hi hx⟩) hr⟩
  ·rename_i ds' hi;cases ei;obtain ⟨v,h1,h2⟩:=a1.rel.sh i _ hi;rw [hx] at h1; cases h1;simp only [aE] at h2;obtain ⟨b,vs,rfl,h3,h4⟩:=h2;exact ⟨b,rfl,⟨vs,a1.rel.sub.seq h3⟩,(k H1 G1 a1 fun j z=>by cases z).2.2.2 b vs _ lo rfl (.inl h3) h4⟩
  ·cases ei
 | val v =>
  simp only [aH] at ei;split at ei
  ·rename_i ds' hd;cases ei
   cases v with
   | sh d =>
    simp only [RV.d] at hd;subst hd;have hx:aE K G1 (.lst ds') x:=hx;simp only [aE] at hx;obtain ⟨b,vs,rfl,h3,h4⟩:=hx;exact ⟨b,rfl,⟨vs,a1.rel.sub.seq h3⟩,(k H1 G1 a1 fun j z=>by cases z).2.2.2 b vs _ lo rfl (.inl h3) h4⟩
   | ow d =>
    simp only [RV.d] at hd;subst hd;obtain ⟨b,rfl,g,⟨vs,hv,hr⟩,n,m⟩:=hx;exact ⟨b,rfl,⟨vs,b9.of hv⟩,(k H1 G1 a1 fun j z=>by cases z).2.2.2 b vs _ lo rfl (.inr ⟨hv,g,n⟩) hr⟩
  ·cases ei
theorem zZ {e:Expr} (h:vX e=true) (env:PySem.Env):∀ x,foldedSetIterable e env x=pure x:=fun x=>by
 cases e <;> first | rfl | cases h
theorem FN (xo:bP X K P C Γ) (hfn:∀ x,Γ.isLoc x=true→X.fn x=true∨X.env.scope.names.lookup x=some .local) {tg:Expr} {one:Bool} {is:List Nat} (h:lG Γ tg=some (one,is)):PG X tg (gB K one is):=by
 cases tg <;> simp only [lG,reduceCtorEq] at h
 ·rename_i x pos
  cases q:Γ.slotL x with
  | none=>rw [q] at h; cases h
  | some i=>rw [q] at h; cases h; exact aBg (vH xo hfn q)
 ·rename_i es k0 pos
  cases q:iF Γ es with
  | none=>rw [q] at h; cases h
  | some is' =>
   rw [q] at h;cases h;obtain ⟨h1,h2,h3,h4⟩:=pK xo hfn q;exact FD xo h1 h2 h3
end
section
variable {K:Frag} {σ σ':St} {H G H' G':Hp}
theorem oF {as:List Sl} {n i:Nat} {s:Sl} (h:(as ++ List.replicate n Sl.un)[i]?=some s):(as[i]?=some s)∨(as.length≤i∧s=.un):=by
 by_cases hl:i<as.length
 ·rw [List.getElem?_append_left hl] at h; exact .inl h
 ·rw [List.getElem?_append_right (by omega),List.getElem?_replicate] at h;split at h
  ·cases h; exact .inr ⟨by omega,rfl⟩
  ·cases h
theorem sU {N:List Str} {vs:List V} {i:Nat} (h:i<vs.length):(L2.cL N vs)[i]?=(vs.map some)[i]?:=by
 unfold L2.cL;rw [List.getElem?_append_left (by rw [List.length_map]; exact h)]
theorem Rel.pad {as:List Sl} {vs:List V} {N:List Str} {n:Nat} (r:Rel K as (vs.map some) H G) (hn:N.length=as.length+n):Rel K (as ++ List.replicate n .un) (L2.cL N vs) H G∧∀ a,aR (as ++ List.replicate n .un) (L2.cL N vs) a→aR as (vs.map some) a:=by
 have hl:as.length=vs.length:=by have:=r.len; rwa [List.length_map] at this
 have st:∀ i:Nat,i<as.length→(L2.cL N vs)[i]?=(vs.map some)[i]?:=fun i h=>sU (by omega)
 have lt:∀ {i:Nat} {s:Sl},as[i]?=some s→i<as.length:=fun h=>(Zc.mp h).1
 refine ⟨⟨by unfold L2.cL; simp; omega,r.sub,fun i d h=>?_,fun i d p l h=>?_,fun i j d p l d' p' l' a h1 h2 h3 h4=>?_⟩,fun a ⟨i,d,p,l,h1,h2⟩=>?_⟩
 ·rcases oF h with h | ⟨_,h⟩
  ·rw [st i (lt h)]; exact r.sh i d h
  ·cases h
 ·rcases oF h with h | ⟨_,h⟩
  ·rw [st i (lt h)]; exact r.ow i d p l h
  ·cases h
 ·rcases oF h1 with h1 | ⟨_,h1⟩
  ·rcases oF h2 with h2 | ⟨_,h2⟩
   ·rw [st i (lt h1)] at h3;rw [st j (lt h2)] at h4;exact r.inj _ _ _ _ _ _ _ _ _ h1 h2 h3 h4
   ·cases h2
  ·cases h1
 ·rcases oF h1 with h1 | ⟨_,h1⟩
  ·rw [st i (lt h1)] at h2;exact ⟨i,d,p,l,h1,h2⟩
  ·cases h1
theorem mR:∀ {as:List Sl} {ρ:Env} (i:Nat),as.length≤ρ.length→(back as ρ)[i]?=(as[i]?).bind fun a=>match a with | .ow _ _ _=>ρ[i]? | a=>some a
 | [],ρ,i,_=>by cases ρ <;> simp [back]
 | a :: as,[],i,h=>by simp at h
 | a :: as,b :: ρ,i,h=>by
  have ih:=fun j=>mR (as:=as) (ρ:=ρ) j (by simpa using h)
  cases i with
  | zero=>cases a <;> simp [back]
  | succ i=>cases a <;> simp [back,ih i]
theorem vQ {as:List Sl} {vs:List V} {N:List Str} {n:Nat} {ρ':Env} (r:Rel K as (vs.map some) H G) (hp:as.all l3=true) (hn:N.length=as.length+n)
  (a:AftS K (as ++ List.replicate n .un) (L2.cL N vs) H G ρ' σ' H' G'):Aft K as (vs.map some) H G (back as ρ') H' G'∧∀ c,aR (back as ρ') (vs.map some) c→aR ρ' σ' c:=by
 have hl:as.length=vs.length:=by have:=r.len; rwa [List.length_map] at this
 have lt:∀ {i:Nat} {s:Sl},as[i]?=some s→i<as.length:=fun h=>(Zc.mp h).1
 have st:∀ i:Nat,i<as.length→(L2.cL N vs)[i]?=(vs.map some)[i]?:=fun i h=>sU (by omega)
 have hlen:as.length≤ρ'.length:=by rw [a.len,Za]; omega
 have at0:∀ {i:Nat} {s:Sl},as[i]?=some s→(as ++ List.replicate n .un)[i]?=some s:=fun h=>by rw [List.getElem?_append_left (lt h)]; exact h
 have pin:∀ (i:Nat) d p l,as[i]?=some (.ow d p l)→p=true∧σ'[i]?=(vs.map some)[i]?∧∃ d',ρ'[i]?=some (.ow d' true l):=fun i d p l h=>by
  have h1:=List.all_eq_true.mp hp _ (zj h);simp only [l3] at h1;subst h1;obtain ⟨h2,d',h3⟩:=a.pin i d l (at0 h);exact ⟨rfl,h2.trans (st i (lt h)),d',h3⟩
 have oth:∀ {i:Nat} {s:Sl},(back as ρ')[i]?=some s→(∃ d d' l,as[i]?=some (.ow d true l)∧s=.ow d' true l∧ρ'[i]?=some s∧σ'[i]?=(vs.map some)[i]?)∨(as[i]?=some s∧∀ d p l,s≠.ow d p l):=fun {i s} h=>by
  rw [mR i hlen] at h
  cases e:as[i]? with
  | none=>rw [e] at h; cases h
  | some b =>
   rw [e] at h
   cases b with
   | ow d p l =>
    obtain ⟨rfl,h1,d',h2⟩:=pin i d p l e;simp only [Option.bind_some] at h;rw [h2] at h;cases h;exact .inl ⟨d,d',l,rfl,rfl,h2,h1⟩
   | un=>cases h; exact .inr ⟨rfl,fun d p l z=>nomatch z⟩
   | mv=>cases h; exact .inr ⟨rfl,fun d p l z=>nomatch z⟩
   | sh d=>cases h; exact .inr ⟨rfl,fun d p l z=>nomatch z⟩
 have blen:(back as ρ').length=as.length:=by
  apply Nat.le_antisymm
  ·refine Nat.le_of_not_lt fun z=>?_
   have:=mR (as:=as) (ρ:=ρ') as.length hlen
   rw [Zb z,List.getElem?_eq_none (Zq _)] at this;cases this
  ·refine Nat.le_of_not_lt fun z=>?_
   have h1:=mR (as:=as) (ρ:=ρ') (back as ρ').length hlen;rw [List.getElem?_eq_none (Zq _),Zb z] at h1
   cases e:as[(back as ρ').length] with
   | ow d p l =>
    have e':as[(back as ρ').length]?=some (.ow d p l):=by rw [Zb z,e]
    obtain ⟨_,_,d',h2⟩:=pin _ d p l e';rw [e] at h1;simp only [Option.bind_some] at h1;rw [h2] at h1;cases h1
   | un=>rw [e] at h1; cases h1
   | mv=>rw [e] at h1; cases h1
   | sh d=>rw [e] at h1; cases h1
 refine ⟨⟨⟨by rw [blen]; exact r.len,a.rel.sub,fun i d h=>?_,fun i d p l h=>?_,fun i j d p l d' p' l' c h1 h2 h3 h4=>?_⟩,a.ext.weaken fun c z=>(r.pad hn).2 c z,fun i=>?_⟩,fun c ⟨i,d,p,l,h1,h2⟩=>?_⟩
 ·rcases oth h with ⟨_,_,_,_,z,_,_⟩ | ⟨z,_⟩
  ·cases z
  ·obtain ⟨v,h1,h2⟩:=r.sh i d z;exact ⟨v,h1,aE.mono a.ext.gg d h2⟩
 ·rcases oth h with ⟨d0,d',l',h1,h2,h3,h4⟩ | ⟨_,z⟩
  ·rw [← h4]; exact a.rel.ow i d p l h3
  ·exact absurd rfl (z d p l)
 ·rcases oth h1 with ⟨_,_,_,_,_,z3,z4⟩ | ⟨_,z⟩
  ·rcases oth h2 with ⟨_,_,_,_,_,w3,w4⟩ | ⟨_,w⟩
   ·rw [← z4] at h3;rw [← w4] at h4;exact a.rel.inj _ _ _ _ _ _ _ _ _ z3 w3 h3 h4
   ·exact absurd rfl (w _ _ _)
  ·exact absurd rfl (z _ _ _)
 ·rw [mR i hlen]
  cases e:as[i]? with
  | none=>trivial
  | some b =>
   cases b with
   | ow d p l =>
    obtain ⟨rfl,_,d',h2⟩:=pin i d p l e;simp only [Option.bind_some];rw [h2];exact ⟨rfl,rfl⟩
   | un=>trivial
   | mv=>trivial
   | sh d=>trivial
 ·rcases oth h1 with ⟨_,_,_,_,_,z3,z4⟩ | ⟨_,z⟩
  ·rw [← z4] at h2;exact ⟨i,d,p,l,z3,h2⟩
  ·exact absurd rfl (z _ _ _)
end
end CI
namespace L2
open PySem PySem.Spec PyProof.Rows
theorem d9 {α β:Type} [BEq α] [LawfulBEq α]:∀ {l:List (α × β)} {x:α} {k:β},l.lookup x=some k→(x,k)∈l
 | [],x,k,h=>by simp at h
 | (y,k') :: r,x,k,h=>by
  rw [List.lookup_cons] at h;split at h
  ·rename_i e;have e:=Zy e;subst e;cases h;exact zh
  ·exact Ze _ (d9 h)
theorem S3 {env:PySem.Env} {scope:Scope} (h:∀ p∈scope.names,p.2=.free→∃ c,env.cells.lookup p.1=some c) :
  ∃ cl,closureFor scope env=pure cl∧(∀ x c,cl.lookup x=some c→env.cells.lookup x=some c)∧∀ p∈scope.names,p.2=.free→∃ c,cl.lookup p.1=some c:=by
 have key:∀ (names:List (Str × NameKind)) (acc:List (Str × Addr)),(∀ p∈names,p.2=.free→∃ c,env.cells.lookup p.1=some c)→(∀ x c,acc.lookup x=some c→env.cells.lookup x=some c) →
   ∃ cl,(forIn names acc fun (p:Str × NameKind) (cs:List (Str × Addr))=>(if (p.2 == NameKind.free)=true then do let a ← cellOf env p.1; pure (ForInStep.yield ((p.1,a) :: cs)) else pure (ForInStep.yield cs):Sem _))=pure cl ∧
    (∀ x c,cl.lookup x=some c→env.cells.lookup x=some c)∧(∀ p∈names,p.2=.free→∃ c,cl.lookup p.1=some c)∧∀ x c,acc.lookup x=some c→∃ c',cl.lookup x=some c':=by
  intro names
  induction names with
  | nil=>intro acc _ h2; exact ⟨acc,by simp,h2,fun p hp=>(nomatch hp),fun x c e=>⟨c,e⟩⟩
  | cons p r ih =>
   intro acc h1 h2;by_cases hp:p.2=.free
   ·obtain ⟨c,hc⟩:=h1 p zh hp;have e:cellOf env p.1=pure c:=by unfold cellOf; rw [hc]
    obtain ⟨cl,q1,q2,q3,q4⟩:=ih ((p.1,c) :: acc) (fun q hq=>h1 q (Ze _ hq)) (fun x c' z=>by
     rw [List.lookup_cons] at z;split at z
     ·rename_i w; rw [Zy w,hc]; exact z
     ·exact h2 x c' z)
    refine ⟨cl, ?_,q2,fun q hq hf=>?_,fun x c' z=>?_⟩
    ·rw [List.forIn_cons];have hb:(p.2 == NameKind.free)=true:=by rw [hp]; rfl
     rw [Zo hb,e];simp only [pure_bind];exact q1
    ·rcases List.mem_cons.mp hq with w | w
     ·subst w;exact q4 q.1 c (by rw [List.lookup_cons]; simp)
     ·exact q3 q w hf
    ·by_cases w:x=p.1
     ·subst w;exact q4 p.1 c (by rw [List.lookup_cons]; simp)
     ·refine q4 x c' ?_;rw [List.lookup_cons]
      have:(x == p.1)=false:=beq_eq_false_iff_ne.mpr w
      rw [this];exact z
   ·obtain ⟨cl,q1,q2,q3,q4⟩:=ih acc (fun q hq=>h1 q (Ze _ hq)) h2;refine ⟨cl, ?_,q2,fun q hq hf=>?_,q4⟩
    ·rw [List.forIn_cons];have hb:¬ (p.2 == NameKind.free)=true:=by simpa using hp
     rw [Zp hb];simp only [pure_bind];exact q1
    ·rcases List.mem_cons.mp hq with w | w
     ·subst w; exact absurd hf hp
     ·exact q3 q w hf
 obtain ⟨cl,q1,q2,q3,_⟩:=key scope.names [] h (fun x c e=>by simp at e);refine ⟨cl, ?_,q2,q3⟩;unfold closureFor
 have:(forIn scope.names ([]:List (Str × Addr)) fun (x:Str × NameKind) (r:List (Str × Addr))=>(match x with | (name,kind)=>if (kind == NameKind.free)=true then do let a ← cellOf env name; pure (ForInStep.yield ((name,a) :: r)) else pure (ForInStep.yield r):Sem _))=pure cl:=q1
 simp only [this,pure_bind,bind_pure]
 first | rfl | (rw [this]; rfl) | skip
theorem nT {env:PySem.Env}:∀ {names:List (Str × NameKind)} {x:Str} {k':NameKind},
  (names.map fun (n,k)=>if (k == NameKind.free && env.scope.kind == .function && env.kindOf n == some .cell) then (n,NameKind.cell) else (n,k)).lookup x=some k'→∃ k,names.lookup x=some k∧(k'=k∨(k=.free∧k'=.cell))
 | [],x,k',h=>by simp at h
 | (n,k) :: r,x,k',h=>by
  have ih:=@nT env r x k';have h':List.lookup x ((if (k == NameKind.free && env.scope.kind == .function && env.kindOf n == some .cell)=true then (n,NameKind.cell) else (n,k)) :: (r.map fun (n,k)=>if (k == NameKind.free && env.scope.kind == .function && env.kindOf n == some .cell) then (n,NameKind.cell) else (n,k)))=some k':=h;by_cases hc:(k == NameKind.free && env.scope.kind == .function && env.kindOf n == some .cell)=true
  ·rw [Zo hc] at h';rw [List.lookup_cons] at h' ⊢
   cases hx:x == n with
   | true=>rw [hx] at h'; cases h'; simp only [ZB,beq_iff_eq] at hc; exact ⟨k,rfl,.inr ⟨hc.1.1,rfl⟩⟩
   | false=>rw [hx] at h'; exact ih h'
  ·rw [Zp hc] at h';rw [List.lookup_cons] at h' ⊢
   cases hx:x == n with
   | true=>rw [hx] at h'; cases h'; exact ⟨k,rfl,.inl rfl⟩
   | false=>rw [hx] at h'; exact ih h'
theorem sA {env:PySem.Env}:∀ {names:List (Str × NameKind)} {x:Str},names.lookup x=some .free →
  (names.map fun (n,k)=>if (k == NameKind.free && env.scope.kind == .function && env.kindOf n == some .cell) then (n,NameKind.cell) else (n,k)).lookup x=some .cell ∨
  (names.map fun (n,k)=>if (k == NameKind.free && env.scope.kind == .function && env.kindOf n == some .cell) then (n,NameKind.cell) else (n,k)).lookup x=some .free
 | [],x,h=>by simp at h
 | (n,k) :: r,x,h=>by
  have ih:=@sA env r x;show List.lookup x ((if (k == NameKind.free && env.scope.kind == .function && env.kindOf n == some .cell)=true then (n,NameKind.cell) else (n,k)) :: _)=_∨List.lookup x ((if (k == NameKind.free && env.scope.kind == .function && env.kindOf n == some .cell)=true then (n,NameKind.cell) else (n,k)) :: _)=_;rw [List.lookup_cons] at h;by_cases hc:(k == NameKind.free && env.scope.kind == .function && env.kindOf n == some .cell)=true
  ·rw [Zo hc,List.lookup_cons]
   cases hx:x == n with
   | true=>exact .inl rfl
   | false=>rw [hx] at h; exact ih h
  ·rw [Zp hc,List.lookup_cons]
   cases hx:x == n with
   | true=>rw [hx] at h; exact .inr h
   | false=>rw [hx] at h; exact ih h
theorem DM {prog:Program} {w:World} {A:Around} {R:Result→Shared→Prop} {s:Shared} {elt target iter:Expr} {ifs:List Expr} {scope:Scope} {pos:Pos} {it acc:Value} {env:PySem.Env} (I:Nat→Shared→Prop)
  (turn:∀ n s,I n s→wpAny (model prog w) A (pyNext it) (fun r s₁=>match r with
   | none=>R (.ok .next) s₁
   | some v=>wpAny (model prog w) A (letOwnedTupleGo target it v) (fun _ s₁=>wpAny (model prog w) A (assign target env v) (fun _ s₂ =>
     wpAny (model prog w) A (forIn ifs true fun c r=>if r=true then do let ok ← isTrue c env (eval c env); pure (ForInStep.yield ok) else pure (ForInStep.yield r)) (fun ok s₃ =>
      if ok=true then wpAny (model prog w) A (eval elt env) (fun x s₄ =>
       wpAny (model prog w) A (call (.builtin "list.append") [acc,x]) (fun _ s₅=>∃ m,m<n∧I m s₅) (notedBy (model prog w) A env fun e s'=>R (.error e) s') s₄) (notedBy (model prog w) A env fun e s'=>R (.error e) s') s₃
      else ∃ m,m<n∧I m s₃) (notedBy (model prog w) A env fun e s'=>R (.error e) s') s₂) (notedBy (model prog w) A env fun e s'=>R (.error e) s') s₁) (notedBy (model prog w) A env fun e s'=>R (.error e) s') s₁) (notedBy (model prog w) A env fun e s'=>R (.error e) s') s)
  (n:Nat) (h:I n s):codeAny (model prog w) A (.compLoop (.ListComp elt [⟨target,iter,ifs,0⟩] scope pos) 0 it acc env) R s:=by
 refine codeAny_loop rfl I (fun n s hI=>?_) n h;show wpAny _ A ((compTurn (.ListComp elt [⟨target,iter,ifs,0⟩] scope pos) 0 it acc env).onRaise (fun x=>do noteFrame x env; theTreesLotGoes x)) _ _ s;refine wpAny_noted ?_;rw [compTurn_list];refine Zt (wpAny_standAt (Zt (wpAny_mono (turn n s hI) (fun r s₁ h₁=>?_) fun _ _ h'=>h')))
 cases r with
 | none=>exact Zu h₁
 | some v =>
  refine Zt (wpAny_mono h₁ (fun _ s₁' h₁'=>?_) fun _ _ h'=>h');refine Zt (wpAny_mono h₁' (fun _ s₂ h₂=>Zt (wpAny_mono h₂ (fun ok s₃ h₃=>?_) fun _ _ h'=>h')) fun _ _ h'=>h')
  cases ok with
  | false=>exact Zu ⟨rfl,h₃⟩
  | true =>
   exact Zt (Zt (wpAny_mono h₃ (fun x s₄ h₄=>Zt (wpAny_mono h₄ (fun _ s₅ h₅=>Zu (Zu ⟨rfl,h₅⟩)) fun _ _ h'=>h')) fun _ _ h'=>h'))
noncomputable def Q3 (X:Cx) (scope:Scope) (cl:List (Str × Addr)) (C:Addr) (N':List Str) (s₃:Shared) (H₃:Hp) (fp:List Addr) (xe:Value→Shared→Prop):Cx :=
 { X with N:=N',s₀:=s₃,H₀:=H₃,env:=compEnvC scope cl C X.env,outer:=X.stack,stack:=X.stack,ex:=fp,fn:=fun _=>false,pn:=[],xe:=xe }
def lK (X:Cx) (scope:Scope) (N':List Str) (X':Cx):Prop:=∃ cl C s₃ H₃ fp xe,X'=Q3 X scope cl C N' s₃ H₃ fp xe
section
variable {X:Cx} {pins:List (Addr × Obj)} {σ:St} {H:Hp} {s:Shared}
theorem PR {N:List Str} {vs:List V} {i:Nat} {v:V} (h:(cL N vs)[i]?=some (some v)):vs[i]?=some v:=by
 unfold cL at h;by_cases hl:i<vs.length
 ·rw [List.getElem?_append_left (by rw [List.length_map]; exact hl),Zh,Zb hl] at h;rw [Zb hl];simpa using h
 ·rw [List.getElem?_append_right (by rw [List.length_map]; omega),List.getElem?_replicate] at h;split at h
  ·cases h
  ·cases h
theorem Inv.block {scope:Scope} {cl:List (Str × Addr)} {N':List Str} {fp:List Addr} {xe:Value→Shared→Prop} {vs:List V} {h₄:Heap} {tk:Nat} {ob:Obj} (I:Inv X pins σ H s)
  (hkind:scope.kind=.function) (hcell:∀ y∈scope.names,y.2≠.cell) (sub:∀ x c,cl.lookup x=some c→X.env.cells.lookup x=some c) (hasF:∀ p∈scope.names,p.2=.free→∃ c,cl.lookup p.1=some c)
  (hfk:∀ p∈scope.names,p.2=.free→X.env.kindOf p.1=some .cell∨X.env.kindOf p.1=some .free)
  (hf:∀ b∈fp,jG X pins H b) (hfo:∀ b∈fp,b<s.heap.objs.size) (hvl:vs.length≤N'.length)
  (himp:∀ (i:Nat) x v,N'[i]?=some x→vs[i]?=some v→∃ j:Nat,X.N[j]?=some x∧σ[j]?=some (some v)∧scope.names.lookup x=some .free)
  (m:Str→Option Value) (hns:h₄.Ns s.heap.objs.size m) (hsb:Heap.SameBut s.heap.objs.size (s.heap.push ob) h₄) :
  Inv (Q3 X scope cl s.heap.objs.size N' s H fp xe) [] (cL N' vs) H { s with heap:=h₄,toks:=tk }:=by
 have old:∀ b o,s.heap.get? b=some o→h₄.get? b=some o:=fun b o e=>(hsb.2 b (Zz (Zv e))).trans (Zd _ e)
 have freeOf:∀ x,(relabel scope X.env).names.lookup x=some .cell∨(relabel scope X.env).names.lookup x=some .free→scope.names.lookup x=some .free:=fun x hx=>by
  rcases hx with hx | hx
  ·obtain ⟨k,h1,h2⟩:=nT (env:=X.env) hx;rcases h2 with h2 | ⟨h2,_⟩
   ·subst h2; exact absurd rfl (hcell _ (d9 h1))
   ·subst h2; exact h1
  ·obtain ⟨k,h1,h2⟩:=nT (env:=X.env) hx;rcases h2 with h2 | ⟨_,h2⟩
   ·subst h2; exact h1
   ·cases h2
 have ok:(Q3 X scope cl s.heap.objs.size N' s H fp xe).Ok:=by
  refine ⟨I.ok.mod,hkind,I.ok.glob,I.ok.blt,Zq _,fun x y c h1 h2=>I.ok.inj x y c (sub x c h1) (sub y c h2),fun x hx=>?_,fun x c h=>(nomatch h),I.ok.hd,I.ok.frames,.inl rfl,fun b hb=>⟨Zz (hfo b hb),fun x c e=>(hf b hb).2.2.2.2.1 x c (sub x c e)⟩,fun b o e=>I.bs b o e,Zr I.ok.bsz I.sz,fun b o e hb=>?_,fun b hb z=>?_,I.stack,I.stkFree⟩
  ·exact hasF (x,.free) (d9 (freeOf x hx)) rfl
  ·rcases (hf b hb).2.2.2.1 with z | z
   ·exact I.ok.noex b o e z
   ·rw [(I.ok.bs b o e).1] at z; cases z
  ·rcases List.mem_cons.mp (I.stkSub b z) with z | z
   ·exact (hf b hb).2.1 z
   ·exact (hf b hb).2.2.1 z
 refine ⟨ok,rfl,I.bare,Un.kept old,⟨m,hns,fun i x v e1 e2 e3=>?_⟩,fun x c e=>?_,I.hok.fresh (Zq _),fun x c e=>I.freeC x c (sub x c e),fun p hp=>(nomatch hp),I.hok.kept old, ?_⟩
 ·obtain ⟨j,h1,h2,h3⟩:=himp i x v e1 (PR e2);have hk:=hfk (x,.free) (d9 h3) rfl;obtain ⟨m0,hn0,hl⟩:=I.loc;obtain ⟨u,r,lk⟩:=hl j x v h1 h2 (.inr hk);refine ⟨u,r, ?_⟩;rcases lk with ⟨k,_⟩ | ⟨k,c,e,z⟩
  ·rcases hk with hk | hk
   ·rw [hk] at k; cases k
   ·rw [hk] at k; cases k
  ·obtain ⟨c',hc'⟩:=hasF (x,.free) (d9 h3) rfl;have ec:=sub x c' hc';rw [e] at ec;cases ec;obtain ⟨o,ho,hd⟩:=z;exact .inr ⟨sA (env:=X.env) h3,c,hc',o,old c o ho,hd⟩
 ·obtain ⟨v,o,ho,hd⟩:=I.cell x c (sub x c e);exact ⟨v,o,old c o ho,hd⟩
 ·show (cL N' vs).length=N'.length;unfold cL;simp;omega
def uB (X:Cx) (ifs:List Expr) (t:TT):Prop:=∀ (pins:List (Addr × Obj)) (s:Shared) (σ:St) (H:Hp) (Q:Bool→Hp→Prop),Inv X pins σ H s→t σ H Q →
 wpAny (model X.prog X.w) X.A (forIn ifs true fun c r=>if r=true then do let ok ← isTrue c X.env (eval c X.env); pure (ForInStep.yield ok) else pure (ForInStep.yield r)) (TP X pins σ Q) X.xe s
theorem TF:uB X [] (fun σ H Q=>Q true H):=fun pins s σ H Q I h=>wpAny_tests_nil ⟨H,I,h⟩
theorem VQ {c:Expr} {t:TT} (h:PT X c t):uB X [c] t:=fun pins s σ H Q I q=>wpAny_tests_one (h pins s σ H Q I q)
def KH (N:List Str) (scope:Scope) (N':List Str) (g:TG) (tt:TT) (te:TE) (σ:St) (Q:VK) (J:It) (H1:Hp):Prop:=∃ vs:List V,vs.length≤N'.length ∧
 (∀ (i:Nat) x v,N'[i]?=some x→vs[i]?=some v→∃ j:Nat,N[j]?=some x∧σ[j]?=some (some v)∧scope.names.lookup x=some .free) ∧
 ∀ D,H1 D=none→∃ (n:Nat) (LP:Nat→St→Hp→Prop),LP 0 (cL N' vs) (aV H1 D (.lst []))∧∀ i σ' H',LP i σ' H' →
  (J.stop i H'∧Q (.ref D) H')∨(i<n∧J.go i H'∧∀ x H2,J.yld i H' x H2→g x σ' H2 fun σ2 H3=>tt σ2 H3 fun b H4 =>
   if b=true then te σ2 H4 fun y H5=>∃ ys,H5 D=some (.lst ys)∧ys.length<sizeLine∧LP (i+1) σ2 (aV H5 D (.lst (ys ++ [y]))) else LP (i+1) σ2 H4)
noncomputable def v9 (N:List Str) (scope:Scope) (N':List Str) (wi:TI) (g:TG) (tt:TT) (te:TE):TE:=fun σ H Q=>wi σ H (KH N scope N' g tt te σ Q)
theorem zV {use:Option (Value→Sem Unit)} {QF:Value→Shared→Prop} {ps:Pos} {Q:VK} {elt tg iter:Expr} {ifs:List Expr} {scope:Scope} {pos:Pos} {N':List Str} {wi:TI} {g:TG} {tt:TT} {te:TE} (hc:X.calm=true) (hi:PI X tg iter wi) (hs:∀ x,foldedSetIterable iter X.env x=pure x)
  (hkind:scope.kind=.function) (hcell:∀ y∈scope.names,y.2≠.cell) (hnames:∀ x∈scope.names,x.2=.local→scope.names.lookup x.1=some .local)
  (hfk:∀ p∈scope.names,p.2=.free→X.env.kindOf p.1=some .cell∨X.env.kindOf p.1=some .free)
  (hg:∀ X',lK X scope N' X'→PG X' tg g) (ht:∀ X',lK X scope N' X'→uB X' ifs tt) (he:∀ X',lK X scope N' X'→PE X' elt te) (I:Inv X pins σ H s) (h:v9 X.N scope N' wi g tt te σ H Q)
  (fin:∀ (D C:Addr) (H':Hp) (s':Shared),Inv X pins σ H' s'→Q (.ref D) H'→H' C=none→X.s₀.heap.objs.size≤C→C≠X.env.locals→(∀ x c,X.env.cells.lookup x=some c→c≠C)→(∀ p∈X.pn ++ pins,p.1≠C)→(∃ m,s'.heap.Ns C m) →
   compPost (model X.prog X.w) X.A X.xe use QF (.ref D) C (.ok .next) s') :
  wpAny (model X.prog X.w) X.A (comprehension (.ListComp elt [⟨tg,iter,ifs,0⟩] scope pos) scope X.env ps (newList []) false (eval iter X.env) use) QF X.xe s:=by
 obtain ⟨cl,hclos,sub,hasF⟩:=S3 (env:=X.env) (scope:=scope) fun p hp hf=>I.ok.has p.1 (hfk p hp hf)
 refine wpAny_comprehension_free (use:=use) rfl hs hclos hkind hnames (bH (hi pins s σ H _ I h) fun v s1 h1=>bH h1 fun itv s2 h2=>?_);obtain ⟨it,fp,tn,J,H2,e,I2,T,st2,f2,vs,hvl,himp,hD⟩:=h2;subst e
 have fpl:∀ b∈fp,b<s2.heap.objs.size:=fun b hb=>by
  obtain ⟨o,e,_⟩:=T.obj _ _ st2 b hb;exact Zv e
 refine wpAny_newObj_type (wpAny_newFunctionEnv hcell (by intro y hy; simp at hy) (fun h₁ hns₁ hsb₁=>?_) hkind);dsimp only at hns₁ hsb₁ ⊢;have I3:Inv X pins σ (aV H2 s2.heap.objs.size (.lst [])) { s2 with heap:=s2.heap.push { cls:=.type "list",dict:=none,data:=.seq ([]:List Value).toArray } }:=I2.lnew (its:=[]) (t':=s2.toks) .nil (Nat.zero_le _);obtain ⟨n,LP,l0,turn⟩:=hD s2.heap.objs.size I2.fresh;generalize hs3:({ s2 with heap:=s2.heap.push { cls:=.type "list",dict:=none,data:=.seq ([]:List Value).toArray } }:Shared)=s3 at I3;have hh3:s3.heap=s2.heap.push { cls:=.type "list",dict:=none,data:=.seq ([]:List Value).toArray }:=by rw [← hs3]
 rw [← hh3] at hns₁ hsb₁ ⊢;have f3:∀ b∈fp,jG X pins (aV H2 s2.heap.objs.size (.lst [])) b:=fun b hb=>⟨by rw [aO (Zz (fpl b hb))]; exact (f2 b hb).1,(f2 b hb).2⟩
 have fpl3:∀ b∈fp,b<s3.heap.objs.size:=fun b hb=>by rw [hh3,Heap.size_push]; exact Nat.lt_succ_of_lt (fpl b hb)
 let R:Result→Shared→Prop:=compPost (model X.prog X.w) X.A X.xe use QF (.ref s2.heap.objs.size) s3.heap.objs.size
 let X':Cx:=Q3 X scope cl s3.heap.objs.size N' s3 (aV H2 s2.heap.objs.size (.lst [])) fp (notedBy (model X.prog X.w) X.A (compEnvC scope cl s3.heap.objs.size X.env) fun e s'=>R (.error e) s')
 have hX':lK X scope N' X':=⟨_,_,_,_,_,_,rfl⟩
 have I4:∀ tk,Inv X' [] (cL N' vs) (aV H2 s2.heap.objs.size (.lst [])) { s3 with heap:=h₁,toks:=tk }:=fun tk=>I3.block hkind hcell sub hasF hfk f3 fpl3 hvl himp _ hns₁ hsb₁
 have old:∀ b o,s3.heap.get? b=some o→h₁.get? b=some o:=fun b o e=>(hsb₁.2 b (Zz (Zv e))).trans (Zd _ e)
 have st4:tn 0 h₁:=T.keep _ _ _ st2 fun b hb o e=>old b o (by rw [hh3]; exact Zd _ e)
 have stat:∀ {H':Hp},(∀ b∈fp,H' b=none)→∀ b∈fp,jG X' [] H' b:=fun hn b hb=>⟨hn b hb,Zz (fpl3 b hb),fun z=>by
  rcases List.mem_cons.mp (I3.stkSub b z) with z | z
  ·exact (f2 b hb).2.1 z
  ·exact (f2 b hb).2.2.1 z,.inl hb,fun x c e=>(f2 b hb).2.2.2.2.1 x c (sub x c e),fun p hp=>(nomatch hp)⟩
 have loop:∀ tk,codeAny (model X.prog X.w) X.A (.compLoop (.ListComp elt [⟨tg,iter,ifs,0⟩] scope pos) 0 (.ref it) (.ref s2.heap.objs.size) (compEnvC scope cl s3.heap.objs.size X.env)) R { s3 with heap:=h₁,toks:=tk }:=by
  intro tk;refine DM (fun m s'=>∃ i σ' H',m=n - i∧Inv X' [] σ' H' s'∧tn i s'.heap∧(∀ b∈fp,H' b=none)∧LP i σ' H') ?_ n ⟨0,_,_,by simp,I4 tk,st4,fun b hb=>(f3 b hb).1,l0⟩
  rintro m s5 ⟨i,σ5,H5,rfl,I5,st5,fr5,w5⟩
  rcases turn i σ5 H5 w5 with ⟨stop,qn⟩ | ⟨hin,go,step⟩
  ·refine bH (T.done X' rfl rfl rfl hc i [] s5 σ5 H5 _ I5 (stat fr5) st5 stop) fun r s6 ⟨hr,I6⟩=>?_
   subst hr;obtain ⟨m6,hn6,_⟩:=I6.loc;have IX:Inv X pins σ H5 s6:=I3.call' (s':=s6) (ch:=fp) I6.os I6.base I6.hok I6.bare fun b hb=>⟨(f2 b hb).2.2.2.1,(f2 b hb).2.1,(f2 b hb).2.2.2.2.1,(f2 b hb).2.2.2.2.2⟩
   refine fin _ _ H5 s6 IX qn I6.free I3.sz (fun z=>Nat.lt_irrefl _ (Zl I3.lt (Nat.le_of_eq z))) (fun x c e z=>?_) (fun p hp z=>?_) ⟨m6,hn6⟩
   ·obtain ⟨v,o,ho,hd⟩:=I3.cell x c e;rw [z] at ho;exact Nat.lt_irrefl _ (Zv ho)
   ·have:=(I3.pin p hp).1
    rw [z] at this;exact Nat.lt_irrefl _ (Zv this)
  ·refine bH (T.item X' rfl rfl rfl hc i [] s5 σ5 H5 _ I5 (stat fr5) st5 go) fun r s6 ⟨u,hr,h6⟩=>?_
   subst hr;refine bH h6 fun _ s7 ⟨x,H7,I7,r7,y7,st7,fr7⟩=>?_
   have I7':=I7.pinned (stat fr7) (T.obj _ _ st7)
   have again:∀ {σ8:St} {H8:Hp} {s8:Shared},Inv X' ([] ++ sN fp s7.heap) σ8 H8 s8→LP (i+1) σ8 H8→∃ m,m<n - i∧∃ i σ' H',m=n - i∧Inv X' [] σ' H' s8∧tn i s8.heap∧(∀ b∈fp,H' b=none)∧LP i σ' H':=fun {σ8 H8 s8} I8 w8=>by
    refine ⟨n - (i+1),by omega,i+1,σ8,H8,rfl,I8.unpinned,T.keep _ _ _ st7 fun b hb o e=>(I8.pin (b,o) (List.mem_append_right _ (List.mem_append_right _ (lQ hb e)))).1,fun b hb=>?_,w8⟩;obtain ⟨o,e,d⟩:=T.obj _ _ st7 b hb;exact (I8.pin (b,o) (List.mem_append_right _ (List.mem_append_right _ (lQ hb e)))).2.1
   refine bH (hg X' hX' _ s7 σ5 H7 x u _ I7' r7 (step x H7 y7)) fun _ s8 ⟨σ8,H8,I8,q8⟩=>?_
   refine bH (ht X' hX' _ s8 σ8 H8 _ I8 q8) fun b s9 ⟨H9,I9,q9⟩=>?_
   cases b with
   | false=>exact again I9 q9
   | true =>
    refine bH (he X' hX' _ s9 σ8 H9 _ I9 q9) fun y s10 ⟨yv,H10,I10,r10,ys,hy,hz,q10⟩=>?_
    refine bH (zQ (X:=X') _ s10 σ8 H10 (.ref s2.heap.objs.size) [yv] (.ref s2.heap.objs.size) [y] (fun _ H'=>LP (i+1) σ8 H') I10 rfl (.cons r10 .nil) ⟨_,ys,yv,rfl,rfl,hy,hz,q10⟩) fun _ s11 ⟨_,H11,I11,_,q11⟩=>?_
    exact again I11 q11
 subst hs3;exact codeAny_compStart_list (loop _) (T.self _ 0 _ _ _ st4 (loop _))
theorem VC {elt tg iter:Expr} {ifs:List Expr} {scope:Scope} {pos:Pos} {N':List Str} {wi:TI} {g:TG} {tt:TT} {te:TE} (hc:X.calm=true) (hi:PI X tg iter wi) (hs:∀ x,foldedSetIterable iter X.env x=pure x)
  (hkind:scope.kind=.function) (hcell:∀ y∈scope.names,y.2≠.cell) (hnames:∀ x∈scope.names,x.2=.local→scope.names.lookup x.1=some .local)
  (hfk:∀ p∈scope.names,p.2=.free→X.env.kindOf p.1=some .cell∨X.env.kindOf p.1=some .free)
  (hg:∀ X',lK X scope N' X'→PG X' tg g) (ht:∀ X',lK X scope N' X'→uB X' ifs tt) (he:∀ X',lK X scope N' X'→PE X' elt te) :
  PE X (.ListComp elt [⟨tg,iter,ifs,0⟩] scope pos) (v9 X.N scope N' wi g tt te):=by
 intro pins s σ H Q I h;rw [eval_ListComp];refine zV (use:=none) (QF:=EP X pins σ Q) hc hi hs hkind hcell hnames hfk hg ht he I h fun D C H' s' I' q hC hz hL hcl hp hm=>?_
 obtain ⟨m,hm⟩:=hm;refine ⟨m,hm,fun h' sb=>⟨.ref D,H',I'.turned (t':=s'.toks) (fun b o hb e=>(sb.2 b hb).trans e) hC hL (.inr (Heap.get?_none_of_le hz)) hcl hp,rfl,q⟩⟩
theorem DZ {elt tg iter:Expr} {ifs:List Expr} {scope:Scope} {pos py spos:Pos} {y:Str} {i:Nat} {N':List Str} {wi:TI} {g:TG} {tt:TT} {te:TE} (hsw:swapsWith (.ListComp elt [⟨tg,iter,ifs,0⟩] scope pos) (some (.Name y py)) spos.line X.env=pure true)
  (hN:X.N.Nodup) (hy:X.N[i]?=some y) (hx:y8 X.env.scope y) (hf:X.fn y=true∨X.env.scope.names.lookup y=some .local) (hc:X.calm=true) (hi:PI X tg iter wi) (hs:∀ x,foldedSetIterable iter X.env x=pure x)
  (hkind:scope.kind=.function) (hcell:∀ y∈scope.names,y.2≠.cell) (hnames:∀ x∈scope.names,x.2=.local→scope.names.lookup x.1=some .local)
  (hfk:∀ p∈scope.names,p.2=.free→X.env.kindOf p.1=some .cell∨X.env.kindOf p.1=some .free)
  (hg:∀ X',lK X scope N' X'→PG X' tg g) (ht:∀ X',lK X scope N' X'→uB X' ifs tt) (he:∀ X',lK X scope N' X'→PE X' elt te) :
  PS X (.Assign [.Name y py] (.ListComp elt [⟨tg,iter,ifs,0⟩] scope pos) spos) (OP (v9 X.N scope N' wi g tt te) (tN i)):=by
 intro pins s σ H D0 I h;rw [exec_Assign_Name_used _ _ _ _ hsw];refine Zt (wpAny_standAt (Zt ?_));show wpAny _ X.A (do let _ ← comprehension (.ListComp elt [⟨tg,iter,ifs,0⟩] scope pos) scope X.env _ (newList []) false (eval iter X.env) (some (assign (.Name y py) X.env))) _ _ s;refine Zt (wpAny_mono (zV (use:=some (assign (.Name y py) X.env)) (QF:=fun _ s'=>SP X pins D0 .next s') hc hi hs hkind hcell hnames hfk hg ht he I h fun D C H' s' I' q hC hz hL hcl hp hm=>?_) (fun _ s' hq=>Zu (Zu hq)) fun _ _ e=>e);obtain ⟨m,hm⟩:=hm;refine wpAny_assign_Name (AE I' hN hy hx (v:=.ref D) rfl (fun s2 I2 ⟨a,sb,ha⟩=>?_) hf)
 have hne:a≠C:=by
  rcases ha with rfl | ha
  ·exact Ne.symm hL
  ·exact hcl _ _ ha
 refine ⟨m,hm.sameBut sb (Ne.symm hne),fun h' sb2=>⟨_,H',I2.turned (t':=s2.toks) (fun b o hb e=>(sb2.2 b hb).trans e) hC hL (.inr (Heap.get?_none_of_le hz)) hcl hp,q⟩⟩
end
end L2
namespace CI
open PySem PySem.Spec PyProof.Rows L2
section
variable {X:Cx} {K:Frag} {P:aQ} {C:Calls} {Γ:CC}
theorem bP.inner (xo:bP X K P C Γ) (hk:X.env.scope.kind=.function) {scope:Scope} (nd:(hU scope ++ iB scope).Nodup) {X':Cx} (b:lK X scope (Γ.inner scope).N X'):bP X' K P C (Γ.inner scope):=by
 obtain ⟨cl,C0,s₃,H₃,fp,xe,rfl⟩:=b;refine bP.of xo.keq rfl ?_ nd xo.calm xo.hh xo.hu xo.con xo.blt (fun x f h=>?_) (fun x ns h=>?_) (fun m tb c f h1 h2=>?_) xo.rm xo.sub xo.subx xo.exc xo.exs (fun x f h=>?_) xo.tp
 ·show (relabel scope X.env).names=(Γ.inner scope).names;unfold relabel CC.inner;simp only;congr 1
  funext p
  obtain ⟨n,k⟩:=p;have e:X.env.kindOf n=Γ.names.lookup n:=by unfold PySem.Env.kindOf; rw [xo.nm]
  simp only [hk,e];simp
 ·obtain ⟨fa,fd,ps,k,h1,h2,h3,h4,h5⟩:=(xo.fn x f h).ex;exact ⟨⟨fa,fd,ps,k,h1,h2,h3,h4,h5⟩⟩
 ·obtain ⟨Ca,fa,fd,ps,h1,h2,h3,h4,h5,h6⟩:=(xo.cls x ns h).ex;exact ⟨⟨Ca,fa,fd,ps,h1,h2,h3,h4,h5,h6⟩⟩
 ·obtain ⟨Ca,fa,fd,ps,k,z1,z2,z3,z4,z5,z6⟩:=(xo.mth m tb c f h1 h2).ex;exact ⟨⟨Ca,fa,fd,ps,k,z1,z2,z3,z4,z5,z6⟩⟩
 ·exact ⟨trivial⟩
noncomputable def DT (K:Frag) (P:aQ) (C:Calls) (cs:List E):TT:=fun σ H Q=>∃ (ρ:Env) (G:Hp) (b:Bool) (ρ':Env),Rel K ρ σ H G∧dY P C cs ρ=some (.ok (.sh (.bl b)),ρ') ∧
 ∀ H' G',Aft K ρ σ H G ρ' H' G'→Q b H'
theorem BN:uB X [] (DT K P C []):=fun pins s σ H Q I ⟨ρ,G,b,ρ',r,e,k⟩=>by
 rw [dY] at e;cases e;exact TF pins s σ H Q I (k H G (Aft.refl r))
theorem DA {c:Expr} {cc:E} (h:Ok3 X K P C c cc):uB X [c] (DT K P C [cc]):=fun pins s σ H Q I ⟨ρ,G,b,ρ',r,e,k⟩=>by
 refine VQ h.t pins s σ H Q I ?_;rw [dY] at e;obtain ⟨v,ρ1,e1,e2⟩:=aL e;split at e2
 ·rw [dY] at e2;cases e2;exact ⟨ρ,G,true,_,r,e1,k⟩
 ·cases e2;exact ⟨ρ,G,false,_,r,e1,k⟩
 ·cases e2
theorem AftS.poke {ρ ρ':Env} {σ σ':St} {H G H' G':Hp} (b:AftS K ρ σ H G ρ' σ' H' G') {a:Addr} {o:HO} (h:H a=none) (g:G' a=none) (n:¬ aR ρ' σ' a):AftS K ρ σ H G ρ' σ' (aV H' a o) G':=by
 refine ⟨b.rel.poke g n,⟨b.ext.gg,fun c u e nc=>?_,fun c e=>?_,b.ext.gn⟩,b.own,b.un,b.pin,b.len⟩
 ·have:c≠a:=fun z=>by subst z; rw [h] at e; cases e
  rw [aO this]; exact b.ext.hh c u e nc
 ·by_cases hc:c=a
  ·subst hc; rw [bE] at e; cases e
  ·rw [aO hc] at e; exact b.ext.hx c e
theorem sQ {tests elt:Env→aS RV} {bind:D→Env→Option Env}:∀ {ds acc acc':List D} {ρ ρ':Env},fZ tests elt bind ds acc ρ=some (.ok acc',ρ')→acc.length≤acc'.length
 | [],acc,acc',ρ,ρ',e=>by simp only [fZ,Option.some.injEq,Prod.mk.injEq,Out.ok.injEq] at e; rw [e.1]; exact Zq _
 | d :: ds,acc,acc',ρ,ρ',e=>by
  simp only [fZ] at e;split at e
  ·cases e
  ·obtain ⟨c,ρ2,e1,e2⟩:=aL e;split at e2
   ·obtain ⟨v,ρ3,e3,e4⟩:=aL e2
    have:=sQ e4
    simp at this;omega
   ·exact sQ e2
   ·cases e2
theorem xF {H G:Hp} {own new:Addr→Prop} {σ:St}:∀ (imp:List Nat) (ρ:Env) (as:List Sl) (ρ1:Env),Rel K ρ σ H G→bL (imp.map fun _=>true) (imp.map Hd.slot) ρ=some (as,ρ1) →
  ∃ xs,dC K H G own new σ (imp.map Hd.slot) xs∧xs.length=imp.length∧(∀ a,¬ mO (imp.map Hd.slot) xs a)∧∀ (j:Nat) v,xs[j]?=some v→∃ i:Nat,imp[j]?=some i∧σ[i]?=some (some v)
 | [],ρ,as,ρ1,r,e=>⟨[],rfl,rfl,fun a z=>z,fun j v h=>by simp at h⟩
 | i :: imp,ρ,as,ρ1,r,e=>by
  have go:∀ (ρ2:Env) (as2:List Sl) (ρ3:Env),Rel K ρ2 σ H G→bL (imp.map fun _=>true) (imp.map Hd.slot) ρ2=some (as2,ρ3)→(∃ v,σ[i]?=some (some v)) →
    ∃ xs,dC K H G own new σ ((i :: imp).map Hd.slot) xs∧xs.length=(i :: imp).length∧(∀ a,¬ mO ((i :: imp).map Hd.slot) xs a)∧∀ (j:Nat) v,xs[j]?=some v→∃ i':Nat,(i :: imp)[j]?=some i'∧σ[i']?=some (some v):=by
   intro ρ2 as2 ρ3 r2 e2 ⟨v,hv⟩;obtain ⟨xs,h1,h2,h3,h4⟩:=xF imp ρ2 as2 ρ3 r2 e2;refine ⟨v :: xs,⟨v,xs,rfl,hv,h1,fun d a z=>(nomatch z)⟩,by simp [h2],fun a z=>h3 a z,fun j w hw=>?_⟩
   cases j with
   | zero=>simp only [zr,Option.some.injEq] at hw; subst hw; exact ⟨i,rfl,hv⟩
   | succ j=>exact h4 j w (by simpa using hw)
  simp only [Zs,bL] at e;split at e
  ·rename_i d hi
   cases q:bL (imp.map fun _=>true) (imp.map Hd.slot) ρ with
   | none=>rw [q] at e; cases e
   | some y=>exact go ρ y.1 y.2 r q (r.bound (by rw [hi]; rfl))
  ·rename_i d p l hi
   cases q:bL (imp.map fun _=>true) (imp.map Hd.slot) (ρ.set i .un) with
   | none=>rw [q] at e; cases e
   | some y=>exact go _ y.1 y.2 (r.unset i) q (r.bound (by rw [hi]; rfl))
  ·cases e
theorem EG {ρ1 ρ2 ρ':Env} {o:Option Nat} (ho:∀ i,o=some i→∃ d p l,ρ1[i]?=some (.ow d p l)) (e:eS o ρ1 ρ2=some ρ') (h:i4 (a7 o ρ1) ρ2):i4 ρ1 ρ':=by
 cases o with
 | none=>simp only [eS,Option.some.injEq] at e; subst e; exact h
 | some i =>
  obtain ⟨d,p,l,hi⟩:=ho i rfl;simp only [eS] at e;split at e
  ·rename_i sl hf hs;rw [hi] at hs; cases hs;cases e;intro j;by_cases hj:j=i
   ·subst hj;rw [hi,zk (Zc.mp hf).1];exact dE.refl _
   ·have:=h j
    rw [Zf (fun z=>hj z.symm)]
    have e2:(a7 (some i) ρ1)[j]?=ρ1[j]?:=by
     show (ρ1.set i .un)[j]?=_;rw [Zf (fun z=>hj z.symm)]
    rw [e2] at this;exact this
  ·cases e
theorem FJ {Γ:CC}:∀ {xs:List Str} {imp:List Nat},Γ.imps xs=some imp→imp.length=xs.length∧∀ (j:Nat) x i,xs[j]?=some x→imp[j]?=some i→Γ.N[i]?=some x
 | [],imp,h=>by simp only [CC.imps,Option.some.injEq] at h; subst h; exact ⟨rfl,fun j x i z=>by simp at z⟩
 | x :: xs,imp,h=>by
  simp only [CC.imps] at h
  cases q:Γ.N.idxOf? x with
  | none=>rw [q] at h; cases h
  | some i =>
   rw [q] at h;simp only [Option.bind_some] at h
   cases q2:Γ.imps xs with
   | none=>rw [q2] at h; cases h
   | some r =>
    rw [q2] at h;simp only [Option.map_some,Option.some.injEq] at h;subst h;obtain ⟨h1,h2⟩:=FJ q2;refine ⟨by simp [h1],fun j y k hy hk=>?_⟩
    cases j with
    | zero =>
     simp only [zr,Option.some.injEq] at hy hk;subst hy hk;exact nC q
    | succ j=>exact h2 j y k (by simpa using hy) (by simpa using hk)
structure ScOk (Γ:CC) (scope:Scope):Prop where
 kind:scope.kind=.function
 cell:∀ y∈scope.names,y.2≠.cell
 names:∀ x∈scope.names,x.2=.local→scope.names.lookup x.1=some .local
 free:∀ x∈scope.names,x.2=.free→scope.names.lookup x.1=some .free
 out:∀ p∈scope.names,p.2=.free→Γ.names.lookup p.1=some .cell∨Γ.names.lookup p.1=some .free
 nd:(hU scope ++ iB scope).Nodup
theorem R7 {scope:Scope} (h:Γ.scOk scope=true):ScOk Γ scope:=by
 unfold CC.scOk at h;simp only [ZB,List.all_eq_true,decide_eq_true_eq,beq_iff_eq,bne_iff_ne,Bool.or_eq_true,ne_eq] at h;obtain ⟨⟨⟨⟨h1,h2⟩,h3⟩,h4⟩,h5⟩:=h;refine ⟨h1,h2,fun x hx hl=>?_,fun x hx hf=>?_,fun x hx hf=>?_,h5⟩
 ·rcases h3 x hx with z | z
  ·exact absurd hl z
  ·exact z
 ·rcases h4 x hx with z | z
  ·exact absurd hf z
  ·exact z.1
 ·rcases h4 x hx with z | z
  ·exact absurd hf z
  ·exact z.2
theorem GJ {scope:Scope} {x:Str} (sc:ScOk Γ scope) (h:x∈hU scope):scope.names.lookup x=some .free:=by
 unfold hU at h;obtain ⟨p,hp,rfl⟩:=zl.mp h;obtain ⟨h1,h2⟩:=List.mem_filter.mp hp;exact sc.free p h1 (Zy h2)
def LU (K:Frag) (ρ0:Env) (σ0:St) (H1 G2:Hp) (ds:List D) (J:It):Prop:=∀ i H' ρc σ' Gc,AftS K ρ0 σ0 H1 G2 ρc σ' H' Gc→(i=ds.length→J.stop i H')∧(i<ds.length→J.go i H')∧∀ d x H2,ds[i]?=some d→J.yld i H' x H2→∃ Gd,Aft K ρc σ' H' Gc ρc H2 Gd∧aE K Gd d x
theorem XX {ρ1 ρ0:Env} {σ σ0:St} {H1 G1 G2:Hp} {ds:List D} {o:Option Nat} (gg2:aM G1 G2) (own:∀ c,aR ρ0 σ0 c→aR (a7 o ρ1) σ c) :
  (∀ a vs,lJ K (a7 o ρ1) σ H1 G1 a vs→aB K G1 ds vs→LU K ρ0 σ0 H1 G2 ds (rD K a))∧(∀ a vs,cW K G1 a vs→aB K G1 ds vs→LU K ρ0 σ0 H1 G2 ds (qZ K a))∧(∀ (lo:Int) (n:Nat),ds=(List.range n).map (fun (j:Nat)=>D.int (lo+(j:Int)))→LU K ρ0 σ0 H1 G2 ds (nA lo n))∧(∀ a vs ds0 lo,ds=dM lo ds0→lJ K (a7 o ρ1) σ H1 G1 a vs→aB K G1 ds0 vs→LU K ρ0 σ0 H1 G2 ds (rA K a lo)):=by
 refine ⟨fun a vs hsrc hr=>?_,fun a vs ht hr=>?_,fun lo n hds=>?_,fun a vs ds0 lo hds hsrc hr=>?_⟩
 ·intro i H' ρc σ' Gc af
  have hnow:b9 K H' a vs:=by
   rcases hsrc with h | ⟨h1,h2,h3⟩
   ·exact af.rel.sub.seq (af.ext.gg.seq (gg2.seq h))
   ·exact b9.of (af.ext.hh a _ h1 fun z=>h3 (own a z))
  refine ⟨fun hi=>⟨vs,hnow,by rw [hr.len]; omega⟩,fun hi=>?_,fun d x H2 hd hy=>?_⟩
  ·obtain ⟨x',h1,h2⟩:=hr.get (Zb hi);exact ⟨vs,x',hnow,h1⟩
  ·obtain ⟨rfl,hy⟩:=hy;obtain ⟨x',h1,h2⟩:=hr.get hd
   have:=hy vs hnow
   rw [h1] at this;cases this;exact ⟨_,Aft.refl af.rel,aE.mono af.ext.gg d (aE.mono gg2 d h2)⟩
 ·intro i H' ρc σ' Gc af;have hnow:cW K H' a vs:=dG af.rel.sub (dG af.ext.gg (dG gg2 ht));refine ⟨fun hi=>⟨vs,hnow,by rw [hr.len]; omega⟩,fun hi=>?_,fun d x H2 hd hy=>?_⟩
  ·obtain ⟨x',h1,h2⟩:=hr.get (Zb hi);exact ⟨vs,x',hnow,h1⟩
  ·obtain ⟨rfl,hy⟩:=hy;obtain ⟨x',h1,h2⟩:=hr.get hd
   have:=hy vs hnow
   rw [h1] at this;cases this;exact ⟨_,Aft.refl af.rel,aE.mono af.ext.gg d (aE.mono gg2 d h2)⟩
 ·intro i H' ρc σ' Gc af;have hlen:ds.length=n:=by rw [hds]; simp
  refine ⟨fun hi=>by show n≤i; omega,fun hi=>by show i<n; omega,fun d x H2 hd hy=>?_⟩;obtain ⟨rfl,hy⟩:=hy;have hi:i<n:=by rw [← hlen]; exact (Zc.mp hd).1
  have hd':ds[i]?=some (.int (lo+(i:Int))):=by rw [hds]; simp [hi]
  rw [hd'] at hd;cases hd;subst hy;exact ⟨_,Aft.refl af.rel,by simp [aE]⟩
 ·intro i H' ρc σ' Gc af;subst hds
  have hnow:b9 K H' a vs:=by
   rcases hsrc with h | ⟨h1,h2,h3⟩
   ·exact af.rel.sub.seq (af.ext.gg.seq (gg2.seq h))
   ·exact b9.of (af.ext.hh a _ h1 fun z=>h3 (own a z))
  refine ⟨fun hi=>⟨vs,hnow,by rw [hr.len,← fO (lo:=lo)]; omega⟩,fun hi=>?_,fun d x H2 hd hy=>?_⟩
  ·obtain ⟨x',h1,h2⟩:=hr.get (Zb (by rw [fO] at hi; exact hi));exact ⟨vs,x',hnow,h1⟩
  ·obtain ⟨p0,y0,hn,rfl,rfl,hy⟩:=hy;have hl:i<ds0.length:=by rw [← fO (lo:=lo)]; exact (Zc.mp hd).1
   obtain ⟨x',h1,h2⟩:=hr.get (Zb hl);have hy:=hy vs hnow;rw [h1] at hy;cases hy;rw [nJ (Zb hl)] at hd;cases hd;exact ⟨_,(Aft.refl af.rel).layG hn,BD (aM.free af.rel.sub hn) (aE.mono af.ext.gg _ (aE.mono gg2 _ h2))⟩
abbrev CLP (K:Frag) (ρ0:Env) (σ0:St) (H1 G2:Hp) (L:Addr) (ds:List D) (run:Nat→List D→Env→Prop) (i:Nat) (σ':St) (H':Hp):Prop:=i≤ds.length∧∃ ρc Gc ac ys,AftS K ρ0 σ0 H1 G2 ρc σ' H' Gc∧H' L=some (.lst ys)∧Gc L=none∧¬ aR ρc σ' L∧aB K Gc ac ys∧run i ac ρc
abbrev YK (K:Frag) (P:aQ) (C:Calls) (k0:ItK) (its:List E) (σ:St) (H:Hp) (R:It→Hp→Prop):Prop:=∃ (ρ:Env) (G:Hp) (hs:List Hd) (ρ1:Env) (ds:List D) (o:Option Nat),Rel K ρ σ H G∧cI P C its ρ=some (.ok hs,ρ1)∧aH k0 hs ρ1=some (ds,o) ∧
   ∀ H1 G1,Aft K ρ σ H G ρ1 H1 G1→(∀ i,o=some i→∃ d p l,ρ1[i]?=some (.ow d p l)) →
    (∀ a vs,lJ K (a7 o ρ1) σ H1 G1 a vs→aB K G1 ds vs→R (rD K a) H1)∧(∀ a vs,cW K G1 a vs→aB K G1 ds vs→R (qZ K a) H1)∧(∀ (lo:Int) (n:Nat),ds=(List.range n).map (fun (j:Nat)=>D.int (lo+(j:Int)))→R (nA lo n) H1)∧(∀ a vs ds0 lo,ds=dM lo ds0→lJ K (a7 o ρ1) σ H1 G1 a vs→aB K G1 ds0 vs→R (rA K a lo) H1)
theorem C8 (xo:bP X K P C Γ) {scope:Scope} {ce:E} {k0:ItK} {its cond:List E} {imp is:List Nat} {wi:TI} (sc:ScOk Γ scope) (himp:Γ.imps (hU scope)=some imp)
  (hw:∀ σ H (R:It→Hp→Prop),YK K P C k0 its σ H R→wi σ H R)
  {σ:St} {H:Hp} {Q:VK} (h:tE K P C (.comp ce is k0 its cond imp (iB scope).length) σ H Q):v9 X.N scope (Γ.inner scope).N wi (gB K (is.length == 1) is) (DT K P C cond) (tE K P C ce) σ H Q:=by
 obtain ⟨ρ,G,v,ρ',r,e,k⟩:=h;simp only [ev,aN] at e;obtain ⟨hs',ρ1,e1,e2⟩:=aL e
 cases q:aH k0 hs' ρ1 with
 | none=>rw [q] at e2; cases e2
 | some y =>
  obtain ⟨ds,o⟩:=y;rw [q] at e2;obtain ⟨v',ρ2,e3,e4⟩:=aL e2;unfold oH at e4
  cases q3:eS o ρ1 ρ2 with
  | none=>rw [q3] at e4; cases e4
  | some ρ3 =>
   rw [q3] at e4;simp only [Option.map_some,Option.some.injEq,Prod.mk.injEq,Out.ok.injEq] at e4;obtain ⟨rfl,rfl⟩:=e4;unfold v9;refine hw σ H _ ⟨ρ,G,hs',ρ1,ds,o,r,e1,q,fun H1 G1 a1 ho=>?_⟩;have R0:=(nQ (o:=o) a1.rel).1
   have hld:∃ as ρ4,bL (imp.map fun _=>true) (imp.map Hd.slot) (a7 o ρ1)=some (as,ρ4):=by
    unfold fL at e3
    cases q4:bL (imp.map fun _=>true) (imp.map Hd.slot) (a7 o ρ1) with
    | none=>rw [q4] at e3; cases e3
    | some y=>exact ⟨y.1,y.2,rfl⟩
   obtain ⟨as0,ρ4,hld⟩:=hld;obtain ⟨xs,hx1,hx2,hx3,hx4⟩:=xF (own:=aR (a7 o ρ1) σ) (new:=eZ H1) imp _ _ _ R0 hld;obtain ⟨as,G2,as',ra,hal,ef,⟨gg2,ao2⟩,kk⟩:=rW (Aft.refl R0) hx1 e3;unfold tK at ef;split at ef
   ·rename_i hp;obtain ⟨acc,ρi,e5,e6⟩:=aL ef;split at e6
    ·rename_i hz;simp only [Option.some.injEq,Prod.mk.injEq,Out.ok.injEq] at e6;obtain ⟨rfl,rfl⟩:=e6;obtain ⟨il,ig⟩:=FJ himp
     have hNl:(Γ.inner scope).N.length=as.length+(iB scope).length:=by
      show (hU scope ++ iB scope).length=_;rw [Za,hal,List.length_map,il]
     obtain ⟨rp,op⟩:=ra.pad hNl;have hsz:=fP hz
     -- the block's turns
     have turns:∀ (J:It),LU K (as ++ List.replicate (iB scope).length .un) (cL (Γ.inner scope).N xs) H1 G2 ds J→KH X.N scope (Γ.inner scope).N (gB K (is.length == 1) is) (DT K P C cond) (tE K P C ce) σ Q J H1:=by
      intro J hJ;refine Exists.intro xs ⟨by rw [hNl,hx2,hal,List.length_map]; omega,fun i x v hN hv=>?_,fun D hD=>?_⟩
      ·obtain ⟨j,hj,hσ⟩:=hx4 i v hv
       have hlt:i<(hU scope).length:=by
        rw [← il];exact (Zc.mp hj).1
       have hfx:(hU scope)[i]?=some x:=by
        have:(hU scope ++ iB scope)[i]?=some x:=hN
        rwa [List.getElem?_append_left hlt] at this
       exact ⟨j,by rw [xo.neq]; exact ig i x j hfx hj,hσ,GJ sc (zj hfx)⟩
      ·have fin:∀ σ' H' Gc ys,AftS K (as ++ List.replicate (iB scope).length .un) (cL (Γ.inner scope).N xs) H1 G2 ρi σ' H' Gc→H' D=some (.lst ys)→Gc D=none→¬ aR ρi σ' D→aB K Gc acc ys→Q (.ref D) H':=by
        intro σ' H' Gc ys a hHD hGD hnD hr;obtain ⟨b1,b2⟩:=vQ ra hp hNl a;obtain ⟨c1,c2⟩:=kk (.ref D) H' Gc b1 ⟨D,rfl,hGD,⟨ys,hHD,hr⟩,fun z=>hnD (b2 D z),hD⟩;obtain ⟨d1,d2⟩:=i5 a1.rel ho q3 (Aft.s R0 c1);have a2:Aft K ρ1 σ H1 G1 ρ3 H' Gc:=⟨d1.rel,d1.ext,EG ho q3 c1.evo⟩
        obtain ⟨D',e',g',o',n',f'⟩:=c2;cases e';refine k _ _ _ (a1.trans a2) ⟨D,rfl,g',o',fun z=>?_,a1.fresh hD⟩;rcases d2 D z with z | ⟨z,_⟩
        ·exact n' z
        ·exact (a1.rel.owned z).1 hD
       clear kk k q3 R0 ho a1 hp hNl ra hal gg2 ao2 hx1 hx2 hx3 hx4 hld e3 q e1 r himp il ig op;refine ⟨ds.length,CLP K (as ++ List.replicate (iB scope).length .un) (cL (Γ.inner scope).N xs) H1 G2 D ds (fun i ac ρc=>fZ (dY P C cond) (ev P C false ce) (a8 (is.length == 1) is) (ds.drop i) ac ρc=some (.ok acc,ρi)), ?_, ?_⟩
       ·have g2:G2 D=none:=by
         cases z:G2 D with
         | none=>rfl
         | some u=>have:=rp.sub D u z; rw [hD] at this; cases this
        exact ⟨Nat.zero_le _,_,G2,[],[],Aft.s rp ((Aft.refl rp).layH hD),bE,g2,rp.notOwn hD,aB.nil,e5⟩
       ·rintro i σ' H' ⟨hil,ρc,Gc,ac,ys,a,hHD,hGD,hnD,hr,ec⟩
        obtain ⟨j1,j2,j3⟩:=hJ i H' ρc σ' Gc a;by_cases hlt:i<ds.length
        ·refine .inr ⟨hlt,j2 hlt,fun x H2 hy=>?_⟩;have hd:ds[i]?=some ds[i]:=Zb hlt;obtain ⟨Gd,afd,hrep⟩:=j3 _ x H2 hd hy;have hGD:=afd.ext.gn D (by rw [hHD]; simp) hGD hnD;have hHD:=afd.ext.hh D _ hHD hnD;have hr:=aB.mono afd.ext.gg _ hr;have a:=a.trans (Aft.s a.rel afd);rw [List.drop_eq_getElem_cons hlt] at ec;simp only [fZ] at ec;split at ec
         ·cases ec
         ·rename_i ρb hb;obtain ⟨c,ρt,et,ec⟩:=aL ec;refine ⟨ρc,Gd,ds[i],ρb,a.rel,hrep,hb,fun σ1 ab=>?_⟩;have a01:=a.trans ab
          have nb:¬ aR ρb σ1 D:=fun z=>by
           rcases ab.own D z with z | z
           ·exact hnD z
           ·rw [hHD] at z; cases z
          split at ec
          ·obtain ⟨w,ρe,ee,ec⟩:=aL ec;refine ⟨ρb,Gd,true,ρt,ab.rel,et,fun H3 G3 at3=>?_⟩;have h3:H3 D=some (.lst ys):=at3.ext.hh D _ hHD nb;have g3:G3 D=none:=at3.ext.gn D (by rw [hHD]; simp) hGD nb;have n3:¬ aR ρt σ1 D:=fun z=>nb (at3.own D z)
           dsimp only;rw [Zo rfl];refine ⟨ρt,G3,w,ρe,at3.rel,ee,fun y H4 G4 a4 ry=>?_⟩;obtain ⟨G5,a5,ry5⟩:=a4.share ry;have h4:H4 D=some (.lst ys):=a5.ext.hh D _ h3 n3;have g5:G5 D=none:=a5.ext.gn D (by rw [h3]; simp) g3 n3;have n5:¬ aR ρe σ1 D:=fun z=>n3 (a5.own D z)
           have hlen:=sQ ec;have hyl:=hr.len;rw [Za] at hlen;simp only [Zk,List.length_nil] at hlen;have a05:=(a01.trans (Aft.s ab.rel at3)).trans (Aft.s at3.rel a5);refine ⟨ys,h4,by omega,hlt,ρe,G5,ac ++ [w.d],ys ++ [y],a05.poke hD g5 n5,bE,g5,n5, ?_,ec⟩;exact (aB.mono a5.ext.gg _ (aB.mono at3.ext.gg _ hr)).app (aB.cons ry5 aB.nil)
          ·refine ⟨ρb,Gd,false,ρt,ab.rel,et,fun H3 G3 at3=>?_⟩;have h3:H3 D=some (.lst ys):=at3.ext.hh D _ hHD nb;have g3:G3 D=none:=at3.ext.gn D (by rw [hHD]; simp) hGD nb;have n3:¬ aR ρt σ1 D:=fun z=>nb (at3.own D z)
           dsimp only;rw [Zp (by decide)];exact ⟨hlt,ρt,G3,ac,ys,a01.trans (Aft.s ab.rel at3),h3,g3,n3,aB.mono at3.ext.gg _ hr,ec⟩
          ·cases ec
        ·have hie:i=ds.length:=by omega
         refine .inl ⟨j1 hie, ?_⟩;subst hie;rw [List.drop_length] at ec;simp only [fZ,Option.some.injEq,Prod.mk.injEq,Out.ok.injEq] at ec;obtain ⟨rfl,rfl⟩:=ec;exact fin _ _ _ _ a hHD hGD hnD hr
     have noTmp:∀ c,aR as (xs.map some) c→aR (a7 o ρ1) σ c:=fun c z=>by
      rcases ao2 c z with z | z
      ·exact z
      ·exact absurd z (hx3 c)
     obtain ⟨w1,w2,w3,w4⟩:=XX (K:=K) (ρ1:=ρ1) (σ:=σ) (H1:=H1) (ds:=ds) (o:=o) gg2 fun c z=>noTmp c (op c z)
     exact ⟨fun a vs h1 h2=>turns _ (w1 a vs h1 h2),fun a vs h1 h2=>turns _ (w2 a vs h1 h2),fun lo n h1=>turns _ (w3 lo n h1),fun a vs ds0 lo h1 h2 h3=>turns _ (w4 a vs ds0 lo h1 h2 h3)⟩
    ·cases e6
   ·cases ef
def FY (X:Cx) (K:Frag) (P:aQ) (C:Calls) (e:Expr) (c:E):Prop:=∀ (x:Str) (i:Nat) (p pos:Pos),X.N.Nodup→X.N[i]?=some x→y8 X.env.scope x→(X.fn x=true∨X.env.scope.names.lookup x=some .local) →
 PS X (.Assign [.Name x p] e pos) (OP (tE K P C c) (tN i))
theorem l6 {e:Expr}:FY X K P C e .bad:=fun x i p pos _ _ _ _ pins s σ H D I h=>by
 obtain ⟨ρ,G,v,ρ',r,e,k⟩:=h;rw [ev] at e;cases e
theorem VN (xo:bP X K P C Γ) {elt tg iter:Expr} {ifs:List Expr} {scope:Scope} {pos:Pos} {ce:E} {k0:ItK} {its cond:List E} {imp is:List Nat} {wi:TI} (sc:ScOk Γ scope) (himp:Γ.imps (hU scope)=some imp) (htg:lG (Γ.inner scope) tg=some (is.length == 1,is))
  (hi:PI X tg iter wi) (hs:∀ x,foldedSetIterable iter X.env x=pure x)
  (hw:∀ σ H (R:It→Hp→Prop),YK K P C k0 its σ H R→wi σ H R)
  (he:∀ X',bP X' K P C (Γ.inner scope)→Ok3 X' K P C elt ce) (ht:∀ X',bP X' K P C (Γ.inner scope)→uB X' ifs (DT K P C cond)) :
  Ok3 X K P C (.ListComp elt [⟨tg,iter,ifs,0⟩] scope pos) (.comp ce is k0 its cond imp (iB scope).length)∧FY X K P C (.ListComp elt [⟨tg,iter,ifs,0⟩] scope pos) (.comp ce is k0 its cond imp (iB scope).length):=by
 have all:X.env.scope.kind=.function→(∀ X',lK X scope (Γ.inner scope).N X'→PG X' tg (gB K (is.length == 1) is))∧(∀ X',lK X scope (Γ.inner scope).N X'→uB X' ifs (DT K P C cond))∧∀ X',lK X scope (Γ.inner scope).N X'→PE X' elt (tE K P C ce):=by
  intro hk;have xi:∀ X',lK X scope (Γ.inner scope).N X'→bP X' K P C (Γ.inner scope):=fun X' b=>xo.inner hk sc.nd b
  have hfn:∀ X',lK X scope (Γ.inner scope).N X'→∀ x,(Γ.inner scope).isLoc x=true→X'.fn x=true∨X'.env.scope.names.lookup x=some .local:=fun X' b x hx=>by
   rw [(xi X' b).nm];unfold CC.isLoc at hx;rw [Bool.or_eq_true,ZB] at hx;rcases hx with hx | hx
   ·exact .inr (Zy hx)
   ·exact absurd hx.1 (by simp [CC.inner])
  exact ⟨fun X' b=>FN (xi X' b) (hfn X' b) htg,fun X' b=>ht X' (xi X' b),fun X' b=>(he X' (xi X' b)).v⟩
 have hfk:∀ p∈scope.names,p.2=.free→X.env.kindOf p.1=some .cell∨X.env.kindOf p.1=some .free:=fun p hp hf=>by unfold PySem.Env.kindOf; rw [xo.nm]; exact sc.out p hp hf
 have hPE:PE X (.ListComp elt [⟨tg,iter,ifs,0⟩] scope pos) (tE K P C (.comp ce is k0 its cond imp (iB scope).length)):=fun pins s σ H Q I h=>by
  obtain ⟨h1,h2,h3⟩:=all I.ok.kind;exact VC (N':=(Γ.inner scope).N) xo.calm hi hs sc.kind sc.cell sc.names hfk h1 h2 h3 pins s σ H Q I (C8 xo sc himp hw h)
 refine ⟨kA xo hPE (fun i z=>nomatch z) (fun ρ=>by simp only [ev,aN]) fun _=>rfl,fun x i p spos hN hx hl hf=>?_⟩;obtain ⟨b,hb⟩:∃ b:Bool,swapsWith (.ListComp elt [⟨tg,iter,ifs,0⟩] scope pos) (some (.Name x p)) spos.line X.env=pure b:=⟨_,rfl⟩
 cases b with
 | false=>exact wB hPE (F9 hN hx hl hf) hb
 | true =>
  intro pins s σ H D I h;obtain ⟨h1,h2,h3⟩:=all I.ok.kind;exact DZ hb hN hx hl hf xo.calm hi hs sc.kind sc.cell sc.names hfk h1 h2 h3 pins s σ H D I (C8 xo sc himp hw h)
end
structure ArgsOk (X:Cx) (K:Frag) (P:aQ) (C:Calls) (e:Expr) (cs:List E):Prop where
 h:∀ (f:Str) (p:Pos) (args:List Expr) (kw:List _) (pos:Pos),e=.Call (.Name f p) args kw pos→args.all a9=true→PA X args (mP K P C cs)∧cs.length=args.length
theorem E1 {Γ:CC}:∀ (es:List Expr),(cG Γ es).length=es.length
 | []=>by rw [cG]; rfl
 | e :: es=>by rw [cG,Zk,Zk,E1 es]
section
variable {X:Cx} {K:Frag} {P:aQ} {C:Calls} {Γ:CC}
theorem rZ {Γ:CC} {tg:Expr} {one:Bool} {is:List Nat} (h:lG Γ tg=some (one,is)) (n:one=false):∃ elts k p,tg=.Tuple elts k p:=by
 cases tg <;> simp only [lG,reduceCtorEq] at h
 ·rename_i x pos
  cases q:Γ.slotL x with
  | none=>rw [q] at h; cases h
  | some i=>rw [q] at h; cases h; cases n
 ·exact ⟨_,_,_,rfl⟩
theorem LB (xo:bP X K P C Γ) {tg iter:Expr} {scope:Scope} {ci ce:E} {cargs cond:List E} (hci:Ok3 X K P C iter ci) (hca:ArgsOk X K P C iter cargs) {Φ:E→Prop} (bad:Φ .bad)
  (good:∀ {k0:ItK} {its:List E} {imp is:List Nat} {wi:TI},ScOk Γ scope→Γ.imps (hU scope)=some imp→lG (Γ.inner scope) tg=some (is.length == 1,is)→PI X tg iter wi→(∀ x,foldedSetIterable iter X.env x=pure x) →
   (∀ σ H (R:It→Hp→Prop),YK K P C k0 its σ H R→wi σ H R)→Φ (.comp ce is k0 its cond imp (iB scope).length)) :
  Φ (sZ Γ scope tg iter ci cargs cond ce):=by
 unfold sZ;split
 ·rename_i hsc;have sc:=R7 hsc;split
  ·rename_i imp one is k0 its0 q1 q2 q3;split
   ·rename_i hone;rw [ZB,ZB] at hone;obtain ⟨⟨hone,hfit⟩,hns⟩:=hone;have hone:=Zy hone;subst hone
    have gen:∀ e:Expr,iter=e→vX e=true→some (ItK.of,[e])=some (k0,its0)→Φ (.comp ce is k0 (aAC k0 ci cargs) cond imp (iB scope).length):=fun e he' hn hq=>by
     subst he';cases hq;exact good sc q1 q2 (PI.or (FQ hci.h) (K8 hci.h)) (zZ hn _) (fun σ H R q=>RM xo.keq σ H R q)
    unfold rK at q3;split at q3
    ·rename_i f p args pos';split at q3
     ·rename_i hf;have hf:=Zy hf;subst hf;split at q3
      ·rename_i hgl;split at q3
       ·rename_i hc;cases q3;rw [ZB] at hc;obtain ⟨h1,h2,h3,h4⟩:=CC.glob_ok xo hgl (fun z=>nomatch z);have hm:=xo.blt _ h2;obtain ⟨hpa,hcl⟩:=hca.h _ _ _ _ _ rfl hc.1
        match its0,cargs,hc,hpa,hcl with
        | [a],[c1],hc,hpa,_ =>
         have ns:=hc.1;rw [Zj,ZB] at ns;exact good sc q1 q2 (AD h1 hm hpa (by rw [bQ ns.1]; rfl)) (fun _=>rfl) (fun σ H R q=>E2 σ H R q)
        | [a,b],[c1,c2],hc,hpa,_ =>
         have ns:=hc.1;rw [Zj,ZB,Zj,ZB] at ns;exact good sc q1 q2 (AI h1 hm hpa (by rw [bQ ns.1,bQ ns.2.1]; rfl) (by rw [bQ ns.2.1]; rfl)) (fun _=>rfl) (fun σ H R q=>FT σ H R q)
        | [],_,hc,_,_=>simp at hc
        | _ :: _ :: _ :: _,_,hc,_,_=>simp at hc
       ·cases q3
      ·cases q3
     ·split at q3
      ·rename_i hf;have hf:=Zy hf;subst hf;split at q3
       ·rename_i hgl;split at q3
        ·rename_i hc;cases q3;rw [ZB] at hc;obtain ⟨h1,h2,h3,h4⟩:=CC.glob_ok xo hgl (fun z=>nomatch z);have hm:=xo.blt _ h2;obtain ⟨hpa,hcl⟩:=hca.h _ _ _ _ _ rfl hc.1
         match its0,cargs,hc,hpa,hcl with
         | [a],[c1],hc,hpa,_ =>
          have ns:=hc.1;rw [Zj,ZB] at ns;obtain ⟨elts,kk,tp,rfl⟩:=rZ q2 (by simpa [lO] using hfit);exact good sc q1 q2 (EY h1 hm hpa (by rw [bQ ns.1]; rfl)) (fun _=>rfl) (fun σ H R q=>yK xo.keq σ H R q)
         | [],_,hc,_,_=>simp at hc
         | _ :: _ :: _,_,hc,_,_=>simp at hc
        ·cases q3
       ·cases q3
      ·exact gen _ rfl rfl q3
    ·split at q3
     ·split at q3
      ·cases q3; exact absurd hns (by decide)
      ·cases q3
     ·cases q3
    ·split at q3
     ·exact gen _ rfl ‹_› q3
     ·cases q3
   ·exact bad
  ·exact bad
 ·exact bad
theorem m9 (xo:bP X K P C Γ) {elt tg iter:Expr} {ifs:List Expr} {scope:Scope} {pos:Pos} {ci ce:E} {cargs cond:List E} (hci:Ok3 X K P C iter ci) (hca:ArgsOk X K P C iter cargs)
  (he:∀ X',bP X' K P C (Γ.inner scope)→Ok3 X' K P C elt ce) (ht:∀ X',bP X' K P C (Γ.inner scope)→uB X' ifs (DT K P C cond)) :
  Ok3 X K P C (.ListComp elt [⟨tg,iter,ifs,0⟩] scope pos) (sZ Γ scope tg iter ci cargs cond ce)∧FY X K P C (.ListComp elt [⟨tg,iter,ifs,0⟩] scope pos) (sZ Γ scope tg iter ci cargs cond ce) :=
 LB xo hci hca (Φ:=fun c=>Ok3 X K P C (.ListComp elt [⟨tg,iter,ifs,0⟩] scope pos) c∧FY X K P C (.ListComp elt [⟨tg,iter,ifs,0⟩] scope pos) c) ⟨aU,l6⟩ fun sc q1 q2 hi hs hw=>VN xo sc q1 q2 hi hs hw he ht
end
theorem KC {Γ:CC} {a:Expr} {c:E} (hs:CJ a=true) (h:cE Γ a=.mkset c):∃ p e pos,a=.Call (.Name ("set":Str) p) [e] [] pos∧Γ.glob ("set":Str)=.blt∧a9 e=true∧c=cE Γ e:=by
 unfold CJ at hs;split at hs
 ·rename_i f p e pos;have hf:=Zy hs;subst hf;replace h:(if [e].all a9 && decide ([e]≠[]) then (match Γ.glob ("set":Str) with | .fn g=>.call g (cG Γ [e]) | .cls ns=>.make ("set":Str) ns (cG Γ [e]) | .blt=>if ("set":Str)=("isinstance":Str) then CK Γ [e] (cG Γ [e]) else uZ ("set":Str) [e] (cG Γ [e]) | _=>E.bad) else E.bad)=.mkset c:=h;split at h
  ·rename_i hc;split at h
   ·cases h
   ·cases h
   ·rename_i hg;rw [Zp (by decide)] at h;unfold uZ M5 at h;rw [Zp (by decide),Zo rfl] at h;simp only [cG] at h;cases h;rw [ZB,Zj,ZB] at hc;exact ⟨p,e,pos,rfl,hg,hc.1.1,rfl⟩
   ·cases h
  ·cases h
 ·cases hs
theorem LR {Γ:CC} {a:Expr} {c:List E} (hs:BV a=true) (h:cE Γ a=.mkrng c):∃ p e r pos,a=.Call (.Name ("range":Str) p) (e :: r) [] pos∧Γ.glob ("range":Str)=.blt∧(e :: r).all a9=true∧c=cG Γ (e :: r):=by
 unfold BV at hs;split at hs
 ·rename_i f p e r pos;have hf:=Zy hs;subst hf;replace h:(if (e :: r).all a9 && decide ((e :: r)≠[]) then (match Γ.glob ("range":Str) with | .fn g=>.call g (cG Γ (e :: r)) | .cls ns=>.make ("range":Str) ns (cG Γ (e :: r)) | .blt=>if ("range":Str)=("isinstance":Str) then CK Γ (e :: r) (cG Γ (e :: r)) else uZ ("range":Str) (e :: r) (cG Γ (e :: r)) | _=>E.bad) else E.bad)=.mkrng c:=h;split at h
  ·rename_i hc;split at h
   ·cases h
   ·cases h
   ·rename_i hg;rw [Zp (by decide)] at h;unfold uZ at h;rw [Zp (by decide),Zp (by decide),Zo rfl] at h;cases h;rw [ZB] at hc;exact ⟨p,e,r,pos,rfl,hg,hc.1,rfl⟩
   ·cases h
  ·cases h
 ·cases hs
def aDF (i:Expr):Prop:=∃ k p1 p2 p3,i=.Slice none none (some (.UnaryOp .USub (.Constant (.int 1) k p1) p2)) p3
theorem K3 {i:Expr} (h:G6 i=true):aDF i:=by
 cases i with
 | Slice lo hi st q =>
  obtain _ | _:=lo
  ·obtain _ | _:=hi
   ·obtain _ | st:=st
    ·exact y4 h
    ·cases st with
     | UnaryOp op a p =>
      cases op with
      | USub =>
       cases a with
       | Constant c k p1 =>
        cases c with
        | int n =>
         have h:=Zy (show (n == 1)=true from h);subst h;exact Exists.intro _ ⟨_,_,_,rfl⟩
        | _=>exact y4 h
       | _=>exact y4 h
      | _=>exact y4 h
     | _=>exact y4 h
   ·exact y4 h
  ·exact y4 h
 | _=>exact y4 h
theorem aCf (Γ:CC) (a i:Expr) (p:Pos):(∃ lo hi q,i=.Slice lo hi none q)∨((∀ lo hi q,i≠.Slice lo hi none q)∧cE Γ (.Subscript a i p)=if G6 i then .bad else .ix (cE Γ a) (cE Γ i)):=by
 cases i with
 | Slice lo hi st q =>
  cases st with
  | none=>exact .inl ⟨_,_,_,rfl⟩
  | some _=>exact .inr ⟨(fun _ _ _ z=>nomatch z),rfl⟩
 | _=>exact .inr ⟨(fun _ _ _ z=>nomatch z),rfl⟩
def z7 (K:Frag) (P:aQ) (C:Calls) (n:Nat):Prop:=∀ (X:Cx) (Γ:CC),bP X K P C Γ→∀ e:Expr,sizeOf e<n→Ok3 X K P C e (cE Γ e)
theorem bO {a b n:Nat} (h:a<b) (k:b<n+1):a<n:=Zl h (Nat.le_of_lt_succ k)
section
variable {X:Cx} {K:Frag} {P:aQ} {C:Calls} {Γ:CC} {n:Nat}
theorem tD {e:Expr} {r:List Expr} (h:sizeOf (e :: r)<n):sizeOf e<n:=Nat.lt_trans (by simp; omega) h
theorem BA {e:Expr} {r:List Expr} (h:sizeOf (e :: r)<n):sizeOf r<n:=Nat.lt_trans (by simp; omega) h
theorem A4 (ih:z7 K P C n) (xo:bP X K P C Γ):∀ es:List Expr,sizeOf es<n→es.all a9=true→PA X es (CL K P C (cG Γ es))
 | [],_,_=>UO
 | e :: r,hs,h=>by
  rw [Zj,ZB] at h;exact PD (ih _ _ xo e (tD hs)) (A4 ih xo r (BA hs) h.2) h.1
theorem jY (ih:z7 K P C n) (xo:bP X K P C Γ):∀ es:List Expr,sizeOf es<n→es.all a9=true→PA X es (mP K P C (cG Γ es))
 | [],_,_=>SA
 | e :: r,hs,h=>by
  rw [Zj,ZB] at h;exact NQ (ih _ _ xo e (tD hs)) (jY ih xo r (BA hs) h.2) h.1
theorem RJ (ih:z7 K P C n) (xo:bP X K P C Γ):∀ vs:List Expr,sizeOf vs<n→vs≠[]→Ok2 X K P C .And vs (MW Γ vs)
 | [],_,h=>absurd rfl h
 | [a],hs,_=>ON (ih _ _ xo a (tD hs))
 | a :: b :: r,hs,_=>F3 (ih _ _ xo a (tD hs)) (RJ ih xo (b :: r) (BA hs) (fun z=>nomatch z))
theorem aAP (ih:z7 K P C n) (xo:bP X K P C Γ):∀ vs:List Expr,sizeOf vs<n→vs≠[]→Ok2 X K P C .Or vs (XJ Γ vs)
 | [],_,h=>absurd rfl h
 | [a],hs,_=>S7 (ih _ _ xo a (tD hs))
 | a :: b :: r,hs,_=>KG (ih _ _ xo a (tD hs)) (aAP ih xo (b :: r) (BA hs) (fun z=>nomatch z))
theorem o_n (ih:z7 K P C n) (xo:bP X K P C Γ):∀ o:Option Expr,sizeOf o<n→PO X o (tO K P C (cO Γ o))
 | none,_=>OY
 | some e,hs=>OO (ih _ _ xo e (Nat.lt_trans (by simp) hs))
theorem DL (ih:z7 K P C n) (xo:bP X K P C Γ) (e:Expr) (hs:sizeOf e<n):ArgsOk X K P C e (A3 Γ e):=by
 cases e <;> first
  | (rename_i f args kw pos; exact ⟨fun f' p' args' kw' pos' z ns=>by cases z; exact ⟨jY ih xo args (Nat.lt_trans (by simp; omega) hs) ns,E1 args⟩⟩)
  | exact ⟨fun f' p' args' kw' pos' z ns=>by cases z⟩
end
theorem JP {X:Cx} {K:Frag} {P:aQ} {C:Calls} {e:Expr} {c:E} (h:Ok3 X K P C e c):Ok3 X K P C e (rL c):=by
 unfold rL;split
 ·exact aU
 ·exact h
theorem S0 {X:Cx} {K:Frag} {P:aQ} {C:Calls} {Γ:CC} {n:Nat} (ih:z7 K P C n) (xo:bP X K P C Γ) (e:Expr) (hsz:sizeOf e<n+1):Ok3 X K P C e (cE Γ e):=by
 cases e with
 | Name x p =>
  exact F4 xo _ _
 | Constant c k p =>
  exact OG xo _ _ _
 | Tuple es k p =>
  show Ok3 X K P C _ (if es.all a9 then .tup (cG Γ es) else .bad);split
  ·exact ZD xo (A4 ih xo _ (bO (by simp; omega) hsz) ‹_›)
  ·exact aU
 | List es p =>
  show Ok3 X K P C _ (if es.all a9 then .lst (cG Γ es) else .bad);split
  ·exact ZV xo (A4 ih xo _ (bO (by simp; omega) hsz) ‹_›)
  ·exact aU
 | Dict ks vs p =>
  refine N8 xo fun k c h1 h2=>?_
  subst h1;cases h2;exact JP (ih _ _ xo k (bO (by simp; omega) hsz))
 | BinOp a op b p =>
  exact YF xo (ih _ _ xo _ (bO (by simp; omega) hsz)) (ih _ _ xo _ (bO (by simp; omega) hsz))
 | UnaryOp op a p =>
  cases op with
  | Not =>
   exact aBd xo (ih _ _ xo _ (bO (by simp; omega) hsz))
  | USub =>
   exact XH xo (ih _ _ xo _ (bO (by simp; omega) hsz))
  | _=>exact aU
 | Compare a ops cs p =>
  obtain _ | ⟨op,_ | ⟨op',_ | ⟨_,_⟩⟩⟩:=ops
  ·exact aU
  ·obtain _ | ⟨b,_ | ⟨_,_⟩⟩:=cs
   ·exact aU
   ·show Ok3 X K P C _ (if behindInMarks op b then .bad else .cmp op (cE Γ a) (cE Γ b));split
    ·exact aU
    ·exact aAV xo (ih _ _ xo _ (bO (by simp; omega) hsz)) (ih _ _ xo _ (bO (by simp; omega) hsz)) (by rename_i h; simpa using h)
   ·exact aU
  ·obtain _ | ⟨b,_ | ⟨c,_ | ⟨_,_⟩⟩⟩:=cs
   ·exact aU
   ·exact aU
   ·show Ok3 X K P C _ (if behindInMarks op' c then .bad else .cmp2 op op' (cE Γ a) (cE Γ b) (cE Γ c));split
    ·exact aU
    ·exact SR xo (ih _ _ xo _ (bO (by simp; omega) hsz)) (ih _ _ xo _ (bO (by simp; omega) hsz)) (ih _ _ xo _ (bO (by simp; omega) hsz)) (by rename_i h; simpa using h)
   ·exact aU
  ·exact aU
 | BoolOp op vs p =>
  obtain _ | ⟨a,_ | ⟨b,r⟩⟩:=vs
  ·cases op <;> exact aU
  ·cases op <;> exact aU
  ·cases op with
   | And =>
    exact (F3 (ih _ _ xo _ (bO (by simp; omega) hsz)) (RJ ih xo _ (bO (by simp; omega) hsz) (by simp))).ok3 fun i z=>nomatch z
   | Or =>
    exact (KG (ih _ _ xo _ (bO (by simp; omega) hsz)) (aAP ih xo _ (bO (by simp; omega) hsz) (by simp))).ok3 fun i z=>nomatch z
 | IfExp c a b p =>
  exact aU
 | Subscript a i p =>
  rcases aCf Γ a i p with ⟨lo,hi,q,rfl⟩ | ⟨hn,e⟩
  ·exact aCl xo (ih _ _ xo _ (bO (by simp; omega) hsz)) (o_n ih xo _ (bO (by simp; omega) hsz)) (o_n ih xo _ (bO (by simp; omega) hsz))
  ·rw [e];split
   ·rename_i hr;obtain ⟨k,p1,p2,p3,rfl⟩:=K3 hr;exact aU
   ·exact aCH xo (ih _ _ xo _ (bO (by simp; omega) hsz)) (ih _ _ xo _ (bO (by simp; omega) hsz)) (GX hn)
 | Call fn args kw pos =>
  cases fn with
  | Name f p =>
   cases kw with
   | nil =>
    show Ok3 X K P C _ (if args.all a9 && decide (args≠[]) then (match Γ.glob f with | .fn g=>.call g (cG Γ args) | .cls ns=>.make f ns (cG Γ args) | .blt=>if f=("isinstance":Str) then CK Γ args (cG Γ args) else uZ f args (cG Γ args) | _=>.bad) else .bad);split
    ·rename_i hc;rw [ZB] at hc;obtain ⟨ns,ne⟩:=hc
     cases args with
     | nil=>simp at ne
     | cons a r =>
      split
      ·rename_i g hg;exact RT xo hg ns (jY ih xo _ (bO (by simp; omega) hsz) ns)
      ·rename_i g hg;exact VS xo hg ns (A4 ih xo _ (bO (by simp; omega) hsz) ns)
      ·rename_i hg;split
       ·rename_i hf;subst hf;unfold CK;split
        ·rename_i t a' _ e1 e2;split
         ·rename_i ty hty;simp only [cG,List.cons.injEq] at e1 e2;obtain ⟨rfl,rfl⟩:=e1;obtain ⟨rfl,_⟩:=e2;rw [Zj,ZB] at ns;exact X5 xo hg hty ns.1 (ih _ _ xo _ (bO (by simp; omega) hsz))
         ·simp only [cG,List.cons.injEq] at e1 e2;obtain ⟨rfl,rfl⟩:=e1;obtain ⟨rfl,_⟩:=e2;rw [Zj,ZB] at ns
          (unfold Y8; repeat' split) <;> exact aU
        ·exact aU
       ·unfold uZ;split
        ·rename_i hf2;subst hf2;unfold WY;split
         ·rename_i a' c e1 hcs;cases e1;simp only [cG,List.cons.injEq,and_true] at hcs;split
          ·rename_i his;obtain ⟨p2,e2,pos2,rfl,hg2,ns2,rfl⟩:=KC his hcs;exact WD xo hg hg2 ns2 (ih _ _ xo e2 (bO (by simp; omega) hsz))
          ·exact rE xo hg (b:=.len) rfl ns (jY ih xo _ (bO (by simp; omega) hsz) ns)
         ·exact rE xo hg (b:=.len) rfl ns (jY ih xo _ (bO (by simp; omega) hsz) ns)
        ·split
         ·unfold M5;split
          ·exact P1
          ·exact aU
         ·split
          ·exact OB
          ·split
           ·rename_i hf2;subst hf2;unfold RL;split
            ·rename_i a' c e1 hcs;cases e1;simp only [cG,List.cons.injEq,and_true] at hcs;split
             ·rename_i his;obtain ⟨p2,e2,e3,pos2,rfl,hg2,ns2,rfl⟩:=LR his hcs;exact TK xo hg hg2 ns2 (jY ih xo _ (bO (by simp; omega) hsz) ns2)
             ·exact rE xo hg (b:=.list) rfl ns (jY ih xo _ (bO (by simp; omega) hsz) ns)
            ·exact rE xo hg (b:=.list) rfl ns (jY ih xo _ (bO (by simp; omega) hsz) ns)
           ·split
            ·rename_i b hb;exact rE xo hg hb ns (jY ih xo _ (bO (by simp; omega) hsz) ns)
            ·exact aU
      ·exact aU
    ·exact aU
   | cons _ _=>exact aU
  | Attribute o m apos =>
   cases o with
   | Name x p =>
    cases kw with
    | nil =>
     show Ok3 X K P C _ (OR Γ x m apos pos args (cG Γ args));unfold OR;split
     ·rename_i tb hm;split
      ·rename_i hc;rw [ZB,ZB] at hc;obtain ⟨⟨ns,hl⟩,hf⟩:=hc;split
       ·exact SU xo ‹_› hm ns hl (of_decide_eq_true hf) (jY ih xo _ (bO (by simp; omega) hsz) ns) fun z=>by rw [z,cG]
       ·exact aU
      ·exact aU
     ·split
      ·rename_i a c hcs;split
       ·rename_i hc;rw [ZB,ZB] at hc;obtain ⟨⟨ns,hl⟩,hm⟩:=hc;have hm:=Zy hm;subst hm;split
        ·simp only [cG,List.cons.injEq] at hcs;obtain ⟨rfl,_⟩:=hcs;exact aBe xo ‹_› hl ns (ih _ _ xo _ (bO (by simp; omega) hsz))
        ·exact aU
       ·split
        ·rename_i hc;rw [ZB,ZB] at hc;obtain ⟨⟨ns,hl⟩,hm⟩:=hc;have hm:=Zy hm;subst hm;exact aU
        ·exact aU
      ·split
       ·rename_i hc;rw [ZB] at hc;obtain ⟨hl,hm⟩:=hc;have hm:=Zy hm;subst hm;exact aU
       ·exact aU
      ·rename_i a b c c' hcs;split
       ·rename_i hc;rw [ZB,ZB,ZB] at hc;obtain ⟨⟨⟨ns,ns2⟩,hl⟩,hm⟩:=hc;have hm:=Zy hm;subst hm;split
        ·simp only [cG,List.cons.injEq] at hcs;obtain ⟨rfl,rfl,_⟩:=hcs;exact aU
        ·exact aU
       ·exact aU
      ·exact aU
    | cons _ _=>exact aU
   | Call g as kw2 p2 =>
    cases as with
    | nil=>exact aU
    | cons a0 as0 =>
     cases kw with
     | nil =>
      show Ok3 X K P C _ (GZ Γ m apos pos args (cE Γ (.Call g (a0 :: as0) kw2 p2)) (cG Γ args));unfold GZ;split
      ·rename_i tb hm;split
       ·rename_i hc;rw [ZB,ZB] at hc;exact aU
       ·exact aU
      ·exact aU
     | cons _ _=>exact aU
   | _=>exact aU
  | _=>exact aU
 | Attribute o f p =>
  cases o with
  | Name x q =>
   exact Z7 xo
  | _=>exact aU
 | ListComp elt gs scope pos =>
  obtain _ | ⟨⟨tg,iter,ifs,m⟩,_ | ⟨_,_⟩⟩:=gs
  ·exact aU
  ·obtain _ | ⟨c,_ | ⟨_,_⟩⟩:=ifs <;> obtain (_ | _) | _:=m
   ·exact (m9 xo (ih _ _ xo _ (bO (by simp; omega) hsz)) (DL ih xo _ (bO (by simp; omega) hsz)) (fun X' xo'=>ih _ _ xo' _ (bO (by simp; omega) hsz)) (fun X' xo'=>BN)).1
   ·exact aU
   ·exact aU
   ·exact (m9 xo (ih _ _ xo _ (bO (by simp; omega) hsz)) (DL ih xo _ (bO (by simp; omega) hsz)) (fun X' xo'=>ih _ _ xo' _ (bO (by simp; omega) hsz)) (fun X' xo'=>DA (ih _ _ xo' _ (bO (by simp; omega) hsz)))).1
   all_goals exact aU
  ·obtain _ | ⟨c,_ | ⟨_,_⟩⟩:=ifs <;> obtain (_ | _) | _:=m <;> exact aU
 | _=>exact aU
theorem tU {K:Frag} {P:aQ} {C:Calls}:∀ n:Nat,z7 K P C n
 | 0=>fun _ _ _ _ h=>absurd h (Nat.not_lt_zero _)
 | n+1=>fun _ _ xo e h=>S0 (tU n) xo e h
section
variable {X:Cx} {K:Frag} {P:aQ} {C:Calls} {Γ:CC}
theorem gR (xo:bP X K P C Γ) (e:Expr):Ok3 X K P C e (cE Γ e):=tU _ _ _ xo e (Nat.lt_succ_self _)
theorem BE (xo:bP X K P C Γ) (e:Expr):ArgsOk X K P C e (A3 Γ e):=DL (tU _) xo e (Nat.lt_succ_self _)
theorem tW (xo:bP X K P C Γ) (es:List Expr) (h:es.all a9=true):PA X es (mP K P C (cG Γ es)):=jY (tU _) xo es (Nat.lt_succ_self _) h
end
theorem aAI {X:Cx} {K:Frag} {P:aQ} {C:Calls} {Γ:CC} (xo:bP X K P C Γ) (e:Expr) (h:IA e=true):FY X K P C e (cE Γ e):=by
 cases e <;> simp only [IA,Bool.false_eq_true] at h;rename_i elt gs scope pos;obtain _ | ⟨⟨tg,iter,ifs,n⟩,_ | ⟨_,_⟩⟩:=gs
 ·exact l6
 ·obtain _ | ⟨c,_ | ⟨_,_⟩⟩:=ifs <;> obtain (_ | _) | _:=n
  ·exact (m9 xo (gR xo iter) (BE xo iter) (fun X' xo'=>gR xo' elt) (fun X' xo'=>BN)).2
  ·exact l6
  ·exact l6
  ·exact (m9 xo (gR xo iter) (BE xo iter) (fun X' xo'=>gR xo' elt) (fun X' xo'=>DA (gR xo' c))).2
  all_goals exact l6
 ·obtain _ | ⟨c,_ | ⟨_,_⟩⟩:=ifs <;> obtain (_ | _) | _:=n <;> exact l6
section
variable {X:Cx} {K:Frag} {P:aQ} {C:Calls} {W:Nat} {Γ:CC}
def YO (X:Cx) (K:Frag) (ρ:Env) (σ:St) (H G:Hp) (ρ':Env) (x:Exc):Prop:=∀ pins σ' H' G' s' a Ca,AftS K ρ σ H G ρ' σ' H' G'→Inv X pins σ' H' s'→aEj X pins H' s'.heap a Ca→nsIn K mainGlobals x.cls=some (some (.ref Ca))→ExcG K Ca→X.xe (.ref a) s'
theorem YO.pre {ρ ρ1 ρ':Env} {σ σ1:St} {H G H1 G1:Hp} {x:Exc} (a:AftS K ρ σ H G ρ1 σ1 H1 G1) (h:YO X K ρ σ H G ρ' x):YO X K ρ1 σ1 H1 G1 ρ' x:=fun pins σ' H' G' s' b Ca q=>h pins σ' H' G' s' b Ca (a.trans q)
theorem Q1 {e:Expr} {t u:TE} (h1:PE X e t) (h2:PE X e u):PE X e (fun σ H Q=>t σ H Q∨u σ H Q):=fun pins s σ H Q I q=>q.elim (h1 pins s σ H Q I) (h2 pins s σ H Q I)
end
section
variable {X:Cx} {pins:List (Addr × Obj)} {σ:L2.St} {H:Hp} {s:Shared}
end
section
variable {K:Frag} {ρ0 ρ:Env} {σ:St} {H0 G0 H G:Hp}
end
section
variable {X:Cx} {K:Frag} {P:aQ} {C:Calls} {Γ:CC}
end
section
variable {X:Cx} {K:Frag} {P:aQ} {C:Calls} {W:Nat} {Γ:CC}
def eJ (Γ:CC) (e:Expr):Prop:=(∃ f p a r pos g,e=.Call (.Name f p) (a :: r) [] pos∧Γ.glob f=.fn g∧(a :: r).all a9=true∧cE Γ e=.call g (cG Γ (a :: r)))∨∃ elt tg iter ifs sc pos,e=.ListComp elt [⟨tg,iter,ifs,0⟩] sc pos∧(ifs=[]∨∃ c1,ifs=[c1])
end
section
variable {X:Cx} {K:Frag} {P:aQ} {C:Calls} {W:Nat} {Γ:CC} {pins pins':List (Addr × Obj)} {σ:St} {H G:Hp} {s:Shared}
abbrev Cx.re (X:Cx) (E:Value→Shared→Prop) (pn:List (Addr × Obj)):Cx:={ X with xe:=E,pn:=pn }
abbrev Cx.ma (X:Cx) (v:Value):Cx:={ X with A:=X.A.mark (some v),calm:=false,xe:=fun _ _=>False }
theorem bP.re {E:Value→Shared→Prop} {pn:List (Addr × Obj)} (xo:bP X K P C Γ):bP (Cx.re X E pn) K P C Γ :=
 bP.of xo.keq xo.neq xo.nm xo.nd xo.calm xo.hh xo.hu xo.con xo.blt (fun x f h=>⟨(xo.fn x f h).ex⟩) (fun x ns h=>⟨(xo.cls x ns h).ex⟩) (fun m tb c f h1 h2=>⟨(xo.mth m tb c f h1 h2).ex⟩) xo.rm xo.sub xo.subx xo.exc xo.exs (fun x f h=>⟨(xo.fnX x f h).ex⟩) xo.tp
theorem bP.ma {E:Value→Shared→Prop} {pn:List (Addr × Obj)} {v:Value} (xo:bP X K P C Γ):XOkB false (Cx.ma (Cx.re X E pn) v) K P C Γ:=⟨xo.keq,xo.neq,xo.nm,xo.nd,xo.con,xo.blt,xo.sub,xo.subx,fun z=>nomatch z⟩
end
section
variable {X:Cx} {K:Frag} {P:aQ} {C:Calls} {W:Nat} {Γ:CC}
theorem PX (xo:bP X K P C Γ) {x:Str} {i:Nat} (h:Γ.slotL x=some i):X.N[i]?=some x∧L2.y8 X.env.scope x∧Γ.isLoc x=true:=by
 unfold CC.slotL at h;split at h
 ·rename_i hl
  have hN:X.N[i]?=some x:=by
   unfold CC.slot at h;split at h
   ·cases h
   ·split at h
    ·rw [xo.neq]; exact nC h
    ·cases h
  refine ⟨hN, ?_,hl⟩;unfold L2.y8;rw [xo.nm];unfold CC.isLoc at hl;rw [Bool.or_eq_true,ZB] at hl;rcases hl with hl | hl
  ·exact .inl (Zy hl)
  ·exact .inr (Zy hl.2)
 ·cases h
theorem SK (xo:bP X K P C Γ) (hfn:∀ x,Γ.isLoc x=true→X.fn x=true∨X.env.scope.names.lookup x=some .local) {x:Str} {i:Nat} {e:Expr} {c:E} {p pos:Pos} (hi:Γ.slotL x=some i) (h:FY X K P C e c):PS X (.Assign [.Name x p] e pos) (tS K P C W (.asg i c)):=by
 obtain ⟨h1,h2,h3⟩:=PX xo hi;refine TS.imp_ps (h x i p pos (by rw [xo.neq]; exact xo.nd) h1 h2 (hfn x h3)) fun D σ H ⟨ρ,G,fl,ρ',r,e,k⟩=>?_
 simp only [ex] at e;obtain ⟨v,ρ1,e1,e2⟩:=gG e k.ne;unfold jH at e2
 cases q:store i v ρ1 with
 | none=>rw [q] at e2; cases e2
 | some ρ2 =>
  rw [q] at e2;cases e2;exact ⟨ρ,G,v,ρ1,r,e1,fun x H' G' a hv=>k _ H' G' (Aft.store r a q hv)⟩
theorem V1 (po:PassesOwn (model X.prog X.w) X.A X.env X.xe) (xo:bP X K P C Γ) (hfn:∀ x,Γ.isLoc x=true→X.fn x=true∨X.env.scope.names.lookup x=some .local) {tg it:Expr} {body:List Stmt} {pos:Pos} {one:Bool} {is:List Nat} {k0:ItK} {its:List Expr} {cb:List S}
  (ht:lG Γ tg=some (one,is)) (hi:rK Γ it=some (k0,its)) (hfit:lO k0 one=true) (hb:hW X body (sH K P C W cb)):PS X (.For tg it body [] pos) (tS K P C W (.for is one k0 (cG Γ its) cb)):=by
 have hg:=FN xo hfn ht
 have gen:∀ e:Expr,it=e→vX e=true→some (ItK.of,[e])=some (k0,its)→PS X (.For tg it body [] pos) (tS K P C W (.for is one k0 (cG Γ its) cb)):=fun e he hn hq=>by
  subst he;cases hq;exact sP po xo hg hb (zZ hn _) (PI.or (FQ (gR xo it).h) (K8 (gR xo it).h)) fun σ H R q=>RM xo.keq σ H R q
 unfold rK at hi;split at hi
 ·rename_i f p args pos';split at hi
  ·rename_i hf;have hf:=Zy hf;subst hf;split at hi
   ·rename_i hgl;split at hi
    ·rename_i hc;cases hi;rw [ZB] at hc;obtain ⟨h1,h2,h3,h4⟩:=CC.glob_ok xo hgl (fun z=>nomatch z);have hm:=xo.blt _ h2
     match its,hc with
     | [a],hc =>
      have ns:=hc.1;rw [Zj,ZB] at ns;exact sP po xo hg hb (fun _=>rfl) (AD h1 hm (tW xo [a] hc.1) (by rw [bQ ns.1]; rfl)) fun σ H R q=>E2 σ H R q
     | [a,b],hc =>
      have ns:=hc.1;rw [Zj,ZB,Zj,ZB] at ns;exact sP po xo hg hb (fun _=>rfl) (AI h1 hm (tW xo [a,b] hc.1) (by rw [bQ ns.1,bQ ns.2.1]; rfl) (by rw [bQ ns.2.1]; rfl)) fun σ H R q=>FT σ H R q
     | [],hc=>simp at hc
     | _ :: _ :: _ :: _,hc=>simp at hc
    ·cases hi
   ·cases hi
  ·split at hi
   ·rename_i hf;have hf:=Zy hf;subst hf;split at hi
    ·rename_i hgl;split at hi
     ·rename_i hc;cases hi;rw [ZB] at hc;obtain ⟨h1,h2,h3,h4⟩:=CC.glob_ok xo hgl (fun z=>nomatch z);have hm:=xo.blt _ h2
      match its,hc with
      | [a],hc =>
       have ns:=hc.1;rw [Zj,ZB] at ns;obtain ⟨elts,kk,tp,rfl⟩:=rZ ht (by simpa [lO] using hfit);exact sP po xo hg hb (fun _=>rfl) (EY h1 hm (tW xo [a] hc.1) (by rw [bQ ns.1]; rfl)) fun σ H R q=>yK xo.keq σ H R q
      | [],hc=>simp at hc
      | _ :: _ :: _,hc=>simp at hc
     ·cases hi
    ·cases hi
   ·exact gen _ rfl rfl hi
 ·split at hi
  ·rename_i hc;rw [ZB,ZB,ZB] at hc;obtain ⟨⟨⟨hf,hx⟩,ns⟩,h1⟩:=hc;have hf:=Zy hf;have hx:=Zy hx;have h1:=Zy h1;subst hf hx h1;split at hi
   ·rename_i hgl;cases hi;obtain ⟨h1,h2,h3,h4⟩:=CC.glob_ok xo hgl (fun z=>nomatch z);have hm:=xo.blt _ h2;obtain ⟨elts,kk,tp,rfl⟩:=rZ ht (by simpa [lO] using hfit);exact sP po xo hg hb (fun _=>rfl) (MJ h1 hm (tW xo [_] (by rw [Zj,ns]; rfl)) (by rw [bQ ns]; rfl)) fun σ H R q=>yK xo.keq σ H R q
   ·cases hi
  ·cases hi
 ·split at hi
  ·exact gen _ rfl ‹_› hi
  ·cases hi
theorem S6 (po:PassesOwn (model X.prog X.w) X.A X.env X.xe) (xo:bP X K P C Γ) (hfn:∀ x,Γ.isLoc x=true→X.fn x=true∨X.env.scope.names.lookup x=some .local) {tg it:Expr} {body:List Stmt} {pos:Pos} {one:Bool} {is:List Nat} {k0:ItK} {its:List Expr} {cb:List S}
  (ht:lG Γ tg=some (one,is)) (hi:rK Γ it=some (k0,its)) (hfit:lO k0 one=true) (hb:hW X body (sH K P C W cb)):PS X (.For tg it body [] pos) (tS K P C W (.for is one k0 (QR Γ it body (cG Γ its)) cb)):=by
 exact V1 po xo hfn ht hi hfit hb
mutual
theorem aBE {X:Cx} (po:PassesOwn (model X.prog X.w) X.A X.env X.xe) (xo:bP X K P C Γ) (hfn:∀ x,Γ.isLoc x=true→X.fn x=true∨X.env.scope.names.lookup x=some .local) (sk:Γ.top=true→X.stack=X.env :: X.outer∧X.env.frame=some X.env.locals) (st:Stmt):PS X st (tS K P C W (cS Γ st)):=by
 cases st with
 | Pass _=>exact NR
 | Break _=>exact TU
 | Continue _=>exact UI
 | Return e _ =>
  cases e with
  | some e=>exact WE (gR xo e)
  | none=>exact OE
 | Expr e _ =>
  show PS X _ (tS K P C W (if cY e then .expr (cE Γ e) else .bad));split
  ·exact ML (gR xo _) ‹_›
  ·exact bS
 | If c a b _=>exact YE (gR xo _) (sD po xo hfn sk a) (sD po xo hfn sk b)
 | While c b o _ =>
  cases o with
  | nil=>exact bS
  | cons _ _=>exact bS
 | For tg it b o _ =>
  cases o with
  | nil =>
   show PS X _ (tS K P C W (match lG Γ tg,rK Γ it with
    | some (one,is),some (k,its)=>if lO k one then .for is one k (QR Γ it b (cG Γ its)) (rJ Γ b) else .bad
    | _,_=>.bad))
   cases h1:lG Γ tg with
   | none=>exact bS
   | some t =>
    cases h2:rK Γ it with
    | none=>exact bS
    | some u =>
     show PS X _ (tS K P C W (if lO u.1 t.1 then .for t.2 t.1 u.1 (QR Γ it b (cG Γ u.2)) (rJ Γ b) else .bad));split
     ·exact S6 po xo hfn h1 h2 ‹_› (sD po xo hfn sk b)
     ·exact bS
  | cons _ _=>exact bS
 | Assign ts e _ =>
  obtain _ | ⟨t,_ | ⟨_,_⟩⟩:=ts
  ·exact bS
  ·cases t with
   | Name x p =>
    show PS X _ (tS K P C W (match Γ.slotL x with | some i=>if cY e || IA e then .asg i (cE Γ e) else .bad | none=>.bad));split
    ·split
     ·rename_i hc;rw [Bool.or_eq_true] at hc;rcases hc with hc | hc
      ·exact UT xo hfn ‹_› (gR xo _) hc
      ·exact SK xo hfn ‹_› (aAI xo _ hc)
     ·exact bS
    ·exact bS
   | Tuple ts _ _ =>
    show PS X _ (tS K P C W (match iF Γ ts with | some is=>if cY e && xQ e then .asgT is (cE Γ e) else .bad | none=>.bad));split
    ·split
     ·rename_i h;rw [ZB] at h;exact PQ xo hfn ‹_› (gR xo _) h.1 h.2
     ·exact bS
    ·exact bS
   | Subscript a k _ =>
    cases a with
    | Name x p =>
     show PS X _ (tS K P C W (match Γ.slot x with | some i=>if cY e && B5 k then .set i (cE Γ k) (cE Γ e) else .bad | none=>.bad));split
     ·split
      ·rename_i h;rw [ZB] at h;refine SH xo ‹_› (gR xo _) (gR xo _) h.1 fun v=>?_
       have h2:=h.2
       cases k <;> first | rfl | cases h2
      ·exact bS
     ·exact bS
    | _=>exact bS
   | _=>exact bS
  ·cases t with
   | Subscript a _ _=>cases a <;> exact bS
   | _=>exact bS
 | AugAssign t op e _ =>
  cases t with
  | Name x p =>
   cases op with
   | Add =>
    show PS X _ (tS K P C W (match Γ.slotL x with | some i=>if cY e then .bad else .bad | none=>.bad));split
    ·split
     ·exact bS
     ·exact bS
    ·exact bS
   | _=>exact bS
  | _=>exact bS
 | Raise e c _ =>
  cases e with
  | none=>exact bS
  | some e =>
   cases c with
   | none =>
    show PS X _ (tS K P C W (MK Γ e));unfold MK;split
    ·split
     ·split
      ·exact F5 fun ρ=>by rw [ex]
      ·exact bS
     ·exact bS
    ·exact bS
   | some _=>exact bS
 | Try body hs o f _=>exact bS
 | _=>exact bS
theorem sD {X:Cx} (po:PassesOwn (model X.prog X.w) X.A X.env X.xe) (xo:bP X K P C Γ) (hfn:∀ x,Γ.isLoc x=true→X.fn x=true∨X.env.scope.names.lookup x=some .local) (sk:Γ.top=true→X.stack=X.env :: X.outer∧X.env.frame=some X.env.locals) (sts:List Stmt):hW X sts (sH K P C W (rJ Γ sts)):=by
 cases sts with
 | nil=>exact OT
 | cons s r=>exact LS (aBE po xo hfn sk s) (sD po xo hfn sk r)
end
end
noncomputable def lR (ps:List Str):Nat→List Stmt→Option (List Str)
 | j,[]=>if j=ps.length then some [] else none
 | j,.Assign [.Attribute (.Name s _) f _] (.Name q _) _ :: r=>if ps[0]?=some s∧ps[j]?=some q∧jP s=false∧jP q=false then (lR ps (j+1) r).map (f :: ·) else none
 | _,_=>none
theorem DD {f:Str} {y:V}:∀ {fs:List (Str × V)},f ∉ fs.map (·.1)→gH f y fs=fs ++ [(f,y)]
 | [],_=>rfl
 | (g,x) :: r,h=>by
  rw [Zs,List.mem_cons,not_or] at h;rw [gH,Zp (fun z=>h.1 z.symm),DD h.2];rfl
theorem aAG {H:Hp} {a:Addr} {o:HO} (h:H a=some o):aV H a o=H:=by
 funext b
 unfold aV;split
 ·rename_i z; rw [z,h]
 ·rfl
theorem zX {X:Cx} {K:Frag} {ps:List Str} {xs:List V} {a:Addr} {Ca dx:Addr} (hK:X.K=K) (hN:∀ (i:Nat) x,ps[i]?=some x→X.N[i]?=some x∧L4 X.env.scope x) (hl:xs.length+1=ps.length) (cl:Cls K Ca):∀ (r:List Stmt) (j:Nat) (ns:List Str),lR ps j r=some ns→1≤j →
  ∃ t,hW X r t∧∀ (D:Ends) (σ:L2.St) (H:Hp) (fs:List (Str × V)),(∀ (i:Nat) v,(V.ref a :: xs)[i]?=some v→σ[i]?=some (some v))→H a=some (.ins Ca dx fs)→(∀ f∈ns,kX K Ca f)→(fs.map (·.1) ++ ns).Nodup→fs.length+ns.length<1000 →
   D.nx σ (aV H a (.ins Ca dx (fs ++ ns.zip (xs.drop (j - 1)))))→t D σ H
 | [],j,ns,h,hj=>by
  unfold lR at h;split at h
  ·rename_i hje;cases h;refine ⟨GA,E6,fun D σ H fs _ ha _ _ _ q=>?_⟩;simp only [List.zip_nil_left,List.append_nil] at q;rw [aAG ha] at q;exact q
  ·cases h
 | st :: r,j,ns,h,hj=>by
  unfold lR at h;split at h
  ·rename_i heq; cases heq
  ·rename_i j _ _ s p1 f p2 q p3 p4 r' heq;cases heq;split at h
   ·rename_i hc;obtain ⟨c1,c2,c3,c4⟩:=hc
    cases q1:lR ps (j+1) r with
    | none=>rw [q1] at h; cases h
    | some ns' =>
     rw [q1] at h;cases h;obtain ⟨t,ht,k⟩:=zX hK hN hl cl r (j+1) ns' q1 (by omega);simp only [jP,Bool.or_eq_false_iff] at c3 c4;have v0:=DU (X:=X) (pos:=p1) (hN 0 s c1).1 (hN 0 s c1).2 c3.1.1 c3.1.2;have v1:=DU (X:=X) (pos:=p3) (hN j q c2).1 (hN j q c2).2 c4.1.1 c4.1.2;refine ⟨_,BY (aAW v0 v1 rfl) ht,fun D σ H fs hσ ha hn IW hlt qq=>?_⟩;have hj2:j<ps.length:=(Zc.mp c2).1;obtain ⟨j',rfl⟩:∃ j',j=j'+1:=⟨j - 1,by omega⟩
     have hxl:j'<xs.length:=by omega
     have hx:(V.ref a :: xs)[j'+1]?=some xs[j']:=by simp [hxl]
     have hnf:f ∉ fs.map (·.1):=fun z=>by
      have:=(List.nodup_append.mp IW).2.2 f z f (by simp)
      exact this rfl
     refine ⟨_,hσ _ _ hx,.ref a,hσ 0 _ rfl,a,Ca,dx,fs,rfl,ha,by rw [hK]; exact cl,by rw [hK]; exact hn f (by simp),by simp at hlt; omega, ?_⟩;rw [DD hnf];refine k D σ _ _ hσ bE (fun g hg=>hn g (Ze _ hg)) ?_ ?_ ?_
     ·simpa using IW
     ·simp at hlt ⊢; omega
     ·rw [E3]
      have e:fs ++ (f :: ns').zip (xs.drop (j'+1 - 1))=fs ++ [(f,xs[j'])] ++ ns'.zip (xs.drop (j'+1+1 - 1)):=by
       rw [show j'+1 - 1=j' from rfl,show j'+1+1 - 1=j'+1 from rfl,List.drop_eq_getElem_cons hxl,List.zip_cons_cons,List.append_assoc];rfl
      rw [← e];exact qq
   ·cases h
  ·cases h
theorem VU {Pr:Program} {w:World} {K:Frag} {mg:Str→Option Value} {base:Heap} {y qual:Str} {st:Stmt} {fa:Addr} {fd:FuncData} {N ps ns:List Str} (F:Fun K y qual st fa fd) (S:FnScope N ps (a6 st)) (hb:lR ps 1 (cA st)=some ns) (hp:ps.length=ns.length+1) (IW:ns.Nodup) (hlt:ns.length<1000) :
  FnOk Pr w K mg base sS 1 fa fd ps (LX K ns):=by
 refine F.ok S (fun vs H Q E h=>?_) fun cdv A outer s H vs Q E hr h=>?_
 ·obtain ⟨a,Ca,dx,xs,rfl,h1,_⟩:=h;rw [Zk,h1,hp]
 ·obtain ⟨a,Ca,dx,xs,rfl,h1,h2,h3,q⟩:=h
  have hNN:∀ (i:Nat) x,ps[i]?=some x→N[i]?=some x∧L4 (a6 st) x:=fun i x hx=>by
   have hm:x∈ps:=zj hx;refine ⟨?_, ?_⟩
   ·have:=S.pre
    rw [← this,List.getElem?_take] at hx;split at hx
    ·exact hx
    ·cases hx
   ·rcases S.par x hm with z | z
    ·exact .inl z
    ·exact .inr (.inl z)
  obtain ⟨t,ht,k⟩:=zX (X:=(sT sS Pr w K mg base N qual (a6 st) fa cdv A outer s H E).nox) (K:=K) (ps:=ps) (xs:=xs) (a:=a) (Ca:=Ca) (dx:=dx) rfl hNN (by omega) h3.cl (cA st) 1 ns hb (Zq _)
  ·refine ⟨t,ht,k _ _ H [] (fun i v hv=>?_) h2 h3.no (by simpa using IW) (by simpa using hlt) ?_⟩
   ·have hl:i<(V.ref a :: xs).length:=(Zc.mp hv).1;rw [sU hl,Zh,hv];rfl
   ·simpa using q
structure EntB (K:Frag) (T:iZ) (gl:Str→GV) (f:String) (fa:Addr) (fd:FuncData) (ps:List Str):Prop where
 bd:hE K fd ps []
 ex:∃ (y qual:Str) (st:Stmt) (N:List Str) (fn:Fn),Fun K y qual st fa fd∧FnScope N ps (a6 st)∧N.Nodup∧T f=some fn∧fn.body=rJ ⟨N,(a6 st).names,gl,true⟩ (cA st)∧N.length=fn.pins.length+fn.nl∧ps.length=fn.pins.length
structure Entry (K:Frag) (mg:Str→Option Value) (T:iZ) (gl:Str→GV) (x:Str) (f:String) (fa:Addr) (fd:FuncData) (ps:List Str):Prop where
 mgx:mg x=some (.ref fa)
 kp:PySem.W.keepIn K (.ref fa)=true
 b:EntB K T gl f fa fd ps
structure ClsE (K:Frag) (mg:Str→Option Value) (x:Str) (ns:List Str):Prop where
 ex:∃ (Ca fa:Addr) (fd:FuncData) (ps:List Str) (y qual:Str) (st:Stmt) (N:List Str),nsIn K mainGlobals x=some (some (.ref Ca))∧mg x=some (.ref Ca)∧Mk K Ca fa∧ClsF K Ca ns ∧
  Fun K y qual st fa fd∧FnScope N ps (a6 st)∧lR ps 1 (cA st)=some ns∧ps.length=ns.length+1∧ns.Nodup∧ns.length<1000∧hE K fd ps []
structure MthE (K:Frag) (T:iZ) (gl:Str→GV) (c m:Str) (f:String):Prop where
 ex:∃ (Ca fa:Addr) (fd:FuncData) (ps:List Str),nsIn K mainGlobals c=some (some (.ref Ca))∧Meth K Ca m fa∧EntB K T gl f fa fd ps∧Cls K Ca
structure Globs (K:Frag) (mg:Str→Option Value) (T:iZ) (gl:Str→GV):Prop where
 con:∀ x d,gl x=.con d→∃ u v,mg x=some u∧bC v u∧∀ G,aE K G d v
 blt:∀ x,gl x=.blt→mg x=none
 fn:∀ x f,gl x=.fn f→∃ fa fd ps,Entry K mg T gl x f fa fd ps
 cls:∀ x ns,gl x=.cls ns→ClsE K mg x ns
 mth:∀ m tb c f,gl (sC m)=.mth tb→tb.lookup c=some f→MthE K T gl c m f
 sub:∀ x s n,gl (nF x)=.sub s n→SubAt K mg x s n
 subx:∀ x s n,gl (nF x)=.subx s n→SubX K mg x s n
 exc:∀ x,gl x=.exc→ExcAt K mg x
 exs:∀ x cs,gl (IY x)=.exs cs→ExsAt K mg x cs
theorem A2 {b:Bool} {o:Option (Exc × Env)} {as as':List Sl} {v:RV} (h:(if b=true then (match o with | some (x,ρ)=>(some (Out.ex x,back as ρ):aS RV) | none=>none) else none)=some (.ok v,as')):False:=by
 split at h
 ·split at h <;> cases h
 ·cases h
theorem CS {Pr:Program} {w:World} {K:Frag} {mg:Str→Option Value} {base:Heap} {T:iZ} {gl:Str→GV} (W:Nat) (g:Globs K mg T gl):∀ (d:Nat) (f:String) (fa:Addr) (fd:FuncData) (ps:List Str),
  EntB K T gl f fa fd ps→FnOk Pr w K mg base sS (d+2) fa fd ps (J3 K (T.pins f).length (run T W d f))∧True
 | 0,f,fa,fd,ps,e=>⟨⟨fun vs H Q E h=>by obtain ⟨_,as,G,v,as',_,_,z,_⟩:=h; simp [run] at z,fun A outer s H args us vs Q E _ _ _ _ h=>by obtain ⟨_,as,G,v,as',_,_,z,_⟩:=h; simp [run] at z⟩,trivial⟩
 | d+1,f,fa,fd,ps,e=>by
  obtain ⟨y,qual,st,N,fn,F,S,nd,hT,hb,hN,hps⟩:=e.ex;have hpin:T.pins f=fn.pins:=by unfold iZ.pins; rw [hT]
  refine ⟨F.ok S (fun vs H Q E h=>by rw [h.1,hpin,hps]) fun cdv A outer s H vs Q E hr h=>?_, ?_⟩
  ·obtain ⟨hl,as,G,v,as',rel,hal,er,k⟩:=h
   let X:Cx:=(sT sS Pr w K mg base N qual (a6 st) fa cdv A outer s H E).nox
   let Γ:CC:=⟨N,(a6 st).names,gl,true⟩
   have xo:bP X K T.pins (run T W d) Γ:=by
    refine bP.of rfl rfl rfl nd rfl hr.hd hr.units g.con g.blt (fun x' f' hx=>?_) (fun x' ns hx=>?_) (fun m tb c f' h1 h2=>?_) (hr.mono (by omega)) g.sub g.subx g.exc g.exs (fun x' f' hx=>?_) ⟨_,_,_,rfl,rfl,rfl⟩
    ·obtain ⟨fa',fd',ps',e'⟩:=g.fn x' f' hx;exact ⟨fa',fd',ps',d+2,(CS W g d f' fa' fd' ps' e'.b).1,hr,e'.mgx,e'.kp,e'.b.bd⟩
    ·obtain ⟨Ca,fa',fd',ps',y',qual',st',N',h1,h2,h3,h4,h5,h6,h7,h8,h9,h10,h11⟩:=(g.cls x' ns hx).ex;exact ⟨Ca,fa',fd',ps',h1,h2,h3,h4,VU h5 h6 h7 h8 h9 h10,h11⟩
    ·obtain ⟨Ca,fa',fd',ps',h3,h4,e',hcl⟩:=(g.mth m tb c f' h1 h2).ex;exact ⟨Ca,fa',fd',ps',d+2,h3,h4,(CS W g d f' fa' fd' ps' e').1,hr,e'.bd,hcl⟩
    ·exact ⟨trivial⟩
   refine ⟨_,sD (W:=W) (X:=X) (Γ:=Γ) PassesOwn.never xo (fun _ _=>.inl rfl) (fun _=>⟨rfl,rfl⟩) (cA st), ?_⟩;simp only [run,hT] at er;split at er
   ·rename_i hc;rw [hb] at er;have hNa:N.length=as.length+fn.nl:=by rw [hN,hc.1]
    have hpad:=rel.pad hNa
    cases q:exs T.pins (run T W d) W (rJ ⟨N,(a6 st).names,gl,true⟩ (cA st)) (as ++ List.replicate fn.nl .un) with
    | none=>rw [q] at er; exact (A2 er).elim
    | some y =>
     obtain ⟨fl,ρ'⟩:=y;rw [q] at er;refine ⟨as ++ List.replicate fn.nl .un,G,fl,ρ',hpad.1,q, ?_⟩
     cases fl with
     | nx =>
      cases er;intro σ' H' G' a;obtain ⟨b1,b2⟩:=vQ rel hc.2 hNa a;exact k .non H' G' b1 (by show aE K G' .non _; simp [aE])
     | rt v' =>
      cases er;intro x' σ' H' G' a hv;obtain ⟨b1,b2⟩:=vQ rel hc.2 hNa a;refine k x' H' G' b1 ?_
      cases v with
      | sh d0=>exact hv
      | ow d0 =>
       obtain ⟨c,rfl,gc,oc,nc,mc⟩:=hv;refine ⟨c,rfl,gc,oc,fun z=>nc (b2 c z), ?_⟩;rcases mc with mc | mc
       ·have:=hpad.2 c mc
        obtain ⟨i,d1,p1,l1,h1,h2⟩:=this;refine absurd ?_ nc
        apply b2 c
        have hp:=List.all_eq_true.mp hc.2 _ (zj h1);simp only [l3] at hp;subst hp
        have:=b1.evo i
        rw [h1] at this
        cases q3:(back as ρ')[i]? with
        | none=>rw [q3] at this; exact this.elim
        | some s =>
         rw [q3] at this
         cases s with
         | ow d2 p2 l2=>exact ⟨i,d2,p2,l2,q3,h2⟩
         | sh d2=>exact absurd (show true=false from this) (by simp)
         | un=>exact this.elim
         | mv=>exact this.elim
       ·exact mc
     | bk=>exact (A2 er).elim
     | ct=>exact (A2 er).elim
     | ex x'=>exact (A2 er).elim
   ·cases er
  ·trivial
noncomputable def cP (st:Stmt):List Str:=(eE st).args.map (·.arg)
noncomputable def wL (st:Stmt):List Str:=cP st ++ (((a6 st).names.filter fun y=>(y.2 == .local || y.2 == .cell) && !(cP st).contains y.1).map (·.1))
noncomputable def JG (gl:Str→GV) (st:Stmt):List S:=rJ ⟨wL st,(a6 st).names,gl,true⟩ (cA st)
structure MthAt (K:Frag) (x m qual:Str) (st:Stmt):Prop where
 ex:∃ (Ca f:Addr) (oc:Value) (od an:Option Addr) (kV doc pm cdv ct:Value) (osl:Array (Option Value)),nsIn K mainGlobals x=some (some (.ref Ca))∧findIn K (.ref Ca) m=some (some (.ref f))∧PySem.W.isFn K (.ref f)=true ∧
  K.lookup f=some ⟨oc,od,.func (PySem.W.fnOf m qual (eE st) (cA st) (a6 st) .none kV doc pm an cdv ct),osl⟩∧PySem.W.codeIn K cdv qual=true∧PySem.W.keepIn K (.ref f)=true
theorem d5 {K:Frag} {x m qual:Str} {st:Stmt} {Ca f:Addr} {oc:Value} {od an:Option Addr} {kV doc pm cdv ct:Value} {osl:Array (Option Value)} (a:nsIn K mainGlobals x=some (some (.ref Ca))) (b:findIn K (.ref Ca) m=some (some (.ref f))) (i:PySem.W.isFn K (.ref f)=true)
  (l:K.lookup f=some ⟨oc,od,.func (PySem.W.fnOf m qual (eE st) (cA st) (a6 st) .none kV doc pm an cdv ct),osl⟩) (c:PySem.W.codeIn K cdv qual=true) (k:PySem.W.keepIn K (.ref f)=true):MthAt K x m qual st :=
 ⟨Ca,f,oc,od,an,kV,doc,pm,cdv,ct,osl,a,b,i,l,c,k⟩
structure ClsAt (K:Frag) (x:Str):Prop where
 ex:∃ Ca:Addr,nsIn K mainGlobals x=some (some (.ref Ca))∧Cls K Ca∧PySem.W.makesIn K Ca=true∧PySem.W.keepIn K (.ref Ca)=true
theorem mB {K:Frag} {x:Str} {Ca:Addr} (a:nsIn K mainGlobals x=some (some (.ref Ca))) (pg:PySem.W.plainGet K Ca Str.empty=true) (hd:PySem.W.hasDictIn K Ca=true) (po:PySem.W.plainOver K Ca=true)
  (sa:findIn K (.ref Ca) "__setattr__"=some (some (.builtin "object.__setattr__"))) (mk:PySem.W.makesIn K Ca=true) (kp:PySem.W.keepIn K (.ref Ca)=true):ClsAt K x:=⟨Ca,a,⟨pg,hd,po,sa⟩,mk,kp⟩
def jB (K:Frag) (x f:Str):Prop:=∃ Ca:Addr,nsIn K mainGlobals x=some (some (.ref Ca))∧findIn K (.ref Ca) f=some none
theorem iI {K:Frag} {x f:Str} {Ca:Addr} (a:nsIn K mainGlobals x=some (some (.ref Ca))) (b:findIn K (.ref Ca) f=some none):jB K x f:=⟨Ca,a,b⟩
structure DefAt (K:Frag) (x:Str) (st:Stmt):Prop where
 ex:∃ (f:Addr) (oc:Value) (od an:Option Addr) (kV doc pm cdv ct:Value) (osl:Array (Option Value)),nsIn K mainGlobals x=some (some (.ref f)) ∧
  K.lookup f=some ⟨oc,od,.func (PySem.W.fnOf x x (eE st) (cA st) (a6 st) .none kV doc pm an cdv ct),osl⟩∧PySem.W.codeIn K cdv x=true∧PySem.W.keepIn K (.ref f)=true
theorem bJ {K:Frag} {x:Str} {st:Stmt} {f:Addr} {oc:Value} {od an:Option Addr} {kV doc pm cdv ct:Value} {osl:Array (Option Value)} (a:nsIn K mainGlobals x=some (some (.ref f)))
  (l:K.lookup f=some ⟨oc,od,.func (PySem.W.fnOf x x (eE st) (cA st) (a6 st) .none kV doc pm an cdv ct),osl⟩) (c:PySem.W.codeIn K cdv x=true) (k:PySem.W.keepIn K (.ref f)=true):DefAt K x st :=
 ⟨f,oc,od,an,kV,doc,pm,cdv,ct,osl,a,l,c,k⟩
structure DefOkQ (gl:Str→GV) (st:Stmt) (x qual:Str) (fn:Fn):Prop where
 sc:FnScope (wL st) (cP st) (a6 st)
 body:fn.body=JG gl st
 len:(wL st).length=fn.pins.length+fn.nl
 pl:(cP st).length=fn.pins.length
 bind:∀ (kV doc pm:Value) (an:Option Addr) (cdv ct:Value) (us:List Value),us.length=(cP st).length→bindArgs (PySem.W.fnOf x qual (eE st) (cA st) (a6 st) .none kV doc pm an cdv ct) ⟨us,[]⟩=pure ((cP st).zip us)
abbrev bN (gl:Str→GV) (st:Stmt) (x:Str) (fn:Fn):Prop:=DefOkQ gl st x x fn
theorem yB {K:Frag} {T:iZ} {gl:Str→GV} {x qual:Str} {f:String} {st:Stmt} {fn:Fn} {fa:Addr} {fd:FuncData} (F:Fun K x qual st fa fd) (O:DefOkQ gl st x qual fn) (hT:T f=some fn):EntB K T gl f fa fd (cP st) :=
 ⟨F.binds O.bind,x,qual,st,wL st,fn,F,O.sc,O.sc.nd,hT,O.body,O.len,O.pl⟩
theorem j8 {K:Frag} {T:iZ} {gl:Str→GV} {x m qual:Str} {f:String} {st:Stmt} {fn:Fn} (A:ClsAt K x) (D:MthAt K x m qual st) (O:DefOkQ gl st m qual fn) (hT:T f=some fn):MthE K T gl x m f:=by
 obtain ⟨Ca,fa,oc,od,an,kV,doc,pm,cdv,ct,osl,a,b,i,l,c,k⟩:=D.ex;obtain ⟨Cb,a',cl,_,_⟩:=A.ex;rw [a] at a'; cases a';exact ⟨Ca,fa,_,cP st,a,⟨b,i,k⟩,yB (vZ (st:=st) l c k) O hT,cl⟩
structure IniOk (st:Stmt) (qual:Str) (ns:List Str):Prop where
 sc:FnScope (wL st) (cP st) (a6 st)
 body:lR (cP st) 1 (cA st)=some ns
 pl:(cP st).length=ns.length+1
 nd:ns.Nodup
 lt:ns.length<1000
 bind:∀ (kV doc pm:Value) (an:Option Addr) (cdv ct:Value) (us:List Value),us.length=(cP st).length→bindArgs (PySem.W.fnOf "__init__" qual (eE st) (cA st) (a6 st) .none kV doc pm an cdv ct) ⟨us,[]⟩=pure ((cP st).zip us)
theorem mT {K:Frag} {mg:Str→Option Value} {h:Heap} {x qual:Str} {st:Stmt} {ns:List Str} (X:K.In h) (G:h.Ns mainGlobals mg) (A:ClsAt K x) (D:MthAt K x "__init__" qual st) (O:IniOk st qual ns) (N:∀ f∈ns,jB K x f):ClsE K mg x ns:=by
 obtain ⟨Ca,a,cl,mk,kp⟩:=A.ex;obtain ⟨Cb,fa,oc,od,an,kV,doc,pm,cdv,ct,osl,a',b,i,l,c,k⟩:=D.ex;rw [a] at a'; cases a';have F:=vZ (st:=st) l c k;refine ⟨Ca,fa,_,cP st,"__init__",qual,st,wL st,a,PySem.W.mg_of X G a,⟨mk,b,i,kp⟩,⟨cl,fun f hf=>?_⟩,F,O.sc,O.body,O.pl,O.nd,O.lt,F.binds O.bind⟩;obtain ⟨Cc,a2,b2⟩:=N f hf;rw [a] at a2; cases a2;exact b2
theorem aX {K:Frag} {mg:Str→Option Value} {h:Heap} {T:iZ} {gl:Str→GV} {x:Str} {f:String} {st:Stmt} {fn:Fn} (X:K.In h) (G:h.Ns mainGlobals mg) (D:DefAt K x st) (O:bN gl st x fn) (hT:T f=some fn):∃ fa fd ps,Entry K mg T gl x f fa fd ps:=by
 obtain ⟨fa,oc,od,an,kV,doc,pm,cdv,ct,osl,a,l,c,k⟩:=D.ex;have F:=vZ (st:=st) l c k;exact ⟨fa,_,cP st,PySem.W.mg_of X G a,k,yB F O hT⟩
noncomputable def aZ (L:List (Str × GV)) (x:Str):GV:=(L.lookup x).getD .no
theorem d9 {α β:Type} [BEq α] [LawfulBEq α]:∀ {L:List (α × β)} {x:α} {v:β},L.lookup x=some v→(x,v)∈L
 | [],_,_,h=>by simp at h
 | (y,w) :: L,x,v,h=>by
  rw [List.lookup_cons] at h;split at h
  ·rename_i hb;cases h;rw [Zy hb];exact zh
  ·exact Ze _ (d9 h)
theorem fT {L:List (Str × GV)} {x:Str} {v:GV} (h:aZ L x=v) (n:v≠.no):(x,v)∈L:=by
 unfold aZ at h
 cases q:L.lookup x with
 | none=>rw [q] at h; exact absurd h.symm n
 | some w =>
  rw [q] at h;cases h;exact d9 q
def dF (K:Frag) (mg:Str→Option Value) (T:iZ) (gl:Str→GV):Str × GV→Prop
 | (x,.cls ns)=>ClsE K mg x ns
 | (x,.mth tb)=>∃ m,x=sC m∧∀ p∈tb,MthE K T gl p.1 m p.2
 | (x,.con d)=>∃ u v,mg x=some u∧bC v u∧∀ G,aE K G d v
 | (x,.blt)=>mg x=none
 | (x,.fn f)=>∃ fa fd ps,Entry K mg T gl x f fa fd ps
 | (x,.sub s n)=>∃ m,x=nF m∧SubAt K mg m s n
 | (x,.subx s n)=>∃ m,x=nF m∧SubX K mg m s n
 | (x,.exc)=>ExcAt K mg x
 | (x,.exs cs)=>∃ m,x=IY m∧ExsAt K mg m cs
 | (_,.no)=>True
theorem F1 {p:Array Nat} {x y:Str} (h:(⟨p ++ x.cps⟩:Str)=⟨p ++ y.cps⟩):x=y:=by
 have e6:=congrArg Array.toList (congrArg Str.cps h);simp only [Array.toList_append] at e6;have e5:=Array.toList_inj.mp (List.append_cancel_left e6);cases x; cases y;simp only at e5;rw [e5]
theorem NJ {K:Frag} {mg:Str→Option Value} {T:iZ} {L:List (Str × GV)} (h:∀ p∈L,dF K mg T (aZ L) p):Globs K mg T (aZ L) :=
 ⟨fun x d e=>h _ (fT e (fun z=>nomatch z)),fun x e=>h _ (fT e (fun z=>nomatch z)),fun x f e=>h _ (fT e (fun z=>nomatch z)),fun x ns e=>h _ (fT e (fun z=>nomatch z)),fun m tb c f e e2=>by
  obtain ⟨m',e3,k⟩:=h _ (fT e (fun z=>nomatch z))
  have:m'=m:=by
   unfold sC at e3;have e4:(#[46] ++ m.cps:Array Nat)=#[46] ++ m'.cps:=congrArg Str.cps e3
   have e5:m.cps=m'.cps:=by
    have e6:=congrArg Array.toList e4;rw [Array.toList_append,Array.toList_append] at e6;exact Array.toList_inj.mp (List.append_cancel_left e6)
   cases m; cases m';simp only at e5;rw [e5]
  subst this;exact k _ (d9 e2),fun x s n e=>by
  obtain ⟨m',e3,k⟩:=h _ (fT e (fun z=>nomatch z))
  have:m'=x:=by
   unfold nF at e3
   have e5:x.cps=m'.cps:=by
    have e6:=congrArg Array.toList (congrArg Str.cps e3);simp only [Array.toList_append] at e6;exact Array.toList_inj.mp (List.append_cancel_left e6)
   cases x; cases m';simp only at e5;rw [e5]
  subst this;exact k,fun x s n e=>by
  obtain ⟨m',e3,k⟩:=h _ (fT e (fun z=>nomatch z));rw [F1 e3];exact k,fun x e=>h _ (fT e (fun z=>nomatch z)),fun x cs e=>by
  obtain ⟨m',e3,k⟩:=h _ (fT e (fun z=>nomatch z));rw [F1 e3]
  exact k⟩
theorem jT {K:Frag} {mg:Str→Option Value} {h:Heap} {T:iZ} {gl:Str→GV} {x:Str} {i:Int} {t:Tok} (X:K.In h) (G:h.Ns mainGlobals mg) (a:nsIn K mainGlobals x=some (some (.int i t))):dF K mg T gl (x,.con (.int i)) :=
 ⟨_,.int i,PySem.W.mg_of X G a,⟨t,rfl⟩,fun G=>by simp [aE]⟩
theorem gF {K:Frag} {mg:Str→Option Value} {h:Heap} {T:iZ} {gl:Str→GV} {x:Str} (X:K.In h) (G:h.Ns mainGlobals mg) (a:nsIn K mainGlobals x=some none):dF K mg T gl (x,.blt):=PySem.W.mg_none_of X G a
structure KinN (K:Frag) (c x:Str):Prop where
 ex:∃ Ca C:Addr,nsIn K mainGlobals c=some (some (.ref Ca))∧nsIn K mainGlobals x=some (some (.ref C))∧PySem.W.kin_not K Ca C=true
structure KinI (K:Frag) (c x:Str):Prop where
 ex:∃ Ca C:Addr,nsIn K mainGlobals c=some (some (.ref Ca))∧nsIn K mainGlobals x=some (some (.ref C))∧PySem.W.isIn K (.ref Ca) C=true
structure KinC (K:Frag) (c:Str):Prop where
 ex:∃ D:Addr,nsIn K mainGlobals c=some (some (.ref D))∧PySem.W.plainGet K D "__class__"=true∧PySem.W.hasDictIn K D=true∧findIn K (.ref D) "__class__"=some (some (.builtin "object.__class__")) ∧
  PySem.W.specialIn K (.builtin "object.__class__") "__get__"=some (some (.builtin "getset_descriptor.__get__"))∧PySem.W.takesIn K (.builtin "object.__class__")=some true∧PySem.W.mroIn K D (.type "object")=some true
structure KinX (K:Frag) (x:Str):Prop where
 ex:∃ C:Addr,nsIn K mainGlobals x=some (some (.ref C))
structure ExcK (K:Frag) (x:Str):Prop where
 ex:∃ C:Addr,nsIn K mainGlobals x=some (some (.ref C))∧ExcG K C
structure MroK (K:Frag) (c x:Str):Prop where
 ex:∃ C D:Addr,nsIn K mainGlobals c=some (some (.ref C))∧nsIn K mainGlobals x=some (some (.ref D))∧PySem.W.mroIn K C (.ref D)=some true
theorem M3 {l:PySem.W.OpenLaw} {q:Program} {loose:List Str} {XP:(Str→Option Value)→Heap→Prop} {YP:World→Heap→Prop} {d:DefRec} {K:Params→Frag} {T:iZ} {L:List (Str × GV)} {st:Stmt} {fn:Fn} {W n:Nat} {x p:Str} {f:String}
  (hn:l.most=some 63) (hdf:d.params.defaults=[]) (hr:Room (n+2) callerA) (hx:d.name=x) (hT:T f=some fn) (O:bN (aZ L) st x fn) (hp:cP st=[p])
  (hY:∀ (w:World) (h:Heap),YP w h→(K w.params).In h)
  (F:∀ (w:World) (mg:Str→Option Value) (h:Heap),(K w.params).In h→h.Ns mainGlobals mg→DefAt (K w.params) x st∧∀ p∈L,dF (K w.params) mg T (aZ L) p)
  (M:∀ ns:List Int,ns.length≤63→∃ as',run T W n f [.sh (.lst (ns.map .int))]=some (.ok (.sh (.bl true)),as')) :
  PySem.W.WalkO q loose XP YP l.row.toRowW d [] (fun f vs=>PySem.call f vs):=by
 refine L2.SY (n:=63) (k:=n+2) (x:=p) (CX:=fun _=>sS) (sp:=fun w=>J3 (K w.params) 1 (run T W n f)) hn (by decide) hdf hr hY (fun w mg fa h KX G hmg=>?_) (fun w H a ns hl hO hS=>?_) fun _ _ _ _ _ z=>z
 ·obtain ⟨D,hG⟩:=F w mg h KX G;have g:=NJ hG;obtain ⟨fa',oc,od,an,kV,doc,pm,cdv,ct,osl,a,lk,c,k⟩:=D.ex;have hm:=PySem.W.mg_of KX G a;rw [hx,hm] at hmg;cases hmg;have Fu:=vZ (st:=st) lk c k;have E:Entry (K w.params) mg T (aZ L) x f fa _ (cP st):=⟨hm,k,yB Fu O hT⟩
  have hpins:(T.pins f).length=1:=by
   unfold iZ.pins;rw [hT];show fn.pins.length=1;rw [← O.pl,hp];rfl
  refine ⟨PySem.W.fnOf x x (eE st) (cA st) (a6 st) .none kV doc pm an cdv ct,fun s u=>?_,fun base kb nb=>?_⟩
  rotate_left
  ·have:=(CS (Pr:=l.prog) (w:=w) (base:=base) W g n f fa _ (cP st) E.b).1
   rw [hpins] at this;rw [hp] at this;exact this
  ·have:=O.bind kV doc pm an cdv ct [u] (by rw [hp]; rfl)
   rw [hp] at this;exact .of_eq this
 ·obtain ⟨as',e⟩:=M ns hl
  have hr1:aB (K w.params) H (ns.map .int) (ns.map V.int):=by
   induction ns with
   | nil=>exact aB.nil
   | cons i r ih=>exact aB.cons (by simp [aE]) (by
     clear e hS hl ih
     induction r with
     | nil=>exact aB.nil
     | cons i r ih=>exact aB.cons (by simp [aE]) ih)
  refine ⟨rfl,[.sh (.lst (ns.map .int))],H,.sh (.bl true),as',Rel.cons_sh (Rel.nil (aM.refl _)) ?_,rfl,e,fun x H' G' _ hv=>rG (K:=K w.params) (G:=G') hv⟩;simp only [aE];exact ⟨a,_,rfl,hS,hr1⟩
end CI
namespace CI
open PySem (Operator CmpOp)
noncomputable section
variable {α β:Type} {P:aQ} {C:Calls} {W:Nat} {t:Bool} {ρ ρ1 ρ2:Env}
theorem aB9 {a:α} {f:α→Env→aS β}:aS.bind (some (.ok a,ρ)) f=f a ρ:=rfl
theorem aCn {a:α} {f:α→Env→bR}:aS.flow (some (.ok a,ρ)) f=f a ρ:=rfl
theorem lX {f:Env→bR}:bR.next (some (.nx,ρ)) f=f ρ:=rfl
theorem Q4 {f:Env→bR} {v:RV}:bR.next (some (.rt v,ρ)) f=some (.rt v,ρ):=rfl
theorem UL:jH (some ρ)=some (.nx,ρ):=rfl
theorem MF {v:RV}:done (some v) ρ=some (.ok v,ρ):=rfl
theorem aDE {d:D}:(RV.sh d).d=d:=rfl
theorem aDR {d:D}:(RV.ow d).d=d:=rfl
theorem aDl {d:D}:(Sl.sh d).get=some d:=rfl
theorem aDT {d:D} {p l:Bool}:(Sl.ow d p l).get=some d:=rfl
theorem aAe {v:RV}:(Hd.val v).get ρ=some v.d:=rfl
theorem S4 {i:Nat}:(Hd.slot i).get ρ=(ρ[i]?).bind Sl.get:=rfl
noncomputable def kTr (ρ:Env) (o:Option Bool):aS RV:=o.map fun b=>(.ok (.sh (.bl b)),ρ)
theorem N2 {b:Bool}:kTr ρ (some b)=some (.ok (.sh (.bl b)),ρ):=rfl
theorem aD6 {r:aS RV}:bK false r=r:=rfl
theorem aEm {v:RV}:bK true (some (.ok v,ρ))=kTr ρ (hV v.d):=rfl
noncomputable def kFz (i:Nat) (ρ:Env):Option Sl→aS RV
 | some (.sh d)=>some (.ok (.sh d),ρ)
 | some (.ow d false false)=>some (.ok (.sh d),ρ.set i (.sh d))
 | _=>none
theorem ZC {i:Nat} {d:D}:kFz i ρ (some (.sh d))=some (.ok (.sh d),ρ):=rfl
noncomputable def kPk (ρ:Env) (o:Option D):aS RV:=bK true (o.map fun d=>(.ok (.sh d),ρ))
theorem QB {d:D}:kPk ρ (some d)=kTr ρ (hV d):=rfl
theorem TN {i:Nat}:ev P C false (.var i) ρ=kFz i ρ ρ[i]?:=rfl
theorem UZ {i:Nat}:ev P C true (.var i) ρ=kPk ρ ((ρ[i]?).bind Sl.get):=rfl
theorem YH {d:D}:ev P C t (.con d) ρ=bK t (some (.ok (.sh d),ρ)):=rfl
noncomputable def FF (b:Bool) (v:RV) (ρ:Env):aS RV:=if b then some (.ok v,ρ) else none
theorem aCX {v:RV}:FF true v ρ=some (.ok v,ρ):=rfl
theorem fU {n:Nat} (h:n≤1000000):aK n=true:=@decide_eq_true _ (cl _) h
theorem aD7:aK 0=true:=fU (by decide)
theorem aDD:aK 1=true:=fU (by decide)
theorem aDG:aK 2=true:=fU (by decide)
theorem aEc:aK 3=true:=fU (by decide)
theorem aDA:aK 4=true:=fU (by decide)
theorem aDo:aK 5=true:=fU (by decide)
noncomputable def aAr (ds:List D) (ρ:Env):aS RV:=FF (aK ds.length) (.sh (.tup ds)) ρ
noncomputable def X0 (ds:List D) (ρ:Env):aS RV:=FF (aK ds.length) (.ow (.lst ds)) ρ
theorem aB0 {ds:List D}:aAr ds ρ=FF (aK ds.length) (.sh (.tup ds)) ρ:=rfl
theorem aBs {ds:List D}:X0 ds ρ=FF (aK ds.length) (.ow (.lst ds)) ρ:=rfl
theorem aAM {es:List E}:ev P C t (.tup es) ρ=bK t ((mJ P C es ρ).bind aAr):=rfl
theorem aAd {es:List E}:ev P C t (.lst es) ρ=bK t ((mJ P C es ρ).bind X0):=rfl
theorem T7:mJ P C [] ρ=some (.ok [],ρ):=rfl
noncomputable def DP (v:RV) (ds:List D) (ρ:Env):aS (List D):=some (.ok (v.d :: ds),ρ)
noncomputable def JL (P:aQ) (C:Calls) (es:List E) (v:RV) (ρ:Env):aS (List D):=(mJ P C es ρ).bind (DP v)
theorem VW {v:RV} {ds:List D}:DP v ds ρ=some (.ok (v.d :: ds),ρ):=rfl
theorem U5 {es:List E} {v:RV}:JL P C es v ρ=(mJ P C es ρ).bind (DP v):=rfl
theorem M8 {e:E} {es:List E}:mJ P C (e :: es) ρ=(ev P C false e ρ).bind (JL P C es):=rfl
theorem N5:cI P C [] ρ=some (.ok [],ρ):=rfl
noncomputable def xZ (v:Hd) (ds:List Hd) (ρ:Env):aS (List Hd):=some (.ok (v :: ds),ρ)
noncomputable def FP (P:aQ) (C:Calls) (es:List E) (v:Hd) (ρ:Env):aS (List Hd):=(cI P C es ρ).bind (xZ v)
theorem NV {v:Hd} {ds:List Hd}:xZ v ds ρ=some (.ok (v :: ds),ρ):=rfl
theorem NL {es:List E} {v:Hd}:FP P C es v ρ=(cI P C es ρ).bind (xZ v):=rfl
noncomputable def dP (P:aQ) (C:Calls) (e:E) (ρ:Env):aS Hd:=hd e (ev P C false e ρ) ρ
noncomputable def jM (v:RV) (ρ:Env):aS Hd:=some (.ok (.val v),ρ)
theorem aCo {v:RV}:jM v ρ=some (.ok (.val v),ρ):=rfl
noncomputable def Q7 (i:Nat) (ρ:Env) (b:Bool):aS Hd:=if b then some (.ok (.slot i),ρ) else none
theorem VM {i:Nat}:Q7 i ρ true=some (.ok (.slot i),ρ):=rfl
theorem U7 {i:Nat}:dP P C (.var i) ρ=Q7 i ρ ((ρ[i]?).bind Sl.get).isSome:=rfl
theorem T8 {d:D}:dP P C (.con d) ρ=some (.ok (.val (.sh d)),ρ):=rfl
theorem SN {es:List E}:dP P C (.tup es) ρ=(ev P C false (.tup es) ρ).bind jM:=rfl
theorem WA {es:List E}:dP P C (.lst es) ρ=(ev P C false (.lst es) ρ).bind jM:=rfl
theorem WK {op:Operator} {a b:E}:dP P C (.bin op a b) ρ=(ev P C false (.bin op a b) ρ).bind jM:=rfl
theorem SQ {op:CmpOp} {a b:E}:dP P C (.cmp op a b) ρ=(ev P C false (.cmp op a b) ρ).bind jM:=rfl
theorem O9 {op op':CmpOp} {a b c:E}:dP P C (.cmp2 op op' a b c) ρ=(ev P C false (.cmp2 op op' a b c) ρ).bind jM:=rfl
theorem V8 {a b:E}:dP P C (.and a b) ρ=(ev P C false (.and a b) ρ).bind jM:=rfl
theorem aA4 {a b:E}:dP P C (.ix a b) ρ=(ev P C false (.ix a b) ρ).bind jM:=rfl
theorem aAo {a b c:E}:dP P C (.sl a b c) ρ=(ev P C false (.sl a b c) ρ).bind jM:=rfl
theorem QK {f:String} {es:List E}:dP P C (.call f es) ρ=(ev P C false (.call f es) ρ).bind jM:=rfl
theorem TY {f:BI} {es:List E}:dP P C (.bif f es) ρ=(ev P C false (.bif f es) ρ).bind jM:=rfl
theorem OM {elt:E} {tg:List Nat} {k:ItK} {its cond:List E} {imp:List Nat} {nl:Nat}:dP P C (.comp elt tg k its cond imp nl) ρ=(ev P C false (.comp elt tg k its cond imp nl) ρ).bind jM:=rfl
theorem MA {e:E} {es:List E}:cI P C (e :: es) ρ=(dP P C e ρ).bind (FP P C es):=rfl
noncomputable def sW (op:Operator) (x:Hd) (a b:Option D):Option RV:=a.bind fun d=>b.bind fun e=>if tQ op x d then dA op d e else none
noncomputable def HJ (op:Operator) (x y:Hd) (ρ:Env):aS RV:=done (sW op x (x.get ρ) (y.get ρ)) ρ
noncomputable def QM (P:aQ) (C:Calls) (op:Operator) (b:E) (x:Hd) (ρ:Env):aS RV:=(dP P C b ρ).bind (HJ op x)
theorem aAF {op:Operator} {x y:Hd}:HJ op x y ρ=done (sW op x (x.get ρ) (y.get ρ)) ρ:=rfl
theorem aAu {op:Operator} {b:E} {x:Hd}:QM P C op b x ρ=(dP P C b ρ).bind (HJ op x):=rfl
theorem aAZ {op:Operator} {a b:E}:ev P C t (.bin op a b) ρ=bK t ((dP P C a ρ).bind (QM P C op b)):=rfl
theorem XD {op:Operator} {x:Hd} {i:Int} {e:D}:sW op x (some (.int i)) (some e)=dA op (.int i) e:=by
 unfold sW tQ; cases op <;> rfl
theorem Z3 {op:Operator} {x:Hd} {ds:List D} {e:D}:sW op x (some (.tup ds)) (some e)=dA op (.tup ds) e:=by
 unfold sW tQ; cases op <;> rfl
theorem aBc {x:Hd} {ds:List D} {e:D}:sW .Add x (some (.lst ds)) (some e)=dA .Add (.lst ds) e:=rfl
theorem YG {d:D} {ds:List D} {e:D}:sW .Mult (.val (.ow d)) (some (.lst ds)) (some e)=dA .Mult (.lst ds) e:=rfl
theorem aB2 {i j:Int}:dA .Add (.int i) (.int j)=some (.sh (.int (i+j))):=rfl
theorem aBz {i j:Int}:dA .Sub (.int i) (.int j)=some (.sh (.int (i - j))):=rfl
theorem RD {i j:Int} (h:(-(2 ^ 64)<i∧i<2 ^ 64)∨(-(2 ^ 64)<j∧j<2 ^ 64)):dA .Mult (.int i) (.int j)=some (.sh (.int (i*j))):=Zo h
theorem Y5 {i j:Int} (h1:-18446744073709551616<j) (h2:j<18446744073709551616):dA .Mult (.int i) (.int j)=some (.sh (.int (i*j))):=RD (.inr ⟨h1,h2⟩)
theorem ZN {i j:Int} (h1:-18446744073709551616<i) (h2:i<18446744073709551616):dA .Mult (.int i) (.int j)=some (.sh (.int (i*j))):=RD (.inl ⟨h1,h2⟩)
theorem aCe {i j:Int} (h:0<j∧j<100000000000000000000000000000000000000000000000000000000000000000000000000000000):dA .FloorDiv (.int i) (.int j)=some (.sh (.int (i / j))):=Zo h
theorem aBJ {i j:Int} (h:0<j):dA .Mod (.int i) (.int j)=some (.sh (.int (i % j))):=Zo h
theorem aAy {j:Int} (h:0≤j) (h2:j≤1000):dA .LShift (.int 1) (.int j)=some (.sh (.int (2 ^ j.toNat))):=by
 show @ite _ _ (cl _) _ _=_;rw [Zo ⟨h,h2,by decide⟩,Int.one_mul]
theorem aBC {i j:Int} (h:0≤j):dA .RShift (.int i) (.int j)=some (.sh (.int (i / 2 ^ j.toNat))):=Zo h
theorem aCb {i j:Int}:dA .BitAnd (.int i) (.int j)=some (.sh (.int (PySem.Builtin.bitAnd i j))):=rfl
theorem vT {xs ys:List D} (h:aK (xs.length+ys.length)=true):dA .Add (.lst xs) (.lst ys)=some (.ow (.lst (xs ++ ys))):=Zo h
theorem A8 {xs:List D} {k:Int} (h1:-(2 ^ 31)≤k) (h2:k≤1000) (h3:aK (xs.length*k.toNat)=true):dA .Mult (.lst xs) (.int k)=some (.ow (.lst (List.replicate k.toNat xs).flatten)):=Zo ⟨h1,h2,h3⟩
theorem XY {x:D} {xs ys:List D} (h:aK (xs.length+1+ys.length)=true):dA .Add (.tup (x :: xs)) (.tup ys)=some (.sh (.tup (x :: xs ++ ys))):=Zo h
noncomputable def aAz (v:RV) (ρ:Env):aS RV:=match v.d with
 | .int i=>some (.ok (.sh (.int (-i))),ρ)
 | _=>none
theorem aCI {i:Int}:aAz (.sh (.int i)) ρ=some (.ok (.sh (.int (-i))),ρ):=rfl
theorem YZ {a:E}:ev P C t (.neg a) ρ=bK t ((ev P C false a ρ).bind aAz):=rfl
noncomputable def RH (v:RV) (ρ:Env):aS RV:=match v with
 | .sh (.bl b)=>some (.ok (.sh (.bl (!b))),ρ)
 | _=>none
theorem ZF {b:Bool}:RH (.sh (.bl b)) ρ=some (.ok (.sh (.bl (!b))),ρ):=rfl
theorem SJ {a:E}:ev P C true (.not a) ρ=(ev P C true a ρ).bind RH:=rfl
noncomputable def NT (o:Option D):Option RV:=o.bind fun d=>(hV d).map fun b=>.sh (.bl (!b))
noncomputable def QL (x:Hd) (ρ:Env):aS RV:=done (NT (x.get ρ)) ρ
theorem XI {x:Hd}:QL x ρ=done (NT (x.get ρ)) ρ:=rfl
theorem V7 {b:Bool}:NT (some (.bl b))=some (.sh (.bl (!b))):=rfl
theorem UD {a:E}:ev P C false (.not a) ρ=(dP P C a ρ).bind QL:=rfl
noncomputable def BZ (op:CmpOp) (a b:Option D):Option RV:=a.bind fun d=>b.bind fun e=>(bX op d e).map fun b=>.sh (.bl b)
theorem aBL {op:CmpOp} {d e:D}:BZ op (some d) (some e)=(bX op d e).map fun b=>.sh (.bl b):=rfl
noncomputable def OH (op:CmpOp) (a b:Option D):Option Bool:=a.bind fun d=>b.bind fun e=>bX op d e
theorem aCM {op:CmpOp} {d e:D}:OH op (some d) (some e)=bX op d e:=rfl
noncomputable def GF (op:CmpOp) (x y:Hd) (ρ:Env):aS RV:=done (BZ op (x.get ρ) (y.get ρ)) ρ
noncomputable def RI (P:aQ) (C:Calls) (op:CmpOp) (b:E) (x:Hd) (ρ:Env):aS RV:=(dP P C b ρ).bind (GF op x)
theorem aA0 {op:CmpOp} {x y:Hd}:GF op x y ρ=done (BZ op (x.get ρ) (y.get ρ)) ρ:=rfl
theorem W2 {op:CmpOp} {b:E} {x:Hd}:RI P C op b x ρ=(dP P C b ρ).bind (GF op x):=rfl
theorem ZY {op:CmpOp} {a b:E}:ev P C t (.cmp op a b) ρ=(dP P C a ρ).bind (RI P C op b):=rfl
noncomputable def OF (op:CmpOp) (y z:Hd) (ρ:Env):aS RV:=done (BZ op (y.get ρ) (z.get ρ)) ρ
theorem aBy {op:CmpOp} {x y:Hd}:OF op x y ρ=done (BZ op (x.get ρ) (y.get ρ)) ρ:=rfl
noncomputable def Z6 (P:aQ) (C:Calls) (op':CmpOp) (y:Hd) (c:E) (ρ:Env):Option Bool→aS RV
 | none=>none
 | some false=>some (.ok (.sh (.bl false)),ρ)
 | some true=>(dP P C c ρ).bind (OF op' y)
theorem aBO {op':CmpOp} {y:Hd} {c:E} {b:Bool}:Z6 P C op' y c ρ (some b)=if b=true then (dP P C c ρ).bind (OF op' y) else some (.ok (.sh (.bl false)),ρ):=by cases b <;> rfl
noncomputable def MO (P:aQ) (C:Calls) (op op':CmpOp) (c:E) (x y:Hd) (ρ:Env):aS RV:=Z6 P C op' y c ρ (OH op (x.get ρ) (y.get ρ))
noncomputable def ZL (P:aQ) (C:Calls) (op op':CmpOp) (b c:E) (x:Hd) (ρ:Env):aS RV:=(dP P C b ρ).bind (MO P C op op' c x)
theorem aCD {op op':CmpOp} {c:E} {x y:Hd}:MO P C op op' c x y ρ=Z6 P C op' y c ρ (OH op (x.get ρ) (y.get ρ)):=rfl
theorem aCP {op op':CmpOp} {b c:E} {x:Hd}:ZL P C op op' b c x ρ=(dP P C b ρ).bind (MO P C op op' c x):=rfl
theorem UP {op op':CmpOp} {a b c:E}:ev P C t (.cmp2 op op' a b c) ρ=(dP P C a ρ).bind (ZL P C op op' b c):=rfl
theorem aEq {i j:Int}:bX .Lt (.int i) (.int j)=some (decide (i<j)):=rfl
theorem aDt {i j:Int}:bX .LtE (.int i) (.int j)=some (decide (i≤j)):=rfl
theorem aDz {i j:Int}:bX .Gt (.int i) (.int j)=some (decide (j<i)):=rfl
theorem aEr {i j:Int}:bX .GtE (.int i) (.int j)=some (decide (j≤i)):=rfl
theorem aBx {i j:Int}:bX .Eq (.int i) (.int j)=some (decide (i=j)):=rfl
theorem aBp {i j:Int}:bX .NotEq (.int i) (.int j)=some (!decide (i=j)):=rfl
theorem IT {d e:D} (h1:bG 20 d=true) (h2:bG 20 e=true):bX .Eq d e=some (dR d e):=by
 show (if (bG 20 d && bG 20 e)=true then some (dR d e) else none)=_;rw [h1,h2]; rfl
theorem YU {d e:D} (h1:bG 20 d=true) (h2:bG 20 e=true):bX .NotEq d e=some (!dR d e):=by
 show (if (bG 20 d && bG 20 e)=true then some (!dR d e) else none)=_;rw [h1,h2]; rfl
theorem aCU {a b:PySem.Str}:bX .Eq (.str a) (.str b)=some (a == b):=rfl
theorem aCh:bX .Is .non .non=some true:=rfl
theorem aBQ {i:Int}:bX .Is (.int i) .non=some false:=rfl
theorem aBA:bX .IsNot .non .non=some false:=rfl
theorem aCC {i:Int}:bX .IsNot (.int i) .non=some true:=rfl
theorem aDn {b:Bool}:hV (.bl b)=some b:=rfl
noncomputable def aA8 (P:aQ) (C:Calls) (t:Bool) (b:E) (v:RV) (ρ:Env):aS RV:=match v with
 | .sh (.bl true)=>ev P C t b ρ
 | .sh (.bl false)=>some (.ok (.sh (.bl false)),ρ)
 | _=>none
noncomputable def kOr (P:aQ) (C:Calls) (t:Bool) (b:E) (v:RV) (ρ:Env):aS RV:=match v with
 | .sh (.bl true)=>some (.ok (.sh (.bl true)),ρ)
 | .sh (.bl false)=>ev P C t b ρ
 | _=>none
theorem aAO {a b:E}:ev P C t (.and a b) ρ=(ev P C t a ρ).bind (aA8 P C t b):=rfl
theorem aCp {a b:E}:ev P C t (.or a b) ρ=(ev P C t a ρ).bind (kOr P C t b):=rfl
theorem aAS {b:E} {x:Bool}:aA8 P C t b (.sh (.bl x)) ρ=if x=true then ev P C t b ρ else some (.ok (.sh (.bl false)),ρ):=by cases x <;> rfl
theorem aBX {b:E} {x:Bool}:kOr P C t b (.sh (.bl x)) ρ=if x=true then some (.ok (.sh (.bl true)),ρ) else ev P C t b ρ:=by cases x <;> rfl
noncomputable def eX (a:Option D) (k:D):Option RV:=a.bind fun d=>(LQ d k).map .sh
noncomputable def M9 (x:Hd) (k:RV) (ρ:Env):aS RV:=done (eX (x.get ρ) k.d) ρ
noncomputable def YX (P:aQ) (C:Calls) (i:E) (x:Hd) (ρ:Env):aS RV:=(ev P C false i ρ).bind (M9 x)
theorem aCJ {x:Hd} {k:RV}:M9 x k ρ=done (eX (x.get ρ) k.d) ρ:=rfl
theorem aBq {i:E} {x:Hd}:YX P C i x ρ=(ev P C false i ρ).bind (M9 x):=rfl
theorem aBU {a i:E}:ev P C t (.ix a i) ρ=bK t ((dP P C a ρ).bind (YX P C i)):=rfl
theorem aB1 {ds:List D} {i:Int} {d:D} (h:L2.cJ ds i=some d):eX (some (.tup ds)) (.int i)=some (.sh d):=by
 show (L2.cJ ds i).map RV.sh=_;rw [h]; rfl
theorem aBY {ds:List D} {i:Int} {d:D} (h:L2.cJ ds i=some d):eX (some (.lst ds)) (.int i)=some (.sh d):=by
 show (L2.cJ ds i).map RV.sh=_;rw [h]; rfl
theorem aAv {ds:List D} {i:Int}:eX (some (.tup ds)) (.int i)=(L2.cJ ds i).map RV.sh:=rfl
theorem ZW {ds:List D} {i:Int}:eX (some (.lst ds)) (.int i)=(L2.cJ ds i).map RV.sh:=rfl
theorem rS {α:Type} {xs:List α} {n:Nat}:L2.cJ xs (OfNat.ofNat n)=xs[n]?:=by
 show L2.cJ xs ((n:Nat):Int)=_
 cases h:xs[n]? with
 | some v=>exact L2.kB h
 | none =>
  unfold L2.cJ L2.lI
  have:=List.getElem?_eq_none_iff.mp h
  rw [Zo (by omega),Zp (by omega)];rfl
theorem YY {α:Type} {xs:List α}:L2.cJ xs 0=xs[0]?:=rS (n:=0)
theorem aDU {α:Type} {xs:List α}:L2.cJ xs 1=xs[1]?:=rS (n:=1)
theorem aDH {α:Type} {xs:List α}:L2.cJ xs 2=xs[2]?:=rS (n:=2)
theorem aDI {α:Type} {xs:List α}:L2.cJ xs 3=xs[3]?:=rS (n:=3)
noncomputable def D2 (a l h:Option D):Option RV:=a.bind fun d=>(nH l).bind fun l=>(nH h).bind fun h=>QP d l h
noncomputable def P7 (x:Hd) (l h:Option D) (ρ:Env):aS RV:=done (D2 (x.get ρ) l h) ρ
noncomputable def uT (P:aQ) (C:Calls) (e:E) (ρ:Env):aS (Option D):=yU e (ev P C false e ρ) ρ
noncomputable def NB (P:aQ) (C:Calls) (hi:E) (x:Hd) (l:Option D) (ρ:Env):aS RV:=(uT P C hi ρ).bind (P7 x l)
noncomputable def YD (P:aQ) (C:Calls) (lo hi:E) (x:Hd) (ρ:Env):aS RV:=(uT P C lo ρ).bind (NB P C hi x)
theorem aCE {x:Hd} {l h:Option D}:P7 x l h ρ=done (D2 (x.get ρ) l h) ρ:=rfl
theorem aCz {hi:E} {x:Hd} {l:Option D}:NB P C hi x l ρ=(uT P C hi ρ).bind (P7 x l):=rfl
theorem aCj {lo hi:E} {x:Hd}:YD P C lo hi x ρ=(uT P C lo ρ).bind (NB P C hi x):=rfl
theorem WB:uT P C .omt ρ=some (.ok none,ρ):=rfl
noncomputable def tJ (v:RV) (ρ:Env):aS (Option D):=some (.ok (some v.d),ρ)
theorem aAq {v:RV}:tJ v ρ=some (.ok (some v.d),ρ):=rfl
theorem UG {i:Nat}:uT P C (.var i) ρ=(ev P C false (.var i) ρ).bind tJ:=rfl
theorem VY {op:Operator} {a b:E}:uT P C (.bin op a b) ρ=(ev P C false (.bin op a b) ρ).bind tJ:=rfl
theorem VX {f:BI} {es:List E}:uT P C (.bif f es) ρ=(ev P C false (.bif f es) ρ).bind tJ:=rfl
theorem aCK {a lo hi:E}:ev P C t (.sl a lo hi) ρ=bK t ((dP P C a ρ).bind (YD P C lo hi)):=rfl
noncomputable def A9 (P:aQ) (C:Calls) (f:String) (hs:List Hd) (ρ:Env):aS RV:=fL (P f) (C f) hs ρ
theorem Y4 {f:String} {hs:List Hd}:A9 P C f hs ρ=fL (P f) (C f) hs ρ:=rfl
theorem TM {f:String} {es:List E}:ev P C t (.call f es) ρ=bK t ((cI P C es ρ).bind (A9 P C f)):=rfl
noncomputable def O5 (pins:List Bool) (hs:List Hd) (ρ ρ1:Env):aS RV→aS RV
 | none=>none
 | some (o,as')=>(aW pins hs as' ρ ρ1).map fun ρ'=>(o,ρ')
noncomputable def XR (pins:List Bool) (f:List Sl→aS RV) (hs:List Hd) (ρ:Env):Option (List Sl × Env)→aS RV
 | none=>none
 | some (as,ρ1)=>O5 pins hs ρ ρ1 (f as)
theorem S1 {pins:List Bool} {f:List Sl→aS RV} {hs:List Hd}:fL pins f hs ρ=XR pins f hs ρ (bL pins hs ρ):=rfl
theorem aCd {pins:List Bool} {f:List Sl→aS RV} {hs:List Hd} {as:List Sl}:XR pins f hs ρ (some (as,ρ1))=O5 pins hs ρ ρ1 (f as):=rfl
noncomputable def W8 (o:Out RV) (x:Option Env):aS RV:=x.map fun ρ'=>(o,ρ')
theorem aBH {o:Out RV}:W8 o (some ρ)=some (o,ρ):=rfl
theorem aB7 {pins:List Bool} {hs:List Hd} {o:Out RV} {as':List Sl}:O5 pins hs ρ ρ1 (some (o,as'))=W8 o (aW pins hs as' ρ ρ1):=rfl
noncomputable def vR (a:Sl) (o:Option (List Sl × Env)):Option (List Sl × Env):=o.map fun (as,ρ')=>(a :: as,ρ')
theorem aDw {a:Sl} {as:List Sl}:vR a (some (as,ρ))=some (a :: as,ρ):=rfl
theorem ZX:bL [] [] ρ=some ([],ρ):=rfl
theorem aCy {p:Bool} {ps:List Bool} {d:D} {r:List Hd}:bL (p :: ps) (.val (.sh d) :: r) ρ=vR (.sh d) (bL ps r ρ):=rfl
theorem YJ {ps:List Bool} {d:D} {r:List Hd}:bL (true :: ps) (.val (.ow d) :: r) ρ=vR (.ow d true false) (bL ps r ρ):=rfl
noncomputable def Q5 (p:Bool) (ps:List Bool) (i:Nat) (r:List Hd) (ρ:Env):Option Sl→Option (List Sl × Env)
 | some (.sh d)=>vR (.sh d) (bL ps r ρ)
 | some (.ow d pin lk)=>match p with
  | true=>vR (.ow d true lk) (bL ps r (ρ.set i .un))
  | false=>if pin || lk then none else vR (.sh d) (bL ps r (ρ.set i (.sh d)))
 | _=>none
theorem V5 {p:Bool} {ps:List Bool} {i:Nat} {r:List Hd}:bL (p :: ps) (.slot i :: r) ρ=Q5 p ps i r ρ ρ[i]?:=rfl
theorem ZJ {p:Bool} {ps:List Bool} {i:Nat} {r:List Hd} {d:D}:Q5 p ps i r ρ (some (.sh d))=vR (.sh d) (bL ps r ρ):=rfl
theorem RR {ps:List Bool} {i:Nat} {r:List Hd} {d:D} {pin lk:Bool}:Q5 true ps i r ρ (some (.ow d pin lk))=vR (.ow d true lk) (bL ps r (ρ.set i .un)):=rfl
theorem UY {ps:List Bool} {i:Nat} {r:List Hd} {d:D}:Q5 false ps i r ρ (some (.ow d false false))=vR (.sh d) (bL ps r (ρ.set i (.sh d))):=rfl
theorem aA6 {ρ0:Env}:aW [] [] [] ρ0 ρ=some ρ:=rfl
theorem aEa {ps:List Bool} {i:Nat} {hs:List Hd} {a:Sl} {as:List Sl} {ρ0:Env}:aW (false :: ps) (.slot i :: hs) (a :: as) ρ0 ρ=aW ps hs as ρ0 ρ:=rfl
theorem aB8 {ps:List Bool} {v:RV} {hs:List Hd} {a:Sl} {as:List Sl} {ρ0:Env}:aW (false :: ps) (.val v :: hs) (a :: as) ρ0 ρ=aW ps hs as ρ0 ρ:=rfl
theorem X2 {ps:List Bool} {v:RV} {hs:List Hd} {a:Sl} {as:List Sl} {ρ0:Env}:aW (true :: ps) (.val v :: hs) (a :: as) ρ0 ρ=aW ps hs as ρ0 ρ:=rfl
noncomputable def kGb (ps:List Bool) (i:Nat) (hs:List Hd) (a:Sl) (as:List Sl) (ρ0 ρ:Env) (o:Option Sl):Option Env :=
  match o,a with
  | some (.ow _ pin lk),.ow d _ _=>aW ps hs as ρ0 (ρ.set i (.ow d pin lk))
  | some (.ow _ _ _),_=>none
  | _,_=>aW ps hs as ρ0 ρ
theorem TR {ps:List Bool} {i:Nat} {hs:List Hd} {a:Sl} {as:List Sl} {ρ0:Env}:aW (true :: ps) (.slot i :: hs) (a :: as) ρ0 ρ=kGb ps i hs a as ρ0 ρ ρ0[i]?:=rfl
theorem aAx {ps:List Bool} {i:Nat} {hs:List Hd} {as:List Sl} {ρ0:Env} {d d':D} {p l p' l':Bool}:kGb ps i hs (.ow d p l) as ρ0 ρ (some (.ow d' p' l'))=aW ps hs as ρ0 (ρ.set i (.ow d p' l')):=rfl
theorem aAa {ps:List Bool} {i:Nat} {hs:List Hd} {a:Sl} {as:List Sl} {ρ0:Env} {d:D}:kGb ps i hs a as ρ0 ρ (some (.sh d))=aW ps hs as ρ0 ρ:=rfl
noncomputable def ZR (f:BI) (hs:List Hd) (ρ:Env):aS RV:=done ((getAll hs ρ).bind (lH f)) ρ
theorem aCL {f:BI} {hs:List Hd}:ZR f hs ρ=done ((getAll hs ρ).bind (lH f)) ρ:=rfl
theorem YN {f:BI} {es:List E}:ev P C t (.bif f es) ρ=bK t ((cI P C es ρ).bind (ZR f)):=rfl
theorem aAR:getAll [] ρ=some []:=rfl
noncomputable def gaC (a:Option D) (b:Option (List D)):Option (List D):=a.bind fun d=>b.map (d :: ·)
theorem aEg {d:D} {ds:List D}:gaC (some d) (some ds)=some (d :: ds):=rfl
theorem UQ {h:Hd} {r:List Hd}:getAll (h :: r) ρ=gaC (h.get ρ) (getAll r ρ):=rfl
theorem aAi {ds:List D}:lH .len [.lst ds]=some (.sh (.int ds.length)):=rfl
theorem W0 {ds:List D}:lH .len [.tup ds]=some (.sh (.int ds.length)):=rfl
theorem aBP {i:Int}:lH .abs [.int i]=some (.sh (.int (if i<0 then -i else i))):=rfl
theorem XA {b:Bool}:lH .int [.bl b]=some (.sh (.int (if b then 1 else 0))):=rfl
theorem WG {ds:List D}:lH .list [.lst ds]=some (.ow (.lst ds)):=rfl
theorem UK {ds:List D}:lH .list [.tup ds]=some (.ow (.lst ds)):=rfl
theorem YB {ds:List D}:lH .tuple [.lst ds]=some (.sh (.tup ds)):=rfl
theorem aB6 {i j:Int}:lH .max [.int i,.int j]=some (.sh (.int (if j > i then j else i))):=rfl
noncomputable def MN (ts:List Ty):Option D→Option RV
 | some d=>(A5 ts d).map fun b=>.sh (.bl b)
 | none=>none
noncomputable def NC (ts:List Ty) (x:Hd) (ρ:Env):aS RV:=done (MN ts (x.get ρ)) ρ
theorem aCN {ts:List Ty} {x:Hd}:NC ts x ρ=done (MN ts (x.get ρ)) ρ:=rfl
theorem aA3 {a:E} {ts:List Ty}:ev P C t (.isi a ts) ρ=bK t ((dP P C a ρ).bind (NC ts)):=by
 rw [ev];show bK t ((dP P C a ρ).bind _)=_
 congr 2
 funext x ρ1
 unfold NC;cases x.get ρ1 <;> rfl
noncomputable def PM (i:Nat) (d:D) (ρ:Env) (o:Option Sl):aS RV:=match o with
 | some (.ow (.lst ds) p false)=>if aK (ds.length+1) then some (.ok (.sh .non),ρ.set i (.ow (.lst (ds ++ [d])) p false)) else none
 | _=>none
noncomputable def RF (i:Nat) (v:RV) (ρ:Env):aS RV:=PM i v.d ρ ρ[i]?
theorem aA1 {i:Nat} {v:RV}:RF i v ρ=PM i v.d ρ ρ[i]?:=rfl
theorem aB5 {i:Nat} {d:D} {ds:List D} {p:Bool}:PM i d ρ (some (.ow (.lst ds) p false))=FF (aK (ds.length+1)) (.sh .non) (ρ.set i (.ow (.lst (ds ++ [d])) p false)):=rfl
noncomputable def XB (r:aS RV) (b:Bool):aS RV:=if b then r else none
theorem W9 {r:aS RV}:XB r true=r:=rfl
theorem Y1 {i:Nat} {a:E}:ev P C t (.app i a) ρ=bK t (XB ((ev P C false a ρ).bind (RF i)) (nN ρ i)):=rfl
noncomputable def HD:Option Sl→Bool
 | some (.ow (.lst _) _ _)=>true
 | _=>false
theorem aBw:nN ρ i=HD ρ[i]?:=rfl
theorem PY {ds:List D} {p l:Bool}:HD (some (.ow (.lst ds) p l))=true:=rfl
noncomputable def aAK (i:Nat) (v:RV) (ρ:Env):bR:=jH (store i v ρ)
theorem aCm {i:Nat} {v:RV}:aAK i v ρ=jH (store i v ρ):=rfl
theorem YM {i:Nat} {e:E}:ex P C W (.asg i e) ρ=(ev P C false e ρ).flow (aAK i):=rfl
noncomputable def BF (i:Nat) (v:RV) (ρ:Env) (o:Option Sl):Option Env:=match o with
 | none=>none
 | some (.ow _ true _)=>none
 | some (.ow _ _ true)=>none
 | some _=>some (ρ.set i (match v with | .sh d=>.sh d | .ow d=>.ow d false false))
theorem IU {i:Nat} {v:RV}:store i v ρ=BF i v ρ ρ[i]?:=rfl
theorem RS {i:Nat} {d:D}:BF i (.sh d) ρ (some .un)=some (ρ.set i (.sh d)):=rfl
theorem R6 {i:Nat} {d:D}:BF i (.ow d) ρ (some .un)=some (ρ.set i (.ow d false false)):=rfl
theorem R4 {i:Nat} {d d':D}:BF i (.sh d) ρ (some (.sh d'))=some (ρ.set i (.sh d)):=rfl
theorem VA {i:Nat} {d d':D}:BF i (.ow d) ρ (some (.ow d' false false))=some (ρ.set i (.ow d false false)):=rfl
noncomputable def bM:Sl→Bool
 | .un=>true
 | .mv=>true
 | .sh _=>true
 | .ow _ false false=>true
 | _=>false
theorem bB {i:Nat} {d:D} {s:Sl} (h:bM s=true):BF i (.sh d) ρ (some s)=some (ρ.set i (.sh d)):=by
 cases s with
 | ow d p l=>cases p <;> cases l <;> first | rfl | cases h
 | _=>rfl
theorem UU {i:Nat} {d:D} {s:Sl} (h:bM s=true):BF i (.ow d) ρ (some s)=some (ρ.set i (.ow d false false)):=by
 cases s with
 | ow d p l=>cases p <;> cases l <;> first | rfl | cases h
 | _=>rfl
theorem YQ:bM .un=true:=rfl
theorem aAb {d:D}:bM (.sh d)=true:=rfl
theorem X7 {d:D}:bM (.ow d false false)=true:=rfl
noncomputable def RE (is:List Nat) (v:RV) (ρ:Env):bR:=jH (a8 false is v.d ρ)
theorem Y6 {is:List Nat} {v:RV}:RE is v ρ=jH (a8 false is v.d ρ):=rfl
theorem R1 {is:List Nat} {e:E}:ex P C W (.asgT is e) ρ=(ev P C false e ρ).flow (RE is):=rfl
theorem rQ {i:Nat} {d:D}:a8 true [i] d ρ=store i (.sh d) ρ:=rfl
theorem FV {i:Nat} {is:List Nat} {ds:List D}:a8 false (i :: is) (.tup ds) ρ=dD (i :: is) ds ρ:=rfl
theorem MV {i:Nat} {is:List Nat} {ds:List D}:a8 false (i :: is) (.lst ds) ρ=dD (i :: is) ds ρ:=rfl
theorem DO:dD [] [] ρ=some ρ:=rfl
noncomputable def kSs (is:List Nat) (ds:List D) (o:Option Env):Option Env:=o.bind (dD is ds)
theorem yM {i:Nat} {is:List Nat} {d:D} {ds:List D}:dD (i :: is) (d :: ds) ρ=kSs is ds (store i (.sh d) ρ):=rfl
theorem P5 {is:List Nat} {ds:List D}:kSs is ds (some ρ)=dD is ds ρ:=rfl
noncomputable def O7 (i:Nat) (v:D) (ρ:Env):Option Sl→D→bR
 | some (.ow (.lst ds) p false),.int n=>jH ((L2.lI ds.length n).map fun m=>ρ.set i (.ow (.lst (ds.set m v)) p false))
 | _,_=>none
noncomputable def HH (i:Nat) (v:RV) (j:RV) (ρ:Env):bR:=O7 i v.d ρ ρ[i]? j.d
noncomputable def NG (r:bR) (b:Bool):bR:=if b then r else none
theorem YW {r:bR}:NG r true=r:=rfl
noncomputable def aAh (i:Nat) (v j:RV) (ρ:Env):Option Sl→bR
 | o=>match o,j,v with
  | some (.ow (.dct kvs) p false),.sh (.int n),.sh (.int m)=>if aK (kvs.length+1) then some (.nx,ρ.set i (.ow (.dct (aD0 kvs n m)) p false)) else none
  | _,_,_=>none
noncomputable def aCV (i:Nat) (v:RV) (j:RV) (ρ:Env):bR:=aAh i v j ρ ρ[i]?
theorem aBh {i:Nat} {v j:RV}:aCV i v j ρ=aAh i v j ρ ρ[i]?:=rfl
noncomputable def RG:Option Sl→Bool
 | some (.ow (.dct _) _ _)=>true
 | _=>false
theorem aBo {i:Nat}:aEv ρ i=RG ρ[i]?:=rfl
noncomputable def IC (r r':bR) (b:Bool):bR:=if b then r else r'
theorem aAm {r r':bR}:IC r r' true=r:=rfl
theorem aAw {r r':bR}:IC r r' false=r':=rfl
noncomputable def Y3 (i:Nat) (v:RV) (j:RV) (ρ:Env):bR:=CO i ρ ρ[i]? (iW j.d) v
theorem aEf {i:Nat} {v j:RV}:Y3 i v j ρ=CO i ρ ρ[i]? (iW j.d) v:=rfl
theorem kS {i:Nat} {kvs:List ((Int × List Int) × Int)} {p:Bool} {k:Int × List Int} {m:Int} (h:aK (kvs.length+1)=true):CO i ρ (some (.ow (.dcs kvs) p false)) (some k) (.sh (.int m))=some (.nx,ρ.set i (.ow (.dcs (nP kvs k m)) p false)):=Zo h
noncomputable def QU:Option Sl→Bool
 | some (.ow (.dcs _) _ _)=>true
 | _=>false
theorem aBr {i:Nat}:xX ρ i=QU ρ[i]?:=rfl
theorem MY {kvs:List ((Int × List Int) × Int)} {p l:Bool}:QU (some (.ow (.dcs kvs) p l))=true:=rfl
theorem PU {kvs:List ((Int × List Int) × Int)} {p l:Bool}:RG (some (.ow (.dcs kvs) p l))=false:=rfl
theorem NU {kvs:List ((Int × List Int) × Int)} {p l:Bool}:HD (some (.ow (.dcs kvs) p l))=false:=rfl
noncomputable def II (P:aQ) (C:Calls) (i:Nat) (k:E) (v:RV) (ρ:Env):bR:=NG ((ev P C false k ρ).flow (Y3 i v)) (xX ρ i)
theorem ZT {i:Nat} {k:E} {v:RV}:II P C i k v ρ=NG ((ev P C false k ρ).flow (Y3 i v)) (xX ρ i):=rfl
noncomputable def Q9 (P:aQ) (C:Calls) (i:Nat) (k:E) (v:RV) (ρ:Env):bR:=IC ((ev P C false k ρ).flow (HH i v)) (II P C i k v ρ) (nN ρ i)
theorem aBf {i:Nat} {v j:RV}:HH i v j ρ=O7 i v.d ρ ρ[i]? j.d:=rfl
theorem aAg {i:Nat} {k:E} {v:RV}:Q9 P C i k v ρ=IC ((ev P C false k ρ).flow (HH i v)) (II P C i k v ρ) (nN ρ i):=rfl
theorem XO {i:Nat} {k e:E}:ex P C W (.set i k e) ρ=(ev P C false e ρ).flow (Q9 P C i k):=rfl
theorem aCY {n:Nat}:L2.lI (n+2) 1=some 1:=by unfold L2.lI; rw [Zo (by omega),Zo (by omega)]; rfl
theorem Z2 {i:Nat} {v a b:D} {ds:List D} {p:Bool}:O7 i v ρ (some (.ow (.lst (a :: b :: ds)) p false)) (.int 1)=some (.nx,ρ.set i (.ow (.lst (a :: v :: ds)) p false)):=by
 show jH ((L2.lI (ds.length+2) 1).map _)=_;rw [aCY]; rfl
noncomputable def QZ (v:RV) (ρ:Env):bR:=some (.nx,ρ)
theorem XQ {v:RV}:QZ v ρ=some (.nx,ρ):=rfl
theorem V3 {e:E}:ex P C W (.expr e) ρ=(ev P C false e ρ).flow QZ:=rfl
noncomputable def NK (i:Nat) (ρ:Env):Option Sl→bR
 | some (.ow d false _)=>some (.rt (.ow d),ρ.set i .mv)
 | some (.sh d)=>some (.rt (.sh d),ρ)
 | _=>none
theorem WJ {i:Nat} {d:D} {l:Bool}:NK i ρ (some (.ow d false l))=some (.rt (.ow d),ρ.set i .mv):=rfl
theorem WC {i:Nat} {d:D}:NK i ρ (some (.sh d))=some (.rt (.sh d),ρ):=rfl
noncomputable def kC (v:RV) (ρ:Env):bR:=some (.rt v,ρ)
theorem aBm {v:RV}:kC v ρ=some (.rt v,ρ):=rfl
theorem U9 {i:Nat}:ex P C W (.ret (.var i)) ρ=NK i ρ ρ[i]?:=rfl
theorem aAN {d:D}:ex P C W (.ret (.con d)) ρ=(ev P C false (.con d) ρ).flow kC:=rfl
theorem Z1 {es:List E}:ex P C W (.ret (.tup es)) ρ=(ev P C false (.tup es) ρ).flow kC:=rfl
theorem YI {es:List E}:ex P C W (.ret (.lst es)) ρ=(ev P C false (.lst es) ρ).flow kC:=rfl
theorem X1 {op:Operator} {a b:E}:ex P C W (.ret (.bin op a b)) ρ=(ev P C false (.bin op a b) ρ).flow kC:=rfl
theorem ZI {op:CmpOp} {a b:E}:ex P C W (.ret (.cmp op a b)) ρ=(ev P C false (.cmp op a b) ρ).flow kC:=rfl
theorem ZM {a b:E}:ex P C W (.ret (.and a b)) ρ=(ev P C false (.and a b) ρ).flow kC:=rfl
theorem aBZ {a b:E}:ex P C W (.ret (.or a b)) ρ=(ev P C false (.or a b) ρ).flow kC:=rfl
theorem aBK {a b:E}:ex P C W (.ret (.ix a b)) ρ=(ev P C false (.ix a b) ρ).flow kC:=rfl
theorem WR {f:String} {es:List E}:ex P C W (.ret (.call f es)) ρ=(ev P C false (.call f es) ρ).flow kC:=rfl
theorem aAc {f:BI} {es:List E}:ex P C W (.ret (.bif f es)) ρ=(ev P C false (.bif f es) ρ).flow kC:=rfl
theorem T5 {elt:E} {tg:List Nat} {k:ItK} {its cond:List E} {imp:List Nat} {nl:Nat}:ex P C W (.ret (.comp elt tg k its cond imp nl)) ρ=(ev P C false (.comp elt tg k its cond imp nl) ρ).flow kC:=rfl
noncomputable def kIf (P:aQ) (C:Calls) (W:Nat) (a b:List S) (v:RV) (ρ:Env):bR:=match v with
 | .sh (.bl true)=>exs P C W a ρ
 | .sh (.bl false)=>exs P C W b ρ
 | _=>none
theorem aCv {a b:List S} {x:Bool}:kIf P C W a b (.sh (.bl x)) ρ=if x=true then exs P C W a ρ else exs P C W b ρ:=by cases x <;> rfl
theorem Z9 {c:E} {a b:List S}:ex P C W (.ifs c a b) ρ=(ev P C true c ρ).flow (kIf P C W a b):=rfl
noncomputable def O4 (P:aQ) (C:Calls) (W:Nat) (tg:List Nat) (one:Bool) (body:List S) (ρ:Env):Option (List D × Option Nat)→bR
 | none=>none
 | some (ds,o)=>(bW (a8 one tg) (exs P C W body) ds (a7 o ρ)).restore o ρ
theorem aBn {tg:List Nat} {one:Bool} {body:List S} {ds:List D} {o:Option Nat}:O4 P C W tg one body ρ (some (ds,o))=(bW (a8 one tg) (exs P C W body) ds (a7 o ρ)).restore o ρ:=rfl
noncomputable def aBj (P:aQ) (C:Calls) (W:Nat) (tg:List Nat) (one:Bool) (k:ItK) (body:List S) (hs:List Hd) (ρ:Env):bR:=O4 P C W tg one body ρ (aH k hs ρ)
theorem aCw {tg:List Nat} {one:Bool} {k:ItK} {body:List S} {hs:List Hd}:aBj P C W tg one k body hs ρ=O4 P C W tg one body ρ (aH k hs ρ):=rfl
theorem aAk {tg:List Nat} {one:Bool} {k:ItK} {its:List E} {body:List S}:ex P C W (.for tg one k its body) ρ=(cI P C its ρ).flow (aBj P C W tg one k body):=rfl
theorem yD:exs P C W [] ρ=some (.nx,ρ):=rfl
theorem dZ {s:S} {r:List S}:exs P C W (s :: r) ρ=(ex P C W s ρ).next (exs P C W r):=rfl
theorem UR {r:bR} {ρ0:Env}:r.restore none ρ0=r:=by cases r with | none=>rfl | some y=>obtain ⟨fl,ρ⟩:=y; rfl
theorem VZ:a7 none ρ=ρ:=rfl
theorem lU {a:Hd} {n:Int} (h:a.get ρ=some (.int n)) (h1:-1000000≤n) (h2:n≤1000000):aH .rng [a] ρ=some ((List.range n.toNat).map fun (j:Nat)=>.int (j:Int),none):=by
 simp only [aH,h]; exact Zo ⟨h1,h2⟩
theorem G9 {a b:Hd} {m n:Int} (h:a.get ρ=some (.int m)) (h':b.get ρ=some (.int n)) (h1:-1000000≤m∧m≤1000000) (h2:-1000000≤n∧n≤1000000):aH .rng [a,b] ρ=some ((List.range (n - m).toNat).map fun (j:Nat)=>.int (m+(j:Int)),none):=by
 simp only [aH,h,h']; exact Zo ⟨h1,h2⟩
theorem tG {v:RV} {ds:List D} (h:v.d=.lst ds):aH .of [.val v] ρ=some (ds,none):=by simp only [aH,h]
theorem xE {v:RV} {ds:List D} (h:v.d=.tup ds):aH .of [.val v] ρ=some (ds,none):=by simp only [aH,h]
theorem MD {bind:D→Env→Option Env} {body:Env→bR} (I:Env→Prop) {ds:List D} (h:∀ d∈ds,∀ ρ,I ρ→∃ ρ1,bind d ρ=some ρ1∧∃ ρ2,body ρ1=some (.nx,ρ2)∧I ρ2):∀ {ρ:Env},I ρ→∃ ρ',bW bind body ds ρ=some (.nx,ρ')∧I ρ':=by
 induction ds with
 | nil=>exact fun hρ=>⟨_,rfl,hρ⟩
 | cons d ds ih =>
  intro ρ hρ;obtain ⟨ρ1,e1,ρ2,e2,h2⟩:=h d (by simp) ρ hρ;obtain ⟨ρ',e3,h3⟩:=ih (fun d' hd'=>h d' (by simp [hd'])) h2;exact ⟨ρ',by simp only [bW,e1,e2,e3],h3⟩
theorem cT {bind:D→Env→Option Env} {body:Env→bR} (I:List D→Env→Prop) {ds:List D} (h:∀ pre d post,ds=pre ++ d :: post→∀ ρ,I pre ρ→∃ ρ1,bind d ρ=some ρ1∧∃ ρ2,body ρ1=some (.nx,ρ2)∧I (pre ++ [d]) ρ2) {ρ:Env} (h0:I [] ρ):∃ ρ',bW bind body ds ρ=some (.nx,ρ')∧I ds ρ':=by
 have key:∀ (post pre:List D) (ρ:Env),ds=pre ++ post→I pre ρ→∃ ρ',bW bind body post ρ=some (.nx,ρ')∧I ds ρ':=by
  intro post
  induction post with
  | nil=>intro pre ρ e hp; rw [List.append_nil] at e; subst e; exact ⟨ρ,rfl,hp⟩
  | cons d post ih =>
   intro pre ρ e hp;obtain ⟨ρ1,e1,ρ2,e2,h2⟩:=h pre d post e ρ hp;obtain ⟨ρ',e3,h3⟩:=ih (pre ++ [d]) ρ2 (by rw [e]; simp) h2;exact ⟨ρ',by simp only [bW,e1,e2,e3],h3⟩
 exact key ds [] ρ rfl h0
noncomputable def P4 (as:List Sl):bR→aS RV
 | some (.nx,ρ)=>some (.ok (.sh .non),back as ρ)
 | some (.rt v,ρ)=>some (.ok v,back as ρ)
 | _=>none
theorem F2 {as:List Sl} {v:RV}:P4 as (some (.rt v,ρ))=some (.ok v,back as ρ):=rfl
theorem bI {T:iZ} {n:Nat} {f:String} {as:List Sl} {fn:Fn} (hT:T f=some fn) (h1:as.length=fn.pins.length) (h2:as.all l3=true) (h3:fn.rs=false:=by rfl):run T W (n+1) f as=P4 as (exs T.pins (run T W n) W fn.body (as ++ List.replicate fn.nl .un)):=by
 simp only [run,hT];rw [Zo ⟨h1,h2⟩,h3];generalize exs T.pins (run T W n) W fn.body (as ++ List.replicate fn.nl .un)=r;obtain _ | ⟨fl,ρ⟩:=r
 ·rfl
 ·cases fl <;> rfl
end
end CI
namespace CI
open PySem PySem.Spec PyProof.Rows L2
noncomputable def IH:D→Value→Bool
 | .non,.none=>true
 | .bl a,.bool b=>a == b
 | .int i,.int j _=>i == j
 | .str x,.str y _=>x == y && PyData.strOk x
 | _,_=>false
noncomputable def oE:List D→List Value→Bool
 | [],[]=>true
 | d :: ds,v :: vs=>IH d v && oE ds vs
 | _,_=>false
theorem OX {K:Frag} {d:D} {u:Value} (h:IH d u=true):∃ v,bC v u∧∀ G,aE K G d v:=by
 cases d <;> cases u <;> simp only [IH,Bool.false_eq_true] at h
 ·exact ⟨.non,rfl,fun G=>by simp [aE]⟩
 ·exact ⟨.bl _,rfl,fun G=>by simp [aE,Zy h]⟩
 ·rename_i i j t;exact ⟨.int i,⟨t,by rw [Zy h]⟩,fun G=>by simp [aE]⟩
 ·rename_i x y t;rw [ZB] at h;exact ⟨.str x,⟨t,by rw [Zy h.1]⟩,fun G=>by simp [aE,h.2]⟩
theorem zG {K:Frag}:∀ {ds:List D} {us:List Value},oE ds us=true→∃ vs,aT vs us∧∀ G,aB K G ds vs
 | [],[],_=>⟨[],.nil,fun G=>aB.nil⟩
 | d :: ds,u :: us,h=>by
  simp only [oE,ZB] at h;obtain ⟨v,h1,h2⟩:=OX (K:=K) h.1;obtain ⟨vs,h3,h4⟩:=zG (K:=K) h.2;exact ⟨v :: vs,.cons h1 h3,fun G=>aB.cons (h2 G) (h4 G)⟩
 | [],_ :: _,h=>by simp [oE] at h
 | _ :: _,[],h=>by simp [oE] at h
theorem FZ {K:Frag} {mg:Str→Option Value} {h:Heap} {T:iZ} {gl:Str→GV} {x:Str} {a:Addr} {its:Array Value} {n:Nat} {dd:Option Addr} {sl} {ds:List D} (X:K.In h) (G:h.Ns mainGlobals mg)
  (ha:nsIn K mainGlobals x=some (some (.ref a))) (hl:K.lookup a=some ⟨.type "tuple",dd,.seq its n,sl⟩) (hc:oE ds its.toList=true) (hz:decide (its.size≤1000)=true):dF K mg T gl (x,.con (.tup ds)):=by
 obtain ⟨vs,h1,h2⟩:=zG (K:=K) hc;refine ⟨_,.ref a,PySem.W.mg_of X G ha,rfl,fun G=>?_⟩;simp only [aE];exact ⟨a,vs,rfl,.inr ⟨_,its,n,hl,rfl,rfl,Zr (of_decide_eq_true hz) (by decide),h1⟩,h2 G⟩
noncomputable section
variable {P:aQ} {C:Calls} {t:Bool} {ρ ρ1:Env}
noncomputable def GL (P:aQ) (C:Calls) (elt:E) (tg:List Nat) (k:ItK) (cond:List E) (imp:List Nat) (nl:Nat) (hs:List Hd) (ρ1:Env):aS RV :=
 match aH k hs ρ1 with
 | none=>none
 | some (ds,o)=>(fL (imp.map fun _=>true) (tK (dY P C cond) (ev P C false elt) (a8 (tg.length == 1) tg) ds nl) (imp.map Hd.slot) (a7 o ρ1)).bind (oH o ρ1)
theorem T6 {elt:E} {tg:List Nat} {k:ItK} {its cond:List E} {imp:List Nat} {nl:Nat}:ev P C t (.comp elt tg k its cond imp nl) ρ=bK t ((cI P C its ρ).bind (GL P C elt tg k cond imp nl)):=rfl
theorem eF {elt:E} {tg:List Nat} {k:ItK} {cond:List E} {imp:List Nat} {nl:Nat} {hs:List Hd} {ds:List D} (h:aH k hs ρ1=some (ds,none)) :
  GL P C elt tg k cond imp nl hs ρ1=(fL (imp.map fun _=>true) (tK (dY P C cond) (ev P C false elt) (a8 (tg.length == 1) tg) ds nl) (imp.map Hd.slot) ρ1).bind (oH none ρ1):=by
 unfold GL; rw [h]; rfl
theorem MC {v:RV} {ρ2:Env}:oH none ρ1 v ρ2=some (.ok v,ρ2):=rfl
noncomputable def IM (as:List Sl) (acc:List D) (ρi:Env):aS RV:=if aK acc.length then some (.ok (.ow (.lst acc)),back as ρi) else none
theorem mS {tests elt:Env→aS RV} {bind:D→Env→Option Env} {ds:List D} {nl:Nat} {as:List Sl} (h:as.all l3=true):tK tests elt bind ds nl as=(fZ tests elt bind ds [] (as ++ List.replicate nl .un)).bind (IM as):=by
 unfold tK; rw [Zo h]; rfl
theorem X8 {as:List Sl} {acc:List D} {ρi:Env} (h:aK acc.length=true):IM as acc ρi=some (.ok (.ow (.lst acc)),back as ρi):=by unfold IM; rw [Zo h]
theorem iA:dY P C [] ρ=some (.ok (.sh (.bl true)),ρ):=rfl
noncomputable def kTs (P:aQ) (C:Calls) (es:List E) (v:RV) (ρ1:Env):aS RV:=match v with
 | .sh (.bl true)=>dY P C es ρ1
 | .sh (.bl false)=>some (.ok (.sh (.bl false)),ρ1)
 | _=>none
theorem KP {e:E} {es:List E}:dY P C (e :: es) ρ=(ev P C true e ρ).bind (kTs P C es):=rfl
theorem aCS {b:Bool}:kTs P C [] (.sh (.bl b)) ρ1=some (.ok (.sh (.bl b)),ρ1):=by
 cases b
 ·rfl
 ·show dY P C [] ρ1=_;exact iA
theorem NP {d:D} {l:Bool}:l3 (.ow d true l)=true:=rfl
theorem N1 {d:D}:l3 (.sh d)=true:=rfl
theorem fM {tests elt:Env→aS RV} {bind:D→Env→Option Env} {ds:List D} (I:Nat→List D→Env→Prop)
  (step:∀ (j:Nat) (d:D),ds[j]?=some d→∀ acc ρ,I j acc ρ→∃ ρ1 c ρ2,bind d ρ=some ρ1∧tests ρ1=some (.ok (.sh (.bl c)),ρ2)∧(c=true→∃ v ρ3,elt ρ2=some (.ok v,ρ3)∧I (j+1) (acc ++ [v.d]) ρ3)∧(c=false→I (j+1) acc ρ2)) :
  ∀ acc ρ,I 0 acc ρ→∃ acc' ρ',fZ tests elt bind ds acc ρ=some (.ok acc',ρ')∧I ds.length acc' ρ'∧acc'.length≤acc.length+ds.length:=by
 have key:∀ (es:List D) (j:Nat),ds.drop j=es→∀ acc ρ,I j acc ρ→∃ acc' ρ',fZ tests elt bind es acc ρ=some (.ok acc',ρ')∧I (j+es.length) acc' ρ'∧acc'.length≤acc.length+es.length:=by
  intro es
  induction es with
  | nil=>intro j _ acc ρ h; exact ⟨acc,ρ,rfl,h,by simp⟩
  | cons d es ih =>
   intro j hj acc ρ h
   have hd:ds[j]?=some d:=by
    have:(ds.drop j)[0]?=some d:=by rw [hj]; rfl
    simpa using this
   have hj':ds.drop (j+1)=es:=by
    have:(ds.drop j).drop 1=es:=by rw [hj]; rfl
    rw [List.drop_drop] at this;exact this
   obtain ⟨ρ1,c,ρ2,h1,h2,h3,h4⟩:=step j d hd acc ρ h;simp only [fZ,h1,h2,aS.bind]
   cases c with
   | false =>
    obtain ⟨acc',ρ',e1,e2,e3⟩:=ih (j+1) hj' acc ρ2 (h4 rfl);refine ⟨acc',ρ',e1, ?_,by simp only [Zk]; omega⟩
    have:j+(d :: es).length=j+1+es.length:=by simp only [Zk]; omega
    rw [this]; exact e2
   | true =>
    obtain ⟨v,ρ3,h5,h6⟩:=h3 rfl;obtain ⟨acc',ρ',e1,e2,e3⟩:=ih (j+1) hj' (acc ++ [v.d]) ρ3 h6;simp only [h5];refine ⟨acc',ρ',e1, ?_,by simp only [Za,Zk,List.length_nil] at e3 ⊢; omega⟩
    have:j+(d :: es).length=j+1+es.length:=by simp only [Zk]; omega
    rw [this]; exact e2
 intro acc ρ h
 have:=key ds 0 rfl acc ρ h
 simpa using this
theorem bF {n:Nat} (h:n≤1000000):aK n=true:=fU h
end
end CI
namespace CI
open PySem (Operator CmpOp Str)
noncomputable section
variable {P:aQ} {C:Calls} {W:Nat} {t:Bool} {ρ ρ1 ρ2:Env}
theorem S8 {a:E} {f:Str}:dP P C (.fld a f) ρ=(ev P C false (.fld a f) ρ).bind jM:=rfl
theorem NM {i:Nat} {m:Str} {tb:List (Str × String)} {es:List E}:dP P C (.meth i m tb es) ρ=(ev P C false (.meth i m tb es) ρ).bind jM:=rfl
theorem M7 {a:E}:dP P C (.nset a) ρ=(ev P C false (.nset a) ρ).bind jM:=rfl
noncomputable def Y2 (o:Option D):Option RV:=o.bind wJ
noncomputable def kNs (x:Hd) (ρ:Env):aS RV:=done (Y2 (x.get ρ)) ρ
theorem aDS {x:Hd}:kNs x ρ=done (Y2 (x.get ρ)) ρ:=rfl
theorem TZ {a:E}:ev P C t (.nset a) ρ=bK t ((dP P C a ρ).bind kNs):=rfl
noncomputable def kLr (hs:List Hd) (ρ:Env):aS RV:=done ((getAll hs ρ).bind tR) ρ
theorem aDP {hs:List Hd}:kLr hs ρ=done ((getAll hs ρ).bind tR) ρ:=rfl
theorem SI {es:List E}:ev P C t (.lrng es) ρ=bK t ((cI P C es ρ).bind kLr):=rfl
theorem lr1 {n:Nat} (h:n≤1000000):tR [.int (n:Int)]=some (.ow (.lst (((List.range n).map fun (k:Nat)=>(k:Int)).map D.int))):=by
 refine Eq.trans (@if_pos _ (cl _) (by omega) _ _ _) ?_;rw [show (((n:Int) - 0).toNat)=n by omega,List.map_map];simp only [Function.comp_def,Int.zero_add]
theorem aAs {a b:E}:uT P C (.ix a b) ρ=(ev P C false (.ix a b) ρ).bind tJ:=rfl
theorem SD {a:E}:uT P C (.neg a) ρ=(ev P C false (.neg a) ρ).bind tJ:=rfl
noncomputable def jN (o:Option D) (f:Str):Option RV:=o.bind fun d=>(OL d f).map .sh
noncomputable def aAA (f:Str) (x:Hd) (ρ:Env):aS RV:=done (jN (x.get ρ) f) ρ
theorem aBt {f:Str} {x:Hd}:aAA f x ρ=done (jN (x.get ρ) f) ρ:=rfl
theorem aAl {a:E} {f:Str}:ev P C t (.fld a f) ρ=bK t ((dP P C a ρ).bind (aAA f)):=rfl
noncomputable def BC (c:Str) (ns:List Str) (ds:List D) (ρ:Env):aS RV:=if ds.length=ns.length then some (.ok (.sh (.ins c ns ds)),ρ) else none
theorem WM {c:Str} {ns:List Str} {es:List E}:ev P C t (.make c ns es) ρ=bK t ((mJ P C es ρ).bind (BC c ns)):=rfl
theorem SM {c f:Str} {a:D}:BC c [f] [a] ρ=some (.ok (.sh (.ins c [f] [a])),ρ):=rfl
theorem U6 {c f g:Str} {a b:D}:BC c [f,g] [a,b] ρ=some (.ok (.sh (.ins c [f,g] [a,b])),ρ):=rfl
theorem VJ {c f g h:Str} {a b d:D}:BC c [f,g,h] [a,b,d] ρ=some (.ok (.sh (.ins c [f,g,h] [a,b,d])),ρ):=rfl
noncomputable def G7 (P:aQ) (C:Calls) (f:String) (d:D) (hs:List Hd) (ρ:Env):aS RV:=A9 P C f (.val (.sh d) :: hs) ρ
theorem aAU {f:String} {d:D} {hs:List Hd}:G7 P C f d hs ρ=A9 P C f (.val (.sh d) :: hs) ρ:=rfl
noncomputable def GP (P:aQ) (C:Calls) (d:D) (es:List E) (ρ:Env):Option String→aS RV
 | some f=>(cI P C es ρ).bind (G7 P C f d)
 | none=>none
theorem XS {f:String} {d:D} {es:List E}:GP P C d es ρ (some f)=(cI P C es ρ).bind (G7 P C f d):=rfl
noncomputable def aAj (P:aQ) (C:Calls) (m:Str) (tb:List (Str × String)) (es:List E) (ρ:Env):Option Sl→aS RV
 | some (.sh (.ins c ns ds))=>GP P C (.ins c ns ds) es ρ (fQ c ns m tb)
 | _=>none
theorem aCW {m:Str} {tb:List (Str × String)} {es:List E} {c:Str} {ns:List Str} {ds:List D}:aAj P C m tb es ρ (some (.sh (.ins c ns ds)))=GP P C (.ins c ns ds) es ρ (fQ c ns m tb):=rfl
theorem WH {i:Nat} {m:Str} {tb:List (Str × String)} {es:List E}:ev P C t (.meth i m tb es) ρ=bK t (aAj P C m tb es ρ ρ[i]?):=rfl
theorem UM {c:Str} {ns:List Str} {es:List E}:ex P C W (.ret (.make c ns es)) ρ=(ev P C false (.make c ns es) ρ).flow kC:=rfl
theorem aBV {a b:Bool}:bX .NotEq (.bl a) (.bl b)=some (!(a == b)):=rfl
theorem zg0 {α:Type} {a:α} {l:List α}:(a :: l)[0]?=some a:=rfl
theorem zg1 {α:Type} {a:α} {l:List α} {n:Nat}:(a :: l)[n+1]?=l[n]?:=rfl
theorem zs0 {α:Type} {a b:α} {l:List α}:(a :: l).set 0 b=b :: l:=rfl
theorem zs1 {α:Type} {a b:α} {l:List α} {n:Nat}:(a :: l).set (n+1) b=a :: l.set n b:=rfl
theorem zb {α β:Type} {a:α} {f:α→Option β}:(some a).bind f=f a:=rfl
theorem zm {α β:Type} {a:α} {f:α→β}:(some a).map f=some (f a):=rfl
theorem zi {α:Type} {a:α}:(some a).isSome=true:=rfl
theorem zc {α:Type} {a:α} {l m:List α}:(a :: l) ++ m=a :: (l ++ m):=rfl
theorem zn {α:Type} {l:List α}:[] ++ l=l:=rfl
theorem zr0 {α:Type} {a:α}:List.replicate 0 a=[]:=rfl
theorem zr1 {α:Type} {a:α} {n:Nat}:List.replicate (n+1) a=a :: List.replicate n a:=rfl
theorem zl0 {α:Type}:([]:List α).length=0:=rfl
theorem zl1 {α:Type} {a:α} {l:List α}:(a :: l).length=l.length+1:=rfl
theorem znt:(!true)=false:=rfl
theorem znf:(!false)=true:=rfl
theorem zko {d:D} {p l:Bool} {as:List Sl} {b:Sl} {bs:Env}:back (.ow d p l :: as) (b :: bs)=b :: back as bs:=rfl
theorem zks {d:D} {as:List Sl} {b:Sl} {bs:Env}:back (.sh d :: as) (b :: bs)=.sh d :: back as bs:=rfl
theorem zkn {bs:Env}:back [] bs=[]:=rfl
end
theorem aDW {α:Type} {Q:List α→Prop} (h:∀ a0,Q [a0]) (us:List α) (hl:us.length=1):Q us:=by
 obtain _ | ⟨a0,r0⟩:=us
 ·simp at hl
 obtain _ | ⟨x,y⟩:=r0
 ·exact h a0
 ·simp at hl
theorem aEd {α:Type} {Q:List α→Prop} (h:∀ a0 a1,Q [a0,a1]) (us:List α) (hl:us.length=2):Q us:=by
 obtain _ | ⟨a0,r0⟩:=us
 ·simp at hl
 obtain _ | ⟨a1,r1⟩:=r0
 ·simp at hl
 obtain _ | ⟨x,y⟩:=r1
 ·exact h a0 a1
 ·simp at hl
theorem aEt {α:Type} {Q:List α→Prop} (h:∀ a0 a1 a2,Q [a0,a1,a2]) (us:List α) (hl:us.length=3):Q us:=by
 obtain _ | ⟨a0,r0⟩:=us
 ·simp at hl
 obtain _ | ⟨a1,r1⟩:=r0
 ·simp at hl
 obtain _ | ⟨a2,r2⟩:=r1
 ·simp at hl
 obtain _ | ⟨x,y⟩:=r2
 ·exact h a0 a1 a2
 ·simp at hl
theorem aDs {α:Type} {Q:List α→Prop} (h:∀ a0 a1 a2 a3,Q [a0,a1,a2,a3]) (us:List α) (hl:us.length=4):Q us:=by
 obtain _ | ⟨a0,r0⟩:=us
 ·simp at hl
 obtain _ | ⟨a1,r1⟩:=r0
 ·simp at hl
 obtain _ | ⟨a2,r2⟩:=r1
 ·simp at hl
 obtain _ | ⟨a3,r3⟩:=r2
 ·simp at hl
 obtain _ | ⟨x,y⟩:=r3
 ·exact h a0 a1 a2 a3
 ·simp at hl
theorem aDQ {α:Type} {Q:List α→Prop} (h:∀ a0 a1 a2 a3 a4,Q [a0,a1,a2,a3,a4]) (us:List α) (hl:us.length=5):Q us:=by
 obtain _ | ⟨a0,r0⟩:=us
 ·simp at hl
 obtain _ | ⟨a1,r1⟩:=r0
 ·simp at hl
 obtain _ | ⟨a2,r2⟩:=r1
 ·simp at hl
 obtain _ | ⟨a3,r3⟩:=r2
 ·simp at hl
 obtain _ | ⟨a4,r4⟩:=r3
 ·simp at hl
 obtain _ | ⟨x,y⟩:=r4
 ·exact h a0 a1 a2 a3 a4
 ·simp at hl
theorem aEe {α:Type} {Q:List α→Prop} (h:∀ a0 a1 a2 a3 a4 a5,Q [a0,a1,a2,a3,a4,a5]) (us:List α) (hl:us.length=6):Q us:=by
 obtain _ | ⟨a0,r0⟩:=us
 ·simp at hl
 obtain _ | ⟨a1,r1⟩:=r0
 ·simp at hl
 obtain _ | ⟨a2,r2⟩:=r1
 ·simp at hl
 obtain _ | ⟨a3,r3⟩:=r2
 ·simp at hl
 obtain _ | ⟨a4,r4⟩:=r3
 ·simp at hl
 obtain _ | ⟨a5,r5⟩:=r4
 ·simp at hl
 obtain _ | ⟨x,y⟩:=r5
 ·exact h a0 a1 a2 a3 a4 a5
 ·simp at hl
open PySem PySem.Spec PyProof.Rows L2 in
def BQ (x qual:PySem.Str) (st:PySem.Stmt) (kV doc pm:PySem.Value) (an:Option PySem.Addr) (cdv ct:PySem.Value) (us:List PySem.Value):Prop:=PySem.bindArgs (PySem.W.fnOf x qual (eE st) (cA st) (a6 st) .none kV doc pm an cdv ct) ⟨us,[]⟩=pure ((cP st).zip us)
theorem fc {α:Type} {P:α→Prop} {a:α} {l:List α} (h:P a) (t:∀ x∈l,P x):∀ x∈a :: l,P x:=List.forall_mem_cons.mpr ⟨h,t⟩
section
open PySem PySem.Spec PyProof.Rows L2
abbrev Sc4 (st:Stmt):Prop:=(wL st).Nodup∧(wL st).take (cP st).length=cP st∧(∀ x∈cP st,(a6 st).names.lookup x=some .local∨(a6 st).names.lookup x=some .cell)∧∀ y∈(a6 st).names,y.2≠.free
abbrev AA (x qual:PySem.Str) (st:PySem.Stmt):Prop:=∀ (kV doc pm:PySem.Value) (an:Option PySem.Addr) (cdv ct:PySem.Value) (us:List PySem.Value),us.length=(cP st).length→BQ x qual st kV doc pm an cdv ct us
theorem cH {gl:PySem.Str→GV} {st:Stmt} {x qual:PySem.Str} {fn:Fn} (h1:(a6 st).kind=.function) (h2:(a6 st).isCoroutine=false) (h3:(a6 st).isGenerator=false) (h:Sc4 st∧(wL st).length=fn.pins.length+fn.nl∧(cP st).length=fn.pins.length) (b:fn.body=JG gl st) (q:AA x qual st):DefOkQ gl st x qual fn :=
 ⟨⟨h1,h2,h3,h.1.1,h.1.2.1,h.1.2.2.1,h.1.2.2.2⟩,b,h.2.1,h.2.2,q⟩
theorem DE {st:Stmt} {qual:PySem.Str} {ns:List PySem.Str} (h1:(a6 st).kind=.function) (h2:(a6 st).isCoroutine=false) (h3:(a6 st).isGenerator=false) (h:Sc4 st∧(cP st).length=ns.length+1∧ns.Nodup∧ns.length<1000) (b:lR (cP st) 1 (cA st)=some ns) (q:AA "__init__" qual st):IniOk st qual ns :=
 ⟨⟨h1,h2,h3,h.1.1,h.1.2.1,h.1.2.2.1,h.1.2.2.2⟩,b,h.2.1,h.2.2.1,h.2.2.2,q⟩
variable {x qual:PySem.Str} {st:Stmt}
theorem zD (hn:(cP st).length=1) (h:∀ kV doc pm an cdv ct a0,BQ x qual st kV doc pm an cdv ct [a0]):AA x qual st:=fun kV doc pm an cdv ct us hl=>aDW (h kV doc pm an cdv ct) us (hl.trans hn)
theorem lL (hn:(cP st).length=2) (h:∀ kV doc pm an cdv ct a0 a1,BQ x qual st kV doc pm an cdv ct [a0,a1]):AA x qual st:=fun kV doc pm an cdv ct us hl=>aEd (h kV doc pm an cdv ct) us (hl.trans hn)
theorem oX (hn:(cP st).length=3) (h:∀ kV doc pm an cdv ct a0 a1 a2,BQ x qual st kV doc pm an cdv ct [a0,a1,a2]):AA x qual st:=fun kV doc pm an cdv ct us hl=>aEt (h kV doc pm an cdv ct) us (hl.trans hn)
theorem mE (hn:(cP st).length=4) (h:∀ kV doc pm an cdv ct a0 a1 a2 a3,BQ x qual st kV doc pm an cdv ct [a0,a1,a2,a3]):AA x qual st:=fun kV doc pm an cdv ct us hl=>aDs (h kV doc pm an cdv ct) us (hl.trans hn)
theorem bn5 (hn:(cP st).length=5) (h:∀ kV doc pm an cdv ct a0 a1 a2 a3 a4,BQ x qual st kV doc pm an cdv ct [a0,a1,a2,a3,a4]):AA x qual st:=fun kV doc pm an cdv ct us hl=>aDQ (h kV doc pm an cdv ct) us (hl.trans hn)
theorem bn6 (hn:(cP st).length=6) (h:∀ kV doc pm an cdv ct a0 a1 a2 a3 a4 a5,BQ x qual st kV doc pm an cdv ct [a0,a1,a2,a3,a4,a5]):AA x qual st:=fun kV doc pm an cdv ct us hl=>aEe (h kV doc pm an cdv ct) us (hl.trans hn)
end
noncomputable def ZA (n:Int) (ρ:Env):Option (Int × List Int)→aS RV
 | some k=>some (.ok (.ow (.dcs [(k,n)])),ρ)
 | none=>none
noncomputable def kD1 (n:Int) (v:RV) (ρ:Env):aS RV:=ZA n ρ (iW v.d)
theorem aDk {n:Int} {k:Int × List Int}:ZA n ρ (some k)=some (.ok (.ow (.dcs [(k,n)])),ρ):=rfl
theorem aEi {n:Int} {v:RV}:kD1 n v ρ=ZA n ρ (iW v.d):=rfl
theorem PH {a:E} {n:Int}:ev P C t (.dict1 a n) ρ=bK t ((ev P C false a ρ).bind (kD1 n)):=rfl
theorem kJ:∀ ns:List Int,dI (ns.map D.int)=some ns
 | []=>rfl
 | n :: r=>by
  show (dI (r.map D.int)).map (n :: ·)=_;rw [kJ r]; rfl
theorem gC {t:Int} {ns:List Int}:iW (.tup [.int t,.tup (ns.map D.int)])=some (t,ns):=by
 show (dI (ns.map D.int)).map _=_;rw [kJ]; rfl
theorem aBk {kvs:List ((Int × List Int) × Int)} {t:Int} {ns:List Int} {n:Int} (h:gW kvs (t,ns)=some n):eX (some (.dcs kvs)) (.tup [.int t,.tup (ns.map D.int)])=some (.sh (.int n)):=by
 show ((((iW _).bind (gW kvs)).map D.int).map RV.sh)=_;rw [gC];show (((gW kvs (t,ns)).map D.int).map RV.sh)=_;rw [h]; rfl
theorem j7 {kvs:List ((Int × List Int) × Int)} {t:Int} {ns:List Int}:bX .In (.tup [.int t,.tup (ns.map D.int)]) (.dcs kvs)=some (gW kvs (t,ns)).isSome:=by
 show (iW _).map _=_;rw [gC]; rfl
end CI
namespace Tx
open PySem PySem.Spec PyProof.Rows L2 CI
noncomputable def top (i:Nat):Stmt:=PySem.Challenge.pw_canonwright_k36_notes_that_show_a_round.main.body.getD i (.Pass ⟨0,0,0,0⟩)
noncomputable def dN:List (Str × String):=[("Span","Span.broken"),("Leap","Leap.broken"),("Back","Back.broken"),("Again","Again.broken"),("Range","Range.broken"),("Above","Above.broken"),("Never","Never.broken")]
noncomputable def fB:List (Str × String):=[("Span","Span.forbids"),("Range","Range.forbids")]
noncomputable def L:List (Str × GV):=[((Str.ofString "BAR",GV.con (.int 1)):Str × GV),((Str.ofString "OCTAVE",GV.con (.int 2)):Str × GV),((Str.ofString "VOICES",GV.con (.int 3)):Str × GV),((Str.ofString "RULES",GV.con (.int 4)):Str × GV),((Str.ofString "LATE",GV.con (.int 0)):Str × GV),((Str.ofString "SHIFT",GV.con (.int 1)):Str × GV),((Str.ofString "TURNED",GV.con (.int 2)):Str × GV),((Str.ofString "LEADER",GV.con (.tup [(.int 0),(.int 0),(.bl false)])):Str × GV),((Str.ofString "BY_THE_LINE",GV.con (.tup [])):Str × GV),((Str.ofString "LEAST_MEMORY",GV.con (.int 3)):Str × GV),((Str.ofString "pitch",GV.fn "pitch"):Str × GV),((Str.ofString "singer",GV.fn "singer"):Str × GV),((Str.ofString "sung",GV.fn "sung"):Str × GV),((Str.ofString "span",GV.fn "span"):Str × GV),((Str.ofString "chord",GV.fn "chord"):Str × GV),((Str.ofString "sounding_pairs",GV.fn "sounding_pairs"):Str × GV),((Str.ofString "move_so",GV.fn "move_so"):Str × GV),((Str.ofString "rule_of",GV.fn "rule_of"):Str × GV),((Str.ofString "rules_of",GV.fn "rules_of"):Str × GV),((Str.ofString "breaks_at",GV.fn "breaks_at"):Str × GV),((Str.ofString "first_break",GV.fn "first_break"):Str × GV),((Str.ofString "is_let_by",GV.fn "is_let_by"):Str × GV),((Str.ofString "memory",GV.fn "memory"):Str × GV),((Str.ofString "turn_of",GV.fn "turn_of"):Str × GV),((Str.ofString "stand_of",GV.fn "stand_of"):Str × GV),((Str.ofString "shows_round",GV.fn "shows_round"):Str × GV),((Str.ofString "_law_pen",GV.fn "L_pen"):Str × GV),((Str.ofString "_law_draw",GV.fn "L_draw"):Str × GV),((Str.ofString "_law_rule",GV.fn "L_rule"):Str × GV),((Str.ofString "_law_house",GV.fn "L_house"):Str × GV),((Str.ofString "_law_line",GV.fn "L_line"):Str × GV),((Str.ofString "_law_heard",GV.fn "L_heard"):Str × GV),((Str.ofString "_law_by_line",GV.fn "L_by_line"):Str × GV),((Str.ofString "_law_moved_so",GV.fn "L_moved_so"):Str × GV),((Str.ofString "_law_bad_pair",GV.fn "L_bad_pair"):Str × GV),((Str.ofString "_law_broken",GV.fn "L_broken"):Str × GV),((Str.ofString "_law_breaks",GV.fn "L_breaks"):Str × GV),((Str.ofString "_law_memory",GV.fn "L_memory"):Str × GV),((Str.ofString "_law_stand",GV.fn "L_stand"):Str × GV),((Str.ofString "_law_as_line",GV.fn "L_as_line"):Str × GV),((Str.ofString "_law_free",GV.fn "L_free"):Str × GV),((Str.ofString "_law_ways",GV.fn "L_ways"):Str × GV),((Str.ofString "_law_sung",GV.fn "L_sung"):Str × GV),((Str.ofString "_law_due",GV.fn "L_due"):Str × GV),((Str.ofString "_law_wander",GV.fn "L_wander"):Str × GV),((Str.ofString "_law_spoilt",GV.fn "L_spoilt"):Str × GV),((Str.ofString "_law_asked",GV.fn "L_asked"):Str × GV),((Str.ofString "law",GV.fn "law"):Str × GV),((Str.ofString "Span",GV.cls ["beat","spans"]):Str × GV),((Str.ofString "Leap",GV.cls ["most"]):Str × GV),((Str.ofString "Back",GV.cls ["leap","most"]):Str × GV),((Str.ofString "Again",GV.cls ["most"]):Str × GV),((Str.ofString "Range",GV.cls ["low","high"]):Str × GV),((Str.ofString "Above",GV.cls ["one","other"]):Str × GV),((Str.ofString "Never",GV.cls ["one","other","way"]):Str × GV),((sC "broken",GV.mth dN):Str × GV),((sC "forbids",GV.mth fB):Str × GV),((Str.ofString "abs",GV.blt):Str × GV),((Str.ofString "all",GV.blt):Str × GV),((Str.ofString "bool",GV.blt):Str × GV),((Str.ofString "enumerate",GV.blt):Str × GV),((Str.ofString "int",GV.blt):Str × GV),((Str.ofString "isinstance",GV.blt):Str × GV),((Str.ofString "len",GV.blt):Str × GV),((Str.ofString "list",GV.blt):Str × GV),((Str.ofString "max",GV.blt):Str × GV),((Str.ofString "range",GV.blt):Str × GV),((Str.ofString "set",GV.blt):Str × GV),((Str.ofString "tuple",GV.blt):Str × GV)]
noncomputable def U3:Stmt→List Stmt
 | .ClassDef _ _ _ body _ _ _ _ _ _ _=>body
 | _=>[]
noncomputable def eA (i j:Nat):Stmt:=(U3 (top i)).getD j (.Pass ⟨0,0,0,0⟩)
noncomputable def pD:E:=(.call "sung" [(.var 1),(.var 2),(.var 4),(.var 0)])
noncomputable def jI:E:=(.tup [(.var 4),(.var 5)])
noncomputable def iP:E:=(.cmp .Eq (.var 3) (.ix (.var 1) (.var 0)))
noncomputable def iL:E:=(.tup [(.var 2)])
noncomputable def lC:E:=(.call "rule_of" [(.var 1)])
noncomputable def nS:E:=(.ix (.var 1) (.con (.int 0)))
noncomputable def nW:E:=(.call "L_draw" [(.var 1),(.var 0)])
noncomputable def kZ:E:=(.tup [(.var 3)])
noncomputable def lF:E:=(.bin .Add (.con (.int 1)) (.ix (.var 1) (.con (.int 0))))
noncomputable def nR:E:=(.var 3)
noncomputable def i8:E:=(.var 1)
noncomputable def gK:List S:=[(.ifs (.and (.cmp .IsNot (.ix (.var 0) (.var 2)) (.con .non)) (.cmp .IsNot (.ix (.var 0) (.var 3)) (.con .non))) [(.expr (.app 1 (.tup [(.var 2),(.var 3)])))] [])]
noncomputable def gI:List S:=[(.for [3] true .rng [(.bin .Add (.var 2) (.con (.int 1))),(.bif .len [(.var 0)])] gK)]
noncomputable def iS:List S:=[(.ifs (.and (.cmp .Eq (.call "span" [(.var 4),(.ix (.var 5) (.var 8)),(.ix (.var 5) (.var 9))]) (.fld (.var 0) "one")) (.cmp .Eq (.call "span" [(.var 4),(.ix (.var 6) (.var 8)),(.ix (.var 6) (.var 9))]) (.fld (.var 0) "other"))) [(.ifs (.call "move_so" [(.fld (.var 0) "way"),(.bin .Sub (.ix (.var 6) (.var 8)) (.ix (.var 5) (.var 8))),(.bin .Sub (.ix (.var 6) (.var 9)) (.ix (.var 5) (.var 9)))]) [(.expr (.app 7 (.tup [(.var 8),(.var 9)])))] [])] [])]
noncomputable def kE:List S:=[(.expr (.app 4 (.tup [(.var 3),(.var 5),(.var 7)])))]
noncomputable def kI:List S:=[(.for [7] true .of [(.meth 6 "broken" dN [(.var 0),(.var 2),(.var 3)])] kE)]
noncomputable def jC:List S:=[(.asg 4 (.call "breaks_at" [(.var 0),(.var 2),(.var 1),(.var 3)])),(.ifs (.cmp .Gt (.bif .len [(.var 4)]) (.con (.int 0))) [(.ret (.ix (.var 4) (.con (.int 0))))] [])]
noncomputable def mQ:List S:=[(.asg 8 (.call "L_draw" [(.var 0),(.ix (.lst [(.con (.int 2)),(.con (.int 5))]) (.bif .int [(.var 1)]))])),(.expr (.app 6 (.tup [(.var 8),(.bin .Sub (.call "L_draw" [(.var 0),(.con (.int 25))]) (.con (.int 12))),(.cmp .Eq (.call "L_draw" [(.var 0),(.con (.int 4))]) (.con (.int 0)))])))]
noncomputable def mH:List S:=[(.expr (.app 9 (.call "L_rule" [(.var 0),(.var 2),(.var 3),(.var 4),(.var 5)])))]
noncomputable def mN:List S:=[(.asg 7 (.con .non)),(.ifs (.cmp2 .LtE .Lt (.con (.int 0)) (.bin .Sub (.var 2) (.var 4)) (.bif .len [(.var 1)])) [(.asg 7 (.bin .Add (.var 5) (.ix (.var 1) (.bin .Sub (.var 2) (.var 4))))),(.ifs (.var 6) [(.asg 7 (.bin .Sub (.var 5) (.ix (.var 1) (.bin .Sub (.var 2) (.var 4)))))] [])] []),(.expr (.app 3 (.var 7)))]
noncomputable def gD:List S:=[(.ifs (.call "L_bad_pair" [(.var 0),(.var 1),(.var 8),(.var 4),(.var 5),(.var 10)]) [(.expr (.app 9 (.tup [(.var 5),(.var 10)])))] [])]
noncomputable def gE:List S:=[(.for [10] true .rng [(.bin .Add (.var 5) (.con (.int 1))),(.bif .len [(.var 4)])] gD)]
noncomputable def lB:List S:=[(.expr (.app 2 (.tup [(.var 3),(.var 4),(.var 5)])))]
noncomputable def lD:List S:=[(.for [5] true .of [(.call "L_broken" [(.var 0),(.ix (.ix (.var 0) (.con (.int 4))) (.var 4)),(.var 1),(.var 3)])] lB)]
noncomputable def lE:List S:=[(.for [4] true .rng [(.bif .len [(.ix (.var 0) (.con (.int 4)))])] lD)]
noncomputable def nU:List S:=[(.ifs (.cmp .NotEq (.call "L_broken" [(.var 0),(.var 2),(.var 1),(.bin .Sub (.bif .len [(.var 1)]) (.con (.int 1)))]) (.lst [])) [(.ret (.con (.bl false)))] [])]
noncomputable def n0:List S:=[(.asg 4 (.bin .Add (.call "L_as_line" [(.var 1)]) (.lst [(.var 3)]))),(.ifs (.call "L_free" [(.var 0),(.var 4)]) [(.expr (.app 2 (.tup [(.var 3),(.call "L_stand" [(.var 0),(.var 4)])])))] [])]
noncomputable def nZ:List S:=[(.asg 5 (.comp nR [3] .rng [(.ix (.var 0) (.con (.int 0)))] [(.call "L_free" [(.var 0),(.bin .Add (.var 1) (.lst [(.var 3)]))])] [0,3] 2)),(.ifs (.cmp .NotEq (.var 5) (.lst [])) [(.expr (.app 3 (.ix (.var 5) (.call "L_draw" [(.var 1),(.bif .len [(.var 5)])]))))] [])]
noncomputable def cR:List S:=[(.asg 6 (.comp i8 [1,2] .of [(.call "L_ways" [(.var 0),(.call "L_stand" [(.var 0),(.bin .Add (.var 1) (.var 4))])])] [] [] 3)),(.ifs (.cmp .Eq (.var 6) (.lst [])) [(.asg 6 (.lrng [(.ix (.var 0) (.con (.int 0)))]))] []),(.expr (.app 4 (.ix (.var 6) (.call "L_draw" [(.var 2),(.bif .len [(.var 6)])])))),(.asg 7 (.call "L_stand" [(.var 0),(.bin .Add (.var 1) (.var 4))])),(.ifs (.cmp .In (.var 7) (.var 3)) [(.ret (.lst [(.sl (.var 4) .omt (.ix (.var 3) (.var 7))),(.sl (.var 4) (.ix (.var 3) (.var 7)) .omt)]))] []),(.set 3 (.var 7) (.bif .len [(.var 4)]))]
noncomputable def vI:List S:=[(.asgT [7,8] (.call "L_spoilt" [(.call "L_pen" [(.var 0),(.bin .Add (.con (.int 4)) (.var 6))]),(.var 1),(.var 4),(.var 5)])),(.ifs (.not (.call "L_asked" [(.var 1),(.var 3),(.var 7),(.var 8)])) [(.ret (.con (.bl false)))] [])]
noncomputable def nM:S:=(.asg 5 (.call "L_draw" [(.var 0),(.con (.int 9))]))
theorem AZ {P:aQ} {C:Calls} {W:Nat} {ρ:CI.Env}:ex P C W nM ρ=ex P C W (.asg 5 (.call "L_draw" [(.var 0),(.con (.int 9))])) ρ:=(rfl)
noncomputable def nX:S:=(.ifs (.cmp .Lt (.var 5) (.con (.int 2))) [(.ret (.tup [(.con (.str ("span":Str))),(.call "L_draw" [(.var 0),(.var 2)]),(.call "L_draw" [(.var 0),(.bin .LShift (.con (.int 1)) (.var 3))])]))] [])
theorem pX {P:aQ} {C:Calls} {W:Nat} {ρ:CI.Env}:ex P C W nX ρ=ex P C W (.ifs (.cmp .Lt (.var 5) (.con (.int 2))) [(.ret (.tup [(.con (.str ("span":Str))),(.call "L_draw" [(.var 0),(.var 2)]),(.call "L_draw" [(.var 0),(.bin .LShift (.con (.int 1)) (.var 3))])]))] []) ρ:=(rfl)
noncomputable def uA:S:=(.ifs (.cmp .Eq (.var 5) (.con (.int 2))) [(.ret (.tup [(.con (.str ("span":Str))),(.call "L_draw" [(.var 0),(.var 2)]),(.bin .Sub (.bin .Sub (.bin .LShift (.con (.int 1)) (.var 3)) (.con (.int 1))) (.bin .LShift (.con (.int 1)) (.call "L_draw" [(.var 0),(.var 3)])))]))] [])
theorem pT {P:aQ} {C:Calls} {W:Nat} {ρ:CI.Env}:ex P C W uA ρ=ex P C W (.ifs (.cmp .Eq (.var 5) (.con (.int 2))) [(.ret (.tup [(.con (.str ("span":Str))),(.call "L_draw" [(.var 0),(.var 2)]),(.bin .Sub (.bin .Sub (.bin .LShift (.con (.int 1)) (.var 3)) (.con (.int 1))) (.bin .LShift (.con (.int 1)) (.call "L_draw" [(.var 0),(.var 3)])))]))] []) ρ:=(rfl)
noncomputable def uQ:S:=(.ifs (.cmp .Eq (.var 5) (.con (.int 3))) [(.ret (.tup [(.con (.str ("leap":Str))),(.call "L_draw" [(.var 0),(.ix (.lst [(.con (.int 13)),(.bin .Add (.var 1) (.con (.int 1)))]) (.call "L_draw" [(.var 0),(.con (.int 2))]))])]))] [])
theorem qK {P:aQ} {C:Calls} {W:Nat} {ρ:CI.Env}:ex P C W uQ ρ=ex P C W (.ifs (.cmp .Eq (.var 5) (.con (.int 3))) [(.ret (.tup [(.con (.str ("leap":Str))),(.call "L_draw" [(.var 0),(.ix (.lst [(.con (.int 13)),(.bin .Add (.var 1) (.con (.int 1)))]) (.call "L_draw" [(.var 0),(.con (.int 2))]))])]))] []) ρ:=(rfl)
noncomputable def uI:S:=(.ifs (.cmp .Eq (.var 5) (.con (.int 4))) [(.ret (.tup [(.con (.str ("back":Str))),(.bin .Add (.con (.int 1)) (.call "L_draw" [(.var 0),(.con (.int 12))])),(.bin .Add (.con (.int 1)) (.call "L_draw" [(.var 0),(.con (.int 12))]))]))] [])
theorem qS {P:aQ} {C:Calls} {W:Nat} {ρ:CI.Env}:ex P C W uI ρ=ex P C W (.ifs (.cmp .Eq (.var 5) (.con (.int 4))) [(.ret (.tup [(.con (.str ("back":Str))),(.bin .Add (.con (.int 1)) (.call "L_draw" [(.var 0),(.con (.int 12))])),(.bin .Add (.con (.int 1)) (.call "L_draw" [(.var 0),(.con (.int 12))]))]))] []) ρ:=(rfl)
noncomputable def uE:S:=(.ifs (.cmp .Eq (.var 5) (.con (.int 5))) [(.ret (.tup [(.con (.str ("again":Str))),(.bin .Add (.con (.int 1)) (.call "L_draw" [(.var 0),(.con (.int 3))]))]))] [])
theorem q0 {P:aQ} {C:Calls} {W:Nat} {ρ:CI.Env}:ex P C W uE ρ=ex P C W (.ifs (.cmp .Eq (.var 5) (.con (.int 5))) [(.ret (.tup [(.con (.str ("again":Str))),(.bin .Add (.con (.int 1)) (.call "L_draw" [(.var 0),(.con (.int 3))]))]))] []) ρ:=(rfl)
noncomputable def uN:S:=(.ifs (.cmp .Eq (.var 5) (.con (.int 6))) [(.asg 6 (.ix (.lst [(.bin .Sub (.call "L_draw" [(.var 0),(.con (.int 121))]) (.con (.int 60))),(.bin .Sub (.call "L_draw" [(.var 0),(.con (.int 20))]) (.con (.int 12)))]) (.call "L_draw" [(.var 0),(.con (.int 2))]))),(.ret (.tup [(.con (.str ("range":Str))),(.var 6),(.bin .Add (.var 6) (.call "L_draw" [(.var 0),(.bin .Sub (.con (.int 61)) (.var 6))]))]))] [])
theorem pP {P:aQ} {C:Calls} {W:Nat} {ρ:CI.Env}:ex P C W uN ρ=ex P C W (.ifs (.cmp .Eq (.var 5) (.con (.int 6))) [(.asg 6 (.ix (.lst [(.bin .Sub (.call "L_draw" [(.var 0),(.con (.int 121))]) (.con (.int 60))),(.bin .Sub (.call "L_draw" [(.var 0),(.con (.int 20))]) (.con (.int 12)))]) (.call "L_draw" [(.var 0),(.con (.int 2))]))),(.ret (.tup [(.con (.str ("range":Str))),(.var 6),(.bin .Add (.var 6) (.call "L_draw" [(.var 0),(.bin .Sub (.con (.int 61)) (.var 6))]))]))] []) ρ:=(rfl)
noncomputable def uL:S:=(.ifs (.cmp .Eq (.var 5) (.con (.int 7))) [(.asg 7 (.call "L_draw" [(.var 0),(.bin .Add (.var 4) (.con (.int 1)))])),(.ret (.tup [(.con (.str ("above":Str))),(.var 7),(.bin .Mod (.bin .Add (.bin .Add (.var 7) (.con (.int 1))) (.call "L_draw" [(.var 0),(.var 4)])) (.bin .Add (.var 4) (.con (.int 1))))]))] [])
theorem rB {P:aQ} {C:Calls} {W:Nat} {ρ:CI.Env}:ex P C W uL ρ=ex P C W (.ifs (.cmp .Eq (.var 5) (.con (.int 7))) [(.asg 7 (.call "L_draw" [(.var 0),(.bin .Add (.var 4) (.con (.int 1)))])),(.ret (.tup [(.con (.str ("above":Str))),(.var 7),(.bin .Mod (.bin .Add (.bin .Add (.var 7) (.con (.int 1))) (.call "L_draw" [(.var 0),(.var 4)])) (.bin .Add (.var 4) (.con (.int 1))))]))] []) ρ:=(rfl)
noncomputable def uX:S:=(.asg 8 (.tup [(.con (.str ("like":Str))),(.con (.str ("against":Str))),(.con (.str ("aside":Str))),(.con (.str ("any":Str)))]))
theorem AR {P:aQ} {C:Calls} {W:Nat} {ρ:CI.Env}:ex P C W uX ρ=ex P C W (.asg 8 (.tup [(.con (.str ("like":Str))),(.con (.str ("against":Str))),(.con (.str ("aside":Str))),(.con (.str ("any":Str)))])) ρ:=(rfl)
noncomputable def uU:S:=(.ret (.tup [(.con (.str ("never":Str))),(.call "L_draw" [(.var 0),(.var 3)]),(.call "L_draw" [(.var 0),(.var 3)]),(.ix (.var 8) (.call "L_draw" [(.var 0),(.con (.int 4))]))]))
theorem AN {P:aQ} {C:Calls} {W:Nat} {ρ:CI.Env}:ex P C W uU ρ=ex P C W (.ret (.tup [(.con (.str ("never":Str))),(.call "L_draw" [(.var 0),(.var 3)]),(.call "L_draw" [(.var 0),(.var 3)]),(.ix (.var 8) (.call "L_draw" [(.var 0),(.con (.int 4))]))])) ρ:=(rfl)
noncomputable def pC:Fn:=⟨[true,true],0,[(.ifs (.ix (.var 0) (.con (.int 2))) [(.ret (.bin .Sub (.ix (.var 0) (.con (.int 1))) (.var 1)))] []),(.ret (.bin .Add (.ix (.var 0) (.con (.int 1))) (.var 1)))],false⟩
noncomputable def nG:Fn:=⟨[true,true],0,[(.ifs (.cmp .Eq (.var 1) (.con (.int 0))) [(.ret (.con (.tup [(.int 0),(.int 0),(.bl false)])))] []),(.ret (.ix (.ix (.var 0) (.con (.int 3))) (.bin .Sub (.var 1) (.con (.int 1)))))],false⟩
noncomputable def tP:Fn:=⟨[true,true,true,true],2,[(.asg 4 (.call "singer" [(.var 0),(.var 2)])),(.asg 5 (.bin .Sub (.var 3) (.ix (.var 4) (.con (.int 0))))),(.ifs (.cmp2 .LtE .Lt (.con (.int 0)) (.var 5) (.bif .len [(.var 1)])) [(.ret (.call "pitch" [(.var 4),(.ix (.var 1) (.var 5))]))] []),(.ret (.con .non))],false⟩
noncomputable def tL:Fn:=⟨[true,true,true],0,[(.ret (.bin .Mod (.bif .abs [(.bin .Sub (.var 1) (.var 2))]) (.var 0)))],false⟩
noncomputable def pE:Fn:=⟨[true,true,true],0,[(.ret (.comp pD [4] .rng [(.bin .Add (.bif .len [(.ix (.var 0) (.con (.int 3)))]) (.con (.int 1)))] [] [2,0,1] 2))],false⟩
noncomputable def fG:Fn:=⟨[true],3,[(.asg 1 (.lst [])),(.for [2] true .rng [(.bif .len [(.var 0)])] gI),(.ret (.var 1))],false⟩
noncomputable def lP:Fn:=⟨[true,true,true],0,[(.ifs (.cmp .Eq (.var 0) (.con (.str ("like":Str)))) [(.ret (.cmp .Gt (.bin .Mult (.var 1) (.var 2)) (.con (.int 0))))] []),(.ifs (.cmp .Eq (.var 0) (.con (.str ("against":Str)))) [(.ret (.cmp .Lt (.bin .Mult (.var 1) (.var 2)) (.con (.int 0))))] []),(.ifs (.cmp .Eq (.var 0) (.con (.str ("aside":Str)))) [(.ret (.cmp .NotEq (.cmp .Eq (.var 1) (.con (.int 0))) (.cmp .Eq (.var 2) (.con (.int 0)))))] []),(.ret (.con (.bl true)))],false⟩
noncomputable def iE:Fn:=⟨[true,true,true,true],2,[(.ifs (.cmp .NotEq (.bin .Mod (.var 3) (.ix (.var 1) (.con (.int 1)))) (.fld (.var 0) "beat")) [(.ret (.lst []))] []),(.asg 4 (.ix (.var 1) (.con (.int 2)))),(.asg 5 (.call "chord" [(.var 1),(.var 2),(.var 3)])),(.ret (.comp jI [4,5] .of [(.call "sounding_pairs" [(.var 5)])] [(.meth 2 "forbids" fB [(.call "span" [(.var 1),(.ix (.var 0) (.var 4)),(.ix (.var 0) (.var 5))])])] [5,4,0] 3))],false⟩
noncomputable def gS:Fn:=⟨[true,true],0,[(.ret (.cmp .Eq (.bin .BitAnd (.bin .RShift (.fld (.var 0) "spans") (.var 1)) (.con (.int 1))) (.con (.int 0))))],false⟩
noncomputable def iJ:Fn:=⟨[true,true,true,false],0,[(.ifs (.and (.cmp .Gt (.var 3) (.con (.int 0))) (.cmp .Gt (.bif .abs [(.bin .Sub (.ix (.var 2) (.var 3)) (.ix (.var 2) (.bin .Sub (.var 3) (.con (.int 1)))))]) (.fld (.var 0) "most"))) [(.ret (.lst [(.con (.tup []))]))] []),(.ret (.lst []))],false⟩
noncomputable def iH:Fn:=⟨[true,true,true,false],2,[(.ifs (.cmp .Lt (.var 3) (.con (.int 2))) [(.ret (.lst []))] []),(.asg 4 (.bin .Sub (.ix (.var 2) (.bin .Sub (.var 3) (.con (.int 1)))) (.ix (.var 2) (.bin .Sub (.var 3) (.con (.int 2)))))),(.asg 5 (.bin .Sub (.ix (.var 2) (.var 3)) (.ix (.var 2) (.bin .Sub (.var 3) (.con (.int 1)))))),(.ifs (.cmp .Lt (.bif .abs [(.var 4)]) (.fld (.var 0) "leap")) [(.ret (.lst []))] []),(.ifs (.and (.cmp .Lt (.bin .Mult (.var 4) (.var 5)) (.con (.int 0))) (.cmp .LtE (.bif .abs [(.var 5)]) (.fld (.var 0) "most"))) [(.ret (.lst []))] []),(.ret (.lst [(.con (.tup []))]))],false⟩
noncomputable def gX:Fn:=⟨[true,true,true,false],0,[(.ifs (.cmp .Lt (.var 3) (.fld (.var 0) "most")) [(.ret (.lst []))] []),(.ifs (.bif .all [(.comp iP [3] .of [(.sl (.var 2) (.bin .Sub (.var 3) (.fld (.var 0) "most")) (.var 3))] [] [3,2] 2)]) [(.ret (.lst [(.con (.tup []))]))] []),(.ret (.lst []))],false⟩
noncomputable def gM:Fn:=⟨[true,true,true,true],0,[(.ret (.comp iL [2,3] (.enum 0) [(.call "chord" [(.var 1),(.var 2),(.var 3)])] [(.meth 0 "forbids" fB [(.var 3)])] [0] 3))],false⟩
noncomputable def fV:Fn:=⟨[true,true],0,[(.ret (.and (.cmp .IsNot (.var 1) (.con .non)) (.not (.cmp2 .LtE .LtE (.fld (.var 0) "low") (.var 1) (.fld (.var 0) "high")))))],false⟩
noncomputable def gP:Fn:=⟨[true,true,true,true],2,[(.asg 4 (.call "sung" [(.var 1),(.var 2),(.fld (.var 0) "one"),(.var 3)])),(.asg 5 (.call "sung" [(.var 1),(.var 2),(.fld (.var 0) "other"),(.var 3)])),(.ifs (.or (.cmp .Is (.var 4) (.con .non)) (.or (.cmp .Is (.var 5) (.con .non)) (.cmp .GtE (.var 4) (.var 5)))) [(.ret (.lst []))] []),(.ret (.lst [(.tup [(.fld (.var 0) "one"),(.fld (.var 0) "other")])]))],false⟩
noncomputable def gN:Fn:=⟨[true,true,true,true],6,[(.asg 4 (.ix (.var 1) (.con (.int 2)))),(.asg 5 (.call "chord" [(.var 1),(.var 2),(.bin .Sub (.var 3) (.con (.int 1)))])),(.asg 6 (.call "chord" [(.var 1),(.var 2),(.var 3)])),(.asg 7 (.lst [])),(.for [8,9] false .of [(.call "sounding_pairs" [(.var 5)])] iS),(.ret (.var 7))],false⟩
noncomputable def dH:Fn:=⟨[true],1,[(.asg 1 (.ix (.var 0) (.con (.int 0)))),(.ifs (.cmp .Eq (.var 1) (.con (.str ("span":Str)))) [(.ret (.make "Span" ["beat","spans"] [(.ix (.var 0) (.con (.int 1))),(.ix (.var 0) (.con (.int 2)))]))] []),(.ifs (.cmp .Eq (.var 1) (.con (.str ("leap":Str)))) [(.ret (.make "Leap" ["most"] [(.ix (.var 0) (.con (.int 1)))]))] []),(.ifs (.cmp .Eq (.var 1) (.con (.str ("back":Str)))) [(.ret (.make "Back" ["leap","most"] [(.ix (.var 0) (.con (.int 1))),(.ix (.var 0) (.con (.int 2)))]))] []),(.ifs (.cmp .Eq (.var 1) (.con (.str ("again":Str)))) [(.ret (.make "Again" ["most"] [(.ix (.var 0) (.con (.int 1)))]))] []),(.ifs (.cmp .Eq (.var 1) (.con (.str ("range":Str)))) [(.ret (.make "Range" ["low","high"] [(.ix (.var 0) (.con (.int 1))),(.ix (.var 0) (.con (.int 2)))]))] []),(.ifs (.cmp .Eq (.var 1) (.con (.str ("above":Str)))) [(.ret (.make "Above" ["one","other"] [(.ix (.var 0) (.con (.int 1))),(.ix (.var 0) (.con (.int 2)))]))] []),(.ret (.make "Never" ["one","other","way"] [(.ix (.var 0) (.con (.int 1))),(.ix (.var 0) (.con (.int 2))),(.ix (.var 0) (.con (.int 3)))]))],false⟩
noncomputable def kQ:Fn:=⟨[true],0,[(.ret (.comp lC [1] .of [(.ix (.var 0) (.con (.int 4)))] [] [] 2))],false⟩
noncomputable def jZ:Fn:=⟨[true,true,true,false],4,[(.asg 4 (.lst [])),(.for [5,6] false (.enum 0) [(.var 1)] kI),(.ret (.var 4))],false⟩
noncomputable def iK:Fn:=⟨[true,true],3,[(.asg 2 (.call "rules_of" [(.var 0)])),(.for [3] true .rng [(.bif .len [(.var 1)])] jC),(.ret (.con .non))],false⟩
noncomputable def jW:Fn:=⟨[true,true],0,[(.ret (.cmp .Is (.call "first_break" [(.var 0),(.var 1)]) (.con .non)))],false⟩
noncomputable def nI:Fn:=⟨[true],0,[(.ret (.bif .max [(.con (.int 3)),(.bin .Add (.con (.int 1)) (.bif .max [(.comp nS [1] .of [(.ix (.var 0) (.con (.int 3)))] [] [] 2)]))]))],false⟩
noncomputable def lT:Fn:=⟨[true,false],1,[(.asg 2 (.call "memory" [(.var 0)])),(.ifs (.cmp .LtE (.var 1) (.var 2)) [(.ret (.var 1))] []),(.ret (.bin .Add (.var 2) (.bin .Mod (.bin .Sub (.var 1) (.var 2)) (.ix (.var 0) (.con (.int 1))))))],false⟩
noncomputable def kL:Fn:=⟨[true,true],0,[(.ret (.tup [(.call "turn_of" [(.var 0),(.bif .len [(.var 1)])]),(.bif .tuple [(.sl (.var 1) (.neg (.call "memory" [(.var 0)])) .omt)])]))],false⟩
noncomputable def iD:Fn:=⟨[true,true,true,true],2,[(.asg 4 (.bin .Add (.var 1) (.var 2))),(.asg 5 (.bin .Add (.var 4) (.var 3))),(.ret (.and (.cmp .Gt (.bif .len [(.var 3)]) (.con (.int 0))) (.and (.cmp .Eq (.call "stand_of" [(.var 0),(.var 4)]) (.call "stand_of" [(.var 0),(.var 5)])) (.call "is_let_by" [(.var 0),(.var 5)]))))],false⟩
noncomputable def o7:Fn:=⟨[true,false],1,[(.ifs (.and (.cmp .Lt (.var 1) (.bif .len [(.var 0)])) (.cmp .Eq (.bin .Mod (.ix (.var 0) (.con (.int 0))) (.con (.int 2))) (.con (.int 0)))) [(.ret (.lst [(.con (.int 0)),(.ix (.var 0) (.var 1))]))] []),(.asg 2 (.bin .Add (.bin .Mult (.con (.int 30011)) (.var 1)) (.con (.int 7)))),(.ifs (.cmp .Gt (.bif .len [(.var 0)]) (.con (.int 0))) [(.asg 2 (.bin .Mod (.ix (.var 0) (.bin .Mod (.var 1) (.bif .len [(.var 0)]))) (.con (.int 2147483587)))),(.asg 2 (.bin .Add (.bin .Add (.var 2) (.bin .Mult (.con (.int 48611)) (.bin .FloorDiv (.var 1) (.bif .len [(.var 0)])))) (.bin .Mult (.con (.int 3)) (.var 1))))] []),(.ret (.lst [(.con (.int 1)),(.bin .Mod (.bin .Add (.bin .Add (.bin .Mult (.var 2) (.con (.int 48271))) (.bin .Mult (.con (.int 11)) (.var 1))) (.con (.int 1))) (.con (.int 2147483647)))]))],false⟩
noncomputable def nD:Fn:=⟨[true,true],2,[(.ifs (.cmp .Eq (.ix (.var 0) (.con (.int 0))) (.con (.int 0))) [(.asg 2 (.bin .Mod (.ix (.var 0) (.con (.int 1))) (.var 1))),(.set 0 (.con (.int 1)) (.bin .FloorDiv (.ix (.var 0) (.con (.int 1))) (.var 1))),(.ret (.var 2))] []),(.set 0 (.con (.int 1)) (.bin .Mod (.bin .Add (.bin .Mult (.ix (.var 0) (.con (.int 1))) (.con (.int 69621))) (.con (.int 7))) (.con (.int 2147483629)))),(.asg 3 (.bin .Mod (.bin .Mult (.bin .Add (.bin .Add (.bin .Mult (.bin .Mod (.ix (.var 0) (.con (.int 1))) (.con (.int 65521))) (.con (.int 40503))) (.bin .FloorDiv (.ix (.var 0) (.con (.int 1))) (.con (.int 65521)))) (.con (.int 1))) (.con (.int 16807))) (.con (.int 2147483647)))),(.ret (.bin .Mod (.bin .FloorDiv (.var 3) (.con (.int 13))) (.var 1)))],false⟩
noncomputable def nB:Fn:=⟨[true,true,true,true,true],4,[nM,nX,uA,uQ,uI,uE,uN,uL,uX,uU],false⟩
noncomputable def lV:Fn:=⟨[true],9,[(.asg 1 (.cmp .Eq (.call "L_draw" [(.var 0),(.con (.int 2))]) (.con (.int 0)))),(.asg 2 (.bin .Add (.con (.int 1)) (.call "L_draw" [(.var 0),(.ix (.lst [(.con (.int 4)),(.con (.int 7))]) (.bif .int [(.var 1)]))]))),(.asg 3 (.bin .Add (.con (.int 1)) (.call "L_draw" [(.var 0),(.ix (.lst [(.con (.int 2)),(.con (.int 4))]) (.bif .int [(.var 1)]))]))),(.asg 4 (.bin .Add (.con (.int 1)) (.call "L_draw" [(.var 0),(.con (.int 12))]))),(.asg 5 (.bin .Add (.con (.int 1)) (.call "L_draw" [(.var 0),(.ix (.lst [(.con (.int 2)),(.con (.int 3))]) (.bif .int [(.var 1)]))]))),(.asg 6 (.lst [])),(.for [7] true .rng [(.var 5)] mQ),(.asg 9 (.lst [])),(.for [7] true .rng [(.call "L_draw" [(.var 0),(.con (.int 9))])] mH),(.ret (.tup [(.var 2),(.var 3),(.var 4),(.bif .tuple [(.var 6)]),(.bif .tuple [(.var 9)])]))],false⟩
noncomputable def mW:Fn:=⟨[true,true,true],1,[(.asg 3 (.call "L_draw" [(.var 0),(.bin .Add (.var 2) (.con (.int 1)))])),(.ret (.comp nW [3] .rng [(.var 3)] [] [1,0] 2))],false⟩
noncomputable def lY:Fn:=⟨[true,true,true],5,[(.asg 3 (.lst [])),(.for [4,5,6] false .of [(.bin .Add (.tup [(.tup [(.con (.int 0)),(.con (.int 0)),(.con (.bl false))])]) (.ix (.var 0) (.con (.int 3))))] mN),(.ret (.var 3))],false⟩
noncomputable def fH:Fn:=⟨[true,true,false],2,[(.ifs (.cmp .Eq (.ix (.var 0) (.con (.int 0))) (.con (.str ("leap":Str)))) [(.ret (.and (.cmp .Gt (.var 2) (.con (.int 0))) (.cmp .Gt (.bif .abs [(.bin .Sub (.ix (.var 1) (.var 2)) (.ix (.var 1) (.bin .Sub (.var 2) (.con (.int 1)))))]) (.ix (.var 0) (.con (.int 1))))))] []),(.ifs (.cmp .Eq (.ix (.var 0) (.con (.int 0))) (.con (.str ("again":Str)))) [(.ret (.and (.cmp .GtE (.var 2) (.ix (.var 0) (.con (.int 1)))) (.cmp .Eq (.nset (.sl (.var 1) (.bin .Sub (.var 2) (.ix (.var 0) (.con (.int 1)))) (.bin .Add (.var 2) (.con (.int 1))))) (.con (.int 1)))))] []),(.ifs (.cmp .Lt (.var 2) (.con (.int 2))) [(.ret (.con (.bl false)))] []),(.asg 3 (.bin .Sub (.ix (.var 1) (.bin .Sub (.var 2) (.con (.int 1)))) (.ix (.var 1) (.bin .Sub (.var 2) (.con (.int 2)))))),(.asg 4 (.bin .Sub (.ix (.var 1) (.bin .Sub (.var 2) (.con (.int 1)))) (.ix (.var 1) (.var 2)))),(.ifs (.cmp .Lt (.var 3) (.con (.int 0))) [(.asg 4 (.bin .Sub (.con (.int 0)) (.var 4)))] []),(.ret (.and (.cmp .GtE (.bif .abs [(.var 3)]) (.ix (.var 0) (.con (.int 1)))) (.not (.cmp2 .Lt .LtE (.con (.int 0)) (.var 4) (.ix (.var 0) (.con (.int 2)))))))],false⟩
noncomputable def i7:Fn:=⟨[true,false,false],0,[(.ifs (.cmp .Eq (.var 0) (.con (.str ("any":Str)))) [(.ret (.con (.bl true)))] []),(.ifs (.cmp .Eq (.var 0) (.con (.str ("aside":Str)))) [(.ret (.and (.cmp .In (.con (.int 0)) (.tup [(.var 1),(.var 2)])) (.cmp .NotEq (.var 1) (.var 2))))] []),(.ifs (.cmp .Eq (.var 0) (.con (.str ("like":Str)))) [(.ret (.or (.and (.cmp .Gt (.var 1) (.con (.int 0))) (.cmp .Gt (.var 2) (.con (.int 0)))) (.and (.cmp .Lt (.var 1) (.con (.int 0))) (.cmp .Lt (.var 2) (.con (.int 0))))))] []),(.ret (.or (.and (.cmp .Gt (.var 1) (.con (.int 0))) (.cmp .Lt (.var 2) (.con (.int 0)))) (.and (.cmp .Lt (.var 1) (.con (.int 0))) (.cmp .Gt (.var 2) (.con (.int 0))))))],false⟩
noncomputable def f7:Fn:=⟨[true,true,true,true,false,false],1,[(.ifs (.or (.cmp .Is (.ix (.var 3) (.var 4)) (.con .non)) (.cmp .Is (.ix (.var 3) (.var 5)) (.con .non))) [(.ret (.con (.bl false)))] []),(.asg 6 (.bin .Mod (.bif .abs [(.bin .Sub (.ix (.var 3) (.var 4)) (.ix (.var 3) (.var 5)))]) (.ix (.var 0) (.con (.int 2))))),(.ifs (.cmp .Eq (.ix (.var 1) (.con (.int 0))) (.con (.str ("span":Str)))) [(.ret (.cmp .Eq (.bin .Mod (.bin .FloorDiv (.ix (.var 1) (.con (.int 2))) (.bin .LShift (.con (.int 1)) (.var 6))) (.con (.int 2))) (.con (.int 0))))] []),(.ifs (.or (.cmp .Is (.ix (.var 2) (.var 4)) (.con .non)) (.or (.cmp .Is (.ix (.var 2) (.var 5)) (.con .non)) (.cmp .NotEq (.var 6) (.ix (.var 1) (.con (.int 2)))))) [(.ret (.con (.bl false)))] []),(.ifs (.cmp .NotEq (.bin .Mod (.bif .abs [(.bin .Sub (.ix (.var 2) (.var 4)) (.ix (.var 2) (.var 5)))]) (.ix (.var 0) (.con (.int 2)))) (.ix (.var 1) (.con (.int 1)))) [(.ret (.con (.bl false)))] []),(.ret (.call "L_moved_so" [(.ix (.var 1) (.con (.int 3))),(.bin .Sub (.ix (.var 3) (.var 4)) (.ix (.var 2) (.var 4))),(.bin .Sub (.ix (.var 3) (.var 5)) (.ix (.var 2) (.var 5)))]))],false⟩
noncomputable def cX:Fn:=⟨[true,true,true,false],7,[(.asg 4 (.call "L_heard" [(.var 0),(.var 2),(.var 3)])),(.ifs (.cmp .Eq (.ix (.var 1) (.con (.int 0))) (.con (.str ("range":Str)))) [(.ret (.comp kZ [3] .rng [(.bif .len [(.var 4)])] [(.and (.cmp .IsNot (.ix (.var 0) (.var 3)) (.con .non)) (.not (.cmp2 .LtE .LtE (.ix (.var 1) (.con (.int 1))) (.ix (.var 0) (.var 3)) (.ix (.var 1) (.con (.int 2))))))] [4,1] 2))] []),(.ifs (.cmp .Eq (.ix (.var 1) (.con (.int 0))) (.con (.str ("above":Str)))) [(.asg 6 (.ix (.var 4) (.ix (.var 1) (.con (.int 1))))),(.asg 7 (.ix (.var 4) (.ix (.var 1) (.con (.int 2))))),(.ret (.bin .Mult (.lst [(.tup [(.ix (.var 1) (.con (.int 1))),(.ix (.var 1) (.con (.int 2)))])]) (.bif .int [(.and (.cmp .IsNot (.var 6) (.con .non)) (.and (.cmp .IsNot (.var 7) (.con .non)) (.cmp .Lt (.var 6) (.var 7))))])))] []),(.ifs (.cmp .In (.ix (.var 1) (.con (.int 0))) (.tup [(.con (.str ("leap":Str))),(.con (.str ("back":Str))),(.con (.str ("again":Str)))])) [(.ret (.bin .Mult (.lst [(.tup [])]) (.bif .int [(.call "L_by_line" [(.var 1),(.var 2),(.var 3)])])))] []),(.ifs (.or (.and (.cmp .Eq (.ix (.var 1) (.con (.int 0))) (.con (.str ("span":Str)))) (.cmp .NotEq (.bin .Mod (.var 3) (.ix (.var 0) (.con (.int 1)))) (.ix (.var 1) (.con (.int 1))))) (.and (.cmp .Eq (.ix (.var 1) (.con (.int 0))) (.con (.str ("never":Str)))) (.cmp .Eq (.var 3) (.con (.int 0))))) [(.ret (.lst []))] []),(.asg 8 (.call "L_heard" [(.var 0),(.var 2),(.bin .Sub (.var 3) (.con (.int 1)))])),(.asg 9 (.lst [])),(.for [5] true .rng [(.bif .len [(.var 4)])] gE),(.ret (.var 9))],false⟩
noncomputable def kK:Fn:=⟨[true,true],4,[(.asg 2 (.lst [])),(.for [3] true .rng [(.bif .len [(.var 1)])] lE),(.ret (.var 2))],false⟩
noncomputable def kR:Fn:=⟨[true],0,[(.ret (.bif .max [(.bin .Add (.lst [(.con (.int 3))]) (.comp lF [1] .of [(.ix (.var 0) (.con (.int 3)))] [] [] 2))]))],false⟩
noncomputable def lN:Fn:=⟨[true,true],2,[(.asg 2 (.call "L_memory" [(.var 0)])),(.asg 3 (.bif .len [(.var 1)])),(.ifs (.cmp .Gt (.var 3) (.var 2)) [(.asg 3 (.bin .Add (.var 2) (.bin .Mod (.bin .Sub (.var 3) (.var 2)) (.ix (.var 0) (.con (.int 1))))))] []),(.ret (.tup [(.var 3),(.bif .tuple [(.sl (.var 1) (.bif .max [(.con (.int 0)),(.bin .Sub (.bif .len [(.var 1)]) (.var 2))]) .omt)])]))],false⟩
noncomputable def jU:Fn:=⟨[true],0,[(.ret (.bin .Add (.bin .Mult (.lst [(.con (.int 0))]) (.bin .Sub (.ix (.var 0) (.con (.int 0))) (.bif .len [(.ix (.var 0) (.con (.int 1)))]))) (.bif .list [(.ix (.var 0) (.con (.int 1)))])))],false⟩
noncomputable def mX:Fn:=⟨[true,true],1,[(.for [2] true .of [(.ix (.var 0) (.con (.int 4)))] nU),(.ret (.con (.bl true)))],false⟩
noncomputable def nL:Fn:=⟨[true,true],3,[(.asg 2 (.lst [])),(.for [3] true .rng [(.ix (.var 0) (.con (.int 0)))] n0),(.ret (.var 2))],false⟩
noncomputable def mV:Fn:=⟨[true,true,true],3,[(.asg 3 (.lst [])),(.for [4] true .rng [(.call "L_draw" [(.var 1),(.bin .Add (.var 2) (.con (.int 1)))])] nZ),(.ret (.var 3))],false⟩
noncomputable def pB:Fn:=⟨[true,true,true,true],1,[(.asg 4 (.bin .Add (.bin .Add (.var 1) (.var 2)) (.var 3))),(.ifs (.or (.cmp .Eq (.var 3) (.lst [])) (.cmp .NotEq (.call "L_breaks" [(.var 0),(.var 4)]) (.lst []))) [(.ret (.con (.bl false)))] []),(.ret (.cmp .Eq (.call "L_stand" [(.var 0),(.bin .Add (.var 1) (.var 2))]) (.call "L_stand" [(.var 0),(.var 4)])))],false⟩
noncomputable def kT:Fn:=⟨[true,true,true],6,[(.asg 3 (.dict1 (.call "L_stand" [(.var 0),(.var 1)]) 0)),(.asg 4 (.lst [])),(.for [5] true .rng [(.con (.int 60))] cR),(.asg 8 (.call "L_draw" [(.var 2),(.con (.int 61))])),(.ret (.lst [(.sl (.var 4) .omt (.var 8)),(.sl (.var 4) (.var 8) .omt)]))],false⟩
noncomputable def kW:Fn:=⟨[true,true,false,false],3,[(.asg 4 (.call "L_draw" [(.var 0),(.con (.int 8))])),(.asg 5 (.call "L_draw" [(.var 0),(.bin .Add (.bif .len [(.var 3)]) (.con (.int 1)))])),(.asg 6 (.call "L_draw" [(.var 0),(.ix (.var 1) (.con (.int 0)))])),(.ifs (.cmp .Eq (.var 4) (.con (.int 0))) [(.ret (.lst [(.var 2),(.bin .Add (.bin .Add (.sl (.var 3) .omt (.var 5)) (.lst [(.var 6)])) (.sl (.var 3) (.var 5) .omt))]))] []),(.ifs (.cmp .Eq (.var 4) (.con (.int 1))) [(.ret (.lst [(.var 2),(.bin .Add (.sl (.var 3) .omt (.var 5)) (.sl (.var 3) (.bin .Add (.var 5) (.con (.int 1))) .omt))]))] []),(.ifs (.cmp .Eq (.var 4) (.con (.int 2))) [(.ret (.lst [(.bin .Add (.var 2) (.lst [(.var 6)])),(.var 3)]))] []),(.ifs (.cmp .Eq (.var 4) (.con (.int 3))) [(.ret (.lst [(.var 3),(.var 2)]))] []),(.ifs (.cmp .Eq (.var 4) (.con (.int 4))) [(.ret (.lst [(.var 2),(.lst [])]))] []),(.ifs (.cmp .Eq (.var 4) (.con (.int 5))) [(.ret (.lst [(.var 2),(.bin .Add (.var 3) (.var 3))]))] []),(.ifs (.cmp .Eq (.var 4) (.con (.int 6))) [(.ret (.lst [(.bin .Add (.var 2) (.sl (.var 3) .omt (.var 5))),(.bin .Add (.sl (.var 3) (.var 5) .omt) (.sl (.var 3) .omt (.var 5)))]))] []),(.ret (.lst [(.var 2),(.lst [(.var 6)])]))],false⟩
noncomputable def lW:Fn:=⟨[true,false,false,false],3,[(.asg 4 (.lst [(.bif .list [(.var 1)]),(.bif .list [(.var 2)]),(.bif .list [(.var 3)])])),(.asg 5 (.call "shows_round" [(.var 0),(.ix (.var 4) (.con (.int 0))),(.ix (.var 4) (.con (.int 1))),(.ix (.var 4) (.con (.int 2)))])),(.asg 6 (.call "L_due" [(.var 0),(.var 1),(.var 2),(.var 3)])),(.ret (.and (.isi (.var 5) [.bool]) (.and (.cmp .Eq (.var 5) (.var 6)) (.cmp .Eq (.var 4) (.lst [(.var 1),(.var 2),(.var 3)])))))],false⟩
noncomputable def i3:Fn:=⟨[true],8,[(.asg 1 (.call "L_house" [(.call "L_pen" [(.var 0),(.con (.int 1))])])),(.asg 2 (.call "L_pen" [(.var 0),(.con (.int 2))])),(.asg 3 (.call "L_sung" [(.var 1),(.var 2),(.con (.int 8))])),(.ifs (.cmp .Eq (.call "L_draw" [(.var 2),(.con (.int 6))]) (.con (.int 0))) [(.asg 3 (.call "L_line" [(.var 2),(.ix (.var 1) (.con (.int 0))),(.con (.int 8))]))] []),(.asgT [4,5] (.call "L_wander" [(.var 1),(.var 3),(.call "L_pen" [(.var 0),(.con (.int 3))])])),(.ifs (.not (.call "L_asked" [(.var 1),(.var 3),(.var 4),(.var 5)])) [(.ret (.con (.bl false)))] []),(.for [6] true .rng [(.con (.int 4))] vI),(.ret (.call "L_asked" [(.var 1),(.var 3),(.var 4),(.var 5)]))],false⟩
noncomputable def TL:List (String × Fn):=[("pitch",pC),("singer",nG),("sung",tP),("span",tL),("chord",pE),("sounding_pairs",fG),("move_so",lP),("Span.broken",iE),("Span.forbids",gS),("Leap.broken",iJ),("Back.broken",iH),("Again.broken",gX),("Range.broken",gM),("Range.forbids",fV),("Above.broken",gP),("Never.broken",gN),("rule_of",dH),("rules_of",kQ),("breaks_at",jZ),("first_break",iK),("is_let_by",jW),("memory",nI),("turn_of",lT),("stand_of",kL),("shows_round",iD),("L_pen",o7),("L_draw",nD),("L_rule",nB),("L_house",lV),("L_line",mW),("L_heard",lY),("L_by_line",fH),("L_moved_so",i7),("L_bad_pair",f7),("L_broken",cX),("L_breaks",kK),("L_memory",kR),("L_stand",lN),("L_as_line",jU),("L_free",mX),("L_ways",nL),("L_sung",mV),("L_due",pB),("L_wander",kT),("L_spoilt",kW),("L_asked",lW),("law",i3)]
noncomputable def T:iZ:=fun f=>TL.lookup f
theorem FL:T "pitch"=some pC:=rfl
theorem R3:T.pins "pitch"=[true,true]:=rfl
theorem B3:T "singer"=some nG:=rfl
theorem QA:T.pins "singer"=[true,true]:=rfl
theorem LN:T "sung"=some tP:=rfl
theorem W5:T.pins "sung"=[true,true,true,true]:=rfl
theorem KR:T "span"=some tL:=rfl
theorem YV:T.pins "span"=[true,true,true]:=rfl
theorem FK:T "chord"=some pE:=rfl
theorem UH:T.pins "chord"=[true,true,true]:=rfl
theorem mM:T "sounding_pairs"=some fG:=rfl
theorem vK:T.pins "sounding_pairs"=[true]:=rfl
theorem zU:T "move_so"=some lP:=rfl
theorem LO:T.pins "move_so"=[true,true,true]:=rfl
theorem p9:T "Span.broken"=some iE:=rfl
theorem AQ:T.pins "Span.broken"=[true,true,true,true]:=rfl
theorem oA:T "Span.forbids"=some gS:=rfl
theorem yZ:T.pins "Span.forbids"=[true,true]:=rfl
theorem qP:T "Leap.broken"=some iJ:=rfl
theorem AX:T.pins "Leap.broken"=[true,true,true,false]:=rfl
theorem qO:T "Back.broken"=some iH:=rfl
theorem A0:T.pins "Back.broken"=[true,true,true,false]:=rfl
theorem oI:T "Again.broken"=some gX:=rfl
theorem x6:T.pins "Again.broken"=[true,true,true,false]:=rfl
theorem oB:T "Range.broken"=some gM:=rfl
theorem yF:T.pins "Range.broken"=[true,true,true,true]:=rfl
theorem m8:T "Range.forbids"=some fV:=rfl
theorem wU:T.pins "Range.forbids"=[true,true]:=rfl
theorem oJ:T "Above.broken"=some gP:=rfl
theorem yH:T.pins "Above.broken"=[true,true,true,true]:=rfl
theorem n9:T "Never.broken"=some gN:=rfl
theorem yO:T.pins "Never.broken"=[true,true,true,true]:=rfl
theorem fN:T "rule_of"=some dH:=rfl
theorem JT:T.pins "rule_of"=[true]:=rfl
theorem wN:T "rules_of"=some kQ:=rfl
theorem IS:T.pins "rules_of"=[true]:=rfl
theorem uF:T "breaks_at"=some jZ:=rfl
theorem EW:T.pins "breaks_at"=[true,true,true,false]:=rfl
theorem qY:T "first_break"=some iK:=rfl
theorem A1:T.pins "first_break"=[true,true]:=rfl
theorem uR:T "is_let_by"=some jW:=rfl
theorem EA:T.pins "is_let_by"=[true,true]:=rfl
theorem DY:T "memory"=some nI:=rfl
theorem MU:T.pins "memory"=[true]:=rfl
theorem zC:T "turn_of"=some lT:=rfl
theorem K4:T.pins "turn_of"=[true,false]:=rfl
theorem wA:T "stand_of"=some kL:=rfl
theorem HY:T.pins "stand_of"=[true,true]:=rfl
theorem pU:T "shows_round"=some iD:=rfl
theorem AJ:T.pins "shows_round"=[true,true,true,true]:=rfl
theorem E4:T "L_pen"=some o7:=rfl
theorem V9:T.pins "L_pen"=[true,false]:=rfl
theorem DJ:T "L_draw"=some nD:=rfl
theorem OD:T.pins "L_draw"=[true,true]:=rfl
theorem DN:T "L_rule"=some nB:=rfl
theorem NO:T.pins "L_rule"=[true,true,true,true,true]:=rfl
theorem zJ:T "L_house"=some lV:=rfl
theorem JN:T.pins "L_house"=[true]:=rfl
theorem CB:T "L_line"=some mW:=rfl
theorem P9:T.pins "L_line"=[true,true,true]:=rfl
theorem zP:T "L_heard"=some lY:=rfl
theorem JD:T.pins "L_heard"=[true,true,true]:=rfl
theorem kN:T "L_by_line"=some fH:=rfl
theorem EJ:T.pins "L_by_line"=[true,true,false]:=rfl
theorem rP:T "L_moved_so"=some i7:=rfl
theorem BG:T.pins "L_moved_so"=[true,false,false]:=rfl
theorem mG:T "L_bad_pair"=some f7:=rfl
theorem DK:T.pins "L_bad_pair"=[true,true,true,true,false,false]:=rfl
theorem eV:T "L_broken"=some cX:=rfl
theorem HA:T.pins "L_broken"=[true,true,true,false]:=rfl
theorem xT:T "L_breaks"=some kK:=rfl
theorem GR:T.pins "L_breaks"=[true,true]:=rfl
theorem wM:T "L_memory"=some kR:=rfl
theorem HC:T.pins "L_memory"=[true]:=rfl
theorem zR:T "L_stand"=some lN:=rfl
theorem J7:T.pins "L_stand"=[true,true]:=rfl
theorem tZ:T "L_as_line"=some jU:=rfl
theorem D5:T.pins "L_as_line"=[true]:=rfl
theorem BH:T "L_free"=some mX:=rfl
theorem QJ:T.pins "L_free"=[true,true]:=rfl
theorem B7:T "L_ways"=some nL:=rfl
theorem PB:T.pins "L_ways"=[true,true]:=rfl
theorem BL:T "L_sung"=some mV:=rfl
theorem NY:T.pins "L_sung"=[true,true,true]:=rfl
theorem FI:T "L_due"=some pB:=rfl
theorem WO:T.pins "L_due"=[true,true,true,true]:=rfl
theorem wK:T "L_wander"=some kT:=rfl
theorem HZ:T.pins "L_wander"=[true,true,true]:=rfl
theorem xC:T "L_spoilt"=some kW:=rfl
theorem HE:T.pins "L_spoilt"=[true,true,false,false]:=rfl
theorem zT:T "L_asked"=some lW:=rfl
theorem L9:T.pins "L_asked"=[true,false,false,false]:=rfl
theorem GS:T "law"=some i3:=rfl
theorem MX:IniOk (eA 20 0) "Span.__init__" ["beat","spans"]:=DE rfl rfl rfl (by decide +kernel) (by kernel_rfl) (oX rfl fun _ _ _ _ _ _ _ _ _=>rfl)
theorem eR {d0 d1:D}:jN (some (.ins "Span" ["beat","spans"] [d0,d1])) "beat"=some (.sh d0):=(rfl)
theorem eD {d0 d1:D}:jN (some (.ins "Span" ["beat","spans"] [d0,d1])) "spans"=some (.sh d1):=(rfl)
theorem O1:IniOk (eA 21 0) "Leap.__init__" ["most"]:=DE rfl rfl rfl (by decide +kernel) (by kernel_rfl) (lL rfl fun _ _ _ _ _ _ _ _=>rfl)
theorem lA {d0:D}:jN (some (.ins "Leap" ["most"] [d0])) "most"=some (.sh d0):=(rfl)
theorem N7:IniOk (eA 22 0) "Back.__init__" ["leap","most"]:=DE rfl rfl rfl (by decide +kernel) (by kernel_rfl) (oX rfl fun _ _ _ _ _ _ _ _ _=>rfl)
theorem eT {d0 d1:D}:jN (some (.ins "Back" ["leap","most"] [d0,d1])) "leap"=some (.sh d0):=(rfl)
theorem eU {d0 d1:D}:jN (some (.ins "Back" ["leap","most"] [d0,d1])) "most"=some (.sh d1):=(rfl)
theorem LG:IniOk (eA 23 0) "Again.__init__" ["most"]:=DE rfl rfl rfl (by decide +kernel) (by kernel_rfl) (lL rfl fun _ _ _ _ _ _ _ _=>rfl)
theorem eG {d0:D}:jN (some (.ins "Again" ["most"] [d0])) "most"=some (.sh d0):=(rfl)
theorem I0:IniOk (eA 24 0) "Range.__init__" ["low","high"]:=DE rfl rfl rfl (by decide +kernel) (by kernel_rfl) (oX rfl fun _ _ _ _ _ _ _ _ _=>rfl)
theorem k8 {d0 d1:D}:jN (some (.ins "Range" ["low","high"] [d0,d1])) "low"=some (.sh d0):=(rfl)
theorem kG {d0 d1:D}:jN (some (.ins "Range" ["low","high"] [d0,d1])) "high"=some (.sh d1):=(rfl)
theorem L8:IniOk (eA 25 0) "Above.__init__" ["one","other"]:=DE rfl rfl rfl (by decide +kernel) (by kernel_rfl) (oX rfl fun _ _ _ _ _ _ _ _ _=>rfl)
theorem i9 {d0 d1:D}:jN (some (.ins "Above" ["one","other"] [d0,d1])) "one"=some (.sh d0):=(rfl)
theorem gL {d0 d1:D}:jN (some (.ins "Above" ["one","other"] [d0,d1])) "other"=some (.sh d1):=(rfl)
theorem J4:IniOk (eA 26 0) "Never.__init__" ["one","other","way"]:=DE rfl rfl rfl (by decide +kernel) (by kernel_rfl) (mE rfl fun _ _ _ _ _ _ _ _ _ _=>rfl)
theorem gA {d0 d1 d2:D}:jN (some (.ins "Never" ["one","other","way"] [d0,d1,d2])) "one"=some (.sh d0):=(rfl)
theorem fA {d0 d1 d2:D}:jN (some (.ins "Never" ["one","other","way"] [d0,d1,d2])) "other"=some (.sh d1):=(rfl)
theorem f9 {d0 d1 d2:D}:jN (some (.ins "Never" ["one","other","way"] [d0,d1,d2])) "way"=some (.sh d2):=(rfl)
theorem yX:fQ "Span" ["beat","spans"] "broken" dN=some "Span.broken":=by decide +kernel
theorem yW:fQ "Leap" ["most"] "broken" dN=some "Leap.broken":=by decide +kernel
theorem yE:fQ "Back" ["leap","most"] "broken" dN=some "Back.broken":=by decide +kernel
theorem wD:fQ "Again" ["most"] "broken" dN=some "Again.broken":=by decide +kernel
theorem v7:fQ "Range" ["low","high"] "broken" dN=some "Range.broken":=by decide +kernel
theorem wV:fQ "Above" ["one","other"] "broken" dN=some "Above.broken":=by decide +kernel
theorem wW:fQ "Never" ["one","other","way"] "broken" dN=some "Never.broken":=by decide +kernel
theorem fD:fQ "Span" ["beat","spans"] "forbids" fB=some "Span.forbids":=by decide +kernel
theorem fR:fQ "Range" ["low","high"] "forbids" fB=some "Range.forbids":=by decide +kernel
theorem OI:bN (aZ L) (top 10) "pitch" pC:=cH rfl rfl rfl (by decide +kernel) (by kernel_rfl) (lL rfl fun _ _ _ _ _ _ _ _=>rfl)
theorem J9:bN (aZ L) (top 11) "singer" nG:=cH rfl rfl rfl (by decide +kernel) (by kernel_rfl) (lL rfl fun _ _ _ _ _ _ _ _=>rfl)
theorem TH:bN (aZ L) (top 12) "sung" tP:=cH rfl rfl rfl (by decide +kernel) (by kernel_rfl) (mE rfl fun _ _ _ _ _ _ _ _ _ _=>rfl)
theorem UC:bN (aZ L) (top 13) "span" tL:=cH rfl rfl rfl (by decide +kernel) (by kernel_rfl) (oX rfl fun _ _ _ _ _ _ _ _ _=>rfl)
theorem P8:bN (aZ L) (top 14) "chord" pE:=cH rfl rfl rfl (by decide +kernel) (by kernel_rfl) (oX rfl fun _ _ _ _ _ _ _ _ _=>rfl)
theorem tX:bN (aZ L) (top 17) "sounding_pairs" fG:=cH rfl rfl rfl (by decide +kernel) (by kernel_rfl) (zD rfl fun _ _ _ _ _ _ _=>rfl)
theorem IL:bN (aZ L) (top 18) "move_so" lP:=cH rfl rfl rfl (by decide +kernel) (by kernel_rfl) (oX rfl fun _ _ _ _ _ _ _ _ _=>rfl)
theorem x5:DefOkQ (aZ L) (eA 20 1) "broken" "Span.broken" iE:=cH rfl rfl rfl (by decide +kernel) (by kernel_rfl) (mE rfl fun _ _ _ _ _ _ _ _ _ _=>rfl)
theorem wI:DefOkQ (aZ L) (eA 20 2) "forbids" "Span.forbids" gS:=cH rfl rfl rfl (by decide +kernel) (by kernel_rfl) (lL rfl fun _ _ _ _ _ _ _ _=>rfl)
theorem xW:DefOkQ (aZ L) (eA 21 1) "broken" "Leap.broken" iJ:=cH rfl rfl rfl (by decide +kernel) (by kernel_rfl) (mE rfl fun _ _ _ _ _ _ _ _ _ _=>rfl)
theorem yY:DefOkQ (aZ L) (eA 22 1) "broken" "Back.broken" iH:=cH rfl rfl rfl (by decide +kernel) (by kernel_rfl) (mE rfl fun _ _ _ _ _ _ _ _ _ _=>rfl)
theorem xJ:DefOkQ (aZ L) (eA 23 1) "broken" "Again.broken" gX:=cH rfl rfl rfl (by decide +kernel) (by kernel_rfl) (mE rfl fun _ _ _ _ _ _ _ _ _ _=>rfl)
theorem wY:DefOkQ (aZ L) (eA 24 1) "broken" "Range.broken" gM:=cH rfl rfl rfl (by decide +kernel) (by kernel_rfl) (mE rfl fun _ _ _ _ _ _ _ _ _ _=>rfl)
theorem vB:DefOkQ (aZ L) (eA 24 2) "forbids" "Range.forbids" fV:=cH rfl rfl rfl (by decide +kernel) (by kernel_rfl) (lL rfl fun _ _ _ _ _ _ _ _=>rfl)
theorem xO:DefOkQ (aZ L) (eA 25 1) "broken" "Above.broken" gP:=cH rfl rfl rfl (by decide +kernel) (by kernel_rfl) (mE rfl fun _ _ _ _ _ _ _ _ _ _=>rfl)
theorem xA:DefOkQ (aZ L) (eA 26 1) "broken" "Never.broken" gN:=cH rfl rfl rfl (by decide +kernel) (by kernel_rfl) (mE rfl fun _ _ _ _ _ _ _ _ _ _=>rfl)
theorem GK:bN (aZ L) (top 27) "rule_of" dH:=cH rfl rfl rfl (by decide +kernel) (by kernel_rfl) (zD rfl fun _ _ _ _ _ _ _=>rfl)
theorem D3:bN (aZ L) (top 29) "rules_of" kQ:=cH rfl rfl rfl (by decide +kernel) (by kernel_rfl) (zD rfl fun _ _ _ _ _ _ _=>rfl)
theorem DX:bN (aZ L) (top 30) "breaks_at" jZ:=cH rfl rfl rfl (by decide +kernel) (by kernel_rfl) (mE rfl fun _ _ _ _ _ _ _ _ _ _=>rfl)
theorem x8:bN (aZ L) (top 31) "first_break" iK:=cH rfl rfl rfl (by decide +kernel) (by kernel_rfl) (lL rfl fun _ _ _ _ _ _ _ _=>rfl)
theorem C6:bN (aZ L) (top 32) "is_let_by" jW:=cH rfl rfl rfl (by decide +kernel) (by kernel_rfl) (lL rfl fun _ _ _ _ _ _ _ _=>rfl)
theorem KA:bN (aZ L) (top 35) "memory" nI:=cH rfl rfl rfl (by decide +kernel) (by kernel_rfl) (zD rfl fun _ _ _ _ _ _ _=>rfl)
theorem GW:bN (aZ L) (top 36) "turn_of" lT:=cH rfl rfl rfl (by decide +kernel) (by kernel_rfl) (lL rfl fun _ _ _ _ _ _ _ _=>rfl)
theorem EV:bN (aZ L) (top 37) "stand_of" kL:=cH rfl rfl rfl (by decide +kernel) (by kernel_rfl) (lL rfl fun _ _ _ _ _ _ _ _=>rfl)
theorem xV:bN (aZ L) (top 39) "shows_round" iD:=cH rfl rfl rfl (by decide +kernel) (by kernel_rfl) (mE rfl fun _ _ _ _ _ _ _ _ _ _=>rfl)
theorem QC:bN (aZ L) (top 41) "_law_pen" o7:=cH rfl rfl rfl (by decide +kernel) (by kernel_rfl) (lL rfl fun _ _ _ _ _ _ _ _=>rfl)
theorem J2:bN (aZ L) (top 42) "_law_draw" nD:=cH rfl rfl rfl (by decide +kernel) (by kernel_rfl) (lL rfl fun _ _ _ _ _ _ _ _=>rfl)
theorem K9:bN (aZ L) (top 43) "_law_rule" nB:=cH rfl rfl rfl (by decide +kernel) (by kernel_rfl) (bn5 rfl fun _ _ _ _ _ _ _ _ _ _ _=>rfl)
theorem IG:bN (aZ L) (top 44) "_law_house" lV:=cH rfl rfl rfl (by decide +kernel) (by kernel_rfl) (zD rfl fun _ _ _ _ _ _ _=>rfl)
theorem MG:bN (aZ L) (top 45) "_law_line" mW:=cH rfl rfl rfl (by decide +kernel) (by kernel_rfl) (oX rfl fun _ _ _ _ _ _ _ _ _=>rfl)
theorem HK:bN (aZ L) (top 46) "_law_heard" lY:=cH rfl rfl rfl (by decide +kernel) (by kernel_rfl) (oX rfl fun _ _ _ _ _ _ _ _ _=>rfl)
theorem DW:bN (aZ L) (top 47) "_law_by_line" fH:=cH rfl rfl rfl (by decide +kernel) (by kernel_rfl) (oX rfl fun _ _ _ _ _ _ _ _ _=>rfl)
theorem AU:bN (aZ L) (top 48) "_law_moved_so" i7:=cH rfl rfl rfl (by decide +kernel) (by kernel_rfl) (oX rfl fun _ _ _ _ _ _ _ _ _=>rfl)
theorem AS:bN (aZ L) (top 49) "_law_bad_pair" f7:=cH rfl rfl rfl (by decide +kernel) (by kernel_rfl) (bn6 rfl fun _ _ _ _ _ _ _ _ _ _ _ _=>rfl)
theorem D8:bN (aZ L) (top 50) "_law_broken" cX:=cH rfl rfl rfl (by decide +kernel) (by kernel_rfl) (mE rfl fun _ _ _ _ _ _ _ _ _ _=>rfl)
theorem D4:bN (aZ L) (top 51) "_law_breaks" kK:=cH rfl rfl rfl (by decide +kernel) (by kernel_rfl) (lL rfl fun _ _ _ _ _ _ _ _=>rfl)
theorem D7:bN (aZ L) (top 52) "_law_memory" kR:=cH rfl rfl rfl (by decide +kernel) (by kernel_rfl) (zD rfl fun _ _ _ _ _ _ _=>rfl)
theorem IJ:bN (aZ L) (top 53) "_law_stand" lN:=cH rfl rfl rfl (by decide +kernel) (by kernel_rfl) (lL rfl fun _ _ _ _ _ _ _ _=>rfl)
theorem DC:bN (aZ L) (top 54) "_law_as_line" jU:=cH rfl rfl rfl (by decide +kernel) (by kernel_rfl) (zD rfl fun _ _ _ _ _ _ _=>rfl)
theorem KO:bN (aZ L) (top 55) "_law_free" mX:=cH rfl rfl rfl (by decide +kernel) (by kernel_rfl) (lL rfl fun _ _ _ _ _ _ _ _=>rfl)
theorem K5:bN (aZ L) (top 56) "_law_ways" nL:=cH rfl rfl rfl (by decide +kernel) (by kernel_rfl) (lL rfl fun _ _ _ _ _ _ _ _=>rfl)
theorem LV:bN (aZ L) (top 58) "_law_sung" mV:=cH rfl rfl rfl (by decide +kernel) (by kernel_rfl) (oX rfl fun _ _ _ _ _ _ _ _ _=>rfl)
theorem NH:bN (aZ L) (top 59) "_law_due" pB:=cH rfl rfl rfl (by decide +kernel) (by kernel_rfl) (mE rfl fun _ _ _ _ _ _ _ _ _ _=>rfl)
theorem EE:bN (aZ L) (top 60) "_law_wander" kT:=cH rfl rfl rfl (by decide +kernel) (by kernel_rfl) (oX rfl fun _ _ _ _ _ _ _ _ _=>rfl)
theorem ED:bN (aZ L) (top 61) "_law_spoilt" kW:=cH rfl rfl rfl (by decide +kernel) (by kernel_rfl) (mE rfl fun _ _ _ _ _ _ _ _ _ _=>rfl)
theorem GD:bN (aZ L) (top 62) "_law_asked" lW:=cH rfl rfl rfl (by decide +kernel) (by kernel_rfl) (mE rfl fun _ _ _ _ _ _ _ _ _ _=>rfl)
theorem JY:bN (aZ L) (top 63) "law" i3:=cH rfl rfl rfl (by decide +kernel) (by kernel_rfl) (zD rfl fun _ _ _ _ _ _ _=>rfl)
end Tx
namespace Mx
open CI Tx
set_option compiler.extract_closed false
local macro_rules | `(tactic| walk_at $s:str) => do if !s.getString.startsWith "!" then Lean.Macro.throwUnsupported else `(tactic| simp only [$[$((("aB9 aCn lX Q4 UL MF aDE aDR aDl aDT aAe S4 N2 aD6 aEm ZC QB TN UZ YH aCX aD7 aDD aDG aEc aDA aDo aB0 aBs aAM aAd T7 VW U5 M8 N5 NV NL aCo VM U7 T8 SN WA WK SQ O9 V8 aA4 aAo QK TY OM MA aAF aAu aAZ XD Z3 aBc YG aB2 aBz Y5 ZN aCe aBJ aAy aBC aCb vT XY aCI YZ ZF SJ XI V7 UD aBL aCM aA0 W2 ZY aBy aBO aCD aCP UP aEq aDt aDz aEr aBx aBp aCU aCh aBQ aBA aCC aDn aAO aCp aAS aBX aCJ aBq aBU aAv ZW YY aDU aDH aDI aCE aCz aCj WB aAq UG VY VX aCK Y4 S1 aCd aBH aB7 aDw ZX aCy YJ V5 ZJ RR UY aA6 aEa aB8 X2 TR aAx aAa aCL YN aAR aEg UQ aAi W0 aBP XA WG UK YB aB6 aCN aA3 aA1 aB5 W9 Y1 aBw PY aCm YM IU RS R6 R4 VA bB UU YQ aAb X7 Y6 R1 rQ DO yM P5 YW aBf aAg XO Z2 XQ V3 WJ WC aBm U9 aAN Z1 YI X1 ZI ZM aBZ aBK WR aAc T5 aCv Z9 aBn aCw aAk yD dZ UR VZ F2 T6 MC KP NP N1 S8 NM M7 aDS TZ aAs SD aBt aAl WM SM U6 VJ aAU XS aCW WH UM aBV zg0 zg1 zs0 zs1 zb zm zi zc zn zr0 zr1 zl0 zl1 znt znf zko zks zkn TM aBh aBo aAm aAw aDP SI aEf aBr MY PU NU ZT aEi aDk PH MV R3 QA W5 YV UH vK LO yZ wU JT IS EW A1 EA MU K4 HY AJ V9 OD NO JN P9 JD EJ BG DK HA GR HC J7 D5 QJ PB NY WO HZ HE L9 if_true if_false Bool.false_eq_true decide_true decide_false Bool.true_eq_false not_true_eq_false not_false_eq_true and_self and_true true_and or_true true_or Za reduceIte Int.reduceLT Int.reduceLE Int.reduceGT Int.reduceNeg Nat.reduceAdd Nat.reduceLT Nat.reduceLeDiff Int.reduceEq Int.reduceNe Nat.reduceBEq Zs List.map_nil Zj List.all_nil Bool.and_true Bool.true_and Bool.false_and Bool.and_false List.length_nil Zk beq_self_eq_true mS X8 aCS List.take_succ_cons List.take_zero List.drop_succ_cons List.drop_zero".splitOn " ") ++ (((s.getString.drop 1).toString.replace "%" "List.length_map").replace "&" "Bool.or_false Bool.false_or Bool.or_true Bool.true_or" |>.splitOn " ")).filter (· ≠ "") |>.toArray.map fun x => Lean.mkIdent x.toName):term],*, *])
theorem eO:type_of% (And.intro @rQ (And.intro @IU (And.intro @List.getElem?_cons_zero.{0} (And.intro @List.getElem?_cons_succ.{0} (And.intro @List.set_cons_zero.{0} (And.intro @List.set_cons_succ.{0} (And.intro @FV (And.intro @yM (And.intro @DO @P5))))))))):=(And.intro @rQ (And.intro @IU (And.intro @List.getElem?_cons_zero.{0} (And.intro @List.getElem?_cons_succ.{0} (And.intro @List.set_cons_zero.{0} (And.intro @List.set_cons_succ.{0} (And.intro @FV (And.intro @yM (And.intro @DO @P5)))))))))
noncomputable def aF (k s m:Int):Int:=if k=0 then s / m else (s*69621+7) % 2147483629
noncomputable def aP (k s m:Int):Int:=if k=0 then s % m else ((((s*69621+7) % 2147483629) % 65521*40503+((s*69621+7) % 2147483629) / 65521+1)*16807 % 2147483647) / 13 % m
theorem aI {W n:Nat} {k s m:Int} (h1:0<m) (h2:m<100000000000000000000000000000000000000000000000000000000000000000000000000000000):run T W (n+1) "L_draw" [.ow (.lst [.int k,.int s]) true false,.sh (.int m)]=some (.ok (.sh (.int (aP k s m))),[.ow (.lst [.int k,.int (aF k s m)]) true false,.sh (.int m)]):=by
 rw [bI DJ rfl rfl];unfold nD;by_cases hk:k=0
 ·subst hk;unfold aF aP
  walk_at "!"
 ·unfold aF aP
  walk_at "!"
theorem bA {k s m:Int} (h:0<m):0≤aP k s m:=by unfold aP; split <;> exact Int.emod_nonneg _ (by omega)
theorem bD {k s m:Int} (h:0<m):aP k s m<m:=by unfold aP; split <;> exact Int.emod_lt_of_pos _ h
mutual
theorem BS:∀ (n:Nat) (d:D),bG n d=true→dR d d=true
 | _,.non,_=>by simp [dR]
 | _,.bl _,_=>by simp [dR]
 | _,.int _,_=>by simp [dR]
 | _,.str _,_=>by simp [dR]
 | 0,.tup _,h=>by simp [bG] at h
 | 0,.lst _,h=>by simp [bG] at h
 | n+1,.tup ds,h=>by simp only [bG] at h; simp only [dR]; exact rF n ds h
 | n+1,.lst ds,h=>by simp only [bG] at h; simp only [dR]; exact rF n ds h
 | _,.ins _ _ _,h=>by simp [bG] at h
 | _,.dct _,h=>by simp [bG] at h
 | _,.exn _,h=>by simp [bG] at h
 | _,.dcs _,h=>by simp [bG] at h
theorem rF:∀ (n:Nat) (ds:List D),ds.all (bG n)=true→mD ds ds=true
 | _,[],_=>by simp [mD]
 | n,d :: ds,h=>by
  simp only [Zj,ZB] at h;simp only [mD,BS n d h.1,rF n ds h.2,Bool.and_self]
end
theorem QV {d:D} (h:bG 20 d=true):bX .Eq d d=some true:=by rw [IT h h,BS 20 d h]
noncomputable def aD (tss:List (List Int)):List D:=tss.map fun is=>.tup (is.map D.int)
theorem NW {n:Nat} (tss:List (List Int)):bG (n+2) (.lst (aD tss))=true:=by
 simp [bG,aD]
noncomputable def eP (ns:List Int) (k:Nat):Int × Int :=
 if k<ns.length∧ns.headD 0 % 2=0 then (0,ns.getD k 0)
 else (1,((if 0<ns.length then ns.getD (k % ns.length) 0 % 2147483587+48611*((k / ns.length:Nat):Int)+3*(k:Int) else 30011*(k:Int)+7)*48271+11*(k:Int)+1) % 2147483647)
theorem vY {ns:List Int} {k:Nat} (h:k<ns.length):L2.cJ (ns.map D.int) (k:Int)=some (.int (ns.getD k 0)):=by
 apply L2.kB
 rw [Zh,Zb h];simp [h]
theorem pA {W n:Nat} {ns:List Int} {k:Nat} (hn:ns.length≤63) (hk:k≤100000):run T W (n+1) "L_pen" [.sh (.lst (ns.map .int)),.sh (.int (k:Int))]=some (.ok (.ow (.lst [.int (eP ns k).1,.int (eP ns k).2])),[.sh (.lst (ns.map .int)),.sh (.int (k:Int))]):=by
 rw [bI E4 rfl rfl];unfold o7;by_cases h0:ns=[]
 ·subst h0;have hb:decide ((k:Int)<((0:Nat):Int))=false:=Zm (by omega);have hb':decide (((0:Nat):Int) > 0)=false:=rfl;have hb2:decide (0<((0:Nat):Int))=false:=rfl;have hb3:decide ((k:Int)<0)=false:=Zm (by omega)
  have ev:eP [] k=(1,((30011*(k:Int)+7)*48271+11*(k:Int)+1) % 2147483647):=by
   unfold eP; rw [Zp (by simp),Zp (by simp)]
  walk_at "!%"
 ·have hpos:0<ns.length:=List.length_pos_iff.mpr h0;have hb2:decide (0<(ns.length:Int))=true:=Zn (by omega)
  have e0:(ns.map D.int)[0]?=some (.int (ns.headD 0)):=by cases ns with | nil=>exact absurd rfl h0 | cons a r=>rfl
  have e1:(0:Int)<(ns.length:Int):=by omega
  have e2:(ns.length:Int)<100000000000000000000000000000000000000000000000000000000000000000000000000000000:=by omega
  have e3:(k:Int) / (ns.length:Int)=((k / ns.length:Nat):Int):=by rw [Int.natCast_ediv]
  have e4:(k:Int) % (ns.length:Int)=((k % ns.length:Nat):Int):=by rw [Int.natCast_emod]
  have e5:=vY (ns:=ns) (k:=k % ns.length) (Nat.mod_lt _ hpos);by_cases hk2:k<ns.length
  ·have hb:decide ((k:Int)<(ns.length:Int))=true:=Zn (by omega);have e6:=vY hk2;by_cases hm:ns.headD 0 % 2=0
   ·have ev:eP ns k=(0,ns.getD k 0):=by unfold eP; rw [Zo ⟨hk2,hm⟩]
    clear hk2
    walk_at "!%"
   ·have hm':decide (ns.headD 0 % 2=0)=false:=Zm hm
    have ev:eP ns k=(1,((ns.getD (k % ns.length) 0 % 2147483587+48611*((k / ns.length:Nat):Int)+3*(k:Int))*48271+11*(k:Int)+1) % 2147483647):=by
     unfold eP; rw [Zp (fun z=>hm z.2),Zo hpos]
    clear hk2 hm
    walk_at "!%"
  ·have hb:decide ((k:Int)<(ns.length:Int))=false:=Zm (by omega)
   have ev:eP ns k=(1,((ns.getD (k % ns.length) 0 % 2147483587+48611*((k / ns.length:Nat):Int)+3*(k:Int))*48271+11*(k:Int)+1) % 2147483647):=by
    unfold eP; rw [Zp (fun z=>hk2 z.1),Zo hpos]
   clear hk2
   walk_at "!%"
theorem sI:((Str.ofString "span") == (Str.ofString "leap"))=false:=by decide +kernel
theorem rV:((Str.ofString "span") == (Str.ofString "back"))=false:=by decide +kernel
theorem pS:((Str.ofString "span") == (Str.ofString "again"))=false:=by decide +kernel
theorem qJ:((Str.ofString "span") == (Str.ofString "range"))=false:=by decide +kernel
theorem qI:((Str.ofString "span") == (Str.ofString "above"))=false:=by decide +kernel
theorem rC:((Str.ofString "span") == (Str.ofString "never"))=false:=by decide +kernel
theorem xN:bX .In (.str (Str.ofString "span")) (.tup [.str (Str.ofString "leap"),.str (Str.ofString "back"),.str (Str.ofString "again")])=some false:=(rfl)
theorem rR:((Str.ofString "leap") == (Str.ofString "span"))=false:=by decide +kernel
theorem sM:((Str.ofString "leap") == (Str.ofString "back"))=false:=by decide +kernel
theorem qH:((Str.ofString "leap") == (Str.ofString "again"))=false:=by decide +kernel
theorem qD:((Str.ofString "leap") == (Str.ofString "range"))=false:=by decide +kernel
theorem qN:((Str.ofString "leap") == (Str.ofString "above"))=false:=by decide +kernel
theorem qQ:((Str.ofString "leap") == (Str.ofString "never"))=false:=by decide +kernel
theorem xR:bX .In (.str (Str.ofString "leap")) (.tup [.str (Str.ofString "leap"),.str (Str.ofString "back"),.str (Str.ofString "again")])=some true:=(rfl)
theorem r9:((Str.ofString "back") == (Str.ofString "span"))=false:=by decide +kernel
theorem rM:((Str.ofString "back") == (Str.ofString "leap"))=false:=by decide +kernel
theorem pV:((Str.ofString "back") == (Str.ofString "again"))=false:=by decide +kernel
theorem qV:((Str.ofString "back") == (Str.ofString "range"))=false:=by decide +kernel
theorem qB:((Str.ofString "back") == (Str.ofString "above"))=false:=by decide +kernel
theorem qF:((Str.ofString "back") == (Str.ofString "never"))=false:=by decide +kernel
theorem xH:bX .In (.str (Str.ofString "back")) (.tup [.str (Str.ofString "leap"),.str (Str.ofString "back"),.str (Str.ofString "again")])=some true:=(rfl)
theorem qA:((Str.ofString "again") == (Str.ofString "span"))=false:=by decide +kernel
theorem pZ:((Str.ofString "again") == (Str.ofString "leap"))=false:=by decide +kernel
theorem qU:((Str.ofString "again") == (Str.ofString "back"))=false:=by decide +kernel
theorem oO:((Str.ofString "again") == (Str.ofString "range"))=false:=by decide +kernel
theorem oQ:((Str.ofString "again") == (Str.ofString "above"))=false:=by decide +kernel
theorem n4:((Str.ofString "again") == (Str.ofString "never"))=false:=by decide +kernel
theorem uO:bX .In (.str (Str.ofString "again")) (.tup [.str (Str.ofString "leap"),.str (Str.ofString "back"),.str (Str.ofString "again")])=some true:=(rfl)
theorem qG:((Str.ofString "range") == (Str.ofString "span"))=false:=by decide +kernel
theorem qE:((Str.ofString "range") == (Str.ofString "leap"))=false:=by decide +kernel
theorem qM:((Str.ofString "range") == (Str.ofString "back"))=false:=by decide +kernel
theorem oM:((Str.ofString "range") == (Str.ofString "again"))=false:=by decide +kernel
theorem oY:((Str.ofString "range") == (Str.ofString "above"))=false:=by decide +kernel
theorem oP:((Str.ofString "range") == (Str.ofString "never"))=false:=by decide +kernel
theorem uC:bX .In (.str (Str.ofString "range")) (.tup [.str (Str.ofString "leap"),.str (Str.ofString "back"),.str (Str.ofString "again")])=some false:=(rfl)
theorem qC:((Str.ofString "above") == (Str.ofString "span"))=false:=by decide +kernel
theorem qX:((Str.ofString "above") == (Str.ofString "leap"))=false:=by decide +kernel
theorem pQ:((Str.ofString "above") == (Str.ofString "back"))=false:=by decide +kernel
theorem oZ:((Str.ofString "above") == (Str.ofString "again"))=false:=by decide +kernel
theorem oN:((Str.ofString "above") == (Str.ofString "range"))=false:=by decide +kernel
theorem oK:((Str.ofString "above") == (Str.ofString "never"))=false:=by decide +kernel
theorem uP:bX .In (.str (Str.ofString "above")) (.tup [.str (Str.ofString "leap"),.str (Str.ofString "back"),.str (Str.ofString "again")])=some false:=(rfl)
theorem qW:((Str.ofString "never") == (Str.ofString "span"))=false:=by decide +kernel
theorem qR:((Str.ofString "never") == (Str.ofString "leap"))=false:=by decide +kernel
theorem pY:((Str.ofString "never") == (Str.ofString "back"))=false:=by decide +kernel
theorem n6:((Str.ofString "never") == (Str.ofString "again"))=false:=by decide +kernel
theorem oR:((Str.ofString "never") == (Str.ofString "range"))=false:=by decide +kernel
theorem oW:((Str.ofString "never") == (Str.ofString "above"))=false:=by decide +kernel
theorem uS:bX .In (.str (Str.ofString "never")) (.tup [.str (Str.ofString "leap"),.str (Str.ofString "back"),.str (Str.ofString "again")])=some false:=(rfl)
theorem aY:type_of% (And.intro @sI (And.intro @rV (And.intro @pS (And.intro @qJ (And.intro @qI (And.intro @rC (And.intro @xN (And.intro @rR (And.intro @sM (And.intro @qH (And.intro @qD (And.intro @qN (And.intro @qQ (And.intro @xR (And.intro @r9 (And.intro @rM (And.intro @pV (And.intro @qV (And.intro @qB (And.intro @qF (And.intro @xH (And.intro @qA (And.intro @pZ (And.intro @qU (And.intro @oO (And.intro @oQ (And.intro @n4 (And.intro @uO (And.intro @qG (And.intro @qE (And.intro @qM (And.intro @oM (And.intro @oY (And.intro @oP (And.intro @uC (And.intro @qC (And.intro @qX (And.intro @pQ (And.intro @oZ (And.intro @oN (And.intro @oK (And.intro @uP (And.intro @qW (And.intro @qR (And.intro @pY (And.intro @n6 (And.intro @oR (And.intro @oW @uS)))))))))))))))))))))))))))))))))))))))))))))))):=(And.intro @sI (And.intro @rV (And.intro @pS (And.intro @qJ (And.intro @qI (And.intro @rC (And.intro @xN (And.intro @rR (And.intro @sM (And.intro @qH (And.intro @qD (And.intro @qN (And.intro @qQ (And.intro @xR (And.intro @r9 (And.intro @rM (And.intro @pV (And.intro @qV (And.intro @qB (And.intro @qF (And.intro @xH (And.intro @qA (And.intro @pZ (And.intro @qU (And.intro @oO (And.intro @oQ (And.intro @n4 (And.intro @uO (And.intro @qG (And.intro @qE (And.intro @qM (And.intro @oM (And.intro @oY (And.intro @oP (And.intro @uC (And.intro @qC (And.intro @qX (And.intro @pQ (And.intro @oZ (And.intro @oN (And.intro @oK (And.intro @uP (And.intro @qW (And.intro @qR (And.intro @pY (And.intro @n6 (And.intro @oR (And.intro @oW @uS))))))))))))))))))))))))))))))))))))))))))))))))
theorem pw {j:Int} (h1:0≤j) (h2:j≤12):(0:Int)<2 ^ j.toNat∧(2:Int) ^ j.toNat<100000000000000000000000000000000000000000000000000000000000000000000000000000000:=by
 have h:j.toNat≤12:=by omega
 generalize j.toNat=q at h;have h3:2 ^ q≤2 ^ 12:=Nat.pow_le_pow_right (by decide) h;have h4:(2:Int) ^ q≤4096:=by exact_mod_cast h3
 exact ⟨Int.pow_pos (by decide),Int.lt_of_le_of_lt h4 (by decide)⟩
inductive RuleD (no ba oc ma:Int):D→Prop
 | span (a b:Int) (h1:0≤a) (h2:a<ba) (h3:0≤b) (h4:b<2 ^ oc.toNat):RuleD no ba oc ma (.tup [.str "span",.int a,.int b])
 | leap (a:Int) (h1:0≤a) (h2:a≤12):RuleD no ba oc ma (.tup [.str "leap",.int a])
 | back (a b:Int) (h1:1≤a) (h2:a≤12) (h3:1≤b) (h4:b≤12):RuleD no ba oc ma (.tup [.str "back",.int a,.int b])
 | again (a:Int) (h1:1≤a) (h2:a≤3):RuleD no ba oc ma (.tup [.str "again",.int a])
 | range (a b:Int) (h1:-60≤a) (h2:a≤b) (h3:b≤60):RuleD no ba oc ma (.tup [.str "range",.int a,.int b])
 | above (v w:Nat) (h1:(v:Int)≤ma) (h2:(w:Int)≤ma) (h3:v≠w):RuleD no ba oc ma (.tup [.str "above",.int (v:Int),.int (w:Int)])
 | never (a b:Int) (x:PySem.Str) (h1:0≤a) (h2:a<oc) (h3:0≤b) (h4:b<oc) (h5:x="like"∨x="against"∨x="aside"∨x="any"):RuleD no ba oc ma (.tup [.str "never",.int a,.int b,.str x])
section
variable {P:aQ} {C:Calls} {W:Nat} {k s no ba oc ma w:Int} {u6 u7 u8:Sl}
noncomputable def fI (k s no ba oc ma w:Int) (u6 u7 u8:Sl):Env:=[.ow (.lst [.int k,.int s]) true false,.sh (.int no),.sh (.int ba),.sh (.int oc),.sh (.int ma),.sh (.int w),u6,u7,u8]
theorem qT {a:List S} {i:Int}:ex P C W (.ifs (.cmp .Eq (.var 5) (.con (.int i))) a []) (fI k s no ba oc ma w u6 u7 u8)=if w=i then exs P C W a (fI k s no ba oc ma w u6 u7 u8) else some (.nx,fI k s no ba oc ma w u6 u7 u8):=by
 unfold fI;by_cases h:w=i
 ·have h':decide (w=i)=true:=Zn h;rw [Zo h];clear h
  walk_at "!"
 ·have h':decide (w=i)=false:=Zm h;rw [Zp h];clear h
  walk_at "!"
end
theorem at2 {a b:Int} {c:Int} (h1:0≤c) (h2:c<2):L2.cJ [D.int a,D.int b] c=some (.int (if c=0 then a else b)):=by
 have:c=0∨c=1:=by omega
 rcases this with rfl | rfl <;> rfl
theorem atW {c:Int} (h1:0≤c) (h2:c<4):∃ x:PySem.Str,L2.cJ [D.str "like",D.str "against",D.str "aside",D.str "any"] c=some (.str x)∧(x="like"∨x="against"∨x="aside"∨x="any"):=by
 have:c=0∨c=1∨c=2∨c=3:=by omega
 rcases this with rfl | rfl | rfl | rfl
 ·exact ⟨_,rfl,.inl rfl⟩
 ·exact ⟨_,rfl,.inr (.inl rfl)⟩
 ·exact ⟨_,rfl,.inr (.inr (.inl rfl))⟩
 ·exact ⟨_,rfl,.inr (.inr (.inr rfl))⟩
theorem LI {W n:Nat} {k s0 no ba oc ma:Int} (n1:1≤no) (n2:no≤7) (b1:1≤ba) (b2:ba≤4) (o1:1≤oc) (o2:oc≤12) (m1:1≤ma) (m2:ma≤3) :
  ∃ s' d,run T W (n+2) "L_rule" [.ow (.lst [.int k,.int s0]) true false,.sh (.int no),.sh (.int ba),.sh (.int oc),.sh (.int ma)]=some (.ok (.sh d),[.ow (.lst [.int k,.int s']) true false,.sh (.int no),.sh (.int ba),.sh (.int oc),.sh (.int ma)])∧RuleD no ba oc ma d:=by
 rw [bI DN rfl rfl];unfold nB;have g1:0<ba:=by omega
 have g2:ba<100000000000000000000000000000000000000000000000000000000000000000000000000000000:=by omega
 have g3:0<oc:=by omega
 have g4:oc<100000000000000000000000000000000000000000000000000000000000000000000000000000000:=by omega
 have g5:0≤oc:=by omega
 have g6:oc≤1000:=by omega
 obtain ⟨g7,g8⟩:=pw g5 o2;have g9:0<ma:=by omega
 have g10:ma<100000000000000000000000000000000000000000000000000000000000000000000000000000000:=by omega
 have g11:0<ma+1:=by omega
 have g12:ma+1<100000000000000000000000000000000000000000000000000000000000000000000000000000000:=by omega
 have v1:=bA (k:=k) (s:=s0) (m:=9) (by decide);have v2:=bD (k:=k) (s:=s0) (m:=9) (by decide)
 have e0:ex T.pins (run T W (n+1)) W nM ([.ow (.lst [.int k,.int s0]) true false,.sh (.int no),.sh (.int ba),.sh (.int oc),.sh (.int ma)] ++ List.replicate 4 .un)=some (.nx,fI k (aF k s0 9) no ba oc ma (aP k s0 9) .un .un .un):=by
  unfold fI;rw [AZ];clear g1 g2 g3 g4 g5 g6 g7 g8 g9 g10 g11 g12 v1 v2 n1 n2 b1 b2 o1 o2 m1 m2
  walk_at "!aI"
 generalize aP k s0 9=w at *
 generalize aF k s0 9=s at *
 rw [dZ,e0,lX,dZ];clear e0
 -- a return of a statement ends the def
 have fin:∀ {st:S} {r:List S} {s':Int} {d:D} {u6 u7 u8:Sl},ex T.pins (run T W (n+1)) W st (fI k s no ba oc ma w .un .un .un)=some (.rt (.sh d),fI k s' no ba oc ma w u6 u7 u8)→RuleD no ba oc ma d →
   ∃ s'' d,P4 [.ow (.lst [.int k,.int s0]) true false,.sh (.int no),.sh (.int ba),.sh (.int oc),.sh (.int ma)] ((ex T.pins (run T W (n+1)) W st (fI k s no ba oc ma w .un .un .un)).next (exs T.pins (run T W (n+1)) W r))=some (.ok (.sh d),[.ow (.lst [.int k,.int s'']) true false,.sh (.int no),.sh (.int ba),.sh (.int oc),.sh (.int ma)])∧RuleD no ba oc ma d:=fun h hd=>by
  rw [h,Q4,F2];exact ⟨_,_,rfl,hd⟩
 by_cases c0:w<2
 ·refine fin (s':=aF k (aF k s ba) (2 ^ oc.toNat)) (d:=.tup [.str "span",.int (aP k s ba),.int (aP k (aF k s ba) (2 ^ oc.toNat))]) (u6:=.un) (u7:=.un) (u8:=.un) ?_ (.span _ _ (bA g1) (bD g1) (bA g7) (bD g7));have c0':decide (w<2)=true:=Zn c0;rw [pX];unfold fI;clear n1 n2 b1 b2 o1 o2 m1 m2 v1 v2 c0 fin
  walk_at "!aI"
 have e1:ex T.pins (run T W (n+1)) W nX (fI k s no ba oc ma w .un .un .un)=some (.nx,fI k s no ba oc ma w .un .un .un):=by
  have c0':decide (w<2)=false:=Zm c0;rw [pX];unfold fI;clear n1 n2 b1 b2 o1 o2 m1 m2 v1 v2 c0 fin
  walk_at "!aI"
 rw [e1,lX,dZ];clear e1;by_cases c2:w=2
 ·have x1:=bA (k:=k) (s:=aF k s ba) (m:=oc) g3;have x2:=bD (k:=k) (s:=aF k s ba) (m:=oc) g3;have x3:aP k (aF k s ba) oc≤1000:=by omega
  have h4:(2:Int) ^ (aP k (aF k s ba) oc).toNat≤2 ^ oc.toNat - 1:=by
   have h1:(aP k (aF k s ba) oc).toNat+1≤oc.toNat:=by omega
   have h2:(2:Int) ^ ((aP k (aF k s ba) oc).toNat+1)≤2 ^ oc.toNat:=by
    have h3:2 ^ ((aP k (aF k s ba) oc).toNat+1)≤2 ^ oc.toNat:=Nat.pow_le_pow_right (by decide) h1
    exact_mod_cast h3
   have h4:(2:Int) ^ ((aP k (aF k s ba) oc).toNat+1)=2 ^ (aP k (aF k s ba) oc).toNat*2:=Int.pow_succ _ _;have h5:(0:Int)<2 ^ (aP k (aF k s ba) oc).toNat:=Int.pow_pos (by decide);omega
  have h5:(0:Int)<2 ^ (aP k (aF k s ba) oc).toNat:=Int.pow_pos (by decide);refine fin (s':=aF k (aF k s ba) oc) (d:=.tup [.str "span",.int (aP k s ba),.int (2 ^ oc.toNat - 1 - 2 ^ (aP k (aF k s ba) oc).toNat)]) (u6:=.un) (u7:=.un) (u8:=.un) ?_ (.span _ _ (bA g1) (bD g1) (by omega) (by omega));rw [pT,qT,Zo c2];unfold fI;clear n1 n2 b1 b2 o1 o2 m1 m2 v1 v2 c0 fin h4 h5 x2
  walk_at "!aI"
 rw [pT,qT,Zp c2,lX,dZ];by_cases c3:w=3
 ·have x1:=bA (k:=k) (s:=s) (m:=2) (by decide);have x2:=bD (k:=k) (s:=s) (m:=2) (by decide);have hat:=at2 (a:=13) (b:=no+1) x1 x2;obtain ⟨q,hq⟩:∃ q,q=(if aP k s 2=0 then 13 else no+1):=⟨_,rfl⟩
  rw [← hq] at hat;have q1:0<q:=by rw [hq]; split <;> omega
  have q2:q≤13:=by rw [hq]; split <;> omega
  have q3:q<100000000000000000000000000000000000000000000000000000000000000000000000000000000:=by omega
  refine fin (s':=aF k (aF k s 2) q) (d:=.tup [.str "leap",.int (aP k (aF k s 2) q)]) (u6:=.un) (u7:=.un) (u8:=.un) ?_ (.leap _ (bA q1) (by have:=bD (k:=k) (s:=aF k s 2) q1; omega));rw [qK,qT,Zo c3];unfold fI;clear n1 n2 b1 b2 o1 o2 m1 m2 v1 v2 c0 fin q2 hq x1 x2
  walk_at "!aI"
 rw [qK,qT,Zp c3,lX,dZ];by_cases c4:w=4
 ·have x1:=bA (k:=k) (s:=s) (m:=12) (by decide);have x2:=bD (k:=k) (s:=s) (m:=12) (by decide);have x3:=bA (k:=k) (s:=aF k s 12) (m:=12) (by decide);have x4:=bD (k:=k) (s:=aF k s 12) (m:=12) (by decide);refine fin (s':=aF k (aF k s 12) 12) (d:=.tup [.str "back",.int (1+aP k s 12),.int (1+aP k (aF k s 12) 12)]) (u6:=.un) (u7:=.un) (u8:=.un) ?_ (.back _ _ (by omega) (by omega) (by omega) (by omega));rw [qS,qT,Zo c4];unfold fI;clear n1 n2 b1 b2 o1 o2 m1 m2 v1 v2 c0 fin x1 x2 x3 x4
  walk_at "!aI"
 rw [qS,qT,Zp c4,lX,dZ];by_cases c5:w=5
 ·have x1:=bA (k:=k) (s:=s) (m:=3) (by decide);have x2:=bD (k:=k) (s:=s) (m:=3) (by decide);refine fin (s':=aF k s 3) (d:=.tup [.str "again",.int (1+aP k s 3)]) (u6:=.un) (u7:=.un) (u8:=.un) ?_ (.again _ (by omega) (by omega));rw [q0,qT,Zo c5];unfold fI;clear n1 n2 b1 b2 o1 o2 m1 m2 v1 v2 c0 fin x1 x2
  walk_at "!aI"
 rw [q0,qT,Zp c5,lX,dZ];by_cases c6:w=6
 ·have u1:=bA (k:=k) (s:=s) (m:=121) (by decide);have u2:=bD (k:=k) (s:=s) (m:=121) (by decide);have u3:=bA (k:=k) (s:=aF k s 121) (m:=20) (by decide);have u4:=bD (k:=k) (s:=aF k s 121) (m:=20) (by decide);have u5:=bA (k:=k) (s:=aF k (aF k s 121) 20) (m:=2) (by decide);have u6:=bD (k:=k) (s:=aF k (aF k s 121) 20) (m:=2) (by decide);have hat:=at2 (a:=aP k s 121 - 60) (b:=aP k (aF k s 121) 20 - 12) u5 u6;obtain ⟨lo,hlo⟩:∃ lo,lo=(if aP k (aF k (aF k s 121) 20) 2=0 then aP k s 121 - 60 else aP k (aF k s 121) 20 - 12):=⟨_,rfl⟩
  rw [← hlo] at hat;have q1:lo≤60:=by rw [hlo]; split <;> omega
  have q2:-60≤lo:=by rw [hlo]; split <;> omega
  have y1:0<61 - lo:=by omega
  have y2:61 - lo<100000000000000000000000000000000000000000000000000000000000000000000000000000000:=by omega
  obtain ⟨s1,hs1⟩:∃ s1,s1=aF k (aF k (aF k s 121) 20) 2:=⟨_,rfl⟩
  have z1:=bA (k:=k) (s:=s1) y1;have z2:=bD (k:=k) (s:=s1) y1;refine fin (s':=aF k s1 (61 - lo)) (d:=.tup [.str "range",.int lo,.int (lo+aP k s1 (61 - lo))]) (u6:=.sh (.int lo)) (u7:=.un) (u8:=.un) ?_ (.range _ _ q2 (by omega) (by omega));rw [pP,qT,Zo c6];have hs1':=hs1.symm;unfold fI;clear n1 n2 b1 b2 o1 o2 m1 m2 v1 v2 c0 fin u1 u2 u3 u4 u5 u6 q1 q2 z1 z2 hlo hs1
  walk_at "!aI"
 rw [pP,qT,Zp c6,lX,dZ];by_cases c7:w=7
 ·have x1:=bA (k:=k) (s:=s) g11;have x2:=bD (k:=k) (s:=s) g11;have x3:=bA (k:=k) (s:=aF k s (ma+1)) g9;have x4:=bD (k:=k) (s:=aF k s (ma+1)) g9;obtain ⟨a,ha⟩:∃ a:Nat,aP k s (ma+1)=(a:Int):=⟨_,(Int.toNat_of_nonneg x1).symm⟩
  have y1:=Int.emod_nonneg ((a:Int)+1+aP k (aF k s (ma+1)) ma) (b:=ma+1) (by omega);have y2:=Int.emod_lt_of_pos ((a:Int)+1+aP k (aF k s (ma+1)) ma) (b:=ma+1) (by omega);obtain ⟨b,hb⟩:∃ b:Nat,((a:Int)+1+aP k (aF k s (ma+1)) ma) % (ma+1)=(b:Int):=⟨_,(Int.toNat_of_nonneg y1).symm⟩
  have hne:a≠b:=fun z=>by
   subst z;rcases Int.lt_or_le ((a:Int)+1+aP k (aF k s (ma+1)) ma) (ma+1) with h | h
   ·rw [Int.emod_eq_of_lt (by omega) h] at hb;omega
   ·have h2:((a:Int)+1+aP k (aF k s (ma+1)) ma) % (ma+1)=((a:Int)+1+aP k (aF k s (ma+1)) ma - (ma+1)):=by
     rw [← Int.sub_emod_right,Int.emod_eq_of_lt (by omega) (by omega)]
    omega
  refine fin (s':=aF k (aF k s (ma+1)) ma) (d:=.tup [.str "above",.int (a:Int),.int (b:Int)]) (u6:=.un) (u7:=.sh (.int (a:Int))) (u8:=.un) ?_ (.above _ _ (by omega) (by omega) hne);rw [rB,qT,Zo c7];unfold fI;clear n1 n2 b1 b2 o1 o2 m1 m2 v1 v2 c0 fin x1 x2 x3 x4 y1 y2 hne
  walk_at "!aI"
 rw [rB,qT,Zp c7,lX,dZ,AR];have x1:=bA (k:=k) (s:=aF k (aF k s oc) oc) (m:=4) (by decide);have x2:=bD (k:=k) (s:=aF k (aF k s oc) oc) (m:=4) (by decide);obtain ⟨x,hat,hx⟩:=atW x1 x2;refine ⟨aF k (aF k (aF k s oc) oc) 4,.tup [.str "never",.int (aP k s oc),.int (aP k (aF k s oc) oc),.str x], ?_,.never _ _ _ (bA g3) (bD g3) (bA g3) (bD g3) hx⟩;unfold fI;clear n1 n2 b1 b2 o1 o2 m1 m2 v1 v2 c0 fin x1 x2 hx
 walk_at "!AN aI"
noncomputable def cM (f:Int × Int × Bool):D:=.tup [.int f.1,.int f.2.1,.bl f.2.2]
theorem O0 {g:Bool} {a b:Int}:L2.cJ [D.int a,D.int b] (if g=true then 1 else 0)=some (.int (if g=true then b else a)):=by cases g <;> rfl
theorem Q6 {g:Bool} {a b:Int} (ha:0<a) (hb:0<b):0<(if g=true then b else a):=by cases g <;> simpa
theorem RN {g:Bool} {a b c:Int} (ha:a<c) (hb:b<c):(if g=true then b else a)<c:=by cases g <;> simpa
structure HouseOk (no ba oc:Int) (fs:List (Int × Int × Bool)):Prop where
 n1:1≤no
 n2:no≤7
 b1:1≤ba
 b2:ba≤4
 o1:1≤oc
 o2:oc≤12
 l1:1≤fs.length
 l2:fs.length≤3
 f:∀ f∈fs,0≤f.1∧f.1≤4∧-12≤f.2.1∧f.2.1≤12
theorem IP {W n:Nat} {k s:Int}:∃ s' no ba oc fs rs,run T W (n+3) "L_house" [.ow (.lst [.int k,.int s]) true false]=some (.ok (.sh (.tup [.int no,.int ba,.int oc,.tup (fs.map cM),.tup rs])),[.ow (.lst [.int k,.int s']) true false])∧HouseOk no ba oc fs∧rs.length≤8∧∀ d∈rs,RuleD no ba oc (fs.length:Int) d:=by
 rw [bI zJ rfl rfl];unfold lV;generalize hg:decide (aP k s 2=0)=g;have p1:=Q6 (g:=g) (a:=4) (b:=7) (by decide) (by decide);have p2:=RN (g:=g) (a:=4) (b:=7) (c:=100000000000000000000000000000000000000000000000000000000000000000000000000000000) (by decide) (by decide);have p3:=Q6 (g:=g) (a:=2) (b:=4) (by decide) (by decide);have p4:=RN (g:=g) (a:=2) (b:=4) (c:=100000000000000000000000000000000000000000000000000000000000000000000000000000000) (by decide) (by decide);have p5:=Q6 (g:=g) (a:=2) (b:=3) (by decide) (by decide);have p6:=RN (g:=g) (a:=2) (b:=3) (c:=100000000000000000000000000000000000000000000000000000000000000000000000000000000) (by decide) (by decide);have p7:=Q6 (g:=g) (a:=2) (b:=5) (by decide) (by decide);have p8:=RN (g:=g) (a:=2) (b:=5) (c:=100000000000000000000000000000000000000000000000000000000000000000000000000000000) (by decide) (by decide);obtain ⟨s1,hs1⟩:∃ s1,s1=aF k s 2:=⟨_,rfl⟩
 obtain ⟨no,hno⟩:∃ no,no=1+aP k s1 (if g=true then 7 else 4):=⟨_,rfl⟩
 obtain ⟨s2,hs2⟩:∃ s2,s2=aF k s1 (if g=true then 7 else 4):=⟨_,rfl⟩
 obtain ⟨ba,hba⟩:∃ ba,ba=1+aP k s2 (if g=true then 4 else 2):=⟨_,rfl⟩
 obtain ⟨s3,hs3⟩:∃ s3,s3=aF k s2 (if g=true then 4 else 2):=⟨_,rfl⟩
 obtain ⟨oc,hoc⟩:∃ oc,oc=1+aP k s3 12:=⟨_,rfl⟩
 obtain ⟨s4,hs4⟩:∃ s4,s4=aF k s3 12:=⟨_,rfl⟩
 obtain ⟨ma,hma⟩:∃ ma,ma=1+aP k s4 (if g=true then 3 else 2):=⟨_,rfl⟩
 obtain ⟨s5,hs5⟩:∃ s5,s5=aF k s4 (if g=true then 3 else 2):=⟨_,rfl⟩
 have n1:1≤no:=by have:=bA (k:=k) (s:=s1) p1; omega
 have n2:no≤7:=by
  have:=bD (k:=k) (s:=s1) p1
  have:(if g=true then (7:Int) else 4)≤7:=by cases g <;> decide
  omega
 have b1:1≤ba:=by have:=bA (k:=k) (s:=s2) p3; omega
 have b2:ba≤4:=by
  have:=bD (k:=k) (s:=s2) p3
  have:(if g=true then (4:Int) else 2)≤4:=by cases g <;> decide
  omega
 have o1:1≤oc:=by have:=bA (k:=k) (s:=s3) (m:=12) (by decide); omega
 have o2:oc≤12:=by have:=bD (k:=k) (s:=s3) (m:=12) (by decide); omega
 have m1:1≤ma:=by have:=bA (k:=k) (s:=s4) p5; omega
 have m2:ma≤3:=by
  have:=bD (k:=k) (s:=s4) p5
  have:(if g=true then (3:Int) else 2)≤3:=by cases g <;> decide
  omega
 have hi1:aH .rng [.slot 5] [.ow (.lst [.int k,.int s5]) true false,.sh (.bl g),.sh (.int no),.sh (.int ba),.sh (.int oc),.sh (.int ma),.ow (.lst []) false false,.un,.un,.un]=some ((List.range ma.toNat).map fun (j:Nat)=>.int (j:Int),none):=lU rfl (by omega) (by omega)
 have key1:=cT (bind:=a8 true [7]) (body:=exs T.pins (run T W (n+2)) W mQ)
  (fun pre ρ=>∃ s6 fs t7 t8,ρ=[.ow (.lst [.int k,.int s6]) true false,.sh (.bl g),.sh (.int no),.sh (.int ba),.sh (.int oc),.sh (.int ma),.ow (.lst (fs.map cM)) false false,t7,t8,.un]∧bM t7=true∧bM t8=true∧fs.length=pre.length∧∀ f∈fs,0≤f.1∧f.1≤4∧-12≤f.2.1∧f.2.1≤12)
  (ds:=(List.range ma.toNat).map fun (j:Nat)=>.int (j:Int)) (fun pre d post hds ρ hρ=>by
   obtain ⟨s6,fs,t7,t8,rfl,h7,h8,hl,hf⟩:=hρ
   have hlen:pre.length<ma.toNat:=by
    have:=congrArg List.length hds
    simp at this;omega
   refine ⟨_,by simp only [eO,bB h7] <;> rfl, ?_⟩;have hsm:aK ((fs.map cM).length+1)=true:=bF (by simp; omega);have la:=bA (k:=k) (s:=s6) p7;have lb:=bD (k:=k) (s:=s6) p7;have lc:(if g=true then (5:Int) else 2)≤5:=by cases g <;> decide
   have sa:=bA (k:=k) (s:=aF k s6 (if g=true then 5 else 2)) (m:=25) (by decide);have sb:=bD (k:=k) (s:=aF k s6 (if g=true then 5 else 2)) (m:=25) (by decide);refine ⟨[.ow (.lst [.int k,.int (aF k (aF k (aF k s6 (if g=true then 5 else 2)) 25) 4)]) true false,.sh (.bl g),.sh (.int no),.sh (.int ba),.sh (.int oc),.sh (.int ma),.ow (.lst ((fs ++ [(aP k s6 (if g=true then 5 else 2),aP k (aF k s6 (if g=true then 5 else 2)) 25 - 12,decide (aP k (aF k (aF k s6 (if g=true then 5 else 2)) 25) 4=0))]).map cM)) false false,.sh d,.sh (.int (aP k s6 (if g=true then 5 else 2))),.un], ?_,_,_,_,_,rfl,rfl,rfl,by simp [hl],fun f hm=>?_⟩
   ·unfold mQ;clear hf hds la lb lc sa sb hg hno hs2 hba hs3 hoc hs4 hma hs5 n1 n2 b1 b2 o1 o2 m1 m2 hlen hl hi1 hs1
    walk_at "!O0 aI"
    simp only [zd,Zs,List.map_nil,cM]
   ·rcases zo.mp hm with hm | hm
    ·exact hf f hm
    ·rw [ze.mp hm]
     refine ⟨la, ?_, ?_, ?_⟩ <;> simp only <;> omega)
  (ρ:=[.ow (.lst [.int k,.int s5]) true false,.sh (.bl g),.sh (.int no),.sh (.int ba),.sh (.int oc),.sh (.int ma),.ow (.lst []) false false,.un,.un,.un]) ⟨_,[],_,_,rfl,rfl,rfl,rfl,fun f h=>nomatch h⟩
 obtain ⟨ρ1,el1,s6,fs,t7,t8,rfl,h7,h8,hl,hf⟩:=key1;have hl:fs.length=ma.toNat:=by rw [hl]; simp
 have hr1:=bA (k:=k) (s:=s6) (m:=9) (by decide);have hr2:=bD (k:=k) (s:=s6) (m:=9) (by decide);have hi2:aH .rng [.val (.sh (.int (aP k s6 9)))] [.ow (.lst [.int k,.int (aF k s6 9)]) true false,.sh (.bl g),.sh (.int no),.sh (.int ba),.sh (.int oc),.sh (.int ma),.ow (.lst (fs.map cM)) false false,t7,t8,.ow (.lst []) false false]=some ((List.range (aP k s6 9).toNat).map fun (j:Nat)=>.int (j:Int),none):=lU rfl (by omega) (by omega)
 have key2:=cT (bind:=a8 true [7]) (body:=exs T.pins (run T W (n+2)) W mH)
  (fun pre ρ=>∃ s7 rs t7,ρ=[.ow (.lst [.int k,.int s7]) true false,.sh (.bl g),.sh (.int no),.sh (.int ba),.sh (.int oc),.sh (.int ma),.ow (.lst (fs.map cM)) false false,t7,t8,.ow (.lst rs) false false]∧bM t7=true∧rs.length=pre.length∧∀ d∈rs,RuleD no ba oc ma d)
  (ds:=(List.range (aP k s6 9).toNat).map fun (j:Nat)=>.int (j:Int)) (fun pre d post hds ρ hρ=>by
   obtain ⟨s7,rs,t7,rfl,h7,hl,hR⟩:=hρ
   have hlen:pre.length<(aP k s6 9).toNat:=by
    have:=congrArg List.length hds
    simp at this;omega
   refine ⟨_,by simp only [eO,bB h7] <;> rfl, ?_⟩;have hsm:aK (rs.length+1)=true:=bF (by omega);obtain ⟨s8,dr,er,hrd⟩:=LI (W:=W) (n:=n) (k:=k) (s0:=s7) n1 n2 b1 b2 o1 o2 m1 m2;refine ⟨[.ow (.lst [.int k,.int s8]) true false,.sh (.bl g),.sh (.int no),.sh (.int ba),.sh (.int oc),.sh (.int ma),.ow (.lst (fs.map cM)) false false,.sh d,t8,.ow (.lst (rs ++ [dr])) false false], ?_,_,_,_,rfl,rfl,by simp [hl],fun d hd=>(zo.mp hd).elim (hR d) fun q=>by rw [ze.mp q]; exact hrd⟩;unfold mH;clear hR hrd hf hds hg hno hs2 hba hs3 hoc hs4 hma hs5 n1 n2 b1 b2 o1 o2 m1 m2 hlen hl hi1 hs1 el1 hi2 hr1 hr2
   walk_at "!aI O0")
  (ρ:=[.ow (.lst [.int k,.int (aF k s6 9)]) true false,.sh (.bl g),.sh (.int no),.sh (.int ba),.sh (.int oc),.sh (.int ma),.ow (.lst (fs.map cM)) false false,t7,t8,.ow (.lst []) false false]) ⟨_,[],_,rfl,h7,rfl,fun _ z=>nomatch z⟩
 obtain ⟨ρ2,el2,s7,rs,t7',rfl,h7',hlr,hR⟩:=key2;have hlr2:rs.length≤8:=by rw [hlr]; simp; omega
 have hlm:(fs.length:Int)=ma:=by omega
 refine ⟨s7,no,ba,oc,fs,rs, ?_,⟨n1,n2,b1,b2,o1,o2,by omega,by omega,hf⟩,hlr2,by rw [hlm]; exact hR⟩;clear hf n1 n2 b1 b2 o1 o2 m1 m2 hl hlr hr1 hr2 hR hlr2 hlm;have e1:=hno.symm;have e2:=hs2.symm;have e3:=hba.symm;have e4:=hs3.symm;have e5:=hoc.symm;have e6:=hs4.symm;have e7:=hma.symm;have e8:=hs5.symm;have e9:=hs1.symm;clear hno hs2 hba hs3 hoc hs4 hma hs5 hs1
 walk_at "!O0 aI"
theorem J0 {W n:Nat} {k s no mo:Int} (h1:0<no) (h2:no<100000000000000000000000000000000000000000000000000000000000000000000000000000000) (h3:0≤mo) (h4:mo≤1000):∃ (s':Int) (xs:List Int),run T W (n+2) "L_line" [.ow (.lst [.int k,.int s]) true false,.sh (.int no),.sh (.int mo)]=some (.ok (.ow (.lst (xs.map D.int))),[.ow (.lst [.int k,.int s']) true false,.sh (.int no),.sh (.int mo)])∧(xs.length:Int)≤mo∧∀ x∈xs,0≤x∧x<no:=by
 rw [bI CB rfl rfl];unfold mW;have g1:0<mo+1:=by omega
 have g2:mo+1<100000000000000000000000000000000000000000000000000000000000000000000000000000000:=by omega
 have v1:=bA (k:=k) (s:=s) g1;have v2:=bD (k:=k) (s:=s) g1;have hi:aH .rng [.slot 3] [.ow (.lst [.int k,.int (aF k s (mo+1))]) true false,.sh (.int no),.sh (.int mo),.sh (.int (aP k s (mo+1)))]=some ((List.range (aP k s (mo+1)).toNat).map fun (j:Nat)=>.int (j:Int),none):=lU rfl (by omega) (by omega)
 obtain ⟨acc,ρi,e,⟨s6,xs,t3,rfl,h3',rfl,hl,hx⟩,hz⟩:=fM (tests:=dY T.pins (run T W (n+1)) []) (elt:=ev T.pins (run T W (n+1)) false nW) (bind:=a8 true [3]) (ds:=(List.range (aP k s (mo+1)).toNat).map fun (j:Nat)=>.int (j:Int))
  (fun j acc ρ=>∃ (s6:Int) (xs:List Int) (t3:Sl),ρ=[.sh (.int no),.ow (.lst [.int k,.int s6]) true false,.un,t3]∧bM t3=true∧acc=xs.map D.int∧xs.length=j∧∀ x∈xs,0≤x∧x<no)
  (fun j d hd acc ρ hρ=>by
   obtain ⟨s6,xs,t3,rfl,h3',rfl,hl,hx⟩:=hρ;refine ⟨_,true,_,by simp only [rQ,IU,zr,List.getElem?_cons_succ,bB h3',List.set_cons_zero,List.set_cons_succ] <;> rfl,iA,fun _=>?_,fun z=>nomatch z⟩;refine ⟨.sh (.int (aP k s6 no)),[.sh (.int no),.ow (.lst [.int k,.int (aF k s6 no)]) true false,.un,.sh d], ?_,_,xs ++ [aP k s6 no],_,rfl,rfl,by simp [RV.d],by simp [hl],fun x hm=>?_⟩
   ·unfold nW;clear hx hd hl v1 v2 g1 g2 hi
    walk_at "!aI"
   ·rcases zo.mp hm with hm | hm
    ·exact hx x hm
    ·rw [ze.mp hm]; exact ⟨bA h1,bD h1⟩)
  [] [.sh (.int no),.ow (.lst [.int k,.int (aF k s (mo+1))]) true false,.un,.un] ⟨_,[],_,rfl,rfl,rfl,rfl,fun x h=>nomatch h⟩
 have hl:xs.length=(aP k s (mo+1)).toNat:=by rw [hl]; simp
 refine ⟨s6,xs, ?_,by omega,hx⟩;have hsm:aK (xs.map D.int).length=true:=bF (by simp; omega);clear hx hz hl v1 v2
 walk_at "!aI"
 rw [eF hi]
 walk_at "!aI"
theorem o3 {W n:Nat} {late shift note:Int} {turned:Bool}:run T W (n+1) "pitch" [.sh (.tup [.int late,.int shift,.bl turned]),.sh (.int note)]=some (.ok (.sh (.int (if turned then shift - note else shift+note))),[.sh (.tup [.int late,.int shift,.bl turned]),.sh (.int note)]):=by
 rw [bI FL rfl rfl];unfold pC;cases turned <;> walk_at "!"
noncomputable def aA (no ba oc:Int) (fs:List (Int × Int × Bool)) (rs:List D):D:=.tup [.int no,.int ba,.int oc,.tup (fs.map cM),.tup rs]
noncomputable def cB (xs:List Int) (b:Int) (f:Int × Int × Bool):D :=
 if 0≤b - f.1∧b - f.1<xs.length then .int (if f.2.2=true then f.2.1 - xs.getD (b - f.1).toNat 0 else f.2.1+xs.getD (b - f.1).toNat 0) else .non
abbrev b8 (fs:List (Int × Int × Bool)):List (Int × Int × Bool):=(0,0,false) :: fs
theorem kM {W n:Nat} {no ba oc:Int} {fs:List (Int × Int × Bool)} {rs:List D} {v:Nat} {f:Int × Int × Bool} (h:(b8 fs)[v]?=some f) :
  run T W (n+1) "singer" [.sh (aA no ba oc fs rs),.sh (.int (v:Int))]=some (.ok (.sh (cM f)),[.sh (aA no ba oc fs rs),.sh (.int (v:Int))]):=by
 rw [bI B3 rfl rfl];unfold nG
 cases v with
 | zero =>
  simp only [zr,Option.some.injEq] at h;subst h;have e:decide (((0:Nat):Int)=0)=true:=rfl
  walk_at "!"
  all_goals (try simp only [e])
  all_goals (try walk_at "!")
  all_goals rfl
 | succ v =>
  have h:fs[v]?=some f:=by simpa using h
  have e:decide (((v+1:Nat):Int)=0)=false:=Zm (by omega);have e2:((v+1:Nat):Int) - 1=(v:Int):=by omega
  have e3:L2.cJ (fs.map cM) (v:Int)=some (cM f):=L2.kB (by rw [Zh,h]; rfl);unfold aA
  walk_at "!"
theorem xY {xs:List Int} {i:Int} (h1:0≤i) (h2:i<xs.length):L2.cJ (xs.map D.int) i=some (.int (xs.getD i.toNat 0)):=by
 have:=vY (ns:=xs) (k:=i.toNat) (by omega)
 have e:((i.toNat:Nat):Int)=i:=by omega
 rwa [e] at this
theorem rY {W n:Nat} {no ba oc:Int} {fs:List (Int × Int × Bool)} {rs:List D} {xs:List Int} {v:Nat} {b:Int} {p:Bool} {f:Int × Int × Bool} (h:(b8 fs)[v]?=some f) :
  run T W (n+2) "sung" [.sh (aA no ba oc fs rs),.ow (.lst (xs.map D.int)) true false,.sh (.int (v:Int)),.sh (.int b)]=some (.ok (.sh (cB xs b f)),[.sh (aA no ba oc fs rs),.ow (.lst (xs.map D.int)) true false,.sh (.int (v:Int)),.sh (.int b)]):=by
 rw [bI LN rfl rfl];unfold tP;have hs:=kM (W:=W) (n:=n) (no:=no) (ba:=ba) (oc:=oc) (rs:=rs) h;obtain ⟨late,shift,turned⟩:=f;simp only [cM] at hs;by_cases c:0≤b - late∧b - late<xs.length
 ·have e1:=xY c.1 c.2;have ev:cB xs b (late,shift,turned)=.int (if turned=true then shift - xs.getD (b - late).toNat 0 else shift+xs.getD (b - late).toNat 0):=Zo c;obtain ⟨c1,c2⟩:=c;clear h
  walk_at "!kM o3 %"
 ·have ev:cB xs b (late,shift,turned)=.non:=Zp c;by_cases c1:0≤b - late
  ·have c2:¬ b - late<xs.length:=fun z=>c ⟨c1,z⟩
   have c2':decide (b - late<(xs.length:Int))=false:=Zm c2;clear h c c2
   walk_at "!kM o3 %"
  ·have c1':decide (0≤b - late)=false:=Zm c1;clear h c c1
   walk_at "!kM o3 %"
theorem jO {xs:List Int} {b:Int} {f:Int × Int × Bool}:cB xs b f=.non∨∃ i,cB xs b f=.int i:=by
 unfold cB;split
 ·exact .inr ⟨_,rfl⟩
 ·exact .inl rfl
theorem d7 {W n:Nat} {no ba oc:Int} {fs:List (Int × Int × Bool)} {rs:List D} {xs:List Int} {b:Int} (hl:fs.length≤1000) :
  run T W (n+1) "L_heard" [.sh (aA no ba oc fs rs),.ow (.lst (xs.map D.int)) true false,.sh (.int b)]=some (.ok (.ow (.lst ((b8 fs).map (cB xs b)))),[.sh (aA no ba oc fs rs),.ow (.lst (xs.map D.int)) true false,.sh (.int b)]):=by
 rw [bI zP rfl rfl];unfold lY;have hsm:aK (([]:List D).length+1+(fs.map cM).length)=true:=bF (by simp; omega);have hsm2:aK (0+1+fs.length)=true:=bF (by omega)
 have key:=cT (bind:=a8 false [4,5,6]) (body:=exs T.pins (run T W n) W mN)
  (fun pre ρ=>∃ (gs:List (Int × Int × Bool)) (t4 t5 t6 t7:Sl),pre=gs.map cM∧ρ=[.sh (aA no ba oc fs rs),.ow (.lst (xs.map D.int)) true false,.sh (.int b),.ow (.lst (gs.map (cB xs b))) false false,t4,t5,t6,t7]∧bM t4=true∧bM t5=true∧bM t6=true∧bM t7=true)
  (ds:=(b8 fs).map cM) (fun pre d post hds ρ hρ=>by
   obtain ⟨gs,t4,t5,t6,t7,rfl,rfl,h4,h5,h6,h7⟩:=hρ;have hmem:d∈(b8 fs).map cM:=by rw [hds]; simp
   obtain ⟨f,_,rfl⟩:=zl.mp hmem
   have hlen:gs.length≤1000:=by
    have:=congrArg List.length hds
    simp at this;omega
   obtain ⟨late,shift,turned⟩:=f;have hsm3:aK ((gs.map (cB xs b)).length+1)=true:=bF (by simp; omega);have hsm4:aK (gs.length+1)=true:=bF (by omega);refine ⟨[.sh (aA no ba oc fs rs),.ow (.lst (xs.map D.int)) true false,.sh (.int b),.ow (.lst (gs.map (cB xs b))) false false,.sh (.int late),.sh (.int shift),.sh (.bl turned),t7], ?_, ?_⟩
   ·unfold cM;simp only [eO,bB h4,bB h5,bB h6]
   ·refine ⟨[.sh (aA no ba oc fs rs),.ow (.lst (xs.map D.int)) true false,.sh (.int b),.ow (.lst ((gs ++ [(late,shift,turned)]).map (cB xs b))) false false,.sh (.int late),.sh (.int shift),.sh (.bl turned),.sh (cB xs b (late,shift,turned))], ?_,gs ++ [(late,shift,turned)],_,_,_,_,by simp,rfl,rfl,rfl,rfl,rfl⟩;unfold mN;rw [zd,Zs,List.map_nil];by_cases c:0≤b - late∧b - late<xs.length
    ·have e1:=xY c.1 c.2;have ev:cB xs b (late,shift,turned)=.int (if turned=true then shift - xs.getD (b - late).toNat 0 else shift+xs.getD (b - late).toNat 0):=Zo c;rw [ev];obtain ⟨c1,c2⟩:=c;clear hds hmem hlen hsm hsm2 hl h4 h5 h6;cases turned
     ·walk_at "!%"
     ·walk_at "!%"
    ·have ev:cB xs b (late,shift,turned)=.non:=Zp c;rw [ev];by_cases c1:0≤b - late
     ·have c2:¬ b - late<xs.length:=fun z=>c ⟨c1,z⟩
      have c2':decide (b - late<(xs.length:Int))=false:=Zm c2;clear hds hmem hlen hsm hsm2 hl h4 h5 h6 c c2
      walk_at "!%"
     ·have c1':decide (0≤b - late)=false:=Zm c1;clear hds hmem hlen hsm hsm2 hl h4 h5 h6 c c1
      walk_at "!%")
  (ρ:=[.sh (aA no ba oc fs rs),.ow (.lst (xs.map D.int)) true false,.sh (.int b),.ow (.lst []) false false,.un,.un,.un,.un]) ⟨[],_,_,_,_,rfl,rfl,rfl,rfl,rfl,rfl⟩
 obtain ⟨ρ',e,gs,t4,t5,t6,t7,hg,rfl,_⟩:=key
 have inj:∀ {f g:Int × Int × Bool},cM f=cM g→f=g:=fun {f g} h=>by
  obtain ⟨a,b,c⟩:=f;obtain ⟨a',b',c'⟩:=g;simp only [cM,D.tup.injEq,List.cons.injEq,D.int.injEq,D.bl.injEq,and_true] at h;obtain ⟨rfl,rfl,rfl⟩:=h;rfl
 have hgs:gs=b8 fs:=((List.map_inj_right (fun a b h=>inj h)).mp hg).symm;subst hgs;have hi:aH .of [.val (.sh (.tup ((b8 fs).map cM)))] [.sh (aA no ba oc fs rs),.ow (.lst (xs.map D.int)) true false,.sh (.int b),.ow (.lst []) false false,.un,.un,.un,.un]=some ((b8 fs).map cM,none):=xE rfl;clear hg inj hl;have hh:aA no ba oc fs rs=.tup [.int no,.int ba,.int oc,.tup (fs.map cM),.tup rs]:=rfl;rw [hh] at e hi ⊢;clear hh;rw [Zs] at e hi;simp only [Zs,cM] at e hi ⊢
 walk_at "!%"
theorem o6 {tests elt:Env→aS RV} {bind:D→Env→Option Env} {ds:List D} (sel:Nat→Bool) (val:Nat→D) (J:Env→Prop)
  (step:∀ (j:Nat) (d:D),ds[j]?=some d→∀ ρ,J ρ→∃ ρ1 ρ2,bind d ρ=some ρ1∧tests ρ1=some (.ok (.sh (.bl (sel j))),ρ2)∧(sel j=true→∃ v ρ3,elt ρ2=some (.ok v,ρ3)∧v.d=val j∧J ρ3)∧(sel j=false→J ρ2)) :
  ∀ ρ,J ρ→∃ ρ',fZ tests elt bind ds [] ρ=some (.ok (((List.range ds.length).filter sel).map val),ρ')∧J ρ':=by
 intro ρ hρ
 obtain ⟨acc,ρ',e,⟨rfl,hJ⟩,_⟩:=fM (tests:=tests) (elt:=elt) (bind:=bind) (ds:=ds) (fun j acc ρ=>acc=((List.range j).filter sel).map val∧J ρ)
  (fun j d hd acc ρ ⟨ha,hJ⟩=>by
   subst ha;obtain ⟨ρ1,ρ2,h1,h2,h3,h4⟩:=step j d hd ρ hJ;refine ⟨ρ1,sel j,ρ2,h1,h2,fun hc=>?_,fun hc=>?_⟩
   ·obtain ⟨v,ρ3,h5,h6,h7⟩:=h3 hc;refine ⟨v,ρ3,h5, ?_,h7⟩;rw [List.range_succ,List.filter_append,zd,h6];simp [hc]
   ·refine ⟨?_,h4 hc⟩;rw [List.range_succ,List.filter_append,zd]
    simp [hc]) [] ρ ⟨rfl,hρ⟩
 exact ⟨ρ',e,hJ⟩
theorem lZ {W n:Nat} {no ba oc:Int} {fs:List (Int × Int × Bool)} {rs:List D} {xs:List Int} {b:Int} (hl:fs.length≤1000) :
  run T W (n+3) "chord" [.sh (aA no ba oc fs rs),.ow (.lst (xs.map D.int)) true false,.sh (.int b)]=some (.ok (.ow (.lst ((b8 fs).map (cB xs b)))),[.sh (aA no ba oc fs rs),.ow (.lst (xs.map D.int)) true false,.sh (.int b)]):=by
 rw [bI FK rfl rfl];unfold pE
 have hi:aH .rng [.val (.sh (.int ((fs.length:Int)+1)))] [.sh (aA no ba oc fs rs),.ow (.lst (xs.map D.int)) true false,.sh (.int b)]=some ((List.range (fs.length+1)).map fun (j:Nat)=>.int (j:Int),none):=by
  refine Eq.trans (lU (n:=(fs.length:Int)+1) rfl (by omega) (by omega)) ?_;rw [show ((fs.length:Int)+1).toNat=fs.length+1 from by omega]
 have hix:eX (some (aA no ba oc fs rs)) (.int 3)=some (.sh (.tup (fs.map cM))):=rfl
 obtain ⟨acc,ρi,e,⟨t4,rfl,ht4,rfl⟩,hz⟩:=fM (tests:=dY T.pins (run T W (n+2)) []) (elt:=ev T.pins (run T W (n+2)) false pD) (bind:=a8 true [4]) (ds:=(List.range (fs.length+1)).map fun (j:Nat)=>.int (j:Int))
  (fun j acc ρ=>∃ (t4:Sl),ρ=[.sh (.int b),.sh (aA no ba oc fs rs),.ow (.lst (xs.map D.int)) true false,.un,t4]∧bM t4=true∧acc=((b8 fs).take j).map (cB xs b))
  (fun j d hd acc ρ hρ=>by
   obtain ⟨t4,rfl,ht4,rfl⟩:=hρ
   have hj:j<fs.length+1:=by
    have:=(Zc.mp hd).1
    simpa using this
   have hd':d=.int (j:Int):=by
    rw [Zh,List.getElem?_range hj] at hd;exact (Option.some.inj hd).symm
   subst hd';obtain ⟨f,hf⟩:∃ f,(b8 fs)[j]?=some f:=⟨_,Zb (by simp; omega)⟩
   have hs:=rY (W:=W) (n:=n) (no:=no) (ba:=ba) (oc:=oc) (rs:=rs) (xs:=xs) (b:=b) (p:=true) hf;refine ⟨_,true,_,by simp only [eO,bB ht4] <;> rfl,iA,fun _=>?_,fun z=>nomatch z⟩;refine ⟨.sh (cB xs b f),[.sh (.int b),.sh (aA no ba oc fs rs),.ow (.lst (xs.map D.int)) true false,.un,.sh (.int (j:Int))], ?_,_,rfl,rfl, ?_⟩
   ·unfold pD;clear hd hj hf hi ht4 hix
    walk_at "!%"
   ·rw [List.take_succ,hf,zd]
    rfl)
  [] [.sh (.int b),.sh (aA no ba oc fs rs),.ow (.lst (xs.map D.int)) true false,.un,.un] ⟨_,rfl,rfl,rfl⟩
 have ht:(b8 fs).take (((List.range (fs.length+1)).map fun (j:Nat)=>D.int (j:Int)).length)=b8 fs:=by
  rw [zf];simp
 rw [ht] at e;have hsm:aK ((b8 fs).map (cB xs b)).length=true:=bF (by simp; omega);have hsm2:aK (fs.length+1)=true:=bF (by omega);clear hz ht4 ht hl
 walk_at "!%"
 rw [eF hi]
 walk_at "!%"
noncomputable def f6 (lo hi:Int):D→Bool
 | .int i=>!(decide (lo≤i) && decide (i≤hi))
 | _=>false
noncomputable def nV (n:Nat) (sel:Nat→Bool):List (List Int):=((List.range n).filter sel).map fun (j:Nat)=>[(j:Int)]
theorem V0 {n:Nat} {sel:Nat→Bool} {is:List Int} (h:is∈nV n sel):is.length≤1000:=by
 obtain ⟨j,_,rfl⟩:=zl.mp h;simp
theorem C9 {n:Nat} {sel:Nat→Bool} (hn:n≤1000):(nV n sel).length≤1000:=by
 unfold nV;rw [List.length_map]
 have:=List.length_filter_le sel (List.range n)
 simp at this;omega
theorem KL {n:Nat} {sel:Nat→Bool}:((List.range n).filter sel).map (fun (j:Nat)=>D.tup [.int (j:Int)])=aD (nV n sel):=by
 unfold aD nV;rw [List.map_map];rfl
theorem AO {W n:Nat} {lo hi:Int} {d:D} (hd:d=.non∨∃ i,d=.int i):run T W (n+1) "Range.forbids" [.sh (.ins "Range" ["low","high"] [.int lo,.int hi]),.sh d]=some (.ok (.sh (.bl (f6 lo hi d))),[.sh (.ins "Range" ["low","high"] [.int lo,.int hi]),.sh d]):=by
 rw [bI m8 rfl rfl];unfold fV;rcases hd with rfl | ⟨i,rfl⟩
 ·have e:f6 lo hi .non=false:=rfl
  walk_at "!k8 kG"
 ·have e:f6 lo hi (.int i)=!(decide (lo≤i) && decide (i≤hi)):=rfl;by_cases c:lo≤i
  ·have c':decide (lo≤i)=true:=Zn c;rw [e,c',Bool.true_and];clear e c
   walk_at "!k8 kG"
  ·have c':decide (lo≤i)=false:=Zm c;rw [e,c',Bool.false_and];clear e c
   walk_at "!k8 kG"
noncomputable def aG (fs:List (Int × Int × Bool)) (xs:List Int) (b:Int):List D:=(b8 fs).map (cB xs b)
theorem vW {fs:List (Int × Int × Bool)} {xs:List Int} {b:Int} {j:Nat} {d:D} (h:(aG fs xs b)[j]?=some d):d=.non∨∃ i,d=.int i:=by
 unfold aG at h;rw [Zh] at h
 cases q:(b8 fs)[j]? with
 | none=>rw [q] at h; cases h
 | some f =>
  rw [q] at h;cases h;exact jO
theorem dO {fs:List (Int × Int × Bool)} {xs:List Int} {b:Int}:(aG fs xs b).length=fs.length+1:=by unfold aG; simp
theorem vO {fs:List (Int × Int × Bool)} {xs:List Int} {b:Int} {v:Nat} {f:Int × Int × Bool} (h:(b8 fs)[v]?=some f):(aG fs xs b)[v]?=some (cB xs b f):=by
 unfold aG; rw [Zh,h]; rfl
theorem j0 {fs:List (Int × Int × Bool)} {xs:List Int} {b:Int} {v:Nat} {f:Int × Int × Bool} (h:(b8 fs)[v]?=some f):(aG fs xs b).getD v .non=cB xs b f:=by
 rw [List.getD_eq_getElem?_getD,vO h]; rfl
theorem aCG {ρ:Env} {v:RV} {ds:List D} (h:v.d=.lst ds):aH (.enum 0) [.val v] ρ=some (dM 0 ds,none):=by simp only [aH,h]
noncomputable def jX (lo hi:Int) (fs:List (Int × Int × Bool)) (xs:List Int) (b:Int):List (List Int):=nV (fs.length+1) fun j=>f6 lo hi ((aG fs xs b).getD j .non)
theorem CQ {W n:Nat} {lo hi no ba oc:Int} {fs:List (Int × Int × Bool)} {rs:List D} {xs:List Int} {b:Int} (hl:fs.length≤900) :
  run T W (n+4) "Range.broken" [.sh (.ins "Range" ["low","high"] [.int lo,.int hi]),.sh (aA no ba oc fs rs),.ow (.lst (xs.map D.int)) true false,.sh (.int b)]=some (.ok (.ow (.lst (aD (jX lo hi fs xs b)))),[.sh (.ins "Range" ["low","high"] [.int lo,.int hi]),.sh (aA no ba oc fs rs),.ow (.lst (xs.map D.int)) true false,.sh (.int b)]):=by
 rw [bI oB rfl rfl];unfold gM;have hc:run T W (n+3) "chord" _=some (.ok (.ow (.lst (aG fs xs b))),_):=lZ (W:=W) (n:=n) (no:=no) (ba:=ba) (oc:=oc) (fs:=fs) (rs:=rs) (xs:=xs) (b:=b) (by omega);have hi2:aH (.enum 0) [.val (.ow (.lst (aG fs xs b)))] [.sh (.ins "Range" ["low","high"] [.int lo,.int hi]),.sh (aA no ba oc fs rs),.ow (.lst (xs.map D.int)) true false,.sh (.int b)]=some (dM 0 (aG fs xs b),none):=aCG rfl
 obtain ⟨ρi,e,t2,t3,rfl,ht2,ht3⟩:=o6 (tests:=dY T.pins (run T W (n+3)) [.meth 0 "forbids" fB [.var 3]]) (elt:=ev T.pins (run T W (n+3)) false iL) (bind:=a8 false [2,3]) (ds:=dM 0 (aG fs xs b))
  (fun j=>f6 lo hi ((aG fs xs b).getD j .non)) (fun (j:Nat)=>.tup [.int (j:Int)])
  (fun ρ=>∃ (t2 t3:Sl),ρ=[.sh (.ins "Range" ["low","high"] [.int lo,.int hi]),.un,t2,t3]∧bM t2=true∧bM t3=true)
  (fun j d hd ρ hρ=>by
   obtain ⟨t2,t3,rfl,ht2,ht3⟩:=hρ
   have hj:j<(aG fs xs b).length:=by
    have:=(Zc.mp hd).1
    rwa [fO] at this
   have hg:=Zb hj;rw [nJ hg,Int.zero_add] at hd;cases hd;generalize (aG fs xs b)[j]=x at hg;have hgd:(aG fs xs b).getD j .non=x:=by rw [List.getD_eq_getElem?_getD,hg]; rfl
   have hk:=vW hg;have hf:=AO (W:=W) (n:=n+2) (lo:=lo) (hi:=hi) hk;refine ⟨_,[.sh (.ins "Range" ["low","high"] [.int lo,.int hi]),.un,.sh (.int (j:Int)),.sh x],by simp only [eO,bB ht2,bB ht3] <;> rfl, ?_,fun _=>?_,fun _=>?_⟩
   ·simp only [hgd];clear hj hg hgd hk hc hi2 ht2 ht3
    walk_at "!fR"
   ·refine ⟨.sh (.tup [.int (j:Int)]),[.sh (.ins "Range" ["low","high"] [.int lo,.int hi]),.un,.sh (.int (j:Int)),.sh x], ?_,rfl,_,_,rfl,rfl,rfl⟩;unfold iL;clear hj hg hgd hk hc hi2 ht2 ht3 hf
    walk_at "!fR"
   ·exact ⟨_,_,rfl,rfl,rfl⟩)
  [.sh (.ins "Range" ["low","high"] [.int lo,.int hi]),.un,.un,.un] ⟨_,_,rfl,rfl,rfl⟩
 rw [fO,dO,KL] at e;have hB:nV (fs.length+1) (fun j=>f6 lo hi ((aG fs xs b).getD j .non))=jX lo hi fs xs b:=rfl;rw [hB] at e
 have hsm:aK (aD (jX lo hi fs xs b)).length=true:=bF (by
  have:=C9 (n:=fs.length+1) (sel:=fun j=>f6 lo hi ((aG fs xs b).getD j .non)) (by omega)
  unfold aD jX;simp only [List.length_map]
  omega)
 clear hl ht2 ht3 hB
 walk_at "!fR"
 rw [eF hi2]
 walk_at "!fR"
noncomputable def eQ (m v:Nat) (P:Nat→Nat→Bool):List (List Int):=((List.range m).filter fun j=>P v (v+1+j)).map fun (j:Nat)=>[(v:Int),((v+1+j:Nat):Int)]
noncomputable def cF (n:Nat) (P:Nat→Nat→Bool):List (List Int):=(List.range n).flatMap fun v=>eQ (n - (v+1)) v P
theorem J6 {m v:Nat} {P:Nat→Nat→Bool}:eQ (m+1) v P=eQ m v P ++ (if P v (v+1+m)=true then [[(v:Int),((v+1+m:Nat):Int)]] else []):=by
 unfold eQ;rw [List.range_succ,List.filter_append,zd];congr 1;by_cases h:P v (v+1+m)=true
 ·simp [h]
 ·simp [h]
theorem T2 {m v:Nat} {P:Nat→Nat→Bool} {is:List Int} (h:is∈eQ m v P):is.length≤1000:=by
 obtain ⟨j,_,rfl⟩:=zl.mp h;simp
theorem zF {n:Nat} {P:Nat→Nat→Bool} {is:List Int} (h:is∈cF n P):is.length≤1000:=by
 obtain ⟨v,_,h⟩:=List.mem_flatMap.mp h;exact T2 h
theorem C2 {m v:Nat} {P:Nat→Nat→Bool}:(eQ m v P).length≤m:=by
 unfold eQ;rw [List.length_map]
 have:=List.length_filter_le (fun j=>P v (v+1+j)) (List.range m)
 simpa using this
theorem uK {n m:Nat} {P:Nat→Nat→Bool}:(List.range (m+1)).flatMap (fun v=>eQ (n - (v+1)) v P)=(List.range m).flatMap (fun v=>eQ (n - (v+1)) v P) ++ eQ (n - (m+1)) m P:=by
 rw [List.range_succ,List.flatMap_append];simp
theorem pL {n:Nat} {P:Nat→Nat→Bool}:∀ (m:Nat),((List.range m).flatMap (fun v=>eQ (n - (v+1)) v P)).length≤m*n
 | 0=>by simp
 | m+1=>by
  rw [uK,Za];have h1:=pL (n:=n) (P:=P) m;have h2:=C2 (m:=n - (m+1)) (v:=m) (P:=P);rw [Nat.succ_mul];omega
theorem wZ {n:Nat} {P:Nat→Nat→Bool} (hn:n≤30):(cF n P).length≤1000:=by
 have h1:=pL (n:=n) (P:=P) n;have h2:n*n≤30*30:=Nat.mul_le_mul hn hn;unfold cF;omega
theorem mY {a b:List (List Int)}:aD (a ++ b)=aD a ++ aD b:=by unfold aD; rw [zd]
theorem cZ {a:List (List Int)}:(aD a).length=a.length:=by unfold aD; rw [List.length_map]
theorem vP {body:Env→bR} {iw:Nat} (E:List D→Sl→Sl→Env) (P:Nat→Nat→Bool) (n v:Nat) (acc:List (List Int)) (ha:acc.length≤10000) (hn:n≤1000)
  (hb:∀ (a:List D) (t:Sl) (d:D),bM t=true→a8 true [iw] d (E a (.sh (.int (v:Int))) t)=some (E a (.sh (.int (v:Int))) (.sh d)))
  (hs:∀ (a:List (List Int)) (w:Nat),v<w→w<n→a.length≤20000→body (E (aD a) (.sh (.int (v:Int))) (.sh (.int (w:Int))))=some (.nx,E (aD (a ++ (if P v w=true then [[(v:Int),(w:Int)]] else []))) (.sh (.int (v:Int))) (.sh (.int (w:Int))))) (t:Sl) (ht:bM t=true) :
  ∃ t',bW (a8 true [iw]) body ((List.range (n - (v+1))).map fun (j:Nat)=>.int ((v:Int)+1+(j:Int))) (E (aD acc) (.sh (.int (v:Int))) t)=some (.nx,E (aD (acc ++ eQ (n - (v+1)) v P)) (.sh (.int (v:Int))) t')∧bM t'=true:=by
 obtain ⟨ρ',e,t',rfl,ht'⟩:=cT (bind:=a8 true [iw]) (body:=body) (fun pre ρ=>∃ t',ρ=E (aD (acc ++ eQ pre.length v P)) (.sh (.int (v:Int))) t'∧bM t'=true)
  (ds:=(List.range (n - (v+1))).map fun (j:Nat)=>.int ((v:Int)+1+(j:Int))) (fun pre d post hds ρ hρ=>by
   obtain ⟨t',rfl,ht'⟩:=hρ
   have hlen:pre.length<n - (v+1):=by
    have:=congrArg List.length hds
    simp at this;omega
   have hd:d=.int (((v+1+pre.length:Nat)):Int):=by
    have h1:((List.range (n - (v+1))).map fun (j:Nat)=>D.int ((v:Int)+1+(j:Int)))[pre.length]?=some d:=by rw [hds]; simp
    rw [Zh,List.getElem?_range hlen] at h1;simp only [Option.map_some,Option.some.injEq] at h1;rw [← h1];congr 1
   subst hd;refine ⟨_,hb _ _ _ ht',_,hs _ (v+1+pre.length) (by omega) (by omega) ?_,.sh (.int ((v+1+pre.length:Nat):Int)), ?_,rfl⟩
   ·have:=C2 (m:=pre.length) (v:=v) (P:=P)
    rw [Za];omega
   ·rw [Za,Zk,List.length_nil,J6,List.append_assoc])
  (ρ:=E (aD acc) (.sh (.int (v:Int))) t) ⟨t,by simp [eQ],ht⟩
 refine ⟨t', ?_,ht'⟩;rw [e];simp
theorem o5 {body:Env→bR} {iv:Nat} (E:List D→Sl→Sl→Env) (P:Nat→Nat→Bool) (n:Nat) (hn:n≤30)
  (hb:∀ (a:List D) (t t2:Sl) (d:D),bM t=true→a8 true [iv] d (E a t t2)=some (E a (.sh d) t2))
  (hs:∀ (acc:List (List Int)) (v:Nat) (t:Sl),v<n→acc.length≤10000→bM t=true→∃ t',body (E (aD acc) (.sh (.int (v:Int))) t)=some (.nx,E (aD (acc ++ eQ (n - (v+1)) v P)) (.sh (.int (v:Int))) t')∧bM t'=true) (t t2:Sl) (ht:bM t=true) (ht2:bM t2=true) :
  ∃ t' t2',bW (a8 true [iv]) body ((List.range n).map fun (j:Nat)=>.int (j:Int)) (E [] t t2)=some (.nx,E (aD (cF n P)) t' t2')∧bM t'=true∧bM t2'=true:=by
 obtain ⟨ρ',e,t',t2',rfl,ht',ht2'⟩:=cT (bind:=a8 true [iv]) (body:=body) (fun pre ρ=>∃ t' t2',ρ=E (aD ((List.range pre.length).flatMap fun v=>eQ (n - (v+1)) v P)) t' t2'∧bM t'=true∧bM t2'=true)
  (ds:=(List.range n).map fun (j:Nat)=>.int (j:Int)) (fun pre d post hds ρ hρ=>by
   obtain ⟨t',t2',rfl,ht',ht2'⟩:=hρ
   have hlen:pre.length<n:=by
    have:=congrArg List.length hds
    simp at this;omega
   have hd:d=.int ((pre.length:Nat):Int):=by
    have h1:((List.range n).map fun (j:Nat)=>D.int (j:Int))[pre.length]?=some d:=by rw [hds]; simp
    rw [Zh,List.getElem?_range hlen] at h1;simp only [Option.map_some,Option.some.injEq] at h1;exact h1.symm
   subst hd
   obtain ⟨t3,h3,h4⟩:=hs ((List.range pre.length).flatMap fun v=>eQ (n - (v+1)) v P) pre.length t2' hlen (by
    have h1:=pL (n:=n) (P:=P) pre.length;have h2:pre.length*n≤30*30:=Nat.mul_le_mul (by omega) hn
    omega) ht2'
   refine ⟨_,hb _ _ _ _ ht',_,h3,.sh (.int ((pre.length:Nat):Int)),_, ?_,rfl,h4⟩
   rw [Za,Zk,List.length_nil,uK])
  (ρ:=E [] t t2) ⟨t,t2,by simp [aD],ht,ht2⟩
 refine ⟨t',t2', ?_,ht',ht2'⟩;rw [e];unfold cF;simp
noncomputable def j4:D→Bool
 | .non=>true
 | _=>false
noncomputable def bZ (hs:List D) (v w:Nat):Bool:=!j4 (hs.getD v .non) && !j4 (hs.getD w .non)
def F6 (hs:List D):Prop:=∀ d∈hs,d=.non∨∃ i,d=.int i
theorem nE {fs:List (Int × Int × Bool)} {xs:List Int} {b:Int}:F6 (aG fs xs b):=fun d hd=>by
 obtain ⟨f,_,rfl⟩:=zl.mp hd;exact jO
theorem dX {hs:List D} (h:F6 hs) {v:Nat} (hv:v<hs.length):∃ d,L2.cJ hs (v:Int)=some d∧hs.getD v .non=d∧(d=.non∨∃ i,d=.int i):=by
 refine ⟨hs[v],L2.kB (Zb hv), ?_,h _ (List.getElem_mem hv)⟩;rw [List.getD_eq_getElem?_getD,Zb hv];rfl
theorem pR {W n:Nat} {hs:List D} (hh:F6 hs) (hl:hs.length≤30) :
  run T W (n+1) "sounding_pairs" [.ow (.lst hs) true false]=some (.ok (.ow (.lst (aD (cF hs.length (bZ hs))))),[.ow (.lst hs) true false]):=by
 rw [bI mM rfl rfl];unfold fG
 have hi:aH .rng [.val (.sh (.int (hs.length:Int)))] [.ow (.lst hs) true false,.ow (.lst []) false false,.un,.un]=some ((List.range hs.length).map fun (j:Nat)=>.int (j:Int),none):=by
  refine Eq.trans (lU (n:=(hs.length:Int)) rfl (by omega) (by omega)) ?_;rw [Int.toNat_natCast]
 obtain ⟨t',t2',e,ht',ht2'⟩:=o5 (iv:=2) (body:=exs T.pins (run T W n) W gI) (fun a t t2=>[.ow (.lst hs) true false,.ow (.lst a) false false,t,t2]) (bZ hs) hs.length hl
  (fun a t t2 d ht=>by simp only [eO,bB ht])
  (fun acc v t hv hac ht=>by
   have hi2:aH .rng [.val (.sh (.int ((v:Int)+1))),.val (.sh (.int (hs.length:Int)))] [.ow (.lst hs) true false,.ow (.lst (aD acc)) false false,.sh (.int (v:Int)),t]=some ((List.range (hs.length - (v+1))).map fun (j:Nat)=>.int ((v:Int)+1+(j:Int)),none):=by
    refine Eq.trans (G9 (m:=(v:Int)+1) (n:=(hs.length:Int)) rfl rfl (by omega) (by omega)) ?_;rw [show ((hs.length:Int) - ((v:Int)+1)).toNat=hs.length - (v+1) from by omega]
   obtain ⟨t3,e3,h3⟩:=vP (iw:=3) (body:=exs T.pins (run T W n) W gK) (fun a t t2=>[.ow (.lst hs) true false,.ow (.lst a) false false,t,t2]) (bZ hs) hs.length v acc hac (by omega)
    (fun a t d ht=>by simp only [eO,bB ht])
    (fun a w hvw hw hal=>by
     obtain ⟨d1,a1,g1,k1⟩:=dX hh hv;obtain ⟨d2,a2,g2,k2⟩:=dX hh hw;have hsm:aK ((aD a).length+1)=true:=bF (by rw [cZ]; omega);unfold gK bZ;rw [g1,g2];clear hi hi2 hh hl hv hw hvw hal hac ht g1 g2;rcases k1 with rfl | ⟨i1,rfl⟩
     ·have e:j4 .non=true:=rfl
      walk_at "!%"
      all_goals (try simp only [List.append_nil])
     ·have e1:j4 (.int i1)=false:=rfl;rcases k2 with rfl | ⟨i2,rfl⟩
      ·have e:j4 .non=true:=rfl
       walk_at "!%"
       all_goals (try simp only [List.append_nil])
      ·have e:j4 (.int i2)=false:=rfl;have et:aD (a ++ [[(v:Int),(w:Int)]])=aD a ++ [.tup [.int (v:Int),.int (w:Int)]]:=by rw [mY]; rfl
       walk_at "!%") t ht
   refine ⟨t3, ?_,h3⟩;unfold gI;clear hi hh hl hv hac ht h3
   walk_at "!%") .un .un rfl rfl
 clear hl hh ht' ht2'
 walk_at "!%"
noncomputable def cC (i:Int):Int:=if i<0 then -i else i
theorem bY {i:Int}:(if i<0 then -i else i)=cC i:=rfl
noncomputable def gx (xs:List Int) (i:Nat):Int:=xs.getD i 0
theorem j6 {xs:List Int} {k:Nat} (h:k<xs.length):L2.cJ (xs.map D.int) (k:Int)=some (.int (gx xs k)):=vY h
theorem xG {xs:List Int} {k:Nat} (h:k<xs.length):gx xs k∈xs:=by
 unfold gx;rw [List.getD_eq_getElem?_getD,Zb h];simp
noncomputable def d6 (c:Bool):List (List Int):=if c=true then [[]] else []
theorem yQ {c:Bool} {is:List Int} (h:is∈d6 c):is.length≤1000:=by
 cases c
 ·cases h
 ·rw [ze.mp h]; decide
theorem yS {c:Bool}:dA .Mult (.lst [.tup []]) (.int (if c=true then 1 else 0))=some (.ow (.lst (aD (d6 c)))):=by
 cases c <;> exact A8 (by decide) (by decide) (fU (by decide))
noncomputable def kP (mo:Int) (xs:List Int):Nat→Bool
 | 0=>false
 | b+1=>decide (mo<cC (gx xs (b+1) - gx xs b))
theorem EU {W n:Nat} {mo:Int} {h:D} {xs:List Int} {b:Nat} (hb:b<xs.length) :
  run T W (n+1) "Leap.broken" [.sh (.ins "Leap" ["most"] [.int mo]),.sh h,.ow (.lst (xs.map D.int)) true false,.sh (.int (b:Int))]=some (.ok (.ow (.lst (aD (d6 (kP mo xs b))))),[.sh (.ins "Leap" ["most"] [.int mo]),.sh h,.ow (.lst (xs.map D.int)) true false,.sh (.int (b:Int))]):=by
 rw [bI qP rfl rfl];unfold iJ
 match b,hb with
 | 0,hb =>
  have e:aD (d6 (kP mo xs 0))=[]:=rfl;have c:decide (0<((0:Nat):Int))=false:=rfl;clear hb
  walk_at "!lA % bY"
 | b+1,hb =>
  have c:decide (0<((b+1:Nat):Int))=true:=Zn (by omega);have i1:((b+1:Nat):Int) - 1=((b:Nat):Int):=by omega
  have a0:=j6 (xs:=xs) (k:=b) (by omega);have a1:=j6 (xs:=xs) (k:=b+1) (by omega);have ev:kP mo xs (b+1)=decide (mo<cC (gx xs (b+1) - gx xs b)):=rfl;clear hb;cases c1:decide (mo<cC (gx xs (b+1) - gx xs b))
  ·have e:aD (d6 (kP mo xs (b+1)))=[]:=by rw [ev,c1]; rfl
   clear ev
   walk_at "!lA % bY"
  ·have e:aD (d6 (kP mo xs (b+1)))=[.tup []]:=by rw [ev,c1]; rfl
   clear ev
   walk_at "!lA % bY"
noncomputable def kD (m:Nat) (xs:List Int) (b:Nat):List Int:=(xs.drop (b - m)).take m
noncomputable def eW (m:Nat) (xs:List Int) (b:Nat):Bool:=decide ((m:Int)≤(b:Int)) && (kD m xs b).all fun z=>decide (z=gx xs b)
theorem FR {xs:List Int} {m b e:Nat} (h:m≤b) (hb:b≤e) (he:e≤xs.length):D2 (some (.lst (xs.map D.int))) (some (.int ((b:Int) - (m:Int)))) (some (.int (e:Int)))=some (.ow (.lst (((xs.drop (b - m)).take (m+(e - b))).map D.int))):=by
 have e1:(b:Int) - (m:Int)=((b - m:Nat):Int):=by omega
 show some (RV.ow (.lst (jV (xs.map D.int) (some ((b:Int) - (m:Int))) (some (e:Int)))))=_;rw [e1];unfold jV;rw [HT.oU,HT.oU,List.length_map,Nat.min_eq_left (by omega),Nat.min_eq_left (by omega),← List.map_drop,← List.map_take,show e - (b - m)=m+(e - b) from by omega]
theorem oV {Z:List Int} {p:Int→Bool}:lH .all [.lst (Z.map fun z=>.bl (p z))]=some (.sh (.bl (Z.all p))):=by
 have h:hX (Z.map fun z=>.bl (p z))=some (Z.map p):=by
  induction Z with
  | nil=>rfl
  | cons z Z ih=>simp [hX,ih]
 show (hX _).map _=_;rw [h];simp [List.all_map]
theorem C3 {W n:Nat} {m:Nat} {h:D} {xs:List Int} {b:Nat} (hb:b<xs.length) (hm:m≤3) :
  run T W (n+1) "Again.broken" [.sh (.ins "Again" ["most"] [.int (m:Int)]),.sh h,.ow (.lst (xs.map D.int)) true false,.sh (.int (b:Int))]=some (.ok (.ow (.lst (aD (d6 (eW m xs b))))),[.sh (.ins "Again" ["most"] [.int (m:Int)]),.sh h,.ow (.lst (xs.map D.int)) true false,.sh (.int (b:Int))]):=by
 rw [bI oI rfl rfl];unfold gX;by_cases c:(b:Int)<(m:Int)
 ·have c':decide ((b:Int)<(m:Int))=true:=Zn c
  have e:aD (d6 (eW m xs b))=[]:=by
   unfold eW;rw [Zm (by omega)];rfl
  clear c hb hm
  walk_at "!eG oV %"
 ·have c':decide ((b:Int)<(m:Int))=false:=Zm c;have hs:=FR (xs:=xs) (m:=m) (b:=b) (e:=b) (by omega) (Zq _) (by omega);rw [Nat.sub_self,Nat.add_zero] at hs;have hZ:((xs.drop (b - m)).take m)=kD m xs b:=rfl;rw [hZ] at hs
  have hv:eW m xs b=(kD m xs b).all fun z=>decide (z=gx xs b):=by
   unfold eW;rw [Zn (by omega),Bool.true_and]
  have hzl:(kD m xs b).length≤3:=by unfold kD; rw [List.length_take]; omega
  have a0:=j6 (xs:=xs) (k:=b) hb
  generalize kD m xs b=Z at *
  have hi:aH .of [.val (.ow (.lst (Z.map D.int)))] [.sh (.ins "Again" ["most"] [.int (m:Int)]),.sh h,.ow (.lst (xs.map D.int)) true false,.sh (.int (b:Int))]=some (Z.map D.int,none):=tG rfl
  obtain ⟨acc,ρi,e,⟨t4,rfl,ht4,rfl⟩,hz⟩:=fM (tests:=dY T.pins (run T W n) []) (elt:=ev T.pins (run T W n) false iP) (bind:=a8 true [3]) (ds:=Z.map D.int)
   (fun j acc ρ=>∃ (t4:Sl),ρ=[.sh (.int (b:Int)),.ow (.lst (xs.map D.int)) true false,.un,t4]∧bM t4=true∧acc=(Z.take j).map fun z=>.bl (decide (z=gx xs b)))
   (fun j d hd acc ρ hρ=>by
    obtain ⟨t4,rfl,ht4,rfl⟩:=hρ;obtain ⟨z,hz,rfl⟩:∃ z,Z[j]?=some z∧D.int z=d:=by simpa using hd
    refine ⟨_,true,_,by simp only [eO,bB ht4] <;> rfl,iA,fun _=>?_,fun z=>nomatch z⟩;refine ⟨.sh (.bl (decide (z=gx xs b))),[.sh (.int (b:Int)),.ow (.lst (xs.map D.int)) true false,.un,.sh (.int z)], ?_,_,rfl,rfl, ?_⟩
    ·unfold iP;clear hd hz hi ht4 hs hv hzl c c' hb hm hZ
     walk_at "!eG oV %"
    ·rw [List.take_succ,hz,zd]
     rfl)
   [] [.sh (.int (b:Int)),.ow (.lst (xs.map D.int)) true false,.un,.un] ⟨_,rfl,rfl,rfl⟩
  have ht:Z.take (Z.map D.int).length=Z:=by
   rw [zf];simp
  rw [ht] at e;have hsm:aK (Z.map fun z=>D.bl (decide (z=gx xs b))).length=true:=bF (by simp; omega);have hsm2:aK Z.length=true:=bF (by omega);clear hz ht4 ht c hb hm hzl hZ;cases c1:Z.all fun z=>decide (z=gx xs b)
  ·have e2:aD (d6 (eW m xs b))=[]:=by rw [hv,c1]; rfl
   clear hv
   walk_at "!eG oV %"
   rw [eF hi]
   walk_at "!eG oV %"
  ·have e2:aD (d6 (eW m xs b))=[.tup []]:=by rw [hv,c1]; rfl
   clear hv
   walk_at "!eG oV %"
   rw [eF hi]
   walk_at "!eG oV %"
theorem r8 {W n:Nat} {mo:Int} {xs:List Int} {b:Nat} (hb:b<xs.length) :
  run T W (n+1) "L_by_line" [.sh (.tup [.str "leap",.int mo]),.ow (.lst (xs.map D.int)) true false,.sh (.int (b:Int))]=some (.ok (.sh (.bl (kP mo xs b))),[.sh (.tup [.str "leap",.int mo]),.ow (.lst (xs.map D.int)) true false,.sh (.int (b:Int))]):=by
 rw [bI kN rfl rfl];unfold fH
 match b,hb with
 | 0,hb =>
  have e:kP mo xs 0=false:=rfl;have c:decide (0<((0:Nat):Int))=false:=rfl;clear hb
  walk_at "!aY % bY"
 | b+1,hb =>
  have c:decide (0<((b+1:Nat):Int))=true:=Zn (by omega);have i1:((b+1:Nat):Int) - 1=((b:Nat):Int):=by omega
  have a0:=j6 (xs:=xs) (k:=b) (by omega);have a1:=j6 (xs:=xs) (k:=b+1) (by omega);have ev:kP mo xs (b+1)=decide (mo<cC (gx xs (b+1) - gx xs b)):=rfl;clear hb
  walk_at "!aY % bY"
theorem RB:∀ (l acc:List Int),acc.length≤(l.foldl PyProof.Rows.step_dedup acc).length
 | [],_=>Zq _
 | a :: l,acc=>by
  refine Zr ?_ (RB l _);unfold PyProof.Rows.step_dedup;split
  ·exact Zq _
  ·simp
theorem KS (y:Int):∀ l:List Int,decide (((l.foldl PyProof.Rows.step_dedup [y]).length:Int)=1)=l.all fun z=>decide (z=y)
 | []=>rfl
 | a :: l=>by
  by_cases h:a=y
  ·subst h;have e:PyProof.Rows.step_dedup [a] a=[a]:=by unfold PyProof.Rows.step_dedup; simp
   rw [List.foldl_cons,e,KS a l];simp
  ·have e:PyProof.Rows.step_dedup [y] a=[y,a]:=by
    unfold PyProof.Rows.step_dedup;rw [Zp]
    ·rfl
    ·simp; omega
   have g:=RB l [y,a];rw [List.foldl_cons,e,Zm (by simp only [Zk,List.length_nil] at g; omega)];simp [h]
theorem kJ:∀ l:List Int,dI (l.map D.int)=some l
 | []=>rfl
 | a :: l=>by simp only [Zs,dI,kJ l,Option.map_some]
theorem ns_ {l:List Int} (h:l.length≤1000):Y2 (some (.lst (l.map D.int)))=some (.sh (.int ((l.foldl PyProof.Rows.step_dedup []).length:Int))):=by
 show wJ (.lst (l.map D.int))=_;unfold wJ;simp only [kJ,Zo h];unfold PyProof.Rows.firstMet
 have e:(List.range l.length).map (fun i=>l.getD i 0)=l:=by
  apply List.ext_getElem
  ·simp
  ·intro i h1 h2;simp [h2]
 rw [e]
theorem UB {Z:List Int} {x:Int} (hZ:Z≠[]):decide ((((Z ++ [x]).foldl PyProof.Rows.step_dedup []).length:Int)=1)=Z.all fun z=>decide (z=x):=by
 match Z,hZ with
 | y :: Z,_ =>
  have e:PyProof.Rows.step_dedup [] y=[y]:=rfl;rw [List.cons_append,List.foldl_cons,e,KS];rw [List.all_append,Zj,Zj,List.all_nil,Bool.and_true];by_cases h:x=y
  ·subst h;simp
  ·have h':¬ y=x:=fun z=>h z.symm
   simp [h,h']
theorem JZ {xs:List Int} {m b:Nat} (h:m≤b) (hb:b<xs.length):(xs.drop (b - m)).take (m+(b+1 - b))=kD m xs b ++ [gx xs b]:=by
 unfold kD gx;rw [show m+(b+1 - b)=m+1 from by omega,List.take_succ,List.getElem?_drop,show b - m+m=b from by omega,List.getD_eq_getElem?_getD,Zb hb];rfl
theorem pW {W n:Nat} {m:Nat} {xs:List Int} {b:Nat} (hb:b<xs.length) (h1:1≤m) (h3:m≤3) :
  run T W (n+1) "L_by_line" [.sh (.tup [.str "again",.int (m:Int)]),.ow (.lst (xs.map D.int)) true false,.sh (.int (b:Int))]=some (.ok (.sh (.bl (eW m xs b))),[.sh (.tup [.str "again",.int (m:Int)]),.ow (.lst (xs.map D.int)) true false,.sh (.int (b:Int))]):=by
 rw [bI kN rfl rfl];unfold fH;by_cases c:(m:Int)≤(b:Int)
 ·have c':decide ((m:Int)≤(b:Int))=true:=Zn c
  have ev:eW m xs b=(kD m xs b).all fun z=>decide (z=gx xs b):=by
   unfold eW;rw [c',Bool.true_and]
  have hl:(kD m xs b).length=m:=by unfold kD; rw [List.length_take,List.length_drop]; omega
  have hs:=FR (xs:=xs) (m:=m) (b:=b) (e:=b+1) (by omega) (by omega) (by omega);rw [JZ (by omega) hb,show ((b+1:Nat):Int)=(b:Int)+1 from by omega] at hs;have hn:=ns_ (l:=kD m xs b ++ [gx xs b]) (by simp; omega);have hd:=UB (Z:=kD m xs b) (x:=gx xs b) (fun z=>by rw [z] at hl; simp at hl; omega);rw [← ev] at hd;clear ev hl c hb h1 h3
  walk_at "!aY % bY"
 ·have c':decide ((m:Int)≤(b:Int))=false:=Zm c;have e:eW m xs b=false:=by unfold eW; rw [c']; rfl
  clear c hb h1 h3
  walk_at "!aY % bY"
theorem EB {W n:Nat} {no ba oc:Int} {fs:List (Int × Int × Bool)} {rs:List D} {mo:Int} {xs:List Int} {b:Nat} (hl:fs.length≤1000) (hb:b<xs.length) :
  run T W (n+2) "L_broken" [.sh (aA no ba oc fs rs),.sh (.tup [.str "leap",.int mo]),.ow (.lst (xs.map D.int)) true false,.sh (.int (b:Int))]=some (.ok (.ow (.lst (aD (d6 (kP mo xs b))))),[.sh (aA no ba oc fs rs),.sh (.tup [.str "leap",.int mo]),.ow (.lst (xs.map D.int)) true false,.sh (.int (b:Int))]):=by
 rw [bI eV rfl rfl];unfold cX
 walk_at "!aY d7 r8 pW yS %"
theorem CA {W n:Nat} {no ba oc:Int} {fs:List (Int × Int × Bool)} {rs:List D} {m:Nat} {xs:List Int} {b:Nat} (hl:fs.length≤1000) (hb:b<xs.length) (h1:1≤m) (h3:m≤3) :
  run T W (n+2) "L_broken" [.sh (aA no ba oc fs rs),.sh (.tup [.str "again",.int (m:Int)]),.ow (.lst (xs.map D.int)) true false,.sh (.int (b:Int))]=some (.ok (.ow (.lst (aD (d6 (eW m xs b))))),[.sh (aA no ba oc fs rs),.sh (.tup [.str "again",.int (m:Int)]),.ow (.lst (xs.map D.int)) true false,.sh (.int (b:Int))]):=by
 rw [bI eV rfl rfl];unfold cX
 walk_at "!aY d7 r8 pW yS %"
theorem BJ {W n:Nat} {a:D}:run T W (n+1) "rule_of" [.sh (.tup [.str "leap",a])]=some (.ok (.sh (.ins "Leap" ["most"] [a])),[.sh (.tup [.str "leap",a])]):=by
 rw [bI fN rfl rfl];unfold dH
 walk_at "!aY"
theorem AY {W n:Nat} {a:D}:run T W (n+1) "rule_of" [.sh (.tup [.str "again",a])]=some (.ok (.sh (.ins "Again" ["most"] [a])),[.sh (.tup [.str "again",a])]):=by
 rw [bI fN rfl rfl];unfold dH
 walk_at "!aY"
noncomputable def gZ (lp mo:Int) (xs:List Int):Nat→Bool
 | 0=>false
 | 1=>false
 | b+2=>decide (lp≤cC (gx xs (b+1) - gx xs b)) && !(decide ((gx xs (b+1) - gx xs b)*(gx xs (b+2) - gx xs (b+1))<0) && decide (cC (gx xs (b+2) - gx xs (b+1))≤mo))
theorem ER {W n:Nat} {lp mo:Int} {h:D} {xs:List Int} {b:Nat} (hb:b<xs.length) (hx:∀ x∈xs,0≤x∧x<100) :
  run T W (n+1) "Back.broken" [.sh (.ins "Back" ["leap","most"] [.int lp,.int mo]),.sh h,.ow (.lst (xs.map D.int)) true false,.sh (.int (b:Int))]=some (.ok (.ow (.lst (aD (d6 (gZ lp mo xs b))))),[.sh (.ins "Back" ["leap","most"] [.int lp,.int mo]),.sh h,.ow (.lst (xs.map D.int)) true false,.sh (.int (b:Int))]):=by
 rw [bI qO rfl rfl];unfold iH
 match b,hb with
 | 0,hb =>
  have e:aD (d6 (gZ lp mo xs 0))=[]:=rfl;have c:decide (((0:Nat):Int)<2)=true:=rfl;clear hx hb
  walk_at "!eT eU % bY"
 | 1,hb =>
  have e:aD (d6 (gZ lp mo xs 1))=[]:=rfl;have c:decide (((1:Nat):Int)<2)=true:=rfl;clear hx hb
  walk_at "!eT eU % bY"
 | b+2,hb =>
  have c:decide (((b+2:Nat):Int)<2)=false:=Zm (by omega);have i1:((b+2:Nat):Int) - 1=((b+1:Nat):Int):=by omega
  have i2:((b+2:Nat):Int) - 2=((b:Nat):Int):=by omega
  have a0:=j6 (xs:=xs) (k:=b) (by omega);have a1:=j6 (xs:=xs) (k:=b+1) (by omega);have a2:=j6 (xs:=xs) (k:=b+2) (by omega);have x0:=hx _ (xG (xs:=xs) (k:=b) (by omega));have x1:=hx _ (xG (xs:=xs) (k:=b+1) (by omega));have x2:=hx _ (xG (xs:=xs) (k:=b+2) (by omega));have ev:gZ lp mo xs (b+2)=(decide (lp≤cC (gx xs (b+1) - gx xs b)) && !(decide ((gx xs (b+1) - gx xs b)*(gx xs (b+2) - gx xs (b+1))<0) && decide (cC (gx xs (b+2) - gx xs (b+1))≤mo))):=rfl
  generalize gx xs b=p0 at *
  generalize gx xs (b+1)=p1 at *
  generalize gx xs (b+2)=p2 at *
  have m1:-18446744073709551616<p1 - p0:=by omega
  have m2:p1 - p0<18446744073709551616:=by omega
  clear hx hb x0 x1 x2;by_cases c1:cC (p1 - p0)<lp
  ·have c1':decide (cC (p1 - p0)<lp)=true:=Zn c1;have c1'':decide (lp≤cC (p1 - p0))=false:=Zm (by omega);have e:aD (d6 (gZ lp mo xs (b+2)))=[]:=by rw [ev,c1'']; rfl
   clear ev c1
   walk_at "!eT eU % bY"
  ·have c1':decide (cC (p1 - p0)<lp)=false:=Zm c1;have c1'':decide (lp≤cC (p1 - p0))=true:=Zn (by omega);by_cases c2:(p1 - p0)*(p2 - p1)<0
   ·have c2':decide ((p1 - p0)*(p2 - p1)<0)=true:=Zn c2;by_cases c3:cC (p2 - p1)≤mo
    ·have c3':decide (cC (p2 - p1)≤mo)=true:=Zn c3;have e:aD (d6 (gZ lp mo xs (b+2)))=[]:=by rw [ev,c1'',c2',c3']; rfl
     clear ev c1 c2 c3
     walk_at "!eT eU % bY"
    ·have c3':decide (cC (p2 - p1)≤mo)=false:=Zm c3;have e:aD (d6 (gZ lp mo xs (b+2)))=[.tup []]:=by rw [ev,c1'',c2',c3']; rfl
     clear ev c1 c2 c3
     walk_at "!eT eU % bY"
   ·have c2':decide ((p1 - p0)*(p2 - p1)<0)=false:=Zm c2;have e:aD (d6 (gZ lp mo xs (b+2)))=[.tup []]:=by rw [ev,c1'',c2']; rfl
    clear ev c1 c2
    walk_at "!eT eU % bY"
theorem sX {a h:Int} (ha:a≠0):a*h<0↔(a<0∧0<h)∨(0<a∧h<0):=by
 constructor
 ·intro q;rcases Int.lt_trichotomy a 0 with c | c | c
  ·rcases Int.lt_trichotomy h 0 with d | d | d
   ·exact absurd (Int.mul_pos_of_neg_of_neg c d) (by omega)
   ·rw [d,Int.mul_zero] at q; omega
   ·exact .inl ⟨c,d⟩
  ·exact absurd c ha
  ·rcases Int.lt_trichotomy h 0 with d | d | d
   ·exact .inr ⟨c,d⟩
   ·rw [d,Int.mul_zero] at q; omega
   ·exact absurd (Int.mul_pos c d) (by omega)
 ·rintro (⟨c,d⟩ | ⟨c,d⟩)
  ·exact Int.mul_neg_of_neg_of_pos c d
  ·exact Int.mul_neg_of_pos_of_neg c d
theorem CM {W n:Nat} {lp mo:Int} {xs:List Int} {b:Nat} (hb:b<xs.length) (hlp:1≤lp) :
  run T W (n+1) "L_by_line" [.sh (.tup [.str "back",.int lp,.int mo]),.ow (.lst (xs.map D.int)) true false,.sh (.int (b:Int))]=some (.ok (.sh (.bl (gZ lp mo xs b))),[.sh (.tup [.str "back",.int lp,.int mo]),.ow (.lst (xs.map D.int)) true false,.sh (.int (b:Int))]):=by
 rw [bI kN rfl rfl];unfold fH
 match b,hb with
 | 0,hb =>
  have e:gZ lp mo xs 0=false:=rfl;have c:decide (((0:Nat):Int)<2)=true:=rfl;clear hb
  walk_at "!aY % bY"
 | 1,hb =>
  have e:gZ lp mo xs 1=false:=rfl;have c:decide (((1:Nat):Int)<2)=true:=rfl;clear hb
  walk_at "!aY % bY"
 | b+2,hb =>
  have c:decide (((b+2:Nat):Int)<2)=false:=Zm (by omega);have i1:((b+2:Nat):Int) - 1=((b+1:Nat):Int):=by omega
  have i2:((b+2:Nat):Int) - 2=((b:Nat):Int):=by omega
  have a0:=j6 (xs:=xs) (k:=b) (by omega);have a1:=j6 (xs:=xs) (k:=b+1) (by omega);have a2:=j6 (xs:=xs) (k:=b+2) (by omega);have ev:gZ lp mo xs (b+2)=(decide (lp≤cC (gx xs (b+1) - gx xs b)) && !(decide ((gx xs (b+1) - gx xs b)*(gx xs (b+2) - gx xs (b+1))<0) && decide (cC (gx xs (b+2) - gx xs (b+1))≤mo))):=rfl
  generalize gx xs b=p0 at *
  generalize gx xs (b+1)=p1 at *
  generalize gx xs (b+2)=p2 at *
  clear hb;by_cases c1:lp≤cC (p1 - p0)
  ·have c1':decide (lp≤cC (p1 - p0))=true:=Zn c1;have hne:p1 - p0≠0:=fun z=>by rw [z] at c1; simp only [cC] at c1; omega
   by_cases c0:p1 - p0<0
   ·have c0':decide (p1 - p0<0)=true:=Zn c0;by_cases c2:0<0 - (p1 - p2)
    ·have c2':decide (0<0 - (p1 - p2))=true:=Zn c2;have q:decide ((p1 - p0)*(p2 - p1)<0)=true:=Zn ((sX hne).mpr (.inl ⟨c0,by omega⟩));have q2:cC (p2 - p1)=0 - (p1 - p2):=by unfold cC; rw [Zp (by omega)]; omega
     rw [ev,c1',q,q2];clear ev c0 c2 q q2 c1 hne hlp
     walk_at "!aY % bY"
    ·have c2':decide (0<0 - (p1 - p2))=false:=Zm c2;have q:decide ((p1 - p0)*(p2 - p1)<0)=false:=Zm (fun z=>by rcases (sX hne).mp z with z | z <;> omega);rw [ev,c1',q];clear ev c0 c2 q c1 hne hlp
     walk_at "!aY % bY"
   ·have c0':decide (p1 - p0<0)=false:=Zm c0;by_cases c2:0<p1 - p2
    ·have c2':decide (0<p1 - p2)=true:=Zn c2;have q:decide ((p1 - p0)*(p2 - p1)<0)=true:=Zn ((sX hne).mpr (.inr ⟨by omega,by omega⟩));have q2:cC (p2 - p1)=p1 - p2:=by unfold cC; rw [Zo (by omega)]; omega
     rw [ev,c1',q,q2];clear ev c0 c2 q q2 c1 hne hlp
     walk_at "!aY % bY"
    ·have c2':decide (0<p1 - p2)=false:=Zm c2;have q:decide ((p1 - p0)*(p2 - p1)<0)=false:=Zm (fun z=>by rcases (sX hne).mp z with z | z <;> omega);rw [ev,c1',q];clear ev c0 c2 q c1 hne hlp
     walk_at "!aY % bY"
  ·have c1':decide (lp≤cC (p1 - p0))=false:=Zm c1;rw [ev,c1'];clear ev c1 hlp;by_cases c0:p1 - p0<0
   ·have c0':decide (p1 - p0<0)=true:=Zn c0;clear c0
    walk_at "!aY % bY"
   ·have c0':decide (p1 - p0<0)=false:=Zm c0;clear c0
    walk_at "!aY % bY"
theorem D6 {W n:Nat} {no ba oc:Int} {fs:List (Int × Int × Bool)} {rs:List D} {lp mo:Int} {xs:List Int} {b:Nat} (hl:fs.length≤1000) (hb:b<xs.length) (hlp:1≤lp) :
  run T W (n+2) "L_broken" [.sh (aA no ba oc fs rs),.sh (.tup [.str "back",.int lp,.int mo]),.ow (.lst (xs.map D.int)) true false,.sh (.int (b:Int))]=some (.ok (.ow (.lst (aD (d6 (gZ lp mo xs b))))),[.sh (aA no ba oc fs rs),.sh (.tup [.str "back",.int lp,.int mo]),.ow (.lst (xs.map D.int)) true false,.sh (.int (b:Int))]):=by
 rw [bI eV rfl rfl];unfold cX
 walk_at "!aY d7 CM yS %"
theorem CF {W n:Nat} {a b:D}:run T W (n+1) "rule_of" [.sh (.tup [.str "back",a,b])]=some (.ok (.sh (.ins "Back" ["leap","most"] [a,b])),[.sh (.tup [.str "back",a,b])]):=by
 rw [bI fN rfl rfl];unfold dH
 walk_at "!aY"
theorem BO {W n:Nat} {no ba oc:Int} {fs:List (Int × Int × Bool)} {rs:List D} {lo hi:Int} {xs:List Int} {b:Int} (hl:fs.length≤900) :
  run T W (n+2) "L_broken" [.sh (aA no ba oc fs rs),.sh (.tup [.str "range",.int lo,.int hi]),.ow (.lst (xs.map D.int)) true false,.sh (.int b)]=some (.ok (.ow (.lst (aD (jX lo hi fs xs b)))),[.sh (aA no ba oc fs rs),.sh (.tup [.str "range",.int lo,.int hi]),.ow (.lst (xs.map D.int)) true false,.sh (.int b)]):=by
 rw [bI eV rfl rfl];unfold cX;have hh:run T W (n+1) "L_heard" _=some (.ok (.ow (.lst (aG fs xs b))),_):=d7 (W:=W) (n:=n) (no:=no) (ba:=ba) (oc:=oc) (fs:=fs) (rs:=rs) (xs:=xs) (b:=b) (by omega)
 have hi2:aH .rng [.val (.sh (.int ((aG fs xs b).length:Int)))] [.sh (aA no ba oc fs rs),.sh (.tup [.str "range",.int lo,.int hi]),.ow (.lst (xs.map D.int)) true false,.sh (.int b),.ow (.lst (aG fs xs b)) false false,.un,.un,.un,.un,.un,.un]=some ((List.range (fs.length+1)).map fun (j:Nat)=>.int (j:Int),none):=by
  have hln:=dO (fs:=fs) (xs:=xs) (b:=b);refine Eq.trans (lU (n:=((aG fs xs b).length:Int)) rfl (by omega) (by omega)) ?_;rw [Int.toNat_natCast,hln]
 obtain ⟨ρi,e,t3,rfl,ht3⟩:=o6 (tests:=dY T.pins (run T W (n+1)) [.and (.cmp .IsNot (.ix (.var 0) (.var 3)) (.con .non)) (.not (.cmp2 .LtE .LtE (.ix (.var 1) (.con (.int 1))) (.ix (.var 0) (.var 3)) (.ix (.var 1) (.con (.int 2)))))]) (elt:=ev T.pins (run T W (n+1)) false kZ) (bind:=a8 true [3]) (ds:=(List.range (fs.length+1)).map fun (j:Nat)=>.int (j:Int))
  (fun j=>f6 lo hi ((aG fs xs b).getD j .non)) (fun (j:Nat)=>.tup [.int (j:Int)])
  (fun ρ=>∃ (t3:Sl),ρ=[.ow (.lst (aG fs xs b)) true false,.sh (.tup [.str "range",.int lo,.int hi]),.un,t3]∧bM t3=true)
  (fun j d hd ρ hρ=>by
   obtain ⟨t3,rfl,ht3⟩:=hρ
   have hj:j<fs.length+1:=by
    have:=(Zc.mp hd).1
    simpa using this
   have hd':d=.int (j:Int):=by
    rw [Zh,List.getElem?_range hj] at hd;exact (Option.some.inj hd).symm
   subst hd';have hg:=Zb (l:=aG fs xs b) (i:=j) (by rw [dO]; omega);generalize (aG fs xs b)[j]'(by rw [dO]; omega)=x at hg;have hgd:(aG fs xs b).getD j .non=x:=by rw [List.getD_eq_getElem?_getD,hg]; rfl
   have hk:=vW hg;have hat:L2.cJ (aG fs xs b) (j:Int)=some x:=L2.kB hg;refine ⟨_,[.ow (.lst (aG fs xs b)) true false,.sh (.tup [.str "range",.int lo,.int hi]),.un,.sh (.int (j:Int))],by simp only [eO,bB ht3] <;> rfl, ?_,fun _=>?_,fun _=>?_⟩
   ·simp only [hgd];clear hd hj hg hgd hh hi2 ht3;rcases hk with rfl | ⟨i,rfl⟩
    ·have e:f6 lo hi .non=false:=rfl
     walk_at "!aY"
    ·have e:f6 lo hi (.int i)=!(decide (lo≤i) && decide (i≤hi)):=rfl;by_cases c:lo≤i
     ·have c':decide (lo≤i)=true:=Zn c;rw [e,c',Bool.true_and];clear e c
      walk_at "!aY"
     ·have c':decide (lo≤i)=false:=Zm c;rw [e,c',Bool.false_and];clear e c
      walk_at "!aY"
   ·refine ⟨.sh (.tup [.int (j:Int)]),[.ow (.lst (aG fs xs b)) true false,.sh (.tup [.str "range",.int lo,.int hi]),.un,.sh (.int (j:Int))], ?_,rfl,_,rfl,rfl⟩;unfold kZ;clear hd hj hg hgd hk hh hi2 ht3 hat
    walk_at "!aY"
   ·exact ⟨_,rfl,rfl⟩)
  [.ow (.lst (aG fs xs b)) true false,.sh (.tup [.str "range",.int lo,.int hi]),.un,.un] ⟨_,rfl,rfl⟩
 have hle:((List.range (fs.length+1)).map fun (j:Nat)=>D.int (j:Int)).length=fs.length+1:=by simp
 rw [hle,KL] at e;have hB:nV (fs.length+1) (fun j=>f6 lo hi ((aG fs xs b).getD j .non))=jX lo hi fs xs b:=rfl;rw [hB] at e
 have hsm:aK (aD (jX lo hi fs xs b)).length=true:=bF (by
  have:=C9 (n:=fs.length+1) (sel:=fun j=>f6 lo hi ((aG fs xs b).getD j .non)) (by omega)
  unfold aD jX;simp only [List.length_map]
  omega)
 clear hl ht3 hB hle
 walk_at "!aY"
 rw [eF hi2]
 walk_at "!aY"
theorem AV {W n:Nat} {a b:D}:run T W (n+1) "rule_of" [.sh (.tup [.str "range",a,b])]=some (.ok (.sh (.ins "Range" ["low","high"] [a,b])),[.sh (.tup [.str "range",a,b])]):=by
 rw [bI fN rfl rfl];unfold dH
 walk_at "!aY"
noncomputable def iY:D→D→Bool
 | .int i,.int j=>decide (i<j)
 | _,_=>false
noncomputable def twoD (c:Bool) (a b:Int):List (List Int):=if c=true then [[a,b]] else []
theorem twoD_in {c:Bool} {a b:Int} {is:List Int} (h:is∈twoD c a b):is.length≤1000:=by
 cases c
 ·cases h
 ·rw [ze.mp h]; simp
noncomputable def sG (fs:List (Int × Int × Bool)) (xs:List Int) (b:Int) (v w:Nat):List (List Int):=twoD (iY ((aG fs xs b).getD v .non) ((aG fs xs b).getD w .non)) (v:Int) (w:Int)
theorem DQ {W n:Nat} {no ba oc:Int} {fs:List (Int × Int × Bool)} {rs:List D} {xs:List Int} {b:Int} {v w:Nat} (hv:v<fs.length+1) (hw:w<fs.length+1) :
  run T W (n+3) "Above.broken" [.sh (.ins "Above" ["one","other"] [.int (v:Int),.int (w:Int)]),.sh (aA no ba oc fs rs),.ow (.lst (xs.map D.int)) true false,.sh (.int b)]=some (.ok (.ow (.lst (aD (sG fs xs b v w)))),[.sh (.ins "Above" ["one","other"] [.int (v:Int),.int (w:Int)]),.sh (aA no ba oc fs rs),.ow (.lst (xs.map D.int)) true false,.sh (.int b)]):=by
 rw [bI oJ rfl rfl];unfold gP;obtain ⟨f,hf⟩:∃ f,(b8 fs)[v]?=some f:=⟨_,Zb (by simp; omega)⟩
 obtain ⟨g,hg⟩:∃ g,(b8 fs)[w]?=some g:=⟨_,Zb (by simp; omega)⟩
 have h1:=rY (W:=W) (n:=n) (no:=no) (ba:=ba) (oc:=oc) (rs:=rs) (xs:=xs) (b:=b) (p:=true) hf;have h2:=rY (W:=W) (n:=n) (no:=no) (ba:=ba) (oc:=oc) (rs:=rs) (xs:=xs) (b:=b) (p:=true) hg;unfold sG;rw [j0 hf,j0 hg];have k1:=jO (xs:=xs) (b:=b) (f:=f);have k2:=jO (xs:=xs) (b:=b) (f:=g)
 generalize cB xs b f=d1 at *
 generalize cB xs b g=d2 at *
 clear hf hg hv hw;rcases k1 with rfl | ⟨i,rfl⟩
 ·have e:aD (twoD (iY .non d2) (v:Int) (w:Int))=[]:=rfl
  walk_at "!i9 gL"
 ·rcases k2 with rfl | ⟨j,rfl⟩
  ·have e:aD (twoD (iY (.int i) .non) (v:Int) (w:Int))=[]:=rfl
   walk_at "!i9 gL"
  ·by_cases c:i<j
   ·have c':decide (j≤i)=false:=Zm (by omega)
    have e:aD (twoD (iY (.int i) (.int j)) (v:Int) (w:Int))=[.tup [.int (v:Int),.int (w:Int)]]:=by
     unfold iY;simp only;rw [Zn c];rfl
    clear c
    walk_at "!i9 gL"
   ·have c':decide (j≤i)=true:=Zn (by omega)
    have e:aD (twoD (iY (.int i) (.int j)) (v:Int) (w:Int))=[]:=by
     unfold iY;simp only;rw [Zm c];rfl
    clear c
    walk_at "!i9 gL"
theorem yN {c:Bool} {a b:Int}:dA .Mult (.lst [.tup [.int a,.int b]]) (.int (if c=true then 1 else 0))=some (.ow (.lst (aD (twoD c a b)))):=by
 cases c <;> exact A8 (by decide) (by decide) (fU (by simp))
theorem vA {a b:Int}:dA .Mult (.lst [.tup [.int a,.int b]]) (.int 0)=some (.ow (.lst (aD (twoD false a b)))):=A8 (by decide) (by decide) (fU (by simp))
theorem B9 {W n:Nat} {no ba oc:Int} {fs:List (Int × Int × Bool)} {rs:List D} {xs:List Int} {b:Int} {v w:Nat} (hl:fs.length≤900) (hv:v<fs.length+1) (hw:w<fs.length+1) :
  run T W (n+2) "L_broken" [.sh (aA no ba oc fs rs),.sh (.tup [.str "above",.int (v:Int),.int (w:Int)]),.ow (.lst (xs.map D.int)) true false,.sh (.int b)]=some (.ok (.ow (.lst (aD (sG fs xs b v w)))),[.sh (aA no ba oc fs rs),.sh (.tup [.str "above",.int (v:Int),.int (w:Int)]),.ow (.lst (xs.map D.int)) true false,.sh (.int b)]):=by
 rw [bI eV rfl rfl];unfold cX;have hh:run T W (n+1) "L_heard" _=some (.ok (.ow (.lst (aG fs xs b))),_):=d7 (W:=W) (n:=n) (no:=no) (ba:=ba) (oc:=oc) (fs:=fs) (rs:=rs) (xs:=xs) (b:=b) (by omega);obtain ⟨f,hf⟩:∃ f,(b8 fs)[v]?=some f:=⟨_,Zb (by simp; omega)⟩
 obtain ⟨g,hg⟩:∃ g,(b8 fs)[w]?=some g:=⟨_,Zb (by simp; omega)⟩
 have a1:L2.cJ (aG fs xs b) (v:Int)=some (cB xs b f):=L2.kB (vO hf);have a2:L2.cJ (aG fs xs b) (w:Int)=some (cB xs b g):=L2.kB (vO hg);unfold sG;rw [j0 hf,j0 hg];have k1:=jO (xs:=xs) (b:=b) (f:=f);have k2:=jO (xs:=xs) (b:=b) (f:=g)
 generalize cB xs b f=d1 at *
 generalize cB xs b g=d2 at *
 clear hf hg hv hw hl;rcases k1 with rfl | ⟨i,rfl⟩
 ·have e:iY .non d2=false:=rfl
  walk_at "!aY yN vA"
 ·rcases k2 with rfl | ⟨j,rfl⟩
  ·have e:iY (.int i) .non=false:=rfl
   walk_at "!aY yN vA"
  ·have e:iY (.int i) (.int j)=decide (i<j):=rfl
   walk_at "!aY yN vA"
theorem AK {W n:Nat} {a b:D}:run T W (n+1) "rule_of" [.sh (.tup [.str "above",a,b])]=some (.ok (.sh (.ins "Above" ["one","other"] [a,b])),[.sh (.tup [.str "above",a,b])]):=by
 rw [bI fN rfl rfl];unfold dH
 walk_at "!aY"
theorem K6 {α β:Type} (L:List α) (d:α) (f:α→Bool) (g:α→β):((List.range L.length).filter fun j=>f (L.getD j d)).map (fun j=>g (L.getD j d))=(L.filter f).map g:=by
 have h:L=(List.range L.length).map fun j=>L.getD j d:=by
  apply List.ext_getElem?
  intro i;rw [Zh];by_cases hi:i<L.length
  ·rw [List.getElem?_range hi,Zb hi];simp [hi]
  ·rw [List.getElem?_eq_none (by omega),List.getElem?_eq_none (by simp; omega)];rfl
 have h2:(L.filter f).map g=(((List.range L.length).map fun j=>L.getD j d).filter f).map g:=congrArg (fun l=>(l.filter f).map g) h;rw [h2,List.filter_map,List.map_map];rfl
theorem O8 {n m v:Nat} {P Q:Nat→Nat→Bool} {R:List Int→Bool} (hR:∀ w:Nat,R [(v:Int),(w:Int)]=Q v w):(eQ m v P).filter R=eQ m v fun v w=>P v w && Q v w:=by
 unfold eQ;rw [List.filter_map,List.filter_filter];congr 1
 apply List.filter_congr
 intro j _;simp only [Function.comp,hR,Bool.and_comm]
theorem xM {n:Nat} {P Q:Nat→Nat→Bool} {R:List Int→Bool} (hR:∀ v w:Nat,R [(v:Int),(w:Int)]=Q v w):(cF n P).filter R=cF n fun v w=>P v w && Q v w:=by
 unfold cF;rw [List.filter_flatMap];congr 1
 funext v
 exact O8 (n:=n) (hR v)
noncomputable def gJ:D→Int
 | .int i=>i
 | _=>0
noncomputable def eK (oc a b:Int):Int:=cC (a - b) % oc
theorem eB {W n:Nat} {oc a b:Int} (ho:0<oc):run T W (n+1) "span" [.sh (.int oc),.sh (.int a),.sh (.int b)]=some (.ok (.sh (.int (eK oc a b))),[.sh (.int oc),.sh (.int a),.sh (.int b)]):=by
 rw [bI KR rfl rfl];unfold tL eK
 walk_at "!bY"
noncomputable def pF (sp s:Int):Bool:=decide (sp / 2 ^ s.toNat % 2=0)
theorem VG {sp s:Int} (h:0≤sp):decide (PySem.Builtin.bitAnd (sp / 2 ^ s.toNat) 1=0)=pF sp s:=by
 have hq:0≤sp / 2 ^ s.toNat:=Int.ediv_nonneg h (by exact Int.le_of_lt (Int.pow_pos (by decide)));unfold pF;rw [PyProof.Rows.bitAnd_pp hq (by decide)];have e1:(1:Int).toNat=1:=rfl;rw [e1,Nat.and_one_is_mod];have e2:(((sp / 2 ^ s.toNat).toNat % 2:Nat):Int)=sp / 2 ^ s.toNat % 2:=by omega
 rw [e2]
theorem CH {W n:Nat} {be sp s:Int} (h:0≤sp) (hs:0≤s):run T W (n+1) "Span.forbids" [.sh (.ins "Span" ["beat","spans"] [.int be,.int sp]),.sh (.int s)]=some (.ok (.sh (.bl (pF sp s))),[.sh (.ins "Span" ["beat","spans"] [.int be,.int sp]),.sh (.int s)]):=by
 rw [bI oA rfl rfl];unfold gS;have e:=VG (s:=s) h
 walk_at "!eR eD bY"
noncomputable def jQ (oc sp:Int) (hs:List D) (v w:Nat):Bool:=pF sp (eK oc (gJ (hs.getD v .non)) (gJ (hs.getD w .non)))
noncomputable def jJ (oc sp:Int) (hs:List D):List Int→Bool
 | [v,w]=>pF sp (eK oc (gJ (hs.getD v.toNat .non)) (gJ (hs.getD w.toNat .non)))
 | _=>false
noncomputable def gQ (be sp ba oc:Int) (fs:List (Int × Int × Bool)) (xs:List Int) (b:Int):List (List Int):=if b % ba=be then cF (fs.length+1) (fun v w=>bZ (aG fs xs b) v w && jQ oc sp (aG fs xs b) v w) else []
theorem y6 {n:Nat} {P:Nat→Nat→Bool} {is:List Int} (h:is∈cF n P):∃ v w:Nat,is=[(v:Int),(w:Int)]∧v<n∧w<n∧v<w∧P v w=true:=by
 obtain ⟨v,hv,h⟩:=List.mem_flatMap.mp h;have hv:=List.mem_range.mp hv;obtain ⟨j,hj,rfl⟩:=zl.mp h;obtain ⟨hj,hp⟩:=List.mem_filter.mp hj;have hj:=List.mem_range.mp hj;exact ⟨v,v+1+j,rfl,hv,by omega,by omega,hp⟩
theorem EO {W n:Nat} {be sp no ba oc:Int} {fs:List (Int × Int × Bool)} {rs:List D} {xs:List Int} {b:Int} (hl:fs.length≤20) (hsp:0≤sp) (hba:0<ba) (hoc:0<oc) :
  run T W (n+4) "Span.broken" [.sh (.ins "Span" ["beat","spans"] [.int be,.int sp]),.sh (aA no ba oc fs rs),.ow (.lst (xs.map D.int)) true false,.sh (.int b)]=some (.ok (.ow (.lst (aD (gQ be sp ba oc fs xs b)))),[.sh (.ins "Span" ["beat","spans"] [.int be,.int sp]),.sh (aA no ba oc fs rs),.ow (.lst (xs.map D.int)) true false,.sh (.int b)]):=by
 rw [bI p9 rfl rfl];unfold iE;have hx1:eX (some (aA no ba oc fs rs)) (.int 1)=some (.sh (.int ba)):=rfl;have hx2:eX (some (aA no ba oc fs rs)) (.int 2)=some (.sh (.int oc)):=rfl;by_cases c:b % ba=be
 ·have c':decide (b % ba=be)=true:=Zn c;have hc:run T W (n+3) "chord" _=some (.ok (.ow (.lst (aG fs xs b))),_):=lZ (W:=W) (n:=n) (no:=no) (ba:=ba) (oc:=oc) (fs:=fs) (rs:=rs) (xs:=xs) (b:=b) (by omega);have hhr:=nE (fs:=fs) (xs:=xs) (b:=b);have hln:=dO (fs:=fs) (xs:=xs) (b:=b);have hso:=pR (W:=W) (n:=n+2) hhr (by omega);rw [hln] at hso
  have hB:gQ be sp ba oc fs xs b=(cF (fs.length+1) (bZ (aG fs xs b))).filter (jJ oc sp (aG fs xs b)):=by
   unfold gQ;rw [Zo c,xM (Q:=jQ oc sp (aG fs xs b))];intro v w;rfl
  generalize aG fs xs b=hs at *
  obtain ⟨L,hL⟩:∃ L,L=cF (fs.length+1) (bZ hs):=⟨_,rfl⟩
  have hLm:∀ is∈L,∃ v w:Nat,is=[(v:Int),(w:Int)]∧v<hs.length∧w<hs.length∧bZ hs v w=true:=fun is his=>by
   rw [hL] at his;obtain ⟨v,w,h1,h2,h3,_,h4⟩:=y6 his;exact ⟨v,w,h1,by omega,by omega,h4⟩
  have hLl:L.length≤1000:=by rw [hL]; exact wZ (by omega)
  rw [← hL] at hso hB;have hi2:aH .of [.val (.ow (.lst (aD L)))] [.sh (.ins "Span" ["beat","spans"] [.int be,.int sp]),.sh (aA no ba oc fs rs),.ow (.lst (xs.map D.int)) true false,.sh (.int b),.sh (.int oc),.ow (.lst hs) false false]=some (aD L,none):=tG rfl
  obtain ⟨ρi,e,t4,t5,rfl,ht4,ht5⟩:=o6 (tests:=dY T.pins (run T W (n+3)) [.meth 2 "forbids" fB [.call "span" [.var 1,.ix (.var 0) (.var 4),.ix (.var 0) (.var 5)]]]) (elt:=ev T.pins (run T W (n+3)) false jI) (bind:=a8 false [4,5]) (ds:=aD L)
   (fun j=>jJ oc sp hs (L.getD j [])) (fun j=>.tup ((L.getD j []).map D.int))
   (fun ρ=>∃ (t4 t5:Sl),ρ=[.ow (.lst hs) true false,.sh (.int oc),.sh (.ins "Span" ["beat","spans"] [.int be,.int sp]),.un,t4,t5]∧bM t4=true∧bM t5=true)
   (fun j d hd ρ hρ=>by
    obtain ⟨t4,t5,rfl,ht4,ht5⟩:=hρ
    have hj:j<L.length:=by
     have:=(Zc.mp hd).1
     rwa [cZ] at this
    have hg:=Zb hj
    have hd2:d=.tup (L[j].map D.int):=by
     unfold aD at hd;rw [Zh,hg] at hd;exact (Option.some.inj hd).symm
    have hgd:L.getD j []=L[j]:=by rw [List.getD_eq_getElem?_getD,hg]; rfl
    obtain ⟨v,w,h1,hv,hw,hso⟩:=hLm L[j] (List.getElem_mem hj);rw [h1] at hd2 hgd;subst hd2;obtain ⟨d1,a1,g1,k1⟩:=dX hhr hv;obtain ⟨d2,a2,g2,k2⟩:=dX hhr hw;unfold bZ at hso;rw [g1,g2,ZB] at hso
    obtain ⟨i1,rfl⟩:∃ i,d1=.int i:=by
     rcases k1 with rfl | k1
     ·exact absurd hso.1 (by decide)
     ·exact k1
    obtain ⟨i2,rfl⟩:∃ i,d2=.int i:=by
     rcases k2 with rfl | k2
     ·exact absurd hso.2 (by decide)
     ·exact k2
    have hs0:0≤eK oc i1 i2:=Int.emod_nonneg _ (by omega);have hfb:=CH (W:=W) (n:=n+2) (be:=be) hsp hs0
    have hbad:jJ oc sp hs [(v:Int),(w:Int)]=pF sp (eK oc i1 i2):=by
     unfold jJ;simp only [Int.toNat_natCast,g1,g2];rfl
    refine ⟨_,[.ow (.lst hs) true false,.sh (.int oc),.sh (.ins "Span" ["beat","spans"] [.int be,.int sp]),.un,.sh (.int (v:Int)),.sh (.int (w:Int))],by simp only [Zs,List.map_nil,eO,bB ht4,bB ht5] <;> rfl, ?_,fun _=>?_,fun _=>?_⟩
    ·simp only [hgd,hbad];clear hd hj hg hgd hbad h1 hv hw hso hLm hLl hi2 hB hL hc hhr hln k1 k2 g1 g2 ht4 ht5 hl hsp hba c hs0
     walk_at "!fD eB eR eD"
    ·refine ⟨.sh (.tup [.int (v:Int),.int (w:Int)]),[.ow (.lst hs) true false,.sh (.int oc),.sh (.ins "Span" ["beat","spans"] [.int be,.int sp]),.un,.sh (.int (v:Int)),.sh (.int (w:Int))], ?_,by rw [hgd]; rfl,_,_,rfl,rfl,rfl⟩;unfold jI;clear hd hj hg hgd hbad h1 hv hw hso hLm hLl hi2 hB hL hc hhr hln k1 k2 g1 g2 ht4 ht5 hl hsp hba c hs0 hfb a1 a2
     walk_at "!fD eB eR eD"
    ·exact ⟨_,_,rfl,rfl,rfl⟩)
   [.ow (.lst hs) true false,.sh (.int oc),.sh (.ins "Span" ["beat","spans"] [.int be,.int sp]),.un,.un,.un] ⟨_,_,rfl,rfl,rfl⟩
  rw [cZ,K6 L [] (jJ oc sp hs) (fun is=>D.tup (is.map D.int))] at e;have hB2:(L.filter (jJ oc sp hs)).map (fun is=>D.tup (is.map D.int))=aD (gQ be sp ba oc fs xs b):=by rw [hB]; rfl
  rw [hB2] at e
  have hsm:aK (aD (gQ be sp ba oc fs xs b)).length=true:=bF (by
   rw [cZ,hB]
   have:=List.length_filter_le (jJ oc sp hs) L
   omega)
  clear hl ht4 ht5 hB hB2 hLm hLl hL hhr hln hsp c
  walk_at "!fD eB eR eD"
  rw [eF hi2]
  walk_at "!fD eB eR eD"
 ·have c':decide (b % ba=be)=false:=Zm c;have e:gQ be sp ba oc fs xs b=[]:=Zp c;have e2:aD []=[]:=rfl;clear c hl
  walk_at "!fD eB eR eD"
theorem kF {W n:Nat} {be sp no ba oc:Int} {fs:List (Int × Int × Bool)} {rs:List D} {hs ah:List D} {v w:Nat} (hh:F6 hs) (hv:v<hs.length) (hw:w<hs.length) (o1:1≤oc) (o2:oc≤12) :
  run T W (n+1) "L_bad_pair" [.sh (aA no ba oc fs rs),.sh (.tup [.str "span",.int be,.int sp]),.ow (.lst ah) true false,.ow (.lst hs) true false,.sh (.int (v:Int)),.sh (.int (w:Int))]=some (.ok (.sh (.bl (bZ hs v w && jQ oc sp hs v w))),[.sh (aA no ba oc fs rs),.sh (.tup [.str "span",.int be,.int sp]),.ow (.lst ah) true false,.ow (.lst hs) true false,.sh (.int (v:Int)),.sh (.int (w:Int))]):=by
 rw [bI mG rfl rfl];unfold f7;have hx2:eX (some (aA no ba oc fs rs)) (.int 2)=some (.sh (.int oc)):=rfl;obtain ⟨d1,a1,g1,k1⟩:=dX hh hv;obtain ⟨d2,a2,g2,k2⟩:=dX hh hw;unfold bZ jQ;rw [g1,g2];have hoc:0<oc:=by omega
 clear hh hv hw g1 g2;rcases k1 with rfl | ⟨i1,rfl⟩
 ·have e:j4 .non=true:=rfl;clear o1 o2
  walk_at "!aY bY"
 ·have e1:j4 (.int i1)=false:=rfl;rcases k2 with rfl | ⟨i2,rfl⟩
  ·have e:j4 .non=true:=rfl;clear o1 o2
   walk_at "!aY bY"
  ·have e:j4 (.int i2)=false:=rfl;have e3:pF sp (eK oc (gJ (.int i1)) (gJ (.int i2)))=decide (sp / 2 ^ (cC (i1 - i2) % oc).toNat % 2=0):=rfl;have s0:0≤cC (i1 - i2) % oc:=Int.emod_nonneg _ (by omega);have s1:cC (i1 - i2) % oc<oc:=Int.emod_lt_of_pos _ hoc;have s2:cC (i1 - i2) % oc≤1000:=by omega
   obtain ⟨p1,p2⟩:=pw s0 (by omega);clear o1 o2 s1
   walk_at "!aY bY"
theorem ET {W n:Nat} {be sp no ba oc:Int} {fs:List (Int × Int × Bool)} {rs:List D} {xs:List Int} {b:Int} (hl:fs.length≤20) (hba:0<ba) (o1:1≤oc) (o2:oc≤12) :
  run T W (n+2) "L_broken" [.sh (aA no ba oc fs rs),.sh (.tup [.str "span",.int be,.int sp]),.ow (.lst (xs.map D.int)) true false,.sh (.int b)]=some (.ok (.ow (.lst (aD (gQ be sp ba oc fs xs b)))),[.sh (aA no ba oc fs rs),.sh (.tup [.str "span",.int be,.int sp]),.ow (.lst (xs.map D.int)) true false,.sh (.int b)]):=by
 rw [bI eV rfl rfl];unfold cX;have hx1:eX (some (aA no ba oc fs rs)) (.int 1)=some (.sh (.int ba)):=rfl;have hh:run T W (n+1) "L_heard" _=some (.ok (.ow (.lst (aG fs xs b))),_):=d7 (W:=W) (n:=n) (no:=no) (ba:=ba) (oc:=oc) (fs:=fs) (rs:=rs) (xs:=xs) (b:=b) (by omega);have hh2:run T W (n+1) "L_heard" _=some (.ok (.ow (.lst (aG fs xs (b - 1)))),_):=d7 (W:=W) (n:=n) (no:=no) (ba:=ba) (oc:=oc) (fs:=fs) (rs:=rs) (xs:=xs) (b:=b - 1) (by omega);by_cases c:b % ba=be
 ·have c':decide (b % ba=be)=true:=Zn c;have hhr:=nE (fs:=fs) (xs:=xs) (b:=b);have hln:=dO (fs:=fs) (xs:=xs) (b:=b);have hB:gQ be sp ba oc fs xs b=cF (fs.length+1) (fun v w=>bZ (aG fs xs b) v w && jQ oc sp (aG fs xs b) v w):=Zo c;rw [← hln] at hB
  generalize aG fs xs b=hs at *
  generalize aG fs xs (b - 1)=ah at *
  have hi:aH .rng [.val (.sh (.int (hs.length:Int)))] [.sh (aA no ba oc fs rs),.sh (.tup [.str "span",.int be,.int sp]),.ow (.lst (xs.map D.int)) true false,.sh (.int b),.ow (.lst hs) false false,.un,.un,.un,.ow (.lst ah) false false,.ow (.lst []) false false,.un]=some ((List.range hs.length).map fun (j:Nat)=>.int (j:Int),none):=by
   refine Eq.trans (lU (n:=(hs.length:Int)) rfl (by omega) (by omega)) ?_;rw [Int.toNat_natCast]
  obtain ⟨t',t2',e,ht',ht2'⟩:=o5 (iv:=5) (body:=exs T.pins (run T W (n+1)) W gE) (fun a t t2=>[.sh (aA no ba oc fs rs),.sh (.tup [.str "span",.int be,.int sp]),.ow (.lst (xs.map D.int)) true false,.sh (.int b),.ow (.lst hs) false false,t,.un,.un,.ow (.lst ah) false false,.ow (.lst a) false false,t2]) (fun v w=>bZ hs v w && jQ oc sp hs v w) hs.length (by omega)
   (fun a t t2 d ht=>by simp only [eO,bB ht])
   (fun acc v t hv hac ht=>by
    have hi2:aH .rng [.val (.sh (.int ((v:Int)+1))),.val (.sh (.int (hs.length:Int)))] [.sh (aA no ba oc fs rs),.sh (.tup [.str "span",.int be,.int sp]),.ow (.lst (xs.map D.int)) true false,.sh (.int b),.ow (.lst hs) false false,.sh (.int (v:Int)),.un,.un,.ow (.lst ah) false false,.ow (.lst (aD acc)) false false,t]=some ((List.range (hs.length - (v+1))).map fun (j:Nat)=>.int ((v:Int)+1+(j:Int)),none):=by
     refine Eq.trans (G9 (m:=(v:Int)+1) (n:=(hs.length:Int)) rfl rfl (by omega) (by omega)) ?_;rw [show ((hs.length:Int) - ((v:Int)+1)).toNat=hs.length - (v+1) from by omega]
    obtain ⟨t3,e3,h3⟩:=vP (iw:=10) (body:=exs T.pins (run T W (n+1)) W gD) (fun a t t2=>[.sh (aA no ba oc fs rs),.sh (.tup [.str "span",.int be,.int sp]),.ow (.lst (xs.map D.int)) true false,.sh (.int b),.ow (.lst hs) false false,t,.un,.un,.ow (.lst ah) false false,.ow (.lst a) false false,t2]) (fun v w=>bZ hs v w && jQ oc sp hs v w) hs.length v acc hac (by omega)
     (fun a t d ht=>by simp only [eO,bB ht])
     (fun a w hvw hw hal=>by
      have hbad:=kF (W:=W) (n:=n) (be:=be) (sp:=sp) (no:=no) (ba:=ba) (fs:=fs) (rs:=rs) (ah:=ah) hhr hv hw o1 o2;have hsm:aK ((aD a).length+1)=true:=bF (by rw [cZ]; omega);have et:aD (a ++ [[(v:Int),(w:Int)]])=aD a ++ [.tup [.int (v:Int),.int (w:Int)]]:=by rw [mY]; rfl
      unfold gD
      generalize (bZ hs v w && jQ oc sp hs v w)=q at *
      clear hi hi2 hhr hl hv hw hvw hal hac ht hB hln hh hh2 c o1 o2 hba;cases q
      ·walk_at "!aY kF"
       all_goals (try simp only [List.append_nil])
      ·walk_at "!aY kF") t ht
    refine ⟨t3, ?_,h3⟩;unfold gE;clear hi hhr hl hv hac ht h3 hB hln hh hh2 c o1 o2 hba
    walk_at "!aY kF") .un .un rfl rfl
  rw [hB];clear hl hhr ht' ht2' hB hln c
  walk_at "!aY kF"
 ·have c':decide (b % ba=be)=false:=Zm c;have e:gQ be sp ba oc fs xs b=[]:=Zp c;have e2:aD []=[]:=rfl;clear c hl
  walk_at "!aY kF"
theorem CN {W n:Nat} {a b:D}:run T W (n+1) "rule_of" [.sh (.tup [.str "span",a,b])]=some (.ok (.sh (.ins "Span" ["beat","spans"] [a,b])),[.sh (.tup [.str "span",a,b])]):=by
 rw [bI fN rfl rfl];unfold dH
 walk_at "!aY"
theorem N6 {be sp ba oc:Int} {fs:List (Int × Int × Bool)} {xs:List Int} {b:Int} {is:List Int} (h:is∈gQ be sp ba oc fs xs b):is.length≤1000:=by
 unfold gQ at h;split at h
 ·exact zF h
 ·cases h
theorem LF {body:Env→bR} {iv iw:Nat} (E:List D→Sl→Sl→Env) (R:List Int→Bool) (L:List (List Int)) (hL:L.length≤1000)
  (hb:∀ (a:List D) (t t2 d d2:_),bM t=true→bM t2=true→a8 false [iv,iw] (.tup [d,d2]) (E a t t2)=some (E a (.sh d) (.sh d2)))
  (hp:∀ is∈L,∃ v w:Nat,is=[(v:Int),(w:Int)])
  (hs:∀ (a:List (List Int)) (v w:Nat),[(v:Int),(w:Int)]∈L→a.length≤2000→body (E (aD a) (.sh (.int (v:Int))) (.sh (.int (w:Int))))=some (.nx,E (aD (a ++ (if R [(v:Int),(w:Int)]=true then [[(v:Int),(w:Int)]] else []))) (.sh (.int (v:Int))) (.sh (.int (w:Int))))) (t t2:Sl) (ht:bM t=true) (ht2:bM t2=true) :
  ∃ t' t2',bW (a8 false [iv,iw]) body (aD L) (E [] t t2)=some (.nx,E (aD (L.filter R)) t' t2')∧bM t'=true∧bM t2'=true:=by
 have key:∀ (M:List (List Int)) (acc:List (List Int)) (t t2:Sl),(∀ is∈M,is∈L)→acc.length+M.length≤2000→bM t=true→bM t2=true→∃ t' t2',bW (a8 false [iv,iw]) body (aD M) (E (aD acc) t t2)=some (.nx,E (aD (acc ++ M.filter R)) t' t2')∧bM t'=true∧bM t2'=true:=by
  intro M
  induction M with
  | nil=>intro acc t t2 _ _ h1 h2; exact ⟨t,t2,by simp [aD,bW],h1,h2⟩
  | cons is M ih =>
   intro acc t t2 hM hl h1 h2;obtain ⟨v,w,rfl⟩:=hp is (hM is (by simp));have e1:aD ([(v:Int),(w:Int)] :: M)=.tup [.int (v:Int),.int (w:Int)] :: aD M:=rfl;have hl':acc.length+M.length+1≤2000:=by simpa [Nat.add_assoc] using hl
   rw [e1];simp only [bW,hb _ _ _ _ _ h1 h2,hs acc v w (hM _ (by simp)) (by omega)]
   obtain ⟨t',t2',e,h3,h4⟩:=ih (acc ++ (if R [(v:Int),(w:Int)]=true then [[(v:Int),(w:Int)]] else [])) (.sh (.int (v:Int))) (.sh (.int (w:Int))) (fun is h=>hM is (Ze _ h)) (by
    rw [Za];split
    ·simp only [Zk,List.length_nil]; omega
    ·simp only [List.length_nil]; omega) rfl rfl
   refine ⟨t',t2', ?_,h3,h4⟩;rw [e,List.filter_cons];by_cases q:R [(v:Int),(w:Int)]=true
   ·simp [q]
   ·simp [q]
 obtain ⟨t',t2',e,h⟩:=key L [] t t2 (fun _ h=>h) (by simp; omega) ht ht2;exact ⟨t',t2',by simpa [aD] using e,h⟩
def wC (x:PySem.Str):Prop:=x="like"∨x="against"∨x="aside"∨x="any"
noncomputable def gT (x:PySem.Str) (a b:Int):Bool:=if x == ("like":PySem.Str) then decide (0<a*b) else if x == ("against":PySem.Str) then decide (a*b<0) else if x == ("aside":PySem.Str) then !(decide (a=0) == decide (b=0)) else true
theorem iV:((Str.ofString "against") == (Str.ofString "like"))=false:=by decide +kernel
theorem iT:((Str.ofString "aside") == (Str.ofString "like"))=false:=by decide +kernel
theorem iU:((Str.ofString "any") == (Str.ofString "like"))=false:=by decide +kernel
theorem iX:((Str.ofString "aside") == (Str.ofString "against"))=false:=by decide +kernel
theorem iN:((Str.ofString "any") == (Str.ofString "against"))=false:=by decide +kernel
theorem iQ:((Str.ofString "any") == (Str.ofString "aside"))=false:=by decide +kernel
theorem jE:((Str.ofString "like") == (Str.ofString "any"))=false:=by decide +kernel
theorem jF:((Str.ofString "like") == (Str.ofString "aside"))=false:=by decide +kernel
theorem jL:((Str.ofString "against") == (Str.ofString "any"))=false:=by decide +kernel
theorem fS:((Str.ofString "against") == (Str.ofString "aside"))=false:=by decide +kernel
theorem fW:((Str.ofString "aside") == (Str.ofString "any"))=false:=by decide +kernel
theorem LH {W n:Nat} {x:PySem.Str} {a b:Int} (hx:wC x) (h1:-18446744073709551616<a) (h2:a<18446744073709551616):run T W (n+1) "move_so" [.sh (.str x),.sh (.int a),.sh (.int b)]=some (.ok (.sh (.bl (gT x a b))),[.sh (.str x),.sh (.int a),.sh (.int b)]):=by
 rw [bI zU rfl rfl];unfold lP gT;rcases hx with rfl | rfl | rfl | rfl
 ·walk_at "!iV iT iU iX iN iQ jE jF jL fS fW &"
 ·walk_at "!iV iT iU iX iN iQ jE jF jL fS fW &"
 ·walk_at "!iV iT iU iX iN iQ jE jF jL fS fW &"
 ·walk_at "!iV iT iU iX iN iQ jE jF jL fS fW &"
theorem EZ {a h:Int}:0<a*h↔(0<a∧0<h)∨(a<0∧h<0):=by
 constructor
 ·intro q;rcases Int.lt_trichotomy a 0 with c | c | c
  ·rcases Int.lt_trichotomy h 0 with d | d | d
   ·exact .inr ⟨c,d⟩
   ·rw [d,Int.mul_zero] at q; omega
   ·exact absurd (Int.mul_neg_of_neg_of_pos c d) (by omega)
  ·rw [c,Int.zero_mul] at q; omega
  ·rcases Int.lt_trichotomy h 0 with d | d | d
   ·exact absurd (Int.mul_neg_of_pos_of_neg c d) (by omega)
   ·rw [d,Int.mul_zero] at q; omega
   ·exact .inl ⟨c,d⟩
 ·rintro (⟨c,d⟩ | ⟨c,d⟩)
  ·exact Int.mul_pos c d
  ·exact Int.mul_pos_of_neg_of_neg c d
theorem OV {a h:Int}:a*h<0↔(0<a∧h<0)∨(a<0∧0<h):=by
 have:=EZ (a:=a) (h:=-h)
 rw [Int.mul_neg] at this;constructor
 ·intro q;rcases this.mp (by omega) with z | z
  ·exact .inl ⟨z.1,by omega⟩
  ·exact .inr ⟨z.1,by omega⟩
 ·intro q
  have:=this.mpr (by rcases q with z | z; exact .inl ⟨z.1,by omega⟩; exact .inr ⟨z.1,by omega⟩)
  omega
theorem in2 {a b:Int}:bX .In (.int 0) (.tup [.int a,.int b])=some (decide (a=0) || decide (b=0)):=by
 have h:bX .In (.int 0) (.tup [.int a,.int b])=some (E8 (.int 0) [.int a,.int b]):=rfl;rw [h];congr 1;unfold E8;simp only [List.any_cons,List.any_nil,dR,Bool.or_false];rfl
theorem eY {W n:Nat} {x:PySem.Str} {a b:Int} (hx:wC x):run T W (n+1) "L_moved_so" [.sh (.str x),.sh (.int a),.sh (.int b)]=some (.ok (.sh (.bl (gT x a b))),[.sh (.str x),.sh (.int a),.sh (.int b)]):=by
 rw [bI rP rfl rfl];unfold i7;rcases hx with rfl | rfl | rfl | rfl
 ·have e:gT "like" a b=decide ((0<a∧0<b)∨(a<0∧b<0)):=by
   unfold gT;rw [Zo (beq_self_eq_true _)];exact decide_eq_decide.mpr EZ
  rw [e];by_cases c1:0<a
  ·have c1':decide (0<a)=true:=Zn c1;have c2':decide (a<0)=false:=Zm (by omega);by_cases c3:0<b
   ·have c3':decide (0<b)=true:=Zn c3;rw [Zn (p:=(0<a∧0<b)∨(a<0∧b<0)) (.inl ⟨c1,c3⟩)];clear e c1 c3
    walk_at "!iV iT iU iX iN iQ jE jF jL fS fW &"
   ·have c3':decide (0<b)=false:=Zm c3;rw [Zm (p:=(0<a∧0<b)∨(a<0∧b<0)) (by omega)];clear e c1 c3
    walk_at "!iV iT iU iX iN iQ jE jF jL fS fW &"
  ·have c1':decide (0<a)=false:=Zm c1;by_cases c2:a<0
   ·have c2':decide (a<0)=true:=Zn c2;have e2:decide ((0<a∧0<b)∨(a<0∧b<0))=decide (b<0):=decide_eq_decide.mpr (by omega);rw [e2];clear e e2 c1 c2
    walk_at "!iV iT iU iX iN iQ jE jF jL fS fW &"
   ·have c2':decide (a<0)=false:=Zm c2;rw [Zm (p:=(0<a∧0<b)∨(a<0∧b<0)) (by omega)];clear e c1 c2
    walk_at "!iV iT iU iX iN iQ jE jF jL fS fW &"
 ·have e:gT "against" a b=decide ((0<a∧b<0)∨(a<0∧0<b)):=by
   unfold gT;rw [iV,Zp (by decide),Zo (beq_self_eq_true _)];exact decide_eq_decide.mpr OV
  rw [e];by_cases c1:0<a
  ·have c1':decide (0<a)=true:=Zn c1;have c2':decide (a<0)=false:=Zm (by omega);by_cases c3:b<0
   ·have c3':decide (b<0)=true:=Zn c3;rw [Zn (p:=(0<a∧b<0)∨(a<0∧0<b)) (.inl ⟨c1,c3⟩)];clear e c1 c3
    walk_at "!iV iT iU iX iN iQ jE jF jL fS fW &"
   ·have c3':decide (b<0)=false:=Zm c3;rw [Zm (p:=(0<a∧b<0)∨(a<0∧0<b)) (by omega)];clear e c1 c3
    walk_at "!iV iT iU iX iN iQ jE jF jL fS fW &"
  ·have c1':decide (0<a)=false:=Zm c1;by_cases c2:a<0
   ·have c2':decide (a<0)=true:=Zn c2;have e2:decide ((0<a∧b<0)∨(a<0∧0<b))=decide (0<b):=decide_eq_decide.mpr (by omega);rw [e2];clear e e2 c1 c2
    walk_at "!iV iT iU iX iN iQ jE jF jL fS fW &"
   ·have c2':decide (a<0)=false:=Zm c2;rw [Zm (p:=(0<a∧b<0)∨(a<0∧0<b)) (by omega)];clear e c1 c2
    walk_at "!iV iT iU iX iN iQ jE jF jL fS fW &"
 ·have e:gT "aside" a b=((decide (a=0) || decide (b=0)) && !decide (a=b)):=by
   unfold gT;rw [iT,Zp (by decide),iX,Zp (by decide),Zo (beq_self_eq_true _)];by_cases h1:a=0
   ·by_cases h2:b=0
    ·simp [h1,h2]
    ·simp [h1,h2]; omega
   ·by_cases h2:b=0
    ·simp [h1,h2]
    ·simp [h1,h2]
  rw [e];have hin:=in2 (a:=a) (b:=b);by_cases c1:a=0∨b=0
  ·have c1':(decide (a=0) || decide (b=0))=true:=by rcases c1 with h | h <;> simp [h]
   rw [c1'] at hin ⊢;clear e c1 c1'
   walk_at "!iV iT iU iX iN iQ jE jF jL fS fW &"
  ·have c1':(decide (a=0) || decide (b=0))=false:=by
    rw [not_or] at c1;simp [c1.1,c1.2]
   rw [c1'] at hin ⊢;clear e c1 c1'
   walk_at "!iV iT iU iX iN iQ jE jF jL fS fW &"
 ·have e:gT "any" a b=true:=by
   unfold gT;rw [iU,Zp (by decide),iN,Zp (by decide),iQ,Zp (by decide)]
  rw [e]
  walk_at "!iV iT iU iX iN iQ jE jF jL fS fW &"
noncomputable def j5 (one other oc:Int) (x:PySem.Str) (ah hs:List D) (v w:Nat):Bool :=
 decide (eK oc (gJ (ah.getD v .non)) (gJ (ah.getD w .non))=one) && decide (eK oc (gJ (hs.getD v .non)) (gJ (hs.getD w .non))=other) && gT x (gJ (hs.getD v .non) - gJ (ah.getD v .non)) (gJ (hs.getD w .non) - gJ (ah.getD w .non))
noncomputable def xS (one other oc:Int) (x:PySem.Str) (ah hs:List D):List Int→Bool
 | [v,w]=>j5 one other oc x ah hs v.toNat w.toNat
 | _=>false
noncomputable def kY (one other oc:Int) (x:PySem.Str) (fs:List (Int × Int × Bool)) (xs:List Int) (b:Int):List (List Int):=cF (fs.length+1) (fun v w=>bZ (aG fs xs (b - 1)) v w && j5 one other oc x (aG fs xs (b - 1)) (aG fs xs b) v w)
theorem DH {n:Nat} {P Q:Nat→Nat→Bool} (h:∀ v w,v<w→w<n→P v w=Q v w):cF n P=cF n Q:=by
 unfold cF;congr 1
 funext v
 unfold eQ;congr 1
 apply List.filter_congr
 intro j hj;have hj:=List.mem_range.mp hj;exact h v (v+1+j) (by omega) (by omega)
theorem ES {n:Nat} {P:Nat→Nat→Bool} (h:∀ v w,v<w→w<n→P v w=false):cF n P=[]:=by
 rw [DH (Q:=fun _ _=>false) h];unfold cF eQ;simp
structure HrOk (hs ah:List D):Prop where
 h1:F6 hs
 h2:F6 ah
 len:ah.length=hs.length
 bd:∀ v i,hs.getD v .non=.int i→-100≤i∧i≤100
 bd2:∀ v i,ah.getD v .non=.int i→-100≤i∧i≤100
 on:∀ v,j4 (ah.getD v .non)=false→j4 (hs.getD v .non)=false
theorem pM {fs:List (Int × Int × Bool)} {xs:List Int} {b:Int} {v:Nat}:(∃ f∈b8 fs,∀ b:Int,(aG fs xs b).getD v .non=cB xs b f)∨∀ b:Int,(aG fs xs b).getD v .non=.non:=by
 cases h:(b8 fs)[v]? with
 | some f=>exact .inl ⟨f,zj h,fun b=>j0 h⟩
 | none =>
  refine .inr fun b=>?_
  unfold aG;rw [List.getD_eq_getElem?_getD,Zh,h];rfl
theorem QW {no ba oc:Int} {fs:List (Int × Int × Bool)} {xs:List Int} {b:Nat} (ho:HouseOk no ba oc fs) (hxs:∀ x∈xs,0≤x∧x<no) (hb:b<xs.length):HrOk (aG fs xs (b:Int)) (aG fs xs ((b:Int) - 1)):=by
 have n2:=ho.n2
 have hv:∀ f∈b8 fs,0≤f.1∧-12≤f.2.1∧f.2.1≤12:=fun f hf=>by
  rcases List.mem_cons.mp hf with rfl | hf
  ·decide
  ·have:=ho.f f hf
   omega
 have bd:∀ (c:Int) v i,(aG fs xs c).getD v .non=.int i→-100≤i∧i≤100:=fun c v i h=>by
  rcases pM (fs:=fs) (xs:=xs) (b:=c) (v:=v) with ⟨f,hf,e⟩ | e
  ·rw [e c] at h;unfold cB at h;split at h
   ·rename_i hc;have h:=D.int.inj h
    have hx:xs.getD (c - f.1).toNat 0∈xs:=by
     have hlt:(c - f.1).toNat<xs.length:=by omega
     exact xG (k:=(c - f.1).toNat) hlt
    have:=hxs _ hx
    have:=hv f hf
    split at h <;> omega
   ·cases h
  ·rw [e c] at h; cases h
 refine ⟨nE,nE,by rw [dO,dO],bd _,bd _,fun v h=>?_⟩;rcases pM (fs:=fs) (xs:=xs) (b:=(b:Int)) (v:=v) with ⟨f,hf,e⟩ | e
 ·rw [e] at h ⊢;unfold cB at h ⊢;split at h
  ·rename_i hc
   have:=hv f hf
   rw [Zo (by omega)];rfl
  ·cases h
 ·rw [e] at h; cases h
theorem SV {hs ah:List D} (H:HrOk hs ah) {v w:Nat} (hv:v<hs.length) (hw:w<hs.length) (h:bZ ah v w=true):∃ i1 i2 j1 j2:Int,L2.cJ ah (v:Int)=some (.int i1)∧L2.cJ ah (w:Int)=some (.int i2)∧L2.cJ hs (v:Int)=some (.int j1)∧L2.cJ hs (w:Int)=some (.int j2)∧ah.getD v .non=.int i1∧ah.getD w .non=.int i2∧hs.getD v .non=.int j1∧hs.getD w .non=.int j2∧(-100≤i1∧i1≤100)∧(-100≤j1∧j1≤100):=by
 unfold bZ at h;rw [ZB] at h;obtain ⟨d1,a1,g1,k1⟩:=dX H.h2 (v:=v) (by rw [H.len]; exact hv);obtain ⟨d2,a2,g2,k2⟩:=dX H.h2 (v:=w) (by rw [H.len]; exact hw);obtain ⟨d3,a3,g3,k3⟩:=dX H.h1 hv;obtain ⟨d4,a4,g4,k4⟩:=dX H.h1 hw;have o1:=H.on v (by simpa using h.1);have o2:=H.on w (by simpa using h.2);rw [g1,g2] at h;rw [g3] at o1;rw [g4] at o2;rcases k1 with rfl | ⟨i1,rfl⟩
 ·exact absurd h.1 (by decide)
 rcases k2 with rfl | ⟨i2,rfl⟩
 ·exact absurd h.2 (by decide)
 rcases k3 with rfl | ⟨j1,rfl⟩
 ·exact absurd o1 (by decide)
 rcases k4 with rfl | ⟨j2,rfl⟩
 ·exact absurd o2 (by decide)
 exact ⟨i1,i2,j1,j2,a1,a2,a3,a4,g1,g2,g3,g4,H.bd2 v i1 g1,H.bd v j1 g3⟩
theorem B4 {W n:Nat} {one other no ba oc:Int} {x:PySem.Str} {fs:List (Int × Int × Bool)} {rs:List D} {xs:List Int} {b:Int} (hl:fs.length≤20) (hoc:0<oc) (hx:wC x) (H:HrOk (aG fs xs b) (aG fs xs (b - 1))) :
  run T W (n+4) "Never.broken" [.sh (.ins "Never" ["one","other","way"] [.int one,.int other,.str x]),.sh (aA no ba oc fs rs),.ow (.lst (xs.map D.int)) true false,.sh (.int b)]=some (.ok (.ow (.lst (aD (kY one other oc x fs xs b)))),[.sh (.ins "Never" ["one","other","way"] [.int one,.int other,.str x]),.sh (aA no ba oc fs rs),.ow (.lst (xs.map D.int)) true false,.sh (.int b)]):=by
 rw [bI n9 rfl rfl];unfold gN;have hx2:eX (some (aA no ba oc fs rs)) (.int 2)=some (.sh (.int oc)):=rfl;have hc1:run T W (n+3) "chord" _=some (.ok (.ow (.lst (aG fs xs (b - 1)))),_):=lZ (W:=W) (n:=n) (no:=no) (ba:=ba) (oc:=oc) (fs:=fs) (rs:=rs) (xs:=xs) (b:=b - 1) (by omega);have hc2:run T W (n+3) "chord" _=some (.ok (.ow (.lst (aG fs xs b))),_):=lZ (W:=W) (n:=n) (no:=no) (ba:=ba) (oc:=oc) (fs:=fs) (rs:=rs) (xs:=xs) (b:=b) (by omega);have hln:=dO (fs:=fs) (xs:=xs) (b:=b - 1);have hln2:=dO (fs:=fs) (xs:=xs) (b:=b);have hso:=pR (W:=W) (n:=n+2) H.h2 (by omega);rw [hln] at hso
 have hB:kY one other oc x fs xs b=(cF (fs.length+1) (bZ (aG fs xs (b - 1)))).filter (xS one other oc x (aG fs xs (b - 1)) (aG fs xs b)):=by
  unfold kY;rw [xM (Q:=j5 one other oc x (aG fs xs (b - 1)) (aG fs xs b))];intro v w;rfl
 generalize aG fs xs b=hs at *
 generalize aG fs xs (b - 1)=ah at *
 obtain ⟨L,hL⟩:∃ L,L=cF (fs.length+1) (bZ ah):=⟨_,rfl⟩
 have hLm:∀ is∈L,∃ v w:Nat,is=[(v:Int),(w:Int)]∧v<hs.length∧w<hs.length∧bZ ah v w=true:=fun is his=>by
  rw [hL] at his;obtain ⟨v,w,h1,h2,h3,_,h4⟩:=y6 his;exact ⟨v,w,h1,by omega,by omega,h4⟩
 have hLl:L.length≤1000:=by rw [hL]; exact wZ (by omega)
 rw [← hL] at hso hB;have hi2:aH .of [.val (.ow (.lst (aD L)))] [.sh (.ins "Never" ["one","other","way"] [.int one,.int other,.str x]),.sh (aA no ba oc fs rs),.ow (.lst (xs.map D.int)) true false,.sh (.int b),.sh (.int oc),.ow (.lst ah) false false,.ow (.lst hs) false false,.ow (.lst []) false false,.un,.un]=some (aD L,none):=tG rfl
 obtain ⟨t8,t9,e,h8,h9⟩:=LF (iv:=8) (iw:=9) (body:=exs T.pins (run T W (n+3)) W iS) (fun a t t2=>[.sh (.ins "Never" ["one","other","way"] [.int one,.int other,.str x]),.sh (aA no ba oc fs rs),.ow (.lst (xs.map D.int)) true false,.sh (.int b),.sh (.int oc),.ow (.lst ah) false false,.ow (.lst hs) false false,.ow (.lst a) false false,t,t2]) (xS one other oc x ah hs) L hLl
  (fun a t t2 d d2 ht ht2=>by simp only [eO,bB ht,bB ht2])
  (fun is his=>by obtain ⟨v,w,h,_⟩:=hLm is his; exact ⟨v,w,h⟩)
  (fun a v w hm hal=>by
   obtain ⟨v',w',h1,hv,hw,hso2⟩:=hLm _ hm;have hvv:v'=v:=by have:=(List.cons.inj h1).1; omega
   have hww:w'=w:=by have:=(List.cons.inj (List.cons.inj h1).2).1; omega
   subst hvv hww;obtain ⟨i1,i2,j1,j2,a1,a2,a3,a4,g1,g2,g3,g4,q1,q2⟩:=SV H hv hw hso2;have hsm:aK ((aD a).length+1)=true:=bF (by rw [cZ]; omega);have et:aD (a ++ [[(v':Int),(w':Int)]])=aD a ++ [.tup [.int (v':Int),.int (w':Int)]]:=by rw [mY]; rfl
   have en:xS one other oc x ah hs [(v':Int),(w':Int)]=(decide (eK oc i1 i2=one) && decide (eK oc j1 j2=other) && gT x (j1 - i1) (j2 - i2)):=by
    unfold xS j5;simp only [Int.toNat_natCast,g1,g2,g3,g4];rfl
   have hmv:=LH (W:=W) (n:=n+2) (a:=j1 - i1) (b:=j2 - i2) hx (by omega) (by omega);rw [en];unfold iS;clear h1 hv hw hso2 hm hal hLm hLl hi2 hB hL hso hc1 hc2 hln hln2 H g1 g2 g3 g4 q1 q2 hl en hx;by_cases c1:eK oc i1 i2=one
   ·have c1':decide (eK oc i1 i2=one)=true:=Zn c1;by_cases c2:eK oc j1 j2=other
    ·have c2':decide (eK oc j1 j2=other)=true:=Zn c2;rw [c1',c2',Bool.true_and,Bool.true_and]
     generalize gT x (j1 - i1) (j2 - i2)=q at *
     clear c1 c2;cases q
     ·walk_at "!gA fA f9 eB"
      all_goals (try simp only [List.append_nil])
     ·walk_at "!gA fA f9 eB"
    ·have c2':decide (eK oc j1 j2=other)=false:=Zm c2;rw [c1',c2',Bool.true_and,Bool.false_and];clear c1 c2
     walk_at "!gA fA f9 eB"
     all_goals (try simp only [List.append_nil])
   ·have c1':decide (eK oc i1 i2=one)=false:=Zm c1;rw [c1',Bool.false_and,Bool.false_and];clear c1
    walk_at "!gA fA f9 eB"
    all_goals (try simp only [List.append_nil])) .un .un rfl rfl
 rw [hB];clear hl h8 h9 hB hLm hLl hL hln hln2 H hx
 walk_at "!gA fA f9 eB"
theorem JQ {W n:Nat} {one other no ba oc:Int} {x:PySem.Str} {fs:List (Int × Int × Bool)} {rs:List D} {hs ah:List D} {v w:Nat} (H:HrOk hs ah) (hv:v<hs.length) (hw:w<hs.length) (hoc:0<oc) (hx:wC x) :
  run T W (n+2) "L_bad_pair" [.sh (aA no ba oc fs rs),.sh (.tup [.str "never",.int one,.int other,.str x]),.ow (.lst ah) true false,.ow (.lst hs) true false,.sh (.int (v:Int)),.sh (.int (w:Int))]=some (.ok (.sh (.bl (bZ ah v w && j5 one other oc x ah hs v w))),[.sh (aA no ba oc fs rs),.sh (.tup [.str "never",.int one,.int other,.str x]),.ow (.lst ah) true false,.ow (.lst hs) true false,.sh (.int (v:Int)),.sh (.int (w:Int))]):=by
 rw [bI mG rfl rfl];unfold f7;have hx2:eX (some (aA no ba oc fs rs)) (.int 2)=some (.sh (.int oc)):=rfl;obtain ⟨d1,a1,g1,k1⟩:=dX H.h2 (v:=v) (by rw [H.len]; exact hv);obtain ⟨d2,a2,g2,k2⟩:=dX H.h2 (v:=w) (by rw [H.len]; exact hw);obtain ⟨d3,a3,g3,k3⟩:=dX H.h1 hv;obtain ⟨d4,a4,g4,k4⟩:=dX H.h1 hw;have o1:=H.on v;have o2:=H.on w;unfold bZ j5;rw [g1,g2,g3,g4];rw [g1,g3] at o1;rw [g2,g4] at o2;have hmv:=fun (a b:Int)=>eY (W:=W) (n:=n) (x:=x) (a:=a) (b:=b) hx
 clear H hv hw g1 g2 g3 g4 hx;have eN:j4 .non=true:=rfl;have eI:∀ i,j4 (.int i)=false:=fun _=>rfl
 rcases k3 with rfl | ⟨j1,rfl⟩
 ·have q1:j4 d1=true:=by
   cases h:j4 d1 with
   | true=>rfl
   | false=>exact absurd (o1 h) (by decide)
  rw [q1];clear o1 o2 k1 k2 k4 hmv eI
  walk_at "!aY bY eY"
 rcases k4 with rfl | ⟨j2,rfl⟩
 ·have q2:j4 d2=true:=by
   cases h:j4 d2 with
   | true=>rfl
   | false=>exact absurd (o2 h) (by decide)
  rw [q2];clear o1 o2 k1 k2 hmv eI
  walk_at "!aY bY eY"
 clear o1 o2;rcases k1 with rfl | ⟨i1,rfl⟩
 ·clear k2 hmv eI
  walk_at "!aY bY eY"
 rcases k2 with rfl | ⟨i2,rfl⟩
 ·rw [eI];clear hmv eI
  walk_at "!aY bY eY"
 rw [eI,eI];have e1:gJ (.int i1)=i1:=rfl;have e2:gJ (.int i2)=i2:=rfl;have e3:gJ (.int j1)=j1:=rfl;have e4:gJ (.int j2)=j2:=rfl;rw [e1,e2,e3,e4];unfold eK;have hm:=hmv (j1 - i1) (j2 - i2);clear e1 e2 e3 e4 eI eN hmv;by_cases c2:cC (j1 - j2) % oc=other
 ·have c2':decide (cC (j1 - j2) % oc=other)=true:=Zn c2;by_cases c1:cC (i1 - i2) % oc=one
  ·have c1':decide (cC (i1 - i2) % oc=one)=true:=Zn c1;rw [c1',c2'];clear c1 c2
   walk_at "!aY bY eY"
  ·have c1':decide (cC (i1 - i2) % oc=one)=false:=Zm c1;rw [c1'];clear c1 c2
   walk_at "!aY bY eY"
 ·have c2':decide (cC (j1 - j2) % oc=other)=false:=Zm c2;rw [c2'];clear c2
  walk_at "!aY bY eY"
theorem DB {W n:Nat} {one other no ba oc:Int} {x:PySem.Str} {fs:List (Int × Int × Bool)} {rs:List D} {xs:List Int} {b:Nat} (hl:fs.length≤20) (hba:0<ba) (hoc:0<oc) (hx:wC x) (H:HrOk (aG fs xs (b:Int)) (aG fs xs ((b:Int) - 1))) (h0:∀ f∈b8 fs,0≤f.1) :
  run T W (n+3) "L_broken" [.sh (aA no ba oc fs rs),.sh (.tup [.str "never",.int one,.int other,.str x]),.ow (.lst (xs.map D.int)) true false,.sh (.int (b:Int))]=some (.ok (.ow (.lst (aD (kY one other oc x fs xs b)))),[.sh (aA no ba oc fs rs),.sh (.tup [.str "never",.int one,.int other,.str x]),.ow (.lst (xs.map D.int)) true false,.sh (.int (b:Int))]):=by
 rw [bI eV rfl rfl];unfold cX;have hx1:eX (some (aA no ba oc fs rs)) (.int 1)=some (.sh (.int ba)):=rfl;have hh:run T W (n+2) "L_heard" _=some (.ok (.ow (.lst (aG fs xs (b:Int)))),_):=d7 (W:=W) (n:=n+1) (no:=no) (ba:=ba) (oc:=oc) (fs:=fs) (rs:=rs) (xs:=xs) (b:=(b:Int)) (by omega);have hh2:run T W (n+2) "L_heard" _=some (.ok (.ow (.lst (aG fs xs ((b:Int) - 1)))),_):=d7 (W:=W) (n:=n+1) (no:=no) (ba:=ba) (oc:=oc) (fs:=fs) (rs:=rs) (xs:=xs) (b:=(b:Int) - 1) (by omega);by_cases c:b=0
 ·subst c;have c':decide (((0:Nat):Int)=0)=true:=rfl
  have e:kY one other oc x fs xs ((0:Nat):Int)=[]:=by
   unfold kY
   apply ES
   intro v w _ _
   have:j4 ((aG fs xs (((0:Nat):Int) - 1)).getD v .non)=true:=by
    rcases pM (fs:=fs) (xs:=xs) (b:=0) (v:=v) with ⟨f,hf,e⟩ | e
    ·rw [e];unfold cB;rw [Zp (by have:=h0 f hf; omega)];rfl
    ·rw [e]; rfl
   unfold bZ;rw [this];rfl
  have e2:aD []=[]:=rfl;rw [e,e2];clear e e2 hl H hx h0
  generalize aG fs xs ((0:Nat):Int)=hs at *
  have z0:((0:Nat):Int)=0:=rfl;rw [z0] at hh hh2 c' ⊢
  walk_at "!aY"
 ·have c':decide ((b:Int)=0)=false:=Zm (by omega);have hln:=dO (fs:=fs) (xs:=xs) (b:=(b:Int));unfold kY;rw [← hln]
  generalize aG fs xs (b:Int)=hs at *
  generalize aG fs xs ((b:Int) - 1)=ah at *
  have hi:aH .rng [.val (.sh (.int (hs.length:Int)))] [.sh (aA no ba oc fs rs),.sh (.tup [.str "never",.int one,.int other,.str x]),.ow (.lst (xs.map D.int)) true false,.sh (.int (b:Int)),.ow (.lst hs) false false,.un,.un,.un,.ow (.lst ah) false false,.ow (.lst []) false false,.un]=some ((List.range hs.length).map fun (j:Nat)=>.int (j:Int),none):=by
   refine Eq.trans (lU (n:=(hs.length:Int)) rfl (by omega) (by omega)) ?_;rw [Int.toNat_natCast]
  obtain ⟨t',t2',e,ht',ht2'⟩:=o5 (iv:=5) (body:=exs T.pins (run T W (n+2)) W gE) (fun a t t2=>[.sh (aA no ba oc fs rs),.sh (.tup [.str "never",.int one,.int other,.str x]),.ow (.lst (xs.map D.int)) true false,.sh (.int (b:Int)),.ow (.lst hs) false false,t,.un,.un,.ow (.lst ah) false false,.ow (.lst a) false false,t2]) (fun v w=>bZ ah v w && j5 one other oc x ah hs v w) hs.length (by omega)
   (fun a t t2 d ht=>by simp only [eO,bB ht])
   (fun acc v t hv hac ht=>by
    have hi2:aH .rng [.val (.sh (.int ((v:Int)+1))),.val (.sh (.int (hs.length:Int)))] [.sh (aA no ba oc fs rs),.sh (.tup [.str "never",.int one,.int other,.str x]),.ow (.lst (xs.map D.int)) true false,.sh (.int (b:Int)),.ow (.lst hs) false false,.sh (.int (v:Int)),.un,.un,.ow (.lst ah) false false,.ow (.lst (aD acc)) false false,t]=some ((List.range (hs.length - (v+1))).map fun (j:Nat)=>.int ((v:Int)+1+(j:Int)),none):=by
     refine Eq.trans (G9 (m:=(v:Int)+1) (n:=(hs.length:Int)) rfl rfl (by omega) (by omega)) ?_;rw [show ((hs.length:Int) - ((v:Int)+1)).toNat=hs.length - (v+1) from by omega]
    obtain ⟨t3,e3,h3⟩:=vP (iw:=10) (body:=exs T.pins (run T W (n+2)) W gD) (fun a t t2=>[.sh (aA no ba oc fs rs),.sh (.tup [.str "never",.int one,.int other,.str x]),.ow (.lst (xs.map D.int)) true false,.sh (.int (b:Int)),.ow (.lst hs) false false,t,.un,.un,.ow (.lst ah) false false,.ow (.lst a) false false,t2]) (fun v w=>bZ ah v w && j5 one other oc x ah hs v w) hs.length v acc hac (by omega)
     (fun a t d ht=>by simp only [eO,bB ht])
     (fun a w hvw hw hal=>by
      have hbad:=JQ (W:=W) (n:=n) (one:=one) (other:=other) (no:=no) (ba:=ba) (fs:=fs) (rs:=rs) H hv hw hoc hx;have hsm:aK ((aD a).length+1)=true:=bF (by rw [cZ]; omega);have et:aD (a ++ [[(v:Int),(w:Int)]])=aD a ++ [.tup [.int (v:Int),.int (w:Int)]]:=by rw [mY]; rfl
      unfold gD
      generalize (bZ ah v w && j5 one other oc x ah hs v w)=q at *
      clear hi hi2 hl hv hw hvw hal hac ht hln hh hh2 c H hx hba h0;cases q
      ·walk_at "!aY"
       all_goals (try simp only [List.append_nil])
      ·walk_at "!aY") t ht
    refine ⟨t3, ?_,h3⟩;unfold gE;clear hi hl hv hac ht h3 hln hh hh2 c H hx hba h0
    walk_at "!aY") .un .un rfl rfl
  clear hl ht' ht2' hln c H hx h0
  walk_at "!aY"
theorem AM {W n:Nat} {a b c:D}:run T W (n+1) "rule_of" [.sh (.tup [.str "never",a,b,c])]=some (.ok (.sh (.ins "Never" ["one","other","way"] [a,b,c])),[.sh (.tup [.str "never",a,b,c])]):=by
 rw [bI fN rfl rfl];unfold dH
 walk_at "!aY"
noncomputable def mx (m y:Int):Int:=if y > m then y else m
theorem zW {m y:Int}:(if y > m then y else m)=mx m y:=rfl
noncomputable def iO (fs:List (Int × Int × Bool)):Int:=(fs.map fun f=>1+f.1).foldl mx 3
noncomputable def X3:List (Int × Int × Bool)→Int
 | []=>0
 | f :: r=>(r.map fun f=>f.1).foldl mx f.1
theorem DV:∀ (l:List (Int × Int × Bool)) (a c:Int),(l.map fun f=>1+f.1).foldl mx (mx c (1+a))=mx c (1+(l.map fun f=>f.1).foldl mx a)
 | [],_,_=>rfl
 | f :: l,a,c=>by
  have h:mx (mx c (1+a)) (1+f.1)=mx c (1+mx a f.1):=by
   unfold mx
   split <;> split <;> split <;> first | omega | (split <;> omega)
  rw [Zs,List.foldl_cons,h,DV l (mx a f.1) c,Zs,List.foldl_cons]
theorem RW {fs:List (Int × Int × Bool)} (h:1≤fs.length):mx 3 (1+X3 fs)=iO fs:=by
 match fs,h with
 | f :: r,_=>exact (DV r f.1 3).symm
theorem J1:∀ (l:List Int) (a:Int),a≤l.foldl mx a
 | [],a=>Int.le_refl a
 | b :: l,a=>Int.le_trans (by unfold mx; split <;> omega) (J1 l (mx a b))
theorem KQ {b:Int}:∀ (l:List Int) (a:Int),a≤b→(∀ x∈l,x≤b)→l.foldl mx a≤b
 | [],_,h,_=>h
 | x :: l,a,h,hl=>KQ l (mx a x) (by have:=hl x (zh ..); unfold mx; split <;> omega) fun y hy=>hl y (Ze _ hy)
theorem Y7 {no ba oc:Int} {fs:List (Int × Int × Bool)} (h:HouseOk no ba oc fs):∃ m:Nat,iO fs=(m:Int)∧3≤m∧m≤5:=by
 have h1:3≤iO fs:=J1 _ _
 have h2:iO fs≤5:=KQ _ _ (by decide) fun x hx=>by
  obtain ⟨f,hf,rfl⟩:=zl.mp hx
  have:=(h.f f hf).2.1
  omega
 exact ⟨(iO fs).toNat,by omega,by omega,by omega⟩
theorem JC {a:Int} {l:List Int}:lH .max [.lst ((a :: l).map D.int)]=some (.sh (.int (l.foldl mx a))):=by
 show (match dI ((a :: l).map D.int) with
  | some (i :: r)=>some (RV.sh (.int (r.foldl (fun m y=>if y > m then y else m) i)))
  | _=>none)=_
 rw [kJ];rfl
theorem uD {W n:Nat} {no ba oc:Int} {fs:List (Int × Int × Bool)} {rs:List D} (h1:1≤fs.length) (h3:fs.length≤3) :
  run T W (n+1) "memory" [.sh (aA no ba oc fs rs)]=some (.ok (.sh (.int (iO fs))),[.sh (aA no ba oc fs rs)]):=by
 rw [bI DY rfl rfl];unfold nI;have hi:aH .of [.val (.sh (.tup (fs.map cM)))] [.sh (aA no ba oc fs rs)]=some (fs.map cM,none):=xE rfl;have hix:eX (some (aA no ba oc fs rs)) (.int 3)=some (.sh (.tup (fs.map cM))):=rfl
 obtain ⟨acc,ρi,e,⟨t1,rfl,ht1,rfl⟩,_⟩:=fM (tests:=dY T.pins (run T W n) []) (elt:=ev T.pins (run T W n) false nS) (bind:=a8 true [1]) (ds:=fs.map cM)
  (fun j acc ρ=>∃ (t1:Sl),ρ=[.un,t1]∧bM t1=true∧acc=((fs.take j).map fun f=>f.1).map D.int)
  (fun j d hd acc ρ hρ=>by
   obtain ⟨t1,rfl,ht1,rfl⟩:=hρ;obtain ⟨f,hf,rfl⟩:∃ f,fs[j]?=some f∧cM f=d:=by simpa using hd
   refine ⟨_,true,_,by simp only [eO,bB ht1] <;> rfl,iA,fun _=>?_,fun z=>nomatch z⟩;refine ⟨.sh (.int f.1),[.un,.sh (cM f)], ?_,_,rfl,rfl, ?_⟩
   ·unfold nS cM;clear hd hf hi hix ht1 h1 h3
    walk_at "!% zW"
   ·rw [List.take_succ,hf,zd,zd]
    rfl)
  [] [.un,.un] ⟨_,rfl,rfl,rfl⟩
 have ht:fs.take (fs.map cM).length=fs:=by
  rw [zf];simp
 rw [ht] at e;have hsm:aK ((fs.map fun f=>f.1).map D.int).length=true:=bF (by simp; omega);have hsm2:aK fs.length=true:=bF (by omega)
 have hmx:lH .max [.lst ((fs.map fun f=>f.1).map D.int)]=some (.sh (.int (X3 fs))):=by
  match fs,h1 with
  | f :: r,_=>exact JC
 have hml:=RW h1;clear ht ht1 h1 h3
 walk_at "!% zW"
 rw [eF hi]
 walk_at "!% zW"
 all_goals (rw [mS rfl]; walk_at "!% zW")
theorem AW {W n:Nat} {no ba oc:Int} {fs:List (Int × Int × Bool)} {rs:List D} (h3:fs.length≤3) :
  run T W (n+1) "L_memory" [.sh (aA no ba oc fs rs)]=some (.ok (.sh (.int (iO fs))),[.sh (aA no ba oc fs rs)]):=by
 rw [bI wM rfl rfl];unfold kR;have hi:aH .of [.val (.sh (.tup (fs.map cM)))] [.sh (aA no ba oc fs rs)]=some (fs.map cM,none):=xE rfl;have hix:eX (some (aA no ba oc fs rs)) (.int 3)=some (.sh (.tup (fs.map cM))):=rfl
 obtain ⟨acc,ρi,e,⟨t1,rfl,ht1,rfl⟩,_⟩:=fM (tests:=dY T.pins (run T W n) []) (elt:=ev T.pins (run T W n) false lF) (bind:=a8 true [1]) (ds:=fs.map cM)
  (fun j acc ρ=>∃ (t1:Sl),ρ=[.un,t1]∧bM t1=true∧acc=((fs.take j).map fun f=>1+f.1).map D.int)
  (fun j d hd acc ρ hρ=>by
   obtain ⟨t1,rfl,ht1,rfl⟩:=hρ;obtain ⟨f,hf,rfl⟩:∃ f,fs[j]?=some f∧cM f=d:=by simpa using hd
   refine ⟨_,true,_,by simp only [eO,bB ht1] <;> rfl,iA,fun _=>?_,fun z=>nomatch z⟩;refine ⟨.sh (.int (1+f.1)),[.un,.sh (cM f)], ?_,_,rfl,rfl, ?_⟩
   ·unfold lF cM;clear hd hf hi hix ht1 h3
    walk_at "!% zW"
   ·rw [List.take_succ,hf,zd,zd]
    rfl)
  [] [.un,.un] ⟨_,rfl,rfl,rfl⟩
 have ht:fs.take (fs.map cM).length=fs:=by
  rw [zf];simp
 rw [ht] at e;have hsm:aK ((fs.map fun f=>1+f.1).map D.int).length=true:=bF (by simp; omega);have hsm2:aK fs.length=true:=bF (by omega);have hsm3:aK (1+fs.length)=true:=bF (by omega);have hsm4:aK (0+1+fs.length)=true:=bF (by omega);have hmx:lH .max [.lst (.int 3 :: (fs.map fun f=>1+f.1).map D.int)]=some (.sh (.int (iO fs))):=JC;clear ht ht1 h3
 walk_at "!% zW"
 rw [eF hi]
 walk_at "!% zW"
 all_goals (rw [mS rfl]; walk_at "!% zW")
noncomputable def i6 (m ba n:Int):Int:=if n≤m then n else m+(n - m) % ba
noncomputable def iC (m:Nat) (xs:List Int):List Int:=xs.drop (xs.length - m)
theorem F0 {m ba n:Int} (h:n≤m):i6 m ba n=n:=Zo h
theorem E9 {m ba n:Int} (h:¬ n≤m):i6 m ba n=m+(n - m) % ba:=Zp h
theorem UW {m ba n:Int} (h0:0≤n) (hm:3≤m) (hb:1≤ba):0≤i6 m ba n∧i6 m ba n≤m+ba - 1:=by
 unfold i6;split
 ·omega
 ·have a:=Int.emod_nonneg (n - m) (b:=ba) (by omega);have b:=Int.emod_lt_of_pos (n - m) (b:=ba) (by omega);omega
theorem QE {m:Nat} {ba:Int} {xs:List Int} (hb:1≤ba):((iC m xs).length:Int)=if (m:Int)<i6 m ba xs.length then (m:Int) else i6 m ba xs.length:=by
 unfold iC;rw [List.length_drop];unfold i6;by_cases h:(xs.length:Int)≤(m:Int)
 ·rw [Zo h,Zp (by omega)];omega
 ·rw [Zp h];have a:=Int.emod_nonneg ((xs.length:Int) - m) (b:=ba) (by omega)
  split <;> omega
theorem T9 {m:Nat} {xs:List Int} {x:Int} (h:x∈iC m xs):x∈xs:=List.mem_of_mem_drop h
theorem zL {W n:Nat} {no ba oc:Int} {fs:List (Int × Int × Bool)} {rs:List D} {m:Nat} {k:Int} (ho:HouseOk no ba oc fs) (hm:iO fs=(m:Int)) :
  run T W (n+2) "turn_of" [.sh (aA no ba oc fs rs),.sh (.int k)]=some (.ok (.sh (.int (i6 m ba k))),[.sh (aA no ba oc fs rs),.sh (.int k)]):=by
 rw [bI zC rfl rfl];unfold lT;have hme:=uD (W:=W) (n:=n) (no:=no) (ba:=ba) (oc:=oc) (rs:=rs) ho.l1 ho.l2;rw [hm] at hme;have hix:eX (some (aA no ba oc fs rs)) (.int 1)=some (.sh (.int ba)):=rfl;have g1:0<ba:=by have:=ho.b1; omega
 have g2:ba<100000000000000000000000000000000000000000000000000000000000000000000000000000000:=by have:=ho.b2; omega
 by_cases c:k≤(m:Int)
 ·have c':decide (k≤(m:Int))=true:=Zn c;rw [F0 c];clear c ho hm
  walk_at "!"
 ·have c':decide (k≤(m:Int))=false:=Zm c;rw [E9 c];clear c ho hm
  walk_at "!"
theorem U8 {xs:List Int} {m:Nat} (h:1≤m):D2 (some (.lst (xs.map D.int))) (some (.int (-(m:Int)))) none=some (.ow (.lst ((iC m xs).map D.int))):=by
 show some (RV.ow (.lst (jV (xs.map D.int) (some (-(m:Int))) none)))=_;unfold jV iC
 have e:HT.bT (xs.map D.int).length 0 (some (-(m:Int)))=xs.length - m:=by
  unfold HT.bT;rw [List.length_map];show (if -(m:Int)<0 then _ else _)=_;rw [Zo (by omega)];omega
 rw [e,HT.pH,List.length_map,← List.map_drop,← List.map_take,zf (by rw [List.length_drop]; omega)]
theorem N9 {xs:List Int} {m:Nat}:D2 (some (.lst (xs.map D.int))) (some (.int (if (xs.length:Int) - (m:Int) > 0 then (xs.length:Int) - (m:Int) else 0))) none=some (.ow (.lst ((iC m xs).map D.int))):=by
 have e1:(if (xs.length:Int) - (m:Int) > 0 then (xs.length:Int) - (m:Int) else 0)=((xs.length - m:Nat):Int):=by split <;> omega
 rw [e1];show some (RV.ow (.lst (jV (xs.map D.int) (some ((xs.length - m:Nat):Int)) none)))=_;unfold jV iC;rw [HT.oU,HT.pH,List.length_map,Nat.min_eq_left (by omega),← List.map_drop,← List.map_take,zf (by rw [List.length_drop]; omega)]
noncomputable def cV (m:Nat) (ba:Int) (xs:List Int):D:=.tup [.int (i6 m ba xs.length),.tup ((iC m xs).map D.int)]
theorem v8 {W n:Nat} {no ba oc:Int} {fs:List (Int × Int × Bool)} {rs:List D} {m:Nat} {xs:List Int} (ho:HouseOk no ba oc fs) (hm:iO fs=(m:Int)) (h3:3≤m) :
  run T W (n+3) "stand_of" [.sh (aA no ba oc fs rs),.ow (.lst (xs.map D.int)) true false]=some (.ok (.sh (cV m ba xs)),[.sh (aA no ba oc fs rs),.ow (.lst (xs.map D.int)) true false]):=by
 rw [bI wA rfl rfl];unfold kL cV;have hme:=uD (W:=W) (n:=n+1) (no:=no) (ba:=ba) (oc:=oc) (rs:=rs) ho.l1 ho.l2;rw [hm] at hme;have htu:=zL (W:=W) (n:=n) (rs:=rs) (k:=(xs.length:Int)) ho hm;have hs:=U8 (xs:=xs) (m:=m) (by omega);clear ho hm h3
 walk_at "!zL %"
theorem fJ {W n:Nat} {no ba oc:Int} {fs:List (Int × Int × Bool)} {rs:List D} {m:Nat} {xs:List Int} (ho:HouseOk no ba oc fs) (hm:iO fs=(m:Int)) :
  run T W (n+2) "L_stand" [.sh (aA no ba oc fs rs),.ow (.lst (xs.map D.int)) true false]=some (.ok (.sh (cV m ba xs)),[.sh (aA no ba oc fs rs),.ow (.lst (xs.map D.int)) true false]):=by
 rw [bI zR rfl rfl];unfold lN cV;have hme:=AW (W:=W) (n:=n) (no:=no) (ba:=ba) (oc:=oc) (rs:=rs) ho.l2;rw [hm] at hme;have hix:eX (some (aA no ba oc fs rs)) (.int 1)=some (.sh (.int ba)):=rfl;have g1:0<ba:=by have:=ho.b1; omega
 have g2:ba<100000000000000000000000000000000000000000000000000000000000000000000000000000000:=by have:=ho.b2; omega
 have hs:=N9 (xs:=xs) (m:=m);by_cases c:(xs.length:Int)≤(m:Int)
 ·have c':decide ((m:Int)<(xs.length:Int))=false:=Zm (by omega);rw [F0 c];clear c ho hm
  walk_at "!%"
 ·have c':decide ((m:Int)<(xs.length:Int))=true:=Zn (by omega);rw [E9 c];clear c ho hm
  walk_at "!%"
theorem yR {c:Bool}:(d6 c).length≤900:=by cases c <;> decide
theorem twoD_l9 {c:Bool} {a b:Int}:(twoD c a b).length≤900:=by cases c <;> simp [twoD]
theorem zO {n:Nat} {P:Nat→Nat→Bool} (hn:n≤30):(cF n P).length≤900:=by
 have h1:=pL (n:=n) (P:=P) n;have h2:n*n≤30*30:=Nat.mul_le_mul hn hn;unfold cF;omega
theorem WI {n:Nat} {sel:Nat→Bool} (hn:n≤900):(nV n sel).length≤900:=by
 unfold nV;rw [List.length_map]
 have:=List.length_filter_le sel (List.range n)
 simp at this;omega
theorem MP {be sp ba oc:Int} {fs:List (Int × Int × Bool)} {xs:List Int} {b:Int} (hl:fs.length≤20):(gQ be sp ba oc fs xs b).length≤900:=by
 unfold gQ;split
 ·exact zO (by omega)
 ·simp
abbrev Br:=List Int→Nat→List (List Int)
abbrev RP:=D × D × Br
noncomputable def HM (o h:D) (xs:List Int) (b:Nat):List Sl:=[.sh o,.sh h,.ow (.lst (xs.map D.int)) true false,.sh (.int (b:Int))]
structure RX (no ba oc:Int) (fs:List (Int × Int × Bool)) (rs:List D) (m:Nat) (p:RP):Prop where
 ob:∃ c ns ds f q,p.2.1=.ins c ns ds∧fQ c ns "broken" dN=some f∧T.pins f=[true,true,true,q] ∧
  ∀ (W n:Nat) (xs:List Int) (b:Nat),b<xs.length→(∀ x∈xs,0≤x∧x<no)→run T W (n+4) f (HM (.ins c ns ds) (aA no ba oc fs rs) xs b)=some (.ok (.ow (.lst (aD (p.2.2 xs b)))),HM (.ins c ns ds) (aA no ba oc fs rs) xs b)
 ru:∀ (W n:Nat),run T W (n+1) "rule_of" [.sh p.1]=some (.ok (.sh p.2.1),[.sh p.1])
 lw:∀ (W n:Nat) (xs:List Int) (b:Nat),b<xs.length→(∀ x∈xs,0≤x∧x<no)→run T W (n+3) "L_broken" [.sh (aA no ba oc fs rs),.sh p.1,.ow (.lst (xs.map D.int)) true false,.sh (.int (b:Int))]=some (.ok (.ow (.lst (aD (p.2.2 xs b)))),[.sh (aA no ba oc fs rs),.sh p.1,.ow (.lst (xs.map D.int)) true false,.sh (.int (b:Int))])
 inn:∀ xs b is,is∈p.2.2 xs b→is.length≤1000
 len:∀ xs b,(p.2.2 xs b).length≤900
theorem aBF {no ba oc:Int} {fs:List (Int × Int × Bool)} {rs:List D} {m:Nat} {d:D} (ho:HouseOk no ba oc fs) (h:RuleD no ba oc (fs.length:Int) d):∃ o br,RX no ba oc fs rs m (d,o,br):=by
 have l2:=ho.l2;have o1:=ho.o1;have o2:=ho.o2;have b1:=ho.b1;have n2:=ho.n2
 have h0:∀ f∈b8 fs,0≤f.1:=fun f hf=>by
  rcases List.mem_cons.mp hf with rfl | hf
  ·decide
  ·exact (ho.f f hf).1
 have l20:fs.length≤20:=by omega
 have l9:fs.length≤900:=by omega
 have l1:fs.length≤1000:=by omega
 cases h with
 | span a b h1 h2 h3' h4 =>
  exact ⟨_,fun xs b'=>gQ a b ba oc fs xs (b':Int),⟨_,_,_,_,true,rfl,yX,AQ,fun W n xs b' _ _=>EO l20 h3' (by omega) (by omega)⟩,fun W n=>CN,fun W n xs b' _ _=>ET (n:=n+1) l20 (by omega) o1 o2,fun xs b is h=>N6 h,fun xs b'=>MP l20⟩
 | leap a h1 h2 =>
  exact ⟨_,fun xs b'=>d6 (kP a xs b'),⟨_,_,_,_,false,rfl,yW,AX,fun W n xs b' hb _=>EU (n:=n+3) hb⟩,fun W n=>BJ,fun W n xs b' hb _=>EB (n:=n+1) l1 hb,fun xs b is h=>yQ h,fun xs b'=>yR⟩
 | back a b h1 h2 h3' h4 =>
  exact ⟨_,fun xs b'=>d6 (gZ a b xs b'),⟨_,_,_,_,false,rfl,yE,A0,fun W n xs b' hb hx=>ER (n:=n+3) hb fun x hm'=>⟨(hx x hm').1,by have:=(hx x hm').2; omega⟩⟩,fun W n=>CF,fun W n xs b' hb _=>D6 (n:=n+1) l1 hb h1,fun xs b is h=>yQ h,fun xs b'=>yR⟩
 | again a h1 h2 =>
  obtain ⟨k,rfl⟩:∃ k:Nat,a=(k:Int):=⟨a.toNat,by omega⟩
  exact ⟨_,fun xs b'=>d6 (eW k xs b'),⟨_,_,_,_,false,rfl,wD,x6,fun W n xs b' hb _=>C3 (n:=n+3) hb (by omega)⟩,fun W n=>AY,fun W n xs b' hb _=>CA (n:=n+1) l1 hb (by omega) (by omega),fun xs b is h=>yQ h,fun xs b'=>yR⟩
 | range a b h1 h2 h3' =>
  exact ⟨_,fun xs b'=>jX a b fs xs (b':Int),⟨_,_,_,_,true,rfl,v7,yF,fun W n xs b' _ _=>CQ l9⟩,fun W n=>AV,fun W n xs b' _ _=>BO (n:=n+1) l9,fun xs b is h=>V0 h,fun xs b'=>WI (by omega)⟩
 | above v w h1 h2 h3' =>
  exact ⟨_,fun xs b'=>sG fs xs (b':Int) v w,⟨_,_,_,_,true,rfl,wV,yH,fun W n xs b' _ _=>DQ (n:=n+1) (by omega) (by omega)⟩,fun W n=>AK,fun W n xs b' _ _=>B9 (n:=n+1) l9 (by omega) (by omega),fun xs b is h=>twoD_in h,fun xs b'=>twoD_l9⟩
 | never a b x h1 h2 h3' h4 h5 =>
  exact ⟨_,fun xs b'=>kY a b oc x fs xs (b':Int),⟨_,_,_,_,true,rfl,wW,yO,fun W n xs b' hb hx=>B4 l20 (by omega) h5 (QW ho hx hb)⟩,fun W n=>AM,fun W n xs b' hb hx=>DB l20 (by omega) (by omega) h5 (QW ho hx hb) h0,fun xs b is h=>zF h,fun xs b'=>zO (by omega)⟩
theorem JR {no ba oc:Int} {fs:List (Int × Int × Bool)} {rs:List D} {m:Nat} (ho:HouseOk no ba oc fs):∀ ds:List D,(∀ d∈ds,RuleD no ba oc (fs.length:Int) d)→∃ ps:List RP,ps.map (·.1)=ds∧∀ p∈ps,RX no ba oc fs rs m p
 | [],_=>⟨[],rfl,fun _ z=>nomatch z⟩
 | d :: ds,h=>by
  obtain ⟨ps,h1,h2⟩:=JR ho ds fun d' hd=>h d' (Ze _ hd)
  obtain ⟨o,br,hx⟩:=aBF (rs:=rs) ho (h d zh);refine ⟨(d,o,br) :: ps,by rw [Zs,h1],fun p hp=>?_⟩;rcases List.mem_cons.mp hp with rfl | hp
  ·exact hx
  ·exact h2 p hp
theorem aBG {ρ:Env} {i:Nat} {lo:Int} {ds:List D} {p l:Bool} (h:ρ[i]?=some (.ow (.lst ds) p l)):aH (.enum lo) [.slot i] ρ=some (dM lo ds,some i):=by simp only [aH,h]
theorem K1 {bind:D→Env→Option Env} {body:Env→bR} (ok:D→Bool) (v:RV) (I:Env→Prop) {ds:List D} (h:∀ d∈ds,∀ ρ,I ρ→∃ ρ1,bind d ρ=some ρ1∧∃ ρ2,body ρ1=some (if ok d=true then .nx else .rt v,ρ2)∧I ρ2) :
  ∀ {ρ:Env},I ρ→∃ ρ',bW bind body ds ρ=some (if ds.all ok=true then .nx else .rt v,ρ')∧I ρ':=by
 induction ds with
 | nil=>exact fun hρ=>⟨_,rfl,hρ⟩
 | cons d ds ih =>
  intro ρ hρ;obtain ⟨ρ1,e1,ρ2,e2,h2⟩:=h d (by simp) ρ hρ
  cases c:ok d with
  | true =>
   obtain ⟨ρ',e3,h3⟩:=ih (fun d' hd'=>h d' (by simp [hd'])) h2;rw [c,Zo rfl] at e2;exact ⟨ρ',by simp only [bW,e1,e2,e3,Zj,c,Bool.true_and],h3⟩
  | false =>
   rw [c,Zp (by decide)] at e2;exact ⟨ρ2,by simp only [bW,e1,e2,Zj,c,Bool.false_and]; rfl,h2⟩
section
variable {no ba oc:Int} {fs:List (Int × Int × Bool)} {rs:List D} {m:Nat} {ps:List RP}
theorem IB {W n:Nat} (hrs:ps.map (·.1)=rs) (hp:∀ p∈ps,RX no ba oc fs rs m p) (hl:rs.length≤8):run T W (n+2) "rules_of" [.sh (aA no ba oc fs rs)]=some (.ok (.ow (.lst (ps.map (·.2.1)))),[.sh (aA no ba oc fs rs)]):=by
 rw [bI wN rfl rfl];unfold kQ;have hl':ps.length≤8:=by rw [← hrs,List.length_map] at hl; exact hl
 have hi:aH .of [.val (.sh (.tup rs))] [.sh (aA no ba oc fs rs)]=some (rs,none):=xE rfl;have hix:eX (some (aA no ba oc fs rs)) (.int 4)=some (.sh (.tup rs)):=rfl
 obtain ⟨acc,ρi,e,⟨t1,rfl,ht1,rfl⟩,_⟩:=fM (tests:=dY T.pins (run T W (n+1)) []) (elt:=ev T.pins (run T W (n+1)) false lC) (bind:=a8 true [1]) (ds:=rs)
  (fun j acc ρ=>∃ (t1:Sl),ρ=[.un,t1]∧bM t1=true∧acc=(ps.take j).map (·.2.1))
  (fun j d hd acc ρ hρ=>by
   obtain ⟨t1,rfl,ht1,rfl⟩:=hρ
   obtain ⟨p,hpj,rfl⟩:∃ p,ps[j]?=some p∧p.1=d:=by
    rw [← hrs,Zh] at hd
    cases q:ps[j]? with
    | none=>rw [q] at hd; cases hd
    | some p=>rw [q] at hd; exact ⟨p,rfl,Option.some.inj hd⟩
   have hw:=(hp p (zj hpj)).ru W n;refine ⟨_,true,_,by simp only [eO,bB ht1] <;> rfl,iA,fun _=>?_,fun z=>nomatch z⟩;refine ⟨.sh p.2.1,[.un,.sh p.1], ?_,_,rfl,rfl,by rw [List.take_succ,hpj,zd]; rfl⟩;unfold lC;clear hd hpj hp hi hix ht1 hrs hl hl'
   walk_at "!")
  [] [.un,.un] ⟨_,rfl,rfl,rfl⟩
 rw [show rs.length=ps.length by rw [← hrs,List.length_map],List.take_length] at e;have hsm:aK (ps.map (·.2.1)).length=true:=bF (by simp; omega);clear hp hrs hl hl' ht1
 walk_at "!"
 rw [eF hi]
 walk_at "!"
 all_goals (rw [mS rfl]; walk_at "!")
noncomputable def oS (ps:List RP) (xs:List Int) (b:Nat):Nat:=(ps.map fun p=>(p.2.2 xs b).length).sum
theorem vS {xs:List Int} {b:Nat}:∀ (ps:List RP),(∀ p∈ps,(p.2.2 xs b).length≤900)→oS ps xs b≤900*ps.length
 | [],_=>by simp [oS]
 | p :: ps,h=>by
  have h1:=h p zh;have h2:=vS ps fun q hq=>h q (Ze _ hq)
  unfold oS at h2 ⊢;rw [Zs,List.sum_cons,Zk];omega
noncomputable def ND (xs:List Int) (b:Nat) (i:Nat) (p:RP):List D:=(aD (p.2.2 xs b)).map fun d=>.tup [.int (b:Int),.int (i:Int),d]
noncomputable def eM (xs:List Int) (b:Nat):Nat→List RP→List D
 | _,[]=>[]
 | i,p :: ps=>ND xs b i p ++ eM xs b (i+1) ps
theorem x9 {xs:List Int} {b:Nat} {q:RP}:∀ (ps:List RP) (i:Nat),eM xs b i (ps ++ [q])=eM xs b i ps ++ ND xs b (i+ps.length) q
 | [],i=>by simp [eM]
 | p :: ps,i=>by
  rw [List.cons_append,eM,x9 ps (i+1),eM,List.append_assoc,Zk,show i+1+ps.length=i+(ps.length+1) by omega]
theorem l7 {xs:List Int} {b:Nat}:∀ (ps:List RP) (i:Nat),(eM xs b i ps).length=oS ps xs b
 | [],i=>rfl
 | p :: ps,i=>by
  rw [eM,Za,l7 ps];unfold oS ND;rw [List.length_map,cZ,Zs,List.sum_cons]
theorem FE {xs:List Int} {b:Nat} {d:D}:∀ (ps:List RP) (i:Nat),d∈eM xs b i ps→∃ es,d=.tup es
 | p :: ps,i,h=>by
  rw [eM] at h;rcases zo.mp h with h | h
  ·obtain ⟨_,_,rfl⟩:=zl.mp h;exact ⟨_,rfl⟩
  ·exact FE ps _ h
theorem EN {W n:Nat} {xs:List Int} {b:Nat} (hp:∀ p∈ps,RX no ba oc fs rs m p) (hl:ps.length≤8) (hb:b<xs.length) (hx:∀ x∈xs,0≤x∧x<no) :
  run T W (n+5) "breaks_at" [.sh (aA no ba oc fs rs),.ow (.lst (ps.map (·.2.1))) true false,.ow (.lst (xs.map D.int)) true false,.sh (.int (b:Int))]=some (.ok (.ow (.lst (eM xs b 0 ps))),[.sh (aA no ba oc fs rs),.ow (.lst (ps.map (·.2.1))) true false,.ow (.lst (xs.map D.int)) true false,.sh (.int (b:Int))]):=by
 rw [bI uF rfl rfl];unfold jZ;have hi:aH (.enum 0) [.slot 1] [.sh (aA no ba oc fs rs),.ow (.lst (ps.map (·.2.1))) true false,.ow (.lst (xs.map D.int)) true false,.sh (.int (b:Int)),.ow (.lst []) false false,.un,.un,.un]=some (dM 0 (ps.map (·.2.1)),some 1):=aBG rfl
 obtain ⟨ρ1,e1,t5,t6,t7,rfl,h5,h6,h7⟩:=cT (bind:=a8 false [5,6]) (body:=exs T.pins (run T W (n+4)) W kI)
  (fun pre ρ=>∃ (t5 t6 t7:Sl),ρ=[.sh (aA no ba oc fs rs),.un,.ow (.lst (xs.map D.int)) true false,.sh (.int (b:Int)),.ow (.lst (eM xs b 0 (ps.take pre.length))) false false,t5,t6,t7]∧bM t5=true∧bM t6=true∧bM t7=true)
  (ds:=dM 0 (ps.map (·.2.1))) (fun pre d post hds ρ hρ=>by
   obtain ⟨t5,t6,t7,rfl,h5,h6,h7⟩:=hρ
   have hlen:pre.length<ps.length:=by
    have:=congrArg List.length hds
    rw [fO,List.length_map,Za,Zk] at this;omega
   obtain ⟨p,hpj⟩:∃ p,ps[pre.length]?=some p:=⟨_,Zb hlen⟩
   have hd:d=.tup [.int (pre.length:Int),p.2.1]:=by
    have q:=nJ (lo:=0) (ds:=ps.map (·.2.1)) (i:=pre.length) (d:=p.2.1) (by rw [Zh,hpj]; rfl);rw [hds,List.getElem?_append_right (Zq _),Nat.sub_self,Int.zero_add] at q;exact Option.some.inj q
   subst hd;refine ⟨_,by simp only [eO,bB h5,bB h6] <;> rfl, ?_⟩;have hrx:=hp p (zj hpj);have hlen1:=hrx.len xs b;have hbr:=vS (xs:=xs) (b:=b) (ps.take pre.length) fun q hq=>(hp q (List.mem_of_mem_take hq)).len xs b
   rw [← l7 _ 0,List.length_take] at hbr
   have hN:eM xs b 0 (ps.take (pre ++ [D.tup [D.int (pre.length:Int),p.2.1]]).length)=eM xs b 0 (ps.take pre.length) ++ (aD (p.2.2 xs b)).map fun d=>.tup [.int (b:Int),.int (pre.length:Int),d]:=by
    rw [Za,Zk,List.length_nil,List.take_succ,hpj]
    have:=x9 (xs:=xs) (b:=b) (q:=p) (ps.take pre.length) 0
    rw [List.length_take,Nat.min_eq_left (Nat.le_of_lt hlen),Nat.zero_add] at this;exact this
   rw [hN];obtain ⟨c,ns,ds,f,q,ho,hmt,hpi,hrun⟩:=hrx.ob;have hr:=hrun W n xs b hb hx;unfold HM at hr;rw [ho]
   generalize p.2.2 xs b=Z at *
   generalize eM xs b 0 (ps.take pre.length)=L at *
   generalize (pre.length:Int)=pl at *
   have hi2:aH .of [.val (.ow (.lst (aD Z)))] [.sh (aA no ba oc fs rs),.un,.ow (.lst (xs.map D.int)) true false,.sh (.int (b:Int)),.ow (.lst L) false false,.sh (.int pl),.sh (.ins c ns ds),t7]=some (aD Z,none):=tG rfl
   obtain ⟨ρ2,e2,t7',rfl,h7'⟩:=cT (bind:=a8 true [7]) (body:=exs T.pins (run T W (n+4)) W kE)
    (fun pr ρ=>∃ (t7:Sl),ρ=[.sh (aA no ba oc fs rs),.un,.ow (.lst (xs.map D.int)) true false,.sh (.int (b:Int)),.ow (.lst (L ++ pr.map fun d=>D.tup [.int (b:Int),.int pl,d])) false false,.sh (.int pl),.sh (.ins c ns ds),t7]∧bM t7=true)
    (ds:=aD Z) (fun pr d po hd' ρ hρ=>by
     obtain ⟨t7,rfl,h7⟩:=hρ;refine ⟨_,by simp only [eO,bB h7] <;> rfl, ?_⟩
     have hz:pr.length≤1000:=by
      have:=congrArg List.length hd'
      rw [cZ,Za] at this;omega
     rw [zd,← List.append_assoc];have hsm:aK ((L ++ pr.map fun d=>D.tup [.int (b:Int),.int pl,d]).length+1)=true:=bF (by rw [Za,List.length_map]; omega)
     generalize (L ++ pr.map fun d=>D.tup [.int (b:Int),.int pl,d])=L2 at *
     refine ⟨[.sh (aA no ba oc fs rs),.un,.ow (.lst (xs.map D.int)) true false,.sh (.int (b:Int)),.ow (.lst (L2 ++ [.tup [.int (b:Int),.int pl,d]])) false false,.sh (.int pl),.sh (.ins c ns ds),.sh d], ?_,_,rfl,rfl⟩;unfold kE;clear hp hl hb hx hi hlen hpj hrx hlen1 hbr hN ho hmt hpi hrun hr hi2 hd' hz h5 h6 h7 hds
     walk_at "!")
    (ρ:=[.sh (aA no ba oc fs rs),.un,.ow (.lst (xs.map D.int)) true false,.sh (.int (b:Int)),.ow (.lst L) false false,.sh (.int pl),.sh (.ins c ns ds),t7]) ⟨_,by simp,h7⟩
   refine ⟨[.sh (aA no ba oc fs rs),.un,.ow (.lst (xs.map D.int)) true false,.sh (.int (b:Int)),.ow (.lst (L ++ (aD Z).map fun d=>D.tup [.int (b:Int),.int pl,d])) false false,.sh (.int pl),.sh (.ins c ns ds),t7'], ?_,_,_,_,rfl,rfl,rfl,h7'⟩;unfold kI
   generalize (L ++ (aD Z).map fun d=>D.tup [.int (b:Int),.int pl,d])=L3 at *
   clear hp hl hb hx hi hlen hpj hrx hlen1 hbr hN ho hrun h5 h6 h7 hds h7'
   cases q <;> walk_at "!")
  (ρ:=[.sh (aA no ba oc fs rs),.un,.ow (.lst (xs.map D.int)) true false,.sh (.int (b:Int)),.ow (.lst []) false false,.un,.un,.un]) ⟨_,_,_,rfl,rfl,rfl,rfl⟩
 rw [fO,List.length_map,List.take_length] at e1
 generalize eM xs b 0 ps=L at *
 clear hp hl hb hx h5 h6 h7
 walk_at "!"
 simp only [a7,List.set_cons_zero,List.set_cons_succ,e1,bR.restore,eS,zr,List.getElem?_cons_succ,Option.map_some]
 walk_at "!"
end
theorem sR {ρ:Env} {k:Nat} (h:k≤1000):aH .rng [.val (.sh (.int (k:Int)))] ρ=some ((List.range k).map fun (j:Nat)=>.int (j:Int),none):=by
 refine Eq.trans (lU (n:=(k:Int)) rfl (by omega) (by omega)) ?_;rw [Int.toNat_natCast]
section
variable {no ba oc:Int} {fs:List (Int × Int × Bool)} {rs:List D} {m:Nat} {ps:List RP}
noncomputable def jD (ps:List RP) (xs:List Int) (n:Nat):List D:=(List.range n).flatMap fun b=>eM xs b 0 ps
theorem y9 {xs:List Int} {n:Nat}:jD ps xs (n+1)=jD ps xs n ++ eM xs n 0 ps:=by
 unfold jD;rw [List.range_succ,List.flatMap_append];simp
theorem aAH {xs:List Int} {b:Nat} (hp:∀ p∈ps,RX no ba oc fs rs m p) (hl:ps.length≤8):(eM xs b 0 ps).length≤7200:=by
 rw [l7]
 have:=vS (xs:=xs) (b:=b) ps fun q hq=>(hp q hq).len xs b
 omega
theorem FO {xs:List Int} (hp:∀ p∈ps,RX no ba oc fs rs m p) (hl:ps.length≤8):∀ n:Nat,(jD ps xs n).length≤7200*n
 | 0=>by simp [jD]
 | n+1=>by
  rw [y9,Za];have h1:=FO (xs:=xs) hp hl n;have h2:=aAH (xs:=xs) (b:=n) hp hl;omega
noncomputable def HI (b i:Nat) (is:List Int):D:=.tup [.int (b:Int),.int (i:Int),.tup (is.map D.int)]
theorem FH {xs:List Int} {b:Nat} {d:D}:∀ (qs:List RP) (i:Nat),(∀ p∈qs,RX no ba oc fs rs m p)→d∈eM xs b i qs→∃ j is,d=HI b j is∧is.length≤1000
 | q :: qs,i,hp,h=>by
  rw [eM] at h;rcases zo.mp h with h | h
  ·obtain ⟨d',h1,rfl⟩:=zl.mp h;obtain ⟨is,h2,rfl⟩:=zl.mp h1;exact ⟨i,is,rfl,(hp q zh).inn xs b is h2⟩
  ·exact FH qs _ (fun p hp'=>hp p (Ze _ hp')) h
theorem MR {xs:List Int} {n:Nat} {d:D} (hp:∀ p∈ps,RX no ba oc fs rs m p) (h:d∈jD ps xs n):∃ b j is,d=HI b j is∧is.length≤1000:=by
 obtain ⟨b,_,h⟩:=List.mem_flatMap.mp h;exact ⟨b,FH ps 0 hp h⟩
theorem U1 {b j:Nat} {is:List Int}:bG 19 (HI b j is)=true:=by simp [bG,HI]
theorem VI {xs:List Int} {n:Nat} (hp:∀ p∈ps,RX no ba oc fs rs m p):bG 20 (.lst (jD ps xs n))=true:=by
 show (jD ps xs n).all (bG 19)=true;rw [List.all_eq_true];intro d hd;obtain ⟨b,j,is,rfl,_⟩:=MR hp hd;exact U1
theorem xP {n:Nat} {pre post:List D} {d:D} (h:((List.range n).map fun (j:Nat)=>D.int (j:Int))=pre ++ d :: post):d=.int (pre.length:Int)∧pre.length<n:=by
 have hl:=congrArg List.length h;rw [List.length_map,zp,Za,Zk] at hl;have h2:((List.range n).map fun (j:Nat)=>D.int (j:Int))[pre.length]?=some d:=by rw [h,List.getElem?_append_right (Zq _),Nat.sub_self]; rfl
 rw [Zh,List.getElem?_range (by omega)] at h2;exact ⟨(Option.some.inj h2).symm,by omega⟩
theorem aCt {k:Nat} {p:RP} (hrs:ps.map (·.1)=rs) (h:ps[k]?=some p):eX (some (.tup rs)) (.int (k:Int))=some (.sh p.1):=aB1 (by rw [show L2.cJ rs (k:Int)=rs[k]? from rS,← hrs,Zh,h]; rfl)
theorem BU {W n:Nat} {xs:List Int} (hrs:ps.map (·.1)=rs) (hp:∀ p∈ps,RX no ba oc fs rs m p) (hl:rs.length≤8) (hx:∀ x∈xs,0≤x∧x<no) (lx:xs.length≤130) :
  run T W (n+4) "L_breaks" [.sh (aA no ba oc fs rs),.ow (.lst (xs.map D.int)) true false]=some (.ok (.ow (.lst (jD ps xs xs.length))),[.sh (aA no ba oc fs rs),.ow (.lst (xs.map D.int)) true false]):=by
 have hl':ps.length≤8:=by rw [← hrs,List.length_map] at hl; exact hl
 have hrl:rs.length=ps.length:=by rw [← hrs,List.length_map]
 rw [bI xT rfl rfl];unfold kK;have ix4:eX (some (aA no ba oc fs rs)) (.int 4)=some (.sh (.tup rs)):=rfl;have hi:∀ {ρ:Env},aH .rng [.val (.sh (.int (xs.length:Int)))] ρ=some ((List.range xs.length).map fun (j:Nat)=>.int (j:Int),none):=sR (by omega)
 have hi1:∀ {ρ:Env},aH .rng [.val (.sh (.int (rs.length:Int)))] ρ=some ((List.range rs.length).map fun (j:Nat)=>.int (j:Int),none):=sR (by omega)
 obtain ⟨ρ',e,t3,t4,t5,rfl,_,_,_⟩:=cT (bind:=a8 true [3]) (body:=exs T.pins (run T W (n+3)) W lE)
  (fun pre ρ=>∃ t3 t4 t5,ρ=[.sh (aA no ba oc fs rs),.ow (.lst (xs.map D.int)) true false,.ow (.lst (jD ps xs pre.length)) false false,t3,t4,t5]∧bM t3=true∧bM t4=true∧bM t5=true)
  (ds:=(List.range xs.length).map fun (j:Nat)=>.int (j:Int)) (fun pre d post hds ρ hρ=>by
   obtain ⟨t3,t4,t5,rfl,h3,h4,h5⟩:=hρ;obtain ⟨rfl,hb⟩:=xP hds;refine ⟨_,by simp only [eO,bB h3] <;> rfl, ?_⟩;have z1:=FO (xs:=xs) hp hl' pre.length
   generalize hB:pre.length=b at *
   clear hds
   generalize hA:jD ps xs b=A at *
   obtain ⟨ρ2,e2,u4,u5,rfl,hu4,hu5⟩:=cT (bind:=a8 true [4]) (body:=exs T.pins (run T W (n+3)) W lD)
    (fun pr ρ=>∃ u4 u5,ρ=[.sh (aA no ba oc fs rs),.ow (.lst (xs.map D.int)) true false,.ow (.lst (A ++ eM xs b 0 (ps.take pr.length))) false false,.sh (.int (b:Int)),u4,u5]∧bM u4=true∧bM u5=true)
    (ds:=(List.range rs.length).map fun (j:Nat)=>.int (j:Int)) (fun pr d po hdr ρ hρ=>by
     obtain ⟨u4,u5,rfl,h4,h5⟩:=hρ;obtain ⟨rfl,hk⟩:=xP hdr;rw [hrl] at hk;obtain ⟨p,hpk⟩:∃ p,ps[pr.length]?=some p:=⟨_,Zb hk⟩
     have hrx:=hp p (zj hpk);have hlw:=hrx.lw W n xs b hb hx;have hix:=aCt hrs hpk;have hlen1:=hrx.len xs b;have hbr:=vS (xs:=xs) (b:=b) (ps.take pr.length) fun q hq=>(hp q (List.mem_of_mem_take hq)).len xs b
     rw [← l7 _ 0,List.length_take] at hbr
     have hN:eM xs b 0 (ps.take (pr ++ [D.int (pr.length:Int)]).length)=eM xs b 0 (ps.take pr.length) ++ (aD (p.2.2 xs b)).map fun d=>D.tup [.int (b:Int),.int (pr.length:Int),d]:=by
      rw [Za,Zk,List.length_nil,List.take_succ,hpk]
      have:=x9 (xs:=xs) (b:=b) (q:=p) (ps.take pr.length) 0
      rw [List.length_take,Nat.min_eq_left (Nat.le_of_lt hk),Nat.zero_add] at this;exact this
     rw [hN];refine ⟨_,by simp only [eO,bB h4] <;> rfl, ?_⟩;rw [← List.append_assoc]
     have hAl:(A ++ eM xs b 0 (ps.take pr.length)).length≤7200*130+7200:=by
      rw [Za]
      have:7200*b≤7200*130:=Nat.mul_le_mul_left _ (by omega)
      omega
     generalize A ++ eM xs b 0 (ps.take pr.length)=L at *
     generalize p.2.2 xs b=Z at *
     generalize (pr.length:Int)=pl at *
     have hi2:∀ {ρ:Env},aH .of [.val (.ow (.lst (aD Z)))] ρ=some (aD Z,none):=tG rfl
     obtain ⟨ρ3,e3,v5,rfl,hv5⟩:=cT (bind:=a8 true [5]) (body:=exs T.pins (run T W (n+3)) W lB)
      (fun q ρ=>∃ (v5:Sl),ρ=[.sh (aA no ba oc fs rs),.ow (.lst (xs.map D.int)) true false,.ow (.lst (L ++ q.map fun d=>D.tup [.int (b:Int),.int pl,d])) false false,.sh (.int (b:Int)),.sh (.int pl),v5]∧bM v5=true)
      (ds:=aD Z) (fun q d po hd' ρ hρ=>by
       obtain ⟨v5,rfl,h5⟩:=hρ;refine ⟨_,by simp only [eO,bB h5] <;> rfl, ?_⟩
       have hz:q.length≤1000:=by
        have:=congrArg List.length hd'
        rw [cZ,Za] at this;omega
       rw [zd,← List.append_assoc];have hsm:aK ((L ++ q.map fun d=>D.tup [.int (b:Int),.int pl,d]).length+1)=true:=bF (by rw [Za,List.length_map]; omega)
       generalize (L ++ q.map fun d=>D.tup [.int (b:Int),.int pl,d])=L2 at *
       refine ⟨[.sh (aA no ba oc fs rs),.ow (.lst (xs.map D.int)) true false,.ow (.lst (L2 ++ [.tup [.int (b:Int),.int pl,d]])) false false,.sh (.int (b:Int)),.sh (.int pl),.sh d], ?_,_,rfl,rfl⟩;unfold lB;clear hp hl hl' hx hrs hrl hi hi1 hi2 hpk hrx hlw hix hlen1 hbr hN hAl hd' hz h5 h4 hk lx ix4 z1 hdr
       walk_at "!%")
      (ρ:=[.sh (aA no ba oc fs rs),.ow (.lst (xs.map D.int)) true false,.ow (.lst L) false false,.sh (.int (b:Int)),.sh (.int pl),u5]) ⟨_,by simp,h5⟩
     refine ⟨[.sh (aA no ba oc fs rs),.ow (.lst (xs.map D.int)) true false,.ow (.lst (L ++ (aD Z).map fun d=>D.tup [.int (b:Int),.int pl,d])) false false,.sh (.int (b:Int)),.sh (.int pl),v5], ?_,_,_,rfl,rfl,hv5⟩;unfold lD
     generalize (L ++ (aD Z).map fun d=>D.tup [.int (b:Int),.int pl,d])=L3 at *
     clear hp hl hl' hx hrs hrl hi hi1 hpk hrx hlen1 hbr hN hAl h5 h4 hk lx z1 hv5 hdr
     walk_at "!%")
    (ρ:=[.sh (aA no ba oc fs rs),.ow (.lst (xs.map D.int)) true false,.ow (.lst A) false false,.sh (.int (b:Int)),t4,t5]) ⟨_,_,by simp [eM],h4,h5⟩
   rw [List.length_map,zp,hrl,List.take_length] at e2;refine ⟨[.sh (aA no ba oc fs rs),.ow (.lst (xs.map D.int)) true false,.ow (.lst (A ++ eM xs b 0 ps)) false false,.sh (.int (b:Int)),u4,u5], ?_,.sh (.int (b:Int)),u4,u5,by rw [Za,Zg,hB,y9,hA],rfl,hu4,hu5⟩;unfold lE;rw [hrl] at hi1
   generalize eM xs b 0 ps=B at *
   clear hp hl hl' hx hrs hi lx z1 h3 h4 h5 hu4 hu5 hb
   walk_at "!%")
  (ρ:=[.sh (aA no ba oc fs rs),.ow (.lst (xs.map D.int)) true false,.ow (.lst []) false false,.un,.un,.un]) ⟨_,_,_,rfl,rfl,rfl,rfl⟩
 rw [List.length_map,zp] at e
 generalize jD ps xs xs.length=A at *
 clear hp hl hl' hx hrs lx hi1 hrl ix4
 walk_at "!%"
end
section
variable {no ba oc:Int} {fs:List (Int × Int × Bool)} {rs:List D} {m:Nat} {ps:List RP}
theorem OQ {z:Nat} {x:D}:(List.replicate z [x]).flatten=List.replicate z x:=by
 induction z with
 | zero=>rfl
 | succ z ih=>rw [List.replicate_succ,List.flatten_cons,ih]; rfl
noncomputable def xK (z:Nat) (tl:List Int):List Int:=List.replicate z 0 ++ tl
noncomputable def rO (z:Nat) (tl:List Int):D:=.tup [.int ((z:Int)+(tl.length:Int)),.tup (tl.map D.int)]
theorem SS {z:Nat} {tl:List Int}:(xK z tl).length=z+tl.length:=by unfold xK; simp
theorem yG {W n:Nat} {z:Nat} {tl:List Int} (hz:z≤100) (ht:tl.length≤1000):run T W (n+1) "L_as_line" [.sh (rO z tl)]=some (.ok (.ow (.lst ((xK z tl).map D.int))),[.sh (rO z tl)]):=by
 rw [bI tZ rfl rfl];unfold jU rO;have e0:(z:Int)+(tl.length:Int) - (tl.length:Int)=(z:Int):=by omega
 have e1:dA .Mult (.lst [.int 0]) (.int (z:Int))=some (.ow (.lst (List.replicate z (.int 0)))):=by
  rw [A8 (by omega) (by omega) (fU (by simp; omega)),Int.toNat_natCast,OQ]
 have e2:dA .Add (.lst (List.replicate z (.int 0))) (.lst (tl.map D.int))=some (.ow (.lst ((xK z tl).map D.int))):=by
  rw [vT (fU (by simp; omega))];unfold xK;rw [zd,List.map_replicate]
 clear hz ht
 walk_at "!%"
theorem cD {xs:List Int} {q:Int}:xs.map D.int ++ [D.int q]=(xs ++ [q]).map D.int:=by rw [zd]; rfl
noncomputable def o9 (ps:List RP) (xs:List Int) (q:Int):Bool:=decide (((oS ps (xs ++ [q]) xs.length:Nat):Int)=0)
noncomputable def sO (k:Nat) (ok:Int→Bool):List Int:=((List.range k).filter fun (j:Nat)=>ok (j:Int)).map fun (j:Nat)=>(j:Int)
theorem XZ {k:Nat} {ok:Int→Bool}:((List.range k).filter fun (j:Nat)=>ok (j:Int)).map (fun (j:Nat)=>D.int (j:Int))=(sO k ok).map D.int:=by unfold sO; rw [List.map_map]; rfl
theorem T3 {k:Nat} {ok:Int→Bool} {x:Int} (h:x∈sO k ok):0≤x∧x<k:=by
 obtain ⟨j,hj,rfl⟩:=zl.mp h
 have:=List.mem_range.mp (List.mem_filter.mp hj).1
 omega
theorem P0 {k:Nat} {ok:Int→Bool}:(sO k ok).length≤k:=by
 unfold sO;rw [List.length_map];exact Zr (List.length_filter_le _ _) (by rw [zp]; exact Zq _)
theorem QX {Z:List (List Int)}:bX .NotEq (.lst (aD Z)) (.lst [])=some (!Z.isEmpty):=by
 rw [YU (NW Z) rfl];cases Z <;> rfl
theorem B1 {xs:List Int} {b:Nat}:∀ (ps:List RP),decide (((oS ps xs b:Nat):Int)=0)=ps.all fun p=>(p.2.2 xs b).isEmpty
 | []=>rfl
 | p :: ps=>by
  have ih:=B1 (xs:=xs) (b:=b) ps;rw [Zj,← ih];unfold oS;rw [Zs,List.sum_cons,Bool.eq_iff_iff];cases p.2.2 xs b <;> simp <;> omega
theorem zY {W n:Nat} {xs:List Int} {q:Int} (hrs:ps.map (·.1)=rs) (hp:∀ p∈ps,RX no ba oc fs rs m p) (hx:∀ x∈xs ++ [q],0≤x∧x<no) :
  run T W (n+4) "L_free" [.sh (aA no ba oc fs rs),.ow (.lst ((xs ++ [q]).map D.int)) true false]=some (.ok (.sh (.bl (o9 ps xs q))),[.sh (aA no ba oc fs rs),.ow (.lst ((xs ++ [q]).map D.int)) true false]):=by
 rw [bI BH rfl rfl];unfold mX o9;rw [B1];have hi:aH .of [.val (.sh (.tup rs))] [.sh (aA no ba oc fs rs),.ow (.lst ((xs ++ [q]).map D.int)) true false,.un]=some (rs,none):=xE rfl;have hix:eX (some (aA no ba oc fs rs)) (.int 4)=some (.sh (.tup rs)):=rfl;have hle:(((xs ++ [q]).length:Nat):Int) - 1=(xs.length:Int):=by rw [Za,Zk,List.length_nil]; omega
 have hb:xs.length<(xs ++ [q]).length:=by simp
 obtain ⟨ok,hok⟩:∃ ok:D→Bool,∀ p∈ps,ok p.1=(p.2.2 (xs ++ [q]) xs.length).isEmpty:=by
  refine ⟨fun d=>@decide (∃ p∈ps,p.1=d∧(p.2.2 (xs ++ [q]) xs.length).isEmpty=true) (cl _),fun p hm=>?_⟩
  cases c:(p.2.2 (xs ++ [q]) xs.length).isEmpty with
  | true=>exact @decide_eq_true _ (cl _) ⟨p,hm,rfl,c⟩
  | false =>
   refine @decide_eq_false _ (cl _) fun ⟨p',hm',e,c'⟩=>?_
   have r1:=(hp p hm).lw 0 0 (xs ++ [q]) xs.length hb hx;have r2:=(hp p' hm').lw 0 0 (xs ++ [q]) xs.length hb hx;rw [e,r1] at r2
   injection r2 with r2
   injection r2 with r2
   injection r2 with r2
   injection r2 with r2
   injection r2 with r2
   have l:=congrArg List.length r2;rw [cZ,cZ] at l;rw [List.isEmpty_iff_length_eq_zero] at c';rw [← l,← List.isEmpty_iff_length_eq_zero,c] at c';cases c'
 have hall:(ps.all fun p=>(p.2.2 (xs ++ [q]) xs.length).isEmpty)=rs.all ok:=by
  rw [← hrs,List.all_map];rw [Bool.eq_iff_iff,List.all_eq_true,List.all_eq_true];exact ⟨fun h p hm=>by show ok p.1=true; rw [hok p hm]; exact h p hm,fun h p hm=>by rw [← hok p hm]; exact h p hm⟩
 rw [hall]
 obtain ⟨ρ1,e1,t,rfl,ht⟩:=K1 (bind:=a8 true [2]) (body:=exs T.pins (run T W (n+3)) W nU) ok (.sh (.bl false))
  (fun ρ=>∃ t,ρ=[.sh (aA no ba oc fs rs),.ow (.lst ((xs ++ [q]).map D.int)) true false,t]∧bM t=true) (ds:=rs) (fun d hd ρ hρ=>by
   obtain ⟨t,rfl,ht⟩:=hρ;rw [← hrs] at hd;obtain ⟨p,hm,rfl⟩:=zl.mp hd;refine ⟨_,by simp only [eO,bB ht] <;> rfl, ?_⟩;have hw:=(hp p hm).lw W n (xs ++ [q]) xs.length hb hx;rw [hok p hm]
   generalize p.2.2 (xs ++ [q]) xs.length=Z at *
   refine ⟨[.sh (aA no ba oc fs rs),.ow (.lst ((xs ++ [q]).map D.int)) true false,.sh p.1], ?_,_,rfl,rfl⟩;unfold nU
   generalize xs ++ [q]=zs at *
   clear hd hm hp hx hi hix hrs hok hall ht hb
   cases c:Z.isEmpty <;> walk_at "!QX %")
  (ρ:=[.sh (aA no ba oc fs rs),.ow (.lst ((xs ++ [q]).map D.int)) true false,.un]) ⟨_,rfl,rfl⟩
 generalize xs ++ [q]=zs at *
 clear hp hx hrs hok hall ht hb;cases c:rs.all ok <;> rw [c] at e1 <;> walk_at "!QX %"
end
section
variable {no ba oc:Int} {fs:List (Int × Int × Bool)} {rs:List D} {m:Nat} {ps:List RP}
noncomputable def pI (ps:List RP) (xs:List Int):Bool:=(List.range xs.length).all fun b=>decide (((oS ps xs b:Nat):Int)=0)
theorem HB {bind:D→Env→Option Env} {body:Env→bR} (ok:D→Bool) (Q:RV→Prop) (I:Env→Prop) {ds:List D} (h:∀ d∈ds,∀ ρ,I ρ→∃ ρ1,bind d ρ=some ρ1∧∃ ρ2,(ok d=true∧body ρ1=some (.nx,ρ2)∨ok d=false∧∃ v,Q v∧body ρ1=some (.rt v,ρ2))∧I ρ2) :
  ∀ {ρ:Env},I ρ→∃ ρ',(ds.all ok=true∧bW bind body ds ρ=some (.nx,ρ')∨ds.all ok=false∧∃ v,Q v∧bW bind body ds ρ=some (.rt v,ρ'))∧I ρ':=by
 induction ds with
 | nil=>exact fun hρ=>⟨_,.inl ⟨rfl,rfl⟩,hρ⟩
 | cons d ds ih =>
  intro ρ hρ;obtain ⟨ρ1,e1,ρ2,e2,h2⟩:=h d (by simp) ρ hρ;rcases e2 with ⟨c,e2⟩ | ⟨c,v,hv,e2⟩
  ·obtain ⟨ρ',e3,h3⟩:=ih (fun d' hd'=>h d' (by simp [hd'])) h2;refine ⟨ρ', ?_,h3⟩;rcases e3 with ⟨c3,e3⟩ | ⟨c3,v,hv,e3⟩
   ·exact .inl ⟨by rw [Zj,c,c3]; rfl,by simp only [bW,e1,e2,e3]⟩
   ·exact .inr ⟨by rw [Zj,c,c3]; rfl,v,hv,by simp only [bW,e1,e2,e3]⟩
  ·exact ⟨ρ2,.inr ⟨by rw [Zj,c]; rfl,v,hv,by simp only [bW,e1,e2]⟩,h2⟩
theorem MI {W n:Nat} {xs:List Int} (hrs:ps.map (·.1)=rs) (hp:∀ p∈ps,RX no ba oc fs rs m p) (hl:rs.length≤8) (hx:∀ x∈xs,0≤x∧x<no) (lx:xs.length≤1000) :
  run T W (n+7) "is_let_by" [.sh (aA no ba oc fs rs),.ow (.lst (xs.map D.int)) true false]=some (.ok (.sh (.bl (pI ps xs))),[.sh (aA no ba oc fs rs),.ow (.lst (xs.map D.int)) true false]):=by
 have hl':ps.length≤8:=by rw [← hrs,List.length_map] at hl; exact hl
 have hfb:∃ d,run T W (n+6) "first_break" [.sh (aA no ba oc fs rs),.ow (.lst (xs.map D.int)) true false]=some (.ok (.sh d),[.sh (aA no ba oc fs rs),.ow (.lst (xs.map D.int)) true false])∧bX .Is d .non=some (pI ps xs):=by
  rw [bI qY rfl rfl];unfold iK;have h1:=IB (W:=W) (n:=n+3) hrs hp hl;have hi:aH .rng [.val (.sh (.int (xs.length:Int)))] [.sh (aA no ba oc fs rs),.ow (.lst (xs.map D.int)) true false,.ow (.lst (ps.map (·.2.1))) false false,.un,.un]=some ((List.range xs.length).map fun (j:Nat)=>.int (j:Int),none):=sR lx
  obtain ⟨ρ',e,t3,t4,rfl,_,_⟩:=HB (bind:=a8 true [3]) (body:=exs T.pins (run T W (n+5)) W jC) (fun d=>match d with | .int b=>decide (((oS ps xs b.toNat:Nat):Int)=0) | _=>false) (fun v=>∃ es,v=.sh (.tup es))
   (fun ρ=>∃ t3 t4,ρ=[.sh (aA no ba oc fs rs),.ow (.lst (xs.map D.int)) true false,.ow (.lst (ps.map (·.2.1))) false false,t3,t4]∧bM t3=true∧bM t4=true)
   (ds:=(List.range xs.length).map fun (j:Nat)=>.int (j:Int)) (fun d hd ρ hρ=>by
    obtain ⟨t3,t4,rfl,h3,h4⟩:=hρ;obtain ⟨b,hb,rfl⟩:=zl.mp hd;have hb:=List.mem_range.mp hb;refine ⟨_,by simp only [eO,bB h3] <;> rfl, ?_⟩;have hbk:=EN (W:=W) (n:=n) hp hl' hb hx;have hlen:=l7 (xs:=xs) (b:=b) ps 0;have htup:=fun d=>FE (xs:=xs) (b:=b) (d:=d) ps 0
    show ∃ ρ2,(decide (((oS ps xs b:Nat):Int)=0)=true∧_∨decide (((oS ps xs b:Nat):Int)=0)=false∧_)∧_
    rw [← hlen]
    generalize eM xs b 0 ps=L at *
    unfold jC;clear hi h1 hp hl hl' hx hd hb h3 hrs lx
    cases L with
    | nil =>
     clear htup hlen;refine ⟨[.sh (aA no ba oc fs rs),.ow (.lst (xs.map D.int)) true false,.ow (.lst (ps.map (·.2.1))) false false,.sh (.int (b:Int)),.ow (.lst []) false false],.inl ⟨rfl, ?_⟩,_,_,rfl,rfl,rfl⟩;have c:decide ((0:Int)<((0:Nat):Int))=false:=rfl
     walk_at "!%"
    | cons d L =>
     obtain ⟨es,rfl⟩:=htup d zh;clear htup hlen;refine ⟨[.sh (aA no ba oc fs rs),.ow (.lst (xs.map D.int)) true false,.ow (.lst (ps.map (·.2.1))) false false,.sh (.int (b:Int)),.ow (.lst (.tup es :: L)) false false],.inr ⟨Zm (by rw [Zk]; omega),.sh (.tup es),⟨_,rfl⟩, ?_⟩,_,_,rfl,rfl,rfl⟩;have c:decide ((((D.tup es :: L).length:Nat):Int) > 0)=true:=Zn (by rw [Zk]; omega);have hat:L2.cJ (D.tup es :: L) 0=some (.tup es):=by rw [YY]; rfl
     generalize D.tup es :: L=LL at *
     walk_at "!%")
   (ρ:=[.sh (aA no ba oc fs rs),.ow (.lst (xs.map D.int)) true false,.ow (.lst (ps.map (·.2.1))) false false,.un,.un]) ⟨_,_,rfl,rfl,rfl⟩
  have hal:((List.range xs.length).map fun (j:Nat)=>D.int (j:Int)).all (fun d=>match d with | .int b=>decide (((oS ps xs b.toNat:Nat):Int)=0) | _=>false)=pI ps xs:=by
   rw [List.all_map];rfl
  rw [hal] at e;clear hal hp hl hl' hx hrs lx;rcases e with ⟨c,e⟩ | ⟨c,v,⟨es,rfl⟩,e⟩
  ·refine ⟨.non, ?_,by rw [c]; rfl⟩;clear c
   walk_at "!%"
  ·refine ⟨.tup es, ?_,by rw [c]; rfl⟩;clear c
   walk_at "!%"
 obtain ⟨d,h1,h2⟩:=hfb;rw [bI uR rfl rfl];unfold jW;clear hrs hp hl hx hl' lx
 generalize pI ps xs=bb at *
 walk_at "!%"
end
theorem MB (is:List Int):bG 20 (.lst (is.map D.int))=true:=by simp [bG]
theorem RA {L:List D} (h:bG 20 (.lst L)=true):bX .NotEq (.lst L) (.lst [])=some (!L.isEmpty):=by
 rw [YU h rfl];cases L <;> rfl
theorem HL {xs:List Int}:bX .Eq (.lst (xs.map D.int)) (.lst [])=some xs.isEmpty:=by
 rw [IT (MB xs) rfl];cases xs <;> rfl
theorem dB {xs ys:List Int} (h:xs.length+ys.length≤1000):dA .Add (.lst (xs.map D.int)) (.lst (ys.map D.int))=some (.ow (.lst ((xs ++ ys).map D.int))):=by
 rw [vT (fU (by simp; omega)),zd]
section
variable {no ba oc:Int} {fs:List (Int × Int × Bool)} {rs:List D} {m:Nat} {ps:List RP}
theorem T1 {xs:List Int}:(jD ps xs xs.length).isEmpty=pI ps xs:=by
 unfold jD pI;rw [Bool.eq_iff_iff,List.isEmpty_iff,List.flatMap_eq_nil_iff,List.all_eq_true];refine forall_congr' fun b=>forall_congr' fun _=>?_
 rw [← List.length_eq_zero_iff,l7,decide_eq_true_iff];omega
theorem mU {xs:List Int}:bG 20 (cV m ba xs)=true:=by simp [bG,cV]
noncomputable def vM (m:Nat) (ba:Int) (ps:List RP) (xs ys zs:List Int):Bool:=!zs.isEmpty && (dR (cV m ba (xs ++ ys)) (cV m ba (xs ++ ys ++ zs)) && pI ps (xs ++ ys ++ zs))
theorem GQ {W n:Nat} {xs ys zs:List Int} (ho:HouseOk no ba oc fs) (hm:iO fs=(m:Int)) (h3:3≤m) (hrs:ps.map (·.1)=rs) (hp:∀ p∈ps,RX no ba oc fs rs m p) (hl:rs.length≤8) (hx:∀ x∈xs ++ ys ++ zs,0≤x∧x<no) (lx:xs.length+ys.length+zs.length≤130) :
  run T W (n+8) "shows_round" [.sh (aA no ba oc fs rs),.sh (.lst (xs.map D.int)),.sh (.lst (ys.map D.int)),.sh (.lst (zs.map D.int))]=some (.ok (.sh (.bl (vM m ba ps xs ys zs))),[.sh (aA no ba oc fs rs),.sh (.lst (xs.map D.int)),.sh (.lst (ys.map D.int)),.sh (.lst (zs.map D.int))]):=by
 rw [bI pU rfl rfl];unfold iD vM;have c1:=dB (xs:=xs) (ys:=ys) (by omega);have c2:=dB (xs:=xs ++ ys) (ys:=zs) (by rw [Za]; omega);have s1:=v8 (W:=W) (n:=n+4) (rs:=rs) (xs:=xs ++ ys) ho hm h3;have s2:=v8 (W:=W) (n:=n+4) (rs:=rs) (xs:=xs ++ ys ++ zs) ho hm h3;have hlb:=MI (W:=W) (n:=n) (xs:=xs ++ ys ++ zs) hrs hp hl hx (by rw [Za,Za]; omega);have hg:decide ((0:Int)<(zs.length:Int))=!zs.isEmpty:=by cases zs <;> simp <;> omega
 have he:=IT (mU (m:=m) (ba:=ba) (xs:=xs ++ ys)) (mU (m:=m) (ba:=ba) (xs:=xs ++ ys ++ zs))
 generalize dR (cV m ba (xs ++ ys)) (cV m ba (xs ++ ys ++ zs))=b2 at *
 generalize pI ps (xs ++ ys ++ zs)=b3 at *
 generalize zs.isEmpty=b1 at *
 generalize cV m ba (xs ++ ys)=d1 at *
 generalize cV m ba (xs ++ ys ++ zs)=d2 at *
 generalize xs ++ ys ++ zs=ws at *
 generalize xs ++ ys=us at *
 clear ho hm h3 hrs hp hl hx lx;cases b1 <;> cases b2 <;> walk_at "!%" <;> rfl
theorem P6 {W n:Nat} {xs ys zs:List Int} (ho:HouseOk no ba oc fs) (hm:iO fs=(m:Int)) (h3:3≤m) (hrs:ps.map (·.1)=rs) (hp:∀ p∈ps,RX no ba oc fs rs m p) (hl:rs.length≤8) (hx:∀ x∈xs ++ ys ++ zs,0≤x∧x<no) (lx:xs.length+ys.length+zs.length≤130) :
  run T W (n+5) "L_due" [.sh (aA no ba oc fs rs),.sh (.lst (xs.map D.int)),.sh (.lst (ys.map D.int)),.sh (.lst (zs.map D.int))]=some (.ok (.sh (.bl (vM m ba ps xs ys zs))),[.sh (aA no ba oc fs rs),.sh (.lst (xs.map D.int)),.sh (.lst (ys.map D.int)),.sh (.lst (zs.map D.int))]):=by
 rw [bI FI rfl rfl];unfold pB vM;have c1:=dB (xs:=xs) (ys:=ys) (by omega);have c2:=dB (xs:=xs ++ ys) (ys:=zs) (by rw [Za]; omega);have s1:=fJ (W:=W) (n:=n+2) (rs:=rs) (xs:=xs ++ ys) ho hm;have s2:=fJ (W:=W) (n:=n+2) (rs:=rs) (xs:=xs ++ ys ++ zs) ho hm;have hlb:=BU (W:=W) (n:=n) (xs:=xs ++ ys ++ zs) hrs hp hl hx (by rw [Za,Za]; omega);have hne:=RA (VI (xs:=xs ++ ys ++ zs) (n:=(xs ++ ys ++ zs).length) hp);rw [T1] at hne;have hz:=HL (xs:=zs);have he:=IT (mU (m:=m) (ba:=ba) (xs:=xs ++ ys)) (mU (m:=m) (ba:=ba) (xs:=xs ++ ys ++ zs))
 generalize jD ps (xs ++ ys ++ zs) (xs ++ ys ++ zs).length=A at *
 generalize dR (cV m ba (xs ++ ys)) (cV m ba (xs ++ ys ++ zs))=b2 at *
 generalize pI ps (xs ++ ys ++ zs)=b3 at *
 generalize zs.isEmpty=b1 at *
 generalize cV m ba (xs ++ ys)=d1 at *
 generalize cV m ba (xs ++ ys ++ zs)=d2 at *
 generalize xs ++ ys ++ zs=ws at *
 generalize xs ++ ys=us at *
 clear ho hm h3 hrs hp hl hx lx;cases b1 <;> cases b3 <;> (try rw [Bool.and_true]) <;> (try rw [Bool.and_false]) <;> walk_at "!HL %" <;> rfl
theorem wF {W n:Nat} {xs ys zs:List Int} (ho:HouseOk no ba oc fs) (hm:iO fs=(m:Int)) (h3:3≤m) (hrs:ps.map (·.1)=rs) (hp:∀ p∈ps,RX no ba oc fs rs m p) (hl:rs.length≤8) (hx:∀ x∈xs ++ ys ++ zs,0≤x∧x<no) (lx:xs.length+ys.length+zs.length≤130) :
  run T W (n+9) "L_asked" [.sh (aA no ba oc fs rs),.sh (.lst (xs.map D.int)),.sh (.lst (ys.map D.int)),.sh (.lst (zs.map D.int))]=some (.ok (.sh (.bl true)),[.sh (aA no ba oc fs rs),.sh (.lst (xs.map D.int)),.sh (.lst (ys.map D.int)),.sh (.lst (zs.map D.int))]):=by
 rw [bI zT rfl rfl];unfold lW;have r1:=GQ (W:=W) (n:=n) ho hm h3 hrs hp hl hx lx;have r2:=P6 (W:=W) (n:=n+3) ho hm h3 hrs hp hl hx lx;have he:=QV (d:=.lst [.lst (xs.map D.int),.lst (ys.map D.int),.lst (zs.map D.int)]) (by simp [bG]);have hb:=QV (d:=.bl (vM m ba ps xs ys zs)) rfl;have hti:MN [.bool] (some (D.bl (vM m ba ps xs ys zs)))=some (.sh (.bl true)):=rfl;have q1:aK xs.length=true:=bF (by omega);have q2:aK ys.length=true:=bF (by omega);have q3:aK zs.length=true:=bF (by omega)
 generalize vM m ba ps xs ys zs=b at *
 clear ho hm h3 hrs hp hl hx lx
 walk_at "!%"
end
theorem d8 {xs:List Int} {c:Nat}:D2 (some (.lst (xs.map D.int))) none (some (.int (c:Int)))=some (.ow (.lst ((xs.take c).map D.int))):=by
 show some (RV.ow (.lst (jV (xs.map D.int) none (some (c:Int)))))=_;unfold jV;rw [HT.oU,HT.pH,List.drop_zero,Nat.sub_zero,List.length_map,← List.map_take];by_cases h:c≤xs.length
 ·rw [Nat.min_eq_left h]
 ·rw [Nat.min_eq_right (by omega),zf (Zq _),zf (by omega)]
theorem dS {xs:List Int} {c:Nat}:D2 (some (.lst (xs.map D.int))) (some (.int (c:Int))) none=some (.ow (.lst ((xs.drop c).map D.int))):=by
 show some (RV.ow (.lst (jV (xs.map D.int) (some (c:Int)) none)))=_;unfold jV;rw [HT.oU,HT.pH,List.length_map,← List.map_drop,← List.map_take];by_cases h:c≤xs.length
 ·rw [Nat.min_eq_left h,zf (by rw [List.length_drop]; omega)]
 ·rw [Nat.min_eq_right (by omega),Nat.sub_self,List.take_zero,List.drop_of_length_le (by omega)]
section
variable {no ba oc:Int} {fs:List (Int × Int × Bool)} {rs:List D} {m:Nat} {ps:List RP}
def In (no:Int) (xs:List Int):Prop:=∀ x∈xs,0≤x∧x<no
theorem In.app {xs ys:List Int} (h:In no xs) (k:In no ys):In no (xs ++ ys):=fun x hx=>(zo.mp hx).elim (h x) (k x)
theorem In.one {q:Int} (h:0≤q∧q<no):In no [q]:=fun x hx=>by rw [ze.mp hx]; exact h
theorem In.take {xs:List Int} {c:Nat} (h:In no xs):In no (xs.take c):=fun x hx=>h x (List.mem_of_mem_take hx)
theorem In.drop {xs:List Int} {c:Nat} (h:In no xs):In no (xs.drop c):=fun x hx=>h x (List.mem_of_mem_drop hx)
theorem In.nil:In no []:=fun x hx=>nomatch hx
theorem EH {W n:Nat} {k s:Int} {ys zs:List Int} (ho:HouseOk no ba oc fs) (hy:In no ys) (hz:In no zs) (hl:ys.length+zs.length≤60) :
  ∃ (s':Int) (us vs:List Int),run T W (n+2) "L_spoilt" [.ow (.lst [.int k,.int s]) true false,.sh (aA no ba oc fs rs),.sh (.lst (ys.map D.int)),.sh (.lst (zs.map D.int))]=some (.ok (.ow (.lst [.lst (us.map D.int),.lst (vs.map D.int)])),[.ow (.lst [.int k,.int s']) true false,.sh (aA no ba oc fs rs),.sh (.lst (ys.map D.int)),.sh (.lst (zs.map D.int))])∧In no us∧In no vs∧us.length+vs.length≤120:=by
 rw [bI xC rfl rfl];unfold kW;have n1:=ho.n1;have n2:=ho.n2;have g1:0<(zs.length:Int)+1:=by omega
 have g2:(zs.length:Int)+1<100000000000000000000000000000000000000000000000000000000000000000000000000000000:=by omega
 have g3:0<no:=by omega
 have g4:no<100000000000000000000000000000000000000000000000000000000000000000000000000000000:=by omega
 have w1:=bA (k:=k) (s:=s) (m:=8) (by decide);have w2:=bD (k:=k) (s:=s) (m:=8) (by decide);have a1:=bA (k:=k) (s:=aF k s 8) g1;have a2:=bD (k:=k) (s:=aF k s 8) g1;obtain ⟨c,hc⟩:∃ c:Nat,aP k (aF k s 8) ((zs.length:Int)+1)=(c:Int):=⟨(aP k (aF k s 8) ((zs.length:Int)+1)).toNat,by omega⟩
 obtain ⟨q,hq⟩:∃ q,aP k (aF k (aF k s 8) ((zs.length:Int)+1)) no=q:=⟨_,rfl⟩
 have hqi:0≤q∧q<no:=by rw [← hq]; exact ⟨bA g3,bD g3⟩
 have i0:eX (some (aA no ba oc fs rs)) (.int 0)=some (.sh (.int no)):=rfl;obtain ⟨w,hw⟩:∃ w,aP k s 8=w:=⟨_,rfl⟩
 rw [hw] at w1 w2;have lt:(zs.take c).length≤zs.length:=by rw [List.length_take]; omega
 have ld:(zs.drop c).length≤zs.length:=by rw [List.length_drop]; omega
 have ltd:(zs.take c).length+(zs.drop c).length=zs.length:=by rw [← Za,List.take_append_drop]
 have ld1:(zs.drop (c+1)).length≤zs.length:=by rw [List.length_drop]; omega
 have k1:=dB (xs:=zs.take c) (ys:=[q]) (by rw [Zg]; omega);have k2:=dB (xs:=zs.take c ++ [q]) (ys:=zs.drop c) (by rw [Za,Zg]; omega);have k3:=dB (xs:=zs.take c) (ys:=zs.drop (c+1)) (by omega);have k4:=dB (xs:=ys) (ys:=[q]) (by rw [Zg]; omega);have k5:=dB (xs:=zs) (ys:=zs) (by omega);have k6:=dB (xs:=ys) (ys:=zs.take c) (by omega);have k7:=dB (xs:=zs.drop c) (ys:=zs.take c) (by omega);have hc1:(c:Int)+1=((c+1:Nat):Int):=rfl;have sl1:=dS (xs:=zs) (c:=c+1);rw [← hc1] at sl1;rw [Zs,List.map_nil] at k1 k4;clear n1 n2 a1 a2 ho
 walk_at "!aI d8 dS dB %"
 clear g1 g2 g3 g4 hc hq i0 hw
 have fin:∀ (us vs:List Int),In no us→In no vs→us.length+vs.length≤120→∀ {r:aS RV},r=some (.ok (.ow (.lst [.lst (us.map D.int),.lst (vs.map D.int)])),[.ow (.lst [.int k,.int (aF k (aF k (aF k s 8) ((zs.length:Int)+1)) no)]) true false,.sh (aA no ba oc fs rs),.sh (.lst (ys.map D.int)),.sh (.lst (zs.map D.int))]) →
   ∃ (s':Int) (us vs:List Int),r=some (.ok (.ow (.lst [.lst (us.map D.int),.lst (vs.map D.int)])),[.ow (.lst [.int k,.int s']) true false,.sh (aA no ba oc fs rs),.sh (.lst (ys.map D.int)),.sh (.lst (zs.map D.int))])∧In no us∧In no vs∧us.length+vs.length≤120:=fun us vs h1 h2 h3 r hr=>⟨_,us,vs,hr,h1,h2,h3⟩
 rcases (by omega:w=0∨w=1∨w=2∨w=3∨w=4∨w=5∨w=6∨w=7) with rfl | rfl | rfl | rfl | rfl | rfl | rfl | rfl
 ·refine fin ys (zs.take c ++ [q] ++ zs.drop c) hy ((hz.take.app (In.one hqi)).app hz.drop) (by rw [Za,Za,Zg]; omega) ?_;clear fin hy hz hl lt ld ltd ld1 w1 w2 hqi k3 k4 k5 k6 k7 sl1
  walk_at "!aI d8 dS dB %"
 ·refine fin ys (zs.take c ++ zs.drop (c+1)) hy (hz.take.app hz.drop) (by rw [Za]; omega) ?_;clear fin hy hz hl lt ld ltd ld1 w1 w2 hqi k1 k2 k4 k5 k6 k7
  walk_at "!aI d8 dS dB %"
 ·refine fin (ys ++ [q]) zs (hy.app (In.one hqi)) hz (by rw [Za,Zg]; omega) ?_;clear fin hy hz hl lt ld ltd ld1 w1 w2 hqi k1 k2 k3 k5 k6 k7 sl1
  walk_at "!aI d8 dS dB %"
 ·refine fin zs ys hz hy (by omega) ?_;clear fin hy hz hl lt ld ltd ld1 w1 w2 hqi k1 k2 k3 k4 k5 k6 k7 sl1
  walk_at "!aI d8 dS dB %"
 ·refine fin ys [] hy In.nil (by rw [List.length_nil]; omega) ?_;clear fin hy hz hl lt ld ltd ld1 w1 w2 hqi k1 k2 k3 k4 k5 k6 k7 sl1
  walk_at "!aI d8 dS dB %"
  try rfl
 ·refine fin ys (zs ++ zs) hy (hz.app hz) (by rw [Za]; omega) ?_;clear fin hy hz hl lt ld ltd ld1 w1 w2 hqi k1 k2 k3 k4 k6 k7 sl1
  walk_at "!aI d8 dS dB %"
 ·refine fin (ys ++ zs.take c) (zs.drop c ++ zs.take c) (hy.app hz.take) (hz.drop.app hz.take) (by rw [Za,Za]; omega) ?_;clear fin hy hz hl lt ld ltd ld1 w1 w2 hqi k1 k2 k3 k4 k5 sl1
  walk_at "!aI d8 dS dB %"
 ·refine fin ys [q] hy (In.one hqi) (by rw [Zg]; omega) ?_;clear fin hy hz hl lt ld ltd ld1 w1 w2 hqi k1 k2 k3 k4 k5 k6 k7 sl1
  walk_at "!aI d8 dS dB %"
  try rfl
end
theorem CZ {bind:D→Env→Option Env} {body:Env→bR} (Q:RV→Env→Prop):∀ (ds:List D) (j:Nat) (I:Nat→Env→Prop),(∀ d i ρ,i<j+ds.length→I i ρ→∃ ρ1,bind d ρ=some ρ1∧∃ ρ2,(body ρ1=some (.nx,ρ2)∧I (i+1) ρ2)∨∃ v,body ρ1=some (.rt v,ρ2)∧Q v ρ2)→∀ ρ,I j ρ→∃ ρ',(bW bind body ds ρ=some (.nx,ρ')∧I (j+ds.length) ρ')∨∃ v,bW bind body ds ρ=some (.rt v,ρ')∧Q v ρ'
 | [],j,I,h,ρ,hρ=>⟨ρ,.inl ⟨rfl,hρ⟩⟩
 | d :: ds,j,I,h,ρ,hρ=>by
  obtain ⟨ρ1,e1,ρ2,⟨e2,h2⟩ | ⟨v,e2,h2⟩⟩:=h d j ρ (by simp) hρ
  ·obtain ⟨ρ',h3⟩:=CZ Q ds (j+1) I (fun d i ρ hi=>h d i ρ (by rw [Zk]; omega)) ρ2 h2;refine ⟨ρ', ?_⟩;rw [Zk,show j+(ds.length+1)=j+1+ds.length by omega];simp only [bW,e1,e2];exact h3
  ·exact ⟨ρ2,.inr ⟨v,by simp only [bW,e1,e2],h2⟩⟩
theorem WZ {F:List Int} {i:Int} (h1:0≤i) (h2:i<F.length):∃ q,eX (some (.lst (F.map D.int))) (.int i)=some (.sh (.int q))∧q∈F :=
 ⟨_,aBY (xY h1 h2),by rw [List.getD_eq_getElem?_getD,Zb (by omega),Option.getD_some]; exact List.getElem_mem _⟩
section
variable {no ba oc:Int} {fs:List (Int × Int × Bool)} {rs:List D} {m:Nat} {ps:List RP}
theorem M4 {xs:List Int} (ho:HouseOk no ba oc fs) (h3:3≤m) (h5:m≤5):∃ z tl,cV m ba xs=rO z tl∧z≤100∧tl.length≤1000∧∀ x∈tl,x∈xs:=by
 have b1:=ho.b1;have b2:=ho.b2;have tb:=UW (m:=(m:Int)) (ba:=ba) (n:=(xs.length:Int)) (by omega) (by omega) b1;have tl:=QE (m:=m) (ba:=ba) (xs:=xs) b1;have hle:(iC m xs).length≤m:=by unfold iC; rw [List.length_drop]; omega
 have hge:((iC m xs).length:Int)≤i6 m ba xs.length:=by rw [tl]; split <;> omega
 refine ⟨(i6 m ba xs.length - ((iC m xs).length:Int)).toNat,iC m xs, ?_,by omega,by omega,fun x hx=>T9 hx⟩;unfold cV rO;rw [Int.toNat_of_nonneg (by omega),Int.sub_add_cancel]
theorem ZK {z:Nat} {tl:List Int} (h:In no tl) (h1:1≤no):In no (xK z tl):=fun x hx=>by
 unfold xK at hx;rcases zo.mp hx with hx | hx
 ·rw [List.eq_of_mem_replicate hx]; omega
 ·exact h x hx
def M0 (no:Int) (e:D):Prop:=∃ q st,e=.tup [.int q,st]∧0≤q∧q<no
theorem LY {W n:Nat} {kn z:Nat} {tl:List Int} (ho:HouseOk no ba oc fs) (hm:iO fs=(m:Int)) (hk:no=(kn:Int)) (hrs:ps.map (·.1)=rs) (hp:∀ p∈ps,RX no ba oc fs rs m p) (hz:z≤100) (ht:tl.length≤1000) (hx:In no tl) :
  ∃ es:List D,run T W (n+5) "L_ways" [.sh (aA no ba oc fs rs),.sh (rO z tl)]=some (.ok (.ow (.lst es)),[.sh (aA no ba oc fs rs),.sh (rO z tl)])∧es.length≤7∧∀ e∈es,M0 no e:=by
 rw [bI B7 rfl rfl];unfold nL;have n1:=ho.n1;have n2:=ho.n2;have hi:∀ {ρ:Env},aH .rng [.val (.sh (.int no))] ρ=some ((List.range kn).map fun (j:Nat)=>.int (j:Int),none):=fun {ρ}=>by rw [hk]; exact sR (by omega)
 have i0:eX (some (aA no ba oc fs rs)) (.int 0)=some (.sh (.int no)):=rfl;have h1:=yG (W:=W) (n:=n+3) hz ht;have hxl:=ZK (z:=z) hx n1;have hlen:(xK z tl).length≤1100:=by rw [SS]; omega
 generalize xK z tl=ys at *
 obtain ⟨ρ',e,es,t3,t4,rfl,_,_,hes,hw⟩:=cT (bind:=a8 true [3]) (body:=exs T.pins (run T W (n+4)) W n0)
  (fun pre ρ=>∃ es t3 t4,ρ=[.sh (aA no ba oc fs rs),.sh (rO z tl),.ow (.lst es) false false,t3,t4]∧bM t3=true∧bM t4=true∧es.length≤pre.length∧∀ e∈es,M0 no e)
  (ds:=(List.range kn).map fun (j:Nat)=>.int (j:Int)) (fun pre d post hds ρ hρ=>by
   obtain ⟨es,t3,t4,rfl,h3,h4,hes,hw⟩:=hρ;obtain ⟨rfl,hj⟩:=xP hds;refine ⟨_,by simp only [eO,bB h3] <;> rfl, ?_⟩
   have hc:dA .Add (.lst (ys.map D.int)) (.lst [.int (pre.length:Int)])=some (.ow (.lst ((ys ++ [(pre.length:Int)]).map D.int))):=by
    rw [vT (fU (by simp; omega)),cD]
   have hq:0≤(pre.length:Int)∧(pre.length:Int)<no:=by omega
   have hfr:=zY (W:=W) (n:=n) (xs:=ys) (q:=(pre.length:Int)) hrs hp (hxl.app (In.one hq));have hst:=fJ (W:=W) (n:=n+2) (rs:=rs) (xs:=ys ++ [(pre.length:Int)]) ho hm;have hsm:aK (es.length+1)=true:=bF (by omega);rw [Za,Zg]
   generalize hqq:(pre.length:Int)=q at *
   generalize cV m ba (ys ++ [q])=sd at *
   generalize ys ++ [q]=ws at *
   generalize o9 ps ys q=b at *
   unfold n0
   cases b with
   | true =>
    refine ⟨[.sh (aA no ba oc fs rs),.sh (rO z tl),.ow (.lst (es ++ [.tup [.int q,sd]])) false false,.sh (.int q),.ow (.lst (ws.map D.int)) false false], ?_,_,_,_,rfl,rfl,rfl,by rw [Za,Zg]; omega,fun e he=>(zo.mp he).elim (hw e) fun he=>⟨q,sd,ze.mp he,hq.1,hq.2⟩⟩;clear hp hrs hx hxl hlen ho hm hk hz ht hds hj hes hw h3 n1 n2 hi i0 hqq hq
    walk_at "!%"
   | false =>
    refine ⟨[.sh (aA no ba oc fs rs),.sh (rO z tl),.ow (.lst es) false false,.sh (.int q),.ow (.lst (ws.map D.int)) false false], ?_,_,_,_,rfl,rfl,rfl,by omega,hw⟩;clear hp hrs hx hxl hlen ho hm hk hz ht hds hj hes hw h3 n1 n2 hi i0 hqq hq
    walk_at "!%")
  (ρ:=[.sh (aA no ba oc fs rs),.sh (rO z tl),.ow (.lst []) false false,.un,.un]) ⟨[],_,_,rfl,rfl,rfl,Zq _,fun e he=>nomatch he⟩
 rw [List.length_map,zp] at hes;refine ⟨es, ?_,by omega,hw⟩;clear hp hrs hx hxl hlen ho hm hk hz ht hes hw n1 n2
 walk_at "!%"
theorem D9 {W n:Nat} {kn:Nat} {k s:Int} (ho:HouseOk no ba oc fs) (hk:no=(kn:Int)) (hrs:ps.map (·.1)=rs) (hp:∀ p∈ps,RX no ba oc fs rs m p) :
  ∃ (s':Int) (xs:List Int),run T W (n+5) "L_sung" [.sh (aA no ba oc fs rs),.ow (.lst [.int k,.int s]) true false,.sh (.int 8)]=some (.ok (.ow (.lst (xs.map D.int))),[.sh (aA no ba oc fs rs),.ow (.lst [.int k,.int s']) true false,.sh (.int 8)])∧xs.length≤8∧In no xs:=by
 rw [bI BL rfl rfl];unfold mV;have n1:=ho.n1;have n2:=ho.n2;have i0:eX (some (aA no ba oc fs rs)) (.int 0)=some (.sh (.int no)):=rfl;have hi:∀ {ρ:Env},aH .rng [.val (.sh (.int no))] ρ=some ((List.range kn).map fun (j:Nat)=>.int (j:Int),none):=fun {ρ}=>by rw [hk]; exact sR (by omega)
 have v1:=bA (k:=k) (s:=s) (m:=9) (by decide);have v2:=bD (k:=k) (s:=s) (m:=9) (by decide);obtain ⟨c,hc⟩:∃ c:Nat,aP k s 9=(c:Int):=⟨(aP k s 9).toNat,by omega⟩
 have hi2:∀ {ρ:Env},aH .rng [.val (.sh (.int (c:Int)))] ρ=some ((List.range c).map fun (j:Nat)=>.int (j:Int),none):=fun {ρ}=>sR (by omega)
 obtain ⟨ρ',e,s6,xs,t4,t5,rfl,_,_,hl,hx⟩:=cT (bind:=a8 true [4]) (body:=exs T.pins (run T W (n+4)) W nZ)
  (fun pre ρ=>∃ s6 xs t4 t5,ρ=[.sh (aA no ba oc fs rs),.ow (.lst [.int k,.int s6]) true false,.sh (.int 8),.ow (.lst (xs.map D.int)) false false,t4,t5]∧bM t4=true∧bM t5=true∧xs.length≤pre.length∧In no xs)
  (ds:=(List.range c).map fun (j:Nat)=>.int (j:Int)) (fun pre d post hds ρ hρ=>by
   obtain ⟨s6,xs,t4,t5,rfl,h4,h5,hl,hx⟩:=hρ;obtain ⟨rfl,hj⟩:=xP hds;refine ⟨_,by simp only [eO,bB h4] <;> rfl, ?_⟩
   have hcat:∀ j:Nat,dA .Add (.lst (xs.map D.int)) (.lst [.int (j:Int)])=some (.ow (.lst ((xs ++ [(j:Int)]).map D.int))):=fun j=>by
    rw [vT (fU (by simp; omega)),cD]
   obtain ⟨ρi,e,t3,rfl,ht3⟩:=o6 (tests:=dY T.pins (run T W (n+4)) [.call "L_free" [.var 0,.bin .Add (.var 1) (.lst [.var 3])]]) (elt:=ev T.pins (run T W (n+4)) false nR) (bind:=a8 true [3]) (ds:=(List.range kn).map fun (j:Nat)=>.int (j:Int))
    (fun j=>o9 ps xs (j:Int)) (fun j=>.int (j:Int)) (fun ρ=>∃ t3,ρ=[.sh (aA no ba oc fs rs),.ow (.lst (xs.map D.int)) true false,.un,t3]∧bM t3=true)
    (fun j d hd ρ hρ=>by
     obtain ⟨t3,rfl,ht3⟩:=hρ
     have hj:j<kn:=by
      have:=(Zc.mp hd).1
      simpa using this
     have hd':d=.int (j:Int):=by
      rw [Zh,List.getElem?_range hj] at hd;exact (Option.some.inj hd).symm
     subst hd';have hc:=hcat j;have hfr:=zY (W:=W) (n:=n) (xs:=xs) (q:=(j:Int)) hrs hp (hx.app (In.one (by omega)));refine ⟨_,[.sh (aA no ba oc fs rs),.ow (.lst (xs.map D.int)) true false,.un,.sh (.int (j:Int))],by simp only [eO,bB ht3] <;> rfl, ?_,fun _=>⟨.sh (.int (j:Int)),[.sh (aA no ba oc fs rs),.ow (.lst (xs.map D.int)) true false,.un,.sh (.int (j:Int))], ?_,rfl,.sh (.int (j:Int)),rfl,rfl⟩,fun _=>⟨.sh (.int (j:Int)),rfl,rfl⟩⟩
     ·generalize xs ++ [(j:Int)]=zs at *
      clear hd hj hp hrs hx hk hi hi2 i0 hcat ho ht3 n1 n2 v1 v2 h4 h5 hl hds
      walk_at "!aI cD %"
     ·unfold nR;clear hd hj hp hrs hx hk hi hi2 i0 hcat ho ht3 n1 n2 v1 v2 h4 h5 hl hds hc hfr
      walk_at "!aI cD %")
    [.sh (aA no ba oc fs rs),.ow (.lst (xs.map D.int)) true false,.un,.un] ⟨_,rfl,rfl⟩
   rw [List.length_map,zp,XZ] at e;have hFl:(sO kn (o9 ps xs)).length≤7:=Zr P0 (by omega);have hFi:In no (sO kn (o9 ps xs)):=fun x hx=>by rw [hk]; exact T3 hx
   generalize sO kn (o9 ps xs)=F at *
   have hsm:aK F.length=true:=bF (by omega);have hsm3:aK (xs.length+1)=true:=bF (by omega);have hne:=RA (MB F);rw [Za,Zg]
   generalize (pre.length:Int)=pl at *
   unfold nZ
   cases F with
   | nil =>
    refine ⟨[.sh (aA no ba oc fs rs),.ow (.lst [.int k,.int s6]) true false,.sh (.int 8),.ow (.lst (xs.map D.int)) false false,.sh (.int pl),.ow (.lst []) false false], ?_,s6,xs,_,_,rfl,rfl,rfl,by omega,hx⟩;have hne0:bX .NotEq (.lst []) (.lst [])=some false:=hne;clear hp hrs hx hk hcat ho ht3 n1 n2 v1 v2 h4 hl hds hFl hFi hj hne
    walk_at "!aI cD %"
    rw [eF hi]
    walk_at "!aI cD %"
    all_goals (first | done | (rw [mS rfl]; walk_at "!aI cD %"))
   | cons f F =>
    have g1:0<((f :: F).length:Int):=by rw [Zk]; omega
    have g2:((f :: F).length:Int)<100000000000000000000000000000000000000000000000000000000000000000000000000000000:=by omega
    obtain ⟨q,hix,hq0⟩:=WZ (F:=f :: F) (bA (k:=k) (s:=s6) g1) (bD (k:=k) (s:=s6) g1);have hq:=hFi q hq0;clear hq0;have hne':bX .NotEq (.lst ((f :: F).map D.int)) (.lst [])=some true:=hne;clear hne
    generalize f :: F=F at *
    refine ⟨[.sh (aA no ba oc fs rs),.ow (.lst [.int k,.int (aF k s6 F.length)]) true false,.sh (.int 8),.ow (.lst ((xs ++ [q]).map D.int)) false false,.sh (.int pl),.ow (.lst (F.map D.int)) false false], ?_,_,xs ++ [q],_,_,rfl,rfl,rfl,by rw [Za,Zg]; omega,hx.app (In.one hq)⟩;clear hp hrs hx hk hcat ho ht3 n1 n2 v1 v2 h4 hl hds hFl hFi hj hq
    walk_at "!aI cD %"
    rw [eF hi]
    walk_at "!aI cD %"
    all_goals (first | done | (rw [mS rfl]; walk_at "!aI cD %")))
  (ρ:=[.sh (aA no ba oc fs rs),.ow (.lst [.int k,.int (aF k s 9)]) true false,.sh (.int 8),.ow (.lst []) false false,.un,.un]) ⟨_,[],_,_,rfl,rfl,rfl,Zq _,In.nil⟩
 rw [List.length_map,zp] at hl;refine ⟨s6,xs, ?_,by omega,hx⟩;have h8:(8:Int)+1=9:=rfl;clear hp hrs hx hk ho n1 n2 v1 v2 hl hi
 walk_at "!aI cD %"
end
theorem l4 {P:aQ} {C:Calls} {W:Nat} {ρ':Env}:∀ {j:Nat} {l:List S} {ρ:Env},exs P C W (l.take j) ρ=some (.nx,ρ')→exs P C W l ρ=exs P C W (l.drop j) ρ'
 | 0,l,ρ,h=>by
  rw [List.take_zero,yD] at h;cases h; rfl
 | j+1,[],ρ,h=>by
  rw [List.take_nil,yD] at h;cases h; rfl
 | j+1,s :: l,ρ,h=>by
  rw [List.take_succ_cons,dZ] at h;rw [dZ,List.drop_succ_cons]
  generalize ex P C W s ρ=r at *
  obtain _ | ⟨fl,ρ1⟩:=r
  ·cases h
  ·cases fl with
   | nx=>exact l4 (j:=j) h
   | _=>cases h
theorem JB {kvs:List ((Int × List Int) × Int)} {k:Int × List Int} {v:Int} (h:gW kvs k=some v):∃ p∈kvs,p.2=v:=by
 unfold gW at h
 cases q:kvs.find? fun p=>decide (p.1=k) with
 | none=>rw [q] at h; cases h
 | some p=>rw [q] at h; exact ⟨p,List.mem_of_find?_eq_some q,Option.some.inj h⟩
theorem MQ {kvs:List ((Int × List Int) × Int)} {k:Int × List Int} {v:Int} (hv:0≤v) (h:∀ p∈kvs,0≤p.2):∀ p∈nP kvs k v,0≤p.2:=by
 unfold nP;split
 ·intro p hp;obtain ⟨p',h1,rfl⟩:=zl.mp hp;split
  ·exact hv
  ·exact h p' h1
 ·intro p hp;rcases zo.mp hp with hp | hp
  ·exact h p hp
  ·rw [ze.mp hp]; exact hv
theorem N3 {kvs:List ((Int × List Int) × Int)} {k:Int × List Int} {v:Int}:(nP kvs k v).length≤kvs.length+1:=by
 unfold nP;split
 ·rw [List.length_map]; omega
 ·rw [Za,Zg]; omega
section
variable {no ba oc:Int} {fs:List (Int × Int × Bool)} {rs:List D} {m:Nat} {ps:List RP}
theorem HV {W n:Nat} {es:List D} (hw:∀ e∈es,M0 no e):∃ (S:List Int) (ρi:Env),fZ (dY T.pins (run T W n) []) (ev T.pins (run T W n) false i8) (a8 false [1,2]) es [] [.un,.un,.un]=some (.ok (S.map D.int),ρi)∧S.length=es.length∧In no S:=by
 obtain ⟨acc,ρi,e,⟨S,t1,t2,rfl,ht1,ht2,rfl,hl,hS⟩,_⟩:=fM (tests:=dY T.pins (run T W n) []) (elt:=ev T.pins (run T W n) false i8) (bind:=a8 false [1,2]) (ds:=es)
  (fun j acc ρ=>∃ (S:List Int) (t1 t2:Sl),ρ=[.un,t1,t2]∧bM t1=true∧bM t2=true∧acc=S.map D.int∧S.length=j∧In no S)
  (fun j d hd acc ρ hρ=>by
   obtain ⟨S,t1,t2,rfl,ht1,ht2,rfl,hl,hS⟩:=hρ;obtain ⟨q,st,rfl,hq⟩:=hw d (zj hd);refine ⟨_,true,_,by simp only [eO,bB ht1,bB ht2] <;> rfl,iA,fun _=>?_,fun z=>nomatch z⟩;refine ⟨.sh (.int q),[.un,.sh (.int q),.sh st], ?_,S ++ [q],_,_,rfl,rfl,rfl,by simp [RV.d],by rw [Za,Zg,hl],hS.app (In.one hq)⟩;unfold i8;clear hd hS ht1 ht2 hl hw hq
   walk_at "!%")
  [] [.un,.un,.un] ⟨[],_,_,rfl,rfl,rfl,rfl,rfl,In.nil⟩
 exact ⟨S,_,e,hl,hS⟩
theorem EF {W n:Nat} {kn:Nat} {k s:Int} {xs:List Int} (ho:HouseOk no ba oc fs) (hm:iO fs=(m:Int)) (h3:3≤m) (h5:m≤5) (hk:no=(kn:Int)) (hrs:ps.map (·.1)=rs) (hp:∀ p∈ps,RX no ba oc fs rs m p) (lx:xs.length≤8) (hx:In no xs) :
  ∃ (s':Int) (ys zs:List Int),run T W (n+6) "L_wander" [.sh (aA no ba oc fs rs),.ow (.lst (xs.map D.int)) true false,.ow (.lst [.int k,.int s]) true false]=some (.ok (.ow (.lst [.lst (ys.map D.int),.lst (zs.map D.int)])),[.sh (aA no ba oc fs rs),.ow (.lst (xs.map D.int)) true false,.ow (.lst [.int k,.int s']) true false])∧In no ys∧In no zs∧ys.length+zs.length≤60:=by
 rw [bI wK rfl rfl];unfold kT;have n1:=ho.n1;have n2:=ho.n2;have i0:eX (some (aA no ba oc fs rs)) (.int 0)=some (.sh (.int no)):=rfl;have hlr:tR [.int no]=some (.ow (.lst (((List.range kn).map fun (k:Nat)=>(k:Int)).map D.int))):=by rw [hk]; exact lr1 (by omega)
 have hstD:∀ ws:List Int,∃ (t:Int) (tl:List Int),cV m ba ws=.tup [.int t,.tup (tl.map D.int)]:=fun ws=>⟨_,_,rfl⟩
 have hi:∀ {ρ:Env},aH .rng [.val (.sh (.int 60))] ρ=some ((List.range 60).map fun (j:Nat)=>.int (j:Int),none):=fun {ρ}=>sR (k:=60) (by omega)
 have hst0:=fJ (W:=W) (n:=n+3) (rs:=rs) (xs:=xs) ho hm;obtain ⟨t0,tl0,h0⟩:=hstD xs;rw [h0] at hst0
 obtain ⟨ρ',hor⟩:=CZ (bind:=a8 true [5]) (body:=exs T.pins (run T W (n+5)) W cR)
  (fun v ρ=>∃ (s':Int) (ys zs:List Int) (t3 t4 t5 t6 t7:Sl),v=.ow (.lst [.lst (ys.map D.int),.lst (zs.map D.int)])∧ρ=[.sh (aA no ba oc fs rs),.ow (.lst (xs.map D.int)) true false,.ow (.lst [.int k,.int s']) true false,t3,t4,t5,t6,t7,.un]∧In no ys∧In no zs∧ys.length+zs.length≤60)
  ((List.range 60).map fun (j:Nat)=>.int (j:Int)) 0
  (fun i ρ=>∃ (s6:Int) (kvs:List ((Int × List Int) × Int)) (ns:List Int) (t5 t6 t7:Sl),ρ=[.sh (aA no ba oc fs rs),.ow (.lst (xs.map D.int)) true false,.ow (.lst [.int k,.int s6]) true false,.ow (.dcs kvs) false false,.ow (.lst (ns.map D.int)) false false,t5,t6,t7,.un]∧bM t5=true∧bM t6=true∧bM t7=true∧kvs.length≤i+1∧(∀ p∈kvs,0≤p.2)∧ns.length=i∧In no ns)
  (fun d i ρ hj hρ=>by
   obtain ⟨s6,kvs,ns,t5,t6,t7,rfl,h5',h6,h7,hkl,hkv,hnl,hns⟩:=hρ;rw [List.length_map,zp,Nat.zero_add] at hj;refine ⟨_,by simp only [rQ,IU,zr,List.getElem?_cons_succ,bB h5',List.set_cons_zero,List.set_cons_succ] <;> rfl, ?_⟩;have c1:=dB (xs:=xs) (ys:=ns) (by omega);have st1:=fJ (W:=W) (n:=n+3) (rs:=rs) (xs:=xs ++ ns) ho hm;obtain ⟨z,tl,hsd,hz,htl,hin⟩:=M4 (xs:=xs ++ ns) ho h3 h5;rw [hsd] at st1;obtain ⟨es,hws,hel,hw⟩:=LY (W:=W) (n:=n) ho hm hk hrs hp hz htl (fun x hx'=>(hx.app hns) x (hin x hx'));obtain ⟨S,ρi,hcp,hSl,hS⟩:=HV (W:=W) (n:=n+5) hw;have hit:∀ {ρ:Env},aH .of [.val (.ow (.lst es))] ρ=some (es,none):=tG rfl
   have hsm:aK S.length=true:=bF (by omega);have hsm1:aK (ns.length+1)=true:=bF (by omega);have hsm2:aK (kvs.length+1)=true:=bF (by omega)
   obtain ⟨F,hF,hFl,hFi,hFS⟩:∃ F:List Int,0<F.length∧F.length≤7∧In no F∧(S.isEmpty=false∧F=S∨S.isEmpty=true∧F=(List.range kn).map fun (k:Nat)=>(k:Int)):=by
    cases S with
    | nil =>
     refine ⟨_, ?_, ?_,fun x hx'=>?_,.inr ⟨rfl,rfl⟩⟩
     ·rw [List.length_map,zp]; omega
     ·rw [List.length_map,zp]; omega
     ·obtain ⟨j,hj',rfl⟩:=zl.mp hx'
      have:=List.mem_range.mp hj'
      omega
    | cons a S=>exact ⟨a :: S,by rw [Zk]; omega,by omega,hS,.inl ⟨rfl,rfl⟩⟩
   have g1:0<(F.length:Int):=by omega
   have g2:(F.length:Int)<100000000000000000000000000000000000000000000000000000000000000000000000000000000:=by omega
   obtain ⟨q,hix,hq0⟩:=WZ (F:=F) (bA (k:=k) (s:=s6) g1) (bD (k:=k) (s:=s6) g1);have hq:=hFi q hq0;have c2:=dB (xs:=xs) (ys:=ns ++ [q]) (by rw [Za,Zg]; omega);have st2:=fJ (W:=W) (n:=n+3) (rs:=rs) (xs:=xs ++ (ns ++ [q])) ho hm;obtain ⟨t,tl2,hsd2⟩:=hstD (xs ++ (ns ++ [q]));rw [hsd2] at st2;have hSe:=HL (xs:=S);have hnl2:(ns ++ [q]).length=i+1:=by rw [Za,Zg,hnl]
   have hns2:=hns.app (In.one hq);have hin2:=j7 (kvs:=kvs) (t:=t) (ns:=tl2)
   generalize xs ++ (ns ++ [q])=w2 at *
   generalize xs ++ ns=w1 at *
   have hA:exs T.pins (run T W (n+5)) W (cR.take 1) [.sh (aA no ba oc fs rs),.ow (.lst (xs.map D.int)) true false,.ow (.lst [.int k,.int s6]) true false,.ow (.dcs kvs) false false,.ow (.lst (ns.map D.int)) false false,.sh d,t6,t7,.un]=some (.nx,[.sh (aA no ba oc fs rs),.ow (.lst (xs.map D.int)) true false,.ow (.lst [.int k,.int s6]) true false,.ow (.dcs kvs) false false,.ow (.lst (ns.map D.int)) false false,.sh d,.ow (.lst (S.map D.int)) false false,t7,.un]):=by
    unfold cR;clear hp hrs hx hk ho hm h3 h5 n1 n2 hkl hkv hns hj hnl lx hsd hin hz htl hel hw hS hSl hF hFl hFi hq hq0 hnl2 hns2 hsd2 hstD h0 hst0 h5' hlr hFS hSe hin2 st2 c2 hix i0 hi g1 g2 hsm1 hsm2
    walk_at "!aI cD gC j7 kS d8 dS %"
    rw [eF hit]
    walk_at "!aI cD gC j7 kS d8 dS %"
    all_goals (first | done | (rw [mS rfl]; walk_at "!aI cD gC j7 kS d8 dS %"))
   have hB:exs T.pins (run T W (n+5)) W ((cR.drop 1).take 1) [.sh (aA no ba oc fs rs),.ow (.lst (xs.map D.int)) true false,.ow (.lst [.int k,.int s6]) true false,.ow (.dcs kvs) false false,.ow (.lst (ns.map D.int)) false false,.sh d,.ow (.lst (S.map D.int)) false false,t7,.un]=some (.nx,[.sh (aA no ba oc fs rs),.ow (.lst (xs.map D.int)) true false,.ow (.lst [.int k,.int s6]) true false,.ow (.dcs kvs) false false,.ow (.lst (ns.map D.int)) false false,.sh d,.ow (.lst (F.map D.int)) false false,t7,.un]):=by
    unfold cR;clear hp hrs hx hk ho hm h3 h5 n1 n2 hkl hkv hns hj hnl lx hsd hin hz htl hel hw hS hSl hF hFl hFi hq hq0 hnl2 hns2 hsd2 hstD h0 hst0 h5' hin2 st1 st2 c1 c2 hix hi g1 g2 hsm hsm1 hsm2 hws hcp hit hA;rcases hFS with ⟨hse,rfl⟩ | ⟨hse,hFe⟩
    ·rw [hse] at hSe
     walk_at "!aI cD gC j7 kS d8 dS %"
    ·rw [hse] at hSe;rw [← hFe] at hlr;clear hFe
     walk_at "!aI cD gC j7 kS d8 dS %"
   have hC:exs T.pins (run T W (n+5)) W (((cR.drop 1).drop 1).take 2) [.sh (aA no ba oc fs rs),.ow (.lst (xs.map D.int)) true false,.ow (.lst [.int k,.int s6]) true false,.ow (.dcs kvs) false false,.ow (.lst (ns.map D.int)) false false,.sh d,.ow (.lst (F.map D.int)) false false,t7,.un]=some (.nx,[.sh (aA no ba oc fs rs),.ow (.lst (xs.map D.int)) true false,.ow (.lst [.int k,.int (aF k s6 F.length)]) true false,.ow (.dcs kvs) false false,.ow (.lst ((ns ++ [q]).map D.int)) false false,.sh d,.ow (.lst (F.map D.int)) false false,.sh (.tup [.int t,.tup (tl2.map D.int)]),.un]):=by
    unfold cR;clear hp hrs hx hk ho hm h3 h5 n1 n2 hkl hkv hns hj hnl lx hsd hin hz htl hel hw hS hSl hF hFl hFi hq hq0 hnl2 hns2 hsd2 hstD h0 hst0 h5' hlr hFS hSe hin2 st1 c1 i0 hi hsm hsm2 hws hcp hit hA hB
    walk_at "!aI cD gC j7 kS d8 dS %"
   rw [l4 hA,l4 hB,l4 hC];clear hA hB hC;unfold cR
   cases hlk:gW kvs (t,tl2) with
   | none =>
    rw [hlk] at hin2;have hin3:bX .In (.tup [.int t,.tup (tl2.map D.int)]) (.dcs kvs)=some false:=hin2;have hpl:=N3 (kvs:=kvs) (k:=(t,tl2)) (v:=((ns ++ [q]).length:Int));have hpm:=MQ (kvs:=kvs) (k:=(t,tl2)) (v:=((ns ++ [q]).length:Int)) (by omega) hkv;refine ⟨[.sh (aA no ba oc fs rs),.ow (.lst (xs.map D.int)) true false,.ow (.lst [.int k,.int (aF k s6 F.length)]) true false,.ow (.dcs (nP kvs (t,tl2) ((ns ++ [q]).length:Int))) false false,.ow (.lst ((ns ++ [q]).map D.int)) false false,.sh d,.ow (.lst (F.map D.int)) false false,.sh (.tup [.int t,.tup (tl2.map D.int)]),.un],.inl ⟨?_,_,_,ns ++ [q],_,_,_,rfl,rfl,rfl,rfl,by omega,hpm,hnl2,hns2⟩⟩;clear hp hrs hx hk ho hm h3 h5 n1 n2 hkl hkv hns hj hnl lx hsd hin hz htl hel hw hS hSl hF hFl hFi hq hq0 hlk hin2 hpl hpm hnl2 hns2 hsd2 hstD h0 hst0 h5' hlr hFS hSe st1 st2 c1 c2 hix i0 hi hsm hws hcp hit g1 g2
    walk_at "!aI cD gC j7 kS d8 dS %"
   | some v =>
    rw [hlk] at hin2;have hin3:bX .In (.tup [.int t,.tup (tl2.map D.int)]) (.dcs kvs)=some true:=hin2;have hixs:=aBk hlk;obtain ⟨p,hp1,hp2⟩:=JB hlk;have hv0:=hkv p hp1;rw [hp2] at hv0;obtain ⟨c,rfl⟩:∃ c:Nat,v=(c:Int):=⟨v.toNat,by omega⟩
    refine ⟨[.sh (aA no ba oc fs rs),.ow (.lst (xs.map D.int)) true false,.ow (.lst [.int k,.int (aF k s6 F.length)]) true false,.ow (.dcs kvs) false false,.ow (.lst ((ns ++ [q]).map D.int)) false false,.sh d,.ow (.lst (F.map D.int)) false false,.sh (.tup [.int t,.tup (tl2.map D.int)]),.un],.inr ⟨.ow (.lst [.lst (((ns ++ [q]).take c).map D.int),.lst (((ns ++ [q]).drop c).map D.int)]), ?_,_,(ns ++ [q]).take c,(ns ++ [q]).drop c,_,_,_,_,_,rfl,rfl,hns2.take,hns2.drop,by rw [← Za,List.take_append_drop]; omega⟩⟩;clear hp hrs hx hk ho hm h3 h5 n1 n2 hkl hkv hns hj hnl lx hsd hin hz htl hel hw hS hSl hF hFl hFi hq hq0 hlk hin2 hnl2 hns2 hsd2 hstD h0 hst0 h5' hp1 hp2 hv0 hlr hFS hSe st1 st2 c1 c2 hix i0 hi hsm hws hcp hit g1 g2
    walk_at "!aI cD gC j7 kS d8 dS %")
  [.sh (aA no ba oc fs rs),.ow (.lst (xs.map D.int)) true false,.ow (.lst [.int k,.int s]) true false,.ow (.dcs [((t0,tl0),0)]) false false,.ow (.lst []) false false,.un,.un,.un,.un] ⟨s,[((t0,tl0),0)],[],_,_,_,rfl,rfl,rfl,rfl,by simp,fun p hp=>by rw [ze.mp hp]; exact Int.le_refl 0,rfl,In.nil⟩
 rcases hor with ⟨e,s6,kvs,ns,t5,t6,t7,rfl,h5',h6,h7,hkl,hkv,hnl,hns⟩ | ⟨v,e,s6,ys,zs,t3,t4,t5,t6,t7,rfl,rfl,hy,hz,hyz⟩
 ·rw [List.length_map,zp] at hnl;have a1:=bA (k:=k) (s:=s6) (m:=61) (by decide);obtain ⟨c,hc⟩:∃ c:Nat,aP k s6 61=(c:Int):=⟨(aP k s6 61).toNat,by omega⟩
  refine ⟨aF k s6 61,ns.take c,ns.drop c, ?_,hns.take,hns.drop,by rw [← Za,List.take_append_drop]; omega⟩;clear hp hrs hx hk ho hm h3 h5 n1 n2 hkl hkv hns hnl lx hstD h0 a1 hlr i0 h5' h6 h7
  walk_at "!aI cD gC j7 kS d8 dS %"
 ·refine ⟨s6,ys,zs, ?_,hy,hz,hyz⟩;clear hp hrs hx hk ho hm h3 h5 n1 n2 lx hstD h0 hlr i0 hy hz hyz
  walk_at "!aI cD gC j7 kS d8 dS %"
end
theorem law_spec (W:Nat) (ns:List Int) (hn:ns.length≤63):∃ as',run T W 30 "law" [.sh (.lst (ns.map .int))]=some (.ok (.sh (.bl true)),as'):=by
 rw [bI GS rfl rfl];have pe1:=pA (W:=W) (n:=28) (ns:=ns) (k:=1) hn (by decide);have pe2:=pA (W:=W) (n:=28) (ns:=ns) (k:=2) hn (by decide);have pe3:=pA (W:=W) (n:=28) (ns:=ns) (k:=3) hn (by decide);obtain ⟨sh,no,ba,oc,fs,rs,eh,ho,hr8,hR⟩:=IP (W:=W) (n:=26) (k:=(eP ns 1).1) (s:=(eP ns 1).2);have hhD:D.tup [.int no,.int ba,.int oc,.tup (fs.map cM),.tup rs]=aA no ba oc fs rs:=rfl;rw [hhD] at eh;rw [show ((1:Nat):Int)=1 from rfl] at pe1;rw [show ((2:Nat):Int)=2 from rfl] at pe2;rw [show ((3:Nat):Int)=3 from rfl] at pe3
 generalize (eP ns 1).1=a1 at *
 generalize (eP ns 1).2=a2 at *
 generalize (eP ns 2).1=b1 at *
 generalize (eP ns 2).2=b2 at *
 generalize (eP ns 3).1=c1 at *
 generalize (eP ns 3).2=c2 at *
 have n1:=ho.n1;have n2:=ho.n2;obtain ⟨kn,hkn⟩:∃ kn:Nat,no=(kn:Int):=⟨no.toNat,by omega⟩
 obtain ⟨m,hm,m3,m5⟩:=Y7 ho;obtain ⟨ps,hps,hrx⟩:=JR (rs:=rs) (m:=m) ho rs hR;have g3:0<no:=by omega
 have g4:no<100000000000000000000000000000000000000000000000000000000000000000000000000000000:=by omega
 have i0:eX (some (aA no ba oc fs rs)) (.int 0)=some (.sh (.int no)):=rfl;obtain ⟨sa,xa,ea,la,ha⟩:=D9 (W:=W) (n:=24) (k:=b1) (s:=b2) ho hkn hps hrx;obtain ⟨sb,xb,eb,lb,hb⟩:=J0 (W:=W) (n:=27) (k:=b1) (s:=aF b1 sa 6) (no:=no) (mo:=8) g3 g4 (by decide) (by decide)
 have hA:exs T.pins (run T W 29) W (i3.body.take 3) ([.sh (.lst (ns.map .int))] ++ List.replicate i3.nl .un)=some (.nx,[.sh (.lst (ns.map .int)),.sh (aA no ba oc fs rs),.ow (.lst [.int b1,.int sa]) false false,.ow (.lst (xa.map D.int)) false false,.un,.un,.un,.un,.un]):=by
  unfold i3;clear ho hr8 hR n1 n2 hkn hm m3 m5 hps hrx la lb ha hb hhD hn g3 g4 i0 eb pe3
  walk_at "!aI %"
 obtain ⟨xs,s0,hB,lx,hx⟩:∃ (xs:List Int) (s0:Int),exs T.pins (run T W 29) W ((i3.body.drop 3).take 1) [.sh (.lst (ns.map .int)),.sh (aA no ba oc fs rs),.ow (.lst [.int b1,.int sa]) false false,.ow (.lst (xa.map D.int)) false false,.un,.un,.un,.un,.un]=some (.nx,[.sh (.lst (ns.map .int)),.sh (aA no ba oc fs rs),.ow (.lst [.int b1,.int s0]) false false,.ow (.lst (xs.map D.int)) false false,.un,.un,.un,.un,.un])∧xs.length≤8∧In no xs:=by
  unfold i3;by_cases c:aP b1 sa 6=0
  ·refine ⟨xb,sb, ?_,by omega,hb⟩;have c':decide (aP b1 sa 6=0)=true:=Zn c;clear c hA ho hr8 hR n1 n2 hkn hm m3 m5 hps hrx la lb ha hb hhD hn pe1 pe2 pe3 ea eh g3 g4
   walk_at "!aI %"
  ·refine ⟨xa,aF b1 sa 6, ?_,la,ha⟩;have c':decide (aP b1 sa 6=0)=false:=Zm c;clear c hA ho hr8 hR n1 n2 hkn hm m3 m5 hps hrx la lb ha hb hhD hn pe1 pe2 pe3 ea eb eh g3 g4
   walk_at "!aI %"
 rw [l4 hA,l4 hB];clear hA hB ea eb eh la lb ha hb pe1 pe2 g3 g4 i0 xa xb sa sb;obtain ⟨s1,ys,zs,e1,hy,hz,hyz⟩:=EF (W:=W) (n:=23) (k:=c1) (s:=c2) ho hm m3 m5 hkn hps hrx lx hx;have e0:=wF (W:=W) (n:=20) ho hm m3 hps hrx hr8 ((hx.app hy).app hz) (by omega)
 obtain ⟨ρ',el,t6,t7,t8,rfl,_⟩:=MD (bind:=a8 true [6]) (body:=exs T.pins (run T W 29) W vI)
  (fun ρ=>∃ t6 t7 t8,ρ=[.sh (.lst (ns.map .int)),.sh (aA no ba oc fs rs),.ow (.lst [.int b1,.int s0]) false false,.sh (.lst (xs.map D.int)),.sh (.lst (ys.map D.int)),.sh (.lst (zs.map D.int)),t6,t7,t8]∧bM t6=true∧bM t7=true∧bM t8=true)
  (ds:=(List.range 4).map fun (j:Nat)=>.int (j:Int)) (fun d hd ρ hρ=>by
   obtain ⟨t6,t7,t8,rfl,h6,h7,h8⟩:=hρ;obtain ⟨k,hk,rfl⟩:=zl.mp hd;have hk:k<4:=List.mem_range.mp hk;refine ⟨_,by simp only [eO,bB h6] <;> rfl, ?_⟩;have pek:=pA (W:=W) (n:=28) (ns:=ns) (k:=4+k) hn (by omega);rw [show ((4+k:Nat):Int)=4+(k:Int) by omega] at pek;obtain ⟨s2,us,vs,e2,hu,hv,huv⟩:=EH (W:=W) (n:=27) (rs:=rs) (k:=(eP ns (4+k)).1) (s:=(eP ns (4+k)).2) ho hy hz hyz
   generalize (eP ns (4+k)).1=d1 at *
   generalize (eP ns (4+k)).2=d2 at *
   have e3:=wF (W:=W) (n:=20) (xs:=xs) ho hm m3 hps hrx hr8 ((hx.app hu).app hv) (by omega);refine ⟨[.sh (.lst (ns.map .int)),.sh (aA no ba oc fs rs),.ow (.lst [.int b1,.int s0]) false false,.sh (.lst (xs.map D.int)),.sh (.lst (ys.map D.int)),.sh (.lst (zs.map D.int)),.sh (.int (k:Int)),.sh (.lst (us.map D.int)),.sh (.lst (vs.map D.int))], ?_,_,_,_,rfl,rfl,rfl,rfl⟩;unfold vI;clear hd hk ho hr8 hR n1 n2 hkn hm m3 m5 hps hrx lx hx hy hz hyz hu hv huv h6 e0 e1 pe3 hhD hn
   walk_at "!aI %")
  (ρ:=[.sh (.lst (ns.map .int)),.sh (aA no ba oc fs rs),.ow (.lst [.int b1,.int s0]) false false,.sh (.lst (xs.map D.int)),.sh (.lst (ys.map D.int)),.sh (.lst (zs.map D.int)),.un,.un,.un]) ⟨_,_,_,rfl,rfl,rfl,rfl⟩
 have hi:∀ {ρ:Env},aH .rng [.val (.sh (.int 4))] ρ=some ((List.range 4).map fun (j:Nat)=>.int (j:Int),none):=fun {ρ}=>sR (k:=4) (by decide)
 unfold i3;clear ho hr8 hR n1 n2 hkn hm m3 m5 hps hrx lx hx hy hz hyz hhD hn
 walk_at "!aI %"
 exact ⟨_,rfl⟩
end Mx
namespace PySem.W.Fast
def tw10012524616945602928:=0
def tw10038590705261671268:=0
def tw10086950863358373759:=0
def tw1016639692555136187:=0
def tw10280353616970924447:=0
def tw1030422154251599990:=0
def tw10379641821744296511:=0
def tw1038404074749004380:=0
def tw10470567149938251640:=0
def tw10478925044406209774:=0
def tw10512848828783679996:=0
def tw10541124194515689048:=0
def tw10569608927507466898:=0
def tw10635093434506102858:=0
def tw10667273103222837594:=0
def tw10676341485758818473:=0
def tw10692943707594859277:=0
def tw10777105018886275774:=0
def tw10897255491987702380:=0
def tw10942502945868297508:=0
def tw10987843755001661707:=0
def tw10991823499516853204:=0
def tw11065352186596648620:=0
def tw11095312681517461841:=0
def tw11179902074300675146:=0
def tw11183072087291277782:=0
def tw11235370455136918521:=0
def tw11331136809514832751:=0
def tw11355660686871141970:=0
def tw11372587145151884926:=0
def tw11429526210411071976:=0
def tw11465523835778119663:=0
def tw11562068921369252998:=0
def tw11597758664893159947:=0
def tw11621432549567868571:=0
def tw11750275741833293968:=0
def tw11760808217960793928:=0
def tw11791467740935155911:=0
def tw11815813261457979443:=0
def tw11827937856362454853:=0
def tw11840075786009870283:=0
def tw11878778276438181921:=0
def tw11903536750891820559:=0
def tw11918927207585300487:=0
def tw12087056562441765171:=0
def tw12096563877339236908:=0
def tw12100905633996704122:=0
def tw12223785472611338741:=0
def tw1223483101638167682:=0
def tw12315995847645845298:=0
def tw12401034830691235996:=0
def tw12604650352528726500:=0
def tw12741943709807700164:=0
def tw127771992582123846:=0
def tw12980504912031638700:=0
def tw13030381986490556698:=0
def tw1311741559277023249:=0
def tw13290807533190039373:=0
def tw13305720689160347371:=0
def tw13339231578848814104:=0
def tw13427463371689466442:=0
def tw13503433133800441752:=0
def tw13540915803188314733:=0
def tw13588521850769311455:=0
def tw13590172737601155807:=0
def tw13597509181675870861:=0
def tw13636276926645145075:=0
def tw13669561492045532598:=0
def tw1370641312810797883:=0
def tw13778081435267945720:=0
def tw13782993836677782413:=0
def tw13820235740519665542:=0
def tw13863821635280452502:=0
def tw13878878116059550050:=0
def tw13965403754385103117:=0
def tw14172165307057559420:=0
def tw1421807667303721198:=0
def tw14264470105695822986:=0
def tw14531636425791056286:=0
def tw14534933568075458691:=0
def tw14555371368115369354:=0
def tw14651911950502932667:=0
def tw14692923048550982066:=0
def tw14795272544950623262:=0
def tw14807161179546432321:=0
def tw14836701385372613799:=0
def tw14837401056501011096:=0
def tw14839955985957136729:=0
def tw14849575072363257766:=0
def tw14885414947286222589:=0
def tw14892996788884190113:=0
def tw14903555585805572397:=0
def tw14936326944971613537:=0
def tw14987940625255377796:=0
def tw15179326936732179517:=0
def tw15218079834318189285:=0
def tw15274831173245343680:=0
def tw15311571183677620419:=0
def tw15368976912711645208:=0
def tw15395118996122248919:=0
def tw15445920122300800799:=0
def tw15484444445144979914:=0
def tw15496127794788145878:=0
def tw15502583729023831453:=0
def tw1561565423827303728:=0
def tw15628822127407907569:=0
def tw15673130655907814386:=0
def tw15713655487472450258:=0
def tw15729202993777330164:=0
def tw15767756910988181130:=0
def tw15772169111659540426:=0
def tw15780908410266861955:=0
def tw15800566214178744506:=0
def tw15933860640851628455:=0
def tw1600240561367051324:=0
def tw16011585925620909210:=0
def tw16017069539937077262:=0
def tw16026366904164009838:=0
def tw16102536525236185085:=0
def tw16111886641308796992:=0
def tw16247532496837636774:=0
def tw16275908289793188116:=0
def tw16385719101342208376:=0
def tw16408255785691022638:=0
def tw16492380140696595623:=0
def tw16492735494223414623:=0
def tw1664308777325804886:=0
def tw16671124694042824542:=0
def tw16711488747774483073:=0
def tw16821851703730808166:=0
def tw1687763467176250839:=0
def tw17069522589228482248:=0
def tw17170247464251524523:=0
def tw17210521174323734615:=0
def tw17273263663454371327:=0
def tw17430684325313025382:=0
def tw17446766539712786064:=0
def tw17517281796630960060:=0
def tw17585813565893668131:=0
def tw17631430795967026693:=0
def tw17774264604738560819:=0
def tw17857376752354091317:=0
def tw17935607387730022157:=0
def tw17936510004938500409:=0
def tw18050723762445172417:=0
def tw18170996281303602577:=0
def tw18225208835140814661:=0
def tw18225942197723869274:=0
def tw1823998968056880107:=0
def tw18248227112163771843:=0
def tw1834875363953144837:=0
def tw18400042614374106690:=0
def tw1843399259442354599:=0
def tw1850511323650322827:=0
def tw1862947126232969542:=0
def tw1881532360584871720:=0
def tw2077122793018120925:=0
def tw2102614504360862553:=0
def tw2184021774429029862:=0
def tw2191010519412208702:=0
def tw2211989176866342817:=0
def tw232067754266567931:=0
def tw2376125300205015209:=0
def tw2393470190212672981:=0
def tw2393515581207359344:=0
def tw2395010087463038454:=0
def tw2500795284546427098:=0
def tw2635938114974556027:=0
def tw2757815195301914740:=0
def tw279635026974224158:=0
def tw3026105603700122716:=0
def tw3461772127337033960:=0
def tw349808307745770791:=0
def tw3512472044380296328:=0
def tw356731318561378944:=0
def tw3623844853041662090:=0
def tw3689739046466233728:=0
def tw369726260531780429:=0
def tw375044469557790466:=0
def tw3804828032555337103:=0
def tw3826369829479505226:=0
def tw3834025078988171586:=0
def tw3861626083166044961:=0
def tw3975644849403761567:=0
def tw3998141534668914441:=0
def tw4025265662879892451:=0
def tw4038353092861104882:=0
def tw404700235817544509:=0
def tw4048502036688243828:=0
def tw4054424579116228624:=0
def tw407593675440817886:=0
def tw4098687929486078712:=0
def tw4201457060590507937:=0
def tw423831419793973751:=0
def tw4239374424491138787:=0
def tw425050480995599587:=0
def tw4266125490044838855:=0
def tw426684188150924072:=0
def tw4284443785817616574:=0
def tw4309217003779279068:=0
def tw4313489614379221218:=0
def tw4322111409847398059:=0
def tw4352520606657973868:=0
def tw4359793150404847605:=0
def tw436237107888012204:=0
def tw4467919670904747240:=0
def tw447958127540515853:=0
def tw4485598067815852265:=0
def tw4512723976658964086:=0
def tw4565654821050988603:=0
def tw4599495826185419141:=0
def tw4621303449553439172:=0
def tw4668291470225654498:=0
def tw4710531819266433140:=0
def tw4764942440539078545:=0
def tw4789672131979468556:=0
def tw4831432286490997232:=0
def tw4886958258621326066:=0
def tw4922044108183016297:=0
def tw5061903234777537258:=0
def tw5080045928589593278:=0
def tw5110000995686328141:=0
def tw5113929011312449738:=0
def tw5142532136571862749:=0
def tw5214266242290954258:=0
def tw5429608764544577109:=0
def tw5522976730965112927:=0
def tw5531737673543101532:=0
def tw5612686696862289180:=0
def tw573120658260627188:=0
def tw5757541110294894741:=0
def tw586529905775761475:=0
def tw5920670062192997421:=0
def tw609428596627209062:=0
def tw6108370917795578992:=0
def tw6167071746099095169:=0
def tw620262886201381827:=0
def tw6262046014821748648:=0
def tw6269488984001801611:=0
def tw6391746576455925348:=0
def tw6392999248654086426:=0
def tw6463426637152277205:=0
def tw658825513212087386:=0
def tw6676512700522206926:=0
def tw6736741798994327745:=0
def tw6797096431627653681:=0
def tw6811168046982058647:=0
def tw696212807759301602:=0
def tw7152917000879733008:=0
def tw7168538430193710098:=0
def tw7200684556891827522:=0
def tw724632347046115708:=0
def tw7283821045040179791:=0
def tw7302515821355543929:=0
def tw73481774445628579:=0
def tw7374197843357132204:=0
def tw7434821131577935543:=0
def tw7760766142497119361:=0
def tw7839734151177418977:=0
def tw7851001586739174109:=0
def tw7865061991010364660:=0
def tw7898236097068423082:=0
def tw7923114027650580285:=0
def tw7977242076898442579:=0
def tw8025278575212837712:=0
def tw8038855720017051208:=0
def tw8135972337459926485:=0
def tw8193937606080051308:=0
def tw8206906269109066899:=0
def tw8286564550711223106:=0
def tw8371115277161094677:=0
def tw837651967759895156:=0
def tw8392699643787637848:=0
def tw8455444984582514453:=0
def tw8583456990007970004:=0
def tw8605697300677936393:=0
def tw8622506158669720523:=0
def tw8622855931615744251:=0
def tw8726874252952070499:=0
def tw8727956703303774552:=0
def tw8769640828138222875:=0
def tw8857965489923768000:=0
def tw8882377951025577570:=0
def tw9044058001119487883:=0
def tw9066693322152731190:=0
def tw9111779397475501284:=0
def tw9128540769657591638:=0
def tw9187219758221235450:=0
def tw9191901281760391714:=0
def tw9224919166261840399:=0
def tw9229487453060410191:=0
def tw9333751637914075578:=0
def tw9372540922906182260:=0
def tw9374481505598810758:=0
def tw9392117048423244795:=0
def tw9459522994798074068:=0
def tw9461325238726302636:=0
def tw9493148229458064672:=0
def tw9600439246739984450:=0
def tw9657345265687459905:=0
def tw9708630918662302585:=0
def tw9752958385559322555:=0
def tw9780851488889682376:=0
def tw9781188710097156720:=0
def tw9816813406346873042:=0
def tw9824134999824022474:=0
def tw9829264458950743329:=0
def tw9923021816306588129:=0
def tw9962229790886556197:=0
end PySem.W.Fast
open PySem PySem.W PyProof.Rows
set_option maxRecDepth 100000 in
set_option maxHeartbeats 0 in
theorem PySem.Challenge.cw_canonwright_k36_notes_that_show_a_round_holds : PySem.Challenge.rw_canonwright_k36_notes_that_show_a_round.Holds := by
 w_on; o_law; k_head; (case hw=>w_witness2)
 k_fill
 refine CI.M3 (l:=PySem.Challenge.rw_canonwright_k36_notes_that_show_a_round) (T:=Tx.T) (L:=Tx.L) (st:=Tx.top 63) (fn:=Tx.i3) (W:=1000000) (n:=30) (x:="law") (p:="_law_script") (f:="law") rfl rfl ⟨rfl,by decide,by decide,rfl⟩ rfl Tx.GS Tx.JY (by decide +kernel) (fun w h Y=>PySem.W.kIn_of Y) ?factF ?mathM
 case mathM=>exact Mx.law_spec _
 case factF =>
  intro w mg h KX G
  have K_Span:CI.ClsAt (L2.aC KX) "Span":=by
   refine' CI.mB ?a ?pg ?hd ?po ?sa ?mk ?kp
   (case a | pg | hd | po | sa | mk | kp=>dsimp only [L2.aC]; k_is)
  have I_Span:CI.MthAt (L2.aC KX) "Span" "__init__" "Span.__init__" (Tx.eA 20 0):=by
   refine' CI.d5 ?a ?b ?i ?l ?c ?k
   (case a | b | i | l | c | k=>dsimp only [L2.aC]; k_is)
  have N_Span_beat:CI.jB (L2.aC KX) "Span" "beat":=by
   refine' CI.iI ?a ?b
   (case a | b=>dsimp only [L2.aC]; k_is)
  have N_Span_spans:CI.jB (L2.aC KX) "Span" "spans":=by
   refine' CI.iI ?a ?b
   (case a | b=>dsimp only [L2.aC]; k_is)
  have K_Leap:CI.ClsAt (L2.aC KX) "Leap":=by
   refine' CI.mB ?a ?pg ?hd ?po ?sa ?mk ?kp
   (case a | pg | hd | po | sa | mk | kp=>dsimp only [L2.aC]; k_is)
  have I_Leap:CI.MthAt (L2.aC KX) "Leap" "__init__" "Leap.__init__" (Tx.eA 21 0):=by
   refine' CI.d5 ?a ?b ?i ?l ?c ?k
   (case a | b | i | l | c | k=>dsimp only [L2.aC]; k_is)
  have N_Leap_most:CI.jB (L2.aC KX) "Leap" "most":=by
   refine' CI.iI ?a ?b
   (case a | b=>dsimp only [L2.aC]; k_is)
  have K_Back:CI.ClsAt (L2.aC KX) "Back":=by
   refine' CI.mB ?a ?pg ?hd ?po ?sa ?mk ?kp
   (case a | pg | hd | po | sa | mk | kp=>dsimp only [L2.aC]; k_is)
  have I_Back:CI.MthAt (L2.aC KX) "Back" "__init__" "Back.__init__" (Tx.eA 22 0):=by
   refine' CI.d5 ?a ?b ?i ?l ?c ?k
   (case a | b | i | l | c | k=>dsimp only [L2.aC]; k_is)
  have N_Back_leap:CI.jB (L2.aC KX) "Back" "leap":=by
   refine' CI.iI ?a ?b
   (case a | b=>dsimp only [L2.aC]; k_is)
  have N_Back_most:CI.jB (L2.aC KX) "Back" "most":=by
   refine' CI.iI ?a ?b
   (case a | b=>dsimp only [L2.aC]; k_is)
  have K_Again:CI.ClsAt (L2.aC KX) "Again":=by
   refine' CI.mB ?a ?pg ?hd ?po ?sa ?mk ?kp
   (case a | pg | hd | po | sa | mk | kp=>dsimp only [L2.aC]; k_is)
  have I_Again:CI.MthAt (L2.aC KX) "Again" "__init__" "Again.__init__" (Tx.eA 23 0):=by
   refine' CI.d5 ?a ?b ?i ?l ?c ?k
   (case a | b | i | l | c | k=>dsimp only [L2.aC]; k_is)
  have N_Again_most:CI.jB (L2.aC KX) "Again" "most":=by
   refine' CI.iI ?a ?b
   (case a | b=>dsimp only [L2.aC]; k_is)
  have K_Range:CI.ClsAt (L2.aC KX) "Range":=by
   refine' CI.mB ?a ?pg ?hd ?po ?sa ?mk ?kp
   (case a | pg | hd | po | sa | mk | kp=>dsimp only [L2.aC]; k_is)
  have I_Range:CI.MthAt (L2.aC KX) "Range" "__init__" "Range.__init__" (Tx.eA 24 0):=by
   refine' CI.d5 ?a ?b ?i ?l ?c ?k
   (case a | b | i | l | c | k=>dsimp only [L2.aC]; k_is)
  have N_Range_low:CI.jB (L2.aC KX) "Range" "low":=by
   refine' CI.iI ?a ?b
   (case a | b=>dsimp only [L2.aC]; k_is)
  have N_Range_high:CI.jB (L2.aC KX) "Range" "high":=by
   refine' CI.iI ?a ?b
   (case a | b=>dsimp only [L2.aC]; k_is)
  have K_Above:CI.ClsAt (L2.aC KX) "Above":=by
   refine' CI.mB ?a ?pg ?hd ?po ?sa ?mk ?kp
   (case a | pg | hd | po | sa | mk | kp=>dsimp only [L2.aC]; k_is)
  have I_Above:CI.MthAt (L2.aC KX) "Above" "__init__" "Above.__init__" (Tx.eA 25 0):=by
   refine' CI.d5 ?a ?b ?i ?l ?c ?k
   (case a | b | i | l | c | k=>dsimp only [L2.aC]; k_is)
  have N_Above_one:CI.jB (L2.aC KX) "Above" "one":=by
   refine' CI.iI ?a ?b
   (case a | b=>dsimp only [L2.aC]; k_is)
  have N_Above_other:CI.jB (L2.aC KX) "Above" "other":=by
   refine' CI.iI ?a ?b
   (case a | b=>dsimp only [L2.aC]; k_is)
  have K_Never:CI.ClsAt (L2.aC KX) "Never":=by
   refine' CI.mB ?a ?pg ?hd ?po ?sa ?mk ?kp
   (case a | pg | hd | po | sa | mk | kp=>dsimp only [L2.aC]; k_is)
  have I_Never:CI.MthAt (L2.aC KX) "Never" "__init__" "Never.__init__" (Tx.eA 26 0):=by
   refine' CI.d5 ?a ?b ?i ?l ?c ?k
   (case a | b | i | l | c | k=>dsimp only [L2.aC]; k_is)
  have N_Never_one:CI.jB (L2.aC KX) "Never" "one":=by
   refine' CI.iI ?a ?b
   (case a | b=>dsimp only [L2.aC]; k_is)
  have N_Never_other:CI.jB (L2.aC KX) "Never" "other":=by
   refine' CI.iI ?a ?b
   (case a | b=>dsimp only [L2.aC]; k_is)
  have N_Never_way:CI.jB (L2.aC KX) "Never" "way":=by
   refine' CI.iI ?a ?b
   (case a | b=>dsimp only [L2.aC]; k_is)
  have D_Span_broken:CI.MthAt (L2.aC KX) "Span" "broken" "Span.broken" (Tx.eA 20 1):=by
   refine' CI.d5 ?a ?b ?i ?l ?c ?k
   (case a | b | i | l | c | k=>dsimp only [L2.aC]; k_is)
  have D_Span_forbids:CI.MthAt (L2.aC KX) "Span" "forbids" "Span.forbids" (Tx.eA 20 2):=by
   refine' CI.d5 ?a ?b ?i ?l ?c ?k
   (case a | b | i | l | c | k=>dsimp only [L2.aC]; k_is)
  have D_Leap_broken:CI.MthAt (L2.aC KX) "Leap" "broken" "Leap.broken" (Tx.eA 21 1):=by
   refine' CI.d5 ?a ?b ?i ?l ?c ?k
   (case a | b | i | l | c | k=>dsimp only [L2.aC]; k_is)
  have D_Back_broken:CI.MthAt (L2.aC KX) "Back" "broken" "Back.broken" (Tx.eA 22 1):=by
   refine' CI.d5 ?a ?b ?i ?l ?c ?k
   (case a | b | i | l | c | k=>dsimp only [L2.aC]; k_is)
  have D_Again_broken:CI.MthAt (L2.aC KX) "Again" "broken" "Again.broken" (Tx.eA 23 1):=by
   refine' CI.d5 ?a ?b ?i ?l ?c ?k
   (case a | b | i | l | c | k=>dsimp only [L2.aC]; k_is)
  have D_Range_broken:CI.MthAt (L2.aC KX) "Range" "broken" "Range.broken" (Tx.eA 24 1):=by
   refine' CI.d5 ?a ?b ?i ?l ?c ?k
   (case a | b | i | l | c | k=>dsimp only [L2.aC]; k_is)
  have D_Range_forbids:CI.MthAt (L2.aC KX) "Range" "forbids" "Range.forbids" (Tx.eA 24 2):=by
   refine' CI.d5 ?a ?b ?i ?l ?c ?k
   (case a | b | i | l | c | k=>dsimp only [L2.aC]; k_is)
  have D_Above_broken:CI.MthAt (L2.aC KX) "Above" "broken" "Above.broken" (Tx.eA 25 1):=by
   refine' CI.d5 ?a ?b ?i ?l ?c ?k
   (case a | b | i | l | c | k=>dsimp only [L2.aC]; k_is)
  have D_Never_broken:CI.MthAt (L2.aC KX) "Never" "broken" "Never.broken" (Tx.eA 26 1):=by
   refine' CI.d5 ?a ?b ?i ?l ?c ?k
   (case a | b | i | l | c | k=>dsimp only [L2.aC]; k_is)
  have D_pitch:CI.DefAt (L2.aC KX) "pitch" (Tx.top 10):=by
   refine' CI.bJ ?a ?l ?c ?k
   (case a | l | c | k=>dsimp only [L2.aC]; k_is)
  have D_singer:CI.DefAt (L2.aC KX) "singer" (Tx.top 11):=by
   refine' CI.bJ ?a ?l ?c ?k
   (case a | l | c | k=>dsimp only [L2.aC]; k_is)
  have D_sung:CI.DefAt (L2.aC KX) "sung" (Tx.top 12):=by
   refine' CI.bJ ?a ?l ?c ?k
   (case a | l | c | k=>dsimp only [L2.aC]; k_is)
  have D_span:CI.DefAt (L2.aC KX) "span" (Tx.top 13):=by
   refine' CI.bJ ?a ?l ?c ?k
   (case a | l | c | k=>dsimp only [L2.aC]; k_is)
  have D_chord:CI.DefAt (L2.aC KX) "chord" (Tx.top 14):=by
   refine' CI.bJ ?a ?l ?c ?k
   (case a | l | c | k=>dsimp only [L2.aC]; k_is)
  have D_sounding_pairs:CI.DefAt (L2.aC KX) "sounding_pairs" (Tx.top 17):=by
   refine' CI.bJ ?a ?l ?c ?k
   (case a | l | c | k=>dsimp only [L2.aC]; k_is)
  have D_move_so:CI.DefAt (L2.aC KX) "move_so" (Tx.top 18):=by
   refine' CI.bJ ?a ?l ?c ?k
   (case a | l | c | k=>dsimp only [L2.aC]; k_is)
  have D_rule_of:CI.DefAt (L2.aC KX) "rule_of" (Tx.top 27):=by
   refine' CI.bJ ?a ?l ?c ?k
   (case a | l | c | k=>dsimp only [L2.aC]; k_is)
  have D_rules_of:CI.DefAt (L2.aC KX) "rules_of" (Tx.top 29):=by
   refine' CI.bJ ?a ?l ?c ?k
   (case a | l | c | k=>dsimp only [L2.aC]; k_is)
  have D_breaks_at:CI.DefAt (L2.aC KX) "breaks_at" (Tx.top 30):=by
   refine' CI.bJ ?a ?l ?c ?k
   (case a | l | c | k=>dsimp only [L2.aC]; k_is)
  have D_first_break:CI.DefAt (L2.aC KX) "first_break" (Tx.top 31):=by
   refine' CI.bJ ?a ?l ?c ?k
   (case a | l | c | k=>dsimp only [L2.aC]; k_is)
  have D_is_let_by:CI.DefAt (L2.aC KX) "is_let_by" (Tx.top 32):=by
   refine' CI.bJ ?a ?l ?c ?k
   (case a | l | c | k=>dsimp only [L2.aC]; k_is)
  have D_memory:CI.DefAt (L2.aC KX) "memory" (Tx.top 35):=by
   refine' CI.bJ ?a ?l ?c ?k
   (case a | l | c | k=>dsimp only [L2.aC]; k_is)
  have D_turn_of:CI.DefAt (L2.aC KX) "turn_of" (Tx.top 36):=by
   refine' CI.bJ ?a ?l ?c ?k
   (case a | l | c | k=>dsimp only [L2.aC]; k_is)
  have D_stand_of:CI.DefAt (L2.aC KX) "stand_of" (Tx.top 37):=by
   refine' CI.bJ ?a ?l ?c ?k
   (case a | l | c | k=>dsimp only [L2.aC]; k_is)
  have D_shows_round:CI.DefAt (L2.aC KX) "shows_round" (Tx.top 39):=by
   refine' CI.bJ ?a ?l ?c ?k
   (case a | l | c | k=>dsimp only [L2.aC]; k_is)
  have D_L_pen:CI.DefAt (L2.aC KX) "_law_pen" (Tx.top 41):=by
   refine' CI.bJ ?a ?l ?c ?k
   (case a | l | c | k=>dsimp only [L2.aC]; k_is)
  have D_L_draw:CI.DefAt (L2.aC KX) "_law_draw" (Tx.top 42):=by
   refine' CI.bJ ?a ?l ?c ?k
   (case a | l | c | k=>dsimp only [L2.aC]; k_is)
  have D_L_rule:CI.DefAt (L2.aC KX) "_law_rule" (Tx.top 43):=by
   refine' CI.bJ ?a ?l ?c ?k
   (case a | l | c | k=>dsimp only [L2.aC]; k_is)
  have D_L_house:CI.DefAt (L2.aC KX) "_law_house" (Tx.top 44):=by
   refine' CI.bJ ?a ?l ?c ?k
   (case a | l | c | k=>dsimp only [L2.aC]; k_is)
  have D_L_line:CI.DefAt (L2.aC KX) "_law_line" (Tx.top 45):=by
   refine' CI.bJ ?a ?l ?c ?k
   (case a | l | c | k=>dsimp only [L2.aC]; k_is)
  have D_L_heard:CI.DefAt (L2.aC KX) "_law_heard" (Tx.top 46):=by
   refine' CI.bJ ?a ?l ?c ?k
   (case a | l | c | k=>dsimp only [L2.aC]; k_is)
  have D_L_by_line:CI.DefAt (L2.aC KX) "_law_by_line" (Tx.top 47):=by
   refine' CI.bJ ?a ?l ?c ?k
   (case a | l | c | k=>dsimp only [L2.aC]; k_is)
  have D_L_moved_so:CI.DefAt (L2.aC KX) "_law_moved_so" (Tx.top 48):=by
   refine' CI.bJ ?a ?l ?c ?k
   (case a | l | c | k=>dsimp only [L2.aC]; k_is)
  have D_L_bad_pair:CI.DefAt (L2.aC KX) "_law_bad_pair" (Tx.top 49):=by
   refine' CI.bJ ?a ?l ?c ?k
   (case a | l | c | k=>dsimp only [L2.aC]; k_is)
  have D_L_broken:CI.DefAt (L2.aC KX) "_law_broken" (Tx.top 50):=by
   refine' CI.bJ ?a ?l ?c ?k
   (case a | l | c | k=>dsimp only [L2.aC]; k_is)
  have D_L_breaks:CI.DefAt (L2.aC KX) "_law_breaks" (Tx.top 51):=by
   refine' CI.bJ ?a ?l ?c ?k
   (case a | l | c | k=>dsimp only [L2.aC]; k_is)
  have D_L_memory:CI.DefAt (L2.aC KX) "_law_memory" (Tx.top 52):=by
   refine' CI.bJ ?a ?l ?c ?k
   (case a | l | c | k=>dsimp only [L2.aC]; k_is)
  have D_L_stand:CI.DefAt (L2.aC KX) "_law_stand" (Tx.top 53):=by
   refine' CI.bJ ?a ?l ?c ?k
   (case a | l | c | k=>dsimp only [L2.aC]; k_is)
  have D_L_as_line:CI.DefAt (L2.aC KX) "_law_as_line" (Tx.top 54):=by
   refine' CI.bJ ?a ?l ?c ?k
   (case a | l | c | k=>dsimp only [L2.aC]; k_is)
  have D_L_free:CI.DefAt (L2.aC KX) "_law_free" (Tx.top 55):=by
   refine' CI.bJ ?a ?l ?c ?k
   (case a | l | c | k=>dsimp only [L2.aC]; k_is)
  have D_L_ways:CI.DefAt (L2.aC KX) "_law_ways" (Tx.top 56):=by
   refine' CI.bJ ?a ?l ?c ?k
   (case a | l | c | k=>dsimp only [L2.aC]; k_is)
  have D_L_sung:CI.DefAt (L2.aC KX) "_law_sung" (Tx.top 58):=by
   refine' CI.bJ ?a ?l ?c ?k
   (case a | l | c | k=>dsimp only [L2.aC]; k_is)
  have D_L_due:CI.DefAt (L2.aC KX) "_law_due" (Tx.top 59):=by
   refine' CI.bJ ?a ?l ?c ?k
   (case a | l | c | k=>dsimp only [L2.aC]; k_is)
  have D_L_wander:CI.DefAt (L2.aC KX) "_law_wander" (Tx.top 60):=by
   refine' CI.bJ ?a ?l ?c ?k
   (case a | l | c | k=>dsimp only [L2.aC]; k_is)
  have D_L_spoilt:CI.DefAt (L2.aC KX) "_law_spoilt" (Tx.top 61):=by
   refine' CI.bJ ?a ?l ?c ?k
   (case a | l | c | k=>dsimp only [L2.aC]; k_is)
  have D_L_asked:CI.DefAt (L2.aC KX) "_law_asked" (Tx.top 62):=by
   refine' CI.bJ ?a ?l ?c ?k
   (case a | l | c | k=>dsimp only [L2.aC]; k_is)
  have D_law:CI.DefAt (L2.aC KX) "law" (Tx.top 63):=by
   refine' CI.bJ ?a ?l ?c ?k
   (case a | l | c | k=>dsimp only [L2.aC]; k_is)
  have C_BAR:CI.dF (L2.aC KX) mg Tx.T (CI.aZ Tx.L) ("BAR",.con (.int 1)):=by
   refine' CI.jT KX G ?a
   (case a=>dsimp only [L2.aC]; k_is)
  have C_OCTAVE:CI.dF (L2.aC KX) mg Tx.T (CI.aZ Tx.L) ("OCTAVE",.con (.int 2)):=by
   refine' CI.jT KX G ?a
   (case a=>dsimp only [L2.aC]; k_is)
  have C_VOICES:CI.dF (L2.aC KX) mg Tx.T (CI.aZ Tx.L) ("VOICES",.con (.int 3)):=by
   refine' CI.jT KX G ?a
   (case a=>dsimp only [L2.aC]; k_is)
  have C_RULES:CI.dF (L2.aC KX) mg Tx.T (CI.aZ Tx.L) ("RULES",.con (.int 4)):=by
   refine' CI.jT KX G ?a
   (case a=>dsimp only [L2.aC]; k_is)
  have C_LATE:CI.dF (L2.aC KX) mg Tx.T (CI.aZ Tx.L) ("LATE",.con (.int 0)):=by
   refine' CI.jT KX G ?a
   (case a=>dsimp only [L2.aC]; k_is)
  have C_SHIFT:CI.dF (L2.aC KX) mg Tx.T (CI.aZ Tx.L) ("SHIFT",.con (.int 1)):=by
   refine' CI.jT KX G ?a
   (case a=>dsimp only [L2.aC]; k_is)
  have C_TURNED:CI.dF (L2.aC KX) mg Tx.T (CI.aZ Tx.L) ("TURNED",.con (.int 2)):=by
   refine' CI.jT KX G ?a
   (case a=>dsimp only [L2.aC]; k_is)
  have C_LEADER:CI.dF (L2.aC KX) mg Tx.T (CI.aZ Tx.L) ("LEADER",.con (.tup [(.int 0),(.int 0),(.bl false)])):=by
   refine' CI.FZ KX G ?a ?l ?c ?z
   (case a | l=>dsimp only [L2.aC]; k_is)
   (case c=>first | rfl | decide +kernel)
   (case z=>rfl)
  have C_BY_THE_LINE:CI.dF (L2.aC KX) mg Tx.T (CI.aZ Tx.L) ("BY_THE_LINE",.con (.tup [])):=by
   refine' CI.FZ KX G ?a ?l ?c ?z
   (case a | l=>dsimp only [L2.aC]; k_is)
   (case c=>first | rfl | decide +kernel)
   (case z=>rfl)
  have C_LEAST_MEMORY:CI.dF (L2.aC KX) mg Tx.T (CI.aZ Tx.L) ("LEAST_MEMORY",.con (.int 3)):=by
   refine' CI.jT KX G ?a
   (case a=>dsimp only [L2.aC]; k_is)
  have B_abs:CI.dF (L2.aC KX) mg Tx.T (CI.aZ Tx.L) ("abs",.blt):=by
   refine' CI.gF KX G ?a
   (case a=>dsimp only [L2.aC]; k_is)
  have B_all:CI.dF (L2.aC KX) mg Tx.T (CI.aZ Tx.L) ("all",.blt):=by
   refine' CI.gF KX G ?a
   (case a=>dsimp only [L2.aC]; k_is)
  have B_bool:CI.dF (L2.aC KX) mg Tx.T (CI.aZ Tx.L) ("bool",.blt):=by
   refine' CI.gF KX G ?a
   (case a=>dsimp only [L2.aC]; k_is)
  have B_enumerate:CI.dF (L2.aC KX) mg Tx.T (CI.aZ Tx.L) ("enumerate",.blt):=by
   refine' CI.gF KX G ?a
   (case a=>dsimp only [L2.aC]; k_is)
  have B_int:CI.dF (L2.aC KX) mg Tx.T (CI.aZ Tx.L) ("int",.blt):=by
   refine' CI.gF KX G ?a
   (case a=>dsimp only [L2.aC]; k_is)
  have B_isinstance:CI.dF (L2.aC KX) mg Tx.T (CI.aZ Tx.L) ("isinstance",.blt):=by
   refine' CI.gF KX G ?a
   (case a=>dsimp only [L2.aC]; k_is)
  have B_len:CI.dF (L2.aC KX) mg Tx.T (CI.aZ Tx.L) ("len",.blt):=by
   refine' CI.gF KX G ?a
   (case a=>dsimp only [L2.aC]; k_is)
  have B_list:CI.dF (L2.aC KX) mg Tx.T (CI.aZ Tx.L) ("list",.blt):=by
   refine' CI.gF KX G ?a
   (case a=>dsimp only [L2.aC]; k_is)
  have B_max:CI.dF (L2.aC KX) mg Tx.T (CI.aZ Tx.L) ("max",.blt):=by
   refine' CI.gF KX G ?a
   (case a=>dsimp only [L2.aC]; k_is)
  have B_range:CI.dF (L2.aC KX) mg Tx.T (CI.aZ Tx.L) ("range",.blt):=by
   refine' CI.gF KX G ?a
   (case a=>dsimp only [L2.aC]; k_is)
  have B_set:CI.dF (L2.aC KX) mg Tx.T (CI.aZ Tx.L) ("set",.blt):=by
   refine' CI.gF KX G ?a
   (case a=>dsimp only [L2.aC]; k_is)
  have B_tuple:CI.dF (L2.aC KX) mg Tx.T (CI.aZ Tx.L) ("tuple",.blt):=by
   refine' CI.gF KX G ?a
   (case a=>dsimp only [L2.aC]; k_is)
  refine ⟨D_law, ?_⟩;unfold Tx.L;refine CI.fc (C_BAR) ?_;refine CI.fc (C_OCTAVE) ?_;refine CI.fc (C_VOICES) ?_;refine CI.fc (C_RULES) ?_;refine CI.fc (C_LATE) ?_;refine CI.fc (C_SHIFT) ?_;refine CI.fc (C_TURNED) ?_;refine CI.fc (C_LEADER) ?_;refine CI.fc (C_BY_THE_LINE) ?_;refine CI.fc (C_LEAST_MEMORY) ?_;refine CI.fc (CI.aX KX G D_pitch Tx.OI Tx.FL) ?_;refine CI.fc (CI.aX KX G D_singer Tx.J9 Tx.B3) ?_;refine CI.fc (CI.aX KX G D_sung Tx.TH Tx.LN) ?_;refine CI.fc (CI.aX KX G D_span Tx.UC Tx.KR) ?_;refine CI.fc (CI.aX KX G D_chord Tx.P8 Tx.FK) ?_;refine CI.fc (CI.aX KX G D_sounding_pairs Tx.tX Tx.mM) ?_;refine CI.fc (CI.aX KX G D_move_so Tx.IL Tx.zU) ?_;refine CI.fc (CI.aX KX G D_rule_of Tx.GK Tx.fN) ?_;refine CI.fc (CI.aX KX G D_rules_of Tx.D3 Tx.wN) ?_;refine CI.fc (CI.aX KX G D_breaks_at Tx.DX Tx.uF) ?_;refine CI.fc (CI.aX KX G D_first_break Tx.x8 Tx.qY) ?_;refine CI.fc (CI.aX KX G D_is_let_by Tx.C6 Tx.uR) ?_;refine CI.fc (CI.aX KX G D_memory Tx.KA Tx.DY) ?_;refine CI.fc (CI.aX KX G D_turn_of Tx.GW Tx.zC) ?_;refine CI.fc (CI.aX KX G D_stand_of Tx.EV Tx.wA) ?_;refine CI.fc (CI.aX KX G D_shows_round Tx.xV Tx.pU) ?_;refine CI.fc (CI.aX KX G D_L_pen Tx.QC Tx.E4) ?_;refine CI.fc (CI.aX KX G D_L_draw Tx.J2 Tx.DJ) ?_;refine CI.fc (CI.aX KX G D_L_rule Tx.K9 Tx.DN) ?_;refine CI.fc (CI.aX KX G D_L_house Tx.IG Tx.zJ) ?_;refine CI.fc (CI.aX KX G D_L_line Tx.MG Tx.CB) ?_;refine CI.fc (CI.aX KX G D_L_heard Tx.HK Tx.zP) ?_;refine CI.fc (CI.aX KX G D_L_by_line Tx.DW Tx.kN) ?_;refine CI.fc (CI.aX KX G D_L_moved_so Tx.AU Tx.rP) ?_;refine CI.fc (CI.aX KX G D_L_bad_pair Tx.AS Tx.mG) ?_;refine CI.fc (CI.aX KX G D_L_broken Tx.D8 Tx.eV) ?_;refine CI.fc (CI.aX KX G D_L_breaks Tx.D4 Tx.xT) ?_;refine CI.fc (CI.aX KX G D_L_memory Tx.D7 Tx.wM) ?_;refine CI.fc (CI.aX KX G D_L_stand Tx.IJ Tx.zR) ?_;refine CI.fc (CI.aX KX G D_L_as_line Tx.DC Tx.tZ) ?_;refine CI.fc (CI.aX KX G D_L_free Tx.KO Tx.BH) ?_;refine CI.fc (CI.aX KX G D_L_ways Tx.K5 Tx.B7) ?_;refine CI.fc (CI.aX KX G D_L_sung Tx.LV Tx.BL) ?_;refine CI.fc (CI.aX KX G D_L_due Tx.NH Tx.FI) ?_;refine CI.fc (CI.aX KX G D_L_wander Tx.EE Tx.wK) ?_;refine CI.fc (CI.aX KX G D_L_spoilt Tx.ED Tx.xC) ?_;refine CI.fc (CI.aX KX G D_L_asked Tx.GD Tx.zT) ?_;refine CI.fc (CI.aX KX G D_law Tx.JY Tx.GS) ?_;refine CI.fc (CI.mT KX G K_Span I_Span Tx.MX (CI.fc (N_Span_beat) (CI.fc (N_Span_spans) (fun _ h=>nomatch h)))) ?_;refine CI.fc (CI.mT KX G K_Leap I_Leap Tx.O1 (CI.fc (N_Leap_most) (fun _ h=>nomatch h))) ?_;refine CI.fc (CI.mT KX G K_Back I_Back Tx.N7 (CI.fc (N_Back_leap) (CI.fc (N_Back_most) (fun _ h=>nomatch h)))) ?_;refine CI.fc (CI.mT KX G K_Again I_Again Tx.LG (CI.fc (N_Again_most) (fun _ h=>nomatch h))) ?_;refine CI.fc (CI.mT KX G K_Range I_Range Tx.I0 (CI.fc (N_Range_low) (CI.fc (N_Range_high) (fun _ h=>nomatch h)))) ?_;refine CI.fc (CI.mT KX G K_Above I_Above Tx.L8 (CI.fc (N_Above_one) (CI.fc (N_Above_other) (fun _ h=>nomatch h)))) ?_;refine CI.fc (CI.mT KX G K_Never I_Never Tx.J4 (CI.fc (N_Never_one) (CI.fc (N_Never_other) (CI.fc (N_Never_way) (fun _ h=>nomatch h))))) ?_;refine List.forall_mem_cons.mpr ⟨⟨"broken",rfl,by unfold Tx.dN; exact CI.fc (CI.j8 K_Span D_Span_broken Tx.x5 Tx.p9) (CI.fc (CI.j8 K_Leap D_Leap_broken Tx.xW Tx.qP) (CI.fc (CI.j8 K_Back D_Back_broken Tx.yY Tx.qO) (CI.fc (CI.j8 K_Again D_Again_broken Tx.xJ Tx.oI) (CI.fc (CI.j8 K_Range D_Range_broken Tx.wY Tx.oB) (CI.fc (CI.j8 K_Above D_Above_broken Tx.xO Tx.oJ) (CI.fc (CI.j8 K_Never D_Never_broken Tx.xA Tx.n9) (fun _ h=>nomatch h)))))))⟩, ?_⟩;refine List.forall_mem_cons.mpr ⟨⟨"forbids",rfl,by unfold Tx.fB; exact CI.fc (CI.j8 K_Span D_Span_forbids Tx.wI Tx.oA) (CI.fc (CI.j8 K_Range D_Range_forbids Tx.vB Tx.m8) (fun _ h=>nomatch h))⟩, ?_⟩;refine CI.fc (B_abs) ?_;refine CI.fc (B_all) ?_;refine CI.fc (B_bool) ?_;refine CI.fc (B_enumerate) ?_;refine CI.fc (B_int) ?_;refine CI.fc (B_isinstance) ?_;refine CI.fc (B_len) ?_;refine CI.fc (B_list) ?_;refine CI.fc (B_max) ?_;refine CI.fc (B_range) ?_;refine CI.fc (B_set) ?_;refine CI.fc (B_tuple) ?_
  exact fun _ h=>nomatch h
