import PyProof.Rows.All
import Wide.All
import OpenK.AllK
import Wide.FinOn
import Lean
import PyProof.EqAt
import PyProof.EqKinds
import PyProof.TupleCall
import OpenK.KOwn
import PyProof.NsDelKeeps
import KE.KIsAll
import PyProof.ExcArgsOwn
import PyProof.ExcAttrAll.ValueError
import KE.KIntText
import PyProof.NeData
import PySem.Challenge.RW_canonwright_k52_houses_refused
local macro_rules|`(nofun)=>`(100000000000000000000000000000000000000000000000000000000000000000000000000000000)
set_option Elab.async false
set_option linter.all false
set_option maxRecDepth 100000
theorem ZB:type_of% @Bool.and_eq_true:=@Bool.and_eq_true
theorem Za.{u}:type_of% @List.length_append.{u}:=@List.length_append.{u}
theorem Zb.{u}:type_of% @List.getElem?_eq_getElem.{u}:=@List.getElem?_eq_getElem.{u}
theorem Zc.{u}:type_of% @List.getElem?_eq_some_iff.{u}:=@List.getElem?_eq_some_iff.{u}
theorem Zd:type_of% @PySem.Heap.get?_push_of_some:=@PySem.Heap.get?_push_of_some
theorem Ze.{u}:type_of% @List.mem_cons_of_mem.{u}:=@List.mem_cons_of_mem.{u}
theorem Zf.{u}:type_of% @List.getElem?_set_ne.{u}:=@List.getElem?_set_ne.{u}
theorem Zh.{u,v}:type_of% @List.getElem?_map.{u,v}:=@List.getElem?_map.{u,v}
theorem Zi.{u}:type_of% @List.size_toArray.{u}:=@List.size_toArray.{u}
theorem Zj.{u}:type_of% @List.all_cons.{u}:=@List.all_cons.{u}
theorem Zk.{u}:type_of% @List.length_cons.{u}:=@List.length_cons.{u}
theorem Zl:type_of% @Nat.lt_of_lt_of_le:=@Nat.lt_of_lt_of_le
theorem Zm:type_of% @decide_eq_false:=@decide_eq_false
theorem Zn:type_of% @decide_eq_true:=@decide_eq_true
theorem Zo.{u}:type_of% @if_pos.{u}:=@if_pos.{u}
theorem Zp.{u}:type_of% @if_neg.{u}:=@if_neg.{u}
theorem Zq:type_of% @Nat.le_refl:=@Nat.le_refl
theorem Zr:type_of% @Nat.le_trans:=@Nat.le_trans
theorem Zs.{u,v}:type_of% @List.map_cons.{u,v}:=@List.map_cons.{u,v}
theorem Zt:type_of% @PySem.wpAny_bind:=@PySem.wpAny_bind
theorem Zu:type_of% @PySem.wpAny_pure:=@PySem.wpAny_pure
theorem Zv:type_of% @PySem.Heap.lt_size:=@PySem.Heap.lt_size
theorem Zw:type_of% @PySem.Heap.get?_push_size:=@PySem.Heap.get?_push_size
theorem Zy.{u}:type_of% @eq_of_beq.{u}:=@eq_of_beq.{u}
theorem Zz:type_of% @Nat.ne_of_lt:=@Nat.ne_of_lt
theorem zd.{u,v}:type_of% @List.map_append.{u,v}:=@List.map_append.{u,v}
theorem ze.{u}:type_of% @List.mem_singleton.{u}:=@List.mem_singleton.{u}
theorem zf.{u}:type_of% @List.take_of_length_le.{u}:=@List.take_of_length_le.{u}
theorem zg.{u}:type_of% @List.length_set.{u}:=@List.length_set.{u}
theorem zh.{u}:type_of% @List.mem_cons_self.{u}:=@List.mem_cons_self.{u}
theorem zj.{u}:type_of% @List.mem_of_getElem?.{u}:=@List.mem_of_getElem?.{u}
theorem zk.{u}:type_of% @List.getElem?_set_self.{u}:=@List.getElem?_set_self.{u}
theorem zo.{u}:type_of% @List.mem_append.{u}:=@List.mem_append.{u}
theorem zr.{u}:type_of% @List.getElem?_cons_zero.{u}:=@List.getElem?_cons_zero.{u}
open PySem.W (Frag nsIn findIn)
open PySem (Str)
set_option compiler.extract_closed false
set_option genSizeOf false
set_option bootstrap.genMatcherCode false
noncomputable section
namespace L2
open PySem PySem.Spec PyProof.Rows
abbrev cR:=Sum Int Str
def TK:cR->Value->Bool
 |.inl k,v=>Value.isInt k v
 |.inr x,v=>Value.isStrOf x v
def aGy(w:World):cR->Int
 |.inl k=>hashInt k
 |.inr x=>hashStr w x
theorem dN:∀{k:cR} {v:Value},TK k v=true->(∃i t,k=Sum.inl i/\v=Value.int i t)\/(∃x t,k=Sum.inr x/\v=Value.str x t)
 |.inl i,v,h=>by
  obtain⟨t,e⟩:=Value.isInt_shape (k:=i) (v:=v) h;exact .inl ⟨i,t,rfl,e⟩
 |.inr x,v,h=>by(obtain⟨t,e⟩:=Value.isStrOf_shape (x:=x) (v:=v) h;exact .inr ⟨x,t,rfl,e⟩)
theorem aCE(a b:Int):decide ((Sum.inl a:cR)=Sum.inl b)=(a==b):=by
 by_cases e:a=b
 ·subst e;simp
 ·have h:¬(Sum.inl a:cR)=Sum.inl b:=λq=>e (Sum.inl.inj q)
  rw[Zm h];exact(beq_eq_false_iff_ne.mpr e).symm
theorem Y2(a b:Str):decide ((Sum.inr a:cR)=Sum.inr b)=decide (a=b):=by
 by_cases e:a=b
 ·subst e;simp
 ·have h:¬(Sum.inr a:cR)=Sum.inr b:=λq=>e (Sum.inr.inj q)
  rw[Zm h,Zm e]
theorem Z3(a:Int)(b:Str):decide ((Sum.inl a:cR)=Sum.inr b)=false:=Zm (λq=>nomatch q)
theorem aAH(a:Str)(b:Int):decide ((Sum.inr a:cR)=Sum.inl b)=false:=Zm (λq=>nomatch q)
noncomputable def yL(prog:Program)(w:World):PySem.KeyKind prog w cR where
 is:=TK
 hash:=aGy w
 inj:=λv a b ha hb=>by
  rcases dN ha with ⟨i,t,rfl,rfl⟩ | ⟨x,t,rfl,rfl⟩
  ·rcases dN hb with ⟨j,u,rfl,e⟩ | ⟨y,u,rfl,e⟩
   ·injection e with e1 _;rw[e1]
   ·exact nomatch e
  ·rcases dN hb with ⟨j,u,rfl,e⟩ | ⟨y,u,rfl,e⟩
   ·exact nomatch e
   ·injection e with e1 _;rw[e1]
 byValue:=λk v h=>by
  rcases dN h with ⟨i,t,rfl,rfl⟩ | ⟨x,t,rfl,rfl⟩<;>rfl
 pyHash:=λhv h=>by
  rcases dN hv with ⟨i,t,rfl,rfl⟩ | ⟨x,t,rfl,rfl⟩
  ·exact wpAny_pyHash_int h
  ·exact wpAny_pyHash_str h
 eqBool:=λhu hv h=>by
  rcases dN hu with ⟨i,t,rfl,rfl⟩ | ⟨x,t,rfl,rfl⟩
  ·rcases dN hv with ⟨j,u,rfl,rfl⟩ | ⟨y,u,rfl,rfl⟩
   ·rw[aCE] at h;exact wpAny_eqBool_int h
   ·rw[Z3] at h;exact SeqAt.EqAt.int_str i t y u _ _ _ _ h
  ·rcases dN hv with ⟨j,u,rfl,rfl⟩ | ⟨y,u,rfl,rfl⟩
   ·rw[aAH] at h;exact SeqAt.EqAt.str_int x t j u _ _ _ _ h
   ·rw[Y2] at h;exact wpAny_eqBool_str h
 «strs»:=λk x t v h=>by
  rcases dN h with ⟨i,u,rfl,e⟩ | ⟨y,u,rfl,e⟩
  ·exact nomatch e
  ·injection e with e1 _
   subst e1;cases v<;>rfl
inductive V where
 |non | bl (b:Bool) | int (i:Int) | str (x:Str) | byt (b:Array UInt8) | flt (b:UInt64) | ref (a:Addr) | ty (n:String)
 deriving DecidableEq
def aU:V->Value->Prop
 |.non,u=>u=Value.none
 |.bl b,u=>u=Value.bool b
 |.int i,u=>∃t,u=Value.int i t
 |.str x,u=>∃t,u=Value.str x t
 |.byt b,u=>∃t,u=Value.bytes b t
 |.flt b,u=>∃t,u=Value.float b t
 |.ref a,u=>u=Value.ref a
 |.ty n,u=>u=Value.type n
abbrev aL:List V->List Value->Prop:=Paired aU
theorem aL.length{xs:List V}{us:List Value}(r:aL xs us):xs.length=us.length:=Paired.length r
theorem aL.get:∀{xs:List V} {us:List Value} {i:Nat} {x:V},aL xs us->xs[i]?=some x->∃u,us[i]?=some u/\aU x u
 |_,_,_,_,.nil,e=>by simp at e
 |_,_,0,_,.cons r _,e=>by simp at e;subst e;exact⟨_,rfl,r⟩
 |_,_,i+1,x,.cons _ t,e=>by(obtain⟨u,h1,h2⟩:=aL.get (i:=i) (x:=x) t (by simpa using e);exact⟨u,by simpa using h1,h2⟩)
theorem aL.set{x:V}{u:Value}(r:aU x u):∀{xs:List V} {us:List Value} (i:Nat),aL xs us->aL (xs.set i x) (us.set i u)
 |_,_,_,.nil=>.nil
 |_,_,0,.cons _ t=>.cons r t
 |_,_,i+1,.cons q t=>.cons q (aL.set r i t)
theorem aL.append:∀{xs ys:List V} {us ws:List Value},aL xs us->aL ys ws->aL (xs++ys) (us++ws)
 |_,_,_,_,.nil,s=>s
 |_,_,_,_,.cons r t,s=>.cons r (aL.append t s)
theorem aL.take:∀{xs:List V} {us:List Value} (n:Nat),aL xs us->aL (xs.take n) (us.take n)
 |_,_,0,_=>.nil
 |_,_,_+1,.nil=>.nil
 |_,_,n+1,.cons r t=>.cons r (aL.take n t)
theorem aL.drop:∀{xs:List V} {us:List Value} (n:Nat),aL xs us->aL (xs.drop n) (us.drop n)
 |_,_,0,r=>r
 |_,_,_+1,.nil=>.nil
 |_,_,n+1,.cons _ t=>aL.drop n t
def gZ:Option V->Option Value->Prop
 |some v,some u=>aU v u
 |none,none=>True
 |_,_=>False
def KV{κ:Type}:List (κ×V)->List (κ×Value)->Prop:=Paired λ(p:κ×V) (q:κ×Value)=>p.1=q.1/\aU p.2 q.2
def kV:cR->V
 |.inl i=>.int i
 |.inr x=>.str x
inductive HO where
 |lst (xs:List V)
 |tup (xs:List V)
 |dK (kvs:List (cR×V)) | dT (kvs:List (List cR×V))
 |set (S:Int->Bool) (n:Nat)
 |ins (C dx:Addr) (fs:List (Str×V))
 |own (x:Addr)
 |xd (fs:List (Str×V))
 |met (f x:Addr)
 |rng (lo hi:Int)
 |frz (o:Obj) (u:HO)
 |tbl (ps:Array Value)
 |ext (φ:Heap->Prop)
abbrev Hp:=Addr->Option HO
def aP(H:Hp)(a:Addr)(o:HO):Hp:=λb=>if b=a then some o else H b
theorem aY{H:Hp}{a:Addr}{o:HO}:aP H a o a=some o:=by unfold aP;rw[Zo rfl]
theorem aG{H:Hp}{a b:Addr}{o:HO}(h:b≠a):aP H a o b=H b:=by unfold aP;rw[Zp h]
theorem bO{H:Hp}{a b:Addr}{o:HO}(h:H a=some o)(h':H b=none):a≠b:=by
 intro e;subst e;rw[h] at h';cases h'
section
variable(P:Program)(w:World)
def dA(H:Hp)(h:Heap)(a:Addr):HO->Prop
 |.lst xs=>xs.length<=sizeLine/\∃(its:List Value) (n:Nat),aL xs its/\h.get? a=some { cls:=.type "list",data:=.seq its.toArray n }
 |.tup xs=>xs.length<=sizeLine/\∃its:List Value,aL xs its/\IsTup h a its.toArray
 |.dK kvs=>kvs.length<=sizeLine/\(a==sysModules)=false/\∃vs,KV kvs vs/\h.DictOf (yL P w) a vs
 |.dT kvs=>kvs.length<=sizeLine/\(a==sysModules)=false/\∃xs:List (List cR×Addr×Value),
   Paired (λ(p:List cR×V) (q:List cR×Addr×Value)=>p.1=q.1/\H q.2.1=some (.tup (p.1.map kV))/\aU p.2 q.2.2) kvs xs /\
   ∃o es ep,h.get? a=some o/\o.ExactDict/\o.data=.dict es ep/\es.toList=xs.map (entryOfKey (tupleKind (yL P w)))/\(xs.map (·.1)).Nodup
 |.set S n=>h.SetOf (intKind P w) a S n
 |.ins C dx fs=>H dx=some (.own a)/\fs.length<=1000/\dx≠a/\h.get? a=some (PySem.W.instObj C dx) /\
   ∃mA,h.Ns1 dx mA/\(∀f,gZ (fs.lookup f) (mA f))/\PySem.Within mA (fs.map (·.1))
 |.own _=>∃o,h.get? a=some o
 |.xd fs=>∃mA,h.Ns1 a mA/\∀f,gZ (fs.lookup f) (mA f)
 |.rng lo hi=>∃t u v,h.get? a=some { cls:=.type "range",data:=.fields #[.int lo t,.int hi u,.int 1 v] }
 |.frz o u=>h.get? a=some o/\dA H h a u
 |.tbl ps=>h.get? a=some { cls:=.none,data:=.fields ps }
 |.met f x=>h.get? a=some (PySem.W.methodObj (.ref f) (.ref x))
 |.ext φ=>φ h/\(∃o,h.get? a=some o)/\∀h1 h2:Heap,φ h1->(∀o,h1.get? a=some o->h2.get? a=some o)->φ h2
def fP(H:Hp)(h:Heap):Prop:=∀a o,H a=some o->dA P w H h a o
end
section
variable{P:Program}{w:World}{H H':Hp}{h h':Heap}{a:Addr}{o:HO}
theorem dA.lt(x:dA P w H h a o):a<h.objs.size:=by
 cases o with
 |lst xs=>obtain⟨_,_,_,_,e⟩:=x;exact Zv e
 |tup xs=>obtain⟨_,_,_,p⟩:=x;exact p.lt
 |dK kvs=>obtain⟨_,_,_,_,o,_,_,e,_⟩:=x;exact Zv e
 |dT kvs=>obtain⟨_,_,_,_,o,_,_,e,_⟩:=x;exact Zv e
 |set S n=>obtain⟨o,_,_,_,e,_⟩:=x;exact Zv e
 |ins C dx fs=>obtain⟨_,_,_,e,_⟩:=x;exact Zv e
 |own y=>obtain⟨_,e⟩:=x;exact Zv e
 |xd fs=>obtain⟨_,⟨_,_,_,e,_⟩,_⟩:=x;exact Zv e
 |rng lo hi=>obtain⟨_,_,_,e⟩:=x;exact Zv e
 |frz ob u=>obtain⟨e,_⟩:=x;exact Zv e
 |tbl ps=>exact Zv (show h.get? a=some _ from x)
 |met f y=>exact Zv (show h.get? a=some _ from x)
 |ext φ=>obtain⟨_,⟨_,e⟩,_⟩:=x;exact Zv e
theorem Paired.mapP{α β:Type}{F G:α->β->Prop}:∀{l₁:List α} {l₂:List β},Paired F l₁ l₂->(∀a b,F a b->G a b)->Paired G l₁ l₂
 |_,_,.nil,_=>.nil
 |_,_,.cons r t,f=>.cons (f _ _ r) (Paired.mapP t f)
theorem dA.stay(x:dA P w H h a o)(k:∀b u,(b=a\/H b=some (.own a))->h.get? b=some u->h'.get? b=some u)
  (ho:∀b,H b=some (.own a)->H' b=some (.own a)) (ht:∀b xs,H b=some (.tup xs)->H' b=some (.tup xs)):dA P w H' h' a o:=by
 induction o with
 |lst xs=>obtain⟨z,its,n,r,e⟩:=x;exact⟨z,its,n,r,k _ _ (.inl rfl) e⟩
 |tup xs=>obtain⟨z,its,r,ob,e,c⟩:=x;exact⟨z,its,r,ob,k _ _ (.inl rfl) e,c⟩
 |dK kvs=>obtain⟨z,y,vs,r,ob,es,ep,e,c⟩:=x;exact⟨z,y,vs,r,ob,es,ep,k _ _ (.inl rfl) e,c⟩
 |dT kvs =>
  obtain⟨z,y,xs,r,ob,es,ep,e,c⟩:=x;exact⟨z,y,xs,Paired.mapP r λp q z=>⟨z.1,ht _ _ z.2.1,z.2.2⟩,ob,es,ep,k _ _ (.inl rfl) e,c⟩
 |set S n=>obtain⟨ob,es,ep,t,e,c⟩:=x;exact⟨ob,es,ep,t,k _ _ (.inl rfl) e,c⟩
 |ins C dx fs =>
  obtain⟨d,z,ne,e,mA,⟨od,es,ep,e2,c⟩,r⟩:=x;exact⟨ho _ d,z,ne,k _ _ (.inl rfl) e,mA,⟨od,es,ep,k _ _ (.inr d) e2,c⟩,r⟩
 |own y=>obtain⟨ob,e⟩:=x;exact⟨ob,k _ _ (.inl rfl) e⟩
 |xd fs=>obtain⟨mA,⟨od,es,ep,e,c⟩,r⟩:=x;exact⟨mA,⟨od,es,ep,k _ _ (.inl rfl) e,c⟩,r⟩
 |rng lo hi=>obtain⟨t,u,v,e⟩:=x;exact⟨t,u,v,k _ _ (.inl rfl) e⟩
 |frz ob u ih=>obtain⟨e,q⟩:=x;exact⟨k _ _ (.inl rfl) e,ih q⟩
 |tbl ps =>
  have e:h.get? a=some { cls:=.none,data:=.fields ps }:=x;show h'.get? a=some { cls:=.none,data:=.fields ps };exact k a _ (.inl rfl) e
 |met f y =>
  have e:h.get? a=some (PySem.W.methodObj (.ref f) (.ref y)):=x;show h'.get? a=some (PySem.W.methodObj (.ref f) (.ref y));exact k a _ (.inl rfl) e
 |ext φ=>obtain⟨p,⟨o,e⟩,st⟩:=x;exact⟨st _ _ p λo q=>k _ _ (.inl rfl) q,⟨o,k _ _ (.inl rfl) e⟩,st⟩
theorem fP.lt(x:fP P w H h)(e:H a=some o):a<h.objs.size:=(x a o e).lt
theorem fP.fresh(x:fP P w H h)(e:h.objs.size<=a):H a=none:=by
 cases q:H a with
 |none=>rfl
 |some u=>exact absurd (Zl (x.lt q) e) (Nat.lt_irrefl _)
theorem fP.kept(x:fP P w H h)(k:∀b u,h.get? b=some u->h'.get? b=some u):fP P w H h':=λa o e =>
 (x a o e).stay (λb u _ q=>k b u q) (λ_ q=>q) λ_ _ q=>q
theorem fP.laid(x:fP P w H h)(k:∀b u,h.get? b=some u->h'.get? b=some u)(hp:h.objs.size<=a)(new:dA P w (aP H a o) h' a o):fP P w (aP H a o) h':=λb u e=>by
 have hn:=x.fresh hp;by_cases hb:b=a
 ·subst hb;rw[aY] at e;cases e;exact new
 ·rw[aG hb] at e;exact(x b u e).stay (λc v _ q=>k c v q) (λc q=>by rw[aG (bO q hn)];exact q) λc xs q=>by rw[aG (bO q hn)];exact q
end
def Rd(H:Hp)(a:Addr)(u:HO):Prop:=H a=some u\/∃o,H a=some (.frz o u)
theorem Rd.ok{P:Program}{w:World}{H:Hp}{h:Heap}{a:Addr}{u:HO}(r:Rd H a u)(x:fP P w H h):dA P w H h a u:=by
 rcases r with r | ⟨o,r⟩
 ·exact x a u r
 ·obtain⟨_,q⟩:=x a _ r;exact q
def MF:Option HO->Prop
 |some (.lst _)=>True
 |some (.dK _)=>True
 |some (.dT _)=>True
 |some (.set _ _)=>True
 |some (.ins _ _ _)=>True
 |some (.ext _)=>True
 |_=>False
section
variable{P:Program}{w:World}{H:Hp}{h h':Heap}{x e:Addr}{o':HO}
theorem fP.write(ok:fP P w H h)(mu:MF (H x))(he:e=x\/H e=some (.own x))(k:∀b u,b≠e->h.get? b=some u->h'.get? b=some u)(heo:∃u,h'.get? e=some u)
  (new:dA P w (aP H x o') h' x o'):fP P w (aP H x o') h':=λb u q=>by
 have nown:∀c y,H c=some (.own y)->c≠x:=λc y r z=>by subst z;rw[r] at mu;exact mu
 have ntup:∀c xs,H c=some (.tup xs)->c≠x:=λc xs r z=>by subst z;rw[r] at mu;exact mu
 by_cases hb:b=x
 ·subst hb;rw[aY] at q;cases q;exact new
 ·rw[aG hb] at q;by_cases hbe:b=e
  ·have q':H b=some (.own x):=by
    rcases he with z | z
    ·exact absurd (hbe.trans z) hb
    ·rw[hbe];exact z
   rw[q] at q';cases q';obtain⟨v,hv⟩:=heo;exact⟨v,by rw[hbe];exact hv⟩
  ·refine(ok b u q).stay (λc v hc r=>k c v ?_ r) (λc r=>by rw[aG (nown c b r)];exact r) λc xs r=>by rw[aG (ntup c xs r)];exact r
   rcases hc with rfl | hc
   ·exact hbe
   ·rintro rfl
    rcases he with z | z
    ·exact nown c b hc z
    ·rw[hc] at z;cases z;exact hb rfl
end
structure Un(fs ex:List Addr)(H H':Hp)(h h':Heap):Prop where
 keep:∀b o,h.get? b=some o->H b=none->b ∉ fs->b ∉ ex->h'.get? b=some o
 slot:∀b o,h.get? b=some o->H b=none->b∈fs->b ∉ ex->∃sl,h'.get? b=some { o with slots:=sl }
 free:∀b o,h.get? b=some o->H b=none->b ∉ ex->H' b=none
 there:∀b o,h.get? b=some o->b ∉ ex->∃o',h'.get? b=some o'
 tups:∀b xs,H b=some (.tup xs)->H' b=some (.tup xs)
 frzs:∀b o u,H b=some (.frz o u)->H' b=some (.frz o u)
 tbls:∀b ps,H b=some (.tbl ps)->∃more,H' b=some (.tbl (ps++more))
section
variable{fs fs' ex ex':List Addr}{H H1 H2:Hp}{h h1 h2 h':Heap}{a x e:Addr}{o:HO}
theorem Un.any(u:Un fs ex H H1 h h1){b:Addr}{ob:Obj}(q:h.get? b=some ob)(n:H b=none)(hx:b ∉ ex):∃sl,h1.get? b=some { ob with slots:=sl }:=by
 by_cases hb:b∈fs
 ·exact u.slot b ob q n hb hx
 ·exact⟨ob.slots,u.keep b ob q n hb hx⟩
theorem Un.kept(k:∀b u,h.get? b=some u->h'.get? b=some u):Un fs ex H H h h' :=
 ⟨λb ob q _ _ _=>k b ob q,λb ob q _ _ _=>⟨ob.slots,k b ob q⟩,λ_ _ _ n _=>n,λb ob q _=>⟨ob,k b ob q⟩,λ_ _ q=>q,λ_ _ _ q=>q,λ_ ps q=>⟨#[],by rw[q];simp⟩⟩
theorem Un.refl:Un fs ex H H h h:=Un.kept λ_ _ q=>q
theorem Un.laid(k:∀b u,h.get? b=some u->h'.get? b=some u)(hp:h.objs.size<=a)(hn:H a=none):Un fs ex H (aP H a o) h h' where
 keep:=λb u q _ _ _=>k b u q
 slot:=λb u q _ _ _=>⟨u.slots,k b u q⟩
 free:=λb u q n _=>by rw[aG (Zz (Zl (Zv q) hp))];exact n
 there:=λb u q _=>⟨u,k b u q⟩
 tups:=λb xs q=>by rw[aG (bO q hn)];exact q
 frzs:=λb u xs q=>by rw[aG (bO q hn)];exact q
 tbls:=λb ps q=>⟨#[],by rw[aG (bO q hn),q];simp⟩
theorem Un.write(mu:MF (H x))(he:e=x\/H e=some (.own x))(k:∀b u,b≠e->h.get? b=some u->h'.get? b=some u)(heo:∃u,h'.get? e=some u):Un fs ex H (aP H x o) h h':=by
 have hx:∀b,H b=none->b≠x:=λb n z=>by subst z;rw[n] at mu;exact mu
 have hb:∀b,H b=none->b≠e:=λb n z=>by
  subst z;rcases he with r | r
  ·exact hx b n r
  ·rw[n] at r;cases r
 have hm:∀b u,H b=some u->¬MF (some u)->b≠x:=λb u q nm z=>by subst z;rw[q] at mu;exact nm mu
 refine⟨λb u q n _ _=>k b u (hb b n) q,λb u q n _ _=>⟨u.slots,k b u (hb b n) q⟩,λb u q n _=>by rw[aG (hx b n)];exact n,λb u q _=>?_,
  λb xs q=>by rw[aG (hm b _ q λz=>z)];exact q,λb u xs q=>by rw[aG (hm b _ q λz=>z)];exact q,λb ps q=>⟨#[],by rw[aG (hm b _ q λz=>z),q];simp⟩⟩
 by_cases hbe:b=e
 ·subst hbe;exact heo
 ·exact⟨u,k b u hbe q⟩
end
def RZ(h:Heap)(H:Hp):List Addr:=(List.range h.objs.size).filter λa=>(H a).isSome
def pM(h:Heap)(H:Hp):Heap:=PySem.W.hideAll h (RZ h H)
theorem M5(h:Heap)(H:Hp):(pM h H).objs.size=h.objs.size:=PySem.W.hideAll_size _ _
theorem P4{h:Heap}{H:Hp}{b:Addr}{o:Obj}(e:h.get? b=some o)(n:H b=none):(pM h H).get? b=some o :=
 PySem.W.hideAll_get _ e λhm=>by(have q:(H b).isSome=true:=(List.mem_filter.mp hm).2;rw[n] at q;simp at q)
theorem WE{h:Heap}{H:Hp}{b:Addr}{o:Obj}(e:(pM h H).get? b=some o):h.get? b=some o/\H b=none:=by
 have e':h.get? b=some o:=PySem.W.of_hideAll (RZ h H) e;refine⟨e', ?_⟩
 cases q:H b with
 |none=>rfl
 |some x =>
  have hm:b∈RZ h H:=List.mem_filter.mpr ⟨List.mem_range.mpr (Zv e'),by simp[q]⟩;have z:(pM h H).get? b=none:=PySem.W.hideAll_none (RZ h H) hm;rw[z] at e;cases e
noncomputable def VH(g h:Heap)(L:Addr):List (Addr×Obj):=(List.range h.objs.size).filterMap λa=>if a=L\/(g.get? a).isSome=true then none else(h.get? a).map λo=>(a,o)
def dU(g h:Heap)(L d:Addr):List (Addr×Obj):=(VH g h L).filter λp=>decide (p.1≠d)
structure Mod(K:Frag)(mg:Str->Option Value)(base:Heap):Prop where
 kin:K.In base
 glob:base.Ns mainGlobals mg
 blt:∃mb,base.Ns builtinsNs mb/\∀x:Str,x≠"__name__"->mb x=bootBuiltins x
 nolimit:base.NoLimit
structure Cx where
 prog:Program
 w:World
 K:Frag
 mg:Str->Option Value
 base:Heap
 A:Around
 N:List Str
 s₀:Shared
 H₀:Hp
 env:Env
 outer:List Env
 stack:List Env
 ex:List Addr
 fn:Str->Bool
 calm:Bool
 pn:List (Addr×Obj)
 xe:Value->Shared->Prop
def f7(l:List Env):List Addr:=l.filterMap (·.frame)
abbrev Cx.fs(X:Cx):List Addr:=f7 X.outer
def LU(sc:Scope)(x:Str):Prop:=sc.names.lookup x=some .local\/sc.names.lookup x=some .cell\/sc.names.lookup x=some .free
def rZ(sc:Scope)(x:Str):Prop:=sc.names.lookup x=some .local\/sc.names.lookup x=some .cell
def aGE(env:Env)(h:Heap)(m:Str->Option Value)(x:Str)(u:Value):Prop :=
 (env.kindOf x=some .local/\m x=some u)\/((env.kindOf x=some .cell\/env.kindOf x=some .free)/\∃c,env.cells.lookup x=some c/\h.IsCell c (some u))
structure Cx.Ok(X:Cx):Prop where
 mod:Mod X.K X.mg X.base
 kind:X.env.scope.kind=.function
 glob:X.env.globals=mainGlobals
 blt:X.env.builtins=builtinsNs
 above:X.s₀.heap.objs.size<=X.env.locals
 inj:∀x y c,X.env.cells.lookup x=some c->X.env.cells.lookup y=some c->x=y
 has:∀x,(X.env.kindOf x=some .cell\/X.env.kindOf x=some .free)->∃c,X.env.cells.lookup x=some c
 cab:∀x c,X.fn x=true->X.env.cells.lookup x=some c->X.s₀.heap.objs.size<=c
 hd:X.calm=true->X.A.handled=none
 frames:X.A.frames=some X.stack
 stk:X.stack=X.outer\/(X.stack=X.env::X.outer/\X.env.frame=some X.env.locals)
 exf:∀b∈X.ex,b≠X.env.locals/\∀x c,X.env.cells.lookup x=some c->c≠b
 bs:∀b o,X.base.get? b=some o->X.s₀.heap.get? b=some o/\X.H₀ b=none
 bsz:X.base.objs.size<=X.s₀.heap.objs.size
 noex:∀b o,X.base.get? b=some o->b ∉ X.ex
 exfs:∀b∈X.ex,b ∉ X.fs
 funs:X.s₀.heap.FunFrames X.base X.outer
 frf:∀b∈X.fs,X.H₀ b=none
structure Inv(X:Cx)(pins:List (Addr×Obj))(σ:List (Option V))(H:Hp)(s:Shared):Prop where
 ok:X.Ok
 os:s.os=X.s₀.os
 bare:AllBare s.gens
 base:Un X.fs X.ex X.H₀ H X.s₀.heap s.heap
 loc:∃m,s.heap.Ns X.env.locals m/\∀(i:Nat) (x:Str) (v:V),X.N[i]?=some x->σ[i]?=some (some v)->LU X.env.scope x->∃u,aU v u/\aGE X.env s.heap m x u
 cell:∀x c,X.env.cells.lookup x=some c->∃v,s.heap.IsCell c v
 free:H X.env.locals=none
 freeC:∀x c,X.env.cells.lookup x=some c->H c=none
 pin:∀p∈X.pn++pins,s.heap.get? p.1=some p.2/\H p.1=none/\p.1≠X.env.locals/\p.1 ∉ X.fs/\∀v,p.2.data≠.cell v
 hok:fP X.prog X.w H s.heap
 len:σ.length=X.N.length
section
variable{X:Cx}{pins:List (Addr×Obj)}{σ:List (Option V)}{H H':Hp}{s:Shared}{h':Heap}
theorem Cx.Ok.nofr(ok:X.Ok){b:Addr}{o:Obj}(e:X.base.get? b=some o):b ∉ X.fs:=λhb=>by
 have:=(ok.funs.mem hb).1
 rw[e] at this;cases this
theorem Inv.bs(I:Inv X pins σ H s):∀b o,X.base.get? b=some o->s.heap.get? b=some o/\H b=none:=λb o e =>
 ⟨I.base.keep b o (I.ok.bs b o e).1 (I.ok.bs b o e).2 (I.ok.nofr e) (I.ok.noex b o e),I.base.free b o (I.ok.bs b o e).1 (I.ok.bs b o e).2 (I.ok.noex b o e)⟩
theorem Inv.bk(I:Inv X pins σ H s):∀b o,X.base.get? b=some o->s.heap.get? b=some o:=λb o e=>(I.bs b o e).1
theorem Inv.mod(I:Inv X pins σ H s):Mod X.K X.mg X.base:=I.ok.mod
theorem Inv.kIn(I:Inv X pins σ H s):X.K.In s.heap:=I.ok.mod.kin.keeps I.bk
theorem Inv.lt(I:Inv X pins σ H s):X.env.locals<s.heap.objs.size:=let ⟨_,hn,_⟩:=I.loc;hn.lt
theorem Inv.sz(I:Inv X pins σ H s):X.s₀.heap.objs.size<=s.heap.objs.size:=Zr I.ok.above (Nat.le_of_lt I.lt)
theorem Inv.nofs(I:Inv X pins σ H s){a:Addr}(h:s.heap.objs.size<=a):a ∉ X.fs:=λhb=>by
 obtain⟨_,o,ho,_⟩:=I.ok.funs.mem hb;exact absurd (Zl (Zv ho) (Zr I.sz h)) (Nat.lt_irrefl _)
theorem Inv.cne(I:Inv X pins σ H s):∀x c,X.env.cells.lookup x=some c->c≠X.env.locals:=λx c e z=>by
 obtain⟨v,o,ho,hd⟩:=I.cell x c e;obtain⟨m,⟨o',es,ep,ho',hd',_⟩,_⟩:=I.loc;rw[z,ho'] at ho;cases ho;rw[hd'] at hd;cases hd
theorem Inv.funs(I:Inv X pins σ H s):s.heap.FunFrames X.base X.outer:=by
 have all:∀(l:List Env),(∀b∈f7 l,b∈X.fs)->X.s₀.heap.FunFrames X.base l->s.heap.FunFrames X.base l:=by
  intro l
  induction l with
  |nil=>intro _ _;trivial
  |cons env r ih =>
   intro hs hl;obtain⟨hk,⟨L,o,hf,hn,ho,hd⟩,hr⟩:=hl;have hL:L∈X.fs:=hs L (by unfold f7;rw[List.filterMap_cons,hf];exact zh);obtain⟨sl,e⟩:=I.base.slot L o ho (I.ok.frf L hL) hL λz=>I.ok.exfs L z hL
   exact⟨hk,⟨L,_,hf,hn,e,hd⟩,ih (λb hb=>hs b (by unfold f7;rw[List.filterMap_cons,hf];exact Ze _ hb)) hr⟩
 exact all X.outer (λ_ hb=>hb) I.ok.funs
theorem Inv.stack(I:Inv X pins σ H s):s.heap.FunFrames X.base X.stack:=by
 rcases I.ok.stk with e | ⟨e,hf⟩
 ·rw[e];exact I.funs
 ·rw[e];obtain⟨m,hn,_⟩:=I.loc;refine .cons (by rw[I.ok.kind];decide) hf hn ?_ I.funs;exact Heap.get?_none_of_le (Zr I.ok.bsz I.ok.above)
theorem Inv.stkSub(I:Inv X pins σ H s):∀b∈f7 X.stack,b∈X.env.locals::X.fs:=λb hb=>by
 rcases I.ok.stk with e | ⟨e,hf⟩
 ·rw[e] at hb;exact Ze _ hb
 ·rw[e] at hb;unfold f7 at hb;rw[List.filterMap_cons,hf] at hb;exact hb
theorem Inv.stkFree(I:Inv X pins σ H s):∀b∈f7 X.stack,H b=none:=λb hb=>by
 rcases List.mem_cons.mp (I.stkSub b hb) with e | hb
 ·rw[e];exact I.free
 ·obtain⟨_,o,ho,_⟩:=I.ok.funs.mem hb;exact I.base.free b o ho (I.ok.frf b hb) λz=>I.ok.exfs b z hb
theorem Inv.step{g':Array GenState}{t':Nat}{d':Drawn}{ch:List Addr}(I:Inv X pins σ H s)
  (hch:∀b∈ch,(b∈X.ex\/X.s₀.heap.get? b=none)/\b≠X.env.locals/\(∀x c,X.env.cells.lookup x=some c->c≠b)/\∀p∈X.pn++pins,p.1≠b)
  (keep:∀b o,b≠X.env.locals->b ∉ X.fs->b ∉ ch->s.heap.get? b=some o->H b=none->h'.get? b=some o)
  (slot:∀b o,b≠X.env.locals->b∈X.fs->b ∉ ch->s.heap.get? b=some o->H b=none->∃sl,h'.get? b=some { o with slots:=sl }) (free:∀b o,b ∉ ch->s.heap.get? b=some o->H b=none->H' b=none)
  (there:∀b o,b ∉ ch->s.heap.get? b=some o->∃o',h'.get? b=some o')
  (tups:∀b xs,H b=some (.tup xs)->H' b=some (.tup xs)) (frzs:∀b o u,H b=some (.frz o u)->H' b=some (.frz o u)) (tbls:∀b ps,H b=some (.tbl ps)->∃more,H' b=some (.tbl (ps++more)))
  (ns:∀m,s.heap.Ns X.env.locals m->h'.Ns X.env.locals m) (hok:fP X.prog X.w H' h') (hg:AllBare g') :
  Inv X pins σ H' { s with heap:=h',gens:=g',drawn:=d',toks:=t' }:=by
 have neL:∀b o,X.s₀.heap.get? b=some o->b≠X.env.locals:=λb o e=>Zz (Zl (Zv e) I.ok.above)
 have neC:∀b o,X.s₀.heap.get? b=some o->b ∉ X.ex->b ∉ ch:=λb o e hx hb=>by
  rcases(hch b hb).1 with z | z
  ·exact hx z
  ·rw[z] at e;cases e
 have cellK:∀x c,X.env.cells.lookup x=some c->∀v,s.heap.IsCell c v->h'.IsCell c v:=λx c e v ⟨o,ho,hd⟩=>by
  have nch:c ∉ ch:=λz=>(hch c z).2.2.1 x c e rfl
  by_cases hc:c∈X.fs
  ·obtain⟨sl,q⟩:=slot c o (I.cne x c e) hc nch ho (I.freeC x c e);exact⟨_,q,hd⟩
  ·exact⟨o,keep c o (I.cne x c e) hc nch ho (I.freeC x c e),hd⟩
 refine⟨I.ok,I.os,hg,⟨λb o e n hb hx=>?_,λb o e n hb hx=>?_,λb o e n hx=>?_,λb o e hx=>?_,λb xs e=>tups b xs (I.base.tups b xs e),λb o xs e=>frzs b o xs (I.base.frzs b o xs e),λb ps e=>?_⟩, ?_,λx c e=>?_, ?_,λx c e=>?_,λp hp=>?_,hok,I.len⟩
 ·exact keep b o (neL b o e) hb (neC b o e hx) (I.base.keep b o e n hb hx) (I.base.free b o e n hx)
 ·obtain⟨sl,e1⟩:=I.base.slot b o e n hb hx;obtain⟨sl',e2⟩:=slot b _ (neL b o e) hb (neC b o e hx) e1 (I.base.free b o e n hx);exact⟨sl',e2⟩
 ·obtain⟨o',e1⟩:=I.base.there b o e hx;exact free b o' (neC b o e hx) e1 (I.base.free b o e n hx)
 ·obtain⟨o',e1⟩:=I.base.there b o e hx;exact there b o' (neC b o e hx) e1
 ·obtain⟨m1,e1⟩:=I.base.tbls b ps e;obtain⟨m2,e2⟩:=tbls b _ e1;exact⟨m1++m2,by rw[e2,Array.append_assoc]⟩
 ·obtain⟨m,hn,hl⟩:=I.loc;refine⟨m,ns m hn,λi x v e1 e2 e3=>?_⟩;obtain⟨u,r,l⟩:=hl i x v e1 e2 e3;refine⟨u,r, ?_⟩;rcases l with l | ⟨k,c,e,z⟩
  ·exact .inl l
  ·exact .inr ⟨k,c,e,cellK x c e _ z⟩
 ·obtain⟨v,z⟩:=I.cell x c e;exact⟨v,cellK x c e v z⟩
 ·obtain⟨m,⟨o,_,_,ho,_⟩,_⟩:=I.loc;exact free _ o (λz=>(hch _ z).2.1 rfl) ho I.free
 ·obtain⟨v,o,ho,hd⟩:=I.cell x c e;exact free c o (λz=>(hch c z).2.2.1 x c e rfl) ho (I.freeC x c e)
 ·obtain⟨e,n,ne,nf,d⟩:=I.pin p hp;have nch:p.1 ∉ ch:=λz=>(hch p.1 z).2.2.2 p hp rfl
  exact⟨keep p.1 p.2 ne nf nch e n,free p.1 p.2 nch e n,ne,nf,d⟩
theorem Inv.un{t':Nat}(I:Inv X pins σ H s)(u:Un X.fs [] H H' s.heap h')(hok:fP X.prog X.w H' h'):Inv X pins σ H' { s with heap:=h',toks:=t' }:=by
 obtain⟨m,⟨o,es,ep,ho,r⟩,_⟩:=id I.loc;obtain⟨sl,hL⟩:=u.any ho I.free (by simp)
 exact I.step (g':=s.gens) (d':=s.drawn) (ch:=[]) (λ_ z=>nomatch z) (λb o _ hb _ e n=>u.keep b o e n hb (by simp)) (λb o _ hb _ e n=>u.slot b o e n hb (by simp)) (λb o _ e n=>u.free b o e n (by simp)) (λb o _ e=>u.there b o e (by simp)) u.tups u.frzs u.tbls (λm' hm=>by
  obtain⟨o',es',ep',ho',r'⟩:=hm;rw[ho] at ho';cases ho'
  exact⟨_,es',ep',hL,r'⟩) hok I.bare
theorem Inv.call{g':Array GenState}{t':Nat}{d':Drawn}{ch:List Addr}(I:Inv X pins σ H s)(u:Un (f7 X.stack) ch H H' s.heap h')(hok:fP X.prog X.w H' h')(hg:AllBare g')
  (hch:∀b∈ch,(b∈X.ex\/X.s₀.heap.get? b=none)/\b≠X.env.locals/\(∀x c,X.env.cells.lookup x=some c->c≠b)/\∀p∈X.pn++pins,p.1≠b) :
  Inv X pins σ H' { s with heap:=h',gens:=g',drawn:=d',toks:=t' }:=by
 obtain⟨m,⟨o,es,ep,ho,r⟩,_⟩:=id I.loc;obtain⟨sl,hL⟩:=u.any ho I.free λz=>(hch _ z).2.1 rfl
 exact I.step (ch:=ch) hch (λb o hL hb hc e n=>u.keep b o e n (λz=>(List.mem_cons.mp (I.stkSub b z)).elim hL hb) hc) (λb o _ _ hc e n=>u.any e n hc) (λb o hc e n=>u.free b o e n hc) (λb o hc e=>u.there b o e hc) u.tups u.frzs u.tbls (λm' hm=>by
  obtain⟨o',es',ep',ho',r'⟩:=hm;rw[ho] at ho';cases ho'
  exact⟨_,es',ep',hL,r'⟩) hok hg
theorem Inv.turned{t':Nat}{it:Addr}(I:Inv X pins σ H s)(k:∀b o,b≠it->s.heap.get? b=some o->h'.get? b=some o)(hn:H it=none)(hL:it≠X.env.locals)
  (h1:it∈X.ex\/X.s₀.heap.get? it=none) (h2:∀x c,X.env.cells.lookup x=some c->c≠it) (h3:∀p∈X.pn++pins,p.1≠it):Inv X pins σ H { s with heap:=h',toks:=t' }:=by
 have nit:∀b u,H b=some u->b≠it:=λb u e z=>by rw[z,hn] at e;cases e
 refine I.step (g':=s.gens) (d':=s.drawn) (ch:=[it]) (λb hb=>?_) (λb o _ _ hc e _=>k b o (λz=>hc (by simp[z])) e) (λb o _ _ hc e _=>⟨o.slots,k b o (λz=>hc (by simp[z])) e⟩) (λ_ _ _ _ n=>n)
  (λb o hc e=>⟨o,k b o (λz=>hc (by simp[z])) e⟩) (λ_ _ e=>e) (λ_ _ _ e=>e) (λb ps e=>⟨#[],by rw[e];simp⟩) (λm hm=>?_) (λb u e=>?_) I.bare
 ·have e:b=it:=by simpa using hb
  subst e;exact⟨h1,hL,h2,h3⟩
 ·obtain⟨o,es,ep,ho,r⟩:=hm;exact⟨o,es,ep,k _ o (Ne.symm hL) ho,r⟩
 ·refine(I.hok b u e).stay (λc v hc q=>k c v ?_ q) (λ_ q=>q) λ_ _ q=>q
  rcases hc with z | z
  ·rw[z];exact nit b u e
  ·exact nit c _ z
theorem Inv.tok(I:Inv X pins σ H s)(t:Nat):Inv X pins σ H { s with toks:=t }:=I.un (h':=s.heap) (t':=t) Un.refl I.hok
theorem Inv.kept{t':Nat}(I:Inv X pins σ H s)(k:∀b u,s.heap.get? b=some u->h'.get? b=some u):Inv X pins σ H { s with heap:=h',toks:=t' }:=I.un (Un.kept k) (I.hok.kept k)
theorem Inv.laid{a:Addr}{o:HO}{t':Nat}(I:Inv X pins σ H s)(k:∀b u,s.heap.get? b=some u->h'.get? b=some u)(hp:s.heap.objs.size<=a)(new:dA X.prog X.w (aP H a o) h' a o) :
  Inv X pins σ (aP H a o) { s with heap:=h',toks:=t' }:=I.un (Un.laid k hp (I.hok.fresh hp)) (I.hok.laid k hp new)
theorem Inv.write{x e:Addr}{o:HO}{t':Nat}(I:Inv X pins σ H s)(mu:MF (H x))(he:e=x\/H e=some (.own x))(k:∀b u,b≠e->s.heap.get? b=some u->h'.get? b=some u)(heo:∃u,h'.get? e=some u)
  (new:dA X.prog X.w (aP H x o) h' x o):Inv X pins σ (aP H x o) { s with heap:=h',toks:=t' }:=I.un (Un.write mu he k heo) (I.hok.write mu he k heo new)
theorem Inv.pins_of{pins':List (Addr×Obj)}(I:Inv X pins σ H s)(h:∀p∈pins',s.heap.get? p.1=some p.2/\H p.1=none/\p.1≠X.env.locals/\p.1 ∉ X.fs/\∀v,p.2.data≠.cell v):Inv X pins' σ H s :=
 ⟨I.ok,I.os,I.bare,I.base,I.loc,I.cell,I.free,I.freeC,λp hp=>(zo.mp hp).elim (λz=>I.pin p (List.mem_append_left _ z)) (h p),I.hok,I.len⟩
theorem v8{N:List Str}(hN:N.Nodup){i j:Nat}{x:Str}(a:N[i]?=some x)(b:N[j]?=some x):i=j:=by
 obtain⟨h1,e1⟩:=Zc.mp a;obtain⟨h2,e2⟩:=Zc.mp b;exact(List.getElem_inj hN).mp (e1.trans e2.symm)
theorem AI{M:Model}{A:Around}{E:Value->Shared->Prop}{i:Nat}{x:Str}{v:V}{u:Value}{Q:Unit->Shared->Prop}(I:Inv X pins σ H s)(hN:X.N.Nodup)(hi:X.N[i]?=some x)(hx:rZ X.env.scope x)(r:aU v u)
  (h:∀s',Inv X pins (σ.set i (some v)) H s'->(∃a,Heap.SameBut a s.heap s'.heap/\(a=X.env.locals\/X.env.cells.lookup x=some a))->Q () s') (hf:X.fn x=true\/X.env.scope.names.lookup x=some .local:=by first | exact .inl rfl | exact .inr rfl | assumption):wpAny M A (storeName X.env x u) Q E s:=by
 obtain⟨m,hn,hl⟩:=id I.loc;have hcls:(X.env.scope.kind==.class||(X.env.scope.kind==.module&&X.env.locals != X.env.globals))=false:=by rw[I.ok.kind];rfl
 have hiσ:i<σ.length:=by rw[I.len];exact(Zc.mp hi).1
 have cne:=I.cne
 have tracked:∀{a:Addr} {h':Heap},(∃o,s.heap.get? a=some o/\H a=none)->Heap.SameBut a s.heap h'->fP X.prog X.w H h':=λ{a h'} ha hs b ob e=>by
  obtain⟨_,_,hfree⟩:=ha;refine(I.hok b ob e).stay (λc w' hc q=>(hs.2 c ?_).trans q) (λ_ q=>q) λ_ _ q=>q
  rintro rfl
  rcases hc with rfl | hc
  ·rw[hfree] at e;cases e
  ·rw[hfree] at hc;cases hc
 rcases hx with hk | hk
 ·refine wpAny_storeName_local hk hn (λh' hn' hs=>?_) hcls;obtain⟨oL,_,_,hoL,_⟩:=id hn;refine h _ ⟨I.ok,I.os,I.bare,⟨λb o e n hb hx=>?_,λb o e n hb hx=>?_,I.base.free,λb o e hx=>?_,I.base.tups,I.base.frzs,I.base.tbls⟩,⟨_,hn',λj y v' e1 e2 e3=>?_⟩,λy c e=>?_,I.free,I.freeC,λp hp=>?_,tracked ⟨oL,hoL,I.free⟩ hs,by simpa using I.len⟩ ⟨_,hs,.inl rfl⟩
  ·exact(hs.2 b (Zz (Zl (Zv e) I.ok.above))).trans (I.base.keep b o e n hb hx)
  ·obtain⟨sl,e1⟩:=I.base.slot b o e n hb hx;exact⟨sl,(hs.2 b (Zz (Zl (Zv e) I.ok.above))).trans e1⟩
  ·obtain⟨o',e1⟩:=I.base.there b o e hx;exact⟨o',(hs.2 b (Zz (Zl (Zv e) I.ok.above))).trans e1⟩
  ·by_cases hj:j=i
   ·subst hj;rw[hi] at e1;cases e1;rw[zk hiσ] at e2;cases e2;exact⟨u,r,.inl ⟨hk,by simp⟩⟩
   ·rw[Zf (Ne.symm hj)] at e2;obtain⟨u',r',q⟩:=hl j y v' e1 e2 e3;refine⟨u',r', ?_⟩;rcases q with ⟨k,e⟩ | ⟨k,c,e,z⟩
    ·refine .inl ⟨k, ?_⟩
     have:y≠x:=λe=>hj (v8 hN e1 (e ▸ hi))
     simp[this,e]
    ·exact .inr ⟨k,c,e,z.sameBut hs (cne y c e)⟩
  ·obtain⟨w',z⟩:=I.cell y c e;exact⟨w',z.sameBut hs (cne y c e)⟩
  ·obtain⟨e,n,ne,nf,d⟩:=I.pin p hp;exact⟨(hs.2 p.1 ne).trans e,n,ne,nf,d⟩
 ·have hfn:X.fn x=true:=by
   rcases hf with z | z
   ·exact z
   ·rw[z] at hk;cases hk
  obtain⟨c,hc⟩:=I.ok.has x (.inl hk);obtain⟨w',z⟩:=I.cell x c hc;refine wpAny_storeName_cell I.ok.kind hk hc z (λh' hc' hs=>?_);obtain⟨oc,hoc,hocd⟩:=id z;refine h { s with heap:=h' } ⟨I.ok,I.os,I.bare,⟨λb o e n hb hx=>?_,λb o e n hb hx=>?_,I.base.free,λb o e hx=>?_,I.base.tups,I.base.frzs,I.base.tbls⟩,⟨m,hn.sameBut hs (Ne.symm (cne x c hc)),λj y v' e1 e2 e3=>?_⟩,λy c' e=>?_,I.free,I.freeC,λp hp=>?_,tracked ⟨oc,hoc,I.freeC x c hc⟩ hs,by simpa using I.len⟩ ⟨c,hs,.inr hc⟩
  ·exact(hs.2 b (Zz (Zl (Zv e) (I.ok.cab x c hfn hc)))).trans (I.base.keep b o e n hb hx)
  ·obtain⟨sl,e1⟩:=I.base.slot b o e n hb hx;exact⟨sl,(hs.2 b (Zz (Zl (Zv e) (I.ok.cab x c hfn hc)))).trans e1⟩
  ·obtain⟨o',e1⟩:=I.base.there b o e hx;exact⟨o',(hs.2 b (Zz (Zl (Zv e) (I.ok.cab x c hfn hc)))).trans e1⟩
  ·by_cases hj:j=i
   ·subst hj;rw[hi] at e1;cases e1;rw[zk hiσ] at e2;cases e2;exact⟨u,r,.inr ⟨.inl hk,c,hc,hc'⟩⟩
   ·rw[Zf (Ne.symm hj)] at e2;obtain⟨u',r',q⟩:=hl j y v' e1 e2 e3;refine⟨u',r', ?_⟩;rcases q with q | ⟨k,c',e,z'⟩
    ·exact .inl q
    ·refine .inr ⟨k,c',e,z'.sameBut hs ?_⟩
     rintro rfl
     exact hj (v8 hN e1 (I.ok.inj _ _ _ e hc ▸ hi))
  ·by_cases hcc:c'=c
   ·subst hcc;exact⟨_,hc'⟩
   ·obtain⟨w2,z2⟩:=I.cell y c' e;exact⟨w2,z2.sameBut hs hcc⟩
  ·obtain⟨e,n,ne,nf,d⟩:=I.pin p hp;refine⟨(hs.2 p.1 ?_).trans e,n,ne,nf,d⟩;intro q;rw[q,hoc] at e;have q':oc=p.2:=Option.some.inj e;exact d w' (by rw[<- q'];exact hocd)
theorem vI{M:Model}{A:Around}{E:Value->Shared->Prop}{i:Nat}{x:Str}{v:V}{u:Value}{Q:Unit->Shared->Prop}(I:Inv X pins σ H s)(hN:X.N.Nodup)(hi:X.N[i]?=some x)(hx:rZ X.env.scope x)(r:aU v u)
  (h:∀s',Inv X pins (σ.set i (some v)) H s'->Q () s') (hf:X.fn x=true\/X.env.scope.names.lookup x=some .local:=by first | exact .inl rfl | exact .inr rfl | assumption):wpAny M A (storeName X.env x u) Q E s :=
 AI I hN hi hx r (λs' I' _=>h s' I') hf
theorem Inv.call'{s':Shared}{ch:List Addr}(I:Inv X pins σ H s)(ho:s'.os=s.os)(u:Un (f7 X.stack) ch H H' s.heap s'.heap)(hok:fP X.prog X.w H' s'.heap)(hg:AllBare s'.gens)
  (hch:∀b∈ch,(b∈X.ex\/X.s₀.heap.get? b=none)/\b≠X.env.locals/\(∀x c,X.env.cells.lookup x=some c->c≠b)/\∀p∈X.pn++pins,p.1≠b):Inv X pins σ H' s':=by
 obtain⟨h',g',d',t',o'⟩:=s';have e:o'=s.os:=ho;subst e;exact I.call (g':=g') (t':=t') (d':=d') u hok hg hch
end
abbrev XK:=Value->Option Addr->Hp->Prop
abbrev St:=List (Option V)
abbrev VK:=V->Hp->Prop
abbrev TE:=St->Hp->VK->Prop
abbrev TT:=St->Hp->(Bool->Hp->Prop)->Prop
abbrev TA:=St->Hp->(List V->Hp->Prop)->Prop
structure Ends where
 nx:St->Hp->Prop
 rt:VK
 bk:St->Hp->Prop:=λ_ _=>False
 ct:St->Hp->Prop:=λ_ _=>False
abbrev TS:=Ends->St->Hp->Prop
def EP(X:Cx)(pins:List (Addr×Obj))(σ:St)(Q:VK)(u:Value)(s':Shared):Prop:=∃v H',Inv X pins σ H' s'/\aU v u/\Q v H'
def TP(X:Cx)(pins:List (Addr×Obj))(σ:St)(Q:Bool->Hp->Prop)(b:Bool)(s':Shared):Prop:=∃H',Inv X pins σ H' s'/\Q b H'
def AP(X:Cx)(pins:List (Addr×Obj))(σ:St)(Q:List V->Hp->Prop)(us:List Value)(s':Shared):Prop:=∃vs H',Inv X pins σ H' s'/\aL vs us/\Q vs H'
def SP(X:Cx)(pins:List (Addr×Obj))(D:Ends)(f:Flow)(s':Shared):Prop :=
 match f with
 |.next=>∃σ' H',Inv X pins σ' H' s'/\D.nx σ' H'
 |.brk=>∃σ' H',Inv X pins σ' H' s'/\D.bk σ' H'
 |.cont=>∃σ' H',Inv X pins σ' H' s'/\D.ct σ' H'
 |.ret u=>∃v σ' H',Inv X pins σ' H' s'/\aU v u/\D.rt v H'
def PE(X:Cx)(e:Expr)(t:TE):Prop :=
 ∀(pins:List (Addr×Obj)) (s:Shared) (σ:St) (H:Hp) (Q:VK),Inv X pins σ H s->t σ H Q->wpAny (model X.prog X.w) X.A (eval e X.env) (EP X pins σ Q) X.xe s
def PT(X:Cx)(e:Expr)(t:TT):Prop :=
 ∀(pins:List (Addr×Obj)) (s:Shared) (σ:St) (H:Hp) (Q:Bool->Hp->Prop),Inv X pins σ H s->t σ H Q->wpAny (model X.prog X.w) X.A (isTrue e X.env (eval e X.env)) (TP X pins σ Q) X.xe s
def PW(X:Cx)(e:Expr)(t:TT):Prop :=
 ∀(whole:Sem Value) (pins:List (Addr×Obj)) (s:Shared) (σ:St) (H:Hp) (Q:Bool->Hp->Prop),Inv X pins σ H s->t σ H Q->wpAny (model X.prog X.w) X.A (isTrue e X.env whole) (TP X pins σ Q) X.xe s
theorem PW.pt{X:Cx}{e:Expr}{t:TT}(h:PW X e t):PT X e t:=h _
def PA(X:Cx)(es:List Expr)(t:TA):Prop :=
 ∀(pos:Pos) (pins:List (Addr×Obj)) (s:Shared) (σ:St) (H:Hp) (Q:List V->Hp->Prop),Inv X pins σ H s->t σ H Q->wpAny (model X.prog X.w) X.A (spliced (backTo pos (starEach es X.env))) (AP X pins σ Q) X.xe s
def PS(X:Cx)(st:Stmt)(t:TS):Prop :=
 ∀(pins:List (Addr×Obj)) (s:Shared) (σ:St) (H:Hp) (D:Ends),Inv X pins σ H s->t D σ H->wpAny (model X.prog X.w) X.A (exec st X.env) (SP X pins D) X.xe s
def dR(X:Cx)(st:List Stmt)(t:TS):Prop :=
 ∀(pins:List (Addr×Obj)) (s:Shared) (σ:St) (H:Hp) (D:Ends),Inv X pins σ H s->t D σ H->wpAny (model X.prog X.w) X.A (execs st X.env) (SP X pins D) X.xe s
theorem bA{α:Type}{t:Sem α}{Q Q':α->Shared->Prop}{M:Model}{A:Around}{E:Value->Shared->Prop}{s:Shared}(h:wpAny M A t Q E s)(hQ:∀a s,Q a s->Q' a s):wpAny M A t Q' E s:=wpAny_mono h hQ λ_ _ x=>x
section
variable{X:Cx}
theorem bin{a b:Expr}{ta tb:TE}(ha:PE X a ta)(hb:PE X b tb){pins:List (Addr×Obj)}{s:Shared}{σ:St}{H:Hp}{R:V->V->Hp->Prop}(I:Inv X pins σ H s)(h:ta σ H λx H1=>tb σ H1 λy H2=>R x y H2)
  {α:Type} {Q:α->Shared->Prop} {f:Value->Value->Sem α}
  (hf:∀v u s2 x y H2,Inv X pins σ H2 s2->aU x v->aU y u->R x y H2->wpAny (model X.prog X.w) X.A (f v u) Q X.xe s2) :
  wpAny (model X.prog X.w) X.A (eval a X.env) (λv s₁=>wpAny (model X.prog X.w) X.A (eval b X.env) (λu s₂=>wpAny (model X.prog X.w) X.A (f v u) Q X.xe s₂) X.xe s₁) X.xe s:=by
 refine bA (ha pins s σ H _ I h) λv s1 ⟨x,H1,I1,r1,q1⟩=>?_
 refine bA (hb pins s1 σ H1 _ I1 q1) λu s2 ⟨y,H2,I2,r2,q2⟩=>?_
 exact hf v u s2 x y H2 I2 r1 r2 q2
def vL(i:Nat):TE:=λσ H Q=>∃v,σ[i]?=some (some v)/\Q v H
def tC(v:V):TE:=λ_ H Q=>Q v H
theorem BW{i:Nat}{x:Str}{pos:Pos}(hN:X.N[i]?=some x)(hv:LU X.env.scope x)(hd:(x==("__debug__":Str))=false:=by decide)(hcd:(x==("__classdict__":Str))=false:=by decide):PE X (.Name x pos) (vL i):=by
 intro pins s σ H Q I h;obtain⟨v,e,h⟩:=h;obtain⟨m,hn,hl⟩:=I.loc;obtain⟨u,r,l⟩:=hl i x v hN e hv;have fin:EP X pins σ Q u s:=⟨v,H,I,r,h⟩
 rcases l with ⟨hk,hm⟩ | ⟨hk,c,hc,hcell⟩
 ·exact wpAny_Name (wpAny_loadName_local I.ok.kind hk hn hm fin) hd
 ·rcases hk with hk | hk
  ·exact wpAny_Name (wpAny_loadName_cell I.ok.kind hk hc hcell fin) hd
  ·exact wpAny_Name (wpAny_loadName_free I.ok.kind hk hc hcell fin hcd) hd
theorem LS{i j pos}:PE X (.Constant (.int i) j pos) (tC (.int i)):=λ_ _ _ H _ I h=>wpAny_Constant_int ⟨.int i,H,I.tok _,⟨_,rfl⟩,h⟩
theorem aE2{b j pos}:PE X (.Constant (.bool b) j pos) (tC (.bl b)):=λ_ _ _ H _ I h=>Constant_bool ⟨.bl b,H,I,rfl,h⟩
theorem aB6{j pos}:PE X (.Constant .none j pos) (tC .non):=λ_ _ _ H _ I h=>Constant_none ⟨.non,H,I,rfl,h⟩
theorem aA9{x j pos}:PE X (.Constant (.str x) j pos) (tC (.str x)):=λ_ _ _ H _ I h=>Calls.Constant_str ⟨.str x,H,I.tok _,⟨_,rfl⟩,h⟩
def Gl(X:Cx)(x:Str):Prop:=X.env.kindOf x=some .globalImplicit
theorem kU{E:Value->Shared->Prop}{pins:List (Addr×Obj)}{s:Shared}{σ:St}{H:Hp}{x:Str}{u:Value}{pos:Pos}{Q:Value->Shared->Prop}(I:Inv X pins σ H s)(hg:Gl X x)(hm:X.mg x=some u)(h:Q u s)
  (hd:(x==("__debug__":Str))=false:=by decide):wpAny (model X.prog X.w) X.A (eval (.Name x pos) X.env) Q E s :=
 Calls.Name_function_global I.ok.kind hg (Calls.loadGlobal_global (by rw[I.ok.glob];exact I.mod.glob.keeps I.bk) hm h) hd
theorem lT{E:Value->Shared->Prop}{pins:List (Addr×Obj)}{s:Shared}{σ:St}{H:Hp}{x:Str}{u:Value}{pos:Pos}{Q:Value->Shared->Prop}(I:Inv X pins σ H s)(hg:Gl X x)(hm:X.mg x=none)(hv:bootBuiltins x=some u)(h:Q u s)
  (hn:x≠"__name__":=by decide) (hd:(x==("__debug__":Str))=false:=by decide):wpAny (model X.prog X.w) X.A (eval (.Name x pos) X.env) Q E s:=by
 obtain⟨mb,h1,h2⟩:=I.mod.blt;exact Calls.Name_function_global I.ok.kind hg (Calls.loadGlobal_builtin (by rw[I.ok.glob];exact I.mod.glob.keeps I.bk) hm (by rw[I.ok.blt];exact h1.keeps I.bk) ((h2 x hn).trans hv) h) hd
theorem zI{x:Str}{v:V}{u:Value}{pos:Pos}(hg:Gl X x)(hm:X.mg x=some u)(r:aU v u)(hd:(x==("__debug__":Str))=false:=by decide):PE X (.Name x pos) (tC v) :=
 λ_ _ _ H _ I h=>kU I hg hm ⟨v,H,I,r,h⟩ hd
theorem kX{x:Str}{v:V}{u:Value}{pos:Pos}(hg:Gl X x)(hm:X.mg x=none)(hv:bootBuiltins x=some u)(r:aU v u)(hn:x≠"__name__":=by decide)(hd:(x==("__debug__":Str))=false:=by decide):PE X (.Name x pos) (tC v) :=
 λ_ _ _ H _ I h=>lT I hg hm hv ⟨v,H,I,r,h⟩ hn hd
variable{a b:Expr}{ta tb:TE}{pos:Pos}
variable{tA tB':TT}{dU:List Expr}
def YY(t u:TT):TT:=λσ H Q=>t σ H λc H1=>if c=true then u σ H1 Q else Q false H1
def tOr(t u:TT):TT:=λσ H Q=>t σ H λc H1=>if c=true then Q true H1 else u σ H1 Q
def aGg(t:TT):TT:=λσ H Q=>t σ H λc H1=>Q (!c) H1
theorem T2(ha:PT X a tA):PW X (.BoolOp .And [a] pos) tA:=by
 intro wh pins s σ H Q I h;refine isTrue_and (bA (ha pins s σ H Q I h) λc s1 e=>?_)
 cases c with
 |true=>exact isTrue_and_nil e
 |false=>exact e
theorem aAb(ha:PT X a tA):PW X (.BoolOp .Or [a] pos) tA:=by
 intro wh pins s σ H Q I h;refine isTrue_or (bA (ha pins s σ H Q I h) λc s1 e=>?_)
 cases c with
 |false=>exact isTrue_or_nil e
 |true=>exact e
theorem aBz(ha:PT X a tA)(hb:PW X (.BoolOp .And (b::dU) pos) tB'):PW X (.BoolOp .And (a::b::dU) pos) (YY tA tB'):=by
 intro wh pins s σ H Q I h;refine isTrue_and (bA (ha pins s σ H _ I h) λc s1 ⟨H1,I1,q1⟩=>?_)
 cases c with
 |true=>exact hb wh pins s1 σ H1 Q I1 q1
 |false=>exact⟨H1,I1,q1⟩
theorem aDB(ha:PT X a tA)(hb:PW X (.BoolOp .Or (b::dU) pos) tB'):PW X (.BoolOp .Or (a::b::dU) pos) (tOr tA tB'):=by
 intro wh pins s σ H Q I h;refine isTrue_or (bA (ha pins s σ H _ I h) λc s1 ⟨H1,I1,q1⟩=>?_)
 cases c with
 |true=>exact⟨H1,I1,q1⟩
 |false=>exact hb wh pins s1 σ H1 Q I1 q1
theorem aCR(ha:PT X a tA):PT X (.UnaryOp .Not a pos) (aGg tA):=by
 intro pins s σ H Q I h;exact isTrue_not (ha pins s σ H (λc H1=>Q (!c) H1) I h)
noncomputable def TU(ta tb:TE):TE:=λσ H Q=>ta σ H λx H1=>∃c,x=.bl c/\if c=true then tb σ H1 Q else Q (.bl false) H1
noncomputable def aBI(ta tb:TE):TE:=λσ H Q=>ta σ H λx H1=>∃c,x=.bl c/\if c=true then Q (.bl true) H1 else tb σ H1 Q
theorem LA{op}{t:TE}(h:PE X a t):PE X (.BoolOp op [a] pos) t:=λpins s σ H Q I hw=>BoolOp_one (h pins s σ H Q I hw)
theorem aA5(ha:PE X a ta)(hb:PE X (.BoolOp .And (b::dU) pos) tb):PE X (.BoolOp .And (a::b::dU) pos) (TU ta tb):=by
 intro pins s σ H Q I h;refine BoolOp_and (bA (ha pins s σ H _ I h) λv s1 ⟨x,H1,I1,r1,q1⟩=>?_);obtain⟨c,rfl,q1⟩:=q1;cases r1;refine wpAny_truthy_bool ?_
 cases c with
 |true=>exact hb pins s1 σ H1 Q I1 q1
 |false=>exact⟨.bl false,H1,I1,rfl,q1⟩
theorem J4(ha:PE X a ta)(hb:PE X (.BoolOp .Or (b::dU) pos) tb):PE X (.BoolOp .Or (a::b::dU) pos) (aBI ta tb):=by
 intro pins s σ H Q I h;refine BoolOp_or (bA (ha pins s σ H _ I h) λv s1 ⟨x,H1,I1,r1,q1⟩=>?_);obtain⟨c,rfl,q1⟩:=q1;cases r1;refine wpAny_truthy_bool ?_
 cases c with
 |false=>exact hb pins s1 σ H1 Q I1 q1
 |true=>exact⟨.bl true,H1,I1,rfl,q1⟩
end
def bY(K:Frag)(H:Hp)(a:Addr)(xs:List V):Prop :=
 Rd H a (.lst xs) \/
  ∃(o:Obj) (its:Array Value) (n:Nat),K.lookup a=some o/\o.cls=.type "list"/\o.dict=none/\o.data=.seq its n/\its.size<=sizeLine/\aL xs its.toList
def cN(K:Frag)(H:Hp)(a:Addr)(xs:List V):Prop :=
 Rd H a (.tup xs) \/
  ∃(o:Obj) (its:Array Value) (n:Nat),K.lookup a=some o/\o.cls=.type "tuple"/\o.data=.seq its n/\its.size<=sizeLine/\aL xs its.toList
noncomputable def aFX:Value->Option V
 |.none=>some .non
 |.bool b=>some (.bl b)
 |.int i _=>some (.int i)
 |.str x _=>some (.str x)
 |.bytes b _=>some (.byt b)
 |.float b _=>some (.flt b)
 |.ref a=>some (.ref a)
 |.type n=>some (.ty n)
 |_=>none
theorem aU.abs{x:V}{u:Value}(r:aU x u):aFX u=some x:=by
 cases x with
 |non=>cases r;rfl
 |bl _=>cases r;rfl
 |int _=>obtain⟨t,rfl⟩:=r;rfl
 |str _=>obtain⟨t,rfl⟩:=r;rfl
 |byt _=>obtain⟨t,rfl⟩:=r;rfl
 |flt _=>obtain⟨t,rfl⟩:=r;rfl
 |ref _=>cases r;rfl
 |ty _=>cases r;rfl
theorem aU.inj{x y:V}{u:Value}(r:aU x u)(q:aU y u):x=y:=Option.some.inj (r.abs.symm.trans q.abs)
theorem aL.inj:∀{xs ys:List V} {us:List Value},aL xs us->aL ys us->xs=ys
 |_,_,_,.nil,.nil=>rfl
 |_,_,_,.cons r t,.cons r' t'=>by rw[r.inj r',aL.inj t t']
section
variable{X:Cx}{pins:List (Addr×Obj)}{σ:St}{H:Hp}{s:Shared}{a:Addr}{xs ys:List V}
theorem bY.of{K:Frag}(h:H a=some (.lst xs)):bY K H a xs:=.inl (.inl h)
theorem cN.of{K:Frag}(h:H a=some (.tup xs)):cN K H a xs:=.inl (.inl h)
theorem Inv.list(I:Inv X pins σ H s)(h:bY X.K H a xs):∃its:List Value,aL xs its/\PlainL s.heap a its.toArray/\xs.length<=sizeLine:=by
 rcases h with h | ⟨o,its,n,hk,hc,hd,hs,hz,r⟩
 ·obtain⟨z,its,n,r,e⟩:=h.ok I.hok;exact⟨its,r,⟨_,n,e,rfl,rfl,rfl⟩,z⟩
 ·refine⟨its.toList,r,⟨o,n,I.kIn a o hk,hc,hd,by simpa using hs⟩, ?_⟩;have e:=r.length;simp only[Array.length_toList] at e;omega
theorem Inv.tuple(I:Inv X pins σ H s)(h:cN X.K H a xs):∃its:List Value,aL xs its/\IsTup s.heap a its.toArray/\xs.length<=sizeLine:=by
 rcases h with h | ⟨o,its,n,hk,hc,hs,hz,r⟩
 ·obtain⟨z,its,r,p⟩:=h.ok I.hok;exact⟨its,r,p,z⟩
 ·refine⟨its.toList,r,⟨o,I.kIn a o hk,hc,n,by simpa using hs⟩, ?_⟩;have e:=r.length;simp only[Array.length_toList] at e;omega
theorem Inv.list_inj(I:Inv X pins σ H s)(h:bY X.K H a xs)(h':bY X.K H a ys):xs=ys:=by
 obtain⟨its,r,⟨o,n,e,_,_,d⟩,_⟩:=I.list h;obtain⟨its',r',⟨o',n',e',_,_,d'⟩,_⟩:=I.list h';rw[e] at e';cases e';rw[d] at d'
 injection d' with d1 _
 have:its=its':=by simpa using congrArg Array.toList d1
 subst this;exact r.inj r'
theorem Inv.tuple_inj(I:Inv X pins σ H s)(h:cN X.K H a xs)(h':cN X.K H a ys):xs=ys:=by
 obtain⟨its,r,⟨o,e,_,n,d⟩,_⟩:=I.tuple h;obtain⟨its',r',⟨o',e',_,n',d'⟩,_⟩:=I.tuple h';rw[e] at e';cases e';rw[d] at d'
 injection d' with d1 _
 have:its=its':=by simpa using congrArg Array.toList d1
 subst this;exact r.inj r'
end
abbrev Cx.wish(X:Cx)(E:Value->Shared->Prop):Cx:={ X with xe:=E }
abbrev Cx.nox(X:Cx):Cx:=X.wish λ_ _=>False
theorem Cx.Ok.wish{X:Cx}(ok:X.Ok)(E:Value->Shared->Prop):(X.wish E).Ok :=
 ⟨ok.mod,ok.kind,ok.glob,ok.blt,ok.above,ok.inj,ok.has,ok.cab,ok.hd,ok.frames,ok.stk,ok.exf,ok.bs,ok.bsz,ok.noex,ok.exfs,ok.funs,ok.frf⟩
theorem Cx.Ok.unwish{X:Cx}{E:Value->Shared->Prop}(ok:(X.wish E).Ok):X.Ok :=
 ⟨ok.mod,ok.kind,ok.glob,ok.blt,ok.above,ok.inj,ok.has,ok.cab,ok.hd,ok.frames,ok.stk,ok.exf,ok.bs,ok.bsz,ok.noex,ok.exfs,ok.funs,ok.frf⟩
section
variable{X:Cx}{pins:List (Addr×Obj)}{σ:St}{H:Hp}{s:Shared}{E:Value->Shared->Prop}
theorem Inv.wish(I:Inv X pins σ H s)(E:Value->Shared->Prop):Inv (X.wish E) pins σ H s:=⟨I.ok.wish E,I.os,I.bare,I.base,I.loc,I.cell,I.free,I.freeC,I.pin,I.hok,I.len⟩
theorem Inv.unwish(I:Inv (X.wish E) pins σ H s):Inv X pins σ H s:=⟨I.ok.unwish,I.os,I.bare,I.base,I.loc,I.cell,I.free,I.freeC,I.pin,I.hok,I.len⟩
theorem SP.unwish{D:Ends}{f:Flow}{s':Shared}(h:SP (X.wish E) pins D f s'):SP X pins D f s':=by
 cases f with
 |next=>obtain⟨σ',H',I,q⟩:=h;exact⟨σ',H',I.unwish,q⟩
 |brk=>obtain⟨σ',H',I,q⟩:=h;exact⟨σ',H',I.unwish,q⟩
 |cont=>obtain⟨σ',H',I,q⟩:=h;exact⟨σ',H',I.unwish,q⟩
 |ret u=>obtain⟨v,σ',H',I,r,q⟩:=h;exact⟨v,σ',H',I.unwish,r,q⟩
theorem dR.nox{st:List Stmt}{t:TS}(h:dR X.nox st t):dR X st t:=λpins s σ H D I hw =>
 wpAny_mono (h pins s σ H D (I.wish _) hw) (λ_ _ q=>q.unwish) λ_ _ z=>False.elim z
end
section
variable{X:Cx}{st:Stmt}{dU:List Stmt}{t u:TS}{e:Expr}{te:TE}{pos:Pos}
def JN:TS:=λD σ H=>D.nx σ H
def aGu(t u:TS):TS:=λD σ H=>t { D with nx:=u D } σ H
theorem GW:dR X [] JN:=λ_ _ σ H _ I h=>wpAny_execs_nil ⟨σ,H,I,h⟩
theorem wH(h1:PS X st t)(h2:dR X dU u):dR X (st::dU) (aGu t u):=by
 intro pins s σ H D I h;refine wpAny_execs_cons (bA (h1 pins s σ H { D with nx:=u D } I h) λf s1 q=>?_)
 cases f with
 |next =>
  obtain⟨σ',H',I',q⟩:=q;exact h2 pins s1 σ' H' D I' q
 |ret v=>exact q
 |brk=>exact q
 |cont=>exact q
def aAR:TS:=λD σ H=>D.bk σ H
def aDg:TS:=λD σ H=>D.ct σ H
theorem WV:PS X (.Pass pos) JN:=λ_ _ σ H _ I h=>wpAny_Pass ⟨σ,H,I,h⟩
theorem PZ:PS X (.Break pos) aAR:=λ_ _ σ H _ I h=>wpAny_Break ⟨σ,H,I,h⟩
theorem EY:PS X (.Continue pos) aDg:=λ_ _ σ H _ I h=>wpAny_Continue ⟨σ,H,I,h⟩
theorem Inv.quiet{pins:List (Addr×Obj)}{σ:St}{H:Hp}{s:Shared}(I:Inv X pins σ H s):interactive X.env=false:=by simp[interactive,I.ok.kind]
def aDM(te:TE):TS:=λD σ H=>te σ H λ_ H1=>D.nx σ H1
theorem FQ(he:PE X e te)(hs:swapsWith e none pos.line X.env=pure false:=by rfl):PS X (.Expr e pos) (aDM te):=by
 intro pins s σ H D I h;exact wpAny_Expr_any (bA (he pins s σ H _ I h) λv s1 ⟨x,H1,I1,r1,q1⟩=>⟨σ,H1,I1,q1⟩) I.quiet hs
def aGk(te:TE):TS:=λD σ H=>te σ H D.rt
theorem DM(he:PE X e te):PS X (.Return (some e) pos) (aGk te):=by
 intro pins s σ H D I h;exact wpAny_Return_some (bA (he pins s σ H _ I h) λv s1 ⟨x,H1,I1,r1,q1⟩=>⟨x,σ,H1,I1,r1,q1⟩)
def aD0:TS:=λD _ H=>D.rt .non H
theorem V5:PS X (.Return none pos) aD0:=λ_ _ σ H _ I h=>wpAny_Return_none ⟨.non,σ,H,I,rfl,h⟩
def aFL(c:TT)(t u:TS):TS:=λD σ H=>c σ H λb H1=>if b=true then t D σ H1 else u D σ H1
theorem R9{c:Expr}{a b:List Stmt}{tc:TT}(hc:PT X c tc)(ha:dR X a t)(hb:dR X b u):PS X (.If c a b pos) (aFL tc t u):=by
 intro pins s σ H D I h;refine wpAny_If (bA (hc pins s σ H _ I h) λd s1 ⟨H1,I1,q1⟩=>?_)
 cases d with
 |true=>exact ha pins s1 σ H1 D I1 q1
 |false=>exact hb pins s1 σ H1 D I1 q1
end
abbrev TG:=V->St->Hp->(St->Hp->Prop)->Prop
abbrev zT:=List V->St->Hp->(St->Hp->Prop)->Prop
def PG(X:Cx)(target:Expr)(t:TG):Prop :=
 ∀(pins:List (Addr×Obj)) (s:Shared) (σ:St) (H:Hp) (v:V) (u:Value) (Q:St->Hp->Prop),Inv X pins σ H s->aU v u->t v σ H Q ->
  wpAny (model X.prog X.w) X.A (assign target X.env u) (λ_ s'=>∃σ' H',Inv X pins σ' H' s'/\Q σ' H') X.xe s
def xM(X:Cx)(ts:List Expr)(t:zT):Prop :=
 ∀(pins:List (Addr×Obj)) (s:Shared) (σ:St) (H:Hp) (vs:List V) (us:List Value) (Q:St->Hp->Prop),Inv X pins σ H s->aL vs us->t vs σ H Q ->
  wpAny (model X.prog X.w) X.A (assignInOrder ((assignEach ts X.env).map (·.2)) us) (λ_ s'=>∃σ' H',Inv X pins σ' H' s'/\Q σ' H') X.xe s
abbrev ED:=V->V->V->Hp->(Hp->Prop)->Prop
def QX(X:Cx)(t:ED):Prop :=
 ∀(pins:List (Addr×Obj)) (s:Shared) (σ:St) (H:Hp) (o i v:V) (ov iv u:Value) (Q:Hp->Prop),Inv X pins σ H s->aU o ov->aU i iv->aU v u->t o i v H Q ->
  wpAny (model X.prog X.w) X.A (setItem ov iv u) (λ_ s'=>∃H',Inv X pins σ H' s'/\Q H') X.xe s
section
variable{X:Cx}{pos:Pos}
def pO(i:Nat):TG:=λv σ H Q=>Q (σ.set i (some v)) H
theorem FJ{i:Nat}{x:Str}(hN:X.N.Nodup)(hi:X.N[i]?=some x)(hx:rZ X.env.scope x)(hf:X.fn x=true\/X.env.scope.names.lookup x=some .local:=by first | exact .inl rfl | exact .inr rfl | assumption):PG X (.Name x pos) (pO i):=by
 intro pins s σ H v u Q I r h;exact wpAny_assign_Name (vI I hN hi hx r (λs' I'=>⟨_,H,I',h⟩) hf)
def aFO:zT:=λvs σ H Q=>vs=[]/\Q σ H
def aEh(t:TG)(u:zT):zT:=λvs σ H Q=>∃v r,vs=v::r/\t v σ H λσ' H'=>u r σ' H' Q
theorem VL:xM X [] aFO:=by
 intro pins s σ H vs us Q I r h;obtain⟨e,h⟩:=h;subst e;cases r;exact assignInOrder_nil ⟨σ,H,I,h⟩
theorem QC{e:Expr}{es:List Expr}{t:TG}{u:zT}(h1:PG X e t)(h2:xM X es u)
  (hs:(assignEach (e::es) X.env).map (·.2)=assign e X.env::(assignEach es X.env).map (·.2):=by rfl):xM X (e::es) (aEh t u):=by
 intro pins s σ H vs us Q I r h;obtain⟨v,vr,e1,h⟩:=h;subst e1
 cases r with
 |cons r rr =>
  rw[hs];refine assignInOrder_cons (bA (h1 pins s σ H _ _ _ I r h) λ_ s1 ⟨σ1,H1,I1,q1⟩=>?_);exact h2 pins s1 σ1 H1 _ _ Q I1 rr q1
noncomputable def aGm(K:Frag)(n:Nat)(t:zT):TG:=λv σ H Q=>∃a xs,v=.ref a/\cN K H a xs/\xs.length=n/\t xs σ H Q
theorem ZE{es:List Expr}{k:Nat}{t:zT}{n:Nat}(hc:X.calm=true)(h:xM X es t)
  (hn:(assignEach es X.env).length=n:=by rfl) (hst:(assignEach es X.env).findIdx? (·.1)=none:=by rfl):PG X (.Tuple es k pos) (aGm X.K n t):=by
 intro pins s σ H v u Q I r hw;obtain⟨a,xs,e1,hq,hl,hw⟩:=hw;subst e1;cases r;obtain⟨its,rv,ht,hz⟩:=I.tuple hq;refine assign_Tuple_tuple (I.ok.hd hc) ht (by simp[hn,<- hl,rv.length]) hst λh' hx=>?_
 have I1:Inv X pins σ H { s with heap:=h' }:=I.kept (t':=s.toks) λb o e=>hx b o (Zz (Zv e)) e
 exact h pins _ σ H xs _ Q I1 (by simpa using rv) hw
def aGI(to ti:TE)(t:ED):TG:=λv σ H Q=>to σ H λo H1=>ti σ H1 λi H2=>t o i v H2 λH3=>Q σ H3
theorem aAY{o i:Expr}{to ti:TE}{t:ED}(ho:PE X o to)(hi:PE X i ti)(hs:QX X t)
  (ha:∀v,assign (.Subscript o i pos) X.env v=(do
   let ov <- holding [v] (eval o X.env)
   let iv <- holding [v,ov] (eval i X.env)
   standAt pos
   holding [v,ov,iv] (setItem ov iv v)
   release [v,ov,iv] []):=by intro _;rfl):PG X (.Subscript o i pos) (aGI to ti t):=by
 intro pins s σ H v u Q I r h;rw[ha];refine Zt (wpAny_holding (bA (ho pins s σ H _ I h) λov s1 ⟨x,H1,I1,r1,q1⟩=>?_));refine Zt (wpAny_holding (bA (hi pins s1 σ H1 _ I1 q1) λiv s2 ⟨y,H2,I2,r2,q2⟩=>?_));refine Zt (wpAny_standAt (Zt (wpAny_holding (bA (hs pins s2 σ H2 x y v ov iv u _ I2 r1 r2 r q2) λ_ s3 ⟨H3,I3,q3⟩=>?_))));exact wpAny_release ⟨σ,H3,I3,q3⟩
def IV(te:TE)(g:TG):TS:=λD σ H=>te σ H λx H1=>g x σ H1 D.nx
theorem xJ{tg e:Expr}{te:TE}{g:TG}(he:PE X e te)(hg:PG X tg g)(hs:swapsWithSole [tg] e pos.line X.env=pure false:=by rfl)(hw:swappedStores [tg] e X.env=pure none:=by rfl)
  (h1:(assignEach [tg] X.env).map (·.2)=[assign tg X.env]:=by rfl):PS X (.Assign [tg] e pos) (IV te g):=by
 intro pins s σ H D I h;refine wpAny_Assign_stores (bA (he pins s σ H _ I h) λv s1 ⟨x,H1,I1,r1,q1⟩=>?_) hs hw;rw[h1];exact bA (hg pins s1 σ H1 x v _ I1 r1 q1) λ_ s2 q=>q
theorem ZC{i:Nat}{x:Str}{e:Expr}{te:TE}{pos':Pos}(hN:X.N.Nodup)(hi:X.N[i]?=some x)(hx:rZ X.env.scope x)(he:PE X e te)(hs:swapsWith e (some (.Name x pos')) pos.line X.env=pure false:=by rfl)(hf:X.fn x=true\/X.env.scope.names.lookup x=some .local:=by first | exact .inl rfl | exact .inr rfl | assumption) :
  PS X (.Assign [.Name x pos'] e pos) (IV te (pO i)):=by
 intro pins s σ H D I h;refine wpAny_Assign_Name (bA (he pins s σ H _ I h) λv s1 ⟨y,H1,I1,r1,q1⟩=>?_) hs;exact vI I1 hN hi hx r1 (λs2 I2=>⟨_,H1,I2,q1⟩) hf
end
section
variable{X:Cx}{pos:Pos}
noncomputable def ZM(c:TT)(tb:TS):TS:=λD σ H=>∃W:Nat->St->Hp->Prop,(∃m,W m σ H)/\∀m σ H,W m σ H ->
 c σ H λb H1=>if b=true then ∃N:St->Hp->Prop,(∀σ' H',N σ' H'->∃m',m'<m/\W m' σ' H')/\tb { D with nx:=N,ct:=N,bk:=D.nx } σ H1 else D.nx σ H1
theorem CN{c:Expr}{body:List Stmt}{tc:TT}{tb:TS}(hp:PassesOwn (model X.prog X.w) X.A X.env X.xe)(hc:PT X c tc)(hb:dR X body tb):PS X (.While c body [] pos) (ZM tc tb):=by
 intro pins s σ H D I h;obtain⟨W,⟨m0,w0⟩,turn⟩:=h;refine wpAny_While (codeAny_whileLoop (λn s'=>∃σ' H',Inv X pins σ' H' s'/\W n σ' H') ?_ m0 ⟨σ,H,I,w0⟩)
 rintro n s1 ⟨σ1,H1,I1,w1⟩
 refine wpAny_passesOwn hp (bA (hc pins s1 σ1 H1 _ I1 (turn n σ1 H1 w1)) λb s2 ⟨H2,I2,q2⟩=>?_)
 cases b with
 |true =>
  obtain⟨N,hN,q2⟩:=q2;rw[Zo rfl];refine wpAny_passesOwn hp (bA (hb pins s2 σ1 H2 _ I2 q2) λf s3 q3=>?_)
  cases f with
  |next =>
   obtain⟨σ3,H3,I3,n3⟩:=q3;obtain⟨m',hm,w3⟩:=hN σ3 H3 n3;exact⟨m',hm,σ3,H3,I3,w3⟩
  |cont =>
   obtain⟨σ3,H3,I3,n3⟩:=q3;obtain⟨m',hm,w3⟩:=hN σ3 H3 n3;exact⟨m',hm,σ3,H3,I3,w3⟩
  |brk=>exact q3
  |ret v=>exact q3
 |false =>
  rw[Zp Bool.false_ne_true];exact wpAny_execs_nil ⟨σ1,H2,I2,q2⟩
end
structure It where
 go:Nat->Hp->Prop
 yld:Nat->Hp->V->Hp->Prop
 stop:Nat->Hp->Prop
def dQ(X:Cx)(pins:List (Addr×Obj))(H:Hp)(b:Addr):Prop :=
 H b=none/\b≠X.env.locals/\b ∉ X.fs/\(b∈X.ex\/X.s₀.heap.get? b=none)/\(∀x c,X.env.cells.lookup x=some c->c≠b)/\∀p∈X.pn++pins,p.1≠b
theorem Inv.fpOk{X:Cx}{pins:List (Addr×Obj)}{σ:St}{H H':Hp}{s:Shared}{b:Addr}(I:Inv X pins σ H s)(hb:s.heap.objs.size<=b)(hn:H' b=none):dQ X pins H' b:=by
 refine⟨hn,Nat.ne_of_gt (Zl I.lt hb),I.nofs hb,.inr (Heap.get?_none_of_le (Zr I.sz hb)),λx c e z=>?_,λp hp z=>?_⟩
 ·obtain⟨v,q⟩:=I.cell x c e;exact absurd (Zl q.lt (by rw[z];exact hb)) (Nat.lt_irrefl _)
 ·exact absurd (Zl (Zv (I.pin p hp).1) (by rw[z];exact hb)) (Nat.lt_irrefl _)
structure Turn(P:Program)(w:World)(K:Frag)(tg:Expr)(J:It)(fp:List Addr)(it:Addr)(tn:Nat->Heap->Prop):Prop where
 mem:it∈fp
 obj:∀i h,tn i h->∀b∈fp,∃o,h.get? b=some o/\∀v,o.data≠.cell v
 keep:∀i h h',tn i h->(∀b∈fp,∀o,h.get? b=some o->h'.get? b=some o)->tn i h'
 item:∀(X:Cx),X.prog=P->X.w=w->X.K=K->X.calm=true->∀(i:Nat) (pins:List (Addr×Obj)) (s:Shared) (σ:St) (H:Hp) (E:Value->Shared->Prop),Inv X pins σ H s->(∀b∈fp,dQ X pins H b)->tn i s.heap->J.go i H ->
  wpAny (model P w) X.A (pyNext (.ref it)) (λr s1=>∃u,r=some u /\
   wpAny (model P w) X.A (letOwnedTupleGo tg (.ref it) u) (λ_ s2=>∃x H',Inv X pins σ H' s2/\aU x u/\J.yld i H x H'/\tn (i+1) s2.heap/\∀b∈fp,H' b=none) E s1) E s
 done:∀(X:Cx),X.prog=P->X.w=w->X.K=K->X.calm=true->∀(i:Nat) (pins:List (Addr×Obj)) (s:Shared) (σ:St) (H:Hp) (E:Value->Shared->Prop),Inv X pins σ H s->(∀b∈fp,dQ X pins H b)->tn i s.heap->J.stop i H ->
  wpAny (model P w) X.A (pyNext (.ref it)) (λr s1=>r=none/\Inv X pins σ H s1) E s
 self:∀(A:Around) (i:Nat) (s:Shared) (Q:Value->Shared->Prop) (E:Value->Shared->Prop),tn i s.heap->Q (.ref it) s->wpAny (model P w) A (pyIter (.ref it)) Q E s
abbrev TI:=St->Hp->(It->Hp->Prop)->Prop
def PIE(X:Cx)(pins:List (Addr×Obj))(σ:St)(tg:Expr)(R:It->Hp->Prop)(itv:Value)(s2:Shared):Prop :=
 ∃(it:Addr) (fp:List Addr) (tn:Nat->Heap->Prop) (J:It) (H':Hp),itv=.ref it/\Inv X pins σ H' s2/\Turn X.prog X.w X.K tg J fp it tn/\tn 0 s2.heap/\(∀b∈fp,dQ X pins H' b)/\R J H'
def PI(X:Cx)(tg iter:Expr)(wi:TI):Prop :=
 ∀(pins:List (Addr×Obj)) (s:Shared) (σ:St) (H:Hp) (R:It->Hp->Prop),Inv X pins σ H s->wi σ H R ->
  wpAny (model X.prog X.w) X.A (eval iter X.env) (λv s1=>wpAny (model X.prog X.w) X.A (pyIter v) (PIE X pins σ tg R) X.xe s1) X.xe s
theorem JT{M:Model}{A:Around}{E:Value->Shared->Prop}{s:Shared}{tg:Expr}{it:Addr}{u:Value}{o:Obj}{n:String}{vs:Array Value}{Q:Unit->Shared->Prop}(ho:s.heap.get? it=some o)(hc:o.cls=.type n)(hd:o.data=.fields vs)
  (hn:["enumerate","zip","dict_itemiterator","dict_reverseitemiterator","odict_iterator","itertools.zip_longest","itertools.pairwise"].contains n=false) (hQ:Q () s):wpAny M A (letOwnedTupleGo tg (.ref it) u) Q E s:=by
 unfold letOwnedTupleGo
 cases tg<;>first
  |exact Zu hQ
  | (cases u<;>first
    |exact Zu hQ
    | (refine Zt (wpAny_load ho ?_)
       rw[hc,hd];show wpAny M A (if(["enumerate","zip","dict_itemiterator","dict_reverseitemiterator","odict_iterator","itertools.zip_longest","itertools.pairwise"].contains n&&vs[0]? == some (rawInt _))=true then _ else _) Q E s;rw[Zp (by intro h;rw[hn,Bool.false_and] at h;cases h)]
       exact Zu hQ))
noncomputable def nE(K:Frag)(a:Addr):It :=
 ⟨λi H=>∃xs x,bY K H a xs/\xs[i]?=some x,λi H x H'=>H'=H/\∀xs,bY K H a xs->xs[i]?=some x,λi H=>∃xs,bY K H a xs/\xs.length<=i⟩
noncomputable def nG(K:Frag)(a:Addr):It :=
 ⟨λi H=>∃xs x,cN K H a xs/\xs[i]?=some x,λi H x H'=>H'=H/\∀xs,cN K H a xs->xs[i]?=some x,λi H=>∃xs,cN K H a xs/\xs.length<=i⟩
def lK(lo:Int)(n:Nat):It:=⟨λi _=>i<n,λi H x H'=>H'=H/\x=.int (lo+i),λi _=>n<=i⟩
theorem NO{P:Program}{w:World}{K:Frag}{tg:Expr}(a it:Addr):Turn P w K tg (nE K a) [it] it (λi h=>h.IsListIter it a i) where
 mem:=by simp
 obj:=λi h st b hb=>by
  have e:b=it:=by simpa using hb
  subst e;obtain⟨o,e,c,d⟩:=st;exact⟨o,e,λv z=>by rw[d] at z;cases z⟩
 keep:=λi h h' st k=>st.at λo e=>k it (by simp) o e
 item:=by
  intro X hP hw hK hc i pins s σ H E I hf st hg;subst hP hw hK;obtain⟨xs,x,hq,hx⟩:=hg;obtain⟨its,rv,p,hz⟩:=I.list hq;obtain⟨u,hu,ru⟩:=rv.get hx;obtain⟨f0,f1,f2,f3,f4,f5⟩:=hf it (by simp);refine wpAny_pyNext_list_item st p.isList (x:=u) (by simpa using hu) λh' st' sb=>?_
  have I1:Inv X pins σ H { s with heap:=h' }:=I.turned (t':=s.toks) (λb o hb e=>(sb.2 b hb).trans e) f0 f1 f3 f4 f5;obtain⟨o,e,c,d⟩:=id st';exact⟨u,rfl,JT (s:={ s with heap:=h' }) e c d (by decide) ⟨x,H,I1,ru,⟨rfl,λys hy=>by rw[I.list_inj hy hq];exact hx⟩,st',λb hb=>(hf b hb).1⟩⟩
 done:=by(intro X hP hw hK hc i pins s σ H E I hf st hg;subst hP hw hK;obtain⟨xs,hq,hx⟩:=hg;obtain⟨its,rv,p,hz⟩:=I.list hq;obtain⟨f0,f1,f2,f3,f4,f5⟩:=hf it (by simp);have hl:=rv.length;exact wpAny_pyNext_list_end (I.ok.hd hc) st p.isList (by simp;omega) λh' eb=>⟨rfl,I.turned (t':=s.toks) (λb o hb e=>eb b o hb e) f0 f1 f3 f4 f5⟩)
 self:=λ_ _ _ _ _ st h=>wpAny_pyIter_listiter st h
theorem ID{P:Program}{w:World}{K:Frag}{tg:Expr}(a it:Addr):Turn P w K tg (nG K a) [it] it (λi h=>h.IsTupleIter it a i) where
 mem:=by simp
 obj:=λi h st b hb=>by
  have e:b=it:=by simpa using hb
  subst e;obtain⟨o,e,c,d⟩:=st;exact⟨o,e,λv z=>by rw[d] at z;cases z⟩
 keep:=λi h h' st k=>st.at λo e=>k it (by simp) o e
 item:=by
  intro X hP hw hK hc i pins s σ H E I hf st hg;subst hP hw hK;obtain⟨xs,x,hq,hx⟩:=hg;obtain⟨its,rv,p,hz⟩:=I.tuple hq;obtain⟨u,hu,ru⟩:=rv.get hx;obtain⟨f0,f1,f2,f3,f4,f5⟩:=hf it (by simp);refine wpAny_pyNext_tuple_item st (show s.heap.IsTuple a its.toArray from p) (x:=u) (by simpa using hu) λh' st' sb=>?_
  have I1:Inv X pins σ H { s with heap:=h' }:=I.turned (t':=s.toks) (λb o hb e=>(sb.2 b hb).trans e) f0 f1 f3 f4 f5;obtain⟨o,e,c,d⟩:=id st';exact⟨u,rfl,JT (s:={ s with heap:=h' }) e c d (by decide) ⟨x,H,I1,ru,⟨rfl,λys hy=>by rw[I.tuple_inj hy hq];exact hx⟩,st',λb hb=>(hf b hb).1⟩⟩
 done:=by(intro X hP hw hK hc i pins s σ H E I hf st hg;subst hP hw hK;obtain⟨xs,hq,hx⟩:=hg;obtain⟨its,rv,p,hz⟩:=I.tuple hq;obtain⟨f0,f1,f2,f3,f4,f5⟩:=hf it (by simp);have hl:=rv.length;exact wpAny_pyNext_tuple_end (I.ok.hd hc) st (show s.heap.IsTuple a its.toArray from p) (by simp;omega) λh' eb=>⟨rfl,I.turned (t':=s.toks) (λb o hb e=>eb b o hb e) f0 f1 f3 f4 f5⟩)
 self:=λ_ _ _ _ _ st h=>wpAny_pyIter_tupleiter st h
theorem HQ{P:Program}{w:World}{K:Frag}{tg:Expr}(it:Addr)(lo:Int)(n:Nat):Turn P w K tg (lK lo n) [it] it (λi h=>IsRangeIter h it (lo+(i:Nat)*1) ((n:Int)-(i:Nat)) 1) where
 mem:=by simp
 obj:=λi h st b hb=>by
  have e:b=it:=by simpa using hb
  subst e
  exact⟨_,st,λv z=>by
   have z':Data.fields _=Data.cell v:=z
   cases z'⟩
 keep:=λi h h' st k=>k it (by simp) _ st
 item:=by
  intro X hP hw hK hc i pins s σ H E I hf st hg;subst hP hw hK;obtain⟨f0,f1,f2,f3,f4,f5⟩:=hf it (by simp);have W:=Walks.range (prog:=X.prog) (w:=X.w) (I.ok.hd hc) it lo 1 n;refine W.item i s _ _ hg st λv h' tk hv st' kk=>?_
  obtain⟨t,rfl⟩:=hv;have I1:Inv X pins σ H { s with heap:=h',toks:=tk }:=I.turned (λb o hb e=>kk b o (by simpa using hb) e) f0 f1 f3 f4 f5;refine⟨_,rfl,JT (s:={ s with heap:=h',toks:=tk }) (n:="range_iterator") st' rfl rfl (by decide) ⟨.int (lo+i),H,I1,⟨t, ?_⟩,⟨rfl,rfl⟩,st',λb hb=>(hf b hb).1⟩⟩;rw[Int.mul_one]
 done:=by(intro X hP hw hK hc i pins s σ H E I hf st hg;subst hP hw hK;obtain⟨f0,f1,f2,f3,f4,f5⟩:=hf it (by simp);exact wpAny_pyNext_range_end (I.ok.hd hc) st (by have:n<=i:=hg;omega) λh' eb=>⟨rfl,I.turned (t':=s.toks) (λb o hb e=>eb b o hb e) f0 f1 f3 f4 f5⟩)
 self:=λ_ _ _ _ _ st h=>wpAny_pyIter_rangeiter st h
section
variable{X:Cx}{tg:Expr}
noncomputable def TX(K:Frag)(tl:TE):TI:=λσ H R=>tl σ H λx H1=>∃a,x=.ref a/\(∃xs,bY K H1 a xs)/\R (nE K a) H1
noncomputable def aAG(K:Frag)(tl:TE):TI:=λσ H R=>tl σ H λx H1=>∃a,x=.ref a/\(∃xs,cN K H1 a xs)/\R (nG K a) H1
theorem GN{l:Expr}{tl:TE}(hl:PE X l tl):PI X tg l (TX X.K tl):=by
 intro pins s σ H R I h;refine bA (hl pins s σ H _ I h) λv s1 ⟨x,H1,I1,r1,q1⟩=>?_
 obtain⟨a,e,⟨xs,hq⟩,q⟩:=q1;subst e;cases r1;obtain⟨its,rv,p,hz⟩:=I1.list hq;refine wpAny_pyIter_list p.isList ?_;refine⟨s1.heap.objs.size,[s1.heap.objs.size],_,_,H1,rfl,I1.kept (t':=s1.toks) λb o e=>Zd _ e,NO a _,⟨_,Zw _ rfl,rfl,rfl⟩,λb hb=>?_,q⟩;have e:b=s1.heap.objs.size:=by simpa using hb
 subst e;exact I1.fpOk (Zq _) (I1.hok.fresh (Zq _))
theorem LQ{l:Expr}{tl:TE}(hl:PE X l tl):PI X tg l (aAG X.K tl):=by
 intro pins s σ H R I h;refine bA (hl pins s σ H _ I h) λv s1 ⟨x,H1,I1,r1,q1⟩=>?_
 obtain⟨a,e,⟨xs,hq⟩,q⟩:=q1;subst e;cases r1;obtain⟨its,rv,p,hz⟩:=I1.tuple hq;refine wpAny_pyIter_tuple (show s1.heap.IsTuple a its.toArray from p) ?_;refine⟨s1.heap.objs.size,[s1.heap.objs.size],_,_,H1,rfl,I1.kept (t':=s1.toks) λb o e=>Zd _ e,ID a _,⟨_,Zw _ rfl,rfl,rfl⟩,λb hb=>?_,q⟩;have e:b=s1.heap.objs.size:=by simpa using hb
 subst e;exact I1.fpOk (Zq _) (I1.hok.fresh (Zq _))
theorem DE{pins:List (Addr×Obj)}{σ:St}{H:Hp}{s:Shared}{R:It->Hp->Prop}{E:Value->Shared->Prop}{lo hi:Int}{t u v:Tok}{tk:Nat}(I:Inv X pins σ H s)(h1:-(2 ^ 62)<=lo)(h2:lo<2 ^ 62)(h3:-(2 ^ 62)<=hi)(h4:hi<2 ^ 62)
  (q:R (lK lo (hi-lo).toNat) H):wpAny (model X.prog X.w) X.A (pyIter (.ref s.heap.objs.size)) (PIE X pins σ tg R) E { s with heap:=s.heap.push { cls:=.type "range",data:=.fields #[.int lo t,.int hi u,.int 1 v] },toks:=tk }:=by
 refine wpAny_pyIter_range (IsRange.new ..) (small_one h1 h2 h3 h4) ?_;have I1:Inv X pins σ H { s with heap:=s.heap.push { cls:=.type "range",data:=.fields #[.int lo t,.int hi u,.int 1 v] },toks:=tk }:=I.kept λb o e=>Zd _ e
 refine⟨(s.heap.push { cls:=.type "range",data:=.fields #[.int lo t,.int hi u,.int 1 v] }).objs.size,[(s.heap.push { cls:=.type "range",data:=.fields #[.int lo t,.int hi u,.int 1 v] }).objs.size],_,_,H,rfl,
  I1.kept (t':=tk) λb o e=>Zd _ e,HQ _ lo (hi-lo).toNat, ?_,λb hb=>?_,q⟩
 ·have e1:lo+((0:Nat):Int)*1=lo:=by simp
  have e2:(((hi-lo).toNat:Nat):Int)-((0:Nat):Int)=Builtin.Range.rangeSize lo hi 1:=by rw[rangeSize_one];split<;>omega
  show IsRangeIter _ _ (lo+((0:Nat):Int)*1) ((((hi-lo).toNat:Nat):Int)-((0:Nat):Int)) 1;rw[e1,e2];exact Zw _ rfl
 ·have e:b=(s.heap.push { cls:=.type "range",data:=.fields #[.int lo t,.int hi u,.int 1 v] }).objs.size:=by simpa using hb
  subst e;exact I1.fpOk (Zq _) (I1.hok.fresh (Zq _))
noncomputable def TY(ta:TA):TI:=λσ H R=>ta σ H λvs H1=>∃j:Int,vs=[.int j]/\-(2 ^ 62)<=j/\j<2 ^ 62/\R (lK 0 j.toNat) H1
noncomputable def R6(ta:TA):TI:=λσ H R=>ta σ H λvs H1=>∃i j:Int,vs=[.int i,.int j]/\(-(2 ^ 62)<=i/\i<2 ^ 62/\-(2 ^ 62)<=j/\j<2 ^ 62)/\R (lK i (j-i).toNat) H1
theorem zR{a:Expr}{ta:TA}{p pos:Pos}(hg:Gl X "range")(hm:X.mg "range"=none)(ha:PA X [a] ta)(hs:starEach [a] X.env=[(false,eval a X.env)]:=by rfl):PI X tg (.Call (.Name "range" p) [a] [] pos) (TY ta):=by
 intro pins s σ H R I h;refine Call_ (lT I hg hm boot_range (PyProof.Rows.callWith_type1 (bA (ha pos pins s σ H _ I h) λus s1 ⟨vs,H1,I1,r1,q1⟩=>?_) hs rfl));obtain⟨j,e,q1,q2,q⟩:=q1;subst e
 cases r1 with
 |cons r rr =>
  cases rr;obtain⟨t,rfl⟩:=r;exact call_range_1 (DE I1 (by omega) (by omega) q1 q2 (by simpa using q))
theorem AJ{a b:Expr}{ta:TA}{p pos:Pos}(hg:Gl X "range")(hm:X.mg "range"=none)(ha:PA X [a,b] ta)(hs:starEach [a,b] X.env=[(false,eval a X.env),(false,eval b X.env)]:=by rfl)(hs2:starEach [b] X.env=[(false,eval b X.env)]:=by rfl) :
  PI X tg (.Call (.Name "range" p) [a,b] [] pos) (R6 ta):=by
 intro pins s σ H R I h;refine Call_ (lT I hg hm boot_range (PyProof.Rows.callWith_type1 (bA (ha pos pins s σ H _ I h) λus s1 ⟨vs,H1,I1,r1,q1⟩=>?_) (by rw[hs,hs2]) (by rw[hs2];rfl)));obtain⟨i,j,e,⟨q1,q2,q3,q4⟩,q⟩:=q1;subst e
 cases r1 with
 |cons r rr =>
  cases rr with
  |cons r' rr =>
   cases rr;obtain⟨t,rfl⟩:=r;obtain⟨t',rfl⟩:=r';exact call_range_2 (DE I1 q1 q2 q3 q4 q)
noncomputable def aFM(wi:TI)(g:TG)(tb:TS):TS:=λD σ H=>wi σ H λJ H1=>∃W:Nat->Nat->St->Hp->Prop,(∃m,W 0 m σ H1)/\∀i m σ H,W i m σ H ->
 (J.stop i H/\D.nx σ H)\/(J.go i H/\∃N:St->Hp->Prop,(∀σ' H',N σ' H'->∃m',m'<m/\W (i+1) m' σ' H')/\∀x H',J.yld i H x H'->g x σ H' λσ2 H2=>tb { D with nx:=N,ct:=N,bk:=D.nx } σ2 H2)
def sO(fp:List Addr)(h:Heap):List (Addr×Obj):=fp.filterMap λb=>(h.get? b).map λo=>(b,o)
theorem kQ{fp:List Addr}{h:Heap}{b:Addr}{o:Obj}(hb:b∈fp)(e:h.get? b=some o):(b,o)∈sO fp h:=List.mem_filterMap.mpr ⟨b,hb,by rw[e];rfl⟩
theorem KL{fp:List Addr}{h:Heap}{p:Addr×Obj}(hp:p∈sO fp h):p.1∈fp/\h.get? p.1=some p.2:=by
 obtain⟨b,hb,e⟩:=List.mem_filterMap.mp hp
 cases q:h.get? b with
 |none=>rw[q] at e;cases e
 |some o =>
  rw[q] at e;have e':(b,o)=p:=Option.some.inj e;subst e';exact⟨hb,q⟩
theorem Inv.pinned{pins:List (Addr×Obj)}{σ:St}{H:Hp}{s:Shared}{fp:List Addr}(I:Inv X pins σ H s)(hf:∀b∈fp,dQ X pins H b)(ho:∀b∈fp,∃o,s.heap.get? b=some o/\∀v,o.data≠.cell v):Inv X (pins++sO fp s.heap) σ H s :=
 I.pins_of λp hp=>(zo.mp hp).elim (λz=>I.pin p (List.mem_append_right _ z)) λz=>by(obtain⟨hb,e⟩:=KL z;obtain⟨f0,f1,f2,_⟩:=hf p.1 hb;obtain⟨o,e',d⟩:=ho p.1 hb;rw[e] at e';cases e';exact⟨e,f0,f1,f2,d⟩)
theorem Inv.unpinned{pins pl:List (Addr×Obj)}{σ:St}{H:Hp}{s:Shared}(I:Inv X (pins++pl) σ H s):Inv X pins σ H s:=I.pins_of λp hp=>I.pin p (List.mem_append_right _ (List.mem_append_left _ hp))
theorem aAD{iter:Expr}{body:List Stmt}{wi:TI}{g:TG}{tb:TS}{pos:Pos}(hp:PassesOwn (model X.prog X.w) X.A X.env X.xe)(hc:X.calm=true)(hi:PI X tg iter wi)(hg:PG X tg g)(hb:dR X body tb)
  (hs:∀x,foldedSetIterable iter X.env x=pure x:=by intro _;rfl):PS X (.For tg iter body [] pos) (aFM wi g tb):=by
 intro pins s σ H D I h;refine wpAny_For (bA (hi pins s σ H _ I h) λv s1 h1=>bA h1 λitv s2 h2=>?_) hs;obtain⟨it,fp,tn,J,H2,e,I2,T,sF,f2,W,⟨m0,w0⟩,turn⟩:=h2;subst e
 -- what stays true of the iterator's objects through the loop
 have stat:∀{H':Hp},(∀b∈fp,H' b=none)->∀b∈fp,dQ X pins H' b:=λhn b hb=>⟨hn b hb,(f2 b hb).2⟩
 refine codeAny_forLoop_any (λn s'=>∃i σ' H',Inv X pins σ' H' s'/\tn i s'.heap/\(∀b∈fp,H' b=none)/\W i n σ' H') ?_ m0 ⟨0,σ,H2,I2,sF,λb hb=>(f2 b hb).1,w0⟩
 rintro n s3 ⟨i,σ3,H3,I3,st3,fr3,w3⟩
 rcases turn i n σ3 H3 w3 with ⟨stop,qn⟩ | ⟨go,N,hN,step⟩
 ·refine wpAny_passesOwn hp (bA (T.done X rfl rfl rfl hc i pins s3 σ3 H3 X.xe I3 (stat fr3) st3 stop) λr s4 ⟨hr,I4⟩=>?_);subst hr;exact wpAny_execs_nil ⟨σ3,H3,I4,qn⟩
 ·refine wpAny_passesOwn hp (bA (T.item X rfl rfl rfl hc i pins s3 σ3 H3 X.xe I3 (stat fr3) st3 go) λr s4 ⟨u,hr,h4⟩=>?_);subst hr;refine wpAny_passesOwn hp (bA h4 λ_ s5 ⟨x,H5,I5,r5,y5,st5,fr5⟩=>?_);have I5':=I5.pinned (stat fr5) (T.obj _ _ st5);refine wpAny_passesOwn hp (bA (hg _ s5 σ3 H5 x u _ I5' r5 (step x H5 y5)) λ_ s6 ⟨σ6,H6,I6,q6⟩=>?_);refine wpAny_passesOwn hp (bA (hb _ s6 σ6 H6 _ I6 q6) λf s7 q7=>?_)
  have again:∀{σ7:St} {H7:Hp},Inv X (pins++sO fp s5.heap) σ7 H7 s7->N σ7 H7->∃m,m<n/\∃i σ' H',Inv X pins σ' H' s7/\tn i s7.heap/\(∀b∈fp,H' b=none)/\W i m σ' H':=λ{σ7 H7} I7 n7=>by(obtain⟨m',hm,w7⟩:=hN σ7 H7 n7;refine⟨m',hm,i+1,σ7,H7,I7.unpinned,T.keep _ _ _ st5 λb hb o e=>(I7.pin (b,o) (List.mem_append_right _ (List.mem_append_right _ (kQ hb e)))).1,λb hb=>?_,w7⟩;obtain⟨o,e,d⟩:=T.obj _ _ st5 b hb;exact(I7.pin (b,o) (List.mem_append_right _ (List.mem_append_right _ (kQ hb e)))).2.1)
  cases f with
  |next=>obtain⟨σ7,H7,I7,n7⟩:=q7;exact again I7 n7
  |cont=>obtain⟨σ7,H7,I7,n7⟩:=q7;exact again I7 n7
  |brk=>obtain⟨σ7,H7,I7,q7⟩:=q7;exact⟨σ7,H7,I7.unpinned,q7⟩
  |ret v=>obtain⟨x7,σ7,H7,I7,r7,q7⟩:=q7;exact⟨x7,σ7,H7,I7.unpinned,r7,q7⟩
end
theorem NZ{K:Frag}{a:Addr}{xs:List V}{g:TG}{tb:TS}{D:Ends}{σ:St}{H:Hp}(Pv:Nat->St->Hp->Prop)(h0:Pv 0 σ H)(hl:∀i σ H,i<=xs.length->Pv i σ H->bY K H a xs)
  (hs:∀i x σ H,xs[i]?=some x->Pv i σ H->g x σ H λσ2 H2=>tb { D with nx:=Pv (i+1),ct:=Pv (i+1),bk:=D.nx } σ2 H2) (hd:∀σ H,Pv xs.length σ H->D.nx σ H) :
  ∃W:Nat->Nat->St->Hp->Prop,(∃m,W 0 m σ H)/\∀i m σ H,W i m σ H ->
   ((nE K a).stop i H/\D.nx σ H)\/((nE K a).go i H/\∃N:St->Hp->Prop,(∀σ' H',N σ' H'->∃m',m'<m/\W (i+1) m' σ' H')/\∀x H',(nE K a).yld i H x H'->g x σ H' λσ2 H2=>tb { D with nx:=N,ct:=N,bk:=D.nx } σ2 H2):=by
 refine⟨λi m σ H=>m=xs.length-i/\i<=xs.length/\Pv i σ H,⟨xs.length,by simp,Nat.zero_le _,h0⟩, ?_⟩
 rintro i m σ H ⟨rfl,hi,p⟩
 have q:=hl i σ H hi p;by_cases hlt:i<xs.length
 ·refine .inr ⟨⟨xs,xs[i],q,by simp[hlt]⟩,Pv (i+1),λσ' H' p'=>⟨xs.length-(i+1),by omega,rfl,hlt,p'⟩,λx H' y=>?_⟩;obtain⟨e,y⟩:=y;subst e;exact hs i x σ _ (y xs q) p
 ·have e:i=xs.length:=by omega
  subst e;exact .inl ⟨⟨xs,q,Zq _⟩,hd σ H p⟩
theorem VB{K:Frag}{a:Addr}{xs:List V}{g:TG}{tb:TS}{D:Ends}{σ:St}{H:Hp}(Pv:Nat->St->Hp->Prop)(h0:Pv 0 σ H)(hl:∀i σ H,i<=xs.length->Pv i σ H->cN K H a xs)
  (hs:∀i x σ H,xs[i]?=some x->Pv i σ H->g x σ H λσ2 H2=>tb { D with nx:=Pv (i+1),ct:=Pv (i+1),bk:=D.nx } σ2 H2) (hd:∀σ H,Pv xs.length σ H->D.nx σ H) :
  ∃W:Nat->Nat->St->Hp->Prop,(∃m,W 0 m σ H)/\∀i m σ H,W i m σ H ->
   ((nG K a).stop i H/\D.nx σ H)\/((nG K a).go i H/\∃N:St->Hp->Prop,(∀σ' H',N σ' H'->∃m',m'<m/\W (i+1) m' σ' H')/\∀x H',(nG K a).yld i H x H'->g x σ H' λσ2 H2=>tb { D with nx:=N,ct:=N,bk:=D.nx } σ2 H2):=by
 refine⟨λi m σ H=>m=xs.length-i/\i<=xs.length/\Pv i σ H,⟨xs.length,by simp,Nat.zero_le _,h0⟩, ?_⟩
 rintro i m σ H ⟨rfl,hi,p⟩
 have q:=hl i σ H hi p;by_cases hlt:i<xs.length
 ·refine .inr ⟨⟨xs,xs[i],q,by simp[hlt]⟩,Pv (i+1),λσ' H' p'=>⟨xs.length-(i+1),by omega,rfl,hlt,p'⟩,λx H' y=>?_⟩;obtain⟨e,y⟩:=y;subst e;exact hs i x σ _ (y xs q) p
 ·have e:i=xs.length:=by omega
  subst e;exact .inl ⟨⟨xs,q,Zq _⟩,hd σ H p⟩
theorem MH{lo:Int}{n:Nat}{g:TG}{tb:TS}{D:Ends}{σ:St}{H:Hp}(Pv:Nat->St->Hp->Prop)(h0:Pv 0 σ H)
  (hs:∀i σ H,i<n->Pv i σ H->g (.int (lo+i)) σ H λσ2 H2=>tb { D with nx:=Pv (i+1),ct:=Pv (i+1),bk:=D.nx } σ2 H2) (hd:∀σ H,Pv n σ H->D.nx σ H) :
  ∃W:Nat->Nat->St->Hp->Prop,(∃m,W 0 m σ H)/\∀i m σ H,W i m σ H ->
   ((lK lo n).stop i H/\D.nx σ H)\/((lK lo n).go i H/\∃N:St->Hp->Prop,(∀σ' H',N σ' H'->∃m',m'<m/\W (i+1) m' σ' H')/\∀x H',(lK lo n).yld i H x H'->g x σ H' λσ2 H2=>tb { D with nx:=N,ct:=N,bk:=D.nx } σ2 H2):=by
 refine⟨λi m σ H=>m=n-i/\i<=n/\Pv i σ H,⟨n,by simp,Nat.zero_le _,h0⟩, ?_⟩
 rintro i m σ H ⟨rfl,hi,p⟩
 by_cases hlt:i<n
 ·refine .inr ⟨hlt,Pv (i+1),λσ' H' p'=>⟨n-(i+1),by omega,rfl,hlt,p'⟩,λx H' y=>?_⟩;obtain⟨e,y⟩:=y;subst e y;exact hs i σ _ hlt p
 ·have e:i=n:=by omega
  subst e;exact .inl ⟨Zq _,hd σ H p⟩
abbrev R2:=V->V->Hp->VK->Prop
def dM(X:Cx)(f:Value->Value->Sem Value)(r:R2):Prop :=
 ∀(pins:List (Addr×Obj)) (s:Shared) (σ:St) (H:Hp) (x y:V) (v u:Value) (Q:VK),Inv X pins σ H s->aU x v->aU y u->r x y H Q ->
  wpAny (model X.prog X.w) X.A (f v u) (EP X pins σ Q) X.xe s
def Y0(X:Cx)(f:Value->Sem Value)(r:V->Hp->VK->Prop):Prop :=
 ∀(pins:List (Addr×Obj)) (s:Shared) (σ:St) (H:Hp) (x:V) (v:Value) (Q:VK),Inv X pins σ H s->aU x v->r x H Q ->
  wpAny (model X.prog X.w) X.A (f v) (EP X pins σ Q) X.xe s
def eZ(X:Cx)(f:Value)(r:List V->Hp->VK->Prop):Prop :=
 ∀(pins:List (Addr×Obj)) (s:Shared) (σ:St) (H:Hp) (xs:List V) (us:List Value) (Q:VK),Inv X pins σ H s->aL xs us->r xs H Q ->
  wpAny (model X.prog X.w) X.A (call f us) (EP X pins σ Q) X.xe s
def aGQ(X:Cx)(r:V->Hp->(Bool->Hp->Prop)->Prop):Prop :=
 ∀(pins:List (Addr×Obj)) (s:Shared) (σ:St) (H:Hp) (x:V) (v:Value) (Q:Bool->Hp->Prop),Inv X pins σ H s->aU x v->r x H Q ->
  wpAny (model X.prog X.w) X.A (truthy v) (TP X pins σ Q) X.xe s
def L5(r:R2)(ta tb:TE):TE:=λσ H Q=>ta σ H λx H1=>tb σ H1 λy H2=>r x y H2 Q
def tUn(r:V->Hp->VK->Prop)(ta:TE):TE:=λσ H Q=>ta σ H λx H1=>r x H1 Q
noncomputable def rI(C:Int->Int->Prop)(g:Int->Int->V):R2:=λx y H Q=>∃i j,x=.int i/\y=.int j/\C i j/\Q (g i j) H
def xG(g:Int->Int->V):R2:=λx y H Q=>∃i j,x=.int i/\y=.int j/\Q (g i j) H
def rU(g:Int->V):V->Hp->VK->Prop:=λx H Q=>∃i,x=.int i/\Q (g i) H
section
variable{X:Cx}{a b c:Expr}{ta tb tc:TE}{pos:Pos}
theorem N5(ha:PE X a ta)(hb:PE X b tb){pins:List (Addr×Obj)}{s:Shared}{σ:St}{H:Hp}{R:V->V->Hp->Prop}(I:Inv X pins σ H s)
  (h:ta σ H λx H1=>tb σ H1 λy H2=>R x y H2) {Q:Value->Shared->Prop} {f:Value->Value->Sem Value}
  (hf:∀v u s2 x y H2,Inv X pins σ H2 s2->aU x v->aU y u->R x y H2->wpAny (model X.prog X.w) X.A (f v u) Q X.xe s2) :
  wpAny (model X.prog X.w) X.A (eval a X.env) (λv s₁=>wpAny (model X.prog X.w) X.A (eval b X.env) (λu s₂=>wpAny (model X.prog X.w) X.A (f v u) Q X.xe s₂) X.xe s₁) X.xe s:=by
 refine bA (ha pins s σ H _ I h) λv s1 ⟨x,H1,I1,r1,q1⟩=>?_
 refine bA (hb pins s1 σ H1 _ I1 q1) λu s2 ⟨y,H2,I2,r2,q2⟩=>?_
 exact hf v u s2 x y H2 I2 r1 r2 q2
theorem aDa{op:Operator}{r:R2}(ho:dM X (binaryOp op) r)(ha:PE X a ta)(hb:PE X b tb):PE X (.BinOp a op b pos) (L5 r ta tb):=by
 intro pins s σ H Q I h;exact wpAny_BinOp (N5 ha hb I h λv u s2 x y H2 I2 rx ry q=>ho pins s2 σ H2 x y v u Q I2 rx ry q)
theorem aDt{op:UnaryOp}{r:V->Hp->VK->Prop}(ho:Y0 X (unaryOp op) r)(ha:PE X a ta):PE X (.UnaryOp op a pos) (tUn r ta):=by
 intro pins s σ H Q I h;exact UnaryOp_ (bA (ha pins s σ H _ I h) λv s1 ⟨x,H1,I1,r1,q1⟩=>ho pins s1 σ H1 x v Q I1 r1 q1)
theorem MI{f:Value->Value->Sem Value}{C:Int->Int->Prop}{g:Int->Int->Int}
  (rule:∀(i j:Int) (t u:Tok) (s:Shared) (Q:Value->Shared->Prop) (E:Value->Shared->Prop),C i j->Q (.int (g i j) s.toks) { s with toks:=s.toks+1 }->wpAny (model X.prog X.w) X.A (f (.int i t) (.int j u)) Q E s) :
  dM X f (rI C λi j=>.int (g i j)):=by
 intro pins s σ H x y v u Q I rx ry h;obtain⟨i,j,rfl,rfl,hc,q⟩:=h;obtain⟨t,rfl⟩:=rx;obtain⟨t',rfl⟩:=ry;exact rule i j t t' s _ _ hc ⟨.int (g i j),H,I.tok _,⟨_,rfl⟩,q⟩
theorem OW{f:Value->Value->Sem Value}{g:Int->Int->Int}
  (rule:∀(i j:Int) (t u:Tok) (s:Shared) (Q:Value->Shared->Prop) (E:Value->Shared->Prop),Q (.int (g i j) s.toks) { s with toks:=s.toks+1 }->wpAny (model X.prog X.w) X.A (f (.int i t) (.int j u)) Q E s) :
  dM X f (xG λi j=>.int (g i j)):=by
 intro pins s σ H x y v u Q I rx ry h;obtain⟨i,j,rfl,rfl,q⟩:=h;obtain⟨t,rfl⟩:=rx;obtain⟨t',rfl⟩:=ry;exact rule i j t t' s _ _ ⟨.int (g i j),H,I.tok _,⟨_,rfl⟩,q⟩
theorem JA{f:Value->Value->Sem Value}{g:Int->Int->Bool}
  (rule:∀(i j:Int) (t u:Tok) (s:Shared) (Q:Value->Shared->Prop) (E:Value->Shared->Prop),Q (.bool (g i j)) s->wpAny (model X.prog X.w) X.A (f (.int i t) (.int j u)) Q E s) :
  dM X f (xG λi j=>.bl (g i j)):=by
 intro pins s σ H x y v u Q I rx ry h;obtain⟨i,j,rfl,rfl,q⟩:=h;obtain⟨t,rfl⟩:=rx;obtain⟨t',rfl⟩:=ry;exact rule i j t t' s _ _ ⟨.bl (g i j),H,I,rfl,q⟩
def aGs(i j:Int):Prop:=0<=j/\j<=1000000/\i.natAbs<2 ^ 64
def P8(i j:Int):Prop:=(-(2 ^ 64)<i/\i<2 ^ 64)\/(-(2 ^ 64)<j/\j<2 ^ 64)
theorem P8.ok{i j:Int}(h:P8 i j):IntMulOk i j:=by
 rcases h with ⟨h1,h2⟩ | ⟨h1,h2⟩
 ·exact .of_left (intBits_le_64 h1 h2)
 ·exact .of_right (intBits_le_64 h1 h2)
theorem two_pow_nn(k:Nat):(0:Int)<=2 ^ k:=by
 rw[two_pow_cast];exact Int.natCast_nonneg _
theorem aCj:dM X (binaryOp .Add) (xG λi j=>.int (i+j)):=OW λ_ _ _ _ _ _ _ q=>add_int q
theorem aCM:dM X (binaryOp .Sub) (xG λi j=>.int (i-j)):=OW λ_ _ _ _ _ _ _ q=>sub_int q
theorem aCJ:dM X (binaryOp .Mult) (rI P8 λi j=>.int (i*j)):=MI λ_ _ _ _ _ _ _ hc q=>mul_int q hc.ok
theorem Z4:dM X (binaryOp .Mod) (rI (λ_ j=>0<j) λi j=>.int (i % j)):=MI λi j _ _ _ _ _ hc q=>by
 have h1:(0:Int)<j:=hc;exact mod_int' (by omega) (by rw[Int.fmod_eq_emod_of_nonneg i (by omega)];exact q)
theorem aBD:dM X (binaryOp .LShift) (rI aGs λi j=>.int (i*2 ^ j.toNat)):=MI λ_ _ _ _ _ _ _ hc q=>lshift_int_small hc.1 hc.2.1 hc.2.2 q
theorem ZZ:dM X (binaryOp .RShift) (rI (λ_ j=>0<=j) λi j=>.int (i / 2 ^ j.toNat)):=MI λi j _ _ _ _ _ hc q =>
 rshift_int hc (by rw[Int.fdiv_eq_ediv_of_nonneg i (two_pow_nn _)];exact q)
theorem aBO:dM X (binaryOp .BitAnd) (xG λi j=>.int (Builtin.bitAnd i j)):=OW λ_ _ _ _ _ _ _ q=>and_int q
theorem unI{f:Value->Sem Value}{g:Int->Int}
  (rule:∀(i:Int) (t:Tok) (s:Shared) (Q:Value->Shared->Prop) (E:Value->Shared->Prop),Q (.int (g i) s.toks) { s with toks:=s.toks+1 }->wpAny (model X.prog X.w) X.A (f (.int i t)) Q E s) :
  Y0 X f (rU λi=>.int (g i)):=by
 intro pins s σ H x v Q I rx h;obtain⟨i,rfl,q⟩:=h;obtain⟨t,rfl⟩:=rx;exact rule i t s _ _ ⟨.int (g i),H,I.tok _,⟨_,rfl⟩,q⟩
theorem aB9:Y0 X (unaryOp .USub) (rU λi=>.int (-i)):=unI λ_ _ _ _ _ q=>neg_int q
end
section
variable{X:Cx}{a b c:Expr}{ta tb tc:TE}{pos:Pos}
theorem M3{pins:List (Addr×Obj)}{σ:St}{H:Hp}{s:Shared}{Q:VK}{k k':Bool}(I:Inv X pins σ H s)(q:Q (.bl k) H)(e:k=k'):EP X pins σ Q (.bool k') s:=by
 subst e;exact⟨.bl k,H,I,rfl,q⟩
theorem aDF:dM X (compareOp .Lt) (xG λi j=>.bl (decide (i<j))):=JA λ_ _ _ _ _ _ _ q=>lt_int q
theorem aDK:dM X (compareOp .LtE) (xG λi j=>.bl (decide (i<=j))):=JA λ_ _ _ _ _ _ _ q=>le_int q
theorem aEH:dM X (compareOp .Gt) (xG λi j=>.bl (decide (j<i))):=JA λ_ _ _ _ _ _ _ q=>gt_int q
theorem aEV:dM X (compareOp .GtE) (xG λi j=>.bl (decide (j<=i))):=JA λ_ _ _ _ _ _ _ q=>ge_int q
theorem aAU:dM X (compareOp .Is) (λx y H Q=>y=.non/\Q (.bl (decide (x=.non))) H):=by
 intro pins s σ H x y v u Q I rx ry h;obtain⟨rfl,q⟩:=h;cases ry;refine is_none_gen (M3 I q ?_)
 cases x<;>first
  | (cases rx;rfl)
  | (obtain⟨t,rfl⟩:=rx;rfl)
theorem V4:dM X (compareOp .IsNot) (λx y H Q=>y=.non/\Q (.bl (!decide (x=.non))) H):=by
 intro pins s σ H x y v u Q I rx ry h;obtain⟨rfl,q⟩:=h;cases ry;refine isnot_none_gen (M3 I q ?_)
 cases x<;>first
  | (cases rx;rfl)
  | (obtain⟨t,rfl⟩:=rx;rfl)
theorem VW{op:CmpOp}{r:R2}(ho:dM X (compareOp op) r)(ha:PE X a ta)(hb:PE X b tb)(hm:behindInMarks op b=false):PE X (.Compare a [op] [b] pos) (L5 r ta tb):=by
 intro pins s σ H Q I h;exact wpAny_Compare1 (N5 ha hb I h λv u s2 x y H2 I2 rx ry q=>ho pins s2 σ H2 x y v u Q I2 rx ry q) hm
def SU(t:TE):TT:=λσ H Q=>t σ H λx H'=>∃k,x=.bl k/\Q k H'
theorem XQ{op:CmpOp}{r:R2}(ho:dM X (compareOp op) r)(ha:PE X a ta)(hb:PE X b tb)(hm:behindInMarks op b=false):PT X (.Compare a [op] [b] pos) (SU (L5 r ta tb)):=by
 intro pins s σ H Q I h
 refine wpAny_isTrue_Compare1 (bA (ha pins s σ H _ I h) λv s1 ⟨x,H1,I1,r1,q1⟩=>bA (hb pins s1 σ H1 _ I1 q1) λu s2 ⟨y,H2,I2,r2,q2⟩ =>
  bA (ho pins s2 σ H2 x y v u _ I2 r1 r2 q2) λc s3 ⟨z,H3,I3,r3,k,e,q3⟩=>?_) hm
 subst e;cases r3;exact wpAny_truthy_bool ⟨H3,I3,q3⟩
noncomputable def CM(r r':R2)(ta tb tc:TE):TE:=λσ H Q=>ta σ H λx H1=>tb σ H1 λy H2=>r x y H2 λz H3=>∃k,z=.bl k /\
 (if k=true then tc σ H3 λw' H4=>r' y w' H4 Q else Q (.bl false) H3)
theorem N6{op op':CmpOp}{r r':R2}(ho:dM X (compareOp op) r)(ho':dM X (compareOp op') r')(ha:PE X a ta)(hb:PE X b tb)(hc:PE X c tc)
  (hm:lastMarks [op,op'] [b,c]=false:=by with_unfolding_all rfl):PE X (.Compare a [op,op'] [b,c] pos) (CM r r' ta tb tc):=by
 intro pins s σ H Q I h
 refine Compare_chain (bA (ha pins s σ H _ I h) λv s1 ⟨x,H1,I1,r1,q1⟩=>chain_link (bA (hb pins s1 σ H1 _ I1 q1) λu s2 ⟨y,H2,I2,r2,q2⟩ =>
  bA (ho pins s2 σ H2 x y v u _ I2 r1 r2 q2) λd s3 ⟨z,H3,I3,r3,k,e,q3⟩=>?_)) hm
 subst e;cases r3;refine wpAny_truthy_bool ?_
 cases k with
 |false=>exact ite_ff ⟨.bl false,H3,I3,rfl,q3⟩
 |true=>exact ite_tt (chain_last (bA (hc pins s3 σ H3 _ I3 q3) λw' s4 ⟨z',H4,I4,r4,q4⟩=>ho' pins s4 σ H4 y z' u w' Q I4 r2 r4 q4))
theorem RJ{op op':CmpOp}{r r':R2}(ho:dM X (compareOp op) r)(ho':dM X (compareOp op') r')(ha:PE X a ta)(hb:PE X b tb)(hc:PE X c tc)
  (hm:lastMarks [op,op'] [b,c]=false:=by with_unfolding_all rfl):PT X (.Compare a [op,op'] [b,c] pos) (SU (CM r r' ta tb tc)):=by
 intro pins s σ H Q I h
 refine isTrue_chain (bA (ha pins s σ H _ I h) λv s1 ⟨x,H1,I1,r1,q1⟩=>test_link (bA (hb pins s1 σ H1 _ I1 q1) λu s2 ⟨y,H2,I2,r2,q2⟩ =>
  bA (ho pins s2 σ H2 x y v u _ I2 r1 r2 q2) λd s3 ⟨z,H3,I3,r3,k,e,q3⟩=>?_)) hm
 subst e;cases r3;refine wpAny_truthy_bool ?_
 cases k with
 |false =>
  obtain⟨k',e',q'⟩:=q3;cases e';exact ite_ff ⟨H3,I3,q'⟩
 |true =>
  refine ite_tt (test_last (bA (hc pins s3 σ H3 _ I3 q3) λw' s4 ⟨z',H4,I4,r4,q4⟩=>bA (ho' pins s4 σ H4 y z' u w' _ I4 r2 r4 q4) λd' s5 ⟨z2,H5,I5,r5,k2,e2,q5⟩=>?_));subst e2;cases r5;exact wpAny_truthy_bool ⟨H5,I5,q5⟩
def KG(K:Frag)(x:V)(H:Hp)(k:Bool):Prop :=
 match x with
 |.non=>k=false
 |.bl b=>k=b
 |.int i=>k=(i != 0)
 |.str y=>y.length<=sizeLine/\k=((y.length:Int) != 0)
 |.byt y=>y.size<=sizeLine/\k=((y.size:Int) != 0)
 |.ref p=>(∃xs,bY K H p xs/\k=!xs.isEmpty)\/(∃xs,cN K H p xs/\k=!xs.isEmpty)\/∃kvs,H p=some (.dK kvs)/\k=!kvs.isEmpty
 |_=>False
theorem HZ{κ:Type}{kvs:List (κ×V)}{vs:List (κ×Value)}(r:KV kvs vs):(!vs.isEmpty)=!kvs.isEmpty:=by
 cases r<;>rfl
theorem wZ{xs:List V}{its:List Value}(r:aL xs its):(!its.toArray.isEmpty)=!xs.isEmpty:=by
 cases r<;>simp
theorem lI:(sizeLine:Nat)<2 ^ 63:=by rw[sizeLine_eq];decide
theorem KI:aGQ X (λx H Q=>∃k,KG X.K x H k/\Q k H):=by
 intro pins s σ H x v Q I rx h;obtain⟨k,e,q⟩:=h;have hl:=lI;have hs:sizeLine=16777216:=sizeLine_eq
 cases x with
 |non =>
  cases rx;have e':k=false:=e;subst e';exact truthy_none ⟨H,I,q⟩
 |bl b =>
  cases rx;have e':k=b:=e;subst e';exact wpAny_truthy_bool ⟨H,I,q⟩
 |int i =>
  obtain⟨t,rfl⟩:=rx;have e':k=(i != 0):=e;subst e';exact PySem.P.truthy_int ⟨H,I,q⟩
 |str y =>
  obtain⟨t,rfl⟩:=rx;obtain⟨hy,e'⟩:y.length<=sizeLine/\k=((y.length:Int) != 0):=e;subst e';exact PySem.P.truthy_str (by omega) ⟨H,I.tok _,q⟩
 |byt y =>
  obtain⟨t,rfl⟩:=rx;obtain⟨hy,e'⟩:y.size<=sizeLine/\k=((y.size:Int) != 0):=e;subst e';exact PySem.W.truthy_bytes (by omega) ⟨H,I.tok _,q⟩
 |ref p =>
  cases rx;have e':(∃xs,bY X.K H p xs/\k=!xs.isEmpty)\/(∃xs,cN X.K H p xs/\k=!xs.isEmpty)\/∃kvs,H p=some (.dK kvs)/\k=!kvs.isEmpty:=e
  rcases e' with ⟨xs,hx,e'⟩ | ⟨xs,hx,e'⟩ | ⟨kvs,hx,e'⟩
  ·subst e';obtain⟨its,r,pl,hz⟩:=I.list hx;have hlen:=r.length;exact wpAny_truthy_list pl.isList (by simp only[Zi];omega) ⟨H,I.tok _,by rw[wZ r];exact q⟩
  ·subst e';obtain⟨its,r,pl,hz⟩:=I.tuple hx;have hlen:=r.length;exact truthy_tuple pl (by simp only[Zi];omega) ⟨H,I.tok _,by rw[wZ r];exact q⟩
  ·subst e';obtain⟨hz,hS,vs,r,m⟩:kvs.length<=sizeLine/\(p==sysModules)=false/\∃vs,KV kvs vs/\s.heap.DictOf (yL X.prog X.w) p vs:=I.hok p _ hx
   have hlen:kvs.length=vs.length:=Paired.length r;exact wpAny_truthy_dict hS m (by omega) ⟨H,I.tok _,by rw[HZ r];exact q⟩
 |_=>exact(show False from e).elim
theorem EJ(ha:PE X a ta)(he:∀whole,isTrue a X.env whole=(do let v <- whole;standAt a.pos;holding [v] (truthy v))) :
  PT X a (λσ H Q=>ta σ H λx H'=>∃k,KG X.K x H' k/\Q k H'):=by
 intro pins s σ H Q I h;exact isTrue_plain (bA (ha pins s σ H _ I h) λv s1 ⟨x,H1,I1,r1,q1⟩=>KI pins s1 σ H1 x v Q I1 r1 q1) (he _)
theorem jL{x:V}{us:List Value}(r:aL [x] us):∃u,us=[u]/\aU x u:=by
 cases r with
 |cons r1 r2=>cases r2;exact⟨_,rfl,r1⟩
theorem uB{x y:V}{us:List Value}(r:aL [x,y] us):∃u w',us=[u,w']/\aU x u/\aU y w':=by
 cases r with
 |cons r1 r2 =>
  cases r2 with
  |cons r3 r4=>cases r4;exact⟨_,_,rfl,r1,r3⟩
theorem PU:eZ X (.builtin "abs") (λxs H Q=>∃i,xs=[.int i]/\Q (.int (if i<0 then -i else i)) H):=by
 intro pins s σ H xs us Q I r h;obtain⟨i,rfl,q⟩:=h;obtain⟨u,rfl,t,rfl⟩:=jL r;exact call_abs_int λu tk=>⟨.int (if i<0 then -i else i),H,I.tok _,⟨_,rfl⟩,q⟩
theorem K6(hc:X.calm=true):eZ X (.builtin "max") (λxs H Q=>∃i j,xs=[.int i,.int j]/\Q (.int (if j > i then j else i)) H):=by
 intro pins s σ H xs us Q I r h;obtain⟨i,j,rfl,q⟩:=h;obtain⟨u,w',rfl,⟨t,rfl⟩,⟨t',rfl⟩⟩:=uB r;refine max_two_ints (I.ok.hd hc) λh' tk k=>⟨_,H,I.kept k, ?_,q⟩
 by_cases hj:j > i
 ·rw[Zo hj,Zo hj];exact⟨_,rfl⟩
 ·rw[Zp hj,Zp hj];exact⟨_,rfl⟩
theorem AF:eZ X (.type "int") (λxs H Q=>(∃i,xs=[.int i]/\Q (.int i) H)\/∃k,xs=[.bl k]/\Q (.int (if k then 1 else 0)) H):=by
 intro pins s σ H xs us Q I r h;rcases h with ⟨i,rfl,q⟩ | ⟨k,rfl,q⟩
 ·obtain⟨u,rfl,t,rfl⟩:=jL r;exact call_int_int ⟨.int i,H,I,⟨_,rfl⟩,q⟩
 ·obtain⟨u,rfl,r1⟩:=jL r;cases r1;exact call_int_bool ⟨.int (if k then 1 else 0),H,I.tok _,⟨_,rfl⟩,q⟩
end
structure ObjM(h:Heap)(x dx C:Addr)(mA:Str->Option Value):Prop where
 obj:h.get? x=some (PySem.W.instObj C dx)
 ns:h.Ns1 dx mA
 ne:dx≠x
theorem LK{h:Heap}{dx:Addr}{mA:Str->Option Value}(n:h.Ns1 dx mA):∃od,h.get? dx=some od/\∀name,PySem.W.lookIn name od=some (mA name):=by
 obtain⟨o,es,ep,ho,hd,hk,_,hm⟩:=n;refine⟨o,ho,λname=>?_⟩;have e:=hm name;unfold nsFind findBy at e;rw[<- Array.find?_toList] at e;unfold PySem.W.lookIn;rw[hd];dsimp only;split
 ·rename_i y q;rw[q] at e;exact congrArg some e
 ·rename_i q;rw[q] at e
  have a:es.toList.any (·.refKey)=false:=by(rw[List.any_eq_false];intro y hy;obtain⟨z,t,hkey⟩:=hk y (Array.mem_toList_iff.mp hy);simp[DictEntry.refKey,hkey])
  have a':¬es.toList.any (·.refKey)=true:=by rw[a];exact Bool.false_ne_true
  rw[Zp a'];exact congrArg some e
theorem ObjM.look{h:Heap}{x dx C:Addr}{mA:Str->Option Value}(I:ObjM h x dx C mA):∃od,PySem.W.InstAt h x (PySem.W.instObj C dx) C (some od)/\∀name,PySem.W.lookIn name od=some (mA name) :=
 let ⟨od,ho,hl⟩:=LK I.ns
 ⟨od,⟨I.obj,rfl,rfl,ho⟩,hl⟩
section
variable{prog:Program}{w:World}{A:Around}{E:Value->Shared->Prop}{s:Shared}{K:Frag}{x dx C f:Addr}{mA:Str->Option Value}{name:Str}{v:Value}
theorem U5{expr:Bool}{Q:Value->Shared->Prop}(X:K.In s.heap)(I:ObjM s.heap x dx C mA)(hg:PySem.W.plainGet K C name=true)(hh:PySem.W.hasDictIn K C=true)
  (ha:findIn K (.ref C) name=some none) (hv:mA name=some v) (hv':PySem.W.handedIn v=true) (h:Q v { s with toks:=s.toks+1 }) :
  wpAny (model prog w) A (getAttr (.ref x) name expr) Q E s:=by
 obtain⟨od,J,hl⟩:=I.look;exact PySem.W.get_value X J (PySem.W.plainGet_of hg).1 (PySem.W.findObj_own hh ha rfl (by rw[hl,hv])) hv' h
theorem NS{pl:Sem Bool}{Q:Value×List Value->Shared->Prop}(X:K.In s.heap)(I:ObjM s.heap x dx C mA)(hg:PySem.W.plainGet K C name=true)
  (hf:findIn K (.ref C) name=some (some (.ref f))) (ht:PySem.W.isFn K (.ref f)=true) (hv:mA name=none) (h:Q (.ref f,[.ref x]) s) :
  wpAny (model prog w) A (getMethod (.ref x) name pl) Q E s:=by
 obtain⟨od,J,hl⟩:=I.look;exact PySem.W.method_fn X J (PySem.W.plainGet_of hg).1 (PySem.W.plainGet_of hg).2 hf (beq_iff_eq.mp ht) (by show(PySem.W.lookIn name od).map (·.isSome)=some false;rw[hl,hv];rfl) h
theorem VO{ns:List Str}{Q:Unit->Shared->Prop}(X:K.In s.heap)(I:ObjM s.heap x dx C mA)
  (hs:findIn K (.ref C) "__setattr__"=some (some (.builtin "object.__setattr__"))) (hp:PySem.W.plainOver K C=true) (ht:PySem.W.takerIn K C name=some none) (hh:PySem.W.hasDictIn K C=true)
  (hw:PySem.Within mA ns) (hsz:ns.length<=sizeLine)
  (h:∀h',ObjM h' x dx C (λy=>if y=name then some v else mA y)->Heap.SameBut dx s.heap h'->Q () { s with heap:=h',toks:=s.toks+2 }) :
  wpAny (model prog w) A (setAttr (.ref x) name v) Q E s:=by
 obtain⟨od,J,hl⟩:=I.look;refine PySem.W.set_plain X J hs (PySem.W.osa_open (s:={ s with toks:=s.toks+1 }) (r:=none) X J hp ht λb=>?_);obtain⟨cd,hc,hd'⟩:=PySem.W.any_some hh;have hx:s.heap.get? x=some ⟨.ref C,some dx,.plain,#[]⟩:=I.obj;refine Zt (Zu (Zt (Zt (wpAny_loadPart hx (Zt (PySem.W.Looks.here (s:={ s with toks:=s.toks+1 }) (PySem.W.looks_clsIn X hc) ?_))))));rw[hd'];refine Zu (a:=some dx) (Zt (Zu (Zt ?_)));refine wpAny_nsSet1 (s:={ s with toks:=s.toks+1 }) I.ns λh' hn2 hs2=>?_
 obtain⟨oD,esD,epD,hoD,hdD,hcD⟩:=hn2.count (PySem.Within.cons name v hw);refine Zt (wpAny_lookBehind hoD (by rw[hdD];exact pastItsLine_dict (Zr hcD (by rw[Zk];omega))) ?_);exact Zu (h _ ⟨(hs2.2 _ (Ne.symm I.ne)).trans I.obj,hn2,I.ne⟩ hs2)
theorem OM{R:Result->Shared->Prop}{vs:List Value}{kw:List (Str×Value)}(X:K.In s.heap)(hm:PySem.W.makesIn K C=true)
  (hi:findIn K (.ref C) "__init__"=some (some (.ref f))) (hf:PySem.W.typeIn K (.ref f)=some (.type "function"))
  (h:codeAny (model prog w) (A.under (.builtin "type.__call__" ⟨.ref C::vs,kw⟩)) (.call (.ref f) ⟨.ref (s.heap.objs.size+1)::vs,kw⟩) (PySem.W.InitBack (s.heap.objs.size+1) R)
   { s with heap:=(s.heap.push PySem.W.emptyDict).push (PySem.W.instObj C s.heap.objs.size) }) :
  codeAny (model prog w) A (.call (.ref C) ⟨vs,kw⟩) R s:=by
 obtain⟨hh,g,d,t,os⟩:=s;exact PySem.W.make_core (PySem.W.makes_of X hm) (PySem.W.looks_findIn X hi) (λself=>PySem.W.bind_fn X self hf) (.inl rfl) h
end
noncomputable def gD(f:Str)(v:V):List (Str×V)->List (Str×V)
 |[]=>[(f,v)]
 | (g,x)::r=>if g=f then(g,v)::r else(g,x)::gD f v r
theorem vG(f g:Str)(v:V):∀fs:List (Str×V),(gD f v fs).lookup g=if g=f then some v else fs.lookup g
 |[]=>by
  show List.lookup g [(f,v)]=_;by_cases h:g=f
  ·have hb:(g==f)=true:=beq_iff_eq.mpr h;simp only[List.lookup,hb,Zo h]
  ·have hb:(g==f)=false:=beq_eq_false_iff_ne.mpr h;simp only[List.lookup,hb,Zp h]
 | (k,x)::r=>by
  have ih:=vG f g v r;rw[show gD f v ((k,x)::r)=(if k=f then(k,v)::r else(k,x)::gD f v r) from rfl];by_cases hk:k=f
  ·rw[Zo hk];by_cases h:g=k
   ·have hb:(g==k)=true:=beq_iff_eq.mpr h;simp only[List.lookup,hb,Zo (h.trans hk)]
   ·have hb:(g==k)=false:=beq_eq_false_iff_ne.mpr h;simp only[List.lookup,hb,Zp (λe:g=f=>h (e.trans hk.symm))]
  ·rw[Zp hk];by_cases h:g=k
   ·have hb:(g==k)=true:=beq_iff_eq.mpr h;simp only[List.lookup,hb,Zp (λe:g=f=>hk (h.symm.trans e))]
   ·have hb:(g==k)=false:=beq_eq_false_iff_ne.mpr h;simp only[List.lookup,hb];exact ih
theorem tJ(f:Str)(v:V):∀fs:List (Str×V),f∈(gD f v fs).map (·.1)/\∀g,g∈fs.map (·.1)->g∈(gD f v fs).map (·.1)
 |[]=>⟨by simp[gD],λg h=>by simp at h⟩
 | (k,x)::r=>by
  obtain⟨i1,i2⟩:=tJ f v r;rw[show gD f v ((k,x)::r)=(if k=f then(k,v)::r else(k,x)::gD f v r) from rfl];by_cases hk:k=f
  ·rw[Zo hk];subst hk;exact⟨by simp,λg h=>by simpa using h⟩
  ·rw[Zp hk];refine⟨?_,λg h=>?_⟩
   ·rw[Zs];exact Ze _ i1
   ·rw[Zs] at h ⊢;rcases List.mem_cons.mp h with e | e
    ·exact List.mem_cons.mpr (.inl e)
    ·exact Ze _ (i2 g e)
theorem u9(f:Str)(v:V):∀fs:List (Str×V),(gD f v fs).length<=fs.length+1
 |[]=>by simp[gD]
 | (k,x)::r=>by
  have ih:=u9 f v r;rw[show gD f v ((k,x)::r)=(if k=f then(k,v)::r else(k,x)::gD f v r) from rfl];by_cases hk:k=f
  ·rw[Zo hk,Zk,Zk];omega
  ·rw[Zp hk,Zk,Zk];omega
theorem gZ.some_of{v:V}{o:Option Value}(r:gZ (some v) o):∃u,o=some u/\aU v u:=by
 cases o with
 |none=>exact(show False from r).elim
 |some u=>exact⟨u,rfl,r⟩
theorem gZ.none_of{o:Option Value}(r:gZ none o):o=none:=by
 cases o with
 |none=>rfl
 |some u=>exact(show False from r).elim
theorem NP{v:V}{u:Value}(r:aU v u):PySem.W.handedIn u=true:=by
 cases v with
 |non=>cases (show u=Value.none from r);rfl
 |bl b=>cases (show u=Value.bool b from r);rfl
 |int i=>obtain⟨t,e⟩:=(show ∃t,u=Value.int i t from r);cases e;rfl
 |str x=>obtain⟨t,e⟩:=(show ∃t,u=Value.str x t from r);cases e;rfl
 |byt b=>obtain⟨t,e⟩:=(show ∃t,u=Value.bytes b t from r);cases e;rfl
 |flt b=>obtain⟨t,e⟩:=(show ∃t,u=Value.float b t from r);cases e;rfl
 |ref a=>cases (show u=Value.ref a from r);rfl
 |ty n=>cases (show u=Value.type n from r);rfl
section
variable{P:Program}{w:World}{H H':Hp}{h h':Heap}{a C dx:Addr}{fs fs':List (Str×V)}
theorem zG(hok:fP P w H h)(e:H a=some (.ins C dx fs)):∃mA,ObjM h a dx C mA/\(∀f,gZ (fs.lookup f) (mA f))/\PySem.Within mA (fs.map (·.1))/\fs.length<=1000/\H dx=some (.own a):=by
 obtain⟨d,z,ne,ob,mA,n,r,q⟩:=(show dA P w H h a (.ins C dx fs) from hok a _ e)
 exact⟨mA,⟨ob,n,ne⟩,r,q,z,d⟩
end
structure Cls(K:Frag)(C:Addr):Prop where
 pg:PySem.W.plainGet K C Str.empty=true
 hd:PySem.W.hasDictIn K C=true
 po:PySem.W.plainOver K C=true
 sa:findIn K (.ref C) "__setattr__"=some (some (.builtin "object.__setattr__"))
theorem Cls.get{K:Frag}{C:Addr}(c:Cls K C)(f:Str):PySem.W.plainGet K C f=true:=c.pg
def jW(K:Frag)(C:Addr)(f:Str):Prop:=findIn K (.ref C) f=some none
theorem jW.taker{K:Frag}{C:Addr}{f:Str}(n:jW K C f):PySem.W.takerIn K C f=some none:=by
 unfold PySem.W.takerIn;rw[show findIn K (.ref C) f=some none from n];rfl
structure Con(K:Frag)(C:Addr)(f:Str)(v:V)(u:Value):Prop where
 at_:findIn K (.ref C) f=some (some u)
 rel:aU v u
 get:PySem.W.specialIn K u "__get__"=some none
 cp:PySem.W.copiedNames.contains f=false
structure Meth(K:Frag)(C:Addr)(m:Str)(f:Addr):Prop where
 at_:findIn K (.ref C) m=some (some (.ref f))
 fn:PySem.W.isFn K (.ref f)=true
 kp:PySem.W.keepIn K (.ref f)=true
section
variable{X:Cx}{pins:List (Addr×Obj)}{σ:St}{H:Hp}{s:Shared}{a C dx:Addr}{fs:List (Str×V)}{f:Str}{v:V}{A:Around}{E:Value->Shared->Prop}
theorem KC{b:Bool}{Q:Value->Shared->Prop}(I:Inv X pins σ H s)(e:H a=some (.ins C dx fs))(c:Cls X.K C)(n:jW X.K C f)(l:fs.lookup f=some v)
  (h:∀u s',Inv X pins σ H s'->aU v u->Q u s'):wpAny (model X.prog X.w) A (getAttr (.ref a) f b) Q E s:=by
 obtain⟨mA,O,r,_,_,_⟩:=zG I.hok e;obtain⟨u,hu,ru⟩:=gZ.some_of (v:=v) (o:=mA f) (by rw[<- l];exact r f);exact U5 I.kIn O (c.get f) c.hd n hu (NP ru) (h u _ (I.tok _) ru)
theorem wN{m:Str}{g:Addr}{pl:Sem Bool}{Q:Value×List Value->Shared->Prop}(I:Inv X pins σ H s)(e:H a=some (.ins C dx fs))(c:Cls X.K C)(k:Meth X.K C m g)(l:fs.lookup m=none)
  (h:Q (.ref g,[.ref a]) s):wpAny (model X.prog X.w) A (getMethod (.ref a) m pl) Q E s:=by
 obtain⟨mA,O,r,_,_,_⟩:=zG I.hok e;have hn:mA m=none:=gZ.none_of (by rw[<- l];exact r m);exact NS I.kIn O (c.get m) k.at_ k.fn hn h
theorem I0{y:V}{u:Value}{Q:Unit->Shared->Prop}(I:Inv X pins σ H s)(e:H a=some (.ins C dx fs))(c:Cls X.K C)(n:jW X.K C f)(hl:fs.length<1000)(ry:aU y u)
  (h:∀s',Inv X pins σ (aP H a (.ins C dx (gD f y fs))) s'->Q () s'):wpAny (model X.prog X.w) A (setAttr (.ref a) f u) Q E s:=by
 obtain⟨mA,O,r,wi,_,ho⟩:=zG I.hok e;have hz:(fs.map (·.1)).length<=sizeLine:=by rw[List.length_map,sizeLine_eq];omega
 refine VO I.kIn O c.sa c.po n.taker c.hd wi hz λh' O' sb=>h _ ?_
 have hd:∃o,h'.get? dx=some o:=let ⟨o,_,_,e',_⟩:=O'.ns;⟨o,e'⟩
 refine I.write (x:=a) (e:=dx) (by rw[e];exact True.intro) (.inr ho) (λb q hb z=>(sb.2 b hb).trans z) hd ?_;refine⟨by rw[aG O.ne];exact ho, ?_,O.ne,O'.obj,_,O'.ns,λg=>?_,λg hg=>?_⟩
 ·have:=u9 f y fs;omega
 ·show gZ ((gD f y fs).lookup g) (if g=f then some u else mA g);rw[vG];by_cases q:g=f
  ·rw[Zo q,Zo q];exact ry
  ·rw[Zp q,Zp q];exact r g
 ·by_cases q:g=f
  ·rw[q];exact(tJ f y fs).1
  ·refine(tJ f y fs).2 g (wi g λz=>hg ?_);show(if g=f then some u else mA g)=none;rw[Zp q];exact z
theorem Inv.made(I:Inv X pins σ H s):Inv X pins σ (aP (aP H s.heap.objs.size (.own (s.heap.objs.size+1))) (s.heap.objs.size+1) (.ins C s.heap.objs.size []))
  { s with heap:=(s.heap.push PySem.W.emptyDict).push (PySem.W.instObj C s.heap.objs.size) }:=by
 have e1:(s.heap.push PySem.W.emptyDict).get? s.heap.objs.size=some PySem.W.emptyDict:=Zw s.heap rfl
 have e2:((s.heap.push PySem.W.emptyDict).push (PySem.W.instObj C s.heap.objs.size)).get? (s.heap.objs.size+1)=some (PySem.W.instObj C s.heap.objs.size):=by
  have:=Zw (s.heap.push PySem.W.emptyDict) (o:=PySem.W.instObj C s.heap.objs.size) rfl
  rwa[Heap.size_push] at this
 have e3:(s.heap.push PySem.W.emptyDict).Ns s.heap.objs.size (λ_=>none):=⟨PySem.W.emptyDict,#[],_,e1,rfl,(λe he=>absurd he (by simp)),λ_=>rfl⟩
 have I1:=I.laid (a:=s.heap.objs.size) (o:=.own (s.heap.objs.size+1)) (h':=s.heap.push PySem.W.emptyDict) (t':=s.toks) (λb u q=>Zd _ q) (Zq _) ⟨_,e1⟩;refine I1.laid (a:=s.heap.objs.size+1) (o:=.ins C s.heap.objs.size []) (t':=s.toks) (λb u q=>Zd _ q) (Nat.le_of_eq (Heap.size_push _ _)) ?_;have ne:s.heap.objs.size≠s.heap.objs.size+1:=Zz (Nat.lt_succ_self _);refine⟨by rw[aG ne,aY],Nat.zero_le _,ne,e2,λ_=>none,(Heap.Ns1.of_empty e3).at λo q=>Zd _ q,λ_=>True.intro,λy hy=>absurd rfl hy⟩
theorem T6{prog:Program}{w:World}{env:Env}{e:Expr}{f:Str}{pos:Pos}{s:Shared}{Q:Value->Shared->Prop}(hb:attributeBase e f env (eval e env)=eval e env)
  (h:wpAny (model prog w) A (eval e env) (λo s₁=>wpAny (model prog w) A (getAttr o f true) Q E s₁) E s):wpAny (model prog w) A (eval (.Attribute e f pos) env) Q E s :=
 Attribute_any_ h (by rw[arm_eval_Attribute,hb])
end
noncomputable def aGb(K:Frag)(ta:TE)(f:Str):TE:=λσ H Q=>ta σ H λx H1=>∃a C dx fs v,x=.ref a/\H1 a=some (.ins C dx fs)/\Cls K C/\jW K C f/\fs.lookup f=some v/\Q v H1
noncomputable def aF0(K:Frag)(ta tv:TE)(f:Str):TS:=λD σ H=>tv σ H λy H1=>ta σ H1 λx H2=>∃a C dx fs,x=.ref a/\H2 a=some (.ins C dx fs)/\Cls K C/\jW K C f/\fs.length<1000 /\
 D.nx σ (aP H2 a (.ins C dx (gD f y fs)))
section
variable{X:Cx}{o e value:Expr}{f:Str}{pos pos' tpos:Pos}{ta tv:TE}
theorem aAt(he:PE X e ta)(hb:attributeBase e f X.env (eval e X.env)=eval e X.env):PE X (.Attribute e f pos) (aGb X.K ta f):=by
 intro pins s σ H Q I h;refine T6 hb (bA (he pins s σ H _ I h) λu s1 ⟨x,H1,I1,rx,a,C,dx,fs,v,ex,ea,c,n,l,q⟩=>?_);subst ex;obtain rfl:u=Value.ref a:=rx;exact KC I1 ea c n l λu' s2 I2 ru=>⟨v,H1,I2,ru,q⟩
theorem aBU(ha:PE X o ta)(hv:PE X value tv)(hs:swapsWith value (some (.Attribute o f pos')) pos.line X.env=pure false):PS X (.Assign [.Attribute o f pos'] value pos) (aF0 X.K ta tv f):=by
 intro pins s σ H D I h;refine plainObj_wpAny_Assign_Attribute (bA (hv pins s σ H _ I h) λu s1 ⟨y,H1,I1,ry,q⟩=>bA (ha pins s1 σ H1 _ I1 q) λov s2 ⟨x,H2,I2,rx,a,C,dx,fs,ex,ea,c,n,l,q2⟩=>?_) hs;subst ex;obtain rfl:ov=Value.ref a:=rx;exact I0 I2 ea c n l ry λs3 I3=>⟨σ,_,I3,q2⟩
end
section
variable{X:Cx}{pins:List (Addr×Obj)}{σ:St}{H:Hp}{s:Shared}{A:Around}{E:Value->Shared->Prop}{Q:Value->Shared->Prop}{c:Value}{b:Bool}
inductive TyOf(K:Frag)(H:Hp):V->Value->Prop where
 |non:TyOf K H .non (.type "NoneType")
 |bl (x:Bool):TyOf K H (.bl x) (.type "bool")
 |int (i:Int):TyOf K H (.int i) (.type "int")
 |str (x:Str):TyOf K H (.str x) (.type "str")
 |flt (x:UInt64):TyOf K H (.flt x) (.type "float")
 |lst {a:Addr} {xs:List V} (e:H a=some (.lst xs)):TyOf K H (.ref a) (.type "list")
 |frz {a:Addr} {o:Obj} {xs:List V} (e:H a=some (.frz o (.lst xs))):TyOf K H (.ref a) (.type "list")
 |tup {a:Addr} {xs:List V} (e:H a=some (.tup xs)):TyOf K H (.ref a) (.type "tuple")
 |dK {a:Addr} {kvs:List (cR×V)} (e:H a=some (.dK kvs)):TyOf K H (.ref a) (.type "dict")
 |dT {a:Addr} {kvs:List (List cR×V)} (e:H a=some (.dT kvs)):TyOf K H (.ref a) (.type "dict")
 |ins {a C dx:Addr} {fs:List (Str×V)} (e:H a=some (.ins C dx fs)) (cl:Cls K C) (ha:findIn K (.ref C) "__class__"=some (some (.builtin "object.__class__")))
   (hn:PySem.W.specialIn K (.builtin "object.__class__") "__get__"=some (some (.builtin "getset_descriptor.__get__"))) (htk:PySem.W.takesIn K (.builtin "object.__class__")=some true)
   (hm:PySem.W.mroIn K C (.type "object")=some true):TyOf K H (.ref a) (.ref C)
end
structure Room(k:Nat)(A:Around):Prop where
 hd:A.handled=none
 dp:A.depth+3*k+5<recursionLimit
 un:A.units+16*k+200<cLine
 gs:A.guards=some []
theorem Room.mono{j k:Nat}{A:Around}(r:Room k A)(h:j<=k):Room j A:=⟨r.hd,by have:=r.dp;omega,by have:=r.un;omega,by first | exact r.gs | simpa[Around.deeper,Around.under,Code.guards,Code.isGuard,pushGuards,guardIds] using r.gs⟩
theorem Room.deeper{k:Nat}{A:Around}(r:Room (k+1) A)(env:Env):Room k (A.deeper env) :=
 ⟨r.hd,by have:=r.dp;show A.depth+1+3*k+5<_;omega,by have:=r.un;show A.units+3+16*k+200<_;omega,by first | exact r.gs | simpa[Around.deeper,Around.under,Code.guards,Code.isGuard,pushGuards,guardIds] using r.gs⟩
theorem JS{A:Around}{C:Addr}{us:List Value}{kw:List (Str×Value)}:(A.under (.builtin "type.__call__" ⟨.ref C::us,kw⟩)).depth=A.depth+1:=by
 first | rfl | simp[Around.under,Code.weight,Code.isCreation,Code.isGuard,Code.isCaller,Code.frames,Code.isFrame,guardIds]
theorem JD{A:Around}{C:Addr}{us:List Value}{kw:List (Str×Value)}:(A.under (.builtin "type.__call__" ⟨.ref C::us,kw⟩)).units=A.units+1:=by
 first | rfl | simp[Around.under,Code.cUnits,Code.frames,Code.isFrame]
theorem Room.make{k:Nat}{A:Around}(r:Room (k+1) A)(C:Addr)(us:List Value)(kw:List (Str×Value)):Room k (A.under (.builtin "type.__call__" ⟨.ref C::us,kw⟩)) :=
 ⟨r.hd,by have:=r.dp;rw[JS];omega,by have:=r.un;rw[JD];omega,by first | exact r.gs | simpa[Around.deeper,Around.under,Code.guards,Code.isGuard,pushGuards,guardIds] using r.gs⟩
theorem Room.depth{k:Nat}{A:Around}(r:Room k A):A.depth<recursionLimit:=by have:=r.dp;omega
theorem Room.units{k:Nat}{A:Around}(r:Room k A):A.units+64<cLine:=by have:=r.un;omega
def vM:TA:=λ_ H Q=>Q [] H
def kM(ta:TE)(tr:TA):TA:=λσ H Q=>ta σ H λx H1=>tr σ H1 λxs H2=>Q (x::xs) H2
section
variable{X:Cx}{e:Expr}{es:List Expr}{te:TE}{t:TA}{pos:Pos}
theorem lQ:PA X [] vM:=λ_ _ _ _ H Q I h=>Calls.spliced_nil ⟨[],H,I,.nil,h⟩
theorem fK(ha:PE X e te)(hr:PA X es t)(hs:starEach (e::es) X.env=(false,eval e X.env)::starEach es X.env:=by rfl):PA X (e::es) (kM te t):=by
 intro pos pins s σ H Q I h;rw[hs];show wpAny _ _ (spliced ((false,eval e X.env)::backTo pos (starEach es X.env))) _ _ s;refine Calls.spliced_cons (bA (ha pins s σ H _ I h) λu s1 ⟨x,H1,I1,r1,q1⟩=>?_);exact bA (hr pos pins s1 σ H1 _ I1 q1) λus s2 ⟨xs,H2,I2,r2,q2⟩=>⟨x::xs,H2,I2,.cons r1 r2,q2⟩
noncomputable def aB7(t:TA):TE:=λσ H Q=>t σ H λxs H1=>xs.length<=sizeLine/\∀p,H1 p=none->Q (.ref p) (aP H1 p (.tup xs))
noncomputable def aF9(t:TA):TE:=λσ H Q=>t σ H λxs H1=>xs.length<=sizeLine/\∀p,H1 p=none->Q (.ref p) (aP H1 p (.lst xs))
theorem MR{x1}(h:PA X es t):PE X (.Tuple es x1 pos) (aB7 t):=by
 intro pins s σ H Q I hq;refine wpAny_Tuple_spliced (bA (h pos pins s σ H _ I hq) λus s1 ⟨xs,H1,I1,r,z,q⟩=>⟨by rw[<- r.length];exact z, ?_⟩);have hf:H1 s1.heap.objs.size=none:=I1.hok.fresh (Zq _);refine⟨.ref s1.heap.objs.size,aP H1 s1.heap.objs.size (.tup xs),I1.laid (t':=s1.toks) (λb u e=>Zd _ e) (Zq _) ?_,rfl,q _ hf⟩;exact⟨z,us,r,⟨_,Zw _ rfl,rfl,_,rfl⟩⟩
theorem aBn(h:PA X es t):PE X (.List es pos) (aF9 t):=by
 intro pins s σ H Q I hq;refine wpAny_List_spliced (bA (h pos pins s σ H _ I hq) λus s1 ⟨xs,H1,I1,r,z,q⟩=>⟨by rw[<- r.length];exact z, ?_⟩);have hf:H1 s1.heap.objs.size=none:=I1.hok.fresh (Zq _);refine⟨.ref s1.heap.objs.size,aP H1 s1.heap.objs.size (.lst xs),I1.laid (t':=s1.toks) (λb u e=>Zd _ e) (Zq _) ?_,rfl,q _ hf⟩;exact⟨z,us,0,r,Zw _ rfl⟩
end
abbrev Sp:=List V->Hp->VK->XK->Prop
abbrev qN:=List Env->Hp->Shared->XK->Value->Shared->Prop
structure Env0(P:Program)(w:World)(K:Frag)(mg:Str->Option Value)(base:Heap)(A:Around)(outer:List Env)(s:Shared)(H:Hp):Prop where
 frames:A.frames=some outer
 mod:Mod K mg base
 bs:∀b o,base.get? b=some o->s.heap.get? b=some o/\H b=none
 bsz:base.objs.size<=s.heap.objs.size
 funs:s.heap.FunFrames base outer
 frf:∀b∈f7 outer,H b=none
 hok:fP P w H s.heap
 bare:AllBare s.gens
def CE(outer:List Env)(P:Program)(w:World)(H:Hp)(s:Shared)(Q:VK)(u:Value)(s':Shared):Prop :=
 ∃v H',s'.os=s.os/\AllBare s'.gens/\Un (f7 outer) [] H H' s.heap s'.heap/\fP P w H' s'.heap/\aU v u/\Q v H'
def CR(CX:qN)(outer:List Env)(P:Program)(w:World)(H:Hp)(s:Shared)(Q:VK)(E:XK)(r:Result)(s':Shared):Prop :=
 match r with
 |.ok (.ret u)=>CE outer P w H s Q u s'
 |.ok _=>False
 |.error e=>CX outer H s E e s'
structure FnOk(P:Program)(w:World)(K:Frag)(mg:Str->Option Value)(base:Heap)(CX:qN)(k:Nat)(f:Addr)(fd:FuncData)(ps:List Str)(sp:Sp):Prop where
 len:∀vs H Q E,sp vs H Q E->vs.length=ps.length
 run:∀(A:Around) (outer:List Env) (s:Shared) (H:Hp) (args:Args) (us:List Value) (vs:List V) (Q:VK) (E:XK),Room k A->Env0 P w K mg base A outer s H->BindsTo s fd args (ps.zip us)->aL vs us->sp vs H Q E ->
  codeAny (model P w) A (.call (.ref f) args) (CR CX outer P w H s Q E) s
theorem Env0.make{P:Program}{w:World}{K:Frag}{mg:Str->Option Value}{base:Heap}{A:Around}{outer:List Env}{s:Shared}{H:Hp}(e:Env0 P w K mg base A outer s H)(C:Addr)(us:List Value)(kw:List (Str×Value)) :
  Env0 P w K mg base (A.under (.builtin "type.__call__" ⟨.ref C::us,kw⟩)) outer s H:=⟨by first | exact e.frames | (simpa[Around.under,Code.envs,Code.isFrame,pushEnvs] using e.frames),e.mod,e.bs,e.bsz,e.funs,e.frf,e.hok,e.bare⟩
section
variable{X:Cx}{pins:List (Addr×Obj)}{σ:St}{H:Hp}{s s':Shared}
theorem Inv.env0(I:Inv X pins σ H s):Env0 X.prog X.w X.K X.mg X.base X.A X.stack s H :=
 ⟨I.ok.frames,I.ok.mod,I.bs,Zr I.ok.bsz I.sz,I.stack,I.stkFree,I.hok,I.bare⟩
theorem Inv.after{Q:VK}{u:Value}(I:Inv X pins σ H s)(h:CE X.stack X.prog X.w H s Q u s'):EP X pins σ Q u s':=by
 obtain⟨v,H',os,bare,un,hok,r,q⟩:=h;obtain⟨hh,g,d,t,os'⟩:=s';obtain rfl:os'=s.os:=os;exact⟨v,H',I.call (h':=hh) (g':=g) (d':=d) (t':=t) (ch:=[]) un hok bare (λb z=>absurd z (by simp)),r,q⟩
end
def aEx(sp:Sp)(dvs:List V)(E:XK)(t:TA):TE:=λσ H Q=>t σ H λvs H1=>sp (vs++dvs) H1 Q E
noncomputable def JL(C:Addr)(m:Str)(sp:Sp)(dvs:List V)(E:XK)(ta:TE)(t:TA):TE:=λσ H Q=>ta σ H λx H1=>∃a dx fs,x=.ref a/\H1 a=some (.ins C dx fs)/\fs.lookup m=none /\
 t σ H1 λvs H2=>sp (x::(vs++dvs)) H2 Q E
noncomputable def aDj(C:Addr)(sp:Sp)(dvs:List V)(E:XK)(t:TA):TE:=λσ H Q=>t σ H λvs H1=>∀x dx,H1 x=none->H1 dx=none->dx≠x ->
 sp (.ref x::(vs++dvs)) (aP (aP H1 dx (.own x)) x (.ins C dx [])) (λv H2=>v=.non/\Q (.ref x) H2) E
def eW(K:Frag)(fd:FuncData)(ps:List Str)(ds:List Value):Prop :=
 ∀(s:Shared) (us:List Value),K.In s.heap->(us++ds).length=ps.length->BindsTo s fd ⟨us,[]⟩ (ps.zip (us++ds))
theorem eW.all{K:Frag}{fd:FuncData}{ps:List Str}(h:∀us:List Value,us.length=ps.length->bindArgs fd ⟨us,[]⟩=pure (ps.zip us)):eW K fd ps []:=λs us _ hl=>by
 rw[List.append_nil] at hl ⊢;exact .of_eq (h us hl)
def lB(CX:qN)(X:Cx)(E:XK):Prop:=∀(pins:List (Addr×Obj)) (σ:St) (H:Hp) (s:Shared) (e:Value) (s':Shared),Inv X pins σ H s->CX X.stack H s E e s'->X.xe e s'
section
variable{X:Cx}{CX:qN}{k:Nat}{f C:Addr}{fd:FuncData}{ps:List Str}{sp:Sp}{dvs:List V}{ds:List Value}{E:XK}{x m:Str}{p pos apos:Pos}{e o:Expr}{es:List Expr}{ta:TE}{t:TA}
theorem EL{pins:List (Addr×Obj)}{σ:St}{H:Hp}{s:Shared}{Q:VK}{us:List Value}{vs:List V}(F:FnOk X.prog X.w X.K X.mg X.base CX k f fd ps sp)(hr:Room k X.A)(hb:eW X.K fd ps ds)(hd:aL dvs ds)(hx:lB CX X E)
  (I:Inv X pins σ H s) (r:aL vs us) (h:sp (vs++dvs) H Q E):wpAny (model X.prog X.w) X.A (call (.ref f) us) (EP X pins σ Q) X.xe s:=by
 have r2:aL (vs++dvs) (us++ds):=r.append hd;have hl:(us++ds).length=ps.length:=by rw[<- r2.length];exact F.len _ _ _ _ h
 refine wpAny_call (codeAny_mono (F.run X.A X.stack s H ⟨us,[]⟩ (us++ds) (vs++dvs) Q E hr I.env0 (hb s us I.kIn hl) r2 h) λr s' hq=>?_)
 cases r with
 |error e=>exact hx pins σ H s e s' I hq
 |ok fl =>
  cases fl with
  |ret u=>exact I.after hq
  |next=>exact False.elim hq
  |brk=>exact False.elim hq
  |cont=>exact False.elim hq
theorem YB(F:FnOk X.prog X.w X.K X.mg X.base CX k f fd ps sp)(hr:Room k X.A)(hg:Gl X x)(hm:X.mg x=some (.ref f))(hk:PySem.W.keepIn X.K (.ref f)=true)(hb:eW X.K fd ps ds)(hd:aL dvs ds)(hx:lB CX X E)
  (ha:PA X (e::es) t) (hdb:(x==("__debug__":Str))=false:=by decide) (he:starEach (e::es) X.env=(false,eval e X.env)::starEach es X.env:=by rfl) (hpl:(backTo pos (starEach es X.env)).any (·.1)=false:=by rfl) :
  PE X (.Call (.Name x p) (e::es) [] pos) (aEx sp dvs E t):=by
 intro pins s σ H Q I h;refine wpAny_Call_Name_kw (kU I hg hm ?_ hdb);refine PySem.W.callWith_K (h₀:=X.base) I.ok.mod.kin hk (bA (ha pos pins s σ H _ I h) λus s1 ⟨vs,H1,I1,r,q⟩=>⟨I1.kIn, ?_⟩) he hpl;exact EL F hr hb hd hx I1 r q
theorem X0{pl:Sem Bool}(he:PE X o ta)(c:Cls X.K C)(hm:Meth X.K C m f)(F:FnOk X.prog X.w X.K X.mg X.base CX k f fd ps sp)(hr:Room k X.A)(hb:eW X.K fd ps ds)(hd:aL dvs ds)(hx:lB CX X E)(ha:PA X (e::es) t)
  (hst:starEach (e::es) X.env=(false,eval e X.env)::starEach es X.env:=by rfl) (hpl:(backTo pos (starEach es X.env)).any (·.1)=false:=by rfl)
  (ht:eval (.Call (.Attribute o m apos) (e::es) [] pos) X.env=(do
   let ov <- eval o X.env
   standAt apos.atName
   let (f,first) <- holding [ov] (getMethod ov m pl)
   callWith pos f first (backTo pos (starEach (e::es) X.env)) (backToKw pos (keywordEach [] X.env))):=by rfl) :
  PE X (.Call (.Attribute o m apos) (e::es) [] pos) (JL C m sp dvs E ta t):=by
 intro pins s σ H Q I h;refine PySem.W.methodCall_KW (pl:=pl) (bA (he pins s σ H _ I h) λu s1 ⟨x,H1,I1,rx,a,dx,fs,ex,ea,l,q⟩=>?_) ht;subst ex;obtain rfl:u=Value.ref a:=rx;refine wN I1 ea c hm l ?_;refine PySem.W.callWith_K (first:=[.ref a]) (h₀:=X.base) I.ok.mod.kin hm.kp (bA (ha pos pins s1 σ H1 _ I1 q) λus s2 ⟨vs,H2,I2,r,q2⟩=>⟨I2.kIn, ?_⟩) hst hpl;exact EL (us:=.ref a::us) (vs:=.ref a::vs) F hr hb hd hx I2 (.cons rfl r) q2
theorem O1{pl:Sem Bool}(he:PE X o ta)(c:Cls X.K C)(hm:Meth X.K C m f)(F:FnOk X.prog X.w X.K X.mg X.base CX k f fd ps sp)(hr:Room k X.A)(hb:eW X.K fd ps ds)(hd:aL dvs ds)(hx:lB CX X E)
  (ht:eval (.Call (.Attribute o m apos) [] [] pos) X.env=(do
   let ov <- eval o X.env
   standAt apos.atName
   let (f,first) <- holding [ov] (getMethod ov m pl)
   callWith pos f first (backTo pos (starEach [] X.env)) (backToKw pos (keywordEach [] X.env))):=by rfl) :
  PE X (.Call (.Attribute o m apos) [] [] pos) (JL C m sp dvs E ta vM):=by
 intro pins s σ H Q I h;refine PySem.W.methodCall_KW (pl:=pl) (bA (he pins s σ H _ I h) λu s1 ⟨x,H1,I1,rx,a,dx,fs,ex,ea,l,q⟩=>?_) ht;subst ex;obtain rfl:u=Value.ref a:=rx;refine wN I1 ea c hm l ?_;exact PySem.W.callWith_K0 (first:=[.ref a]) I1.kIn hm.kp (EL (us:=[.ref a]) (vs:=[.ref a]) F hr hb hd hx I1 (.cons rfl .nil) q)
structure Mk(K:Frag)(C f:Addr):Prop where
 makes:PySem.W.makesIn K C=true
 init:findIn K (.ref C) "__init__"=some (some (.ref f))
 fn:PySem.W.isFn K (.ref f)=true
 kp:PySem.W.keepIn K (.ref C)=true
theorem NY{pins:List (Addr×Obj)}{σ:St}{H:Hp}{s:Shared}{Q:VK}{us:List Value}{vs:List V}(M:Mk X.K C f)(F:FnOk X.prog X.w X.K X.mg X.base CX k f fd ps sp)(hr:Room (k+1) X.A)(hb:eW X.K fd ps ds)(hd:aL dvs ds)
  (hx:lB CX X E) (I:Inv X pins σ H s) (r:aL vs us)
  (h:∀x dx,H x=none->H dx=none->dx≠x->sp (.ref x::(vs++dvs)) (aP (aP H dx (.own x)) x (.ins C dx [])) (λv H2=>v=.non/\Q (.ref x) H2) E) :
  wpAny (model X.prog X.w) X.A (call (.ref C) us) (EP X pins σ Q) X.xe s:=by
 have hq:=h (s.heap.objs.size+1) s.heap.objs.size (I.hok.fresh (Nat.le_succ _)) (I.hok.fresh (Zq _)) (Zz (Nat.lt_succ_self _));have I2:=Inv.made (C:=C) I;have r2:aL (V.ref (s.heap.objs.size+1)::(vs++dvs)) (Value.ref (s.heap.objs.size+1)::(us++ds)):=.cons rfl (r.append hd)
 have hl:(Value.ref (s.heap.objs.size+1)::us++ds).length=ps.length:=by(have e:=r2.length;rw[F.len _ _ _ _ hq] at e;exact e.symm)
 refine wpAny_call (OM (f:=f) I.kIn M.makes M.init (beq_iff_eq.mp M.fn) (codeAny_mono (F.run _ X.stack _ _ ⟨Value.ref (s.heap.objs.size+1)::us,[]⟩ (Value.ref (s.heap.objs.size+1)::(us++ds)) _ _ E (hr.make C us [])
  (I2.env0.make C us []) (hb _ (Value.ref (s.heap.objs.size+1)::us) I2.kIn hl) r2 hq) λr s' hq'=>?_))
 cases r with
 |error e=>exact hx pins σ _ _ e s' I2 hq'
 |ok fl =>
  cases fl with
  |ret u =>
   obtain⟨v,H',I3,rv,ev,q3⟩:=I2.after hq';subst ev;exact⟨rv,⟨V.ref (s.heap.objs.size+1),H',I3,rfl,q3⟩⟩
  |next=>exact False.elim hq'
  |brk=>exact False.elim hq'
  |cont=>exact False.elim hq'
theorem W8(M:Mk X.K C f)(F:FnOk X.prog X.w X.K X.mg X.base CX k f fd ps sp)(hr:Room (k+1) X.A)(hg:Gl X x)(hm:X.mg x=some (.ref C))(hb:eW X.K fd ps ds)(hd:aL dvs ds)(hx:lB CX X E)
  (ha:PA X (e::es) t) (hdb:(x==("__debug__":Str))=false:=by decide) (he:starEach (e::es) X.env=(false,eval e X.env)::starEach es X.env:=by rfl) (hpl:(backTo pos (starEach es X.env)).any (·.1)=false:=by rfl) :
  PE X (.Call (.Name x p) (e::es) [] pos) (aDj C sp dvs E t):=by
 intro pins s σ H Q I h;refine wpAny_Call_Name_kw (kU I hg hm ?_ hdb);refine PySem.W.callWith_K (h₀:=X.base) I.ok.mod.kin M.kp (bA (ha pos pins s σ H _ I h) λus s1 ⟨vs,H1,I1,r,q⟩=>⟨I1.kIn, ?_⟩) he hpl;exact NY M F hr hb hd hx I1 r q
end
def PK(X:Cx)(kws:List Keyword)(t:TA):Prop :=
 ∀(pos:Pos) (pins:List (Addr×Obj)) (s:Shared) (σ:St) (H:Hp) (Q:List V->Hp->Prop),Inv X pins σ H s->t σ H Q->wpAny (model X.prog X.w) X.A (evalAll ((backToKw pos (keywordEach kws X.env)).map (·.2))) (AP X pins σ Q) X.xe s
section
variable{X:Cx}{CX:qN}{k:Nat}{f C:Addr}{fd:FuncData}{ps ks:List Str}{sp:Sp}{E:XK}{x m:Str}{p pos apos kpos:Pos}{e o:Expr}{es:List Expr}{kws:List Keyword}{te ta:TE}{t tk:TA}{nm:Option Str}
theorem aBB:PK X [] vM:=λ_ _ _ _ H Q I h=>wpAny_evalAll_nil ⟨[],H,I,.nil,h⟩
theorem UQ(ha:PE X e te)(hr:PK X kws t):PK X (⟨nm,e,kpos⟩::kws) (kM te t):=by
 intro pos pins s σ H Q I h;show wpAny _ _ (evalAll ((do let v <- eval e X.env;standAt pos;pure v)::(backToKw pos (keywordEach kws X.env)).map (·.2))) _ _ s;refine wpAny_evalAll_cons (Zt (bA (ha pins s σ H _ I h) λu s1 ⟨x,H1,I1,r1,q1⟩=>Zt (wpAny_standAt (Zu ?_))));exact bA (hr pos pins s1 σ H1 _ I1 q1) λus s2 ⟨xs,H2,I2,r2,q2⟩=>⟨x::xs,H2,I2,.cons r1 r2,q2⟩
structure KBinds(K:Frag)(fd:FuncData)(ps ks:List Str)(g:List Value->List Value->List Value)(gV:List V->List V->List V):Prop where
 to:∀(s:Shared) (us ws:List Value),K.In s.heap->(g us ws).length=ps.length->BindsTo s fd ⟨us,ks.zip ws⟩ (ps.zip (g us ws))
 rel:∀{vs:List V} {us:List Value} {zs:List V} {ws:List Value},aL vs us->aL zs ws->aL (gV vs zs) (g us ws)
variable{g:List Value->List Value->List Value}{gV:List V->List V->List V}
end
structure FnScope(N P:List Str)(sc:Scope):Prop where
 kind:sc.kind=.function
 co:sc.isCoroutine=false
 gen:sc.isGenerator=false
 nd:N.Nodup
 pre:N.take P.length=P
 par:∀x∈P,sc.names.lookup x=some .local\/sc.names.lookup x=some .cell
 nofree:∀y∈sc.names,y.2≠.free
theorem AE{kindOf:Str->Option NameKind}{x:Str}:∀{binds:List (Str×Value)} {m:Str->Option Value},(∀v,(x,v) ∉ binds)->bindL kindOf binds m x=m x
 |[],_,_=>rfl
 | (n,v)::r,m,h=>by
  unfold bindL;rw[AE λw hw=>h w (Ze _ hw)];split
  ·have:x≠n:=by rintro rfl;exact h v zh
   simp[this]
  ·rfl
theorem AL{kindOf:Str->Option NameKind}{x:Str}:∀{binds:List (Str×Value)} {m:Str->Option Value},(∀v,(x,v) ∉ binds)->bindC kindOf binds m x=m x
 |[],_,_=>rfl
 | (n,v)::r,m,h=>by
  unfold bindC;rw[AL λw hw=>h w (Ze _ hw)];split
  ·rfl
  ·have:x≠n:=by rintro rfl;exact h v zh
   simp[this]
theorem zO{kindOf:Str->Option NameKind}{x:Str}{v:Value}:∀{P:List Str} {vs:List Value} {i:Nat} {m:Str->Option Value},P.Nodup->P[i]?=some x->vs[i]?=some v->kindOf x=some .local ->
  bindL kindOf (P.zip vs) m x=some v
 |[],_,_,_,_,h,_,_=>by simp at h
 |_::_,[],_,_,_,_,h,_=>by simp at h
 |p::P,w::vs,0,m,nd,h1,h2,hk=>by
  simp at h1 h2;subst h1;subst h2;show bindL kindOf ((p,w)::P.zip vs) m p=_;unfold bindL;rw[AE λv hv=>(List.nodup_cons.mp nd).1 (List.of_mem_zip hv).1,Zo hk];simp
 |p::P,w::vs,i+1,m,nd,h1,h2,hk=>by(show bindL kindOf ((p,w)::P.zip vs) m x=_;unfold bindL;exact zO (i:=i) (List.nodup_cons.mp nd).2 (by simpa using h1) (by simpa using h2) hk)
theorem AG{kindOf:Str->Option NameKind}{x:Str}{v:Value}:∀{P:List Str} {vs:List Value} {i:Nat} {m:Str->Option Value},P.Nodup->P[i]?=some x->vs[i]?=some v->kindOf x≠some .local ->
  bindC kindOf (P.zip vs) m x=some v
 |[],_,_,_,_,h,_,_=>by simp at h
 |_::_,[],_,_,_,_,h,_=>by simp at h
 |p::P,w::vs,0,m,nd,h1,h2,hk=>by
  simp at h1 h2;subst h1;subst h2;show bindC kindOf ((p,w)::P.zip vs) m p=_;unfold bindC;rw[AL λv hv=>(List.nodup_cons.mp nd).1 (List.of_mem_zip hv).1,Zp hk];simp
 |p::P,w::vs,i+1,m,nd,h1,h2,hk=>by(show bindC kindOf ((p,w)::P.zip vs) m x=_;unfold bindC;exact AG (i:=i) (List.nodup_cons.mp nd).2 (by simpa using h1) (by simpa using h2) hk)
def cK(N:List Str)(vs:List V):St:=vs.map some++List.replicate (N.length-vs.length) none
noncomputable def jI(CX:qN)(P:Program)(w:World)(K:Frag)(mg:Str->Option Value)(base:Heap)(N:List Str)(qual:Str)(scope:Scope)(f:Addr)(cd:Value)(A:Around)(outer:List Env)(s:Shared)(H:Hp)(E:XK):Cx where
 prog:=P
 w:=w
 K:=K
 mg:=mg
 base:=base
 A:=A.deeper (envOfC qual scope s.heap.objs.size f cd)
 N:=N
 s₀:=s
 H₀:=H
 env:=envOfC qual scope s.heap.objs.size f cd
 outer:=outer
 stack:=envOfC qual scope s.heap.objs.size f cd::outer
 ex:=[]
 calm:=true
 fn:=λ_=>true
 pn:=[]
 xe:=λe s'=>wpAny (model P w) (A.deeper (envOfC qual scope s.heap.objs.size f cd)) (leaving (envOfC qual scope s.heap.objs.size f cd) e) (λ_ s''=>CX outer H s E e s'') (λe' s''=>CX outer H s E e' s'') s'
theorem DB{sc:Scope}{n:Nat}{x:Str}(h:sc.names.lookup x=some .cell):∃c,(cellsFrom n sc.names []).lookup x=some c:=by
 have q:=PySem.W.cellsFrom_some sc.names n [] (.inl h);exact Option.isSome_iff_exists.mp q
theorem LY{CX:qN}{P:Program}{w:World}{K:Frag}{mg:Str->Option Value}{base:Heap}{N ps:List Str}{qual:Str}{scope:Scope}{f:Addr}{cd:Value}{A:Around}{outer:List Env}{s s1:Shared}{H:Hp}{E:XK}{us:List Value}{vs:List V}
  (S:FnScope N ps scope) (hd:A.handled=none) (e0:Env0 P w K mg base A outer s H) (hl:vs.length=ps.length) (r:aL vs us)
  (x:InCallC s s.heap.objs.size (bindL (envOfC qual scope s.heap.objs.size f cd).kindOf (ps.zip us) λ_=>none) (cellsFrom (s.heap.objs.size+1) scope.names []) (bindC (envOfC qual scope s.heap.objs.size f cd).kindOf (ps.zip us) λ_=>none) s1) :
  Inv (jI CX P w K mg base N qual scope f cd A outer s H E) [] (cK N vs) H s1:=by
 have hpl:ps.length<=N.length:=by have:=congrArg List.length S.pre;rw[List.length_take] at this;omega
 obtain⟨h1,tk,rfl,hk⟩:=x.done;have noA:∀b:Addr,b ∉ (jI CX P w K mg base N qual scope f cd A outer s H E).ex:=λb z=>absurd (show b∈([]:List Addr) from z) (by simp)
 refine⟨⟨e0.mod,S.kind,rfl,rfl,Zq _,λy z c h1 h2=>?_,λy hy=>?_,λy c _ h=>?_,λ_=>hd,Around.frames_deeper e0.frames,.inr ⟨rfl,rfl⟩,λb z=>absurd z (noA b),e0.bs,e0.bsz,λb _ _=>noA b,λb z=>absurd z (noA b),e0.funs,e0.frf⟩,
  rfl,e0.bare,Un.kept hk,⟨_,x.toInCall.ns,λi y v h1 h2 h3=>?_⟩,λy c h=>⟨_,x.cell y c h⟩,e0.hok.fresh (Zq _),λy c h=>?_,λp hp=>absurd (show p∈([]:List (Addr×Obj)) from hp) (by simp),e0.hok.kept hk, ?_⟩
 ·exact name_of_addr x.apart (PySem.mem_of_lookup h1) (PySem.mem_of_lookup h2)
 ·have hy:scope.names.lookup y=some .cell\/scope.names.lookup y=some .free:=hy;rcases hy with hy | hy
  ·exact DB hy
  ·exact absurd rfl (S.nofree _ (PySem.mem_of_lookup hy))
 ·exact Nat.le_of_lt (x.above y c (PySem.mem_of_lookup h))
 ·have hi:i<vs.length:=by
   unfold cK at h2;by_cases hi:i<vs.length
   ·exact hi
   ·rw[List.getElem?_append_right (by simpa using hi)] at h2;rw[List.getElem?_replicate] at h2;split at h2<;>cases h2
  have ha:vs[i]?=some v:=by
   unfold cK at h2;rw[List.getElem?_append_left (by simpa using hi),Zh] at h2
   cases e:vs[i]? with
   |none=>rw[e] at h2;cases h2
   |some a=>rw[e] at h2;cases h2;rfl
  obtain⟨u,hu,rv⟩:=r.get ha
  have hp:ps[i]?=some y:=by(rw[<- S.pre,List.getElem?_take_of_lt (by omega)];exact h1)
  have ndP:ps.Nodup:=by rw[<- S.pre];exact S.nd.sublist (List.take_sublist _ _)
  refine⟨u,rv, ?_⟩;rcases S.par y (zj hp) with k | k
  ·exact .inl ⟨k,zO ndP hp hu k⟩
  ·obtain⟨c,e⟩:=DB (n:=s.heap.objs.size+1) k;refine .inr ⟨.inl k,c,e, ?_⟩;have q:=x.cell y c e;rw[AG ndP hp hu (by show scope.names.lookup y≠_;rw[k];decide)] at q;exact q
 ·exact e0.hok.fresh (Nat.le_of_lt (x.above y c (PySem.mem_of_lookup h)))
 ·unfold cK;show _=N.length;rw[Za,List.length_map,List.length_replicate];omega
theorem RO{CX:qN}{P:Program}{w:World}{K:Frag}{mg:Str->Option Value}{base:Heap}{k:Nat}{f:Addr}{name qual:Str}{params:Arguments}{body:List Stmt}{scope:Scope}{dV kV doc pm cdv ct oc:Value}{an od:Option Addr}
  {osl:Array (Option Value)} {N ps:List Str} {sp:Sp} (lk:K.lookup f=some ⟨oc,od,.func (PySem.W.fnOf name qual params body scope dV kV doc pm an cdv ct),osl⟩) (hcd:PySem.W.codeIn K cdv qual=true) (S:FnScope N ps scope)
  (len:∀vs H Q E,sp vs H Q E->vs.length=ps.length)
  (hbody:∀(A:Around) (outer:List Env) (s:Shared) (H:Hp) (vs:List V) (Q:VK) (E:XK),Room k (A.deeper (envOfC qual scope s.heap.objs.size f cdv))->sp vs H Q E ->
   ∃t,dR (jI CX P w K mg base N qual scope f cdv A outer s H E) body t/\t { nx:=λ_ H'=>Q .non H',rt:=Q } (cK N vs) H) :
  FnOk P w K mg base CX (k+1) f (PySem.W.fnOf name qual params body scope dV kV doc pm an cdv ct) ps sp:=by
 refine⟨len,λA outer s H args us vs Q E hr e0 hb r hsp=>?_⟩;have hl:=len _ _ _ _ hsp;have KX:K.In s.heap:=e0.mod.kin.keeps λb o e=>(e0.bs b o e).1
 have lim:s.heap.NoLimit:=e0.mod.nolimit.keeps λb o e=>(e0.bs b o e).1
 have hkind:∀y∈ps.zip us,scope.names.lookup y.1=some .local\/(scope.names.lookup y.1=some .cell/\((cellsFrom (s.heap.objs.size+1) scope.names []).lookup y.1).isSome=true):=λ⟨n,v⟩ hy=>by
  rcases S.par n (List.of_mem_zip hy).1 with q | q
  ·exact .inl q
  ·exact .inr ⟨q,PySem.W.cellsFrom_some _ _ _ (.inl q)⟩
 refine codeAny_call_function hr.depth (KX _ _ lk) rfl S.co S.gen rfl (PySem.W.codeRec_of KX hcd) (hb _ _ _ _ ?_);refine wpAny_newFunctionEnv_cells S.kind hkind λenv he s1 x=>?_
 subst he;refine⟨lim.keeps x.toInCall.keep,codeAny_func ?_⟩;obtain⟨t,ht,hq⟩:=hbody A outer s H vs Q E (hr.deeper _) hsp;have I:Inv (jI CX P w K mg base N qual scope f cdv A outer s H E) [] (cK N vs) H s1:=LY S hr.hd e0 hl r x;refine wpAny_mono (ht [] s1 (cK N vs) H _ I hq) (λfl s' hs=>?_) λe s' hs=>hs
 have fin:∀{σ':St} {H':Hp} {v:V} {u:Value},Inv (jI CX P w K mg base N qual scope f cdv A outer s H E) [] σ' H' s'->aU v u->Q v H'->CE outer P w H s Q u s' :=
  λ{σ' H' v u} J rv q=>⟨v,H',J.os,J.bare,J.base,J.hok,rv,q⟩
 cases fl with
 |ret u =>
  obtain⟨v,σ',H',J,rv,q⟩:=hs;exact fin J rv q
 |next =>
  obtain⟨σ',H',J,q⟩:=hs;exact fin (v:=V.non) (u:=Value.none) J rfl q
 |brk =>
  obtain⟨_,_,_,q⟩:=hs;exact False.elim q
 |cont =>
  obtain⟨_,_,_,q⟩:=hs;exact False.elim q
section
variable{X:Cx}{x:Str}{p pos:Pos}{e:Expr}{es:List Expr}{t:TA}{id T:String}{r:List V->Hp->VK->Prop}
def tCB(r:List V->Hp->VK->Prop)(t:TA):TE:=λσ H Q=>t σ H λvs H1=>r vs H1 Q
theorem pL(hc:eZ X (.builtin id) r)(hg:Gl X x)(hm:X.mg x=none)(hv:bootBuiltins x=some (.builtin id))(ha:PA X (e::es) t)(hn:x≠"__name__":=by decide)(hdb:(x==("__debug__":Str))=false:=by decide)
  (he:starEach (e::es) X.env=(false,eval e X.env)::starEach es X.env:=by rfl) (hpl:(backTo pos (starEach es X.env)).any (·.1)=false:=by rfl):PE X (.Call (.Name x p) (e::es) [] pos) (tCB r t):=by
 intro pins s σ H Q I h;refine wpAny_Call_Name_kw (lT I hg hm hv ?_ hn hdb);exact PyProof.Rows.callWith_builtin1 (bA (ha pos pins s σ H _ I h) λus s1 ⟨vs,H1,I1,r1,q1⟩=>hc pins s1 σ H1 vs us Q I1 r1 q1) he hpl
theorem K5(hc:eZ X (.type T) r)(hg:Gl X x)(hm:X.mg x=none)(hv:bootBuiltins x=some (.type T))(ha:PA X (e::es) t)(hn:x≠"__name__":=by decide)(hdb:(x==("__debug__":Str))=false:=by decide)
  (he:starEach (e::es) X.env=(false,eval e X.env)::starEach es X.env:=by rfl) (hpl:(backTo pos (starEach es X.env)).any (·.1)=false:=by rfl):PE X (.Call (.Name x p) (e::es) [] pos) (tCB r t):=by
 intro pins s σ H Q I h;refine wpAny_Call_Name_kw (lT I hg hm hv ?_ hn hdb);exact PyProof.Rows.callWith_type1 (bA (ha pos pins s σ H _ I h) λus s1 ⟨vs,H1,I1,r1,q1⟩=>hc pins s1 σ H1 vs us Q I1 r1 q1) he hpl
end
end L2
namespace HT
open PySem PyProof.Rows
section
open PySem.SeqAt
open PySem.AutoSeq1 (wpAny_loadPart')
open PySem.MeetsSeq PySem.MeetsSeq2 PySem.MeetsSeq3
end
section
variable{prog:Program}{w:World}{A:Around}{E:Value->Shared->Prop}{s:Shared}
theorem YS{t b:Addr}{vs ws:List Value}{Q:Value->Shared->Prop}(ht:IsTup s.heap t vs.toArray)(hb:IsTup s.heap b ws.toArray)(hv:vs≠[])
  (h1:ws=[]->Q (.ref t) s) (h2:ws≠[]->Q (.ref s.heap.objs.size) { s with heap:=s.heap.push { cls:=.type "tuple",data:=.seq (vs++ws).toArray } })
  (hsz:vs.length+ws.length<=sizeLine):wpAny (model prog w) A (binaryOp .Add (.ref t) (.ref b)) Q E s:=by
 obtain⟨⟨cls,dd,data,sl⟩,ho,hc,n,hd⟩:=id ht;obtain⟨⟨cls2,dd2,data2,sl2⟩,ho2,hc2,n2,hd2⟩:=id hb;simp only at hc hd hc2 hd2;subst hc hd hc2 hd2;have e:vs.toArray++ws.toArray=(vs++ws).toArray:=by simp
 by_cases hw:ws=[]
 ·exact concat_meets ⟨_,ho,rfl⟩ ⟨_,ho2,rfl⟩ noFill_tuple_add seq_tuple_add PySem.F.slot_tuple_add PySem.F.entry_tuple_add (PySem.F.args_tuple_add_2 _ _)
   (tuple_addW1 t b vs.toArray ws.toArray n n2 dd dd2 sl sl2 (by simpa using hv) (by simp[hw])) ⟨ho,ho2,h1 hw⟩
 ·refine concat_meets ⟨_,ho,rfl⟩ ⟨_,ho2,rfl⟩ noFill_tuple_add seq_tuple_add PySem.F.slot_tuple_add PySem.F.entry_tuple_add (PySem.F.args_tuple_add_2 _ _)
   (tuple_addW2 t b vs.toArray ws.toArray n n2 dd dd2 sl sl2 (by simpa using hv) (by simpa using hw) (by rw[Zi,Zi];exact hsz)) ⟨ho,ho2, ?_⟩
  rw[e];exact h2 hw
def bL(n d:Nat):Option Int->Nat
 |none=>d
 |some v=>if v<0 then(v+(n:Int)).toNat else min v.toNat n
theorem vP(n d:Nat):bL n d none=d:=rfl
theorem uC(n d k:Nat):bL n d (some (k:Int))=min k n:=by
 show(if(k:Int)<0 then((k:Int)+(n:Int)).toNat else min (k:Int).toNat n)=min k n;rw[Zp (by omega),Int.toNat_natCast]
theorem aAp(n d:Nat)(hd:d<=n)(o:Option Int):bL n d o<=n:=by
 cases o with
 |none=>exact hd
 |some v =>
  show(if v<0 then(v+(n:Int)).toNat else min v.toNat n)<=n;by_cases hv:v<0
  ·rw[Zo hv];omega
  ·rw[Zp hv];exact Nat.min_le_right _ _
theorem G8(v:Int)(n d:Nat):(if v<0 then max (v+(n:Int)) 0 else min v (n:Int))=((bL n d (some v):Nat):Int):=by
 show(if v<0 then max (v+(n:Int)) 0 else min v (n:Int))=(((if v<0 then(v+(n:Int)).toNat else min v.toNat n):Nat):Int);by_cases hv:v<0
 ·simp only[Zo hv];omega
 ·simp only[Zp hv];omega
theorem IL(lo hi:Option Int)(n:Nat):Builtin.Slice.sliceAdjust lo hi 1 (n:Int)=(((bL n 0 lo:Nat):Int),((bL n n hi:Nat):Int)):=by
 have h1:¬((1:Int)<0):=by omega
 unfold Builtin.Slice.sliceAdjust;simp only[h1,if_false];refine Prod.ext ?_ ?_
 ·cases lo with
  |none=>rfl
  |some v=>exact G8 v n 0
 ·cases hi with
  |none=>rfl
  |some v=>exact G8 v n n
theorem JU(i j:Nat):Builtin.Slice.slicePlaces (i:Int) (j:Int) 1=j-i:=by
 unfold Builtin.Slice.slicePlaces;have h1:(1:Int) > 0:=by omega
 simp only[h1,if_true,Int.ediv_one]
 split<;>omega
theorem xN{v:Value}{o:Option Int}{Q:Option Int->Shared->Prop}(p:IsPart v o)(h:Q o s):wpAny (model prog w) A (Builtin.Slice.slicePartIndex v) Q E s:=by
 cases p with
 |none=>exact slicePart_none h
 |int i t=>exact slicePart_int h
theorem lL{sl:Addr}{vl vu:Value}{lo hi:Option Int}{n:Nat}{Q:Int×Int×Nat->Shared->Prop}(hs:s.heap.IsSliceOf sl vl vu .none)(pl:IsPart vl lo)(pu:IsPart vu hi)
  (h:Q (((bL n 0 lo:Nat):Int),1,bL n n hi-bL n 0 lo) s):wpAny (model prog w) A (Builtin.Slice.sliceApplied (.ref sl) (pure (n:Int))) Q E s:=by
 obtain⟨os,hos,hcs,hds⟩:=id hs;unfold Builtin.Slice.sliceApplied Builtin.Slice.sliceFields;refine Zt (Zt (wpAny_field hos hds (x:=vl) rfl (Zt (wpAny_field hos hds (x:=vu) rfl (Zt (wpAny_field hos hds (x:=.none) rfl (Zu ?_)))))));refine Zt (slicePart_none ?_);show wpAny _ _ (if((1:Int)==0)=true then _ else _) _ _ s;rw[Zp (by decide)];refine Zt (xN pl (Zt (xN pu (Zt (Zu ?_)))));show wpAny _ _ (match Builtin.Slice.sliceAdjust lo hi 1 (n:Int) with | (lo,hi)=>pure (lo,(1:Int),Builtin.Slice.slicePlaces lo hi 1)) _ _ s;rw[IL lo hi n];show wpAny _ _ (pure (((bL n 0 lo:Nat):Int),(1:Int),Builtin.Slice.slicePlaces ((bL n 0 lo:Nat):Int) ((bL n n hi:Nat):Int) 1)) _ _ s;rw[JU];exact Zu h
theorem QQ(xs:Array Value)(i k:Nat):((List.range k).filterMap λ(m:Nat)=>xs[((i:Int)+(m:Int)*1).toNat]?).toArray=((xs.toList.drop i).take k).toArray:=by
 have e:(λ(m:Nat)=>xs[((i:Int)+(m:Int)*1).toNat]?)=λm=>xs[i+m]?:=by
  funext m
  have:((i:Int)+(m:Int)*1).toNat=i+m:=by omega
  rw[this]
 rw[e]
 have:=pick_run xs i k
 rw[List.filterMap_map] at this;have e2:((λx=>xs[x]?) ∘ λx=>i+x)=λm=>xs[i+m]?:=rfl
 rw[e2] at this;rw[this]
theorem uH{t sl:Addr}{items:Array Value}{vl vu:Value}{lo hi:Option Int}{Q:Value->Shared->Prop}(ht:IsTup s.heap t items)(hs:s.heap.IsSliceOf sl vl vu .none)(pl:IsPart vl lo)(pu:IsPart vu hi)
  (hw:¬(bL items.size 0 lo=0/\bL items.size items.size hi=items.size))
  (h:Q (.ref s.heap.objs.size) { s with heap:=s.heap.push { cls:=.type "tuple",data:=.seq ((items.toList.drop (bL items.size 0 lo)).take (bL items.size items.size hi-bL items.size 0 lo)).toArray } })
  (hsz:items.size<=sizeLine):wpAny (model prog w) A (getItem (.ref t) (.ref sl)) Q E s:=by
 have htake:sizeOk (.seq ((items.toList.drop (bL items.size 0 lo)).take (bL items.size items.size hi-bL items.size 0 lo)).toArray):=by(show((items.toList.drop (bL items.size 0 lo)).take (bL items.size items.size hi-bL items.size 0 lo)).toArray.size<=sizeLine;rw[Zi,List.length_take,List.length_drop,Array.length_toList];omega)
 have hj:bL items.size items.size hi<=items.size:=aAp _ _ (Zq _) hi;obtain⟨os,hos,hcs,hds⟩:=id hs;have hTs:s.TypeIs (.ref sl) "slice":=⟨os,hos,hcs⟩
 unfold getItem
 try with_reducible refine wpAny_holding ?_
 first | refine Zt (Zu ?_) | skip
 refine Zt (wpAny_sequenceKey ht.typeIs (by decide) ?_)
 refine Zt (wpAny_callSpecial?_slot (name:=Str.ofString "__getitem__") ht.typeIs PyProof.Rows.slot_tuple_getitem
  (wpAny_call_entry PyProof.Rows.slot_tuple_getitem ht.typeIs entry_tuple_getitem ?_ (args_tuple_getitem _ _)))
 show wpAny _ _ (Builtin.Tuple.tupleItemsOf (.ref t)>>=_) _ _ s;refine Zt (tupleItemsOf_ ht ?_);refine Zt (wpAny_typeOf hTs ?_);rw[Zo (by decide)];refine Zt (lL hs pl pu ?_)
 have hno:¬((((bL items.size 0 lo:Nat):Int)==0&&(1:Int)==1&&(bL items.size items.size hi-bL items.size 0 lo)==items.size)=true):=by(intro q;rw[ZB,ZB] at q;have q1:((bL items.size 0 lo:Nat):Int)=0:=Zy q.1.1;have q2:bL items.size items.size hi-bL items.size 0 lo=items.size:=Zy q.2;exact hw ⟨by omega,by omega⟩)
 show wpAny _ _ (if(((bL items.size 0 lo:Nat):Int)==0&&(1:Int)==1&&(bL items.size items.size hi-bL items.size 0 lo)==items.size)=true then _ else _) _ _ s;rw[Zp hno,QQ]
 first
  |exact Zt (m:=Builtin.Tuple.tupleExact _) (wpAny_newObj_type (Zu ⟨_,rfl,Zu h⟩) htake)
  |exact Zt (m:=Builtin.Tuple.tupleExact _) (wpAny_newObj_type (Zt (Zu (Zu ⟨_,rfl,Zu h⟩))) htake)
  |exact Zt (Zt (m:=Builtin.Tuple.tupleExact _) (wpAny_newObj_type (Zu (Zu ⟨_,rfl,Zu h⟩)) htake))
  |exact Zt (Zt (m:=Builtin.Tuple.tupleExact _) (wpAny_newObj_type (Zu ⟨_,rfl,Zu h⟩) htake))
end
end HT
namespace L2
open PySem PySem.Spec PyProof.Rows
abbrev TO:=St->Hp->(Option Int->Hp->Prop)->Prop
def PO(X:Cx)(e:Option Expr)(t:TO):Prop :=
 ∀(pins:List (Addr×Obj)) (s:Shared) (σ:St) (H:Hp) (Q:Option Int->Hp->Prop),Inv X pins σ H s->t σ H Q ->
  wpAny (model X.prog X.w) X.A (evalPart e X.env) (λu s'=>∃o H',Inv X pins σ H' s'/\IsPart u o/\Q o H') X.xe s
def XU:TO:=λ_ H Q=>Q none H
def aC9(t:TE):TO:=λσ H Q=>t σ H λx H1=>∃i,x=.int i/\Q (some i) H1
section
variable{X:Cx}{e:Expr}{te:TE}{lo hi:Option Expr}{tl th:TO}{pos p2:Pos}
theorem XC:PO X none XU:=by
 intro pins s σ H Q I h;rw[evalPart_none];exact Zu ⟨none,H,I,.none,h⟩
theorem UX(h:PE X e te):PO X (some e) (aC9 te):=by
 intro pins s σ H Q I hw;rw[evalPart_some];refine bA (h pins s σ H _ I hw) λu s1 ⟨x,H1,I1,r1,q1⟩=>?_
 obtain⟨i,rfl,q⟩:=q1;obtain⟨t,rfl⟩:=r1;exact⟨some i,H1,I1,.int i t,q⟩
def uS(X:Cx)(r:V->Option Int->Option Int->Hp->VK->Prop):Prop :=
 ∀(pins:List (Addr×Obj)) (s:Shared) (σ:St) (H:Hp) (x:V) (v vl vu:Value) (lo hi:Option Int) (sl:Addr) (Q:VK),Inv X pins σ H s->aU x v->s.heap.IsSliceOf sl vl vu .none->IsPart vl lo->IsPart vu hi->r x lo hi H Q ->
  ∃T id,typeLookup (.type T) "__getitem__"=pure (some (.builtin id))/\s.TypeIs v T/\wpAny (model X.prog X.w) X.A (getItem v (.ref sl)) (EP X pins σ Q) X.xe s
theorem uS.or{r r':V->Option Int->Option Int->Hp->VK->Prop}(h:uS X r)(h':uS X r'):uS X (λx lo hi H Q=>r x lo hi H Q\/r' x lo hi H Q):=by
 intro pins s σ H x v vl vu lo hi sl Q I rx hs pl pu q;rcases q with q | q
 ·exact h pins s σ H x v vl vu lo hi sl Q I rx hs pl pu q
 ·exact h' pins s σ H x v vl vu lo hi sl Q I rx hs pl pu q
noncomputable def tSl(r:V->Option Int->Option Int->Hp->VK->Prop)(te:TE)(tl th:TO):TE:=λσ H Q=>te σ H λx H1=>tl σ H1 λl H2=>th σ H2 λu H3=>r x l u H3 Q
theorem QV{r:V->Option Int->Option Int->Hp->VK->Prop}(hr:uS X r)(he:PE X e te)(hl:PO X lo tl)(hu:PO X hi th):PE X (.Subscript e (.Slice lo hi none p2) pos) (tSl r te tl th):=by
 intro pins s σ H Q I h;refine Subscript_ (bA (he pins s σ H _ I h) λv s1 ⟨x,H1,I1,r1,q1⟩=>?_);refine wpAny_Slice (bA (hl pins s1 σ H1 _ I1 q1) λvl s2 ⟨l,H2,I2,pl,q2⟩=>bA (hu pins s2 σ H2 _ I2 q2) λvu s3 ⟨u,H3,I3,pu,q3⟩=>?_);rw[evalPart_none];refine Zu ?_;have I4:Inv X pins σ H3 { s3 with heap:=s3.heap.push { cls:=.type "slice",data:=.fields #[vl,vu,.none] } }:=I3.kept (t':=s3.toks) λb ob q=>Zd _ q
 obtain⟨T,id,hT,ht,hg⟩:=hr pins { s3 with heap:=s3.heap.push { cls:=.type "slice",data:=.fields #[vl,vu,.none] } } σ H3 x v vl vu l u s3.heap.objs.size Q I4 r1 (Heap.IsSliceOf.new ..) pl pu q3;show wpAny (model X.prog X.w) X.A (subscriptTail e (.Slice lo hi none p2) v (.ref s3.heap.objs.size)) (EP X pins σ Q) X.xe { s3 with heap:=s3.heap.push { cls:=.type "slice",data:=.fields #[vl,vu,.none] } };exact tail_any (ops:=[.ref s3.heap.objs.size,v]) ht hT hg (by with_unfolding_all rfl)
noncomputable def pG(xs:List V)(lo hi:Option Int):List V:=(xs.drop (HT.bL xs.length 0 lo)).take (HT.bL xs.length xs.length hi-HT.bL xs.length 0 lo)
theorem uY(xs:List V)(lo hi:Option Int):(pG xs lo hi).length<=xs.length:=by
 unfold pG;rw[List.length_take,List.length_drop];omega
def aGr(K:Frag):V->Option Int->Option Int->Hp->VK->Prop:=λx lo hi H Q=>∃a xs,x=.ref a/\cN K H a xs /\
 ¬(HT.bL xs.length 0 lo=0/\HT.bL xs.length xs.length hi=xs.length)/\∀p,H p=none->Q (.ref p) (aP H p (.tup (pG xs lo hi)))
theorem Z8:uS X (aGr X.K):=by
 intro pins s σ H x v vl vu lo hi sl Q I rx hs pl pu h;obtain⟨a,xs,rfl,hx,hw,q⟩:=h;cases rx;obtain⟨its,r,ht,hz⟩:=I.tuple hx;have hlen:its.toArray.size=xs.length:=by rw[Zi];exact r.length.symm
 refine⟨"tuple",_,PyProof.Rows.slot_tuple_getitem.lookup,ht.typeIs, ?_⟩;refine HT.uH ht hs pl pu (by rw[hlen];exact hw) ?_ (by rw[hlen];exact hz);rw[hlen];refine⟨.ref s.heap.objs.size,_,I.laid (t':=s.toks) (o:=.tup (pG xs lo hi)) (λb ob q=>Zd _ q) (Zq _) ?_,rfl,q _ (I.hok.fresh (Zq _))⟩;exact⟨Zr (uY xs lo hi) hz,_,(r.drop (HT.bL xs.length 0 lo)).take (HT.bL xs.length xs.length hi-HT.bL xs.length 0 lo),IsTup.new _ _⟩
noncomputable def aE7(K:Frag):R2:=λx y H Q=>∃a b xs ys,x=.ref a/\y=.ref b/\cN K H a xs/\cN K H b ys/\xs≠[]/\xs.length+ys.length<=sizeLine /\
 (ys=[]->Q (.ref a) H)/\(ys≠[]->∀p,H p=none->Q (.ref p) (aP H p (.tup (xs++ys))))
theorem aL.nil_iff{xs:List V}{us:List Value}(r:aL xs us):us=[]↔xs=[]:=by
 cases r with
 |nil=>simp
 |cons _ _=>simp
theorem V1:dM X (binaryOp .Add) (aE7 X.K):=by
 intro pins s σ H x y v u Q I rx ry h;obtain⟨a,b,xs,ys,rfl,rfl,ha,hb,hx,hz,q1,q2⟩:=h;cases rx;cases ry;obtain⟨its,r1,p1,_⟩:=I.tuple ha;obtain⟨its2,r2,p2,_⟩:=I.tuple hb;refine HT.YS p1 p2 (λz=>hx (r1.nil_iff.mp z)) (λz=>⟨.ref a,H,I,rfl,q1 (r2.nil_iff.mp z)⟩) (λz=>?_) (by rw[<- r1.length,<- r2.length];exact hz);refine⟨.ref s.heap.objs.size,_,I.laid (t':=s.toks) (o:=.tup (xs++ys)) (λb ob q=>Zd _ q) (Zq _) ?_,rfl,q2 (λw=>z (r2.nil_iff.mpr w)) _ (I.hok.fresh (Zq _))⟩;exact⟨by rw[Za];exact hz,_,r1.append r2,IsTup.new _ _⟩
end
noncomputable def kD(n:Nat)(i:Int):Option Nat:=if 0<=i then(if i<n then some i.toNat else none) else if -(n:Int)<=i then some (i+n).toNat else none
def eO{α:Type}(xs:List α)(i:Int):Option α:=(kD xs.length i).bind λj=>xs[j]?
theorem GZ{n:Nat}{i:Int}{j:Nat}(h:kD n i=some j):seqIndex? i n=some j/\j<n/\-(n:Int)<=i/\i<n:=by
 unfold kD at h;by_cases h0:0<=i
 ·rw[Zo h0] at h;by_cases h1:i<n
  ·rw[Zo h1] at h;have e:i.toNat=j:=Option.some.inj h;exact⟨by rw[seqIndex_of h0 h1,e],by omega,by omega,h1⟩
  ·rw[Zp h1] at h;cases h
 ·rw[Zp h0] at h;by_cases h1:-(n:Int)<=i
  ·rw[Zo h1] at h;have e:(i+n).toNat=j:=Option.some.inj h;exact⟨by rw[seqIndex_neg (by omega) h1,e],by omega,h1,by omega⟩
  ·rw[Zp h1] at h;cases h
theorem yH{α:Type}{xs:List α}{i:Int}{v:α}(h:eO xs i=some v):∃j,seqIndex? i xs.length=some j/\xs[j]?=some v/\j<xs.length/\-(xs.length:Int)<=i/\i<xs.length:=by
 unfold eO at h
 cases e:kD xs.length i with
 |none=>rw[e] at h;cases h
 |some j =>
  rw[e] at h;obtain⟨h1,h2,h3,h4⟩:=GZ e;exact⟨j,h1,h,h2,h3,h4⟩
theorem yR{α:Type}{xs:List α}{j:Nat}{v:α}(h:xs[j]?=some v):eO xs (j:Int)=some v:=by
 have hj:j<xs.length:=(Zc.mp h).1
 have e:kD xs.length (j:Int)=some j:=by(unfold kD;rw[Zo (by omega),Zo (by omega)];simp)
 unfold eO;rw[e];exact h
def yK(b:Expr):Prop:=∀o i,subscripted b false o i=operate [o,i] (getItem o i)
def kE(X:Cx)(r:R2):Prop :=
 ∀(value slice:Expr) (pins:List (Addr×Obj)) (s:Shared) (σ:St) (H:Hp) (x y:V) (v u:Value) (Q:VK),Inv X pins σ H s->aU x v->aU y u->r x y H Q ->
  subscripted slice false v u=operate [v,u] (getItem v u)->wpAny (model X.prog X.w) X.A (subscriptTail value slice v u) (EP X pins σ Q) X.xe s
def MtR(X:Cx)(id:String)(r:V->List V->Hp->VK->Prop):Prop :=
 ∀(pins:List (Addr×Obj)) (s:Shared) (σ:St) (H:Hp) (x:V) (xs:List V) (v:Value) (us:List Value) (Q:VK),Inv X pins σ H s->aU x v->aL xs us->r x xs H Q ->
  wpAny (model X.prog X.w) X.A (call (.builtin id) (v::us)) (EP X pins σ Q) X.xe s
section
variable{X:Cx}{a b:Expr}{ta tb:TE}{pos:Pos}
theorem kE.or{r r':R2}(h:kE X r)(h':kE X r'):kE X (λx y H Q=>r x y H Q\/r' x y H Q):=by
 intro value slice pins s σ H x y v u Q I rx ry q hs;rcases q with q | q
 ·exact h value slice pins s σ H x y v u Q I rx ry q hs
 ·exact h' value slice pins s σ H x y v u Q I rx ry q hs
theorem aDb{r:R2}(hr:kE X r)(ha:PE X a ta)(hb:PE X b tb)(hs:yK b):PE X (.Subscript a b pos) (L5 r ta tb):=by
 intro pins s σ H Q I h;exact Subscript_ (N5 ha hb I h λv u s2 x y H2 I2 rx ry q=>hr a b pins s2 σ H2 x y v u Q I2 rx ry q (hs _ _))
noncomputable def ZO(K:Frag):R2:=λx y H Q=>∃p xs i v,x=.ref p/\y=.int i/\bY K H p xs/\eO xs i=some v/\Q v H
noncomputable def aBf(K:Frag):R2:=λx y H Q=>∃p xs i v,x=.ref p/\y=.int i/\cN K H p xs/\eO xs i=some v/\Q v H
noncomputable def JV:R2:=λx y H Q=>∃z i c,x=.str z/\y=.int i/\z.length<=sizeLine/\eO z.cps.toList i=some c/\Q (.str ⟨#[c]⟩) H
theorem XB:kE X (ZO X.K):=by
 intro value slice pins s σ H x y v u Q I rx ry h hs;obtain⟨p,xs,i,z,rfl,rfl,hq,he,q⟩:=h;cases rx;obtain⟨t,rfl⟩:=ry;obtain⟨its,r,pl,hz⟩:=I.list hq;obtain⟨j,h1,h2,h3,h4,h5⟩:=yH he;obtain⟨w,ew,rw'⟩:=r.get h2;have hl:=r.length;have hn:=lI;have fin:EP X pins σ Q w s:=⟨z,H,I,rw',q⟩
 by_cases h0:0<=i
 ·have hj:i.toNat=j:=by
   rw[seqIndex_of h0 h5] at h1;exact Option.some.inj h1
  exact item_listR pl.isList h0 (by omega) (by rw[hj];simpa using ew) fin hs
 ·have hj:(i+(its.toArray.size:Int)).toNat=j:=by
   rw[seqIndex_neg (by omega) h4] at h1;rw[Zi,<- hl];exact Option.some.inj h1
  exact subscriptTail_builtinR (x:=w) pl.isList.typeIs slot_list_getitem.lookup
   (wpAny_getItem_list_neg (Q:=λr s'=>r=w/\EP X pins σ Q r s') pl.isList (by omega) (by rw[Zi]<;>omega) (by omega) (by rw[hj];simpa using ew) ⟨rfl,fin⟩) hs
theorem aBu:kE X (aBf X.K):=by
 intro value slice pins s σ H x y v u Q I rx ry h hs;obtain⟨p,xs,i,z,rfl,rfl,hq,he,q⟩:=h;cases rx;obtain⟨t,rfl⟩:=ry;obtain⟨its,r,pl,hz⟩:=I.tuple hq;obtain⟨j,h1,h2,h3,h4,h5⟩:=yH he;obtain⟨w,ew,rw'⟩:=r.get h2;have hl:=r.length;have hn:=lI;have fin:EP X pins σ Q w s:=⟨z,H,I,rw',q⟩
 exact subscriptTail_builtinR (x:=w) pl.typeIs slot_tuple_getitem.lookup
  (getItem_tuple (j:=j) (Q:=λr s'=>r=w/\EP X pins σ Q r s') pl (by omega) (by omega) (by rw[Zi,<- hl];exact h1) (by simpa using ew) ⟨rfl,fin⟩) hs
theorem aCH:kE X JV:=by
 intro value slice pins s σ H x y v u Q I rx ry h hs;obtain⟨z,i,c,rfl,rfl,hz,he,q⟩:=h;obtain⟨t,rfl⟩:=rx;obtain⟨t',rfl⟩:=ry;obtain⟨j,h1,h2,h3,h4,h5⟩:=yH he;have hl:z.cps.toList.length=z.length:=by simp[Str.length]
 rw[hl] at h1 h4 h5;have hn:=lI
 exact tail_any (typeIs_str s z t) slot_str_getitem.lookup (getItem_str (c:=c) (by
  have e1:decide (i < -(2 ^ 63:Int))=false:=Zm (by omega);have e2:decide (i >= 2 ^ 63)=false:=Zm (by omega)
  rw[e1,e2,Bool.or_false]) (by rw[h1];simpa using h2) ⟨.str ⟨#[c]⟩,H,I.tok _,⟨_,rfl⟩,q⟩) hs
def rIx(K:Frag):R2:=λx y H Q=>ZO K x y H Q\/aBf K x y H Q\/JV x y H Q
theorem aAW:kE X (rIx X.K):=XB.or (aBu.or aCH)
theorem IG(its:List Value)(n j:Nat)(u:Value):Obj.mapSeq (·.setIfInBounds j u) { cls:=.type "list",data:=.seq its.toArray n }={ cls:=.type "list",data:=.seq (its.set j u).toArray n }:=by
 simp[Obj.mapSeq]
theorem Inv.lst{pins:List (Addr×Obj)}{σ:St}{H:Hp}{s:Shared}{p:Addr}{xs:List V}(I:Inv X pins σ H s)(h:H p=some (.lst xs)) :
  ∃(its:List Value) (n:Nat),aL xs its/\s.heap.get? p=some { cls:=.type "list",data:=.seq its.toArray n }/\xs.length<=sizeLine:=by
 obtain⟨z,its,n,r,e⟩:=I.hok p _ h;exact⟨its,n,r,e,z⟩
theorem Inv.lstUpd{pins:List (Addr×Obj)}{σ:St}{H:Hp}{s:Shared}{p:Addr}{xs ys:List V}{its its':List Value}{n n':Nat}{f:Obj->Obj}(I:Inv X pins σ H s)(h:H p=some (.lst xs))
  (ho:s.heap.get? p=some { cls:=.type "list",data:=.seq its.toArray n }) (hf:f { cls:=.type "list",data:=.seq its.toArray n }={ cls:=.type "list",data:=.seq its'.toArray n' }) (r:aL ys its') (hz:ys.length<=sizeLine) (t:Nat) :
  Inv X pins σ (aP H p (.lst ys)) { s with heap:=s.heap.update p f,toks:=t }:=by
 have e:(s.heap.update p f).get? p=some { cls:=.type "list",data:=.seq its'.toArray n' }:=by(rw[Heap.get?_update_self f ho (by rw[hf]<;>rfl),hf])
 refine I.write (x:=p) (e:=p) (by rw[h];trivial) (.inl rfl) (λb u hb q=>(Heap.get?_update_other _ _ (Ne.symm hb)).trans q) ⟨_,e⟩ ?_;exact⟨hz,its',n',r,e⟩
def SA:V->V->V->Hp->(Hp->Prop)->Prop:=λo i v H Q=>∃p xs k j,o=.ref p/\i=.int k/\H p=some (.lst xs)/\kD xs.length k=some j/\Q (aP H p (.lst (xs.set j v)))
theorem OR:QX X SA:=by
 intro pins s σ H o i v ov iv u Q I ro ri rv h;obtain⟨p,xs,k,j,rfl,rfl,hp,hj,q⟩:=h;cases ro;obtain⟨t,rfl⟩:=ri;obtain⟨its,n,r,ho,hz⟩:=I.lst hp;obtain⟨h1,h2,h3,h4⟩:=GZ hj;have hl:=r.length;have hn:=lI
 have I':Inv X pins σ (aP H p (.lst (xs.set j v))) { s with heap:=s.heap.update p (Obj.mapSeq (·.setIfInBounds j u)) } :=
  I.lstUpd hp ho (IG its n j u) (r.set rv j) (by rw[zg];exact hz) s.toks
 by_cases h0:0<=k
 ·have hk:k.toNat=j:=by
   rw[seqIndex_of h0 h4] at h1;exact Option.some.inj h1
  exact PySem.W.ki_setAt ho h0 (by omega) (by rw[Zi,<- hl];exact h4) (by rw[hk];exact⟨_,I',q⟩)
 ·have hk:(k+(its.toArray.size:Int)).toNat=j:=by
   rw[seqIndex_neg (by omega) h3] at h1;rw[Zi,<- hl];exact Option.some.inj h1
  exact PySem.W.ki_setBack ho (by omega) (by rw[Zi,<- hl];exact h3) (by omega) (by rw[hk];exact⟨_,I',q⟩)
theorem CD(lo hi:Option Int)(n:Nat):(sliceBounds lo hi none n).1=((HT.bL n 0 lo:Nat):Int)/\(sliceBounds lo hi none n).2.1=((HT.bL n n hi:Nat):Int)/\(sliceBounds lo hi none n).2.2=1:=by
 refine⟨?_, ?_,rfl⟩
 ·cases lo with
  |none=>simp[sliceBounds,HT.bL]
  |some i =>
   simp only[sliceBounds,HT.bL,Option.getD_none,show(1:Int) > 0 by decide,if_true];by_cases h:i<0
   ·simp only[h,if_true]<;>omega
   ·simp only[h,if_false]<;>omega
 ·cases hi with
  |none=>simp[sliceBounds,HT.bL]
  |some i =>
   simp only[sliceBounds,HT.bL,Option.getD_none,show(1:Int) > 0 by decide,if_true];by_cases h:i<0
   ·simp only[h,if_true]<;>omega
   ·simp only[h,if_false]<;>omega
theorem A4(its:List Value)(lo hi:Option Int):slicePick its.toArray lo hi none=((its.drop (HT.bL its.length 0 lo)).take (HT.bL its.length its.length hi-HT.bL its.length 0 lo)).toArray:=by
 obtain⟨h1,h2,h3⟩:=CD lo hi its.toArray.size;unfold slicePick;rw[h1,h2,h3];simp only[sliceRange_one,pick_run,Zi]<;>rfl
def aF2(K:Frag):V->Option Int->Option Int->Hp->VK->Prop:=λx lo hi H Q=>∃a xs,x=.ref a/\bY K H a xs/\∀p,H p=none->Q (.ref p) (aP H p (.lst (pG xs lo hi)))
theorem YR:uS X (aF2 X.K):=by
 intro pins s σ H x v vl vu lo hi sl Q I rx hs pl pu h;obtain⟨a,xs,rfl,hx,q⟩:=h;cases rx;obtain⟨its,r,ht,hz⟩:=I.list hx;have hlen:=r.length;refine⟨"list",_,slot_list_getitem.lookup,ht.isList.typeIs, ?_⟩;refine wpAny_getItem_list_slice ht.isList hs pl pu .none (by simp) ?_ (by rw[Zi]<;>omega);rw[A4,<- hlen];refine⟨.ref s.heap.objs.size,_,I.laid (t':=s.toks) (o:=.lst (pG xs lo hi)) (λb ob q=>Zd _ q) (Zq _) ?_,rfl,q _ (I.hok.fresh (Zq _))⟩;exact⟨Zr (uY xs lo hi) hz,_,0,(r.drop (HT.bL xs.length 0 lo)).take (HT.bL xs.length xs.length hi-HT.bL xs.length 0 lo),Zw _ rfl⟩
def jO:V->Bool
 |.non=>true
 |.bl _=>true
 |.int _=>true
 |.str _=>true
 |_=>false
noncomputable def oE:V->V->Bool
 |.non,.non=>true
 |.bl a,.bl b=>a==b
 |.bl a,.int b=>(if a then 1 else 0)==b
 |.int a,.bl b=>a==(if b then 1 else 0)
 |.int a,.int b=>a==b
 |.str a,.str b=>a==b
 |_,_=>false
theorem aBW{A:Around}{s:Shared}{y x:V}{u v:Value}(ry:aU y u)(rx:aU x v)(fy:jO y=true)(fx:jO x=true):SeqAt.EqAt A s u v (oE y x):=by
 cases y with
 |non =>
  cases ry
  cases x with
  |non=>cases rx;exact SeqAt.EqAt.same _
  |bl b=>cases rx;exact SeqAt.EqAt.none_bool b
  |int b=>obtain⟨t,rfl⟩:=rx;exact SeqAt.EqAt.none_int b t
  |str b=>obtain⟨t,rfl⟩:=rx;exact SeqAt.EqAt.none_str b t
  |_=>exact absurd (show false=true from fx) Bool.false_ne_true
 |bl a =>
  cases ry
  cases x with
  |non=>cases rx;exact SeqAt.EqAt.bool_none a
  |bl b=>cases rx;exact SeqAt.EqAt.bool_bool a b
  |int b=>obtain⟨t,rfl⟩:=rx;exact SeqAt.EqAt.bool_int a b t
  |str b=>obtain⟨t,rfl⟩:=rx;exact SeqAt.EqAt.bool_str a b t
  |_=>exact absurd (show false=true from fx) Bool.false_ne_true
 |int a =>
  obtain⟨t',rfl⟩:=ry
  cases x with
  |non=>cases rx;exact SeqAt.EqAt.int_none a t'
  |bl b=>cases rx;exact SeqAt.EqAt.int_bool a t' b
  |int b=>obtain⟨t,rfl⟩:=rx;exact SeqAt.EqAt.int_int a t' b t
  |str b=>obtain⟨t,rfl⟩:=rx;exact SeqAt.EqAt.int_str a t' b t
  |_=>exact absurd (show false=true from fx) Bool.false_ne_true
 |str a =>
  obtain⟨t',rfl⟩:=ry
  cases x with
  |non=>cases rx;exact SeqAt.EqAt.str_none a t'
  |bl b=>cases rx;exact SeqAt.EqAt.str_bool a t' b
  |int b=>obtain⟨t,rfl⟩:=rx;exact SeqAt.EqAt.str_int a t' b t
  |str b=>obtain⟨t,rfl⟩:=rx;exact SeqAt.EqAt.str_str a t' b t
  |_=>exact absurd (show false=true from fx) Bool.false_ne_true
 |_=>exact absurd (show false=true from fy) Bool.false_ne_true
noncomputable def k8(x:V)(u:Value):Bool:=match u with
 |.none=>oE .non x
 |.bool b=>oE (.bl b) x
 |.int i _=>oE (.int i) x
 |.str z _=>oE (.str z) x
 |_=>false
theorem MD{x y:V}{u:Value}(r:aU y u)(f:jO y=true):k8 x u=oE y x:=by
 cases y with
 |non=>cases r;rfl
 |bl b=>cases r;rfl
 |int i=>obtain⟨t,rfl⟩:=r;rfl
 |str z=>obtain⟨t,rfl⟩:=r;rfl
 |_=>exact absurd (show false=true from f) Bool.false_ne_true
theorem nH{x:V}:∀{xs:List V} {us:List Value},aL xs us->xs.all jO=true->us.any (k8 x)=xs.any λy=>oE y x
 |_,_,.nil,_=>rfl
 |y::xs,u::us,.cons r t,f=>by(rw[Zj,ZB] at f;rw[List.any_cons,List.any_cons,MD r f.1,nH t f.2])
theorem lV{A:Around}{s:Shared}{x:V}{v:Value}(rx:aU x v)(fx:jO x=true):∀{xs:List V} {us:List Value},aL xs us->xs.all jO=true->∀u∈us,SeqAt.EqAt A s u v (k8 x u)
 |_,_,.nil,_=>λu hu=>by cases hu
 |y::xs,u::us,.cons r t,f=>λu' hu=>by
  rw[Zj,ZB] at f;rcases List.mem_cons.mp hu with rfl | hu
  ·rw[MD r f.1];exact aBW r rx f.1 fx
  ·exact lV rx fx t f.2 u' hu
def TV(x:V)(xs:List V):Bool:=xs.any λy=>oE y x
noncomputable def rIn(K:Frag)(neg:Bool):R2:=λx y H Q=>∃p xs,y=.ref p/\(bY K H p xs\/cN K H p xs)/\jO x=true/\xs.all jO=true/\Q (.bl (if neg then !TV x xs else TV x xs)) H
theorem AW:dM X (compareOp .In) (rIn X.K false):=by
 intro pins s σ H x y v u Q I rx ry h;obtain⟨p,xs,rfl,hq,fx,fs,q⟩:=h;cases ry;rcases hq with hq | hq
 ·obtain⟨its,r,pl,hz⟩:=I.list hq;refine SeqAt.in_listAt (k8 x) pl.isList (λw hw=>lV rx fx r fs w (by simpa using hw)) ⟨.bl _,H,I,rfl, ?_⟩;rw[show its.toArray.any (k8 x)=its.any (k8 x) by simp,nH r fs];exact q
 ·obtain⟨its,r,pl,hz⟩:=I.tuple hq;refine SeqAt.in_tupleAt (k8 x) pl (λw hw=>lV rx fx r fs w (by simpa using hw)) ⟨.bl _,H,I,rfl, ?_⟩;rw[show its.toArray.any (k8 x)=its.any (k8 x) by simp,nH r fs];exact q
theorem tI:dM X (compareOp .NotIn) (rIn X.K true):=by
 intro pins s σ H x y v u Q I rx ry h;obtain⟨p,xs,rfl,hq,fx,fs,q⟩:=h;cases ry;rcases hq with hq | hq
 ·obtain⟨its,r,pl,hz⟩:=I.list hq;refine SeqAt.notIn_listAt (k8 x) pl.isList (λw hw=>lV rx fx r fs w (by simpa using hw)) ⟨.bl _,H,I,rfl, ?_⟩;rw[show its.toArray.any (k8 x)=its.any (k8 x) by simp,nH r fs];exact q
 ·obtain⟨its,r,pl,hz⟩:=I.tuple hq;refine SeqAt.notIn_tupleAt (k8 x) pl (λw hw=>lV rx fx r fs w (by simpa using hw)) ⟨.bl _,H,I,rfl, ?_⟩;rw[show its.toArray.any (k8 x)=its.any (k8 x) by simp,nH r fs];exact q
theorem rL:eZ X (.builtin "len") (λxs H Q=>∃p ys,xs=[.ref p]/\(bY X.K H p ys\/cN X.K H p ys)/\Q (.int ys.length) H):=by
 intro pins s σ H xs us Q I r h;obtain⟨p,ys,rfl,hq,q⟩:=h;obtain⟨u,rfl,rx⟩:=jL r;cases rx;have hn:=lI;rcases hq with hq | hq
 ·obtain⟨its,r',pl,hz⟩:=I.list hq;have hlen:=r'.length;exact Calls.call_len_list pl.isList (by simp only[Zi]<;>omega) ⟨.int ys.length,H,I.tok _,⟨s.toks+1,by rw[Zi,hlen]⟩,q⟩
 ·obtain⟨its,r',pl,hz⟩:=I.tuple hq;have hlen:=r'.length;exact len_tuple pl (by simp only[Zi]<;>omega) ⟨.int ys.length,H,I.tok _,⟨s.toks+1,by rw[Zi,hlen]⟩,q⟩
theorem B6:eZ X (.builtin "len") (λxs H Q=>∃z,xs=[.str z]/\z.length<=sizeLine/\Q (.int z.length) H):=by
 intro pins s σ H xs us Q I r h;obtain⟨z,rfl,hz,q⟩:=h;obtain⟨u,rfl,t,rfl⟩:=jL r;have hn:=lI;exact len_str (by omega) ⟨.int z.length,H,I.tok _,⟨_,rfl⟩,q⟩
theorem tL:eZ X (.type "list") (λxs H Q=>∃p ys,xs=[.ref p]/\(bY X.K H p ys\/cN X.K H p ys)/\∀l,H l=none->Q (.ref l) (aP H l (.lst ys))):=by
 intro pins s σ H xs us Q I r h;obtain⟨p,ys,rfl,hq,q⟩:=h;obtain⟨u,rfl,rx⟩:=jL r;cases rx
 have fin:∀(its:List Value),aL ys its->ys.length<=sizeLine->∀(h':Heap) (c':Nat),(∀b o',s.heap.get? b=some o'->h'.get? b=some o') ->
   h'.get? s.heap.objs.size=some { cls:=.type "list",dict:=none,data:=.seq its.toArray c',slots:=#[] }->EP X pins σ Q (.ref s.heap.objs.size) { s with heap:=h' }:=λits r' hz h' c' kp e =>
  ⟨.ref s.heap.objs.size,_,I.laid (t':=s.toks) kp (Zq _) (show dA X.prog X.w _ h' _ (.lst ys) from⟨hz,its,c',r',e⟩),rfl,q _ (I.hok.fresh (Zq _))⟩
 rcases hq with hq | hq
 ·obtain⟨its,r',pl,hz⟩:=I.list hq;have hlen:=r'.length;obtain⟨o,ho,hc,n,hd⟩:=pl.isList;exact call_list_seq p (.inl rfl) ho hc hd (λh' c' kp e=>fin its r' hz h' c' kp e) (by simp only[Zi]<;>omega)
 ·obtain⟨its,r',pl,hz⟩:=I.tuple hq;have hlen:=r'.length;obtain⟨o,ho,hc,n,hd⟩:=pl;exact call_list_seq p (.inr rfl) ho hc hd (λh' c' kp e=>fin its r' hz h' c' kp e) (by simp only[Zi]<;>omega)
theorem qW:eZ X (.type "tuple") (λxs H Q=>∃p ys,xs=[.ref p]/\((bY X.K H p ys/\∀l,H l=none->Q (.ref l) (aP H l (.tup ys)))\/(cN X.K H p ys/\Q (.ref p) H))):=by
 intro pins s σ H xs us Q I r h;obtain⟨p,ys,rfl,h⟩:=h;obtain⟨u,rfl,rx⟩:=jL r;cases rx;rcases h with ⟨hq,q⟩ | ⟨hq,q⟩
 ·obtain⟨its,r',pl,hz⟩:=I.list hq;have hlen:=r'.length;refine call_tuple_list pl.isList (λh' kp=>?_) (by simp only[Zi]<;>omega);have I1:Inv X pins σ H { s with heap:=h' }:=I.kept (t':=s.toks) kp
  have I2:Inv X pins σ (aP H h'.objs.size (.tup ys)) { s with heap:=h'.push { cls:=.type "tuple",data:=.seq its.toArray } } :=
   I1.laid (t':=s.toks) (λb o e=>Zd _ e) (Zq _) (show dA X.prog X.w _ _ _ (.tup ys) from⟨hz,its,r',IsTup.new _ _⟩)
  exact⟨.ref h'.objs.size,_,I2,rfl,q _ (I1.hok.fresh (Zq _))⟩
 ·obtain⟨its,r',pl,hz⟩:=I.tuple hq;exact call_tuple_same pl ⟨.ref p,H,I,rfl,q⟩
def tyV(K:Frag)(T:String)(x:V)(H:Hp):Prop:=match x with
 |.str _=>T="str"
 |.int _=>T="int"
 |.ref p=>(T="list"/\∃xs,bY K H p xs)\/(T="tuple"/\∃o,K.lookup p=some o/\o.cls=.type "tuple"/\o.dict=none) \/
   (T="dict"/\((∃kvs,H p=some (.dK kvs))\/∃kvs,H p=some (.dT kvs)))\/(T="set"/\∃S n,H p=some (.set S n))
 |_=>False
theorem aBx{pins:List (Addr×Obj)}{σ:St}{H:Hp}{s:Shared}{T:String}{x:V}{v:Value}(I:Inv X pins σ H s)(r:aU x v)(ty:tyV X.K T x H) :
  s.TypeIs v T/\∀a,v=.ref a->∃ob,s.heap.get? a=some ob/\ob.dict=none:=by
 cases x with
 |str z =>
  obtain⟨t,rfl⟩:=r;cases (show T="str" from ty);exact⟨typeIs_str s z t,λ_ e=>nomatch e⟩
 |int i =>
  obtain⟨t,rfl⟩:=r;cases (show T="int" from ty);exact⟨typeIs_int s i t,λ_ e=>nomatch e⟩
 |ref p =>
  cases r;rcases ty with ⟨rfl,xs,hq⟩ | ⟨rfl,o,hk,hc,hd⟩ | ⟨rfl,hk⟩ | ⟨rfl,S,n,hk⟩
  ·obtain⟨its,_,pl,_⟩:=I.list hq;refine⟨pl.isList.typeIs,λa e=>?_⟩;cases e;obtain⟨o,n,e,c,hd,_⟩:=pl;exact⟨o,e,hd⟩
  ·refine⟨⟨o,I.kIn p o hk,hc⟩,λa e=>?_⟩;cases e;exact⟨o,I.kIn _ o hk,hd⟩
  ·have z:∃o,s.heap.get? p=some o/\o.ExactDict:=by
    rcases hk with ⟨kvs,hk⟩ | ⟨kvs,hk⟩
    ·obtain⟨_,_,_,_,o,_,_,e,ex,_⟩:=I.hok p _ hk;exact⟨o,e,ex⟩
    ·obtain⟨_,_,_,_,o,_,_,e,ex,_⟩:=I.hok p _ hk;exact⟨o,e,ex⟩
   obtain⟨o,e,ex⟩:=z;refine⟨⟨o,e,ex.1⟩,λa e2=>?_⟩;cases e2;exact⟨o,e,ex.2.1⟩
  ·obtain⟨o,_,_,_,e,ex,_⟩:=I.hok p _ hk;refine⟨⟨o,e,ex.1⟩,λa e2=>?_⟩;cases e2;exact⟨o,e,ex.2.1⟩
 |_=>exact False.elim ty
noncomputable def tBM(K:Frag)(T:String)(r:V->List V->Hp->VK->Prop)(to:TE)(t:TA):TE:=λσ H Q=>to σ H λx H1=>tyV K T x H1/\t σ H1 λxs H2=>r x xs H2 Q
variable{o e:Expr}{es:List Expr}{to:TE}{t:TA}{name:Str}{apos cpos:Pos}{T id:String}{r:V->List V->Hp->VK->Prop}
theorem aDy(pa:PlainAttrs T)(slot:Slot T name id)(hty:typeOf (.builtin id)=pure (.type "method_descriptor"))(hm:MtR X id r)(ho:PE X o to)(ha:PA X (e::es) t)
  (hbase:attributeBase o name X.env (eval o X.env)=eval o X.env:=by rfl)
  (hfew:((backTo cpos (starEach (e::es) X.env)).all (λx=>!x.1)&&(backToKw cpos (keywordEach [] X.env)).all (λx=>x.1.isSome)
   && decide ((e::es).length+([]:List Keyword).length+(if([]:List Keyword).isEmpty then 0 else 1)<30))=true:=by rfl)
  (hline:(apos.endLine==cpos.line)=true:=by rfl) (hs:starEach (e::es) X.env=(false,eval e X.env)::starEach es X.env:=by rfl) (hplain:(backTo cpos (starEach es X.env)).any (·.1)=false:=by rfl) :
  PE X (.Call (.Attribute o name apos) (e::es) [] cpos) (tBM X.K T r to t):=by
 intro pins s σ H Q I h;refine wpAny_Call_method_late hbase hfew hline rfl (bA (ho pins s σ H _ I h) λv s1 ⟨x,H1,I1,r1,ty,q1⟩=>?_);obtain⟨h1,h2⟩:=aBx I1 r1 ty;refine⟨T,id,pa,slot,hty,h1,h2, ?_⟩;have hA:=ha cpos pins s1 σ H1 _ I1 q1;rw[hs] at hA ⊢;refine Calls.callWith_builtin (by show(false||(backTo cpos (starEach es X.env)).any (·.1))=false;rw[hplain]<;>rfl) (Calls.evalArgs_plain ?_);exact bA hA λus s2 ⟨vs,H2,I2,r2,q2⟩=>hm pins s2 σ H2 x vs v us Q I2 r1 r2 q2
end
def MtM(X:Cx)(id:String)(r:V->List V->Hp->VK->Prop):Prop :=
 ∀(pins:List (Addr×Obj)) (s:Shared) (σ:St) (H:Hp) (x:V) (xs:List V) (v:Value) (us:List Value) (Q:VK),Inv X pins σ H s->aU x v->aL xs us->r x xs H Q ->
  wpAny (model X.prog X.w) X.A (call (.builtin id) (v::us)) (EP X pins σ Q) X.xe s
theorem aL.one:∀{x:V} {us:List Value},aL [x] us->∃u,us=[u]/\aU x u
 |_,_,.cons r .nil=>⟨_,rfl,r⟩
theorem aL.eraseIdx:∀{xs:List V} {us:List Value} (i:Nat),aL xs us->aL (xs.eraseIdx i) (us.eraseIdx i)
 |_,_,_,.nil=>.nil
 |_,_,0,.cons _ t=>t
 |_,_,i+1,.cons r t=>.cons r (aL.eraseIdx i t)
theorem aL.rep{xs:List V}{us:List Value}(h:aL xs us):∀k:Nat,aL (List.replicate k xs).flatten (List.replicate k us).flatten
 | 0=>.nil
 |k+1=>by(rw[List.replicate_succ,List.replicate_succ,List.flatten_cons,List.flatten_cons];exact aL.append h (aL.rep h k))
theorem sN(its:List Value):∀(k:Nat) (acc:List Value),
  List.foldl (λx1 x2=>x1++x2) acc.toArray (List.replicate k its.toArray)=(acc++(List.replicate k its).flatten).toArray
 | 0,acc=>by simp
 |k+1,acc=>by
  have e:acc.toArray++its.toArray=(acc++its).toArray:=by simp
  have e2:(acc++its)++(List.replicate k its).flatten=acc++(List.replicate (k+1) its).flatten:=by(rw[List.replicate_succ,List.flatten_cons,List.append_assoc])
  rw[<- e2,<- sN its k (acc++its),<- e,List.replicate_succ,List.foldl_cons]
section
variable{X:Cx}{pins:List (Addr×Obj)}{σ:St}{H:Hp}{s:Shared}{l b:Addr}{xs ys zs:List V}
theorem Inv.lset{its its':List Value}{n:Nat}{f:Array Value->Array Value}{t':Nat}(I:Inv X pins σ H s)(hH:H l=some (.lst xs))
  (e:s.heap.get? l=some { cls:=.type "list",data:=.seq its.toArray n }) (hf:f its.toArray=its'.toArray) (hv:aL ys its') (hz:ys.length<=sizeLine) :
  Inv X pins σ (aP H l (.lst ys)) { s with heap:=s.heap.update l (Obj.mapSeq f),toks:=t' }:=by
 have q:=PySem.IsL.update e f;rw[hf] at q;refine I.write (x:=l) (e:=l) (by rw[hH];exact trivial) (.inl rfl) (λb' u hb hu=>(Heap.get?_update_other s.heap (Obj.mapSeq f) (Ne.symm hb)).trans hu) ⟨_,q⟩ ?_;exact⟨hz,its',_,hv,q⟩
theorem Inv.lnew{its:List Value}{t':Nat}(I:Inv X pins σ H s)(hv:aL ys its)(hz:ys.length<=sizeLine) :
  Inv X pins σ (aP H s.heap.objs.size (.lst ys)) { s with heap:=s.heap.push { cls:=.type "list",data:=.seq its.toArray },toks:=t' } :=
 I.laid (λ_ _ q=>Zd _ q) (Zq _) ⟨hz,its,0,hv,Zw _ rfl⟩
theorem Inv.fresh(I:Inv X pins σ H s):H s.heap.objs.size=none:=I.hok.fresh (Zq _)
theorem Inv.lstM(I:Inv X pins σ H s)(hH:H l=some (.lst xs)):xs.length<=sizeLine/\∃(its:List Value) (n:Nat),aL xs its/\xs.length=its.length/\s.heap.get? l=some { cls:=.type "list",data:=.seq its.toArray n }:=by
 obtain⟨z,its,n,r,e⟩:=I.hok l _ hH;exact⟨z,its,n,r,r.length,e⟩
theorem OU{n:Nat}(h:n<=sizeLine):Builtin.List.listTooLong n=false:=by
 unfold Builtin.List.listTooLong;exact Zm (by omega)
end
section
variable{X:Cx}
def XJ:V->List V->Hp->VK->Prop:=λx vs H Q=>∃l xs y,x=.ref l/\vs=[y]/\H l=some (.lst xs)/\xs.length<sizeLine/\Q .non (aP H l (.lst (xs++[y])))
theorem zV:MtM X "list.append" XJ:=by
 intro pins s σ H x vs v us Q I rx rv h;obtain⟨l,xs,y,rfl,rfl,hH,hz,q⟩:=h;cases rx;obtain⟨u,rfl,ru⟩:=rv.one;obtain⟨z,its,n,r,hl,e⟩:=I.lstM hH;refine call_meets F.slot_list_append ⟨_,e,rfl⟩ F.entry_list_append (F.args_list_append_2 _ _) (PySem.list_append l its.toArray n u (by rw[Zi];omega)) ⟨e, ?_⟩;refine⟨.non,_,I.lset (its':=its++[u]) hH e (by simp) (r.append (.cons ru .nil)) ?_,rfl,q⟩;rw[Za,List.length_singleton];omega
noncomputable def aFA:R2:=λx y H Q=>∃l k xs,x=.ref l/\y=.int k/\H l=some (.lst xs)/\-(2 ^ 63)<=k/\k<2 ^ 63/\xs.length*k.toNat<=sizeLine /\
 ∀p,H p=none->Q (.ref p) (aP H p (.lst (List.replicate k.toNat xs).flatten))
theorem zC{α:Type}(xs:List α)(k:Nat):(List.replicate k xs).flatten.length=k*xs.length:=by
 induction k with
 |zero=>simp
 |succ k ih=>rw[List.replicate_succ,List.flatten_cons,Za,ih,Nat.succ_mul,Nat.add_comm]
theorem aAS:dM X (binaryOp .Mult) aFA:=by
 intro pins s σ H x y v u Q I rx ry h;obtain⟨l,k,xs,rfl,rfl,hH,h1,h2,hz,q⟩:=h;cases rx;obtain⟨t,rfl⟩:=ry;obtain⟨z,its,n,r,hl,e⟩:=I.lstM hH;have hlen:its.toArray.size*k.toNat<=sizeLine:=by rw[Zi,<- hl];exact hz
 have hcap:¬its.toArray.size*k.toNat > (2 ^ 63-1) / 8:=by
  have:(sizeLine:Nat)<=(2 ^ 63-1) / 8:=by decide
  omega
 have hfit:¬(!Builtin.List.listFitsIndex k)=true:=by(rw[fitsIndex_both h1 h2];exact Bool.false_ne_true)
 have hlong:¬Builtin.List.listTooLong (its.toArray.size*k.toNat)=true:=by(rw[OU hlen];exact Bool.false_ne_true)
 have hnew:List.foldl (λx1 x2=>x1++x2) #[] (List.replicate (if its.toArray.isEmpty=true then 0 else k.toNat) its.toArray)=(List.replicate k.toNat its).flatten.toArray:=by
  have f0:∀m:Nat,List.foldl (λx1 x2=>x1++x2) #[] (List.replicate m its.toArray)=(List.replicate m its).flatten.toArray:=λm=>by
   have:=sN its m []
   rw[List.nil_append] at this;exact this
  rw[f0]
  cases its with
  |nil=>simp
  |cons a r'=>rw[Zp (by simp)]
 refine wpAny_binaryOp_repeat_ref (T:="list") (U:="int") (by decide) ⟨_,e,rfl⟩ (λs'=>typeIs_int s' k t) noFill_list_mul F.fills_int_mul F.slot_int_rmul repeat_list F.slot_int_index.lookup
  (call_meets F.slot_int_rmul (typeIs_int s k t) F.entry_int_rmul (F.args_int_rmul_2 _ _) (int___rmul___int_list k t l its.toArray n)
   ⟨e,rfl,⟨_,e,rfl⟩,call_meets F.slot_list_mul ⟨_,e,rfl⟩ F.entry_list_mul (F.args_list_mul_2 _ _) (AutoListH.list___mul___list_int_3 l its.toArray n k t hfit hcap hlong) ⟨e, ?_⟩⟩)
 rw[hnew];exact⟨.ref _,_,I.lnew (t':=s.toks) (r.rep k.toNat) (by rw[zC,Nat.mul_comm];exact hz),rfl,q _ I.fresh⟩
end
section
variable{prog:Program}{w:World}{A:Around}{E:Value->Shared->Prop}{s:Shared}
end
section
variable{X:Cx}
end
end L2
namespace Att
open PySem PySem.W PySem.Calls PyProof.Rows
theorem xT{P:Params}{h:Heap}:∀(ns:List Int) (vs:List Value),WellAll P h vs (ns.map WData.int)->IntsAre vs ns:=by
 intro ns
 induction ns with
 |nil =>
  intro vs w;rw[List.map_nil] at w;cases w;exact .nil
 |cons n ns ih =>
  intro vs w;rw[Zs] at w
  cases w with
  |cons a b =>
   cases a;exact .cons _ _ (ih _ b)
theorem M7{l:OpenLaw}{n:Nat}(hn:l.most=some n){P:Params}{h:Heap}{args:List WData}{vals:List Value}
  (hpre:l.row.toRowW.claim.pre args=true) (hwl:WellAll P h vals args) :
  ∃a vs ns,vals=[Value.ref a]/\args=[WData.list (ns.map WData.int)]/\h.get? a=some { cls:=.type "list",data:=.seq vs.toArray }/\IntsAre vs ns/\ns.length<=n:=by
 have hsh:WShape.hasAll [] args [.list .int]=true:=(pre_splitW hpre).1;have hc:l.pre.holds [] { args:=args }=true:=(pre_splitW hpre).2;obtain⟨d,r,rfl,h1,h2⟩:=hasAllW_cons hsh;obtain rfl:=hasAllW_nil h2;obtain⟨xs,rfl,h3⟩:=hasW_list h1;obtain⟨ns,rfl⟩:=items_int h3
 have hlen:ns.length<=n:=by
  unfold OpenLaw.pre at hc
  have h4:(WTm.not (.lt (.lit (.int (n:Int))) (.len (.arg 0)))).holds [] { args:=[.list (ns.map .int)] }=true:=by(have h4:=(holds_andW hc).1;rw[hn] at h4;exact h4)
  have h5:=condW_of h4 (w_not (w_lt w_lit (w_len_list (w_arg rfl))));rw[List.length_map] at h5;refine Nat.le_of_not_lt λq=>?_
  have q':(n:Int)<((ns.length:Nat):Int):=by omega
  first
   | (rw[Zn q'] at h5;exact absurd h5 (by decide))
   | (simp at h5;omega)
 cases hwl with
 |cons w1 w2 =>
  cases w2
  cases w1 with
  |list ho hall=>exact⟨_,_,ns,rfl,rfl,ho,xT ns _ hall,hlen⟩
theorem LC(l:OpenLaw)(args:List WData):l.row.toRowW.claim.post args (.bool true) args=true :=
 postW_of (r:=l.row.toRowW) (X:=(true==true))
  (show WShape.has [] (.bool true) .bool=true by first | rfl | decide | simp[WShape.has,WShape.arms,WShape.armsAll])
  (show(WTm.eq .res (.lit (.bool true))).value [] { args:=args,res:=some (.bool true),after:=args }=some (.bool (true==true)) from w_eq_bool (w_res rfl) w_lit) rfl
theorem E6{l:OpenLaw}{n:Nat}{q:Program}{loose:List Str}{XP:(Str->Option Value)->Heap->Prop}{YP:World->Heap->Prop}{d:DefRec}
  (hn:l.most=some n) (hdf:d.params.defaults=[])
  (call:∀(w:World) (s₀ s₁:Shared) (mg mb:Str->Option Value) (fa:Addr) (o:Obj) (pm cd doc:Value) (a:Addr) (vs:List Value) (ns:List Int),
   Ground q loose [] XP w s₀ mg mb s₁.heap->YP w s₁.heap ->
   s₁.heap.get? fa=some o->o.data=.func (docDef d.name d.params d.body d.scope pm cd doc)->s₁.heap.CodeRec cd d.name->mg d.name=some (.ref fa) ->
   s₁.heap.get? a=some { cls:=.type "list",data:=.seq vs.toArray }->IntsAre vs ns->ns.length<=n->s₁.gens=#[] ->
   codeAny (model l.prog w) callerA (.call (.ref fa) ⟨[.ref a],[]⟩) (λr s'=>r=.ok (.ret (.bool true))/\OldK s₁.heap s'.heap/\s'.os=s₁.os/\AllBare s'.gens) s₁) :
  WalkO q loose XP YP l.row.toRowW d [] (λf vs=>PySem.call f vs):=by
 intro w s₀ s₁ mg mb G Y fa o pm cd doc dV kV ho hd hcd hD hmg hg args vals as hpre hlay hrd hwl hlo;obtain rfl:dV=.none:=Dflts.none hD hdf;obtain rfl:kV=.none:=Dflts.noKw hD;obtain⟨a,vs,ns,rfl,rfl,hobj,hints,hlen⟩:=M7 hn hpre hwl;refine enter_call (codeAny_mono (call w s₀ s₁ mg mb fa o pm cd doc a vs ns G Y ho (fd_plain hd) hcd hmg hobj hints hlen hg) λr s' hq=>?_);obtain⟨rfl,h2,h3,h4⟩:=hq;exact⟨.inl ⟨.bool true,.bool true,[],rfl,λ_=>rfl,.bool true,LC l _,λ_=>⟨List.Pairwise.nil,λ_ hm=>(nomatch hm)⟩⟩,h2,h3,h4⟩
section
variable{prog:Program}{w:World}{A:Around}{E:Value->Shared->Prop}{s:Shared}{K:Frag}
end
end Att
namespace L2
open PySem PySem.Spec PyProof.Rows
theorem z8:∀{vs:List Value} {ns:List Int},IntsAre vs ns->aL (ns.map V.int) vs
 |_,_,.nil=>.nil
 |_,_,.cons n t h=>.cons ⟨t,rfl⟩ (z8 h)
def RD(H:Hp):Prop:=∀b,H b=none\/∃o xs,H b=some (.frz o (.lst xs))
theorem OO{P:Program}{w:World}{K:Frag}{mg mb:Str->Option Value}{CX:qN}{k:Nat}{fa a:Addr}{fd:FuncData}{x:Str}{sp:Sp}{s₁:Shared}{vs:List Value}{ns:List Int}
  (KX:K.In s₁.heap) (hns:s₁.heap.Ns mainGlobals mg) (hb:s₁.heap.Ns builtinsNs mb) (hbb:∀x:Str,x≠"__name__"->mb x=bootBuiltins x) (hlim:s₁.heap.NoLimit) (hg:s₁.gens=#[])
  (ha:s₁.heap.get? a=some { cls:=.type "list",data:=.seq vs.toArray }) (hi:IntsAre vs ns) (hl:ns.length<=sizeLine) (hr:Room k callerA)
  (F:∀base:Heap,K.In base->base.Ns mainGlobals mg->FnOk P w K mg base CX k fa fd [x] sp) (hbind:∀(s:Shared) (u:Value),BindsTo s fd ⟨[u],[]⟩ [(x,u)])
  (hsp:∀H:Hp,RD H->bY K H a (ns.map V.int)->sp [.ref a] H (λv _=>v=.bl true) λ_ _ _=>False)
  (hCX:∀H e s',CX [] H s₁ (λ_ _ _=>False) e s'->False) :
  codeAny (model P w) callerA (.call (.ref fa) ⟨[.ref a],[]⟩) (λr s'=>r=.ok (.ret (.bool true))/\OldK s₁.heap s'.heap/\s'.os=s₁.os/\AllBare s'.gens) s₁:=by
 have rv:=z8 hi;have lenV:=hi.length
 -- from an abstract heap in which nothing but the script may be tracked
 have core:∀H:Hp,RD H->bY K H a (ns.map V.int)->fP P w H s₁.heap->(∀b,H b≠none->b=a)->(H a≠none->K.lookup a=none) ->
   codeAny (model P w) callerA (.call (.ref fa) ⟨[.ref a],[]⟩) (λr s'=>r=.ok (.ret (.bool true))/\OldK s₁.heap s'.heap/\s'.os=s₁.os/\AllBare s'.gens) s₁:=by
  intro H hO hS hok hA hK;have base_of:∀{b:Addr} {o:Obj},s₁.heap.get? b=some o->H b=none->(pM s₁.heap H).get? b=some o:=λe n=>P4 e n
  have noA:∀{b:Addr} {o:Obj} {es:Array DictEntry} {ep:Nat},s₁.heap.get? b=some o->o.data=.dict es ep->H b=none:=λ{b o es ep} e d=>by
   cases q:H b with
   |none=>rfl
   |some u =>
    have e':b=a:=hA b (by rw[q];simp);subst e';rw[ha] at e;cases e;have d':Data.seq vs.toArray _=Data.dict es ep:=d;cases d'
  have nsK:∀{b:Addr} {m:Str->Option Value},s₁.heap.Ns b m->(pM s₁.heap H).Ns b m:=λ{b m} ⟨o,es,ep,e,d,r⟩=>⟨o,es,ep,base_of e (noA e d),d,r⟩
  have hKb:K.In (pM s₁.heap H):=λb o e=>base_of (KX b o e) (by
   cases q:H b with
   |none=>rfl
   |some u =>
    have e':b=a:=hA b (by rw[q];simp);subst e'
    rw[hK (by rw[q];simp)] at e;cases e)
  have hM:Mod K mg (pM s₁.heap H):=⟨hKb,nsK hns,⟨mb,nsK hb,hbb⟩,let ⟨mc,h1,h2⟩:=hlim;⟨mc,nsK h1,h2⟩⟩
  have e0:Env0 P w K mg (pM s₁.heap H) callerA [] s₁ H:=⟨rfl,hM,λb o e=>WE e,Nat.le_of_eq (M5 _ _),trivial,λb hb=>absurd (show b∈([]:List Addr) from hb) (by simp),hok,.of_eq hg⟩
  refine codeAny_mono ((F _ hKb (nsK hns)).run callerA [] s₁ H ⟨[.ref a],[]⟩ [.ref a] [.ref a] _ _ hr e0 (hbind s₁ (.ref a)) (.cons rfl .nil) (hsp H hO hS)) λr s' h=>?_
  cases r with
  |error e=>exact(hCX H e s' h).elim
  |ok fl =>
   cases fl with
   |next=>exact False.elim h
   |brk=>exact False.elim h
   |cont=>exact False.elim h
   |ret u =>
    obtain⟨v,H',os,bare,un,hok',r',q⟩:=h;have q':v=.bl true:=q;subst q';obtain rfl:u=Value.bool true:=r';refine⟨rfl,OldK.of_keep λb o e=>?_,os,bare⟩
    cases q:H b with
    |none=>exact un.keep b o e q (by intro z;exact absurd (show b∈([]:List Addr) from z) (by simp)) (by simp)
    |some u =>
     rcases hO b with z | ⟨ob,xs,z⟩
     ·rw[q] at z;cases z
     ·have z2:=un.frzs b ob _ z;obtain⟨e1,_⟩:=hok b _ z;obtain⟨e2,_⟩:=hok' b _ z2;rw[e] at e1;cases e1;exact e2
 cases hk:K.lookup a with
 |some o =>
  -- the script is one of the module's own objects
  have e:=KX a o hk;rw[ha] at e;cases e;refine core (λ_=>none) (λ_=>.inl rfl) (.inr ⟨_,vs.toArray,_,hk,rfl,rfl,rfl,by rw[Zi,lenV];exact hl,by simpa using rv⟩) (λb u z=>by have z':(none:Option HO)=some u:=z;cases z') (λb z=>absurd rfl z) λz=>absurd rfl z
 |none =>
  refine core (λb=>if b=a then some (.frz { cls:=.type "list",data:=.seq vs.toArray } (.lst (ns.map V.int))) else none) (λb=>?_) (.inl (.inr ⟨{ cls:=.type "list",data:=.seq vs.toArray },Zo rfl⟩)) (λb u z=>?_) (λb z=>?_) λ_=>hk
  ·by_cases hb:b=a
   ·exact .inr ⟨_,_,Zo hb⟩
   ·exact .inl (Zp hb)
  ·by_cases hb:b=a
   ·have z':=(Zo hb).symm.trans z;cases z';subst hb;exact⟨ha,by rw[List.length_map];exact hl,vs,_,rv,ha⟩
   ·have z':=(Zp hb).symm.trans z;cases z'
  ·by_cases hb:b=a
   ·exact hb
   ·exact absurd (Zp hb) z
abbrev aA{K:Frag}{h:Heap}(_:K.In h):Frag:=K
theorem V3{l:PySem.W.OpenLaw}{n k:Nat}{q:Program}{loose:List Str}{XP:(Str->Option Value)->Heap->Prop}{YP:World->Heap->Prop}{d:DefRec}{K:Params->Frag}{CX:World->qN}{sp:World->Sp}{x:Str}
  (hn:l.most=some n) (hn2:n<=sizeLine) (hdf:d.params.defaults=[]) (hr:Room k callerA)
  (hY:∀(w:World) (h:Heap),YP w h->(K w.params).In h)
  (F:∀(w:World) (mg:Str->Option Value) (fa:Addr) (h:Heap),(K w.params).In h->h.Ns mainGlobals mg->mg d.name=some (.ref fa) ->
   ∃fd:FuncData,(∀(s:Shared) (u:Value),BindsTo s fd ⟨[u],[]⟩ [(x,u)]) /\
    ∀base:Heap,(K w.params).In base->base.Ns mainGlobals mg->FnOk l.prog w (K w.params) mg base (CX w) k fa fd [x] (sp w))
  (hsp:∀(w:World) (H:Hp) (a:Addr) (ns:List Int),ns.length<=n->RD H->bY (K w.params) H a (ns.map V.int)->sp w [.ref a] H (λv _=>v=.bl true) λ_ _ _=>False)
  (hCX:∀(w:World) (H:Hp) (s:Shared) (e:Value) (s':Shared),CX w [] H s (λ_ _ _=>False) e s'->False) :
  PySem.W.WalkO q loose XP YP l.row.toRowW d [] (λf vs=>PySem.call f vs):=by
 refine Att.E6 hn hdf λw s₀ s₁ mg mb fa o pm cd doc a vs ns G Y ho hd hcd hmg hobj hints hlen hg=>?_
 have KX:=hY w _ Y;obtain⟨fd,hb,hF⟩:=F w mg fa _ KX G.T.g hmg;exact OO KX G.T.g G.T.b G.T.builtins G.T.nolimit hg hobj hints (Zr hlen hn2) hr hF hb (λH hO hS=>hsp w H a ns hlen hO hS) λH e s'=>hCX w H s₁ e s'
noncomputable def eL(s:Stmt):Arguments:=match s with
 |.FunctionDef _ a _ _ _ _ _ _ _ _=>a
 |_=>{ posonlyargs:=[],args:=[],vararg:=none,kwonlyargs:=[],kw_defaults:=[],kwarg:=none,defaults:=[] }
def bW(s:Stmt):List Stmt:=match s with
 |.FunctionDef _ _ b _ _ _ _ _ _ _=>b
 |_=>[]
noncomputable def aT(s:Stmt):Scope:=match s with
 |.FunctionDef _ _ _ _ _ _ sc _ _ _=>sc
 |_=>{ kind:=.function,names:=[],isGenerator:=false,isCoroutine:=false }
abbrev rX:qN:=λ_ _ _ _ _ _=>False
abbrev E0:XK:=λ_ _ _=>False
theorem BC{X:Cx}:lB rX X E0:=λ_ _ _ _ _ _ _ h=>h.elim
structure Fun(K:Frag)(x qual:Str)(st:Stmt)(f:Addr)(fd:FuncData):Prop where
 ex:∃(oc:Value) (od:Option Addr) (kV doc pm:Value) (an:Option Addr) (cdv ct:Value) (osl:Array (Option Value)),
  fd=PySem.W.fnOf x qual (eL st) (bW st) (aT st) .none kV doc pm an cdv ct/\K.lookup f=some ⟨oc,od,.func fd,osl⟩/\PySem.W.codeIn K cdv qual=true
 kp:PySem.W.keepIn K (.ref f)=true
section
variable{P:Program}{w:World}{K:Frag}{mg:Str->Option Value}{base:Heap}
theorem Fun.ok{x qual:Str}{st:Stmt}{f:Addr}{fd:FuncData}{N ps:List Str}{k:Nat}{sp:Sp}(F:Fun K x qual st f fd)(S:FnScope N ps (aT st))(len:∀vs H Q E,sp vs H Q E->vs.length=ps.length)
  (hbody:∀(cdv:Value) (A:Around) (outer:List Env) (s:Shared) (H:Hp) (vs:List V) (Q:VK) (E:XK),Room k (A.deeper (envOfC qual (aT st) s.heap.objs.size f cdv))->sp vs H Q E ->
   ∃t,dR (jI rX P w K mg base N qual (aT st) f cdv A outer s H E).nox (bW st) t/\t { nx:=λ_ H'=>Q .non H',rt:=Q } (cK N vs) H):FnOk P w K mg base rX (k+1) f fd ps sp:=by
 obtain⟨oc,od,kV,doc,pm,an,cdv,ct,osl,rfl,lk,hcd⟩:=F.ex;refine RO lk hcd S len λA outer s H vs Q E hr hsp=>?_
 obtain⟨t,h,q⟩:=hbody cdv A outer s H vs Q E hr hsp;exact⟨t,h.nox,q⟩
theorem Fun.binds{x qual:Str}{st:Stmt}{f:Addr}{fd:FuncData}{ps:List Str}(F:Fun K x qual st f fd)
  (h:∀(kV doc pm:Value) (an:Option Addr) (cdv ct:Value) (us:List Value),us.length=ps.length->bindArgs (PySem.W.fnOf x qual (eL st) (bW st) (aT st) .none kV doc pm an cdv ct) ⟨us,[]⟩=pure (ps.zip us)):eW K fd ps []:=by
 obtain⟨oc,od,kV,doc,pm,an,cdv,ct,osl,rfl,lk,hcd⟩:=F.ex;exact .all (h kV doc pm an cdv ct)
theorem xI{x qual:Str}{st:Stmt}{f:Addr}{oc:Value}{od an:Option Addr}{osl:Array (Option Value)}{kV doc pm cdv ct:Value}(l:K.lookup f=some ⟨oc,od,.func (PySem.W.fnOf x qual (eL st) (bW st) (aT st) .none kV doc pm an cdv ct),osl⟩)
  (c:PySem.W.codeIn K cdv qual=true) (k:PySem.W.keepIn K (.ref f)=true):Fun K x qual st f (PySem.W.fnOf x qual (eL st) (bW st) (aT st) .none kV doc pm an cdv ct):=⟨⟨oc,od,kV,doc,pm,an,cdv,ct,osl,rfl,l,c⟩,k⟩
end
section
variable{X:Cx}
end
theorem zD{A B:Prop}(h:B):if false=true then A else B:=by
 rw[Zp Bool.false_ne_true];exact h
theorem wA{A B:Prop}(h:A):if true=true then A else B:=by
 rw[Zo rfl];exact h
def aK(H H':Hp):Prop:=∀b o,H b=some o->H' b=some o
theorem aK.refl(H:Hp):aK H H:=λ_ _ h=>h
theorem aK.trans{H H1 H2:Hp}(a:aK H H1)(b:aK H1 H2):aK H H2:=λc o h=>b c o (a c o h)
theorem aK.free{H H':Hp}(e:aK H H'){l:Addr}(h:H' l=Option.none):H l=Option.none:=by
 cases q:H l with
 |none=>rfl
 |some o =>
  rw[e l o q] at h;cases h
theorem aK.seq{K:Frag}{H H':Hp}{a:Addr}{xs:List V}(e:aK H H')(h:bY K H a xs):bY K H' a xs:=by
 rcases h with (h | ⟨o,h⟩) | h
 ·exact .inl (.inl (e _ _ h))
 ·exact .inl (.inr ⟨o,e _ _ h⟩)
 ·exact .inr h
end L2
set_option maxHeartbeats 4000000
namespace L2
open PySem PySem.Spec PyProof.Rows
section
variable{κ:Type}[DecidableEq κ]
def kB(kvs:List (κ×V))(k:κ):Option V:=(kvs.find? λkv=>decide (kv.1=k)).map (·.2)
noncomputable def sE(kvs:List (κ×V))(k:κ)(v:V):List (κ×V) :=
 if(kvs.any λkv=>decide (kv.1=k))=true then kvs.map (λkv=>if kv.1=k then(kv.1,v) else kv) else kvs++[(k,v)]
def SG(kvs:List (κ×V))(k:κ):List (κ×V):=kvs.filter λkv=>decide (kv.1≠k)
theorem vO{p:κ×V}{r:List (κ×V)}{k:κ}(e:p.1=k):kB (p::r) k=some p.2:=by simp[kB,List.find?_cons,e]
theorem vH{p:κ×V}{r:List (κ×V)}{k:κ}(e:¬p.1=k):kB (p::r) k=kB r k:=by simp[kB,List.find?_cons,e]
theorem CS(k:κ):∀kvs:List (κ×V),(kvs.any λkv=>decide (kv.1=k))=(kB kvs k).isSome
 |[]=>rfl
 |p::r=>by
  rw[List.any_cons];by_cases e:p.1=k
  ·simp only[vO e,Zn e,Bool.true_or,Option.isSome_some]
  ·rw[vH e,Zm e,Bool.false_or];exact CS k r
theorem gZ.isSome_eq{o:Option V}{u:Option Value}(r:gZ o u):o.isSome=u.isSome:=by
 cases o with
 |none=>cases u with
  |none=>rfl
  |some _=>exact(show False from r).elim
 |some _=>cases u with
  |none=>exact(show False from r).elim
  |some _=>rfl
theorem gZ.getD{o:Option V}{u:Option Value}{d:V}{d':Value}(r:gZ o u)(rd:aU d d'):aU (o.getD d) (u.getD d'):=by
 cases o with
 |none=>cases u with
  |none=>exact rd
  |some _=>exact(show False from r).elim
 |some _=>cases u with
  |none=>exact(show False from r).elim
  |some _=>exact r
theorem KV.val{kvs:List (κ×V)}{vs:List (κ×Value)}(r:KV kvs vs)(k:κ):gZ (kB kvs k) (valueAt vs k):=by
 unfold KV at r
 induction r with
 |nil=>exact True.intro
 | @cons p q ps qs h t ih =>
  obtain⟨h1,h2⟩:=h;by_cases e:p.1=k
  ·have e':q.1=k:=h1.symm.trans e;have b:valueAt (q::qs) k=some q.2:=by simp[valueAt,List.find?_cons,e']
   rw[vO e,b];exact h2
  ·have e':¬q.1=k:=λz=>e (h1.trans z)
   have b:valueAt (q::qs) k=valueAt qs k:=by simp[valueAt,List.find?_cons,e']
   rw[vH e,b];exact ih
theorem KV.any{kvs:List (κ×V)}{vs:List (κ×Value)}(r:KV kvs vs)(k:κ):(kvs.any λkv=>decide (kv.1=k))=vs.any λkv=>decide (kv.1=k):=by
 unfold KV at r
 induction r with
 |nil=>rfl
 |cons h t ih=>rw[List.any_cons,List.any_cons,ih,h.1]
theorem KV.repl{kvs:List (κ×V)}{vs:List (κ×Value)}(r:KV kvs vs)(k:κ){y:V}{u:Value}(ry:aU y u) :
  KV (kvs.map λkv=>if kv.1=k then(kv.1,y) else kv) (vs.map λkv=>if kv.1=k then(kv.1,u) else kv):=by
 unfold KV at r ⊢
 induction r with
 |nil=>exact .nil
 | @cons p q ps qs h t ih =>
  rw[Zs,Zs];refine .cons ?_ ih;obtain⟨h1,h2⟩:=h;by_cases e:p.1=k
  ·rw[Zo e,Zo (h1.symm.trans e)];exact⟨h1,ry⟩
  ·rw[Zp e,Zp (λz=>e (h1.trans z))];exact⟨h1,h2⟩
theorem KV.put{kvs:List (κ×V)}{vs:List (κ×Value)}(r:KV kvs vs)(k:κ){y:V}{u:Value}(ry:aU y u):KV (sE kvs k y) (stored vs k u):=by
 unfold sE stored;rw[r.any k];by_cases e:(vs.any λkv=>decide (kv.1=k))=true
 ·rw[Zo e,Zo e];exact r.repl k ry
 ·rw[Zp e,Zp e];exact Paired.snoc r ⟨rfl,ry⟩
theorem KV.drop{kvs:List (κ×V)}{vs:List (κ×Value)}(r:KV kvs vs)(k:κ):KV (SG kvs k) (without vs k):=by
 unfold KV at r ⊢;unfold SG without
 induction r with
 |nil=>exact .nil
 | @cons p q ps qs h t ih =>
  obtain⟨h1,h2⟩:=h;rw[List.filter_cons,List.filter_cons];by_cases e:p.1=k
  ·have a:¬decide (p.1≠k)=true:=by simp[e]
   have b:¬decide (q.1≠k)=true:=by simp[h1.symm.trans e]
   rw[Zp a,Zp b];exact ih
  ·have e':¬q.1=k:=λz=>e (h1.trans z)
   have a:decide (p.1≠k)=true:=by simp[e]
   have b:decide (q.1≠k)=true:=by simp[e']
   rw[Zo a,Zo b];exact .cons ⟨h1,h2⟩ ih
theorem KV.keys{kvs:List (κ×V)}{vs:List (κ×Value)}(r:KV kvs vs):kvs.map (·.1)=vs.map (·.1):=by
 unfold KV at r
 induction r with
 |nil=>rfl
 |cons h t ih=>rw[Zs,Zs,ih,h.1]
theorem KV.length{kvs:List (κ×V)}{vs:List (κ×Value)}(r:KV kvs vs):kvs.length=vs.length:=Paired.length r
end
abbrev KT(H:Hp):List (List cR×V)->List (List cR×Addr×Value)->Prop:=Paired λp q=>p.1=q.1/\H q.2.1=some (.tup (p.1.map kV))/\aU p.2 q.2.2
theorem KT.val{H:Hp}{kvs:List (List cR×V)}{xs:List (List cR×Addr×Value)}(r:KT H kvs xs)(k:List cR):gZ (kB kvs k) ((atKey xs k).map (·.2)):=by
 induction r with
 |nil=>exact True.intro
 | @cons p q ps qs h t ih =>
  obtain⟨h1,_,h2⟩:=h;by_cases e:p.1=k
  ·have e':q.1=k:=h1.symm.trans e;have b:atKey (q::qs) k=some q.2:=by simp[atKey,List.find?_cons,e']
   rw[vO e,b];exact h2
  ·have e':¬q.1=k:=λz=>e (h1.trans z)
   have b:atKey (q::qs) k=atKey qs k:=by simp[atKey,List.find?_cons,e']
   rw[vH e,b];exact ih
theorem KT.repl{H:Hp}{kvs:List (List cR×V)}{xs:List (List cR×Addr×Value)}(r:KT H kvs xs)(k:List cR){y:V}{u:Value}(ry:aU y u) :
  KT H (kvs.map λkv=>if kv.1=k then(kv.1,y) else kv) (xs.map (putAt k u)):=by
 induction r with
 |nil=>exact .nil
 | @cons p q ps qs h t ih =>
  rw[Zs,Zs];refine .cons ?_ ih;obtain⟨h1,h2,h3⟩:=h;unfold putAt;by_cases e:p.1=k
  ·rw[Zo e,Zo (h1.symm.trans e)];exact⟨h1,h2,ry⟩
  ·rw[Zp e,Zp (λz=>e (h1.trans z))];exact⟨h1,h2,h3⟩
theorem KT.put{H:Hp}{kvs:List (List cR×V)}{xs:List (List cR×Addr×Value)}(r:KT H kvs xs)(k:List cR){b:Addr}{y:V}{u:Value}(hb:H b=some (.tup (k.map kV)))(ry:aU y u) :
  KT H (sE kvs k y) (storedH xs k b u):=by
 have e:(kvs.any λkv=>decide (kv.1=k))=(atKey xs k).isSome:=by(rw[CS,(r.val k).isSome_eq,Option.isSome_map])
 unfold sE storedH;rw[e];by_cases q:(atKey xs k).isSome=true
 ·rw[Zo q,Zo q];exact r.repl k ry
 ·rw[Zp q,Zp q];exact Paired.snoc r ⟨rfl,hb,ry⟩
theorem KT.keeps{H H':Hp}{kvs:List (List cR×V)}{xs:List (List cR×Addr×Value)}(r:KT H kvs xs)(ht:∀b ys,H b=some (.tup ys)->H' b=some (.tup ys)):KT H' kvs xs :=
 Paired.mapP r λ_ _ z=>⟨z.1,ht _ _ z.2.1,z.2.2⟩
section
variable{P:Program}{w:World}{H:Hp}{h:Heap}{a:Addr}
end
def IZ(H:Hp)(a:Addr)(y:V)(r:Option V):Prop :=
 (∃kvs k,Rd H a (.dK kvs)/\y=kV k/\r=kB kvs k)\/∃kvs k b,Rd H a (.dT kvs)/\y=.ref b/\H b=some (.tup (k.map kV))/\r=kB kvs k
def JX(H:Hp)(a:Addr)(y v:V)(H':Hp):Prop :=
 (∃kvs k,H a=some (.dK kvs)/\y=kV k/\kvs.length<sizeLine/\H'=aP H a (.dK (sE kvs k v))) \/
 ∃kvs k b,H a=some (.dT kvs)/\y=.ref b/\H b=some (.tup (k.map kV))/\kvs.length<sizeLine/\H'=aP H a (.dT (sE kvs k v))
theorem IZ.k{H:Hp}{a:Addr}{kvs:List (cR×V)}{k:cR}(e:H a=some (.dK kvs)):IZ H a (kV k) (kB kvs k):=.inl ⟨kvs,k,.inl e,rfl,rfl⟩
theorem IZ.t{H:Hp}{a b:Addr}{kvs:List (List cR×V)}{k:List cR}(e:H a=some (.dT kvs))(eb:H b=some (.tup (k.map kV))):IZ H a (.ref b) (kB kvs k):=.inr ⟨kvs,k,b,.inl e,rfl,eb,rfl⟩
theorem JX.k{H:Hp}{a:Addr}{kvs:List (cR×V)}{k:cR}{v:V}(e:H a=some (.dK kvs))(hl:kvs.length<sizeLine):JX H a (kV k) v (aP H a (.dK (sE kvs k v))):=.inl ⟨kvs,k,e,rfl,hl,rfl⟩
theorem JX.t{H:Hp}{a b:Addr}{kvs:List (List cR×V)}{k:List cR}{v:V}(e:H a=some (.dT kvs))(eb:H b=some (.tup (k.map kV)))(hl:kvs.length<sizeLine) :
  JX H a (.ref b) v (aP H a (.dT (sE kvs k v))):=.inr ⟨kvs,k,b,e,rfl,eb,hl,rfl⟩
section
variable{X:Cx}{pins:List (Addr×Obj)}{σ:St}{H:Hp}{s:Shared}{a:Addr}{y v:V}{u r:Value}{o:Option V}{A:Around}{E:Value->Shared->Prop}
theorem Inv.big(I:Inv X pins σ H s):sysModules<s.heap.objs.size:=by
 have h:mainGlobals<s.heap.objs.size:=(I.mod.glob.keeps I.bk).lt;exact Nat.lt_trans (by decide) h
theorem HK{h':Heap}{t':Nat}{ob:HO}(I:Inv X pins σ H s)(mu:MF (H a))(hs:Heap.SameBut a s.heap h')(he:∃q,h'.get? a=some q)(new:dA X.prog X.w (aP H a ob) h' a ob) :
  Inv X pins σ (aP H a ob) { s with heap:=h',toks:=t' } :=
 I.write (x:=a) (e:=a) mu (.inl rfl) (λb q hb z=>(hs.2 b hb).trans z) he new
end
section
variable{X:Cx}{pins:List (Addr×Obj)}{σ:St}{H:Hp}{s:Shared}{a:Addr}{kvs:List (cR×V)}{k:cR}{u:Value}{A:Around}{E:Value->Shared->Prop}
end
section
variable{X:Cx}{o i e value:Expr}{pos pos' tpos:Pos}{td ty tv:TE}
end
section
variable{X:Cx}{pos:Pos}
end
structure M1(X:Cx)(o:Expr)(m:Str)(apos:Pos)(e:Expr)(cpos:Pos):Prop where
 base:attributeBase o m X.env (eval o X.env)=eval o X.env
 few:((backTo cpos (starEach [e] X.env)).all (λx=>!x.1)&&(backToKw cpos (keywordEach [] X.env)).all (λx=>x.1.isSome)
  && decide (([e]:List Expr).length+([]:List Keyword).length+(if([]:List Keyword).isEmpty then 0 else 1)<30))=true
 line:(apos.endLine==cpos.line)=true
 trees:backTo cpos (starEach [e] X.env)=[(false,eval e X.env)]
structure M2(X:Cx)(o:Expr)(m:Str)(apos:Pos)(e f:Expr)(cpos:Pos):Prop where
 base:attributeBase o m X.env (eval o X.env)=eval o X.env
 few:((backTo cpos (starEach [e,f] X.env)).all (λx=>!x.1)&&(backToKw cpos (keywordEach [] X.env)).all (λx=>x.1.isSome)
  && decide (([e,f]:List Expr).length+([]:List Keyword).length+(if([]:List Keyword).isEmpty then 0 else 1)<30))=true
 line:(apos.endLine==cpos.line)=true
 trees:backTo cpos (starEach [e,f] X.env)=[(false,eval e X.env),(false,eval f X.env)]
section
variable{X:Cx}{pins:List (Addr×Obj)}{σ:St}{H:Hp}{s:Shared}{a:Addr}{y d:V}{u r:Value}{o:Option V}{A:Around}{E:Value->Shared->Prop}
end
section
variable{X:Cx}{o e f:Expr}{apos cpos:Pos}{td ty tx:TE}
end
section
variable{X:Cx}{pins:List (Addr×Obj)}{σ:St}{H:Hp}{s:Shared}{a:Addr}{kvs:List (cR×V)}{A:Around}{E:Value->Shared->Prop}
end
section
variable{X:Cx}{pins:List (Addr×Obj)}{σ:St}{H:Hp}{s:Shared}{a:Addr}{y:V}{u:Value}{A:Around}{E:Value->Shared->Prop}
end
theorem IB:fillsNumberSlot (.type "tuple") "mul"=pure false:=PySem.fillsNumberSlot_seq F.slot_tuple_mul.lookup (by decide +kernel) F.slot_tuple_rmul.lookup (by decide +kernel)
theorem UW:seqRepeat? (.type "tuple")=pure (some (.builtin "tuple.__mul__")):=by
 unfold seqRepeat?;rw[PySem.seqSlot_of (name:=Str.ofString "__mul__") F.slot_tuple_mul.lookup (by decide +kernel),PySem.seqSlot_of (name:=Str.ofString "__rmul__") F.slot_tuple_rmul.lookup (by decide +kernel)];rfl
theorem Q5(a:Int)(t:Tok)(l:Addr):Meets (Builtin.«int.__rmul__» ⟨[.int a t,.ref l],[]⟩) (λ_ R s=>(∃its,IsTup s.heap l its)/\R (.ok (.ret Value.notImplemented)) s) :=
 .of_wp λprog w A R s h=>by
  obtain⟨hp,g,d,tk,os⟩:=s;obtain⟨⟨its,o,e,c,n,dd⟩,h⟩:=h;have hT:(⟨hp,g,d,tk,os⟩:Shared).TypeIs (.ref l) "tuple":=⟨o,e,c⟩
  wp_walk
  rw[dd]
  wp_walk
  exact⟨_,rfl,h⟩
section
variable{P:Program}{w:World}{A:Around}{E:Value->Shared->Prop}{s:Shared}
theorem XT{l:Addr}{its:Array Value}{k:Int}{t:Tok}{Q:Value->Shared->Prop}(ht:IsTup s.heap l its)(h1:1<=k)(h2:k<2 ^ 63)(hz:its.size*k.toNat<=sizeLine)(q1:k=1->Q (.ref l) s)
  (q2:Q (.ref s.heap.objs.size) { s with heap:=s.heap.push (seqObj "tuple" (List.replicate k.toNat its.toList).flatten.toArray 0) }) (hn:its.size≠0):wpAny (model P w) A (call (.builtin "tuple.__mul__") [.ref l,.int k t]) Q E s:=by
 refine wpAny_call_entry F.slot_tuple_mul ht.typeIs F.entry_tuple_mul ?_ (F.args_tuple_mul_2 _ _);show wpAny _ _ (asIndex (.int k t)>>=_) _ _ s;have e1:(decide (k < -(2 ^ 63))||decide (k >= 2 ^ 63))=false:=by rw[Zm (by omega),Zm (by omega)];rfl
 wp_walk
 rw[Zp (by rw[e1];exact Bool.false_ne_true)];dsimp only;refine Zt (tupleItemsOf_ ht ?_);have hne:its.isEmpty=false:=by rw[Array.isEmpty_eq_false_iff];intro z;rw[z] at hn;exact hn rfl
 by_cases hk:k=1
 ·subst hk;rw[Zo (by rw[hne];rfl)];refine Zt (Zt (wpAny_typeOf ht.typeIs (Zu ?_)));rw[Zo (by decide)];exact Zt (wpAny_rule (Zu ⟨_,rfl,q1 rfl⟩))
 ·have z:(its.size:Int)*k=((its.size*k.toNat:Nat):Int):=by rw[Int.natCast_mul,Int.toNat_of_nonneg (by omega)]
  have hz2:its.size*k.toNat<=100000000:=Zr hz (by decide);rw[Zp (by rw[hne,Bool.false_or,beq_iff_eq];exact hk),Zp (by rw[hne,Bool.or_false,decide_eq_true_eq];omega),z,Zp (by omega)]
  try dsimp only
  rw[Zp (by unfold Builtin.Tuple.tupleTooMany;rw[decide_eq_true_eq];omega)]
  try dsimp only
  have e2:=sN its.toList k.toNat [];rw[List.nil_append,Array.toArray_toList] at e2;rw[show(#[]:Array Value)=[].toArray from rfl,e2];exact Zt (wpAny_newTuple (hsz:=by rw[zC,Nat.mul_comm];exact hz) (Zu ⟨_,rfl,q2⟩))
end
section
variable{X:Cx}
noncomputable def aDW(K:Frag):R2:=λx y H Q=>∃l k xs,x=.ref l/\y=.int k/\cN K H l xs/\xs.length≠0/\1<=k/\k<2 ^ 63/\xs.length*k.toNat<=sizeLine /\
 (k=1->Q (.ref l) H)/\∀p,H p=none->Q (.ref p) (aP H p (.tup (List.replicate k.toNat xs).flatten))
theorem W3:dM X (binaryOp .Mult) (aDW X.K):=by
 intro pins s σ H x y v u Q I rx ry h;obtain⟨l,k,xs,rfl,rfl,hH,hn,h1,h2,hz,q1,q2⟩:=h;cases rx;obtain⟨t,rfl⟩:=ry;obtain⟨its,r,ht,_⟩:=I.tuple hH;have hl:its.toArray.size=xs.length:=r.length.symm
 refine wpAny_binaryOp_repeat_ref (T:="tuple") (U:="int") (by decide) ht.typeIs (λs'=>typeIs_int s' k t) IB F.fills_int_mul F.slot_int_rmul UW F.slot_int_index.lookup
  (call_meets F.slot_int_rmul (typeIs_int s k t) F.entry_int_rmul (F.args_int_rmul_2 _ _) (Q5 k t l) ⟨⟨_,ht⟩,rfl,ht.typeIs,XT ht h1 h2 (by rw[hl];exact hz) (λe=>⟨.ref l,H,I,rfl,q1 e⟩) ?_ (by rw[hl];exact hn)⟩)
 refine⟨.ref s.heap.objs.size,_,I.laid (t':=s.toks) (o:=.tup (List.replicate k.toNat xs).flatten) (λb ob q=>Zd _ q) (Zq _) ?_,rfl,q2 _ (I.hok.fresh (Zq _))⟩;exact⟨by rw[zC,Nat.mul_comm];exact hz,_,r.rep k.toNat,IsTup.new _ _⟩
end
abbrev cG:=Int×List Int
section
variable{P:Program}{w:World}{A:Around}{E:Value->Shared->Prop}{s:Shared}{h:Heap}
def dB(P:Program)(w:World)(h:Heap)(k:cG)(a:Addr):Prop:=∃(t:Tok) (b:Addr),IsTup h a #[.int k.1 t,.ref b]/\IsTupleKey (intKind P w) h k.2 b
noncomputable def sX(P:Program)(w:World)(k:cG):Int:=reduceHash (Builtin.Tuple.tupleHashOf [hashInt k.1,tupleKeyHash (intKind P w) k.2])
theorem dB.inj{a:Addr}{x y:cG}(hx:dB P w h x a)(hy:dB P w h y a):x=y:=by
 obtain⟨t,b,⟨o,e,_,n,d⟩,kx⟩:=hx;obtain⟨t',b',⟨o',e',_,n',d'⟩,ky⟩:=hy;rw[e] at e';cases e';rw[d] at d';have z:=(Data.seq.inj d').1;have z1:Value.int x.1 t=Value.int y.1 t':=congrArg (λ(q:Array Value)=>q.getD 0 .none) z;have z2:Value.ref b=Value.ref b':=congrArg (λ(q:Array Value)=>q.getD 1 .none) z;cases z2;exact Prod.ext (Value.int.inj z1).1 ((tupleKind (intKind P w)).inj kx ky)
theorem dB.keeps{h':Heap}{k:cG}{a d:Addr}{o:Obj}{es:Array DictEntry}{ep:Nat}(hk:dB P w h k a)(e:h.get? d=some o)(ed:o.data=.dict es ep)(sb:Heap.SameBut d h h'):dB P w h' k a:=by
 obtain⟨t,b,⟨o',e',c,n,d'⟩,kb⟩:=hk
 have ne:a≠d:=λz=>by(subst z;rw[e'] at e;cases e;rw[d'] at ed;cases ed)
 exact⟨t,b,⟨o',(sb.2 a ne).trans e',c,n,d'⟩,(tupleKind (intKind P w)).keeps kb e ed sb⟩
def j0(k:cG):PyData:=.tuple [.int k.1,.tuple (k.2.map .int)]
theorem vE:∀{ns:List Int} {us:List Value},PySem.ItemsAre (intKind P w) ns us->∃as,ReadsAll h us (ns.map .int) as
 |_,_,.nil=>⟨_,.nil⟩
 |_,_,.cons hk t=>by(obtain⟨as,r⟩:=vE t;obtain⟨tk,rfl⟩:=Value.isInt_shape hk;exact⟨_,.cons (.int _ _) r⟩)
theorem dB.reads{k:cG}{a:Addr}(hk:dB P w h k a):∃as,Reads h (.ref a) (j0 k) as:=by
 obtain⟨t,b,⟨o,e,c,n,d⟩,o2,its,n2,e2,c2,d2,i2⟩:=hk;obtain⟨as,r⟩:=vE (h:=h) i2;exact⟨_,.tuple e c d (.cons (.int _ _) (.cons (.tuple e2 c2 d2 r) .nil))⟩
theorem aCX{ns:List Int}:PyData.canLayAll0 (ns.map .int)=true:=by
 induction ns with
 |nil=>simp[PyData.canLayAll0]
 |cons n ns ih=>simp[PyData.canLayAll0,PyData.canLay0,ih]
theorem tU{k:cG}:(j0 k).canLay0=true:=by simp[j0,PyData.canLay0,PyData.canLayAll0,aCX]
theorem P0{ns:List Int}:PyData.depthAll (ns.map .int)<=1:=by
 induction ns with
 |nil=>simp[PyData.depthAll]
 |cons n ns ih=>simp[PyData.depthAll,PyData.depth];omega
theorem mI{k:cG}:(j0 k).depth<=5:=by
 have:=P0 (ns:=k.2)
 simp[j0,PyData.depth,PyData.depthAll];omega
theorem MT:∀{ns ms:List Int},PyData.eqvAll (ns.map .int) (ms.map .int)=decide (ns=ms)
 |[],[]=>by simp[PyData.eqvAll]
 |[],_::_=>by simp[PyData.eqvAll]
 |_::_,[]=>by simp[PyData.eqvAll]
 |n::ns,m::ms=>by(rw[Zs,Zs,PyData.eqvAll,MT];simp only[PyData.eqv,List.cons.injEq,Bool.decide_and];congr 1)
theorem tX{x y:cG}:(j0 x).eqv (j0 y)=decide (x=y):=by
 obtain⟨a,as⟩:=x;obtain⟨b,bs⟩:=y;simp only[j0,PyData.eqv,PyData.eqvAll,MT,Bool.and_true,Prod.mk.injEq,Bool.decide_and];congr 1
theorem GK{a b:Addr}{c:Bool}{Q:Bool->Shared->Prop}(hs:a=b->c=true)(r:SeqAt.RcAt A s (.ref a) (.ref b) c)(q:Q c s):wpAny (model P w) A (eqBool (.ref a) (.ref b)) Q E s:=by
 unfold eqBool;refine wpAny_holding ?_;by_cases e:a=b
 ·subst e;rw[Zo (by simp)];rw[hs rfl] at q;exact Zt (wpAny_rule (Zu q))
 ·rw[Zp (by simpa using e)];exact Zt (r P w E _ (wpAny_truthy_bool q))
theorem dB.eqBool{x y:cG}{a b:Addr}{Q:Bool->Shared->Prop}(hu:A.units+8<cLine)(hx:dB P w s.heap x a)(hy:dB P w s.heap y b)(q:Q (decide (x=y)) s):wpAny (model P w) A (eqBool (.ref a) (.ref b)) Q E s:=by
 obtain⟨as,r1⟩:=hx.reads;obtain⟨bs,r2⟩:=hy.reads;have d1:=mI (k:=x);refine GK (λe=>Zn (by subst e;exact hx.inj hy)) ?_ q;rw[<- tX];exact SeqAt.rcAt_reads r1 r2 tU tU (by omega)
theorem dB.pyHash{k:cG}{a:Addr}{Q:Int->Shared->Prop}(hu:A.units+8<cLine)(hk:dB P w s.heap k a)(q:Q (sX P w k) { s with toks:=s.toks+(k.2.length+3) }):wpAny (model P w) A (pyHash (.ref a)) Q E s:=by
 obtain⟨t,b,ht,kb⟩:=hk;show wpAny _ _ (pyHashByItsType (.ref a)) _ _ s;refine W.pyHash_slot ht.typeIs F.slot_tuple_hash F.entry_tuple_hash (F.args_tuple_hash_1 _) rfl (.inr (by omega)) ?_;unfold Builtin.«tuple.__hash__»;show wpAny _ _ (Builtin.Tuple.tupleItemsOf (.ref a)>>=_) _ _ s;refine Zt (tupleItemsOf_ ht ?_);rw[<- Array.forIn_toList];simp only[List.forIn_cons,List.forIn_nil,bind_assoc,pure_bind];refine Zt (wpAny_pyHash_int ?_);refine Zt (wpAny_pyHash_tuple (knd:=intKind P w) (by show A.units+1<cLine;omega) kb ?_);refine Zt (wpAny_mkInt (Zu ⟨_,_,rfl, ?_⟩));have e:s.toks+1+(k.2.length+1)+1=s.toks+(k.2.length+3):=by omega
 show Q (sX P w k) { s with toks:=s.toks+1+(k.2.length+1)+1 };rw[e];exact q
theorem sY{d:Nat}{a:Addr}{its:Array Value}{Q:Bool->Shared->Prop}(ht:IsTup s.heap a its)(hi:∀v∈its.toList,∀(R:Bool->Shared->Prop),R true s->wpAny (model P w) A (eqIsQuiet d v) R E s)(q:Q true s):wpAny (model P w) A (eqIsQuiet (d+1) (.ref a)) Q E s:=by
 unfold eqIsQuiet;refine Zt (wpAny_specialOf ht.typeIs (PyProof.Rows.slot_tuple_eq.lookup) ?_);obtain⟨o,e,c,n,dd⟩:=id ht;show wpAny _ _ (isInstance (.ref a) (.type "tuple")>>=_) _ _ s;refine Zt (wpAny_isInstance ht.typeIs (by with_unfolding_all rfl) ?_);show wpAny _ _ (seqItems? (.ref a)>>=_) _ _ s;refine Zt (wpAny_seqItems e dd ?_)
 have key:∀{k:Option Bool×Unit->Sem Bool},wpAny (model P w) A (k (none,())) Q E s->∀xs:List Value,(∀v∈xs,v∈its.toList)->wpAny (model P w) A (forIn xs ((none:Option Bool),()) (λy _=>do
    let v <- eqIsQuiet d y
    if(!v)=true then pure (ForInStep.done (some false,())) else pure (ForInStep.yield (none,())))>>=k) Q E s:=by
  intro k hk xs
  induction xs with
  |nil=>intro _;exact Zt (Zu hk)
  |cons x xs ih =>
   intro hm;have ih:=ih λv hv=>hm v (Ze _ hv)
   simp only[List.forIn_cons,bind_assoc] at ih ⊢;refine Zt (hi x (hm x zh) _ ?_);simp only[Bool.not_true,Bool.false_eq_true,if_false,pure_bind];exact ih
 show wpAny _ _ (forIn its _ _>>=_) _ _ s;rw[<- Array.forIn_toList];exact key (Zu q) its.toList λ_ h=>h
theorem AS{d:Nat}{i:Int}{t:Tok}{Q:Bool->Shared->Prop}(q:Q true s):wpAny (model P w) A (eqIsQuiet d (.int i t)) Q E s:=by
 unfold eqIsQuiet;exact Zu q
theorem HF:∀{ns:List Int} {us:List Value},PySem.ItemsAre (intKind P w) ns us->∀v∈us,∃i t,v=.int i t
 |_,_,.nil=>λ_ h=>nomatch h
 |_,_,.cons hk r=>λv hv=>by
  rcases List.mem_cons.mp hv with rfl | hv
  ·obtain⟨t,e⟩:=Value.isInt_shape hk;exact⟨_,t,e⟩
  ·exact HF r v hv
theorem dB.quiet{k:cG}{a:Addr}{d:Nat}{Q:Bool->Shared->Prop}(hk:dB P w s.heap k a)(q:Q true s):wpAny (model P w) A (eqIsQuiet (d+2) (.ref a)) Q E s:=by
 obtain⟨t,b,ht,o2,its,n2,e2,c2,d2,i2⟩:=hk;refine sY (d:=d+1) ht (λv hv R hR=>?_) q;rcases List.mem_cons.mp (show v∈[Value.int k.1 t,Value.ref b] from hv) with rfl | hv
 ·exact AS hR
 ·rw[ze.mp hv];refine sY (d:=d) (its:=its) ⟨o2,e2,c2,n2,d2⟩ (λv hv R hR=>?_) hR;obtain⟨i,t,rfl⟩:=HF i2 v hv;exact AS hR
abbrev bB:=cG ⊕ cG×cG
def DX(P:Program)(w:World)(h:Heap)(k:cG×cG)(a:Addr):Prop:=∃b c,IsTup h a #[.ref b,.ref c]/\dB P w h k.1 b/\dB P w h k.2 c
def eT(P:Program)(w:World)(h:Heap):bB->Addr->Prop:=Sum.elim (dB P w h) (DX P w h)
noncomputable def DW(P:Program)(w:World)(k:cG×cG):Int:=reduceHash (Builtin.Tuple.tupleHashOf [sX P w k.1,sX P w k.2])
def CJ(P:Program)(w:World):bB->Int:=Sum.elim (sX P w) (DW P w)
theorem B3{a:Addr}{x y:Array Value}(hx:IsTup h a x)(hy:IsTup h a y):x=y:=by
 obtain⟨o,e,_,n,d⟩:=hx;obtain⟨o',e',_,n',d'⟩:=hy;rw[e] at e';cases e';rw[d] at d';exact(Data.seq.inj d').1
theorem SI{a:Addr}{x:cG×cG}{y:cG}(hx:DX P w h x a)(hy:dB P w h y a):False:=by
 obtain⟨b,c,e,_⟩:=hx;obtain⟨t,b',e',_⟩:=hy
 exact nomatch (show Value.ref b=Value.int y.1 t from congrArg (λ(q:Array Value)=>q.getD 0 .none) (B3 e e'))
theorem eT.inj{a:Addr}:∀{x y:bB},eT P w h x a->eT P w h y a->x=y
 |.inl _,.inl _,hx,hy=>congrArg Sum.inl (dB.inj hx hy)
 |.inl _,.inr _,hx,hy=>(SI hy hx).elim
 |.inr _,.inl _,hx,hy=>(SI hx hy).elim
 |.inr x,.inr y,hx,hy=>by(obtain⟨b,c,e,h1,h2⟩:=hx;obtain⟨b',c',e',h1',h2'⟩:=hy;have z:=B3 e e';cases (show Value.ref b=Value.ref b' from congrArg (λ(q:Array Value)=>q.getD 0 .none) z);cases (show Value.ref c=Value.ref c' from congrArg (λ(q:Array Value)=>q.getD 1 .none) z);exact congrArg Sum.inr (Prod.ext (h1.inj h1') (h2.inj h2')))
theorem eT.keeps{h':Heap}{a d:Addr}{o:Obj}{es:Array DictEntry}{ep:Nat}:∀{k:bB},eT P w h k a->h.get? d=some o->o.data=.dict es ep->Heap.SameBut d h h'->eT P w h' k a
 |.inl _,hk,e,ed,sb=>dB.keeps hk e ed sb
 |.inr k,hk,e,ed,sb=>by
  obtain⟨b,c,⟨o',e',cl,n,d'⟩,h1,h2⟩:=hk
  have ne:a≠d:=λz=>by(subst z;rw[e'] at e;cases e;rw[d'] at ed;cases ed)
  exact⟨b,c,⟨o',(sb.2 a ne).trans e',cl,n,d'⟩,h1.keeps e ed sb,h2.keeps e ed sb⟩
def rS:bB->PyData:=Sum.elim j0 λk=>.tuple [j0 k.1,j0 k.2]
theorem eT.reads{a:Addr}:∀{k:bB},eT P w h k a->∃as,Reads h (.ref a) (rS k) as
 |.inl _,hk=>dB.reads hk
 |.inr k,hk=>by(obtain⟨b,c,⟨o,e,cl,n,d⟩,h1,h2⟩:=hk;obtain⟨as,r1⟩:=h1.reads;obtain⟨bs,r2⟩:=h2.reads;exact⟨_,.tuple e cl d (.cons r1 (.cons r2 .nil))⟩)
theorem GS:∀{k:bB},(rS k).canLay0=true
 |.inl _=>tU
 |.inr _=>by simp[rS,PyData.canLay0,PyData.canLayAll0,tU]
theorem MO:∀{k:bB},(rS k).depth<=6
 |.inl k=>Zr (mI (k:=k)) (by decide)
 |.inr k=>by(have h1:=mI (k:=k.1);have h2:=mI (k:=k.2);simp only[rS,Sum.elim_inr,PyData.depth,PyData.depthAll];omega)
theorem UC:∀{x y:bB},(rS x).eqv (rS y)=decide (x=y)
 |.inl x,.inl y=>by rw[show(rS (.inl x)).eqv (rS (.inl y))=decide (x=y) from tX];simp
 |.inl x,.inr y=>by simp[rS,j0,PyData.eqv,PyData.eqvAll]
 |.inr x,.inl y=>by simp[rS,j0,PyData.eqv,PyData.eqvAll]
 |.inr (x,x'),.inr (y,y')=>by(show(PyData.tuple [j0 x,j0 x']).eqv (.tuple [j0 y,j0 y'])=_;rw[PyData.eqv,PyData.eqvAll,PyData.eqvAll,PyData.eqvAll,tX,tX];simp)
theorem eT.eqBool{x y:bB}{a b:Addr}{Q:Bool->Shared->Prop}(hu:A.units+10<cLine)(hx:eT P w s.heap x a)(hy:eT P w s.heap y b)(q:Q (decide (x=y)) s):wpAny (model P w) A (eqBool (.ref a) (.ref b)) Q E s:=by
 obtain⟨as,r1⟩:=hx.reads;obtain⟨bs,r2⟩:=hy.reads;have d1:=MO (k:=x);refine GK (λe=>Zn (by subst e;exact hx.inj hy)) ?_ q;rw[<- UC];exact SeqAt.rcAt_reads r1 r2 GS GS (by omega)
def drG:bB->Nat:=Sum.elim (λk=>k.2.length+3) λk=>k.1.2.length+3+(k.2.2.length+3)+1
theorem DX.pyHash{a:Addr}(hu:A.units+10<cLine){k:cG×cG}{Q:Int->Shared->Prop}(hk:DX P w s.heap k a)(q:Q (DW P w k) { s with toks:=s.toks+(k.1.2.length+3+(k.2.2.length+3)+1) }):wpAny (model P w) A (pyHash (.ref a)) Q E s:=by
 obtain⟨b,c,ht,h1,h2⟩:=hk;show wpAny _ _ (pyHashByItsType (.ref a)) _ _ s;refine W.pyHash_slot ht.typeIs F.slot_tuple_hash F.entry_tuple_hash (F.args_tuple_hash_1 _) rfl (.inr (by omega)) ?_;unfold Builtin.«tuple.__hash__»;show wpAny _ _ (Builtin.Tuple.tupleItemsOf (.ref a)>>=_) _ _ s;refine Zt (tupleItemsOf_ ht ?_);rw[<- Array.forIn_toList];simp only[List.forIn_cons,List.forIn_nil,bind_assoc,pure_bind];refine Zt (dB.pyHash (k:=k.1) (by show A.units+1+8<cLine;omega) h1 ?_);refine Zt (dB.pyHash (k:=k.2) (by show A.units+1+8<cLine;omega) h2 ?_);refine Zt (wpAny_mkInt (Zu ⟨_,_,rfl, ?_⟩));have e:s.toks+(k.1.2.length+3)+(k.2.2.length+3)+1=s.toks+(k.1.2.length+3+(k.2.2.length+3)+1):=by omega
 show Q (DW P w k) { s with toks:=s.toks+(k.1.2.length+3)+(k.2.2.length+3)+1 };rw[e];exact q
theorem eT.pyHash{a:Addr}(hu:A.units+10<cLine){k:bB}{Q:Int->Shared->Prop}(hk:eT P w s.heap k a)(q:Q (CJ P w k) { s with toks:=s.toks+drG k }):wpAny (model P w) A (pyHash (.ref a)) Q E s:=by
 unfold eT at hk;unfold CJ drG at q
 cases k with
 |inl k =>
  rw[Sum.elim_inl] at hk q;rw[Sum.elim_inl] at q;exact dB.pyHash (by omega) hk q
 |inr k =>
  rw[Sum.elim_inr] at hk q;rw[Sum.elim_inr] at q;exact DX.pyHash hu hk q
theorem eT.quiet{a:Addr}{Q:Bool->Shared->Prop}:∀{k:bB},eT P w s.heap k a->Q true s->wpAny (model P w) A (eqIsQuiet 8 (.ref a)) Q E s
 |.inl _,hk,q=>dB.quiet (d:=6) hk q
 |.inr k,hk,q=>by
  obtain⟨b,c,ht,h1,h2⟩:=hk;refine sY (d:=7) ht (λv hv R hR=>?_) q;rcases List.mem_cons.mp (show v∈[Value.ref b,Value.ref c] from hv) with rfl | hv
  ·exact dB.quiet (d:=5) h1 hR
  ·rw[ze.mp hv];exact dB.quiet (d:=5) h2 hR
end
noncomputable def iH(P:Program)(w:World):HeapKind P w bB where
 is:=eT P w
 hash:=CJ P w
 draws:=drG
 room:=λA=>A.units+10<cLine
 inj:=eT.inj
 keeps:=eT.keeps
 pyHash:=λhu hk q=>eT.pyHash hu hk q
 eqBool:=λhu hx hy q=>eT.eqBool hu hx hy q
 quiet:=λhk q=>eT.quiet hk q
abbrev oB:=List (bB×Addr×Value)
noncomputable def hS1(k:cG):Int:=reduceHash (Builtin.Tuple.tupleHashOf [hashInt k.1,reduceHash (Builtin.Tuple.tupleHashOf (k.2.map hashInt))])
def hS:bB->Int:=Sum.elim hS1 λk=>reduceHash (Builtin.Tuple.tupleHashOf [hS1 k.1,hS1 k.2])
def aBv(x:bB×Addr×Value):DictEntry:={ hash:=hS x.1,key:=.ref x.2.1,val:=x.2.2 }
def dY(a:Addr)(xs:oB)(h:Heap):Prop:=∃o es ep,h.get? a=some o/\o.ExactDict/\o.data=.dict es ep/\es.toList=xs.map aBv
def jE(K:Frag)(H:Hp)(k:cG)(b:Addr):Prop:=∃c,cN K H b [.int k.1,.ref c]/\cN K H c (k.2.map V.int)
def aF7(K:Frag)(H:Hp)(k:cG×cG)(b:Addr):Prop:=∃c d,cN K H b [.ref c,.ref d]/\jE K H k.1 c/\jE K H k.2 d
def cC(K:Frag)(H:Hp):bB->Addr->Prop:=Sum.elim (jE K H) (aF7 K H)
structure DS(K:Frag)(H:Hp)(a:Addr)(xs:oB):Prop where
 at_:H a=some (.ext (dY a xs))
 nd:(xs.map (·.1)).Nodup
 len:xs.length<=sizeLine
 sm:(a==sysModules)=false
 keys:∀x∈xs,cC K H x.1 x.2.1
section
variable{X:Cx}{pins:List (Addr×Obj)}{σ:St}{H:Hp}{s:Shared}{a b:Addr}{xs:oB}{k:bB}{A:Around}{E:Value->Shared->Prop}
theorem jE.is{k:cG}(I:Inv X pins σ H s)(e:jE X.K H k b):dB X.prog X.w s.heap k b:=by
 obtain⟨c,e1,e2⟩:=e;obtain⟨its,r,ht,_⟩:=I.tuple e1;obtain⟨its2,r2,⟨o,h1,h2,n,h3⟩,_⟩:=I.tuple e2;obtain⟨u,v,rfl,ru,rv⟩:=uB r;obtain⟨t,rfl⟩:=ru;cases rv;refine⟨t,c,ht,o,its2.toArray,n,h1,h2,h3, ?_⟩
 have key:∀{ns:List Int} {us:List Value},aL (ns.map V.int) us->PySem.ItemsAre (intKind X.prog X.w) ns us:=by
  intro ns
  induction ns with
  |nil=>intro us q;cases q;exact .nil
  |cons n ns ih =>
   intro us q;rw[Zs] at q
   cases q with
   |cons q1 q2 =>
    obtain⟨t,rfl⟩:=q1;exact .cons (by show Value.isInt n (.int n t)=true;simp[Value.isInt]) (ih q2)
 simpa using key r2
theorem cC.is(I:Inv X pins σ H s):∀{k:bB},cC X.K H k b->(iH X.prog X.w).is s.heap k b
 |.inl _,e=>jE.is I e
 |.inr k,e=>by(obtain⟨c,d,e1,e2,e3⟩:=e;obtain⟨its,r,ht,_⟩:=I.tuple e1;obtain⟨u,v,rfl,ru,rv⟩:=uB r;cases ru;cases rv;exact⟨c,d,ht,e2.is I,e3.is I⟩)
theorem KR{P:Program}{w:World}:entryOfKey (iH P w)=aBv:=rfl
theorem DS.dict(I:Inv X pins σ H s)(d:DS X.K H a xs):s.heap.DictOfH (iH X.prog X.w) a xs:=by
 obtain⟨⟨o,es,ep,h1,h2,h3,h4⟩,_⟩:=(show dA X.prog X.w H s.heap a (.ext (dY a xs)) from I.hok a _ d.at_)
 exact⟨o,es,ep,h1,h2,h3,by rw[KR];exact h4,λx hx=>(d.keys x hx).is I,d.nd⟩
theorem dY.stay{h1 h2:Heap}(r:dY a xs h1)(k:∀o,h1.get? a=some o->h2.get? a=some o):dY a xs h2:=by
 obtain⟨o,es,ep,e,r⟩:=r;exact⟨o,es,ep,k o e,r⟩
theorem dY.ok{P:Program}{w:World}{H:Hp}{h:Heap}(d:h.DictOfH (iH P w) a xs):dA P w H h a (.ext (dY a xs)):=by
 obtain⟨o,es,ep,h1,h2,h3,h4,_⟩:=d;exact⟨⟨o,es,ep,h1,h2,h3,by rw[<- KR (P:=P) (w:=w)];exact h4⟩,⟨o,h1⟩,λ_ _ r k=>r.stay k⟩
theorem ET{v:Value}:(storedH xs k b v).length<=xs.length+1:=by unfold storedH;split<;>simp
theorem DZ{K:Frag}{H:Hp}{v:Value}(h:∀x∈xs,cC K H x.1 x.2.1)(hk:cC K H k b):∀x∈storedH xs k b v,cC K H x.1 x.2.1:=by
 unfold storedH;split
 ·intro x hx;obtain⟨y,hy,rfl⟩:=List.mem_map.mp hx;unfold putAt;split
  ·exact h y hy
  ·exact h y hy
 ·intro x hx;rcases zo.mp hx with hx | hx
  ·exact h x hx
  ·rw[ze.mp hx];exact hk
theorem LN{p:Addr×Value}{Q:Value->Shared->Prop}(hu:A.units+11<cLine)(I:Inv X pins σ H s)(d:DS X.K H a xs)(hk:cC X.K H k b)(e:atKey xs k=some p)(h:∀s',Inv X pins σ H s'->Q p.2 s'):wpAny (model X.prog X.w) A (getItem (.ref a) (.ref b)) Q E s :=
 wpAny_getItem_heap (show A.units+1+10<cLine by omega) (hk.is I) (d.dict I) e (h _ (I.tok _))
theorem aF5{Q:Value->Shared->Prop}(hu:A.units+11<cLine)(I:Inv X pins σ H s)(d:DS X.K H a xs)(hk:cC X.K H k b)(h:∀s',Inv X pins σ H s'->Q (.bool (atKey xs k).isSome) s'):wpAny (model X.prog X.w) A (compareOp .In (.ref b) (.ref a)) Q E s :=
 wpAny_in_heap (show A.units+1+10<cLine by omega) (hk.is I) d.sm (d.dict I) (h _ (I.tok _))
theorem V6{Q:Value->Shared->Prop}(hu:A.units+11<cLine)(I:Inv X pins σ H s)(d:DS X.K H a xs)(hk:cC X.K H k b)(h:∀s',Inv X pins σ H s'->Q (.bool !(atKey xs k).isSome) s'):wpAny (model X.prog X.w) A (compareOp .NotIn (.ref b) (.ref a)) Q E s :=
 wpAny_notIn_heap (show A.units+1+10<cLine by omega) (hk.is I) d.sm (d.dict I) (h _ (I.tok _))
theorem aEi{P:Program}{w:World}{h:Heap}(d:h.DictOfH (iH P w) a xs):(xs.map (·.1)).Nodup:=by
 obtain⟨_,_,_,_,_,_,_,_,nd⟩:=d;exact nd
theorem LW{v:Value}{Q:Unit->Shared->Prop}(hu:A.units+11<cLine)(I:Inv X pins σ H s)(d:DS X.K H a xs)(hk:cC X.K H k b)(hl:xs.length<sizeLine)
  (h:∀s',Inv X pins σ (aP H a (.ext (dY a (storedH xs k b v)))) s'->((storedH xs k b v).map (·.1)).Nodup->Q () s'):wpAny (model X.prog X.w) A (setItem (.ref a) (.ref b) v) Q E s :=
 wpAny_setItem_heap (show A.units+1+10<cLine by omega) (hk.is I) (d.dict I) (λh' dd hs=>h _ (HK I (by rw[d.at_];exact True.intro) hs (let ⟨o,_,_,e,_⟩:=dd;⟨o,e⟩) (dY.ok dd)) (aEi dd)) (Nat.le_of_lt hl)
theorem V7{P:Program}{w:World}{H:Hp}(h:Heap):dA P w H (h.push { cls:=.type "dict",data:=.dict #[] }) h.objs.size (.ext (dY h.objs.size [])) :=
 ⟨⟨_,#[],0,Zw _ rfl,⟨rfl,rfl,rfl⟩,rfl,rfl⟩,⟨_,Zw _ rfl⟩,λ_ _ r k=>r.stay k⟩
noncomputable def aCF(K:Frag)(tk tv:TE):TE:=λσ H Q=>∀p,H p=none->(p==sysModules)=false->tk σ (aP H p (.ext (dY p []))) λx H1=>tv σ H1 λy H2=>H2 p=some (.ext (dY p []))/\∃k b,x=.ref b/\cC K H2 k b/\∀v,aU y v->Q (.ref p) (aP H2 p (.ext (dY p [(k,b,v)])))
theorem RG{pos:Pos}{ke ve:Expr}{tk tv:TE}(hu:X.A.units+11<cLine)(hk:PE X ke tk)(hv:PE X ve tv):PE X (.Dict [some ke] [ve] pos) (aCF X.K tk tv):=by
 intro pins s σ H Q I q;have hn:=I.hok.fresh (Zq s.heap.objs.size);have sm:(s.heap.objs.size==sysModules)=false:=beq_eq_false_iff_ne.mpr (Ne.symm (Zz I.big));have I1:=I.laid (a:=s.heap.objs.size) (o:=.ext (dY s.heap.objs.size [])) (h':=s.heap.push { cls:=.type "dict",data:=.dict #[] }) (t':=s.toks) (λ_ _ q=>Zd _ q) (Zq _) (V7 s.heap);refine wpAny_Dict_any rfl rfl (by simp) (by simp) (pairTrees_cons_walk (bA (hk pins _ σ _ _ I1 (q _ hn sm)) λu s1 ⟨x,H1,I2,rx,q1⟩=>bA (hv pins s1 σ H1 _ I2 q1) λw2 s2 ⟨y,H2,I3,ry,q2⟩=>pairTrees_nil_walk ?_));obtain⟨e,k,b,rfl,kk,q3⟩:=q2;cases rx;have d:DS X.K H2 s.heap.objs.size []:=⟨e,by simp,by simp,sm,λx hx=>nomatch hx⟩
 unfold storeAll;simp only[List.forIn_cons,List.forIn_nil,bind_assoc,pure_bind];refine Zt (wpAny_dictSet_heap (knd:=iH X.prog X.w) (show X.A.units+10<cLine by omega) (kk.is I3) (d.dict I3) (λh' dd hs=>Zu ⟨.ref s.heap.objs.size,_,HK I3 (by rw[e];exact True.intro) hs (let ⟨o,_,_,e,_⟩:=dd;⟨o,e⟩) (dY.ok dd),rfl,q3 _ ry⟩) (by simp))
end
end L2
namespace HT
open PySem PySem.Spec PyProof.Rows
section
variable{prog:Program}{w:World}{A:Around}{E:Value->Shared->Prop}{s:Shared}
theorem uI{t sl:Addr}{items:Array Value}{vl vu:Value}{lo hi:Option Int}{Q:Value->Shared->Prop}(ht:IsTup s.heap t items)(hs:s.heap.IsSliceOf sl vl vu .none)(pl:IsPart vl lo)(pu:IsPart vu hi)
  (hw:bL items.size 0 lo=0/\bL items.size items.size hi=items.size) (h:Q (.ref t) s):wpAny (model prog w) A (getItem (.ref t) (.ref sl)) Q E s:=by
 obtain⟨os,hos,hcs,hds⟩:=id hs;have hTs:s.TypeIs (.ref sl) "slice":=⟨os,hos,hcs⟩
 unfold getItem
 try with_reducible refine wpAny_holding ?_
 first | refine Zt (Zu ?_) | skip
 refine Zt (wpAny_sequenceKey ht.typeIs (by decide) ?_)
 refine Zt (wpAny_callSpecial?_slot (name:=Str.ofString "__getitem__") ht.typeIs PyProof.Rows.slot_tuple_getitem
  (wpAny_call_entry PyProof.Rows.slot_tuple_getitem ht.typeIs entry_tuple_getitem ?_ (args_tuple_getitem _ _)))
 show wpAny _ _ (Builtin.Tuple.tupleItemsOf (.ref t)>>=_) _ _ s;refine Zt (tupleItemsOf_ ht ?_);refine Zt (wpAny_typeOf hTs ?_);rw[Zo (by decide)];refine Zt (lL hs pl pu ?_)
 have hno:(((bL items.size 0 lo:Nat):Int)==0&&(1:Int)==1&&(bL items.size items.size hi-bL items.size 0 lo)==items.size)=true:=by(rw[hw.1,hw.2];simp)
 show wpAny _ _ (if(((bL items.size 0 lo:Nat):Int)==0&&(1:Int)==1&&(bL items.size items.size hi-bL items.size 0 lo)==items.size)=true then _ else _) _ _ s;rw[Zo hno];refine Zt (show wpAny _ _ (Builtin.Tuple.tupleIsExact (.ref t)) _ _ _ from Zt (wpAny_typeOf ht.typeIs (Zu ?_)));rw[Zo (by decide)];refine Zt (wpAny_rule ?_);exact Zu ⟨_,rfl,Zu h⟩
end
end HT
namespace L2
open PySem PySem.Spec PyProof.Rows
section
variable{X:Cx}{e st:Expr}{te tst:TE}{pos p2:Pos}
theorem aL.rev{xs:List V}{us:List Value}(r:aL xs us):aL xs.reverse us.reverse:=by
 induction r with
 |nil=>exact .nil
 |cons r1 r2 ih =>
  rw[List.reverse_cons,List.reverse_cons];exact ih.append (.cons r1 .nil)
def aE5(K:Frag):V->Option Int->Option Int->Hp->VK->Prop:=λx lo hi H Q=>∃a xs,x=.ref a/\cN K H a xs /\
 (∀p,H p=none->Q (.ref p) (aP H p (.tup (pG xs lo hi))))/\(HT.bL xs.length 0 lo=0/\HT.bL xs.length xs.length hi=xs.length->Q (.ref a) H)
theorem WA:uS X (aE5 X.K):=by
 intro pins s σ H x v vl vu lo hi sl Q I rx hs pl pu h;obtain⟨a,xs,rfl,hx,q,q2⟩:=h;by_cases hw:HT.bL xs.length 0 lo=0/\HT.bL xs.length xs.length hi=xs.length
 ·cases rx;obtain⟨its,r,ht,hz⟩:=I.tuple hx;have hlen:its.toArray.size=xs.length:=by rw[Zi];exact r.length.symm
  refine⟨"tuple",_,PyProof.Rows.slot_tuple_getitem.lookup,ht.typeIs, ?_⟩;exact HT.uI ht hs pl pu (by rw[hlen];exact hw) ⟨.ref a,H,I,rfl,q2 hw⟩
 ·exact Z8 pins s σ H (.ref a) v vl vu lo hi sl Q I rx hs pl pu ⟨a,xs,rfl,hx,hw,q⟩
end
end L2
namespace CI
open PySem PySem.Spec PyProof.Rows L2
section
variable{X:Cx}{pins:List (Addr×Obj)}{σ:L2.St}{H H':Hp}{s:Shared}{h':Heap}{a C:Addr}
theorem KZ{P:Program}{w:World}{h:Heap}{b:Addr}{o:HO}(x:dA P w H h b o):∃ob,h.get? b=some ob:=by
 cases o with
 |lst xs=>obtain⟨_,_,_,_,e⟩:=x;exact⟨_,e⟩
 |tup xs=>obtain⟨_,_,_,ob,e,_⟩:=x;exact⟨_,e⟩
 |dK kvs=>obtain⟨_,_,_,_,o,_,_,e,_⟩:=x;exact⟨_,e⟩
 |dT kvs=>obtain⟨_,_,_,_,o,_,_,e,_⟩:=x;exact⟨_,e⟩
 |set S n=>obtain⟨o,_,_,_,e,_⟩:=x;exact⟨_,e⟩
 |ins C dx fs=>obtain⟨_,_,_,e,_⟩:=x;exact⟨_,e⟩
 |own y=>obtain⟨_,e⟩:=x;exact⟨_,e⟩
 |xd fs=>obtain⟨_,⟨_,_,_,e,_⟩,_⟩:=x;exact⟨_,e⟩
 |rng lo hi=>obtain⟨_,_,_,e⟩:=x;exact⟨_,e⟩
 |frz ob u=>obtain⟨e,_⟩:=x;exact⟨_,e⟩
 |tbl ps=>exact⟨_,show h.get? b=some _ from x⟩
 |met f y=>exact⟨_,show h.get? b=some _ from x⟩
 |ext φ=>obtain⟨_,⟨_,e⟩,_⟩:=x;exact⟨_,e⟩
theorem yF(I:Inv X pins σ H s){b:Addr}(hb:s.heap.get? b=none)(hn:H' b=none):dQ X pins H' b:=by
 refine⟨hn,λz=>?_,λz=>?_, ?_,λx c e z=>?_,λp hp z=>?_⟩
 ·obtain⟨m,⟨o,_,_,ho,_⟩,_⟩:=I.loc;rw[<- z,hb] at ho;cases ho
 ·obtain⟨_,o,ho,_⟩:=I.funs.mem z;rw[hb] at ho;cases ho
 ·by_cases hx:b∈X.ex
  ·exact .inl hx
  ·refine .inr ?_
   cases q:X.s₀.heap.get? b with
   |none=>rfl
   |some o =>
    obtain⟨o',e⟩:=I.base.there b o q hx;rw[hb] at e;cases e
 ·obtain⟨v,o,ho,_⟩:=I.cell x c e;rw[z,hb] at ho;cases ho
 ·have:=(I.pin p hp).1
  rw[z,hb] at this;cases this
theorem CF(I:Inv X pins σ H s){b:Addr}(hb:s.heap.get? b=none):H b=none:=by
 cases q:H b with
 |none=>rfl
 |some u =>
  obtain⟨ob,e⟩:=KZ (I.hok b u q);rw[hb] at e;cases e
theorem tM{as:List Addr}(I:Inv X pins σ H s)(fp:∀b∈as,dQ X pins H b)(k:(PySem.W.hideAll s.heap (as++f7 X.stack)).StaysIn h')
  (sl:∀b o,s.heap.get? b=some o->(∀vs,o.data≠.fields vs)->∃sl,h'.get? b=some { o with slots:=sl }):Inv X pins σ H { s with heap:=h' }:=by
 have kp:∀b o,b ∉ as->b ∉ f7 X.stack->s.heap.get? b=some o->h'.get? b=some o:=λb o h1 h2 e=>k b o (PySem.W.hideAll_get _ e (by simp[h1,h2]))
 have tr:∀b u,H b=some u->b ∉ as/\b ∉ f7 X.stack:=λb u e=>⟨(λz=>by rw[(fp b z).1] at e;cases e),(λz=>by rw[I.stkFree b z] at e;cases e)⟩
 have fr:∀b∈f7 X.stack,∀o,s.heap.get? b=some o->∃sl,h'.get? b=some { o with slots:=sl }:=λb hb o e=>by(obtain⟨_,o',e',nf⟩:=I.stack.mem hb;rw[e] at e';cases e';exact sl b o e nf)
 have hok:fP X.prog X.w H h':=λb u e=>(I.hok b u e).stay (λc v hc q=>by
  have z:c ∉ as/\c ∉ f7 X.stack:=by
   rcases hc with rfl | hc
   ·exact tr _ u e
   ·exact tr c _ hc
  exact kp c v z.1 z.2 q) (λ_ q=>q) λ_ _ q=>q
 have u:Un (f7 X.stack) as H H s.heap h':=⟨λb o e n hf hx=>kp b o hx hf e,λb o e n hf hx=>fr b hf o e,λb o e n hx=>n,λb o e hx=>by
  by_cases hf:b∈f7 X.stack
  ·obtain⟨_,z⟩:=fr b hf o e;exact⟨_,z⟩
  ·exact⟨o,kp b o hx hf e⟩,λ_ _ e=>e,λ_ _ _ e=>e,λb ps e=>⟨#[],by rw[e];simp⟩⟩
 exact I.call (g':=s.gens) (t':=s.toks) (d':=s.drawn) (ch:=as) u hok I.bare λb hb=>⟨(fp b hb).2.2.2.1,(fp b hb).2.1,(fp b hb).2.2.2.2.1,(fp b hb).2.2.2.2.2⟩
def HI(X:Cx)(pins:List (Addr×Obj))(H:Hp)(h:Heap)(a C:Addr)(fl:Value):Prop :=
 ∃oe vs a0 T oT ts,h.get? a=some oe/\oe.cls=.ref C/\oe.data=.fields vs/\vs[0]?=some a0/\dQ X pins H T/\vs[1]?=some (.ref T)/\T≠a/\h.get? T=some oT/\oT.data=.fields ts/\ts[3]?=some fl
def MdO(h:Heap)(a C:Addr):Prop:=∃oe vs a0,h.get? a=some oe/\oe.cls=.ref C/\oe.data=.fields vs/\vs[0]?=some a0/\vs[1]?=some .none
def sM(X:Cx)(pins:List (Addr×Obj))(H:Hp)(h:Heap)(a C:Addr):Prop:=dQ X pins H a/\(MdO h a C\/∃fl,HI X pins H h a C fl)
theorem ZQ(I:Inv X pins σ H s){as:List Addr}(fp:∀b∈as,dQ X pins H b){T:Addr}{oT:Obj}{ts:Array Value}(hB:(PySem.W.hideAll s.heap (as++f7 X.stack)).get? T=none)(hT:h'.get? T=some oT)(hd:oT.data=.fields ts)
  (sl:∀b o,s.heap.get? b=some o->(∀vs,o.data≠.fields vs)->∃sl,h'.get? b=some { o with slots:=sl }):dQ X pins H T:=by
 by_cases h1:T∈as
 ·exact fp T h1
 ·by_cases h2:T∈f7 X.stack
  ·obtain⟨_,o,e,nf⟩:=I.stack.mem h2;obtain⟨sl',e'⟩:=sl T o e nf;rw[hT] at e';cases e';exact absurd hd (nf ts)
  ·have hn:s.heap.get? T=none:=by
    cases q:s.heap.get? T with
    |none=>rfl
    |some o=>rw[PySem.W.hideAll_get _ q (by simp[h1,h2])] at hB;cases hB
   exact yF I hn (CF I hn)
theorem oR(I:Inv X pins σ H s)(as:List Addr):s.heap.FunFrames (PySem.W.hideAll s.heap (as++f7 X.stack)) X.stack :=
 PySem.W.funFrames_hide I.stack λenv he b hb=>List.mem_append_right _ (List.mem_filterMap.mpr ⟨env,he,hb⟩)
theorem B8(I:Inv X pins σ H s){as:List Addr}(fp:∀b∈as,dQ X pins H b){a0 fl:Value}(t:h'.TracedAtW (PySem.W.hideAll s.heap (as++f7 X.stack)) a (.ref C) a0 fl)
  (sl:∀b o,s.heap.get? b=some o->(∀vs,o.data≠.fields vs)->∃sl,h'.get? b=some { o with slots:=sl }):HI X pins H h' a C fl:=by
 obtain⟨oe,vs,T,oT,ts,he,⟨hc,h0⟩,hd,h1,hB,hne,hT,hdT,h3⟩:=t;exact⟨oe,vs,a0,T,oT,ts,he,hc,hd,h0,ZQ I fp hB hT hdT sl,h1,hne,hT,hdT,h3⟩
variable{M:Model}{A:Around}{E:Value->Shared->Prop}{Q:Unit->Shared->Prop}
theorem VT{base:Heap}{env:Env}{outer:List Env}{L e:Addr}{cls a0 fl:Value}(hfr:A.frames=some (env::outer))(hl:s.heap.FunFrames base (env::outer))(hf:env.frame=some L)(ht:s.heap.TracedAtW base e cls a0 fl)(hn:¬(fl==rawInt L)=true)(hkb:base.StaysIn s.heap)(hen:base.get? e=none)
  (h:∀h',Heap.NotedW base (env::outer) e cls a0 (rawInt L) s.heap h'->Q () { s with heap:=h' }):wpAny M A (noteFrame (.ref e) env) Q E s:=by
 obtain⟨oe,vs,T,oT,ts,he,⟨hcls,h0⟩,hd,h1,hnT,hTe,hT,hdT,h3⟩:=ht;subst hcls;unfold noteFrame;simp only[hf];refine Zt (wpAny_field he hd h1 ?_);rw[Zo (show(Value.ref T != Value.none)=true from by simp)];refine Zt (wpAny_field hT hdT h3 ?_);rw[Zp hn];refine Zt (wpAny_setField hT hdT (Array.getElem?_eq_some_iff.mp h3).1 ?_);have other:∀b,b≠T->(s.heap.update T (Obj.mapFields (·.setIfInBounds 3 Value.none))).get? b=s.heap.get? b:=λb hb=>Heap.get?_update_other _ _ (Ne.symm hb)
 have noRecord:∀b o,s.heap.get? b=some o->(∀vs,o.data≠.fields vs)->b≠T:=λb o hb hnf q=>by
  rw[q,hT] at hb;injection hb with hb;subst hb;exact hnf ts hdT
 refine wpAny_entryW hfr (hl.of_keeps λb o hb hnf=>⟨o,(other b (noRecord b o hb hnf)).trans hb,rfl⟩) hf ((other e (Ne.symm hTe)).trans he)
  (λb o hbo=>(other b λq=>by rw[q,hnT] at hbo;cases hbo).trans (hkb b o hbo)) hen hd (Array.getElem?_eq_some_iff.mp h1).1 h0
  λh' ⟨x1,x2,x3,x4⟩=>h h' ⟨x1,x2,x3,λb o hb hnf=>x4 b o ((other b (noRecord b o hb hnf)).trans hb) hnf⟩
theorem F8(I:Inv X pins σ H s){env:Env}{outer:List Env}{L:Addr}(hs:X.stack=env::outer)(hf:env.frame=some L)(F:sM X pins H s.heap a C)
  (h:∀h',Inv X pins σ H { s with heap:=h' }->HI X pins H h' a C (rawInt L)->Q () { s with heap:=h' }):wpAny M X.A (noteFrame (.ref a) env) Q E s:=by
 have hfr:X.A.frames=some (env::outer):=by rw[<- hs];exact I.ok.frames
 obtain⟨fa,F⟩:=F;rcases F with ⟨oe,vs,a0,he,hc,hd,h0,h1⟩ | ⟨fl,oe,vs,a0,T,oT,ts,he,hc,hd,h0,fT,h1,hne,hT,hdT,h3⟩
 ·have fp:∀b∈[a],dQ X pins H b:=λb hb=>by rw[ze.mp hb];exact fa
  have hl:=oR I [a];rw[hs] at hl;unfold noteFrame;simp only[hf];refine Zt (wpAny_field he hd h1 ?_);rw[Zp (by decide)];refine wpAny_entryW hfr hl hf he (λb o e=>PySem.W.of_hideAll _ e) (PySem.W.hideAll_none _ (by simp)) hd (Array.getElem?_eq_some_iff.mp h1).1 h0 λh' N=>?_
  obtain⟨k1,k2,k3,k4⟩:=N;rw[<- hs] at k1 k3;rw[hc] at k3;exact h h' (tM I fp k1 k4) (B8 I fp k3 k4)
 ·have fp:∀b∈[a,T],dQ X pins H b:=λb hb=>by
   rcases List.mem_cons.mp hb with rfl | hb
   ·exact fa
   ·rw[ze.mp hb];exact fT
  have hl:=oR I [a,T];rw[hs] at hl;by_cases hfl:(fl==rawInt L)=true
  ·have hfl:=Zy hfl;subst hfl;exact wpAny_noteFrame_againW (base:=PySem.W.hideAll s.heap ([a,T]++f7 (env::outer))) hf ⟨oe,vs,T,oT,ts,he,⟨hc,h0⟩,hd,h1,PySem.W.hideAll_none _ (by simp),hne,hT,hdT,h3⟩ (h s.heap I ⟨oe,vs,a0,T,oT,ts,he,hc,hd,h0,fT,h1,hne,hT,hdT,h3⟩)
  refine VT hfr hl hf ⟨oe,vs,T,oT,ts,he,⟨hc,h0⟩,hd,h1,PySem.W.hideAll_none _ (by simp),hne,hT,hdT,h3⟩ hfl (λb o e=>PySem.W.of_hideAll _ e) (PySem.W.hideAll_none _ (by simp)) λh' N=>?_
  obtain⟨k1,k2,k3,k4⟩:=N;rw[<- hs] at k1 k3;exact h h' (tM I fp k1 k4) (B8 I fp k3 k4)
theorem rP(I:Inv X pins σ H s){fl:Value}(fa:dQ X pins H a)(F:HI X pins H s.heap a C fl)
  (h:∀h',Inv X pins σ H { s with heap:=h' }->HI X pins H h' a C .none->Q () { s with heap:=h' }):wpAny M A (setFlight (.ref a) none) Q E s:=by
 obtain⟨oe,vs,a0,T,oT,ts,he,hc,hd,h0,fT,h1,hne,hT,hdT,h3⟩:=F
 have fp:∀b∈[a,T],dQ X pins H b:=λb hb=>by
  rcases List.mem_cons.mp hb with rfl | hb
  ·exact fa
  ·rw[ze.mp hb];exact fT
 refine wpAny_setFlight_noneW (base:=PySem.W.hideAll s.heap ([a,T]++f7 X.stack)) (λb o e=>PySem.W.of_hideAll _ e) (oR I [a,T]) ⟨oe,vs,T,oT,ts,he,⟨hc,h0⟩,hd,h1,PySem.W.hideAll_none _ (by simp),hne,hT,hdT,h3⟩ λh' k1 k2 k3 k4=>?_
 have k4':∀b o,s.heap.get? b=some o->(∀vs,o.data≠.fields vs)->∃sl,h'.get? b=some { o with slots:=sl }:=λb o e nf=>⟨o.slots,k4 b o e nf⟩
 exact h h' (tM I fp k1 k4') (B8 I fp k3 k4')
theorem QG(I:Inv X pins σ H s)(hs:X.stack=X.env::X.outer)(hf:X.env.frame=some X.env.locals)(F:sM X pins H s.heap a C)
  (h:∀h',Inv X pins σ H { s with heap:=h' }->HI X pins H h' a C .none->Q () { s with heap:=h' }):wpAny M X.A (leaving X.env (.ref a)) Q E s:=by
 unfold leaving;exact Zt (F8 I hs hf F λh1 I1 F1=>rP I1 F.1 F1 λh2 I2 F2=>h h2 I2 F2)
end
noncomputable def vF(P:Program)(w:World):qN:=λouter H s E v s'=>∃a C H',v=.ref a/\s'.os=s.os/\AllBare s'.gens/\Un (f7 outer) [] H H' s.heap s'.heap/\fP P w H' s'.heap/\s.heap.get? a=none/\H' a=none /\
 (∃oe vs a0 T oT ts,s'.heap.get? a=some oe/\oe.cls=.ref C/\oe.data=.fields vs/\vs[0]?=some a0/\s.heap.get? T=none/\H' T=none/\vs[1]?=some (.ref T)/\T≠a/\s'.heap.get? T=some oT/\oT.data=.fields ts/\ts[3]?=some .none)/\E (.ref C) none H'
theorem RH{P:Program}{w:World}{K:Frag}{mg:Str->Option Value}{base:Heap}{N:List Str}{qual:Str}{scope:Scope}{f:Addr}{cd:Value}{A:Around}{outer:List Env}{s₀:Shared}{H₀:Hp}{E:XK}
  {pins:List (Addr×Obj)} {σ:L2.St} {H:Hp} {s:Shared} {a C:Addr} (I:Inv (jI (vF P w) P w K mg base N qual scope f cd A outer s₀ H₀ E) pins σ H s) (F:sM (jI (vF P w) P w K mg base N qual scope f cd A outer s₀ H₀ E) pins H s.heap a C) (h:E (.ref C) none H) :
  (jI (vF P w) P w K mg base N qual scope f cd A outer s₀ H₀ E).xe (.ref a) s:=by
 refine QG I rfl rfl F λh' I2 F2=>?_
 obtain⟨oe,vs,a0,T,oT,ts,he,hc,hd,h0,fT,h1,hne,hT,hdT,h3⟩:=F2
 have nn:∀b,dQ (jI (vF P w) P w K mg base N qual scope f cd A outer s₀ H₀ E) pins H b->s₀.heap.get? b=none:=λb fb=>by
  rcases fb.2.2.2.1 with z | z
  ·exact absurd (show b∈([]:List Addr) from z) (by simp)
  ·exact z
 exact⟨a,C,H,rfl,I2.os,I2.bare,I2.base,I2.hok,nn a F.1,F.1.1,⟨oe,vs,a0,T,oT,ts,he,hc,hd,h0,nn T fT,fT.1,h1,hne,hT,hdT,h3⟩,h⟩
section
variable{X:Cx}{pins:List (Addr×Obj)}{σ:L2.St}{H:Hp}{s s':Shared}
theorem QP{E:XK}{v:Value}(I:Inv X pins σ H s)(h:vF X.prog X.w X.stack H s E v s'):∃a C H',v=.ref a/\Inv X pins σ H' s'/\sM X pins H' s'.heap a C/\E (.ref C) none H':=by
 obtain⟨a,C,H',rfl,os,bare,un,hok,na,ha,⟨oe,vs,a0,T,oT,ts,he,hc,hd,h0,nT,hT0,h1,hne,hT,hdT,h3⟩,e⟩:=h;refine⟨a,C,H',rfl,I.call' (ch:=[]) os un hok bare (λb z=>absurd z (by simp)),⟨yF I na ha,.inr ⟨_,oe,vs,a0,T,oT,ts,he,hc,hd,h0,yF I nT hT0,h1,hne,hT,hdT,h3⟩⟩,e⟩
theorem V2{k:Nat}{f:Addr}{fd:FuncData}{ps:List Str}{sp:Sp}{E:XK}{Q:VK}{us:List Value}{vs:List V}(F:FnOk X.prog X.w X.K X.mg X.base (vF X.prog X.w) k f fd ps sp)(hr:Room k X.A)(hb:eW X.K fd ps [])
  (I:Inv X pins σ H s) (r:aL vs us) (h:sp vs H Q E) (hx:∀pins a C H' s',Inv X pins σ H' s'->sM X pins H' s'.heap a C->E (.ref C) none H'->X.xe (.ref a) s'):wpAny (model X.prog X.w) X.A (call (.ref f) us) (EP X pins σ Q) X.xe s:=by
 have hl:us.length=ps.length:=by rw[<- r.length];exact F.len _ _ _ _ h
 have hb':=hb s us I.kIn (by rw[List.append_nil];exact hl);rw[List.append_nil] at hb';refine wpAny_call (codeAny_mono (F.run X.A X.stack s H ⟨us,[]⟩ us vs Q E hr I.env0 hb' r h) λr s' hq=>?_)
 cases r with
 |error e =>
  obtain⟨a,C,H',rfl,I',F',e'⟩:=QP I hq;exact hx pins a C H' s' I' F' e'
 |ok fl =>
  cases fl with
  |ret u=>exact I.after hq
  |next=>exact False.elim hq
  |brk=>exact False.elim hq
  |cont=>exact False.elim hq
noncomputable def aA0(X:Cx)(sp:Sp)(t:TA):TE:=λσ H Q=>t σ H λvs H1=>∃E:XK,sp vs H1 Q E/\∀pins a C H' s',Inv X pins σ H' s'->sM X pins H' s'.heap a C->E (.ref C) none H'->X.xe (.ref a) s'
theorem DQ{k:Nat}{f:Addr}{fd:FuncData}{ps:List Str}{sp:Sp}{x:Str}{p pos:Pos}{e:Expr}{es:List Expr}{t:TA}(F:FnOk X.prog X.w X.K X.mg X.base (vF X.prog X.w) k f fd ps sp)(hr:Room k X.A)(hg:Gl X x)(hm:X.mg x=some (.ref f))(hk:PySem.W.keepIn X.K (.ref f)=true)(hb:eW X.K fd ps [])
  (ha:PA X (e::es) t) (hdb:(x==("__debug__":Str))=false) (he:starEach (e::es) X.env=(false,eval e X.env)::starEach es X.env) (hpl:(backTo pos (starEach es X.env)).any (·.1)=false) :
  PE X (.Call (.Name x p) (e::es) [] pos) (aA0 X sp t):=by
 intro pins s σ H Q I h;refine wpAny_Call_Name_kw (kU I hg hm ?_ hdb);refine PySem.W.callWith_K (h₀:=X.base) I.ok.mod.kin hk (bA (ha pos pins s σ H _ I h) λus s1 ⟨vs,H1,I1,r,E,q,hx⟩=>⟨I1.kIn, ?_⟩) he hpl;exact V2 F hr hb I1 r q hx
end
abbrev uV:List Value:=[.type "ValueError",.type "Exception",.type "BaseException",.type "object"]
theorem nK{K:Frag}{C:Addr}{n:String}(q:PySem.W.excIn K C uV n=true):∃(tl:List Value) (N:Addr),(∀v,PySem.W.mroIn K C v=some ((Value.ref C::tl).contains v)) /\
  ∀{h:Heap},K.In h->∃(nm qn:Str) (bs:List Value) (hd:Bool) (sn:List Str) (sub:List Value) (ab:Bool) (col:Option Bool) (dd:Option Addr) (k0 k1 k2 k3 k5:Option Value),
   h.get? C=some (excClassObj nm qn C N bs tl hd sn sub ab col dd k0 k1 k2 k3 k5 n)/\h.Ns N (h.nsMap N)/\h.nsMap N "__init__"=none/\OwnTail h uV tl:=by
 unfold PySem.W.excIn at q;split at q
 ·rename_i dd cd sl lk;split at q
  ·rename_i C' tl k0 k1 k2 k3 n' k5 e1 e2;rw[ZB,ZB,ZB,ZB,ZB] at q;obtain⟨⟨⟨⟨⟨q1,q2⟩,q3⟩,q4⟩,q5⟩,q6⟩:=q;have q1:=beq_iff_eq.mp q1;have q2:=beq_iff_eq.mp q2;have q6:=beq_iff_eq.mp q6;subst q1 q2;refine⟨tl,cd.ns,λv=>?_,λ{h} X=>?_⟩
   ·unfold PySem.W.mroIn PySem.W.clsIn;rw[lk];simp only[Option.bind_some];rw[e1,Zp (by simp)]
   ·refine⟨cd.name,cd.qualname,cd.bases,cd.hasDict,cd.slotNames,cd.subclasses,cd.abstract,cd.collection,dd,k0,k1,k2,k3,k5, ?_,.of_isNs (PySem.W.isNs_of_in X q5),PySem.W.nsMap_none_of_in X q5 q6,PySem.W.tail_of_in X q4⟩;rw[X _ _ lk];have e3:sl=#[k0,k1,k2,k3,some (.builtin n'),k5]:=Array.toList_inj.mp e2;rw[e3];obtain⟨c1,c2,c3,c4,c5,c6,c7,c8,c9,c10,c11⟩:=cd;simp only[Bool.not_eq_true'] at q3;simp only at e1;subst e1 q3;rfl
  ·cases q
 ·cases q
structure ExcN(K:Frag)(mg:Str->Option Value)(c:Str):Prop where
 ex:∃C,nsIn K mainGlobals c=some (some (.ref C))/\mg c=some (.ref C)/\PySem.W.excIn K C uV "ValueError.__new__"=true
section
variable{X:Cx}{pins:List (Addr×Obj)}{σ:L2.St}{H:Hp}{s:Shared}{h':Heap}{a C:Addr}
noncomputable def aAk(X:Cx)(C:Addr)(t:TA):TS:=λ_ σ H=>t σ H λvs H1=>vs.length<=sizeLine/\∀pins a s',Inv X pins σ H1 s'->sM X pins H1 s'.heap a C->X.xe (.ref a) s'
theorem QL{x:Str}{np cpos pos:Pos}{e:Expr}{es:List Expr}{t:TA}(hh:X.A.handled=none)(hg:Gl X x)(hm:X.mg x=some (.ref C))(q:PySem.W.excIn X.K C uV "ValueError.__new__"=true)(ha:PA X (e::es) t)
  (hdb:(x==("__debug__":Str))=false) (he:starEach (e::es) X.env=(false,eval e X.env)::starEach es X.env) (hpl:(backTo cpos (starEach es X.env)).any (·.1)=false) :
  PS X (.Raise (some (.Call (.Name x np) (e::es) [] cpos)) none pos) (aAk X C t):=by
 intro pins s σ H D I h;obtain⟨tl,N,_,k⟩:=nK q;obtain⟨nm,qn,bs,hd,sn,sub,ab,col,dd,k0,k1,k2,k3,k5,hC,hN,hni,T⟩:=k I.ok.mod.kin
 refine wpAny_Raise_call_subT (C:=C) (nm:=nm) (q:=qn) (N:=N) (bs:=bs) (bm:=tl) (hdct:=hd) (sn:=sn) (sub:=sub) (ab:=ab) (col:=col) (dd:=dd) (k0:=k0) (k1:=k1) (k2:=k2) (k3:=k3) (k5:=k5)
  PySem.F.excBase_ValueError (mN:=X.base.nsMap N) (T.hasType PySem.F.excBase_ValueError.hasBase) hh (by rw[he];unfold backTo at *;rw[Zs,List.any_cons,hpl];rfl) hni (kU I hg hm ⟨rfl, ?_⟩ hdb)
 have h2:=ha cpos pins s σ H _ I h;rw[he] at h2 ⊢;refine Calls.evalArgs_plain (wpAny_mono h2 (λus s2 h3=>?_) λ_ _ y=>y);obtain⟨vs,H1,I1,r,hl,hx⟩:=h3;refine⟨rfl,by rw[<- r.length];exact hl,I1.bk _ _ hC,hN.keeps I1.bk,T.keeps I1.bk,λh' e hM=>?_⟩;obtain⟨t0,he0,_,_⟩:=hM.there;have I2:Inv X pins σ H1 { s2 with heap:=h' }:=I1.kept (t':=s2.toks) hM.keeps;exact hx pins e _ I2 ⟨yF I1 hM.new (CF I1 hM.new),.inl ⟨_,_,_,he0,rfl,rfl,rfl,rfl⟩⟩
theorem aFF{M:Model}{A:Around}{E:Value->Shared->Prop}{K:Frag}{D:Addr}{oe:Obj}{Q:Bool->Shared->Prop}(X:K.In s.heap)(qC:PySem.W.excIn K C uV "ValueError.__new__"=true)(qD:PySem.W.excIn K D uV "ValueError.__new__"=true)
  (hm:PySem.W.mroIn K C (.ref D)=some true) (he:s.heap.get? a=some oe) (hc:oe.cls=.ref C) (h:Q true s):wpAny M A (excMatches (.ref a) (.ref D)) Q E s:=by
 obtain⟨tl,N,m1,k⟩:=nK qC;obtain⟨nm,qn,bs,hd,sn,sub,ab,col,dd,k0,k1,k2,k3,k5,hC,hN,hni,T⟩:=k X;obtain⟨tl',N',m1',k'⟩:=nK qD;obtain⟨nm',qn',bs',hd',sn',sub',ab',col',dd',k0',k1',k2',k3',k5',hD,hN',hni',T'⟩:=k' X;have b1:(Value.ref C::tl).contains (.ref D)=true:=Option.some.inj ((m1 _).symm.trans hm);have b2:(Value.ref D::tl').contains (.type "BaseException")=true:=by rw[List.contains_cons,T'.hasType (X:="BaseException") (b:=true) (by decide)];rfl
 obtain⟨hp,g,d,tk,os⟩:=s;have f:=tc_notTuple;unfold excMatches
 repeat (first | (with_reducible refine wpAny_loadPart_at he ?_;rw[hc]) | with_reducible refine wpAny_loadPart_at hD ?_ | (with_reducible refine wpAny_isSubtype_exc hC ?_;rw[b1]) | (with_reducible refine wpAny_isSubtype_exc hD ?_;rw[b2]) | wp_step)
 exact h
theorem M4{o:HO}(I:Inv X pins σ H s)(fa:dQ X pins H a)(ok:dA X.prog X.w (aP H a o) s.heap a o):Inv X pins σ (aP H a o) s:=by
 have ne:∀{b:Addr} {u:HO},H b=some u->b≠a:=λq=>bO q fa.1
 have e1:∀{b:Addr} {u:HO},H b=some u->aP H a o b=some u:=λq=>by rw[aG (ne q)];exact q
 have e0:∀{b:Addr},b≠a->H b=none->aP H a o b=none:=λn q=>by rw[aG n];exact q
 refine⟨I.ok,I.os,I.bare,⟨I.base.keep,I.base.slot,λb ob e n hx=>e0 (λz=>?_) (I.base.free b ob e n hx),I.base.there,λb xs e=>e1 (I.base.tups b xs e),λb ob u e=>e1 (I.base.frzs b ob u e),λb ps e=>?_⟩,I.loc,I.cell,e0 (Ne.symm fa.2.1) I.free,
  λx c e=>e0 (fa.2.2.2.2.1 x c e) (I.freeC x c e),λp hp=>?_,λb u e=>?_,I.len⟩
 ·rcases fa.2.2.2.1 with w | w
  ·exact hx (z ▸ w)
  ·rw[z,w] at e;cases e
 ·obtain⟨more,z⟩:=I.base.tbls b ps e;exact⟨more,e1 z⟩
 ·obtain⟨h1,h2,h3⟩:=I.pin p hp;exact⟨h1,e0 (fa.2.2.2.2.2 p hp) h2,h3⟩
 ·by_cases hb:b=a
  ·subst hb;rw[aY] at e;cases e;exact ok
  ·rw[aG hb] at e;exact(I.hok b u e).stay (λ_ _ _ q=>q) (λ_ q=>e1 q) λ_ _ q=>e1 q
theorem YF{M:Model}{A:Around}{E:Value->Shared->Prop}{Q:Unit->Shared->Prop}{i:Nat}{x:Str}{pos:Pos}(I:Inv X pins σ H s)(hN:X.N.Nodup)(hi:X.N[i]?=some x)(hx:X.env.kindOf x=some .local)
  (h:∀s',Inv X pins (σ.set i none) H s'->Q () s'):wpAny M A (do bindName X.env x .none;unbindBehindTheSuite X.env x pos) Q E s:=by
 obtain⟨m,hn,hl⟩:=id I.loc;refine wpAny_nameGoes_keeps hx hn (by rw[I.ok.kind];rfl) λh' v hn' sb=>h _ ?_
 obtain⟨oL,es,ep,hoL,_⟩:=id hn;have lt0:∀b ob,X.s₀.heap.get? b=some ob->b≠X.env.locals:=λb ob e=>Zz (Zl (Zv e) I.ok.above)
 have kp:∀{b:Addr} {ob:Obj},b≠X.env.locals->s.heap.get? b=some ob->h'.get? b=some ob:=λn e=>(sb.2 _ n).trans e
 refine⟨I.ok,I.os,I.bare,⟨λb ob e n h1 h2=>kp (lt0 b ob e) (I.base.keep b ob e n h1 h2),λb ob e n h1 h2=>?_,I.base.free,λb ob e h2=>?_,I.base.tups,I.base.frzs,I.base.tbls⟩,⟨_,hn',λj y w e1 e2 e3=>?_⟩,λy c e=>?_,I.free,I.freeC,λp hp=>?_,λb u e=>?_,by rw[zg];exact I.len⟩
 ·obtain⟨sl,z⟩:=I.base.slot b ob e n h1 h2;exact⟨sl,kp (lt0 b ob e) z⟩
 ·obtain⟨o',z⟩:=I.base.there b ob e h2;exact⟨o',kp (lt0 b ob e) z⟩
 ·by_cases hj:j=i
  ·subst hj;by_cases hlt:j<σ.length
   ·rw[zk hlt] at e2;cases e2
   ·rw[List.getElem?_eq_none (by rw[zg];omega)] at e2;cases e2
  ·rw[Zf (Ne.symm hj)] at e2;obtain⟨u,r,lk⟩:=hl j y w e1 e2 e3;refine⟨u,r, ?_⟩;rcases lk with ⟨k1,k2⟩ | ⟨k1,c,k2,oc,k3,k4⟩
   ·refine .inl ⟨k1, ?_⟩;have ny:y≠x:=λz=>hj (v8 hN e1 (z ▸ hi))
    simp[ny,k2]
   ·exact .inr ⟨k1,c,k2,oc,kp (I.cne y c k2) k3,k4⟩
 ·obtain⟨w,oc,k3,k4⟩:=I.cell y c e;exact⟨w,oc,kp (I.cne y c e) k3,k4⟩
 ·obtain⟨k1,k2,k3,k4⟩:=I.pin p hp;exact⟨kp k3 k1,k2,k3,k4⟩
 ·have nl:∀c w,H c=some w->c≠X.env.locals:=λc w z z'=>by rw[z',I.free] at z;cases z
  refine(I.hok b u e).stay (λc w hc q=>kp ?_ q) (λ_ q=>q) λ_ _ q=>q
  rcases hc with rfl | hc
  ·exact nl _ u e
  ·exact nl c _ hc
end
end CI
namespace CI
open PySem PySem.Spec PySem.Calls PyProof.Rows L2 PySem.W PySem.Builtin PySem.Builtin.ObjectAttr PySem.Builtin.Getset_descriptor
def fI(a C:Addr)(h:Heap):Prop:=∃oe vs,h.get? a=some oe/\oe.cls=.ref C/\oe.data=.fields vs
theorem fI.ty{a C:Addr}{h:Heap}{M:Model}(x:fI a C h):Looks M h (typeOf (.ref a)) (.ref C):=by
 obtain⟨oe,vs,e,c,_⟩:=x;rw[<- c];exact(Looks.ld e).andThen .now
structure ExcG(K:Frag)(C:Addr):Prop where
 q:excIn K C uV "ValueError.__new__"=true
 ga:findIn K (.ref C) "__getattribute__"=some (some (.builtin "BaseException.__getattribute__"))
 no:findIn K (.ref C) "__getattr__"=some none
 cl:findIn K (.ref C) "__class__"=some (some (.builtin "object.__class__"))
 gt:specialIn K (.builtin "object.__class__") "__get__"=some (some (.builtin "getset_descriptor.__get__"))
 tk:takesIn K (.builtin "object.__class__")=some true
 mo:mroIn K C (.type "object")=some true
 mb:mroIn K C (.type "BaseException")=some true
 mv:mroIn K C (.type "ValueError")=some true
section
variable{prog:Program}{w:World}{A:Around}{E:Value->Shared->Prop}{s:Shared}{K:Frag}{a C:Addr}
theorem VQ{tp:Value}{R:Result->Shared->Prop}(X:K.In s.heap)(G:ExcG K C)(x:fI a C s.heap)(h:R (.ok (.ret (.ref C))) s) :
  codeAny (model prog w) A (.call (.builtin "getset_descriptor.__get__") ⟨[.builtin "object.__class__",.ref a,tp],[]⟩) R s:=by
 obtain⟨hh,g,dr,t,os⟩:=s;have L0:=x.ty (M:=model prog w);have L1:=looks_mroIn (M:=model prog w) X G.mo;refine codeAny_call_builtin KF.slot_gs.plain KF.entry_gs (KF.slot_gs.check _ _ _ _ _ _ _ _ KF.type_class (KF.args_gs _ _ _) ?_);unfold Builtin.«getset_descriptor.__get__»;unfold descrGet;rw[dga_obj];refine Zt (Zu ?_);unfold descrGetter;unfold descrCheckInstance;unfold descrNameAndClass;unfold isInstance;simp only[KF.owner_class]
 repeat lk
 refine⟨Code.quiet_builtin _ (by decide +kernel),codeAny_builtin KF.entry_class ?_⟩;unfold Builtin.«object.__class__»;unfold shownTypeOf
 repeat lk
 exact h
theorem P7{M:Model}{h:Heap}(X:K.In h)(G:ExcG K C):Looks M h (find (.ref a) (.ref C) "__class__") (.bind (.builtin "getset_descriptor.__get__") (.builtin "object.__class__")):=by
 have L3:=looks_takesIn (M:=M) X G.tk;refine(looks_findIn X G.cl).andThen ((looks_specialIn X G.gt).andThen ?_);exact(show Looks M h (dataDescriptor? (some (.builtin "object.__class__")) (some (.builtin "getset_descriptor.__get__"))) (some (.builtin "getset_descriptor.__get__",.builtin "object.__class__")) from L3.andThen .now).andThen (Looks.tag .now)
theorem KN{tk:Tok}{Q:Fin->Shared->Prop}(X:K.In s.heap)(G:ExcG K C)(x:fI a C s.heap)(h:Q (.done (.ret (.ref C))) s) :
  wpAny (model prog w) A (Builtin.«object.__getattribute__» ⟨[.ref a,.str "__class__" tk],[]⟩) Q E s:=by
 obtain⟨hh,g,dr,t,os⟩:=s;have L0:=x.ty (M:=model prog w);have L1:=P7 (M:=model prog w) (a:=a) X G
 repeat (any_goals (first | assumption | with_reducible refine Looks.at (by assumption) ?_ | wp_step))
 refine VQ X G x ?_
 repeat (any_goals (first | assumption | wp_step))
theorem L8{v:Value}{Q:Unit->Shared->Prop}(X:K.In s.heap)(G:ExcG K C)(x:fI a C s.heap)(h:Q () s):wpAny (model prog w) A (checkBuiltinCall "BaseException.__getattribute__" ⟨[.ref a,v],[]⟩) Q E s:=by
 obtain⟨hh,g,dr,t,os⟩:=s;have L0:=x.ty (M:=model prog w);have L3:=looks_mroIn (M:=model prog w) X G.mb;have z:=PySem.F.args_bexc_ga (.ref a) v;simp only[checkBuiltinCall,show builtinKind "BaseException.__getattribute__"=some .slot from by decide +kernel,show splitId "BaseException.__getattribute__"=some ("BaseException","__getattribute__") from by decide +kernel];refine Zt ?_;unfold isInstance
 repeat (any_goals (first | assumption | with_reducible refine Looks.at (by assumption) ?_ | wp_step))
theorem UO{Q:Option Value->Shared->Prop}(X:K.In s.heap)(G:ExcG K C)(x:fI a C s.heap)(h:Q (some (.ref C)) { s with toks:=s.toks+1 }):wpAny (model prog w) A (getAttr? (.ref a) "__class__") Q E s:=by
 obtain⟨hh,g,dr,t,os⟩:=s;have L0:=x.ty (M:=model prog w);have L1:=looks_findIn (M:=model prog w) X G.ga;have L2:=looks_findIn (M:=model prog w) X G.no;have L3:=looks_mroIn (M:=model prog w) X G.mb;have f3:=PySem.F.excAttr_ValueError.ga.bind (.ref a);unfold getAttr? getAttrBy? getAttrBy;refine Zt (wpAny_mkText (Zt (wpAny_attempt (wpAny_holding (Zt (L0.at (Zt (L1.at ?_))))))));have n1:(onTheHeap (Value.ref C)&&Value.builtin "BaseException.__getattribute__" == Value.builtin "object.__getattribute__")=false:=by rw[show(Value.builtin "BaseException.__getattribute__" == Value.builtin "object.__getattribute__")=false from by decide +kernel,Bool.and_false]
 dsimp only;rw[Zp (by rw[n1];exact Bool.false_ne_true)];unfold getAttrByItsOwn
 repeat (any_goals (first | assumption | with_reducible refine Looks.at (by assumption) ?_ | wp_step))
 refine codeAny_call_builtin PySem.F.attr_ValueError.ga.plain PySem.F.entry_bexc_ga (L8 (s:=⟨hh,g,dr,t+1,os⟩) X G x (KN (s:=⟨hh,g,dr,t+1,os⟩) X G x ?_))
 repeat (any_goals (first | assumption | wp_step))
theorem vT(G:ExcG K C):KitX K (.ref a) (.ref C) (fI a C) where
 ty:=λ_ _ _ x=>x.ty
 it:=λ_ _ X _=>by(obtain⟨tl,N,_,k⟩:=nK G.q;obtain⟨nm,qn,bs,hd,sn,sub,ab,col,dd,k0,k1,k2,k3,k5,hC,_⟩:=k X;intro A' Q' E' s' k' q;unfold isType loadHead;exact Zt (wpAny_loadPart (k' _ _ hC) (Zu q)))
 ne:=λh tp dd its n sl X htp=>by
  obtain⟨tl,N,_,k⟩:=nK G.q;obtain⟨nm,qn,bs,hd,sn,sub,ab,col,dd,k0,k1,k2,k3,k5,hC,_⟩:=k X;refine Bool.eq_false_iff.mpr λq=>?_
  have e:C=tp:=Value.ref.inj (beq_iff_eq.mp q);subst e;rw[hC] at htp;have z:=congrArg Obj.data (Option.some.inj htp);cases z
 ca:=λX x k=>UO X G x k
theorem OB(G:ExcG K C):kitOne K (.ref C) (.type "ValueError")=some true:=by
 unfold kitOne kitCls;rw[Zp (by simp)];show(if kitMeta "ValueError"=true then subIn K (.ref C) (.type "ValueError") else none)=some true;rw[Zo (by decide +kernel)];exact G.mv
theorem T7{D:Addr}(e:kin_not K C D=true):kitOne K (.ref C) (.ref D)=some false:=by
 unfold kin_not at e;rw[ZB,ZB,ZB] at e;obtain⟨⟨⟨e0,e1⟩,e2⟩,e3⟩:=e;unfold kitOne kitCls;rw[Zp (λz=>of_decide_eq_true e0 (Value.ref.inj (beq_iff_eq.mp z)))];show(if((clsIn K D).isSome&&typeIn K (.ref D)==some (.type "type"))=true then subIn K (.ref C) (.ref D) else none)=some false;rw[Zo (by rw[e1,e2];rfl)];exact beq_iff_eq.mp e3
theorem Z9{D:Addr}(e:isIn K (.ref C) D=true):kitOne K (.ref C) (.ref D)=some true:=by
 unfold isIn at e;unfold kitOne kitCls;by_cases h:(Value.ref C==Value.ref D)=true
 ·rw[Zo h]
 ·rw[Zp h];rw[Bool.or_eq_true] at e;rcases e with e | e
  ·exact absurd e h
  ·rw[ZB,ZB,ZB] at e;obtain⟨⟨⟨e1,e2⟩,_⟩,e3⟩:=e;show(if((clsIn K D).isSome&&typeIn K (.ref D)==some (.type "type"))=true then subIn K (.ref C) (.ref D) else none)=some true;rw[Zo (by rw[e1,e2];rfl)];exact beq_iff_eq.mp e3
end
end CI
namespace L2
open PySem PySem.Spec PyProof.Rows
noncomputable def Its(x:Str):It:=⟨λi _=>i<x.cps.size,λi H v H'=>H'=H/\∃c,x.cps[i]?=some c/\v=.str ⟨#[c]⟩,λi _=>x.cps.size<=i⟩
section
variable{X:Cx}{tg:Expr}
end
end L2
namespace CI
open PySem
inductive D where
 |non | bl (b:Bool) | int (i:Int) | str (x:Str) | tup (ds:List D) | lst (ds:List D)
 |ins (c:Str) (ns:List Str) (ds:List D) | dct (kvs:List (Int×Int)) | exn (c:Str) | dcs (ks:List L2.bB) (ds:List D)
 deriving Inhabited
inductive RV where
 |sh (d:D) | ow (d:D) | od (d:D)
def RV.d:RV->D
 |.sh d=>d
 |.ow d=>d
 |.od d=>d
def RV.low:RV->RV
 |.od d=>.ow d
 |v=>v
inductive Sl where
 |un | mv | sh (d:D) | ow (d:D) (pin lk:Bool)
def Sl.get:Sl->Option D
 |.un=>none
 |.mv=>none
 |.sh d=>some d
 |.ow d _ _=>some d
structure Exc where
 cls:Str
inductive Out(α:Type) where
 |ok (a:α) | ex (e:Exc)
abbrev Env:=List Sl
abbrev aF(α:Type):=Option (Out α×Env)
noncomputable def aF.bind{α β:Type}(r:aF α)(f:α->Env->aF β):aF β :=
 match r with
 |none=>none
 |some (.ex e,ρ)=>some (.ex e,ρ)
 |some (.ok a,ρ)=>f a ρ
inductive Hd where
 |slot (i:Nat) | val (v:RV)
def Hd.get(h:Hd)(ρ:Env):Option D :=
 match h with
 |.slot i=>(ρ[i]?).bind Sl.get
 |.val v=>some v.d
noncomputable def getAll:List Hd->Env->Option (List D)
 |[],_=>some []
 |h::r,ρ=>(h.get ρ).bind λd=>(getAll r ρ).map (d :: ·)
inductive Ty where
 |int | bool | str | list | tuple | dict | cls (c:Nat) | verr
inductive BI where
 |len | abs | int | list | tuple | min | max | all | repr | str | sorted
 deriving DecidableEq
inductive ItK where
 |rng | of | enum (lo:Int) | sig
 deriving DecidableEq
set_option genSizeOf false
set_option genInjectivity false
inductive E where
 |bad | omt
 |var (i:Nat)
 |con (d:D)
 |tup (es:List E) | lst (es:List E)
 |bin (op:Operator) (a b:E)
 |neg (a:E) | not (a:E)
 |cmp (op:CmpOp) (a b:E)
 |cmp2 (op op':CmpOp) (a b c:E)
 |and (a b:E) | or (a b:E)
 |ite (c a b:E)
 |ix (a i:E)
 |sl (a lo hi:E)
 |rev (a:E)
 |call (f:String) (args:List E)
 |bif (f:BI) (args:List E)
 |isi (a:E) (ts:List Ty)
 |isC (a:E) (s n:List Str)
 |isX (a:E) (sn:List (List Str×List Str))
 |app (i:Nat) (a:E)
 |ext (i:Nat) (a:E)
 |dict (kvs:List (Int×Int))
 |dict1 (k v:E)
 |insr (i:Nat) (k a:E) | popi (i:Nat) (k:E)
 |frz (i:Nat)
 |bitl (a:E)
 |mkset (a:E) | nset (a:E)
 |joi (s:Str) (a:E) | spl (i:Nat) (s:Str) | stw (i:Nat) (s:Str)
 |mkrng (es:List E) | lrng (es:List E)
 |fld (a:E) (f:Str)
 |make (c:Str) (ns:List Str) (args:List E)
 |meth (i:Nat) (m:Str) (tb:List (Str×String)) (args:List E)
 |methE (a:E) (m:Str) (tb:List (Str×String)) (args:List E)
 |comp (elt:E) (tg:List Nat) (k:ItK) (its:List E) (cond:List E) (imp:List Nat) (nl:Nat)
inductive S where
 |bad | pass | brk | cnt
 |asg (i:Nat) (e:E)
 |asgT (is:List Nat) (e:E)
 |set (i:Nat) (k e:E)
 |expr (e:E)
 |ret (e:E) | retN
 |ifs (c:E) (a b:List S)
 |for (tg:List Nat) (one:Bool) (k:ItK) (its:List E) (body:List S)
 |whl (c:E) (body:List S)
 |rse (c:Str) (args:List E)
 |tryA (body:List S) (cs:List Str) (i j:Nat)
 |tryB (body:List S) (cs:List Str) (i:Nat) (ss:List S)
 |tryN (body:List S) (cs:List Str)
 |tryO (body:List S)
 |aug (i:Nat) (e:E)
 |retD (elt:E) (tg:List Nat) (k:ItK) (its:List E) (imp:List Nat) (nl:Nat)
 |scr (i j:Nat) (e c:E)
set_option genInjectivity true
noncomputable def bM:Nat->D->Bool
 |_,.non=>true
 |_,.bl _=>true
 |_,.int _=>true
 |_,.str _=>true
 |n+1,.tup ds=>ds.all (bM n)
 |n+1,.lst ds=>ds.all (bM n)
 |_,_=>false
mutual
noncomputable def eE:D->D->Bool
 |.non,.non=>true
 |.bl a,.bl b=>a==b
 |.bl a,.int b=>(if a then 1 else 0)==b
 |.int a,.bl b=>a==(if b then 1 else 0)
 |.int a,.int b=>a==b
 |.str a,.str b=>a==b
 |.tup a,.tup b=>lX a b
 |.lst a,.lst b=>lX a b
 |_,_=>false
noncomputable def lX:List D->List D->Bool
 |[],[]=>true
 |a::as,b::bs=>eE a b&&lX as bs
 |_,_=>false
end
noncomputable def cl(p:Prop):Decidable p:=Classical.propDecidable p
noncomputable section
noncomputable def hW:D->Option Bool
 |.non=>some false
 |.bl b=>some b
 |.int i=>some (i != 0)
 |.str x=>@ite _ (x.length<=1000000) (cl _) (some ((x.length:Int) != 0)) none
 |.tup ds=>some (!ds.isEmpty)
 |.lst ds=>some (!ds.isEmpty)
 |_=>none
def aR(n:Nat):Bool:=@decide (n<=1000000) (cl _)
noncomputable def cI:Operator->D->D->Option RV
 |.Add,.int i,.int j=>some (.sh (.int (i+j)))
 |.Sub,.int i,.int j=>some (.sh (.int (i-j)))
 |.Mult,.int i,.int j=>@ite _ ((-(2 ^ 64)<i/\i<2 ^ 64)\/(-(2 ^ 64)<j/\j<2 ^ 64)) (cl _) (some (.sh (.int (i*j)))) none
 |.FloorDiv,.int i,.int j=>@ite _ (0<j/\j<nofun) (cl _) (some (.sh (.int (i / j)))) none
 |.Mod,.int i,.int j=>@ite _ (0<j) (cl _) (some (.sh (.int (i % j)))) none
 |.LShift,.int i,.int j=>@ite _ (0<=j/\j<=1000/\i.natAbs<2 ^ 64) (cl _) (some (.sh (.int (i*2 ^ j.toNat)))) none
 |.RShift,.int i,.int j=>@ite _ (0<=j) (cl _) (some (.sh (.int (i / 2 ^ j.toNat)))) none
 |.BitAnd,.int i,.int j=>some (.sh (.int (Builtin.bitAnd i j)))
 |.Add,.lst xs,.lst ys=>if aR (xs.length+ys.length) then some (.ow (.lst (xs++ys))) else none
 |.Add,.tup [],.tup ys=>some (.sh (.tup ys))
 |.Add,.tup (x::xs),.tup ys=>if aR (xs.length+1+ys.length) then some (.sh (.tup (x::xs++ys))) else none
 |.Mult,.lst xs,.int k=>@ite _ (-(2 ^ 31)<=k/\k<=1000/\aR (xs.length*k.toNat)) (cl _) (some (.ow (.lst (List.replicate k.toNat xs).flatten))) none
 |.Mult,.tup xs,.int k=>@ite _ (xs≠[]/\1<=k/\k<=1000/\aR (xs.length*k.toNat)) (cl _) (some (.sh (.tup (List.replicate k.toNat xs).flatten))) none
 |_,_,_=>none
def cB:D->Bool
 |.non=>true | .bl _=>true | .int _=>true | .str _=>true
 |_=>false
def zP(x:D)(ds:List D):Bool:=ds.any λy=>eE y x
noncomputable def aGc(kvs:List (Int×Int))(n m:Int):List (Int×Int):=if(kvs.any λp=>decide (p.1=n))=true then kvs.map (λp=>if p.1=n then(p.1,m) else p) else kvs++[(n,m)]
def fA:List D->Option (List Int)
 |[]=>some []
 |.int i::r=>(fA r).map (i :: ·)
 |_=>none
def uX:D->Option L2.cG
 |.tup [.int t,.tup ds]=>(fA ds).map λns=>(t,ns)
 |_=>none
noncomputable def eP:D->Option L2.bB
 |.tup [.tup a,.tup b]=>(uX (.tup a)).bind λx=>(uX (.tup b)).map λy=>.inr (x,y)
 |d=>(uX d).map .inl
noncomputable def jQ(ks:List L2.bB)(ds:List D)(k:L2.bB):Option D:=((ks.zip ds).find? λp=>decide (p.1=k)).map (·.2)
def nC(ks:List L2.bB)(k:L2.bB):Bool:=ks.any λx=>decide (x=k)
def oY(ks:List L2.bB)(k:L2.bB):List L2.bB:=if nC ks k then ks else ks++[k]
noncomputable def pB{α:Type}(ks:List L2.bB)(ds:List α)(k:L2.bB)(d:α):List α:=if nC ks k then(ks.zip ds).map (λp=>if p.1=k then d else p.2) else ds++[d]
def yM(x:D)(ks:List L2.bB):Option Bool:=(eP x).map λk=>nC ks k
noncomputable def cQ:CmpOp->D->D->Option Bool
 |.Eq,x,y=>if bM 20 x&&bM 20 y then some (eE x y) else none
 |.NotEq,x,y=>if bM 20 x&&bM 20 y then some (!eE x y) else none
 |.Lt,.int i,.int j=>some (decide (i<j))
 |.LtE,.int i,.int j=>some (decide (i<=j))
 |.Gt,.int i,.int j=>some (decide (j<i))
 |.GtE,.int i,.int j=>some (decide (j<=i))
 |.Is,.bl a,.bl b=>some (a==b)
 |.Is,.non,.non=>some true
 |.Is,_,.non=>some false
 |.IsNot,.non,.non=>some false
 |.IsNot,_,.non=>some true
 |.In,x,.tup ds=>if cB x&&ds.all cB then some (zP x ds) else none
 |.In,x,.lst ds=>if cB x&&ds.all cB then some (zP x ds) else none
 |.In,x,.dcs ks _=>yM x ks
 |.NotIn,x,.tup ds=>if cB x&&ds.all cB then some (!zP x ds) else none
 |.NotIn,x,.lst ds=>if cB x&&ds.all cB then some (!zP x ds) else none
 |.NotIn,x,.dcs ks _=>(yM x ks).map (!·)
 |_,_,_=>none
def atD(ds:List D)(i:Int):Option D:=L2.eO ds i
noncomputable def NA:D->D->Option D
 |.tup ds,.int i=>atD ds i
 |.lst ds,.int i=>atD ds i
 |.dcs ks ds,x=>(eP x).bind (jQ ks ds)
 |.str x,.int i=>@ite _ (x.length<=1000000) (cl _) ((L2.eO x.cps.toList i).map λc=>.str ⟨#[c]⟩) none
 |_,_=>none
noncomputable def iP(ds:List D)(lo hi:Option Int):List D:=(ds.drop (HT.bL ds.length 0 lo)).take (HT.bL ds.length ds.length hi-HT.bL ds.length 0 lo)
def mJ:Option D->Option (Option Int)
 |none=>some none
 |some (.int i)=>some (some i)
 |_=>none
noncomputable def R7:D->Option Int->Option Int->Option RV
 |.lst ds,lo,hi=>some (.ow (.lst (iP ds lo hi)))
 |.tup ds,lo,hi=>some (.sh (.tup (iP ds lo hi)))
 |_,_,_=>none
def aGK:D->Option RV
 |.tup ds=>some (.sh (.tup ds.reverse))
 |_=>none
def gJ:List D->Option (List Bool)
 |[]=>some []
 |.bl b::r=>(gJ r).map (b :: ·)
 |_=>none
mutual
noncomputable def eR:D->PyData
 |.non=>.none
 |.bl b=>.bool b
 |.int i=>.int i
 |.str x=>.str x
 |.tup ds=>.tuple (hU ds)
 |.lst ds=>.list (hU ds)
 |.ins _ _ _=>.none
 |.dct _=>.none
 |.exn _=>.none
 |.dcs _ _=>.none
noncomputable def hU:List D->List PyData
 |[]=>[]
 |d::ds=>eR d::hU ds
end
noncomputable def lW:BI->List D->Option RV
 |.len,[.lst ds]=>some (.sh (.int ds.length))
 |.len,[.tup ds]=>some (.sh (.int ds.length))
 |.len,[.dcs ks _]=>some (.sh (.int ks.length))
 |.len,[.str x]=>@ite _ (x.length<=1000000) (cl _) (some (.sh (.int x.length))) none
 |.abs,[.int i]=>some (.sh (.int (if i<0 then -i else i)))
 |.int,[.int i]=>some (.sh (.int i))
 |.int,[.bl b]=>some (.sh (.int (if b then 1 else 0)))
 |.list,[.lst ds]=>some (.ow (.lst ds))
 |.list,[.tup ds]=>some (.ow (.lst ds))
 |.tuple,[.lst ds]=>some (.sh (.tup ds))
 |.tuple,[.tup ds]=>some (.sh (.tup ds))
 |.max,[.int i,.int j]=>some (.sh (.int (if j > i then j else i)))
 |.max,[.lst ds]=>match fA ds with
  |some (i::r)=>some (.sh (.int (r.foldl (λm y=>if y > m then y else m) i)))
  |_=>none
 |.all,[.lst ds]=>(gJ ds).map λbs=>.sh (.bl (bs.all id))
 |_,_=>none
noncomputable def II:Ty->D->Option Bool
 |.int,d=>match d with
  |.int _=>some true | .bl _=>some true | .non=>some false | .str _=>some false | .tup _=>some false | .lst _=>some false
  |_=>none
 |.bool,d=>match d with
  |.bl _=>some true | .int _=>some false | .non=>some false | .str _=>some false | .tup _=>some false | .lst _=>some false
  |_=>none
 |.str,d=>match d with
  |.str _=>some true | .bl _=>some false | .int _=>some false | .non=>some false | .tup _=>some false | .lst _=>some false
  |_=>none
 |.list,d=>match d with
  |.lst _=>some true | .bl _=>some false | .int _=>some false | .non=>some false | .tup _=>some false | .str _=>some false
  |_=>none
 |.tuple,d=>match d with
  |.tup _=>some true | .bl _=>some false | .int _=>some false | .non=>some false | .lst _=>some false | .str _=>some false
  |_=>none
 |.verr,d=>match d with
  |.exn _=>some true
  |_=>none
 |_,_=>none
noncomputable def BN:List Ty->D->Option Bool
 |[],_=>some false
 |t::r,d=>(II t d).bind λb=>(BN r d).map λc=>b||c
noncomputable def aGj(s n:List Str):D->Option RV
 |.ins c _ _=>if s.contains c then some (.sh (.bl true)) else if n.contains c then some (.sh (.bl false)) else none
 |_=>none
noncomputable def vS(c:Str):List (List Str×List Str)->Option Bool
 |[]=>some false
 | (s,n)::r=>if s.contains c then some true else if n.contains c then vS c r else none
def QE(sn:List (List Str×List Str)):D->Option RV
 |.exn c=>(vS c sn).map λb=>.sh (.bl b)
 |_=>none
def aGA:D->Option RV
 |.int i=>some (.sh (.int (Builtin.Int.intBits i)))
 |_=>none
noncomputable def aDE:D->Option RV
 |.lst ds=>match fA ds with
  |some is=>@ite _ (is.length<=1000) (cl _) (some (.sh (.int (PyProof.Rows.firstMet (λi=>is.getD i 0) is.length).length))) none
  |none=>none
 |_=>none
noncomputable def aDw:List D->Option RV
 |[.int j]=>@ite _ (-1000000<=j/\j<=1000000) (cl _) (some (.ow (.lst ((List.range (j-0).toNat).map λ(n:Nat)=>.int (0+(n:Int)))))) none
 |[.int i,.int j]=>@ite _ ((-1000000<=i/\i<=1000000)/\(-1000000<=j/\j<=1000000)) (cl _) (some (.ow (.lst ((List.range (j-i).toNat).map λ(n:Nat)=>.int (i+(n:Int)))))) none
 |_=>none
def PX:D->Str->Option D
 |.ins _ ns ds,f=>(ns.zip ds).lookup f
 |_,_=>none
noncomputable def iJ(c:Str)(ns:List Str)(m:Str)(tb:List (Str×String)):Option String:=if ns.contains m then none else tb.lookup c
noncomputable def bH(t:Bool)(r:aF RV):aF RV :=
 match t with
 |false=>r
 |true=>r.bind λv ρ=>(hW v.d).map λb=>(.ok (.sh (.bl b)),ρ)
noncomputable def hd(e:E)(r:aF RV)(ρ:Env):aF Hd :=
 match e with
 |.var i=>if((ρ[i]?).bind Sl.get).isSome then some (.ok (.slot i),ρ) else none
 |_=>r.bind λv ρ'=>some (.ok (.val v.low),ρ')
def CQ:E->Bool
 |.omt=>true
 |_=>false
noncomputable def zF(e:E)(r:aF RV)(ρ:Env):aF (Option D) :=
 if CQ e then some (.ok none,ρ) else r.bind λv ρ'=>some (.ok (some v.d),ρ')
noncomputable def pF(op:Operator)(x:Hd)(d:D):Bool :=
 match op,d with
 |.Mult,.lst _=>match x with
  |.val (.ow _)=>true
  |_=>false
 |_,_=>true
def kC(ρ:Env)(i:Nat):Bool :=
 match ρ[i]? with
 |some (.ow (.lst _) _ _)=>true
 |_=>false
def yJ(ρ:Env)(i:Nat):Bool :=
 match ρ[i]? with
 |some (.ow (.dcs _ _) _ _)=>true
 |_=>false
def aGp(ρ:Env)(i:Nat):Bool :=
 match ρ[i]? with
 |some (.ow (.dct _) _ _)=>true
 |_=>false
noncomputable def wX(i:Nat)(ρ:Env):aF RV :=
 match ρ[i]? with
 |some (.sh d)=>some (.ok (.sh d),ρ)
 |some (.ow d false false)=>some (.ok (.sh d),ρ.set i (.sh d))
 |_=>none
def done(o:Option RV)(ρ:Env):aF RV:=o.map λv=>(.ok v,ρ)
noncomputable def store(i:Nat)(v:RV)(ρ:Env):Option Env :=
 match ρ[i]? with
 |none=>none
 |some (.ow _ true _)=>none
 |some (.ow _ _ true)=>none
 |some _=>match v with
  |.sh d=>some (ρ.set i (.sh d))
  |.ow d=>some (ρ.set i (.ow d false false))
  |.od _=>none
noncomputable def eF:List Nat->List D->Env->Option Env
 |[],[],ρ=>some ρ
 |i::is,d::ds,ρ=>(store i (.sh d) ρ).bind (eF is ds)
 |_,_,_=>none
noncomputable def bN(one:Bool)(tg:List Nat)(d:D)(ρ:Env):Option Env :=
 match one,tg,d with
 |true,[i],d=>store i (.sh d) ρ
 |false,is,.tup ds=>eF is ds ρ
 |_,_,_=>none
abbrev Calls:=String->List Sl->aF RV
noncomputable def bS(pins:List Bool)(hs:List Hd)(ρ:Env):Option (List Sl×Env) :=
 match pins,hs with
 |[],[]=>some ([],ρ)
 |p::ps,.val (.sh d)::r=>(bS ps r ρ).map λ(as,ρ')=>(.sh d::as,ρ')
 |p::ps,.val (.ow d)::r=>(bS ps r ρ).map λ(as,ρ')=>((if p then .ow d true false else .sh d)::as,ρ')
 |p::ps,.slot i::r =>
  match ρ[i]? with
  |some (.sh d)=>(bS ps r ρ).map λ(as,ρ')=>(.sh d::as,ρ')
  |some (.ow d pin lk) =>
   match p with
   |true=>(bS ps r (ρ.set i .un)).map λ(as,ρ')=>(.ow d true lk::as,ρ')
   |false=>if pin||lk then none else(bS ps r (ρ.set i (.sh d))).map λ(as,ρ')=>(.sh d::as,ρ')
  |_=>none
 |_,_=>none
noncomputable def bJ(pins:List Bool)(hs:List Hd)(as:List Sl)(ρ0 ρ:Env):Option Env :=
 match pins,hs,as with
 |[],[],[]=>some ρ
 |true::ps,.slot i::r,a::as =>
  match ρ0[i]?,a with
  |some (.ow _ pin lk),.ow d _ _=>bJ ps r as ρ0 (ρ.set i (.ow d pin lk))
  |some (.ow _ _ _),_=>none
  |_,_=>bJ ps r as ρ0 ρ
 |_::ps,_::r,_::as=>bJ ps r as ρ0 ρ
 |_,_,_=>none
noncomputable def cW(pins:List Bool)(f:List Sl->aF RV)(hs:List Hd)(ρ:Env):aF RV :=
 match bS pins hs ρ with
 |none=>none
 |some (as,ρ1) =>
  match f as with
  |none=>none
  |some (o,as')=>(bJ pins hs as' ρ ρ1).map λρ'=>(o,ρ')
noncomputable def dE(lo:Int)(ds:List D):List D:=(List.range ds.length).map λ(j:Nat)=>.tup [.int (lo+(j:Int)),ds.getD j .non]
def BL(x:Str):List D:=x.cps.toList.map λc=>.str ⟨#[c]⟩
def SY:List D->Option (List Str)
 |[]=>some []
 |.str x::r=>(SY r).map (x :: ·)
 |_=>none
noncomputable def aEt(s:Str):D->Option RV
 |.lst ds=>match SY ds with
  |some ts=>@ite _ (JoinOk s ts=true/\PyData.strOk (Txt.join s ts)=true) (cl _) (some (.sh (.str (Txt.join s ts)))) none
  |none=>none
 |_=>none
noncomputable def aFU(s:Str)(ρ:Env)(o:Option Sl):aF RV:=match o with
 |some (.sh (.str x))=>@ite _ ((s.length==0)=false/\x.length<=1000000/\(Txt.split x s).all PyData.strOk=true) (cl _) (some (.ok (.ow (.lst ((Txt.split x s).map D.str))),ρ)) none
 |_=>none
noncomputable def aFJ(s:Str)(ρ:Env)(o:Option Sl):aF RV:=match o with
 |some (.sh (.str x))=>some (.ok (.sh (.bl (Txt.startswith x s))),ρ)
 |_=>none
noncomputable def aN(k:ItK)(hs:List Hd)(ρ:Env):Option (List D×Option Nat) :=
 match k,hs with
 |.rng,[a]=>match a.get ρ with
  |some (.int n)=>@ite _ (-1000000<=n/\n<=1000000) (cl _) (some ((List.range n.toNat).map λ(j:Nat)=>.int (j:Int),none)) none
  |_=>none
 |.rng,[a,b]=>match a.get ρ,b.get ρ with
  |some (.int m),some (.int n)=>@ite _ ((-1000000<=m/\m<=1000000)/\(-1000000<=n/\n<=1000000)) (cl _) (some ((List.range (n-m).toNat).map λ(j:Nat)=>.int (m+(j:Int)),none)) none
  |_,_=>none
 |.enum lo,[.slot i]=>match ρ[i]? with
  |some (.ow (.lst ds) _ _)=>some (dE lo ds,some i)
  |some (.sh (.lst ds))=>some (dE lo ds,none)
  |_=>none
 |.enum lo,[.val v]=>match v.d with
  |.lst ds=>some (dE lo ds,none)
  |_=>none
 |.of,[.slot i]=>match ρ[i]? with
  |some (.ow (.lst ds) _ _)=>some (ds,some i)
  |some (.sh (.lst ds))=>some (ds,none)
  |some (.sh (.tup ds))=>some (ds,none)
  |_=>none
 |.of,[.val v]=>match v.d with
  |.lst ds=>some (ds,none)
  |.tup ds=>some (ds,none)
  |_=>none
 |_,_=>none
def aQ(o:Option Nat)(ρ:Env):Env :=
 match o with
 |none=>ρ
 |some i=>ρ.set i .un
noncomputable def eM(o:Option Nat)(ρ0 ρ:Env):Option Env :=
 match o with
 |none=>some ρ
 |some i=>match ρ[i]?,ρ0[i]? with
  |some .un,some sl=>some (ρ.set i sl)
  |_,_=>none
noncomputable def fQ(tests:Env->aF RV)(elt:Env->aF RV)(bind:D->Env->Option Env):List D->List D->Env->aF (List D)
 |[],acc,ρ=>some (.ok acc,ρ)
 |d::ds,acc,ρ=>match bind d ρ with
  |none=>none
  |some ρ1=>(tests ρ1).bind λc ρ2=>match c with
   |.sh (.bl true)=>(elt ρ2).bind λv ρ3=>fQ tests elt bind ds (acc++[v.d]) ρ3
   |.sh (.bl false)=>fQ tests elt bind ds acc ρ2
   |_=>none
noncomputable def back:List Sl->Env->List Sl
 |.ow _ _ _::as,b::bs=>b::back as bs
 |a::as,_::bs=>a::back as bs
 |_,_=>[]
def jP:Sl->Bool
 |.ow _ p _=>p
 |.sh _=>true
 |_=>false
noncomputable def pK(tests:Env->aF RV)(elt:Env->aF RV)(bind:D->Env->Option Env)(ds:List D)(nl:Nat)(as:List Sl):aF RV :=
 if as.all jP=true then(fQ tests elt bind ds [] (as++List.replicate nl .un)).bind λacc ρi =>
  if aR acc.length then some (.ok (.ow (.lst acc)),back as ρi) else none
 else none
def kZ(o:Option Nat)(ρ1:Env)(v:RV)(ρ2:Env):aF RV:=(eM o ρ1 ρ2).map λρ'=>(.ok v,ρ')
structure Fn where
 pins:List Bool
 nl:Nat
 body:List S
 rs:Bool
abbrev aE:=String->List Bool
noncomputable def M8(k:Option L2.bB)(u:RV)(ρ:Env):aF RV :=
 match k with
 |some k=>some (.ok (.ow (.dcs [k] [u.d])),ρ)
 |none=>none
mutual
noncomputable def ev(P:aE)(C:Calls)(t:Bool):E->Env->aF RV
 |.bad,_=>none
 |.omt,_=>none
 |.var i,ρ=>match t with
  |true=>bH true (((ρ[i]?).bind Sl.get).map λd=>(.ok (.sh d),ρ))
  |false=>wX i ρ
 |.con d,ρ=>bH t (some (.ok (.sh d),ρ))
 |.tup es,ρ=>bH t ((iK P C es ρ).bind λds ρ'=>if aR ds.length then some (.ok (.sh (.tup ds)),ρ') else none)
 |.lst es,ρ=>bH t ((iK P C es ρ).bind λds ρ'=>if aR ds.length then some (.ok (.ow (.lst ds)),ρ') else none)
 |.bin op a b,ρ=>bH t ((hd a (ev P C false a ρ) ρ).bind λx ρ1=>(hd b (ev P C false b ρ1) ρ1).bind λy ρ2 =>
   done ((x.get ρ2).bind λd=>(y.get ρ2).bind λe=>if pF op x d then cI op d e else none) ρ2)
 |.neg a,ρ=>bH t ((ev P C false a ρ).bind λv ρ1=>match v.d with
  |.int i=>some (.ok (.sh (.int (-i))),ρ1)
  |_=>none)
 |.not a,ρ=>match t with
  |true=>(ev P C true a ρ).bind λv ρ1=>match v with
   |.sh (.bl b)=>some (.ok (.sh (.bl (!b))),ρ1)
   |_=>none
  |false=>(hd a (ev P C false a ρ) ρ).bind λx ρ1=>done ((x.get ρ1).bind λd=>(hW d).map λb=>.sh (.bl (!b))) ρ1
 |.cmp op a b,ρ=>(hd a (ev P C false a ρ) ρ).bind λx ρ1=>(hd b (ev P C false b ρ1) ρ1).bind λy ρ2 =>
   done ((x.get ρ2).bind λd=>(y.get ρ2).bind λe=>(cQ op d e).map λb=>.sh (.bl b)) ρ2
 |.cmp2 op op' a b c,ρ=>(hd a (ev P C false a ρ) ρ).bind λx ρ1=>(hd b (ev P C false b ρ1) ρ1).bind λy ρ2 =>
   match (x.get ρ2).bind λd=>(y.get ρ2).bind λe=>cQ op d e with
   |none=>none
   |some false=>some (.ok (.sh (.bl false)),ρ2)
   |some true=>(hd c (ev P C false c ρ2) ρ2).bind λz ρ3 =>
    done ((y.get ρ3).bind λd=>(z.get ρ3).bind λe=>(cQ op' d e).map λb=>.sh (.bl b)) ρ3
 |.and a b,ρ=>(ev P C t a ρ).bind λv ρ1=>match v with
  |.sh (.bl true)=>ev P C t b ρ1
  |.sh (.bl false)=>some (.ok (.sh (.bl false)),ρ1)
  |_=>none
 |.or a b,ρ=>(ev P C t a ρ).bind λv ρ1=>match v with
  |.sh (.bl true)=>some (.ok (.sh (.bl true)),ρ1)
  |.sh (.bl false)=>ev P C t b ρ1
  |_=>none
 |.ite c a b,ρ=>(ev P C true c ρ).bind λv ρ1=>match v with
  |.sh (.bl true)=>ev P C t a ρ1
  |.sh (.bl false)=>ev P C t b ρ1
  |_=>none
 |.ix a i,ρ=>bH t ((hd a (ev P C false a ρ) ρ).bind λx ρ1=>(ev P C false i ρ1).bind λk ρ2 =>
   done ((x.get ρ2).bind λd=>(NA d k.d).map .sh) ρ2)
 |.sl a lo hi,ρ=>bH t ((hd a (ev P C false a ρ) ρ).bind λx ρ1 =>
   (zF lo (ev P C false lo ρ1) ρ1).bind λl ρ2=>(zF hi (ev P C false hi ρ2) ρ2).bind λh ρ3 =>
   done ((x.get ρ3).bind λd=>(mJ l).bind λl=>(mJ h).bind λh=>R7 d l h) ρ3)
 |.rev a,ρ=>bH t ((hd a (ev P C false a ρ) ρ).bind λx ρ1=>done ((x.get ρ1).bind aGK) ρ1)
 |.call f es,ρ=>bH t ((cA P C es ρ).bind λhs ρ1=>cW (P f) (C f) hs ρ1)
 |.bif f es,ρ=>bH t ((cA P C es ρ).bind λhs ρ1=>done ((getAll hs ρ1).bind (lW f)) ρ1)
 |.isi a ts,ρ=>bH t ((hd a (ev P C false a ρ) ρ).bind λx ρ1 =>
   done ((x.get ρ1).bind λd=>(BN ts d).map λb=>.sh (.bl b)) ρ1)
 |.isX a sn,ρ=>bH t ((hd a (ev P C false a ρ) ρ).bind λx ρ1=>done ((x.get ρ1).bind (QE sn)) ρ1)
 |.isC a s n,ρ=>bH t ((hd a (ev P C false a ρ) ρ).bind λx ρ1=>done ((x.get ρ1).bind (aGj s n)) ρ1)
 |.app i a,ρ=>bH t (if kC ρ i then(ev P C false a ρ).bind λv ρ1=>match ρ1[i]? with
  |some (.ow (.lst ds) p false)=>if aR (ds.length+1) then some (.ok (.sh .non),ρ1.set i (.ow (.lst (ds++[v.d])) p false)) else none
  |_=>none
  else none)
 |.popi i k,ρ=>bH t (if kC ρ i then(ev P C false k ρ).bind λj ρ1=>match ρ1[i]?,j with
  |some (.ow (.lst ds) p false),.sh (.int n)=>@ite _ (0<=n/\n<=1000000) (cl _) ((ds[n.toNat]?).map λd=>(.ok (.sh d),ρ1.set i (.ow (.lst (ds.eraseIdx n.toNat)) p false))) none
  |_,_=>none
  else none)
 |.insr i k a,ρ=>bH t (if kC ρ i then(ev P C false k ρ).bind λj ρ1=>(ev P C false a ρ1).bind λv ρ2=>match ρ2[i]?,j with
  |some (.ow (.lst ds) p false),.sh (.int n)=>@ite _ ((0<=n/\n<=1000000)/\aR (ds.length+1)=true) (cl _) (some (.ok (.sh .non),ρ2.set i (.ow (.lst (ds.take n.toNat++v.d::ds.drop n.toNat)) p false))) none
  |_,_=>none
  else none)
 |.dict kvs,ρ=>bH t (some (.ok (.ow (.dct kvs)),ρ))
 |.dict1 a b,ρ=>bH t ((ev P C false a ρ).bind λv ρ1=>(ev P C false b ρ1).bind λu ρ2=>M8 (eP v.d) u ρ2)
 |.ext i a,ρ=>bH t (if kC ρ i then(ev P C false a ρ).bind λv ρ1=>match ρ1[i]?,v with
  |some (.ow (.lst ds) p false),.ow (.lst es)=>if aR (ds.length+es.length) then some (.ok (.sh .non),ρ1.set i (.ow (.lst (ds++es)) p false)) else none
  |_,_=>none
  else none)
 |.frz i,ρ=>bH t (wX i ρ)
 |.bitl a,ρ=>bH t ((hd a (ev P C false a ρ) ρ).bind λx ρ1=>done ((x.get ρ1).bind aGA) ρ1)
 |.mkset _,_=>none
 |.mkrng _,_=>none
 |.lrng es,ρ=>bH t ((cA P C es ρ).bind λhs ρ1=>done ((getAll hs ρ1).bind aDw) ρ1)
 |.joi s a,ρ=>bH t ((hd a (ev P C false a ρ) ρ).bind λx ρ1=>done ((x.get ρ1).bind (aEt s)) ρ1)
 |.spl i s,ρ=>bH t (aFU s ρ ρ[i]?)
 |.stw i s,ρ=>bH t (aFJ s ρ ρ[i]?)
 |.nset a,ρ=>bH t ((hd a (ev P C false a ρ) ρ).bind λx ρ1=>done ((x.get ρ1).bind aDE) ρ1)
 |.fld a f,ρ=>bH t ((hd a (ev P C false a ρ) ρ).bind λx ρ1=>done ((x.get ρ1).bind λd=>(PX d f).map .sh) ρ1)
 |.make c ns es,ρ=>bH t ((iK P C es ρ).bind λds ρ1=>if ds.length=ns.length then some (.ok (.sh (.ins c ns ds)),ρ1) else none)
 |.meth i m tb es,ρ=>bH t (match ρ[i]? with
  |some (.sh (.ins c ns ds))=>(match iJ c ns m tb with
   |some f=>(cA P C es ρ).bind λhs ρ1=>cW (P f) (C f) (.val (.sh (.ins c ns ds))::hs) ρ1
   |none=>none)
  |_=>none)
 |.methE a m tb es,ρ=>bH t ((ev P C false a ρ).bind λv ρ0=>match v with
  |.sh (.ins c ns ds)=>(match iJ c ns m tb with
   |some f=>(cA P C es ρ0).bind λhs ρ1=>cW (P f) (C f) (.val (.sh (.ins c ns ds))::hs) ρ1
   |none=>none)
  |_=>none)
 |.comp elt tg k its cond imp nl,ρ=>bH t ((cA P C its ρ).bind λhs ρ1 =>
   match aN k hs ρ1 with
   |none=>none
   |some (ds,o)=>(cW (imp.map λ_=>true) (pK (fB P C cond) (ev P C false elt) (bN (tg.length==1) tg) ds nl) (imp.map Hd.slot) (aQ o ρ1)).bind (kZ o ρ1))
noncomputable def iK(P:aE)(C:Calls):List E->Env->aF (List D)
 |[],ρ=>some (.ok [],ρ)
 |e::es,ρ=>(ev P C false e ρ).bind λv ρ1=>(iK P C es ρ1).bind λds ρ2=>some (.ok (v.d::ds),ρ2)
noncomputable def cA(P:aE)(C:Calls):List E->Env->aF (List Hd)
 |[],ρ=>some (.ok [],ρ)
 |e::es,ρ=>(hd e (ev P C false e ρ) ρ).bind λv ρ1=>(cA P C es ρ1).bind λds ρ2=>some (.ok (v::ds),ρ2)
noncomputable def fB(P:aE)(C:Calls):List E->Env->aF RV
 |[],ρ=>some (.ok (.sh (.bl true)),ρ)
 |e::es,ρ=>(ev P C true e ρ).bind λv ρ1=>match v with
  |.sh (.bl true)=>fB P C es ρ1
  |.sh (.bl false)=>some (.ok (.sh (.bl false)),ρ1)
  |_=>none
end
mutual
noncomputable def rD(P:aE)(C:Calls):E->Env->Option (Exc×Env)
 |.call f es,ρ=>match cA P C es ρ with
  |some (.ok hs,ρ1)=>match cW (P f) (C f) hs ρ1 with
   |some (.ex x,ρ')=>some (x,ρ')
   |_=>none
  |_=>o6 P C es ρ
 |_,_=>none
noncomputable def o6(P:aE)(C:Calls):List E->Env->Option (Exc×Env)
 |[],_=>none
 |e::es,ρ=>match hd e (ev P C false e ρ) ρ with
  |some (.ok _,ρ1)=>o6 P C es ρ1
  |_=>rD P C e ρ
end
inductive Fl where
 |nx | bk | ct | rt (v:RV) | ex (e:Exc)
abbrev bI:=Option (Fl×Env)
noncomputable def aF.flow{α:Type}(r:aF α)(f:α->Env->bI):bI :=
 match r with
 |none=>none
 |some (.ex e,ρ)=>some (.ex e,ρ)
 |some (.ok a,ρ)=>f a ρ
def bI.next(r:bI)(f:Env->bI):bI :=
 match r with
 |some (.nx,ρ)=>f ρ
 |r=>r
noncomputable def bI.restore(r:bI)(o:Option Nat)(ρ0:Env):bI :=
 match r with
 |none=>none
 |some (fl,ρ)=>(eM o ρ0 ρ).map λρ'=>(fl,ρ')
def jH(o:Option Env):bI:=o.map λρ=>(.nx,ρ)
noncomputable def dD(bind:D->Env->Option Env)(body:Env->bI):List D->Env->bI
 |[],ρ=>some (.nx,ρ)
 |d::ds,ρ=>match bind d ρ with
  |none=>none
  |some ρ1=>match body ρ1 with
   |some (.nx,ρ2)=>dD bind body ds ρ2
   |some (.ct,ρ2)=>dD bind body ds ρ2
   |some (.bk,ρ2)=>some (.nx,ρ2)
   |r=>r
noncomputable def iM(test:Env->aF RV)(body:Env->bI):Nat->Env->bI
 | 0,_=>none
 |n+1,ρ=>(test ρ).flow λv ρ1=>match v with
  |.sh (.bl true)=>match body ρ1 with
   |some (.nx,ρ2)=>iM test body n ρ2
   |some (.ct,ρ2)=>iM test body n ρ2
   |some (.bk,ρ2)=>some (.nx,ρ2)
   |r=>r
  |.sh (.bl false)=>some (.nx,ρ1)
  |_=>none
noncomputable def iB(test:Env->aF RV)(body:Env->bI)(bx:Env->Option (Exc×Env)):Nat->Env->Option (Exc×Env)
 | 0,_=>none
 |n+1,ρ=>match test ρ with
  |some (.ok (.sh (.bl true)),ρ1)=>(match body ρ1 with
   |some (.nx,ρ2)=>iB test body bx n ρ2
   |some (.ct,ρ2)=>iB test body bx n ρ2
   |_=>bx ρ1)
  |_=>none
noncomputable def aGP(i:Nat)(o:Option Sl)(r:aF RV):bI :=
 match o,r with
 |some (.sh (.int a)),some (.ok (.sh (.int b)),ρ1)=>jH (store i (.sh (.int (a+b))) ρ1)
 |_,_=>none
noncomputable def EF(i:Nat)(ρ:Env)(o:Option Sl)(k:Option L2.bB)(v:RV):bI :=
 match o,k with
 |some (.ow (.dcs ks ds) p false),some k=>if aR (ks.length+1) then some (.nx,ρ.set i (.ow (.dcs (oY ks k) (pB ks ds k v.d)) p false)) else none
 |_,_=>none
noncomputable def RK(r:aF RV):aF RV :=
 match r with
 |some (.ok (.ow (.lst ds)),ρ)=>if ds.length<=1000 then some (.ok (.ow (.lst ds)),ρ) else none
 |_=>none
noncomputable def evG(P:aE)(C:Calls)(elt:Env->aF RV)(tg:List Nat)(k:ItK)(its cond:List E)(imp:List Nat)(nl:Nat)(ρ:Env):aF RV :=
 (cA P C its ρ).bind λhs ρ1 =>
   match aN k hs ρ1 with
   |none=>none
   |some (ds,o)=>(cW (imp.map λ_=>true) (pK (fB P C cond) elt (bN (tg.length==1) tg) ds nl) (imp.map Hd.slot) (aQ o ρ1)).bind (kZ o ρ1)
noncomputable def evD(P:aE)(C:Calls)(elt:E)(tg:List Nat)(k:ItK)(its:List E)(imp:List Nat)(nl:Nat)(ρ:Env):aF RV :=
 evG P C (λρ=>RK (ev P C false elt ρ)) tg k its [] imp nl ρ
def aDz(r:aF RV):bI :=
 match r with
 |some (.ok (.ow d),ρ1)=>some (.rt (.od d),ρ1)
 |_=>none
def aGx(ρ:Env):Bool:=ρ.all λs=>match s with | .ow _ _ _=>false | _=>true
def fz1(n:Nat)(ρ:Env):Env :=
 match ρ[n]? with
 |some (.ow d false false)=>ρ.set n (.sh d)
 |_=>ρ
def frz:Nat->Env->Env
 | 0,ρ=>ρ
 |n+1,ρ=>fz1 n (frz n ρ)
noncomputable def aFT(i j:Nat)(ρ:Env)(e c:Env->aF RV):bI :=
 match e (frz ρ.length ρ) with
 |some (.ok (.od (.lst ds)),ρ1)=>@ite _ (ρ1=frz ρ.length ρ/\aGx ρ1=true/\ds.length<=1000/\i<ρ1.length/\j<ρ1.length/\c (ρ1.set i (.sh (.lst ds)))=some (.ok (.sh (.bl false)),ρ1.set i (.sh (.lst ds)))) (cl _) (some (.nx,(ρ1.set i .mv).set j .mv)) none
 |_=>none
noncomputable def o4(cs:List Str)(i:Nat)(o:Option (Exc×Env)):Option Env :=
 match o with
 |none=>none
 |some (x,ρ1)=>if cs.contains x.cls then store i (.sh (.exn x.cls)) ρ1 else none
noncomputable def vJ(i:Nat)(r:bI):bI :=
 match r with
 |some (.nx,ρ)=>(match ρ[i]? with | some (.sh _)=>some (.nx,ρ.set i .mv) | _=>none)
 |_=>none
noncomputable def YZ(cs:List Str)(i j:Nat)(o:Option (Exc×Env)):bI :=
 match o with
 |none=>none
 |some (x,ρ1)=>if cs.contains x.cls/\i≠j then(store i (.sh (.exn x.cls)) ρ1).bind λρ2=>(store j (.sh (.exn x.cls)) ρ2).map λρ3=>(.nx,ρ3.set i .mv) else none
noncomputable def X3(cs:List Str)(o:Option (Exc×Env)):bI :=
 match o with
 |none=>none
 |some (x,ρ1)=>if cs.contains x.cls then some (.rt (.sh .non),ρ1) else none
mutual
noncomputable def ex(P:aE)(C:Calls)(W:Nat):S->Env->bI
 |.bad,_=>none
 |.pass,ρ=>some (.nx,ρ)
 |.brk,ρ=>some (.bk,ρ)
 |.cnt,ρ=>some (.ct,ρ)
 |.asg i e,ρ=>(ev P C false e ρ).flow λv ρ1=>jH (store i v ρ1)
 |.asgT is e,ρ=>(ev P C false e ρ).flow λv ρ1=>jH (bN false is v.d ρ1)
 |.set i k e,ρ=>(ev P C false e ρ).flow λv ρ1=>if kC ρ1 i then(ev P C false k ρ1).flow λj ρ2=>match ρ2[i]?,j.d with
  |some (.ow (.lst ds) p false),.int n=>jH ((L2.kD ds.length n).map λm=>ρ2.set i (.ow (.lst (ds.set m v.d)) p false))
  |_,_=>none
  else if yJ ρ1 i then(ev P C false k ρ1).flow λj ρ2=>EF i ρ2 ρ2[i]? (eP j.d) v
  else none
 |.expr e,ρ=>(ev P C false e ρ).flow λ_ ρ1=>some (.nx,ρ1)
 |.ret e,ρ=>match e with
  |.var i=>match ρ[i]? with
   |some (.ow d false _)=>some (.rt (.ow d),ρ.set i .mv)
   |some (.sh d)=>some (.rt (.sh d),ρ)
   |_=>none
  |e=>(ev P C false e ρ).flow λv ρ1=>some (.rt v,ρ1)
 |.retN,ρ=>some (.rt (.sh .non),ρ)
 |.ifs c a b,ρ=>(ev P C true c ρ).flow λv ρ1=>match v with
  |.sh (.bl true)=>exs P C W a ρ1
  |.sh (.bl false)=>exs P C W b ρ1
  |_=>none
 |.for tg one k its body,ρ=>(cA P C its ρ).flow λhs ρ1 =>
  match aN k hs ρ1 with
  |none=>none
  |some (ds,o)=>(dD (bN one tg) (exs P C W body) ds (aQ o ρ1)).restore o ρ1
 |.whl c body,ρ=>iM (ev P C true c) (exs P C W body) W ρ
 |.rse _ _,_=>none
 |.aug i e,ρ=>aGP i ρ[i]? (ev P C false e ρ)
 |.retD elt tg k its imp nl,ρ=>aDz (evD P C elt tg k its imp nl ρ)
 |.scr i j e c,ρ=>aFT i j ρ (ev P C false e) (ev P C true c)
 |.tryA body cs i j,ρ=>match exs P C W body ρ with
  |some (.nx,ρ1)=>some (.nx,ρ1)
  |_=>YZ cs i j (dO P C W body ρ)
 |.tryB body cs i ss,ρ=>match exs P C W body ρ with
  |some (.nx,ρ1)=>some (.nx,ρ1)
  |_=>match o4 cs i (dO P C W body ρ) with
   |some ρ2=>vJ i (exs P C W ss ρ2)
   |none=>none
 |.tryN body cs,ρ=>match exs P C W body ρ with
  |some (.nx,ρ1)=>some (.nx,ρ1)
  |some (.rt v,ρ1)=>some (.rt v,ρ1)
  |_=>X3 cs (dO P C W body ρ)
 |.tryO body,ρ=>exs P C W body ρ
noncomputable def exs(P:aE)(C:Calls)(W:Nat):List S->Env->bI
 |[],ρ=>some (.nx,ρ)
 |s::r,ρ=>(ex P C W s ρ).next (exs P C W r)
noncomputable def fY(P:aE)(C:Calls)(W:Nat):S->Env->Option (Exc×Env)
 |.asg _ e,ρ=>rD P C e ρ
 |.expr e,ρ=>rD P C e ρ
 |.ret e,ρ=>rD P C e ρ
 |.rse c es,ρ=>match iK P C es ρ with
  |some (.ok _,ρ1)=>some (⟨c⟩,ρ1)
  |_=>none
 |.ifs c a b,ρ=>match ev P C true c ρ with
  |some (.ok (.sh (.bl true)),ρ1)=>dO P C W a ρ1
  |some (.ok (.sh (.bl false)),ρ1)=>dO P C W b ρ1
  |_=>none
 |.whl c body,ρ=>iB (ev P C true c) (exs P C W body) (dO P C W body) W ρ
 |_,_=>none
noncomputable def dO(P:aE)(C:Calls)(W:Nat):List S->Env->Option (Exc×Env)
 |[],_=>none
 |s::r,ρ=>match ex P C W s ρ with
  |some (.nx,ρ1)=>dO P C W r ρ1
  |_=>fY P C W s ρ
end
abbrev fG:=String->Option Fn
def fG.pins(T:fG):aE:=λf=>match T f with
 |some fn=>fn.pins
 |none=>[]
noncomputable def run(T:fG)(W:Nat):Nat->Calls
 | 0=>λ_ _=>none
 |n+1=>λf as=>match T f with
  |none=>none
  |some fn=>if as.length=fn.pins.length/\as.all jP=true then
    match exs T.pins (run T W n) W fn.body (as++List.replicate fn.nl .un) with
    |some (.nx,ρ)=>some (.ok (.sh .non),back as ρ)
    |some (.rt v,ρ)=>some (.ok v,back as ρ)
    |_=>if fn.rs then match dO T.pins (run T W n) W fn.body (as++List.replicate fn.nl .un) with
     |some (x,ρ)=>some (.ex x,back as ρ)
     |none=>none
     else none
   else none
end
end CI
namespace CI
open PySem PySem.Spec PyProof.Rows L2
abbrev St:=L2.St
structure ClsF(K:Frag)(C:Addr)(ns:List Str):Prop where
 cl:Cls K C
 no:∀f∈ns,jW K C f
def GY(K:Frag)(G:Hp)(a:Addr)(ks:List bB)(vs:List V)(xs:oB):Prop:=(xs.map (·.1)).Nodup/\xs.length<=sizeLine/\(a==sysModules)=false/\(∀x∈xs,cC K G x.1 x.2.1)/\xs.map (·.1)=ks/\aL vs (xs.map (·.2.2))
mutual
def aC(K:Frag)(G:Hp):D->V->Prop
 |.non,v=>v=.non
 |.bl b,v=>v=.bl b
 |.int i,v=>v=.int i
 |.str x,v=>v=.str x/\PyData.strOk x=true
 |.tup ds,v=>∃a vs,v=.ref a/\cN K G a vs/\aB K G ds vs
 |.lst ds,v=>∃a vs,v=.ref a/\bY K G a vs/\aB K G ds vs
 |.ins c ns ds,v=>∃a C dx vs,v=.ref a/\nsIn K mainGlobals c=some (some (.ref C))/\G a=some (.ins C dx (ns.zip vs))/\aB K G ds vs/\ClsF K C ns/\ns.length=vs.length
 |.dct kvs,v=>False
 |.exn c,v=>∃a C,v=.ref a/\nsIn K mainGlobals c=some (some (.ref C))/\ExcG K C/\G a=some (.ext (fI a C))
 |.dcs ks ds,v=>∃a xs vs,v=.ref a/\G a=some (.ext (dY a xs))/\GY K G a ks vs xs/\aB K G ds vs
def aB(K:Frag)(G:Hp):List D->List V->Prop
 |[],vs=>vs=[]
 |d::ds,vs=>∃v r,vs=v::r/\aC K G d v/\aB K G ds r
end
theorem cY{K:Frag}{G G':Hp}(s:aK G G'){a:Addr}{vs:List V}(h:cN K G a vs):cN K G' a vs:=by
 rcases h with (h | ⟨o,h⟩) | h
 ·exact .inl (.inl (s _ _ h))
 ·exact .inl (.inr ⟨o,s _ _ h⟩)
 ·exact .inr h
theorem jE.mono{K:Frag}{G G':Hp}(s:aK G G'){k:cG}{b:Addr}(h:jE K G k b):jE K G' k b:=let ⟨c,h1,h2⟩:=h;⟨c,cY s h1,cY s h2⟩
theorem cC.mono{K:Frag}{G G':Hp}(s:aK G G'):∀{k:bB} {b:Addr},cC K G k b->cC K G' k b
 |.inl _,_,h=>jE.mono s h
 |.inr _,_,h=>let ⟨c,d,h1,h2,h3⟩:=h;⟨c,d,cY s h1,jE.mono s h2,jE.mono s h3⟩
theorem GY.mono{K:Frag}{G G':Hp}(s:aK G G'){a:Addr}{ks:List bB}{vs:List V}{xs:oB}(h:GY K G a ks vs xs):GY K G' a ks vs xs:=⟨h.1,h.2.1,h.2.2.1,λx hx=>cC.mono s (h.2.2.2.1 x hx),h.2.2.2.2⟩
mutual
theorem aC.mono{K:Frag}{G G':Hp}(s:aK G G'):∀(d:D) {v:V},aC K G d v->aC K G' d v
 |.non,_,h=>by simpa[aC] using h
 |.bl _,_,h=>by simpa[aC] using h
 |.int _,_,h=>by simpa[aC] using h
 |.str _,_,h=>by simpa[aC] using h
 |.tup ds,_,h=>by
  simp only[aC] at h ⊢;obtain⟨a,vs,e,h1,h2⟩:=h;exact⟨a,vs,e,cY s h1,aB.mono s ds h2⟩
 |.lst ds,_,h=>by
  simp only[aC] at h ⊢;obtain⟨a,vs,e,h1,h2⟩:=h;exact⟨a,vs,e,s.seq h1,aB.mono s ds h2⟩
 |.ins c ns ds,_,h=>by
  simp only[aC] at h ⊢;obtain⟨a,C,dx,vs,e,h1,h2,h3,h4,h5⟩:=h;exact⟨a,C,dx,vs,e,h1,s _ _ h2,aB.mono s ds h3,h4,h5⟩
 |.dct kvs,_,h=>by simp only[aC] at h
 |.exn c,_,h=>by
  simp only[aC] at h ⊢;obtain⟨a,C,e,h1,h2,h3⟩:=h;exact⟨a,C,e,h1,h2,s _ _ h3⟩
 |.dcs ks ds,_,h=>by(simp only[aC] at h ⊢;obtain⟨a,xs,vs,e,h1,h2,h3⟩:=h;exact⟨a,xs,vs,e,s _ _ h1,h2.mono s,aB.mono s ds h3⟩)
theorem aB.mono{K:Frag}{G G':Hp}(s:aK G G'):∀(ds:List D) {vs:List V},aB K G ds vs->aB K G' ds vs
 |[],_,h=>by simpa[aB] using h
 |d::ds,_,h=>by(simp only[aB] at h ⊢;obtain⟨v,r,e,h1,h2⟩:=h;exact⟨v,r,e,aC.mono s d h1,aB.mono s ds h2⟩)
end
theorem aB.len{K:Frag}{G:Hp}:∀{ds:List D} {vs:List V},aB K G ds vs->vs.length=ds.length
 |[],_,h=>by simp only[aB] at h;subst h;rfl
 |d::ds,_,h=>by(simp only[aB] at h;obtain⟨v,r,rfl,_,h2⟩:=h;simp[aB.len h2])
theorem aB.nil{K:Frag}{G:Hp}:aB K G [] []:=by simp[aB]
theorem aB.cons{K:Frag}{G:Hp}{d:D}{ds:List D}{v:V}{vs:List V}(h:aC K G d v)(t:aB K G ds vs):aB K G (d::ds) (v::vs):=by
 simp only[aB];exact⟨v,vs,rfl,h,t⟩
theorem aB.app{K:Frag}{G:Hp}:∀{ds es:List D} {vs ws:List V},aB K G ds vs->aB K G es ws->aB K G (ds++es) (vs++ws)
 |[],_,_,_,h,h'=>by simp only[aB] at h;subst h;exact h'
 |d::ds,_,_,_,h,h'=>by(simp only[aB] at h;obtain⟨v,r,rfl,h1,h2⟩:=h;exact aB.cons h1 (aB.app h2 h'))
theorem aB.rev{K:Frag}{G:Hp}:∀{ds:List D} {vs:List V},aB K G ds vs->aB K G ds.reverse vs.reverse
 |[],vs,h=>by
  cases (show vs=[] from h);exact(show aB K G [] [] from rfl)
 |d::ds,vs,h=>by
  obtain⟨v,r,rfl,h1,h2⟩:=(show ∃v r,vs=v::r/\aC K G d v/\aB K G ds r from h)
  rw[List.reverse_cons,List.reverse_cons];exact h2.rev.app (show aB K G [d] [v] from⟨v,[],rfl,h1,rfl⟩)
theorem aB.get{K:Frag}{G:Hp}:∀{ds:List D} {vs:List V} {i:Nat} {d:D},aB K G ds vs->ds[i]?=some d->∃v,vs[i]?=some v/\aC K G d v
 |[],_,_,_,_,e=>by simp at e
 |d::ds,_,0,_,h,e=>by
  simp only[aB] at h;obtain⟨v,r,rfl,h1,h2⟩:=h;simp at e;subst e;exact⟨v,rfl,h1⟩
 |d::ds,_,i+1,_,h,e=>by
  simp only[aB] at h;obtain⟨v,r,rfl,h1,h2⟩:=h
  have:=aB.get (i:=i) h2 (by simpa using e)
  simpa using this
theorem aB.set{K:Frag}{G:Hp}{d:D}{v:V}(hv:aC K G d v):∀{ds:List D} {vs:List V} (i:Nat),aB K G ds vs->aB K G (ds.set i d) (vs.set i v)
 |[],_,_,h=>by simp only[aB] at h;subst h;simp[aB]
 |e::ds,_,0,h=>by
  simp only[aB] at h;obtain⟨u,r,rfl,h1,h2⟩:=h;exact aB.cons hv h2
 |e::ds,_,i+1,h=>by(simp only[aB] at h;obtain⟨u,r,rfl,h1,h2⟩:=h;exact aB.cons h1 (aB.set hv i h2))
theorem aB.take{K:Frag}{G:Hp}:∀{ds:List D} {vs:List V} (n:Nat),aB K G ds vs->aB K G (ds.take n) (vs.take n)
 |_,_,0,_=>by simp[aB]
 |[],_,_+1,h=>by simp only[aB] at h;subst h;simp[aB]
 |e::ds,_,n+1,h=>by(simp only[aB] at h;obtain⟨u,r,rfl,h1,h2⟩:=h;exact aB.cons h1 (aB.take n h2))
theorem aB.drop{K:Frag}{G:Hp}:∀{ds:List D} {vs:List V} (n:Nat),aB K G ds vs->aB K G (ds.drop n) (vs.drop n)
 |_,_,0,h=>h
 |[],_,_+1,h=>by simp only[aB] at h;subst h;simp[aB]
 |e::ds,_,n+1,h=>by(simp only[aB] at h;obtain⟨u,r,rfl,h1,h2⟩:=h;exact aB.drop n h2)
theorem aB.rep{K:Frag}{G:Hp}{ds:List D}{vs:List V}(h:aB K G ds vs):∀n,aB K G (List.replicate n ds).flatten (List.replicate n vs).flatten
 | 0=>aB.nil
 |n+1=>by(rw[List.replicate_succ,List.replicate_succ,List.flatten_cons,List.flatten_cons];exact aB.app h (aB.rep h n))
def fW(K:Frag)(H G:Hp)(a:Addr):D->Prop
 |.lst ds=>∃vs,H a=some (.lst vs)/\aB K G ds vs
 |.dcs ks ds=>∃xs vs,H a=some (.ext (dY a xs))/\GY K G a ks vs xs/\aB K G ds vs
 |_=>False
def aI(ρ:Env)(σ:St)(a:Addr):Prop:=∃(i:Nat) (d:D) (p l:Bool),ρ[i]?=some (.ow d p l)/\σ[i]?=some (some (.ref a))
structure Rel(K:Frag)(ρ:Env)(σ:St)(H G:Hp):Prop where
 len:ρ.length=σ.length
 sub:aK G H
 sh:∀(i:Nat) (d:D),ρ[i]?=some (.sh d)->∃v,σ[i]?=some (some v)/\aC K G d v
 ow:∀(i:Nat) (d:D) (p l:Bool),ρ[i]?=some (.ow d p l)->∃a,σ[i]?=some (some (.ref a))/\G a=none/\fW K H G a d
 inj:∀(i j:Nat) (d:D) (p l:Bool) (d':D) (p' l':Bool) (a:Addr),ρ[i]?=some (.ow d p l)->ρ[j]?=some (.ow d' p' l')->σ[i]?=some (some (.ref a))->σ[j]?=some (some (.ref a))->i=j
structure Ext(own:Addr->Prop)(H G H' G':Hp):Prop where
 gg:aK G G'
 hh:∀a o,H a=some o->¬own a->H' a=some o
 hx:∀a,H' a=none->H a=none
 gn:∀a,H a≠none->G a=none->¬own a->G' a=none
theorem Ext.refl{own:Addr->Prop}{H G:Hp}:Ext own H G H G:=⟨aK.refl _,λ_ _ h _=>h,λ_ h=>h,λ_ _ h _=>h⟩
theorem Ext.trans{own own1:Addr->Prop}{H G H1 G1 H2 G2:Hp}(a:Ext own H G H1 G1)(w:∀x,own1 x->own x\/H x=none)(b:Ext own1 H1 G1 H2 G2):Ext own H G H2 G2:=by
 refine⟨a.gg.trans b.gg,λx o h n=>?_,λx h=>a.hx x (b.hx x h),λx h g n=>?_⟩
 ·refine b.hh x o (a.hh x o h n) λz=>?_
  rcases w x z with z | z
  ·exact n z
  ·rw[h] at z;cases z
 ·have h1:H1 x≠none:=λz=>h (a.hx x z)
  refine b.gn x h1 (a.gn x h g n) λz=>?_
  rcases w x z with z | z
  ·exact n z
  ·exact h z
theorem Ext.weaken{own own':Addr->Prop}{H G H1 G1:Hp}(a:Ext own H G H1 G1)(w:∀x,own x->own' x):Ext own' H G H1 G1 :=
 ⟨a.gg,λx o h n=>a.hh x o h λz=>n (w x z),a.hx,λx h g n=>a.gn x h g λz=>n (w x z)⟩
def kL(H:Hp)(own new:Addr->Prop)(vs:List V):Prop:=∀x∈vs,∃b ws,x=.ref b/\H b=some (.lst ws)/\ws.length<=1000/\¬own b/\new b
def Rows(H:Hp)(own new:Addr->Prop)(a:Addr):Prop:=∃vs,H a=some (.lst vs)/\kL H own (λb=>new b/\b≠a) vs
theorem kL.step{H H':Hp}{own own' new:Addr->Prop}{vs:List V}(h:kL H own new vs)(e:∀b o,H b=some o->¬own b->H' b=some o)(w:∀b,own' b->own b\/H b=none):kL H' own' new vs:=λx hx=>by
 obtain⟨b,ws,h1,h2,h3,h4,h5⟩:=h x hx;refine⟨b,ws,h1,e b _ h2 h4,h3,λz=>?_,h5⟩;rcases w b z with z | z
 ·exact h4 z
 ·rw[h2] at z;cases z
theorem kL.new{H:Hp}{own new new':Addr->Prop}{vs:List V}(h:kL H own new vs)(w:∀b,new b->new' b):kL H own new' vs:=λx hx=>let ⟨b,ws,h1,h2,h3,h4,h5⟩:=h x hx;⟨b,ws,h1,h2,h3,h4,w b h5⟩
def cH(K:Frag)(H G:Hp)(own:Addr->Prop)(new:Addr->Prop):RV->V->Prop
 |.sh d,v=>aC K G d v
 |.ow d,v=>∃a,v=.ref a/\G a=none/\fW K H G a d/\¬own a/\new a
 |.od d,v=>∃a,v=.ref a/\G a=none/\fW K H G a d/\¬own a/\new a/\Rows H own new a
def bX(K:Frag)(H G:Hp)(d:D)(v:V):Prop:=aC K G d v\/∃a,v=.ref a/\fW K H G a d
def gE(K:Frag)(H G:Hp)(own:Addr->Prop)(new:Addr->Prop)(σ:St):Hd->V->Prop
 |.slot i,v=>σ[i]?=some (some v)
 |.val (.od _),_=>False
 |.val r,v=>cH K H G own new r v
section
variable{K:Frag}{ρ:Env}{σ:St}{H G H' G':Hp}{own own' new new':Addr->Prop}
theorem fW.mono{a:Addr}{d:D}(h:fW K H G a d)(s:aK G G')(e:∀o,H a=some o->H' a=some o):fW K H' G' a d:=by
 cases d with
 |lst ds =>
  obtain⟨vs,h1,h2⟩:=h;exact⟨vs,e _ h1,aB.mono s _ h2⟩
 |dcs ks ds=>obtain⟨xs,vs,h1,h2,h3⟩:=h;exact⟨xs,vs,e _ h1,h2.mono s,aB.mono s ds h3⟩
 |_=>exact h
theorem fW.put{a:Addr}{d:D}(h:fW K H G a d):∃o,H a=some o/\∀G',aK G G'->G' a=some o->aC K G' d (.ref a):=by
 cases d with
 |lst ds =>
  obtain⟨vs,h1,h2⟩:=h;exact⟨_,h1,λG' s e=>by simp only[aC];exact⟨a,vs,rfl,bY.of e,aB.mono s ds h2⟩⟩
 |dcs ks ds=>obtain⟨xs,vs,h1,h2,h3⟩:=h;exact⟨_,h1,λG' s e=>by simp only[aC];exact⟨a,xs,vs,rfl,e,h2.mono s,aB.mono s ds h3⟩⟩
 |_=>exact h.elim
theorem fW.there{a:Addr}{d:D}(h:fW K H G a d):∃o,H a=some o:=let ⟨o,h,_⟩:=h.put;⟨o,h⟩
theorem Rel.owned(r:Rel K ρ σ H G){a:Addr}(o:aI ρ σ a):H a≠none/\G a=none:=by
 obtain⟨i,d,p,l,h1,h2⟩:=o;obtain⟨b,e,g,h⟩:=r.ow i d p l h1;rw[h2] at e;cases e;obtain⟨vs,h⟩:=h.there;exact⟨by rw[h];simp,g⟩
theorem cH.wait{v:RV}{x:V}(h:cH K H G own new v x)(e:Ext own H G H' G')(w:∀a,own' a->own a\/H a=none):cH K H' G' own' new v x:=by
 cases v with
 |sh d=>exact aC.mono e.gg d h
 |ow d =>
  obtain⟨a,rfl,g,o,n,m⟩:=h;obtain⟨vs,hv⟩:=o.there;have ne:H a≠none:=by rw[hv];simp
  refine⟨a,rfl,e.gn a ne g n,o.mono e.gg λo' h'=>e.hh a o' h' n,λz=>?_,m⟩;rcases w a z with z | z
  ·exact n z
  ·exact ne z
 |od d =>
  obtain⟨a,rfl,g,o,n,m,vs,hv,hr⟩:=h;have ne:H a≠none:=by rw[hv];simp
  refine⟨a,rfl,e.gn a ne g n,o.mono e.gg λo' h'=>e.hh a o' h' n,λz=>?_,m,vs,e.hh a _ hv n,hr.step e.hh w⟩;rcases w a z with z | z
  ·exact n z
  ·exact ne z
theorem gE.wait{v:Hd}{x:V}(h:gE K H G own new σ v x)(e:Ext own H G H' G')(w:∀a,own' a->own a\/H a=none):gE K H' G' own' new σ v x:=by
 cases v with
 |slot i=>exact h
 |val r=>cases r with
  |od d=>exact h.elim
  |sh d=>exact aC.mono e.gg d h
  |ow d=>exact cH.wait (new:=new) (v:=.ow d) h e w
theorem cH.new_mono{v:RV}{x:V}(h:cH K H G own new v x)(w:∀a,new a->new' a):cH K H G own new' v x:=by
 cases v with
 |sh d=>exact h
 |ow d =>
  obtain⟨a,rfl,g,o,n,m⟩:=h;exact⟨a,rfl,g,o,n,w a m⟩
 |od d =>
  obtain⟨a,rfl,g,o,n,m,vs,hv,hr⟩:=h;exact⟨a,rfl,g,o,n,w a m,vs,hv,hr.new λb z=>⟨w b z.1,z.2⟩⟩
theorem cH.low{v:RV}{x:V}(h:cH K H G own new v x):cH K H G own new v.low x:=by
 cases v with
 |sh d=>exact h
 |ow d=>exact h
 |od d =>
  obtain⟨a,rfl,g,o,n,m,_⟩:=h;exact⟨a,rfl,g,o,n,m⟩
theorem gE.of{v:RV}{x:V}(h:cH K H G own new v x):gE K H G own new σ (.val v.low) x:=by
 have:=h.low
 cases v<;>exact this
theorem gE.new_mono{v:Hd}{x:V}(h:gE K H G own new σ v x)(w:∀a,new a->new' a):gE K H G own new' σ v x:=by
 cases v with
 |slot i=>exact h
 |val r=>cases r with
  |od d=>exact h.elim
  |sh d=>exact h
  |ow d=>exact cH.new_mono (own:=own) (H:=H) (v:=.ow d) h w
theorem cH.readR{v:RV}{x:V}(h:cH K H G own new v x):bX K H G v.d x:=by
 cases v with
 |sh d=>exact .inl h
 |ow d =>
  obtain⟨a,rfl,g,o,n,m⟩:=h;exact .inr ⟨a,rfl,o⟩
 |od d =>
  obtain⟨a,rfl,g,o,n,m,_⟩:=h;exact .inr ⟨a,rfl,o⟩
theorem Rel.get(r:Rel K ρ σ H G){i:Nat}{d:D}{x:V}(h:(ρ[i]?).bind Sl.get=some d)(hx:σ[i]?=some (some x)):bX K H G d x:=by
 cases e:ρ[i]? with
 |none=>rw[e] at h;cases h
 |some sl =>
  rw[e] at h
  cases sl with
  |un=>cases h
  |mv=>cases h
  |sh d' =>
   cases h;obtain⟨v,h1,h2⟩:=r.sh i _ e;rw[hx] at h1;cases h1;exact .inl h2
  |ow d' p l =>
   cases h;obtain⟨a,h1,_,h2⟩:=r.ow i _ p l e;rw[hx] at h1;cases h1;exact .inr ⟨a,rfl,h2⟩
theorem gE.read{v:Hd}{x:V}{d:D}(h:gE K H G own new σ v x)(r:Rel K ρ σ H G)(e:v.get ρ=some d):bX K H G d x:=by
 cases v with
 |slot i=>exact r.get e h
 |val u =>
  simp only[Hd.get,Option.some.injEq] at e;subst e
  cases u with
  |od d=>exact h.elim
  |sh d=>exact .inl h
  |ow d=>exact cH.readR (own:=own) (new:=new) (v:=.ow d) h
theorem Rel.bound(r:Rel K ρ σ H G){i:Nat}(h:((ρ[i]?).bind Sl.get).isSome=true):∃v,σ[i]?=some (some v):=by
 cases e:ρ[i]? with
 |none=>rw[e] at h;cases h
 |some sl =>
  rw[e] at h
  cases sl with
  |un=>cases h
  |mv=>cases h
  |sh d' =>
   obtain⟨v,h1,h2⟩:=r.sh i _ e;exact⟨v,h1⟩
  |ow d' p l =>
   obtain⟨a,h1,_,h2⟩:=r.ow i _ p l e;exact⟨_,h1⟩
theorem bX.lst{ds:List D}{x:V}(s:aK G H)(h:bX K H G (.lst ds) x):∃a vs,x=.ref a/\bY K H a vs/\aB K G ds vs:=by
 rcases h with h | ⟨a,rfl,h⟩
 ·simp only[aC] at h;obtain⟨a,vs,e,h1,h2⟩:=h;exact⟨a,vs,e,s.seq h1,h2⟩
 ·obtain⟨vs,h1,h2⟩:=h;exact⟨a,vs,rfl,bY.of h1,h2⟩
theorem bX.tup{ds:List D}{x:V}(s:aK G H)(h:bX K H G (.tup ds) x):∃a vs,x=.ref a/\cN K H a vs/\aB K G ds vs:=by
 rcases h with h | ⟨a,rfl,h⟩
 ·simp only[aC] at h;obtain⟨a,vs,e,h1,h2⟩:=h;exact⟨a,vs,e,cY s h1,h2⟩
 ·exact h.elim
theorem bX.int{i:Int}{x:V}(h:bX K H G (.int i) x):x=.int i:=by
 rcases h with h | ⟨a,rfl,h⟩
 ·simpa[aC] using h
 ·exact h.elim
theorem bX.bl{i:Bool}{x:V}(h:bX K H G (.bl i) x):x=.bl i:=by
 rcases h with h | ⟨a,rfl,h⟩
 ·simpa[aC] using h
 ·exact h.elim
theorem bX.str{i:Str}{x:V}(h:bX K H G (.str i) x):x=.str i/\PyData.strOk i=true:=by
 rcases h with h | ⟨a,rfl,h⟩
 ·simpa[aC] using h
 ·exact h.elim
theorem bX.non{x:V}(h:bX K H G .non x):x=.non:=by
 rcases h with h | ⟨a,rfl,h⟩
 ·simpa[aC] using h
 ·exact h.elim
theorem r9{i:Bool}{x:V}(h:aC K G (.bl i) x):x=.bl i:=by simpa[aC] using h
theorem aK.laid{a:Addr}{o:HO}(h:H a=none):aK H (aP H a o):=λb u e=>by rw[aG (bO e h)];exact e
theorem Rel.layG(r:Rel K ρ σ H G){a:Addr}{o:HO}(h:H a=none):Rel K ρ σ (aP H a o) (aP G a o):=by
 have hg:G a=none:=aK.free r.sub h;refine⟨r.len,λb u e=>?_,λi d e=>?_,λi d p l e=>?_,r.inj⟩
 ·by_cases hb:b=a
  ·subst hb;rw[aY] at e ⊢;exact e
  ·rw[aG hb] at e ⊢;exact r.sub b u e
 ·obtain⟨v,h1,h2⟩:=r.sh i d e;exact⟨v,h1,aC.mono (aK.laid hg) d h2⟩
 ·obtain⟨b,h1,h2,h3⟩:=r.ow i d p l e;obtain⟨vs,hv⟩:=h3.there;have hb:b≠a:=bO hv h;refine⟨b,h1,by rw[aG hb];exact h2,h3.mono (aK.laid hg) λo' h'=>by rw[aG hb];exact h'⟩
theorem Ext.layG{a:Addr}{o:HO}(s:aK G H)(h:H a=none):Ext own H G (aP H a o) (aP G a o):=by
 have hg:G a=none:=aK.free s h;refine⟨aK.laid hg,λb u e _=>aK.laid h b u e,λb e=>?_,λb e g _=>?_⟩
 ·by_cases hb:b=a
  ·subst hb;exact h
  ·rwa[aG hb] at e
 ·by_cases hb:b=a
  ·subst hb;exact absurd h e
  ·rw[aG hb];exact g
theorem Rel.layH(r:Rel K ρ σ H G){a:Addr}{o:HO}(h:H a=none):Rel K ρ σ (aP H a o) G:=by
 refine⟨r.len,r.sub.trans (aK.laid h),r.sh,λi d p l e=>?_,r.inj⟩;obtain⟨b,h1,h2,h3⟩:=r.ow i d p l e;obtain⟨vs,hv⟩:=h3.there;have hb:b≠a:=bO hv h;exact⟨b,h1,h2,h3.mono (aK.refl _) λo' h'=>by rw[aG hb];exact h'⟩
theorem Ext.layH{a:Addr}{o:HO}(h:H a=none):Ext own H G (aP H a o) G:=by
 refine⟨aK.refl _,λb u e _=>aK.laid h b u e,λb e=>?_,λb e g _=>g⟩;by_cases hb:b=a
 ·subst hb;exact h
 ·rwa[aG hb] at e
theorem Rel.notOwn(r:Rel K ρ σ H G){a:Addr}(h:H a=none):¬aI ρ σ a:=λo=>(r.owned o).1 h
theorem aK.put{a:Addr}{o:HO}(h:G a=none):aK G (aP G a o):=aK.laid h
theorem cH.share{v:RV}{x:V}(h:cH K H G (aI ρ σ) new v x)(r:Rel K ρ σ H G)(hn:∀a,new a->own a\/new' a) :
  ∃G',Rel K ρ σ H G'/\aK G G'/\(∀a,G' a≠none->G a≠none\/new a)/\aC K G' v.d x:=by
 have main:∀d,cH K H G (aI ρ σ) new (.ow d) x->∃G',Rel K ρ σ H G'/\aK G G'/\(∀a,G' a≠none->G a≠none\/new a)/\aC K G' d x:=by
  intro d h;obtain⟨a,rfl,g,o,n,m⟩:=h;obtain⟨ob,hv,hr⟩:=o.put;refine⟨aP G a ob,⟨r.len,λb u e=>?_,λi d e=>?_,λi d p l e=>?_,r.inj⟩,aK.put g,λb z=>?_, ?_⟩
  ·by_cases hb:b=a
   ·subst hb;rw[aY] at e;rw[hv];exact e
   ·rw[aG hb] at e;exact r.sub b u e
  ·obtain⟨v,h1,h2⟩:=r.sh i d e;exact⟨v,h1,aC.mono (aK.put g) d h2⟩
  ·obtain⟨b,h1,h2,h3⟩:=r.ow i d p l e;have hb:b≠a:=λz=>by subst z;exact n ⟨i,d,p,l,e,h1⟩
   exact⟨b,h1,by rw[aG hb];exact h2,h3.mono (aK.put g) λ_ z=>z⟩
  ·by_cases hb:b=a
   ·subst hb;exact .inr m
   ·rw[aG hb] at z;exact .inl z
  ·exact hr _ (aK.put g) aY
 cases v with
 |sh d=>exact⟨G,r,aK.refl _,λa z=>.inl z,h⟩
 |ow d=>exact main d h
 |od d=>exact main d h.low
end
def dS:Option Sl->Option Sl->Prop
 |some (.ow _ p l),some (.ow _ p' l')=>p=p'/\l=l'
 |some (.ow _ p _),some (.sh _)=>p=false
 |some .un,some .un=>True
 |some .mv,some .mv=>True
 |some (.sh _),some (.sh _)=>True
 |none,none=>True
 |_,_=>False
theorem dS.refl(a:Option Sl):dS a a:=by
 cases a with
 |none=>trivial
 |some s=>cases s<;>first | trivial | exact⟨rfl,rfl⟩
theorem dS.trans{a b c:Option Sl}(h:dS a b)(h':dS b c):dS a c:=by
 cases a with
 |none =>
  cases b with
  |none=>exact h'
  |some t=>cases t<;>exact h.elim
 |some s =>
  cases b with
  |none=>cases s<;>exact h.elim
  |some t =>
   cases c with
   |none=>cases t<;>exact h'.elim
   |some u=>cases s<;>cases t<;>first | exact h.elim | (cases u<;>first | exact h'.elim | trivial | exact⟨h.1.trans h'.1,h.2.trans h'.2⟩ | exact h.1.trans h' | exact h)
theorem dS.ow_of{a:Option Sl}{d:D}{p l:Bool}(h:dS a (some (.ow d p l))):∃d',a=some (.ow d' p l):=by
 cases a with
 |none=>exact h.elim
 |some s=>cases s<;>first | exact h.elim | (obtain⟨rfl,rfl⟩:=h;exact⟨_,rfl⟩)
def iC(ρ ρ':Env):Prop:=∀i:Nat,dS ρ[i]? ρ'[i]?
theorem iC.refl(ρ:Env):iC ρ ρ:=λ_=>dS.refl _
theorem iC.trans{a b c:Env}(h:iC a b)(h':iC b c):iC a c:=λi=>(h i).trans (h' i)
theorem iC.own{ρ ρ':Env}{σ:St}(h:iC ρ ρ')(a:Addr)(o:aI ρ' σ a):aI ρ σ a:=by
 obtain⟨i,d,p,l,h1,h2⟩:=o
 have:=h i
 rw[h1] at this;obtain⟨d',e⟩:=this.ow_of;exact⟨i,d',p,l,e,h2⟩
theorem iC.set{ρ:Env}{i:Nat}{s:Sl}(h:dS ρ[i]? (some s)):iC ρ (ρ.set i s):=λj=>by
 by_cases hij:j=i
 ·subst hij;by_cases hl:j<ρ.length
  ·rw[zk hl];exact h
  ·rw[List.getElem?_eq_none (by omega)] at h;cases s<;>exact h.elim
 ·rw[Zf (λz=>hij z.symm)];exact dS.refl _
structure Aft(K:Frag)(ρ:Env)(σ:St)(H G:Hp)(ρ':Env)(H' G':Hp):Prop where
 rel:Rel K ρ' σ H' G'
 ext:Ext (aI ρ σ) H G H' G'
 evo:iC ρ ρ'
section
variable{K:Frag}{ρ ρ' ρ1 ρ2:Env}{σ:St}{H G H' G' H1 G1 H2 G2:Hp}
theorem Aft.own(a:Aft K ρ σ H G ρ' H' G'):∀a,aI ρ' σ a->aI ρ σ a:=λx h=>a.evo.own x h
theorem Aft.refl(r:Rel K ρ σ H G):Aft K ρ σ H G ρ H G:=⟨r,Ext.refl,iC.refl _⟩
theorem Aft.trans(a:Aft K ρ σ H G ρ1 H1 G1)(b:Aft K ρ1 σ H1 G1 ρ2 H2 G2):Aft K ρ σ H G ρ2 H2 G2 :=
 ⟨b.rel,a.ext.trans (λx h=>.inl (a.own x h)) b.ext,a.evo.trans b.evo⟩
abbrev dC(H:Hp):Addr->Prop:=λa=>H a=none
theorem Aft.fresh(a:Aft K ρ σ H G ρ1 H1 G1){x:Addr}(h:H1 x=none):H x=none:=a.ext.hx x h
theorem Aft.shareS(a:Aft K ρ σ H G ρ' H' G'){v:RV}{x:V}(h:cH K H' G' (aI ρ' σ) (dC H) v x):∃G2,Aft K ρ σ H G ρ' H' G2/\aC K G2 v.d x/\aK G' G2:=by
 obtain⟨G2,r2,s2,n2,h2⟩:=h.share (own:=λ_=>False) (new':=dC H) a.rel (λ_ z=>.inr z);refine⟨G2,⟨r2,⟨a.ext.gg.trans s2,a.ext.hh,a.ext.hx,λb hb gb nb=>?_⟩,a.evo⟩,h2,s2⟩
 cases e:G2 b with
 |none=>rfl
 |some o =>
  rcases n2 b (by rw[e];simp) with z | z
  ·exact absurd (a.ext.gn b hb gb nb) z
  ·exact absurd z hb
theorem Aft.share(a:Aft K ρ σ H G ρ' H' G'){v:RV}{x:V}(h:cH K H' G' (aI ρ' σ) (dC H) v x):∃G2,Aft K ρ σ H G ρ' H' G2/\aC K G2 v.d x:=let ⟨G2,h1,h2,_⟩:=a.shareS h;⟨G2,h1,h2⟩
theorem Aft.layG(a:Aft K ρ σ H G ρ' H' G'){p:Addr}{o:HO}(h:H' p=none):Aft K ρ σ H G ρ' (aP H' p o) (aP G' p o) :=
 a.trans ⟨a.rel.layG h,Ext.layG a.rel.sub h,iC.refl _⟩
theorem Aft.layH(a:Aft K ρ σ H G ρ' H' G'){p:Addr}{o:HO}(h:H' p=none):Aft K ρ σ H G ρ' (aP H' p o) G' :=
 a.trans ⟨a.rel.layH h,Ext.layH h,iC.refl _⟩
theorem Aft.own_new(a:Aft K ρ σ H G ρ' H' G'){p:Addr}{ds:List D}{vs:List V}(h:H' p=none)(r:aB K G' ds vs) :
  Aft K ρ σ H G ρ' (aP H' p (.lst vs)) G'/\cH K (aP H' p (.lst vs)) G' (aI ρ' σ) (dC H) (.ow (.lst ds)) (.ref p) :=
 ⟨a.layH h,p,rfl,aK.free a.rel.sub h,⟨vs,aY,r⟩,a.rel.notOwn h,a.fresh h⟩
theorem Aft.tup_new(a:Aft K ρ σ H G ρ' H' G'){p:Addr}{ds:List D}{vs:List V}(h:H' p=none)(r:aB K G' ds vs) :
  Aft K ρ σ H G ρ' (aP H' p (.tup vs)) (aP G' p (.tup vs))/\cH K (aP H' p (.tup vs)) (aP G' p (.tup vs)) (aI ρ' σ) (dC H) (.sh (.tup ds)) (.ref p):=by
 refine⟨a.layG h, ?_⟩;show aC K _ (.tup ds) _;simp only[aC];exact⟨p,vs,rfl,cN.of aY,aB.mono (aK.laid (aK.free a.rel.sub h)) ds r⟩
end
def lG:List Hd->List V->Addr->Prop
 |.val (.ow _)::hs,x::xs,a=>x=.ref a\/lG hs xs a
 |_::hs,_::xs,a=>lG hs xs a
 |_,_,_=>False
def cZ(K:Frag)(H G:Hp)(own new:Addr->Prop)(σ:St):List Hd->List V->Prop
 |[],xs=>xs=[]
 |h::hs,xs=>∃x r,xs=x::r/\gE K H G own new σ h x/\cZ K H G own new σ hs r/\∀d a,h=.val (.ow d)->x=.ref a->¬lG hs r a
section
variable(K:Frag)(P:aE)(C:Calls)
noncomputable def tE(c:E):TE:=λσ H Q=>∃(ρ:Env) (G:Hp) (v:RV) (ρ':Env),Rel K ρ σ H G/\ev P C false c ρ=some (.ok v,ρ') /\
 ∀x H' G',Aft K ρ σ H G ρ' H' G'->cH K H' G' (aI ρ' σ) (dC H) v x->Q x H'
noncomputable def tT(c:E):TT:=λσ H Q=>∃(ρ:Env) (G:Hp) (b:Bool) (ρ':Env),Rel K ρ σ H G/\ev P C true c ρ=some (.ok (.sh (.bl b)),ρ') /\
 ∀H' G',Aft K ρ σ H G ρ' H' G'->Q b H'
noncomputable def tH(c:E):TE:=λσ H Q=>∃(ρ:Env) (G:Hp) (h:Hd) (ρ':Env),Rel K ρ σ H G/\hd c (ev P C false c ρ) ρ=some (.ok h,ρ') /\
 ∀x H' G',Aft K ρ σ H G ρ' H' G'->gE K H' G' (aI ρ' σ) (dC H) σ h x->Q x H'
noncomputable def xQ(cs:List E):TA:=λσ H Q=>∃(ρ:Env) (G:Hp) (ds:List D) (ρ':Env),Rel K ρ σ H G/\iK P C cs ρ=some (.ok ds,ρ') /\
 ∀xs H' G',Aft K ρ σ H G ρ' H' G'->aB K G' ds xs->Q xs H'
noncomputable def mP(cs:List E):TA:=λσ H Q=>∃(ρ:Env) (G:Hp) (hs:List Hd) (ρ':Env),Rel K ρ σ H G/\cA P C cs ρ=some (.ok hs,ρ') /\
 ∀xs H' G',Aft K ρ σ H G ρ' H' G'->cZ K H' G' (aI ρ' σ) (dC H) σ hs xs->Q xs H'
end
theorem TE.imp_pe{X:Cx}{e:Expr}{t u:TE}(h:PE X e t)(w:∀σ H Q,u σ H Q->t σ H Q):PE X e u:=λpins s σ H Q I q=>h pins s σ H Q I (w σ H Q q)
theorem TT.imp_pt{X:Cx}{e:Expr}{t u:TT}(h:PT X e t)(w:∀σ H Q,u σ H Q->t σ H Q):PT X e u:=λpins s σ H Q I q=>h pins s σ H Q I (w σ H Q q)
theorem TA.imp_pa{X:Cx}{e:List Expr}{t u:TA}(h:PA X e t)(w:∀σ H Q,u σ H Q->t σ H Q):PA X e u:=λpos pins s σ H Q I q=>h pos pins s σ H Q I (w σ H Q q)
theorem aJ{α β:Type}{r:aF α}{f:α->Env->aF β}{b:β}{ρ:Env}(h:r.bind f=some (.ok b,ρ)):∃a ρ1,r=some (.ok a,ρ1)/\f a ρ1=some (.ok b,ρ):=by
 unfold aF.bind at h;split at h
 ·cases h
 ·cases h
 ·exact⟨_,_,rfl,h⟩
theorem eU{o:Option RV}{ρ ρ':Env}{v:RV}(h:done o ρ=some (.ok v,ρ')):o=some v/\ρ'=ρ:=by
 unfold done at h
 cases o with
 |none=>cases h
 |some u=>simp only[Option.map_some,Option.some.injEq,Prod.mk.injEq,Out.ok.injEq] at h;exact⟨by rw[h.1],h.2.symm⟩
theorem FK{r:aF RV}{v:RV}{ρ':Env}(h:bH true r=some (.ok v,ρ')):∃u b,r=some (.ok u,ρ')/\hW u.d=some b/\v=.sh (.bl b):=by
 obtain⟨u,ρ1,h1,h2⟩:=aJ h
 cases e:hW u.d with
 |none=>rw[e] at h2;cases h2
 |some b =>
  rw[e] at h2;simp only[Option.map_some,Option.some.injEq,Prod.mk.injEq,Out.ok.injEq] at h2;obtain⟨h3,h4⟩:=h2;subst h4;exact⟨u,b,h1,e,h3.symm⟩
section
variable{K:Frag}{P:aE}{C:Calls}{σ:St}{H:Hp}
theorem tR{X:Cx}{e:Expr}{c:E}(h:PE X e (tE K P C c))(n:∀i,c≠.var i):PE X e (tH K P C c):=by
 refine TE.imp_pe h λσ H Q q=>?_
 obtain⟨ρ,G,hd',ρ',r,e1,k⟩:=q
 have:hd c (ev P C false c ρ) ρ=(ev P C false c ρ).bind λv ρ'=>some (.ok (.val v.low),ρ'):=by
  cases c<;>first | rfl | exact absurd rfl (n _)
 rw[this] at e1;obtain⟨v,ρ1,e2,e3⟩:=aJ e1;cases e3;exact⟨ρ,G,v,_,r,e2,λx H' G' a hv=>k x H' G' a (gE.of hv)⟩
theorem UT{X:Cx}{e:Expr}{i:Nat}(h:PE X e (vL i)):PE X e (tE K P C (.var i)):=by
 refine TE.imp_pe h λσ H Q q=>?_
 obtain⟨ρ,G,v,ρ',r,e1,k⟩:=q;replace e1:wX i ρ=_:=e1;unfold wX at e1;split at e1
 ·rename_i d hd;cases e1;obtain⟨x,h1,h2⟩:=r.sh i d hd;exact⟨x,h1,k x H G (Aft.refl r) h2⟩
 ·rename_i d hd;cases e1;obtain⟨a,h1,g,o⟩:=r.ow i d _ _ hd;refine⟨.ref a,h1, ?_⟩;obtain⟨ob,hv,hr⟩:=o.put;have li:i<ρ.length:=(Zc.mp hd).1
  have oth:∀(j:Nat) (sl:Sl),(ρ.set i (.sh d))[j]?=some sl->(j=i/\sl=.sh d)\/(j≠i/\ρ[j]?=some sl):=λj sl hj=>by
   by_cases hij:j=i
   ·subst hij;rw[zk li] at hj;exact .inl ⟨rfl,(Option.some.inj hj).symm⟩
   ·rw[Zf (λz=>hij z.symm)] at hj;exact .inr ⟨hij,hj⟩
  have own':∀b,aI (ρ.set i (.sh d)) σ b->aI ρ σ b:=λb ⟨j,d',p,l,h3,h4⟩=>by
   rcases oth j _ h3 with ⟨_,z⟩ | ⟨_,z⟩
   ·cases z
   ·exact⟨j,d',p,l,z,h4⟩
  refine k (.ref a) H (aP G a ob) ⟨⟨?_,λb u z=>?_,λj d' hj=>?_,λj d' p l hj=>?_,λj k' d1 p1 l1 d2 p2 l2 b h3 h4 h5 h6=>?_⟩,⟨aK.put g,λ_ _ z _=>z,λ_ z=>z,λb h3 h4 h5=>?_⟩,iC.set (by rw[hd];rfl)⟩ ?_
  ·rw[zg];exact r.len
  ·by_cases hb:b=a
   ·subst hb;rw[aY] at z;rw[hv];exact z
   ·rw[aG hb] at z;exact r.sub b u z
  ·rcases oth j _ hj with ⟨rfl,z⟩ | ⟨_,z⟩
   ·cases z;exact⟨_,h1,hr _ (aK.put g) aY⟩
   ·obtain⟨x,h3,h4⟩:=r.sh j d' z;exact⟨x,h3,aC.mono (aK.put g) d' h4⟩
  ·rcases oth j _ hj with ⟨_,z⟩ | ⟨ne,z⟩
   ·cases z
   ·obtain⟨b,h3,h4,h5⟩:=r.ow j d' p l z;have hb:b≠a:=λe=>by subst e;exact ne (r.inj _ _ _ _ _ _ _ _ _ z hd h3 h1)
    exact⟨b,h3,by rw[aG hb];exact h4,h5.mono (aK.put g) λ_ z=>z⟩
  ·rcases oth j _ h3 with ⟨_,z⟩ | ⟨_,z⟩
   ·cases z
   ·rcases oth k' _ h4 with ⟨_,z'⟩ | ⟨_,z'⟩
    ·cases z'
    ·exact r.inj _ _ _ _ _ _ _ _ _ z z' h5 h6
  ·by_cases hb:b=a
   ·subst hb;exact absurd ⟨i,_,_,_,hd,h1⟩ h5
   ·rw[aG hb];exact h4
  ·exact hr _ (aK.put g) aY
 ·cases e1
theorem VZ{X:Cx}{e:Expr}{i:Nat}(h:PE X e (vL i)):PE X e (tH K P C (.var i)):=by
 refine TE.imp_pe h λσ H Q q=>?_
 obtain⟨ρ,G,hd',ρ',r,e1,k⟩:=q;simp only[hd] at e1;split at e1
 ·rename_i hb;cases e1;obtain⟨x,hx⟩:=r.bound hb;exact⟨x,hx,k x H G (Aft.refl r) hx⟩
 ·cases e1
theorem wD{G:Hp}{d:D}{x:V}{b:Bool}(s:aK G H)(h:bX K H G d x)(e:hW d=some b):KG K x H b:=by
 cases d<;>simp only[hW,Option.some.injEq,reduceCtorEq] at e
 ·have:=h.non;subst this;exact e.symm
 ·have:=h.bl;subst this;exact e.symm
 ·have:=h.int;subst this;exact e.symm
 ·split at e
  ·rename_i hz;obtain⟨rfl,_⟩:=h.str;exact⟨Zr hz (by decide),(Option.some.inj e).symm⟩
  ·cases e
 ·obtain⟨a,vs,rfl,h1,h2⟩:=h.tup s;refine .inr (.inl ⟨vs,h1, ?_⟩);rw[<- e]
  have:=h2.len
  cases vs<;>cases ‹List D›<;>simp_all
 ·obtain⟨a,vs,rfl,h1,h2⟩:=h.lst s;refine .inl ⟨vs,h1, ?_⟩;rw[<- e]
  have:=h2.len
  cases vs<;>cases ‹List D›<;>simp_all
theorem aEF{X:Cx}{e:Expr}{c:E}(hK:X.K=K)(h:PE X e (tE K P C c))(hw:∀ρ,ev P C true c ρ=bH true (ev P C false c ρ))
  (he:∀whole,isTrue e X.env whole=(do let v <- whole;standAt e.pos;holding [v] (truthy v))):PT X e (tT K P C c):=by
 refine TT.imp_pt (EJ h he) λσ H Q q=>?_
 obtain⟨ρ,G,b,ρ',r,e1,k⟩:=q;rw[hw] at e1;obtain⟨u,b',e2,e3,e4⟩:=FK e1;cases e4;refine⟨ρ,G,u,ρ',r,e2,λx H' G' a hv=>⟨b, ?_,k H' G' a⟩⟩;rw[hK];exact wD a.rel.sub hv.readR e3
end
mutual
theorem F7:∀(n:Nat) (d e:D),bM n d=true->bM n e=true->PyData.eqv (eR d) (eR e)=eE d e
 |n,.non,e,_,h=>by cases e<;>first | (cases n<;>simp[bM] at h;done) | simp[eR,PyData.eqv,eE]
 |n,.bl b,e,_,h=>by cases e<;>first | (cases n<;>simp[bM] at h;done) | simp[eR,PyData.eqv,eE]
 |n,.int b,e,_,h=>by cases e<;>first | (cases n<;>simp[bM] at h;done) | simp[eR,PyData.eqv,eE]
 |n,.str b,e,_,h=>by cases e<;>first | (cases n<;>simp[bM] at h;done) | simp[eR,PyData.eqv,eE]
 |n+1,.tup ds,e,h,h'=>by
  cases e with
  |tup es =>
   simp only[eR,PyData.eqv,eE];exact vK n ds es (by simpa[bM] using h) (by simpa[bM] using h')
  |ins=>simp[bM] at h'
  |dct=>simp[bM] at h'
  |dcs=>simp[bM] at h'
  |exn=>simp[bM] at h'
  |_=>simp[eR,PyData.eqv,eE]
 |n+1,.lst ds,e,h,h'=>by
  cases e with
  |lst es =>
   simp only[eR,PyData.eqv,eE];exact vK n ds es (by simpa[bM] using h) (by simpa[bM] using h')
  |ins=>simp[bM] at h'
  |dct=>simp[bM] at h'
  |dcs=>simp[bM] at h'
  |exn=>simp[bM] at h'
  |_=>simp[eR,PyData.eqv,eE]
 | 0,.tup ds,e,h,_=>by simp[bM] at h
 | 0,.lst ds,e,h,_=>by simp[bM] at h
 |n,.ins _ _ _,_,h,_=>by cases n<;>simp[bM] at h
 |n,.dct _,_,h,_=>by cases n<;>simp[bM] at h
 |n,.dcs _ _,_,h,_=>by cases n<;>simp[bM] at h
 |n,.exn _,_,h,_=>by cases n<;>simp[bM] at h
theorem vK:∀(n:Nat) (ds es:List D),(∀d∈ds,bM n d=true)->(∀d∈es,bM n d=true)->PyData.eqvAll (hU ds) (hU es)=lX ds es
 |n,[],[],_,_=>by simp[hU,PyData.eqvAll,lX]
 |n,[],_::_,_,_=>by simp[hU,PyData.eqvAll,lX]
 |n,_::_,[],_,_=>by simp[hU,PyData.eqvAll,lX]
 |n,d::ds,e::es,h,h'=>by(simp only[hU,PyData.eqvAll,lX];rw[F7 n d e (h d (by simp)) (h' e (by simp)),vK n ds es (λx hx=>h x (by simp[hx])) (λx hx=>h' x (by simp[hx]))])
end
section
variable{X:Cx}{K:Frag}{pins:List (Addr×Obj)}{σ:St}{H G:Hp}{s:Shared}
mutual
theorem zM(I:Inv X pins σ H s)(hK:X.K=K)(sub:aK G H):∀(n:Nat) (d:D) (x:V) (u:Value),bM n d=true->aC K G d x->aU x u->∃as,Reads s.heap u (eR d) as/\PyData.canLay0 (eR d)=true/\PyData.depth (eR d)<=n
 |n,.non,x,u,_,h,r=>by
  simp only[aC] at h;subst h;cases r;exact⟨_,Reads.none,by simp[eR,PyData.canLay0],by simp[eR,PyData.depth]⟩
 |n,.bl b,x,u,_,h,r=>by
  simp only[aC] at h;subst h;cases r;exact⟨_,Reads.bool b,by simp[eR,PyData.canLay0],by simp[eR,PyData.depth]⟩
 |n,.int b,x,u,_,h,r=>by
  simp only[aC] at h;subst h;obtain⟨t,rfl⟩:=r;exact⟨_,Reads.int b t,by simp[eR,PyData.canLay0],by simp[eR,PyData.depth]⟩
 |n,.str b,x,u,_,h,r=>by
  simp only[aC] at h;obtain⟨rfl,hs⟩:=h;obtain⟨t,rfl⟩:=r;exact⟨_,Reads.str b t,by simpa[eR,PyData.canLay0] using hs,by simp[eR,PyData.depth]⟩
 |n+1,.tup ds,x,u,ok,h,r=>by
  simp only[aC] at h;obtain⟨a,vs,rfl,h1,h2⟩:=h;cases r;obtain⟨its,rv,⟨o,ho,hc,m,hd⟩,hz⟩:=I.tuple (show cN X.K H a vs from hK ▸ cY sub h1);obtain⟨as,r1,r2,r3⟩:=kI I hK sub n ds vs its (by simpa[bM] using ok) h2 rv;exact⟨_,Reads.tuple ho hc hd (by simpa using r1),by simpa[eR,PyData.canLay0] using r2,by simp[eR,PyData.depth];omega⟩
 |n+1,.lst ds,x,u,ok,h,r=>by
  simp only[aC] at h;obtain⟨a,vs,rfl,h1,h2⟩:=h;cases r;obtain⟨its,rv,⟨o,m,ho,hc,hn,hd⟩,hz⟩:=I.list (show bY X.K H a vs from hK ▸ sub.seq h1);obtain⟨as,r1,r2,r3⟩:=kI I hK sub n ds vs its (by simpa[bM] using ok) h2 rv;exact⟨_,Reads.list ho hc hd (by simpa using r1),by simpa[eR,PyData.canLay0] using r2,by simp[eR,PyData.depth];omega⟩
 | 0,.tup ds,_,_,h,_,_=>by simp[bM] at h
 | 0,.lst ds,_,_,h,_,_=>by simp[bM] at h
 |n,.ins _ _ _,_,_,h,_,_=>by cases n<;>simp[bM] at h
 |n,.dct _,_,_,h,_,_=>by cases n<;>simp[bM] at h
 |n,.dcs _ _,_,_,h,_,_=>by cases n<;>simp[bM] at h
 |n,.exn _,_,_,h,_,_=>by cases n<;>simp[bM] at h
theorem kI(I:Inv X pins σ H s)(hK:X.K=K)(sub:aK G H):∀(n:Nat) (ds:List D) (xs:List V) (us:List Value),(∀d∈ds,bM n d=true)->aB K G ds xs->aL xs us->∃as,ReadsAll s.heap us (hU ds) as/\PyData.canLayAll0 (hU ds)=true/\PyData.depthAll (hU ds)<=n
 |n,[],xs,us,_,h,r=>by
  simp only[aB] at h;subst h;cases r;exact⟨_,ReadsAll.nil,by simp[hU,PyData.canLayAll0],by simp[hU,PyData.depthAll]⟩
 |n,d::ds,xs,us,ok,h,r=>by
  simp only[aB] at h;obtain⟨v,r',rfl,h1,h2⟩:=h
  cases r with
  |cons ra rb =>
   obtain⟨as,a1,a2,a3⟩:=zM I hK sub n d v _ (ok d (by simp)) h1 ra;obtain⟨bs,b1,b2,b3⟩:=kI I hK sub n ds r' _ (λx hx=>ok x (by simp[hx])) h2 rb;exact⟨_,ReadsAll.cons a1 b1,by simp[hU,PyData.canLayAll0,a2,b2],by simp[hU,PyData.depthAll];omega⟩
end
theorem xE(I:Inv X pins σ H s)(hK:X.K=K)(sub:aK G H)(n:Nat)(d:D)(x:V)(u:Value)(ok:bM n d=true)(h:bX K H G d x)(r:aU x u):∃as,Reads s.heap u (eR d) as/\PyData.canLay0 (eR d)=true/\PyData.depth (eR d)<=n:=by
 rcases h with h | ⟨a,rfl,h⟩
 ·exact zM I hK sub n d x u ok h r
 ·cases r
  cases d<;>first | exact h.elim | skip
  case dcs=>cases n<;>simp[bM] at ok
  rename_i ds;obtain⟨vs,h1,h2⟩:=h
  cases n with
  |zero=>simp[bM] at ok
  |succ n =>
   obtain⟨its,rv,⟨o,m,ho,hc,hn,hd⟩,hz⟩:=I.list (bY.of h1);obtain⟨as,r1,r2,r3⟩:=kI I hK sub n ds vs its (by simpa[bM] using ok) h2 rv;exact⟨_,Reads.list ho hc hd (by simpa using r1),by simpa[eR,PyData.canLay0] using r2,by simp[eR,PyData.depth];omega⟩
def yI(K:Frag)(H G:Hp)(v:RV)(x:V)(H':Hp):Prop :=
 (∃d,v=.sh d/\aC K G d x/\H'=H) \/
 (∃ds vs p,v=.ow (.lst ds)/\H p=none/\aB K G ds vs/\x=.ref p/\H'=aP H p (.lst vs)) \/
 (∃ds vs p,v=.sh (.tup ds)/\H p=none/\aB K G ds vs/\x=.ref p/\H'=aP H p (.tup vs))
theorem Aft.made{ρ ρ':Env}{H0 G0 H2:Hp}(a:Aft K ρ σ H0 G0 ρ' H G){v:RV}{x:V}(m:yI K H G v x H2) :
  ∃G2,Aft K ρ σ H0 G0 ρ' H2 G2/\cH K H2 G2 (aI ρ' σ) (dC H0) v x:=by
 rcases m with ⟨d,rfl,h,rfl⟩ | ⟨ds,vs,p,rfl,h,r,rfl,rfl⟩ | ⟨ds,vs,p,rfl,h,r,rfl,rfl⟩
 ·exact⟨G,a,h⟩
 ·exact⟨_,a.own_new h r⟩
 ·exact⟨_,a.tup_new h r⟩
noncomputable def aFR(K:Frag)(op:Operator):R2:=λx y H Q=>∃G d e v,aK G H/\bX K H G d x/\bX K H G e y/\(op=.Mult->∀ds,d=.lst ds->∃a vs,x=.ref a/\H a=some (.lst vs)/\aB K G ds vs)/\cI op d e=some v/\∀z H',yI K H G v z H'->Q z H'
theorem cJ{i:Int}:yI K H G (.sh (.int i)) (.int i) H:=.inl ⟨_,rfl,by simp[aC],rfl⟩
theorem V9{i:Bool}:yI K H G (.sh (.bl i)) (.bl i) H:=.inl ⟨_,rfl,by simp[aC],rfl⟩
theorem eX{n:Nat}(h:aR n=true):n<=sizeLine:=Zr (@of_decide_eq_true _ (cl _) h) (by decide)
theorem uA(I:Inv X pins σ H s){a:Addr}{vs:List V}(h:bY X.K H a vs):∃(its:List Value),aL vs its/\s.heap.IsList a its.toArray/\vs.length<=sizeLine:=by
 obtain⟨its,r,p,z⟩:=I.list h;exact⟨its,r,p.isList,z⟩
theorem dM.imp{f:Value->Value->Sem Value}{r r':R2}(h:dM X f r)(w:∀x y H Q,r' x y H Q->r x y H Q):dM X f r':=λpins s σ H x y v u Q I rx ry q=>h pins s σ H x y v u Q I rx ry (w x y H Q q)
noncomputable def aDx(K:Frag):R2:=λx y H Q=>∃l b xs zs,x=.ref l/\y=.ref b/\bY K H l xs/\bY K H b zs/\xs.length+zs.length<=sizeLine/\∀p,H p=none->Q (.ref p) (aP H p (.lst (xs++zs)))
theorem WG:dM X (binaryOp .Add) (aDx X.K):=by
 intro pins s σ H x y v u Q I rx ry h;obtain⟨l,b,xs,zs,rfl,rfl,hH,hB,hz,q⟩:=h;cases rx;cases ry;obtain⟨its,r,hl,z⟩:=uA I hH;obtain⟨its2,r2,hl2,z2⟩:=uA I hB;have e1:=r.length;have e2:=r2.length;obtain⟨⟨cls,dd,data,sl⟩,ho,hc,n,hd⟩:=id hl;obtain⟨⟨cls2,dd2,data2,sl2⟩,ho2,hc2,n2,hd2⟩:=id hl2;simp only at hc hd hc2 hd2;subst hc hd hc2 hd2;refine concat_meets ⟨_,ho,rfl⟩ ⟨_,ho2,rfl⟩ noFill_list_add seq_list_add PySem.F.slot_list_add PySem.F.entry_list_add (PySem.F.args_list_add_2 _ _) (list_addW l b its.toArray its2.toArray n n2 dd dd2 sl sl2 (by simp;omega)) ⟨ho,ho2, ?_⟩;have ea:its.toArray++its2.toArray=(its++its2).toArray:=by simp
 rw[ea];exact⟨.ref _,_,I.lnew (t':=s.toks) (r.append r2) (by rw[Za];omega),rfl,q _ I.fresh⟩
theorem QN:dM X (binaryOp .FloorDiv) (rI (λ_ j=>0<j/\j<nofun) λi j=>.int (i / j)):=MI λi j _ _ _ _ _ hc q=>by
 have h1:(0:Int)<j:=hc.1;have h2:j<nofun:=hc.2;have h3:j.natAbs<2 ^ 300:=Zl (by omega:j.natAbs<nofun) (by decide);have h4:j.natAbs.log2<300:=(Nat.log2_lt (by omega)).mpr h3;exact PyProof.Rows.floordiv_int (by omega) (by rw[Int.fdiv_eq_ediv_of_nonneg i (by omega)];exact q) (.inl (PyProof.noPylong_of_log2 (by omega)))
theorem aD{α:Type _}{v:α}(e:none=some v):False:=nomatch e
theorem YT{X:Cx}:dM X (binaryOp .Add) (λx y H Q=>∃a b ys,x=.ref a/\y=.ref b/\cN X.K H a []/\cN X.K H b ys/\Q (.ref b) H):=by
 intro pins s σ H x y v u Q I rx ry h;obtain⟨a,b,ys,rfl,rfl,ha,hb,q⟩:=h;cases rx;cases ry;obtain⟨its,r1,p1,_⟩:=I.tuple ha;obtain⟨its2,r2,p2,_⟩:=I.tuple hb;have e0:its=[]:=r1.nil_iff.mpr rfl;subst e0;obtain⟨⟨cls,dd,data,sl⟩,ho,hc,n,hd⟩:=id p1;obtain⟨⟨cls2,dd2,data2,sl2⟩,ho2,hc2,n2,hd2⟩:=id p2;simp only at hc hd hc2 hd2;subst hc hd hc2 hd2
 exact concat_meets ⟨_,ho,rfl⟩ ⟨_,ho2,rfl⟩ noFill_tuple_add seq_tuple_add PySem.F.slot_tuple_add PySem.F.entry_tuple_add (PySem.F.args_tuple_add_2 _ _)
  (tuple_addW0 a b [].toArray its2.toArray n n2 dd dd2 sl sl2 rfl) ⟨ho,ho2,⟨.ref b,H,I,rfl,q⟩⟩
theorem aAy(hK:X.K=K)(op:Operator):dM X (binaryOp op) (aFR K op):=by
 intro pins s σ H x y v u Q I rx ry h;obtain⟨G,d,e,w,sub,hx,hy,hm,eb,k⟩:=h;subst hK
 cases op with
 |Add =>
  cases d with
  |int =>
   cases e with
   |int =>
    cases hx.int;cases hy.int;change some _=_ at eb;cases eb;exact aCj pins s σ H _ _ _ _ Q I rx ry ⟨_,_,rfl,rfl,k _ _ cJ⟩
   |_=>exact(aD eb).elim
  |lst xs =>
   cases e with
   |lst ys =>
    change (if aR (xs.length+ys.length) then some _ else none)=_ at eb;split at eb
    ·rename_i hz;cases eb;obtain⟨a,vs,rfl,h1,h2⟩:=hx.lst sub;obtain⟨b,ws,rfl,h3,h4⟩:=hy.lst sub;refine WG pins s σ H _ _ _ _ Q I rx ry ⟨a,b,vs,ws,rfl,rfl,h1,h3, ?_,λp hp=>k _ _ (.inr (.inl ⟨_,_,p,rfl,hp,h2.app h4,rfl,rfl⟩))⟩;rw[h2.len,h4.len];exact eX hz
    ·cases eb
   |_=>exact(aD eb).elim
  |tup xs =>
   cases xs with
   |nil =>
    cases e with
    |tup ys0 =>
     change some _=_ at eb;cases eb;have hy':=hy;obtain⟨a,vs,rfl,h1,h2⟩:=hx.tup sub;obtain⟨b,ws,rfl,h3,h4⟩:=hy.tup sub;have e1:vs=[]:=List.length_eq_zero_iff.mp h2.len;subst e1;refine YT pins s σ H _ _ _ _ Q I rx ry ⟨a,b,ws,rfl,rfl,h1,h3, ?_⟩;rcases hy' with hy' | ⟨_,_,hy'⟩
     ·exact k _ _ (.inl ⟨_,rfl,hy',rfl⟩)
     ·exact hy'.elim
    |_=>exact(aD eb).elim
   |cons x0 xs0 =>
    cases e with
    |tup ys0 =>
     change (if aR (xs0.length+1+ys0.length) then some _ else none)=_ at eb;split at eb
     ·rename_i hz;cases eb;have hx':=hx;obtain⟨a,vs,rfl,h1,h2⟩:=hx.tup sub;obtain⟨b,ws,rfl,h3,h4⟩:=hy.tup sub;have e1:=h2.len;have e2:=h4.len;refine V1 pins s σ H _ _ _ _ Q I rx ry ⟨a,b,vs,ws,rfl,rfl,h1,h3, ?_, ?_,λhw=>?_,λhw p hp=>?_⟩
      ·intro z;subst z;simp at e1
      ·rw[e1,e2];exact eX hz
      ·subst hw;have e3:ys0=[]:=List.length_eq_zero_iff.mp e2.symm;subst e3;rcases hx' with hx' | ⟨_,_,hx'⟩
       ·exact k _ _ (.inl ⟨_,rfl,by simpa using hx',rfl⟩)
       ·exact hx'.elim
      ·exact k _ _ (.inr (.inr ⟨_,_,p,rfl,hp,h2.app h4,rfl,rfl⟩))
     ·cases eb
    |_=>exact(aD eb).elim
  |_=>exact(aD eb).elim
 |Sub =>
  cases d with
  |int =>
   cases e with
   |int =>
    cases hx.int;cases hy.int;change some _=_ at eb;cases eb;exact aCM pins s σ H _ _ _ _ Q I rx ry ⟨_,_,rfl,rfl,k _ _ cJ⟩
   |_=>exact(aD eb).elim
  |_=>exact(aD eb).elim
 |Mult =>
  cases d with
  |int =>
   cases e with
   |int =>
    cases hx.int;cases hy.int;change @ite _ _ (cl _) _ none=_ at eb;split at eb
    ·cases eb;exact aCJ pins s σ H _ _ _ _ Q I rx ry ⟨_,_,rfl,rfl,‹_›,k _ _ cJ⟩
    ·cases eb
   |_=>exact(aD eb).elim
  |lst xs =>
   cases e with
   |int kk =>
    change @ite _ (-(2 ^ 31)<=kk/\kk<=1000/\aR (xs.length*kk.toNat)) (cl _) _ none=_ at eb;split at eb
    ·rename_i hc;cases eb;cases hy.int;obtain⟨a,vs,rfl,h1,h2⟩:=hm rfl _ rfl;refine aAS pins s σ H _ _ _ _ Q I rx ry ⟨a,_,vs,rfl,rfl,h1,by omega,by omega, ?_,λp hp=>k _ _ (.inr (.inl ⟨_,_,p,rfl,hp,h2.rep _,rfl,rfl⟩))⟩;rw[h2.len];exact eX hc.2.2
    ·cases eb
   |_=>exact(aD eb).elim
  |tup xs =>
   cases e with
   |int kk =>
    change @ite _ (xs≠[]/\1<=kk/\kk<=1000/\aR (xs.length*kk.toNat)) (cl _) _ none=_ at eb;split at eb
    ·rename_i hc;cases eb;cases hy.int;have hx':=hx;obtain⟨a,vs,rfl,h1,h2⟩:=hx.tup sub;obtain⟨c1,c2,c3,c4⟩:=hc;refine W3 pins s σ H _ _ _ _ Q I rx ry ⟨a,_,vs,rfl,rfl,h1,λz=>c1 (List.length_eq_zero_iff.mp (h2.len.symm.trans z)),c2,by omega,by rw[h2.len];exact eX c4,λe1=>?_,λp hp=>k _ _ (.inr (.inr ⟨_,_,p,rfl,hp,h2.rep _,rfl,rfl⟩))⟩;subst e1;rcases hx' with hx' | ⟨_,_,hx'⟩
     ·exact k _ _ (.inl ⟨_,rfl,by simpa using hx',rfl⟩)
     ·exact hx'.elim
    ·cases eb
   |_=>exact(aD eb).elim
  |_=>exact(aD eb).elim
 |FloorDiv =>
  cases d with
  |int =>
   cases e with
   |int =>
    cases hx.int;cases hy.int;change @ite _ _ (cl _) _ none=_ at eb;split at eb
    ·cases eb;exact QN pins s σ H _ _ _ _ Q I rx ry ⟨_,_,rfl,rfl,‹_›,k _ _ cJ⟩
    ·cases eb
   |_=>exact(aD eb).elim
  |_=>exact(aD eb).elim
 |Mod =>
  cases d with
  |int =>
   cases e with
   |int =>
    cases hx.int;cases hy.int;change @ite _ _ (cl _) _ none=_ at eb;split at eb
    ·cases eb;exact Z4 pins s σ H _ _ _ _ Q I rx ry ⟨_,_,rfl,rfl,‹_›,k _ _ cJ⟩
    ·cases eb
   |_=>exact(aD eb).elim
  |_=>exact(aD eb).elim
 |Pow=>exact(aD eb).elim
 |LShift =>
  cases d with
  |int =>
   cases e with
   |int =>
    cases hx.int;cases hy.int;change @ite _ _ (cl _) _ none=_ at eb;split at eb
    ·rename_i hc;cases eb;exact aBD pins s σ H _ _ _ _ Q I rx ry ⟨_,_,rfl,rfl,⟨hc.1,by omega,hc.2.2⟩,k _ _ cJ⟩
    ·cases eb
   |_=>exact(aD eb).elim
  |_=>exact(aD eb).elim
 |RShift =>
  cases d with
  |int =>
   cases e with
   |int =>
    cases hx.int;cases hy.int;change @ite _ _ (cl _) _ none=_ at eb;split at eb
    ·cases eb;exact ZZ pins s σ H _ _ _ _ Q I rx ry ⟨_,_,rfl,rfl,‹_›,k _ _ cJ⟩
    ·cases eb
   |_=>exact(aD eb).elim
  |_=>exact(aD eb).elim
 |BitAnd =>
  cases d with
  |int =>
   cases e with
   |int =>
    cases hx.int;cases hy.int;change some _=_ at eb;cases eb;exact aBO pins s σ H _ _ _ _ Q I rx ry ⟨_,_,rfl,rfl,k _ _ cJ⟩
   |_=>exact(aD eb).elim
  |_=>exact(aD eb).elim
 |BitOr=>exact(aD eb).elim
 |_=>exact(aD eb).elim
noncomputable def B4(K:Frag)(op:CmpOp):R2:=λx y H Q=>∃G d e b,aK G H/\bX K H G d x/\bX K H G e y/\cQ op d e=some b/\Q (.bl b) H
theorem kY{d:D}{x:V}(h:aC K G d x)(f:cB d=true):jO x=true/\∀(e:D) (y:V),aC K G e y->cB e=true->oE y x=eE e d:=by
 cases d<;>simp only[cB,Bool.false_eq_true] at f<;>simp only[aC] at h
 ·subst h;refine⟨rfl,λe y hy fe=>?_⟩;cases e<;>simp only[cB,Bool.false_eq_true] at fe<;>simp only[aC] at hy<;>(first | subst hy | (obtain⟨rfl,_⟩:=hy))<;>simp[oE,eE]
 ·subst h;refine⟨rfl,λe y hy fe=>?_⟩;cases e<;>simp only[cB,Bool.false_eq_true] at fe<;>simp only[aC] at hy<;>(first | subst hy | (obtain⟨rfl,_⟩:=hy))<;>simp[oE,eE]
 ·subst h;refine⟨rfl,λe y hy fe=>?_⟩;cases e<;>simp only[cB,Bool.false_eq_true] at fe<;>simp only[aC] at hy<;>(first | subst hy | (obtain⟨rfl,_⟩:=hy))<;>simp[oE,eE]
 ·obtain⟨rfl,_⟩:=h;refine⟨rfl,λe y hy fe=>?_⟩;cases e<;>simp only[cB,Bool.false_eq_true] at fe<;>simp only[aC] at hy<;>(first | subst hy | (obtain⟨rfl,_⟩:=hy))<;>simp[oE,eE]
theorem bX.flat{d:D}{x:V}(h:bX K H G d x)(f:cB d=true):aC K G d x:=by
 rcases h with h | ⟨a,rfl,h⟩
 ·exact h
 ·cases d<;>first | exact h.elim | cases f
theorem sJ{d:D}{x:V}(h:aC K G d x)(f:cB d=true):∀{ds:List D} {vs:List V},aB K G ds vs->ds.all cB=true->vs.all jO=true/\TV x vs=zP d ds
 |[],vs,h2,_=>by simp only[aB] at h2;subst h2;exact⟨rfl,rfl⟩
 |e::ds,vs,h2,fs=>by
  simp only[aB] at h2;obtain⟨y,r,rfl,h3,h4⟩:=h2;rw[Zj,ZB] at fs;obtain⟨a1,a2⟩:=sJ h f h4 fs.2;obtain⟨b1,_⟩:=kY h3 fs.1;have b2:=(kY h f).2 e y h3 fs.1;refine⟨by rw[Zj,b1,a1];rfl, ?_⟩
  unfold TV zP at *
  rw[List.any_cons,List.any_cons,a2,b2]
theorem LI(I:Inv X pins σ H s)(hK:X.K=K)(sub:aK G H){A:Around}(hu:A.units+20<cLine){d e:D}{x y:V}{v u:Value}(od:bM 20 d=true)(oe:bM 20 e=true)(hx:bX K H G d x)(hy:bX K H G e y)(rx:aU x v)(ry:aU y u) :
  SeqAt.RcAt A s v u (eE d e)/\SeqAt.RcNeAt A s v u (!eE d e):=by
 obtain⟨as,a1,a2,a3⟩:=xE I hK sub 20 d x v od hx rx;obtain⟨bs,b1,b2,b3⟩:=xE I hK sub 20 e y u oe hy ry;rw[<- F7 20 d e od oe];exact⟨SeqAt.rcAt_reads a1 b1 a2 b2 (by omega),SeqAt.rcNeAt_reads a1 b1 a2 b2 (by omega)⟩
theorem B5:∀{ds:List D} {ns:List Int},fA ds=some ns->ds=ns.map D.int
 |[],ns,h=>by cases h;rfl
 |.int i::r,ns,h=>by
  replace h:(fA r).map (i :: ·)=some ns:=h
  cases q:fA r with
  |none=>rw[q] at h;cases h
  |some ms =>
   rw[q] at h;cases h;rw[Zs,<- B5 q]
 |.non::_,_,h | .bl _::_,_,h | .str _::_,_,h | .tup _::_,_,h | .lst _::_,_,h | .ins _ _ _::_,_,h | .dct _::_,_,h | .exn _::_,_,h | .dcs _ _::_,_,h=>nomatch h
theorem aB.ints:∀{ns:List Int} {vs:List V},aB K G (ns.map D.int) vs->vs=ns.map V.int
 |[],vs,h=>by simp only[List.map_nil,aB] at h;exact h
 |n::ns,vs,h=>by(simp only[Zs,aB] at h;obtain⟨v,r,rfl,h1,h2⟩:=h;simp only[aC] at h1;rw[h1,aB.ints h2];rfl)
def z9(k:cG):D:=.tup [.int k.1,.tup (k.2.map D.int)]
theorem BY{d:D}{k:cG}(h:uX d=some k):d=z9 k:=by
 unfold uX at h;split at h
 ·rename_i t ds
  cases q:fA ds with
  |none=>rw[q] at h;cases h
  |some ns =>
   rw[q] at h;cases h;rw[B5 q];rfl
 ·cases h
def dGK:bB->D:=Sum.elim z9 λk=>.tup [z9 k.1,z9 k.2]
theorem UJ{d:D}{k:bB}(h:eP d=some k):d=dGK k:=by
 have one:∀{d:D},(uX d).map Sum.inl=some k->d=dGK k:=λ{d} h=>by(obtain⟨x,h1,rfl⟩:=Option.map_eq_some_iff.mp h;exact BY h1)
 unfold eP at h;split at h
 ·rename_i a b
  cases q:uX (.tup a) with
  |none=>rw[q] at h;cases h
  |some x =>
   rw[q] at h;obtain⟨y,h1,rfl⟩:=Option.map_eq_some_iff.mp h;rw[BY q,BY h1];rfl
 ·exact one h
theorem B9{x:V}{k:cG}(h:aC K G (z9 k) x):∃b,x=.ref b/\jE K G k b:=by
 simp only[z9,aC,aB] at h;obtain⟨a,vs,rfl,h1,v1,r1,rfl,rfl,v2,r2,rfl,⟨c,ws,rfl,h2,h3⟩,rfl⟩:=h;rw[aB.ints h3] at h2;exact⟨a,rfl,c,h1,h2⟩
theorem nF{d:D}{x:V}{k:bB}(hk:eP d=some k)(h:bX K H G d x):∃b,x=.ref b/\cC K G k b:=by
 rw[UJ hk] at h
 cases k with
 |inl k =>
  rcases h with h | ⟨_,_,h⟩
  ·exact B9 h
  ·exact h.elim
 |inr k =>
  rcases h with h | ⟨_,_,h⟩
  ·replace h:aC K G (.tup [z9 k.1,z9 k.2]) x:=h;simp only[aC,aB] at h;obtain⟨a,vs,rfl,h1,v1,r1,rfl,h2,v2,r2,rfl,h3,rfl⟩:=h;obtain⟨b,rfl,g2⟩:=B9 h2;obtain⟨c,rfl,g3⟩:=B9 h3;exact⟨a,rfl,b,c,h1,g2,g3⟩
  ·exact h.elim
abbrev FZ(K:Frag)(G:Hp)(ks:List bB)(ds:List D)(xs:oB):Prop:=xs.map (·.1)=ks/\∃vs,aL vs (xs.map (·.2.2))/\aB K G ds vs
theorem bX.dcs{ks:List bB}{ds:List D}{x:V}(h:bX K H G (.dcs ks ds) x)(sub:aK G H):∃a xs,x=.ref a/\DS K H a xs/\FZ K G ks ds xs:=by
 have go:∀{a xs vs},H a=some (.ext (dY a xs))->GY K G a ks vs xs->aB K G ds vs->DS K H a xs/\FZ K G ks ds xs:=λh1 h2 h3=>⟨⟨h1,h2.1,h2.2.1,h2.2.2.1,λx hx=>cC.mono sub (h2.2.2.2.1 x hx)⟩,h2.2.2.2.2.1,_,h2.2.2.2.2.2,h3⟩
 rcases h with h | ⟨a,rfl,xs,vs,h1,h2,h3⟩
 ·simp only[aC] at h;obtain⟨a,xs,vs,rfl,h1,h2,h3⟩:=h;exact⟨a,xs,rfl,go (sub _ _ h1) h2 h3⟩
 ·exact⟨a,xs,rfl,go h1 h2 h3⟩
theorem GG{k:bB}:∀{xs:oB} {ks:List bB} {ds:List D},FZ K G ks ds xs->(atKey xs k=none/\jQ ks ds k=none)\/∃p d v,atKey xs k=some p/\jQ ks ds k=some d/\aU v p.2/\aC K G d v
 |[],_,_,⟨rfl,_⟩=>.inl ⟨rfl,rfl⟩
 |q::xs,_,ds,⟨rfl,vs,h1,h2⟩=>by
  cases h1 with
  | @cons v u vs us h1 t1 =>
   obtain _ | ⟨d,ds⟩:=ds
   ·simp only[aB] at h2;cases h2
   ·simp only[aB] at h2;obtain⟨v',r,e,h3,h4⟩:=h2;cases e;have ih:=GG (k:=k) (xs:=xs) (ks:=xs.map (·.1)) (ds:=ds) ⟨rfl,_,t1,h4⟩;unfold atKey jQ at ih ⊢;rw[Zs,List.zip_cons_cons,List.find?_cons,List.find?_cons];by_cases e:q.1=k
    ·rw[Zn e];exact .inr ⟨_,_,_,rfl,rfl,h1,h3⟩
    ·rw[Zm e];exact ih
theorem BP{k:bB}:∀(xs:oB),(atKey xs k).isSome=nC (xs.map (·.1)) k
 |[]=>rfl
 |q::xs=>by
  have ih:=BP (k:=k) xs;unfold atKey nC at ih ⊢;rw[Zs,List.find?_cons,List.any_cons];by_cases e:q.1=k
  ·rw[Zn e];rfl
  ·rw[Zm e];exact ih
theorem AV{ks:List bB}{ds:List D}{xs:oB}(r:FZ K G ks ds xs)(k:bB):(atKey xs k).isSome=nC ks k:=by rw[<- r.1];exact BP xs
theorem FX{k:bB}{d:D}{v:V}{u:Value}(hv:aU v u)(hd:aC K G d v):∀{xs:oB} {ds:List D} {vs:List V},aL vs (xs.map (·.2.2))->aB K G ds vs ->
  (xs.map (putAt k u)).map (·.1)=xs.map (·.1)/\∃ws,aL ws ((xs.map (putAt k u)).map (·.2.2))/\aB K G (((xs.map (·.1)).zip ds).map λp=>if p.1=k then d else p.2) ws
 |[],ds,vs,h1,h2=>⟨rfl,[],.nil,by simp[aB]⟩
 |q::xs,ds,vs,h1,h2=>by
  cases h1 with
  | @cons v0 u0 vs us h1 t1 =>
   obtain _ | ⟨d0,ds⟩:=ds
   ·simp only[aB] at h2;cases h2
   ·simp only[aB] at h2;obtain⟨v',r,e,h3,h4⟩:=h2;cases e;obtain⟨g1,ws,g2,g3⟩:=FX hv hd (xs:=xs) t1 h4;rw[Zs,Zs,Zs,Zs,List.zip_cons_cons,Zs,g1];unfold putAt;by_cases e:q.1=k
    ·rw[Zo e];exact⟨rfl,v::ws,.cons hv g2,aB.cons (by rw[Zo e];exact hd) g3⟩
    ·rw[Zp e];exact⟨rfl,_::ws,.cons h1 g2,aB.cons (by rw[Zp e];exact h3) g3⟩
theorem aL.snoc{vs:List V}{us:List Value}{v:V}{u:Value}(h:aL vs us)(hv:aU v u):aL (vs++[v]) (us++[u]):=h.append (.cons hv .nil)
theorem aBl{ks:List bB}{ds:List D}{xs:oB}(r:FZ K G ks ds xs){k:bB}{b:Addr}{d:D}{v:V}{u:Value}(hv:aU v u)(hd:aC K G d v):FZ K G (oY ks k) (pB ks ds k d) (storedH xs k b u):=by
 obtain⟨rfl,vs,h1,h2⟩:=r;unfold oY pB storedH;rw[<- BP xs];split
 ·exact FX hv hd h1 h2
 ·refine⟨by rw[zd];rfl,_, ?_,aB.app h2 (aB.cons hd aB.nil)⟩;rw[zd];exact aL.snoc h1 hv
theorem nI(hK:X.K=K)(hu:X.A.units+64<cLine)(op:CmpOp):dM X (compareOp op) (B4 K op):=by
 intro pins s σ H x y v u Q I rx ry h;obtain⟨G,d,e,b,sub,hx,hy,eb,k⟩:=h
 cases op with
 |Eq =>
  change (if bM 20 d&&bM 20 e then some _ else none)=_ at eb;split at eb
  ·rename_i hc;cases eb;rw[ZB] at hc;exact(LI I hK sub (by omega) hc.1 hc.2 hx hy rx ry).1 _ _ _ _ ⟨.bl _,H,I,rfl,k⟩
  ·cases eb
 |NotEq =>
  change (if bM 20 d&&bM 20 e then some _ else none)=_ at eb;split at eb
  ·rename_i hc;cases eb;rw[ZB] at hc;exact(LI I hK sub (by omega) hc.1 hc.2 hx hy rx ry).2 _ _ _ _ ⟨.bl _,H,I,rfl,k⟩
  ·cases eb
 |Lt =>
  cases d with
  |int =>
   cases e with
   |int =>
    cases hx.int;cases hy.int;change some _=_ at eb;cases eb;exact aDF pins s σ H _ _ _ _ Q I rx ry ⟨_,_,rfl,rfl,k⟩
   |_=>exact(aD eb).elim
  |_=>exact(aD eb).elim
 |LtE =>
  cases d with
  |int =>
   cases e with
   |int =>
    cases hx.int;cases hy.int;change some _=_ at eb;cases eb;exact aDK pins s σ H _ _ _ _ Q I rx ry ⟨_,_,rfl,rfl,k⟩
   |_=>exact(aD eb).elim
  |_=>exact(aD eb).elim
 |Gt =>
  cases d with
  |int =>
   cases e with
   |int =>
    cases hx.int;cases hy.int;change some _=_ at eb;cases eb;exact aEH pins s σ H _ _ _ _ Q I rx ry ⟨_,_,rfl,rfl,k⟩
   |_=>exact(aD eb).elim
  |_=>exact(aD eb).elim
 |GtE =>
  cases d with
  |int =>
   cases e with
   |int =>
    cases hx.int;cases hy.int;change some _=_ at eb;cases eb;exact aEV pins s σ H _ _ _ _ Q I rx ry ⟨_,_,rfl,rfl,k⟩
   |_=>exact(aD eb).elim
  |_=>exact(aD eb).elim
 |Is =>
  cases e with
  |non =>
   cases hy.non;refine aAU pins s σ H _ _ _ _ Q I rx ry ⟨rfl, ?_⟩;by_cases hd:d=.non
   ·subst hd;cases hx.non;change some _=_ at eb;cases eb;simpa using k
   ·have:¬x=.non:=λz=>by
     subst z;rcases hx with hx | ⟨_,z,_⟩
     ·cases d<;>first | exact hd rfl | simp[aC] at hx
     ·cases z
    cases d with
    |non=>exact absurd rfl hd
    |_ =>
     change some _=_ at eb;cases eb;simpa[this] using k
  |bl =>
   cases d with
   |bl =>
    cases hx.bl;cases hy.bl;change some _=_ at eb;cases eb;cases rx;cases ry;exact is_bool ⟨.bl _,H,I,rfl,k⟩
   |_=>exact(aD eb).elim
  |_=>cases d<;>exact(aD eb).elim
 |IsNot =>
  cases e with
  |non =>
   cases hy.non;refine V4 pins s σ H _ _ _ _ Q I rx ry ⟨rfl, ?_⟩;by_cases hd:d=.non
   ·subst hd;cases hx.non;change some _=_ at eb;cases eb;simpa using k
   ·have:¬x=.non:=λz=>by
     subst z;rcases hx with hx | ⟨_,z,_⟩
     ·cases d<;>first | exact hd rfl | simp[aC] at hx
     ·cases z
    cases d with
    |non=>exact absurd rfl hd
    |_ =>
     change some _=_ at eb;cases eb;simpa[this] using k
  |_=>cases d<;>exact(aD eb).elim
 |In =>
  cases e with
  |tup ds =>
   change (if cB d&&ds.all cB then some _ else none)=_ at eb;split at eb
   ·rename_i hc;cases eb;rw[ZB] at hc;obtain⟨a,vs,rfl,h1,h2⟩:=hy.tup sub;obtain⟨i1,i2⟩:=sJ (hx.flat hc.1) hc.1 h2 hc.2;refine AW pins s σ H _ _ _ _ Q I rx ry ⟨a,vs,rfl,.inr (hK ▸ h1),(kY (hx.flat hc.1) hc.1).1,i1, ?_⟩;simpa[i2] using k
   ·cases eb
  |lst ds =>
   change (if cB d&&ds.all cB then some _ else none)=_ at eb;split at eb
   ·rename_i hc;cases eb;rw[ZB] at hc;obtain⟨a,vs,rfl,h1,h2⟩:=hy.lst sub;obtain⟨i1,i2⟩:=sJ (hx.flat hc.1) hc.1 h2 hc.2;refine AW pins s σ H _ _ _ _ Q I rx ry ⟨a,vs,rfl,.inl (hK ▸ h1),(kY (hx.flat hc.1) hc.1).1,i1, ?_⟩;simpa[i2] using k
   ·cases eb
  |dcs ks es =>
   change yM d ks=_ at eb;unfold yM at eb
   cases hs:eP d with
   |none=>rw[hs] at eb;cases eb
   |some k0 =>
    rw[hs] at eb;cases eb;subst hK;obtain⟨b0,rfl,kk⟩:=nF hs hx;obtain⟨a,xs,rfl,ds,pr⟩:=hy.dcs sub;cases rx;cases ry;refine aF5 (by omega) I ds (cC.mono sub kk) λs3 I3=>⟨.bl _,H,I3,rfl, ?_⟩
    rw[AV pr];exact k
  |_=>exact(aD eb).elim
 |NotIn =>
  cases e with
  |tup ds =>
   change (if cB d&&ds.all cB then some _ else none)=_ at eb;split at eb
   ·rename_i hc;cases eb;rw[ZB] at hc;obtain⟨a,vs,rfl,h1,h2⟩:=hy.tup sub;obtain⟨i1,i2⟩:=sJ (hx.flat hc.1) hc.1 h2 hc.2;refine tI pins s σ H _ _ _ _ Q I rx ry ⟨a,vs,rfl,.inr (hK ▸ h1),(kY (hx.flat hc.1) hc.1).1,i1, ?_⟩;simpa[i2] using k
   ·cases eb
  |lst ds =>
   change (if cB d&&ds.all cB then some _ else none)=_ at eb;split at eb
   ·rename_i hc;cases eb;rw[ZB] at hc;obtain⟨a,vs,rfl,h1,h2⟩:=hy.lst sub;obtain⟨i1,i2⟩:=sJ (hx.flat hc.1) hc.1 h2 hc.2;refine tI pins s σ H _ _ _ _ Q I rx ry ⟨a,vs,rfl,.inl (hK ▸ h1),(kY (hx.flat hc.1) hc.1).1,i1, ?_⟩;simpa[i2] using k
   ·cases eb
  |dcs ks es =>
   change (yM d ks).map (!·)=_ at eb;unfold yM at eb
   cases hs:eP d with
   |none=>rw[hs] at eb;cases eb
   |some k0 =>
    rw[hs] at eb;cases eb;subst hK;obtain⟨b0,rfl,kk⟩:=nF hs hx;obtain⟨a,xs,rfl,ds,pr⟩:=hy.dcs sub;cases rx;cases ry;refine V6 (by omega) I ds (cC.mono sub kk) λs3 I3=>⟨.bl _,H,I3,rfl, ?_⟩
    rw[AV pr];exact k
  |_=>exact(aD eb).elim
end
section
variable{X:Cx}{K:Frag}{pins:List (Addr×Obj)}{σ:St}{H G:Hp}{s:Shared}
theorem SJ{ds:List D}{vs:List V}{i:Int}{d:D}(h:aB K G ds vs)(e:eO ds i=some d):∃v,eO vs i=some v/\aC K G d v:=by
 unfold eO at e ⊢;rw[h.len]
 cases q:kD ds.length i with
 |none=>rw[q] at e;cases e
 |some j =>
  rw[q] at e;exact h.get e
noncomputable def aFD(K:Frag):R2:=λx y H Q=>∃G d e r,aK G H/\bX K H G d x/\bX K H G e y/\NA d e=some r/\∀z,aC K G r z->Q z H
theorem kE.imp{r r':R2}(h:kE X r)(w:∀x y H Q,r' x y H Q->r x y H Q):kE X r':=λva sl pins s σ H x y v u Q I rx ry q hs=>h va sl pins s σ H x y v u Q I rx ry (w x y H Q q) hs
theorem NJ{x:Str}(h:PyData.strOk x=true){i:Int}{c:Nat}(e:eO x.cps.toList i=some c):PyData.strOk ⟨#[c]⟩=true:=by
 unfold PyData.strOk at *
 have hm:c∈x.cps.toList:=by
  unfold eO at e
  cases q:kD x.cps.toList.length i with
  |none=>rw[q] at e;cases e
  |some j=>rw[q] at e;exact zj e
 have:=Array.all_eq_true'.mp h c (by simpa using hm)
 simpa using this
theorem aES:kE X (λ_ _ _ _=>False):=λ_ _ _ _ _ _ _ _ _ _ _ _ _ _ h _=>h.elim
noncomputable def JV(K:Frag):R2:=λx y H Q=>∃a b xs k p v,x=.ref a/\y=.ref b/\DS K H a xs/\cC K H k b/\atKey xs k=some p/\aU v p.2/\Q v H
theorem DS.typeIs{a:Addr}{xs:oB}(I:Inv X pins σ H s)(d:DS X.K H a xs):s.TypeIs (.ref a) "dict":=by
 obtain⟨o,es,ep,h1,h2,_⟩:=d.dict I;exact⟨o,h1,h2.1⟩
theorem OD(hu:X.A.units+11<cLine):kE X (JV X.K):=by
 intro value slice pins s σ H x y v u Q I rx ry h hs;obtain⟨a,b,xs,k,p,z,rfl,rfl,ds,kk,e,en,q⟩:=h;cases rx;cases ry;have hT:=DS.typeIs I ds;unfold subscriptTail;refine Zt ?_;rw[getitemInPython_of_ne hT.not_modules];refine Zt (wpAny_specialOf hT PySem.F.slot_dict_getitem.lookup ?_)
 have fin:wpAny (model X.prog X.w) X.A (subscripted slice false (.ref a) (.ref b)) (λr s₃=>wpAny (model X.prog X.w) X.A (letTemporaryGo value (.ref a) r>>=λ_=>pure r) (EP X pins σ Q) X.xe s₃) X.xe s:=by(rw[hs];exact wpAny_operating (LN hu I ds kk e λs3 I3=>Zt (wpAny_letTemporaryGo (Zu ⟨z,H,I3,en,q⟩))))
 first
  |exact Zu (Zt fin)
  |exact Zt (Zu (Zt fin))
  |exact Zt fin
theorem aDS(hK:X.K=K)(hu:X.A.units+11<cLine):kE X (aFD K):=by
 refine kE.imp ((aAW.or aES).or (OD hu)) λx y H Q h=>?_
 obtain⟨G,d,e,r,sub,hx,hy,er,k⟩:=h;subst hK;unfold NA at er;split at er
 ·cases hy.int;obtain⟨a,vs,rfl,h1,h2⟩:=hx.tup sub;obtain⟨v,h3,h4⟩:=SJ h2 er;exact .inl (.inl (.inr (.inl ⟨a,vs,_,v,rfl,rfl,h1,h3,k v h4⟩)))
 ·cases hy.int;obtain⟨a,vs,rfl,h1,h2⟩:=hx.lst sub;obtain⟨v,h3,h4⟩:=SJ h2 er;exact .inl (.inl (.inl ⟨a,vs,_,v,rfl,rfl,h1,h3,k v h4⟩))
 ·rename_i ks es
  cases hs:eP e with
  |none=>rw[hs] at er;cases er
  |some k0 =>
   rw[hs] at er;simp only[Option.bind_some] at er;obtain⟨b0,rfl,kk⟩:=nF hs hy;obtain⟨a,xs,rfl,ds,pr⟩:=hx.dcs sub;rcases GG (k:=k0) pr with ⟨_,h2⟩ | ⟨p,n,v,h1,h2,h3,h4⟩
   ·rw[h2] at er;cases er
   ·rw[h2] at er;cases er;exact .inr ⟨a,b0,xs,k0,p,v,rfl,rfl,ds,cC.mono sub kk,h1,h3,k _ h4⟩
 ·split at er
  ·rename_i hz;cases hy.int;obtain⟨rfl,ok⟩:=hx.str
   cases q:eO ‹Str›.cps.toList ‹Int› with
   |none=>rw[q] at er;cases er
   |some c =>
    rw[q] at er;cases er;exact .inl (.inl (.inr (.inr ⟨_,_,c,rfl,rfl,Zr hz (by decide),q,k _ (show aC X.K G (.str _) _ by unfold aC;exact⟨rfl,NJ ok q⟩)⟩)))
  ·cases er
 ·cases er
theorem K3{ds:List D}{vs:List V}{lo hi:Option Int}(h:aB K G ds vs):aB K G (iP ds lo hi) (pG vs lo hi):=by
 unfold iP pG;rw[h.len];exact(h.drop _).take _
def aGJ(K:Frag):V->Option Int->Option Int->Hp->VK->Prop:=λx lo hi H Q=>∃G d v,aK G H/\bX K H G d x/\R7 d lo hi=some v/\∀z H',yI K H G v z H'->Q z H'
theorem aEU(hK:X.K=K):uS X (aGJ K):=by
 intro pins s σ H x v vl vu lo hi sl Q I rx hs pl pu h;obtain⟨G,d,r,sub,hx,er,k⟩:=h;subst hK;refine uS.or YR WA pins s σ H x v vl vu lo hi sl Q I rx hs pl pu ?_;unfold R7 at er;split at er
 ·cases er;obtain⟨a,vs,rfl,h1,h2⟩:=hx.lst sub;exact .inl ⟨a,vs,rfl,h1,λp hp=>k _ _ (.inr (.inl ⟨_,_,p,rfl,hp,K3 h2,rfl,rfl⟩))⟩
 ·rename_i ds;cases er;obtain⟨a,vs,rfl,h1,h2⟩:=hx.tup sub;refine .inr ⟨a,vs,rfl,h1,λp hp=>k _ _ (.inr (.inr ⟨_,_,p,rfl,hp,K3 h2,rfl,rfl⟩)),λhw=>k _ _ (.inl ⟨_,rfl, ?_,rfl⟩)⟩
  have hc:iP ds lo hi=ds:=by(unfold iP;rw[<- h2.len,hw.1,hw.2,h2.len,List.drop_zero,Nat.sub_zero,List.take_length])
  rw[hc];rcases hx with hx | ⟨_,_,hx⟩
  ·exact hx
  ·exact hx.elim
 ·cases er
def x5(K:Frag)(H G:Hp):List D->List V->Prop
 |[],xs=>xs=[]
 |d::ds,xs=>∃x r,xs=x::r/\bX K H G d x/\x5 K H G ds r
theorem eY{d:D}{xs:List V}(h:x5 K H G [d] xs):∃x,xs=[x]/\bX K H G d x:=by
 obtain⟨x,r,rfl,h1,h2⟩:=h;cases (show r=[] from h2);exact⟨x,rfl,h1⟩
theorem aBt{d e:D}{xs:List V}(h:x5 K H G [d,e] xs):∃x y,xs=[x,y]/\bX K H G d x/\bX K H G e y:=by
 obtain⟨x,r,rfl,h1,h2⟩:=h;obtain⟨y,rfl,h3⟩:=eY h2;exact⟨x,y,rfl,h1,h3⟩
def rBi(K:Frag)(f:BI):List V->Hp->VK->Prop:=λxs H Q=>∃G ds v,aK G H/\x5 K H G ds xs/\lW f ds=some v/\∀z H',yI K H G v z H'->Q z H'
noncomputable def biV:BI->Value
 |.len=>.builtin "len"
 |.abs=>.builtin "abs"
 |.int=>.type "int"
 |.list=>.type "list"
 |.tuple=>.type "tuple"
 |.min=>.builtin "min"
 |.max=>.builtin "max"
 |.all=>.builtin "all"
 |.repr=>.builtin "repr"
 |.str=>.type "str"
 |.sorted=>.builtin "sorted"
theorem EA:∀{ds:List D} {vs:List V} {us:List Value} {bs:List Bool},aB K G ds vs->aL vs us->gJ ds=some bs->LSm.BoolsAre us bs
 |[],_,_,_,h,r,e=>by
  simp only[aB] at h;subst h;cases r;cases e;exact .nil
 |d::ds,_,_,_,h,r,e=>by
  simp only[aB] at h;obtain⟨v,r',rfl,h1,h2⟩:=h
  cases r with
  |cons ra rb =>
   cases d<;>simp only[gJ,reduceCtorEq] at e;rename_i b
   cases q:gJ ds with
   |none=>rw[q] at e;cases e
   |some bs' =>
    rw[q] at e;cases e;simp only[aC] at h1;subst h1;cases ra;exact .cons b (EA h2 rb q)
theorem P1(hc:X.A.handled=none):eZ X (.builtin "all") (λxs H Q=>∃a vs ds bs G,xs=[.ref a]/\bY X.K H a vs/\aB X.K G ds vs/\gJ ds=some bs/\Q (.bl (bs.all id)) H):=by
 intro pins s σ H xs us Q I r h;obtain⟨a,vs,ds,bs,G,rfl,h1,h2,h3,q⟩:=h;obtain⟨u,rfl,rx⟩:=jL r;cases rx;obtain⟨its,rv,hl,z⟩:=uA I h1;have hb:=EA h2 rv h3;have hlt:a<s.heap.objs.size:=by obtain⟨_,e,_⟩:=hl;exact Zv e
 refine call_all_walk (wpAny_pyIter_list hl ?_)
 refine⟨s.heap.objs.size,[s.heap.objs.size,a],[s.heap.objs.size],its.toArray.size,_,_,λi=>(bs[i]?).getD true,rfl,Walks.list (A:=X.A.in1) hc _ a (Zz hlt) its.toArray,
  ⟨⟨_,Zw _ rfl,rfl,rfl⟩,hl.push _⟩,λi v s' Q' E' hP hQ=>?_,λh' tk hk=>?_⟩
 ·obtain⟨b,e,rfl⟩:=hb.get i v (by simpa using hP);simp only[e,Option.getD_some] at hQ;exact wpAny_truthy_bool hQ
 ·have e:((List.range its.toArray.size).all λi=>(bs[i]?).getD true)=bs.all id:=by
   rw[Zi,hb.length];exact LSm.range_all bs
  rw[e];exact⟨.bl _,H,I.kept (t':=tk) (LSm.kept_iter hk),rfl,q⟩
theorem F9:∀{ds:List D} {vs:List V} {us:List Value} {is:List Int},aB K G ds vs->aL vs us->fA ds=some is->IntsAre us is
 |[],_,_,_,h,r,e=>by
  simp only[aB] at h;subst h;cases r;cases e;exact .nil
 |d::ds,_,_,_,h,r,e=>by
  simp only[aB] at h;obtain⟨v,r',rfl,h1,h2⟩:=h
  cases r with
  |cons ra rb =>
   cases d<;>simp only[fA,reduceCtorEq] at e;rename_i b
   cases q:fA ds with
   |none=>rw[q] at e;cases e
   |some bs' =>
    rw[q] at e;cases e;simp only[aC] at h1;subst h1;obtain⟨t,rfl⟩:=ra;exact .cons _ _ (F9 h2 rb q)
theorem aGN(i:Int):∀(r:List Int),(r.foldl (λm y=>if y > m then y else m) i)∈i::r/\∀a∈i::r,a<=r.foldl (λm y=>if y > m then y else m) i:=by
 intro r
 induction r generalizing i with
 |nil=>exact⟨by simp,λa ha=>by simp at ha;simp;omega⟩
 |cons y r ih =>
  simp only[List.foldl_cons];obtain⟨h1,h2⟩:=ih (if y > i then y else i);refine⟨?_,λa ha=>?_⟩
  ·rcases List.mem_cons.mp h1 with h | h
   ·rw[h];split
    ·simp
    ·simp
   ·exact Ze _ (Ze _ h)
  ·have h3:=h2 (if y > i then y else i) (by simp);have h4:i<=(if y > i then y else i):=by split<;>omega
   have h5:y<=(if y > i then y else i):=by split<;>omega
   rcases List.mem_cons.mp ha with h | h
   ·rw[h];exact Int.le_trans h4 h3
   ·rcases List.mem_cons.mp h with h | h
    ·rw[h];exact Int.le_trans h5 h3
    ·exact h2 a (Ze _ h)
theorem LJ(hc:X.calm=true):eZ X (.builtin "max") (λxs H Q=>∃a vs ds i r G,xs=[.ref a]/\bY X.K H a vs/\aB X.K G ds vs/\fA ds=some (i::r)/\Q (.int (r.foldl (λm y=>if y > m then y else m) i)) H):=by
 intro pins s σ H xs us Q I r h;obtain⟨a,vs,ds,i,ns,G,rfl,h1,h2,h3,q⟩:=h;obtain⟨u,rfl,rx⟩:=jL r;cases rx;obtain⟨its,rv,hl,z⟩:=uA I h1;have hi:=F9 h2 rv h3;obtain⟨xs,e⟩:=hi.allInts.items
 have hns:i::ns=xs.toList.map (·.1):=by(rw[<- hi.numsOf,<- nums_intItems,<- e])
 have hsz:0<xs.size:=by
  have h3:0<(i::ns).length:=by simp
  rw[hns,List.length_map,Array.length_toList] at h3;exact h3
 rw[e] at hl;refine max_intList (I.ok.hd hc) hl hsz λv h' tk hv hk=>?_
 obtain⟨t,rfl⟩:=intItems_at hv;obtain⟨k1,k2⟩:=argBest_gt (numAt xs) (xs.size-1)
 have m1:numAt xs (argBest (λi j=>decide (numAt xs i > numAt xs j)) (xs.size-1))∈i::ns:=by(rw[hns,numAt_eq];exact getD_mem (by rw[List.length_map,Array.length_toList];omega))
 have m2:∀b∈i::ns,b<=numAt xs (argBest (λi j=>decide (numAt xs i > numAt xs j)) (xs.size-1)):=λb ha=>by(rw[hns] at ha;obtain⟨j,hj,rfl⟩:=mem_getD ha;rw[List.length_map,Array.length_toList] at hj;rw[<- numAt_eq];exact k2 j (by omega))
 obtain⟨m3,m4⟩:=aGN i ns;have e2:numAt xs (argBest (λi j=>decide (numAt xs i > numAt xs j)) (xs.size-1))=ns.foldl (λm y=>if y > m then y else m) i:=Int.le_antisymm (m4 _ m1) (m2 _ m3);refine⟨.int _,H,I.kept hk,⟨t,rfl⟩, ?_⟩;rw[e2];exact q
theorem JM{P:Program}{w:World}(d:Addr)(hd:(d==sysModules)=false):MeetsIn P w (Builtin.«dict.__len__» ⟨[.ref d],[]⟩) (λ_ R s=>∃xs,dY d xs s.heap/\R (.ok (.ret (.int xs.length s.toks))) { s with toks:=s.toks+1 }):=by
 refine .of_wp λA R s ⟨xs,⟨o,es,ep,ho,hc,hdat,hk⟩,h⟩=>?_
 have e:es.size=xs.length:=by rw[<- Array.length_toList,hk,List.length_map]
 show wpAny _ _ ((dictEntries d>>=_)>>=_) _ _ s;refine Zt (Zt (wpAny_dictEntries ho hdat ?_));refine Zu (Zt (wpAny_pendingCount_other hd (wpAny_ret_mkInt ?_)));rw[Nat.add_zero,e];exact h
theorem aDY{a:Addr}{xs:oB}(I:Inv X pins σ H s)(d:DS X.K H a xs){Q:Value->Shared->Prop}(h:∀t s',Inv X pins σ H s'->Q (.int xs.length t) s'):wpAny (model X.prog X.w) X.A (call (.builtin "len") [.ref a]) Q X.xe s:=by
 have hT:=DS.typeIs I d;have z:=d.len;rw[sizeLine_eq] at z;have hr:dY a xs s.heap:=(show dA X.prog X.w H s.heap a (.ext (dY a xs)) from I.hok a _ d.at_).1;refine Calls.call_function_entry kind_len plain_len entry_len (args_len1 _) ?_;unfold Builtin.«len»
 refine Zt (m:=oneArg "len" _) (Zu (Zt (m:=callSpecial? (.ref a) (Str.ofString "__len__")) (wpAny_callSpecial?_slot (name:=Str.ofString "__len__") hT PySem.F.slot_dict_len
  (call_meetsIn PySem.F.slot_dict_len hT PySem.F.entry_dict_len (PySem.F.args_dict_len_1 _) (JM a d.sm) ⟨xs,hr, ?_⟩))))
 refine Zt (wpAny_holding (Zu (Zt (wpAny_letGo ?_))));have h1:¬((xs.length:Nat):Int)<0:=by omega
 have h2:¬((xs.length:Nat):Int) >= 2 ^ 63:=by omega
 show wpAny _ _ (if((xs.length:Nat):Int)<0 then _ else _) _ _ _;rw[Zp h1];show wpAny _ _ (if((xs.length:Nat):Int) >= 2 ^ 63 then _ else _) _ _ _;rw[Zp h2];exact Zt (wpAny_mkInt (Zu ⟨_,rfl,h _ _ ((I.tok _).tok _)⟩))
theorem aEA(hK:X.K=K)(hc:X.calm=true)(hh:X.A.handled=none)(rm:Room 2 X.A)(f:BI):eZ X (biV f) (rBi K f):=by
 intro pins s σ H xs us Q I r h;obtain⟨G,ds,v,sub,hx,e,k⟩:=h;subst hK
 cases f with
 |len =>
  obtain _ | ⟨d,_ | ⟨_,_⟩⟩:=ds
  ·exact(aD e).elim
  ·cases d with
   |lst =>
    change some _=_ at e;cases e;obtain⟨x,rfl,h1⟩:=eY hx;obtain⟨a,vs,rfl,h2,h3⟩:=h1.lst sub;exact rL pins s σ H _ us Q I r ⟨a,vs,rfl,.inl h2,by rw[h3.len];exact k _ _ cJ⟩
   |tup =>
    change some _=_ at e;cases e;obtain⟨x,rfl,h1⟩:=eY hx;obtain⟨a,vs,rfl,h2,h3⟩:=h1.tup sub;exact rL pins s σ H _ us Q I r ⟨a,vs,rfl,.inr h2,by rw[h3.len];exact k _ _ cJ⟩
   |dcs =>
    change some _=_ at e;cases e;obtain⟨x,rfl,h1⟩:=eY hx;obtain⟨a,zs,rfl,h2,h3,_⟩:=h1.dcs sub;obtain⟨u,rfl,ru⟩:=jL r;cases ru;refine aDY I h2 λt s' I'=>⟨.int (zs.length:Int),H,I',⟨t,rfl⟩, ?_⟩
    rw[show zs.length=_ from(List.length_map _).symm.trans (congrArg List.length h3)];exact k _ _ cJ
   |str x =>
    change @ite _ (x.length<=1000000) (cl _) _ none=_ at e;split at e
    ·rename_i hz;cases e;obtain⟨x,rfl,h1⟩:=eY hx;obtain⟨rfl,_⟩:=h1.str;exact B6 pins s σ H _ us Q I r ⟨_,rfl,Zr hz (by decide),k _ _ cJ⟩
    ·cases e
   |_=>exact(aD e).elim
  ·cases d<;>exact(aD e).elim
 |abs =>
  obtain _ | ⟨d,_ | ⟨_,_⟩⟩:=ds
  ·exact(aD e).elim
  ·cases d with
   |int =>
    change some _=_ at e;cases e;obtain⟨x,rfl,h1⟩:=eY hx;cases h1.int;exact PU pins s σ H _ us Q I r ⟨_,rfl,k _ _ cJ⟩
   |_=>exact(aD e).elim
  ·cases d<;>exact(aD e).elim
 |int =>
  obtain _ | ⟨d,_ | ⟨_,_⟩⟩:=ds
  ·exact(aD e).elim
  ·cases d with
   |int =>
    change some _=_ at e;cases e;obtain⟨x,rfl,h1⟩:=eY hx;cases h1.int;exact AF pins s σ H _ us Q I r (.inl ⟨_,rfl,k _ _ cJ⟩)
   |bl =>
    change some _=_ at e;cases e;obtain⟨x,rfl,h1⟩:=eY hx;cases h1.bl;exact AF pins s σ H _ us Q I r (.inr ⟨_,rfl,k _ _ cJ⟩)
   |_=>exact(aD e).elim
  ·cases d<;>exact(aD e).elim
 |list =>
  obtain _ | ⟨d,_ | ⟨_,_⟩⟩:=ds
  ·exact(aD e).elim
  ·cases d with
   |lst =>
    change some _=_ at e;cases e;obtain⟨x,rfl,h1⟩:=eY hx;obtain⟨a,vs,rfl,h2,h3⟩:=h1.lst sub;exact tL pins s σ H _ us Q I r ⟨a,vs,rfl,.inl h2,λp hp=>k _ _ (.inr (.inl ⟨_,_,p,rfl,hp,h3,rfl,rfl⟩))⟩
   |tup =>
    change some _=_ at e;cases e;obtain⟨x,rfl,h1⟩:=eY hx;obtain⟨a,vs,rfl,h2,h3⟩:=h1.tup sub;exact tL pins s σ H _ us Q I r ⟨a,vs,rfl,.inr h2,λp hp=>k _ _ (.inr (.inl ⟨_,_,p,rfl,hp,h3,rfl,rfl⟩))⟩
   |_=>exact(aD e).elim
  ·cases d<;>exact(aD e).elim
 |tuple =>
  obtain _ | ⟨d,_ | ⟨_,_⟩⟩:=ds
  ·exact(aD e).elim
  ·cases d with
   |lst =>
    change some _=_ at e;cases e;obtain⟨x,rfl,h1⟩:=eY hx;obtain⟨a,vs,rfl,h2,h3⟩:=h1.lst sub;exact qW pins s σ H _ us Q I r ⟨a,vs,rfl,.inl ⟨h2,λp hp=>k _ _ (.inr (.inr ⟨_,_,p,rfl,hp,h3,rfl,rfl⟩))⟩⟩
   |tup =>
    change some _=_ at e;cases e;obtain⟨x,rfl,h1⟩:=eY hx;have h1':=h1;obtain⟨a,vs,rfl,h2,h3⟩:=h1.tup sub;refine qW pins s σ H _ us Q I r ⟨a,vs,rfl,.inr ⟨h2, ?_⟩⟩;rcases h1' with h1' | ⟨_,_,h1'⟩
    ·exact k _ _ (.inl ⟨_,rfl,h1',rfl⟩)
    ·exact h1'.elim
   |_=>exact(aD e).elim
  ·cases d<;>exact(aD e).elim
 |min=>exact(aD e).elim
 |max =>
  obtain _ | ⟨d,_ | ⟨d2,_ | ⟨_,_⟩⟩⟩:=ds
  ·exact(aD e).elim
  ·cases d with
   |lst ds =>
    change (match fA ds with | some (i::r)=>some (RV.sh (.int (r.foldl (λm y=>if y > m then y else m) i))) | _=>none)=_ at e;split at e
    ·rename_i i r' q;cases e;obtain⟨x,rfl,h1⟩:=eY hx;obtain⟨a,vs,rfl,h2,h3⟩:=h1.lst sub;exact LJ hc pins s σ H _ us Q I r ⟨a,vs,ds,i,r',G,rfl,h2,h3,q,k _ _ cJ⟩
    ·cases e
   |_=>exact(aD e).elim
  ·cases d with
   |int =>
    cases d2 with
    |int =>
     change some _=_ at e;cases e;obtain⟨x,y,rfl,h1,h2⟩:=aBt hx;cases h1.int;cases h2.int;exact K6 hc pins s σ H _ us Q I r ⟨_,_,rfl,k _ _ cJ⟩
    |_=>exact(aD e).elim
   |_=>exact(aD e).elim
  ·cases d with
   |int=>cases d2<;>exact(aD e).elim
   |_=>exact(aD e).elim
 |all =>
  obtain _ | ⟨d,_ | ⟨_,_⟩⟩:=ds
  ·exact(aD e).elim
  ·cases d with
   |lst ds =>
    change (gJ ds).map _=_ at e
    cases q:gJ ds with
    |none=>rw[q] at e;cases e
    |some bs =>
     rw[q] at e;cases e;obtain⟨x,rfl,h1⟩:=eY hx;obtain⟨a,vs,rfl,h2,h3⟩:=h1.lst sub;exact P1 hh pins s σ H _ us Q I r ⟨a,vs,ds,bs,G,rfl,h2,h3,q,k _ _ V9⟩
   |_=>exact(aD e).elim
  ·cases d<;>exact(aD e).elim
 |repr=>exact(aD e).elim
 |sorted =>
  exact(aD e).elim
 |str =>
  exact(aD e).elim
noncomputable def OH:Ty->V
 |.int=>.ty "int"
 |.bool=>.ty "bool"
 |.str=>.ty "str"
 |.list=>.ty "list"
 |.tuple=>.ty "tuple"
 |.dict=>.ty "dict"
 |.cls _=>.ty "dict"
 |.verr=>.ty "ValueError"
theorem bX.exn{c:Str}{x:V}(sub:aK G H)(h:bX K H G (.exn c) x):∃a C,x=.ref a/\nsIn K mainGlobals c=some (some (.ref C))/\ExcG K C/\H a=some (.ext (fI a C)):=by
 rcases h with h | ⟨a,rfl,h⟩
 ·simp only[aC] at h;obtain⟨a,C,e,h1,h2,h3⟩:=h;exact⟨a,C,e,h1,h2,sub _ _ h3⟩
 ·exact h.elim
theorem aBh(hK:X.K=K)(t:Ty):eZ X (.builtin "isinstance") (λxs H Q=>∃G d x b,aK G H/\xs=[x,OH t]/\bX K H G d x/\II t d=some b/\Q (.bl b) H):=by
 intro pins s σ H xs us Q I r h;obtain⟨G,d,x,b,sub,rfl,hx,e,q⟩:=h;subst hK;obtain⟨u,w,rfl,rx,rw'⟩:=uB r;have fin:∀tk,EP X pins σ Q (.bool b) { s with toks:=tk }:=λtk=>⟨.bl b,H,I.tok tk,rfl,q⟩
 have key:∀T:String,w=.type T->∀c:String,(∀S:Value->Option Bool,True)->True:=λ_ _ _ _=>trivial
 cases t<;>simp only[II,reduceCtorEq] at e<;>(try (cases (show w=_ from rw')))
 all_goals
  cases d<;>simp only[Option.some.injEq,reduceCtorEq] at e<;>subst e
  all_goals first
   | (cases hx.non;cases (show u=Value.none from rx);exact PySem.W.kia_one PySem.W.kitx_none I.kIn True.intro (by rfl) (λz=>nomatch z) fin)
   | (cases hx.bl;cases (show u=Value.bool _ from rx);exact PySem.W.kia_one PySem.W.kitx_bool I.kIn True.intro (by rfl) (λz=>nomatch z) fin)
   | (cases hx.int;obtain⟨t,q'⟩:=(show ∃t,u=Value.int _ t from rx);cases q';exact PySem.W.kia_one PySem.W.kitx_int I.kIn True.intro (by rfl) (λz=>nomatch z) fin)
   | (obtain⟨rfl,_⟩:=hx.str;obtain⟨t,q'⟩:=(show ∃t,u=Value.str _ t from rx);cases q';exact PySem.W.kia_one PySem.W.kitx_str I.kIn True.intro (by rfl) (λz=>nomatch z) fin)
   | (obtain⟨a,vs,rfl,h2,h3⟩:=hx.lst sub;cases (show u=Value.ref a from rx);obtain⟨its,_,⟨o,n,h4,h5,_⟩,_⟩:=I.list h2;exact PySem.W.kia_one PySem.W.kitx_list I.kIn ⟨o,h4,h5⟩ (by rfl) (λz=>nomatch z) fin)
   | (obtain⟨a,C,rfl,h2,h3,h4⟩:=hx.exn sub;cases (show u=Value.ref a from rx);exact PySem.W.kia_one (vT h3) I.kIn (I.hok a _ h4).1 (OB h3) (λz=>nomatch z) fin)
   | (obtain⟨a,vs,rfl,h2,h3⟩:=hx.tup sub;cases (show u=Value.ref a from rx);obtain⟨its,_,⟨o,h4,h5,_⟩,_⟩:=I.tuple h2;exact PySem.W.kia_one PySem.W.kitx_tuple I.kIn ⟨o,h4,h5⟩ (by rfl) (λz=>nomatch z) fin)
end
section
variable{X:Cx}{pins:List (Addr×Obj)}{σ:L2.St}{H:Hp}{s:Shared}{h':Heap}
theorem MQ{t':Nat}{e it p:Addr}{o:HO}(I:Inv X pins σ H s)(k:∀b u,b≠e->b≠it->s.heap.get? b=some u->h'.get? b=some u)(fe:dQ X pins H e)(fi:dQ X pins H it)(hp:s.heap.objs.size<=p)
  (new:dA X.prog X.w (aP H p o) h' p o):Inv X pins σ (aP H p o) { s with heap:=h',toks:=t' }:=by
 have hn:H p=none:=I.hok.fresh hp;have ne:∀{b:Addr} {u:HO},H b=some u->b≠e/\b≠it:=λq=>⟨bO q fe.1,bO q fi.1⟩
 have nc:∀{b:Addr},b ∉ [e,it]->b≠e/\b≠it:=λhc=>⟨λz=>hc (by simp[z]),λz=>hc (by simp[z])⟩
 refine I.step (g':=s.gens) (d':=s.drawn) (ch:=[e,it]) (λb hb=>?_) (λb o _ _ hc q _=>k b o (nc hc).1 (nc hc).2 q) (λb o _ _ hc q _=>⟨o.slots,k b o (nc hc).1 (nc hc).2 q⟩)
  (λb o _ q n=>by rw[aG (Zz (Zl (Zv q) hp))];exact n)
  (λb o hc q=>⟨o,k b o (nc hc).1 (nc hc).2 q⟩) (λb xs q=>by rw[aG (bO q hn)];exact q) (λb o u q=>by rw[aG (bO q hn)];exact q) (λb ps q=>⟨#[],by rw[aG (bO q hn),q];simp⟩) (λm hm=>?_) (λb u q=>?_) I.bare
 ·have hb:b=e\/b=it:=by simpa using hb
  rcases hb with rfl | rfl
  ·exact⟨fe.2.2.2.1,fe.2.1,fe.2.2.2.2.1,fe.2.2.2.2.2⟩
  ·exact⟨fi.2.2.2.1,fi.2.1,fi.2.2.2.2.1,fi.2.2.2.2.2⟩
 ·obtain⟨o,es,ep,ho,r⟩:=hm;exact⟨o,es,ep,k _ o (Ne.symm fe.2.1) (Ne.symm fi.2.1) ho,r⟩
 ·by_cases hb:b=p
  ·subst hb;rw[aY] at q;cases q;exact new
  ·rw[aG hb] at q;refine(I.hok b u q).stay (λc v hc z=>?_) (λc q=>by rw[aG (bO q hn)];exact q) λc xs q=>by rw[aG (bO q hn)];exact q
   have hc':c≠e/\c≠it:=by
    rcases hc with w | w
    ·rw[w];exact ne q
    ·exact ne w
   exact k c v hc'.1 hc'.2 z
theorem E3{t':Nat}{e it:Addr}(I:Inv X pins σ H s)(k:∀b u,b≠e->b≠it->s.heap.get? b=some u->h'.get? b=some u)(fe:dQ X pins H e)(fi:dQ X pins H it):Inv X pins σ H { s with heap:=h',toks:=t' }:=by
 have ne:∀{b:Addr} {u:HO},H b=some u->b≠e/\b≠it:=λq=>⟨bO q fe.1,bO q fi.1⟩
 have nc:∀{b:Addr},b ∉ [e,it]->b≠e/\b≠it:=λhc=>⟨λz=>hc (by simp[z]),λz=>hc (by simp[z])⟩
 refine I.step (g':=s.gens) (d':=s.drawn) (ch:=[e,it]) (λb hb=>?_) (λb o _ _ hc q _=>k b o (nc hc).1 (nc hc).2 q) (λb o _ _ hc q _=>⟨o.slots,k b o (nc hc).1 (nc hc).2 q⟩)
  (λ_ _ _ _ n=>n) (λb o hc q=>⟨o,k b o (nc hc).1 (nc hc).2 q⟩) (λ_ _ q=>q) (λ_ _ _ q=>q) (λb ps q=>⟨#[],by rw[q];simp⟩) (λm hm=>?_) (λb u q=>?_) I.bare
 ·have hb:b=e\/b=it:=by simpa using hb
  rcases hb with rfl | rfl
  ·exact⟨fe.2.2.2.1,fe.2.1,fe.2.2.2.2.1,fe.2.2.2.2.2⟩
  ·exact⟨fi.2.2.2.1,fi.2.1,fi.2.2.2.2.1,fi.2.2.2.2.2⟩
 ·obtain⟨o,es,ep,ho,r⟩:=hm;exact⟨o,es,ep,k _ o (Ne.symm fe.2.1) (Ne.symm fi.2.1) ho,r⟩
 ·refine(I.hok b u q).stay (λc v hc z=>?_) (λ_ q=>q) λ_ _ q=>q
  have hc':c≠e/\c≠it:=by
   rcases hc with w | w
   ·rw[w];exact ne q
   ·exact ne w
  exact k c v hc'.1 hc'.2 z
end
section
variable{prog:Program}{w:World}{A:Around}{E:Value->Shared->Prop}{s:Shared}
theorem X6{e it l:Addr}{c:Int}{i:Nat}{us:Array Value}{u old:Value}{Q:Value->Shared->Prop}(q1:IsEnum s.heap e it c old)(q2:s.heap.IsListIter it l i)(q3:s.heap.IsList l us)(q4:us[i]?=some u)(ne:e≠it)
  (k:∀g,IsEnumOut g e it (c+1) u s.heap.objs.size->g.IsListIter it l (i+1)->g.get? s.heap.objs.size=some { cls:=.type "tuple",data:=.seq #[.int c s.toks,u] }->(∀b o,b≠e->b≠it->s.heap.get? b=some o->g.get? b=some o)->Q (.ref s.heap.objs.size) { s with heap:=g,toks:=s.toks+1 }) :
  wpAny (model prog w) A (Builtin.«enumerate.__next__» ⟨[.ref e],[]⟩) (λfin s'=>∃v,fin=.done (.ret v)/\Q v s') E s:=by
 obtain⟨m0,ge,dr,tk,os⟩:=s;refine Zt (m:=field (.ref e) 2) (wpAny_field q1 rfl (x:=.ref it) rfl (Zt (wpAny_nextOf_list_item q2 q3 q4 λm1 t1 b1=>?_)));have b1:Heap.SameBut it m0 m1:=b1;have e1:IsEnum m1 e it c old:=(b1.2 e ne).trans q1;refine Zt (m:=field (.ref e) 3) (wpAny_field e1 rfl (x:=rawInt c) rfl (Zt (m:=field (.ref e) 4) (wpAny_field e1 rfl (x:=.none) rfl (Zt (m:=mkInt c) (wpAny_mkInt ?_)))));refine Zt (m:=setField (.ref e) 3 (rawInt (c+1))) (wpAny_setField_rec e1 (by simp) λm2 e2 b2=>?_);have b2:Heap.SameBut e m1 m2:=b2;have e2:IsEnum m2 e it (c+1) old:=e2;refine Zt (m:=setField (.ref e) 4 .none) (wpAny_setField_rec e2 (by simp) λm3 e3 b3=>?_);have b3:Heap.SameBut e m2 m3:=b3;have e3:IsEnum m3 e it (c+1) old:=e3;refine Zt (m:=newTuple [.int c tk,u]) (wpAny_newTuple ?_);have n3:m3.objs.size=m0.objs.size:=by rw[b3.1,b2.1,b1.1]
 have lt:e<m0.objs.size:=Zv q1;obtain⟨m4,z4⟩:∃m4,m3.push { cls:=.type "tuple",data:=.seq #[.int c tk,u] }=m4:=⟨_,rfl⟩
 have e4:IsEnum m4 e it (c+1) old:=z4 ▸ Zd _ e3;have p4:m4.get? m0.objs.size=some { cls:=.type "tuple",data:=.seq #[.int c tk,u] }:=z4 ▸ n3 ▸ Zw _ rfl;have k4:∀b o,b≠e->b≠it->m0.get? b=some o->m4.get? b=some o:=λb o x y q=>z4 ▸ Zd _ (b3.extBut b o x (b2.extBut b o x (b1.extBut b o y q)))
 have t4:m4.IsListIter it l (i+1):=by(obtain⟨o,ho,r⟩:=(t1.extBut b2.extBut ne.symm).extBut b3.extBut ne.symm;exact⟨o,z4 ▸ Zd _ ho,r⟩)
 rw[n3,z4];refine Zt (m:=Builtin.SmallTypes.ownedTupleIsFree (.ref e)) ?_;unfold Builtin.SmallTypes.ownedTupleIsFree;refine Zt (wpAny_field e4 rfl (x:=.none) rfl (Zu ?_));simp only[if_true];refine Zt (wpAny_rule (Zt (wpAny_field e4 rfl (x:=old) rfl (Zt (wpAny_setField_rec e4 (by simp) λm5 e5 b5=>?_)))));have b5:Heap.SameBut e m4 m5:=b5;have e5:IsEnum m5 e it (c+1) u:=e5;refine Zt (m:=Builtin.SmallTypes.ownedTupleHandOut (.ref e) (.ref m0.objs.size)) ?_;unfold Builtin.SmallTypes.ownedTupleHandOut;refine Zt (wpAny_setField_rec e5 (by simp) λm6 e6 b6=>?_);have b6:Heap.SameBut e m5 m6:=b6;have e6:IsEnumOut m6 e it (c+1) u m0.objs.size:=e6;refine wpAny_setField_rec e6 (by simp) λm7 e7 b7=>?_
 have b7:Heap.SameBut e m6 m7:=b7;have st:∀b o,b≠e->m4.get? b=some o->m7.get? b=some o:=λb o x q=>b7.extBut b o x (b6.extBut b o x (b5.extBut b o x q))
 refine Zt (wpAny_letGo (Zu ⟨_,rfl,k m7 e7 ?_ (st _ _ (Nat.ne_of_gt lt) p4) λb o x y q=>st b o x (k4 b o x y q)⟩));exact((t4.extBut b5.extBut ne.symm).extBut b6.extBut ne.symm).extBut b7.extBut ne.symm
theorem MJ{e it l:Addr}{c:Int}{i:Nat}{us:Array Value}{u old:Value}{Q:Option Value->Shared->Prop}(q1:IsEnum s.heap e it c old)(q2:s.heap.IsListIter it l i)(q3:s.heap.IsList l us)(q4:us[i]?=some u)(ne:e≠it)
  (k:∀g,IsEnumOut g e it (c+1) u s.heap.objs.size->g.IsListIter it l (i+1)->g.get? s.heap.objs.size=some { cls:=.type "tuple",data:=.seq #[.int c s.toks,u] }->(∀b o,b≠e->b≠it->s.heap.get? b=some o->g.get? b=some o)->Q (some (.ref s.heap.objs.size)) { s with heap:=g,toks:=s.toks+1 }) :
  wpAny (model prog w) A (pyNext (.ref e)) Q E s :=
 have ty:s.TypeIs (.ref e) "enumerate":=⟨_,q1,rfl⟩
 Zt (wpAny_attempt (wpAny_callSpecial?_slot (name:=Str.ofString "__next__") ty F.slot_enumerate_next (wpAny_call_entry F.slot_enumerate_next ty F.entry_enumerate_next (X6 q1 q2 q3 q4 ne λg a b c d=>Zu (k g a b c d)) (F.args_enumerate_next_1 _))))
theorem UH{e it l:Addr}{c:Int}{i:Nat}{us:Array Value}{old:Value}{Q:Option Value->Shared->Prop}(hh:A.handled=none)(q1:IsEnum s.heap e it c old)(q2:s.heap.IsListIter it l i)(q3:s.heap.IsList l us)(q4:us[i]?=none)
  (k:∀g,Heap.ExtBut it s.heap g->Q none { s with heap:=g }):wpAny (model prog w) A (pyNext (.ref e)) Q E s:=by
 have ty:s.TypeIs (.ref e) "enumerate":=⟨_,q1,rfl⟩
 refine Zt (wpAny_attempt (wpAny_callSpecial?_slot (name:=Str.ofString "__next__") ty F.slot_enumerate_next (wpAny_call_entry F.slot_enumerate_next ty F.entry_enumerate_next ?_ (F.args_enumerate_next_1 _))));refine Zt (m:=field (.ref e) 2) (wpAny_field q1 rfl (x:=.ref it) rfl (Zt (wpAny_nextOf_list_end hh q2 q3 q4 λg x ex px=>?_)));obtain⟨o,ho,hc⟩:=px;exact Zt (wpAny_isInstance (T:="StopIteration") (b:=true) ⟨o,ho,hc⟩ isSubtype_stop (Zu (k _ ex)))
end
theorem WN(l:Addr)(us:Array Value)(n:Nat)(dct:Option Addr)(sl:Array (Option Value))(c:Int)(t:Tok)(hc:Builtin.SmallTypes.fitsIndex c=true) :
  Meets (Builtin.«enumerate.__new__» ⟨[.type "enumerate",.ref l],[("start",.int c t)]⟩) (λ_ R s=>s.heap.get? l=some { cls:=.type "list",dict:=dct,data:=.seq us n,slots:=sl } /\
   R (.ok (.ret (.ref (s.heap.push { cls:=.type "list_iterator",data:=.fields #[.ref l,.int 0 0] }).objs.size)))
    { s with heap:=(s.heap.push { cls:=.type "list_iterator",data:=.fields #[.ref l,.int 0 0] }).push { cls:=.type "enumerate",data:=.fields #[.none,.bool false,.ref s.heap.objs.size,rawInt c,.none,.none] } }) :=
 .of_wp λprog w A R s h=>by
  obtain⟨hp,g,d,tk,os⟩:=s;obtain⟨hl,h⟩:=h;have sb:=sub_enumerate;have isl:Heap.IsList (Shared.heap ⟨hp,g,d,tk,os⟩) l us:=⟨_,hl,rfl,n,rfl⟩
  wp_walk using AutoSeq1.wpAny_loadPart' hl
  refine wpAny_stack_any λst=>Zu ?_
  split
  ·rename_i v _ _ _ _ _;cases (v==Value.type "enumerate")
   ·wp_walk using AutoSeq1.wpAny_loadPart' hl,wpAny_pyIter_list isl
    exact⟨_,rfl,h⟩
   ·wp_walk using AutoSeq1.wpAny_loadPart' hl,wpAny_pyIter_list isl
    exact⟨_,rfl,h⟩
  ·wp_walk using AutoSeq1.wpAny_loadPart' hl,wpAny_pyIter_list isl
   exact⟨_,rfl,h⟩
theorem aCL(a:Value)(c:Int)(t:Tok):checkTypeCall "enumerate" ⟨[a],[("start",.int c t)]⟩=pure ():=by kernel_rfl
theorem XR(a:Value)(c:Int)(t:Tok):checkBuiltinCall "enumerate.__new__" ⟨[.type "enumerate",a],[("start",.int c t)]⟩=pure ():=by kernel_rfl
theorem YM{a b:Value}{kw:List (Str×Value)}:Meets (Builtin.«object.__init__» ⟨[a,b],kw⟩) (λ_ R s=>s.TypeIs a "enumerate"/\R (.ok (.ret .none)) s):=by
 refine Meets.of_wp λprog w A R s hs=>?_
 obtain⟨ty,hq⟩:=hs;have hl:typeLookup (.type "enumerate") "__init__"=pure (some (.builtin "object.__init__")):=F.called_enumerate.init.lookup;have hm:=F.called_enumerate.made;have hne:(some "enumerate.__new__" != some "object.__new__")=true:=by decide
 repeat (any_goals (first | assumption | wp_step))
 exact⟨_,rfl,hq⟩
theorem UG(a b:Value)(c:Int)(t:Tok):argsOk "object.__init__" ⟨[a,b],[("start",.int c t)]⟩:=by
 unfold argsOk;rw[signature?_of (id:="object.__init__") (n:="__init__".toList.reverse) (o:="object".toList.reverse) (by kernel_rfl) F.owner_object]
 kernel_rfl
section
variable{prog:Program}{w:World}{A:Around}{E:Value->Shared->Prop}{s:Shared}
theorem U0{l:Addr}{us:Array Value}{c:Int}{t:Tok}{Q:Value->Shared->Prop}(hc:Builtin.SmallTypes.fitsIndex c=true)(q:s.heap.IsList l us)
  (k:∀g,IsEnum g (s.heap.objs.size+1) s.heap.objs.size c .none->g.IsListIter s.heap.objs.size l 0->(∀b o,s.heap.get? b=some o->g.get? b=some o)->Q (.ref (s.heap.objs.size+1)) { s with heap:=g }) :
  wpAny (model prog w) A (call (.type "enumerate") [.ref l] [("start",.int c t)]) Q E s:=by
 have ft:=F.called_enumerate;obtain⟨c0,tl,hmro⟩:=ft.mro;have hmade:=ft.made;have hsub:=ft.sub;obtain⟨⟨cl,dct,dt,sl⟩,hl,hcl,n,hd⟩:=q;have hcl:cl=.type "list":=hcl;have hd:dt=.seq us n:=hd;subst hcl hd;refine wpAny_call (codeAny_of_tree ?_);change wpAny _ _ (callAny (.type "enumerate") _) _ _ _;refine Zu ⟨Code.quiet_builtin _ (by decide +kernel),codeAny_builtin F.entry_type_call ?_⟩;rw[Around.under_plain (weight_type_call_type "enumerate" _ _) (units_type_call_type "enumerate" _ _)];have h1:=ft.notType;have h2:=ft.canCreate;have h3:=aCL (.ref l) c t
 repeat (any_goals (first | assumption | wp_step))
 refine codeAny_mono (codeAny_call_builtin ft.plain F.entry_enumerate_new (wpAny_of_eq (XR (.ref l) c t) (WN l us n dct sl c t hc prog w A.in1 (wants (λobj s1=>s1.TypeIs obj "enumerate"/\Q obj s1) E) s ⟨hl, ?_⟩))) λr s1 hr=>?_
 ·have hz:(s.heap.push { cls:=.type "list_iterator",data:=.fields #[.ref l,.int 0 0] }).objs.size=s.heap.objs.size+1:=Heap.size_push ..;change _/\_;rw[hz]
  have he:IsEnum ((s.heap.push { cls:=.type "list_iterator",data:=.fields #[.ref l,.int 0 0] }).push { cls:=.type "enumerate",data:=.fields #[.none,.bool false,.ref s.heap.objs.size,rawInt c,.none,.none] }) (s.heap.objs.size+1) s.heap.objs.size c .none:=by
   have x:=Zw (s.heap.push { cls:=.type "list_iterator",data:=.fields #[.ref l,.int 0 0] }) (o:={ cls:=.type "enumerate",data:=.fields #[.none,.bool false,.ref s.heap.objs.size,rawInt c,.none,.none] }) rfl
   rwa[hz] at x
  exact⟨⟨_,he,rfl⟩,k _ he ⟨_,Zd _ (Zw _ rfl),rfl,rfl⟩ λb o x=>Zd _ (Zd _ x)⟩
 ·cases r with
  |error e=>exact hr
  |ok fl =>
   cases fl with
   |ret obj =>
    have hT:s1.TypeIs obj "enumerate":=hr.1;have hli:=ft.init.lookup;have hbi:=ft.init.bind obj
    repeat (any_goals (first | assumption | wp_step))
    refine codeAny_mono (codeAny_call_builtin ft.init.plain F.entry_object_init (ft.init.check _ _ _ _ _ _ _ _ hT (UG obj (.ref l) c t) (YM prog w A.in1 (wants (λr s2=>r=.none/\Q obj s2) E) s1 ⟨hT,rfl,hr.2⟩))) λr2 s2 hr2=>?_
    cases r2 with
    |error e=>exact hr2
    |ok fl2 =>
     cases fl2 with
     |ret r =>
      obtain⟨rfl,hq⟩:=hr2
      repeat (any_goals (first | assumption | wp_step))
     |_=>exact hr2.elim
   |_=>exact hr.elim
end
noncomputable def oA(K:Frag)(a:Addr)(lo:Int):It :=
 ⟨λi H=>∃xs x,bY K H a xs/\xs[i]?=some x,λi H x H'=>∃p y,H p=none/\x=.ref p/\H'=aP H p (.tup [.int (lo+(i:Int)),y])/\∀xs,bY K H a xs->xs[i]?=some y,λi H=>∃xs,bY K H a xs/\xs.length<=i⟩
theorem AK{P:Program}{w:World}{K:Frag}{elts:List Expr}{k0:Nat}{pos:Pos}(a e it:Addr)(lo:Int)(hei:e≠it):Turn P w K (.Tuple elts k0 pos) (oA K a lo) [e,it] e (λi h=>(∃old,IsEnum h e it (lo+(i:Int)) old)/\h.IsListIter it a i) where
 mem:=by simp
 obj:=λi h st b hb=>by
  obtain⟨⟨old,h1⟩,o,h2,c,d⟩:=st;have hb:b=e\/b=it:=by simpa using hb
  rcases hb with rfl | rfl
  ·exact⟨_,h1,λv z=>by
    have z':Data.fields _=Data.cell v:=z
    cases z'⟩
  ·exact⟨o,h2,λv z=>by rw[d] at z;cases z⟩
 keep:=λi h h' st k=>by(obtain⟨⟨old,h1⟩,h2⟩:=st;exact⟨⟨old,k e (by simp) _ h1⟩,h2.at λo q=>k it (by simp) o q⟩)
 item:=by
  intro X hP hw hK hc i pins s σ H E I hf st hg;subst hP hw hK;obtain⟨xs,x,hq,hx⟩:=hg;obtain⟨its,rv,p,hz⟩:=I.list hq;obtain⟨u,hu,ru⟩:=rv.get hx;obtain⟨⟨old,he⟩,hit⟩:=st;have fe:=hf e (by simp);have fi:=hf it (by simp);refine MJ he hit p.isList (u:=u) (by simpa using hu) hei λh' ho hit' hT hk=>?_
  refine⟨_,rfl,wpAny_letOwnedTupleGo_enum ho λh2 he2 hs2=>?_⟩;have helt:e<s.heap.objs.size:=Zv he;have hilt:it<s.heap.objs.size:=by obtain⟨_,q,_⟩:=hit;exact Zv q
  have ke:∀b u,b≠e->b≠it->s.heap.get? b=some u->h2.get? b=some u:=λb u n1 n2 q=>(hs2.2 b n1).trans (hk b u n1 n2 q)
  have hT2:h2.get? s.heap.objs.size=some { cls:=.type "tuple",data:=.seq #[.int (lo+(i:Int)) s.toks,u] }:=(hs2.2 _ (Nat.ne_of_gt helt)).trans hT;have hfr:H s.heap.objs.size=none:=I.hok.fresh (Zq _);have I2:Inv X pins σ (aP H s.heap.objs.size (.tup [.int (lo+(i:Int)),x])) { s with heap:=h2,toks:=s.toks+1 }:=MQ I ke fe fi (Zq _) ⟨by rw[sizeLine_eq];simp,[.int (lo+(i:Int)) s.toks,u],.cons ⟨_,rfl⟩ (.cons ru .nil),⟨_,hT2,rfl,_,rfl⟩⟩;refine⟨.ref s.heap.objs.size,aP H s.heap.objs.size (.tup [.int (lo+(i:Int)),x]),I2,rfl,⟨s.heap.objs.size,x,hfr,rfl,rfl,λys hy=>by rw[I.list_inj hy hq];exact hx⟩,⟨⟨_,by rw[Int.natCast_add,Int.natCast_one,<- Int.add_assoc];exact he2⟩,hit'.at λo q=>(hs2.2 it hei.symm).trans q⟩,λb hb=>?_⟩
  ·have hb:b=e\/b=it:=by simpa using hb
   rcases hb with rfl | rfl
   ·rw[aG (Zz helt)];exact fe.1
   ·rw[aG (Zz hilt)];exact fi.1
 done:=by(intro X hP hw hK hc i pins s σ H E I hf st hg;subst hP hw hK;obtain⟨xs,hq,hx⟩:=hg;obtain⟨its,rv,p,hz⟩:=I.list hq;obtain⟨⟨old,he⟩,hit⟩:=st;have hl:=rv.length;exact UH (I.ok.hd hc) he hit p.isList (by simp;omega) λh' eb=>⟨rfl,E3 (t':=s.toks) I (λb o _ n2 q=>eb b o n2 q) (hf e (by simp)) (hf it (by simp))⟩)
 self:=λ_ _ _ _ _ st h=>by(obtain⟨⟨old,he⟩,_⟩:=st;exact wpAny_pyIter_enum he h)
section
variable{X:Cx}
noncomputable def HN(K:Frag)(lo:Int)(ta:TA):TI:=λσ H R=>ta σ H λvs H1=>∃a,vs=[.ref a]/\(∃xs,bY K H1 a xs)/\R (oA K a lo) H1
theorem AX:bootBuiltins "enumerate"=some (.type "enumerate"):=by decide +kernel
theorem FC{a:Expr}{ta:TA}{p pos tpos:Pos}{elts:List Expr}{k0:Nat}(hg:Gl X "enumerate")(hm:X.mg "enumerate"=none)(ha:PA X [a] ta)(hs:starEach [a] X.env=[(false,eval a X.env)]:=by rfl):PI X (.Tuple elts k0 tpos) (.Call (.Name "enumerate" p) [a] [] pos) (HN X.K 0 ta):=by
 intro pins s σ H R I h;refine Call_ (lT I hg hm AX (PyProof.Rows.callWith_type1 (bA (ha pos pins s σ H _ I h) λus s1 ⟨vs,H1,I1,r1,q1⟩=>?_) hs rfl));obtain⟨l,e,⟨xs,hq⟩,q⟩:=q1;subst e
 cases r1 with
 |cons r rr =>
  cases rr;cases r;obtain⟨its,rv,p,hz⟩:=I1.list hq;refine call_enumerate_list p.isList λh' he hit hsz hk=>?_
  have I2:Inv X pins σ H1 { s1 with heap:=h' }:=I1.kept (t':=s1.toks) hk;refine wpAny_pyIter_enum he ?_;refine⟨s1.heap.objs.size+1,[s1.heap.objs.size+1,s1.heap.objs.size],_,_,H1,rfl,I2,AK l _ _ 0 (Nat.succ_ne_self _),⟨⟨_,by simpa using he⟩,hit⟩,λb hb=>?_,q⟩;have hb:b=s1.heap.objs.size+1\/b=s1.heap.objs.size:=by simpa using hb
  rcases hb with rfl | rfl
  ·exact I1.fpOk (Nat.le_succ _) (I1.hok.fresh (Nat.le_succ _))
  ·exact I1.fpOk (Zq _) (I1.hok.fresh (Zq _))
theorem PH{a:Expr}{ta:TA}{p pos tpos kq kp:Pos}{j:Nat}{elts:List Expr}{k0:Nat}(hg:Gl X "enumerate")(hm:X.mg "enumerate"=none)(ha:PA X [a] ta)(hs:starEach [a] X.env=[(false,eval a X.env)]:=by rfl) :
  PI X (.Tuple elts k0 tpos) (.Call (.Name "enumerate" p) [a] [⟨some "start",.Constant (.int 1) j kq,kp⟩] pos) (HN X.K 1 ta):=by
 intro pins s σ H R I h;refine wpAny_Call_Name_kw (lT I hg hm AX ?_);refine PySem.W.callWith_of (P:=λ_=>True) (by rw[hs];rfl) (λ_ _=>⟨.machine,.inr (.inl rfl),PySem.W.Looks.now⟩) (evalArgs_kw2 rfl (bA (ha pos pins s σ H _ I h) λus s1 ⟨vs,H1,I1,r1,q1⟩=>?_) hs);obtain⟨l,e,⟨xs,hq⟩,q⟩:=q1;subst e
 cases r1 with
 |cons r rr =>
  cases rr;cases r;refine bA (UQ (X:=X) (nm:=some "start") (kpos:=kp) (LS (i:=1) (j:=j) (pos:=kq)) aBB pos pins s1 σ H1 (λzs H2=>zs=[.int 1]/\H2=H1) I1 ⟨rfl,rfl⟩) λws s2 ⟨zs,H2,I2,rz,ez,eh⟩=>⟨trivial, ?_⟩
  subst ez eh
  cases rz with
  |cons rz rn =>
   cases rn;obtain⟨t,rfl⟩:=rz;obtain⟨its,rv,p,hz⟩:=I2.list hq;refine U0 (c:=1) (by decide) p.isList λh' he hit hk=>?_
   have I3:Inv X pins σ H2 { s2 with heap:=h' }:=I2.kept (t':=s2.toks) hk;refine wpAny_pyIter_enum he ?_;refine⟨s2.heap.objs.size+1,[s2.heap.objs.size+1,s2.heap.objs.size],_,_,H2,rfl,I3,AK l _ _ 1 (Nat.succ_ne_self _),⟨⟨_,by simpa using he⟩,hit⟩,λb hb=>?_,q⟩;have hb:b=s2.heap.objs.size+1\/b=s2.heap.objs.size:=by simpa using hb
   rcases hb with rfl | rfl
   ·exact I2.fpOk (Nat.le_succ _) (I2.hok.fresh (Nat.le_succ _))
   ·exact I2.fpOk (Zq _) (I2.hok.fresh (Zq _))
end
section
variable{K:Frag}{ρ ρ1:Env}{σ:St}{H G H' G':Hp}{own own' new new':Addr->Prop}
theorem cL{α:Type}{l:List α}{i j:Nat}{a b:α}(h:(l.set i a)[j]?=some b):(j=i/\b=a/\i<l.length)\/(j≠i/\l[j]?=some b):=by
 by_cases hij:j=i
 ·subst hij;by_cases hl:j<l.length
  ·rw[zk hl] at h;exact .inl ⟨rfl,(Option.some.inj h).symm,hl⟩
  ·rw[List.getElem?_eq_none (by rw[zg];omega)] at h;cases h
 ·rw[Zf (λz=>hij z.symm)] at h;exact .inr ⟨hij,h⟩
theorem Rel.unset(r:Rel K ρ σ H G)(i:Nat):Rel K (ρ.set i .un) σ H G:=by
 refine⟨by rw[zg];exact r.len,r.sub,λj d h=>?_,λj d p l h=>?_,λj k d p l d' p' l' a h1 h2 h3 h4=>?_⟩
 ·rcases cL h with ⟨_,z,_⟩ | ⟨_,z⟩
  ·cases z
  ·exact r.sh j d z
 ·rcases cL h with ⟨_,z,_⟩ | ⟨_,z⟩
  ·cases z
  ·exact r.ow j d p l z
 ·rcases cL h1 with ⟨_,z,_⟩ | ⟨_,z⟩
  ·cases z
  ·rcases cL h2 with ⟨_,z',_⟩ | ⟨_,z'⟩
   ·cases z'
   ·exact r.inj _ _ _ _ _ _ _ _ _ z z' h3 h4
theorem aI.unset{i:Nat}{a:Addr}(h:aI (ρ.set i .un) σ a):aI ρ σ a:=by
 obtain⟨j,d,p,l,h1,h2⟩:=h;rcases cL h1 with ⟨_,z,_⟩ | ⟨_,z⟩
 ·cases z
 ·exact⟨j,d,p,l,z,h2⟩
theorem Rel.unset_not(r:Rel K ρ σ H G){i:Nat}{d:D}{p l:Bool}{a:Addr}(h:ρ[i]?=some (.ow d p l))(hx:σ[i]?=some (some (.ref a))):¬aI (ρ.set i .un) σ a:=by
 rintro⟨j,d',p',l',h1,h2⟩
 rcases cL h1 with ⟨_,z,_⟩ | ⟨ne,z⟩
 ·cases z
 ·exact ne (r.inj _ _ _ _ _ _ _ _ _ z h h2 hx)
theorem Rel.grow(r:Rel K ρ σ H G){a:Addr}{ob:HO}(hv:H a=some ob)(g:G a=none)(no:¬aI ρ σ a):Rel K ρ σ H (aP G a ob):=by
 refine⟨r.len,λb u e=>?_,λi d e=>?_,λi d p l e=>?_,r.inj⟩
 ·by_cases hb:b=a
  ·subst hb;rw[aY] at e;rw[hv];exact e
  ·rw[aG hb] at e;exact r.sub b u e
 ·obtain⟨v,h1,h2⟩:=r.sh i d e;exact⟨v,h1,aC.mono (aK.put g) d h2⟩
 ·obtain⟨b,h1,h2,h3⟩:=r.ow i d p l e;have hb:b≠a:=λz=>by subst z;exact no ⟨i,d,p,l,e,h1⟩
  exact⟨b,h1,by rw[aG hb];exact h2,h3.mono (aK.put g) λ_ z=>z⟩
theorem Rel.put_sh(r:Rel K (ρ.set i .un) σ H G){d:D}{v:V}(hx:σ[i]?=some (some v))(hr:aC K G d v):Rel K (ρ.set i (.sh d)) σ H G:=by
 have key:∀(j:Nat) (sl:Sl),(ρ.set i (.sh d))[j]?=some sl->(j=i/\sl=.sh d)\/(ρ.set i .un)[j]?=some sl:=λj sl h=>by
  rcases cL h with ⟨e,z,_⟩ | ⟨ne,z⟩
  ·exact .inl ⟨e,z⟩
  ·exact .inr (by rw[Zf (λq=>ne q.symm)];exact z)
 refine⟨by have:=r.len;rw[zg] at this ⊢;exact this,r.sub,λj d' h=>?_,λj d' p l h=>?_,λj k d1 p l d2 p' l' a h1 h2 h3 h4=>?_⟩
 ·rcases key j _ h with ⟨rfl,z⟩ | z
  ·cases z;exact⟨v,hx,hr⟩
  ·exact r.sh j d' z
 ·rcases key j _ h with ⟨rfl,z⟩ | z
  ·cases z
  ·exact r.ow j d' p l z
 ·rcases key j _ h1 with ⟨rfl,z⟩ | z
  ·cases z
  ·rcases key k _ h2 with ⟨rfl,z'⟩ | z'
   ·cases z'
   ·exact r.inj _ _ _ _ _ _ _ _ _ z z' h3 h4
theorem Rel.put_ow(r:Rel K (ρ.set i .un) σ H G){d:D}{p l:Bool}{a:Addr}(hx:σ[i]?=some (some (.ref a)))(g:G a=none)(ho:fW K H G a d)(no:¬aI (ρ.set i .un) σ a):Rel K (ρ.set i (.ow d p l)) σ H G:=by
 have key:∀(j:Nat) (sl:Sl),(ρ.set i (.ow d p l))[j]?=some sl->(j=i/\sl=.ow d p l)\/(ρ.set i .un)[j]?=some sl:=λj sl h=>by
  rcases cL h with ⟨e,z,_⟩ | ⟨ne,z⟩
  ·exact .inl ⟨e,z⟩
  ·exact .inr (by rw[Zf (λq=>ne q.symm)];exact z)
 refine⟨by have:=r.len;rw[zg] at this ⊢;exact this,r.sub,λj d' h=>?_,λj d' p' l' h=>?_,λj k d1 p1 l1 d2 p2 l2 b h1 h2 h3 h4=>?_⟩
 ·rcases key j _ h with ⟨rfl,z⟩ | z
  ·cases z
  ·exact r.sh j d' z
 ·rcases key j _ h with ⟨rfl,z⟩ | z
  ·cases z;exact⟨a,hx,g,ho⟩
  ·exact r.ow j d' p' l' z
 ·rcases key j _ h1 with ⟨rfl,z⟩ | z
  ·rcases key k _ h2 with ⟨rfl,z'⟩ | z'
   ·rfl
   ·rw[hx] at h3;cases h3;exact absurd ⟨k,_,_,_,z',h4⟩ no
  ·rcases key k _ h2 with ⟨rfl,z'⟩ | z'
   ·rw[hx] at h4;cases h4;exact absurd ⟨j,_,_,_,z,h3⟩ no
   ·exact r.inj _ _ _ _ _ _ _ _ _ z z' h3 h4
theorem aI.put_sh{i:Nat}{d:D}{a:Addr}(h:aI (ρ.set i (.sh d)) σ a):aI (ρ.set i .un) σ a:=by
 obtain⟨j,d',p,l,h1,h2⟩:=h;rcases cL h1 with ⟨_,z,_⟩ | ⟨ne,z⟩
 ·cases z
 ·exact⟨j,d',p,l,by rw[Zf (λq=>ne q.symm)];exact z,h2⟩
theorem aI.put_ow{i:Nat}{d:D}{p l:Bool}{a b:Addr}(hx:σ[i]?=some (some (.ref b)))(h:aI (ρ.set i (.ow d p l)) σ a):a=b\/aI (ρ.set i .un) σ a:=by
 obtain⟨j,d',p',l',h1,h2⟩:=h;rcases cL h1 with ⟨rfl,z,_⟩ | ⟨ne,z⟩
 ·rw[hx] at h2;cases h2;exact .inl rfl
 ·exact .inr ⟨j,d',p',l',by rw[Zf (λq=>ne q.symm)];exact z,h2⟩
theorem gE.grow{h:Hd}{x:V}(r:gE K H G own new σ h x){G2:Hp}(s:aK G G2)(k:∀a d,h=.val (.ow d)->x=.ref a->G2 a=none)(w:∀a,own' a->own a):gE K H G2 own' new σ h x:=by
 cases h with
 |slot i=>exact r
 |val v =>
  cases v with
  |sh d=>exact aC.mono s d r
  |ow d =>
   obtain⟨a,rfl,g,o,n,m⟩:=r;exact⟨a,rfl,k a d rfl rfl,o.mono s λ_ z=>z,λz=>n (w a z),m⟩
  |od d=>exact r.elim
theorem cZ.tmp_own:∀{hs:List Hd} {xs:List V} {a:Addr},cZ K H G own new σ hs xs->lG hs xs a->¬own a/\new a/\H a≠none/\G a=none
 |[],_,_,h,t=>by cases (show _=[] from h);exact t.elim
 |h::hs,_,a,r,t=>by
  obtain⟨x,r',rfl,h1,h2,h3⟩:=r;have tl:lG hs r' a->¬own a/\new a/\H a≠none/\G a=none:=λt=>cZ.tmp_own h2 t
  cases h with
  |slot i=>exact tl t
  |val v =>
   cases v with
   |sh d=>exact tl t
   |ow d =>
    rcases t with rfl | t
    ·obtain⟨b,e,g,o,n,m⟩:=h1;cases e;obtain⟨vs,hv⟩:=o.there;exact⟨n,m,by rw[hv];simp,g⟩
    ·exact tl t
   |od d=>exact h1.elim
theorem cZ.grow:∀{hs:List Hd} {xs:List V},cZ K H G own new σ hs xs->∀{G2:Hp},aK G G2->(∀a,lG hs xs a->G2 a=none)->(∀a,own' a->own a)->cZ K H G2 own' new σ hs xs
 |[],_,h,_,_,_,_=>h
 |h::hs,_,r,G2,s,k,w=>by
  obtain⟨x,r',rfl,h1,h2,h3⟩:=r;refine⟨x,r',rfl,h1.grow s (λa d e1 e2=>k a (by subst e1;exact .inl e2)) w,cZ.grow h2 s (λa t=>k a ?_) w,h3⟩
  cases h with
  |slot i=>exact t
  |val v =>
   cases v with
   |sh d=>exact t
   |ow d=>exact .inr t
   |od d=>exact h1.elim
theorem Rel.nil(s:aK G H):Rel K [] [] H G:=⟨rfl,s,λi d h=>by simp at h,λi d p l h=>by simp at h,λi j d p l d' p' l' a h=>by simp at h⟩
theorem Rel.cons_sh{as:List Sl}{τ:St}(r:Rel K as τ H G){d:D}{x:V}(h:aC K G d x):Rel K (.sh d::as) (some x :: τ) H G:=by
 refine⟨by simp[r.len],r.sub,λi d' e=>?_,λi d' p l e=>?_,λi j d1 p l d2 p' l' a h1 h2 h3 h4=>?_⟩
 ·cases i with
  |zero=>simp at e;subst e;exact⟨x,rfl,h⟩
  |succ i=>simpa using r.sh i d' (by simpa using e)
 ·cases i with
  |zero=>simp at e
  |succ i=>simpa using r.ow i d' p l (by simpa using e)
 ·cases i with
  |zero=>simp at h1
  |succ i =>
   cases j with
   |zero=>simp at h2
   |succ j=>exact congrArg (·+1) (r.inj i j d1 p l d2 p' l' a (by simpa using h1) (by simpa using h2) (by simpa using h3) (by simpa using h4))
theorem Rel.cons_ow{as:List Sl}{τ:St}(r:Rel K as τ H G){d:D}{p l:Bool}{a:Addr}(g:G a=none)(o:fW K H G a d)(n:¬aI as τ a):Rel K (.ow d p l::as) (some (.ref a) :: τ) H G:=by
 refine⟨by simp[r.len],r.sub,λi d' e=>?_,λi d' p l e=>?_,λi j d1 p1 l1 d2 p' l' b h1 h2 h3 h4=>?_⟩
 ·cases i with
  |zero=>simp at e
  |succ i=>simpa using r.sh i d' (by simpa using e)
 ·cases i with
  |zero =>
   simp only[zr,Option.some.injEq,Sl.ow.injEq] at e;obtain⟨rfl,_,_⟩:=e;exact⟨a,rfl,g,o⟩
  |succ i=>simpa using r.ow i d' p l (by simpa using e)
 ·cases i with
  |zero =>
   simp only[zr,Option.some.injEq,V.ref.injEq] at h3;subst h3
   cases j with
   |zero=>rfl
   |succ j=>exact absurd ⟨j,d2,p',l',by simpa using h2,by simpa using h4⟩ n
  |succ i =>
   cases j with
   |zero =>
    simp only[zr,Option.some.injEq,V.ref.injEq] at h4;subst h4;exact absurd ⟨i,d1,p1,l1,by simpa using h1,by simpa using h3⟩ n
   |succ j=>exact congrArg (·+1) (r.inj i j d1 p1 l1 d2 p' l' b (by simpa using h1) (by simpa using h2) (by simpa using h3) (by simpa using h4))
theorem aI.cons{as:List Sl}{τ:St}{sl:Sl}{v:Option V}{a:Addr}(h:aI (sl::as) (v :: τ) a):(∃d p l,sl=.ow d p l/\v=some (.ref a))\/aI as τ a:=by
 obtain⟨i,d,p,l,h1,h2⟩:=h
 cases i with
 |zero=>exact .inl ⟨d,p,l,by simpa using h1,by simpa using h2⟩
 |succ i=>exact .inr ⟨i,d,p,l,by simpa using h1,by simpa using h2⟩
structure Lent(K:Frag)(ρ:Env)(σ:St)(H G:Hp)(hs:List Hd)(xs:List V)(as:List Sl)(ρ1:Env)(G2:Hp):Prop where
 gg:aK G G2
 gn:∀a,G2 a≠none->G a≠none\/aI ρ σ a\/lG hs xs a
 ra:Rel K as (xs.map some) H G2
 rc:Rel K ρ1 σ H G2
 ao:∀a,aI as (xs.map some) a->aI ρ σ a\/lG hs xs a
 an:∀a,aI as (xs.map some) a->¬aI ρ1 σ a
 ro:∀a,aI ρ1 σ a->aI ρ σ a
theorem jG:∀(hs:List Hd) (pins:List Bool) (ρ:Env) (G:Hp) (xs:List V) (as:List Sl) (ρ1:Env),Rel K ρ σ H G->cZ K H G (aI ρ σ) new σ hs xs->bS pins hs ρ=some (as,ρ1) ->
  ∃G2,Lent K ρ σ H G hs xs as ρ1 G2
 |[],pins,ρ,G,xs,as,ρ1,r,h,e=>by
  cases (show xs=[] from h)
  cases pins with
  |cons p ps=>cases e
  |nil =>
   simp only[bS,Option.some.injEq,Prod.mk.injEq] at e;obtain⟨rfl,rfl⟩:=e;exact⟨G,aK.refl _,λa z=>.inl z,Rel.nil r.sub,r,λa ⟨i,d,p,l,z,_⟩=>by simp at z,λa ⟨i,d,p,l,z,_⟩=>by simp at z,λ_ z=>z⟩
 |.val (.sh d)::hs,pins,ρ,G,xs,as,ρ1,r,h,e=>by
  obtain⟨x,r',rfl,h1,h2,h3⟩:=h
  cases pins with
  |nil=>cases e
  |cons p ps =>
   simp only[bS] at e
   cases q:bS ps hs ρ with
   |none=>rw[q] at e;cases e
   |some y =>
    obtain⟨as',ρ'⟩:=y;rw[q] at e;simp only[Option.map_some,Option.some.injEq,Prod.mk.injEq] at e;obtain⟨rfl,rfl⟩:=e;obtain⟨G2,L⟩:=jG hs ps ρ G r' as' ρ' r h2 q;refine⟨G2,L.gg,L.gn,L.ra.cons_sh (aC.mono L.gg d h1),L.rc,λa z=>?_,λa z=>?_,L.ro⟩
    ·rcases z.cons with ⟨_,_,_,z,_⟩ | z
     ·cases z
     ·exact L.ao a z
    ·rcases z.cons with ⟨_,_,_,z,_⟩ | z
     ·cases z
     ·exact L.an a z
 |.val (.ow d)::hs,pins,ρ,G,xs,as,ρ1,r,h,e=>by
  obtain⟨x,r',rfl,h1,h2,h3⟩:=h;obtain⟨b,rfl,g,o,n,m⟩:=h1;have nt:¬lG hs r' b:=h3 d b rfl rfl
  cases pins with
  |nil=>cases e
  |cons p ps =>
   simp only[bS] at e
   cases q:bS ps hs ρ with
   |none=>rw[q] at e;cases e
   |some y =>
    obtain⟨as',ρ'⟩:=y;rw[q] at e;simp only[Option.map_some,Option.some.injEq,Prod.mk.injEq] at e;obtain⟨rfl,rfl⟩:=e
    cases p with
    |true =>
     obtain⟨G2,L⟩:=jG hs ps ρ G r' as' ρ' r h2 q
     have g2:G2 b=none:=by
      cases w:G2 b with
      |none=>rfl
      |some o' =>
       rcases L.gn b (by rw[w];simp) with z | z | z
       ·exact absurd g z
       ·exact absurd z n
       ·exact absurd z nt
     have nb:¬aI as' (r'.map some) b:=λz=>by
      rcases L.ao b z with z | z
      ·exact n z
      ·exact nt z
     refine⟨G2,L.gg,λa z=>?_,L.ra.cons_ow g2 (o.mono L.gg λ_ z=>z) nb,L.rc,λa z=>?_,λa z=>?_,L.ro⟩
     ·rcases L.gn a z with z | z | z
      ·exact .inl z
      ·exact .inr (.inl z)
      ·exact .inr (.inr (.inr z))
     ·rcases z.cons with ⟨_,_,_,_,z⟩ | z
      ·cases z;exact .inr (.inl rfl)
      ·rcases L.ao a z with z | z
       ·exact .inl z
       ·exact .inr (.inr z)
     ·rcases z.cons with ⟨_,_,_,_,z⟩ | z
      ·cases z;exact λw=>n (L.ro _ w)
      ·exact L.an a z
    |false =>
     obtain⟨ob,hv,hr⟩:=o.put
     have tb:∀a,lG hs r' a->(aP G b ob) a=none:=λa z=>by
      have hb:a≠b:=λw=>by subst w;exact nt z
      rw[aG hb];exact(h2.tmp_own z).2.2.2
     obtain⟨G2,L⟩:=jG hs ps ρ (aP G b ob) r' as' ρ' (r.grow hv g n) (h2.grow (aK.put g) tb λ_ z=>z) q;refine⟨G2,(aK.put g).trans L.gg,λa z=>?_,L.ra.cons_sh ?_,L.rc,λa z=>?_,λa z=>?_,L.ro⟩
     ·by_cases hb:a=b
      ·subst hb;exact .inr (.inr (.inl rfl))
      ·rcases L.gn a z with z | z | z
       ·rw[aG hb] at z;exact .inl z
       ·exact .inr (.inl z)
       ·exact .inr (.inr (.inr z))
     ·exact hr _ ((aK.put g).trans L.gg) (L.gg _ _ aY)
     ·rcases z.cons with ⟨_,_,_,z,_⟩ | z
      ·simp at z
      ·rcases L.ao a z with z | z
       ·exact .inl z
       ·exact .inr (.inr z)
     ·rcases z.cons with ⟨_,_,_,z,_⟩ | z
      ·simp at z
      ·exact L.an a z
 |.slot i::hs,pins,ρ,G,xs,as,ρ1,r,h,e=>by
  obtain⟨x,r',rfl,h1,h2,h3⟩:=h;have h1:σ[i]?=some (some x):=h1
  cases pins with
  |nil=>cases e
  |cons p ps =>
   simp only[bS] at e;split at e
   ·rename_i d hd
    cases q:bS ps hs ρ with
    |none=>rw[q] at e;cases e
    |some y =>
     obtain⟨as',ρ'⟩:=y;rw[q] at e;simp only[Option.map_some,Option.some.injEq,Prod.mk.injEq] at e;obtain⟨rfl,rfl⟩:=e;obtain⟨G2,L⟩:=jG hs ps ρ G r' as' ρ' r h2 q;obtain⟨v,h4,h5⟩:=r.sh i d hd;rw[h1] at h4;cases h4;refine⟨G2,L.gg,L.gn,L.ra.cons_sh (aC.mono L.gg d h5),L.rc,λa z=>?_,λa z=>?_,L.ro⟩
     ·rcases z.cons with ⟨_,_,_,z,_⟩ | z
      ·cases z
      ·exact L.ao a z
     ·rcases z.cons with ⟨_,_,_,z,_⟩ | z
      ·cases z
      ·exact L.an a z
   ·rename_i d pin lk hd;obtain⟨b,h4,g,o⟩:=r.ow i d pin lk hd;rw[h1] at h4;cases h4;have hown:aI ρ σ b:=⟨i,d,pin,lk,hd,h1⟩
    have nt:¬lG hs r' b:=λz=>(h2.tmp_own z).1 hown
    have nu:¬aI (ρ.set i .un) σ b:=r.unset_not hd h1
    cases p with
    |true =>
     simp only at e
     cases q:bS ps hs (ρ.set i .un) with
     |none=>rw[q] at e;cases e
     |some y =>
      obtain⟨as',ρ'⟩:=y;rw[q] at e;simp only[Option.map_some,Option.some.injEq,Prod.mk.injEq] at e;obtain⟨rfl,rfl⟩:=e;obtain⟨G2,L⟩:=jG hs ps (ρ.set i .un) G r' as' ρ' (r.unset i) (h2.grow (aK.refl _) (λa z=>(h2.tmp_own z).2.2.2) λa z=>z.unset) q
      have g2:G2 b=none:=by
       cases w:G2 b with
       |none=>rfl
       |some o' =>
        rcases L.gn b (by rw[w];simp) with z | z | z
        ·exact absurd g z
        ·exact absurd z nu
        ·exact absurd z nt
      have nb:¬aI as' (r'.map some) b:=λz=>by
       rcases L.ao b z with z | z
       ·exact nu z
       ·exact nt z
      refine⟨G2,L.gg,λa z=>?_,L.ra.cons_ow g2 (o.mono L.gg λ_ z=>z) nb,L.rc,λa z=>?_,λa z=>?_,λa z=>(L.ro a z).unset⟩
      ·rcases L.gn a z with z | z | z
       ·exact .inl z
       ·exact .inr (.inl z.unset)
       ·exact .inr (.inr z)
      ·rcases z.cons with ⟨_,_,_,_,z⟩ | z
       ·cases z;exact .inl hown
       ·rcases L.ao a z with z | z
        ·exact .inl z.unset
        ·exact .inr z
      ·rcases z.cons with ⟨_,_,_,_,z⟩ | z
       ·cases z;exact λw=>nu (L.ro _ w)
       ·exact L.an a z
    |false =>
     simp only at e;split at e
     ·cases e
     ·cases q:bS ps hs (ρ.set i (.sh d)) with
      |none=>rw[q] at e;cases e
      |some y =>
       obtain⟨as',ρ'⟩:=y;rw[q] at e;simp only[Option.map_some,Option.some.injEq,Prod.mk.injEq] at e;obtain⟨rfl,rfl⟩:=e;obtain⟨ob,hv,hr⟩:=o.put
       have tb:∀a,lG hs r' a->(aP G b ob) a=none:=λa z=>by
        have hb:a≠b:=λw=>by subst w;exact nt z
        rw[aG hb];exact(h2.tmp_own z).2.2.2
       have rb:∀G2,aK (aP G b ob) G2->aC K G2 d (.ref b):=λG2 s2=>hr _ ((aK.put g).trans s2) (s2 _ _ aY)
       obtain⟨G2,L⟩:=jG hs ps (ρ.set i (.sh d)) (aP G b ob) r' as' ρ' (((r.unset i).grow hv g nu).put_sh h1 (rb _ (aK.refl _)))
        (h2.grow (aK.put g) tb λa z=>z.put_sh.unset) q
       refine⟨G2,(aK.put g).trans L.gg,λa z=>?_,L.ra.cons_sh (rb G2 L.gg),L.rc,λa z=>?_,λa z=>?_,λa z=>(L.ro a z).put_sh.unset⟩
       ·by_cases hb:a=b
        ·subst hb;exact .inr (.inl hown)
        ·rcases L.gn a z with z | z | z
         ·rw[aG hb] at z;exact .inl z
         ·exact .inr (.inl z.put_sh.unset)
         ·exact .inr (.inr z)
       ·rcases z.cons with ⟨_,_,_,z,_⟩ | z
        ·cases z
        ·rcases L.ao a z with z | z
         ·exact .inl z.put_sh.unset
         ·exact .inr z
       ·rcases z.cons with ⟨_,_,_,z,_⟩ | z
        ·cases z
        ·exact L.an a z
   ·cases e
end
section
variable{K:Frag}{ρ ρ1 ρ0:Env}{σ τ:St}{H G H' G' H0 G0:Hp}{own own' new new':Addr->Prop}
theorem Rel.keep(r:Rel K ρ σ H G)(e:Ext own H G H' G')(n:∀a,aI ρ σ a->¬own a)(s:aK G' H'):Rel K ρ σ H' G':=by
 refine⟨r.len,s,λi d h=>?_,λi d p l h=>?_,r.inj⟩
 ·obtain⟨v,h1,h2⟩:=r.sh i d h;exact⟨v,h1,aC.mono e.gg d h2⟩
 ·obtain⟨a,h1,g,o⟩:=r.ow i d p l h;have na:=n a ⟨i,d,p,l,h,h1⟩;obtain⟨vs,hv⟩:=o.there;exact⟨a,h1,e.gn a (by rw[hv];simp) g na,o.mono e.gg λo' h'=>e.hh a o' h' na⟩
theorem Rel.tail{a:Sl}{as:List Sl}{v:Option V}(r:Rel K (a::as) (v :: τ) H G):Rel K as τ H G:=by
 refine⟨by have:=r.len;simpa using this,r.sub,λi d h=>?_,λi d p l h=>?_,λi j d p l d' p' l' b h1 h2 h3 h4=>?_⟩
 ·simpa using r.sh (i+1) d (by simpa using h)
 ·simpa using r.ow (i+1) d p l (by simpa using h)
 ·have:=r.inj (i+1) (j+1) d p l d' p' l' b (by simpa using h1) (by simpa using h2) (by simpa using h3) (by simpa using h4)
  omega
theorem aI.tail{a:Sl}{as:List Sl}{v:Option V}{b:Addr}(h:aI as τ b):aI (a::as) (v :: τ) b:=by
 obtain⟨i,d,p,l,h1,h2⟩:=h;exact⟨i+1,d,p,l,by simpa using h1,by simpa using h2⟩
theorem mZ:∀(hs:List Hd) (pins:List Bool) (as:List Sl) (xs:List V) (ρ ρ':Env),Rel K as (xs.map some) H G->Rel K ρ σ H G->(∀a,aI as (xs.map some) a->¬aI ρ σ a)->cZ K H0 G0 own new σ hs xs ->
  bJ pins hs as ρ0 ρ=some ρ'->Rel K ρ' σ H G/\∀a,aI ρ' σ a->aI ρ σ a\/aI ρ0 σ a
 |[],pins,as,xs,ρ,ρ',ra,r,n,h,e=>by
  cases pins with
  |nil =>
   cases as with
   |nil =>
    cases e;exact⟨r,λ_ z=>.inl z⟩
   |cons a as=>cases e
  |cons p ps=>cases p<;>cases as<;>cases e
 |h::hs,pins,as,xs,ρ,ρ',ra,r,n,hh,e=>by
  obtain⟨x,r',rfl,h1,h2,h3⟩:=hh
  cases pins with
  |nil=>cases e
  |cons p ps =>
   cases as with
   |nil=>cases p<;>cases h<;>cases e
   |cons a as' =>
    have skip:bJ ps hs as' ρ0 ρ=some ρ'->Rel K ρ' σ H G/\∀a,aI ρ' σ a->aI ρ σ a\/aI ρ0 σ a:=λe' =>
     mZ hs ps as' r' ρ ρ' ra.tail r (λb z=>n b z.tail) h2 e'
    cases p with
    |false=>cases h<;>exact skip e
    |true =>
     cases h with
     |val v=>exact skip e
     |slot i =>
      have h1:σ[i]?=some (some x):=h1;simp only[bJ] at e;split at e
      ·rename_i _ pin lk d p' l' hi;obtain⟨b,hb,g,o⟩:=ra.ow 0 d p' l' rfl;simp only[Zs,zr,Option.some.injEq] at hb;subst hb;have nb:¬aI ρ σ b:=n b ⟨0,d,p',l',rfl,rfl⟩;have r2:Rel K (ρ.set i (.ow d pin lk)) σ H G:=(r.unset i).put_ow h1 g o λz=>nb z.unset
       obtain⟨r3,r4⟩:=mZ hs ps as' r' (ρ.set i (.ow d pin lk)) ρ' ra.tail r2 (λc z w=>by
        rcases w.put_ow h1 with rfl | w
        ·obtain⟨j,d2,p2,l2,z1,z2⟩:=z
         have:=ra.inj 0 (j+1) d p' l' d2 p2 l2 c rfl (by simpa using z1) rfl (by simpa using z2)
         omega
        ·exact n c z.tail w.unset) h2 e
       refine⟨r3,λc z=>?_⟩;rcases r4 c z with z | z
       ·rcases z.put_ow h1 with rfl | z
        ·exact .inr ⟨i,_,pin,lk,hi,h1⟩
        ·exact .inl z.unset
       ·exact .inr z
      ·cases e
      ·exact skip e
def jU(pins:List Bool)(hs:List Hd)(i:Nat):Prop:=∃j:Nat,pins[j]?=some true/\hs[j]?=some (.slot i)
theorem jU.cons{p:Bool}{ps:List Bool}{h:Hd}{hs:List Hd}{i:Nat}(l:jU ps hs i):jU (p::ps) (h::hs) i:=by
 obtain⟨j,h1,h2⟩:=l;exact⟨j+1,by simpa using h1,by simpa using h2⟩
theorem EG:∀(hs:List Hd) (pins:List Bool) (ρ:Env) (as:List Sl) (ρ1:Env),bS pins hs ρ=some (as,ρ1)->∀i:Nat,dS ρ[i]? ρ1[i]?\/(jU pins hs i/\∃d p l,ρ[i]?=some (.ow d p l))
 |[],pins,ρ,as,ρ1,e,i=>by
  cases pins<;>cases e;exact .inl (dS.refl _)
 |h::hs,pins,ρ,as,ρ1,e,i=>by
  cases pins with
  |nil=>cases h with
   |slot i=>cases e
   |val v=>cases v<;>cases e
  |cons p ps =>
   have fin:∀{ρ':Env} {g:Sl},(bS ps hs ρ').map (λ(as,ρ')=>(g::as,ρ'))=some (as,ρ1)->dS ρ'[i]? ρ1[i]?\/(jU ps hs i/\∃d p l,ρ'[i]?=some (.ow d p l)):=by
    intro ρ' g e
    cases q:bS ps hs ρ' with
    |none=>rw[q] at e;cases e
    |some y =>
     obtain⟨as',ρ2⟩:=y;rw[q] at e;simp only[Option.map_some,Option.some.injEq,Prod.mk.injEq] at e;obtain⟨_,rfl⟩:=e;exact EG hs ps ρ' as' ρ2 q i
   have same:∀{g:Sl},(bS ps hs ρ).map (λ(as,ρ')=>(g::as,ρ'))=some (as,ρ1)->dS ρ[i]? ρ1[i]?\/(jU (p::ps) (h::hs) i/\∃d p l,ρ[i]?=some (.ow d p l)):=by
    intro g e;rcases fin e with z | ⟨z,w⟩
    ·exact .inl z
    ·exact .inr ⟨z.cons,w⟩
   cases h with
   |val v=>cases v<;>first | exact same e | cases e
   |slot i0 =>
    simp only[bS] at e;split at e
    ·exact same e
    ·rename_i d pin lk hd
     cases p with
     |true =>
      simp only at e;by_cases hi:i=i0
      ·subst hi;exact .inr ⟨⟨0,rfl,rfl⟩,d,pin,lk,hd⟩
      ·have:=fin e
       rw[Zf (λz=>hi z.symm)] at this;rcases this with z | ⟨z,w⟩
       ·exact .inl z
       ·exact .inr ⟨z.cons,w⟩
     |false =>
      simp only at e;split at e
      ·cases e
      ·rename_i hp;simp only[Bool.or_eq_true,not_or,Bool.not_eq_true] at hp;have ev0:iC ρ (ρ.set i0 (.sh d)):=iC.set (by rw[hd];exact hp.1);rcases fin e with z | ⟨z,d',p',l',w⟩
       ·exact .inl ((ev0 i).trans z)
       ·have:=ev0 i
        rw[w] at this;obtain⟨d2,e2⟩:=this.ow_of;exact .inr ⟨z.cons,d2,p',l',e2⟩
    ·cases e
theorem lC:∀(hs:List Hd) (pins:List Bool) (as:List Sl) (ρ ρ':Env),bJ pins hs as ρ0 ρ=some ρ'->∀i:Nat,(ρ'[i]?=ρ[i]?\/∃d d' p l,ρ0[i]?=some (.ow d p l)/\ρ'[i]?=some (.ow d' p l)) /\
  (jU pins hs i->(∃d p l,ρ0[i]?=some (.ow d p l))->i<ρ.length->∃d d' p l,ρ0[i]?=some (.ow d p l)/\ρ'[i]?=some (.ow d' p l))
 |[],pins,as,ρ,ρ',e,i=>by
  cases pins with
  |nil =>
   cases as with
   |nil =>
    cases e;exact⟨.inl rfl,λ⟨j,h,_⟩=>by simp at h⟩
   |cons a as=>cases e
  |cons p ps=>cases p<;>cases as<;>cases e
 |h::hs,pins,as,ρ,ρ',e,i=>by
  cases pins with
  |nil=>cases e
  |cons p ps =>
   cases as with
   |nil=>cases p<;>cases h<;>cases e
   |cons a as' =>
    have uncons:¬(p=true/\h=.slot i)->jU (p::ps) (h::hs) i->jU ps hs i:=λn ⟨j,h1,h2⟩=>by
     cases j with
     |zero =>
      simp only[zr,Option.some.injEq] at h1 h2;exact absurd ⟨h1,h2⟩ n
     |succ j=>exact⟨j,by simpa using h1,by simpa using h2⟩
    have skip:¬(p=true/\h=.slot i)\/¬(∃d p l,ρ0[i]?=some (.ow d p l))->bJ ps hs as' ρ0 ρ=some ρ'->(ρ'[i]?=ρ[i]?\/∃d d' p l,ρ0[i]?=some (.ow d p l)/\ρ'[i]?=some (.ow d' p l)) /\
      (jU (p::ps) (h::hs) i->(∃d p l,ρ0[i]?=some (.ow d p l))->i<ρ.length->∃d d' p l,ρ0[i]?=some (.ow d p l)/\ρ'[i]?=some (.ow d' p l)):=λn e'=>by
     obtain⟨h1,h2⟩:=lC hs ps as' ρ ρ' e' i;refine⟨h1,λl o=>?_⟩;rcases n with n | n
     ·exact h2 (uncons n l) o
     ·exact absurd o n
    cases p with
    |false=>cases h<;>exact skip (.inl (by simp)) e
    |true =>
     cases h with
     |val v=>exact skip (.inl (by simp)) e
     |slot i0 =>
      simp only[bJ] at e;split at e
      ·rename_i d0 pin lk d p' l' hi;obtain⟨h1,h2⟩:=lC hs ps as' _ ρ' e i;by_cases hii:i=i0
       ·subst hii;refine⟨?_,λl o hl=>?_⟩
        ·rcases h1 with h1 | h1
         ·by_cases hl:i<ρ.length
          ·rw[zk hl] at h1;exact .inr ⟨_,_,_,_,hi,h1⟩
          ·exact .inl (by rw[h1,List.getElem?_eq_none (by rw[zg];omega),List.getElem?_eq_none (by omega)])
         ·exact .inr h1
        ·rcases h1 with h1 | h1
         ·rw[zk hl] at h1;exact⟨_,_,_,_,hi,h1⟩
         ·exact h1
       ·rw[Zf (λz=>hii z.symm)] at h1;refine⟨h1,λl o hl=>h2 (uncons (λz=>hii (by have:=z.2;simp at this;exact this.symm)) l) o (by rw[zg];exact hl)⟩
      ·cases e
      ·rename_i hn1 hn2;refine skip ?_ e;by_cases hii:i=i0
       ·subst hii;refine .inr λ⟨d,p,l,z⟩=>?_
        exact hn1 d p l z
       ·exact .inl λz=>hii (by have:=z.2;simp at this;exact this.symm)
theorem mB{pins:List Bool}{f:List Sl->aF RV}{hs:List Hd}{xs:List V}{v:RV}{ρ':Env}(a:Aft K ρ0 σ H0 G0 ρ H G)(h:cZ K H G (aI ρ σ) (dC H0) σ hs xs)(e:cW pins f hs ρ=some (.ok v,ρ')) :
  ∃as G2 as',Rel K as (xs.map some) H G2/\as.length=pins.length/\f as=some (.ok v,as')/\(aK G G2/\∀c,aI as (xs.map some) c->aI ρ σ c\/lG hs xs c)/\∀x H' G',Aft K as (xs.map some) H G2 as' H' G'->cH K H' G' (aI as' (xs.map some)) (dC H) v x ->
   Aft K ρ0 σ H0 G0 ρ' H' G'/\cH K H' G' (aI ρ' σ) (dC H0) v x:=by
 unfold cW at e
 cases q:bS pins hs ρ with
 |none=>rw[q] at e;cases e
 |some y =>
  obtain⟨as,ρ1⟩:=y;rw[q] at e;simp only at e
  cases q2:f as with
  |none=>rw[q2] at e;cases e
  |some y =>
   obtain⟨o,as'⟩:=y;rw[q2] at e;simp only at e
   cases q3:bJ pins hs as' ρ ρ1 with
   |none=>rw[q3] at e;cases e
   |some ρ2 =>
    rw[q3] at e;simp only[Option.map_some,Option.some.injEq,Prod.mk.injEq] at e;obtain⟨rfl,rfl⟩:=e;obtain⟨G2,L⟩:=jG hs pins ρ G xs as ρ1 a.rel h q;refine⟨as,G2,as',L.ra, ?_,q2,⟨L.gg,L.ao⟩,λx H' G' b hv=>?_⟩
    ·have:∀(hs:List Hd) (pins:List Bool) (ρ:Env) (as:List Sl) (ρ1:Env),bS pins hs ρ=some (as,ρ1)->as.length=pins.length:=by
      intro hs
      induction hs with
      |nil =>
       intro pins ρ as ρ1 e;cases pins<;>cases e;rfl
      |cons h hs ih =>
       intro pins ρ as ρ1 e
       cases pins with
       |nil=>cases h with
        |slot i=>cases e
        |val v=>cases v<;>cases e
       |cons p ps =>
        have fin:∀{o:Option (List Sl×Env)} {g:Sl},(o.map λ(as,ρ')=>(g::as,ρ'))=some (as,ρ1)->(∀as' ρ',o=some (as',ρ')->as'.length=ps.length)->as.length=(p::ps).length:=by
         intro o g e k
         cases o with
         |none=>cases e
         |some y =>
          obtain⟨as',ρ'⟩:=y;simp only[Option.map_some,Option.some.injEq,Prod.mk.injEq] at e;rw[<- e.1,Zk,Zk,k as' ρ' rfl]
        cases h with
        |slot i =>
         simp only[bS] at e;split at e
         ·exact fin e λas' ρ' z=>ih _ _ _ _ z
         ·split at e
          ·exact fin e λas' ρ' z=>ih _ _ _ _ z
          ·split at e
           ·cases e
           ·exact fin e λas' ρ' z=>ih _ _ _ _ z
         ·cases e
        |val v =>
         cases v with
         |sh d=>exact fin e λas' ρ' z=>ih _ _ _ _ z
         |ow d=>exact fin e λas' ρ' z=>ih _ _ _ _ z
         |od d=>cases e
     exact this hs pins ρ as ρ1 q
    ·have own_there:∀c,aI as (xs.map some) c->H c≠none:=λc z=>(L.ra.owned z).1
     have rc:Rel K ρ1 σ H' G':=L.rc.keep b.ext (λc z w=>L.an c w z) b.rel.sub;obtain⟨r3,r4⟩:=mZ hs pins as' xs ρ1 ρ2 b.rel rc (λc z w=>L.an c (b.own c z) w) h q3
     have own2:∀c,aI ρ2 σ c->aI ρ σ c:=λc z=>by
      rcases r4 c z with z | z
      ·exact L.ro c z
      ·exact z
     have hown:∀c,aI as (xs.map some) c->aI ρ0 σ c\/H0 c=none:=λc z=>by
      rcases L.ao c z with z | z
      ·exact .inl (a.own c z)
      ·exact .inr (h.tmp_own z).2.1
     have evo2:iC ρ ρ2:=λi=>by
      obtain⟨g1,g2⟩:=lC hs pins as' ρ1 ρ2 q3 i;rcases EG hs pins ρ as ρ1 q i with z | ⟨z,o⟩
      ·rcases g1 with g1 | ⟨d,d',p,l,w1,w2⟩
       ·rw[g1];exact z
       ·rw[w1,w2];exact⟨rfl,rfl⟩
      ·have hl:i<ρ1.length:=by
        obtain⟨d,p,l,o⟩:=o;rw[L.rc.len,<- a.rel.len];exact(Zc.mp o).1
       obtain⟨d,d',p,l,w1,w2⟩:=g2 z o hl;rw[w1,w2];exact⟨rfl,rfl⟩
     refine⟨⟨r3,⟨a.ext.gg.trans (L.gg.trans b.ext.gg),λc o hc nc=>?_,λc z=>a.ext.hx c (b.ext.hx c z),λc hc gc nc=>?_⟩,a.evo.trans evo2⟩, ?_⟩
     ·refine b.ext.hh c o (a.ext.hh c o hc nc) λz=>?_
      rcases hown c z with z | z
      ·exact nc z
      ·rw[hc] at z;cases z
     ·have hc':H c≠none:=λz=>hc (a.ext.hx c z)
      have g1:G c=none:=a.ext.gn c hc gc nc
      have g2:G2 c=none:=by
       cases w:G2 c with
       |none=>rfl
       |some o =>
        rcases L.gn c (by rw[w];simp) with z | z | z
        ·exact absurd g1 z
        ·exact absurd (a.own c z) nc
        ·exact absurd (h.tmp_own z).2.1 hc
      refine b.ext.gn c hc' g2 λz=>?_
      rcases hown c z with z | z
      ·exact nc z
      ·exact hc z
     ·cases v with
      |sh d=>exact hv
      |ow d =>
       obtain⟨c,rfl,g,o,n,m⟩:=hv;exact⟨c,rfl,g,o,λz=>(a.rel.owned (own2 c z)).1 m,a.ext.hx c m⟩
      |od d =>
       obtain⟨c,rfl,g,o,n,m,vs,hv,hr⟩:=hv;exact⟨c,rfl,g,o,λz=>(a.rel.owned (own2 c z)).1 m,a.ext.hx c m,vs,hv,λx hx=>let ⟨b,ws,h1,h2,h3,h4,h5,h6⟩:=hr x hx;⟨b,ws,h1,h2,h3,λz=>(a.rel.owned (own2 b z)).1 h5,a.ext.hx b h5,h6⟩⟩
noncomputable def HU(x:Exc)(o:aF RV):aF RV :=
 match o with
 |some (Out.ex y,as')=>@ite _ (y=x) (cl _) (some (Out.ok (.sh .non),as')) none
 |_=>none
theorem O5{x:Exc}{o:aF RV}{v:RV}{as':Env}(h:HU x o=some (.ok v,as')):o=some (.ex x,as'):=by
 unfold HU at h;split at h
 ·split at h
  ·rename_i hy;cases h;rw[hy]
  ·cases h
 ·cases h
theorem NG{pins:List Bool}{f:List Sl->aF RV}{hs:List Hd}{xs:List V}{x:Exc}{ρ':Env}(a:Aft K ρ0 σ H0 G0 ρ H G)(h:cZ K H G (aI ρ σ) (dC H0) σ hs xs)(e:cW pins f hs ρ=some (.ex x,ρ')) :
  ∃as G2 as',Rel K as (xs.map some) H G2/\as.length=pins.length/\f as=some (.ex x,as')/\∀H' G',Aft K as (xs.map some) H G2 as' H' G'->Aft K ρ0 σ H0 G0 ρ' H' G':=by
 have e':cW pins (λas=>HU x (f as)) hs ρ=some (.ok (.sh .non),ρ'):=by
  unfold cW at e ⊢
  cases q:bS pins hs ρ with
  |none=>rw[q] at e;cases e
  |some y =>
   obtain⟨as,ρ1⟩:=y;rw[q] at e;simp only at e ⊢
   cases q2:f as with
   |none=>rw[q2] at e;cases e
   |some y =>
    obtain⟨o,as'⟩:=y;rw[q2] at e;simp only at e
    cases q3:bJ pins hs as' ρ ρ1 with
    |none=>rw[q3] at e;cases e
    |some ρ2 =>
     rw[q3] at e;simp only[Option.map_some,Option.some.injEq,Prod.mk.injEq] at e;obtain⟨rfl,rfl⟩:=e;have z:HU x (some (.ex x,as'))=some (.ok (.sh .non),as'):=Zo rfl;rw[z];simp only[q3,Option.map_some]
 obtain⟨as,G2,as',h1,h2,h3,_,h4⟩:=mB a h e';exact⟨as,G2,as',h1,h2,O5 h3,λH' G' b=>(h4 .non H' G' b (by show aC K G' .non _;simp[aC])).1⟩
end
inductive GV where
 |no | con (d:D) | fn (f:String) | blt | cls (ns:List Str) | mth (tb:List (Str×String)) | sub (s n:List Str) | subx (s n:List Str) | exc | exs (cs:List Str)
structure CC where
 N:List Str
 names:List (Str×NameKind)
 gl:Str->GV
 top:Bool
def CC.isGl(Γ:CC)(x:Str):Bool:=Γ.names.lookup x==some .globalImplicit
noncomputable def CC.isVis(Γ:CC)(x:Str):Bool:=Γ.names.lookup x==some .local || Γ.names.lookup x==some .cell || Γ.names.lookup x==some .free
def fL(x:Str):Bool:=x==("__debug__":Str)||x==("__classdict__":Str)||x==("__name__":Str)
def CC.slot(Γ:CC)(x:Str):Option Nat:=if fL x then none else if Γ.isVis x then Γ.N.idxOf? x else none
def CC.glob(Γ:CC)(x:Str):GV:=if fL x then .no else if Γ.isGl x then Γ.gl x else .no
noncomputable def jR(Γ:CC)(x:Str):E :=
 match Γ.slot x with
 |some i=>.var i
 |none=>match Γ.glob x with
  |.con d=>.con d
  |_=>.bad
noncomputable def xP:Const->E
 |.none=>.con .non
 |.bool b=>.con (.bl b)
 |.int i=>.con (.int i)
 |.str s=>if PyData.strOk s then .con (.str s) else .bad
 |_=>.bad
noncomputable def IH(f:Str):Option BI :=
 if f=("len":Str) then some .len else if f=("abs":Str) then some .abs else if f=("int":Str) then some .int else if f=("list":Str) then some .list
 else if f=("tuple":Str) then some .tuple else if f=("min":Str) then some .min else if f=("max":Str) then some .max else if f=("all":Str) then some .all else if f=("repr":Str) then some .repr else if f=("str":Str) then some .str else if f=("sorted":Str) then some .sorted else none
noncomputable def EN(Γ:CC):Expr->Option Ty
 |.Name x _=>match Γ.glob x with
  |.blt=>if x=("int":Str) then some .int else if x=("bool":Str) then some .bool else if x=("str":Str) then some .str else if x=("list":Str) then some .list else if x=("tuple":Str) then some .tuple else if x=("ValueError":Str) then some .verr else none
  |_=>none
 |_=>none
theorem dP{p:Prop}(h:false=true):p:=nomatch h
theorem GA{α:Type}{a:α}{p:Prop}(h:none=some a):p:=nomatch h
def lA:Expr->Option Str
 |.Name x _=>some x
 |_=>none
def sZ:E->E
 |.omt=>.bad
 |c=>c
def aS:Expr->Bool
 |.Starred _ _=>false
 |_=>true
def col(x:Str):Str:=⟨#[58]++x.cps⟩
def CC.globS(Γ:CC)(x:Str):GV:=if fL x then .no else if Γ.isGl x then Γ.gl (col x) else .no
noncomputable def uD(Γ:CC):List Expr->Option (List (List Str×List Str))
 |[]=>some []
 |.Name x _::es=>(match Γ.globS x with
  |.subx s n=>(uD Γ es).map ((s,n) :: ·)
  |_=>none)
 |_=>none
def zW(x:Str):Str:=⟨#[94]++x.cps⟩
def CC.globE(Γ:CC)(x:Str):GV:=if fL x then .no else if Γ.isGl x then Γ.gl (zW x) else .no
noncomputable def zJ(Γ:CC)(t:Expr)(a:E):E:=match t with
 |.Name x _=>(match Γ.globS x with
  |.sub s n=>.bad
  |.subx s n=>.isX a [(s,n)]
  |_=>.bad)
 |.Tuple es _ _=>(match uD Γ es with
  |some sn=>if es.length<=100 then .isX a sn else .bad
  |none=>.bad)
 |_=>.bad
noncomputable def wF(Γ:CC)(args:List Expr)(cs:List E):E :=
 match args,cs with
 |[_,t],[a,_]=>(match EN Γ t with | some ty=>.isi a [ty] | none=>zJ Γ t a)
 |_,_=>.bad
noncomputable def xH:List (Option Expr)->List Expr->List E->List E->E
 |[some _],[_],[c],[e]=>.dict1 c e
 |_,_,_,_=>.bad
def tQ(m:Str):Str:=⟨#[46]++m.cps⟩
def aC8(Γ:CC)(x m:Str)(apos cpos:Pos)(a:Expr):E:=.bad
noncomputable def DD(Γ:CC)(x m:Str)(apos cpos:Pos)(args:List Expr)(cs:List E):E :=
 match Γ.gl (tQ m) with
 |.mth tb=>if args.all aS&&(apos.endLine==cpos.line)&&decide (args.length<29) then(match Γ.slot x with | some i=>.meth i m tb cs | none=>.bad) else .bad
 |_=>match args,cs with
  |[a],[c]=>if aS a&&(apos.endLine==cpos.line)&&(m==("append":Str)) then(match Γ.slot x with | some i=>.app i c | none=>.bad) else if aS a&&(apos.endLine==cpos.line)&&(m==("extend":Str)) then .bad else if aS a&&(apos.endLine==cpos.line)&&(m==("pop":Str)) then .bad else aC8 Γ x m apos cpos a
  |[],[]=>if(apos.endLine==cpos.line)&&(m==("bit_length":Str)) then .bad else .bad
  |[a,b],[c,c']=>if aS a&&aS b&&(apos.endLine==cpos.line)&&(m==("insert":Str)) then(match Γ.slot x with | some i=>.bad | none=>.bad) else .bad
  |_,_=>.bad
noncomputable def x9(Γ:CC)(m:Str)(apos cpos:Pos)(args:List Expr)(a:E)(cs:List E):E :=
 match Γ.gl (tQ m) with
 |.mth tb=>if args.all aS&&(apos.endLine==cpos.line)&&decide (args.length<29) then .bad else .bad
 |_=>.bad
def QY(args:List Expr)(cs:List E):E:=.bif .len cs
def ZW(cs:List E):E:=.bad
def IA(args:List Expr)(cs:List E):E:=.bif .list cs
noncomputable def wB(f:Str)(args:List Expr)(cs:List E):E :=
 if f=("len":Str) then QY args cs else if f=("set":Str) then ZW cs else if f=("range":Str) then .bad else if f=("list":Str) then IA args cs else(match IH f with | some b=>.bif b cs | none=>.bad)
def C1:Expr->Bool
 |.ListComp _ _ _ _=>true
 |_=>false
noncomputable def bV:Expr->Bool
 |.ListComp _ _ _ _=>false
 |.SetComp _ _ _ _=>false
 |.DictComp _ _ _ _ _=>false
 |_=>true
def wG:Expr->Bool
 |.Slice _ _ _ _=>false
 |_=>true
def wU:Expr->Bool
 |.Set _ _ _=>false
 |_=>true
def sH:Expr->Bool
 |.Tuple _ _ _=>false
 |_=>true
def CC.isLoc(Γ:CC)(x:Str):Bool:=Γ.names.lookup x==some .local||(Γ.top && Γ.names.lookup x==some .cell)
def CC.slotL(Γ:CC)(x:Str):Option Nat:=if Γ.isLoc x then Γ.slot x else none
def DG(Γ:CC):Expr->Option Nat
 |.Name x _=>Γ.slotL x
 |_=>none
noncomputable def gC(Γ:CC):List Expr->Option (List Nat)
 |[]=>some []
 |e::es=>(DG Γ e).bind λi=>(gC Γ es).map (i :: ·)
noncomputable def jF(Γ:CC):Expr->Option (Bool×List Nat)
 |.Name x _=>(Γ.slotL x).map λi=>(true,[i])
 |.Tuple es _ _=>(gC Γ es).map λis=>(false,is)
 |_=>none
noncomputable def o8(Γ:CC):Expr->Option (ItK×List Expr)
 |.Call (.Name f p) args [] pos=>if(f==("range":Str)) then
   (match Γ.glob f with
   |.blt=>if args.all aS&&(args.length==1||args.length==2) then some (.rng,args) else none
   |_=>none)
  else if(f==("enumerate":Str)) then
   (match Γ.glob f with
   |.blt=>if args.all aS&&(args.length==1) then some (.enum 0,args) else none
   |_=>none)
  else some (.of,[.Call (.Name f p) args [] pos])
 |.Call (.Name f p) [a] [⟨some x,.Constant (.int c) j q,kp⟩] pos=>if f==("enumerate":Str)&&x==("start":Str)&&aS a&&c==1 then
   (match Γ.glob f with
   |.blt=>some (.enum 1,[a])
   |_=>none)
  else none
 |e=>if wU e then some (.of,[e]) else none
def KA:Expr->Bool
 |.Slice none none (some (.UnaryOp .USub (.Constant (.int i) _ _) _)) _=>i==1
 |_=>false
def fF(scope:Scope):List Str:=(scope.names.filter λp=>p.2==NameKind.free).map (·.1)
def fC(scope:Scope):List Str:=(scope.names.filter λp=>p.2==NameKind.local).map (·.1)
noncomputable def CC.inner(Γ:CC)(scope:Scope):CC :=
 ⟨fF scope++fC scope,scope.names.map λ(n,k)=>if(k==NameKind.free && Γ.names.lookup n==some .cell) then(n,NameKind.cell) else(n,k),Γ.gl,false⟩
noncomputable def CC.imps(Γ:CC):List Str->Option (List Nat)
 |[]=>some []
 |x::xs=>(Γ.N.idxOf? x).bind λi=>(Γ.imps xs).map (i :: ·)
noncomputable def CC.scOk(Γ:CC)(scope:Scope):Bool:=(scope.kind==ScopeKind.function)&&(scope.names.all λp=>p.2 != NameKind.cell)&&(scope.names.all λp=>p.2 != NameKind.local||scope.names.lookup p.1==some NameKind.local) &&
 (scope.names.all λp=>p.2 != NameKind.free||(scope.names.lookup p.1==some NameKind.free&&(Γ.names.lookup p.1==some NameKind.cell || Γ.names.lookup p.1==some NameKind.free)))&&decide (fF scope++fC scope).Nodup
def aCQ(k:ItK)(ci:E)(cargs:List E):List E:=match k with
 |.of=>[ci]
 |_=>cargs
def jN(k:ItK)(one:Bool):Bool:=match k with
 |.enum _=>!one
 |_=>true
def aGi(iter:Expr):Bool:=false
noncomputable def gR(Γ:CC)(scope:Scope)(tg iter:Expr)(ci:E)(cargs cond:List E)(ce:E):E :=
 if Γ.scOk scope then
  match Γ.imps (fF scope),jF (Γ.inner scope) tg,o8 Γ iter with
  |some imp,some (one,is),some (k,_)=>if aGi iter then(if one==(is.length==1) then .comp ce is .sig [ci] cond imp (fC scope).length else .bad) else if one==(is.length==1)&&jN k one&&k != .enum 1 then .comp ce is k (aCQ k ci cargs) cond imp (fC scope).length else .bad
  |_,_,_=>.bad
 else .bad
mutual
noncomputable def cE(Γ:CC):Expr->E
 |.Name x _=>jR Γ x
 |.Constant c _ _=>xP c
 |.Tuple es _ _=>if es.all aS then .tup (bT Γ es) else .bad
 |.List es _=>if es.all aS then .lst (bT Γ es) else .bad
 |.Dict ks vs _=>xH ks vs (cOs Γ ks) (bT Γ vs)
 |.BinOp a op b _=>.bin op (cE Γ a) (cE Γ b)
 |.UnaryOp .Not a _=>.not (cE Γ a)
 |.UnaryOp .USub a _=>.neg (cE Γ a)
 |.Compare a [op] [b] _=>if behindInMarks op b then .bad else .cmp op (cE Γ a) (cE Γ b)
 |.Compare a [op,op'] [b,c] _=>if behindInMarks op' c then .bad else .cmp2 op op' (cE Γ a) (cE Γ b) (cE Γ c)
 |.BoolOp .And (a::b::r) _=>.and (cE Γ a) (PN Γ (b::r))
 |.BoolOp .Or (a::b::r) _=>.or (cE Γ a) (cOr Γ (b::r))
 |.IfExp c a b _=>.bad
 |.Subscript a (.Slice lo hi none _) _=>.sl (cE Γ a) (cO Γ lo) (cO Γ hi)
 |.Subscript a i _=>if KA i then .bad else .ix (cE Γ a) (cE Γ i)
 |.Call (.Name f _) args [] _=>if args.all aS&&decide (args≠[]) then
   match Γ.glob f with
   |.fn g=>.call g (bT Γ args)
   |.cls ns=>.make f ns (bT Γ args)
   |.blt=>if f=("isinstance":Str) then wF Γ args (bT Γ args)
     else wB f args (bT Γ args)
   |_=>.bad
  else .bad
 |.Call (.Attribute (.Name x _) m apos) args [] cpos=>DD Γ x m apos cpos args (bT Γ args)
 |.Call (.Attribute (.Call g (a0::as0) kw p) m apos) args [] cpos=>x9 Γ m apos cpos args (cE Γ (.Call g (a0::as0) kw p)) (bT Γ args)
 |.Attribute (.Name x _) f _=>.fld (jR Γ x) f
 |.ListComp elt [⟨tg,iter,[],0⟩] scope _=>gR Γ scope tg iter (cE Γ iter) (mF Γ iter) [] (cE (Γ.inner scope) elt)
 |.ListComp elt [⟨tg,iter,[c],0⟩] scope _=>gR Γ scope tg iter (cE Γ iter) (mF Γ iter) [cE (Γ.inner scope) c] (cE (Γ.inner scope) elt)
 |_=>.bad
noncomputable def mF(Γ:CC):Expr->List E
 |.Call _ args _ _=>bT Γ args
 |_=>[]
noncomputable def bT(Γ:CC):List Expr->List E
 |[]=>[]
 |e::es=>cE Γ e::bT Γ es
noncomputable def cOs(Γ:CC):List (Option Expr)->List E
 |[]=>[]
 |o::os=>cO Γ o::cOs Γ os
noncomputable def PN(Γ:CC):List Expr->E
 |[]=>.bad
 |[a]=>cE Γ a
 |a::b::r=>.and (cE Γ a) (PN Γ (b::r))
noncomputable def cOr(Γ:CC):List Expr->E
 |[]=>.bad
 |[a]=>cE Γ a
 |a::b::r=>.or (cE Γ a) (cOr Γ (b::r))
noncomputable def cO(Γ:CC):Option Expr->E
 |none=>.omt
 |some e=>sZ (cE Γ e)
end
noncomputable def MZ(K:Frag)(n:Nat)(run:List Sl->aF RV):Sp:=λvs H Q _=>vs.length=n/\∃(as:List Sl) (G:Hp) (v:RV) (as':List Sl),Rel K as (vs.map some) H G/\as.length=n/\run as=some (.ok v,as') /\
 ∀x H' G',Aft K as (vs.map some) H G as' H' G'->cH K H' G' (aI as' (vs.map some)) (dC H) v x->Q x H'
structure FnAt(X:Cx)(K:Frag)(x:Str)(n:Nat)(run:List Sl->aF RV):Prop where
 ex:∃(fa:Addr) (fd:FuncData) (ps:List Str) (k:Nat),FnOk X.prog X.w X.K X.mg X.base rX k fa fd ps (MZ K n run)/\Room k X.A/\X.mg x=some (.ref fa)/\PySem.W.keepIn X.K (.ref fa)=true/\eW X.K fd ps []
noncomputable def LV(K:Frag)(ns:List Str):Sp:=λvs H Q _=>∃a C dx xs,vs=.ref a::xs/\xs.length=ns.length/\H a=some (.ins C dx [])/\ClsF K C ns/\Q .non (aP H a (.ins C dx (ns.zip xs)))
structure MkAt(X:Cx)(K:Frag)(x:Str)(ns:List Str):Prop where
 ex:∃(Ca fa:Addr) (fd:FuncData) (ps:List Str),nsIn K mainGlobals x=some (some (.ref Ca))/\X.mg x=some (.ref Ca)/\Mk X.K Ca fa/\ClsF K Ca ns/\FnOk X.prog X.w X.K X.mg X.base rX 1 fa fd ps (LV K ns)/\eW X.K fd ps []
structure MethAt(X:Cx)(K:Frag)(c m:Str)(n:Nat)(run:List Sl->aF RV):Prop where
 ex:∃(Ca fa:Addr) (fd:FuncData) (ps:List Str) (k:Nat),nsIn K mainGlobals c=some (some (.ref Ca))/\Meth X.K Ca m fa/\FnOk X.prog X.w X.K X.mg X.base rX k fa fd ps (MZ K n run)/\Room k X.A/\eW X.K fd ps []/\Cls K Ca
structure NotC(K:Frag)(D C:Addr):Prop where
 a:PySem.W.kin_not K D C=true
 b:PySem.W.plainGet K D "__class__"=true
 c:PySem.W.hasDictIn K D=true
 d:findIn K (.ref D) "__class__"=some (some (.builtin "object.__class__"))
 e:PySem.W.specialIn K (.builtin "object.__class__") "__get__"=some (some (.builtin "getset_descriptor.__get__"))
 f:PySem.W.takesIn K (.builtin "object.__class__")=some true
 g:PySem.W.mroIn K D (.type "object")=some true
structure SubAt(K:Frag)(mg:Str->Option Value)(x:Str)(s n:List Str):Prop where
 ex:∃C,mg x=some (.ref C)/\(∀c∈s,∀Ca,nsIn K mainGlobals c=some (some (.ref Ca))->PySem.W.isIn K (.ref Ca) C=true)/\∀c∈n,∀Ca,nsIn K mainGlobals c=some (some (.ref Ca))->NotC K Ca C
noncomputable def spX(K:Frag)(n:Nat)(run:List Sl->aF RV):Sp:=λvs H _ E=>vs.length=n/\∃(as:List Sl) (G:Hp) (x:Exc) (as':List Sl),Rel K as (vs.map some) H G/\as.length=n/\run as=some (.ex x,as') /\
 ∀H' G' C,Aft K as (vs.map some) H G as' H' G'->nsIn K mainGlobals x.cls=some (some (.ref C))->ExcG K C->E (.ref C) none H'
structure FnAtX(X:Cx)(K:Frag)(x:Str)(n:Nat)(run:List Sl->aF RV):Prop where
 ex:∃(fa:Addr) (fd:FuncData) (ps:List Str) (k:Nat),FnOk X.prog X.w X.K X.mg X.base (vF X.prog X.w) k fa fd ps (spX K n run)/\Room k X.A/\X.mg x=some (.ref fa)/\PySem.W.keepIn X.K (.ref fa)=true/\eW X.K fd ps []
structure ExcAt(K:Frag)(mg:Str->Option Value)(x:Str):Prop where
 ex:∃C,nsIn K mainGlobals x=some (some (.ref C))/\mg x=some (.ref C)/\ExcG K C
structure ExsAt(K:Frag)(mg:Str->Option Value)(x:Str)(cs:List Str):Prop where
 ex:∃D,mg x=some (.ref D)/\PySem.W.excIn K D uV "ValueError.__new__"=true/\∀c∈cs,∀C,nsIn K mainGlobals c=some (some (.ref C))->PySem.W.mroIn K C (.ref D)=some true
structure SubX(K:Frag)(mg:Str->Option Value)(x:Str)(s n:List Str):Prop where
 ex:∃D,mg x=some (.ref D)/\(∀c∈s,∀C,nsIn K mainGlobals c=some (some (.ref C))->PySem.W.isIn K (.ref C) D=true)/\∀c∈n,∀C,nsIn K mainGlobals c=some (some (.ref C))->PySem.W.kin_not K C D=true
structure XOkB(q:Bool)(X:Cx)(K:Frag)(P:aE)(C:Calls)(Γ:CC):Prop where
 keq:X.K=K
 neq:X.N=Γ.N
 nm:X.env.scope.names=Γ.names
 nd:Γ.N.Nodup
 con:∀x d,Γ.gl x=.con d->∃u v,X.mg x=some u/\aU v u/\∀G,aC K G d v
 blt:∀x,Γ.gl x=.blt->X.mg x=none
 sub:∀x s n,Γ.gl (col x)=.sub s n->SubAt K X.mg x s n
 subx:∀x s n,Γ.gl (col x)=.subx s n->SubX K X.mg x s n
 cond:q=true->X.calm=true/\X.A.handled=none/\X.A.units+64<cLine/\(∀x f,Γ.gl x=.fn f->FnAt X K x (P f).length (C f))/\(∀x ns,Γ.gl x=.cls ns->MkAt X K x ns) /\
  (∀m tb c f,Γ.gl (tQ m)=.mth tb->tb.lookup c=some f->MethAt X K c m (P f).length (C f))/\Room 2 X.A/\(∀x,Γ.gl x=.exc->ExcAt K X.mg x)/\(∀x cs,Γ.gl (zW x)=.exs cs->ExsAt K X.mg x cs)/\(∀x f,Γ.gl x=.fn f->FnAtX X K x (P f).length (C f))/\∃env0 outer0 L,X.stack=env0::outer0/\env0.frame=some L/\X.env.frame=some L
abbrev bD(X:Cx)(K:Frag)(P:aE)(C:Calls)(Γ:CC):Prop:=XOkB true X K P C Γ
section
variable{X:Cx}{K:Frag}{P:aE}{C:Calls}{Γ:CC}
theorem XOkB.calm(o:XOkB true X K P C Γ):X.calm=true:=(o.cond rfl).1
theorem XOkB.hh(o:XOkB true X K P C Γ):X.A.handled=none:=(o.cond rfl).2.1
theorem XOkB.hu(o:XOkB true X K P C Γ):X.A.units+64<cLine:=(o.cond rfl).2.2.1
theorem XOkB.fn(o:XOkB true X K P C Γ):∀x f,Γ.gl x=.fn f->FnAt X K x (P f).length (C f):=(o.cond rfl).2.2.2.1
theorem XOkB.cls(o:XOkB true X K P C Γ):∀x ns,Γ.gl x=.cls ns->MkAt X K x ns:=(o.cond rfl).2.2.2.2.1
theorem XOkB.mth(o:XOkB true X K P C Γ):∀m tb c f,Γ.gl (tQ m)=.mth tb->tb.lookup c=some f->MethAt X K c m (P f).length (C f):=(o.cond rfl).2.2.2.2.2.1
theorem XOkB.rm(o:XOkB true X K P C Γ):Room 2 X.A:=(o.cond rfl).2.2.2.2.2.2.1
theorem XOkB.exc(o:XOkB true X K P C Γ):∀x,Γ.gl x=.exc->ExcAt K X.mg x:=(o.cond rfl).2.2.2.2.2.2.2.1
theorem XOkB.exs(o:XOkB true X K P C Γ):∀x cs,Γ.gl (zW x)=.exs cs->ExsAt K X.mg x cs:=(o.cond rfl).2.2.2.2.2.2.2.2.1
theorem XOkB.fnX(o:XOkB true X K P C Γ):∀x f,Γ.gl x=.fn f->FnAtX X K x (P f).length (C f):=(o.cond rfl).2.2.2.2.2.2.2.2.2.1
theorem XOkB.tp(o:XOkB true X K P C Γ):∃env0 outer0 L,X.stack=env0::outer0/\env0.frame=some L/\X.env.frame=some L:=(o.cond rfl).2.2.2.2.2.2.2.2.2.2
theorem bD.of(keq:X.K=K)(neq:X.N=Γ.N)(nm:X.env.scope.names=Γ.names)(nd:Γ.N.Nodup)(calm:X.calm=true)(hh:X.A.handled=none)(hu:X.A.units+64<cLine)
  (con:∀x d,Γ.gl x=.con d->∃u v,X.mg x=some u/\aU v u/\∀G,aC K G d v) (blt:∀x,Γ.gl x=.blt->X.mg x=none) (fn:∀x f,Γ.gl x=.fn f->FnAt X K x (P f).length (C f)) (cls:∀x ns,Γ.gl x=.cls ns->MkAt X K x ns)
  (mth:∀m tb c f,Γ.gl (tQ m)=.mth tb->tb.lookup c=some f->MethAt X K c m (P f).length (C f)) (rm:Room 2 X.A) (sub:∀x s n,Γ.gl (col x)=.sub s n->SubAt K X.mg x s n) (subx:∀x s n,Γ.gl (col x)=.subx s n->SubX K X.mg x s n)
  (exc:∀x,Γ.gl x=.exc->ExcAt K X.mg x) (exs:∀x cs,Γ.gl (zW x)=.exs cs->ExsAt K X.mg x cs) (fnX:∀x f,Γ.gl x=.fn f->FnAtX X K x (P f).length (C f)) (tp:∃env0 outer0 L,X.stack=env0::outer0/\env0.frame=some L/\X.env.frame=some L):bD X K P C Γ :=
 ⟨keq,neq,nm,nd,con,blt,sub,subx,λ_=>⟨calm,hh,hu,fn,cls,mth,rm,exc,exs,fnX,tp⟩⟩
end
structure Ok3(X:Cx)(K:Frag)(P:aE)(C:Calls)(e:Expr)(c:E):Prop where
 v:PE X e (tE K P C c)
 t:PT X e (tT K P C c)
 h:PE X e (tH K P C c)
section
variable{X:Cx}{K:Frag}{P:aE}{C:Calls}{Γ:CC}
theorem aDd{e:Expr}{c:E}(h:∀t ρ,ev P C t c ρ=none)(n:∀i,c≠.var i):Ok3 X K P C e c:=by
 have v:PE X e (tE K P C c):=λpins s σ H Q I ⟨ρ,G,w,ρ',r,z,k⟩=>by rw[h] at z;cases z
 exact⟨v,(λpins s σ H Q I ⟨ρ,G,w,ρ',r,z,k⟩=>by rw[h] at z;cases z),tR v n⟩
theorem aM{e:Expr}:Ok3 X K P C e .bad:=aDd (λt ρ=>rfl) λi z=>nomatch z
theorem iY{e:Expr}{c:E}{q:Bool}(xo:XOkB q X K P C Γ)(h:PE X e (tE K P C c))(n:∀i,c≠.var i)(hw:∀ρ,ev P C true c ρ=bH true (ev P C false c ρ))
  (he:∀whole,isTrue e X.env whole=(do let v <- whole;standAt e.pos;holding [v] (truthy v))):Ok3 X K P C e c:=⟨h,aEF xo.keq h hw he,tR h n⟩
theorem mR{α:Type}[BEq α][LawfulBEq α]{l:List α}{x:α}{i:Nat}(h:l.idxOf? x=some i):l[i]?=some x:=by
 rw[List.idxOf?,List.findIdx?_eq_some_iff_getElem] at h;obtain⟨h1,h2,_⟩:=h;rw[Zb h1];exact congrArg some (Zy h2)
theorem CC.slot_ok{q:Bool}(xo:XOkB q X K P C Γ){x:Str}{i:Nat}(h:Γ.slot x=some i){pos:Pos}:PE X (.Name x pos) (vL i):=by
 unfold CC.slot at h;split at h
 ·cases h
 ·rename_i hb;split at h
  ·rename_i hv;simp only[fL,Bool.or_eq_true,not_or,Bool.not_eq_true] at hb;refine BW (by rw[xo.neq];exact mR h) ?_ hb.1.1 hb.1.2;unfold CC.isVis at hv;simp only[Bool.or_eq_true,beq_iff_eq] at hv;unfold LU;rw[xo.nm];rcases hv with (h | h) | h
   ·exact .inl h
   ·exact .inr (.inl h)
   ·exact .inr (.inr h)
  ·cases h
theorem CC.globS_ok{q:Bool}(xo:XOkB q X K P C Γ){x:Str}{g:GV}(h:Γ.globS x=g)(hg:g≠.no):Gl X x/\Γ.gl (col x)=g/\(x==("__debug__":Str))=false/\x≠"__name__":=by
 unfold CC.globS at h;split at h
 ·exact absurd h.symm hg
 ·rename_i hb;split at h
  ·rename_i hv;simp only[fL,Bool.or_eq_true,not_or,Bool.not_eq_true] at hb;refine⟨?_,h,hb.1.1,λz=>?_⟩
   ·unfold Gl Env.kindOf;rw[xo.nm];unfold CC.isGl at hv;simpa using hv
   ·have:=hb.2
    rw[z] at this;simp at this
  ·exact absurd h.symm hg
theorem CC.glob_ok{q:Bool}(xo:XOkB q X K P C Γ){x:Str}{g:GV}(h:Γ.glob x=g)(hg:g≠.no):Gl X x/\Γ.gl x=g/\(x==("__debug__":Str))=false/\x≠"__name__":=by
 unfold CC.glob at h;split at h
 ·exact absurd h.symm hg
 ·rename_i hb;split at h
  ·rename_i hv;simp only[fL,Bool.or_eq_true,not_or,Bool.not_eq_true] at hb;refine⟨?_,h,hb.1.1,λz=>?_⟩
   ·unfold Gl Env.kindOf;rw[xo.nm];unfold CC.isGl at hv;simpa using hv
   ·have:=hb.2
    rw[z] at this;simp at this
  ·exact absurd h.symm hg
theorem sL{e:Expr}{d:D}{v:V}{q:Bool}(xo:XOkB q X K P C Γ)(h:PE X e (tC v))(r:∀G,aC K G d v)(he:∀whole,isTrue e X.env whole=(do let v <- whole;standAt e.pos;holding [v] (truthy v))):Ok3 X K P C e (.con d):=by
 refine iY xo (TE.imp_pe h λσ H Q q=>?_) (λi z=>nomatch z) (λρ=>rfl) he;obtain⟨ρ,G,w,ρ',r',z,k⟩:=q;cases z;exact k v H G (Aft.refl r') (r G)
theorem nZ{q:Bool}(xo:XOkB q X K P C Γ)(x:Str)(pos:Pos):Ok3 X K P C (.Name x pos) (jR Γ x):=by
 unfold jR;split
 ·rename_i i hi;have hp:=CC.slot_ok xo hi (pos:=pos);refine⟨UT hp, ?_,VZ hp⟩
  -- a test of a local: looked at
  refine TT.imp_pt (EJ hp λ_=>rfl) λσ H Q q=>?_
  obtain⟨ρ,G,b,ρ',r,e1,k⟩:=q;obtain⟨u,b',e2,e3,e4⟩:=FK e1;cases e4
  cases w:(ρ[i]?).bind Sl.get with
  |none=>rw[w] at e2;cases e2
  |some d =>
   rw[w] at e2;simp only[Option.map_some,Option.some.injEq,Prod.mk.injEq,Out.ok.injEq] at e2;obtain⟨rfl,rfl⟩:=e2;obtain⟨x,hx⟩:=r.bound (i:=i) (by rw[w];rfl);exact⟨x,hx,b,by rw[xo.keq];exact wD r.sub (r.get w hx) e3,k H G (Aft.refl r)⟩
 ·split
  ·rename_i d hd;obtain⟨h1,h2,h3,h4⟩:=CC.glob_ok xo hd (λz=>nomatch z);obtain⟨u,v,hm,hr,hrep⟩:=xo.con x d h2;exact sL xo (zI h1 hm hr h3) hrep λ_=>rfl
  ·exact aM
theorem NU{q:Bool}(xo:XOkB q X K P C Γ)(c:Const)(k:Nat)(pos:Pos):Ok3 X K P C (.Constant c k pos) (xP c):=by
 cases c with
 |none=>exact sL xo aB6 (λG=>by simp[aC]) λ_=>rfl
 |bool b=>exact sL xo aE2 (λG=>by simp[aC]) λ_=>rfl
 |int i=>exact sL xo LS (λG=>by simp[aC]) λ_=>rfl
 |str s =>
  simp only[xP];split
  ·rename_i h;exact sL xo aA9 (λG=>by simp only[aC];exact⟨trivial,h⟩) λ_=>rfl
  ·exact aM
 |_=>exact aM
theorem bE{e:Expr}(h:aS e=true)(es:List Expr)(env:PySem.Env):starEach (e::es) env=(false,eval e env)::starEach es env:=by
 cases e<;>first | rfl | cases h
theorem HJ:PA X [] (xQ K P C []):=by
 refine TA.imp_pa lQ λσ H Q q=>?_
 obtain⟨ρ,G,ds,ρ',r,e,k⟩:=q;simp only[iK,Option.some.injEq,Prod.mk.injEq,Out.ok.injEq] at e;obtain⟨rfl,rfl⟩:=e;exact k [] H G (Aft.refl r) aB.nil
theorem CL{e:Expr}{es:List Expr}{c:E}{cs:List E}(h:Ok3 X K P C e c)(t:PA X es (xQ K P C cs))(ns:aS e=true):PA X (e::es) (xQ K P C (c::cs)):=by
 refine TA.imp_pa (fK h.v t (bE ns _ _)) λσ H Q q=>?_
 obtain⟨ρ,G,ds,ρ',r,e,k⟩:=q;rw[iK] at e;obtain⟨v,ρ1,e1,e2⟩:=aJ e;obtain⟨ds',ρ2,e3,e4⟩:=aJ e2;cases e4;refine⟨ρ,G,v,ρ1,r,e1,λx H1 G1 a1 hx=>?_⟩;obtain⟨G1',a1',rx⟩:=a1.share hx;refine⟨ρ1,G1',ds',_,a1'.rel,e3,λxs H2 G2 a2 hxs=>?_⟩;exact k (x::xs) H2 G2 (a1'.trans a2) (aB.cons (aC.mono a2.ext.gg _ rx) hxs)
theorem W5:PA X [] (mP K P C []):=by
 refine TA.imp_pa lQ λσ H Q q=>?_
 obtain⟨ρ,G,ds,ρ',r,e,k⟩:=q;simp only[cA,Option.some.injEq,Prod.mk.injEq,Out.ok.injEq] at e;obtain⟨rfl,rfl⟩:=e;exact k [] H G (Aft.refl r) rfl
theorem cZ.new_mono{H G:Hp}{own new new':Addr->Prop}{σ:St}(w:∀a,new a->new' a):∀{hs:List Hd} {xs:List V},cZ K H G own new σ hs xs->cZ K H G own new' σ hs xs
 |[],_,h=>h
 |h::hs,_,r=>by(obtain⟨x,r',rfl,h1,h2,h3⟩:=r;exact⟨x,r',rfl,h1.new_mono w,cZ.new_mono w h2,h3⟩)
theorem O3{e:Expr}{es:List Expr}{c:E}{cs:List E}(h:Ok3 X K P C e c)(t:PA X es (mP K P C cs))(ns:aS e=true):PA X (e::es) (mP K P C (c::cs)):=by
 refine TA.imp_pa (fK h.h t (bE ns _ _)) λσ H Q q=>?_
 obtain⟨ρ,G,ds,ρ',r,e,k⟩:=q;rw[cA] at e;obtain⟨v,ρ1,e1,e2⟩:=aJ e;obtain⟨ds',ρ2,e3,e4⟩:=aJ e2;cases e4;refine⟨ρ,G,v,ρ1,r,e1,λx H1 G1 a1 hx=>⟨ρ1,G1,ds',_,a1.rel,e3,λxs H2 G2 a2 hxs=>?_⟩⟩;refine k (x::xs) H2 G2 (a1.trans a2) ⟨x,xs,rfl,hx.wait a2.ext λa z=>.inl (a2.own a z),hxs.new_mono λa z=>a1.ext.hx a z,λd a hd ha ht=>?_⟩;subst hd;obtain⟨b,e5,g,o,n,m⟩:=hx;rw[ha] at e5;cases e5;obtain⟨vs,hv⟩:=o.there
 have:=(hxs.tmp_own ht).2.1
 rw[show H1 a=none from this] at hv;cases hv
theorem cZ.getAll{H G:Hp}{own new:Addr->Prop}{σ:St}{ρ:Env}(r:Rel K ρ σ H G):∀{hs:List Hd} {xs:List V} {ds:List D},cZ K H G own new σ hs xs->getAll hs ρ=some ds->x5 K H G ds xs
 |[],_,_,h,e=>by cases (show _=[] from h);cases e;rfl
 |h::hs,_,ds,hh,e=>by
  obtain⟨x,r',rfl,h1,h2,h3⟩:=hh;simp only[CI.getAll] at e
  cases q:h.get ρ with
  |none=>rw[q] at e;cases e
  |some d =>
   rw[q] at e
   cases q2:CI.getAll hs ρ with
   |none=>rw[q2] at e;cases e
   |some ds' =>
    rw[q2] at e;cases e;exact⟨x,r',rfl,h1.read r q,cZ.getAll r h2 q2⟩
theorem aCw(xo:bD X K P C Γ){a b:Expr}{ca cb:E}{op:Operator}{pos:Pos}(ha:Ok3 X K P C a ca)(hb:Ok3 X K P C b cb):Ok3 X K P C (.BinOp a op b pos) (.bin op ca cb):=by
 refine iY xo (TE.imp_pe (aDa (aAy xo.keq op) ha.h hb.h) λσ H Q q=>?_) (λi z=>nomatch z) (λρ=>rfl) λ_=>rfl
 obtain⟨ρ,G,v,ρ',r,e,k⟩:=q;obtain⟨hx,ρ1,e1,e⟩:=aJ e;obtain⟨hy,ρ2,e2,e⟩:=aJ e;obtain⟨e3,rfl⟩:=eU e;refine⟨ρ,G,hx,ρ1,r,e1,λx H1 G1 a1 rx=>⟨ρ1,G1,hy,ρ',a1.rel,e2,λy H2 G2 a2 ry=>?_⟩⟩
 cases q1:hx.get ρ' with
 |none=>rw[q1] at e3;cases e3
 |some d =>
  cases q2:hy.get ρ' with
  |none=>rw[q1,q2] at e3;cases e3
  |some d2 =>
   rw[q1,q2] at e3;simp only[Option.bind_some] at e3;split at e3
   ·rename_i hm;have rx':=rx.wait a2.ext λa z=>.inl (a2.own a z)
    refine⟨G2,d,d2,v,a2.rel.sub,rx'.read a2.rel q1,ry.read a2.rel q2,λho ds hd=>?_,e3,λz H3 hm3=>?_⟩
    ·subst ho;subst hd
     cases hx with
     |slot i=>simp[pF] at hm
     |val w =>
      cases w with
      |sh _=>simp[pF] at hm
      |od _=>simp[pF] at hm
      |ow w =>
       simp only[Hd.get,RV.d,Option.some.injEq] at q1;subst q1;obtain⟨c,e5,g,⟨vs,o1,o2⟩,n,m⟩:=rx';exact⟨c,vs,e5,o1,o2⟩
    ·obtain⟨G3,a3,v3⟩:=(a1.trans a2).made hm3;exact k z H3 G3 a3 v3
   ·cases e3
theorem aBH(xo:bD X K P C Γ){a:Expr}{ca:E}{pos:Pos}(ha:Ok3 X K P C a ca):Ok3 X K P C (.UnaryOp .USub a pos) (.neg ca):=by
 refine iY xo (TE.imp_pe (aDt aB9 ha.v) λσ H Q q=>?_) (λi z=>nomatch z) (λρ=>rfl) λ_=>rfl
 obtain⟨ρ,G,v,ρ',r,e,k⟩:=q;obtain⟨w,ρ1,e1,e⟩:=aJ e;split at e
 ·rename_i i hi;cases e;refine⟨ρ,G,w,_,r,e1,λx H1 G1 a1 rx=>?_⟩
  have:=rx.readR
  rw[hi] at this;cases this.int;exact⟨i,rfl,k _ H1 G1 a1 (by show aC K G1 (.int (-i)) _;simp[aC])⟩
 ·cases e
theorem YC{a:Expr}{ta:TE}{pos:Pos}(ha:PE X a ta):PE X (.UnaryOp .Not a pos) (λσ H Q=>ta σ H λx H'=>∃k,KG X.K x H' k/\Q (.bl (!k)) H'):=by
 intro pins s σ H Q I h;refine UnaryOp_ (bA (ha pins s σ H _ I h) λv s1 ⟨x,H1,I1,r1,q1⟩=>?_);exact not_of (bA (KI pins s1 σ H1 x v (λk H'=>Q (.bl (!k)) H') I1 r1 q1) λb s2 ⟨H2,I2,q2⟩=>⟨.bl (!b),H2,I2,rfl,q2⟩)
theorem aC6(xo:bD X K P C Γ){a:Expr}{ca:E}{pos:Pos}(ha:Ok3 X K P C a ca):Ok3 X K P C (.UnaryOp .Not a pos) (.not ca):=by
 have v:PE X (.UnaryOp .Not a pos) (tE K P C (.not ca)):=by
  refine TE.imp_pe (YC ha.h) λσ H Q q=>?_
  obtain⟨ρ,G,v,ρ',r,e,k⟩:=q;obtain⟨w,ρ1,e1,e⟩:=aJ e;obtain⟨e2,rfl⟩:=eU e;refine⟨ρ,G,w,ρ',r,e1,λx H1 G1 a1 rx=>?_⟩
  cases q:w.get ρ' with
  |none=>rw[q] at e2;cases e2
  |some d =>
   rw[q] at e2;simp only[Option.bind_some] at e2
   cases q2:hW d with
   |none=>rw[q2] at e2;cases e2
   |some b =>
    rw[q2] at e2;cases e2;refine⟨b, ?_,k _ H1 G1 a1 (by show aC K G1 (.bl _) _;simp[aC])⟩;rw[xo.keq];exact wD a1.rel.sub (rx.read a1.rel q) q2
 refine⟨v, ?_,tR v λi z=>nomatch z⟩;refine TT.imp_pt (aCR ha.t) λσ H Q q=>?_
 obtain⟨ρ,G,b,ρ',r,e,k⟩:=q;obtain⟨w,ρ1,e1,e⟩:=aJ e;split at e
 ·rename_i b';cases e;exact⟨ρ,G,b',_,r,e1,λH1 G1 a1=>k H1 G1 a1⟩
 ·cases e
theorem pR{σ:St}{H G H1 G1 H2 G2:Hp}{ρ ρ1 ρ2:Env}{hx hy:Hd}{x y:V}{op:CmpOp}{b:Bool}(a1:Aft K ρ σ H G ρ1 H1 G1)(rx:gE K H1 G1 (aI ρ1 σ) (dC H) σ hx x)(a2:Aft K ρ1 σ H1 G1 ρ2 H2 G2)(ry:gE K H2 G2 (aI ρ2 σ) (dC H1) σ hy y)
  (e:((hx.get ρ2).bind λd=>(hy.get ρ2).bind λe=>cQ op d e)=some b) (Q:VK) (q:Q (.bl b) H2):B4 K op x y H2 Q:=by
 cases q1:hx.get ρ2 with
 |none=>rw[q1] at e;cases e
 |some d =>
  cases q2:hy.get ρ2 with
  |none=>rw[q1,q2] at e;cases e
  |some d2 =>
   rw[q1,q2] at e;exact⟨G2,d,d2,b,a2.rel.sub,(rx.wait a2.ext λa z=>.inl (a2.own a z)).read a2.rel q1,ry.read a2.rel q2,e,q⟩
theorem aCB{o:Option Bool}{v:RV}(e:(o.map λb=>RV.sh (.bl b))=some v):∃b,o=some b/\v=.sh (.bl b):=by
 cases o with
 |none=>cases e
 |some b=>cases e;exact⟨b,rfl,rfl⟩
theorem oU{x y:Option D}{f:D->D->Option Bool}{v:RV}(e:(x.bind λd=>y.bind λe=>(f d e).map λb=>RV.sh (.bl b))=some v):∃b,(x.bind λd=>y.bind λe=>f d e)=some b/\v=.sh (.bl b):=by
 cases x with
 |none=>cases e
 |some d =>
  cases y with
  |none=>cases e
  |some d2=>exact aCB e
theorem aCk(xo:bD X K P C Γ){a b:Expr}{ca cb:E}{op:CmpOp}{pos:Pos}(ha:Ok3 X K P C a ca)(hb:Ok3 X K P C b cb)(hm:behindInMarks op b=false):Ok3 X K P C (.Compare a [op] [b] pos) (.cmp op ca cb):=by
 have core:∀σ H (Q:VK),(∃(ρ:Env) (G:Hp) (b:Bool) (ρ':Env),Rel K ρ σ H G/\ev P C false (.cmp op ca cb) ρ=some (.ok (.sh (.bl b)),ρ')/\∀H' G',Aft K ρ σ H G ρ' H' G'->Q (.bl b) H') ->
   L5 (B4 K op) (tH K P C ca) (tH K P C cb) σ H Q:=λσ H Q q=>by
  obtain⟨ρ,G,b,ρ',r,e,k⟩:=q;obtain⟨hx,ρ1,e1,e⟩:=aJ e;obtain⟨hy,ρ2,e2,e⟩:=aJ e;obtain⟨e3,rfl⟩:=eU e;obtain⟨b',e4,e5⟩:=oU e3;cases e5;exact⟨ρ,G,hx,ρ1,r,e1,λx H1 G1 a1 rx=>⟨ρ1,G1,hy,ρ',a1.rel,e2,λy H2 G2 a2 ry=>pR a1 rx a2 ry e4 Q (k H2 G2 (a1.trans a2))⟩⟩
 have v:PE X (.Compare a [op] [b] pos) (tE K P C (.cmp op ca cb)):=by
  refine TE.imp_pe (VW (nI xo.keq xo.hu op) ha.h hb.h hm) λσ H Q q=>core σ H Q ?_
  obtain⟨ρ,G,v,ρ',r,e,k⟩:=q;have e0:=e;obtain⟨hx,ρ1,e1,e⟩:=aJ e;obtain⟨hy,ρ2,e2,e⟩:=aJ e;obtain⟨e3,rfl⟩:=eU e;obtain⟨b',e4,rfl⟩:=oU e3;exact⟨ρ,G,b',ρ',r,e0,λH' G' a=>k _ H' G' a (by show aC K G' (.bl _) _;simp[aC])⟩
 refine⟨v, ?_,tR v λi z=>nomatch z⟩;refine TT.imp_pt (XQ (nI xo.keq xo.hu op) ha.h hb.h hm) λσ H Q q=>core σ H _ ?_
 obtain⟨ρ,G,b',ρ',r,e,k⟩:=q;exact⟨ρ,G,b',ρ',r,e,λH' G' a=>⟨b',rfl,k H' G' a⟩⟩
theorem X2(xo:bD X K P C Γ){a b c:Expr}{ca cb cc:E}{op op':CmpOp}{pos:Pos}(ha:Ok3 X K P C a ca)(hb:Ok3 X K P C b cb)(hc:Ok3 X K P C c cc)(hm:behindInMarks op' c=false):Ok3 X K P C (.Compare a [op,op'] [b,c] pos) (.cmp2 op op' ca cb cc):=by
 have core:∀σ H (Q:VK),(∃(ρ:Env) (G:Hp) (b:Bool) (ρ':Env),Rel K ρ σ H G/\ev P C false (.cmp2 op op' ca cb cc) ρ=some (.ok (.sh (.bl b)),ρ')/\∀H' G',Aft K ρ σ H G ρ' H' G'->Q (.bl b) H') ->
   CM (B4 K op) (B4 K op') (tH K P C ca) (tH K P C cb) (tH K P C cc) σ H Q:=λσ H Q q=>by
  obtain⟨ρ,G,b,ρ',r,e,k⟩:=q;obtain⟨hx,ρ1,e1,e⟩:=aJ e;obtain⟨hy,ρ2,e2,e⟩:=aJ e;refine⟨ρ,G,hx,ρ1,r,e1,λx H1 G1 a1 rx=>⟨ρ1,G1,hy,ρ2,a1.rel,e2,λy H2 G2 a2 ry=>?_⟩⟩;split at e
  ·cases e
  ·rename_i e4;cases e;refine pR a1 rx a2 ry e4 _ ⟨false,rfl, ?_⟩;rw[Zp Bool.false_ne_true];exact k H2 G2 (a1.trans a2)
  ·rename_i e4;obtain⟨hz,ρ3,e5,e⟩:=aJ e;obtain⟨e6,rfl⟩:=eU e;obtain⟨b',e7,e8⟩:=oU e6;cases e8;refine pR a1 rx a2 ry e4 _ ⟨true,rfl, ?_⟩;rw[Zo rfl];exact⟨ρ2,G2,hz,ρ',a2.rel,e5,λz H3 G3 a3 rz=>pR (a1.trans a2) (ry.new_mono λa z=>a1.ext.hx a z) a3 rz e7 Q (k H3 G3 ((a1.trans a2).trans a3))⟩
 have hl:lastMarks [op,op'] [b,c]=false:=hm
 have v:PE X (.Compare a [op,op'] [b,c] pos) (tE K P C (.cmp2 op op' ca cb cc)):=by
  refine TE.imp_pe (N6 (nI xo.keq xo.hu op) (nI xo.keq xo.hu op') ha.h hb.h hc.h hl) λσ H Q q=>core σ H Q ?_
  obtain⟨ρ,G,v,ρ',r,e,k⟩:=q;have e0:=e
  have:∃b,v=.sh (.bl b):=by
   obtain⟨hx,ρ1,e1,e⟩:=aJ e;obtain⟨hy,ρ2,e2,e⟩:=aJ e;split at e
   ·cases e
   ·cases e;exact⟨_,rfl⟩
   ·obtain⟨hz,ρ3,e5,e⟩:=aJ e;obtain⟨e6,rfl⟩:=eU e;obtain⟨b',e7,e8⟩:=oU e6;exact⟨b',e8⟩
  obtain⟨b',rfl⟩:=this;exact⟨ρ,G,b',ρ',r,e0,λH' G' a=>k _ H' G' a (by show aC K G' (.bl _) _;simp[aC])⟩
 refine⟨v, ?_,tR v λi z=>nomatch z⟩;refine TT.imp_pt (RJ (nI xo.keq xo.hu op) (nI xo.keq xo.hu op') ha.h hb.h hc.h hl) λσ H Q q=>core σ H _ ?_
 obtain⟨ρ,G,b',ρ',r,e,k⟩:=q;exact⟨ρ,G,b',ρ',r,e,λH' G' a=>⟨b',rfl,k H' G' a⟩⟩
end
section
variable{X:Cx}{K:Frag}{P:aE}{C:Calls}{Γ:CC}
theorem PW.imp{e:Expr}{t u:TT}(h:PW X e t)(w:∀σ H Q,u σ H Q->t σ H Q):PW X e u:=λwh pins s σ H Q I q=>h wh pins s σ H Q I (w σ H Q q)
theorem aE4{σ:St}{H:Hp}{Q:VK}{ca cb:E}(q:tE K P C (.and ca cb) σ H Q):TU (tE K P C ca) (tE K P C cb) σ H Q:=by
 obtain⟨ρ,G,v,ρ',r,e,k⟩:=q;obtain⟨w,ρ1,e1,e⟩:=aJ e;refine⟨ρ,G,w,ρ1,r,e1,λx H1 G1 a1 rx=>?_⟩;split at e
 ·refine⟨true,r9 (K:=K) (G:=G1) rx, ?_⟩;refine wA ?_;exact⟨ρ1,G1,v,ρ',a1.rel,e,λy H2 G2 a2 ry=>k y H2 G2 (a1.trans a2) (ry.new_mono λa z=>a1.ext.hx a z)⟩
 ·refine⟨false,r9 (K:=K) (G:=G1) rx, ?_⟩;refine zD ?_;cases e;exact k _ H1 G1 a1 (by show aC K G1 (.bl _) _;simp[aC])
 ·cases e
theorem aEb{σ:St}{H:Hp}{Q:Bool->Hp->Prop}{ca cb:E}(q:tT K P C (.and ca cb) σ H Q):YY (tT K P C ca) (tT K P C cb) σ H Q:=by
 obtain⟨ρ,G,b,ρ',r,e,k⟩:=q;obtain⟨w,ρ1,e1,e⟩:=aJ e;split at e
 ·refine⟨ρ,G,true,ρ1,r,e1,λH1 G1 a1=>?_⟩;refine wA ?_;exact⟨ρ1,G1,b,ρ',a1.rel,e,λH2 G2 a2=>k H2 G2 (a1.trans a2)⟩
 ·refine⟨ρ,G,false,ρ1,r,e1,λH1 G1 a1=>?_⟩;refine zD ?_;cases e;exact k H1 G1 a1
 ·cases e
theorem aFN{σ:St}{H:Hp}{Q:VK}{ca cb:E}(q:tE K P C (.or ca cb) σ H Q):aBI (tE K P C ca) (tE K P C cb) σ H Q:=by
 obtain⟨ρ,G,v,ρ',r,e,k⟩:=q;obtain⟨w,ρ1,e1,e⟩:=aJ e;refine⟨ρ,G,w,ρ1,r,e1,λx H1 G1 a1 rx=>?_⟩;split at e
 ·refine⟨true,r9 (K:=K) (G:=G1) rx, ?_⟩;refine wA ?_;cases e;exact k _ H1 G1 a1 (by show aC K G1 (.bl _) _;simp[aC])
 ·refine⟨false,r9 (K:=K) (G:=G1) rx, ?_⟩;refine zD ?_;exact⟨ρ1,G1,v,ρ',a1.rel,e,λy H2 G2 a2 ry=>k y H2 G2 (a1.trans a2) (ry.new_mono λa z=>a1.ext.hx a z)⟩
 ·cases e
theorem aFH{σ:St}{H:Hp}{Q:Bool->Hp->Prop}{ca cb:E}(q:tT K P C (.or ca cb) σ H Q):tOr (tT K P C ca) (tT K P C cb) σ H Q:=by
 obtain⟨ρ,G,b,ρ',r,e,k⟩:=q;obtain⟨w,ρ1,e1,e⟩:=aJ e;split at e
 ·refine⟨ρ,G,true,ρ1,r,e1,λH1 G1 a1=>?_⟩;refine wA ?_;cases e;exact k H1 G1 a1
 ·refine⟨ρ,G,false,ρ1,r,e1,λH1 G1 a1=>?_⟩;refine zD ?_;exact⟨ρ1,G1,b,ρ',a1.rel,e,λH2 G2 a2=>k H2 G2 (a1.trans a2)⟩
 ·cases e
structure Ok2(X:Cx)(K:Frag)(P:aE)(C:Calls)(op:BoolOp)(vs:List Expr)(c:E):Prop where
 v:∀pos,PE X (.BoolOp op vs pos) (tE K P C c)
 w:∀pos,PW X (.BoolOp op vs pos) (tT K P C c)
theorem PY{a:Expr}{c:E}(h:Ok3 X K P C a c):Ok2 X K P C .And [a] c:=⟨λ_=>LA h.v,λ_=>T2 h.t⟩
theorem XM{a:Expr}{c:E}(h:Ok3 X K P C a c):Ok2 X K P C .Or [a] c:=⟨λ_=>LA h.v,λ_=>aAb h.t⟩
theorem F4{a b:Expr}{r:List Expr}{ca cb:E}(h:Ok3 X K P C a ca)(t:Ok2 X K P C .And (b::r) cb):Ok2 X K P C .And (a::b::r) (.and ca cb) :=
 ⟨λpos=>TE.imp_pe (aA5 h.v (t.v pos)) λ_ _ _ q=>aE4 q,λpos=>PW.imp (aBz h.t (t.w pos)) λ_ _ _ q=>aEb q⟩
theorem LF{a b:Expr}{r:List Expr}{ca cb:E}(h:Ok3 X K P C a ca)(t:Ok2 X K P C .Or (b::r) cb):Ok2 X K P C .Or (a::b::r) (.or ca cb) :=
 ⟨λpos=>TE.imp_pe (J4 h.v (t.v pos)) λ_ _ _ q=>aFN q,λpos=>PW.imp (aDB h.t (t.w pos)) λ_ _ _ q=>aFH q⟩
theorem Ok2.ok3{op:BoolOp}{vs:List Expr}{c:E}{pos:Pos}(h:Ok2 X K P C op vs c)(n:∀i,c≠.var i):Ok3 X K P C (.BoolOp op vs pos) c:=⟨h.v pos,(h.w pos).pt,tR (h.v pos) n⟩
theorem aAz(xo:bD X K P C Γ){es:List Expr}{cs:List E}{k0:Nat}{pos:Pos}(h:PA X es (xQ K P C cs)):Ok3 X K P C (.Tuple es k0 pos) (.tup cs):=by
 refine iY xo (TE.imp_pe (MR h) λσ H Q q=>?_) (λi z=>nomatch z) (λρ=>rfl) λ_=>rfl
 obtain⟨ρ,G,v,ρ',r,e,k⟩:=q;obtain⟨ds,ρ1,e1,e⟩:=aJ e;split at e
 ·rename_i hz;cases e;refine⟨ρ,G,ds,_,r,e1,λxs H1 G1 a1 rx=>⟨by rw[rx.len];exact eX hz,λp hp=>?_⟩⟩;obtain⟨a2,v2⟩:=a1.tup_new hp rx;exact k _ _ _ a2 v2
 ·cases e
theorem MB{q:Bool}(xo:XOkB q X K P C Γ){es:List Expr}{cs:List E}{pos:Pos}(h:PA X es (xQ K P C cs)):Ok3 X K P C (.List es pos) (.lst cs):=by
 refine iY xo (TE.imp_pe (aBn h) λσ H Q q=>?_) (λi z=>nomatch z) (λρ=>rfl) λ_=>rfl
 obtain⟨ρ,G,v,ρ',r,e,k⟩:=q;obtain⟨ds,ρ1,e1,e⟩:=aJ e;split at e
 ·rename_i hz;cases e;refine⟨ρ,G,ds,_,r,e1,λxs H1 G1 a1 rx=>⟨by rw[rx.len];exact eX hz,λp hp=>?_⟩⟩;obtain⟨a2,v2⟩:=a1.own_new hp rx;exact k _ _ _ a2 v2
 ·cases e
theorem aEY(xo:bD X K P C Γ){a b:Expr}{ca cb:E}{pos:Pos}(ha:Ok3 X K P C a ca)(hb:Ok3 X K P C b cb)(hs:yK b):Ok3 X K P C (.Subscript a b pos) (.ix ca cb):=by
 refine iY xo (TE.imp_pe (aDb (aDS xo.keq (by have:=xo.hu;omega)) ha.h hb.v hs) λσ H Q q=>?_) (λi z=>nomatch z) (λρ=>rfl) λ_=>rfl
 obtain⟨ρ,G,v,ρ',r,e,k⟩:=q;obtain⟨hx,ρ1,e1,e⟩:=aJ e;obtain⟨w,ρ2,e2,e⟩:=aJ e;obtain⟨e3,rfl⟩:=eU e;refine⟨ρ,G,hx,ρ1,r,e1,λx H1 G1 a1 rx=>⟨ρ1,G1,w,ρ',a1.rel,e2,λy H2 G2 a2 ry=>?_⟩⟩
 cases q1:hx.get ρ' with
 |none=>rw[q1] at e3;cases e3
 |some d =>
  rw[q1] at e3;simp only[Option.bind_some] at e3
  cases q2:NA d w.d with
  |none=>rw[q2] at e3;cases e3
  |some d2 =>
   rw[q2] at e3;cases e3;exact⟨G2,d,w.d,d2,a2.rel.sub,(rx.wait a2.ext λa z=>.inl (a2.own a z)).read a2.rel q1,ry.readR,q2,λz hz=>k z H2 G2 (a1.trans a2) hz⟩
noncomputable def tO(K:Frag)(P:aE)(C:Calls)(c:E):TO:=λσ H Q=>∃(ρ:Env) (G:Hp) (o:Option D) (ρ':Env),Rel K ρ σ H G/\zF c (ev P C false c ρ) ρ=some (.ok o,ρ')/\∃i,mJ o=some i/\∀H' G',Aft K ρ σ H G ρ' H' G'->Q i H'
theorem NT:PO X none (tO K P C .omt):=λpins s σ H Q I ⟨ρ,G,o,ρ',r,e,i,e2,k⟩=>by
 simp only[zF,CQ,if_true,Option.some.injEq,Prod.mk.injEq,Out.ok.injEq] at e;obtain⟨rfl,rfl⟩:=e;cases e2;exact XC pins s σ H Q I (k H G (Aft.refl r))
theorem O4{e:Expr}{c:E}(h:Ok3 X K P C e c):PO X (some e) (tO K P C (sZ c)):=λpins s σ H Q I ⟨ρ,G,o,ρ',r,e1,i,e2,k⟩=>by
 have key:∀c',sZ c=c'->CQ c'=false->(∀ρ,ev P C false c' ρ=ev P C false c ρ\/ev P C false c' ρ=none)->wpAny (model X.prog X.w) X.A (evalPart (some e) X.env) (λu s'=>∃o H',Inv X pins σ H' s'/\IsPart u o/\Q o H') X.xe s:=λc' e0 hno he=>by
  rw[e0] at e1;simp only[zF,hno,Bool.false_eq_true,if_false] at e1;obtain⟨w,ρ1,e3,e4⟩:=aJ e1;cases e4;rcases he ρ with he | he
  ·rw[he] at e3;refine UX h.v pins s σ H Q I ⟨ρ,G,w,_,r,e3,λx H1 G1 a1 rx=>?_⟩;cases q:w.d<;>rw[q] at e2<;>simp only[mJ,reduceCtorEq,Option.some.injEq] at e2;subst e2
   have:=rx.readR
   rw[q] at this;exact⟨_,this.int,k H1 G1 a1⟩
  ·rw[he] at e3;cases e3
 cases c with
 |omt=>exact key .bad rfl rfl λρ=>.inr (rfl)
 |_=>exact key _ rfl rfl λρ=>.inl rfl
theorem aE1(xo:bD X K P C Γ){a:Expr}{lo hi:Option Expr}{ca cl ch:E}{pos p2:Pos}(ha:Ok3 X K P C a ca)(hl:PO X lo (tO K P C cl))(hh:PO X hi (tO K P C ch)):Ok3 X K P C (.Subscript a (.Slice lo hi none p2) pos) (.sl ca cl ch):=by
 refine iY xo (TE.imp_pe (QV (aEU xo.keq) ha.h hl hh) λσ H Q q=>?_) (λi z=>nomatch z) (λρ=>rfl) λ_=>rfl
 obtain⟨ρ,G,v,ρ',r,e,k⟩:=q;obtain⟨hx,ρ1,e1,e⟩:=aJ e;obtain⟨l,ρ2,e2,e⟩:=aJ e;obtain⟨h,ρ3,e3,e⟩:=aJ e;obtain⟨e4,rfl⟩:=eU e
 cases q1:hx.get ρ' with
 |none=>rw[q1] at e4;cases e4
 |some d =>
  cases q2:mJ l with
  |none=>rw[q1,q2] at e4;cases e4
  |some l' =>
   cases q3:mJ h with
   |none=>rw[q1,q2,q3] at e4;cases e4
   |some h' =>
    rw[q1,q2,q3] at e4;simp only[Option.bind_some] at e4;refine⟨ρ,G,hx,ρ1,r,e1,λx H1 G1 a1 rx=>⟨ρ1,G1,l,ρ2,a1.rel,e2,l',q2,λH2 G2 a2=>⟨ρ2,G2,h,ρ',a2.rel,e3,h',q3,λH3 G3 a3=>?_⟩⟩⟩;have a23:=a2.trans a3;refine⟨G3,d,v,a3.rel.sub,(rx.wait a23.ext λa z=>.inl (a23.own a z)).read a3.rel q1,e4,λz H4 hm=>?_⟩;obtain⟨G4,a4,v4⟩:=(a1.trans a23).made hm;exact k z H4 G4 a4 v4
theorem eQ{es:List Expr}(h:es.all aS=true)(env:PySem.Env)(pos:Pos):(backTo pos (starEach es env)).any (·.1)=false/\(backTo pos (starEach es env)).all (λx=>!x.1)=true:=by
 induction es with
 |nil=>exact⟨rfl,rfl⟩
 |cons e es ih =>
  rw[Zj,ZB] at h;rw[bE h.1];obtain⟨i1,i2⟩:=ih h.2
  unfold backTo at *
  refine⟨?_, ?_⟩
  ·rw[Zs,List.any_cons,i1];rfl
  ·rw[Zs,Zj,i2];rfl
theorem WQ(xo:bD X K P C Γ){f:Str}{g:String}{e:Expr}{es:List Expr}{cs:List E}{p pos:Pos}(hf:Γ.glob f=.fn g)(ns:(e::es).all aS=true)(ha:PA X (e::es) (mP K P C cs)):Ok3 X K P C (.Call (.Name f p) (e::es) [] pos) (.call g cs):=by
 obtain⟨h1,h2,h3,h4⟩:=CC.glob_ok xo hf (λz=>nomatch z);obtain⟨fa,fd,ps,k0,F,hr,hm,hk,hb⟩:=(xo.fn f g h2).ex;rw[Zj,ZB] at ns;refine iY xo (TE.imp_pe (YB F hr h1 hm hk hb .nil BC ha h3 (bE ns.1 _ _) (eQ ns.2 _ _).1) λσ H Q q=>?_) (λi z=>nomatch z) (λρ=>rfl) λ_=>rfl
 obtain⟨ρ,G,v,ρ',r,e,k⟩:=q;obtain⟨hs,ρ1,e1,e⟩:=aJ e;refine⟨ρ,G,hs,ρ1,r,e1,λxs H1 G1 a1 rx=>?_⟩;obtain⟨as,G2,as',d1,d2,d3,_,d4⟩:=mB a1 rx e;rw[List.append_nil];refine⟨?_,as,G2,v,as',d1,d2,d3,λx H' G' a hv=>?_⟩
 ·have:=d1.len
  rw[List.length_map] at this;omega
 ·obtain⟨a5,v5⟩:=d4 x H' G' a hv;exact k x H' G' a5 v5
theorem U8{f:Str}{b:BI}(h:IH f=some b):bootBuiltins f=some (biV b):=by
 unfold IH at h
 repeat (split at h;· (rename_i hf;cases h;subst hf;first | exact PySem.boot_len | decide +kernel | rfl))
 cases h
theorem DJ(xo:bD X K P C Γ){f:Str}{b:BI}{e:Expr}{es:List Expr}{cs:List E}{p pos:Pos}(hf:Γ.glob f=.blt)(hb:IH f=some b)(ns:(e::es).all aS=true)(ha:PA X (e::es) (mP K P C cs)):Ok3 X K P C (.Call (.Name f p) (e::es) [] pos) (.bif b cs):=by
 obtain⟨h1,h2,h3,h4⟩:=CC.glob_ok xo hf (λz=>nomatch z);have hm:=xo.blt f h2;have hv:=U8 hb;rw[Zj,ZB] at ns
 have hp:PE X (.Call (.Name f p) (e::es) [] pos) (tCB (rBi K b) (mP K P C cs)):=by
  have hc:=aEA xo.keq xo.calm xo.hh xo.rm b
  cases b<;>first
   |exact pL hc h1 hm hv ha h4 h3 (bE ns.1 _ _) (eQ ns.2 _ _).1
   |exact K5 hc h1 hm hv ha h4 h3 (bE ns.1 _ _) (eQ ns.2 _ _).1
 refine iY xo (TE.imp_pe hp λσ H Q q=>?_) (λi z=>nomatch z) (λρ=>rfl) λ_=>rfl
 obtain⟨ρ,G,v,ρ',r,e,k⟩:=q;obtain⟨hs,ρ1,e1,e⟩:=aJ e;obtain⟨e2,rfl⟩:=eU e;refine⟨ρ,G,hs,ρ',r,e1,λxs H1 G1 a1 rx=>?_⟩
 cases q1:getAll hs ρ' with
 |none=>rw[q1] at e2;cases e2
 |some ds =>
  rw[q1] at e2;refine⟨G1,ds,v,a1.rel.sub,rx.getAll a1.rel q1,e2,λz H' hm=>?_⟩;obtain⟨G2,a2,v2⟩:=a1.made hm;exact k z H' G2 a2 v2
end
section
variable{X:Cx}{K:Frag}{P:aE}{C:Calls}{Γ:CC}
theorem HD{ρ:Env}{i:Nat}(h:kC ρ i=true):∃ds p l,ρ[i]?=some (.ow (.lst ds) p l):=by
 unfold kC at h;split at h
 ·rename_i d p l e;exact⟨d,p,l,e⟩
 ·cases h
theorem Rel.writeO{ρ:Env}{σ:St}{H G:Hp}(r:Rel K ρ σ H G){i:Nat}{d:D}{p l:Bool}{a:Addr}{d':D}{ob:HO}(h:ρ[i]?=some (.ow d p l))(hx:σ[i]?=some (some (.ref a)))(hr:fW K (aP H a ob) G a d') :
  Aft K ρ σ H G (ρ.set i (.ow d' p l)) (aP H a ob) G:=by
 obtain⟨b,h1,g,o⟩:=r.ow i d p l h;rw[hx] at h1;cases h1;have hn:H a≠none:=(r.owned ⟨i,d,p,l,h,hx⟩).1
 have r0:Rel K (ρ.set i .un) σ (aP H a ob) G:=by
  have ru:=r.unset i;have nu:=r.unset_not h hx;refine⟨ru.len,λb u e=>?_,ru.sh,λj d' p' l' hj=>?_,ru.inj⟩
  ·have:b≠a:=λz=>by subst z;rw[g] at e;cases e
   rw[aG this];exact ru.sub b u e
  ·obtain⟨b,h3,h4,h5⟩:=ru.ow j d' p' l' hj;have hb:b≠a:=λz=>by subst z;exact nu ⟨j,d',p',l',hj,h3⟩
   exact⟨b,h3,h4,h5.mono (aK.refl _) λ_ z=>by rw[aG hb];exact z⟩
 refine⟨r0.put_ow hx g hr (r.unset_not h hx),⟨aK.refl _,λb u e nb=>?_,λb e=>?_,λb e g' _=>g'⟩,iC.set (by rw[h];exact⟨rfl,rfl⟩)⟩
 ·have:b≠a:=λz=>by subst z;exact nb ⟨i,d,p,l,h,hx⟩
  rw[aG this];exact e
 ·by_cases hb:b=a
  ·subst hb;rw[aY] at e;cases e
  ·rwa[aG hb] at e
theorem Rel.write{ρ:Env}{σ:St}{H G:Hp}(r:Rel K ρ σ H G){i:Nat}{d:D}{p l:Bool}{a:Addr}{ds:List D}{vs:List V}(h:ρ[i]?=some (.ow d p l))(hx:σ[i]?=some (some (.ref a)))(hr:aB K G ds vs) :
  Aft K ρ σ H G (ρ.set i (.ow (.lst ds) p l)) (aP H a (.lst vs)) G:=r.writeO h hx ⟨vs,aY,hr⟩
theorem aAi(xo:bD X K P C Γ){x:Str}{i:Nat}{a:Expr}{ca:E}{p apos cpos:Pos}(hi:Γ.slot x=some i)(hl:(apos.endLine==cpos.line)=true)(ns:aS a=true)(ha:Ok3 X K P C a ca) :
  Ok3 X K P C (.Call (.Attribute (.Name x p) ("append":Str) apos) [a] [] cpos) (.app i ca):=by
 have hp:PE X (.Name x p) (vL i):=CC.slot_ok xo hi;have hpa:PA X [a] (kM (tE K P C ca) vM):=fK ha.v lQ (bE ns _ _);have hall:[a].all aS=true:=by rw[Zj,ns];rfl
 refine iY xo (TE.imp_pe (aDy PySem.F.plainAttrs_list PySem.F.slot_list_append PySem.F.type_list_append zV hp hpa rfl (by
   rw[ZB,ZB];exact⟨⟨(eQ hall _ _).2,rfl⟩,rfl⟩) hl (bE ns _ _) rfl) λσ H Q q=>?_) (λi z=>nomatch z) (λρ=>rfl) λ_=>rfl
 obtain⟨ρ,G,v,ρ',r,e,k⟩:=q;replace e:(if kC ρ i then _ else none)=_:=e;split at e
 ·rename_i ho;obtain⟨d0,p0,l0,h0⟩:=HD ho;obtain⟨b,hb,g0,o0⟩:=r.ow i _ p0 l0 h0;obtain⟨w,ρ1,e1,e⟩:=aJ e;refine⟨.ref b,hb,.inl ⟨rfl, ?_⟩,ρ,G,w,ρ1,r,e1,λy H1 G1 a1 ry=>?_⟩
  ·obtain⟨vs,hv,_⟩:=o0;exact⟨vs,bY.of hv⟩
  ·split at e
   ·rename_i ds p1 h1;split at e
    ·rename_i hz;cases e;obtain⟨G2,a2,r2⟩:=a1.share ry;obtain⟨b',hb',g1,vs,hv,hr⟩:=a2.rel.ow i _ _ _ h1;rw[hb] at hb';cases hb'
     have:=hr.len
     refine⟨b,vs,y,rfl,rfl,hv, ?_, ?_⟩
     ·have:=eX hz
      omega
     ·have a3:=a2.rel.write h1 hb (hr.app (aB.cons r2 aB.nil));exact k _ _ _ (a2.trans a3) (by show aC K G2 .non _;simp[aC])
    ·cases e
   ·cases e
 ·cases e
theorem FH{H:Hp}{p:Addr}{a b:HO}:aP (aP H p a) p b=aP H p b:=by
 funext q
 by_cases h:q=p
 ·subst h;rw[aY,aY]
 ·rw[aG h,aG h,aG h]
theorem Rel.poke{ρ:Env}{σ:St}{H G:Hp}(r:Rel K ρ σ H G){a:Addr}{o:HO}(g:G a=none)(n:¬aI ρ σ a):Rel K ρ σ (aP H a o) G:=by
 refine⟨r.len,λb u e=>?_,r.sh,λj d' p' l' hj=>?_,r.inj⟩
 ·have:b≠a:=λz=>by subst z;rw[g] at e;cases e
  rw[aG this];exact r.sub b u e
 ·obtain⟨b,h3,h4,h5⟩:=r.ow j d' p' l' hj;have hb:b≠a:=λz=>by subst z;exact n ⟨j,d',p',l',hj,h3⟩
  exact⟨b,h3,h4,h5.mono (aK.refl _) λ_ z=>by rw[aG hb];exact z⟩
theorem Aft.poke{ρ ρ':Env}{σ:St}{H G H' G':Hp}(b:Aft K ρ σ H G ρ' H' G'){a:Addr}{o:HO}(h:H a=none)(g:G' a=none)(n:¬aI ρ' σ a):Aft K ρ σ H G ρ' (aP H' a o) G':=by
 refine⟨b.rel.poke g n,⟨b.ext.gg,λc u e nc=>?_,λc e=>?_,b.ext.gn⟩,b.evo⟩
 ·have:c≠a:=λz=>by subst z;rw[h] at e;cases e
  rw[aG this];exact b.ext.hh c u e nc
 ·by_cases hc:c=a
  ·subst hc;rw[aY] at e;cases e
  ·rw[aG hc] at e;exact b.ext.hx c e
theorem OY(xo:bD X K P C Γ){ke ve:Expr}{ck cv:E}{pos:Pos}(hk:Ok3 X K P C ke ck)(hv:Ok3 X K P C ve cv):Ok3 X K P C (.Dict [some ke] [ve] pos) (.dict1 ck cv):=by
 refine iY xo (TE.imp_pe (RG (by have:=xo.hu;omega) hk.v hv.v) λσ H Q q=>?_) (λi z=>nomatch z) (λρ=>rfl) λ_=>rfl
 obtain⟨ρ,G,v,ρ',r,e,k⟩:=q;obtain⟨w,ρ1,e1,e⟩:=aJ e;obtain⟨w2,ρ2,e2,e3⟩:=aJ e;unfold M8 at e3;split at e3
 ·rename_i k0 hs;cases e3;intro p hp sm;have nO:=r.notOwn hp;have gO:=aK.free r.sub hp;refine⟨ρ,G,w,ρ1,((Aft.refl r).layH hp).rel,e1,λx H1 G1 a1 rx=>?_⟩;have hH:H1 p=some (.ext (dY p [])):=a1.ext.hh p _ aY nO;have hG:G1 p=none:=a1.ext.gn p (by rw[aY];simp) gO nO;have hN:¬aI ρ1 σ p:=λz=>nO (a1.own p z)
  obtain⟨b,rfl,kk⟩:=nF hs rx.readR;refine⟨ρ1,G1,w2,ρ',a1.rel,e2,λy H2 G2 a2 ry=>?_⟩;have a0:Aft K ρ σ H G ρ' H2 G2:=((Aft.refl r).layH hp).trans (a1.trans a2);have hH2:H2 p=some (.ext (dY p [])):=a2.ext.hh p _ hH hN;have hG2:G2 p=none:=a2.ext.gn p (by rw[hH];simp) hG hN;have hN2:¬aI ρ' σ p:=λz=>hN (a2.own p z)
  obtain⟨G3,a3,r3,s3⟩:=a2.shareS ry;have kk3:cC K G3 k0 b:=cC.mono (a2.ext.gg.trans s3) kk;have a4:Aft K ρ σ H G ρ' H2 G3:=((Aft.refl r).layH hp).trans (a1.trans a3);have hG3:G3 p=none:=a3.ext.gn p (by rw[hH];simp) hG hN;refine⟨hH2,k0,b,rfl,by rw[xo.keq];exact cC.mono a3.rel.sub kk3,λu ru=>?_⟩;refine k _ _ G3 (a4.poke hp hG3 hN2) ⟨p,rfl,hG3,⟨_,[y],aY, ?_,aB.cons r3 aB.nil⟩,hN2,hp⟩;exact⟨by simp,by rw[sizeLine_eq];simp,sm,λx hx=>by rw[ze.mp hx];exact kk3,rfl,.cons ru .nil⟩
 ·cases e3
theorem RF(xo:bD X K P C Γ){ks:List (Option Expr)}{vs:List Expr}{cs es:List E}{pos:Pos}(hk:∀k c,ks=[some k]->cs=[c]->Ok3 X K P C k c)(hv:∀v c,vs=[v]->es=[c]->Ok3 X K P C v c):Ok3 X K P C (.Dict ks vs pos) (xH ks vs cs es):=by
 unfold xH;split
 ·exact OY xo (hk _ _ rfl rfl) (hv _ _ rfl rfl)
 ·exact aM
theorem XO{q:Bool}(xo:XOkB q X K P C Γ){t:Expr}{ty:Ty}(h:EN Γ t=some ty):PE X t (tC (OH ty))/\aS t=true:=by
 cases t<;>simp only[EN,reduceCtorEq] at h;rename_i x pos;split at h
 ·rename_i hg;obtain⟨h1,h2,h3,h4⟩:=CC.glob_ok xo hg (λz=>nomatch z);have hm:=xo.blt x h2;refine⟨?_,rfl⟩;split at h
  ·rename_i hx;cases h;subst hx;exact kX h1 hm (u:=.type "int") (by decide +kernel) rfl
  ·split at h
   ·rename_i hx;cases h;subst hx;exact kX h1 hm (u:=.type "bool") (by decide +kernel) rfl
   ·split at h
    ·rename_i hx;cases h;subst hx;exact kX h1 hm (u:=.type "str") (by decide +kernel) rfl
    ·split at h
     ·rename_i hx;cases h;subst hx;exact kX h1 hm (u:=.type "list") (by decide +kernel) rfl
     ·split at h
      ·rename_i hx;cases h;subst hx;exact kX h1 hm (u:=.type "tuple") (by decide +kernel) rfl
      ·split at h
       ·rename_i hx;cases h;subst hx;exact kX h1 hm (u:=.type "ValueError") (by decide +kernel) rfl
       ·cases h
 ·cases h
theorem KW{q:Bool}(xo:XOkB q X K P C Γ){a t:Expr}{ca:E}{ty:Ty}{p pos:Pos}(hf:Γ.glob ("isinstance":Str)=.blt)(ht:EN Γ t=some ty)(ns:aS a=true)(ha:Ok3 X K P C a ca) :
  Ok3 X K P C (.Call (.Name ("isinstance":Str) p) [a,t] [] pos) (.isi ca [ty]):=by
 obtain⟨h1,h2,h3,h4⟩:=CC.glob_ok xo hf (λz=>nomatch z);have hm:=xo.blt _ h2;obtain⟨pt,nt⟩:=XO xo ht;have hpa:PA X [a,t] (kM (tH K P C ca) (kM (tC (OH ty)) vM)):=fK ha.h (fK pt lQ (bE nt _ _)) (bE ns _ _);have hall:[t].all aS=true:=by rw[Zj,nt];rfl
 have hp:=pL (p:=p) (pos:=pos) (aBh xo.keq ty) h1 hm (by decide +kernel) hpa h4 h3 (bE ns _ _) (eQ hall _ _).1;refine iY xo (TE.imp_pe hp λσ H Q q=>?_) (λi z=>nomatch z) (λρ=>rfl) λ_=>rfl
 obtain⟨ρ,G,v,ρ',r,e,k⟩:=q;obtain⟨hx,ρ1,e1,e⟩:=aJ e;obtain⟨e2,rfl⟩:=eU e;refine⟨ρ,G,hx,ρ',r,e1,λx H1 G1 a1 rx=>?_⟩
 cases q1:hx.get ρ' with
 |none=>rw[q1] at e2;cases e2
 |some d =>
  rw[q1] at e2;simp only[Option.bind_some,BN] at e2
  cases q2:II ty d with
  |none=>rw[q2] at e2;cases e2
  |some b =>
   rw[q2] at e2;simp only[Option.bind_some,Option.map_some,Bool.or_false,Option.some.injEq] at e2;subst e2;exact⟨G1,d,x,b,a1.rel.sub,rfl,rx.read a1.rel q1,q2,k _ H1 G1 a1 (by show aC K G1 (.bl _) _;simp[aC])⟩
theorem J9{b:Expr}(h:∀lo hi p,b≠.Slice lo hi none p):yK b:=λo i=>by
 cases b<;>first
  |rfl
  | (rename_i lo hi st p;cases st with
    |none=>exact absurd rfl (h lo hi p)
    |some s=>rfl)
end
section
variable{X:Cx}{K:Frag}{P:aE}{C:Calls}{Γ:CC}
theorem wW{G:Hp}{f:Str}:∀{ns:List Str} {ds:List D} {vs:List V} {d:D},aB K G ds vs->(ns.zip ds).lookup f=some d->f∈ns/\∃v,(ns.zip vs).lookup f=some v/\aC K G d v
 |[],_,_,_,_,h=>by simp at h
 |n::ns,[],_,_,_,h=>by simp at h
 |n::ns,d0::ds,vs,d,r,h=>by
  simp only[aB] at r;obtain⟨v,r',rfl,h1,h2⟩:=r;rw[List.zip_cons_cons,List.lookup_cons] at h ⊢
  cases q:(f==n) with
  |true =>
   rw[q] at h;cases h;exact⟨by rw[Zy q];simp,v,rfl,h1⟩
  |false =>
   rw[q] at h;obtain⟨z1,v',z2,z3⟩:=wW h2 h;exact⟨Ze _ z1,v',z2,z3⟩
theorem bX.ins{H G:Hp}{c:Str}{ns:List Str}{ds:List D}{x:V}(h:bX K H G (.ins c ns ds) x):aC K G (.ins c ns ds) x:=by
 rcases h with h | ⟨a,rfl,h⟩
 ·exact h
 ·exact h.elim
theorem ZH(xo:bD X K P C Γ){x f:Str}{p pos:Pos}:Ok3 X K P C (.Attribute (.Name x p) f pos) (.fld (jR Γ x) f):=by
 have ha:=nZ xo x p;refine iY xo (TE.imp_pe (aAt ha.h rfl) λσ H Q q=>?_) (λi z=>nomatch z) (λρ=>rfl) λ_=>rfl
 obtain⟨ρ,G,v,ρ',r,e,k⟩:=q;obtain⟨hx,ρ1,e1,e⟩:=aJ e;obtain⟨e3,rfl⟩:=eU e;refine⟨ρ,G,hx,ρ',r,e1,λx H1 G1 a1 rx=>?_⟩
 cases q1:hx.get ρ' with
 |none=>rw[q1] at e3;cases e3
 |some d =>
  rw[q1] at e3;simp only[Option.bind_some] at e3;cases d<;>simp only[PX,reduceCtorEq,Option.map_none] at e3;rename_i c ns ds
  cases q2:(ns.zip ds).lookup f with
  |none=>rw[q2] at e3;cases e3
  |some d' =>
   rw[q2] at e3;cases e3;have rr:=(rx.read a1.rel q1).ins;simp only[aC] at rr;obtain⟨a,Ca,dx,vs,rfl,h1,h2,h3,h4,h5⟩:=rr;obtain⟨z1,v',z2,z3⟩:=wW h3 q2;have hK:=xo.keq;exact⟨a,Ca,dx,_,v',rfl,a1.rel.sub _ _ h2,by rw[hK];exact h4.cl,by rw[hK];exact h4.no f z1,z2,k v' H1 G1 a1 z3⟩
theorem PJ(hK:X.K=K):eZ X (.builtin "isinstance") (λxs H Q=>∃a Ca Da b,xs=[.ref a,.ref Da]/\H a=some (.ext (fI a Ca))/\ExcG K Ca/\PySem.W.kitOne K (.ref Ca) (.ref Da)=some b/\Q (.bl b) H):=by
 intro pins s σ H xs us Q I r h;obtain⟨a,Ca,Da,b,rfl,ha,g,e,q⟩:=h;subst hK;obtain⟨u,w,rfl,ru,rw'⟩:=uB r;cases ru;cases rw';exact PySem.W.kia_one (vT g) I.kIn (I.hok a _ ha).1 e (λz=>nomatch z) λtk=>⟨.bl b,H,I.tok tk,rfl,q⟩
theorem zU:∀{Ds:List Addr} {us:List Value},aL (Ds.map V.ref) us->us=Ds.map Value.ref
 |[],_,.nil=>rfl
 |_::_,_,.cons r t=>by rw[Zs,<- zU t];cases (show _=_ from r);rfl
theorem LH(hK:X.K=K):eZ X (.builtin "isinstance") (λxs H Q=>∃(a Ca p:Addr) (Ds:List Addr) (b:Bool),xs=[.ref a,.ref p]/\H a=some (.ext (fI a Ca))/\ExcG K Ca/\H p=some (.tup (Ds.map V.ref))/\PySem.W.kitAny K (.ref Ca) (Ds.map Value.ref)=some b/\Q (.bl b) H):=by
 intro pins s σ H xs us Q I r h;obtain⟨a,Ca,p,Ds,b,rfl,ha,g,hp,e,q⟩:=h;subst hK;obtain⟨u,w,rfl,ru,rw'⟩:=uB r;cases ru;cases rw';obtain⟨_,its,rv,⟨oc,od,oda,osl⟩,h4,h5,n,h6⟩:=I.hok p _ hp;cases (show oc=_ from h5);cases (show oda=_ from h6);obtain rfl:=zU rv;exact PySem.W.kia_tup (vT g) I.kIn (I.hok a _ ha).1 h4 e (λz=>nomatch z) λtk=>⟨.bl b,H,I.tok tk,rfl,q⟩
inductive XDs(K:Frag):List (List Str×List Str)->List Addr->Prop
 |nil:XDs K [] []
 |cons {s n:List Str} {D:Addr} {sn:List (List Str×List Str)} {Ds:List Addr} (hs:∀c∈s,∀C,nsIn K mainGlobals c=some (some (.ref C))->PySem.W.isIn K (.ref C) D=true)
   (hn:∀c∈n,∀C,nsIn K mainGlobals c=some (some (.ref C))->PySem.W.kin_not K C D=true) (t:XDs K sn Ds):XDs K ((s,n)::sn) (D::Ds)
theorem FT{c:Str}{Ca:Addr}(hc:nsIn K mainGlobals c=some (some (.ref Ca))):∀{sn:List (List Str×List Str)} {Ds:List Addr} {b:Bool},XDs K sn Ds->vS c sn=some b->PySem.W.kitAny K (.ref Ca) (Ds.map Value.ref)=some b
 |_,_,b,.nil,e=>by cases e;rfl
 |_,_,b,.cons (s:=s) (n:=n) (D:=D) hs hn t,e=>by
  simp only[vS] at e;rw[Zs];unfold PySem.W.kitAny;split at e
  ·rename_i h1;cases e;rw[Z9 (hs c (by simpa using h1) Ca hc)]
  ·split at e
   ·rename_i h2;rw[T7 (hn c (by simpa using h2) Ca hc)];exact FT hc t e
   ·cases e
theorem DO{q:Bool}(xo:XOkB q X K P C Γ):∀{es:List Expr} {sn:List (List Str×List Str)},uD Γ es=some sn->∃Ds,XDs K sn Ds/\PA X es (λσ H Q=>Q (Ds.map V.ref) H)/\Ds.length=es.length
 |[],_,h=>by
  simp only[uD,Option.some.injEq] at h;subst h;exact⟨[],.nil,lQ,rfl⟩
 |e::es,sn,h=>by
  unfold uD at h;split at h
  ·cases h;simp_all
  ·rename_i x p es' heq;cases heq;split at h
   ·rename_i s n hx
    cases q:uD Γ es with
    |none=>rw[q] at h;cases h
    |some sn' =>
     rw[q] at h;cases h;obtain⟨Ds,h1,h2,h3⟩:=DO xo q;obtain⟨x1,x2,x3,x4⟩:=CC.globS_ok xo hx (λz=>nomatch z);obtain⟨D,d1,d2,d3⟩:=(xo.subx x s n x2).ex;exact⟨D::Ds,.cons d2 d3 h1,TA.imp_pa (fK (zI x1 d1 (v:=.ref D) rfl x3) h2 rfl) λσ H Q q=>q,by rw[Zk,Zk,h3]⟩
   ·cases h
  ·cases h
theorem FR{qq:Bool}(xo:XOkB qq X K P C Γ){sn:List (List Str×List Str)}{ca:E}{σ:St}{H:Hp}{Q:VK}(q:tE K P C (.isX ca sn) σ H Q):tH K P C ca σ H λx H1=>∃a Ca b G1,x=.ref a/\aK G1 H1/\H1 a=some (.ext (fI a Ca))/\ExcG K Ca/\(∀{Ds:List Addr},XDs K sn Ds->PySem.W.kitAny K (.ref Ca) (Ds.map Value.ref)=some b)/\Q (.bl b) H1/\∀p o,H1 p=none->Q (.bl b) (aP H1 p o):=by
 obtain⟨ρ,G,v,ρ',r,e,k⟩:=q;obtain⟨hx,ρ1,e1,e⟩:=aJ e;obtain⟨e2,rfl⟩:=eU e;refine⟨ρ,G,hx,ρ',r,e1,λy H1 G1 a1 rx=>?_⟩
 cases q1:hx.get ρ' with
 |none=>rw[q1] at e2;cases e2
 |some d =>
  rw[q1] at e2;simp only[Option.bind_some] at e2;cases d<;>simp only[QE,reduceCtorEq] at e2;rename_i c
  cases q2:vS c sn with
  |none=>rw[q2] at e2;cases e2
  |some b =>
   rw[q2] at e2;cases e2;obtain⟨a,Ca,rfl,g1,g2,g3⟩:=(rx.read a1.rel q1).exn a1.rel.sub;exact⟨a,Ca,b,G1,rfl,a1.rel.sub,g3,g2,λt=>FT g1 t q2,k _ H1 G1 a1 (by show aC K G1 (.bl b) _;simp[aC]),λp o hp=>k _ _ G1 (a1.layH hp) (by show aC K G1 (.bl b) _;simp[aC])⟩
theorem M9{q:Bool}(xo:XOkB q X K P C Γ){a t:Expr}{ca:E}{p pos:Pos}(hf:Γ.glob ("isinstance":Str)=.blt)(ns:aS a=true)(ha:Ok3 X K P C a ca):Ok3 X K P C (.Call (.Name ("isinstance":Str) p) [a,t] [] pos) (zJ Γ t ca):=by
 unfold zJ;split
 ·rename_i x p2;split
  ·rename_i s n hx;exact aM
  ·rename_i s n hx;obtain⟨h1,h2,h3,h4⟩:=CC.glob_ok xo hf (λz=>nomatch z);have hm:=xo.blt _ h2;obtain⟨x1,x2,x3,x4⟩:=CC.globS_ok xo hx (λz=>nomatch z);obtain⟨Da,d1,d2,d3⟩:=(xo.subx x s n x2).ex;have hpa:PA X [a,.Name x p2] (kM (tH K P C ca) (kM (tC (.ref Da)) vM)):=fK ha.h (fK (zI x1 d1 rfl x3) lQ rfl) (bE ns _ _);have hp:=pL (p:=p) (pos:=pos) (PJ xo.keq) h1 hm (by decide +kernel) hpa h4 h3 (bE ns _ _) rfl;refine iY xo (TE.imp_pe hp λσ H Q q=>?_) (λi z=>nomatch z) (λρ=>rfl) λ_=>rfl
   obtain⟨ρ,G,hd',ρ',r,e1,k⟩:=FR xo q;refine⟨ρ,G,hd',ρ',r,e1,λy H1 G1 a1 rx=>?_⟩;obtain⟨a',Ca,b,G2,rfl,_,g3,g2,ky,q1,_⟩:=k y H1 G1 a1 rx;refine⟨a',Ca,Da,b,rfl,g3,g2, ?_,q1⟩;have z:=ky (.cons d2 d3 .nil);simp only[Zs,List.map_nil,PySem.W.kitAny] at z;split at z
   ·rename_i z1;rw[z1];exact z
   ·rename_i z1;rw[z1];exact z
   ·cases z
  ·exact aM
 ·rename_i es k0 p2;split
  ·rename_i sn hsn;split
   case isFalse=>exact aM
   rename_i hle;obtain⟨h1,h2,h3,h4⟩:=CC.glob_ok xo hf (λz=>nomatch z);have hm:=xo.blt _ h2;obtain⟨Ds,x1,x2,x3⟩:=DO xo hsn;have hpa:PA X [a,.Tuple es k0 p2] (kM (tH K P C ca) (kM (aB7 λσ H Q=>Q (Ds.map V.ref) H) vM)):=fK ha.h (fK (MR x2) lQ rfl) (bE ns _ _);have hp:=pL (p:=p) (pos:=pos) (LH xo.keq) h1 hm (by decide +kernel) hpa h4 h3 (bE ns _ _) rfl;refine iY xo (TE.imp_pe hp λσ H Q q=>?_) (λi z=>nomatch z) (λρ=>rfl) λ_=>rfl
   obtain⟨ρ,G,hd',ρ',r,e1,k⟩:=FR xo q;refine⟨ρ,G,hd',ρ',r,e1,λy H1 G1 a1 rx=>?_⟩;obtain⟨a',Ca,b,G2,rfl,_,g3,g2,ky,_,q2⟩:=k y H1 G1 a1 rx;refine⟨?_,λt ht=>?_⟩
   ·rw[List.length_map,x3,sizeLine_eq];omega
   ·refine⟨a',Ca,t,Ds,b,rfl,by rw[aG (bO g3 ht)];exact g3,g2,aY,ky x1,q2 t _ ht⟩
  ·exact aM
 ·exact aM
theorem YQ(xo:bD X K P C Γ){f:Str}{ns:List Str}{e:Expr}{es:List Expr}{cs:List E}{p pos:Pos}(hf:Γ.glob f=.cls ns)(st:(e::es).all aS=true)(ha:PA X (e::es) (xQ K P C cs)):Ok3 X K P C (.Call (.Name f p) (e::es) [] pos) (.make f ns cs):=by
 obtain⟨h1,h2,h3,h4⟩:=CC.glob_ok xo hf (λz=>nomatch z);obtain⟨Ca,fa,fd,ps,hn,hm,M,cf,F,hb⟩:=(xo.cls f ns h2).ex;rw[Zj,ZB] at st;refine iY xo (TE.imp_pe (W8 M F xo.rm h1 hm hb .nil BC ha h3 (bE st.1 _ _) (eQ st.2 _ _).1) λσ H Q q=>?_) (λi z=>nomatch z) (λρ=>rfl) λ_=>rfl
 obtain⟨ρ,G,v,ρ',r,e,k⟩:=q;obtain⟨ds,ρ1,e1,e⟩:=aJ e;split at e
 ·rename_i hl;cases e;refine⟨ρ,G,ds,_,r,e1,λxs H1 G1 a1 rx x dx nx ndx ne=>?_⟩;have el:xs.length=ns.length:=rx.len.trans hl;rw[List.append_nil];refine⟨x,Ca,dx,xs,rfl,el,aY,cf,rfl, ?_⟩;rw[FH];have nx':(aP H1 dx (.own x)) x=none:=by rw[aG (Ne.symm ne)];exact nx
  have a2:=(a1.layH (o:=.own x) ndx).layG (o:=.ins Ca dx (ns.zip xs)) nx';refine k (.ref x) _ _ a2 ?_;show aC K _ (.ins f ns ds) _;simp only[aC];exact⟨x,Ca,dx,xs,rfl,hn,aY,aB.mono (aK.laid (aK.free a1.rel.sub nx)) ds rx,cf,el.symm⟩
 ·cases e
theorem mG{α:Type}{f:Str}:∀{ns:List Str} {vs:List α},ns.contains f=false->(ns.zip vs).lookup f=none
 |[],_,_=>by simp
 |n::ns,[],_=>by simp
 |n::ns,v::vs,h=>by(rw[List.contains_cons,Bool.or_eq_false_iff] at h;rw[List.zip_cons_cons,List.lookup_cons,h.1];exact mG h.2)
theorem GC{o:Expr}{m:Str}{es:List Expr}{apos pos:Pos}(st:es.all aS=true)(hln:(apos.endLine==pos.line)=true)(hfw:es.length<29)(env:PySem.Env)(hb:attributeBase o m env (eval o env)=eval o env:=by rfl):eval (.Call (.Attribute o m apos) es [] pos) env=(do
   let ov <- eval o env
   standAt apos.atName
   let (f,first) <- holding [ov] (getMethod ov m (do return (<- importBound o env).getD true))
   callWith pos f first (backTo pos (starEach es env)) (backToKw pos (keywordEach [] env))):=by
 rw[arm_eval_Call]
 have hform:methodCallForm (es.length+([]:List Keyword).length) (backTo pos (starEach es env)) (backToKw pos (keywordEach [] env))=true:=by
  unfold methodCallForm;rw[(eQ st env pos).2];simp only[Bool.true_and]
  have:(backToKw pos (keywordEach [] env))=[]:=rfl
  rw[this];simp;omega
 have hpos:methodCallPos true o env apos pos=pure pos:=by unfold methodCallPos;simp[hln]
 unfold methodCall;rw[hform];unfold calleeOf;simp only[if_true,hpos,hb];rfl
theorem X7(xo:bD X K P C Γ){x m:Str}{i:Nat}{tb:List (Str×String)}{es:List Expr}{cs:List E}{p apos pos:Pos}(hi:Γ.slot x=some i)(hm:Γ.gl (tQ m)=.mth tb)(st:es.all aS=true)(hln:(apos.endLine==pos.line)=true)(hfw:es.length<29)(ha:PA X es (mP K P C cs))(hz:es=[]->cs=[]):Ok3 X K P C (.Call (.Attribute (.Name x p) m apos) es [] pos) (.meth i m tb cs):=by
 have hp:=CC.slot_ok xo hi (pos:=p);refine iY xo (λpins s σ H Q I q=>?_) (λi z=>nomatch z) (λρ=>rfl) λ_=>rfl
 obtain⟨ρ,G,v,ρ',r,e,k⟩:=q;replace e:(match ρ[i]? with | some (.sh (.ins c ns ds))=>(match iJ c ns m tb with | some f=>(cA P C cs ρ).bind λhs ρ1=>cW (P f) (C f) (.val (.sh (.ins c ns ds))::hs) ρ1 | none=>none) | _=>none)=some (.ok v,ρ'):=e;split at e
 ·rename_i c ns ds hs;split at e
  ·rename_i f hmf;unfold iJ at hmf;split at hmf
   ·cases hmf
   ·rename_i hns;obtain⟨Ca,fa,fd,ps,k0,hn,M,F,hr,hb,hcl⟩:=(xo.mth m tb c f hm hmf).ex;obtain⟨x0,hx0,rx0⟩:=r.sh i _ hs;have rx1:=rx0;simp only[aC] at rx0;obtain⟨a,Cb,dx,vs,rfl,h1,h2,h3,h4,h5⟩:=rx0;rw[hn] at h1;cases h1;obtain⟨hd0,ρ1,e1,e⟩:=aJ e;have hK:=xo.keq;have clX:Cls X.K Ca:=by rw[hK];exact h4.cl
    have main:∀t:TA,(∀σ H Q,mP K P C cs σ H Q->t σ H Q)->JL Ca m (MZ K (P f).length (C f)) [] (λ_ _ _=>False) (vL i) t σ H Q:=λt ht=>by
     refine⟨.ref a,hx0,a,dx,_,rfl,r.sub _ _ h2,mG (by simpa using hns),ht _ _ _ ⟨ρ,G,hd0,ρ1,r,e1,λxs H1 G1 a1 rx=>?_⟩⟩;have rx':cZ K H1 G1 (aI ρ1 σ) (dC H) σ (.val (.sh (.ins c ns ds))::hd0) (.ref a::xs):=⟨.ref a,xs,rfl,aC.mono a1.ext.gg _ rx1,rx,λd b z=>by cases z⟩
     obtain⟨as,G2,as',d1,d2,d3,_,d4⟩:=mB a1 rx' e;dsimp only;rw[List.append_nil];refine⟨?_,as,G2,v,as',d1,d2,d3,λx H' G' a hv=>?_⟩
     ·have:=d1.len
      rw[List.length_map] at this;omega
     ·obtain⟨a5,v5⟩:=d4 x H' G' a hv;exact k x H' G' a5 v5
    cases es with
    |nil =>
     cases hz rfl;refine O1 hp clX M F hr hb .nil BC (GC st hln hfw _) pins s σ H Q I (main _ λσ' H' Q' z=>?_);obtain⟨ρ2,G2,hs2,ρ3,r2,e2,k2⟩:=z;rw[cA] at e2;cases e2;exact k2 [] H' G2 (Aft.refl r2) rfl
    |cons e0 es0 =>
     have st0:=st;rw[Zj,ZB] at st;exact X0 hp clX M F hr hb .nil BC ha (bE st.1 _ _) (eQ st.2 _ _).1 (GC st0 hln hfw _) pins s σ H Q I (main _ λ_ _ _ z=>z)
  ·cases e
 ·cases e
end
structure AftS(K:Frag)(ρ:Env)(σ:St)(H G:Hp)(ρ':Env)(σ':St)(H' G':Hp):Prop where
 rel:Rel K ρ' σ' H' G'
 ext:Ext (aI ρ σ) H G H' G'
 own:∀a,aI ρ' σ' a->aI ρ σ a\/H a=none
 un:∀i:Nat,ρ'[i]?=some .un->ρ[i]?=some .un/\σ'[i]?=σ[i]?
 pin:∀(i:Nat) d l,ρ[i]?=some (.ow d true l)->σ'[i]?=σ[i]?/\∃d',ρ'[i]?=some (.ow d' true l)
 len:ρ'.length=ρ.length
section
variable{K:Frag}{ρ ρ' ρ1 ρ2:Env}{σ σ' σ1 σ2:St}{H G H' G' H1 G1 H2 G2:Hp}
theorem AftS.refl(r:Rel K ρ σ H G):AftS K ρ σ H G ρ σ H G:=⟨r,Ext.refl,λ_ h=>.inl h,λ_ h=>⟨h,rfl⟩,λ_ d _ h=>⟨rfl,d,h⟩,rfl⟩
theorem Aft.s(r:Rel K ρ σ H G)(a:Aft K ρ σ H G ρ' H' G'):AftS K ρ σ H G ρ' σ H' G':=by
 refine⟨a.rel,a.ext,λx h=>.inl (a.own x h),λi h=>⟨?_,rfl⟩,λi d l h=>⟨rfl, ?_⟩, ?_⟩
 ·have:=a.evo i
  rw[h] at this
  cases e:ρ[i]? with
  |none=>rw[e] at this;exact this.elim
  |some s=>rw[e] at this;cases s<;>first | rfl | exact this.elim
 ·have:=a.evo i
  rw[h] at this
  cases e:ρ'[i]? with
  |none=>rw[e] at this;exact this.elim
  |some s =>
   rw[e] at this
   cases s with
   |ow d' p' l'=>obtain⟨rfl,rfl⟩:=this;exact⟨d',rfl⟩
   |sh d'=>exact absurd (show true=false from this) (by simp)
   |_=>exact this.elim
 ·rw[a.rel.len,r.len]
theorem AftS.trans(a:AftS K ρ σ H G ρ1 σ1 H1 G1)(b:AftS K ρ1 σ1 H1 G1 ρ2 σ2 H2 G2):AftS K ρ σ H G ρ2 σ2 H2 G2:=by
 refine⟨b.rel,a.ext.trans a.own b.ext,λx h=>?_,λi h=>?_,λi d l h=>?_,b.len.trans a.len⟩
 ·rcases b.own x h with z | z
  ·exact a.own x z
  ·exact .inr (a.ext.hx x z)
 ·obtain⟨h1,h2⟩:=b.un i h;obtain⟨h3,h4⟩:=a.un i h1;exact⟨h3,h2.trans h4⟩
 ·obtain⟨h1,d',h2⟩:=a.pin i d l h;obtain⟨h3,h4⟩:=b.pin i d' l h2;exact⟨h3.trans h1,h4⟩
def fS(K:Frag)(ρ:Env)(σ:St)(H G:Hp)(ρ':Env)(D:Ends):Fl->Prop
 |.nx=>∀σ' H' G',AftS K ρ σ H G ρ' σ' H' G'->D.nx σ' H'
 |.bk=>∀σ' H' G',AftS K ρ σ H G ρ' σ' H' G'->D.bk σ' H'
 |.ct=>∀σ' H' G',AftS K ρ σ H G ρ' σ' H' G'->D.ct σ' H'
 |.rt v=>∀x σ' H' G',AftS K ρ σ H G ρ' σ' H' G'->cH K H' G' (aI ρ' σ') (λa=>aI ρ σ a\/H a=none) v x->D.rt x H'
 |.ex _=>False
theorem fS.pre{D:Ends}{fl:Fl}(a:AftS K ρ σ H G ρ1 σ1 H1 G1)(h:fS K ρ σ H G ρ' D fl):fS K ρ1 σ1 H1 G1 ρ' D fl:=by
 cases fl with
 |nx=>exact λσ' H' G' b=>h σ' H' G' (a.trans b)
 |bk=>exact λσ' H' G' b=>h σ' H' G' (a.trans b)
 |ct=>exact λσ' H' G' b=>h σ' H' G' (a.trans b)
 |rt v=>exact λx σ' H' G' b hv=>h x σ' H' G' (a.trans b) (hv.new_mono λc z=>by
   rcases z with z | z
   ·exact a.own c z
   ·exact .inr (a.ext.hx c z))
 |ex e=>exact h
end
noncomputable def tS(K:Frag)(P:aE)(C:Calls)(W:Nat)(c:S):TS:=λD σ H=>∃(ρ:Env) (G:Hp) (fl:Fl) (ρ':Env),Rel K ρ σ H G/\ex P C W c ρ=some (fl,ρ')/\fS K ρ σ H G ρ' D fl
noncomputable def kF(K:Frag)(P:aE)(C:Calls)(W:Nat)(c:List S):TS:=λD σ H=>∃(ρ:Env) (G:Hp) (fl:Fl) (ρ':Env),Rel K ρ σ H G/\exs P C W c ρ=some (fl,ρ')/\fS K ρ σ H G ρ' D fl
theorem TS.imp_ps{X:Cx}{e:Stmt}{t u:TS}(h:PS X e t)(w:∀D σ H,u D σ H->t D σ H):PS X e u:=λpins s σ H D I q=>h pins s σ H D I (w D σ H q)
theorem TS.imp_pss{X:Cx}{e:List Stmt}{t u:TS}(h:dR X e t)(w:∀D σ H,u D σ H->t D σ H):dR X e u:=λpins s σ H D I q=>h pins s σ H D I (w D σ H q)
section
variable{X:Cx}{K:Frag}{P:aE}{C:Calls}{W:Nat}{Γ:CC}
theorem fJ{α:Type}{r:aF α}{f:α->Env->bI}{fl:Fl}{ρ:Env}(h:r.flow f=some (fl,ρ))(n:∀e,fl≠.ex e):∃a ρ1,r=some (.ok a,ρ1)/\f a ρ1=some (fl,ρ):=by
 unfold aF.flow at h;split at h
 ·cases h
 ·cases h;exact absurd rfl (n _)
 ·exact⟨_,_,rfl,h⟩
theorem fS.ne{ρ ρ':Env}{σ:St}{H G:Hp}{D:Ends}{fl:Fl}(h:fS K ρ σ H G ρ' D fl):∀e,fl≠.ex e:=λe z=>by subst z;exact h
theorem CV:dR X [] (kF K P C W []):=TS.imp_pss GW λD σ H ⟨ρ,G,fl,ρ',r,e,k⟩=>by
 simp only[exs,Option.some.injEq,Prod.mk.injEq] at e;obtain⟨rfl,rfl⟩:=e;exact k σ H G (AftS.refl r)
theorem AQ{st:Stmt}{dU:List Stmt}{c:S}{cs:List S}(h1:PS X st (tS K P C W c))(h2:dR X dU (kF K P C W cs)):dR X (st::dU) (kF K P C W (c::cs)):=by
 refine TS.imp_pss (wH h1 h2) λD σ H ⟨ρ,G,fl,ρ',r,e,k⟩=>?_
 rw[exs] at e
 cases q:ex P C W c ρ with
 |none=>rw[q] at e;cases e
 |some y =>
  obtain⟨fl1,ρ1⟩:=y;rw[q] at e;refine⟨ρ,G,fl1,ρ1,r,q, ?_⟩
  cases fl1 with
  |nx=>exact λσ1 H1 G1 a1=>⟨ρ1,G1,fl,ρ',a1.rel,e,k.pre a1⟩
  |bk=>cases e;exact k
  |ct=>cases e;exact k
  |rt v=>cases e;exact k
  |ex x=>cases e;exact k
theorem Rel.storeR{ρ ρ':Env}{σ:St}{H G:Hp}{new:Addr->Prop}{i:Nat}{v:RV}{x:V}(r:Rel K ρ σ H G)(e:store i v ρ=some ρ')(h:cH K H G (aI ρ σ) new v x) :
  Rel K ρ' (σ.set i (some x)) H G/\(∀a,aI ρ' (σ.set i (some x)) a->aI ρ σ a\/new a)/\(∀j:Nat,ρ'[j]?=some .un->ρ[j]?=some .un/\(σ.set i (some x))[j]?=σ[j]?) /\
  (∀(j:Nat) d l,ρ[j]?=some (.ow d true l)->(σ.set i (some x))[j]?=σ[j]?/\∃d',ρ'[j]?=some (.ow d' true l))/\ρ'.length=ρ.length:=by
 have key:∃sl,i<ρ.length/\ρ'=ρ.set i sl/\(∀d l,ρ[i]?≠some (.ow d true l))/\((∃d,v=.sh d/\sl=.sh d)\/∃d,v=.ow d/\sl=.ow d false false):=by
  unfold store at e;split at e
  ·cases e
  ·cases e
  ·cases e
  ·rename_i s h1 h2 h3;have hnp:∀d l,ρ[i]?≠some (.ow d true l):=λd l z=>by rw[h3] at z;cases z;exact h1 _ _ rfl
   have hlt:=(Zc.mp h3).1
   cases v with
   |sh d=>cases e;exact⟨_,hlt,rfl,hnp,.inl ⟨d,rfl,rfl⟩⟩
   |ow d=>cases e;exact⟨_,hlt,rfl,hnp,.inr ⟨d,rfl,rfl⟩⟩
   |od d=>cases e
 obtain⟨sl,hi,rfl,np,hs⟩:=key;have his:i<σ.length:=by rw[<- r.len];exact hi
 have hx:(σ.set i (some x))[i]?=some (some x):=zk his;have ne:∀j:Nat,j≠i->(σ.set i (some x))[j]?=σ[j]?:=λj h=>Zf (λz=>h z.symm)
 have oth:∀(j:Nat) s,(ρ.set i sl)[j]?=some s->(j=i/\s=sl)\/(j≠i/\ρ[j]?=some s):=λj s h=>by
  rcases cL h with ⟨h1,h2,_⟩ | h
  ·exact .inl ⟨h1,h2⟩
  ·exact .inr h
 refine⟨⟨by rw[zg,zg];exact r.len,r.sub,λj d h1=>?_,λj d p l h1=>?_,λj k d p l d' p' l' a h1 h2 h3 h4=>?_⟩,λa ⟨j,d,p,l,h1,h2⟩=>?_,λj h1=>?_,λj d l h1=>?_,by rw[zg]⟩
 ·rcases oth j _ h1 with ⟨rfl,z⟩ | ⟨nj,z⟩
  ·rcases hs with ⟨d0,rfl,rfl⟩ | ⟨d0,rfl,rfl⟩
   ·cases z;exact⟨x,hx,h⟩
   ·cases z
  ·rw[ne j nj];exact r.sh j d z
 ·rcases oth j _ h1 with ⟨rfl,z⟩ | ⟨nj,z⟩
  ·rcases hs with ⟨d0,rfl,rfl⟩ | ⟨d0,rfl,rfl⟩
   ·cases z
   ·cases z;obtain⟨a,rfl,g,o,_,_⟩:=h;exact⟨a,hx,g,o⟩
  ·rw[ne j nj];exact r.ow j d p l z
 ·rcases oth j _ h1 with ⟨rfl,z⟩ | ⟨nj,z⟩
  ·rcases oth k _ h2 with ⟨rfl,z'⟩ | ⟨nk,z'⟩
   ·rfl
   ·rcases hs with ⟨d0,rfl,rfl⟩ | ⟨d0,rfl,rfl⟩
    ·cases z
    ·obtain⟨b,rfl,g,o,no,_⟩:=h;rw[hx] at h3;cases h3;rw[ne k nk] at h4;exact absurd ⟨k,_,_,_,z',h4⟩ no
  ·rcases oth k _ h2 with ⟨rfl,z'⟩ | ⟨nk,z'⟩
   ·rcases hs with ⟨d0,rfl,rfl⟩ | ⟨d0,rfl,rfl⟩
    ·cases z'
    ·obtain⟨b,rfl,g,o,no,_⟩:=h;rw[hx] at h4;cases h4;rw[ne j nj] at h3;exact absurd ⟨j,_,_,_,z,h3⟩ no
   ·rw[ne j nj] at h3;rw[ne k nk] at h4;exact r.inj _ _ _ _ _ _ _ _ _ z z' h3 h4
 ·rcases oth j _ h1 with ⟨rfl,z⟩ | ⟨nj,z⟩
  ·rcases hs with ⟨d0,rfl,rfl⟩ | ⟨d0,rfl,rfl⟩
   ·cases z
   ·obtain⟨b,rfl,g,o,no,m⟩:=h;rw[hx] at h2;cases h2;exact .inr m
  ·rw[ne j nj] at h2;exact .inl ⟨j,d,p,l,z,h2⟩
 ·rcases oth j _ h1 with ⟨rfl,z⟩ | ⟨nj,z⟩
  ·rcases hs with ⟨d0,rfl,rfl⟩ | ⟨d0,rfl,rfl⟩<;>cases z
  ·exact⟨z,ne j nj⟩
 ·by_cases hj:j=i
  ·subst hj;exact absurd h1 (np d l)
  ·exact⟨ne j hj,d,by rw[Zf (λz=>hj z.symm)];exact h1⟩
theorem Aft.store{ρ ρ1 ρ':Env}{σ:St}{H G H1 G1:Hp}{i:Nat}{v:RV}{x:V}(r:Rel K ρ σ H G)(a:Aft K ρ σ H G ρ1 H1 G1)(e:store i v ρ1=some ρ')(h:cH K H1 G1 (aI ρ1 σ) (dC H) v x):AftS K ρ σ H G ρ' (σ.set i (some x)) H1 G1:=by
 obtain⟨h1,h2,h3,h4,h5⟩:=a.rel.storeR e h;have s:=Aft.s r a;refine⟨h1,a.ext,λb z=>?_,λj z=>?_,λj d l z=>?_,h5.trans s.len⟩
 ·rcases h2 b z with z | z
  ·exact s.own b z
  ·exact .inr z
 ·obtain⟨z1,z2⟩:=h3 j z;obtain⟨z3,z4⟩:=s.un j z1;exact⟨z3,z2⟩
 ·obtain⟨_,d',z2⟩:=s.pin j d l z;exact h4 j d' l z2
theorem Rel.store1{ρ ρ':Env}{σ:St}{H G:Hp}{i:Nat}{d:D}{x:V}(r:Rel K ρ σ H G)(e:store i (.sh d) ρ=some ρ')(h:aC K G d x):AftS K ρ σ H G ρ' (σ.set i (some x)) H G :=
 Aft.store r (Aft.refl r) e h
noncomputable def gB(K:Frag)(one:Bool)(is:List Nat):TG:=λv σ H Q=>∃(ρ:Env) (G:Hp) (d:D) (ρ':Env),Rel K ρ σ H G/\aC K G d v/\bN one is d ρ=some ρ'/\∀σ',AftS K ρ σ H G ρ' σ' H G->Q σ' H
noncomputable def NL(K:Frag)(is:List Nat):zT:=λvs σ H Q=>∃(ρ:Env) (G:Hp) (ds:List D) (ρ':Env),Rel K ρ σ H G/\aB K G ds vs/\eF is ds ρ=some ρ'/\∀σ',AftS K ρ σ H G ρ' σ' H G->Q σ' H
theorem ZD{tg:Expr}{i:Nat}(h:PG X tg (pO i)):PG X tg (gB K true [i]):=λpins s σ H v u Q I rv ⟨ρ,G,d,ρ',r,hd,e,k⟩ =>
 h pins s σ H v u Q I rv (k _ (r.store1 (by simpa only[bN] using e) hd))
theorem N8:xM X [] (NL K []):=λpins s σ H vs us Q I rv ⟨ρ,G,ds,ρ',r,hd,e,k⟩=>by
 cases ds with
 |nil =>
  simp only[eF,Option.some.injEq] at e;subst e;simp only[aB] at hd;subst hd;exact VL pins s σ H [] us Q I rv ⟨rfl,k σ (AftS.refl r)⟩
 |cons d ds=>simp[eF] at e
theorem NI{e:Expr}{es:List Expr}{i:Nat}{is:List Nat}(h:PG X e (pO i))(t:xM X es (NL K is))(hs:(assignEach (e::es) X.env).map (·.2)=assign e X.env::(assignEach es X.env).map (·.2)):xM X (e::es) (NL K (i::is)) :=
 λpins s σ H vs us Q I rv ⟨ρ,G,ds,ρ',r,hd,e,k⟩=>by
  cases ds with
  |nil=>simp[eF] at e
  |cons d ds =>
   simp only[eF] at e
   cases q:store i (.sh d) ρ with
   |none=>rw[q] at e;cases e
   |some ρ1 =>
    rw[q] at e;simp only[aB] at hd;obtain⟨v,r',rfl,h1,h2⟩:=hd;have a1:=r.store1 q h1;exact QC h t hs pins s σ H (v::r') us Q I rv ⟨v,r',rfl,ρ1,G,ds,ρ',a1.rel,h2,e,λσ' a2=>k σ' (a1.trans a2)⟩
theorem xK:∀{is:List Nat} {ds:List D} {ρ ρ':Env},eF is ds ρ=some ρ'->ds.length=is.length
 |[],[],_,_,_=>rfl
 |[],_::_,_,_,e=>by simp[eF] at e
 |_::_,[],_,_,e=>by simp[eF] at e
 |i::is,d::ds,ρ,ρ',e=>by
  simp only[eF] at e
  cases q:store i (.sh d) ρ with
  |none=>rw[q] at e;cases e
  |some ρ1=>rw[q] at e;simp[xK e]
theorem FV(xo:bD X K P C Γ){es:List Expr}{k0:Nat}{pos:Pos}{is:List Nat}(t:xM X es (NL K is))(hn:(assignEach es X.env).length=is.length)(hst:(assignEach es X.env).findIdx? (·.1)=none):PG X (.Tuple es k0 pos) (gB K false is) :=
 λpins s σ H v u Q I rv ⟨ρ,G,d,ρ',r,hd,e,k⟩=>by
  cases d with
  |tup ds =>
   simp only[bN] at e;simp only[aC] at hd;obtain⟨a,vs,rfl,h1,h2⟩:=hd;refine ZE xo.calm t hn hst pins s σ H (.ref a) u Q I rv ⟨a,vs,rfl, ?_, ?_,ρ,G,ds,ρ',r,h2,e,k⟩
   ·rw[xo.keq];exact cY r.sub h1
   ·rw[h2.len];exact xK e
  |_=>simp only[bN,reduceCtorEq] at e
end
mutual
noncomputable def Z0(x:Str):Stmt->Bool
 |.For _ it body _ _=>(lA it==some x)||tV x body
 |.If _ a b _=>tV x a||tV x b
 |_=>false
noncomputable def tV(x:Str):List Stmt->Bool
 |[]=>false
 |s::r=>Z0 x s||tV x r
end
def K7(Γ:CC)(it:Expr)(body:List Stmt)(cs:List E):List E:=cs
noncomputable def DA(Γ:CC):Expr->S
 |.Call (.Name x _) args [] _=>if args.all aS&&(decide (args≠[])&&decide (args.length<=100)) then(match Γ.glob x with | .exc=>.rse x (bT Γ args) | _=>.bad) else .bad
 |_=>.bad
noncomputable def JH(Γ:CC):Expr->Option E
 |.Name x _=>some (jR Γ x)
 |.Call (.Name f _) [.Name x _,t] [] _=>if f=("isinstance":Str) then(match Γ.glob ("isinstance":Str) with
  |.blt=>some (match EN Γ t with | some ty=>.isi (jR Γ x) [ty] | none=>zJ Γ t (jR Γ x))
  |_=>none) else none
 |_=>none
noncomputable def zL(Γ:CC):List Expr->Option (List E)
 |[]=>some []
 |e::es=>match JH Γ e,zL Γ es with
  |some c,some cs=>some (c::cs)
  |_,_=>none
def suE(Γ:CC):Expr->Option E
 |.List es _=>(zL Γ es).map .lst
 |e=>JH Γ e
noncomputable def yZ(Γ:CC):List Stmt->Option (List S)
 |[]=>some []
 |.Assign [.Name y _] e _::r=>match Γ.slotL y,suE Γ e,yZ Γ r with
  |some j,some c,some cs=>some (.asg j c::cs)
  |_,_,_=>none
 |_=>none
noncomputable def lR:List ExceptHandler->Option (Str×Str×List Stmt)
 |[.ExceptHandler (some c) (some n) body _]=>(lA c).map λx=>(x,n,body)
 |_=>none
theorem J2{e:Expr}{x:Str}(h:lA e=some x):∃p,e=.Name x p:=by
 cases e<;>first | exact GA h | exact⟨_,congrArg (λy=>Expr.Name y _) (Option.some.inj h)⟩
theorem VD{hs:List ExceptHandler}{x n:Str}{body:List Stmt}(h:lR hs=some (x,n,body)):∃p q,hs=[.ExceptHandler (some (.Name x p)) (some n) body q]:=by
 obtain _ | ⟨⟨ty,nm,bd,p2⟩,_ | ⟨_,_⟩⟩:=hs
 ·exact GA h
 ·obtain _ | c:=ty
  ·exact GA h
  ·obtain _ | n':=nm
   ·exact GA h
   ·replace h:(lA c).map (λx=>(x,n',bd))=some (x,n,body):=h
    cases hc:lA c with
    |none=>rw[hc] at h;exact GA h
    |some y =>
     rw[hc] at h;cases h;obtain⟨p,rfl⟩:=J2 hc;exact⟨_,_,rfl⟩
 ·obtain _ | c:=ty<;>obtain _ | n':=nm<;>exact GA h
noncomputable def aGG:List Stmt->Option (Str×Str)
 |[.Assign [t] v _]=>(lA t).bind λy=>(lA v).map λn=>(y,n)
 |_=>none
def TQ(Γ:CC)(cb:List S)(x n:Str)(body:List Stmt):S:=.bad
noncomputable def J0(Γ:CC)(cb:List S)(x n:Str)(body:List Stmt):S:=match Γ.globE x,Γ.slotL n,yZ Γ body with
 |.exs cs,some i,some ss=>.tryB cb cs i ss
 |_,_,_=>.bad
def ZJ(n:Str)(body:List Stmt):Bool:=match aGG body with
 |some (_,n')=>n'==n
 |none=>false
def JJ(cb:List S)(hs:List ExceptHandler)(o f:List Stmt):S:=.bad
def SN(Γ:CC)(cb:List S)(hs:List ExceptHandler):S:=JJ cb hs [] []
noncomputable def EI(Γ:CC)(cb:List S)(hs:List ExceptHandler)(o f:List Stmt):S :=
 if o.isEmpty&&f.isEmpty then(match lR hs with
  |some (x,n,body)=>if(Γ.names.lookup n==some .local) && Γ.top then(if ZJ n body then TQ Γ cb x n body else if body.isEmpty then .bad else J0 Γ cb x n body) else .bad
  |none=>if Γ.top then SN Γ cb hs else .bad) else .bad
def aFQ(e:Expr)(c:E):S:=.ret c
def aER(Γ:CC)(s:Stmt)(r:List Stmt):Option (Nat×Nat×E×E):=none
noncomputable def aGL(o:Option (Nat×Nat×E×E))(c:S)(cs:List S):List S :=
 match o with
 |none=>c::cs
 |some (i,j,ce,cc)=>.scr i j ce cc::cs.drop 3
mutual
noncomputable def cS(Γ:CC):Stmt->S
 |.Pass _=>.pass
 |.Break _=>.brk
 |.Continue _=>.cnt
 |.Return (some e) _=>aFQ e (cE Γ e)
 |.Return none _=>.retN
 |.Expr e _=>if bV e then .expr (cE Γ e) else .bad
 |.If c a b _=>.ifs (cE Γ c) (gW Γ a) (gW Γ b)
 |.While c body [] _=>.whl (cE Γ c) (gW Γ body)
 |.For tg it body [] _=>match jF Γ tg,o8 Γ it with
  |some (one,is),some (k,its)=>if jN k one then .for is one k (K7 Γ it body (bT Γ its)) (gW Γ body) else .bad
  |_,_=>.bad
 |.Assign [.Name x _] e _=>match Γ.slotL x with
  |some i=>if bV e||C1 e then .asg i (cE Γ e) else .bad
  |none=>.bad
 |.Assign [.Tuple ts _ _] e _=>match gC Γ ts with
  |some is=>if bV e&&sH e then .asgT is (cE Γ e) else .bad
  |none=>.bad
 |.Assign [.Subscript (.Name x _) k _] e _=>match Γ.slot x with
  |some i=>if bV e&&wG k then .set i (cE Γ k) (cE Γ e) else .bad
  |none=>.bad
 |.AugAssign (.Name x _) .Add e _=>(match Γ.slotL x with
  |some i=>if bV e then .bad else .bad
  |none=>.bad)
 |.Raise (some e) none _=>DA Γ e
 |.Try body hs o f _=>EI Γ (gW Γ body) hs o f
 |_=>.bad
noncomputable def gW(Γ:CC):List Stmt->List S
 |[]=>[]
 |s::r=>aGL (aER Γ s r) (cS Γ s) (gW Γ r)
end
section
variable{X:Cx}{K:Frag}{P:aE}{C:Calls}{W:Nat}{Γ:CC}
theorem pE{e:Expr}(h:bV e=true)(t:Option Expr)(line:Nat)(env:PySem.Env):swapsWith e t line env=pure false:=by
 cases e<;>first | rfl | cases h
theorem l3{e:Expr}(h:bV e=true)(t:Expr)(line:Nat)(env:PySem.Env):swapsWithSole [t] e line env=pure false:=pE h _ _ _
theorem FD{st:Stmt}{c:S}(h:∀ρ,ex P C W c ρ=none):PS X st (tS K P C W c):=λpins s σ H D I ⟨ρ,G,fl,ρ',r,e,k⟩=>by rw[h] at e;cases e
theorem bK{st:Stmt}:PS X st (tS K P C W .bad):=FD λρ=>rfl
theorem QB{pos:Pos}:PS X (.Pass pos) (tS K P C W .pass):=TS.imp_ps WV λD σ H ⟨ρ,G,fl,ρ',r,e,k⟩=>by
 cases e;exact k σ H G (AftS.refl r)
theorem VG{pos:Pos}:PS X (.Break pos) (tS K P C W .brk):=TS.imp_ps PZ λD σ H ⟨ρ,G,fl,ρ',r,e,k⟩=>by
 cases e;exact k σ H G (AftS.refl r)
theorem XG{pos:Pos}:PS X (.Continue pos) (tS K P C W .cnt):=TS.imp_ps EY λD σ H ⟨ρ,G,fl,ρ',r,e,k⟩=>by
 cases e;exact k σ H G (AftS.refl r)
theorem QK{e:Expr}{c:E}{pos:Pos}(h:Ok3 X K P C e c)(n:bV e=true):PS X (.Expr e pos) (tS K P C W (.expr c)):=by
 refine TS.imp_ps (FQ h.v (pE n _ _ _)) λD σ H ⟨ρ,G,fl,ρ',r,e,k⟩=>?_
 obtain⟨v,ρ1,e1,e2⟩:=fJ e k.ne;cases e2;exact⟨ρ,G,v,_,r,e1,λx H' G' a hv=>k σ H' G' (Aft.s r a)⟩
theorem OZ{pos:Pos}:PS X (.Return none pos) (tS K P C W .retN):=TS.imp_ps V5 λD σ H ⟨ρ,G,fl,ρ',r,e,k⟩=>by
 cases e;exact k .non σ H G (AftS.refl r) (by show aC K G .non _;simp[aC])
theorem Rel.give{ρ:Env}{σ:St}{H G:Hp}(r:Rel K ρ σ H G){i:Nat}{d:D}{l:Bool}{a:Addr}(h:ρ[i]?=some (.ow d false l))(hx:σ[i]?=some (some (.ref a))) :
  AftS K ρ σ H G (ρ.set i .mv) σ H G/\cH K H G (aI (ρ.set i .mv) σ) (λa=>aI ρ σ a\/H a=none) (.ow d) (.ref a):=by
 have key:∀(j:Nat) (sl:Sl),(ρ.set i .mv)[j]?=some sl->(j=i/\sl=.mv)\/(j≠i/\ρ[j]?=some sl):=λj sl z=>by
  rcases cL z with ⟨e,z,_⟩ | z
  ·exact .inl ⟨e,z⟩
  ·exact .inr z
 obtain⟨b,h1,g,o⟩:=r.ow i d false l h;rw[hx] at h1;cases h1
 have own':∀c,aI (ρ.set i .mv) σ c->aI ρ σ c/\c≠a:=λc ⟨j,d',p',l',z,w⟩=>by
  rcases key j _ z with ⟨_,q⟩ | ⟨nj,q⟩
  ·cases q
  ·refine⟨⟨j,d',p',l',q,w⟩,λz=>?_⟩;subst z;exact nj (r.inj _ _ _ _ _ _ _ _ _ q h w hx)
 refine⟨⟨⟨by rw[zg];exact r.len,r.sub,λj d' z=>?_,λj d' p' l' z=>?_,λj k d1 p1 l1 d2 p2 l2 c z1 z2 z3 z4=>?_⟩,Ext.refl,λc z=>.inl (own' c z).1,λj z=>?_,λj d' l' z=>⟨rfl,d', ?_⟩,by rw[zg]⟩,a,rfl,g,o,λz=>(own' a z).2 rfl,.inl ⟨i,d,false,l,h,hx⟩⟩
 ·rcases key j _ z with ⟨_,q⟩ | ⟨nj,q⟩
  ·cases q
  ·exact r.sh j d' q
 ·rcases key j _ z with ⟨_,q⟩ | ⟨nj,q⟩
  ·cases q
  ·exact r.ow j d' p' l' q
 ·rcases key j _ z1 with ⟨_,q⟩ | ⟨nj,q⟩
  ·cases q
  ·rcases key k _ z2 with ⟨_,q'⟩ | ⟨nk,q'⟩
   ·cases q'
   ·exact r.inj _ _ _ _ _ _ _ _ _ q q' z3 z4
 ·rcases key j _ z with ⟨_,q⟩ | ⟨nj,q⟩
  ·cases q
  ·exact⟨q,rfl⟩
 ·have nj:j≠i:=λw=>by subst w;rw[h] at z;cases z
  rw[Zf (λw=>nj w.symm)];exact z
theorem XF{e:Expr}{c:E}{pos:Pos}(h:Ok3 X K P C e c):PS X (.Return (some e) pos) (tS K P C W (.ret c)):=by
 by_cases hv:∃i,c=.var i
 ·obtain⟨i,rfl⟩:=hv;refine TS.imp_ps (DM h.h) λD σ H ⟨ρ,G,fl,ρ',r,e,k⟩=>?_
  replace e:(match ρ[i]? with | some (.ow d false _)=>some (.rt (.ow d),ρ.set i .mv) | some (.sh d)=>some (.rt (.sh d),ρ) | _=>none)=some (fl,ρ'):=e;split at e
  ·rename_i d l hd;cases e;obtain⟨a,h1,g,o⟩:=r.ow i d false l hd;refine⟨ρ,G,.slot i,ρ,r,by simp[hd,hd,Sl.get,CI.hd],λx H' G' a1 hx=>?_⟩;obtain⟨a',h1',g',o'⟩:=a1.rel.ow i d false l hd;have hx:σ[i]?=some (some x):=hx;rw[hx] at h1';cases h1';obtain⟨s1,v1⟩:=a1.rel.give hd hx;exact(k.pre (Aft.s r a1)) _ σ H' G' s1 v1
  ·rename_i d hd;cases e;obtain⟨v,h1,h2⟩:=r.sh i d hd;refine⟨ρ,G,.slot i,ρ,r,by simp[hd,Sl.get,CI.hd],λx H' G' a1 hx=>?_⟩;obtain⟨v',h1',h2'⟩:=a1.rel.sh i d hd;have hx:σ[i]?=some (some x):=hx;rw[hx] at h1';cases h1';exact k x σ H' G' (Aft.s r a1) h2'
  ·cases e
 ·refine TS.imp_ps (DM h.v) λD σ H ⟨ρ,G,fl,ρ',r,e,k⟩=>?_
  have e':(ev P C false c ρ).flow (λv ρ1=>some (.rt v,ρ1))=some (fl,ρ'):=by
   cases c<;>first | exact absurd ⟨_,rfl⟩ hv | exact e
  obtain⟨v,ρ1,e1,e2⟩:=fJ e' k.ne;cases e2;exact⟨ρ,G,v,_,r,e1,λx H' G' a hv=>k x σ H' G' (Aft.s r a) (hv.new_mono λa z=>.inr z)⟩
theorem aAd{c:Expr}{a b:List Stmt}{cc:E}{ca cb:List S}{pos:Pos}(hc:Ok3 X K P C c cc)(ha:dR X a (kF K P C W ca))(hb:dR X b (kF K P C W cb)):PS X (.If c a b pos) (tS K P C W (.ifs cc ca cb)):=by
 refine TS.imp_ps (R9 hc.t ha hb) λD σ H ⟨ρ,G,fl,ρ',r,e,k⟩=>?_
 obtain⟨v,ρ1,e1,e2⟩:=fJ e k.ne;split at e2
 ·refine⟨ρ,G,true,ρ1,r,e1,λH1 G1 a1=>?_⟩;refine wA ?_;exact⟨ρ1,G1,fl,ρ',a1.rel,e2,k.pre (Aft.s r a1)⟩
 ·refine⟨ρ,G,false,ρ1,r,e1,λH1 G1 a1=>?_⟩;refine zD ?_;exact⟨ρ1,G1,fl,ρ',a1.rel,e2,k.pre (Aft.s r a1)⟩
 ·cases e2
theorem vN{qq:Bool}(xo:XOkB qq X K P C Γ)(hfn:∀x,Γ.isLoc x=true->X.fn x=true\/X.env.scope.names.lookup x=some .local){x:Str}{i:Nat}(h:Γ.slotL x=some i){pos:Pos}:PG X (.Name x pos) (pO i):=by
 unfold CC.slotL at h;split at h
 ·rename_i hl
  have hN:X.N[i]?=some x:=by
   unfold CC.slot at h;split at h
   ·cases h
   ·split at h
    ·rw[xo.neq];exact mR h
    ·cases h
  refine FJ (by rw[xo.neq];exact xo.nd) hN ?_ (hfn x hl);unfold L2.rZ;rw[xo.nm];unfold CC.isLoc at hl;rw[Bool.or_eq_true,ZB] at hl;rcases hl with hl | hl
  ·exact .inl (Zy hl)
  ·exact .inr (Zy hl.2)
 ·cases h
theorem FE{qq:Bool}(xo:XOkB qq X K P C Γ)(hfn:∀x,Γ.isLoc x=true->X.fn x=true\/X.env.scope.names.lookup x=some .local){x:Str}{i:Nat}{e:Expr}{c:E}{p pos:Pos}(hi:Γ.slotL x=some i)(h:Ok3 X K P C e c)(n:bV e=true):PS X (.Assign [.Name x p] e pos) (tS K P C W (.asg i c)):=by
 refine TS.imp_ps (xJ h.v (vN xo hfn hi) (l3 n _ _ _)) λD σ H ⟨ρ,G,fl,ρ',r,e,k⟩=>?_
 obtain⟨v,ρ1,e1,e2⟩:=fJ e k.ne;unfold jH at e2
 cases q:store i v ρ1 with
 |none=>rw[q] at e2;cases e2
 |some ρ2 =>
  rw[q] at e2;cases e2;exact⟨ρ,G,v,ρ1,r,e1,λx H' G' a hv=>k _ H' G' (Aft.store r a q hv)⟩
theorem pJ(xo:bD X K P C Γ)(hfn:∀x,Γ.isLoc x=true->X.fn x=true\/X.env.scope.names.lookup x=some .local):∀{ts:List Expr} {is:List Nat},gC Γ ts=some is->xM X ts (NL K is)/\(assignEach ts X.env).length=is.length/\(assignEach ts X.env).findIdx? (·.1)=none/\ts.length=is.length
 |[],is,h=>by cases h;exact⟨N8,rfl,rfl,rfl⟩
 |e::es,is,h=>by
  simp only[gC] at h
  cases q:DG Γ e with
  |none=>rw[q] at h;cases h
  |some i =>
   rw[q] at h;simp only[Option.bind_some] at h
   cases q2:gC Γ es with
   |none=>rw[q2] at h;cases h
   |some is' =>
    rw[q2] at h;cases h;obtain⟨h1,h2,h3,h4⟩:=pJ xo hfn q2;cases e<;>simp only[DG,reduceCtorEq] at q;refine⟨NI (vN xo hfn q) h1 rfl, ?_, ?_,by simp[h4]⟩
    ·show(assignEach es X.env).length+1=is'.length+1;rw[h2]
    ·show((false,_)::assignEach es X.env).findIdx? (·.1)=none;rw[List.findIdx?_cons,h3];rfl
theorem CT{ts:List Expr}{k0:Nat}{p:Pos}{e:Expr}(h:sH e=true)(env:PySem.Env):swappedStores [.Tuple ts k0 p] e env=pure none:=by
 cases e<;>first | rfl | cases h
theorem NV(xo:bD X K P C Γ)(hfn:∀x,Γ.isLoc x=true->X.fn x=true\/X.env.scope.names.lookup x=some .local){ts:List Expr}{is:List Nat}{e:Expr}{c:E}{k0:Nat}{p pos:Pos}(hi:gC Γ ts=some is)(h:Ok3 X K P C e c)(n:bV e=true)(n2:sH e=true):PS X (.Assign [.Tuple ts k0 p] e pos) (tS K P C W (.asgT is c)):=by
 obtain⟨h1,h2,h3,h4⟩:=pJ xo hfn hi;refine TS.imp_ps (xJ h.v (FV xo h1 h2 h3) (l3 n _ _ _) (CT n2 _)) λD σ H ⟨ρ,G,fl,ρ',r,e,k⟩=>?_
 obtain⟨v,ρ1,e1,e2⟩:=fJ e k.ne;unfold jH at e2
 cases q:bN false is v.d ρ1 with
 |none=>rw[q] at e2;cases e2
 |some ρ2 =>
  rw[q] at e2;cases e2;refine⟨ρ,G,v,ρ1,r,e1,λx H' G' a hv=>?_⟩;obtain⟨G2,a2,r2⟩:=a.share hv;exact⟨ρ1,G2,v.d,_,a2.rel,r2,q,λσ' b=>k σ' H' G2 ((Aft.s r a2).trans b)⟩
theorem W4{ρ:Env}{i:Nat}(h:yJ ρ i=true):∃ks ds p l,ρ[i]?=some (.ow (.dcs ks ds) p l):=by
 unfold yJ at h;split at h
 ·rename_i d e p l q;exact⟨d,e,p,l,q⟩
 ·cases h
noncomputable def aDR(K:Frag):ED:=λo i v H Q=>∃a xs k b,o=.ref a/\i=.ref b/\DS K H a xs/\cC K H k b/\xs.length<sizeLine/\∀u,aU v u->((storedH xs k b u).map (·.1)).Nodup->Q (aP H a (.ext (dY a (storedH xs k b u))))
def aEZ:ED:=λ_ _ _ _ _=>False
theorem QJ(hu:X.A.units+11<cLine):QX X (λo i v H Q=>SA o i v H Q\/aEZ o i v H Q\/aDR X.K o i v H Q):=by
 intro pins s σ H o i v ov iv u Q I ro ri rv h;rcases h with h | h | ⟨a,xs,k,b,rfl,rfl,d,kk,hl,q⟩
 ·exact OR pins s σ H o i v ov iv u Q I ro ri rv h
 ·exact h.elim
 ·cases ro;cases ri;exact LW hu I d kk hl λs' I' nd=>⟨_,I',q _ rv nd⟩
theorem U7(xo:bD X K P C Γ){x:Str}{i:Nat}{e j:Expr}{c cj:E}{p p2 pos:Pos}(hi:Γ.slot x=some i)(h:Ok3 X K P C e c)(hj:Ok3 X K P C j cj)(n:bV e=true)
  (ha:∀v,assign (.Subscript (.Name x p) j p2) X.env v=(do
   let ov <- holding [v] (eval (.Name x p) X.env)
   let iv <- holding [v,ov] (eval j X.env)
   standAt p2
   holding [v,ov,iv] (setItem ov iv v)
   release [v,ov,iv] [])):PS X (.Assign [.Subscript (.Name x p) j p2] e pos) (tS K P C W (.set i cj c)):=by
 have hp:PE X (.Name x p) (vL i):=CC.slot_ok xo hi;refine TS.imp_ps (xJ h.v (aAY hp hj.v (xo.keq ▸ QJ (by have:=xo.hu;omega)) ha) (l3 n _ _ _)) λD σ H ⟨ρ,G,fl,ρ',r,e,k⟩=>?_
 obtain⟨v,ρ1,e1,e2⟩:=fJ e k.ne;split at e2
 ·rename_i ho;obtain⟨w,ρ2,e3,e4⟩:=fJ e2 k.ne;split at e4
  ·rename_i ds p1 nn hs hw;unfold jH at e4
   cases q:kD ds.length nn with
   |none=>rw[q] at e4;cases e4
   |some m =>
    rw[q] at e4;cases e4;refine⟨ρ,G,v,ρ1,r,e1,λy H1 G1 a1 hv=>?_⟩;obtain⟨d0,p0,l0,h0⟩:=HD ho;obtain⟨b,hb,g0,o0⟩:=a1.rel.ow i _ p0 l0 h0;refine⟨.ref b,hb,ρ1,G1,w,ρ2,a1.rel,e3,λz H2 G2 a2 hz=>?_⟩;have hv2:=hv.wait a2.ext λa z=>.inl (a2.own a z)
    obtain⟨G3,a3,r3⟩:=(a1.trans a2).share hv2;obtain⟨b',hb',g1,vs,hvs,hr⟩:=a3.rel.ow i _ _ _ hs;rw[hb] at hb';cases hb';have hzi:=hz.readR;rw[hw] at hzi;cases hzi.int;have a4:=a3.rel.write hs hb (hr.set r3 m);exact .inl ⟨b,vs,nn,m,rfl,rfl,hvs,by rw[hr.len];exact q,k σ _ _ (Aft.s r (a3.trans a4))⟩
  ·cases e4
 ·split at e2
  ·rename_i ho;obtain⟨w,ρ2,e3,e4⟩:=fJ e2 k.ne;unfold EF at e4;split at e4
   ·rename_i ks ds p1 k0 hs hk;split at e4
    ·rename_i hz;cases e4;refine⟨ρ,G,_,ρ1,r,e1,λy H1 G1 a1 hv=>?_⟩;obtain⟨d0,c0,p0,l0,h0⟩:=W4 ho;obtain⟨b,hb,g0,o0⟩:=a1.rel.ow i _ p0 l0 h0;refine⟨.ref b,hb,ρ1,G1,w,ρ2,a1.rel,e3,λz H2 G2 a2 hz2=>?_⟩;have hv2:=hv.wait a2.ext λa z=>.inl (a2.own a z)
     obtain⟨G3,a3,r3,s3⟩:=(a1.trans a2).shareS hv2;obtain⟨b0,rfl,kk⟩:=nF hk hz2.readR;replace kk:=cC.mono s3 kk;obtain⟨b',hb',g1,xs,vs,hx,⟨nd,hl,sm,hks,pr⟩,hr⟩:=a3.rel.ow i _ _ _ hs;rw[hb] at hb';cases hb'
     have hsm:xs.length<sizeLine:=by(have h1:=eX hz;have h2:=(List.length_map _).symm.trans (congrArg List.length pr.1);omega)
     refine .inr (.inr ⟨b,xs,k0,b0,rfl,rfl,⟨hx,nd,hl,sm,λx hx=>cC.mono a3.rel.sub (hks x hx)⟩,cC.mono a3.rel.sub kk,hsm,λu ru nd2=>?_⟩);obtain⟨g2,ws,g3,g4⟩:=aBl (k:=k0) (b:=b0) ⟨pr.1,vs,pr.2,hr⟩ ru r3;have a4:=a3.rel.writeO (ob:=.ext (dY b (storedH xs k0 b0 u))) (d':=.dcs (oY ks k0) (pB ks ds k0 v.d)) hs hb ⟨_,ws,aY,⟨nd2,Zr ET hsm,sm,DZ hks kk,g2,g3⟩,g4⟩;exact k σ _ _ (Aft.s r (a3.trans a4))
    ·cases e4
   ·cases e4
  ·cases e2
theorem aAr(po:PassesOwn (model X.prog X.w) X.A X.env X.xe){c:Expr}{body:List Stmt}{cc:E}{cb:List S}{pos:Pos}(hc:Ok3 X K P C c cc)(hb:dR X body (kF K P C W cb)):PS X (.While c body [] pos) (tS K P C W (.whl cc cb)):=by
 refine TS.imp_ps (CN po hc.t hb) λD σ H ⟨ρ,G,fl,ρ',r,e,k⟩=>?_
 refine⟨λm σ1 H1=>∃ρ1 G1,AftS K ρ σ H G ρ1 σ1 H1 G1/\iM (ev P C true cc) (exs P C W cb) m ρ1=some (fl,ρ'),⟨W,ρ,G,AftS.refl r,e⟩,λm σ1 H1 ⟨ρ1,G1,a1,e1⟩=>?_⟩
 cases m with
 |zero=>simp[iM] at e1
 |succ m =>
  simp only[iM] at e1;obtain⟨v,ρ2,e2,e3⟩:=fJ e1 k.ne;split at e3
  ·refine⟨ρ1,G1,true,ρ2,a1.rel,e2,λH2 G2 a2=>?_⟩;refine wA ?_;have a12:=a1.trans (Aft.s a1.rel a2);refine⟨λσ3 H3=>∃ρ3 G3,AftS K ρ σ H G ρ3 σ3 H3 G3/\iM (ev P C true cc) (exs P C W cb) m ρ3=some (fl,ρ'),λσ3 H3 ⟨ρ3,G3,a3,e4⟩=>⟨m,Nat.lt_succ_self m,ρ3,G3,a3,e4⟩, ?_⟩
   cases q:exs P C W cb ρ2 with
   |none=>rw[q] at e3;cases e3
   |some y =>
    obtain⟨fl1,ρ3⟩:=y;rw[q] at e3;refine⟨ρ2,G2,fl1,ρ3,a2.rel,q, ?_⟩
    cases fl1 with
    |nx=>exact λσ3 H3 G3 a3=>⟨ρ3,G3,a12.trans a3,e3⟩
    |ct=>exact λσ3 H3 G3 a3=>⟨ρ3,G3,a12.trans a3,e3⟩
    |bk=>cases e3;exact λσ3 H3 G3 a3=>k σ3 H3 G3 (a12.trans a3)
    |rt v=>cases e3;exact k.pre a12
    |ex x=>cases e3;exact k
  ·refine⟨ρ1,G1,false,ρ2,a1.rel,e2,λH2 G2 a2=>?_⟩;refine zD ?_;cases e3;exact k σ1 H2 G2 (a1.trans (Aft.s a1.rel a2))
  ·cases e3
end
section
variable{X:Cx}{K:Frag}{P:aE}{C:Calls}{W:Nat}{Γ:CC}
theorem jV{ρ:Env}{σ:St}{H G:Hp}{o:Option Nat}(r:Rel K ρ σ H G):Rel K (aQ o ρ) σ H G/\∀a,aI (aQ o ρ) σ a->aI ρ σ a:=by
 cases o with
 |none=>exact⟨r,λ_ z=>z⟩
 |some i=>exact⟨r.unset i,λ_ z=>z.unset⟩
theorem hX{ρ1 ρf ρ':Env}{σ σf:St}{H1 G1 Hf Gf:Hp}{o:Option Nat}(r:Rel K ρ1 σ H1 G1)(ho:∀i,o=some i->∃d p l,ρ1[i]?=some (.ow d p l))(e:eM o ρ1 ρf=some ρ')(a:AftS K (aQ o ρ1) σ H1 G1 ρf σf Hf Gf) :
  AftS K ρ1 σ H1 G1 ρ' σf Hf Gf/\∀c,aI ρ' σf c->aI ρf σf c\/(aI ρ1 σ c/\¬aI (aQ o ρ1) σ c):=by
 cases o with
 |none =>
  simp only[eM,Option.some.injEq] at e;subst e;exact⟨a,λ_ z=>.inl z⟩
 |some i =>
  obtain⟨d,p,l,hi⟩:=ho i rfl;obtain⟨b,hb,g,ob⟩:=r.ow i d p l hi;have hob:aI ρ1 σ b:=⟨i,d,p,l,hi,hb⟩
  have nob:¬aI (ρ1.set i .un) σ b:=r.unset_not hi hb;have hne:H1 b≠none:=(r.owned hob).1;simp only[eM] at e;split at e
  ·rename_i sl hf hs;rw[hi] at hs;cases hs;cases e;obtain⟨hu1,hu2⟩:=a.un i hf;have hx:σf[i]?=some (some (.ref b)):=hu2.trans hb;have gb:Gf b=none:=a.ext.gn b hne g nob;have of:fW K Hf Gf b d:=ob.mono a.ext.gg λo' h'=>a.ext.hh b o' h' nob
   have nf:¬aI ρf σf b:=λz=>by
    rcases a.own b z with z | z
    ·exact nob z
    ·exact hne z
   have rf:Rel K (ρf.set i (.ow d p l)) σf Hf Gf:=(a.rel.unset i).put_ow hx gb of λz=>nf z.unset
   have own':∀c,aI (ρf.set i (.ow d p l)) σf c->c=b\/aI ρf σf c:=λc z=>by
    rcases z.put_ow hx with z | z
    ·exact .inl z
    ·exact .inr z.unset
   refine⟨⟨rf,a.ext.weaken λc z=>z.unset,λc z=>?_,λj z=>?_,λj d' l' z=>?_,by rw[zg,a.len];exact zg⟩,λc z=>?_⟩
   ·rcases own' c z with rfl | z
    ·exact .inl hob
    ·rcases a.own c z with z | z
     ·exact .inl z.unset
     ·exact .inr z
   ·rcases cL z with ⟨_,w,_⟩ | ⟨nj,w⟩
    ·cases w
    ·obtain⟨w1,w2⟩:=a.un j w;have w1':(ρ1.set i .un)[j]?=some .un:=w1;rw[Zf (λq=>nj q.symm)] at w1';exact⟨w1',w2⟩
   ·by_cases hj:j=i
    ·subst hj;rw[hi] at z;cases z;refine⟨hu2,d, ?_⟩;rw[zk (Zc.mp hf).1]
    ·have z':(aQ (some i) ρ1)[j]?=some (.ow d' true l'):=by
      show(ρ1.set i .un)[j]?=_;rw[Zf (λq=>hj q.symm)];exact z
     obtain⟨w1,d2,w2⟩:=a.pin j d' l' z';exact⟨w1,d2,by rw[Zf (λq=>hj q.symm)];exact w2⟩
   ·rcases own' c z with rfl | z
    ·exact .inr ⟨hob,nob⟩
    ·exact .inl z
  ·cases e
theorem fS.restore{ρ1 ρf ρ':Env}{σ:St}{H1 G1:Hp}{o:Option Nat}{D:Ends}{fl:Fl}(r:Rel K ρ1 σ H1 G1)(ho:∀i,o=some i->∃d p l,ρ1[i]?=some (.ow d p l))(e:eM o ρ1 ρf=some ρ')(k:fS K ρ1 σ H1 G1 ρ' D fl) :
  fS K (aQ o ρ1) σ H1 G1 ρf D fl:=by
 cases fl with
 |nx=>exact λσ' H' G' b=>k σ' H' G' (hX r ho e b).1
 |bk=>exact λσ' H' G' b=>k σ' H' G' (hX r ho e b).1
 |ct=>exact λσ' H' G' b=>k σ' H' G' (hX r ho e b).1
 |rt v =>
  refine λx σ' H' G' b hv=>?_
  obtain⟨b1,b2⟩:=hX r ho e b;refine k x σ' H' G' b1 ?_
  cases v with
  |sh d=>exact hv
  |ow d =>
   obtain⟨c,rfl,g,oo,n,m⟩:=hv;refine⟨c,rfl,g,oo,λz=>?_, ?_⟩
   ·rcases b2 c z with z | ⟨z1,z2⟩
    ·exact n z
    ·rcases m with m | m
     ·exact z2 m
     ·exact(r.owned z1).1 m
   ·rcases m with m | m
    ·exact .inl ((jV r).2 c m)
    ·exact .inr m
  |od d =>
   obtain⟨c,rfl,g,oo,n,m,vs,hvs,hr⟩:=hv
   have key:∀c,¬aI ρf σ' c->(aI (aQ o ρ1) σ c\/H1 c=none)->¬aI ρ' σ' c/\(aI ρ1 σ c\/H1 c=none):=λc n m=>by
    refine⟨λz=>?_, ?_⟩
    ·rcases b2 c z with z | ⟨z1,z2⟩
     ·exact n z
     ·rcases m with m | m
      ·exact z2 m
      ·exact(r.owned z1).1 m
    ·rcases m with m | m
     ·exact .inl ((jV r).2 c m)
     ·exact .inr m
   exact⟨c,rfl,g,oo,(key c n m).1,(key c n m).2,vs,hvs,λx hx=>let ⟨b,ws,h1,h2,h3,h4,h5,h6⟩:=hr x hx;⟨b,ws,h1,h2,h3,(key b h4 h5).1,(key b h4 h5).2,h6⟩⟩
 |ex x=>exact k
def iI(K:Frag)(P:aE)(C:Calls)(W:Nat)(one:Bool)(tg:List Nat)(cb:List S)(ρ0:Env)(σ0:St)(H0 G0:Hp)(fl:Fl)(ρf:Env)(ds:List D)(i:Nat):St->Hp->Prop:=λσ H =>
 ∃ρ G,AftS K ρ0 σ0 H0 G0 ρ σ H G/\dD (bN one tg) (exs P C W cb) (ds.drop i) ρ=some (fl,ρf)
theorem rR{one:Bool}{tg:List Nat}{cb:List S}{ρ0 ρf:Env}{σ0 σ:St}{H0 G0 H:Hp}{fl:Fl}{ds:List D}{i:Nat}{d:D}{x:V}{D0:Ends}(hk:fS K ρ0 σ0 H0 G0 ρf D0 fl)(hd:ds[i]?=some d)(hx:aC K G0 d x)
  (h:iI K P C W one tg cb ρ0 σ0 H0 G0 fl ρf ds i σ H) :
  gB K one tg x σ H λσ2 H2=>kF K P C W cb { D0 with nx:=iI K P C W one tg cb ρ0 σ0 H0 G0 fl ρf ds (i+1),ct:=iI K P C W one tg cb ρ0 σ0 H0 G0 fl ρf ds (i+1),bk:=D0.nx } σ2 H2:=by
 obtain⟨ρ,G,a,e⟩:=h;have hl:i<ds.length:=(Zc.mp hd).1
 have ed:ds.drop i=d::ds.drop (i+1):=by(rw[List.drop_eq_getElem_cons hl];congr 1;rw[Zb hl] at hd;exact Option.some.inj hd)
 rw[ed] at e;simp only[dD] at e
 cases q:bN one tg d ρ with
 |none=>rw[q] at e;cases e
 |some ρ1 =>
  rw[q] at e;simp only at e;refine⟨ρ,G,d,ρ1,a.rel,aC.mono a.ext.gg d hx,q,λσ1 a1=>?_⟩;have a01:=a.trans a1
  cases q2:exs P C W cb ρ1 with
  |none=>rw[q2] at e;cases e
  |some y =>
   obtain⟨fl1,ρ2⟩:=y;rw[q2] at e;refine⟨ρ1,G,fl1,ρ2,a1.rel,q2, ?_⟩
   cases fl1 with
   |nx=>exact λσ2 H2 G2 a2=>⟨ρ2,G2,a01.trans a2,e⟩
   |ct=>exact λσ2 H2 G2 a2=>⟨ρ2,G2,a01.trans a2,e⟩
   |bk=>cases e;exact λσ2 H2 G2 a2=>hk σ2 H2 G2 (a01.trans a2)
   |rt v=>cases e;exact hk.pre a01
   |ex x=>cases e;exact hk
theorem IM{one:Bool}{tg:List Nat}{cb:List S}{ρ0 ρf:Env}{σ0 σ:St}{H0 G0 H:Hp}{fl:Fl}{ds:List D}{i:Nat}{d:D}{x:V}{D0:Ends}(hk:fS K ρ0 σ0 H0 G0 ρf D0 fl)(hd:ds[i]?=some d)
  (h:∃ρ G,AftS K ρ0 σ0 H0 G0 ρ σ H G/\aC K G d x/\dD (bN one tg) (exs P C W cb) (ds.drop i) ρ=some (fl,ρf)) :
  gB K one tg x σ H λσ2 H2=>kF K P C W cb { D0 with nx:=iI K P C W one tg cb ρ0 σ0 H0 G0 fl ρf ds (i+1),ct:=iI K P C W one tg cb ρ0 σ0 H0 G0 fl ρf ds (i+1),bk:=D0.nx } σ2 H2:=by
 obtain⟨ρ,G,a,hx,e⟩:=h;have hl:i<ds.length:=(Zc.mp hd).1
 have ed:ds.drop i=d::ds.drop (i+1):=by(rw[List.drop_eq_getElem_cons hl];congr 1;rw[Zb hl] at hd;exact Option.some.inj hd)
 rw[ed] at e;simp only[dD] at e
 cases q:bN one tg d ρ with
 |none=>rw[q] at e;cases e
 |some ρ1 =>
  rw[q] at e;simp only at e;refine⟨ρ,G,d,ρ1,a.rel,hx,q,λσ1 a1=>?_⟩;have a01:=a.trans a1
  cases q2:exs P C W cb ρ1 with
  |none=>rw[q2] at e;cases e
  |some y =>
   obtain⟨fl1,ρ2⟩:=y;rw[q2] at e;refine⟨ρ1,G,fl1,ρ2,a1.rel,q2, ?_⟩
   cases fl1 with
   |nx=>exact λσ2 H2 G2 a2=>⟨ρ2,G2,a01.trans a2,e⟩
   |ct=>exact λσ2 H2 G2 a2=>⟨ρ2,G2,a01.trans a2,e⟩
   |bk=>cases e;exact λσ2 H2 G2 a2=>hk σ2 H2 G2 (a01.trans a2)
   |rt v=>cases e;exact hk.pre a01
   |ex x=>cases e;exact hk
theorem QD{a:Addr}{lo:Int}{xs:List V}{g:TG}{tb:TS}{D:Ends}{σ:St}{H:Hp}(Pv:Nat->St->Hp->Prop)(h0:Pv 0 σ H)(hl:∀i σ H,i<=xs.length->Pv i σ H->bY K H a xs)
  (hs:∀i y p σ H,xs[i]?=some y->H p=none->Pv i σ H->g (.ref p) σ (aP H p (.tup [.int (lo+(i:Int)),y])) λσ2 H2=>tb { D with nx:=Pv (i+1),ct:=Pv (i+1),bk:=D.nx } σ2 H2) (hd:∀σ H,Pv xs.length σ H->D.nx σ H) :
  ∃W:Nat->Nat->St->Hp->Prop,(∃m,W 0 m σ H)/\∀i m σ H,W i m σ H ->
   ((oA K a lo).stop i H/\D.nx σ H)\/((oA K a lo).go i H/\∃N:St->Hp->Prop,(∀σ' H',N σ' H'->∃m',m'<m/\W (i+1) m' σ' H')/\∀x H',(oA K a lo).yld i H x H'->g x σ H' λσ2 H2=>tb { D with nx:=N,ct:=N,bk:=D.nx } σ2 H2):=by
 refine⟨λi m σ H=>m=xs.length-i/\i<=xs.length/\Pv i σ H,⟨xs.length,by simp,Nat.zero_le _,h0⟩, ?_⟩
 rintro i m σ H ⟨rfl,hi,p⟩
 have q:=hl i σ H hi p;by_cases hlt:i<xs.length
 ·refine .inr ⟨⟨xs,xs[i],q,by simp[hlt]⟩,Pv (i+1),λσ' H' p'=>⟨xs.length-(i+1),by omega,rfl,hlt,p'⟩,λx H' y=>?_⟩;obtain⟨p0,y0,hn,rfl,rfl,hy⟩:=y;exact hs i y0 p0 σ H (hy xs q) hn p
 ·have e:i=xs.length:=by omega
  subst e;exact .inl ⟨⟨xs,q,Zq _⟩,hd σ H p⟩
theorem fO{lo:Int}{ds:List D}:(dE lo ds).length=ds.length:=by unfold dE;simp
theorem l9{lo:Int}{ds:List D}{i:Nat}{d:D}(h:ds[i]?=some d):(dE lo ds)[i]?=some (.tup [.int (lo+(i:Int)),d]):=by
 have hl:i<ds.length:=(Zc.mp h).1;unfold dE;rw[Zh,List.getElem?_range hl,Option.map_some,List.getD_eq_getElem?_getD,h];rfl
theorem C2{G:Hp}{p:Addr}{i:Int}{d:D}{y:V}(hg:G p=none)(h:aC K G d y):aC K (aP G p (.tup [.int i,y])) (.tup [.int i,d]) (.ref p):=by
 simp only[aC];exact⟨p,_,rfl,cN.of aY,aB.cons (by simp[aC]) (aB.cons (aC.mono (aK.laid hg) d h) aB.nil)⟩
theorem pS{one:Bool}{tg:List Nat}{cb:List S}{ρ0 ρf:Env}{σ0 σ:St}{H0 G0 H:Hp}{fl:Fl}{ds:List D}{D0:Ends}(hk:fS K ρ0 σ0 H0 G0 ρf D0 fl)(h:iI K P C W one tg cb ρ0 σ0 H0 G0 fl ρf ds ds.length σ H):D0.nx σ H:=by
 obtain⟨ρ,G,a,e⟩:=h;rw[List.drop_length] at e;simp only[dD,Option.some.injEq,Prod.mk.injEq] at e;obtain⟨rfl,rfl⟩:=e;exact hk σ H G a
def iX(K:Frag)(ρ:Env)(σ:St)(H G:Hp)(a:Addr)(vs:List V):Prop:=bY K G a vs\/(H a=some (.lst vs)/\G a=none/\¬aI ρ σ a)
theorem iX.now{ρ ρ':Env}{σ σ':St}{H G H' G':Hp}{a:Addr}{vs:List V}(h:iX K ρ σ H G a vs)(b:AftS K ρ σ H G ρ' σ' H' G'):bY K H' a vs:=by
 rcases h with h | ⟨h1,h2,h3⟩
 ·exact b.rel.sub.seq (b.ext.gg.seq h)
 ·exact bY.of (b.ext.hh a _ h1 h3)
theorem sC(po:PassesOwn (model X.prog X.w) X.A X.env X.xe)(xo:bD X K P C Γ){tg it:Expr}{body:List Stmt}{pos:Pos}{one:Bool}{is:List Nat}{k0:ItK}{its:List E}{cb:List S}{wi:TI}(hg:PG X tg (gB K one is))(hb:dR X body (kF K P C W cb))
  (hs:∀x,foldedSetIterable it X.env x=pure x) (hi:PI X tg it wi)
  (hw:∀σ H (R:It->Hp->Prop),(∃(ρ:Env) (G:Hp) (hs:List Hd) (ρ1:Env) (ds:List D) (o:Option Nat),Rel K ρ σ H G/\cA P C its ρ=some (.ok hs,ρ1)/\aN k0 hs ρ1=some (ds,o) /\
   ∀H1 G1,Aft K ρ σ H G ρ1 H1 G1->(∀i,o=some i->∃d p l,ρ1[i]?=some (.ow d p l)) ->
    (∀a vs,iX K (aQ o ρ1) σ H1 G1 a vs->aB K G1 ds vs->R (nE K a) H1)/\(∀a vs,cN K G1 a vs->aB K G1 ds vs->R (nG K a) H1)/\(∀(lo:Int) (n:Nat),ds=(List.range n).map (λ(j:Nat)=>D.int (lo+(j:Int)))->R (lK lo n) H1)/\(∀a vs ds0 lo,ds=dE lo ds0->iX K (aQ o ρ1) σ H1 G1 a vs->aB K G1 ds0 vs->R (oA K a lo) H1))->wi σ H R) :
  PS X (.For tg it body [] pos) (tS K P C W (.for is one k0 its cb)):=by
 refine TS.imp_ps (aAD po xo.calm hi hg hb hs) λD σ H ⟨ρ,G,fl,ρ',r,e,k⟩=>?_
 obtain⟨hs,ρ1,e1,e2⟩:=fJ e k.ne
 cases q:aN k0 hs ρ1 with
 |none=>rw[q] at e2;cases e2
 |some y =>
  obtain⟨ds,o⟩:=y;rw[q] at e2;simp only at e2
  cases q2:dD (bN one is) (exs P C W cb) ds (aQ o ρ1) with
  |none=>rw[q2] at e2;cases e2
  |some y =>
   obtain⟨fl1,ρf⟩:=y;rw[q2] at e2;simp only[bI.restore] at e2
   cases q3:eM o ρ1 ρf with
   |none=>rw[q3] at e2;cases e2
   |some ρ2 =>
    rw[q3] at e2;cases e2;refine hw σ H _ ⟨ρ,G,hs,ρ1,ds,o,r,e1,q,λH1 G1 a1 ho=>?_⟩;have k1:fS K (aQ o ρ1) σ H1 G1 ρf D fl:=fS.restore a1.rel ho q3 (k.pre (Aft.s r a1));have p0:iI K P C W one is cb (aQ o ρ1) σ H1 G1 fl ρf ds 0 σ H1:=⟨aQ o ρ1,G1,AftS.refl (jV a1.rel).1,q2⟩
    refine⟨λa vs hsrc hr=>?_,λa vs ht hr=>?_,λlo n hds=>?_,λa vs ds0 lo hds hsrc hr=>?_⟩
    ·refine NZ (K:=K) (a:=a) (xs:=vs) (iI K P C W one is cb (aQ o ρ1) σ H1 G1 fl ρf ds) p0 (λi σ2 H2 _ ⟨ρ2,G2,b,_⟩=>hsrc.now b) (λi x σ2 H2 hx hp=>?_) (λσ2 H2 hp=>?_)
     ·have hl:i<ds.length:=by rw[<- hr.len];exact(Zc.mp hx).1
      obtain⟨x',h1,h2⟩:=hr.get (Zb hl);rw[hx] at h1;cases h1;exact rR k1 (Zb hl) h2 hp
     ·rw[hr.len] at hp;exact pS k1 hp
    ·refine VB (K:=K) (a:=a) (xs:=vs) (iI K P C W one is cb (aQ o ρ1) σ H1 G1 fl ρf ds) p0 (λi σ2 H2 _ ⟨ρ2,G2,b,_⟩=>cY b.rel.sub (cY b.ext.gg ht)) (λi x σ2 H2 hx hp=>?_) (λσ2 H2 hp=>?_)
     ·have hl:i<ds.length:=by rw[<- hr.len];exact(Zc.mp hx).1
      obtain⟨x',h1,h2⟩:=hr.get (Zb hl);rw[hx] at h1;cases h1;exact rR k1 (Zb hl) h2 hp
     ·rw[hr.len] at hp;exact pS k1 hp
    ·have hlen:ds.length=n:=by rw[hds];simp
     refine MH (lo:=lo) (n:=n) (iI K P C W one is cb (aQ o ρ1) σ H1 G1 fl ρf ds) p0 (λi σ2 H2 hi hp=>?_) (λσ2 H2 hp=>?_)
     ·have hd:ds[i]?=some (.int (lo+(i:Int))):=by rw[hds];simp[hi]
      exact rR k1 hd (by simp[aC]) hp
     ·rw[<- hlen] at hp;exact pS k1 hp
    ·subst hds;refine QD (K:=K) (a:=a) (xs:=vs) (iI K P C W one is cb (aQ o ρ1) σ H1 G1 fl ρf (dE lo ds0)) p0 (λi σ2 H2 _ ⟨ρ2,G2,b,_⟩=>hsrc.now b) (λi y p σ2 H2 hx hn hp=>?_) (λσ2 H2 hp=>?_)
     ·have hl:i<ds0.length:=by rw[<- hr.len];exact(Zc.mp hx).1
      obtain⟨x',h1,h2⟩:=hr.get (Zb hl);rw[hx] at h1;cases h1;obtain⟨ρ2,G2,b,e2⟩:=hp;have b2:=b.trans (Aft.s b.rel ((Aft.refl b.rel).layG (o:=.tup [.int (lo+(i:Int)),y]) hn));exact IM k1 (l9 (Zb hl)) ⟨ρ2,_,b2,C2 (aK.free b.rel.sub hn) (aC.mono b.ext.gg _ h2),e2⟩
     ·rw[hr.len,<- fO] at hp;exact pS k1 hp
end
section
variable{X:Cx}{K:Frag}{P:aE}{C:Calls}{W:Nat}{Γ:CC}
theorem PI.or{tg it:Expr}{w w':TI}(h:PI X tg it w)(h':PI X tg it w'):PI X tg it (λσ H R=>w σ H R\/w' σ H R):=λpins s σ H R I q=>by
 rcases q with q | q
 ·exact h pins s σ H R I q
 ·exact h' pins s σ H R I q
theorem BM{c:E}{ρ ρ1:Env}{hs:List Hd}(e:cA P C [c] ρ=some (.ok hs,ρ1)):∃h,hs=[h]/\hd c (ev P C false c ρ) ρ=some (.ok h,ρ1):=by
 rw[cA] at e;obtain⟨h,ρ2,e1,e2⟩:=aJ e;rw[cA] at e2;simp only[aF.bind] at e2;cases e2;exact⟨h,rfl,e1⟩
theorem TF(hK:X.K=K){c:E}(σ:St)(H:Hp)(R:It->Hp->Prop) (q:∃(ρ:Env) (G:Hp) (hs:List Hd) (ρ1:Env) (ds:List D) (o:Option Nat),Rel K ρ σ H G/\cA P C [c] ρ=some (.ok hs,ρ1)/\aN .of hs ρ1=some (ds,o) /\
   ∀H1 G1,Aft K ρ σ H G ρ1 H1 G1->(∀i,o=some i->∃d p l,ρ1[i]?=some (.ow d p l)) ->
    (∀a vs,iX K (aQ o ρ1) σ H1 G1 a vs->aB K G1 ds vs->R (nE K a) H1)/\(∀a vs,cN K G1 a vs->aB K G1 ds vs->R (nG K a) H1)/\(∀(lo:Int) (n:Nat),ds=(List.range n).map (λ(j:Nat)=>D.int (lo+(j:Int)))->R (lK lo n) H1)/\(∀a vs ds0 lo,ds=dE lo ds0->iX K (aQ o ρ1) σ H1 G1 a vs->aB K G1 ds0 vs->R (oA K a lo) H1)) :
  TX X.K (tH K P C c) σ H R\/aAG X.K (tH K P C c) σ H R:=by
 obtain⟨ρ,G,hs,ρ1,ds,o,r,e,ei,k⟩:=q;obtain⟨h,rfl,e1⟩:=BM e;rw[hK]
 cases h with
 |slot i =>
  simp only[aN] at ei;split at ei
  ·rename_i ds' p l hi;cases ei;refine .inl ⟨ρ,G,.slot i,ρ1,r,e1,λx H1 G1 a1 hx=>?_⟩;have hx:σ[i]?=some (some x):=hx;obtain⟨b,h1,g,vs,hv,hr⟩:=a1.rel.ow i _ _ _ hi;rw[hx] at h1;cases h1;exact⟨b,rfl,⟨vs,bY.of hv⟩,(k H1 G1 a1 λj z=>by cases z;exact⟨_,_,_,hi⟩).1 b vs (.inr ⟨hv,g,a1.rel.unset_not hi hx⟩) hr⟩
  ·rename_i ds' hi;cases ei;refine .inl ⟨ρ,G,.slot i,ρ1,r,e1,λx H1 G1 a1 hx=>?_⟩;have hx:σ[i]?=some (some x):=hx;obtain⟨v,h1,h2⟩:=a1.rel.sh i _ hi;rw[hx] at h1;cases h1;simp only[aC] at h2;obtain⟨b,vs,rfl,h3,h4⟩:=h2;exact⟨b,rfl,⟨vs,a1.rel.sub.seq h3⟩,(k H1 G1 a1 λj z=>by cases z).1 b vs (.inl h3) h4⟩
  ·rename_i ds' hi;cases ei;refine .inr ⟨ρ,G,.slot i,ρ1,r,e1,λx H1 G1 a1 hx=>?_⟩;have hx:σ[i]?=some (some x):=hx;obtain⟨v,h1,h2⟩:=a1.rel.sh i _ hi;rw[hx] at h1;cases h1;simp only[aC] at h2;obtain⟨b,vs,rfl,h3,h4⟩:=h2;exact⟨b,rfl,⟨vs,cY a1.rel.sub h3⟩,(k H1 G1 a1 λj z=>by cases z).2.1 b vs h3 h4⟩
  ·cases ei
 |val v =>
  simp only[aN] at ei;split at ei
  ·rename_i ds' hd;cases ei;refine .inl ⟨ρ,G,.val v,ρ1,r,e1,λx H1 G1 a1 hx=>?_⟩
   cases v with
   |sh d =>
    simp only[RV.d] at hd;subst hd;have hx:aC K G1 (.lst ds) x:=hx;simp only[aC] at hx;obtain⟨b,vs,rfl,h3,h4⟩:=hx;exact⟨b,rfl,⟨vs,a1.rel.sub.seq h3⟩,(k H1 G1 a1 λj z=>by cases z).1 b vs (.inl h3) h4⟩
   |ow d =>
    simp only[RV.d] at hd;subst hd;obtain⟨b,rfl,g,⟨vs,hv,hr⟩,n,m⟩:=hx;exact⟨b,rfl,⟨vs,bY.of hv⟩,(k H1 G1 a1 λj z=>by cases z).1 b vs (.inr ⟨hv,g,n⟩) hr⟩
   |od d=>exact hx.elim
  ·rename_i ds' hd;cases ei;refine .inr ⟨ρ,G,.val v,ρ1,r,e1,λx H1 G1 a1 hx=>?_⟩
   cases v with
   |sh d =>
    simp only[RV.d] at hd;subst hd;have hx:aC K G1 (.tup ds) x:=hx;simp only[aC] at hx;obtain⟨b,vs,rfl,h3,h4⟩:=hx;exact⟨b,rfl,⟨vs,cY a1.rel.sub h3⟩,(k H1 G1 a1 λj z=>by cases z).2.1 b vs h3 h4⟩
   |ow d =>
    simp only[RV.d] at hd;subst hd;obtain⟨b,rfl,g,o,n,m⟩:=hx;exact o.elim
   |od d=>exact hx.elim
  ·cases ei
theorem GL{c:E}(σ:St)(H:Hp)(R:It->Hp->Prop) (q:∃(ρ:Env) (G:Hp) (hs:List Hd) (ρ1:Env) (ds:List D) (o:Option Nat),Rel K ρ σ H G/\cA P C [c] ρ=some (.ok hs,ρ1)/\aN .rng hs ρ1=some (ds,o) /\
   ∀H1 G1,Aft K ρ σ H G ρ1 H1 G1->(∀i,o=some i->∃d p l,ρ1[i]?=some (.ow d p l)) ->
    (∀a vs,iX K (aQ o ρ1) σ H1 G1 a vs->aB K G1 ds vs->R (nE K a) H1)/\(∀a vs,cN K G1 a vs->aB K G1 ds vs->R (nG K a) H1)/\(∀(lo:Int) (n:Nat),ds=(List.range n).map (λ(j:Nat)=>D.int (lo+(j:Int)))->R (lK lo n) H1)/\(∀a vs ds0 lo,ds=dE lo ds0->iX K (aQ o ρ1) σ H1 G1 a vs->aB K G1 ds0 vs->R (oA K a lo) H1)) :
  TY (mP K P C [c]) σ H R:=by
 obtain⟨ρ,G,hs,ρ1,ds,o,r,e,ei,k⟩:=q;refine⟨ρ,G,hs,ρ1,r,e,λxs H1 G1 a1 hx=>?_⟩;obtain⟨h,rfl,e1⟩:=BM e;obtain⟨x,r',rfl,h1,h2,_⟩:=hx;cases (show r'=[] from h2);simp only[aN] at ei;split at ei
 ·rename_i n hn;split at ei
  ·rename_i hb;cases ei;cases (h1.read a1.rel hn).int;refine⟨n,rfl,by omega,by omega,(k H1 G1 a1 λj z=>by cases z).2.2.1 0 n.toNat ?_⟩;congr 1
   funext j
   rw[Int.zero_add]
  ·cases ei
 ·cases ei
theorem FY{c c2:E}(σ:St)(H:Hp)(R:It->Hp->Prop) (q:∃(ρ:Env) (G:Hp) (hs:List Hd) (ρ1:Env) (ds:List D) (o:Option Nat),Rel K ρ σ H G/\cA P C [c,c2] ρ=some (.ok hs,ρ1)/\aN .rng hs ρ1=some (ds,o) /\
   ∀H1 G1,Aft K ρ σ H G ρ1 H1 G1->(∀i,o=some i->∃d p l,ρ1[i]?=some (.ow d p l)) ->
    (∀a vs,iX K (aQ o ρ1) σ H1 G1 a vs->aB K G1 ds vs->R (nE K a) H1)/\(∀a vs,cN K G1 a vs->aB K G1 ds vs->R (nG K a) H1)/\(∀(lo:Int) (n:Nat),ds=(List.range n).map (λ(j:Nat)=>D.int (lo+(j:Int)))->R (lK lo n) H1)/\(∀a vs ds0 lo,ds=dE lo ds0->iX K (aQ o ρ1) σ H1 G1 a vs->aB K G1 ds0 vs->R (oA K a lo) H1)) :
  R6 (mP K P C [c,c2]) σ H R:=by
 obtain⟨ρ,G,hs,ρ1,ds,o,r,e,ei,k⟩:=q;refine⟨ρ,G,hs,ρ1,r,e,λxs H1 G1 a1 hx=>?_⟩;rw[cA] at e;obtain⟨h,ρ2,e1,e2⟩:=aJ e;obtain⟨hs',ρ3,e3,e4⟩:=aJ e2;obtain⟨h',rfl,e5⟩:=BM e3;cases e4;obtain⟨x,r',rfl,h1,h2,_⟩:=hx;obtain⟨y,r'',rfl,h3,h4,_⟩:=h2;cases (show r''=[] from h4);simp only[aN] at ei;split at ei
 ·rename_i m n hm hn;split at ei
  ·rename_i hb;cases ei;cases (h1.read a1.rel hm).int;cases (h3.read a1.rel hn).int;exact⟨m,n,rfl,by omega,(k H1 G1 a1 λj z=>by cases z).2.2.1 m (n-m).toNat rfl⟩
  ·cases ei
 ·cases ei
theorem yV(hK:X.K=K){c:E}{lo:Int}(σ:St)(H:Hp)(R:It->Hp->Prop) (q:∃(ρ:Env) (G:Hp) (hs:List Hd) (ρ1:Env) (ds:List D) (o:Option Nat),Rel K ρ σ H G/\cA P C [c] ρ=some (.ok hs,ρ1)/\aN (.enum lo) hs ρ1=some (ds,o) /\
   ∀H1 G1,Aft K ρ σ H G ρ1 H1 G1->(∀i,o=some i->∃d p l,ρ1[i]?=some (.ow d p l)) ->
    (∀a vs,iX K (aQ o ρ1) σ H1 G1 a vs->aB K G1 ds vs->R (nE K a) H1)/\(∀a vs,cN K G1 a vs->aB K G1 ds vs->R (nG K a) H1)/\(∀(lo:Int) (n:Nat),ds=(List.range n).map (λ(j:Nat)=>D.int (lo+(j:Int)))->R (lK lo n) H1)/\(∀a vs ds0 lo,ds=dE lo ds0->iX K (aQ o ρ1) σ H1 G1 a vs->aB K G1 ds0 vs->R (oA K a lo) H1)) :
  HN X.K lo (mP K P C [c]) σ H R:=by
 obtain⟨ρ,G,hs,ρ1,ds,o,r,e,ei,k⟩:=q;rw[hK];refine⟨ρ,G,hs,ρ1,r,e,λxs H1 G1 a1 hxs=>?_⟩;obtain⟨h,rfl,e1⟩:=BM e;obtain⟨x,r',rfl,hx,h2,_⟩:=hxs;cases (show r'=[] from h2)
 cases h with
 |slot i =>
  simp only[aN] at ei;have hx:σ[i]?=some (some x):=hx;split at ei
  ·rename_i ds' p l hi;cases ei;obtain⟨b,h1,g,vs,hv,hr⟩:=a1.rel.ow i _ _ _ hi;rw[hx] at h1;cases h1;exact⟨b,rfl,⟨vs,bY.of hv⟩,(k H1 G1 a1 λj z=>by cases z;exact⟨_,_,_,hi⟩).2.2.2 b vs _ lo rfl (.inr ⟨hv,g,a1.rel.unset_not hi hx⟩) hr⟩
  ·rename_i ds' hi;cases ei;obtain⟨v,h1,h2⟩:=a1.rel.sh i _ hi;rw[hx] at h1;cases h1;simp only[aC] at h2;obtain⟨b,vs,rfl,h3,h4⟩:=h2;exact⟨b,rfl,⟨vs,a1.rel.sub.seq h3⟩,(k H1 G1 a1 λj z=>by cases z).2.2.2 b vs _ lo rfl (.inl h3) h4⟩
  ·cases ei
 |val v =>
  simp only[aN] at ei;split at ei
  ·rename_i ds' hd;cases ei
   cases v with
   |sh d =>
    simp only[RV.d] at hd;subst hd;have hx:aC K G1 (.lst ds') x:=hx;simp only[aC] at hx;obtain⟨b,vs,rfl,h3,h4⟩:=hx;exact⟨b,rfl,⟨vs,a1.rel.sub.seq h3⟩,(k H1 G1 a1 λj z=>by cases z).2.2.2 b vs _ lo rfl (.inl h3) h4⟩
   |ow d =>
    simp only[RV.d] at hd;subst hd;obtain⟨b,rfl,g,⟨vs,hv,hr⟩,n,m⟩:=hx;exact⟨b,rfl,⟨vs,bY.of hv⟩,(k H1 G1 a1 λj z=>by cases z).2.2.2 b vs _ lo rfl (.inr ⟨hv,g,n⟩) hr⟩
   |od d=>exact hx.elim
  ·cases ei
theorem zY{e:Expr}(h:wU e=true)(env:PySem.Env):∀x,foldedSetIterable e env x=pure x:=λx=>by
 cases e<;>first | rfl | cases h
theorem GH(xo:bD X K P C Γ)(hfn:∀x,Γ.isLoc x=true->X.fn x=true\/X.env.scope.names.lookup x=some .local){tg:Expr}{one:Bool}{is:List Nat}(h:jF Γ tg=some (one,is)):PG X tg (gB K one is):=by
 cases tg<;>simp only[jF,reduceCtorEq] at h
 ·rename_i x pos
  cases q:Γ.slotL x with
  |none=>rw[q] at h;cases h
  |some i=>rw[q] at h;cases h;exact ZD (vN xo hfn q)
 ·rename_i es k0 pos
  cases q:gC Γ es with
  |none=>rw[q] at h;cases h
  |some is' =>
   rw[q] at h;cases h;obtain⟨h1,h2,h3,h4⟩:=pJ xo hfn q;exact FV xo h1 h2 h3
end
section
variable{K:Frag}{σ σ':St}{H G H' G':Hp}
theorem nR{as:List Sl}{n i:Nat}{s:Sl}(h:(as++List.replicate n Sl.un)[i]?=some s):(as[i]?=some s)\/(as.length<=i/\s=.un):=by
 by_cases hl:i<as.length
 ·rw[List.getElem?_append_left hl] at h;exact .inl h
 ·rw[List.getElem?_append_right (by omega),List.getElem?_replicate] at h;split at h
  ·cases h;exact .inr ⟨by omega,rfl⟩
  ·cases h
theorem rY{N:List Str}{vs:List V}{i:Nat}(h:i<vs.length):(L2.cK N vs)[i]?=(vs.map some)[i]?:=by
 unfold L2.cK;rw[List.getElem?_append_left (by rw[List.length_map];exact h)]
theorem Rel.pad{as:List Sl}{vs:List V}{N:List Str}{n:Nat}(r:Rel K as (vs.map some) H G)(hn:N.length=as.length+n):Rel K (as++List.replicate n .un) (L2.cK N vs) H G/\∀a,aI (as++List.replicate n .un) (L2.cK N vs) a->aI as (vs.map some) a:=by
 have hl:as.length=vs.length:=by have:=r.len;rwa[List.length_map] at this
 have st:∀i:Nat,i<as.length->(L2.cK N vs)[i]?=(vs.map some)[i]?:=λi h=>rY (by omega)
 have lt:∀{i:Nat} {s:Sl},as[i]?=some s->i<as.length:=λh=>(Zc.mp h).1
 refine⟨⟨by unfold L2.cK;simp;omega,r.sub,λi d h=>?_,λi d p l h=>?_,λi j d p l d' p' l' a h1 h2 h3 h4=>?_⟩,λa ⟨i,d,p,l,h1,h2⟩=>?_⟩
 ·rcases nR h with h | ⟨_,h⟩
  ·rw[st i (lt h)];exact r.sh i d h
  ·cases h
 ·rcases nR h with h | ⟨_,h⟩
  ·rw[st i (lt h)];exact r.ow i d p l h
  ·cases h
 ·rcases nR h1 with h1 | ⟨_,h1⟩
  ·rcases nR h2 with h2 | ⟨_,h2⟩
   ·rw[st i (lt h1)] at h3;rw[st j (lt h2)] at h4;exact r.inj _ _ _ _ _ _ _ _ _ h1 h2 h3 h4
   ·cases h2
  ·cases h1
 ·rcases nR h1 with h1 | ⟨_,h1⟩
  ·rw[st i (lt h1)] at h2;exact⟨i,d,p,l,h1,h2⟩
  ·cases h1
theorem lP:∀{as:List Sl} {ρ:Env} (i:Nat),as.length<=ρ.length->(back as ρ)[i]?=(as[i]?).bind λa=>match a with | .ow _ _ _=>ρ[i]? | a=>some a
 |[],ρ,i,_=>by cases ρ<;>simp[back]
 |a::as,[],i,h=>by simp at h
 |a::as,b :: ρ,i,h=>by
  have ih:=λj=>lP (as:=as) (ρ:=ρ) j (by simpa using h)
  cases i with
  |zero=>cases a<;>simp[back]
  |succ i=>cases a<;>simp[back,ih i]
theorem pC{as:List Sl}{vs:List V}{N:List Str}{n:Nat}{ρ':Env}(r:Rel K as (vs.map some) H G)(hp:as.all jP=true)(hn:N.length=as.length+n)
  (a:AftS K (as++List.replicate n .un) (L2.cK N vs) H G ρ' σ' H' G'):Aft K as (vs.map some) H G (back as ρ') H' G'/\∀c,aI (back as ρ') (vs.map some) c->aI ρ' σ' c:=by
 have hl:as.length=vs.length:=by have:=r.len;rwa[List.length_map] at this
 have lt:∀{i:Nat} {s:Sl},as[i]?=some s->i<as.length:=λh=>(Zc.mp h).1
 have st:∀i:Nat,i<as.length->(L2.cK N vs)[i]?=(vs.map some)[i]?:=λi h=>rY (by omega)
 have hlen:as.length<=ρ'.length:=by rw[a.len,Za];omega
 have at0:∀{i:Nat} {s:Sl},as[i]?=some s->(as++List.replicate n .un)[i]?=some s:=λh=>by rw[List.getElem?_append_left (lt h)];exact h
 have pin:∀(i:Nat) d p l,as[i]?=some (.ow d p l)->p=true/\σ'[i]?=(vs.map some)[i]?/\∃d',ρ'[i]?=some (.ow d' true l):=λi d p l h=>by(have h1:=List.all_eq_true.mp hp _ (zj h);simp only[jP] at h1;subst h1;obtain⟨h2,d',h3⟩:=a.pin i d l (at0 h);exact⟨rfl,h2.trans (st i (lt h)),d',h3⟩)
 have oth:∀{i:Nat} {s:Sl},(back as ρ')[i]?=some s->(∃d d' l,as[i]?=some (.ow d true l)/\s=.ow d' true l/\ρ'[i]?=some s/\σ'[i]?=(vs.map some)[i]?)\/(as[i]?=some s/\∀d p l,s≠.ow d p l):=λ{i s} h=>by
  rw[lP i hlen] at h
  cases e:as[i]? with
  |none=>rw[e] at h;cases h
  |some b =>
   rw[e] at h
   cases b with
   |ow d p l =>
    obtain⟨rfl,h1,d',h2⟩:=pin i d p l e;simp only[Option.bind_some] at h;rw[h2] at h;cases h;exact .inl ⟨d,d',l,rfl,rfl,h2,h1⟩
   |un=>cases h;exact .inr ⟨rfl,λd p l z=>nomatch z⟩
   |mv=>cases h;exact .inr ⟨rfl,λd p l z=>nomatch z⟩
   |sh d=>cases h;exact .inr ⟨rfl,λd p l z=>nomatch z⟩
 have blen:(back as ρ').length=as.length:=by
  apply Nat.le_antisymm
  ·refine Nat.le_of_not_lt λz=>?_
   have:=lP (as:=as) (ρ:=ρ') as.length hlen
   rw[Zb z,List.getElem?_eq_none (Zq _)] at this;cases this
  ·refine Nat.le_of_not_lt λz=>?_
   have h1:=lP (as:=as) (ρ:=ρ') (back as ρ').length hlen;rw[List.getElem?_eq_none (Zq _),Zb z] at h1
   cases e:as[(back as ρ').length] with
   |ow d p l =>
    have e':as[(back as ρ').length]?=some (.ow d p l):=by rw[Zb z,e]
    obtain⟨_,_,d',h2⟩:=pin _ d p l e';rw[e] at h1;simp only[Option.bind_some] at h1;rw[h2] at h1;cases h1
   |un=>rw[e] at h1;cases h1
   |mv=>rw[e] at h1;cases h1
   |sh d=>rw[e] at h1;cases h1
 refine⟨⟨⟨by rw[blen];exact r.len,a.rel.sub,λi d h=>?_,λi d p l h=>?_,λi j d p l d' p' l' c h1 h2 h3 h4=>?_⟩,a.ext.weaken λc z=>(r.pad hn).2 c z,λi=>?_⟩,λc ⟨i,d,p,l,h1,h2⟩=>?_⟩
 ·rcases oth h with ⟨_,_,_,_,z,_,_⟩ | ⟨z,_⟩
  ·cases z
  ·obtain⟨v,h1,h2⟩:=r.sh i d z;exact⟨v,h1,aC.mono a.ext.gg d h2⟩
 ·rcases oth h with ⟨d0,d',l',h1,h2,h3,h4⟩ | ⟨_,z⟩
  ·rw[<- h4];exact a.rel.ow i d p l h3
  ·exact absurd rfl (z d p l)
 ·rcases oth h1 with ⟨_,_,_,_,_,z3,z4⟩ | ⟨_,z⟩
  ·rcases oth h2 with ⟨_,_,_,_,_,w3,w4⟩ | ⟨_,w⟩
   ·rw[<- z4] at h3;rw[<- w4] at h4;exact a.rel.inj _ _ _ _ _ _ _ _ _ z3 w3 h3 h4
   ·exact absurd rfl (w _ _ _)
  ·exact absurd rfl (z _ _ _)
 ·rw[lP i hlen]
  cases e:as[i]? with
  |none=>trivial
  |some b =>
   cases b with
   |ow d p l =>
    obtain⟨rfl,_,d',h2⟩:=pin i d p l e;simp only[Option.bind_some];rw[h2];exact⟨rfl,rfl⟩
   |un=>trivial
   |mv=>trivial
   |sh d=>trivial
 ·rcases oth h1 with ⟨_,_,_,_,_,z3,z4⟩ | ⟨_,z⟩
  ·rw[<- z4] at h2;exact⟨i,d,p,l,z3,h2⟩
  ·exact absurd rfl (z _ _ _)
end
end CI
namespace L2
open PySem PySem.Spec PyProof.Rows
theorem eI{α β:Type}[BEq α][LawfulBEq α]:∀{l:List (α×β)} {x:α} {k:β},l.lookup x=some k->(x,k)∈l
 |[],x,k,h=>by simp at h
 | (y,k')::r,x,k,h=>by
  rw[List.lookup_cons] at h;split at h
  ·rename_i e;have e:=Zy e;subst e;cases h;exact zh
  ·exact Ze _ (eI h)
theorem XY{env:PySem.Env}{scope:Scope}(h:∀p∈scope.names,p.2=.free->∃c,env.cells.lookup p.1=some c) :
  ∃cl,closureFor scope env=pure cl/\(∀x c,cl.lookup x=some c->env.cells.lookup x=some c)/\∀p∈scope.names,p.2=.free->∃c,cl.lookup p.1=some c:=by
 have key:∀(names:List (Str×NameKind)) (acc:List (Str×Addr)),(∀p∈names,p.2=.free->∃c,env.cells.lookup p.1=some c)->(∀x c,acc.lookup x=some c->env.cells.lookup x=some c) ->
   ∃cl,(forIn names acc λ(p:Str×NameKind) (cs:List (Str×Addr))=>(if(p.2==NameKind.free)=true then do let a <- cellOf env p.1;pure (ForInStep.yield ((p.1,a)::cs)) else pure (ForInStep.yield cs):Sem _))=pure cl /\
    (∀x c,cl.lookup x=some c->env.cells.lookup x=some c)/\(∀p∈names,p.2=.free->∃c,cl.lookup p.1=some c)/\∀x c,acc.lookup x=some c->∃c',cl.lookup x=some c':=by
  intro names
  induction names with
  |nil=>intro acc _ h2;exact⟨acc,by simp,h2,λp hp=>(nomatch hp),λx c e=>⟨c,e⟩⟩
  |cons p r ih =>
   intro acc h1 h2;by_cases hp:p.2=.free
   ·obtain⟨c,hc⟩:=h1 p zh hp;have e:cellOf env p.1=pure c:=by unfold cellOf;rw[hc]
    obtain⟨cl,q1,q2,q3,q4⟩:=ih ((p.1,c)::acc) (λq hq=>h1 q (Ze _ hq)) (λx c' z=>by
     rw[List.lookup_cons] at z;split at z
     ·rename_i w;rw[Zy w,hc];exact z
     ·exact h2 x c' z)
    refine⟨cl, ?_,q2,λq hq hf=>?_,λx c' z=>?_⟩
    ·rw[List.forIn_cons];have hb:(p.2==NameKind.free)=true:=by rw[hp];rfl
     rw[Zo hb,e];simp only[pure_bind];exact q1
    ·rcases List.mem_cons.mp hq with w | w
     ·subst w;exact q4 q.1 c (by rw[List.lookup_cons];simp)
     ·exact q3 q w hf
    ·by_cases w:x=p.1
     ·subst w;exact q4 p.1 c (by rw[List.lookup_cons];simp)
     ·refine q4 x c' ?_;rw[List.lookup_cons]
      have:(x==p.1)=false:=beq_eq_false_iff_ne.mpr w
      rw[this];exact z
   ·obtain⟨cl,q1,q2,q3,q4⟩:=ih acc (λq hq=>h1 q (Ze _ hq)) h2;refine⟨cl, ?_,q2,λq hq hf=>?_,q4⟩
    ·rw[List.forIn_cons];have hb:¬(p.2==NameKind.free)=true:=by simpa using hp
     rw[Zp hb];simp only[pure_bind];exact q1
    ·rcases List.mem_cons.mp hq with w | w
     ·subst w;exact absurd hf hp
     ·exact q3 q w hf
 obtain⟨cl,q1,q2,q3,_⟩:=key scope.names [] h (λx c e=>by simp at e);refine⟨cl, ?_,q2,q3⟩;unfold closureFor
 have:(forIn scope.names ([]:List (Str×Addr)) λ(x:Str×NameKind) (r:List (Str×Addr))=>(match x with | (name,kind)=>if(kind==NameKind.free)=true then do let a <- cellOf env name;pure (ForInStep.yield ((name,a)::r)) else pure (ForInStep.yield r):Sem _))=pure cl:=q1
 simp only[this,pure_bind,bind_pure]
 first | rfl | (rw[this];rfl) | skip
theorem mV{env:PySem.Env}:∀{names:List (Str×NameKind)} {x:Str} {k':NameKind},
  (names.map λ(n,k)=>if(k==NameKind.free&&env.scope.kind==.function&&env.kindOf n==some .cell) then(n,NameKind.cell) else(n,k)).lookup x=some k'->∃k,names.lookup x=some k/\(k'=k\/(k=.free/\k'=.cell))
 |[],x,k',h=>by simp at h
 | (n,k)::r,x,k',h=>by
  have ih:=@mV env r x k';have h':List.lookup x ((if(k==NameKind.free&&env.scope.kind==.function&&env.kindOf n==some .cell)=true then(n,NameKind.cell) else(n,k))::(r.map λ(n,k)=>if(k==NameKind.free&&env.scope.kind==.function&&env.kindOf n==some .cell) then(n,NameKind.cell) else(n,k)))=some k':=h;by_cases hc:(k==NameKind.free&&env.scope.kind==.function&&env.kindOf n==some .cell)=true
  ·rw[Zo hc] at h';rw[List.lookup_cons] at h' ⊢
   cases hx:x==n with
   |true=>rw[hx] at h';cases h';simp only[ZB,beq_iff_eq] at hc;exact⟨k,rfl,.inr ⟨hc.1.1,rfl⟩⟩
   |false=>rw[hx] at h';exact ih h'
  ·rw[Zp hc] at h';rw[List.lookup_cons] at h' ⊢
   cases hx:x==n with
   |true=>rw[hx] at h';cases h';exact⟨k,rfl,.inl rfl⟩
   |false=>rw[hx] at h';exact ih h'
theorem tF{env:PySem.Env}:∀{names:List (Str×NameKind)} {x:Str},names.lookup x=some .free ->
  (names.map λ(n,k)=>if(k==NameKind.free&&env.scope.kind==.function&&env.kindOf n==some .cell) then(n,NameKind.cell) else(n,k)).lookup x=some .cell \/
  (names.map λ(n,k)=>if(k==NameKind.free&&env.scope.kind==.function&&env.kindOf n==some .cell) then(n,NameKind.cell) else(n,k)).lookup x=some .free
 |[],x,h=>by simp at h
 | (n,k)::r,x,h=>by
  have ih:=@tF env r x;show List.lookup x ((if(k==NameKind.free&&env.scope.kind==.function&&env.kindOf n==some .cell)=true then(n,NameKind.cell) else(n,k))::_)=_\/List.lookup x ((if(k==NameKind.free&&env.scope.kind==.function&&env.kindOf n==some .cell)=true then(n,NameKind.cell) else(n,k))::_)=_;rw[List.lookup_cons] at h;by_cases hc:(k==NameKind.free&&env.scope.kind==.function&&env.kindOf n==some .cell)=true
  ·rw[Zo hc,List.lookup_cons]
   cases hx:x==n with
   |true=>exact .inl rfl
   |false=>rw[hx] at h;exact ih h
  ·rw[Zp hc,List.lookup_cons]
   cases hx:x==n with
   |true=>rw[hx] at h;exact .inr h
   |false=>rw[hx] at h;exact ih h
theorem DR{prog:Program}{w:World}{A:Around}{R:Result->Shared->Prop}{s:Shared}{elt target iter:Expr}{ifs:List Expr}{scope:Scope}{pos:Pos}{it acc:Value}{env:PySem.Env}(I:Nat->Shared->Prop)
  (turn:∀n s,I n s->wpAny (model prog w) A (pyNext it) (λr s₁=>match r with
   |none=>R (.ok .next) s₁
   |some v=>wpAny (model prog w) A (letOwnedTupleGo target it v) (λ_ s₁=>wpAny (model prog w) A (assign target env v) (λ_ s₂ =>
     wpAny (model prog w) A (forIn ifs true λc r=>if r=true then do let ok <- isTrue c env (eval c env);pure (ForInStep.yield ok) else pure (ForInStep.yield r)) (λok s₃ =>
      if ok=true then wpAny (model prog w) A (eval elt env) (λx s₄ =>
       wpAny (model prog w) A (call (.builtin "list.append") [acc,x]) (λ_ s₅=>∃m,m<n/\I m s₅) (notedBy (model prog w) A env λe s'=>R (.error e) s') s₄) (notedBy (model prog w) A env λe s'=>R (.error e) s') s₃
      else ∃m,m<n/\I m s₃) (notedBy (model prog w) A env λe s'=>R (.error e) s') s₂) (notedBy (model prog w) A env λe s'=>R (.error e) s') s₁) (notedBy (model prog w) A env λe s'=>R (.error e) s') s₁) (notedBy (model prog w) A env λe s'=>R (.error e) s') s)
  (n:Nat) (h:I n s):codeAny (model prog w) A (.compLoop (.ListComp elt [⟨target,iter,ifs,0⟩] scope pos) 0 it acc env) R s:=by
 refine codeAny_loop rfl I (λn s hI=>?_) n h;show wpAny _ A ((compTurn (.ListComp elt [⟨target,iter,ifs,0⟩] scope pos) 0 it acc env).onRaise (λx=>do noteFrame x env;theTreesLotGoes x)) _ _ s;refine wpAny_noted ?_;rw[compTurn_list];refine Zt (wpAny_standAt (Zt (wpAny_mono (turn n s hI) (λr s₁ h₁=>?_) λ_ _ h'=>h')))
 cases r with
 |none=>exact Zu h₁
 |some v =>
  refine Zt (wpAny_mono h₁ (λ_ s₁' h₁'=>?_) λ_ _ h'=>h');refine Zt (wpAny_mono h₁' (λ_ s₂ h₂=>Zt (wpAny_mono h₂ (λok s₃ h₃=>?_) λ_ _ h'=>h')) λ_ _ h'=>h')
  cases ok with
  |false=>exact Zu ⟨rfl,h₃⟩
  |true =>
   exact Zt (Zt (wpAny_mono h₃ (λx s₄ h₄=>Zt (wpAny_mono h₄ (λ_ s₅ h₅=>Zu (Zu ⟨rfl,h₅⟩)) λ_ _ h'=>h')) λ_ _ h'=>h'))
noncomputable def SR(X:Cx)(scope:Scope)(cl:List (Str×Addr))(C:Addr)(N':List Str)(s₃:Shared)(H₃:Hp)(fp:List Addr)(xe:Value->Shared->Prop):Cx :=
 { X with N:=N',s₀:=s₃,H₀:=H₃,env:=compEnvC scope cl C X.env,outer:=X.stack,stack:=X.stack,ex:=fp,fn:=λ_=>false,pn:=[],xe:=xe }
def kG(X:Cx)(scope:Scope)(N':List Str)(X':Cx):Prop:=∃cl C s₃ H₃ fp xe,X'=SR X scope cl C N' s₃ H₃ fp xe
section
variable{X:Cx}{pins:List (Addr×Obj)}{σ:St}{H:Hp}{s:Shared}
theorem OE{N:List Str}{vs:List V}{i:Nat}{v:V}(h:(cK N vs)[i]?=some (some v)):vs[i]?=some v:=by
 unfold cK at h;by_cases hl:i<vs.length
 ·rw[List.getElem?_append_left (by rw[List.length_map];exact hl),Zh,Zb hl] at h;rw[Zb hl];simpa using h
 ·rw[List.getElem?_append_right (by rw[List.length_map];omega),List.getElem?_replicate] at h;split at h
  ·cases h
  ·cases h
theorem Inv.block{scope:Scope}{cl:List (Str×Addr)}{N':List Str}{fp:List Addr}{xe:Value->Shared->Prop}{vs:List V}{h₄:Heap}{tk:Nat}{ob:Obj}(I:Inv X pins σ H s)
  (hkind:scope.kind=.function) (hcell:∀y∈scope.names,y.2≠.cell) (sub:∀x c,cl.lookup x=some c->X.env.cells.lookup x=some c) (hasF:∀p∈scope.names,p.2=.free->∃c,cl.lookup p.1=some c)
  (hfk:∀p∈scope.names,p.2=.free->X.env.kindOf p.1=some .cell\/X.env.kindOf p.1=some .free)
  (hf:∀b∈fp,dQ X pins H b) (hfo:∀b∈fp,b<s.heap.objs.size) (hvl:vs.length<=N'.length)
  (himp:∀(i:Nat) x v,N'[i]?=some x->vs[i]?=some v->∃j:Nat,X.N[j]?=some x/\σ[j]?=some (some v)/\scope.names.lookup x=some .free)
  (m:Str->Option Value) (hns:h₄.Ns s.heap.objs.size m) (hsb:Heap.SameBut s.heap.objs.size (s.heap.push ob) h₄) :
  Inv (SR X scope cl s.heap.objs.size N' s H fp xe) [] (cK N' vs) H { s with heap:=h₄,toks:=tk }:=by
 have old:∀b o,s.heap.get? b=some o->h₄.get? b=some o:=λb o e=>(hsb.2 b (Zz (Zv e))).trans (Zd _ e)
 have freeOf:∀x,(relabel scope X.env).names.lookup x=some .cell\/(relabel scope X.env).names.lookup x=some .free->scope.names.lookup x=some .free:=λx hx=>by
  rcases hx with hx | hx
  ·obtain⟨k,h1,h2⟩:=mV (env:=X.env) hx;rcases h2 with h2 | ⟨h2,_⟩
   ·subst h2;exact absurd rfl (hcell _ (eI h1))
   ·subst h2;exact h1
  ·obtain⟨k,h1,h2⟩:=mV (env:=X.env) hx;rcases h2 with h2 | ⟨_,h2⟩
   ·subst h2;exact h1
   ·cases h2
 have ok:(SR X scope cl s.heap.objs.size N' s H fp xe).Ok:=by
  refine⟨I.ok.mod,hkind,I.ok.glob,I.ok.blt,Zq _,λx y c h1 h2=>I.ok.inj x y c (sub x c h1) (sub y c h2),λx hx=>?_,λx c h=>(nomatch h),I.ok.hd,I.ok.frames,.inl rfl,λb hb=>⟨Zz (hfo b hb),λx c e=>(hf b hb).2.2.2.2.1 x c (sub x c e)⟩,λb o e=>I.bs b o e,Zr I.ok.bsz I.sz,λb o e hb=>?_,λb hb z=>?_,I.stack,I.stkFree⟩
  ·exact hasF (x,.free) (eI (freeOf x hx)) rfl
  ·rcases(hf b hb).2.2.2.1 with z | z
   ·exact I.ok.noex b o e z
   ·rw[(I.ok.bs b o e).1] at z;cases z
  ·rcases List.mem_cons.mp (I.stkSub b z) with z | z
   ·exact(hf b hb).2.1 z
   ·exact(hf b hb).2.2.1 z
 refine⟨ok,rfl,I.bare,Un.kept old,⟨m,hns,λi x v e1 e2 e3=>?_⟩,λx c e=>?_,I.hok.fresh (Zq _),λx c e=>I.freeC x c (sub x c e),λp hp=>(nomatch hp),I.hok.kept old, ?_⟩
 ·obtain⟨j,h1,h2,h3⟩:=himp i x v e1 (OE e2);have hk:=hfk (x,.free) (eI h3) rfl;obtain⟨m0,hn0,hl⟩:=I.loc;obtain⟨u,r,lk⟩:=hl j x v h1 h2 (.inr hk);refine⟨u,r, ?_⟩;rcases lk with ⟨k,_⟩ | ⟨k,c,e,z⟩
  ·rcases hk with hk | hk
   ·rw[hk] at k;cases k
   ·rw[hk] at k;cases k
  ·obtain⟨c',hc'⟩:=hasF (x,.free) (eI h3) rfl;have ec:=sub x c' hc';rw[e] at ec;cases ec;obtain⟨o,ho,hd⟩:=z;exact .inr ⟨tF (env:=X.env) h3,c,hc',o,old c o ho,hd⟩
 ·obtain⟨v,o,ho,hd⟩:=I.cell x c (sub x c e);exact⟨v,o,old c o ho,hd⟩
 ·show(cK N' vs).length=N'.length;unfold cK;simp;omega
def uP(X:Cx)(ifs:List Expr)(t:TT):Prop:=∀(pins:List (Addr×Obj)) (s:Shared) (σ:St) (H:Hp) (Q:Bool->Hp->Prop),Inv X pins σ H s->t σ H Q ->
 wpAny (model X.prog X.w) X.A (forIn ifs true λc r=>if r=true then do let ok <- isTrue c X.env (eval c X.env);pure (ForInStep.yield ok) else pure (ForInStep.yield r)) (TP X pins σ Q) X.xe s
theorem WU:uP X [] (λσ H Q=>Q true H):=λpins s σ H Q I h=>wpAny_tests_nil ⟨H,I,h⟩
theorem YA{c:Expr}{t:TT}(h:PT X c t):uP X [c] t:=λpins s σ H Q I q=>wpAny_tests_one (h pins s σ H Q I q)
def ND(N:List Str)(scope:Scope)(N':List Str)(g:TG)(tt:TT)(te:TE)(σ:St)(Q:VK)(J:It)(H1:Hp):Prop:=∃vs:List V,vs.length<=N'.length /\
 (∀(i:Nat) x v,N'[i]?=some x->vs[i]?=some v->∃j:Nat,N[j]?=some x/\σ[j]?=some (some v)/\scope.names.lookup x=some .free) /\
 ∀D,H1 D=none->∃(n:Nat) (LP:Nat->St->Hp->Prop),LP 0 (cK N' vs) (aP H1 D (.lst []))/\∀i σ' H',LP i σ' H' ->
  (J.stop i H'/\Q (.ref D) H')\/(i<n/\J.go i H'/\∀x H2,J.yld i H' x H2->g x σ' H2 λσ2 H3=>tt σ2 H3 λb H4 =>
   if b=true then te σ2 H4 λy H5=>∃ys,H5 D=some (.lst ys)/\ys.length<sizeLine/\LP (i+1) σ2 (aP H5 D (.lst (ys++[y]))) else LP (i+1) σ2 H4)
noncomputable def o5(N:List Str)(scope:Scope)(N':List Str)(wi:TI)(g:TG)(tt:TT)(te:TE):TE:=λσ H Q=>wi σ H (ND N scope N' g tt te σ Q)
theorem AM{use:Option (Value->Sem Unit)}{QF:Value->Shared->Prop}{ps:Pos}{Q:VK}{elt tg iter:Expr}{ifs:List Expr}{scope:Scope}{pos:Pos}{N':List Str}{wi:TI}{g:TG}{tt:TT}{te:TE}(hc:X.calm=true)(hi:PI X tg iter wi)(hs:∀x,foldedSetIterable iter X.env x=pure x)
  (hkind:scope.kind=.function) (hcell:∀y∈scope.names,y.2≠.cell) (hnames:∀x∈scope.names,x.2=.local->scope.names.lookup x.1=some .local)
  (hfk:∀p∈scope.names,p.2=.free->X.env.kindOf p.1=some .cell\/X.env.kindOf p.1=some .free)
  (hg:∀X',kG X scope N' X'->PG X' tg g) (ht:∀X',kG X scope N' X'->uP X' ifs tt) (he:∀X',kG X scope N' X'->PE X' elt te) (I:Inv X pins σ H s) (h:o5 X.N scope N' wi g tt te σ H Q)
  (fin:∀(D C:Addr) (H':Hp) (s':Shared),Inv X pins σ H' s'->Q (.ref D) H'->H' C=none->X.s₀.heap.objs.size<=C->C≠X.env.locals->(∀x c,X.env.cells.lookup x=some c->c≠C)->(∀p∈X.pn++pins,p.1≠C)->(∃m,s'.heap.Ns C m) ->
   compPost (model X.prog X.w) X.A X.xe use QF (.ref D) C (.ok .next) s') :
  wpAny (model X.prog X.w) X.A (comprehension (.ListComp elt [⟨tg,iter,ifs,0⟩] scope pos) scope X.env ps (newList []) false (eval iter X.env) use) QF X.xe s:=by
 obtain⟨cl,hclos,sub,hasF⟩:=XY (env:=X.env) (scope:=scope) λp hp hf=>I.ok.has p.1 (hfk p hp hf)
 refine wpAny_comprehension_free (use:=use) rfl hs hclos hkind hnames (bA (hi pins s σ H _ I h) λv s1 h1=>bA h1 λitv s2 h2=>?_);obtain⟨it,fp,tn,J,H2,e,I2,T,sF,f2,vs,hvl,himp,hD⟩:=h2;subst e
 have fpl:∀b∈fp,b<s2.heap.objs.size:=λb hb=>by(obtain⟨o,e,_⟩:=T.obj _ _ sF b hb;exact Zv e)
 refine wpAny_newObj_type (wpAny_newFunctionEnv hcell (by intro y hy;simp at hy) (λh₁ hns₁ hsb₁=>?_) hkind);dsimp only at hns₁ hsb₁ ⊢;have I3:Inv X pins σ (aP H2 s2.heap.objs.size (.lst [])) { s2 with heap:=s2.heap.push { cls:=.type "list",dict:=none,data:=.seq ([]:List Value).toArray } }:=I2.lnew (its:=[]) (t':=s2.toks) .nil (Nat.zero_le _);obtain⟨n,LP,l0,turn⟩:=hD s2.heap.objs.size I2.fresh;generalize hs3:({ s2 with heap:=s2.heap.push { cls:=.type "list",dict:=none,data:=.seq ([]:List Value).toArray } }:Shared)=s3 at I3;have hh3:s3.heap=s2.heap.push { cls:=.type "list",dict:=none,data:=.seq ([]:List Value).toArray }:=by rw[<- hs3]
 rw[<- hh3] at hns₁ hsb₁ ⊢;have f3:∀b∈fp,dQ X pins (aP H2 s2.heap.objs.size (.lst [])) b:=λb hb=>⟨by rw[aG (Zz (fpl b hb))];exact(f2 b hb).1,(f2 b hb).2⟩
 have fpl3:∀b∈fp,b<s3.heap.objs.size:=λb hb=>by rw[hh3,Heap.size_push];exact Nat.lt_succ_of_lt (fpl b hb)
 let R:Result->Shared->Prop:=compPost (model X.prog X.w) X.A X.xe use QF (.ref s2.heap.objs.size) s3.heap.objs.size
 let X':Cx:=SR X scope cl s3.heap.objs.size N' s3 (aP H2 s2.heap.objs.size (.lst [])) fp (notedBy (model X.prog X.w) X.A (compEnvC scope cl s3.heap.objs.size X.env) λe s'=>R (.error e) s')
 have hX':kG X scope N' X':=⟨_,_,_,_,_,_,rfl⟩
 have I4:∀tk,Inv X' [] (cK N' vs) (aP H2 s2.heap.objs.size (.lst [])) { s3 with heap:=h₁,toks:=tk }:=λtk=>I3.block hkind hcell sub hasF hfk f3 fpl3 hvl himp _ hns₁ hsb₁
 have old:∀b o,s3.heap.get? b=some o->h₁.get? b=some o:=λb o e=>(hsb₁.2 b (Zz (Zv e))).trans (Zd _ e)
 have st4:tn 0 h₁:=T.keep _ _ _ sF λb hb o e=>old b o (by rw[hh3];exact Zd _ e)
 have stat:∀{H':Hp},(∀b∈fp,H' b=none)->∀b∈fp,dQ X' [] H' b:=λhn b hb=>⟨hn b hb,Zz (fpl3 b hb),λz=>by
  rcases List.mem_cons.mp (I3.stkSub b z) with z | z
  ·exact(f2 b hb).2.1 z
  ·exact(f2 b hb).2.2.1 z,.inl hb,λx c e=>(f2 b hb).2.2.2.2.1 x c (sub x c e),λp hp=>(nomatch hp)⟩
 have loop:∀tk,codeAny (model X.prog X.w) X.A (.compLoop (.ListComp elt [⟨tg,iter,ifs,0⟩] scope pos) 0 (.ref it) (.ref s2.heap.objs.size) (compEnvC scope cl s3.heap.objs.size X.env)) R { s3 with heap:=h₁,toks:=tk }:=by
  intro tk;refine DR (λm s'=>∃i σ' H',m=n-i/\Inv X' [] σ' H' s'/\tn i s'.heap/\(∀b∈fp,H' b=none)/\LP i σ' H') ?_ n ⟨0,_,_,by simp,I4 tk,st4,λb hb=>(f3 b hb).1,l0⟩
  rintro m s5 ⟨i,σ5,H5,rfl,I5,st5,fr5,w5⟩
  rcases turn i σ5 H5 w5 with ⟨stop,qn⟩ | ⟨hin,go,step⟩
  ·refine bA (T.done X' rfl rfl rfl hc i [] s5 σ5 H5 _ I5 (stat fr5) st5 stop) λr s6 ⟨hr,I6⟩=>?_
   subst hr;obtain⟨m6,hn6,_⟩:=I6.loc;have IX:Inv X pins σ H5 s6:=I3.call' (s':=s6) (ch:=fp) I6.os I6.base I6.hok I6.bare λb hb=>⟨(f2 b hb).2.2.2.1,(f2 b hb).2.1,(f2 b hb).2.2.2.2.1,(f2 b hb).2.2.2.2.2⟩
   refine fin _ _ H5 s6 IX qn I6.free I3.sz (λz=>Nat.lt_irrefl _ (Zl I3.lt (Nat.le_of_eq z))) (λx c e z=>?_) (λp hp z=>?_) ⟨m6,hn6⟩
   ·obtain⟨v,o,ho,hd⟩:=I3.cell x c e;rw[z] at ho;exact Nat.lt_irrefl _ (Zv ho)
   ·have:=(I3.pin p hp).1
    rw[z] at this;exact Nat.lt_irrefl _ (Zv this)
  ·refine bA (T.item X' rfl rfl rfl hc i [] s5 σ5 H5 _ I5 (stat fr5) st5 go) λr s6 ⟨u,hr,h6⟩=>?_
   subst hr;refine bA h6 λ_ s7 ⟨x,H7,I7,r7,y7,st7,fr7⟩=>?_
   have I7':=I7.pinned (stat fr7) (T.obj _ _ st7)
   have again:∀{σ8:St} {H8:Hp} {s8:Shared},Inv X' ([]++sO fp s7.heap) σ8 H8 s8->LP (i+1) σ8 H8->∃m,m<n-i/\∃i σ' H',m=n-i/\Inv X' [] σ' H' s8/\tn i s8.heap/\(∀b∈fp,H' b=none)/\LP i σ' H':=λ{σ8 H8 s8} I8 w8=>by(refine⟨n-(i+1),by omega,i+1,σ8,H8,rfl,I8.unpinned,T.keep _ _ _ st7 λb hb o e=>(I8.pin (b,o) (List.mem_append_right _ (List.mem_append_right _ (kQ hb e)))).1,λb hb=>?_,w8⟩;obtain⟨o,e,d⟩:=T.obj _ _ st7 b hb;exact(I8.pin (b,o) (List.mem_append_right _ (List.mem_append_right _ (kQ hb e)))).2.1)
   refine bA (hg X' hX' _ s7 σ5 H7 x u _ I7' r7 (step x H7 y7)) λ_ s8 ⟨σ8,H8,I8,q8⟩=>?_
   refine bA (ht X' hX' _ s8 σ8 H8 _ I8 q8) λb s9 ⟨H9,I9,q9⟩=>?_
   cases b with
   |false=>exact again I9 q9
   |true =>
    refine bA (he X' hX' _ s9 σ8 H9 _ I9 q9) λy s10 ⟨yv,H10,I10,r10,ys,hy,hz,q10⟩=>?_
    refine bA (zV (X:=X') _ s10 σ8 H10 (.ref s2.heap.objs.size) [yv] (.ref s2.heap.objs.size) [y] (λ_ H'=>LP (i+1) σ8 H') I10 rfl (.cons r10 .nil) ⟨_,ys,yv,rfl,rfl,hy,hz,q10⟩) λ_ s11 ⟨_,H11,I11,_,q11⟩=>?_
    exact again I11 q11
 subst hs3;exact codeAny_compStart_list (loop _) (T.self _ 0 _ _ _ st4 (loop _))
theorem HC{elt tg iter:Expr}{ifs:List Expr}{scope:Scope}{pos:Pos}{N':List Str}{wi:TI}{g:TG}{tt:TT}{te:TE}(hc:X.calm=true)(hi:PI X tg iter wi)(hs:∀x,foldedSetIterable iter X.env x=pure x)
  (hkind:scope.kind=.function) (hcell:∀y∈scope.names,y.2≠.cell) (hnames:∀x∈scope.names,x.2=.local->scope.names.lookup x.1=some .local)
  (hfk:∀p∈scope.names,p.2=.free->X.env.kindOf p.1=some .cell\/X.env.kindOf p.1=some .free)
  (hg:∀X',kG X scope N' X'->PG X' tg g) (ht:∀X',kG X scope N' X'->uP X' ifs tt) (he:∀X',kG X scope N' X'->PE X' elt te) :
  PE X (.ListComp elt [⟨tg,iter,ifs,0⟩] scope pos) (o5 X.N scope N' wi g tt te):=by
 intro pins s σ H Q I h;rw[eval_ListComp];refine AM (use:=none) (QF:=EP X pins σ Q) hc hi hs hkind hcell hnames hfk hg ht he I h λD C H' s' I' q hC hz hL hcl hp hm=>?_
 obtain⟨m,hm⟩:=hm;refine⟨m,hm,λh' sb=>⟨.ref D,H',I'.turned (t':=s'.toks) (λb o hb e=>(sb.2 b hb).trans e) hC hL (.inr (Heap.get?_none_of_le hz)) hcl hp,rfl,q⟩⟩
theorem CY{elt tg iter:Expr}{ifs:List Expr}{scope:Scope}{pos py spos:Pos}{y:Str}{i:Nat}{N':List Str}{wi:TI}{g:TG}{tt:TT}{te:TE}(hsw:swapsWith (.ListComp elt [⟨tg,iter,ifs,0⟩] scope pos) (some (.Name y py)) spos.line X.env=pure true)
  (hN:X.N.Nodup) (hy:X.N[i]?=some y) (hx:rZ X.env.scope y) (hf:X.fn y=true\/X.env.scope.names.lookup y=some .local) (hc:X.calm=true) (hi:PI X tg iter wi) (hs:∀x,foldedSetIterable iter X.env x=pure x)
  (hkind:scope.kind=.function) (hcell:∀y∈scope.names,y.2≠.cell) (hnames:∀x∈scope.names,x.2=.local->scope.names.lookup x.1=some .local)
  (hfk:∀p∈scope.names,p.2=.free->X.env.kindOf p.1=some .cell\/X.env.kindOf p.1=some .free)
  (hg:∀X',kG X scope N' X'->PG X' tg g) (ht:∀X',kG X scope N' X'->uP X' ifs tt) (he:∀X',kG X scope N' X'->PE X' elt te) :
  PS X (.Assign [.Name y py] (.ListComp elt [⟨tg,iter,ifs,0⟩] scope pos) spos) (IV (o5 X.N scope N' wi g tt te) (pO i)):=by
 intro pins s σ H D0 I h;rw[exec_Assign_Name_used _ _ _ _ hsw];refine Zt (wpAny_standAt (Zt ?_));show wpAny _ X.A (do let _ <- comprehension (.ListComp elt [⟨tg,iter,ifs,0⟩] scope pos) scope X.env _ (newList []) false (eval iter X.env) (some (assign (.Name y py) X.env))) _ _ s;refine Zt (wpAny_mono (AM (use:=some (assign (.Name y py) X.env)) (QF:=λ_ s'=>SP X pins D0 .next s') hc hi hs hkind hcell hnames hfk hg ht he I h λD C H' s' I' q hC hz hL hcl hp hm=>?_) (λ_ s' hq=>Zu (Zu hq)) λ_ _ e=>e);obtain⟨m,hm⟩:=hm;refine wpAny_assign_Name (AI I' hN hy hx (v:=.ref D) rfl (λs2 I2 ⟨a,sb,ha⟩=>?_) hf)
 have hne:a≠C:=by
  rcases ha with rfl | ha
  ·exact Ne.symm hL
  ·exact hcl _ _ ha
 refine⟨m,hm.sameBut sb (Ne.symm hne),λh' sb2=>⟨_,H',I2.turned (t':=s2.toks) (λb o hb e=>(sb2.2 b hb).trans e) hC hL (.inr (Heap.get?_none_of_le hz)) hcl hp,q⟩⟩
end
end L2
namespace CI
open PySem PySem.Spec PyProof.Rows L2
section
variable{X:Cx}{K:Frag}{P:aE}{C:Calls}{Γ:CC}
theorem bD.inner(xo:bD X K P C Γ)(hk:X.env.scope.kind=.function){scope:Scope}(nd:(fF scope++fC scope).Nodup){X':Cx}(b:kG X scope (Γ.inner scope).N X'):bD X' K P C (Γ.inner scope):=by
 obtain⟨cl,C0,s₃,H₃,fp,xe,rfl⟩:=b;refine bD.of xo.keq rfl ?_ nd xo.calm xo.hh xo.hu xo.con xo.blt (λx f h=>?_) (λx ns h=>?_) (λm tb c f h1 h2=>?_) xo.rm xo.sub xo.subx xo.exc xo.exs (λx f h=>?_) xo.tp
 ·show(relabel scope X.env).names=(Γ.inner scope).names;unfold relabel CC.inner;simp only;congr 1
  funext p
  obtain⟨n,k⟩:=p;have e:X.env.kindOf n=Γ.names.lookup n:=by unfold PySem.Env.kindOf;rw[xo.nm]
  simp only[hk,e];simp
 ·obtain⟨fa,fd,ps,k,h1,h2,h3,h4,h5⟩:=(xo.fn x f h).ex;exact⟨⟨fa,fd,ps,k,h1,h2,h3,h4,h5⟩⟩
 ·obtain⟨Ca,fa,fd,ps,h1,h2,h3,h4,h5,h6⟩:=(xo.cls x ns h).ex;exact⟨⟨Ca,fa,fd,ps,h1,h2,h3,h4,h5,h6⟩⟩
 ·obtain⟨Ca,fa,fd,ps,k,z1,z2,z3,z4,z5,z6⟩:=(xo.mth m tb c f h1 h2).ex;exact⟨⟨Ca,fa,fd,ps,k,z1,z2,z3,z4,z5,z6⟩⟩
 ·obtain⟨fa,fd,ps,k,h1,h2,h3,h4,h5⟩:=(xo.fnX x f h).ex;exact⟨⟨fa,fd,ps,k,h1,h2,h3,h4,h5⟩⟩
noncomputable def yE(K:Frag)(P:aE)(C:Calls)(cs:List E):TT:=λσ H Q=>∃(ρ:Env) (G:Hp) (b:Bool) (ρ':Env),Rel K ρ σ H G/\fB P C cs ρ=some (.ok (.sh (.bl b)),ρ') /\
 ∀H' G',Aft K ρ σ H G ρ' H' G'->Q b H'
theorem EK:uP X [] (yE K P C []):=λpins s σ H Q I ⟨ρ,G,b,ρ',r,e,k⟩=>by
 rw[fB] at e;cases e;exact WU pins s σ H Q I (k H G (Aft.refl r))
theorem DL{c:Expr}{cc:E}(h:Ok3 X K P C c cc):uP X [c] (yE K P C [cc]):=λpins s σ H Q I ⟨ρ,G,b,ρ',r,e,k⟩=>by
 refine YA h.t pins s σ H Q I ?_;rw[fB] at e;obtain⟨v,ρ1,e1,e2⟩:=aJ e;split at e2
 ·rw[fB] at e2;cases e2;exact⟨ρ,G,true,_,r,e1,k⟩
 ·cases e2;exact⟨ρ,G,false,_,r,e1,k⟩
 ·cases e2
theorem AftS.poke{ρ ρ':Env}{σ σ':St}{H G H' G':Hp}(b:AftS K ρ σ H G ρ' σ' H' G'){a:Addr}{o:HO}(h:H a=none)(g:G' a=none)(n:¬aI ρ' σ' a):AftS K ρ σ H G ρ' σ' (aP H' a o) G':=by
 refine⟨b.rel.poke g n,⟨b.ext.gg,λc u e nc=>?_,λc e=>?_,b.ext.gn⟩,b.own,b.un,b.pin,b.len⟩
 ·have:c≠a:=λz=>by subst z;rw[h] at e;cases e
  rw[aG this];exact b.ext.hh c u e nc
 ·by_cases hc:c=a
  ·subst hc;rw[aY] at e;cases e
  ·rw[aG hc] at e;exact b.ext.hx c e
theorem tD{tests elt:Env->aF RV}{bind:D->Env->Option Env}:∀{ds acc acc':List D} {ρ ρ':Env},fQ tests elt bind ds acc ρ=some (.ok acc',ρ')->acc.length<=acc'.length
 |[],acc,acc',ρ,ρ',e=>by simp only[fQ,Option.some.injEq,Prod.mk.injEq,Out.ok.injEq] at e;rw[e.1];exact Zq _
 |d::ds,acc,acc',ρ,ρ',e=>by
  simp only[fQ] at e;split at e
  ·cases e
  ·obtain⟨c,ρ2,e1,e2⟩:=aJ e;split at e2
   ·obtain⟨v,ρ3,e3,e4⟩:=aJ e2
    have:=tD e4
    simp at this;omega
   ·exact tD e2
   ·cases e2
theorem xY{H G:Hp}{own new:Addr->Prop}{σ:St}:∀(imp:List Nat) (ρ:Env) (as:List Sl) (ρ1:Env),Rel K ρ σ H G->bS (imp.map λ_=>true) (imp.map Hd.slot) ρ=some (as,ρ1) ->
  ∃xs,cZ K H G own new σ (imp.map Hd.slot) xs/\xs.length=imp.length/\(∀a,¬lG (imp.map Hd.slot) xs a)/\∀(j:Nat) v,xs[j]?=some v->∃i:Nat,imp[j]?=some i/\σ[i]?=some (some v)
 |[],ρ,as,ρ1,r,e=>⟨[],rfl,rfl,λa z=>z,λj v h=>by simp at h⟩
 |i::imp,ρ,as,ρ1,r,e=>by
  have go:∀(ρ2:Env) (as2:List Sl) (ρ3:Env),Rel K ρ2 σ H G->bS (imp.map λ_=>true) (imp.map Hd.slot) ρ2=some (as2,ρ3)->(∃v,σ[i]?=some (some v)) ->
    ∃xs,cZ K H G own new σ ((i::imp).map Hd.slot) xs/\xs.length=(i::imp).length/\(∀a,¬lG ((i::imp).map Hd.slot) xs a)/\∀(j:Nat) v,xs[j]?=some v->∃i':Nat,(i::imp)[j]?=some i'/\σ[i']?=some (some v):=by
   intro ρ2 as2 ρ3 r2 e2 ⟨v,hv⟩;obtain⟨xs,h1,h2,h3,h4⟩:=xY imp ρ2 as2 ρ3 r2 e2;refine⟨v::xs,⟨v,xs,rfl,hv,h1,λd a z=>(nomatch z)⟩,by simp[h2],λa z=>h3 a z,λj w hw=>?_⟩
   cases j with
   |zero=>simp only[zr,Option.some.injEq] at hw;subst hw;exact⟨i,rfl,hv⟩
   |succ j=>exact h4 j w (by simpa using hw)
  simp only[Zs,bS] at e;split at e
  ·rename_i d hi
   cases q:bS (imp.map λ_=>true) (imp.map Hd.slot) ρ with
   |none=>rw[q] at e;cases e
   |some y=>exact go ρ y.1 y.2 r q (r.bound (by rw[hi];rfl))
  ·rename_i d p l hi
   cases q:bS (imp.map λ_=>true) (imp.map Hd.slot) (ρ.set i .un) with
   |none=>rw[q] at e;cases e
   |some y=>exact go _ y.1 y.2 (r.unset i) q (r.bound (by rw[hi];rfl))
  ·cases e
theorem E9{ρ1 ρ2 ρ':Env}{o:Option Nat}(ho:∀i,o=some i->∃d p l,ρ1[i]?=some (.ow d p l))(e:eM o ρ1 ρ2=some ρ')(h:iC (aQ o ρ1) ρ2):iC ρ1 ρ':=by
 cases o with
 |none=>simp only[eM,Option.some.injEq] at e;subst e;exact h
 |some i =>
  obtain⟨d,p,l,hi⟩:=ho i rfl;simp only[eM] at e;split at e
  ·rename_i sl hf hs;rw[hi] at hs;cases hs;cases e;intro j;by_cases hj:j=i
   ·subst hj;rw[hi,zk (Zc.mp hf).1];exact dS.refl _
   ·have:=h j
    rw[Zf (λz=>hj z.symm)]
    have e2:(aQ (some i) ρ1)[j]?=ρ1[j]?:=by(show(ρ1.set i .un)[j]?=_;rw[Zf (λz=>hj z.symm)])
    rw[e2] at this;exact this
  ·cases e
theorem GI{Γ:CC}:∀{xs:List Str} {imp:List Nat},Γ.imps xs=some imp->imp.length=xs.length/\∀(j:Nat) x i,xs[j]?=some x->imp[j]?=some i->Γ.N[i]?=some x
 |[],imp,h=>by simp only[CC.imps,Option.some.injEq] at h;subst h;exact⟨rfl,λj x i z=>by simp at z⟩
 |x::xs,imp,h=>by
  simp only[CC.imps] at h
  cases q:Γ.N.idxOf? x with
  |none=>rw[q] at h;cases h
  |some i =>
   rw[q] at h;simp only[Option.bind_some] at h
   cases q2:Γ.imps xs with
   |none=>rw[q2] at h;cases h
   |some r =>
    rw[q2] at h;simp only[Option.map_some,Option.some.injEq] at h;subst h;obtain⟨h1,h2⟩:=GI q2;refine⟨by simp[h1],λj y k hy hk=>?_⟩
    cases j with
    |zero =>
     simp only[zr,Option.some.injEq] at hy hk;subst hy hk;exact mR q
    |succ j=>exact h2 j y k (by simpa using hy) (by simpa using hk)
structure ScOk(Γ:CC)(scope:Scope):Prop where
 kind:scope.kind=.function
 cell:∀y∈scope.names,y.2≠.cell
 names:∀x∈scope.names,x.2=.local->scope.names.lookup x.1=some .local
 free:∀x∈scope.names,x.2=.free->scope.names.lookup x.1=some .free
 out:∀p∈scope.names,p.2=.free->Γ.names.lookup p.1=some .cell\/Γ.names.lookup p.1=some .free
 nd:(fF scope++fC scope).Nodup
theorem VM{scope:Scope}(h:Γ.scOk scope=true):ScOk Γ scope:=by
 unfold CC.scOk at h;simp only[ZB,List.all_eq_true,decide_eq_true_eq,beq_iff_eq,bne_iff_ne,Bool.or_eq_true,ne_eq] at h;obtain⟨⟨⟨⟨h1,h2⟩,h3⟩,h4⟩,h5⟩:=h;refine⟨h1,h2,λx hx hl=>?_,λx hx hf=>?_,λx hx hf=>?_,h5⟩
 ·rcases h3 x hx with z | z
  ·exact absurd hl z
  ·exact z
 ·rcases h4 x hx with z | z
  ·exact absurd hf z
  ·exact z.1
 ·rcases h4 x hx with z | z
  ·exact absurd hf z
  ·exact z.2
theorem IS{scope:Scope}{x:Str}(sc:ScOk Γ scope)(h:x∈fF scope):scope.names.lookup x=some .free:=by
 unfold fF at h;obtain⟨p,hp,rfl⟩:=List.mem_map.mp h;obtain⟨h1,h2⟩:=List.mem_filter.mp hp;exact sc.free p h1 (Zy h2)
def HE(K:Frag)(ρ0:Env)(σ0:St)(H1 G2:Hp)(ds:List D)(J:It):Prop:=∀i H' ρc σ' Gc,AftS K ρ0 σ0 H1 G2 ρc σ' H' Gc->(i=ds.length->J.stop i H')/\(i<ds.length->J.go i H')/\∀d x H2,ds[i]?=some d->J.yld i H' x H2->∃Gd,Aft K ρc σ' H' Gc ρc H2 Gd/\aC K Gd d x
theorem aBN{ρ1 ρ0:Env}{σ σ0:St}{H1 G1 G2:Hp}{ds:List D}{o:Option Nat}(gg2:aK G1 G2)(own:∀c,aI ρ0 σ0 c->aI (aQ o ρ1) σ c) :
  (∀a vs,iX K (aQ o ρ1) σ H1 G1 a vs->aB K G1 ds vs->HE K ρ0 σ0 H1 G2 ds (nE K a))/\(∀a vs,cN K G1 a vs->aB K G1 ds vs->HE K ρ0 σ0 H1 G2 ds (nG K a))/\(∀(lo:Int) (n:Nat),ds=(List.range n).map (λ(j:Nat)=>D.int (lo+(j:Int)))->HE K ρ0 σ0 H1 G2 ds (lK lo n))/\(∀a vs ds0 lo,ds=dE lo ds0->iX K (aQ o ρ1) σ H1 G1 a vs->aB K G1 ds0 vs->HE K ρ0 σ0 H1 G2 ds (oA K a lo))/\(∀x,ds=BL x->PyData.strOk x=true->HE K ρ0 σ0 H1 G2 ds (Its x)):=by
 refine⟨λa vs hsrc hr=>?_,λa vs ht hr=>?_,λlo n hds=>?_,λa vs ds0 lo hds hsrc hr=>?_,λx hds hok=>?_⟩
 ·intro i H' ρc σ' Gc af
  have hnow:bY K H' a vs:=by
   rcases hsrc with h | ⟨h1,h2,h3⟩
   ·exact af.rel.sub.seq (af.ext.gg.seq (gg2.seq h))
   ·exact bY.of (af.ext.hh a _ h1 λz=>h3 (own a z))
  refine⟨λhi=>⟨vs,hnow,by rw[hr.len];omega⟩,λhi=>?_,λd x H2 hd hy=>?_⟩
  ·obtain⟨x',h1,h2⟩:=hr.get (Zb hi);exact⟨vs,x',hnow,h1⟩
  ·obtain⟨rfl,hy⟩:=hy;obtain⟨x',h1,h2⟩:=hr.get hd
   have:=hy vs hnow
   rw[h1] at this;cases this;exact⟨_,Aft.refl af.rel,aC.mono af.ext.gg d (aC.mono gg2 d h2)⟩
 ·intro i H' ρc σ' Gc af;have hnow:cN K H' a vs:=cY af.rel.sub (cY af.ext.gg (cY gg2 ht));refine⟨λhi=>⟨vs,hnow,by rw[hr.len];omega⟩,λhi=>?_,λd x H2 hd hy=>?_⟩
  ·obtain⟨x',h1,h2⟩:=hr.get (Zb hi);exact⟨vs,x',hnow,h1⟩
  ·obtain⟨rfl,hy⟩:=hy;obtain⟨x',h1,h2⟩:=hr.get hd
   have:=hy vs hnow
   rw[h1] at this;cases this;exact⟨_,Aft.refl af.rel,aC.mono af.ext.gg d (aC.mono gg2 d h2)⟩
 ·intro i H' ρc σ' Gc af;have hlen:ds.length=n:=by rw[hds];simp
  refine⟨λhi=>by show n<=i;omega,λhi=>by show i<n;omega,λd x H2 hd hy=>?_⟩;obtain⟨rfl,hy⟩:=hy;have hi:i<n:=by rw[<- hlen];exact(Zc.mp hd).1
  have hd':ds[i]?=some (.int (lo+(i:Int))):=by rw[hds];simp[hi]
  rw[hd'] at hd;cases hd;subst hy;exact⟨_,Aft.refl af.rel,by simp[aC]⟩
 ·intro i H' ρc σ' Gc af;subst hds
  have hnow:bY K H' a vs:=by
   rcases hsrc with h | ⟨h1,h2,h3⟩
   ·exact af.rel.sub.seq (af.ext.gg.seq (gg2.seq h))
   ·exact bY.of (af.ext.hh a _ h1 λz=>h3 (own a z))
  refine⟨λhi=>⟨vs,hnow,by rw[hr.len,<- fO (lo:=lo)];omega⟩,λhi=>?_,λd x H2 hd hy=>?_⟩
  ·obtain⟨x',h1,h2⟩:=hr.get (Zb (by rw[fO] at hi;exact hi));exact⟨vs,x',hnow,h1⟩
  ·obtain⟨p0,y0,hn,rfl,rfl,hy⟩:=hy;have hl:i<ds0.length:=by rw[<- fO (lo:=lo)];exact(Zc.mp hd).1
   obtain⟨x',h1,h2⟩:=hr.get (Zb hl);have hy:=hy vs hnow;rw[h1] at hy;cases hy;rw[l9 (Zb hl)] at hd;cases hd;exact⟨_,(Aft.refl af.rel).layG hn,C2 (aK.free af.rel.sub hn) (aC.mono af.ext.gg _ (aC.mono gg2 _ h2))⟩
 ·intro i H' ρc σ' Gc af;have hlen:ds.length=x.cps.size:=by rw[hds];simp[BL]
  refine⟨λhi=>by show x.cps.size<=i;omega,λhi=>by show i<x.cps.size;omega,λd v H2 hd hy=>?_⟩;obtain⟨rfl,c,hc,rfl⟩:=hy;rw[hds] at hd;unfold BL at hd;rw[Zh,Array.getElem?_toList,hc] at hd;cases hd;refine⟨_,Aft.refl af.rel, ?_⟩;unfold aC;refine⟨rfl, ?_⟩;unfold PyData.strOk at hok ⊢
  have:=Array.all_eq_true.mp hok i (Array.getElem?_eq_some_iff.mp hc).1
  rw[(Array.getElem?_eq_some_iff.mp hc).2] at this;simpa using this
abbrev GU(K:Frag)(P:aE)(C:Calls)(k0:ItK)(its:List E)(σ:St)(H:Hp)(R:It->Hp->Prop):Prop:=∃(ρ:Env) (G:Hp) (hs:List Hd) (ρ1:Env) (ds:List D) (o:Option Nat),Rel K ρ σ H G/\cA P C its ρ=some (.ok hs,ρ1)/\aN k0 hs ρ1=some (ds,o) /\
   ∀H1 G1,Aft K ρ σ H G ρ1 H1 G1->(∀i,o=some i->∃d p l,ρ1[i]?=some (.ow d p l)) ->
    (∀a vs,iX K (aQ o ρ1) σ H1 G1 a vs->aB K G1 ds vs->R (nE K a) H1)/\(∀a vs,cN K G1 a vs->aB K G1 ds vs->R (nG K a) H1)/\(∀(lo:Int) (n:Nat),ds=(List.range n).map (λ(j:Nat)=>D.int (lo+(j:Int)))->R (lK lo n) H1)/\(∀a vs ds0 lo,ds=dE lo ds0->iX K (aQ o ρ1) σ H1 G1 a vs->aB K G1 ds0 vs->R (oA K a lo) H1)/\(∀x,ds=BL x->PyData.strOk x=true->R (Its x) H1)
abbrev Hw4(K:Frag)(P:aE)(C:Calls)(k0:ItK)(its:List E)(σ:St)(H:Hp)(R:It->Hp->Prop):Prop:=∃(ρ:Env) (G:Hp) (hs:List Hd) (ρ1:Env) (ds:List D) (o:Option Nat),Rel K ρ σ H G/\cA P C its ρ=some (.ok hs,ρ1)/\aN k0 hs ρ1=some (ds,o) /\
   ∀H1 G1,Aft K ρ σ H G ρ1 H1 G1->(∀i,o=some i->∃d p l,ρ1[i]?=some (.ow d p l)) ->
    (∀a vs,iX K (aQ o ρ1) σ H1 G1 a vs->aB K G1 ds vs->R (nE K a) H1)/\(∀a vs,cN K G1 a vs->aB K G1 ds vs->R (nG K a) H1)/\(∀(lo:Int) (n:Nat),ds=(List.range n).map (λ(j:Nat)=>D.int (lo+(j:Int)))->R (lK lo n) H1)/\(∀a vs ds0 lo,ds=dE lo ds0->iX K (aQ o ρ1) σ H1 G1 a vs->aB K G1 ds0 vs->R (oA K a lo) H1)
theorem SF{K:Frag}{P:aE}{C:Calls}{k0:ItK}{its:List E}{σ:St}{H:Hp}{R:It->Hp->Prop}(q:GU K P C k0 its σ H R):Hw4 K P C k0 its σ H R:=by
 obtain⟨ρ,G,hs,ρ1,ds,o,r,e,ei,k⟩:=q;refine⟨ρ,G,hs,ρ1,ds,o,r,e,ei,λH1 G1 a ho=>?_⟩;obtain⟨k1,k2,k3,k4,_⟩:=k H1 G1 a ho;exact⟨k1,k2,k3,k4⟩
theorem CG(xo:bD X K P C Γ){scope:Scope}{ce:E}{k0:ItK}{its cond:List E}{imp is:List Nat}{wi:TI}{elt:Env->aF RV}(helt:∀ρ v ρ',elt ρ=some (.ok v,ρ')->ev P C false ce ρ=some (.ok v,ρ'))(sc:ScOk Γ scope)(himp:Γ.imps (fF scope)=some imp)
  (hw:∀σ H (R:It->Hp->Prop),GU K P C k0 its σ H R->wi σ H R)
  {σ:St} {H:Hp} {Q:VK} (h:∃(ρ:Env) (G:Hp) (v:RV) (ρ':Env),Rel K ρ σ H G/\evG P C elt is k0 its cond imp (fC scope).length ρ=some (.ok v,ρ')/\∀x H' G',Aft K ρ σ H G ρ' H' G'->cH K H' G' (aI ρ' σ) (dC H) v x->((∀ρ v ρ',elt ρ=some (.ok v,ρ')->∃ds,v=.ow (.lst ds)/\ds.length<=1000)->∀a,x=.ref a->Rows H' (aI ρ' σ) (dC H) a)->Q x H'):o5 X.N scope (Γ.inner scope).N wi (gB K (is.length==1) is) (yE K P C cond) (tE K P C ce) σ H Q:=by
 obtain⟨ρ,G,v,ρ',r,e,k⟩:=h;unfold evG at e;obtain⟨hs',ρ1,e1,e2⟩:=aJ e
 cases q:aN k0 hs' ρ1 with
 |none=>rw[q] at e2;cases e2
 |some y =>
  obtain⟨ds,o⟩:=y;rw[q] at e2;obtain⟨v',ρ2,e3,e4⟩:=aJ e2;unfold kZ at e4
  cases q3:eM o ρ1 ρ2 with
  |none=>rw[q3] at e4;cases e4
  |some ρ3 =>
   rw[q3] at e4;simp only[Option.map_some,Option.some.injEq,Prod.mk.injEq,Out.ok.injEq] at e4;obtain⟨rfl,rfl⟩:=e4;unfold o5;refine hw σ H _ ⟨ρ,G,hs',ρ1,ds,o,r,e1,q,λH1 G1 a1 ho=>?_⟩;have R0:=(jV (o:=o) a1.rel).1
   have hld:∃as ρ4,bS (imp.map λ_=>true) (imp.map Hd.slot) (aQ o ρ1)=some (as,ρ4):=by
    unfold cW at e3
    cases q4:bS (imp.map λ_=>true) (imp.map Hd.slot) (aQ o ρ1) with
    |none=>rw[q4] at e3;cases e3
    |some y=>exact⟨y.1,y.2,rfl⟩
   obtain⟨as0,ρ4,hld⟩:=hld;obtain⟨xs,hx1,hx2,hx3,hx4⟩:=xY (own:=aI (aQ o ρ1) σ) (new:=dC H1) imp _ _ _ R0 hld;obtain⟨as,G2,as',ra,hal,ef,⟨gg2,ao2⟩,kk⟩:=mB (Aft.refl R0) hx1 e3;unfold pK at ef;split at ef
   ·rename_i hp;obtain⟨acc,ρi,e5,e6⟩:=aJ ef;split at e6
    ·rename_i hz;simp only[Option.some.injEq,Prod.mk.injEq,Out.ok.injEq] at e6;obtain⟨rfl,rfl⟩:=e6;obtain⟨il,ig⟩:=GI himp
     have hNl:(Γ.inner scope).N.length=as.length+(fC scope).length:=by(show(fF scope++fC scope).length=_;rw[Za,hal,List.length_map,il])
     obtain⟨rp,op⟩:=ra.pad hNl;have hsz:=eX hz
     -- the block's turns
     have turns:∀(J:It),HE K (as++List.replicate (fC scope).length .un) (cK (Γ.inner scope).N xs) H1 G2 ds J->ND X.N scope (Γ.inner scope).N (gB K (is.length==1) is) (yE K P C cond) (tE K P C ce) σ Q J H1:=by
      intro J hJ;refine Exists.intro xs ⟨by rw[hNl,hx2,hal,List.length_map];omega,λi x v hN hv=>?_,λD hD=>?_⟩
      ·obtain⟨j,hj,hσ⟩:=hx4 i v hv
       have hlt:i<(fF scope).length:=by(rw[<- il];exact(Zc.mp hj).1)
       have hfx:(fF scope)[i]?=some x:=by
        have:(fF scope++fC scope)[i]?=some x:=hN
        rwa[List.getElem?_append_left hlt] at this
       exact⟨j,by rw[xo.neq];exact ig i x j hfx hj,hσ,IS sc (zj hfx)⟩
      ·have fin:∀σ' H' Gc ys,AftS K (as++List.replicate (fC scope).length .un) (cK (Γ.inner scope).N xs) H1 G2 ρi σ' H' Gc->H' D=some (.lst ys)->Gc D=none->¬aI ρi σ' D->aB K Gc acc ys->((∀ρ v ρ',elt ρ=some (.ok v,ρ')->∃ds,v=.ow (.lst ds)/\ds.length<=1000)->kL H' (aI ρi σ') (λb=>H1 b=none/\b≠D) ys)->Q (.ref D) H':=by
        intro σ' H' Gc ys a hHD hGD hnD hr hR;obtain⟨b1,b2⟩:=pC ra hp hNl a;obtain⟨c1,c2⟩:=kk (.ref D) H' Gc b1 ⟨D,rfl,hGD,⟨ys,hHD,hr⟩,λz=>hnD (b2 D z),hD⟩;obtain⟨d1,d2⟩:=hX a1.rel ho q3 (Aft.s R0 c1);have a2:Aft K ρ1 σ H1 G1 ρ3 H' Gc:=⟨d1.rel,d1.ext,E9 ho q3 c1.evo⟩
        obtain⟨D',e',g',o',n',f'⟩:=c2;cases e';refine k _ _ _ (a1.trans a2) ⟨D,rfl,g',o',λz=>?_,a1.fresh hD⟩ λhF c hc=>?_
        ·rcases d2 D z with z | ⟨z,_⟩
         ·exact n' z
         ·exact(a1.rel.owned z).1 hD
        ·cases hc;refine⟨ys,hHD,λx hx=>?_⟩;obtain⟨b,ws,z1,z2,z3,_,z5,z6⟩:=hR hF x hx;exact⟨b,ws,z1,z2,z3,λz=>(a1.rel.owned (a2.own b z)).1 z5,a1.fresh z5,z6⟩
       clear kk k q3 R0 ho a1 hp hNl ra hal gg2 ao2 hx1 hx2 hx3 hx4 hld e3 q e1 r himp il ig op;refine⟨ds.length,λi σ' H'=>i<=ds.length/\∃ρc Gc ac ys,AftS K (as++List.replicate (fC scope).length .un) (cK (Γ.inner scope).N xs) H1 G2 ρc σ' H' Gc/\H' D=some (.lst ys)/\Gc D=none/\¬aI ρc σ' D/\aB K Gc ac ys/\fQ (fB P C cond) elt (bN (is.length==1) is) (ds.drop i) ac ρc=some (.ok acc,ρi)/\((∀ρ v ρ',elt ρ=some (.ok v,ρ')->∃ds,v=.ow (.lst ds)/\ds.length<=1000)->kL H' (aI ρc σ') (λb=>H1 b=none/\b≠D) ys), ?_, ?_⟩
       ·have g2:G2 D=none:=by
         cases z:G2 D with
         |none=>rfl
         |some u=>have:=rp.sub D u z;rw[hD] at this;cases this
        exact⟨Nat.zero_le _,_,G2,[],[],Aft.s rp ((Aft.refl rp).layH hD),aY,g2,rp.notOwn hD,aB.nil,e5,λ_ x hx=>nomatch hx⟩
       ·rintro i σ' H' ⟨hil,ρc,Gc,ac,ys,a,hHD,hGD,hnD,hr,ec,hR⟩
        obtain⟨j1,j2,j3⟩:=hJ i H' ρc σ' Gc a;by_cases hlt:i<ds.length
        ·refine .inr ⟨hlt,j2 hlt,λx H2 hy=>?_⟩;have hd:ds[i]?=some ds[i]:=Zb hlt;obtain⟨Gd,afd,hrep⟩:=j3 _ x H2 hd hy;have hGD:=afd.ext.gn D (by rw[hHD];simp) hGD hnD;have hR:=λz=>(hR z).step afd.ext.hh λb w=>.inl (afd.own b w)
         have hHD:=afd.ext.hh D _ hHD hnD;have hr:=aB.mono afd.ext.gg _ hr;have a:=a.trans (Aft.s a.rel afd);rw[List.drop_eq_getElem_cons hlt] at ec;simp only[fQ] at ec;split at ec
         ·cases ec
         ·rename_i ρb hb;obtain⟨c,ρt,et,ec⟩:=aJ ec;refine⟨ρc,Gd,ds[i],ρb,a.rel,hrep,hb,λσ1 ab=>?_⟩;have a01:=a.trans ab;have hR:=λz=>(hR z).step (λb o w _=>w) ab.own
          have nb:¬aI ρb σ1 D:=λz=>by
           rcases ab.own D z with z | z
           ·exact hnD z
           ·rw[hHD] at z;cases z
          split at ec
          ·obtain⟨w,ρe,ee,ec⟩:=aJ ec;refine⟨ρb,Gd,true,ρt,ab.rel,et,λH3 G3 at3=>?_⟩;have h3:H3 D=some (.lst ys):=at3.ext.hh D _ hHD nb;have g3:G3 D=none:=at3.ext.gn D (by rw[hHD];simp) hGD nb;have n3:¬aI ρt σ1 D:=λz=>nb (at3.own D z)
           dsimp only;rw[Zo rfl];refine⟨ρt,G3,w,ρe,at3.rel,helt _ _ _ ee,λy H4 G4 a4 ry=>?_⟩;obtain⟨G5,a5,ry5⟩:=a4.share ry;have h4:H4 D=some (.lst ys):=a5.ext.hh D _ h3 n3;have g5:G5 D=none:=a5.ext.gn D (by rw[h3];simp) g3 n3;have n5:¬aI ρe σ1 D:=λz=>n3 (a5.own D z)
           have hlen:=tD ec;have hyl:=hr.len;rw[Za] at hlen;simp only[Zk,List.length_nil] at hlen;have a05:=(a01.trans (Aft.s ab.rel at3)).trans (Aft.s at3.rel a5);refine⟨ys,h4,by omega,hlt,ρe,G5,ac++[w.d],ys++[y],a05.poke hD g5 n5,aY,g5,n5, ?_,ec,λhF x hx=>?_⟩
           ·exact(aB.mono a5.ext.gg _ (aB.mono at3.ext.gg _ hr)).app (aB.cons ry5 aB.nil)
           ·rcases zo.mp hx with hx | hx
            ·obtain⟨b,ws,z1,z2,z3,z4,z5,z6⟩:=((hR hF).step at3.ext.hh λb w=>.inl (at3.own b w)).step a5.ext.hh (λb w=>.inl (a5.own b w)) x hx;exact⟨b,ws,z1,by rw[aG z6];exact z2,z3,z4,z5,z6⟩
            ·rw[ze.mp hx];obtain⟨dw,rfl,hdw⟩:=hF _ _ _ ee;obtain⟨b,rfl,_,⟨ws,z1,z2⟩,z3,z4⟩:=ry;have hbD:b≠D:=λz=>by subst z;have:H3 b=none:=z4;rw[h3] at this;cases this
             exact⟨b,ws,rfl,by rw[aG hbD];exact z1,by rw[z2.len];exact hdw,z3,(a01.trans (Aft.s ab.rel at3)).ext.hx b z4,hbD⟩
          ·refine⟨ρb,Gd,false,ρt,ab.rel,et,λH3 G3 at3=>?_⟩;have h3:H3 D=some (.lst ys):=at3.ext.hh D _ hHD nb;have g3:G3 D=none:=at3.ext.gn D (by rw[hHD];simp) hGD nb;have n3:¬aI ρt σ1 D:=λz=>nb (at3.own D z)
           dsimp only;rw[Zp (by decide)];exact⟨hlt,ρt,G3,ac,ys,a01.trans (Aft.s ab.rel at3),h3,g3,n3,aB.mono at3.ext.gg _ hr,ec,λhF=>(hR hF).step at3.ext.hh λb w=>.inl (at3.own b w)⟩
          ·cases ec
        ·have hie:i=ds.length:=by omega
         refine .inl ⟨j1 hie, ?_⟩;subst hie;rw[List.drop_length] at ec;simp only[fQ,Option.some.injEq,Prod.mk.injEq,Out.ok.injEq] at ec;obtain⟨rfl,rfl⟩:=ec;exact fin _ _ _ _ a hHD hGD hnD hr hR
     have noTmp:∀c,aI as (xs.map some) c->aI (aQ o ρ1) σ c:=λc z=>by
      rcases ao2 c z with z | z
      ·exact z
      ·exact absurd z (hx3 c)
     obtain⟨w1,w2,w3,w4,w5⟩:=aBN (K:=K) (ρ1:=ρ1) (σ:=σ) (H1:=H1) (ds:=ds) (o:=o) gg2 λc z=>noTmp c (op c z)
     exact⟨λa vs h1 h2=>turns _ (w1 a vs h1 h2),λa vs h1 h2=>turns _ (w2 a vs h1 h2),λlo n h1=>turns _ (w3 lo n h1),λa vs ds0 lo h1 h2 h3=>turns _ (w4 a vs ds0 lo h1 h2 h3),λx h1 h2=>turns _ (w5 x h1 h2)⟩
    ·cases e6
   ·cases ef
theorem DN(xo:bD X K P C Γ){scope:Scope}{ce:E}{k0:ItK}{its cond:List E}{imp is:List Nat}{wi:TI}(sc:ScOk Γ scope)(himp:Γ.imps (fF scope)=some imp)
  (hw:∀σ H (R:It->Hp->Prop),GU K P C k0 its σ H R->wi σ H R)
  {σ:St} {H:Hp} {Q:VK} (h:tE K P C (.comp ce is k0 its cond imp (fC scope).length) σ H Q):o5 X.N scope (Γ.inner scope).N wi (gB K (is.length==1) is) (yE K P C cond) (tE K P C ce) σ H Q:=by
 obtain⟨ρ,G,v,ρ',r,e,k⟩:=h;exact CG xo (elt:=ev P C false ce) (λ_ _ _ z=>z) sc himp hw ⟨ρ,G,v,ρ',r,e,λx H' G' a hv _=>k x H' G' a hv⟩
theorem L6(xo:bD X K P C Γ){scope:Scope}{ce:E}{k0:ItK}{its:List E}{imp is:List Nat}{wi:TI}(sc:ScOk Γ scope)(himp:Γ.imps (fF scope)=some imp)
  (hw:∀σ H (R:It->Hp->Prop),GU K P C k0 its σ H R->wi σ H R)
  {σ:St} {H:Hp} {Q:VK} (h:∃(ρ:Env) (G:Hp) (d:D) (ρ':Env),Rel K ρ σ H G/\evD P C ce is k0 its imp (fC scope).length ρ=some (.ok (.ow d),ρ')/\∀x H' G',Aft K ρ σ H G ρ' H' G'->cH K H' G' (aI ρ' σ) (dC H) (.od d) x->Q x H'):o5 X.N scope (Γ.inner scope).N wi (gB K (is.length==1) is) (yE K P C []) (tE K P C ce) σ H Q:=by
 obtain⟨ρ,G,d,ρ',r,e,k⟩:=h
 have hO:∀ρ v ρ',RK (ev P C false ce ρ)=some (.ok v,ρ')->ev P C false ce ρ=some (.ok v,ρ')/\∃ds,v=.ow (.lst ds)/\ds.length<=1000:=λρ v ρ' z=>by
  unfold RK at z;split at z
  ·rename_i q;split at z
   ·rename_i hl;cases z;exact⟨q,_,rfl,hl⟩
   ·cases z
  ·cases z
 refine CG xo (elt:=λρ=>RK (ev P C false ce ρ)) (λρ v ρ' z=>(hO ρ v ρ' z).1) sc himp hw ⟨ρ,G,.ow d,ρ',r,e,λx H' G' a hv hR=>k x H' G' a ?_⟩;obtain⟨c,rfl,g,o,n,m⟩:=hv;exact⟨c,rfl,g,o,n,m,hR (λρ v ρ' z=>(hO ρ v ρ' z).2) c rfl⟩
noncomputable def ZV(K:Frag)(P:aE)(C:Calls)(c:E):TE:=λσ H Q=>match c with
 |.comp ce is k0 its [] imp nl=>∃(ρ:Env) (G:Hp) (d:D) (ρ':Env),Rel K ρ σ H G/\evD P C ce is k0 its imp nl ρ=some (.ok (.ow d),ρ')/\∀x H' G',Aft K ρ σ H G ρ' H' G'->cH K H' G' (aI ρ' σ) (dC H) (.od d) x->Q x H'
 |_=>False
def F5(X:Cx)(K:Frag)(P:aE)(C:Calls)(e:Expr)(c:E):Prop:=∀(x:Str) (i:Nat) (p pos:Pos),X.N.Nodup->X.N[i]?=some x->rZ X.env.scope x->(X.fn x=true\/X.env.scope.names.lookup x=some .local) ->
 PS X (.Assign [.Name x p] e pos) (IV (tE K P C c) (pO i))
theorem kT{e:Expr}:F5 X K P C e .bad:=λx i p pos _ _ _ _ pins s σ H D I h=>by
 obtain⟨ρ,G,v,ρ',r,e,k⟩:=h;cases e
theorem XE(xo:bD X K P C Γ){elt tg iter:Expr}{ifs:List Expr}{scope:Scope}{pos:Pos}{ce:E}{k0:ItK}{its cond:List E}{imp is:List Nat}{wi:TI}(sc:ScOk Γ scope)(himp:Γ.imps (fF scope)=some imp)(htg:jF (Γ.inner scope) tg=some (is.length==1,is))
  (hi:PI X tg iter wi) (hs:∀x,foldedSetIterable iter X.env x=pure x)
  (hw:∀σ H (R:It->Hp->Prop),GU K P C k0 its σ H R->wi σ H R)
  (he:∀X',bD X' K P C (Γ.inner scope)->Ok3 X' K P C elt ce) (ht:∀X',bD X' K P C (Γ.inner scope)->uP X' ifs (yE K P C cond)) :
  Ok3 X K P C (.ListComp elt [⟨tg,iter,ifs,0⟩] scope pos) (.comp ce is k0 its cond imp (fC scope).length)/\F5 X K P C (.ListComp elt [⟨tg,iter,ifs,0⟩] scope pos) (.comp ce is k0 its cond imp (fC scope).length)/\PE X (.ListComp elt [⟨tg,iter,ifs,0⟩] scope pos) (ZV K P C (.comp ce is k0 its cond imp (fC scope).length)):=by
 have all:X.env.scope.kind=.function->(∀X',kG X scope (Γ.inner scope).N X'->PG X' tg (gB K (is.length==1) is))/\(∀X',kG X scope (Γ.inner scope).N X'->uP X' ifs (yE K P C cond))/\∀X',kG X scope (Γ.inner scope).N X'->PE X' elt (tE K P C ce):=by
  intro hk;have xi:∀X',kG X scope (Γ.inner scope).N X'->bD X' K P C (Γ.inner scope):=λX' b=>xo.inner hk sc.nd b
  have hfn:∀X',kG X scope (Γ.inner scope).N X'->∀x,(Γ.inner scope).isLoc x=true->X'.fn x=true\/X'.env.scope.names.lookup x=some .local:=λX' b x hx=>by
   rw[(xi X' b).nm];unfold CC.isLoc at hx;rw[Bool.or_eq_true,ZB] at hx;rcases hx with hx | hx
   ·exact .inr (Zy hx)
   ·exact absurd hx.1 (by simp[CC.inner])
  exact⟨λX' b=>GH (xi X' b) (hfn X' b) htg,λX' b=>ht X' (xi X' b),λX' b=>(he X' (xi X' b)).v⟩
 have hfk:∀p∈scope.names,p.2=.free->X.env.kindOf p.1=some .cell\/X.env.kindOf p.1=some .free:=λp hp hf=>by unfold PySem.Env.kindOf;rw[xo.nm];exact sc.out p hp hf
 have hPE:PE X (.ListComp elt [⟨tg,iter,ifs,0⟩] scope pos) (tE K P C (.comp ce is k0 its cond imp (fC scope).length)):=λpins s σ H Q I h=>by(obtain⟨h1,h2,h3⟩:=all I.ok.kind;exact HC (N':=(Γ.inner scope).N) xo.calm hi hs sc.kind sc.cell sc.names hfk h1 h2 h3 pins s σ H Q I (DN xo sc himp hw h))
 refine⟨iY xo hPE (λi z=>nomatch z) (λρ=>rfl) λ_=>rfl,λx i p spos hN hx hl hf=>?_,λpins s σ H Q I h=>?_⟩
 case refine_2 =>
  obtain⟨h1,h2,h3⟩:=all I.ok.kind
  cases cond with
  |nil=>exact HC (N':=(Γ.inner scope).N) xo.calm hi hs sc.kind sc.cell sc.names hfk h1 h2 h3 pins s σ H Q I (L6 xo sc himp hw h)
  |cons _ _=>exact h.elim
 obtain⟨b,hb⟩:∃b:Bool,swapsWith (.ListComp elt [⟨tg,iter,ifs,0⟩] scope pos) (some (.Name x p)) spos.line X.env=pure b:=⟨_,rfl⟩
 cases b with
 |false=>exact xJ hPE (FJ hN hx hl hf) hb
 |true =>
  intro pins s σ H D I h;obtain⟨h1,h2,h3⟩:=all I.ok.kind;exact CY hb hN hx hl hf xo.calm hi hs sc.kind sc.cell sc.names hfk h1 h2 h3 pins s σ H D I (DN xo sc himp hw h)
end
structure ArgsOk(X:Cx)(K:Frag)(P:aE)(C:Calls)(e:Expr)(cs:List E):Prop where
 h:∀(f:Str) (p:Pos) (args:List Expr) (kw:List _) (pos:Pos),e=.Call (.Name f p) args kw pos->args.all aS=true->PA X args (mP K P C cs)/\cs.length=args.length
theorem y8{Γ:CC}:∀(es:List Expr),(bT Γ es).length=es.length
 |[]=>by rw[bT];rfl
 |e::es=>by rw[bT,Zk,Zk,y8 es]
section
variable{X:Cx}{K:Frag}{P:aE}{C:Calls}{Γ:CC}
theorem tG{Γ:CC}{tg:Expr}{one:Bool}{is:List Nat}(h:jF Γ tg=some (one,is))(n:one=false):∃elts k p,tg=.Tuple elts k p:=by
 cases tg<;>simp only[jF,reduceCtorEq] at h
 ·rename_i x pos
  cases q:Γ.slotL x with
  |none=>rw[q] at h;cases h
  |some i=>rw[q] at h;cases h;cases n
 ·exact⟨_,_,_,rfl⟩
theorem M6(xo:bD X K P C Γ){tg iter:Expr}{scope:Scope}{ci ce:E}{cargs cond:List E}(hci:Ok3 X K P C iter ci)(hca:ArgsOk X K P C iter cargs){Φ:E->Prop}(bad:Φ .bad)
  (good:∀{k0:ItK} {its:List E} {imp is:List Nat} {wi:TI},ScOk Γ scope->Γ.imps (fF scope)=some imp->jF (Γ.inner scope) tg=some (is.length==1,is)->PI X tg iter wi->(∀x,foldedSetIterable iter X.env x=pure x) ->
   (∀σ H (R:It->Hp->Prop),GU K P C k0 its σ H R->wi σ H R)->Φ (.comp ce is k0 its cond imp (fC scope).length)) :
  Φ (gR Γ scope tg iter ci cargs cond ce):=by
 unfold gR;split
 ·rename_i hsc;have sc:=VM hsc;split
  ·rename_i imp one is k0 its0 q1 q2 q3;split
   ·rename_i hsg;exact(Bool.false_ne_true hsg).elim
   split
   ·rename_i hone;rw[ZB,ZB] at hone;obtain⟨⟨hone,hfit⟩,hns⟩:=hone;have hone:=Zy hone;subst hone
    have gen:∀e:Expr,iter=e->wU e=true->some (ItK.of,[e])=some (k0,its0)->Φ (.comp ce is k0 (aCQ k0 ci cargs) cond imp (fC scope).length):=λe he' hn hq=>by(subst he';cases hq;exact good sc q1 q2 (PI.or (GN hci.h) (LQ hci.h)) (zY hn _) (λσ H R q=>TF xo.keq σ H R (SF q)))
    unfold o8 at q3;split at q3
    ·rename_i f p args pos';split at q3
     ·rename_i hf;have hf:=Zy hf;subst hf;split at q3
      ·rename_i hgl;split at q3
       ·rename_i hc;cases q3;rw[ZB] at hc;obtain⟨h1,h2,h3,h4⟩:=CC.glob_ok xo hgl (λz=>nomatch z);have hm:=xo.blt _ h2;obtain⟨hpa,hcl⟩:=hca.h _ _ _ _ _ rfl hc.1
        match its0,cargs,hc,hpa,hcl with
        |[a],[c1],hc,hpa,_ =>
         have ns:=hc.1;rw[Zj,ZB] at ns;exact good sc q1 q2 (zR h1 hm hpa (by rw[bE ns.1];rfl)) (λ_=>rfl) (λσ H R q=>GL σ H R (SF q))
        |[a,b],[c1,c2],hc,hpa,_ =>
         have ns:=hc.1;rw[Zj,ZB,Zj,ZB] at ns;exact good sc q1 q2 (AJ h1 hm hpa (by rw[bE ns.1,bE ns.2.1];rfl) (by rw[bE ns.2.1];rfl)) (λ_=>rfl) (λσ H R q=>FY σ H R (SF q))
        |[],_,hc,_,_=>simp at hc
        |_::_::_::_,_,hc,_,_=>simp at hc
       ·cases q3
      ·cases q3
     ·split at q3
      ·rename_i hf;have hf:=Zy hf;subst hf;split at q3
       ·rename_i hgl;split at q3
        ·rename_i hc;cases q3;rw[ZB] at hc;obtain⟨h1,h2,h3,h4⟩:=CC.glob_ok xo hgl (λz=>nomatch z);have hm:=xo.blt _ h2;obtain⟨hpa,hcl⟩:=hca.h _ _ _ _ _ rfl hc.1
         match its0,cargs,hc,hpa,hcl with
         |[a],[c1],hc,hpa,_ =>
          have ns:=hc.1;rw[Zj,ZB] at ns;obtain⟨elts,kk,tp,rfl⟩:=tG q2 (by simpa[jN] using hfit);exact good sc q1 q2 (FC h1 hm hpa (by rw[bE ns.1];rfl)) (λ_=>rfl) (λσ H R q=>yV xo.keq σ H R (SF q))
         |[],_,hc,_,_=>simp at hc
         |_::_::_,_,hc,_,_=>simp at hc
        ·cases q3
       ·cases q3
      ·exact gen _ rfl rfl q3
    ·split at q3
     ·split at q3
      ·cases q3;exact absurd hns (by decide)
      ·cases q3
     ·cases q3
    ·split at q3
     ·exact gen _ rfl ‹_› q3
     ·cases q3
   ·exact bad
  ·exact bad
 ·exact bad
theorem mO(xo:bD X K P C Γ){elt tg iter:Expr}{ifs:List Expr}{scope:Scope}{pos:Pos}{ci ce:E}{cargs cond:List E}(hci:Ok3 X K P C iter ci)(hca:ArgsOk X K P C iter cargs)
  (he:∀X',bD X' K P C (Γ.inner scope)->Ok3 X' K P C elt ce) (ht:∀X',bD X' K P C (Γ.inner scope)->uP X' ifs (yE K P C cond)) :
  Ok3 X K P C (.ListComp elt [⟨tg,iter,ifs,0⟩] scope pos) (gR Γ scope tg iter ci cargs cond ce)/\F5 X K P C (.ListComp elt [⟨tg,iter,ifs,0⟩] scope pos) (gR Γ scope tg iter ci cargs cond ce)/\PE X (.ListComp elt [⟨tg,iter,ifs,0⟩] scope pos) (ZV K P C (gR Γ scope tg iter ci cargs cond ce)) :=
 M6 xo hci hca (Φ:=λc=>Ok3 X K P C (.ListComp elt [⟨tg,iter,ifs,0⟩] scope pos) c/\F5 X K P C (.ListComp elt [⟨tg,iter,ifs,0⟩] scope pos) c/\PE X (.ListComp elt [⟨tg,iter,ifs,0⟩] scope pos) (ZV K P C c)) ⟨aM,kT,λpins s σ H Q I h=>h.elim⟩ λsc q1 q2 hi hs hw=>XE xo sc q1 q2 hi hs hw he ht
end
def aFV(i:Expr):Prop:=∃k p1 p2 p3,i=.Slice none none (some (.UnaryOp .USub (.Constant (.int 1) k p1) p2)) p3
theorem LO{i:Expr}(h:KA i=true):aFV i:=by
 cases i with
 |Slice lo hi st q =>
  obtain _ | _:=lo
  ·obtain _ | _:=hi
   ·obtain _ | st:=st
    ·exact dP h
    ·cases st with
     |UnaryOp op a p =>
      cases op with
      |USub =>
       cases a with
       |Constant c k p1 =>
        cases c with
        |int n =>
         have h:=Zy (show(n==1)=true from h);subst h;exact Exists.intro _ ⟨_,_,_,rfl⟩
        |_=>exact dP h
       |_=>exact dP h
      |_=>exact dP h
     |_=>exact dP h
   ·exact dP h
  ·exact dP h
 |_=>exact dP h
theorem TH(Γ:CC)(a i:Expr)(p:Pos):(∃lo hi q,i=.Slice lo hi none q)\/((∀lo hi q,i≠.Slice lo hi none q)/\cE Γ (.Subscript a i p)=if KA i then .bad else .ix (cE Γ a) (cE Γ i)):=by
 cases i with
 |Slice lo hi st q =>
  cases st with
  |none=>exact .inl ⟨_,_,_,rfl⟩
  |some _=>exact .inr ⟨(λ_ _ _ z=>nomatch z),rfl⟩
 |_=>exact .inr ⟨(λ_ _ _ z=>nomatch z),rfl⟩
def AO(K:Frag)(P:aE)(C:Calls)(n:Nat):Prop:=∀(X:Cx) (Γ:CC),bD X K P C Γ->∀e:Expr,sizeOf e<n->Ok3 X K P C e (cE Γ e)
theorem bP{a b n:Nat}(h:a<b)(k:b<n+1):a<n:=Zl h (Nat.le_of_lt_succ k)
section
variable{X:Cx}{K:Frag}{P:aE}{C:Calls}{Γ:CC}{n:Nat}
theorem pH{e:Expr}{r:List Expr}(h:sizeOf (e::r)<n):sizeOf e<n:=Nat.lt_trans (by simp;omega) h
theorem wM{e:Expr}{r:List Expr}(h:sizeOf (e::r)<n):sizeOf r<n:=Nat.lt_trans (by simp;omega) h
theorem xB(ih:AO K P C n)(xo:bD X K P C Γ):∀es:List Expr,sizeOf es<n->es.all aS=true->PA X es (xQ K P C (bT Γ es))
 |[],_,_=>HJ
 |e::r,hs,h=>by(rw[Zj,ZB] at h;exact CL (ih _ _ xo e (pH hs)) (xB ih xo r (wM hs) h.2) h.1)
theorem mL(ih:AO K P C n)(xo:bD X K P C Γ):∀es:List Expr,sizeOf es<n->es.all aS=true->PA X es (mP K P C (bT Γ es))
 |[],_,_=>W5
 |e::r,hs,h=>by(rw[Zj,ZB] at h;exact O3 (ih _ _ xo e (pH hs)) (mL ih xo r (wM hs) h.2) h.1)
theorem TR(ih:AO K P C n)(xo:bD X K P C Γ):∀vs:List Expr,sizeOf vs<n->vs≠[]->Ok2 X K P C .And vs (PN Γ vs)
 |[],_,h=>absurd rfl h
 |[a],hs,_=>PY (ih _ _ xo a (pH hs))
 |a::b::r,hs,_=>F4 (ih _ _ xo a (pH hs)) (TR ih xo (b::r) (wM hs) (λz=>nomatch z))
theorem aBT(ih:AO K P C n)(xo:bD X K P C Γ):∀vs:List Expr,sizeOf vs<n->vs≠[]->Ok2 X K P C .Or vs (cOr Γ vs)
 |[],_,h=>absurd rfl h
 |[a],hs,_=>XM (ih _ _ xo a (pH hs))
 |a::b::r,hs,_=>LF (ih _ _ xo a (pH hs)) (aBT ih xo (b::r) (wM hs) (λz=>nomatch z))
theorem o_n(ih:AO K P C n)(xo:bD X K P C Γ):∀o:Option Expr,sizeOf o<n->PO X o (tO K P C (cO Γ o))
 |none,_=>NT
 |some e,hs=>O4 (ih _ _ xo e (Nat.lt_trans (by simp) hs))
theorem CZ(ih:AO K P C n)(xo:bD X K P C Γ)(e:Expr)(hs:sizeOf e<n):ArgsOk X K P C e (mF Γ e):=by
 cases e<;>first
  | (rename_i f args kw pos;exact⟨λf' p' args' kw' pos' z ns=>by cases z;exact⟨mL ih xo args (Nat.lt_trans (by simp;omega) hs) ns,y8 args⟩⟩)
  |exact⟨λf' p' args' kw' pos' z ns=>by cases z⟩
end
theorem MV{X:Cx}{K:Frag}{P:aE}{C:Calls}{e:Expr}{c:E}(h:Ok3 X K P C e c):Ok3 X K P C e (sZ c):=by
 unfold sZ;split
 ·exact aM
 ·exact h
theorem X4{X:Cx}{K:Frag}{P:aE}{C:Calls}{Γ:CC}{n:Nat}(ih:AO K P C n)(xo:bD X K P C Γ)(e:Expr)(hsz:sizeOf e<n+1):Ok3 X K P C e (cE Γ e):=by
 cases e with
 |Name x p =>
  exact nZ xo _ _
 |Constant c k p =>
  exact NU xo _ _ _
 |Tuple es k p =>
  show Ok3 X K P C _ (if es.all aS then .tup (bT Γ es) else .bad);split
  ·exact aAz xo (xB ih xo _ (bP (by simp;omega) hsz) ‹_›)
  ·exact aM
 |List es p =>
  show Ok3 X K P C _ (if es.all aS then .lst (bT Γ es) else .bad);split
  ·exact MB xo (xB ih xo _ (bP (by simp;omega) hsz) ‹_›)
  ·exact aM
 |Dict ks vs p =>
  refine RF xo (λk c h1 h2=>?_) λv c h1 h2=>?_
  ·subst h1;cases h2;exact MV (ih _ _ xo k (bP (by simp;omega) hsz))
  ·subst h1;cases h2;exact ih _ _ xo v (bP (by simp;omega) hsz)
 |BinOp a op b p =>
  exact aCw xo (ih _ _ xo _ (bP (by simp;omega) hsz)) (ih _ _ xo _ (bP (by simp;omega) hsz))
 |UnaryOp op a p =>
  cases op with
  |Not =>
   exact aC6 xo (ih _ _ xo _ (bP (by simp;omega) hsz))
  |USub =>
   exact aBH xo (ih _ _ xo _ (bP (by simp;omega) hsz))
  |_=>exact aM
 |Compare a ops cs p =>
  obtain _ | ⟨op,_ | ⟨op',_ | ⟨_,_⟩⟩⟩:=ops
  ·exact aM
  ·obtain _ | ⟨b,_ | ⟨_,_⟩⟩:=cs
   ·exact aM
   ·show Ok3 X K P C _ (if behindInMarks op b then .bad else .cmp op (cE Γ a) (cE Γ b));split
    ·exact aM
    ·exact aCk xo (ih _ _ xo _ (bP (by simp;omega) hsz)) (ih _ _ xo _ (bP (by simp;omega) hsz)) (by rename_i h;simpa using h)
   ·exact aM
  ·obtain _ | ⟨b,_ | ⟨c,_ | ⟨_,_⟩⟩⟩:=cs
   ·exact aM
   ·exact aM
   ·show Ok3 X K P C _ (if behindInMarks op' c then .bad else .cmp2 op op' (cE Γ a) (cE Γ b) (cE Γ c));split
    ·exact aM
    ·exact X2 xo (ih _ _ xo _ (bP (by simp;omega) hsz)) (ih _ _ xo _ (bP (by simp;omega) hsz)) (ih _ _ xo _ (bP (by simp;omega) hsz)) (by rename_i h;simpa using h)
   ·exact aM
  ·exact aM
 |BoolOp op vs p =>
  obtain _ | ⟨a,_ | ⟨b,r⟩⟩:=vs
  ·cases op<;>exact aM
  ·cases op<;>exact aM
  ·cases op with
   |And =>
    exact(F4 (ih _ _ xo _ (bP (by simp;omega) hsz)) (TR ih xo _ (bP (by simp;omega) hsz) (by simp))).ok3 λi z=>nomatch z
   |Or =>
    exact(LF (ih _ _ xo _ (bP (by simp;omega) hsz)) (aBT ih xo _ (bP (by simp;omega) hsz) (by simp))).ok3 λi z=>nomatch z
 |IfExp c a b p =>
  exact aM
 |Subscript a i p =>
  rcases TH Γ a i p with ⟨lo,hi,q,rfl⟩ | ⟨hn,e⟩
  ·exact aE1 xo (ih _ _ xo _ (bP (by simp;omega) hsz)) (o_n ih xo _ (bP (by simp;omega) hsz)) (o_n ih xo _ (bP (by simp;omega) hsz))
  ·rw[e];split
   ·rename_i hr;obtain⟨k,p1,p2,p3,rfl⟩:=LO hr;exact aM
   ·exact aEY xo (ih _ _ xo _ (bP (by simp;omega) hsz)) (ih _ _ xo _ (bP (by simp;omega) hsz)) (J9 hn)
 |Call fn args kw pos =>
  cases fn with
  |Name f p =>
   cases kw with
   |nil =>
    show Ok3 X K P C _ (if args.all aS&&decide (args≠[]) then(match Γ.glob f with | .fn g=>.call g (bT Γ args) | .cls ns=>.make f ns (bT Γ args) | .blt=>if f=("isinstance":Str) then wF Γ args (bT Γ args) else wB f args (bT Γ args) | _=>.bad) else .bad);split
    ·rename_i hc;rw[ZB] at hc;obtain⟨ns,ne⟩:=hc
     cases args with
     |nil=>simp at ne
     |cons a r =>
      split
      ·rename_i g hg;exact WQ xo hg ns (mL ih xo _ (bP (by simp;omega) hsz) ns)
      ·rename_i g hg;exact YQ xo hg ns (xB ih xo _ (bP (by simp;omega) hsz) ns)
      ·rename_i hg;split
       ·rename_i hf;subst hf;unfold wF;split
        ·rename_i t a' _ e1 e2;split
         ·rename_i ty hty;simp only[bT,List.cons.injEq] at e1 e2;obtain⟨rfl,rfl⟩:=e1;obtain⟨rfl,_⟩:=e2;rw[Zj,ZB] at ns;exact KW xo hg hty ns.1 (ih _ _ xo _ (bP (by simp;omega) hsz))
         ·simp only[bT,List.cons.injEq] at e1 e2;obtain⟨rfl,rfl⟩:=e1;obtain⟨rfl,_⟩:=e2;rw[Zj,ZB] at ns;exact M9 xo hg ns.1 (ih _ _ xo _ (bP (by simp;omega) hsz))
        ·exact aM
       ·unfold wB;split
        ·rename_i hf2;subst hf2;exact DJ xo hg (b:=.len) rfl ns (mL ih xo _ (bP (by simp;omega) hsz) ns)
        ·split
         ·exact aM
         ·split
          ·exact aM
          ·split
           ·rename_i hf2;subst hf2;exact DJ xo hg (b:=.list) rfl ns (mL ih xo _ (bP (by simp;omega) hsz) ns)
           ·split
            ·rename_i b hb;exact DJ xo hg hb ns (mL ih xo _ (bP (by simp;omega) hsz) ns)
            ·exact aM
      ·exact aM
    ·exact aM
   |cons _ _=>exact aM
  |Attribute o m apos =>
   cases o with
   |Name x p =>
    cases kw with
    |nil =>
     show Ok3 X K P C _ (DD Γ x m apos pos args (bT Γ args));unfold DD;split
     ·rename_i tb hm;split
      ·rename_i hc;rw[ZB,ZB] at hc;obtain⟨⟨ns,hl⟩,hf⟩:=hc;split
       ·exact X7 xo ‹_› hm ns hl (of_decide_eq_true hf) (mL ih xo _ (bP (by simp;omega) hsz) ns) λz=>by rw[z,bT]
       ·exact aM
      ·exact aM
     ·split
      ·rename_i a c hcs;split
       ·rename_i hc;rw[ZB,ZB] at hc;obtain⟨⟨ns,hl⟩,hm⟩:=hc;have hm:=Zy hm;subst hm;split
        ·simp only[bT,List.cons.injEq] at hcs;obtain⟨rfl,_⟩:=hcs;exact aAi xo ‹_› hl ns (ih _ _ xo _ (bP (by simp;omega) hsz))
        ·exact aM
       ·split
        ·rename_i hc;rw[ZB,ZB] at hc;obtain⟨⟨ns,hl⟩,hm⟩:=hc;have hm:=Zy hm;subst hm;exact aM
        ·split
         ·rename_i hc;rw[ZB,ZB] at hc;obtain⟨⟨ns,hl⟩,hm⟩:=hc;have hm:=Zy hm;subst hm;exact aM
         ·exact aM
      ·split
       ·rename_i hc;rw[ZB] at hc;obtain⟨hl,hm⟩:=hc;have hm:=Zy hm;subst hm;exact aM
       ·exact aM
      ·rename_i a b c c' hcs;split
       ·rename_i hc;rw[ZB,ZB,ZB] at hc;obtain⟨⟨⟨ns,ns2⟩,hl⟩,hm⟩:=hc;have hm:=Zy hm;subst hm;split
        ·simp only[bT,List.cons.injEq] at hcs;obtain⟨rfl,rfl,_⟩:=hcs;exact aM
        ·exact aM
       ·exact aM
      ·exact aM
    |cons _ _=>exact aM
   |Call g as kw2 p2 =>
    cases as with
    |nil=>exact aM
    |cons a0 as0 =>
     cases kw with
     |nil =>
      show Ok3 X K P C _ (x9 Γ m apos pos args (cE Γ (.Call g (a0::as0) kw2 p2)) (bT Γ args));unfold x9;split
      ·rename_i tb hm;split
       ·rename_i hc;rw[ZB,ZB] at hc;exact aM
       ·exact aM
      ·exact aM
     |cons _ _=>exact aM
   |_=>exact aM
  |_=>exact aM
 |Attribute o f p =>
  cases o with
  |Name x q =>
   exact ZH xo
  |_=>exact aM
 |ListComp elt gs scope pos =>
  obtain _ | ⟨⟨tg,iter,ifs,m⟩,_ | ⟨_,_⟩⟩:=gs
  ·exact aM
  ·obtain _ | ⟨c,_ | ⟨_,_⟩⟩:=ifs<;>obtain(_ | _) | _:=m
   ·exact(mO xo (ih _ _ xo _ (bP (by simp;omega) hsz)) (CZ ih xo _ (bP (by simp;omega) hsz)) (λX' xo'=>ih _ _ xo' _ (bP (by simp;omega) hsz)) (λX' xo'=>EK)).1
   ·exact aM
   ·exact aM
   ·exact(mO xo (ih _ _ xo _ (bP (by simp;omega) hsz)) (CZ ih xo _ (bP (by simp;omega) hsz)) (λX' xo'=>ih _ _ xo' _ (bP (by simp;omega) hsz)) (λX' xo'=>DL (ih _ _ xo' _ (bP (by simp;omega) hsz)))).1
   all_goals exact aM
  ·obtain _ | ⟨c,_ | ⟨_,_⟩⟩:=ifs<;>obtain(_ | _) | _:=m<;>exact aM
 |_=>exact aM
theorem n4{K:Frag}{P:aE}{C:Calls}:∀n:Nat,AO K P C n
 | 0=>λ_ _ _ _ h=>absurd h (Nat.not_lt_zero _)
 |n+1=>λ_ _ xo e h=>X4 (n4 n) xo e h
section
variable{X:Cx}{K:Frag}{P:aE}{C:Calls}{Γ:CC}
theorem eS(xo:bD X K P C Γ)(e:Expr):Ok3 X K P C e (cE Γ e):=n4 _ _ _ xo e (Nat.lt_succ_self _)
theorem CH(xo:bD X K P C Γ)(e:Expr):ArgsOk X K P C e (mF Γ e):=CZ (n4 _) xo e (Nat.lt_succ_self _)
theorem YN(xo:bD X K P C Γ)(es:List Expr)(h:es.all aS=true):PA X es (xQ K P C (bT Γ es)):=xB (n4 _) xo es (Nat.lt_succ_self _) h
theorem n8(xo:bD X K P C Γ)(es:List Expr)(h:es.all aS=true):PA X es (mP K P C (bT Γ es)):=mL (n4 _) xo es (Nat.lt_succ_self _) h
end
theorem aBJ{X:Cx}{K:Frag}{P:aE}{C:Calls}{Γ:CC}(xo:bD X K P C Γ)(e:Expr)(h:C1 e=true):F5 X K P C e (cE Γ e):=by
 cases e<;>simp only[C1,Bool.false_eq_true] at h;rename_i elt gs scope pos;obtain _ | ⟨⟨tg,iter,ifs,n⟩,_ | ⟨_,_⟩⟩:=gs
 ·exact kT
 ·obtain _ | ⟨c,_ | ⟨_,_⟩⟩:=ifs<;>obtain(_ | _) | _:=n
  ·exact(mO xo (eS xo iter) (CH xo iter) (λX' xo'=>eS xo' elt) (λX' xo'=>EK)).2.1
  ·exact kT
  ·exact kT
  ·exact(mO xo (eS xo iter) (CH xo iter) (λX' xo'=>eS xo' elt) (λX' xo'=>DL (eS xo' c))).2.1
  all_goals exact kT
 ·obtain _ | ⟨c,_ | ⟨_,_⟩⟩:=ifs<;>obtain(_ | _) | _:=n<;>exact kT
section
variable{X:Cx}{K:Frag}{P:aE}{C:Calls}{W:Nat}{Γ:CC}
def DF(X:Cx)(K:Frag)(ρ:Env)(σ:St)(H G:Hp)(ρ':Env)(x:Exc):Prop:=∀pins σ' H' G' s' a Ca,AftS K ρ σ H G ρ' σ' H' G'->Inv X pins σ' H' s'->sM X pins H' s'.heap a Ca->nsIn K mainGlobals x.cls=some (some (.ref Ca))->ExcG K Ca->X.xe (.ref a) s'
theorem DF.pre{ρ ρ1 ρ':Env}{σ σ1:St}{H G H1 G1:Hp}{x:Exc}(a:AftS K ρ σ H G ρ1 σ1 H1 G1)(h:DF X K ρ σ H G ρ' x):DF X K ρ1 σ1 H1 G1 ρ' x:=λpins σ' H' G' s' b Ca q=>h pins σ' H' G' s' b Ca (a.trans q)
noncomputable def tEX(X:Cx)(K:Frag)(P:aE)(C:Calls)(c:E):TE:=λσ H _=>∃ρ G x ρ',Rel K ρ σ H G/\rD P C c ρ=some (x,ρ')/\DF X K ρ σ H G ρ' x
noncomputable def aF3(X:Cx)(K:Frag)(P:aE)(C:Calls)(cs:List E):TA:=λσ H _=>∃ρ G x ρ',Rel K ρ σ H G/\o6 P C cs ρ=some (x,ρ')/\DF X K ρ σ H G ρ' x
noncomputable def oH(X:Cx)(K:Frag)(P:aE)(C:Calls)(W:Nat)(c:S):TS:=λ_ σ H=>∃ρ G x ρ',Rel K ρ σ H G/\fY P C W c ρ=some (x,ρ')/\DF X K ρ σ H G ρ' x
noncomputable def QW(X:Cx)(K:Frag)(P:aE)(C:Calls)(W:Nat)(c:List S):TS:=λ_ σ H=>∃ρ G x ρ',Rel K ρ σ H G/\dO P C W c ρ=some (x,ρ')/\DF X K ρ σ H G ρ' x
theorem aAl{b:List Stmt}{t u:TS}(h1:dR X b t)(h2:dR X b u):dR X b (λD σ H=>t D σ H\/u D σ H):=λpins s σ H D I q=>q.elim (h1 pins s σ H D I) (h2 pins s σ H D I)
theorem YL(po:PassesOwn (model X.prog X.w) X.A X.env X.xe){c:Expr}{body:List Stmt}{cc:E}{cb:List S}{pos:Pos}(hc:Ok3 X K P C c cc)(hb:dR X body (kF K P C W cb))(hx:dR X body (QW X K P C W cb)):PS X (.While c body [] pos) (oH X K P C W (.whl cc cb)):=by
 refine TS.imp_ps (CN po hc.t (aAl hb hx)) λD σ H ⟨ρ,G,x,ρ',r,e,k⟩=>?_
 refine⟨λm σ1 H1=>∃ρ1 G1,AftS K ρ σ H G ρ1 σ1 H1 G1/\iB (ev P C true cc) (exs P C W cb) (dO P C W cb) m ρ1=some (x,ρ'),⟨W,ρ,G,AftS.refl r,e⟩,λm σ1 H1 ⟨ρ1,G1,a1,e1⟩=>?_⟩
 cases m with
 |zero=>cases e1
 |succ m =>
  unfold iB at e1;split at e1
  ·rename_i ρ2 q1;refine⟨ρ1,G1,true,ρ2,a1.rel,q1,λH2 G2 a2=>wA ?_⟩;have a12:=a1.trans (Aft.s a1.rel a2);refine⟨λσ3 H3=>∃ρ3 G3,AftS K ρ σ H G ρ3 σ3 H3 G3/\iB (ev P C true cc) (exs P C W cb) (dO P C W cb) m ρ3=some (x,ρ'),λσ3 H3 ⟨ρ3,G3,a3,e4⟩=>⟨m,Nat.lt_succ_self m,ρ3,G3,a3,e4⟩, ?_⟩;split at e1
   ·rename_i ρ3 q;exact .inl ⟨ρ2,G2,.nx,ρ3,a2.rel,q,λσ3 H3 G3 a3=>⟨ρ3,G3,a12.trans a3,e1⟩⟩
   ·rename_i ρ3 q;exact .inl ⟨ρ2,G2,.ct,ρ3,a2.rel,q,λσ3 H3 G3 a3=>⟨ρ3,G3,a12.trans a3,e1⟩⟩
   ·exact .inr ⟨ρ2,G2,x,ρ',a2.rel,e1,k.pre a12⟩
  ·cases e1
theorem J4{e:Expr}{t u:TE}(h1:PE X e t)(h2:PE X e u):PE X e (λσ H Q=>t σ H Q\/u σ H Q):=λpins s σ H Q I q=>q.elim (h1 pins s σ H Q I) (h2 pins s σ H Q I)
theorem aEL{st:Stmt}{t u:TS}(h1:PS X st t)(h2:PS X st u):PS X st (λD σ H=>t D σ H\/u D σ H):=λpins s σ H D I q=>q.elim (h1 pins s σ H D I) (h2 pins s σ H D I)
end
section
variable{X:Cx}{pins:List (Addr×Obj)}{σ:L2.St}{H:Hp}{s:Shared}
end
section
variable{K:Frag}{ρ0 ρ:Env}{σ:St}{H0 G0 H G:Hp}
end
section
variable{X:Cx}{K:Frag}{P:aE}{C:Calls}{Γ:CC}
def aFZ(X:Cx)(K:Frag)(P:aE)(C:Calls)(e:Expr)(c:E):Prop:=∀(W:Nat) (x:Str) (i:Nat) (p pos:Pos),X.N.Nodup->X.N[i]?=some x->rZ X.env.scope x->(X.fn x=true\/X.env.scope.names.lookup x=some .local) ->
 PS X (.Assign [.Name x p] e pos) (oH X K P C W (.asg i c))
end
section
variable{X:Cx}{K:Frag}{P:aE}{C:Calls}{W:Nat}{Γ:CC}
def eH:E->Bool
 |.call _ _=>true
 |_=>false
theorem X5{x:Str}:eH (jR Γ x)=false:=by unfold jR;split;rfl;split<;>rfl
theorem N9{c:Const}:eH (xP c)=false:=by
 cases c<;>first | rfl | (show eH (if _ then _ else _)=false;split<;>rfl)
theorem US{ks:List (Option Expr)}{vs:List Expr}{cs es:List E}:eH (xH ks vs cs es)=false:=by unfold xH;(repeat' split)<;>rfl
theorem aAA{x m:Str}{p q:Pos}{a:Expr}:eH (aC8 Γ x m p q a)=false:=by
 rfl
theorem aA3{x m:Str}{p q:Pos}{as:List Expr}{cs:List E}:eH (DD Γ x m p q as cs)=false:=by unfold DD;repeat' split<;>first | rfl | exact aAA | skip
theorem XD{m:Str}{p q:Pos}{as:List Expr}{a:E}{cs:List E}:eH (x9 Γ m p q as a cs)=false:=by unfold x9;repeat' split<;>try rfl
theorem aCy{t:Expr}{a:E}:eH (zJ Γ t a)=false:=by unfold zJ;repeat' split<;>try rfl
theorem aAK{as:List Expr}{cs:List E}:eH (wF Γ as cs)=false:=by
 unfold wF;split
 ·split
  ·rfl
  ·exact aCy
 ·rfl
theorem aAO{as:List Expr}{cs:List E}:eH (QY as cs)=false:=by unfold QY;first | rfl | (repeat' split<;>try rfl)
theorem UK{as:List Expr}{cs:List E}:eH (IA as cs)=false:=by unfold IA;first | rfl | (repeat' split<;>try rfl)
theorem aAq{f:Str}{as:List Expr}{cs:List E}:eH (wB f as cs)=false:=by
 unfold wB ZW;split
 ·exact aAO
 ·split
  ·(repeat' split)<;>rfl
  ·split
   ·rfl
   ·split
    ·exact UK
    ·split<;>rfl
theorem nX{b:Prop}[Decidable b]{a c:E}(h1:eH a=false)(h2:eH c=false):eH (if b then a else c)=false:=by split<;>assumption
def eZ(Γ:CC)(e:Expr):Prop:=(∃f p a r pos g,e=.Call (.Name f p) (a::r) [] pos/\Γ.glob f=.fn g/\(a::r).all aS=true/\cE Γ e=.call g (bT Γ (a::r)))\/∃elt tg iter ifs sc pos,e=.ListComp elt [⟨tg,iter,ifs,0⟩] sc pos/\(ifs=[]\/∃c1,ifs=[c1])
theorem K2{e:Expr}(h:eH (cE Γ e)=true):eZ Γ e:=by
 cases e with
 |Name x p=>exact dP ((X5 (x:=x)).symm.trans h)
 |Constant c _ _=>exact dP ((N9 (c:=c)).symm.trans h)
 |Tuple es _ _=>exact dP ((nX (b:=es.all aS=true) (a:=.tup (bT Γ es)) (c:=.bad) rfl rfl).symm.trans h)
 |List es _=>exact dP ((nX (b:=es.all aS=true) (a:=.lst (bT Γ es)) (c:=.bad) rfl rfl).symm.trans h)
 |Dict ks vs _=>exact dP ((US (ks:=ks) (vs:=vs) (cs:=cOs Γ ks) (es:=bT Γ vs)).symm.trans h)
 |BinOp a op b _=>exact dP h
 |UnaryOp op a _=>cases op<;>exact dP h
 |Compare a ops bs _ =>
  obtain _ | ⟨o1,_ | ⟨o2,_ | ⟨o3,_⟩⟩⟩:=ops<;>obtain _ | ⟨b1,_ | ⟨b2,_ | ⟨b3,_⟩⟩⟩:=bs<;>first
   |exact dP h
   |exact dP ((nX (b:=behindInMarks o1 b1=true) (a:=.bad) (c:=.cmp o1 (cE Γ a) (cE Γ b1)) rfl rfl).symm.trans h)
   |exact dP ((nX (b:=behindInMarks o2 b2=true) (a:=.bad) (c:=.cmp2 o1 o2 (cE Γ a) (cE Γ b1) (cE Γ b2)) rfl rfl).symm.trans h)
 |BoolOp op es _ =>
  cases op<;>obtain _ | ⟨a,_ | ⟨b,r⟩⟩:=es<;>exact dP h
 |IfExp c a b _=>exact dP h
 |Subscript a i _ =>
  rcases TH Γ a i ‹Pos› with ⟨lo,hi,q,rfl⟩ | ⟨_,z⟩
  ·exact dP h
  ·rw[z] at h;exact dP ((nX rfl rfl).symm.trans h)
 |Attribute o f _=>cases o<;>exact dP h
 |ListComp elt gens sc _ =>
  obtain _ | ⟨⟨tg,it,ifs,n⟩,_ | ⟨_,_⟩⟩:=gens
  ·exact dP h
  ·obtain _ | ⟨c1,_ | ⟨_,_⟩⟩:=ifs<;>obtain(_ | _) | _:=n<;>first
    |exact Or.inr ⟨elt,tg,it,[],sc,_,rfl,.inl rfl⟩
    |exact Or.inr ⟨elt,tg,it,[c1],sc,_,rfl,.inr ⟨c1,rfl⟩⟩
    |exact dP h
  ·obtain _ | ⟨c1,_ | ⟨_,_⟩⟩:=ifs<;>obtain(_ | _) | _:=n<;>exact dP h
 |Call fn args kw pos =>
  cases fn with
  |Name f p =>
   cases kw with
   |nil =>
    change eH (if args.all aS&&decide (args≠[]) then(match Γ.glob f with | .fn g=>.call g (bT Γ args) | .cls ns=>.make f ns (bT Γ args) | .blt=>if f=("isinstance":Str) then wF Γ args (bT Γ args) else wB f args (bT Γ args) | _=>.bad) else .bad)=true at h;split at h
    ·rename_i hc;split at h
     ·rename_i g hg;rw[ZB] at hc
      cases args with
      |nil=>simp at hc
      |cons a r =>
       refine Or.inl ⟨f,p,a,r,pos,g,rfl,hg,hc.1, ?_⟩;show(if(a::r).all aS&&decide ((a::r)≠[]) then(match Γ.glob f with | .fn g=>E.call g (bT Γ (a::r)) | .cls ns=>E.make f ns (bT Γ (a::r)) | .blt=>if f=("isinstance":Str) then wF Γ (a::r) (bT Γ (a::r)) else wB f (a::r) (bT Γ (a::r)) | _=>.bad) else .bad)=_;rw[Zo (by rw[hc.1];simp),hg]
     ·cases h
     ·rw[nX aAK aAq] at h;cases h
     ·cases h
    ·cases h
   |cons _ _=>exact dP h
  |Attribute o m apos =>
   cases kw with
   |nil =>
    cases o with
    |Name x p=>exact dP ((aA3 (x:=x) (m:=m) (p:=apos) (q:=pos) (as:=args) (cs:=bT Γ args)).symm.trans h)
    |Call g as0 kw0 p0 =>
     cases as0 with
     |nil=>exact dP h
     |cons a0 r0=>exact dP ((XD (m:=m) (p:=apos) (q:=pos) (as:=args) (a:=cE Γ (.Call g (a0::r0) kw0 p0)) (cs:=bT Γ args)).symm.trans h)
    |_=>exact dP h
   |cons _ _ =>
    cases o with
    |Call g as0 kw0 p0=>cases as0<;>exact dP h
    |_=>exact dP h
  |_=>exact dP h
 |_=>exact dP h
theorem EO{e:Expr}(h:eH (cE Γ e)=true):(∃f p a r pos g,e=.Call (.Name f p) (a::r) [] pos/\Γ.glob f=.fn g/\(a::r).all aS=true/\cE Γ e=.call g (bT Γ (a::r)))\/∃elt tg iter ifs sc pos,e=.ListComp elt [⟨tg,iter,ifs,0⟩] sc pos/\(ifs=[]\/∃c1,ifs=[c1]):=K2 h
theorem i9{c:E}{ρ ρ':Env}{x:Exc}(h:rD P C c ρ=some (x,ρ')):eH c=true:=by
 cases c<;>first | rfl | (simp[rD] at h)
theorem tZ{sc:Scope}{tg it:Expr}{ci:E}{as cs:List E}{ce:E}(h:eH (gR Γ sc tg it ci as cs ce)=true):False:=by
 unfold gR at h
 (repeat' split at h)<;>cases h
def IhX(K:Frag)(P:aE)(C:Calls)(n:Nat):Prop:=∀(X:Cx) (Γ:CC),bD X K P C Γ->∀e:Expr,sizeOf e<n->PE X e (tEX X K P C (cE Γ e))
theorem SV{X:Cx}{Γ:CC}{n:Nat}(ih:IhX K P C n)(xo:bD X K P C Γ):∀es:List Expr,sizeOf es<n->es.all aS=true->PA X es (aF3 X K P C (bT Γ es))
 |[],_,_=>by
  intro pos pins s σ H Q I ⟨ρ,G,x,ρ',r,e0,k⟩;simp only[bT,o6] at e0;cases e0
 |e::es,hs,ns=>by
  have ns':=ns;rw[Zj,ZB] at ns';refine TA.imp_pa (fK (J4 (eS xo e).h (ih _ _ xo e (pH hs))) (SV ih xo es (wM hs) ns'.2) (bE ns'.1 _ _)) λσ H Q ⟨ρ,G,x,ρ',r,e0,k⟩=>?_
  simp only[bT,o6] at e0;split at e0
  ·rename_i v ρ1 q1;exact .inl ⟨ρ,G,v,ρ1,r,q1,λy H1 G1 a1 _=>⟨ρ1,G1,x,ρ',a1.rel,e0,k.pre (Aft.s r a1)⟩⟩
  ·exact .inr ⟨ρ,G,x,ρ',r,e0,k⟩
theorem OP{X:Cx}{Γ:CC}{n:Nat}(ih:IhX K P C n)(xo:bD X K P C Γ)(e:Expr)(hsz:sizeOf e<n+1):PE X e (tEX X K P C (cE Γ e)):=by
 intro pins s σ H Q I ⟨ρ,G,x,ρ',r,e0,k⟩;rcases EO (i9 e0) with ⟨f,p,a,dU,pos,g,rfl,hf,ns,hc⟩ | ⟨elt,tg,iter,ifs,sc,pos,rfl,rfl | ⟨c1,rfl⟩⟩
 case inr.inl=>exact(tZ (show eH (gR Γ sc tg iter (cE Γ iter) (mF Γ iter) [] (cE (Γ.inner sc) elt))=true from i9 e0)).elim
 case inr.inr=>exact(tZ (show eH (gR Γ sc tg iter (cE Γ iter) (mF Γ iter) [cE (Γ.inner sc) c1] (cE (Γ.inner sc) elt))=true from i9 e0)).elim
 rw[hc] at e0;obtain⟨h1,h2,h3,h4⟩:=CC.glob_ok xo hf (λz=>nomatch z);obtain⟨fa,fd,ps,k0,F,hr,hm,hk,hb⟩:=(xo.fnX f g h2).ex;have ns':=ns;rw[Zj,ZB] at ns';simp only[rD] at e0
 have argsX:o6 P C (bT Γ (a::dU)) ρ=some (x,ρ')->wpAny (model X.prog X.w) X.A (eval (.Call (.Name f p) (a::dU) [] pos) X.env) (EP X pins σ Q) X.xe s:=λz =>
  DQ F hr h1 hm hk hb (SV ih xo (a::dU) (bP (by simp;omega) hsz) ns) h3 (bE ns'.1 _ _) (eQ ns'.2 _ _).1 pins s σ H Q I ⟨ρ,G,x,ρ',r,z,k⟩
 split at e0
 ·rename_i hs ρ1 q1;split at e0
  ·rename_i x' ρ2 q2;cases e0;refine DQ F hr h1 hm hk hb (n8 xo (a::dU) ns) h3 (bE ns'.1 _ _) (eQ ns'.2 _ _).1 pins s σ H Q I ⟨ρ,G,hs,ρ1,r,q1,λxs H1 G1 a1 rx=>?_⟩;obtain⟨as,G2,as',d1,d2,d3,d4⟩:=NG a1 rx q2;refine⟨λv _ H'=>∃Ca G',v=.ref Ca/\Aft K ρ σ H G ρ' H' G'/\nsIn K mainGlobals x.cls=some (some (.ref Ca))/\ExcG K Ca,⟨?_,as,G2,x,as',d1,d2,d3,λH' G' Ca b hn hg=>⟨Ca,G',rfl,d4 H' G' b,hn,hg⟩⟩,λpins' b Cb H' s' I' F' ⟨Ca,G',z,b1,b2,b3⟩=>?_⟩
   ·have:=d1.len
    rw[List.length_map] at this;omega
   ·cases z;exact k pins' σ H' G' s' b Cb (Aft.s r b1) I' F' b2 b3
  ·cases e0
 ·exact argsX e0
theorem FI:∀n:Nat,IhX K P C n
 | 0=>λ_ _ _ _ h=>absurd h (Nat.not_lt_zero _)
 |n+1=>λ_ _ xo e h=>OP (FI n) xo e h
theorem BU{X:Cx}{Γ:CC}(xo:bD X K P C Γ)(e:Expr):PE X e (tEX X K P C (cE Γ e)):=FI _ _ _ xo e (Nat.lt_succ_self _)
theorem aBK(xo:bD X K P C Γ){elt tg iter:Expr}{ifs:List Expr}{sc:Scope}{pos:Pos}(h:ifs=[]\/∃c1,ifs=[c1]):aFZ X K P C (.ListComp elt [⟨tg,iter,ifs,0⟩] sc pos) (cE Γ (.ListComp elt [⟨tg,iter,ifs,0⟩] sc pos)):=by
 intro W x i p pos _ _ _ _ pins s σ H D I ⟨ρ,G,x0,ρ',r,e0,k⟩;rcases h with rfl | ⟨c1,rfl⟩
 ·exact(tZ (show eH (gR Γ sc tg iter (cE Γ iter) (mF Γ iter) [] (cE (Γ.inner sc) elt))=true from i9 (P:=P) (C:=C) e0)).elim
 ·exact(tZ (show eH (gR Γ sc tg iter (cE Γ iter) (mF Γ iter) [cE (Γ.inner sc) c1] (cE (Γ.inner sc) elt))=true from i9 (P:=P) (C:=C) e0)).elim
end
section
variable{X:Cx}{K:Frag}{P:aE}{C:Calls}{W:Nat}{Γ:CC}{pins pins':List (Addr×Obj)}{σ:St}{H G:Hp}{s:Shared}
abbrev Cx.re(X:Cx)(E:Value->Shared->Prop)(pn:List (Addr×Obj)):Cx:={ X with xe:=E,pn:=pn }
abbrev Cx.ma(X:Cx)(v:Value):Cx:={ X with A:=X.A.mark (some v),calm:=false,xe:=λ_ _=>False }
theorem aDn{E:Value->Shared->Prop}{pn:List (Addr×Obj)}(o:X.Ok):(Cx.re X E pn).Ok :=
 ⟨o.mod,o.kind,o.glob,o.blt,o.above,o.inj,o.has,o.cab,o.hd,o.frames,o.stk,o.exf,o.bs,o.bsz,o.noex,o.exfs,o.funs,o.frf⟩
theorem aEp{E:Value->Shared->Prop}{pn:List (Addr×Obj)}(o:(Cx.re X E pn).Ok):X.Ok :=
 ⟨o.mod,o.kind,o.glob,o.blt,o.above,o.inj,o.has,o.cab,o.hd,o.frames,o.stk,o.exf,o.bs,o.bsz,o.noex,o.exfs,o.funs,o.frf⟩
theorem aDC{v:Value}(o:X.Ok):(Cx.ma X v).Ok :=
 ⟨o.mod,o.kind,o.glob,o.blt,o.above,o.inj,o.has,o.cab,(λz=>nomatch z),o.frames,o.stk,o.exf,o.bs,o.bsz,o.noex,o.exfs,o.funs,o.frf⟩
theorem NC{E:Value->Shared->Prop}(I:Inv X pins σ H s):Inv (Cx.re X E (X.pn++pins)) [] σ H s :=
 ⟨aDn I.ok,I.os,I.bare,I.base,I.loc,I.cell,I.free,I.freeC,λp hp=>I.pin p (by simpa using hp),I.hok,I.len⟩
theorem xD{E:Value->Shared->Prop}(I:Inv (Cx.re X E (X.pn++pins)) pins' σ H s):Inv X pins σ H s :=
 ⟨aEp I.ok,I.os,I.bare,I.base,I.loc,I.cell,I.free,I.freeC,λp hp=>I.pin p (List.mem_append_left _ hp),I.hok,I.len⟩
theorem DI{v:Value}(I:Inv X pins σ H s):Inv (Cx.ma X v) pins σ H s :=
 ⟨aDC I.ok,I.os,I.bare,I.base,I.loc,I.cell,I.free,I.freeC,I.pin,I.hok,I.len⟩
theorem aCs{E:Value->Shared->Prop}{v:Value}(o:X.Ok)(I:Inv (Cx.ma (Cx.re X E (X.pn++pins)) v) pins' σ H s):Inv X pins σ H s :=
 ⟨o,I.os,I.bare,I.base,I.loc,I.cell,I.free,I.freeC,λp hp=>I.pin p (List.mem_append_left _ hp),I.hok,I.len⟩
theorem bD.re{E:Value->Shared->Prop}{pn:List (Addr×Obj)}(xo:bD X K P C Γ):bD (Cx.re X E pn) K P C Γ :=
 bD.of xo.keq xo.neq xo.nm xo.nd xo.calm xo.hh xo.hu xo.con xo.blt (λx f h=>⟨(xo.fn x f h).ex⟩) (λx ns h=>⟨(xo.cls x ns h).ex⟩) (λm tb c f h1 h2=>⟨(xo.mth m tb c f h1 h2).ex⟩) xo.rm xo.sub xo.subx xo.exc xo.exs (λx f h=>⟨(xo.fnX x f h).ex⟩) xo.tp
theorem NW{ρ:Env}{i:Nat}{d:D}(r:Rel K ρ σ H G)(h:ρ[i]?=some (.sh d)):AftS K ρ σ H G (ρ.set i .mv) (σ.set i none) H G:=by
 have oth:∀{j:Nat} {sl:Sl},(ρ.set i .mv)[j]?=some sl->(j=i/\sl=.mv)\/(j≠i/\ρ[j]?=some sl/\(σ.set i none)[j]?=σ[j]?):=λ{j sl} q=>by
  rcases cL q with ⟨h1,h2,_⟩ | ⟨h1,h2⟩
  ·exact .inl ⟨h1,h2⟩
  ·exact .inr ⟨h1,h2,Zf (λz=>h1 z.symm)⟩
 refine⟨⟨by rw[zg,zg];exact r.len,r.sub,λj d' q=>?_,λj d' p l q=>?_,λj k d1 p1 l1 d2 p2 l2 a q1 q2 q3 q4=>?_⟩,Ext.refl,λa ⟨j,d',p,l,q1,q2⟩=>?_,λj q=>?_,λj d' l q=>?_,by rw[zg]⟩
 ·rcases oth q with ⟨_,z⟩ | ⟨_,z,z2⟩
  ·cases z
  ·rw[z2];exact r.sh j d' z
 ·rcases oth q with ⟨_,z⟩ | ⟨_,z,z2⟩
  ·cases z
  ·rw[z2];exact r.ow j d' p l z
 ·rcases oth q1 with ⟨_,z⟩ | ⟨_,z,z2⟩
  ·cases z
  ·rcases oth q2 with ⟨_,w⟩ | ⟨_,w,w2⟩
   ·cases w
   ·rw[z2] at q3;rw[w2] at q4;exact r.inj _ _ _ _ _ _ _ _ _ z w q3 q4
 ·rcases oth q1 with ⟨_,z⟩ | ⟨_,z,z2⟩
  ·cases z
  ·rw[z2] at q2;exact .inl ⟨j,d',p,l,z,q2⟩
 ·rcases oth q with ⟨_,z⟩ | ⟨_,z,z2⟩
  ·cases z
  ·exact⟨z,z2⟩
 ·have hj:j≠i:=λz=>by rw[z,h] at q;cases q
  exact⟨Zf (λz=>hj z.symm),d',by rw[Zf (λz=>hj z.symm)];exact q⟩
theorem P5{body o f:List Stmt}{hs:List ExceptHandler}{cb:List S}{pos:Pos}
  (hb:∀E pn,PassesOwn (model X.prog X.w) X.A X.env E->dR (Cx.re X E pn) body (kF K P C W cb)):PS X (.Try body hs o f pos) (tS K P C W (JJ cb hs o f)):=bK
theorem bD.ma{E:Value->Shared->Prop}{pn:List (Addr×Obj)}{v:Value}(xo:bD X K P C Γ):XOkB false (Cx.ma (Cx.re X E pn) v) K P C Γ:=⟨xo.keq,xo.neq,xo.nm,xo.nd,xo.con,xo.blt,xo.sub,xo.subx,λz=>nomatch z⟩
theorem xZ{qq:Bool}(xo:XOkB qq X K P C Γ){e:Expr}{c:E}(h:JH Γ e=some c):Ok3 X K P C e c/\aS e=true/\bV e=true:=by
 unfold JH at h;split at h
 ·cases h;exact⟨nZ xo _ _,rfl,rfl⟩
 ·split at h
  ·rename_i hf;subst hf;split at h
   ·rename_i hg;cases h;refine⟨?_,rfl,rfl⟩;split
    ·exact KW xo hg ‹_› rfl (nZ xo _ _)
    ·exact M9 xo hg rfl (nZ xo _ _)
   ·cases h
  ·cases h
 ·cases h
theorem GX{qq:Bool}(xo:XOkB qq X K P C Γ):∀{es:List Expr} {cs:List E},zL Γ es=some cs->PA X es (xQ K P C cs)
 |[],cs,h=>by
  simp only[zL,Option.some.injEq] at h;subst h;exact HJ
 |e::es,cs,h=>by
  unfold zL at h;split at h
  ·rename_i c cs' h1 h2;cases h;exact CL (xZ xo h1).1 (GX xo h2) (xZ xo h1).2.1
  ·cases h
theorem L9{qq:Bool}(xo:XOkB qq X K P C Γ){e:Expr}{c:E}(h:suE Γ e=some c):Ok3 X K P C e c/\bV e=true:=by
 unfold suE at h;split at h
 ·rename_i es p
  cases q:zL Γ es with
  |none=>rw[q] at h;cases h
  |some cs =>
   rw[q] at h;cases h;exact⟨MB xo (GX xo q),rfl⟩
 ·exact⟨(xZ xo h).1,(xZ xo h).2.2⟩
theorem GO{qq:Bool}(xo:XOkB qq X K P C Γ)(hfn:∀x,Γ.isLoc x=true->X.fn x=true\/X.env.scope.names.lookup x=some .local):∀{sts:List Stmt} {ss:List S},yZ Γ sts=some ss->dR X sts (kF K P C W ss)
 |[],ss,h=>by
  simp only[yZ,Option.some.injEq] at h;subst h;exact CV
 |st::r,ss,h=>by
  unfold yZ at h;split at h
  ·rename_i z;cases z
  ·rename_i y py e p r' z;cases z;split at h
   ·rename_i j c cs h1 h2 h3;cases h;exact AQ (FE xo hfn h1 (L9 xo h2).1 (L9 xo h2).2) (GO xo hfn h3)
   ·cases h
  ·cases h
theorem VP(xo:bD X K P C Γ)(stk:X.stack=X.env::X.outer)(fr:X.env.frame=some X.env.locals)(hfn:∀x,Γ.isLoc x=true->X.fn x=true\/X.env.scope.names.lookup x=some .local){body:List Stmt}{cb:List S}{x n:Str}{cs:List Str}{i:Nat}{st:Stmt}{sts:List Stmt}{ss:List S}{np hp pos:Pos}
  (hb:∀E pn,PassesOwn (model X.prog X.w) X.A X.env E->dR (Cx.re X E pn) body (kF K P C W cb)) (hbx:∀E pn,PassesOwn (model X.prog X.w) X.A X.env E->dR (Cx.re X E pn) body (QW (Cx.re X E pn) K P C W cb))
  (hx:Γ.globE x=.exs cs) (hi:X.N[i]?=some n) (hn:X.env.scope.names.lookup n=some .local) (hss:yZ Γ (st::sts)=some ss) :
  PS X (.Try body [.ExceptHandler (some (.Name x np)) (some n) (st::sts) hp] [] [] pos) (tS K P C W (.tryB cb cs i ss)):=by
 intro pins s σ H D I ⟨ρ,G,fl,ρ',r,e,k⟩;have hN:X.N.Nodup:=by rw[xo.neq];exact xo.nd
 have hloc:L2.rZ X.env.scope n:=.inl hn;refine wpAny_Try_except ?_;replace e:(match exs P C W cb ρ with | some (.nx,ρ1)=>some (.nx,ρ1) | _=>match o4 cs i (dO P C W cb ρ) with | some ρ2=>vJ i (exs P C W ss ρ2) | none=>none)=some (fl,ρ'):=e;split at e
 ·rename_i ρ1 q;cases e;refine wpAny_mono (hb _ (X.pn++pins) PassesOwn.looking [] s σ H D (NC I) ⟨ρ,G,.nx,ρ',r,q,k⟩) (λf s1 h1=>?_) λ_ _ z=>z
  cases f with
  |next =>
   obtain⟨σ',H',J,z⟩:=h1;exact wpAny_execs_nil ⟨σ',H',xD J,z⟩
  |brk=>obtain⟨σ',H',J,z⟩:=h1;exact⟨σ',H',xD J,z⟩
  |cont=>obtain⟨σ',H',J,z⟩:=h1;exact⟨σ',H',xD J,z⟩
  |ret u=>obtain⟨v,σ',H',J,w,z⟩:=h1;exact⟨v,σ',H',xD J,w,z⟩
 ·split at e
  case h_2=>cases e
  rename_i ρ2 q2;unfold o4 at q2;split at q2
  ·cases q2
  ·rename_i x0 ρ1 q;split at q2
   case isFalse=>cases q2
   rename_i hc;unfold vJ at e;split at e
   case h_2=>cases e
   rename_i ρ3 q3;split at e
   case h_2=>cases e
   rename_i d3 q4;cases e;refine wpAny_mono (hbx _ (X.pn++pins) PassesOwn.looking [] s σ H { nx:=λ_ _=>False,bk:=λ_ _=>False,ct:=λ_ _=>False,rt:=λ_ _=>False } (NC I) ⟨ρ,G,x0,ρ1,r,q, ?_⟩) (λf s1 h1=>?_) λ_ _ z=>z
   ·intro pins' σ' H' G' s' a Ca aft I' F hcl hg;refine F8 (X:=Cx.re X _ (X.pn++pins)) I' stk fr F λh1 I1 F1=>rP (X:=Cx.re X _ (X.pn++pins)) I1 F.1 F1 λh2 I2 F2=>?_
    have hgl:∃D0,X.mg x=some (.ref D0)/\PySem.W.excIn K D0 uV "ValueError.__new__"=true/\PySem.W.mroIn K Ca (.ref D0)=some true/\Gl X x/\(x==("__debug__":Str))=false:=by
     unfold CC.globE at hx;split at hx
     ·cases hx
     ·rename_i hbd;split at hx
      ·rename_i hig;obtain⟨D0,d1,d2,d3⟩:=(xo.exs x cs hx).ex;refine⟨D0,d1,d2,d3 _ (by simpa using hc) Ca hcl, ?_, ?_⟩
       ·unfold Gl PySem.Env.kindOf;rw[xo.nm];exact Zy hig
       ·simp only[fL,Bool.not_eq_true,Bool.or_eq_false_iff] at hbd;exact hbd.1.1
      ·cases hx
    obtain⟨D0,d1,d2,d3,d4,d5⟩:=hgl;have hK:=xo.keq;subst hK;obtain⟨oe,vs,a0,T,oT,ts,he,hcc,hd,h0,fT,h1',hne,hT,hdT,h3⟩:=id F2;refine wpAny_handleBy_cons (codeAny_handlers_test (kU (X:=Cx.ma (Cx.re X _ (X.pn++pins)) (.ref a)) (DI I2) d4 d1 ?_ d5)) (by intro z;cases z);refine aFF (DI (v:=.ref a) I2).kIn hg.q d2 d3 he hcc ?_;refine codeAny_handlers_suite_as ?_;refine rP I2 F.1 F2 λh3 I3 F3=>?_
    obtain⟨oe',vs',a0',T',oT',ts',he',hcc',hd',_⟩:=id F3;have eo:fI a Ca h3:=⟨oe',vs',he',hcc',hd'⟩
    have I4:=M4 (o:=.ext (fI a Ca)) I3 F.1 ⟨eo,⟨oe',he'⟩,λh4 h5 z w=>by
     obtain⟨o1,v1,z1,z2,z3⟩:=z
     exact⟨o1,v1,w o1 z1,z2,z3⟩⟩
    refine vI (X:=Cx.ma (Cx.re X _ (X.pn++pins)) (.ref a)) (v:=.ref a) (DI (v:=.ref a) I4) hN hi hloc rfl (λs5 I5=>?_) (.inr hn)
    have rep:aC X.K (aP G' a (.ext (fI a Ca))) (.exn x0.cls) (.ref a):=by(simp only[aC];exact⟨a,Ca,rfl,hcl,hg,aY⟩)
    have b1:AftS X.K ρ1 σ' H' G' ρ1 σ' (aP H' a (.ext (fI a Ca))) (aP G' a (.ext (fI a Ca))):=⟨aft.rel.layG F.1.1,Ext.layG aft.rel.sub F.1.1,λ_ h=>.inl h,λ_ h=>⟨h,rfl⟩,λ_ d _ h=>⟨rfl,d,h⟩,rfl⟩
    have b2:=b1.rel.store1 q2 rep;have hsu:=λE=>GO (X:=Cx.ma (Cx.re X E (X.pn++pins)) (.ref a)) (W:=W) xo.ma hfn hss
    refine wpAny_mono (hsu _ pins' s5 _ _ { nx:=λσ6 H6=>∃G6,AftS X.K ρ2 (σ'.set i (some (.ref a))) (aP H' a (.ext (fI a Ca))) (aP G' a (.ext (fI a Ca))) ρ3 σ6 H6 G6,bk:=λ_ _=>False,ct:=λ_ _=>False,rt:=λ_ _=>False } I5 ⟨ρ2,aP G' a (.ext (fI a Ca)),.nx,ρ3,b2.rel,q3,λσ6 H6 G6 a6=>⟨G6,a6⟩⟩) (λf s6 h6=>?_) λ_ _ z=>z.elim
    cases f with
    |next =>
     obtain⟨σ6,H6,J,G6,a6⟩:=h6;exact YF (aCs I.ok J) hN hi hn λs7 J7=>⟨_,_,J7,k _ _ G6 (aft.trans (b1.trans (b2.trans (a6.trans (NW a6.rel q4)))))⟩
    |brk=>obtain⟨_,_,_,z⟩:=h6;exact z.elim
    |cont=>obtain⟨_,_,_,z⟩:=h6;exact z.elim
    |ret u=>obtain⟨_,_,_,_,_,z⟩:=h6;exact z.elim
   ·cases f with
    |next=>obtain⟨_,_,_,z⟩:=h1;exact z.elim
    |brk=>obtain⟨_,_,_,z⟩:=h1;exact z.elim
    |cont=>obtain⟨_,_,_,z⟩:=h1;exact z.elim
    |ret u=>obtain⟨_,_,_,_,_,z⟩:=h1;exact z.elim
end
section
variable{X:Cx}{K:Frag}{P:aE}{C:Calls}{W:Nat}{Γ:CC}
end
section
variable{X:Cx}{K:Frag}{P:aE}{C:Calls}{W:Nat}{Γ:CC}
theorem v9(xo:bD X K P C Γ){x:Str}{i:Nat}(h:Γ.slotL x=some i):X.N[i]?=some x/\L2.rZ X.env.scope x/\Γ.isLoc x=true:=by
 unfold CC.slotL at h;split at h
 ·rename_i hl
  have hN:X.N[i]?=some x:=by
   unfold CC.slot at h;split at h
   ·cases h
   ·split at h
    ·rw[xo.neq];exact mR h
    ·cases h
  refine⟨hN, ?_,hl⟩;unfold L2.rZ;rw[xo.nm];unfold CC.isLoc at hl;rw[Bool.or_eq_true,ZB] at hl;rcases hl with hl | hl
  ·exact .inl (Zy hl)
  ·exact .inr (Zy hl.2)
 ·cases h
theorem XA(xo:bD X K P C Γ)(hfn:∀x,Γ.isLoc x=true->X.fn x=true\/X.env.scope.names.lookup x=some .local){x:Str}{i:Nat}{e:Expr}{c:E}{p pos:Pos}(hi:Γ.slotL x=some i)(h:F5 X K P C e c):PS X (.Assign [.Name x p] e pos) (tS K P C W (.asg i c)):=by
 obtain⟨h1,h2,h3⟩:=v9 xo hi;refine TS.imp_ps (h x i p pos (by rw[xo.neq];exact xo.nd) h1 h2 (hfn x h3)) λD σ H ⟨ρ,G,fl,ρ',r,e,k⟩=>?_
 obtain⟨v,ρ1,e1,e2⟩:=fJ e k.ne;unfold jH at e2
 cases q:store i v ρ1 with
 |none=>rw[q] at e2;cases e2
 |some ρ2 =>
  rw[q] at e2;cases e2;exact⟨ρ,G,v,ρ1,r,e1,λx H' G' a hv=>k _ H' G' (Aft.store r a q hv)⟩
theorem VU(po:PassesOwn (model X.prog X.w) X.A X.env X.xe)(xo:bD X K P C Γ)(hfn:∀x,Γ.isLoc x=true->X.fn x=true\/X.env.scope.names.lookup x=some .local){tg it:Expr}{body:List Stmt}{pos:Pos}{one:Bool}{is:List Nat}{k0:ItK}{its:List Expr}{cb:List S}
  (ht:jF Γ tg=some (one,is)) (hi:o8 Γ it=some (k0,its)) (hfit:jN k0 one=true) (hb:dR X body (kF K P C W cb)):PS X (.For tg it body [] pos) (tS K P C W (.for is one k0 (bT Γ its) cb)):=by
 have hg:=GH xo hfn ht
 have gen:∀e:Expr,it=e->wU e=true->some (ItK.of,[e])=some (k0,its)->PS X (.For tg it body [] pos) (tS K P C W (.for is one k0 (bT Γ its) cb)):=λe he hn hq=>by(subst he;cases hq;exact sC po xo hg hb (zY hn _) (PI.or (GN (eS xo it).h) (LQ (eS xo it).h)) λσ H R q=>TF xo.keq σ H R q)
 unfold o8 at hi;split at hi
 ·rename_i f p args pos';split at hi
  ·rename_i hf;have hf:=Zy hf;subst hf;split at hi
   ·rename_i hgl;split at hi
    ·rename_i hc;cases hi;rw[ZB] at hc;obtain⟨h1,h2,h3,h4⟩:=CC.glob_ok xo hgl (λz=>nomatch z);have hm:=xo.blt _ h2
     match its,hc with
     |[a],hc =>
      have ns:=hc.1;rw[Zj,ZB] at ns;exact sC po xo hg hb (λ_=>rfl) (zR h1 hm (n8 xo [a] hc.1) (by rw[bE ns.1];rfl)) λσ H R q=>GL σ H R q
     |[a,b],hc =>
      have ns:=hc.1;rw[Zj,ZB,Zj,ZB] at ns;exact sC po xo hg hb (λ_=>rfl) (AJ h1 hm (n8 xo [a,b] hc.1) (by rw[bE ns.1,bE ns.2.1];rfl) (by rw[bE ns.2.1];rfl)) λσ H R q=>FY σ H R q
     |[],hc=>simp at hc
     |_::_::_::_,hc=>simp at hc
    ·cases hi
   ·cases hi
  ·split at hi
   ·rename_i hf;have hf:=Zy hf;subst hf;split at hi
    ·rename_i hgl;split at hi
     ·rename_i hc;cases hi;rw[ZB] at hc;obtain⟨h1,h2,h3,h4⟩:=CC.glob_ok xo hgl (λz=>nomatch z);have hm:=xo.blt _ h2
      match its,hc with
      |[a],hc =>
       have ns:=hc.1;rw[Zj,ZB] at ns;obtain⟨elts,kk,tp,rfl⟩:=tG ht (by simpa[jN] using hfit);exact sC po xo hg hb (λ_=>rfl) (FC h1 hm (n8 xo [a] hc.1) (by rw[bE ns.1];rfl)) λσ H R q=>yV xo.keq σ H R q
      |[],hc=>simp at hc
      |_::_::_,hc=>simp at hc
     ·cases hi
    ·cases hi
   ·exact gen _ rfl rfl hi
 ·split at hi
  ·rename_i hc;rw[ZB,ZB,ZB] at hc;obtain⟨⟨⟨hf,hx⟩,ns⟩,h1⟩:=hc;have hf:=Zy hf;have hx:=Zy hx;have h1:=Zy h1;subst hf hx h1;split at hi
   ·rename_i hgl;cases hi;obtain⟨h1,h2,h3,h4⟩:=CC.glob_ok xo hgl (λz=>nomatch z);have hm:=xo.blt _ h2;obtain⟨elts,kk,tp,rfl⟩:=tG ht (by simpa[jN] using hfit);exact sC po xo hg hb (λ_=>rfl) (PH h1 hm (n8 xo [_] (by rw[Zj,ns];rfl)) (by rw[bE ns];rfl)) λσ H R q=>yV xo.keq σ H R q
   ·cases hi
  ·cases hi
 ·split at hi
  ·exact gen _ rfl ‹_› hi
  ·cases hi
theorem UR(po:PassesOwn (model X.prog X.w) X.A X.env X.xe)(xo:bD X K P C Γ)(hfn:∀x,Γ.isLoc x=true->X.fn x=true\/X.env.scope.names.lookup x=some .local){tg it:Expr}{body:List Stmt}{pos:Pos}{one:Bool}{is:List Nat}{k0:ItK}{its:List Expr}{cb:List S}
  (ht:jF Γ tg=some (one,is)) (hi:o8 Γ it=some (k0,its)) (hfit:jN k0 one=true) (hb:dR X body (kF K P C W cb)):PS X (.For tg it body [] pos) (tS K P C W (.for is one k0 (K7 Γ it body (bT Γ its)) cb)):=by
 exact VU po xo hfn ht hi hfit hb
theorem GD:∀{cs:List E} {ds:List D} {ρ ρ':Env},iK P C cs ρ=some (.ok ds,ρ')->ds.length=cs.length
 |[],_,_,_,h=>by simp only[iK] at h;cases h;rfl
 |c::cs,ds,ρ,ρ',h=>by(simp only[iK] at h;obtain⟨v,ρ1,_,h⟩:=aJ h;obtain⟨ds',ρ2,h2,h⟩:=aJ h;cases h;rw[Zk,Zk,GD h2])
mutual
theorem TC{X:Cx}(po:PassesOwn (model X.prog X.w) X.A X.env X.xe)(xo:bD X K P C Γ)(hfn:∀x,Γ.isLoc x=true->X.fn x=true\/X.env.scope.names.lookup x=some .local)(sk:Γ.top=true->X.stack=X.env::X.outer/\X.env.frame=some X.env.locals)(st:Stmt):PS X st (tS K P C W (cS Γ st)):=by
 cases st with
 |Pass _=>exact QB
 |Break _=>exact VG
 |Continue _=>exact XG
 |Return e _ =>
  cases e with
  |some e=>exact XF (eS xo e)
  |none=>exact OZ
 |Expr e _ =>
  show PS X _ (tS K P C W (if bV e then .expr (cE Γ e) else .bad));split
  ·exact QK (eS xo _) ‹_›
  ·exact bK
 |If c a b _=>exact aAd (eS xo _) (iW po xo hfn sk a) (iW po xo hfn sk b)
 |While c b o _ =>
  cases o with
  |nil=>exact aAr po (eS xo _) (iW po xo hfn sk b)
  |cons _ _=>exact bK
 |For tg it b o _ =>
  cases o with
  |nil =>
   show PS X _ (tS K P C W (match jF Γ tg,o8 Γ it with
    |some (one,is),some (k,its)=>if jN k one then .for is one k (K7 Γ it b (bT Γ its)) (gW Γ b) else .bad
    |_,_=>.bad))
   cases h1:jF Γ tg with
   |none=>exact bK
   |some t =>
    cases h2:o8 Γ it with
    |none=>exact bK
    |some u =>
     show PS X _ (tS K P C W (if jN u.1 t.1 then .for t.2 t.1 u.1 (K7 Γ it b (bT Γ u.2)) (gW Γ b) else .bad));split
     ·exact UR po xo hfn h1 h2 ‹_› (iW po xo hfn sk b)
     ·exact bK
  |cons _ _=>exact bK
 |Assign ts e _ =>
  obtain _ | ⟨t,_ | ⟨_,_⟩⟩:=ts
  ·exact bK
  ·cases t with
   |Name x p =>
    show PS X _ (tS K P C W (match Γ.slotL x with | some i=>if bV e||C1 e then .asg i (cE Γ e) else .bad | none=>.bad));split
    ·split
     ·rename_i hc;rw[Bool.or_eq_true] at hc;rcases hc with hc | hc
      ·exact FE xo hfn ‹_› (eS xo _) hc
      ·exact XA xo hfn ‹_› (aBJ xo _ hc)
     ·exact bK
    ·exact bK
   |Tuple ts _ _ =>
    show PS X _ (tS K P C W (match gC Γ ts with | some is=>if bV e&&sH e then .asgT is (cE Γ e) else .bad | none=>.bad));split
    ·split
     ·rename_i h;rw[ZB] at h;exact NV xo hfn ‹_› (eS xo _) h.1 h.2
     ·exact bK
    ·exact bK
   |Subscript a k _ =>
    cases a with
    |Name x p =>
     show PS X _ (tS K P C W (match Γ.slot x with | some i=>if bV e&&wG k then .set i (cE Γ k) (cE Γ e) else .bad | none=>.bad));split
     ·split
      ·rename_i h;rw[ZB] at h;refine U7 xo ‹_› (eS xo _) (eS xo _) h.1 λv=>?_
       have h2:=h.2
       cases k<;>first | rfl | cases h2
      ·exact bK
     ·exact bK
    |_=>exact bK
   |_=>exact bK
  ·cases t with
   |Subscript a _ _=>cases a<;>exact bK
   |_=>exact bK
 |AugAssign t op e _ =>
  cases t with
  |Name x p =>
   cases op with
   |Add =>
    show PS X _ (tS K P C W (match Γ.slotL x with | some i=>if bV e then .bad else .bad | none=>.bad));split
    ·split
     ·exact bK
     ·exact bK
    ·exact bK
   |_=>exact bK
  |_=>exact bK
 |Raise e c _ =>
  cases e with
  |none=>exact bK
  |some e =>
   cases c with
   |none =>
    show PS X _ (tS K P C W (DA Γ e));unfold DA;split
    ·split
     ·split
      ·exact FD λρ=>rfl
      ·exact bK
     ·exact bK
    ·exact bK
   |some _=>exact bK
 |Try body hs o f _ =>
  show PS X _ (tS K P C W (EI Γ (gW Γ body) hs o f));unfold EI;split
  ·rename_i hof;rw[ZB] at hof;obtain rfl:=List.isEmpty_iff.mp hof.1;obtain rfl:=List.isEmpty_iff.mp hof.2;split
   ·rename_i x n bd hh;obtain⟨np,hp,rfl⟩:=VD hh;split
    ·rename_i hc;rw[ZB] at hc;obtain⟨h2,h3⟩:=hc;have h2:=Zy h2;obtain⟨s1,s2⟩:=sk h3;split
     ·exact bK
     ·split
      ·exact bK
      ·rename_i hbd
       cases bd with
       |nil=>exact absurd rfl hbd
       |cons st sts =>
        unfold J0;split
        ·rename_i cs i ss e1 e2 e3;obtain⟨a1,a2,a3⟩:=v9 xo e2;exact VP xo s1 s2 hfn (λE pn po'=>iW (X:=Cx.re X E pn) po' xo.re hfn sk body) (λE pn po'=>kR (X:=Cx.re X E pn) po' xo.re hfn sk body) e1 a1 (by rw[xo.nm];exact h2) e3
        ·exact bK
    ·exact bK
   ·split
    ·exact P5 λE pn po'=>iW (X:=Cx.re X E pn) po' xo.re hfn sk body
    ·exact bK
  ·exact bK
 |_=>exact bK
theorem iW{X:Cx}(po:PassesOwn (model X.prog X.w) X.A X.env X.xe)(xo:bD X K P C Γ)(hfn:∀x,Γ.isLoc x=true->X.fn x=true\/X.env.scope.names.lookup x=some .local)(sk:Γ.top=true->X.stack=X.env::X.outer/\X.env.frame=some X.env.locals)(sts:List Stmt):dR X sts (kF K P C W (gW Γ sts)):=by
 cases sts with
 |nil=>exact CV
 |cons s r=>exact AQ (TC po xo hfn sk s) (iW po xo hfn sk r)
theorem aCU{X:Cx}(po:PassesOwn (model X.prog X.w) X.A X.env X.xe)(xo:bD X K P C Γ)(hfn:∀x,Γ.isLoc x=true->X.fn x=true\/X.env.scope.names.lookup x=some .local)(sk:Γ.top=true->X.stack=X.env::X.outer/\X.env.frame=some X.env.locals)(st:Stmt):PS X st (oH X K P C W (cS Γ st)):=by
 have no:∀{st:Stmt} (c:S),(∀ρ,fY P C W c ρ=none)->PS X st (oH X K P C W c):=λc h pins s σ H D I ⟨ρ,G,x,ρ',r,e,k⟩=>by rw[h] at e;cases e
 have bad:∀{st:Stmt},PS X st (oH X K P C W .bad):=no .bad λρ=>by rw[fY]<;>intros<;>contradiction
 cases st with
 |Pass _=>exact no .pass λρ=>by rw[fY]<;>intros<;>contradiction
 |Break _=>exact no .brk λρ=>by rw[fY]<;>intros<;>contradiction
 |Continue _=>exact no .cnt λρ=>by rw[fY]<;>intros<;>contradiction
 |Return e _ =>
  cases e with
  |none=>exact no .retN λρ=>by rw[fY]<;>intros<;>contradiction
  |some e=>exact TS.imp_ps (DM (BU xo e)) λD σ H ⟨ρ,G,x,ρ',r,e0,k⟩=>⟨ρ,G,x,ρ',r,(show fY P C W (.ret (cE Γ e)) ρ=some (x,ρ') from e0),k⟩
 |Expr e _ =>
  show PS X _ (oH X K P C W (if bV e then .expr (cE Γ e) else .bad));split
  ·exact TS.imp_ps (FQ (BU xo e) (pE ‹_› _ _ _)) λD σ H ⟨ρ,G,x,ρ',r,e0,k⟩=>⟨ρ,G,x,ρ',r,by simpa only[fY] using e0,k⟩
  ·exact bad
 |If c a b _ =>
  refine TS.imp_ps (R9 (eS xo c).t (kR po xo hfn sk a) (kR po xo hfn sk b)) λD σ H ⟨ρ,G,x,ρ',r,e0,k⟩=>?_
  replace e0:fY P C W (.ifs (cE Γ c) (gW Γ a) (gW Γ b)) ρ=some (x,ρ'):=e0;simp only[fY] at e0;split at e0
  ·rename_i ρ1 q;exact⟨ρ,G,true,ρ1,r,q,λH1 G1 a1=>⟨ρ1,G1,x,ρ',a1.rel,e0,k.pre (Aft.s r a1)⟩⟩
  ·rename_i ρ1 q;exact⟨ρ,G,false,ρ1,r,q,λH1 G1 a1=>⟨ρ1,G1,x,ρ',a1.rel,e0,k.pre (Aft.s r a1)⟩⟩
  ·cases e0
 |While c b o _ =>
  cases o with
  |nil=>exact YL po (eS xo c) (iW po xo hfn sk b) (kR po xo hfn sk b)
  |cons _ _=>exact bad
 |For tg it b o _ =>
  cases o with
  |nil =>
   show PS X _ (oH X K P C W (match jF Γ tg,o8 Γ it with
    |some (one,is),some (k,its)=>if jN k one then .for is one k (K7 Γ it b (bT Γ its)) (gW Γ b) else .bad
    |_,_=>.bad))
   split
   ·split
    ·exact no (.for _ _ _ _ _) λρ=>by rw[fY]<;>intros<;>contradiction
    ·exact bad
   ·exact bad
  |cons _ _=>exact bad
 |Assign ts e _ =>
  obtain _ | ⟨t,_ | ⟨_,_⟩⟩:=ts
  ·exact bad
  ·cases t with
   |Name x p =>
    show PS X _ (oH X K P C W (match Γ.slotL x with | some i=>if bV e||C1 e then .asg i (cE Γ e) else .bad | none=>.bad));split
    ·rename_i i hi;split
     ·intro pins s σ H D I ⟨ρ,G,x0,ρ',r,e0,k⟩;simp only[fY] at e0;obtain⟨h1,h2,h3⟩:=v9 xo hi;rcases EO (i9 e0) with ⟨f,p',a,r',pos',g,rfl,_⟩ | ⟨elt,tg,iter,ifs,sc,pos',rfl,hq⟩
      case inr=>exact aBK xo hq W x i p _ (by rw[xo.neq];exact xo.nd) h1 h2 (hfn x h3) pins s σ H D I ⟨ρ,G,x0,ρ',r,e0,k⟩
      exact ZC (by rw[xo.neq];exact xo.nd) h1 h2 (BU xo _) (pE rfl _ _ _) (hfn x h3) pins s σ H D I ⟨ρ,G,x0,ρ',r,e0,k⟩
     ·exact bad
    ·exact bad
   |Tuple ts _ _ =>
    show PS X _ (oH X K P C W (match gC Γ ts with | some is=>if bV e&&sH e then .asgT is (cE Γ e) else .bad | none=>.bad));split
    ·split
     ·exact no (.asgT _ _) λρ=>by rw[fY]<;>intros<;>contradiction
     ·exact bad
    ·exact bad
   |Subscript a k _ =>
    cases a with
    |Name x p =>
     show PS X _ (oH X K P C W (match Γ.slot x with | some i=>if bV e&&wG k then .set i (cE Γ k) (cE Γ e) else .bad | none=>.bad));split
     ·split
      ·exact no (.set _ _ _) λρ=>by rw[fY]<;>intros<;>contradiction
      ·exact bad
     ·exact bad
    |_=>exact bad
   |_=>exact bad
  ·cases t with
   |Subscript a _ _=>cases a<;>exact bad
   |_=>exact bad
 |AugAssign t op e _ =>
  cases t with
  |Name x p =>
   cases op with
   |Add =>
    show PS X _ (oH X K P C W (match Γ.slotL x with | some i=>if bV e then .bad else .bad | none=>.bad));split
    ·split
     ·exact bad
     ·exact bad
    ·exact bad
   |_=>exact bad
  |_=>exact bad
 |Raise e c _ =>
  cases e with
  |none=>exact bad
  |some e =>
   cases c with
   |none =>
    show PS X _ (oH X K P C W (DA Γ e));unfold DA;split
    ·rename_i x np args cpos;split
     ·rename_i hc;split
      ·rename_i hg;rw[ZB] at hc;obtain⟨h1,h2,h3,h4⟩:=CC.glob_ok xo hg (λz=>nomatch z);obtain⟨Ca,c1,c2,c3⟩:=(xo.exc x h2).ex;have hK:=xo.keq;obtain _ | ⟨a,dU⟩:=args
       ·simp at hc
       ·have ns:=hc.1;rw[Zj,ZB] at ns;refine TS.imp_ps (QL xo.hh h1 c2 (by rw[hK];exact c3.q) (YN xo (a::dU) hc.1) h3 (bE ns.1 _ _) (eQ ns.2 _ _).1) λD σ H ⟨ρ,G,x0,ρ',r,e0,k⟩=>?_
        simp only[fY] at e0;split at e0
        ·rename_i ds ρ1 q;cases e0;refine⟨ρ,G,ds,_,r,q,λxs H1 G1 a1 rx=>⟨?_,λpins b s' I' F=>k pins σ H1 G1 s' b Ca (Aft.s r a1) I' F c1 c3⟩⟩;rw[rx.len,GD q,y8,sizeLine_eq]
         have:=hc.2
         simp at this;simp;omega
        ·cases e0
      ·exact bad
     ·exact bad
    ·exact bad
   |some _=>exact bad
 |Try body hs o f _ =>
  show PS X _ (oH X K P C W (EI Γ (gW Γ body) hs o f));unfold EI TQ J0;split
  ·split
   ·split
    ·split
     ·exact bad
     ·split
      ·exact bad
      ·split
       ·exact no (.tryB _ _ _ _) λρ=>by rw[fY]<;>intros<;>contradiction
       ·exact bad
    ·exact bad
   ·split
    ·unfold SN;(unfold JJ;(repeat' split)<;>first | exact no (.tryO _) λρ=>by rw[fY]<;>intros<;>contradiction | exact bad)
    ·exact bad
  ·exact bad
 |_=>exact bad
theorem kR{X:Cx}(po:PassesOwn (model X.prog X.w) X.A X.env X.xe)(xo:bD X K P C Γ)(hfn:∀x,Γ.isLoc x=true->X.fn x=true\/X.env.scope.names.lookup x=some .local)(sk:Γ.top=true->X.stack=X.env::X.outer/\X.env.frame=some X.env.locals)(sts:List Stmt):dR X sts (QW X K P C W (gW Γ sts)):=by
 cases sts with
 |nil=>exact λpins s σ H D I ⟨ρ,G,x,ρ',r,e,k⟩=>by simp only[gW,dO] at e;cases e
 |cons st dU =>
  have hcs:gW Γ (st::dU)=cS Γ st::gW Γ dU:=rfl;rw[hcs];refine TS.imp_pss (wH (aEL (TC po xo hfn sk st) (aCU po xo hfn sk st)) (kR po xo hfn sk dU)) λD σ H ⟨ρ,G,x,ρ',r,e0,k⟩=>?_
  simp only[gW,dO] at e0;split at e0
  ·rename_i ρ1 q;exact .inl ⟨ρ,G,.nx,ρ1,r,q,λσ1 H1 G1 a1=>⟨ρ1,G1,x,ρ',a1.rel,e0,k.pre a1⟩⟩
  ·exact .inr ⟨ρ,G,x,ρ',r,e0,k⟩
end
end
noncomputable def kN(ps:List Str):Nat->List Stmt->Option (List Str)
 |j,[]=>if j=ps.length then some [] else none
 |j,.Assign [.Attribute (.Name s _) f _] (.Name q _) _::r=>if ps[0]?=some s/\ps[j]?=some q/\fL s=false/\fL q=false then(kN ps (j+1) r).map (f :: ·) else none
 |_,_=>none
theorem DV{f:Str}{y:V}:∀{fs:List (Str×V)},f ∉ fs.map (·.1)->gD f y fs=fs++[(f,y)]
 |[],_=>rfl
 | (g,x)::r,h=>by(rw[Zs,List.mem_cons,not_or] at h;rw[gD,Zp (λz=>h.1 z.symm),DV h.2];rfl)
theorem aBQ{H:Hp}{a:Addr}{o:HO}(h:H a=some o):aP H a o=H:=by
 funext b
 unfold aP;split
 ·rename_i z;rw[z,h]
 ·rfl
theorem zX{X:Cx}{K:Frag}{ps:List Str}{xs:List V}{a:Addr}{Ca dx:Addr}(hK:X.K=K)(hN:∀(i:Nat) x,ps[i]?=some x->X.N[i]?=some x/\LU X.env.scope x)(hl:xs.length+1=ps.length)(cl:Cls K Ca):∀(r:List Stmt) (j:Nat) (ns:List Str),kN ps j r=some ns->1<=j ->
  ∃t,dR X r t/\∀(D:Ends) (σ:L2.St) (H:Hp) (fs:List (Str×V)),(∀(i:Nat) v,(V.ref a::xs)[i]?=some v->σ[i]?=some (some v))->H a=some (.ins Ca dx fs)->(∀f∈ns,jW K Ca f)->(fs.map (·.1)++ns).Nodup->fs.length+ns.length<1000 ->
   D.nx σ (aP H a (.ins Ca dx (fs++ns.zip (xs.drop (j-1)))))->t D σ H
 |[],j,ns,h,hj=>by
  unfold kN at h;split at h
  ·rename_i hje;cases h;refine⟨JN,GW,λD σ H fs _ ha _ _ _ q=>?_⟩;simp only[List.zip_nil_left,List.append_nil] at q;rw[aBQ ha] at q;exact q
  ·cases h
 |st::r,j,ns,h,hj=>by
  unfold kN at h;split at h
  ·rename_i heq;cases heq
  ·rename_i j _ _ s p1 f p2 q p3 p4 r' heq;cases heq;split at h
   ·rename_i hc;obtain⟨c1,c2,c3,c4⟩:=hc
    cases q1:kN ps (j+1) r with
    |none=>rw[q1] at h;cases h
    |some ns' =>
     rw[q1] at h;cases h;obtain⟨t,ht,k⟩:=zX hK hN hl cl r (j+1) ns' q1 (by omega);simp only[fL,Bool.or_eq_false_iff] at c3 c4;have v0:=BW (X:=X) (pos:=p1) (hN 0 s c1).1 (hN 0 s c1).2 c3.1.1 c3.1.2;have v1:=BW (X:=X) (pos:=p3) (hN j q c2).1 (hN j q c2).2 c4.1.1 c4.1.2;refine⟨_,wH (aBU v0 v1 rfl) ht,λD σ H fs hσ ha hn lR hlt qq=>?_⟩;have hj2:j<ps.length:=(Zc.mp c2).1;obtain⟨j',rfl⟩:∃j',j=j'+1:=⟨j-1,by omega⟩
     have hxl:j'<xs.length:=by omega
     have hx:(V.ref a::xs)[j'+1]?=some xs[j']:=by simp[hxl]
     have hnf:f ∉ fs.map (·.1):=λz=>by
      have:=(List.nodup_append.mp lR).2.2 f z f (by simp)
      exact this rfl
     refine⟨_,hσ _ _ hx,.ref a,hσ 0 _ rfl,a,Ca,dx,fs,rfl,ha,by rw[hK];exact cl,by rw[hK];exact hn f (by simp),by simp at hlt;omega, ?_⟩;rw[DV hnf];refine k D σ _ _ hσ aY (λg hg=>hn g (Ze _ hg)) ?_ ?_ ?_
     ·simpa using lR
     ·simp at hlt ⊢;omega
     ·rw[FH]
      have e:fs++(f::ns').zip (xs.drop (j'+1-1))=fs++[(f,xs[j'])]++ns'.zip (xs.drop (j'+1+1-1)):=by(rw[show j'+1-1=j' from rfl,show j'+1+1-1=j'+1 from rfl,List.drop_eq_getElem_cons hxl,List.zip_cons_cons,List.append_assoc];rfl)
      rw[<- e];exact qq
   ·cases h
  ·cases h
theorem HG{Pr:Program}{w:World}{K:Frag}{mg:Str->Option Value}{base:Heap}{y qual:Str}{st:Stmt}{fa:Addr}{fd:FuncData}{N ps ns:List Str}(F:Fun K y qual st fa fd)(S:FnScope N ps (aT st))(hb:kN ps 1 (bW st)=some ns)(hp:ps.length=ns.length+1)(lR:ns.Nodup)(hlt:ns.length<1000) :
  FnOk Pr w K mg base rX 1 fa fd ps (LV K ns):=by
 refine F.ok S (λvs H Q E h=>?_) λcdv A outer s H vs Q E hr h=>?_
 ·obtain⟨a,Ca,dx,xs,rfl,h1,_⟩:=h;rw[Zk,h1,hp]
 ·obtain⟨a,Ca,dx,xs,rfl,h1,h2,h3,q⟩:=h
  have hNN:∀(i:Nat) x,ps[i]?=some x->N[i]?=some x/\LU (aT st) x:=λi x hx=>by
   have hm:x∈ps:=zj hx;refine⟨?_, ?_⟩
   ·have:=S.pre
    rw[<- this,List.getElem?_take] at hx;split at hx
    ·exact hx
    ·cases hx
   ·rcases S.par x hm with z | z
    ·exact .inl z
    ·exact .inr (.inl z)
  obtain⟨t,ht,k⟩:=zX (X:=(jI rX Pr w K mg base N qual (aT st) fa cdv A outer s H E).nox) (K:=K) (ps:=ps) (xs:=xs) (a:=a) (Ca:=Ca) (dx:=dx) rfl hNN (by omega) h3.cl (bW st) 1 ns hb (Zq _)
  ·refine⟨t,ht,k _ _ H [] (λi v hv=>?_) h2 h3.no (by simpa using lR) (by simpa using hlt) ?_⟩
   ·have hl:i<(V.ref a::xs).length:=(Zc.mp hv).1;rw[rY hl,Zh,hv];rfl
   ·simpa using q
structure EntB(K:Frag)(T:fG)(gl:Str->GV)(f:String)(fa:Addr)(fd:FuncData)(ps:List Str):Prop where
 bd:eW K fd ps []
 ex:∃(y qual:Str) (st:Stmt) (N:List Str) (fn:Fn),Fun K y qual st fa fd/\FnScope N ps (aT st)/\N.Nodup/\T f=some fn/\fn.body=gW ⟨N,(aT st).names,gl,true⟩ (bW st)/\N.length=fn.pins.length+fn.nl/\ps.length=fn.pins.length
structure Entry(K:Frag)(mg:Str->Option Value)(T:fG)(gl:Str->GV)(x:Str)(f:String)(fa:Addr)(fd:FuncData)(ps:List Str):Prop where
 mgx:mg x=some (.ref fa)
 kp:PySem.W.keepIn K (.ref fa)=true
 b:EntB K T gl f fa fd ps
structure ClsE(K:Frag)(mg:Str->Option Value)(x:Str)(ns:List Str):Prop where
 ex:∃(Ca fa:Addr) (fd:FuncData) (ps:List Str) (y qual:Str) (st:Stmt) (N:List Str),nsIn K mainGlobals x=some (some (.ref Ca))/\mg x=some (.ref Ca)/\Mk K Ca fa/\ClsF K Ca ns /\
  Fun K y qual st fa fd/\FnScope N ps (aT st)/\kN ps 1 (bW st)=some ns/\ps.length=ns.length+1/\ns.Nodup/\ns.length<1000/\eW K fd ps []
structure MthE(K:Frag)(T:fG)(gl:Str->GV)(c m:Str)(f:String):Prop where
 ex:∃(Ca fa:Addr) (fd:FuncData) (ps:List Str),nsIn K mainGlobals c=some (some (.ref Ca))/\Meth K Ca m fa/\EntB K T gl f fa fd ps/\Cls K Ca
structure Globs(K:Frag)(mg:Str->Option Value)(T:fG)(gl:Str->GV):Prop where
 con:∀x d,gl x=.con d->∃u v,mg x=some u/\aU v u/\∀G,aC K G d v
 blt:∀x,gl x=.blt->mg x=none
 fn:∀x f,gl x=.fn f->∃fa fd ps,Entry K mg T gl x f fa fd ps
 cls:∀x ns,gl x=.cls ns->ClsE K mg x ns
 mth:∀m tb c f,gl (tQ m)=.mth tb->tb.lookup c=some f->MthE K T gl c m f
 sub:∀x s n,gl (col x)=.sub s n->SubAt K mg x s n
 subx:∀x s n,gl (col x)=.subx s n->SubX K mg x s n
 exc:∀x,gl x=.exc->ExcAt K mg x
 exs:∀x cs,gl (zW x)=.exs cs->ExsAt K mg x cs
theorem BE{b:Bool}{o:Option (Exc×Env)}{as as':List Sl}{v:RV}(h:(if b=true then(match o with | some (x,ρ)=>(some (Out.ex x,back as ρ):aF RV) | none=>none) else none)=some (.ok v,as')):False:=by
 split at h
 ·split at h<;>cases h
 ·cases h
theorem k9{Pr:Program}{w:World}{K:Frag}{mg:Str->Option Value}{base:Heap}{T:fG}{gl:Str->GV}(W:Nat)(g:Globs K mg T gl):∀(d:Nat) (f:String) (fa:Addr) (fd:FuncData) (ps:List Str),
  EntB K T gl f fa fd ps->FnOk Pr w K mg base rX (d+2) fa fd ps (MZ K (T.pins f).length (run T W d f))/\FnOk Pr w K mg base (vF Pr w) (d+2) fa fd ps (spX K (T.pins f).length (run T W d f))
 | 0,f,fa,fd,ps,e=>⟨⟨λvs H Q E h=>by obtain⟨_,as,G,v,as',_,_,z,_⟩:=h;simp[run] at z,λA outer s H args us vs Q E _ _ _ _ h=>by obtain⟨_,as,G,v,as',_,_,z,_⟩:=h;simp[run] at z⟩,
  ⟨λvs H Q E h=>by obtain⟨_,as,G,v,as',_,_,z,_⟩:=h;simp[run] at z,λA outer s H args us vs Q E _ _ _ _ h=>by obtain⟨_,as,G,v,as',_,_,z,_⟩:=h;simp[run] at z⟩⟩
 |d+1,f,fa,fd,ps,e=>by
  obtain⟨y,qual,st,N,fn,F,S,nd,hT,hb,hN,hps⟩:=e.ex;have hpin:T.pins f=fn.pins:=by unfold fG.pins;rw[hT]
  refine⟨F.ok S (λvs H Q E h=>by rw[h.1,hpin,hps]) λcdv A outer s H vs Q E hr h=>?_, ?_⟩
  ·obtain⟨hl,as,G,v,as',rel,hal,er,k⟩:=h
   let X:Cx:=(jI rX Pr w K mg base N qual (aT st) fa cdv A outer s H E).nox
   let Γ:CC:=⟨N,(aT st).names,gl,true⟩
   have xo:bD X K T.pins (run T W d) Γ:=by
    refine bD.of rfl rfl rfl nd rfl hr.hd hr.units g.con g.blt (λx' f' hx=>?_) (λx' ns hx=>?_) (λm tb c f' h1 h2=>?_) (hr.mono (by omega)) g.sub g.subx g.exc g.exs (λx' f' hx=>?_) ⟨_,_,_,rfl,rfl,rfl⟩
    ·obtain⟨fa',fd',ps',e'⟩:=g.fn x' f' hx;exact⟨fa',fd',ps',d+2,(k9 W g d f' fa' fd' ps' e'.b).1,hr,e'.mgx,e'.kp,e'.b.bd⟩
    ·obtain⟨Ca,fa',fd',ps',y',qual',st',N',h1,h2,h3,h4,h5,h6,h7,h8,h9,h10,h11⟩:=(g.cls x' ns hx).ex;exact⟨Ca,fa',fd',ps',h1,h2,h3,h4,HG h5 h6 h7 h8 h9 h10,h11⟩
    ·obtain⟨Ca,fa',fd',ps',h3,h4,e',hcl⟩:=(g.mth m tb c f' h1 h2).ex;exact⟨Ca,fa',fd',ps',d+2,h3,h4,(k9 W g d f' fa' fd' ps' e').1,hr,e'.bd,hcl⟩
    ·obtain⟨fa',fd',ps',e'⟩:=g.fn x' f' hx;exact⟨fa',fd',ps',d+2,(k9 W g d f' fa' fd' ps' e'.b).2,hr,e'.mgx,e'.kp,e'.b.bd⟩
   refine⟨_,iW (W:=W) (X:=X) (Γ:=Γ) PassesOwn.never xo (λ_ _=>.inl rfl) (λ_=>⟨rfl,rfl⟩) (bW st), ?_⟩;simp only[run,hT] at er;split at er
   ·rename_i hc;rw[hb] at er;have hNa:N.length=as.length+fn.nl:=by rw[hN,hc.1]
    have hpad:=rel.pad hNa
    cases q:exs T.pins (run T W d) W (gW ⟨N,(aT st).names,gl,true⟩ (bW st)) (as++List.replicate fn.nl .un) with
    |none=>rw[q] at er;exact(BE er).elim
    |some y =>
     obtain⟨fl,ρ'⟩:=y;rw[q] at er;refine⟨as++List.replicate fn.nl .un,G,fl,ρ',hpad.1,q, ?_⟩
     cases fl with
     |nx =>
      cases er;intro σ' H' G' a;obtain⟨b1,b2⟩:=pC rel hc.2 hNa a;exact k .non H' G' b1 (by show aC K G' .non _;simp[aC])
     |rt v' =>
      cases er;intro x' σ' H' G' a hv;obtain⟨b1,b2⟩:=pC rel hc.2 hNa a;refine k x' H' G' b1 ?_
      have key:∀c,¬aI ρ' σ' c->(aI (as++List.replicate fn.nl .un) (cK N vs) c\/H c=none)->H c=none:=λc nc mc=>by
       rcases mc with mc | mc
       ·have:=hpad.2 c mc
        obtain⟨i,d1,p1,l1,h1,h2⟩:=this;refine absurd ?_ nc
        apply b2 c
        have hp:=List.all_eq_true.mp hc.2 _ (zj h1);simp only[jP] at hp;subst hp
        have:=b1.evo i
        rw[h1] at this
        cases q3:(back as ρ')[i]? with
        |none=>rw[q3] at this;exact this.elim
        |some s =>
         rw[q3] at this
         cases s with
         |ow d2 p2 l2=>exact⟨i,d2,p2,l2,q3,h2⟩
         |sh d2=>exact absurd (show true=false from this) (by simp)
         |un=>exact this.elim
         |mv=>exact this.elim
       ·exact mc
      cases v with
      |sh d0=>exact hv
      |ow d0 =>
       obtain⟨c,rfl,gc,oc,nc,mc⟩:=hv;exact⟨c,rfl,gc,oc,λz=>nc (b2 c z),key c nc mc⟩
      |od d0 =>
       obtain⟨c,rfl,gc,oc,nc,mc,ys,hy,hr⟩:=hv;exact⟨c,rfl,gc,oc,λz=>nc (b2 c z),key c nc mc,ys,hy,λx hx=>let ⟨b,ws,h1,h2,h3,h4,h5,h6⟩:=hr x hx;⟨b,ws,h1,h2,h3,λz=>h4 (b2 b z),key b h4 h5,h6⟩⟩
     |bk=>exact(BE er).elim
     |ct=>exact(BE er).elim
     |ex x'=>exact(BE er).elim
   ·cases er
  ·obtain⟨oc,od,kV,doc,pm,an,cdv,ct,osl,rfl,lk,hcd⟩:=F.ex;refine RO lk hcd S (λvs H Q E h=>by rw[h.1,hpin,hps]) λA outer s H vs Q E hr h=>?_
   obtain⟨hl,as,G,x0,as',rel,hal,er,k⟩:=h
   let X:Cx:=jI (vF Pr w) Pr w K mg base N qual (aT st) fa cdv A outer s H E
   let Γ:CC:=⟨N,(aT st).names,gl,true⟩
   have xo:bD X K T.pins (run T W d) Γ:=by
    refine bD.of rfl rfl rfl nd rfl hr.hd hr.units g.con g.blt (λx' f' hx=>?_) (λx' ns hx=>?_) (λm tb c f' h1 h2=>?_) (hr.mono (by omega)) g.sub g.subx g.exc g.exs (λx' f' hx=>?_) ⟨_,_,_,rfl,rfl,rfl⟩
    ·obtain⟨fa',fd',ps',e'⟩:=g.fn x' f' hx;exact⟨fa',fd',ps',d+2,(k9 W g d f' fa' fd' ps' e'.b).1,hr,e'.mgx,e'.kp,e'.b.bd⟩
    ·obtain⟨Ca,fa',fd',ps',y',qual',st',N',h1,h2,h3,h4,h5,h6,h7,h8,h9,h10,h11⟩:=(g.cls x' ns hx).ex;exact⟨Ca,fa',fd',ps',h1,h2,h3,h4,HG h5 h6 h7 h8 h9 h10,h11⟩
    ·obtain⟨Ca,fa',fd',ps',h3,h4,e',hcl⟩:=(g.mth m tb c f' h1 h2).ex;exact⟨Ca,fa',fd',ps',d+2,h3,h4,(k9 W g d f' fa' fd' ps' e').1,hr,e'.bd,hcl⟩
    ·obtain⟨fa',fd',ps',e'⟩:=g.fn x' f' hx;exact⟨fa',fd',ps',d+2,(k9 W g d f' fa' fd' ps' e'.b).2,hr,e'.mgx,e'.kp,e'.b.bd⟩
   refine⟨_,kR (W:=W) (X:=X) (Γ:=Γ) PassesOwn.leaving xo (λ_ _=>.inl rfl) (λ_=>⟨rfl,rfl⟩) (bW st), ?_⟩;simp only[run,hT] at er;split at er
   ·rename_i hc;rw[hb] at er;have hNa:N.length=as.length+fn.nl:=by rw[hN,hc.1]
    have hpad:=rel.pad hNa;split at er
    ·cases er
    ·cases er
    ·split at er
     ·split at er
      ·rename_i x1 ρ' q;cases er;refine⟨as++List.replicate fn.nl .un,G,x0,ρ',hpad.1,q,λpins' σ' H' G' s' a Ca aft I' F' hcl hg=>?_⟩;obtain⟨b1,b2⟩:=pC rel hc.2 hNa aft;exact RH I' F' (k H' G' Ca b1 hcl hg)
      ·cases er
     ·cases er
   ·cases er
def cT(st:Stmt):List Str:=(eL st).args.map (·.arg)
noncomputable def xX(st:Stmt):List Str:=cT st++(((aT st).names.filter λy=>(y.2==.local||y.2==.cell) && !(cT st).contains y.1).map (·.1))
def CO(gl:Str->GV)(st:Stmt):List S:=gW ⟨xX st,(aT st).names,gl,true⟩ (bW st)
structure MthAt(K:Frag)(x m qual:Str)(st:Stmt):Prop where
 ex:∃(Ca f:Addr) (oc:Value) (od an:Option Addr) (kV doc pm cdv ct:Value) (osl:Array (Option Value)),nsIn K mainGlobals x=some (some (.ref Ca))/\findIn K (.ref Ca) m=some (some (.ref f))/\PySem.W.isFn K (.ref f)=true /\
  K.lookup f=some ⟨oc,od,.func (PySem.W.fnOf m qual (eL st) (bW st) (aT st) .none kV doc pm an cdv ct),osl⟩/\PySem.W.codeIn K cdv qual=true/\PySem.W.keepIn K (.ref f)=true
theorem eG{K:Frag}{x m qual:Str}{st:Stmt}{Ca f:Addr}{oc:Value}{od an:Option Addr}{kV doc pm cdv ct:Value}{osl:Array (Option Value)}(a:nsIn K mainGlobals x=some (some (.ref Ca)))(b:findIn K (.ref Ca) m=some (some (.ref f)))(i:PySem.W.isFn K (.ref f)=true)
  (l:K.lookup f=some ⟨oc,od,.func (PySem.W.fnOf m qual (eL st) (bW st) (aT st) .none kV doc pm an cdv ct),osl⟩) (c:PySem.W.codeIn K cdv qual=true) (k:PySem.W.keepIn K (.ref f)=true):MthAt K x m qual st :=
 ⟨Ca,f,oc,od,an,kV,doc,pm,cdv,ct,osl,a,b,i,l,c,k⟩
structure ClsAt(K:Frag)(x:Str):Prop where
 ex:∃Ca:Addr,nsIn K mainGlobals x=some (some (.ref Ca))/\Cls K Ca/\PySem.W.makesIn K Ca=true/\PySem.W.keepIn K (.ref Ca)=true
theorem lM{K:Frag}{x:Str}{Ca:Addr}(a:nsIn K mainGlobals x=some (some (.ref Ca)))(pg:PySem.W.plainGet K Ca Str.empty=true)(hd:PySem.W.hasDictIn K Ca=true)(po:PySem.W.plainOver K Ca=true)
  (sa:findIn K (.ref Ca) "__setattr__"=some (some (.builtin "object.__setattr__"))) (mk:PySem.W.makesIn K Ca=true) (kp:PySem.W.keepIn K (.ref Ca)=true):ClsAt K x:=⟨Ca,a,⟨pg,hd,po,sa⟩,mk,kp⟩
def iE(K:Frag)(x f:Str):Prop:=∃Ca:Addr,nsIn K mainGlobals x=some (some (.ref Ca))/\findIn K (.ref Ca) f=some none
theorem gQ{K:Frag}{x f:Str}{Ca:Addr}(a:nsIn K mainGlobals x=some (some (.ref Ca)))(b:findIn K (.ref Ca) f=some none):iE K x f:=⟨Ca,a,b⟩
structure DefAt(K:Frag)(x:Str)(st:Stmt):Prop where
 ex:∃(f:Addr) (oc:Value) (od an:Option Addr) (kV doc pm cdv ct:Value) (osl:Array (Option Value)),nsIn K mainGlobals x=some (some (.ref f)) /\
  K.lookup f=some ⟨oc,od,.func (PySem.W.fnOf x x (eL st) (bW st) (aT st) .none kV doc pm an cdv ct),osl⟩/\PySem.W.codeIn K cdv x=true/\PySem.W.keepIn K (.ref f)=true
theorem bR{K:Frag}{x:Str}{st:Stmt}{f:Addr}{oc:Value}{od an:Option Addr}{kV doc pm cdv ct:Value}{osl:Array (Option Value)}(a:nsIn K mainGlobals x=some (some (.ref f)))
  (l:K.lookup f=some ⟨oc,od,.func (PySem.W.fnOf x x (eL st) (bW st) (aT st) .none kV doc pm an cdv ct),osl⟩) (c:PySem.W.codeIn K cdv x=true) (k:PySem.W.keepIn K (.ref f)=true):DefAt K x st :=
 ⟨f,oc,od,an,kV,doc,pm,cdv,ct,osl,a,l,c,k⟩
structure DefOkQ(gl:Str->GV)(st:Stmt)(x qual:Str)(fn:Fn):Prop where
 sc:FnScope (xX st) (cT st) (aT st)
 body:fn.body=CO gl st
 len:(xX st).length=fn.pins.length+fn.nl
 pl:(cT st).length=fn.pins.length
 bind:∀(kV doc pm:Value) (an:Option Addr) (cdv ct:Value) (us:List Value),us.length=(cT st).length->bindArgs (PySem.W.fnOf x qual (eL st) (bW st) (aT st) .none kV doc pm an cdv ct) ⟨us,[]⟩=pure ((cT st).zip us)
abbrev bU(gl:Str->GV)(st:Stmt)(x:Str)(fn:Fn):Prop:=DefOkQ gl st x x fn
theorem yQ{K:Frag}{T:fG}{gl:Str->GV}{x qual:Str}{f:String}{st:Stmt}{fn:Fn}{fa:Addr}{fd:FuncData}(F:Fun K x qual st fa fd)(O:DefOkQ gl st x qual fn)(hT:T f=some fn):EntB K T gl f fa fd (cT st) :=
 ⟨F.binds O.bind,x,qual,st,xX st,fn,F,O.sc,O.sc.nd,hT,O.body,O.len,O.pl⟩
theorem iN{K:Frag}{T:fG}{gl:Str->GV}{x m qual:Str}{f:String}{st:Stmt}{fn:Fn}(A:ClsAt K x)(D:MthAt K x m qual st)(O:DefOkQ gl st m qual fn)(hT:T f=some fn):MthE K T gl x m f:=by
 obtain⟨Ca,fa,oc,od,an,kV,doc,pm,cdv,ct,osl,a,b,i,l,c,k⟩:=D.ex;obtain⟨Cb,a',cl,_,_⟩:=A.ex;rw[a] at a';cases a';exact⟨Ca,fa,_,cT st,a,⟨b,i,k⟩,yQ (xI (st:=st) l c k) O hT,cl⟩
structure IniOk(st:Stmt)(qual:Str)(ns:List Str):Prop where
 sc:FnScope (xX st) (cT st) (aT st)
 body:kN (cT st) 1 (bW st)=some ns
 pl:(cT st).length=ns.length+1
 nd:ns.Nodup
 lt:ns.length<1000
 bind:∀(kV doc pm:Value) (an:Option Addr) (cdv ct:Value) (us:List Value),us.length=(cT st).length->bindArgs (PySem.W.fnOf "__init__" qual (eL st) (bW st) (aT st) .none kV doc pm an cdv ct) ⟨us,[]⟩=pure ((cT st).zip us)
theorem lJ{K:Frag}{mg:Str->Option Value}{h:Heap}{x qual:Str}{st:Stmt}{ns:List Str}(X:K.In h)(G:h.Ns mainGlobals mg)(A:ClsAt K x)(D:MthAt K x "__init__" qual st)(O:IniOk st qual ns)(N:∀f∈ns,iE K x f):ClsE K mg x ns:=by
 obtain⟨Ca,a,cl,mk,kp⟩:=A.ex;obtain⟨Cb,fa,oc,od,an,kV,doc,pm,cdv,ct,osl,a',b,i,l,c,k⟩:=D.ex;rw[a] at a';cases a';have F:=xI (st:=st) l c k;refine⟨Ca,fa,_,cT st,"__init__",qual,st,xX st,a,PySem.W.mg_of X G a,⟨mk,b,i,kp⟩,⟨cl,λf hf=>?_⟩,F,O.sc,O.body,O.pl,O.nd,O.lt,F.binds O.bind⟩;obtain⟨Cc,a2,b2⟩:=N f hf;rw[a] at a2;cases a2;exact b2
theorem bC{K:Frag}{mg:Str->Option Value}{h:Heap}{T:fG}{gl:Str->GV}{x:Str}{f:String}{st:Stmt}{fn:Fn}(X:K.In h)(G:h.Ns mainGlobals mg)(D:DefAt K x st)(O:bU gl st x fn)(hT:T f=some fn):∃fa fd ps,Entry K mg T gl x f fa fd ps:=by
 obtain⟨fa,oc,od,an,kV,doc,pm,cdv,ct,osl,a,l,c,k⟩:=D.ex;have F:=xI (st:=st) l c k;exact⟨fa,_,cT st,PySem.W.mg_of X G a,k,yQ F O hT⟩
def aV(L:List (Str×GV))(x:Str):GV:=(L.lookup x).getD .no
theorem eI{α β:Type}[BEq α][LawfulBEq α]:∀{L:List (α×β)} {x:α} {v:β},L.lookup x=some v->(x,v)∈L
 |[],_,_,h=>by simp at h
 | (y,w)::L,x,v,h=>by
  rw[List.lookup_cons] at h;split at h
  ·rename_i hb;cases h;rw[Zy hb];exact zh
  ·exact Ze _ (eI h)
theorem fR{L:List (Str×GV)}{x:Str}{v:GV}(h:aV L x=v)(n:v≠.no):(x,v)∈L:=by
 unfold aV at h
 cases q:L.lookup x with
 |none=>rw[q] at h;exact absurd h.symm n
 |some w =>
  rw[q] at h;cases h;exact eI q
def bZ(K:Frag)(mg:Str->Option Value)(T:fG)(gl:Str->GV):Str×GV->Prop
 | (x,.cls ns)=>ClsE K mg x ns
 | (x,.mth tb)=>∃m,x=tQ m/\∀p∈tb,MthE K T gl p.1 m p.2
 | (x,.con d)=>∃u v,mg x=some u/\aU v u/\∀G,aC K G d v
 | (x,.blt)=>mg x=none
 | (x,.fn f)=>∃fa fd ps,Entry K mg T gl x f fa fd ps
 | (x,.sub s n)=>∃m,x=col m/\SubAt K mg m s n
 | (x,.subx s n)=>∃m,x=col m/\SubX K mg m s n
 | (x,.exc)=>ExcAt K mg x
 | (x,.exs cs)=>∃m,x=zW m/\ExsAt K mg m cs
 | (_,.no)=>True
theorem FG{p:Array Nat}{x y:Str}(h:(⟨p++x.cps⟩:Str)=⟨p++y.cps⟩):x=y:=by
 have e6:=congrArg Array.toList (congrArg Str.cps h);simp only[Array.toList_append] at e6;have e5:=Array.toList_inj.mp (List.append_cancel_left e6);cases x;cases y;simp only at e5;rw[e5]
theorem O6{K:Frag}{mg:Str->Option Value}{T:fG}{L:List (Str×GV)}(h:∀p∈L,bZ K mg T (aV L) p):Globs K mg T (aV L) :=
 ⟨λx d e=>h _ (fR e (λz=>nomatch z)),λx e=>h _ (fR e (λz=>nomatch z)),λx f e=>h _ (fR e (λz=>nomatch z)),λx ns e=>h _ (fR e (λz=>nomatch z)),λm tb c f e e2=>by
  obtain⟨m',e3,k⟩:=h _ (fR e (λz=>nomatch z))
  have:m'=m:=by
   unfold tQ at e3;have e4:(#[46]++m.cps:Array Nat)=#[46]++m'.cps:=congrArg Str.cps e3
   have e5:m.cps=m'.cps:=by(have e6:=congrArg Array.toList e4;rw[Array.toList_append,Array.toList_append] at e6;exact Array.toList_inj.mp (List.append_cancel_left e6))
   cases m;cases m';simp only at e5;rw[e5]
  subst this;exact k _ (eI e2),λx s n e=>by
  obtain⟨m',e3,k⟩:=h _ (fR e (λz=>nomatch z))
  have:m'=x:=by
   unfold col at e3
   have e5:x.cps=m'.cps:=by(have e6:=congrArg Array.toList (congrArg Str.cps e3);simp only[Array.toList_append] at e6;exact Array.toList_inj.mp (List.append_cancel_left e6))
   cases x;cases m';simp only at e5;rw[e5]
  subst this;exact k,λx s n e=>by
  obtain⟨m',e3,k⟩:=h _ (fR e (λz=>nomatch z));rw[FG e3];exact k,λx e=>h _ (fR e (λz=>nomatch z)),λx cs e=>by
  obtain⟨m',e3,k⟩:=h _ (fR e (λz=>nomatch z));rw[FG e3]
  exact k⟩
theorem eV{K:Frag}{mg:Str->Option Value}{h:Heap}{T:fG}{gl:Str->GV}{x:Str}{i:Int}{t:Tok}(X:K.In h)(G:h.Ns mainGlobals mg)(a:nsIn K mainGlobals x=some (some (.int i t))):bZ K mg T gl (x,.con (.int i)) :=
 ⟨_,.int i,PySem.W.mg_of X G a,⟨t,rfl⟩,λG=>by simp[aC]⟩
theorem fH{K:Frag}{mg:Str->Option Value}{h:Heap}{T:fG}{gl:Str->GV}{x:Str}(X:K.In h)(G:h.Ns mainGlobals mg)(a:nsIn K mainGlobals x=some none):bZ K mg T gl (x,.blt):=PySem.W.mg_none_of X G a
structure KinN(K:Frag)(c x:Str):Prop where
 ex:∃Ca C:Addr,nsIn K mainGlobals c=some (some (.ref Ca))/\nsIn K mainGlobals x=some (some (.ref C))/\PySem.W.kin_not K Ca C=true
structure KinI(K:Frag)(c x:Str):Prop where
 ex:∃Ca C:Addr,nsIn K mainGlobals c=some (some (.ref Ca))/\nsIn K mainGlobals x=some (some (.ref C))/\PySem.W.isIn K (.ref Ca) C=true
structure KinC(K:Frag)(c:Str):Prop where
 ex:∃D:Addr,nsIn K mainGlobals c=some (some (.ref D))/\PySem.W.plainGet K D "__class__"=true/\PySem.W.hasDictIn K D=true/\findIn K (.ref D) "__class__"=some (some (.builtin "object.__class__")) /\
  PySem.W.specialIn K (.builtin "object.__class__") "__get__"=some (some (.builtin "getset_descriptor.__get__"))/\PySem.W.takesIn K (.builtin "object.__class__")=some true/\PySem.W.mroIn K D (.type "object")=some true
structure KinX(K:Frag)(x:Str):Prop where
 ex:∃C:Addr,nsIn K mainGlobals x=some (some (.ref C))
theorem bQ{K:Frag}{c x:Str}{Ca C:Addr}(a:nsIn K mainGlobals c=some (some (.ref Ca)))(b:nsIn K mainGlobals x=some (some (.ref C)))(k:PySem.W.kin_not K Ca C=true):KinN K c x:=⟨Ca,C,a,b,k⟩
theorem yU{K:Frag}{c x:Str}{Ca C:Addr}(a:nsIn K mainGlobals c=some (some (.ref Ca)))(b:nsIn K mainGlobals x=some (some (.ref C)))(k:PySem.W.isIn K (.ref Ca) C=true):KinI K c x:=⟨Ca,C,a,b,k⟩
theorem f9{K:Frag}{x:Str}{C:Addr}(a:nsIn K mainGlobals x=some (some (.ref C))):KinX K x:=⟨C,a⟩
structure ExcK(K:Frag)(x:Str):Prop where
 ex:∃C:Addr,nsIn K mainGlobals x=some (some (.ref C))/\ExcG K C
theorem tY{K:Frag}{x:Str}{C:Addr}(a:nsIn K mainGlobals x=some (some (.ref C)))(q:PySem.W.excIn K C uV "ValueError.__new__"=true)(ga:findIn K (.ref C) "__getattribute__"=some (some (.builtin "BaseException.__getattribute__")))(no:findIn K (.ref C) "__getattr__"=some none)
  (cl:findIn K (.ref C) "__class__"=some (some (.builtin "object.__class__"))) (gt:PySem.W.specialIn K (.builtin "object.__class__") "__get__"=some (some (.builtin "getset_descriptor.__get__"))) (tk:PySem.W.takesIn K (.builtin "object.__class__")=some true)
  (mo:PySem.W.mroIn K C (.type "object")=some true) (mb:PySem.W.mroIn K C (.type "BaseException")=some true) (mv:PySem.W.mroIn K C (.type "ValueError")=some true):ExcK K x:=⟨C,a,q,ga,no,cl,gt,tk,mo,mb,mv⟩
structure MroK(K:Frag)(c x:Str):Prop where
 ex:∃C D:Addr,nsIn K mainGlobals c=some (some (.ref C))/\nsIn K mainGlobals x=some (some (.ref D))/\PySem.W.mroIn K C (.ref D)=some true
theorem yT{K:Frag}{c x:Str}{C D:Addr}(a:nsIn K mainGlobals c=some (some (.ref C)))(b:nsIn K mainGlobals x=some (some (.ref D)))(m:PySem.W.mroIn K C (.ref D)=some true):MroK K c x:=⟨C,D,a,b,m⟩
theorem B7{K:Frag}{mg:Str->Option Value}{h:Heap}{T:fG}{gl:Str->GV}{x:Str}(X:K.In h)(G:h.Ns mainGlobals mg)(A:ExcK K x):bZ K mg T gl (x,.exc):=by
 obtain⟨C,a,g⟩:=A.ex;exact⟨C,a,PySem.W.mg_of X G a,g⟩
theorem aAZ{K:Frag}{mg:Str->Option Value}{h:Heap}{T:fG}{gl:Str->GV}{x:Str}{cs:List Str}(X:K.In h)(G:h.Ns mainGlobals mg)(A:ExcK K x)(M:∀c∈cs,MroK K c x):bZ K mg T gl (zW x,.exs cs):=by
 obtain⟨D,a,g⟩:=A.ex;refine⟨x,rfl,D,PySem.W.mg_of X G a,g.q,λc hc C e=>?_⟩;obtain⟨C',D',e1,e2,k⟩:=(M c hc).ex;rw[e] at e1;cases e1;rw[a] at e2;cases e2;exact k
theorem gA{K:Frag}{mg:Str->Option Value}{h:Heap}{T:fG}{gl:Str->GV}{x:Str}{s n:List Str}(X:K.In h)(G:h.Ns mainGlobals mg)(A:KinX K x)(S:∀c∈s,KinI K c x)(N:∀c∈n,KinN K c x):bZ K mg T gl (col x,.subx s n):=by
 obtain⟨C,a⟩:=A.ex;refine⟨x,rfl,C,PySem.W.mg_of X G a,λc hc Ca e=>?_,λc hc Ca e=>?_⟩
 ·obtain⟨Cb,C',e1,e2,k⟩:=(S c hc).ex;rw[e] at e1;cases e1;rw[a] at e2;cases e2;exact k
 ·obtain⟨Cb,C',e1,e2,k⟩:=(N c hc).ex;rw[e] at e1;cases e1;rw[a] at e2;cases e2;exact k
theorem Q0{l:PySem.W.OpenLaw}{q:Program}{loose:List Str}{XP:(Str->Option Value)->Heap->Prop}{YP:World->Heap->Prop}{d:DefRec}{K:Params->Frag}{T:fG}{L:List (Str×GV)}{st:Stmt}{fn:Fn}{W n:Nat}{x p:Str}{f:String}
  (hn:l.most=some 63) (hdf:d.params.defaults=[]) (hr:Room (n+2) callerA) (hx:d.name=x) (hT:T f=some fn) (O:bU (aV L) st x fn) (hp:cT st=[p])
  (hY:∀(w:World) (h:Heap),YP w h->(K w.params).In h)
  (F:∀(w:World) (mg:Str->Option Value) (h:Heap),(K w.params).In h->h.Ns mainGlobals mg->DefAt (K w.params) x st/\∀p∈L,bZ (K w.params) mg T (aV L) p)
  (M:∀ns:List Int,ns.length<=63->∃as',run T W n f [.sh (.lst (ns.map .int))]=some (.ok (.sh (.bl true)),as')) :
  PySem.W.WalkO q loose XP YP l.row.toRowW d [] (λf vs=>PySem.call f vs):=by
 refine L2.V3 (n:=63) (k:=n+2) (x:=p) (CX:=λ_=>rX) (sp:=λw=>MZ (K w.params) 1 (run T W n f)) hn (by decide) hdf hr hY (λw mg fa h KX G hmg=>?_) (λw H a ns hl hO hS=>?_) λ_ _ _ _ _ z=>z
 ·obtain⟨D,hG⟩:=F w mg h KX G;have g:=O6 hG;obtain⟨fa',oc,od,an,kV,doc,pm,cdv,ct,osl,a,lk,c,k⟩:=D.ex;have hm:=PySem.W.mg_of KX G a;rw[hx,hm] at hmg;cases hmg;have Fu:=xI (st:=st) lk c k;have E:Entry (K w.params) mg T (aV L) x f fa _ (cT st):=⟨hm,k,yQ Fu O hT⟩
  have hpins:(T.pins f).length=1:=by(unfold fG.pins;rw[hT];show fn.pins.length=1;rw[<- O.pl,hp];rfl)
  refine⟨PySem.W.fnOf x x (eL st) (bW st) (aT st) .none kV doc pm an cdv ct,λs u=>?_,λbase kb nb=>?_⟩
  rotate_left
  ·have:=(k9 (Pr:=l.prog) (w:=w) (base:=base) W g n f fa _ (cT st) E.b).1
   rw[hpins] at this;rw[hp] at this;exact this
  ·have:=O.bind kV doc pm an cdv ct [u] (by rw[hp];rfl)
   rw[hp] at this;exact .of_eq this
 ·obtain⟨as',e⟩:=M ns hl
  have hr1:aB (K w.params) H (ns.map .int) (ns.map V.int):=by
   induction ns with
   |nil=>exact aB.nil
   |cons i r ih=>exact aB.cons (by simp[aC]) (by
     clear e hS hl ih
     induction r with
     |nil=>exact aB.nil
     |cons i r ih=>exact aB.cons (by simp[aC]) ih)
  refine⟨rfl,[.sh (.lst (ns.map .int))],H,.sh (.bl true),as',Rel.cons_sh (Rel.nil (aK.refl _)) ?_,rfl,e,λx H' G' _ hv=>r9 (K:=K w.params) (G:=G') hv⟩;simp only[aC];exact⟨a,_,rfl,hS,hr1⟩
end CI
namespace CI
open PySem (Operator CmpOp)
noncomputable section
variable{α β:Type}{P:aE}{C:Calls}{W:Nat}{t:Bool}{ρ ρ1 ρ2:Env}
theorem aDc{a:α}{f:α->Env->aF β}:aF.bind (some (.ok a,ρ)) f=f a ρ:=rfl
theorem aDm{a:α}{f:α->Env->bI}:aF.flow (some (.ok a,ρ)) f=f a ρ:=rfl
theorem kO{f:Env->bI}:bI.next (some (.nx,ρ)) f=f ρ:=rfl
theorem R3{f:Env->bI}{v:RV}:bI.next (some (.rt v,ρ)) f=some (.rt v,ρ):=rfl
theorem WB:jH (some ρ)=some (.nx,ρ):=rfl
theorem MY{v:RV}:done (some v) ρ=some (.ok v,ρ):=rfl
theorem aGR{d:D}:(RV.sh d).d=d:=rfl
theorem aFS{d:D}:(RV.ow d).d=d:=rfl
theorem aGv{d:D}:(Sl.sh d).get=some d:=rfl
theorem aGz{d:D}{p l:Bool}:(Sl.ow d p l).get=some d:=rfl
theorem aBo{v:RV}:(Hd.val v).get ρ=some v.d:=rfl
theorem W0{i:Nat}:(Hd.slot i).get ρ=(ρ[i]?).bind Sl.get:=rfl
def kTr(ρ:Env)(o:Option Bool):aF RV:=o.map λb=>(.ok (.sh (.bl b)),ρ)
theorem QU{b:Bool}:kTr ρ (some b)=some (.ok (.sh (.bl b)),ρ):=rfl
theorem aGD{r:aF RV}:bH false r=r:=rfl
theorem aF8{v:RV}:bH true (some (.ok v,ρ))=kTr ρ (hW v.d):=rfl
noncomputable def Z1(i:Nat)(ρ:Env):Option Sl->aF RV
 |some (.sh d)=>some (.ok (.sh d),ρ)
 |some (.ow d false false)=>some (.ok (.sh d),ρ.set i (.sh d))
 |_=>none
theorem aAQ{i:Nat}{d:D}:Z1 i ρ (some (.sh d))=some (.ok (.sh d),ρ):=rfl
theorem aBi{i:Nat}{d:D}:Z1 i ρ (some (.ow d false false))=some (.ok (.sh d),ρ.set i (.sh d)):=rfl
theorem YE{i:Nat}:ev P C false (.var i) ρ=Z1 i ρ ρ[i]?:=rfl
theorem aCm{d:D}:ev P C t (.con d) ρ=bH t (some (.ok (.sh d),ρ)):=rfl
def FP(b:Bool)(v:RV)(ρ:Env):aF RV:=if b then some (.ok v,ρ) else none
theorem aD1{v:RV}:FP true v ρ=some (.ok v,ρ):=rfl
theorem dX{n:Nat}(h:n<=1000000):aR n=true:=@decide_eq_true _ (cl _) h
theorem aFC:aR 0=true:=dX (by decide)
theorem aGe:aR 1=true:=dX (by decide)
theorem aGC:aR 2=true:=dX (by decide)
theorem aGo:aR 3=true:=dX (by decide)
theorem aFE:aR 4=true:=dX (by decide)
theorem aGF:aR 5=true:=dX (by decide)
def aB1(ds:List D)(ρ:Env):aF RV:=FP (aR ds.length) (.sh (.tup ds)) ρ
def aB5(ds:List D)(ρ:Env):aF RV:=FP (aR ds.length) (.ow (.lst ds)) ρ
theorem aEu{ds:List D}:aB1 ds ρ=FP (aR ds.length) (.sh (.tup ds)) ρ:=rfl
theorem aEE{ds:List D}:aB5 ds ρ=FP (aR ds.length) (.ow (.lst ds)) ρ:=rfl
theorem aBP{es:List E}:ev P C t (.tup es) ρ=bH t ((iK P C es ρ).bind aB1):=rfl
theorem aAs{es:List E}:ev P C t (.lst es) ρ=bH t ((iK P C es ρ).bind aB5):=rfl
theorem W6:iK P C [] ρ=some (.ok [],ρ):=rfl
def ER(v:RV)(ds:List D)(ρ:Env):aF (List D):=some (.ok (v.d::ds),ρ)
def NM(P:aE)(C:Calls)(es:List E)(v:RV)(ρ:Env):aF (List D):=(iK P C es ρ).bind (ER v)
theorem UI{v:RV}{ds:List D}:ER v ds ρ=some (.ok (v.d::ds),ρ):=rfl
theorem YV{es:List E}{v:RV}:NM P C es v ρ=(iK P C es ρ).bind (ER v):=rfl
theorem PV{e:E}{es:List E}:iK P C (e::es) ρ=(ev P C false e ρ).bind (NM P C es):=rfl
theorem O0:cA P C [] ρ=some (.ok [],ρ):=rfl
def zB(v:Hd)(ds:List Hd)(ρ:Env):aF (List Hd):=some (.ok (v::ds),ρ)
def GP(P:aE)(C:Calls)(es:List E)(v:Hd)(ρ:Env):aF (List Hd):=(cA P C es ρ).bind (zB v)
theorem PQ{v:Hd}{ds:List Hd}:zB v ds ρ=some (.ok (v::ds),ρ):=rfl
theorem RI{es:List E}{v:Hd}:GP P C es v ρ=(cA P C es ρ).bind (zB v):=rfl
def dW(P:aE)(C:Calls)(e:E)(ρ:Env):aF Hd:=hd e (ev P C false e ρ) ρ
def iU(v:RV)(ρ:Env):aF Hd:=some (.ok (.val v.low),ρ)
theorem aDJ{d:D}:iU (.sh d) ρ=some (.ok (.val (.sh d)),ρ):=rfl
theorem aBj{d:D}:iU (.ow d) ρ=some (.ok (.val (.ow d)),ρ):=rfl
def RL(i:Nat)(ρ:Env)(b:Bool):aF Hd:=if b then some (.ok (.slot i),ρ) else none
theorem V0{i:Nat}:RL i ρ true=some (.ok (.slot i),ρ):=rfl
theorem UM{i:Nat}:dW P C (.var i) ρ=RL i ρ ((ρ[i]?).bind Sl.get).isSome:=rfl
theorem UA{d:D}:dW P C (.con d) ρ=some (.ok (.val (.sh d)),ρ):=rfl
theorem XN{es:List E}:dW P C (.tup es) ρ=(ev P C false (.tup es) ρ).bind iU:=rfl
theorem WY{es:List E}:dW P C (.lst es) ρ=(ev P C false (.lst es) ρ).bind iU:=rfl
theorem WI{op:Operator}{a b:E}:dW P C (.bin op a b) ρ=(ev P C false (.bin op a b) ρ).bind iU:=rfl
theorem OC{op op':CmpOp}{a b c:E}:dW P C (.cmp2 op op' a b c) ρ=(ev P C false (.cmp2 op op' a b c) ρ).bind iU:=rfl
theorem aC5{a b:E}:dW P C (.ix a b) ρ=(ev P C false (.ix a b) ρ).bind iU:=rfl
theorem aAC{a b c:E}:dW P C (.sl a b c) ρ=(ev P C false (.sl a b c) ρ).bind iU:=rfl
theorem OK{f:String}{es:List E}:dW P C (.call f es) ρ=(ev P C false (.call f es) ρ).bind iU:=rfl
theorem U6{f:BI}{es:List E}:dW P C (.bif f es) ρ=(ev P C false (.bif f es) ρ).bind iU:=rfl
theorem YK{a:E}{ts:List Ty}:dW P C (.isi a ts) ρ=(ev P C false (.isi a ts) ρ).bind iU:=rfl
theorem OT{elt:E}{tg:List Nat}{k:ItK}{its cond:List E}{imp:List Nat}{nl:Nat}:dW P C (.comp elt tg k its cond imp nl) ρ=(ev P C false (.comp elt tg k its cond imp nl) ρ).bind iU:=rfl
theorem KO{e:E}{es:List E}:cA P C (e::es) ρ=(dW P C e ρ).bind (GP P C es):=rfl
noncomputable def sD(op:Operator)(x:Hd)(a b:Option D):Option RV:=a.bind λd=>b.bind λe=>if pF op x d then cI op d e else none
def HS(op:Operator)(x y:Hd)(ρ:Env):aF RV:=done (sD op x (x.get ρ) (y.get ρ)) ρ
def RS(P:aE)(C:Calls)(op:Operator)(b:E)(x:Hd)(ρ:Env):aF RV:=(dW P C b ρ).bind (HS op x)
theorem aBc{op:Operator}{x y:Hd}:HS op x y ρ=done (sD op x (x.get ρ) (y.get ρ)) ρ:=rfl
theorem aBa{op:Operator}{b:E}{x:Hd}:RS P C op b x ρ=(dW P C b ρ).bind (HS op x):=rfl
theorem aBr{op:Operator}{a b:E}:ev P C t (.bin op a b) ρ=bH t ((dW P C a ρ).bind (RS P C op b)):=rfl
theorem ZG{op:Operator}{x:Hd}{i:Int}{e:D}:sD op x (some (.int i)) (some e)=cI op (.int i) e:=by
 unfold sD pF;cases op<;>rfl
theorem aAN{op:Operator}{x:Hd}{ds:List D}{e:D}:sD op x (some (.tup ds)) (some e)=cI op (.tup ds) e:=by
 unfold sD pF;cases op<;>rfl
theorem aCS{x:Hd}{ds:List D}{e:D}:sD .Add x (some (.lst ds)) (some e)=cI .Add (.lst ds) e:=rfl
theorem aCc{d:D}{ds:List D}{e:D}:sD .Mult (.val (.ow d)) (some (.lst ds)) (some e)=cI .Mult (.lst ds) e:=rfl
theorem aEd{i j:Int}:cI .Add (.int i) (.int j)=some (.sh (.int (i+j))):=rfl
theorem aEj{i j:Int}:cI .Sub (.int i) (.int j)=some (.sh (.int (i-j))):=rfl
theorem R1{i j:Int}(h:(-(2 ^ 64)<i/\i<2 ^ 64)\/(-(2 ^ 64)<j/\j<2 ^ 64)):cI .Mult (.int i) (.int j)=some (.sh (.int (i*j))):=Zo h
theorem aCK{i j:Int}(h1:-18446744073709551616<j)(h2:j<18446744073709551616):cI .Mult (.int i) (.int j)=some (.sh (.int (i*j))):=R1 (.inr ⟨h1,h2⟩)
theorem Y3{i j:Int}(h1:-18446744073709551616<i)(h2:i<18446744073709551616):cI .Mult (.int i) (.int j)=some (.sh (.int (i*j))):=R1 (.inl ⟨h1,h2⟩)
theorem aDq{i j:Int}(h:0<j/\j<nofun):cI .FloorDiv (.int i) (.int j)=some (.sh (.int (i / j))):=Zo h
theorem R5{i j:Int}(h:0<j):cI .Mod (.int i) (.int j)=some (.sh (.int (i % j))):=Zo h
theorem aAv{j:Int}(h:0<=j)(h2:j<=1000):cI .LShift (.int 1) (.int j)=some (.sh (.int (2 ^ j.toNat))):=by
 show @ite _ _ (cl _) _ _=_;rw[Zo ⟨h,h2,by decide⟩,Int.one_mul]
theorem xA{xs ys:List D}(h:aR (xs.length+ys.length)=true):cI .Add (.lst xs) (.lst ys)=some (.ow (.lst (xs++ys))):=Zo h
theorem aDf{xs:List D}{k:Int}(h1:-(2 ^ 31)<=k)(h2:k<=1000)(h3:aR (xs.length*k.toNat)=true):cI .Mult (.lst xs) (.int k)=some (.ow (.lst (List.replicate k.toNat xs).flatten)):=Zo ⟨h1,h2,h3⟩
theorem Z2{ys:List D}:cI .Add (.tup []) (.tup ys)=some (.sh (.tup ys)):=rfl
theorem nJ{x:D}{xs ys:List D}(h:aR (xs.length+1+ys.length)=true):cI .Add (.tup (x::xs)) (.tup ys)=some (.sh (.tup (x::xs++ys))):=Zo h
def aCo(v:RV)(ρ:Env):aF RV:=match v.d with
 |.int i=>some (.ok (.sh (.int (-i))),ρ)
 |_=>none
theorem aDI{i:Int}:aCo (.sh (.int i)) ρ=some (.ok (.sh (.int (-i))),ρ):=rfl
theorem aBp{a:E}:ev P C t (.neg a) ρ=bH t ((ev P C false a ρ).bind aCo):=rfl
def SM(v:RV)(ρ:Env):aF RV:=match v with
 |.sh (.bl b)=>some (.ok (.sh (.bl (!b))),ρ)
 |_=>none
theorem aC4{b:Bool}:SM (.sh (.bl b)) ρ=some (.ok (.sh (.bl (!b))),ρ):=rfl
theorem YO{a:E}:ev P C true (.not a) ρ=(ev P C true a ρ).bind SM:=rfl
def OV(o:Option D):Option RV:=o.bind λd=>(hW d).map λb=>.sh (.bl (!b))
def SX(x:Hd)(ρ:Env):aF RV:=done (OV (x.get ρ)) ρ
theorem aCq{x:Hd}:SX x ρ=done (OV (x.get ρ)) ρ:=rfl
theorem VN{b:Bool}:OV (some (.bl b))=some (.sh (.bl (!b))):=rfl
theorem T4{a:E}:ev P C false (.not a) ρ=(dW P C a ρ).bind SX:=rfl
def CU(op:CmpOp)(a b:Option D):Option RV:=a.bind λd=>b.bind λe=>(cQ op d e).map λb=>.sh (.bl b)
theorem aDo{op:CmpOp}{d e:D}:CU op (some d) (some e)=(cQ op d e).map λb=>.sh (.bl b):=rfl
def OG(op:CmpOp)(a b:Option D):Option Bool:=a.bind λd=>b.bind λe=>cQ op d e
theorem aEf{op:CmpOp}{d e:D}:OG op (some d) (some e)=cQ op d e:=rfl
def JQ(op:CmpOp)(x y:Hd)(ρ:Env):aF RV:=done (CU op (x.get ρ) (y.get ρ)) ρ
def TZ(P:aE)(C:Calls)(op:CmpOp)(b:E)(x:Hd)(ρ:Env):aF RV:=(dW P C b ρ).bind (JQ op x)
theorem YX{op:CmpOp}{x y:Hd}:JQ op x y ρ=done (CU op (x.get ρ) (y.get ρ)) ρ:=rfl
theorem aCb{op:CmpOp}{b:E}{x:Hd}:TZ P C op b x ρ=(dW P C b ρ).bind (JQ op x):=rfl
theorem aCi{op:CmpOp}{a b:E}:ev P C t (.cmp op a b) ρ=(dW P C a ρ).bind (TZ P C op b):=rfl
def OF(op:CmpOp)(y z:Hd)(ρ:Env):aF RV:=done (CU op (y.get ρ) (z.get ρ)) ρ
theorem aDh{op:CmpOp}{x y:Hd}:OF op x y ρ=done (CU op (x.get ρ) (y.get ρ)) ρ:=rfl
noncomputable def kCh(P:aE)(C:Calls)(op':CmpOp)(y:Hd)(c:E)(ρ:Env):Option Bool->aF RV
 |none=>none
 |some false=>some (.ok (.sh (.bl false)),ρ)
 |some true=>(dW P C c ρ).bind (OF op' y)
theorem aD4{op':CmpOp}{y:Hd}{c:E}{b:Bool}:kCh P C op' y c ρ (some b)=if b=true then(dW P C c ρ).bind (OF op' y) else some (.ok (.sh (.bl false)),ρ):=by cases b<;>rfl
noncomputable def Q8(P:aE)(C:Calls)(op op':CmpOp)(c:E)(x y:Hd)(ρ:Env):aF RV:=kCh P C op' y c ρ (OG op (x.get ρ) (y.get ρ))
noncomputable def aAn(P:aE)(C:Calls)(op op':CmpOp)(b c:E)(x:Hd)(ρ:Env):aF RV:=(dW P C b ρ).bind (Q8 P C op op' c x)
theorem aEM{op op':CmpOp}{c:E}{x y:Hd}:Q8 P C op op' c x y ρ=kCh P C op' y c ρ (OG op (x.get ρ) (y.get ρ)):=rfl
theorem aET{op op':CmpOp}{b c:E}{x:Hd}:aAn P C op op' b c x ρ=(dW P C b ρ).bind (Q8 P C op op' c x):=rfl
theorem WM{op op':CmpOp}{a b c:E}:ev P C t (.cmp2 op op' a b c) ρ=(dW P C a ρ).bind (aAn P C op op' b c):=rfl
theorem aFY{i j:Int}:cQ .Lt (.int i) (.int j)=some (decide (i<j)):=rfl
theorem aGH{i j:Int}:cQ .LtE (.int i) (.int j)=some (decide (i<=j)):=rfl
theorem aFz{i j:Int}:cQ .Gt (.int i) (.int j)=some (decide (j<i)):=rfl
theorem aEv{i j:Int}:cQ .Eq (.int i) (.int j)=some (decide (i=j)):=rfl
theorem aAa{d e:D}(h1:bM 20 d=true)(h2:bM 20 e=true):cQ .NotEq d e=some (!eE d e):=by
 show(if(bM 20 d&&bM 20 e)=true then some (!eE d e) else none)=_;rw[h1,h2];rfl
theorem aED{a b:PySem.Str}:cQ .Eq (.str a) (.str b)=some (a==b):=rfl
theorem aDO:cQ .Is .non .non=some true:=rfl
theorem aEC:cQ .IsNot .non .non=some false:=rfl
theorem aD3{i:Int}:cQ .IsNot (.int i) .non=some true:=rfl
theorem aGa{b:Bool}:hW (.bl b)=some b:=rfl
noncomputable def aBG(P:aE)(C:Calls)(t:Bool)(b:E)(v:RV)(ρ:Env):aF RV:=match v with
 |.sh (.bl true)=>ev P C t b ρ
 |.sh (.bl false)=>some (.ok (.sh (.bl false)),ρ)
 |_=>none
noncomputable def kOr(P:aE)(C:Calls)(t:Bool)(b:E)(v:RV)(ρ:Env):aF RV:=match v with
 |.sh (.bl true)=>some (.ok (.sh (.bl true)),ρ)
 |.sh (.bl false)=>ev P C t b ρ
 |_=>none
theorem ZR{a b:E}:ev P C t (.and a b) ρ=(ev P C t a ρ).bind (aBG P C t b):=rfl
theorem aEN{a b:E}:ev P C t (.or a b) ρ=(ev P C t a ρ).bind (kOr P C t b):=rfl
theorem Z5{b:E}{x:Bool}:aBG P C t b (.sh (.bl x)) ρ=if x=true then ev P C t b ρ else some (.ok (.sh (.bl false)),ρ):=by cases x<;>rfl
theorem aDA{b:E}{x:Bool}:kOr P C t b (.sh (.bl x)) ρ=if x=true then some (.ok (.sh (.bl true)),ρ) else ev P C t b ρ:=by cases x<;>rfl
def gK(a:Option D)(k:D):Option RV:=a.bind λd=>(NA d k).map .sh
def QO(x:Hd)(k:RV)(ρ:Env):aF RV:=done (gK (x.get ρ) k.d) ρ
def aA8(P:aE)(C:Calls)(i:E)(x:Hd)(ρ:Env):aF RV:=(ev P C false i ρ).bind (QO x)
theorem aEB{x:Hd}{k:RV}:QO x k ρ=done (gK (x.get ρ) k.d) ρ:=rfl
theorem aDr{i:E}{x:Hd}:aA8 P C i x ρ=(ev P C false i ρ).bind (QO x):=rfl
theorem aDp{a i:E}:ev P C t (.ix a i) ρ=bH t ((dW P C a ρ).bind (aA8 P C i)):=rfl
theorem Y1{ds:List D}{i:Int}:gK (some (.tup ds)) (.int i)=(L2.eO ds i).map RV.sh:=rfl
theorem aCx{ds:List D}{i:Int}:gK (some (.lst ds)) (.int i)=(L2.eO ds i).map RV.sh:=rfl
theorem wR{α:Type}{xs:List α}{n:Nat}:L2.eO xs (OfNat.ofNat n)=xs[n]?:=by
 show L2.eO xs ((n:Nat):Int)=_
 cases h:xs[n]? with
 |some v=>exact L2.yR h
 |none =>
  unfold L2.eO L2.kD
  have:=List.getElem?_eq_none_iff.mp h
  rw[Zo (by omega),Zp (by omega)];rfl
theorem aGw{α:Type}{xs:List α}:L2.eO xs 0=xs[0]?:=wR (n:=0)
theorem aGf{α:Type}{xs:List α}:L2.eO xs 1=xs[1]?:=wR (n:=1)
theorem aGt{α:Type}{xs:List α}:L2.eO xs 2=xs[2]?:=wR (n:=2)
theorem aGM{α:Type}{xs:List α}:L2.eO xs 3=xs[3]?:=wR (n:=3)
def rN(a l h:Option D):Option RV:=a.bind λd=>(mJ l).bind λl=>(mJ h).bind λh=>R7 d l h
def RA(x:Hd)(l h:Option D)(ρ:Env):aF RV:=done (rN (x.get ρ) l h) ρ
def vB(P:aE)(C:Calls)(e:E)(ρ:Env):aF (Option D):=zF e (ev P C false e ρ) ρ
def OL(P:aE)(C:Calls)(hi:E)(x:Hd)(l:Option D)(ρ:Env):aF RV:=(vB P C hi ρ).bind (RA x l)
def aBM(P:aE)(C:Calls)(lo hi:E)(x:Hd)(ρ:Env):aF RV:=(vB P C lo ρ).bind (OL P C hi x)
theorem aDl{x:Hd}{l h:Option D}:RA x l h ρ=done (rN (x.get ρ) l h) ρ:=rfl
theorem aDD{hi:E}{x:Hd}{l:Option D}:OL P C hi x l ρ=(vB P C hi ρ).bind (RA x l):=rfl
theorem aD7{lo hi:E}{x:Hd}:aBM P C lo hi x ρ=(vB P C lo ρ).bind (OL P C hi x):=rfl
theorem X8:vB P C .omt ρ=some (.ok none,ρ):=rfl
def xV(v:RV)(ρ:Env):aF (Option D):=some (.ok (some v.d),ρ)
theorem ZK{v:RV}:xV v ρ=some (.ok (some v.d),ρ):=rfl
theorem T3{d:D}:vB P C (.con d) ρ=some (.ok (some d),ρ):=rfl
theorem W9{i:Nat}:vB P C (.var i) ρ=(ev P C false (.var i) ρ).bind xV:=rfl
theorem UY{op:Operator}{a b:E}:vB P C (.bin op a b) ρ=(ev P C false (.bin op a b) ρ).bind xV:=rfl
theorem aEa{a lo hi:E}:ev P C t (.sl a lo hi) ρ=bH t ((dW P C a ρ).bind (aBM P C lo hi)):=rfl
def BD(P:aE)(C:Calls)(f:String)(hs:List Hd)(ρ:Env):aF RV:=cW (P f) (C f) hs ρ
theorem aC1{f:String}{hs:List Hd}:BD P C f hs ρ=cW (P f) (C f) hs ρ:=rfl
theorem W7{f:String}{es:List E}:ev P C t (.call f es) ρ=bH t ((cA P C es ρ).bind (BD P C f)):=rfl
noncomputable def ON(pins:List Bool)(hs:List Hd)(ρ ρ1:Env):aF RV->aF RV
 |none=>none
 |some (o,as')=>(bJ pins hs as' ρ ρ1).map λρ'=>(o,ρ')
noncomputable def aAu(pins:List Bool)(f:List Sl->aF RV)(hs:List Hd)(ρ:Env):Option (List Sl×Env)->aF RV
 |none=>none
 |some (as,ρ1)=>ON pins hs ρ ρ1 (f as)
theorem X9{pins:List Bool}{f:List Sl->aF RV}{hs:List Hd}:cW pins f hs ρ=aAu pins f hs ρ (bS pins hs ρ):=rfl
theorem aDv{pins:List Bool}{f:List Sl->aF RV}{hs:List Hd}{as:List Sl}:aAu pins f hs ρ (some (as,ρ1))=ON pins hs ρ ρ1 (f as):=rfl
def aC0(o:Out RV)(x:Option Env):aF RV:=x.map λρ'=>(o,ρ')
theorem aD8{o:Out RV}:aC0 o (some ρ)=some (o,ρ):=rfl
theorem aD5{pins:List Bool}{hs:List Hd}{o:Out RV}{as':List Sl}:ON pins hs ρ ρ1 (some (o,as'))=aC0 o (bJ pins hs as' ρ ρ1):=rfl
def AA(a:Sl)(o:Option (List Sl×Env)):Option (List Sl×Env):=o.map λ(as,ρ')=>(a::as,ρ')
theorem aFB{a:Sl}{as:List Sl}:AA a (some (as,ρ))=some (a::as,ρ):=rfl
theorem aAx:bS [] [] ρ=some ([],ρ):=rfl
theorem aDk{p:Bool}{ps:List Bool}{d:D}{r:List Hd}:bS (p::ps) (.val (.sh d)::r) ρ=AA (.sh d) (bS ps r ρ):=rfl
theorem aAI{ps:List Bool}{d:D}{r:List Hd}:bS (true::ps) (.val (.ow d)::r) ρ=AA (.ow d true false) (bS ps r ρ):=rfl
noncomputable def kLs(p:Bool)(ps:List Bool)(i:Nat)(r:List Hd)(ρ:Env):Option Sl->Option (List Sl×Env)
 |some (.sh d)=>AA (.sh d) (bS ps r ρ)
 |some (.ow d pin lk)=>match p with
  |true=>AA (.ow d true lk) (bS ps r (ρ.set i .un))
  |false=>if pin||lk then none else AA (.sh d) (bS ps r (ρ.set i (.sh d)))
 |_=>none
theorem UD{p:Bool}{ps:List Bool}{i:Nat}{r:List Hd}:bS (p::ps) (.slot i::r) ρ=kLs p ps i r ρ ρ[i]?:=rfl
theorem aCr{p:Bool}{ps:List Bool}{i:Nat}{r:List Hd}{d:D}:kLs p ps i r ρ (some (.sh d))=AA (.sh d) (bS ps r ρ):=rfl
theorem YU{ps:List Bool}{i:Nat}{r:List Hd}{d:D}{pin lk:Bool}:kLs true ps i r ρ (some (.ow d pin lk))=AA (.ow d true lk) (bS ps r (ρ.set i .un)):=rfl
theorem ZL{ρ0:Env}:bJ [] [] [] ρ0 ρ=some ρ:=rfl
theorem aF4{ps:List Bool}{i:Nat}{hs:List Hd}{a:Sl}{as:List Sl}{ρ0:Env}:bJ (false::ps) (.slot i::hs) (a::as) ρ0 ρ=bJ ps hs as ρ0 ρ:=rfl
theorem aDe{ps:List Bool}{v:RV}{hs:List Hd}{a:Sl}{as:List Sl}{ρ0:Env}:bJ (false::ps) (.val v::hs) (a::as) ρ0 ρ=bJ ps hs as ρ0 ρ:=rfl
theorem aB0{ps:List Bool}{v:RV}{hs:List Hd}{a:Sl}{as:List Sl}{ρ0:Env}:bJ (true::ps) (.val v::hs) (a::as) ρ0 ρ=bJ ps hs as ρ0 ρ:=rfl
noncomputable def kGb(ps:List Bool)(i:Nat)(hs:List Hd)(a:Sl)(as:List Sl)(ρ0 ρ:Env)(o:Option Sl):Option Env :=
  match o,a with
  |some (.ow _ pin lk),.ow d _ _=>bJ ps hs as ρ0 (ρ.set i (.ow d pin lk))
  |some (.ow _ _ _),_=>none
  |_,_=>bJ ps hs as ρ0 ρ
theorem VR{ps:List Bool}{i:Nat}{hs:List Hd}{a:Sl}{as:List Sl}{ρ0:Env}:bJ (true::ps) (.slot i::hs) (a::as) ρ0 ρ=kGb ps i hs a as ρ0 ρ ρ0[i]?:=rfl
theorem aCP{ps:List Bool}{i:Nat}{hs:List Hd}{as:List Sl}{ρ0:Env}{d d':D}{p l p' l':Bool}:kGb ps i hs (.ow d p l) as ρ0 ρ (some (.ow d' p' l'))=bJ ps hs as ρ0 (ρ.set i (.ow d p' l')):=rfl
theorem aCI{ps:List Bool}{i:Nat}{hs:List Hd}{a:Sl}{as:List Sl}{ρ0:Env}{d:D}:kGb ps i hs a as ρ0 ρ (some (.sh d))=bJ ps hs as ρ0 ρ:=rfl
def aBZ(f:BI)(hs:List Hd)(ρ:Env):aF RV:=done ((getAll hs ρ).bind (lW f)) ρ
theorem aEc{f:BI}{hs:List Hd}:aBZ f hs ρ=done ((getAll hs ρ).bind (lW f)) ρ:=rfl
theorem Y6{f:BI}{es:List E}:ev P C t (.bif f es) ρ=bH t ((cA P C es ρ).bind (aBZ f)):=rfl
theorem aBd:getAll [] ρ=some []:=rfl
def gaC(a:Option D)(b:Option (List D)):Option (List D):=a.bind λd=>b.map (d :: ·)
theorem aGd{d:D}{ds:List D}:gaC (some d) (some ds)=some (d::ds):=rfl
theorem XW{h:Hd}{r:List Hd}:getAll (h::r) ρ=gaC (h.get ρ) (getAll r ρ):=rfl
theorem aCz{ds:List D}:lW .len [.lst ds]=some (.sh (.int ds.length)):=rfl
theorem aBY{ds:List D}:lW .len [.tup ds]=some (.sh (.int ds.length)):=rfl
theorem aEJ{i:Int}:lW .abs [.int i]=some (.sh (.int (if i<0 then -i else i))):=rfl
theorem aCW{b:Bool}:lW .int [.bl b]=some (.sh (.int (if b then 1 else 0))):=rfl
theorem WT{ds:List D}:lW .list [.tup ds]=some (.ow (.lst ds)):=rfl
theorem ZY{ds:List D}:lW .tuple [.lst ds]=some (.sh (.tup ds)):=rfl
theorem aEI{i j:Int}:lW .max [.int i,.int j]=some (.sh (.int (if j > i then j else i))):=rfl
def C9(ts:List Ty):Option D->Option RV
 |some d=>(BN ts d).map λb=>.sh (.bl b)
 |none=>none
def QH(ts:List Ty)(x:Hd)(ρ:Env):aF RV:=done (C9 ts (x.get ρ)) ρ
theorem aDX{ts:List Ty}{x:Hd}:QH ts x ρ=done (C9 ts (x.get ρ)) ρ:=rfl
theorem aBA{a:E}{ts:List Ty}:ev P C t (.isi a ts) ρ=bH t ((dW P C a ρ).bind (QH ts)):=by
 rw[ev];show bH t ((dW P C a ρ).bind _)=_
 congr 2
 funext x ρ1
 unfold QH;cases x.get ρ1<;>rfl
theorem IK{i:Int}:C9 [.int] (some (.int i))=some (.sh (.bl true)):=rfl
theorem E5{i:Int}:C9 [.bool] (some (.int i))=some (.sh (.bl false)):=rfl
noncomputable def QM(i:Nat)(d:D)(ρ:Env)(o:Option Sl):aF RV:=match o with
 |some (.ow (.lst ds) p false)=>if aR (ds.length+1) then some (.ok (.sh .non),ρ.set i (.ow (.lst (ds++[d])) p false)) else none
 |_=>none
def TJ(i:Nat)(v:RV)(ρ:Env):aF RV:=QM i v.d ρ ρ[i]?
theorem Z6{i:Nat}{v:RV}:TJ i v ρ=QM i v.d ρ ρ[i]?:=rfl
theorem aEO{i:Nat}{d:D}{ds:List D}{p:Bool}:QM i d ρ (some (.ow (.lst ds) p false))=FP (aR (ds.length+1)) (.sh .non) (ρ.set i (.ow (.lst (ds++[d])) p false)):=rfl
def aAV(r:aF RV)(b:Bool):aF RV:=if b then r else none
theorem aCf{r:aF RV}:aAV r true=r:=rfl
theorem aAJ{i:Nat}{a:E}:ev P C t (.app i a) ρ=bH t (aAV ((ev P C false a ρ).bind (TJ i)) (kC ρ i)):=rfl
def IT:Option Sl->Bool
 |some (.ow (.lst _) _ _)=>true
 |_=>false
theorem aEe:kC ρ i=IT ρ[i]?:=rfl
theorem O9{ds:List D}{p l:Bool}:IT (some (.ow (.lst ds) p l))=true:=rfl
def aA6(i:Nat)(v:RV)(ρ:Env):bI:=jH (store i v ρ)
theorem aDT{i:Nat}{v:RV}:aA6 i v ρ=jH (store i v ρ):=rfl
theorem aCC{i:Nat}{e:E}:ex P C W (.asg i e) ρ=(ev P C false e ρ).flow (aA6 i):=rfl
noncomputable def AD(i:Nat)(v:RV)(ρ:Env)(o:Option Sl):Option Env:=match o with
 |none=>none
 |some (.ow _ true _)=>none
 |some (.ow _ _ true)=>none
 |some _=>match v with
  |.sh d=>some (ρ.set i (.sh d))
  |.ow d=>some (ρ.set i (.ow d false false))
  |.od _=>none
theorem st_{i:Nat}{v:RV}:store i v ρ=AD i v ρ ρ[i]?:=rfl
theorem WO{i:Nat}{d:D}:AD i (.sh d) ρ (some .un)=some (ρ.set i (.sh d)):=rfl
theorem U3{i:Nat}{d:D}:AD i (.ow d) ρ (some .un)=some (ρ.set i (.ow d false false)):=rfl
theorem V8{i:Nat}{d d':D}:AD i (.sh d) ρ (some (.sh d'))=some (ρ.set i (.sh d)):=rfl
theorem WJ{i:Nat}{d d':D}:AD i (.sh d) ρ (some (.ow d' false false))=some (ρ.set i (.sh d)):=rfl
theorem UP{i:Nat}{d d':D}:AD i (.ow d) ρ (some (.ow d' false false))=some (ρ.set i (.ow d false false)):=rfl
def cV:Sl->Bool
 |.un=>true
 |.mv=>true
 |.sh _=>true
 |.ow _ false false=>true
 |_=>false
theorem cD{i:Nat}{d:D}{s:Sl}(h:cV s=true):AD i (.sh d) ρ (some s)=some (ρ.set i (.sh d)):=by
 cases s with
 |ow d p l=>cases p<;>cases l<;>first | rfl | cases h
 |_=>rfl
theorem WL{i:Nat}{d:D}{s:Sl}(h:cV s=true):AD i (.ow d) ρ (some s)=some (ρ.set i (.ow d false false)):=by
 cases s with
 |ow d p l=>cases p<;>cases l<;>first | rfl | cases h
 |_=>rfl
theorem aA2:cV .un=true:=rfl
theorem aCA{d:D}:cV (.sh d)=true:=rfl
theorem ZX{d:D}:cV (.ow d false false)=true:=rfl
theorem ML{i:Nat}{d:D}:bN true [i] d ρ=store i (.sh d) ρ:=rfl
theorem F6{i:Nat}{is:List Nat}{ds:List D}:bN false (i::is) (.tup ds) ρ=eF (i::is) ds ρ:=rfl
theorem KU:eF [] [] ρ=some ρ:=rfl
def kSs(is:List Nat)(ds:List D)(o:Option Env):Option Env:=o.bind (eF is ds)
theorem GB{i:Nat}{is:List Nat}{d:D}{ds:List D}:eF (i::is) (d::ds) ρ=kSs is ds (store i (.sh d) ρ):=rfl
theorem aAj{is:List Nat}{ds:List D}:kSs is ds (some ρ)=eF is ds ρ:=rfl
noncomputable def P2(i:Nat)(v:D)(ρ:Env):Option Sl->D->bI
 |some (.ow (.lst ds) p false),.int n=>jH ((L2.kD ds.length n).map λm=>ρ.set i (.ow (.lst (ds.set m v)) p false))
 |_,_=>none
def HW(i:Nat)(v:RV)(j:RV)(ρ:Env):bI:=P2 i v.d ρ ρ[i]? j.d
def PL(r:bI)(b:Bool):bI:=if b then r else none
theorem aAo{r:bI}:PL r true=r:=rfl
noncomputable def aBR(i:Nat)(v j:RV)(ρ:Env):Option Sl->bI
 |o=>match o,j,v with
  |some (.ow (.dct kvs) p false),.sh (.int n),.sh (.int m)=>if aR (kvs.length+1) then some (.nx,ρ.set i (.ow (.dct (aGc kvs n m)) p false)) else none
  |_,_,_=>none
def aEk(i:Nat)(v:RV)(j:RV)(ρ:Env):bI:=aBR i v j ρ ρ[i]?
theorem aAf{i:Nat}{v j:RV}:aEk i v j ρ=aBR i v j ρ ρ[i]?:=rfl
def SE:Option Sl->Bool
 |some (.ow (.dct _) _ _)=>true
 |_=>false
theorem aEr{i:Nat}:aGp ρ i=SE ρ[i]?:=rfl
def JB(r r':bI)(b:Bool):bI:=if b then r else r'
theorem aB4{r r':bI}:JB r r' true=r:=rfl
theorem Y9{r r':bI}:JB r r' false=r':=rfl
theorem WX{c:E}{b:List S}:fY P C W (.whl c b) ρ=iB (ev P C true c) (exs P C W b) (dO P C W b) W ρ:=rfl
def kPS(i:Nat)(v:RV)(j:RV)(ρ:Env):bI:=EF i ρ ρ[i]? (eP j.d) v
theorem aFy{i:Nat}{v j:RV}:kPS i v j ρ=EF i ρ ρ[i]? (eP j.d) v:=rfl
theorem aEs{i:Nat}{ks:List L2.bB}{ds:List D}{p:Bool}{k:L2.bB}{v:RV}(h:aR (ks.length+1)=true):EF i ρ (some (.ow (.dcs ks ds) p false)) (some k) v=some (.nx,ρ.set i (.ow (.dcs (oY ks k) (pB ks ds k v.d)) p false)):=Zo h
def TN:Option Sl->Bool
 |some (.ow (.dcs _ _) _ _)=>true
 |_=>false
theorem aDP{i:Nat}:yJ ρ i=TN ρ[i]?:=rfl
theorem O2{ks:List L2.bB}{ds:List D}{p l:Bool}:TN (some (.ow (.dcs ks ds) p l))=true:=rfl
theorem N1{ks:List L2.bB}{ds:List D}{p l:Bool}:SE (some (.ow (.dcs ks ds) p l))=false:=rfl
theorem PR{ks:List L2.bB}{ds:List D}{p l:Bool}:IT (some (.ow (.dcs ks ds) p l))=false:=rfl
noncomputable def IJ(P:aE)(C:Calls)(i:Nat)(k:E)(v:RV)(ρ:Env):bI:=PL ((ev P C false k ρ).flow (kPS i v)) (yJ ρ i)
theorem aC7{i:Nat}{k:E}{v:RV}:IJ P C i k v ρ=PL ((ev P C false k ρ).flow (kPS i v)) (yJ ρ i):=rfl
noncomputable def SH(P:aE)(C:Calls)(i:Nat)(k:E)(v:RV)(ρ:Env):bI:=JB ((ev P C false k ρ).flow (HW i v)) (IJ P C i k v ρ) (kC ρ i)
theorem aAP{i:Nat}{v j:RV}:HW i v j ρ=P2 i v.d ρ ρ[i]? j.d:=rfl
theorem aB8{i:Nat}{k:E}{v:RV}:SH P C i k v ρ=JB ((ev P C false k ρ).flow (HW i v)) (IJ P C i k v ρ) (kC ρ i):=rfl
theorem aBw{i:Nat}{k e:E}:ex P C W (.set i k e) ρ=(ev P C false e ρ).flow (SH P C i k):=rfl
theorem aDH{n:Nat}:L2.kD (n+2) 1=some 1:=by unfold L2.kD;rw[Zo (by omega),Zo (by omega)];rfl
theorem aCu{i:Nat}{v a b:D}{ds:List D}{p:Bool}:P2 i v ρ (some (.ow (.lst (a::b::ds)) p false)) (.int 1)=some (.nx,ρ.set i (.ow (.lst (a::v::ds)) p false)):=by
 show jH ((L2.kD (ds.length+2) 1).map _)=_;rw[aDH];rfl
def SW(v:RV)(ρ:Env):bI:=some (.nx,ρ)
theorem aCv{v:RV}:SW v ρ=some (.nx,ρ):=rfl
theorem VY{e:E}:ex P C W (.expr e) ρ=(ev P C false e ρ).flow SW:=rfl
noncomputable def PF(i:Nat)(ρ:Env):Option Sl->bI
 |some (.ow d false _)=>some (.rt (.ow d),ρ.set i .mv)
 |some (.sh d)=>some (.rt (.sh d),ρ)
 |_=>none
theorem UL{i:Nat}{d:D}{l:Bool}:PF i ρ (some (.ow d false l))=some (.rt (.ow d),ρ.set i .mv):=rfl
theorem VJ{i:Nat}{d:D}:PF i ρ (some (.sh d))=some (.rt (.sh d),ρ):=rfl
def lH(v:RV)(ρ:Env):bI:=some (.rt v,ρ)
theorem aE0{v:RV}:lH v ρ=some (.rt v,ρ):=rfl
theorem WZ{i:Nat}:ex P C W (.ret (.var i)) ρ=PF i ρ ρ[i]?:=rfl
theorem ZA{d:D}:ex P C W (.ret (.con d)) ρ=(ev P C false (.con d) ρ).flow lH:=rfl
theorem aAm{es:List E}:ex P C W (.ret (.tup es)) ρ=(ev P C false (.tup es) ρ).flow lH:=rfl
theorem aA4{es:List E}:ex P C W (.ret (.lst es)) ρ=(ev P C false (.lst es) ρ).flow lH:=rfl
theorem ZF{op:Operator}{a b:E}:ex P C W (.ret (.bin op a b)) ρ=(ev P C false (.bin op a b) ρ).flow lH:=rfl
theorem aBC{a b:E}:ex P C W (.ret (.and a b)) ρ=(ev P C false (.and a b) ρ).flow lH:=rfl
theorem aD6{a b:E}:ex P C W (.ret (.ix a b)) ρ=(ev P C false (.ix a b) ρ).flow lH:=rfl
theorem XI{f:String}{es:List E}:ex P C W (.ret (.call f es)) ρ=(ev P C false (.call f es) ρ).flow lH:=rfl
theorem aCG{f:BI}{es:List E}:ex P C W (.ret (.bif f es)) ρ=(ev P C false (.bif f es) ρ).flow lH:=rfl
theorem T1{elt:E}{tg:List Nat}{k:ItK}{its cond:List E}{imp:List Nat}{nl:Nat}:ex P C W (.ret (.comp elt tg k its cond imp nl)) ρ=(ev P C false (.comp elt tg k its cond imp nl) ρ).flow lH:=rfl
noncomputable def kIf(P:aE)(C:Calls)(W:Nat)(a b:List S)(v:RV)(ρ:Env):bI:=match v with
 |.sh (.bl true)=>exs P C W a ρ
 |.sh (.bl false)=>exs P C W b ρ
 |_=>none
theorem aDs{a b:List S}{x:Bool}:kIf P C W a b (.sh (.bl x)) ρ=if x=true then exs P C W a ρ else exs P C W b ρ:=by cases x<;>rfl
theorem aB2{c:E}{a b:List S}:ex P C W (.ifs c a b) ρ=(ev P C true c ρ).flow (kIf P C W a b):=rfl
noncomputable def N3(P:aE)(C:Calls)(W:Nat)(tg:List Nat)(one:Bool)(body:List S)(ρ:Env):Option (List D×Option Nat)->bI
 |none=>none
 |some (ds,o)=>(dD (bN one tg) (exs P C W body) ds (aQ o ρ)).restore o ρ
theorem aDZ{tg:List Nat}{one:Bool}{body:List S}{ds:List D}{o:Option Nat}:N3 P C W tg one body ρ (some (ds,o))=(dD (bN one tg) (exs P C W body) ds (aQ o ρ)).restore o ρ:=rfl
noncomputable def aCT(P:aE)(C:Calls)(W:Nat)(tg:List Nat)(one:Bool)(k:ItK)(body:List S)(hs:List Hd)(ρ:Env):bI:=N3 P C W tg one body ρ (aN k hs ρ)
theorem aDi{tg:List Nat}{one:Bool}{k:ItK}{body:List S}{hs:List Hd}:aCT P C W tg one k body hs ρ=N3 P C W tg one body ρ (aN k hs ρ):=rfl
theorem ZS{tg:List Nat}{one:Bool}{k:ItK}{its:List E}{body:List S}:ex P C W (.for tg one k its body) ρ=(cA P C its ρ).flow (aCT P C W tg one k body):=rfl
theorem Z7{c:E}{body:List S}:ex P C W (.whl c body) ρ=iM (ev P C true c) (exs P C W body) W ρ:=rfl
theorem oK:exs P C W [] ρ=some (.nx,ρ):=rfl
theorem dH{s:S}{r:List S}:exs P C W (s::r) ρ=(ex P C W s ρ).next (exs P C W r):=rfl
theorem VA{r:bI}{ρ0:Env}:r.restore none ρ0=r:=by cases r with | none=>rfl | some y=>obtain⟨fl,ρ⟩:=y;rfl
theorem YI:aQ none ρ=ρ:=rfl
theorem BB{a:Hd}{n:Int}(h:a.get ρ=some (.int n))(h1:-1000000<=n)(h2:n<=1000000):aN .rng [a] ρ=some ((List.range n.toNat).map λ(j:Nat)=>.int (j:Int),none):=by
 simp only[aN,h];exact Zo ⟨h1,h2⟩
theorem BF{v:RV}{ds:List D}(h:v.d=.lst ds):aN .of [.val v] ρ=some (ds,none):=by simp only[aN,h]
theorem RN{v:RV}{ds:List D}(h:v.d=.tup ds):aN .of [.val v] ρ=some (ds,none):=by simp only[aN,h]
theorem aEP{i:Nat}{ds:List D}(h:ρ[i]?=some (.sh (.lst ds))):aN .of [.slot i] ρ=some (ds,none):=by simp only[aN,h]
theorem aDU{i:Nat}{ds:List D}{p l:Bool}(h:ρ[i]?=some (.ow (.lst ds) p l)):aN .of [.slot i] ρ=some (ds,some i):=by simp only[aN,h]
theorem MX{bind:D->Env->Option Env}{body:Env->bI}(I:Env->Prop){ds:List D}(h:∀d∈ds,∀ρ,I ρ->∃ρ1,bind d ρ=some ρ1/\∃ρ2,body ρ1=some (.nx,ρ2)/\I ρ2):∀{ρ:Env},I ρ->∃ρ',dD bind body ds ρ=some (.nx,ρ')/\I ρ':=by
 induction ds with
 |nil=>exact λhρ=>⟨_,rfl,hρ⟩
 |cons d ds ih =>
  intro ρ hρ;obtain⟨ρ1,e1,ρ2,e2,h2⟩:=h d (by simp) ρ hρ;obtain⟨ρ',e3,h3⟩:=ih (λd' hd'=>h d' (by simp[hd'])) h2;exact⟨ρ',by simp only[dD,e1,e2,e3],h3⟩
theorem kP{bind:D->Env->Option Env}{body:Env->bI}(I:List D->Env->Prop){ds:List D}(h:∀pre d post,ds=pre++d::post->∀ρ,I pre ρ->∃ρ1,bind d ρ=some ρ1/\∃ρ2,body ρ1=some (.nx,ρ2)/\I (pre++[d]) ρ2){ρ:Env}(h0:I [] ρ):∃ρ',dD bind body ds ρ=some (.nx,ρ')/\I ds ρ':=by
 have key:∀(post pre:List D) (ρ:Env),ds=pre++post->I pre ρ->∃ρ',dD bind body post ρ=some (.nx,ρ')/\I ds ρ':=by
  intro post
  induction post with
  |nil=>intro pre ρ e hp;rw[List.append_nil] at e;subst e;exact⟨ρ,rfl,hp⟩
  |cons d post ih =>
   intro pre ρ e hp;obtain⟨ρ1,e1,ρ2,e2,h2⟩:=h pre d post e ρ hp;obtain⟨ρ',e3,h3⟩:=ih (pre++[d]) ρ2 (by rw[e];simp) h2;exact⟨ρ',by simp only[dD,e1,e2,e3],h3⟩
 exact key ds [] ρ rfl h0
noncomputable def NR(as:List Sl):bI->aF RV
 |some (.nx,ρ)=>some (.ok (.sh .non),back as ρ)
 |some (.rt v,ρ)=>some (.ok v,back as ρ)
 |_=>none
theorem FF{as:List Sl}{v:RV}:NR as (some (.rt v,ρ))=some (.ok v,back as ρ):=rfl
theorem cU{T:fG}{n:Nat}{f:String}{as:List Sl}{fn:Fn}(hT:T f=some fn)(h1:as.length=fn.pins.length)(h2:as.all jP=true)(h3:fn.rs=false:=by rfl):run T W (n+1) f as=NR as (exs T.pins (run T W n) W fn.body (as++List.replicate fn.nl .un)):=by
 simp only[run,hT];rw[Zo ⟨h1,h2⟩,h3];generalize exs T.pins (run T W n) W fn.body (as++List.replicate fn.nl .un)=r;obtain _ | ⟨fl,ρ⟩:=r
 ·rfl
 ·cases fl<;>rfl
noncomputable def nL(T:fG)(W n:Nat)(fn:Fn)(as:List Sl):Option (Exc×Env):=dO T.pins (run T W n) W fn.body (as++List.replicate fn.nl .un)
noncomputable def JZ(as:List Sl)(r:bI)(o:Option (Exc×Env)):aF RV:=match r with
 |some (.nx,ρ)=>some (.ok (.sh .non),back as ρ)
 |some (.rt v,ρ)=>some (.ok v,back as ρ)
 |_=>match o with
  |some (x,ρ)=>some (.ex x,back as ρ)
  |none=>none
theorem OQ{as:List Sl}{v:RV}{o:Option (Exc×Env)}:JZ as (some (.rt v,ρ)) o=some (.ok v,back as ρ):=rfl
theorem T8{as:List Sl}{o:Option (Exc×Env)}:JZ as none o=(match o with | some (x,ρ)=>some (.ex x,back as ρ) | none=>none):=rfl
theorem xO{T:fG}{n:Nat}{f:String}{as:List Sl}{fn:Fn}(hT:T f=some fn)(h1:as.length=fn.pins.length)(h2:as.all jP=true)(h3:fn.rs=true:=by rfl):run T W (n+1) f as=JZ as (exs T.pins (run T W n) W fn.body (as++List.replicate fn.nl .un)) (nL T W n fn as):=by
 simp only[run,hT];rw[Zo ⟨h1,h2⟩,h3];unfold nL;generalize exs T.pins (run T W n) W fn.body (as++List.replicate fn.nl .un)=r;obtain _ | ⟨fl,ρ⟩:=r
 ·rfl
 ·cases fl<;>rfl
end
end CI
namespace CI
open PySem PySem.Spec PyProof.Rows L2
noncomputable def BH:D->Value->Bool
 |.non,.none=>true
 |.bl a,.bool b=>a==b
 |.int i,.int j _=>i==j
 |.str x,.str y _=>x==y&&PyData.strOk x
 |_,_=>false
noncomputable def nD:List D->List Value->Bool
 |[],[]=>true
 |d::ds,v::vs=>BH d v&&nD ds vs
 |_,_=>false
theorem CP{K:Frag}{d:D}{u:Value}(h:BH d u=true):∃v,aU v u/\∀G,aC K G d v:=by
 cases d<;>cases u<;>simp only[BH,Bool.false_eq_true] at h
 ·exact⟨.non,rfl,λG=>by simp[aC]⟩
 ·exact⟨.bl _,rfl,λG=>by simp[aC,Zy h]⟩
 ·rename_i i j t;exact⟨.int i,⟨t,by rw[Zy h]⟩,λG=>by simp[aC]⟩
 ·rename_i x y t;rw[ZB] at h;exact⟨.str x,⟨t,by rw[Zy h.1]⟩,λG=>by simp[aC,h.2]⟩
theorem zZ{K:Frag}:∀{ds:List D} {us:List Value},nD ds us=true->∃vs,aL vs us/\∀G,aB K G ds vs
 |[],[],_=>⟨[],.nil,λG=>aB.nil⟩
 |d::ds,u::us,h=>by
  simp only[nD,ZB] at h;obtain⟨v,h1,h2⟩:=CP (K:=K) h.1;obtain⟨vs,h3,h4⟩:=zZ (K:=K) h.2;exact⟨v::vs,.cons h1 h3,λG=>aB.cons (h2 G) (h4 G)⟩
 |[],_::_,h=>by simp[nD] at h
 |_::_,[],h=>by simp[nD] at h
def BG(K:Frag)(d:D)(u:Value):Prop:=∃v,aU v u/\∀G,aC K G d v
def yB(K:Frag)(ds:List D)(us:List Value):Prop:=∃vs,aL vs us/\∀G,aB K G ds vs
theorem aCZ{K:Frag}{d:D}{u:Value}(h:BH d u=true):BG K d u:=CP h
theorem sW{K:Frag}:yB K [] []:=⟨[],.nil,λ_=>aB.nil⟩
theorem kS{K:Frag}{d:D}{ds:List D}{u:Value}{us:List Value}(h:BG K d u)(t:yB K ds us):yB K (d::ds) (u::us):=let ⟨v,h1,h2⟩:=h;let ⟨vs,h3,h4⟩:=t;⟨v::vs,.cons h1 h3,λG=>aB.cons (h2 G) (h4 G)⟩
theorem rT{K:Frag}{a:Addr}{its:Array Value}{n:Nat}{dd:Option Addr}{sl}{ds:List D}(hl:K.lookup a=some ⟨.type "tuple",dd,.seq its n,sl⟩)(hc:yB K ds its.toList)(hz:decide (its.size<=1000)=true):BG K (.tup ds) (.ref a):=by
 obtain⟨vs,h1,h2⟩:=hc;refine⟨.ref a,rfl,λG=>?_⟩;simp only[aC];exact⟨a,vs,rfl,.inr ⟨_,its,n,hl,rfl,rfl,Zr (of_decide_eq_true hz) (by decide),h1⟩,h2 G⟩
theorem UZ{K:Frag}{mg:Str->Option Value}{h:Heap}{T:fG}{gl:Str->GV}{x:Str}{a:Addr}{d:D}(X:K.In h)(G:h.Ns mainGlobals mg)(ha:nsIn K mainGlobals x=some (some (.ref a)))(c:BG K d (.ref a)):bZ K mg T gl (x,.con d):=by
 obtain⟨v,h1,h2⟩:=c;exact⟨_,v,PySem.W.mg_of X G ha,h1,h2⟩
theorem GF{K:Frag}{mg:Str->Option Value}{h:Heap}{T:fG}{gl:Str->GV}{x:Str}{a:Addr}{its:Array Value}{n:Nat}{dd:Option Addr}{sl}{ds:List D}(X:K.In h)(G:h.Ns mainGlobals mg)
  (ha:nsIn K mainGlobals x=some (some (.ref a))) (hl:K.lookup a=some ⟨.type "tuple",dd,.seq its n,sl⟩) (hc:nD ds its.toList=true) (hz:decide (its.size<=1000)=true):bZ K mg T gl (x,.con (.tup ds)):=by
 obtain⟨vs,h1,h2⟩:=zZ (K:=K) hc;refine⟨_,.ref a,PySem.W.mg_of X G ha,rfl,λG=>?_⟩;simp only[aC];exact⟨a,vs,rfl,.inr ⟨_,its,n,hl,rfl,rfl,Zr (of_decide_eq_true hz) (by decide),h1⟩,h2 G⟩
noncomputable section
variable{P:aE}{C:Calls}{t:Bool}{ρ ρ1:Env}
noncomputable def JC(P:aE)(C:Calls)(elt:E)(tg:List Nat)(k:ItK)(cond:List E)(imp:List Nat)(nl:Nat)(hs:List Hd)(ρ1:Env):aF RV :=
 match aN k hs ρ1 with
 |none=>none
 |some (ds,o)=>(cW (imp.map λ_=>true) (pK (fB P C cond) (ev P C false elt) (bN (tg.length==1) tg) ds nl) (imp.map Hd.slot) (aQ o ρ1)).bind (kZ o ρ1)
theorem YH{elt:E}{tg:List Nat}{k:ItK}{its cond:List E}{imp:List Nat}{nl:Nat}:ev P C t (.comp elt tg k its cond imp nl) ρ=bH t ((cA P C its ρ).bind (JC P C elt tg k cond imp nl)):=rfl
theorem iF{elt:E}{tg:List Nat}{k:ItK}{cond:List E}{imp:List Nat}{nl:Nat}{hs:List Hd}{ds:List D}(h:aN k hs ρ1=some (ds,none)) :
  JC P C elt tg k cond imp nl hs ρ1=(cW (imp.map λ_=>true) (pK (fB P C cond) (ev P C false elt) (bN (tg.length==1) tg) ds nl) (imp.map Hd.slot) ρ1).bind (kZ none ρ1):=by
 unfold JC;rw[h];rfl
theorem LL{v:RV}{ρ2:Env}:kZ none ρ1 v ρ2=some (.ok v,ρ2):=rfl
noncomputable def J6(as:List Sl)(acc:List D)(ρi:Env):aF RV:=if aR acc.length then some (.ok (.ow (.lst acc)),back as ρi) else none
theorem sV{tests elt:Env->aF RV}{bind:D->Env->Option Env}{ds:List D}{nl:Nat}{as:List Sl}(h:as.all jP=true):pK tests elt bind ds nl as=(fQ tests elt bind ds [] (as++List.replicate nl .un)).bind (J6 as):=by
 unfold pK;rw[Zo h];rfl
theorem ZU{as:List Sl}{acc:List D}{ρi:Env}(h:aR acc.length=true):J6 as acc ρi=some (.ok (.ow (.lst acc)),back as ρi):=by unfold J6;rw[Zo h]
theorem lE:fB P C [] ρ=some (.ok (.sh (.bl true)),ρ):=rfl
noncomputable def kTs(P:aE)(C:Calls)(es:List E)(v:RV)(ρ1:Env):aF RV:=match v with
 |.sh (.bl true)=>fB P C es ρ1
 |.sh (.bl false)=>some (.ok (.sh (.bl false)),ρ1)
 |_=>none
theorem MK{e:E}{es:List E}:fB P C (e::es) ρ=(ev P C true e ρ).bind (kTs P C es):=rfl
theorem aD9{b:Bool}:kTs P C [] (.sh (.bl b)) ρ1=some (.ok (.sh (.bl b)),ρ1):=by
 cases b
 ·rfl
 ·show fB P C [] ρ1=_;exact lE
theorem N7{d:D}{l:Bool}:jP (.ow d true l)=true:=rfl
theorem PD{d:D}:jP (.sh d)=true:=rfl
theorem iG{tests elt:Env->aF RV}{bind:D->Env->Option Env}{ds:List D}(I:Nat->List D->Env->Prop)
  (step:∀(j:Nat) (d:D),ds[j]?=some d->∀acc ρ,I j acc ρ->∃ρ1 c ρ2,bind d ρ=some ρ1/\tests ρ1=some (.ok (.sh (.bl c)),ρ2)/\(c=true->∃v ρ3,elt ρ2=some (.ok v,ρ3)/\I (j+1) (acc++[v.d]) ρ3)/\(c=false->I (j+1) acc ρ2)) :
  ∀acc ρ,I 0 acc ρ->∃acc' ρ',fQ tests elt bind ds acc ρ=some (.ok acc',ρ')/\I ds.length acc' ρ'/\acc'.length<=acc.length+ds.length:=by
 have key:∀(es:List D) (j:Nat),ds.drop j=es->∀acc ρ,I j acc ρ->∃acc' ρ',fQ tests elt bind es acc ρ=some (.ok acc',ρ')/\I (j+es.length) acc' ρ'/\acc'.length<=acc.length+es.length:=by
  intro es
  induction es with
  |nil=>intro j _ acc ρ h;exact⟨acc,ρ,rfl,h,by simp⟩
  |cons d es ih =>
   intro j hj acc ρ h
   have hd:ds[j]?=some d:=by
    have:(ds.drop j)[0]?=some d:=by rw[hj];rfl
    simpa using this
   have hj':ds.drop (j+1)=es:=by
    have:(ds.drop j).drop 1=es:=by rw[hj];rfl
    rw[List.drop_drop] at this;exact this
   obtain⟨ρ1,c,ρ2,h1,h2,h3,h4⟩:=step j d hd acc ρ h;simp only[fQ,h1,h2,aF.bind]
   cases c with
   |false =>
    obtain⟨acc',ρ',e1,e2,e3⟩:=ih (j+1) hj' acc ρ2 (h4 rfl);refine⟨acc',ρ',e1, ?_,by simp only[Zk];omega⟩
    have:j+(d::es).length=j+1+es.length:=by simp only[Zk];omega
    rw[this];exact e2
   |true =>
    obtain⟨v,ρ3,h5,h6⟩:=h3 rfl;obtain⟨acc',ρ',e1,e2,e3⟩:=ih (j+1) hj' (acc++[v.d]) ρ3 h6;simp only[h5];refine⟨acc',ρ',e1, ?_,by simp only[Za,Zk,List.length_nil] at e3 ⊢;omega⟩
    have:j+(d::es).length=j+1+es.length:=by simp only[Zk];omega
    rw[this];exact e2
 intro acc ρ h
 have:=key ds 0 rfl acc ρ h
 simpa using this
theorem Q3{f:String}{es:List E}:vB P C (.call f es) ρ=(ev P C false (.call f es) ρ).bind xV:=rfl
theorem dI{n:Nat}(h:n<=1000000):aR n=true:=dX h
end
end CI
namespace CI
open PySem (Operator CmpOp Str)
noncomputable section
variable{P:aE}{C:Calls}{W:Nat}{t:Bool}{ρ ρ1 ρ2:Env}
def oS(sn:List (List PySem.Str×List PySem.Str))(o:Option D):Option RV:=o.bind (QE sn)
def aAe(sn:List (List PySem.Str×List PySem.Str))(x:Hd)(ρ:Env):aF RV:=done (oS sn (x.get ρ)) ρ
theorem aDQ{sn:List (List PySem.Str×List PySem.Str)}{x:Hd}:aAe sn x ρ=done (oS sn (x.get ρ)) ρ:=rfl
theorem aCp{a:E}{sn:List (List PySem.Str×List PySem.Str)}:ev P C t (.isX a sn) ρ=bH t ((dW P C a ρ).bind (aAe sn)):=rfl
noncomputable def RT(P:aE)(C:Calls)(W:Nat)(cs:List PySem.Str)(i:Nat)(ss:List S)(r:bI)(o:Option (Exc×Env)):bI:=match r with
 |some (.nx,ρ1)=>some (.nx,ρ1)
 |_=>match o4 cs i o with
  |some ρ2=>vJ i (exs P C W ss ρ2)
  |none=>none
theorem YD{b ss:List S}{cs:List PySem.Str}{i:Nat}:ex P C W (.tryB b cs i ss) ρ=RT P C W cs i ss (exs P C W b ρ) (dO P C W b ρ):=rfl
noncomputable def kTk(P:aE)(C:Calls)(W:Nat)(i:Nat)(ss:List S)(o:Option Env):bI:=match o with
 |some ρ2=>vJ i (exs P C W ss ρ2)
 |none=>none
theorem QZ{ss:List S}{cs:List PySem.Str}{i:Nat}{x:Exc}{o:Option (Exc×Env)}:RT P C W cs i ss (some (.ex x,ρ)) o=kTk P C W i ss (o4 cs i o):=rfl
theorem aFG{ss:List S}{i:Nat}:kTk P C W i ss (some ρ)=vJ i (exs P C W ss ρ):=rfl
noncomputable def kAX(r:aF Hd)(f:Env->Option (Exc×Env))(o:Option (Exc×Env)):Option (Exc×Env):=match r with
 |some (.ok _,ρ1)=>f ρ1
 |_=>o
theorem K8{e:E}{es:List E}:o6 P C (e::es) ρ=kAX (dW P C e ρ) (o6 P C es) (rD P C e ρ):=rfl
theorem aAX{h:Hd}{f:Env->Option (Exc×Env)}{o:Option (Exc×Env)}:kAX (some (.ok h,ρ)) f o=f ρ:=rfl
theorem RQ{cs:List PySem.Str}{i:Nat}{c:PySem.Str}(h:cs.contains c=true):o4 cs i (some (⟨c⟩,ρ))=store i (.sh (.exn c)) ρ:=by unfold o4;exact Zo h
def RW(i:Nat)(ρ:Env):Option Sl->bI
 |some (.sh _)=>some (.nx,ρ.set i .mv)
 |_=>none
theorem aEQ{i:Nat}:vJ i (some (.nx,ρ))=RW i ρ ρ[i]?:=rfl
theorem RC{i:Nat}{d:D}:RW i ρ (some (.sh d))=some (.nx,ρ.set i .mv):=rfl
theorem aDu{α:Type}{x:Exc}{f:α->Env->bI}:aF.flow (some (.ex x,ρ)) f=some (.ex x,ρ):=rfl
theorem aDN{x:Exc}{f:Env->bI}:bI.next (some (.ex x,ρ)) f=some (.ex x,ρ):=rfl
theorem VS{f:Env->bI}:bI.next none f=none:=rfl
theorem aBL{c:PySem.Str}{es:List E}:ex P C W (.rse c es) ρ=none:=rfl
noncomputable def TB(r:bI)(f:Env->Option (Exc×Env))(o:Option (Exc×Env)):Option (Exc×Env):=match r with
 |some (.nx,ρ1)=>f ρ1
 |_=>o
theorem AR{s:S}{r:List S}:dO P C W (s::r) ρ=TB (ex P C W s ρ) (dO P C W r) (fY P C W s ρ):=rfl
theorem aCd{f:Env->Option (Exc×Env)}{o:Option (Exc×Env)}:TB (some (.nx,ρ)) f o=f ρ:=rfl
theorem aE6{f:Env->Option (Exc×Env)}{o:Option (Exc×Env)}:TB none f o=o:=rfl
theorem aBb{x:Exc}{f:Env->Option (Exc×Env)}{o:Option (Exc×Env)}:TB (some (.ex x,ρ)) f o=o:=rfl
noncomputable def kIX(r:aF RV)(f g:Env->Option (Exc×Env)):Option (Exc×Env):=match r with
 |some (.ok (.sh (.bl true)),ρ1)=>f ρ1
 |some (.ok (.sh (.bl false)),ρ1)=>g ρ1
 |_=>none
theorem UN{c:E}{a b:List S}:fY P C W (.ifs c a b) ρ=kIX (ev P C true c ρ) (dO P C W a) (dO P C W b):=rfl
theorem aDL{f g:Env->Option (Exc×Env)}:kIX (some (.ok (.sh (.bl true)),ρ)) f g=f ρ:=rfl
theorem aDV{f g:Env->Option (Exc×Env)}:kIX (some (.ok (.sh (.bl false)),ρ)) f g=g ρ:=rfl
noncomputable def kRX(c:PySem.Str)(r:aF (List D)):Option (Exc×Env):=match r with
 |some (.ok _,ρ1)=>some (⟨c⟩,ρ1)
 |_=>none
theorem XZ{c:PySem.Str}{es:List E}:fY P C W (.rse c es) ρ=kRX c (iK P C es ρ):=rfl
theorem aGn{c:PySem.Str}{ds:List D}:kRX c (some (.ok ds,ρ))=some (⟨c⟩,ρ):=rfl
theorem XX{i:Nat}{e:E}:fY P C W (.asg i e) ρ=rD P C e ρ:=rfl
theorem Q7{e:E}:fY P C W (.expr e) ρ=rD P C e ρ:=rfl
def kDX(r:aF RV):Option (Exc×Env):=match r with
 |some (.ex x,ρ')=>some (x,ρ')
 |_=>none
theorem aGh{x:Exc}:kDX (some (.ex x,ρ))=some (x,ρ):=rfl
noncomputable def kCX(P:aE)(C:Calls)(f:String)(r:aF (List Hd))(o:Option (Exc×Env)):Option (Exc×Env):=match r with
 |some (.ok hs,ρ1)=>kDX (cW (P f) (C f) hs ρ1)
 |_=>o
theorem MC{f:String}{es:List E}:rD P C (.call f es) ρ=kCX P C f (cA P C es ρ) (o6 P C es ρ):=rfl
theorem aF6{f:String}{hs:List Hd}{o:Option (Exc×Env)}:kCX P C f (some (.ok hs,ρ)) o=kDX (cW (P f) (C f) hs ρ):=rfl
theorem WC{c:PySem.Str}:C9 [.verr] (some (.exn c))=some (.sh (.bl true)):=rfl
theorem y3{sn:List (List PySem.Str×List PySem.Str)}{c:PySem.Str}{b:Bool}(h:vS c sn=some b):oS sn (some (.exn c))=some (.sh (.bl b)):=by
 show(vS c sn).map _=_;rw[h];rfl
theorem WK{a:E}{f:Str}:dW P C (.fld a f) ρ=(ev P C false (.fld a f) ρ).bind iU:=rfl
theorem OJ{i:Nat}{m:Str}{tb:List (Str×String)}{es:List E}:dW P C (.meth i m tb es) ρ=(ev P C false (.meth i m tb es) ρ).bind iU:=rfl
theorem YG{a:E}:vB P C (.neg a) ρ=(ev P C false (.neg a) ρ).bind xV:=rfl
def yW(o:Option D)(f:Str):Option RV:=o.bind λd=>(PX d f).map .sh
def ZT(f:Str)(x:Hd)(ρ:Env):aF RV:=done (yW (x.get ρ) f) ρ
theorem aDG{f:Str}{x:Hd}:ZT f x ρ=done (yW (x.get ρ) f) ρ:=rfl
theorem ZP{a:E}{f:Str}:ev P C t (.fld a f) ρ=bH t ((dW P C a ρ).bind (ZT f)):=rfl
noncomputable def IC(c:Str)(ns:List Str)(ds:List D)(ρ:Env):aF RV:=if ds.length=ns.length then some (.ok (.sh (.ins c ns ds)),ρ) else none
theorem VX{c:Str}{ns:List Str}{es:List E}:ev P C t (.make c ns es) ρ=bH t ((iK P C es ρ).bind (IC c ns)):=rfl
theorem VE{c f:Str}{a:D}:IC c [f] [a] ρ=some (.ok (.sh (.ins c [f] [a])),ρ):=rfl
theorem WW{c f g:Str}{a b:D}:IC c [f,g] [a,b] ρ=some (.ok (.sh (.ins c [f,g] [a,b])),ρ):=rfl
noncomputable def J5(P:aE)(C:Calls)(f:String)(d:D)(hs:List Hd)(ρ:Env):aF RV:=BD P C f (.val (.sh d)::hs) ρ
theorem aBX{f:String}{d:D}{hs:List Hd}:J5 P C f d hs ρ=BD P C f (.val (.sh d)::hs) ρ:=rfl
noncomputable def JR(P:aE)(C:Calls)(d:D)(es:List E)(ρ:Env):Option String->aF RV
 |some f=>(cA P C es ρ).bind (J5 P C f d)
 |none=>none
theorem Y7{f:String}{d:D}{es:List E}:JR P C d es ρ (some f)=(cA P C es ρ).bind (J5 P C f d):=rfl
noncomputable def aCt(P:aE)(C:Calls)(m:Str)(tb:List (Str×String))(es:List E)(ρ:Env):Option Sl->aF RV
 |some (.sh (.ins c ns ds))=>JR P C (.ins c ns ds) es ρ (iJ c ns m tb)
 |_=>none
theorem aEy{m:Str}{tb:List (Str×String)}{es:List E}{c:Str}{ns:List Str}{ds:List D}:aCt P C m tb es ρ (some (.sh (.ins c ns ds)))=JR P C (.ins c ns ds) es ρ (iJ c ns m tb):=rfl
theorem T5{i:Nat}{m:Str}{tb:List (Str×String)}{es:List E}:ev P C t (.meth i m tb es) ρ=bH t (aCt P C m tb es ρ ρ[i]?):=rfl
theorem U4{c:Str}{ns:List Str}{es:List E}:ex P C W (.ret (.make c ns es)) ρ=(ev P C false (.make c ns es) ρ).flow lH:=rfl
theorem zg0{α:Type}{a:α}{l:List α}:(a::l)[0]?=some a:=rfl
theorem zg1{α:Type}{a:α}{l:List α}{n:Nat}:(a::l)[n+1]?=l[n]?:=rfl
theorem zs0{α:Type}{a b:α}{l:List α}:(a::l).set 0 b=b::l:=rfl
theorem zs1{α:Type}{a b:α}{l:List α}{n:Nat}:(a::l).set (n+1) b=a::l.set n b:=rfl
theorem zb{α β:Type}{a:α}{f:α->Option β}:(some a).bind f=f a:=rfl
theorem zm{α β:Type}{a:α}{f:α->β}:(some a).map f=some (f a):=rfl
theorem zi{α:Type}{a:α}:(some a).isSome=true:=rfl
theorem zc{α:Type}{a:α}{l m:List α}:(a::l)++m=a::(l++m):=rfl
theorem zn{α:Type}{l:List α}:[]++l=l:=rfl
theorem zr0{α:Type}{a:α}:List.replicate 0 a=[]:=rfl
theorem zr1{α:Type}{a:α}{n:Nat}:List.replicate (n+1) a=a::List.replicate n a:=rfl
theorem zl0{α:Type}:([]:List α).length=0:=rfl
theorem zl1{α:Type}{a:α}{l:List α}:(a::l).length=l.length+1:=rfl
theorem znt:(!true)=false:=rfl
theorem znf:(!false)=true:=rfl
theorem zko{d:D}{p l:Bool}{as:List Sl}{b:Sl}{bs:Env}:back (.ow d p l::as) (b::bs)=b::back as bs:=rfl
theorem zks{d:D}{as:List Sl}{b:Sl}{bs:Env}:back (.sh d::as) (b::bs)=.sh d::back as bs:=rfl
theorem zkn{bs:Env}:back [] bs=[]:=rfl
end
theorem aFP{α:Type}{Q:List α->Prop}(h:∀a0,Q [a0])(us:List α)(hl:us.length=1):Q us:=by
 obtain _ | ⟨a0,r0⟩:=us
 ·simp at hl
 obtain _ | ⟨x,y⟩:=r0
 ·exact h a0
 ·simp at hl
theorem aFI{α:Type}{Q:List α->Prop}(h:∀a0 a1,Q [a0,a1])(us:List α)(hl:us.length=2):Q us:=by
 obtain _ | ⟨a0,r0⟩:=us
 ·simp at hl
 obtain _ | ⟨a1,r1⟩:=r0
 ·simp at hl
 obtain _ | ⟨x,y⟩:=r1
 ·exact h a0 a1
 ·simp at hl
theorem aGO{α:Type}{Q:List α->Prop}(h:∀a0 a1 a2,Q [a0,a1,a2])(us:List α)(hl:us.length=3):Q us:=by
 obtain _ | ⟨a0,r0⟩:=us
 ·simp at hl
 obtain _ | ⟨a1,r1⟩:=r0
 ·simp at hl
 obtain _ | ⟨a2,r2⟩:=r1
 ·simp at hl
 obtain _ | ⟨x,y⟩:=r2
 ·exact h a0 a1 a2
 ·simp at hl
theorem aGB{α:Type}{Q:List α->Prop}(h:∀a0 a1 a2 a3,Q [a0,a1,a2,a3])(us:List α)(hl:us.length=4):Q us:=by
 obtain _ | ⟨a0,r0⟩:=us
 ·simp at hl
 obtain _ | ⟨a1,r1⟩:=r0
 ·simp at hl
 obtain _ | ⟨a2,r2⟩:=r1
 ·simp at hl
 obtain _ | ⟨a3,r3⟩:=r2
 ·simp at hl
 obtain _ | ⟨x,y⟩:=r3
 ·exact h a0 a1 a2 a3
 ·simp at hl
theorem aFK{α:Type}{Q:List α->Prop}(h:∀a0 a1 a2 a3 a4,Q [a0,a1,a2,a3,a4])(us:List α)(hl:us.length=5):Q us:=by
 obtain _ | ⟨a0,r0⟩:=us
 ·simp at hl
 obtain _ | ⟨a1,r1⟩:=r0
 ·simp at hl
 obtain _ | ⟨a2,r2⟩:=r1
 ·simp at hl
 obtain _ | ⟨a3,r3⟩:=r2
 ·simp at hl
 obtain _ | ⟨a4,r4⟩:=r3
 ·simp at hl
 obtain _ | ⟨x,y⟩:=r4
 ·exact h a0 a1 a2 a3 a4
 ·simp at hl
open PySem PySem.Spec PyProof.Rows L2 in
def BQ(x qual:PySem.Str)(st:PySem.Stmt)(kV doc pm:PySem.Value)(an:Option PySem.Addr)(cdv ct:PySem.Value)(us:List PySem.Value):Prop:=PySem.bindArgs (PySem.W.fnOf x qual (eL st) (bW st) (aT st) .none kV doc pm an cdv ct) ⟨us,[]⟩=pure ((cT st).zip us)
theorem fc{α:Type}{P:α->Prop}{a:α}{l:List α}(h:P a)(t:∀x∈l,P x):∀x∈a::l,P x:=List.forall_mem_cons.mpr ⟨h,t⟩
section
open PySem PySem.Spec PyProof.Rows L2
abbrev Sc4(st:Stmt):Prop:=(xX st).Nodup/\(xX st).take (cT st).length=cT st/\(∀x∈cT st,(aT st).names.lookup x=some .local\/(aT st).names.lookup x=some .cell)/\∀y∈(aT st).names,y.2≠.free
abbrev BR(x qual:PySem.Str)(st:PySem.Stmt):Prop:=∀(kV doc pm:PySem.Value) (an:Option PySem.Addr) (cdv ct:PySem.Value) (us:List PySem.Value),us.length=(cT st).length->BQ x qual st kV doc pm an cdv ct us
theorem cX{gl:PySem.Str->GV}{st:Stmt}{x qual:PySem.Str}{fn:Fn}(h1:(aT st).kind=.function)(h2:(aT st).isCoroutine=false)(h3:(aT st).isGenerator=false)(h:Sc4 st/\(xX st).length=fn.pins.length+fn.nl/\(cT st).length=fn.pins.length)(b:fn.body=CO gl st)(q:BR x qual st):DefOkQ gl st x qual fn :=
 ⟨⟨h1,h2,h3,h.1.1,h.1.2.1,h.1.2.2.1,h.1.2.2.2⟩,b,h.2.1,h.2.2,q⟩
theorem C3{st:Stmt}{qual:PySem.Str}{ns:List PySem.Str}(h1:(aT st).kind=.function)(h2:(aT st).isCoroutine=false)(h3:(aT st).isGenerator=false)(h:Sc4 st/\(cT st).length=ns.length+1/\ns.Nodup/\ns.length<1000)(b:kN (cT st) 1 (bW st)=some ns)(q:BR "__init__" qual st):IniOk st qual ns :=
 ⟨⟨h1,h2,h3,h.1.1,h.1.2.1,h.1.2.2.1,h.1.2.2.2⟩,b,h.2.1,h.2.2.1,h.2.2.2,q⟩
variable{x qual:PySem.Str}{st:Stmt}
theorem AU(hn:(cT st).length=1)(h:∀kV doc pm an cdv ct a0,BQ x qual st kV doc pm an cdv ct [a0]):BR x qual st:=λkV doc pm an cdv ct us hl=>aFP (h kV doc pm an cdv ct) us (hl.trans hn)
theorem l4(hn:(cT st).length=2)(h:∀kV doc pm an cdv ct a0 a1,BQ x qual st kV doc pm an cdv ct [a0,a1]):BR x qual st:=λkV doc pm an cdv ct us hl=>aFI (h kV doc pm an cdv ct) us (hl.trans hn)
theorem pW(hn:(cT st).length=3)(h:∀kV doc pm an cdv ct a0 a1 a2,BQ x qual st kV doc pm an cdv ct [a0,a1,a2]):BR x qual st:=λkV doc pm an cdv ct us hl=>aGO (h kV doc pm an cdv ct) us (hl.trans hn)
theorem sI(hn:(cT st).length=4)(h:∀kV doc pm an cdv ct a0 a1 a2 a3,BQ x qual st kV doc pm an cdv ct [a0,a1,a2,a3]):BR x qual st:=λkV doc pm an cdv ct us hl=>aGB (h kV doc pm an cdv ct) us (hl.trans hn)
theorem bn5(hn:(cT st).length=5)(h:∀kV doc pm an cdv ct a0 a1 a2 a3 a4,BQ x qual st kV doc pm an cdv ct [a0,a1,a2,a3,a4]):BR x qual st:=λkV doc pm an cdv ct us hl=>aFK (h kV doc pm an cdv ct) us (hl.trans hn)
end
def ZN(v u:RV)(ρ:Env):aF RV:=M8 (eP v.d) u ρ
noncomputable def kD1(P:aE)(C:Calls)(b:E)(v:RV)(ρ:Env):aF RV:=(ev P C false b ρ).bind (ZN v)
theorem aGS{u:RV}{k:L2.bB}:M8 (some k) u ρ=some (.ok (.ow (.dcs [k] [u.d])),ρ):=rfl
theorem aF1{v u:RV}:ZN v u ρ=M8 (eP v.d) u ρ:=rfl
theorem aFW{b:E}{v:RV}:kD1 P C b v ρ=(ev P C false b ρ).bind (ZN v):=rfl
theorem P6{a b:E}:ev P C t (.dict1 a b) ρ=bH t ((ev P C false a ρ).bind (kD1 P C b)):=rfl
theorem vU:∀ns:List Int,fA (ns.map D.int)=some ns
 |[]=>rfl
 |n::r=>by(show(fA (r.map D.int)).map (n :: ·)=_;rw[vU r];rfl)
theorem RU{t:Int}{ns:List Int}:uX (.tup [.int t,.tup (ns.map D.int)])=some (t,ns):=by
 show(fA (ns.map D.int)).map _=_;rw[vU];rfl
theorem aBV{t u:Int}{ns ms:List Int}:eP (.tup [.tup [.int t,.tup (ns.map D.int)],.tup [.int u,.tup (ms.map D.int)]])=some (.inr ((t,ns),(u,ms))):=by
 show(uX _).bind _=_;rw[RU];show(uX _).map _=_;rw[RU];rfl
theorem aEK{ks:List L2.bB}{ds:List D}{e d:D}{k:L2.bB}(hk:eP e=some k)(h:jQ ks ds k=some d):gK (some (.dcs ks ds)) e=some (.sh d):=by
 show(((eP e).bind (jQ ks ds)).map RV.sh)=_;rw[hk];show((jQ ks ds k).map RV.sh)=_;rw[h];rfl
theorem aEn{ks:List L2.bB}{ds:List D}{e:D}{k:L2.bB}(hk:eP e=some k):cQ .NotIn e (.dcs ks ds)=some !nC ks k:=by
 show((eP e).map _).map _=_;rw[hk];rfl
theorem XH{ks:List L2.bB}{ds:List D}:lW .len [.dcs ks ds]=some (.sh (.int ks.length)):=rfl
end CI
namespace Tx
open PySem PySem.Spec PyProof.Rows L2 CI
noncomputable def top(i:Nat):Stmt:=PySem.Challenge.pw_canonwright_k52_houses_refused.main.body.getD i (.Pass ⟨0,0,0,0⟩)
noncomputable def sQ:List Str:=[]
noncomputable def rK:List Str:=["TooMany","Unlike","NoNumber"]
noncomputable def oP:List Str:=[]
noncomputable def oN:List Str:=["TooMany","Unlike","NoNumber"]
noncomputable def rM:List Str:=[]
noncomputable def rW:List Str:=["TooMany","Unlike","NoNumber"]
noncomputable def nA:List Str:=["NoNumber"]
noncomputable def mX:List Str:=["TooMany","Unlike"]
noncomputable def wC:List Str:=[]
noncomputable def wJ:List Str:=["TooMany","Unlike","NoNumber"]
noncomputable def tK:List Str:=[]
noncomputable def rQ:List Str:=["TooMany","Unlike","NoNumber"]
noncomputable def sR:List Str:=[]
noncomputable def sT:List Str:=["TooMany","Unlike","NoNumber"]
noncomputable def o7:List Str:=[]
noncomputable def oX:List Str:=["TooMany","Unlike","NoNumber"]
noncomputable def rV:List Str:=["Unlike"]
noncomputable def r6:List Str:=["TooMany","NoNumber"]
noncomputable def oW:List Str:=["TooMany"]
noncomputable def pD:List Str:=["Unlike","NoNumber"]
noncomputable def dZ:List Str:=["TooMany","Unlike","NoNumber"]
noncomputable def Q6:List (List Str×List Str):=[(sQ,rK),(oP,oN),(rM,rW),(nA,mX),(wC,wJ),(tK,rQ),(sR,sT),(o7,oX)]
noncomputable def OX:List (List Str×List Str):=[(rV,r6)]
noncomputable def QI:List (List Str×List Str):=[(oW,pD)]
noncomputable def gL:List (Str×String):=[("Span","Span.broken"),("Leap","Leap.broken"),("Back","Back.broken"),("Again","Again.broken"),("Range","Range.broken"),("Above","Above.broken"),("Never","Never.broken")]
noncomputable def gU:List (Str×String):=[("Span","Span.forbids"),("Range","Range.forbids")]
noncomputable def L:List (Str×GV):=[((Str.ofString "NOTES",GV.con (.int 0)):Str×GV),((Str.ofString "BAR",GV.con (.int 1)):Str×GV),((Str.ofString "OCTAVE",GV.con (.int 2)):Str×GV),((Str.ofString "VOICES",GV.con (.int 3)):Str×GV),((Str.ofString "RULES",GV.con (.int 4)):Str×GV),((Str.ofString "LATE",GV.con (.int 0)):Str×GV),((Str.ofString "SHIFT",GV.con (.int 1)):Str×GV),((Str.ofString "TURNED",GV.con (.int 2)):Str×GV),((Str.ofString "LEADER",GV.con (.tup [(.int 0),(.int 0),(.bl false)])):Str×GV),((Str.ofString "BY_THE_LINE",GV.con (.tup [])):Str×GV),((Str.ofString "TURN",GV.con (.int 0)):Str×GV),((Str.ofString "TAIL",GV.con (.int 1)):Str×GV),((Str.ofString "LEAST_MEMORY",GV.con (.int 3)):Str×GV),((Str.ofString "START",GV.con (.tup [(.tup [(.int 0),(.tup [])]),(.tup [(.int 0),(.tup [])])])):Str×GV),((Str.ofString "MOST_PAIRS",GV.con (.int 150)):Str×GV),((Str.ofString "is_whole",GV.fn "is_whole"):Str×GV),((Str.ofString "is_within",GV.fn "is_within"):Str×GV),((Str.ofString "pitch",GV.fn "pitch"):Str×GV),((Str.ofString "singer",GV.fn "singer"):Str×GV),((Str.ofString "sung",GV.fn "sung"):Str×GV),((Str.ofString "span",GV.fn "span"):Str×GV),((Str.ofString "chord",GV.fn "chord"):Str×GV),((Str.ofString "sounding_pairs",GV.fn "sounding_pairs"):Str×GV),((Str.ofString "move_so",GV.fn "move_so"):Str×GV),((Str.ofString "rule_of",GV.fn "rule_of"):Str×GV),((Str.ofString "rules_of",GV.fn "rules_of"):Str×GV),((Str.ofString "breaks_at",GV.fn "breaks_at"):Str×GV),((Str.ofString "memory",GV.fn "memory"):Str×GV),((Str.ofString "turn_of",GV.fn "turn_of"):Str×GV),((Str.ofString "stand_of",GV.fn "stand_of"):Str×GV),((Str.ofString "line_to",GV.fn "line_to"):Str×GV),((Str.ofString "nexts",GV.fn "nexts"):Str×GV),((Str.ofString "behind",GV.fn "behind"):Str×GV),((Str.ofString "pair_behind",GV.fn "pair_behind"):Str×GV),((Str.ofString "notes_of_both",GV.fn "notes_of_both"):Str×GV),((Str.ofString "lines_of_pairs",GV.fn "lines_of_pairs"):Str×GV),((Str.ofString "first_apart",GV.fn "first_apart"):Str×GV),((Str.ofString "compared",GV.fn "compared"):Str×GV),((Str.ofString "less",GV.fn "less"):Str×GV),((Str.ofString "needed",GV.fn "needed"):Str×GV),((Str.ofString "_law_pen",GV.fn "L_pen"):Str×GV),((Str.ofString "_law_draw",GV.fn "L_draw"):Str×GV),((Str.ofString "_law_rule",GV.fn "L_rule"):Str×GV),((Str.ofString "_law_house",GV.fn "L_house"):Str×GV),((Str.ofString "_law_heard",GV.fn "L_heard"):Str×GV),((Str.ofString "law",GV.fn "law"):Str×GV),((Str.ofString "Span",GV.cls ["beat","spans"]):Str×GV),((Str.ofString "Leap",GV.cls ["most"]):Str×GV),((Str.ofString "Back",GV.cls ["leap","most"]):Str×GV),((Str.ofString "Again",GV.cls ["most"]):Str×GV),((Str.ofString "Range",GV.cls ["low","high"]):Str×GV),((Str.ofString "Above",GV.cls ["one","other"]):Str×GV),((Str.ofString "Never",GV.cls ["one","other","way"]):Str×GV),((tQ "broken",GV.mth gL):Str×GV),((tQ "forbids",GV.mth gU):Str×GV),((Str.ofString "ValueError",GV.blt):Str×GV),((Str.ofString "abs",GV.blt):Str×GV),((Str.ofString "all",GV.blt):Str×GV),((Str.ofString "bool",GV.blt):Str×GV),((Str.ofString "enumerate",GV.blt):Str×GV),((Str.ofString "int",GV.blt):Str×GV),((Str.ofString "isinstance",GV.blt):Str×GV),((Str.ofString "len",GV.blt):Str×GV),((Str.ofString "list",GV.blt):Str×GV),((Str.ofString "max",GV.blt):Str×GV),((Str.ofString "range",GV.blt):Str×GV),((Str.ofString "sorted",GV.blt):Str×GV),((Str.ofString "tuple",GV.blt):Str×GV),((Str.ofString "TooMany",GV.exc):Str×GV),((Str.ofString "Unlike",GV.exc):Str×GV),((Str.ofString "NoNumber",GV.exc):Str×GV),((col "Broken",GV.subx sQ rK):Str×GV),((col "NoHouse",GV.subx oP oN):Str×GV),((col "NoNote",GV.subx rM rW):Str×GV),((col "NoNumber",GV.subx nA mX):Str×GV),((col "NoRow",GV.subx wC wJ):Str×GV),((col "NoRule",GV.subx tK rQ):Str×GV),((col "NoText",GV.subx sR sT):Str×GV),((col "NoVoice",GV.subx o7 oX):Str×GV),((col "Unlike",GV.subx rV r6):Str×GV),((col "TooMany",GV.subx oW pD):Str×GV),((zW "CanonError",GV.exs dZ):Str×GV)]
noncomputable def W2:Stmt->List Stmt
 |.ClassDef _ _ _ body _ _ _ _ _ _ _=>body
 |_=>[]
noncomputable def eK(i j:Nat):Stmt:=(W2 (top i)).getD j (.Pass ⟨0,0,0,0⟩)
noncomputable def oZ:E:=(.call "sung" [(.var 1),(.var 2),(.var 4),(.var 0)])
noncomputable def vY:E:=(.tup [(.var 4),(.var 5)])
noncomputable def gX:E:=(.cmp .Eq (.var 3) (.ix (.var 1) (.var 0)))
noncomputable def hE:E:=(.tup [(.var 2)])
noncomputable def j8:E:=(.call "rule_of" [(.var 1)])
noncomputable def mT:E:=(.ix (.var 1) (.con (.int 0)))
noncomputable def oQ:E:=(.var 4)
noncomputable def gM:E:=(.var 2)
noncomputable def rH:List S:=[(.ifs (.and (.cmp .IsNot (.ix (.var 0) (.var 2)) (.con .non)) (.cmp .IsNot (.ix (.var 0) (.var 3)) (.con .non))) [(.expr (.app 1 (.tup [(.var 2),(.var 3)])))] [])]
noncomputable def rJ:List S:=[(.for [3] true .rng [(.bin .Add (.var 2) (.con (.int 1))),(.bif .len [(.var 0)])] rH)]
noncomputable def uG:List S:=[(.ifs (.and (.cmp .Eq (.call "span" [(.var 4),(.ix (.var 5) (.var 8)),(.ix (.var 5) (.var 9))]) (.fld (.var 0) "one")) (.cmp .Eq (.call "span" [(.var 4),(.ix (.var 6) (.var 8)),(.ix (.var 6) (.var 9))]) (.fld (.var 0) "other"))) [(.ifs (.call "move_so" [(.fld (.var 0) "way"),(.bin .Sub (.ix (.var 6) (.var 8)) (.ix (.var 5) (.var 8))),(.bin .Sub (.ix (.var 6) (.var 9)) (.ix (.var 5) (.var 9)))]) [(.expr (.app 7 (.tup [(.var 8),(.var 9)])))] [])] [])]
noncomputable def iZ:List S:=[(.expr (.app 4 (.tup [(.var 3),(.var 5),(.var 7)])))]
noncomputable def jD:List S:=[(.for [7] true .of [(.meth 6 "broken" gL [(.var 0),(.var 2),(.var 3)])] iZ)]
noncomputable def cP:List S:=[(.asg 7 (.call "pair_behind" [(.var 0),(.var 1),(.var 5),(.var 6)])),(.ifs (.cmp .NotIn (.var 7) (.var 2)) [(.set 2 (.var 7) (.bin .Add (.ix (.var 2) (.var 5)) (.lst [(.var 6)]))),(.expr (.app 4 (.var 7)))] [])]
noncomputable def dF:List S:=[(.for [6] true .of [(.call "notes_of_both" [(.var 0),(.var 1),(.var 5)])] cP)]
noncomputable def aW:List S:=[(.asg 4 (.lst [])),(.for [5] true .of [(.var 3)] dF),(.ifs (.cmp .Gt (.bif .len [(.var 2)]) (.con (.int 150))) [(.rse "TooMany" [(.con (.str ("more than 150 pairs belong to lines that both houses let by":Str)))])] []),(.asg 3 (.var 4))]
noncomputable def AZ:List S:=[(.asg 4 (.call "first_apart" [(.var 0),(.var 1),(.var 3)])),(.ifs (.cmp .IsNot (.var 4) (.con .non)) [(.ret (.tup [(.con (.str ("apart":Str))),(.bin .Add (.ix (.var 2) (.var 3)) (.lst [(.ix (.var 4) (.con (.int 0)))])),(.ix (.var 4) (.con (.int 1)))]))] [])]
noncomputable def lU:List S:=[(.asg 8 (.call "L_draw" [(.var 0),(.ix (.lst [(.con (.int 2)),(.con (.int 5))]) (.bif .int [(.var 1)]))])),(.expr (.app 6 (.tup [(.var 8),(.bin .Sub (.call "L_draw" [(.var 0),(.con (.int 25))]) (.con (.int 12))),(.cmp .Eq (.call "L_draw" [(.var 0),(.con (.int 4))]) (.con (.int 0)))])))]
noncomputable def lF:List S:=[(.expr (.app 9 (.call "L_rule" [(.var 0),(.var 2),(.var 3),(.var 4),(.var 5)])))]
noncomputable def pA:List S:=[(.ifs (.or (.cmp .NotEq (.call "L_heard" [(.var 12),(.var 13),(.con .non)]) (.var 9)) (.cmp .NotEq (.call "L_heard" [(.var 13),(.var 12),(.con .non)]) (.var 9))) [(.ret (.con (.bl false)))] [])]
noncomputable def m9:S:=(.asg 5 (.call "L_draw" [(.var 0),(.con (.int 9))]))
theorem A5{P:aE}{C:Calls}{W:Nat}{ρ:CI.Env}:ex P C W m9 ρ=ex P C W (.asg 5 (.call "L_draw" [(.var 0),(.con (.int 9))])) ρ:=(rfl)
noncomputable def m8:S:=(.ifs (.cmp .Lt (.var 5) (.con (.int 2))) [(.ret (.tup [(.con (.str ("span":Str))),(.call "L_draw" [(.var 0),(.var 2)]),(.call "L_draw" [(.var 0),(.bin .LShift (.con (.int 1)) (.var 3))])]))] [])
theorem qU{P:aE}{C:Calls}{W:Nat}{ρ:CI.Env}:ex P C W m8 ρ=ex P C W (.ifs (.cmp .Lt (.var 5) (.con (.int 2))) [(.ret (.tup [(.con (.str ("span":Str))),(.call "L_draw" [(.var 0),(.var 2)]),(.call "L_draw" [(.var 0),(.bin .LShift (.con (.int 1)) (.var 3))])]))] []) ρ:=(rfl)
noncomputable def uQ:S:=(.ifs (.cmp .Eq (.var 5) (.con (.int 2))) [(.ret (.tup [(.con (.str ("span":Str))),(.call "L_draw" [(.var 0),(.var 2)]),(.bin .Sub (.bin .Sub (.bin .LShift (.con (.int 1)) (.var 3)) (.con (.int 1))) (.bin .LShift (.con (.int 1)) (.call "L_draw" [(.var 0),(.var 3)])))]))] [])
theorem qX{P:aE}{C:Calls}{W:Nat}{ρ:CI.Env}:ex P C W uQ ρ=ex P C W (.ifs (.cmp .Eq (.var 5) (.con (.int 2))) [(.ret (.tup [(.con (.str ("span":Str))),(.call "L_draw" [(.var 0),(.var 2)]),(.bin .Sub (.bin .Sub (.bin .LShift (.con (.int 1)) (.var 3)) (.con (.int 1))) (.bin .LShift (.con (.int 1)) (.call "L_draw" [(.var 0),(.var 3)])))]))] []) ρ:=(rfl)
noncomputable def uR:S:=(.ifs (.cmp .Eq (.var 5) (.con (.int 3))) [(.ret (.tup [(.con (.str ("leap":Str))),(.call "L_draw" [(.var 0),(.ix (.lst [(.con (.int 13)),(.bin .Add (.var 1) (.con (.int 1)))]) (.call "L_draw" [(.var 0),(.con (.int 2))]))])]))] [])
theorem qK{P:aE}{C:Calls}{W:Nat}{ρ:CI.Env}:ex P C W uR ρ=ex P C W (.ifs (.cmp .Eq (.var 5) (.con (.int 3))) [(.ret (.tup [(.con (.str ("leap":Str))),(.call "L_draw" [(.var 0),(.ix (.lst [(.con (.int 13)),(.bin .Add (.var 1) (.con (.int 1)))]) (.call "L_draw" [(.var 0),(.con (.int 2))]))])]))] []) ρ:=(rfl)
noncomputable def uK:S:=(.ifs (.cmp .Eq (.var 5) (.con (.int 4))) [(.ret (.tup [(.con (.str ("back":Str))),(.bin .Add (.con (.int 1)) (.call "L_draw" [(.var 0),(.con (.int 12))])),(.bin .Add (.con (.int 1)) (.call "L_draw" [(.var 0),(.con (.int 12))]))]))] [])
theorem qM{P:aE}{C:Calls}{W:Nat}{ρ:CI.Env}:ex P C W uK ρ=ex P C W (.ifs (.cmp .Eq (.var 5) (.con (.int 4))) [(.ret (.tup [(.con (.str ("back":Str))),(.bin .Add (.con (.int 1)) (.call "L_draw" [(.var 0),(.con (.int 12))])),(.bin .Add (.con (.int 1)) (.call "L_draw" [(.var 0),(.con (.int 12))]))]))] []) ρ:=(rfl)
noncomputable def uL:S:=(.ifs (.cmp .Eq (.var 5) (.con (.int 5))) [(.ret (.tup [(.con (.str ("again":Str))),(.bin .Add (.con (.int 1)) (.call "L_draw" [(.var 0),(.con (.int 3))]))]))] [])
theorem qR{P:aE}{C:Calls}{W:Nat}{ρ:CI.Env}:ex P C W uL ρ=ex P C W (.ifs (.cmp .Eq (.var 5) (.con (.int 5))) [(.ret (.tup [(.con (.str ("again":Str))),(.bin .Add (.con (.int 1)) (.call "L_draw" [(.var 0),(.con (.int 3))]))]))] []) ρ:=(rfl)
noncomputable def uJ:S:=(.ifs (.cmp .Eq (.var 5) (.con (.int 6))) [(.asg 6 (.ix (.lst [(.bin .Sub (.call "L_draw" [(.var 0),(.con (.int 121))]) (.con (.int 60))),(.bin .Sub (.call "L_draw" [(.var 0),(.con (.int 20))]) (.con (.int 12)))]) (.call "L_draw" [(.var 0),(.con (.int 2))]))),(.ret (.tup [(.con (.str ("range":Str))),(.var 6),(.bin .Add (.var 6) (.call "L_draw" [(.var 0),(.bin .Sub (.con (.int 61)) (.var 6))]))]))] [])
theorem qV{P:aE}{C:Calls}{W:Nat}{ρ:CI.Env}:ex P C W uJ ρ=ex P C W (.ifs (.cmp .Eq (.var 5) (.con (.int 6))) [(.asg 6 (.ix (.lst [(.bin .Sub (.call "L_draw" [(.var 0),(.con (.int 121))]) (.con (.int 60))),(.bin .Sub (.call "L_draw" [(.var 0),(.con (.int 20))]) (.con (.int 12)))]) (.call "L_draw" [(.var 0),(.con (.int 2))]))),(.ret (.tup [(.con (.str ("range":Str))),(.var 6),(.bin .Add (.var 6) (.call "L_draw" [(.var 0),(.bin .Sub (.con (.int 61)) (.var 6))]))]))] []) ρ:=(rfl)
noncomputable def vC:S:=(.ifs (.cmp .Eq (.var 5) (.con (.int 7))) [(.asg 7 (.call "L_draw" [(.var 0),(.bin .Add (.var 4) (.con (.int 1)))])),(.ret (.tup [(.con (.str ("above":Str))),(.var 7),(.bin .Mod (.bin .Add (.bin .Add (.var 7) (.con (.int 1))) (.call "L_draw" [(.var 0),(.var 4)])) (.bin .Add (.var 4) (.con (.int 1))))]))] [])
theorem rG{P:aE}{C:Calls}{W:Nat}{ρ:CI.Env}:ex P C W vC ρ=ex P C W (.ifs (.cmp .Eq (.var 5) (.con (.int 7))) [(.asg 7 (.call "L_draw" [(.var 0),(.bin .Add (.var 4) (.con (.int 1)))])),(.ret (.tup [(.con (.str ("above":Str))),(.var 7),(.bin .Mod (.bin .Add (.bin .Add (.var 7) (.con (.int 1))) (.call "L_draw" [(.var 0),(.var 4)])) (.bin .Add (.var 4) (.con (.int 1))))]))] []) ρ:=(rfl)
noncomputable def uW:S:=(.asg 8 (.tup [(.con (.str ("like":Str))),(.con (.str ("against":Str))),(.con (.str ("aside":Str))),(.con (.str ("any":Str)))]))
theorem A0{P:aE}{C:Calls}{W:Nat}{ρ:CI.Env}:ex P C W uW ρ=ex P C W (.asg 8 (.tup [(.con (.str ("like":Str))),(.con (.str ("against":Str))),(.con (.str ("aside":Str))),(.con (.str ("any":Str)))])) ρ:=(rfl)
noncomputable def uU:S:=(.ret (.tup [(.con (.str ("never":Str))),(.call "L_draw" [(.var 0),(.var 3)]),(.call "L_draw" [(.var 0),(.var 3)]),(.ix (.var 8) (.call "L_draw" [(.var 0),(.con (.int 4))]))]))
theorem A1{P:aE}{C:Calls}{W:Nat}{ρ:CI.Env}:ex P C W uU ρ=ex P C W (.ret (.tup [(.con (.str ("never":Str))),(.call "L_draw" [(.var 0),(.var 3)]),(.call "L_draw" [(.var 0),(.var 3)]),(.ix (.var 8) (.call "L_draw" [(.var 0),(.con (.int 4))]))])) ρ:=(rfl)
noncomputable def jS:Fn:=⟨[true],0,[(.ret (.and (.isi (.var 0) [.int]) (.not (.isi (.var 0) [.bool]))))],false⟩
noncomputable def iS:Fn:=⟨[true,true,true],0,[(.ret (.and (.call "is_whole" [(.var 0)]) (.cmp2 .LtE .LtE (.var 1) (.var 0) (.var 2))))],false⟩
noncomputable def pQ:Fn:=⟨[true,true],0,[(.ifs (.ix (.var 0) (.con (.int 2))) [(.ret (.bin .Sub (.ix (.var 0) (.con (.int 1))) (.var 1)))] []),(.ret (.bin .Add (.ix (.var 0) (.con (.int 1))) (.var 1)))],false⟩
noncomputable def mK:Fn:=⟨[true,true],0,[(.ifs (.cmp .Eq (.var 1) (.con (.int 0))) [(.ret (.con (.tup [(.int 0),(.int 0),(.bl false)])))] []),(.ret (.ix (.ix (.var 0) (.con (.int 3))) (.bin .Sub (.var 1) (.con (.int 1)))))],false⟩
noncomputable def tW:Fn:=⟨[true,true,true,true],2,[(.asg 4 (.call "singer" [(.var 0),(.var 2)])),(.asg 5 (.bin .Sub (.var 3) (.ix (.var 4) (.con (.int 0))))),(.ifs (.cmp2 .LtE .Lt (.con (.int 0)) (.var 5) (.bif .len [(.var 1)])) [(.ret (.call "pitch" [(.var 4),(.ix (.var 1) (.var 5))]))] []),(.ret (.con .non))],false⟩
noncomputable def yS:Fn:=⟨[true,true,true],0,[(.ret (.bin .Mod (.bif .abs [(.bin .Sub (.var 1) (.var 2))]) (.var 0)))],false⟩
noncomputable def pT:Fn:=⟨[true,true,true],0,[(.ret (.comp oZ [4] .rng [(.bin .Add (.bif .len [(.ix (.var 0) (.con (.int 3)))]) (.con (.int 1)))] [] [2,0,1] 2))],false⟩
noncomputable def hV:Fn:=⟨[true],3,[(.asg 1 (.lst [])),(.for [2] true .rng [(.bif .len [(.var 0)])] rJ),(.ret (.var 1))],false⟩
noncomputable def pN:Fn:=⟨[true,true,true],0,[(.ifs (.cmp .Eq (.var 0) (.con (.str ("like":Str)))) [(.ret (.cmp .Gt (.bin .Mult (.var 1) (.var 2)) (.con (.int 0))))] []),(.ifs (.cmp .Eq (.var 0) (.con (.str ("against":Str)))) [(.ret (.cmp .Lt (.bin .Mult (.var 1) (.var 2)) (.con (.int 0))))] []),(.ifs (.cmp .Eq (.var 0) (.con (.str ("aside":Str)))) [(.ret (.cmp .NotEq (.cmp .Eq (.var 1) (.con (.int 0))) (.cmp .Eq (.var 2) (.con (.int 0)))))] []),(.ret (.con (.bl true)))],false⟩
noncomputable def jC:Fn:=⟨[true,true,true,true],2,[(.ifs (.cmp .NotEq (.bin .Mod (.var 3) (.ix (.var 1) (.con (.int 1)))) (.fld (.var 0) "beat")) [(.ret (.lst []))] []),(.asg 4 (.ix (.var 1) (.con (.int 2)))),(.asg 5 (.call "chord" [(.var 1),(.var 2),(.var 3)])),(.ret (.comp vY [4,5] .of [(.call "sounding_pairs" [(.var 5)])] [(.meth 2 "forbids" gU [(.call "span" [(.var 1),(.ix (.var 0) (.var 4)),(.ix (.var 0) (.var 5))])])] [5,4,0] 3))],false⟩
noncomputable def iL:Fn:=⟨[true,true],0,[(.ret (.cmp .Eq (.bin .BitAnd (.bin .RShift (.fld (.var 0) "spans") (.var 1)) (.con (.int 1))) (.con (.int 0))))],false⟩
noncomputable def gS:Fn:=⟨[true,true,true,false],0,[(.ifs (.and (.cmp .Gt (.var 3) (.con (.int 0))) (.cmp .Gt (.bif .abs [(.bin .Sub (.ix (.var 2) (.var 3)) (.ix (.var 2) (.bin .Sub (.var 3) (.con (.int 1)))))]) (.fld (.var 0) "most"))) [(.ret (.lst [(.con (.tup []))]))] []),(.ret (.lst []))],false⟩
noncomputable def jA:Fn:=⟨[true,true,true,false],2,[(.ifs (.cmp .Lt (.var 3) (.con (.int 2))) [(.ret (.lst []))] []),(.asg 4 (.bin .Sub (.ix (.var 2) (.bin .Sub (.var 3) (.con (.int 1)))) (.ix (.var 2) (.bin .Sub (.var 3) (.con (.int 2)))))),(.asg 5 (.bin .Sub (.ix (.var 2) (.var 3)) (.ix (.var 2) (.bin .Sub (.var 3) (.con (.int 1)))))),(.ifs (.cmp .Lt (.bif .abs [(.var 4)]) (.fld (.var 0) "leap")) [(.ret (.lst []))] []),(.ifs (.and (.cmp .Lt (.bin .Mult (.var 4) (.var 5)) (.con (.int 0))) (.cmp .LtE (.bif .abs [(.var 5)]) (.fld (.var 0) "most"))) [(.ret (.lst []))] []),(.ret (.lst [(.con (.tup []))]))],false⟩
noncomputable def gG:Fn:=⟨[true,true,true,false],0,[(.ifs (.cmp .Lt (.var 3) (.fld (.var 0) "most")) [(.ret (.lst []))] []),(.ifs (.bif .all [(.comp gX [3] .of [(.sl (.var 2) (.bin .Sub (.var 3) (.fld (.var 0) "most")) (.var 3))] [] [3,2] 2)]) [(.ret (.lst [(.con (.tup []))]))] []),(.ret (.lst []))],false⟩
noncomputable def gH:Fn:=⟨[true,true,true,true],0,[(.ret (.comp hE [2,3] (.enum 0) [(.call "chord" [(.var 1),(.var 2),(.var 3)])] [(.meth 0 "forbids" gU [(.var 3)])] [0] 3))],false⟩
noncomputable def fU:Fn:=⟨[true,true],0,[(.ret (.and (.cmp .IsNot (.var 1) (.con .non)) (.not (.cmp2 .LtE .LtE (.fld (.var 0) "low") (.var 1) (.fld (.var 0) "high")))))],false⟩
noncomputable def iR:Fn:=⟨[true,true,true,true],2,[(.asg 4 (.call "sung" [(.var 1),(.var 2),(.fld (.var 0) "one"),(.var 3)])),(.asg 5 (.call "sung" [(.var 1),(.var 2),(.fld (.var 0) "other"),(.var 3)])),(.ifs (.or (.cmp .Is (.var 4) (.con .non)) (.or (.cmp .Is (.var 5) (.con .non)) (.cmp .GtE (.var 4) (.var 5)))) [(.ret (.lst []))] []),(.ret (.lst [(.tup [(.fld (.var 0) "one"),(.fld (.var 0) "other")])]))],false⟩
noncomputable def iO:Fn:=⟨[true,true,true,true],6,[(.asg 4 (.ix (.var 1) (.con (.int 2)))),(.asg 5 (.call "chord" [(.var 1),(.var 2),(.bin .Sub (.var 3) (.con (.int 1)))])),(.asg 6 (.call "chord" [(.var 1),(.var 2),(.var 3)])),(.asg 7 (.lst [])),(.for [8,9] false .of [(.call "sounding_pairs" [(.var 5)])] uG),(.ret (.var 7))],false⟩
noncomputable def gP:Fn:=⟨[true],1,[(.asg 1 (.ix (.var 0) (.con (.int 0)))),(.ifs (.cmp .Eq (.var 1) (.con (.str ("span":Str)))) [(.ret (.make "Span" ["beat","spans"] [(.ix (.var 0) (.con (.int 1))),(.ix (.var 0) (.con (.int 2)))]))] []),(.ifs (.cmp .Eq (.var 1) (.con (.str ("leap":Str)))) [(.ret (.make "Leap" ["most"] [(.ix (.var 0) (.con (.int 1)))]))] []),(.ifs (.cmp .Eq (.var 1) (.con (.str ("back":Str)))) [(.ret (.make "Back" ["leap","most"] [(.ix (.var 0) (.con (.int 1))),(.ix (.var 0) (.con (.int 2)))]))] []),(.ifs (.cmp .Eq (.var 1) (.con (.str ("again":Str)))) [(.ret (.make "Again" ["most"] [(.ix (.var 0) (.con (.int 1)))]))] []),(.ifs (.cmp .Eq (.var 1) (.con (.str ("range":Str)))) [(.ret (.make "Range" ["low","high"] [(.ix (.var 0) (.con (.int 1))),(.ix (.var 0) (.con (.int 2)))]))] []),(.ifs (.cmp .Eq (.var 1) (.con (.str ("above":Str)))) [(.ret (.make "Above" ["one","other"] [(.ix (.var 0) (.con (.int 1))),(.ix (.var 0) (.con (.int 2)))]))] []),(.ret (.make "Never" ["one","other","way"] [(.ix (.var 0) (.con (.int 1))),(.ix (.var 0) (.con (.int 2))),(.ix (.var 0) (.con (.int 3)))]))],false⟩
noncomputable def jJ:Fn:=⟨[true],0,[(.ret (.comp j8 [1] .of [(.ix (.var 0) (.con (.int 4)))] [] [] 2))],false⟩
noncomputable def iQ:Fn:=⟨[true,true,true,false],4,[(.asg 4 (.lst [])),(.for [5,6] false (.enum 0) [(.var 1)] jD),(.ret (.var 4))],false⟩
noncomputable def mD:Fn:=⟨[true],0,[(.ret (.bif .max [(.con (.int 3)),(.bin .Add (.con (.int 1)) (.bif .max [(.comp mT [1] .of [(.ix (.var 0) (.con (.int 3)))] [] [] 2)]))]))],false⟩
noncomputable def kJ:Fn:=⟨[true,false],1,[(.asg 2 (.call "memory" [(.var 0)])),(.ifs (.cmp .LtE (.var 1) (.var 2)) [(.ret (.var 1))] []),(.ret (.bin .Add (.var 2) (.bin .Mod (.bin .Sub (.var 1) (.var 2)) (.ix (.var 0) (.con (.int 1))))))],false⟩
noncomputable def jM:Fn:=⟨[true,true],0,[(.ret (.tup [(.call "turn_of" [(.var 0),(.bif .len [(.var 1)])]),(.bif .tuple [(.sl (.var 1) (.neg (.call "memory" [(.var 0)])) .omt)])]))],false⟩
noncomputable def kK:Fn:=⟨[true],0,[(.ret (.bin .Add (.bin .Mult (.lst [(.con (.int 0))]) (.bin .Sub (.ix (.var 0) (.con (.int 0))) (.bif .len [(.ix (.var 0) (.con (.int 1)))]))) (.bif .list [(.ix (.var 0) (.con (.int 1)))])))],false⟩
noncomputable def oV:Fn:=⟨[true,true],2,[(.asg 2 (.call "rules_of" [(.var 0)])),(.asg 3 (.call "line_to" [(.var 1)])),(.ret (.comp oQ [4] .rng [(.ix (.var 0) (.con (.int 0)))] [(.cmp .Eq (.bif .len [(.call "breaks_at" [(.var 0),(.var 2),(.bin .Add (.var 1) (.lst [(.var 4)])),(.bif .len [(.var 1)])])]) (.con (.int 0)))] [0,3,2] 2))],false⟩
noncomputable def l6:Fn:=⟨[true,true,false],0,[(.ret (.call "stand_of" [(.var 0),(.bin .Add (.call "line_to" [(.var 1)]) (.lst [(.var 2)]))]))],false⟩
noncomputable def gT:Fn:=⟨[true,true,true,false],0,[(.ret (.tup [(.call "behind" [(.var 0),(.ix (.var 2) (.con (.int 0))),(.var 3)]),(.call "behind" [(.var 1),(.ix (.var 2) (.con (.int 1))),(.var 3)])]))],false⟩
noncomputable def fV:Fn:=⟨[true,true,true],1,[(.asg 3 (.call "nexts" [(.var 1),(.ix (.var 2) (.con (.int 1)))])),(.ret (.comp gM [2] .of [(.call "nexts" [(.var 0),(.ix (.var 2) (.con (.int 0)))])] [(.cmp .In (.var 2) (.var 0))] [3] 2))],false⟩
noncomputable def fE:Fn:=⟨[true,true],6,[(.asg 2 (.dict1 (.con (.tup [(.tup [(.int 0),(.tup [])]),(.tup [(.int 0),(.tup [])])])) (.lst []))),(.asg 3 (.lst [(.con (.tup [(.tup [(.int 0),(.tup [])]),(.tup [(.int 0),(.tup [])])]))])),(.whl (.cmp .Gt (.bif .len [(.var 3)]) (.con (.int 0))) aW),(.ret (.var 2))],true⟩
noncomputable def jB:Fn:=⟨[true,true,true],3,CO (aV L) (top 62),false⟩
noncomputable def iA:Fn:=⟨[true,true],3,[(.ifs (.cmp .NotEq (.ix (.var 0) (.con (.int 0))) (.ix (.var 1) (.con (.int 0)))) [(.rse "Unlike" [(.con (.str ("the houses have not as many notes":Str)))])] []),(.asg 2 (.call "lines_of_pairs" [(.var 0),(.var 1)])),(.for [3] true .of [(.var 2)] AZ),(.ret (.tup [(.con (.str ("alike":Str))),(.bif .sorted [(.var 2)])]))],true⟩
noncomputable def t9:Fn:=⟨[true,false],1,[(.asg 2 (.ix (.var 0) (.con (.int 4)))),(.ifs (.not (.call "is_within" [(.var 1),(.con (.int 0)),(.bin .Sub (.bif .len [(.var 2)]) (.con (.int 1)))])) [(.rse "NoNumber" [(.con (.str ("no rule has this number":Str)))])] []),(.ret (.tup [(.ix (.var 0) (.con (.int 0))),(.ix (.var 0) (.con (.int 1))),(.ix (.var 0) (.con (.int 2))),(.ix (.var 0) (.con (.int 3))),(.bin .Add (.sl (.var 2) .omt (.var 1)) (.sl (.var 2) (.bin .Add (.var 1) (.con (.int 1))) .omt))]))],true⟩
noncomputable def mS:Fn:=⟨[true,false],1,[(.asg 2 (.call "compared" [(.call "less" [(.var 0),(.var 1)]),(.var 0)])),(.ifs (.cmp .Eq (.ix (.var 2) (.con (.int 0))) (.con (.str ("apart":Str)))) [(.ret (.tup [(.con (.str ("needed":Str))),(.ix (.var 2) (.con (.int 1)))]))] []),(.ret (.tup [(.con (.str ("follows":Str))),(.ix (.var 2) (.con (.int 1)))]))],true⟩
noncomputable def pI:Fn:=⟨[true,false],2,[(.ifs (.and (.cmp .Lt (.var 1) (.bif .len [(.var 0)])) (.cmp .Eq (.bin .Mod (.ix (.var 0) (.con (.int 0))) (.con (.int 2))) (.con (.int 0)))) [(.ret (.lst [(.con (.int 0)),(.ix (.var 0) (.var 1))]))] []),(.asg 2 (.bin .Add (.bin .Mult (.con (.int 30011)) (.var 1)) (.con (.int 7)))),(.ifs (.cmp .Gt (.bif .len [(.var 0)]) (.con (.int 0))) [(.asg 3 (.bin .FloorDiv (.var 1) (.bif .len [(.var 0)]))),(.asg 2 (.bin .Add (.bin .Add (.bin .Mod (.ix (.var 0) (.bin .Mod (.var 1) (.bif .len [(.var 0)]))) (.con (.int 2147483587))) (.bin .Mult (.con (.int 48611)) (.var 3))) (.bin .Mult (.con (.int 3)) (.var 1))))] []),(.ret (.lst [(.con (.int 1)),(.bin .Mod (.bin .Add (.bin .Add (.bin .Mult (.var 2) (.con (.int 48271))) (.bin .Mult (.con (.int 11)) (.var 1))) (.con (.int 1))) (.con (.int 2147483647)))]))],false⟩
noncomputable def l5:Fn:=⟨[true,true],2,[(.ifs (.cmp .Eq (.ix (.var 0) (.con (.int 0))) (.con (.int 0))) [(.asg 2 (.bin .Mod (.ix (.var 0) (.con (.int 1))) (.var 1))),(.set 0 (.con (.int 1)) (.bin .FloorDiv (.ix (.var 0) (.con (.int 1))) (.var 1))),(.ret (.var 2))] []),(.set 0 (.con (.int 1)) (.bin .Mod (.bin .Add (.bin .Mult (.ix (.var 0) (.con (.int 1))) (.con (.int 69621))) (.con (.int 7))) (.con (.int 2147483629)))),(.asg 3 (.bin .Mod (.bin .Mult (.bin .Add (.bin .Add (.bin .Mult (.bin .Mod (.ix (.var 0) (.con (.int 1))) (.con (.int 65521))) (.con (.int 40503))) (.bin .FloorDiv (.ix (.var 0) (.con (.int 1))) (.con (.int 65521)))) (.con (.int 1))) (.con (.int 16807))) (.con (.int 2147483647)))),(.ret (.bin .Mod (.bin .FloorDiv (.var 3) (.con (.int 13))) (.var 1)))],false⟩
noncomputable def l8:Fn:=⟨[true,true,true,true,true],4,[m9,m8,uQ,uR,uK,uL,uJ,vC,uW,uU],false⟩
noncomputable def kH:Fn:=⟨[true],9,[(.asg 1 (.cmp .Eq (.call "L_draw" [(.var 0),(.con (.int 2))]) (.con (.int 0)))),(.asg 2 (.bin .Add (.con (.int 1)) (.call "L_draw" [(.var 0),(.ix (.lst [(.con (.int 4)),(.con (.int 7))]) (.bif .int [(.var 1)]))]))),(.asg 3 (.bin .Add (.con (.int 1)) (.call "L_draw" [(.var 0),(.ix (.lst [(.con (.int 2)),(.con (.int 4))]) (.bif .int [(.var 1)]))]))),(.asg 4 (.bin .Add (.con (.int 1)) (.call "L_draw" [(.var 0),(.con (.int 12))]))),(.asg 5 (.bin .Add (.con (.int 1)) (.call "L_draw" [(.var 0),(.ix (.lst [(.con (.int 2)),(.con (.int 3))]) (.bif .int [(.var 1)]))]))),(.asg 6 (.lst [])),(.for [7] true .rng [(.var 5)] lU),(.asg 9 (.lst [])),(.for [7] true .rng [(.call "L_draw" [(.var 0),(.con (.int 9))])] lF),(.ret (.tup [(.var 2),(.var 3),(.var 4),(.bif .tuple [(.var 6)]),(.bif .tuple [(.var 9)])]))],false⟩
noncomputable def gN:Fn:=⟨[true,true,false],3,[(.asg 3 (.lst [])),(.tryB [(.ifs (.cmp .Is (.var 2) (.con .non)) [(.expr (.call "compared" [(.var 0),(.var 1)]))] [(.expr (.call "needed" [(.var 0),(.var 2)]))])] dZ 4 [(.asg 5 (.isX (.var 4) Q6)),(.asg 3 (.lst [(.isX (.var 4) OX),(.isX (.var 4) QI),(.isi (.var 4) [.verr]),(.var 5)]))]),(.ret (.var 3))],false⟩
noncomputable def f6:Fn:=⟨[true],13,[(.asg 1 (.call "L_pen" [(.var 0),(.con (.int 0))])),(.asg 2 (.call "L_draw" [(.var 1),(.con (.int 5))])),(.asg 3 (.bin .Mult (.tup [(.tup [(.var 2),(.bin .Sub (.call "L_draw" [(.var 1),(.con (.int 25))]) (.con (.int 12))),(.cmp .Eq (.call "L_draw" [(.var 1),(.con (.int 2))]) (.con (.int 0)))])]) (.bin .Add (.con (.int 1)) (.call "L_draw" [(.var 1),(.con (.int 3))])))),(.asg 4 (.bin .Add (.con (.int 1)) (.call "L_draw" [(.var 1),(.con (.int 4))]))),(.asg 5 (.sl (.tup [(.tup [(.con (.str ("leap":Str))),(.bin .Add (.con (.int 6)) (.call "L_draw" [(.var 1),(.con (.int 7))]))]),(.tup [(.con (.str ("range":Str))),(.neg (.con (.int 60))),(.con (.int 60))]),(.tup [(.con (.str ("again":Str))),(.con (.int 3))])]) .omt (.call "L_draw" [(.var 1),(.con (.int 4))]))),(.asg 6 (.tup [(.con (.int 7)),(.var 4),(.bin .Add (.con (.int 1)) (.call "L_draw" [(.var 1),(.con (.int 12))])),(.var 3),(.var 5)])),(.asg 7 (.bin .Add (.sl (.var 6) .omt (.con (.int 4))) (.tup [(.bin .Add (.var 5) (.tup [(.tup [(.con (.str ("again":Str))),(.bin .Add (.con (.int 1)) (.call "L_draw" [(.var 1),(.con (.int 3))]))])]))]))),(.asg 8 (.lst [(.con (.bl false)),(.con (.bl true)),(.con (.bl true)),(.con (.bl false))])),(.ifs (.or (.cmp .NotEq (.call "L_heard" [(.var 6),(.var 6),(.con .non)]) (.var 8)) (.cmp .NotEq (.call "L_heard" [(.var 6),(.var 7),(.con .non)]) (.var 8))) [(.ret (.con (.bl false)))] []),(.ifs (.or (.cmp .NotEq (.call "L_heard" [(.var 7),(.var 6),(.con .non)]) (.var 8)) (.cmp .NotEq (.call "L_heard" [(.var 7),(.con .non),(.bif .len [(.var 5)])]) (.var 8))) [(.ret (.con (.bl false)))] []),(.asg 9 (.lst [(.con (.bl true)),(.con (.bl false)),(.con (.bl true)),(.con (.bl false))])),(.asg 10 (.call "L_house" [(.call "L_pen" [(.var 0),(.con (.int 1))])])),(.asg 11 (.bin .Add (.con (.int 1)) (.bin .Mod (.bin .Add (.ix (.var 10) (.con (.int 0))) (.call "L_draw" [(.var 1),(.con (.int 6))])) (.con (.int 7))))),(.for [12,13] false .of [(.lst [(.tup [(.var 6),(.bin .Add (.tup [(.bin .Add (.con (.int 1)) (.call "L_draw" [(.var 1),(.con (.int 6))]))]) (.sl (.var 7) (.con (.int 1)) .omt))]),(.tup [(.var 10),(.bin .Add (.tup [(.var 11)]) (.sl (.var 10) (.con (.int 1)) .omt))])])] pA),(.ret (.con (.bl true)))],false⟩
noncomputable def TL:List (String×Fn):=[("is_whole",jS),("is_within",iS),("pitch",pQ),("singer",mK),("sung",tW),("span",yS),("chord",pT),("sounding_pairs",hV),("move_so",pN),("Span.broken",jC),("Span.forbids",iL),("Leap.broken",gS),("Back.broken",jA),("Again.broken",gG),("Range.broken",gH),("Range.forbids",fU),("Above.broken",iR),("Never.broken",iO),("rule_of",gP),("rules_of",jJ),("breaks_at",iQ),("memory",mD),("turn_of",kJ),("stand_of",jM),("line_to",kK),("nexts",oV),("behind",l6),("pair_behind",gT),("notes_of_both",fV),("lines_of_pairs",fE),("first_apart",jB),("compared",iA),("less",t9),("needed",mS),("L_pen",pI),("L_draw",l5),("L_rule",l8),("L_house",kH),("L_heard",gN),("law",f6)]
noncomputable def T:fG:=λf=>TL.lookup f
theorem xW:T "is_whole"=some jS:=rfl
theorem IQ:T.pins "is_whole"=[true]:=rfl
theorem uM:T "is_within"=some iS:=rfl
theorem FA:T.pins "is_within"=[true,true,true]:=rfl
theorem F0:T "pitch"=some pQ:=rfl
theorem U9:T.pins "pitch"=[true,true]:=rfl
theorem DT:T "singer"=some mK:=rfl
theorem PM:T.pins "singer"=[true,true]:=rfl
theorem LG:T "sung"=some tW:=rfl
theorem aAg:T.pins "sung"=[true,true,true,true]:=rfl
theorem aCl:T "span"=some yS:=rfl
theorem HA:T "chord"=some pT:=rfl
theorem VC:T.pins "chord"=[true,true,true]:=rfl
theorem vX:T "sounding_pairs"=some hV:=rfl
theorem MM:T "move_so"=some pN:=rfl
theorem A6:T "Span.broken"=some jC:=rfl
theorem zA:T "Span.forbids"=some iL:=rfl
theorem rF:T "Leap.broken"=some gS:=rfl
theorem A2:T.pins "Leap.broken"=[true,true,true,false]:=rfl
theorem A3:T "Back.broken"=some jA:=rfl
theorem oM:T "Again.broken"=some gG:=rfl
theorem yY:T.pins "Again.broken"=[true,true,true,false]:=rfl
theorem oI:T "Range.broken"=some gH:=rfl
theorem y4:T.pins "Range.broken"=[true,true,true,true]:=rfl
theorem mH:T "Range.forbids"=some fU:=rfl
theorem yG:T.pins "Range.forbids"=[true,true]:=rfl
theorem y9:T "Above.broken"=some iR:=rfl
theorem yN:T "Never.broken"=some iO:=rfl
theorem mQ:T "rule_of"=some gP:=rfl
theorem LR:T.pins "rule_of"=[true]:=rfl
theorem wL:T "rules_of"=some jJ:=rfl
theorem HP:T.pins "rules_of"=[true]:=rfl
theorem uZ:T "breaks_at"=some iQ:=rfl
theorem E4:T.pins "breaks_at"=[true,true,true,false]:=rfl
theorem CK:T "memory"=some mD:=rfl
theorem N4:T.pins "memory"=[true]:=rfl
theorem zQ:T "turn_of"=some kJ:=rfl
theorem LM:T.pins "turn_of"=[true,false]:=rfl
theorem wY:T "stand_of"=some jM:=rfl
theorem HL:T.pins "stand_of"=[true,true]:=rfl
theorem AB:T "line_to"=some kK:=rfl
theorem KY:T.pins "line_to"=[true]:=rfl
theorem G9:T "nexts"=some oV:=rfl
theorem WH:T.pins "nexts"=[true,true]:=rfl
theorem B0:T "behind"=some l6:=rfl
theorem OI:T.pins "behind"=[true,true,false]:=rfl
theorem qP:T "pair_behind"=some gT:=rfl
theorem A9:T.pins "pair_behind"=[true,true,true,false]:=rfl
theorem mC:T "notes_of_both"=some fV:=rfl
theorem xF:T.pins "notes_of_both"=[true,true,true]:=rfl
theorem lZ:T "lines_of_pairs"=some fE:=rfl
theorem vQ:T.pins "lines_of_pairs"=[true,true]:=rfl
theorem BA:T "first_apart"=some jB:=rfl
theorem oO:T "compared"=some iA:=rfl
theorem HX:T.pins "compared"=[true,true]:=rfl
theorem KJ:T "less"=some t9:=rfl
theorem aA1:T.pins "less"=[true,false]:=rfl
theorem DH:T "needed"=some mS:=rfl
theorem RB:T.pins "needed"=[true,false]:=rfl
theorem G7:T "L_pen"=some pI:=rfl
theorem UE:T.pins "L_pen"=[true,false]:=rfl
theorem EH:T "L_draw"=some l5:=rfl
theorem NX:T.pins "L_draw"=[true,true]:=rfl
theorem BV:T "L_rule"=some l8:=rfl
theorem NQ:T.pins "L_rule"=[true,true,true,true,true]:=rfl
theorem z7:T "L_house"=some kH:=rfl
theorem NH:T.pins "L_house"=[true]:=rfl
theorem mM:T "L_heard"=some gN:=rfl
theorem KQ:T.pins "L_heard"=[true,true,false]:=rfl
theorem HV:T "law"=some f6:=rfl
theorem Q4:IniOk (eK 35 0) "Span.__init__" ["beat","spans"]:=C3 rfl rfl rfl (by decide +kernel) (by kernel_rfl) (pW rfl λ_ _ _ _ _ _ _ _ _=>rfl)
theorem OA:IniOk (eK 36 0) "Leap.__init__" ["most"]:=C3 rfl rfl rfl (by decide +kernel) (by kernel_rfl) (l4 rfl λ_ _ _ _ _ _ _ _=>rfl)
theorem j9{d0:D}:yW (some (.ins "Leap" ["most"] [d0])) "most"=some (.sh d0):=(rfl)
theorem N0:IniOk (eK 37 0) "Back.__init__" ["leap","most"]:=C3 rfl rfl rfl (by decide +kernel) (by kernel_rfl) (pW rfl λ_ _ _ _ _ _ _ _ _=>rfl)
theorem MP:IniOk (eK 38 0) "Again.__init__" ["most"]:=C3 rfl rfl rfl (by decide +kernel) (by kernel_rfl) (l4 rfl λ_ _ _ _ _ _ _ _=>rfl)
theorem eN{d0:D}:yW (some (.ins "Again" ["most"] [d0])) "most"=some (.sh d0):=(rfl)
theorem MA:IniOk (eK 39 0) "Range.__init__" ["low","high"]:=C3 rfl rfl rfl (by decide +kernel) (by kernel_rfl) (pW rfl λ_ _ _ _ _ _ _ _ _=>rfl)
theorem kA{d0 d1:D}:yW (some (.ins "Range" ["low","high"] [d0,d1])) "low"=some (.sh d0):=(rfl)
theorem i8{d0 d1:D}:yW (some (.ins "Range" ["low","high"] [d0,d1])) "high"=some (.sh d1):=(rfl)
theorem K9:IniOk (eK 40 0) "Above.__init__" ["one","other"]:=C3 rfl rfl rfl (by decide +kernel) (by kernel_rfl) (pW rfl λ_ _ _ _ _ _ _ _ _=>rfl)
theorem NF:IniOk (eK 41 0) "Never.__init__" ["one","other","way"]:=C3 rfl rfl rfl (by decide +kernel) (by kernel_rfl) (sI rfl λ_ _ _ _ _ _ _ _ _ _=>rfl)
theorem lO:oS Q6 (some (.exn "TooMany"))=some (.sh (.bl false)):=y3 (by decide +kernel)
theorem mU:oS Q6 (some (.exn "Unlike"))=some (.sh (.bl false)):=y3 (by decide +kernel)
theorem lY:oS OX (some (.exn "TooMany"))=some (.sh (.bl false)):=y3 (by decide +kernel)
theorem mY:oS OX (some (.exn "Unlike"))=some (.sh (.bl true)):=y3 (by decide +kernel)
theorem lS:oS QI (some (.exn "TooMany"))=some (.sh (.bl true)):=y3 (by decide +kernel)
theorem mW:oS QI (some (.exn "Unlike"))=some (.sh (.bl false)):=y3 (by decide +kernel)
theorem oC:dZ.contains (Str.ofString "TooMany")=true:=by decide +kernel
theorem pP:dZ.contains (Str.ofString "Unlike")=true:=by decide +kernel
theorem zH:iJ "Leap" ["most"] "broken" gL=some "Leap.broken":=by decide +kernel
theorem wV:iJ "Again" ["most"] "broken" gL=some "Again.broken":=by decide +kernel
theorem x8:iJ "Range" ["low","high"] "broken" gL=some "Range.broken":=by decide +kernel
theorem fX:iJ "Range" ["low","high"] "forbids" gU=some "Range.forbids":=by decide +kernel
theorem E2:bU (aV L) (top 22) "is_whole" jS:=cX rfl rfl rfl (by decide +kernel) (by kernel_rfl) (AU rfl λ_ _ _ _ _ _ _=>rfl)
theorem CB:bU (aV L) (top 23) "is_within" iS:=cX rfl rfl rfl (by decide +kernel) (by kernel_rfl) (pW rfl λ_ _ _ _ _ _ _ _ _=>rfl)
theorem QR:bU (aV L) (top 25) "pitch" pQ:=cX rfl rfl rfl (by decide +kernel) (by kernel_rfl) (l4 rfl λ_ _ _ _ _ _ _ _=>rfl)
theorem LX:bU (aV L) (top 26) "singer" mK:=cX rfl rfl rfl (by decide +kernel) (by kernel_rfl) (l4 rfl λ_ _ _ _ _ _ _ _=>rfl)
theorem WD:bU (aV L) (top 27) "sung" tW:=cX rfl rfl rfl (by decide +kernel) (by kernel_rfl) (sI rfl λ_ _ _ _ _ _ _ _ _ _=>rfl)
theorem WR:bU (aV L) (top 28) "span" yS:=cX rfl rfl rfl (by decide +kernel) (by kernel_rfl) (pW rfl λ_ _ _ _ _ _ _ _ _=>rfl)
theorem O7:bU (aV L) (top 29) "chord" pT:=cX rfl rfl rfl (by decide +kernel) (by kernel_rfl) (pW rfl λ_ _ _ _ _ _ _ _ _=>rfl)
theorem uF:bU (aV L) (top 32) "sounding_pairs" hV:=cX rfl rfl rfl (by decide +kernel) (by kernel_rfl) (AU rfl λ_ _ _ _ _ _ _=>rfl)
theorem HM:bU (aV L) (top 33) "move_so" pN:=cX rfl rfl rfl (by decide +kernel) (by kernel_rfl) (pW rfl λ_ _ _ _ _ _ _ _ _=>rfl)
theorem zE:DefOkQ (aV L) (eK 35 1) "broken" "Span.broken" jC:=cX rfl rfl rfl (by decide +kernel) (by kernel_rfl) (sI rfl λ_ _ _ _ _ _ _ _ _ _=>rfl)
theorem wQ:DefOkQ (aV L) (eK 35 2) "forbids" "Span.forbids" iL:=cX rfl rfl rfl (by decide +kernel) (by kernel_rfl) (l4 rfl λ_ _ _ _ _ _ _ _=>rfl)
theorem yP:DefOkQ (aV L) (eK 36 1) "broken" "Leap.broken" gS:=cX rfl rfl rfl (by decide +kernel) (by kernel_rfl) (sI rfl λ_ _ _ _ _ _ _ _ _ _=>rfl)
theorem yO:DefOkQ (aV L) (eK 37 1) "broken" "Back.broken" jA:=cX rfl rfl rfl (by decide +kernel) (by kernel_rfl) (sI rfl λ_ _ _ _ _ _ _ _ _ _=>rfl)
theorem xS:DefOkQ (aV L) (eK 38 1) "broken" "Again.broken" gG:=cX rfl rfl rfl (by decide +kernel) (by kernel_rfl) (sI rfl λ_ _ _ _ _ _ _ _ _ _=>rfl)
theorem wO:DefOkQ (aV L) (eK 39 1) "broken" "Range.broken" gH:=cX rfl rfl rfl (by decide +kernel) (by kernel_rfl) (sI rfl λ_ _ _ _ _ _ _ _ _ _=>rfl)
theorem vR:DefOkQ (aV L) (eK 39 2) "forbids" "Range.forbids" fU:=cX rfl rfl rfl (by decide +kernel) (by kernel_rfl) (l4 rfl λ_ _ _ _ _ _ _ _=>rfl)
theorem yD:DefOkQ (aV L) (eK 40 1) "broken" "Above.broken" iR:=cX rfl rfl rfl (by decide +kernel) (by kernel_rfl) (sI rfl λ_ _ _ _ _ _ _ _ _ _=>rfl)
theorem wK:DefOkQ (aV L) (eK 41 1) "broken" "Never.broken" iO:=cX rfl rfl rfl (by decide +kernel) (by kernel_rfl) (sI rfl λ_ _ _ _ _ _ _ _ _ _=>rfl)
theorem JO:bU (aV L) (top 42) "rule_of" gP:=cX rfl rfl rfl (by decide +kernel) (by kernel_rfl) (AU rfl λ_ _ _ _ _ _ _=>rfl)
theorem EX:bU (aV L) (top 44) "rules_of" jJ:=cX rfl rfl rfl (by decide +kernel) (by kernel_rfl) (AU rfl λ_ _ _ _ _ _ _=>rfl)
theorem C4:bU (aV L) (top 45) "breaks_at" iQ:=cX rfl rfl rfl (by decide +kernel) (by kernel_rfl) (sI rfl λ_ _ _ _ _ _ _ _ _ _=>rfl)
theorem L7:bU (aV L) (top 50) "memory" mD:=cX rfl rfl rfl (by decide +kernel) (by kernel_rfl) (AU rfl λ_ _ _ _ _ _ _=>rfl)
theorem J8:bU (aV L) (top 51) "turn_of" kJ:=cX rfl rfl rfl (by decide +kernel) (by kernel_rfl) (l4 rfl λ_ _ _ _ _ _ _ _=>rfl)
theorem EV:bU (aV L) (top 52) "stand_of" jM:=cX rfl rfl rfl (by decide +kernel) (by kernel_rfl) (l4 rfl λ_ _ _ _ _ _ _ _=>rfl)
theorem JI:bU (aV L) (top 53) "line_to" kK:=cX rfl rfl rfl (by decide +kernel) (by kernel_rfl) (AU rfl λ_ _ _ _ _ _ _=>rfl)
theorem QS:bU (aV L) (top 54) "nexts" oV:=cX rfl rfl rfl (by decide +kernel) (by kernel_rfl) (l4 rfl λ_ _ _ _ _ _ _ _=>rfl)
theorem KS:bU (aV L) (top 55) "behind" l6:=cX rfl rfl rfl (by decide +kernel) (by kernel_rfl) (pW rfl λ_ _ _ _ _ _ _ _ _=>rfl)
theorem yX:bU (aV L) (top 59) "pair_behind" gT:=cX rfl rfl rfl (by decide +kernel) (by kernel_rfl) (sI rfl λ_ _ _ _ _ _ _ _ _ _=>rfl)
theorem vW:bU (aV L) (top 60) "notes_of_both" fV:=cX rfl rfl rfl (by decide +kernel) (by kernel_rfl) (pW rfl λ_ _ _ _ _ _ _ _ _=>rfl)
theorem uE:bU (aV L) (top 61) "lines_of_pairs" fE:=cX rfl rfl rfl (by decide +kernel) (by kernel_rfl) (l4 rfl λ_ _ _ _ _ _ _ _=>rfl)
theorem zK:bU (aV L) (top 62) "first_apart" jB:=cX rfl rfl rfl (by decide +kernel) (by kernel_rfl) (pW rfl λ_ _ _ _ _ _ _ _ _=>rfl)
theorem E1:bU (aV L) (top 63) "compared" iA:=cX rfl rfl rfl (by decide +kernel) (by kernel_rfl) (l4 rfl λ_ _ _ _ _ _ _ _=>rfl)
theorem XS:bU (aV L) (top 64) "less" t9:=cX rfl rfl rfl (by decide +kernel) (by kernel_rfl) (l4 rfl λ_ _ _ _ _ _ _ _=>rfl)
theorem K4:bU (aV L) (top 65) "needed" mS:=cX rfl rfl rfl (by decide +kernel) (by kernel_rfl) (l4 rfl λ_ _ _ _ _ _ _ _=>rfl)
theorem RE:bU (aV L) (top 67) "_law_pen" pI:=cX rfl rfl rfl (by decide +kernel) (by kernel_rfl) (l4 rfl λ_ _ _ _ _ _ _ _=>rfl)
theorem ME:bU (aV L) (top 68) "_law_draw" l5:=cX rfl rfl rfl (by decide +kernel) (by kernel_rfl) (l4 rfl λ_ _ _ _ _ _ _ _=>rfl)
theorem KH:bU (aV L) (top 69) "_law_rule" l8:=cX rfl rfl rfl (by decide +kernel) (by kernel_rfl) (bn5 rfl λ_ _ _ _ _ _ _ _ _ _ _=>rfl)
theorem JK:bU (aV L) (top 70) "_law_house" kH:=cX rfl rfl rfl (by decide +kernel) (by kernel_rfl) (AU rfl λ_ _ _ _ _ _ _=>rfl)
theorem HY:bU (aV L) (top 71) "_law_heard" gN:=cX rfl rfl rfl (by decide +kernel) (by kernel_rfl) (pW rfl λ_ _ _ _ _ _ _ _ _=>rfl)
theorem K0:bU (aV L) (top 72) "law" f6:=cX rfl rfl rfl (by decide +kernel) (by kernel_rfl) (AU rfl λ_ _ _ _ _ _ _=>rfl)
end Tx
namespace Mx
open CI Tx
local macro_rules|`(~~~$x)=>`(CI.Sl.ow (.lst (($x).map CI.D.int)) true false)
set_option compiler.extract_closed false
set_option genSizeOf false
local macro_rules | `(tactic| walk_at $s:str) => do if !s.getString.startsWith "!" then Lean.Macro.throwUnsupported else `(tactic| simp only[$[$((("aDc aDm kO R3 WB MY aGR aFS aGv aGz aBo W0 QU aGD aF8 aAQ aBi YE aCm aD1 aFC aGe aGC aGo aFE aGF aEu aEE aBP aAs W6 UI YV PV O0 PQ RI aDJ aBj V0 UM UA XN WY WI OC aC5 aAC OK U6 YK OT KO aBc aBa aBr ZG aAN aCS aCc aEd aEj aCK Y3 aDq R5 aAv xA nJ aDI aBp aC4 YO aCq VN T4 aDo aEf YX aCb aCi aDh aD4 aEM aET WM aFY aGH aFz aEv aED aDO aEC aD3 aGa ZR aEN Z5 aDA aEB aDr aDp Y1 aCx aGw aGf aGt aGM aDl aDD aD7 X8 ZK T3 W9 UY aEa aC1 X9 aDv aD8 aD5 aFB aAx aDk aAI UD aCr YU ZL aF4 aDe aB0 VR aCP aCI aEc Y6 aBd aGd XW aCz aBY aEJ aCW WT ZY aEI aDX aBA IK E5 Z6 aEO aCf aAJ aEe O9 aDT aCC st_ WO U3 V8 WJ UP cD WL aA2 aCA ZX aAo aAP aB8 aBw aCu aCv VY UL VJ aE0 WZ ZA aAm aA4 ZF aBC aD6 XI aCG T1 aDs aB2 aDZ aDi ZS Z7 oK dH VA YI FF YH LL MK N7 PD Q3 WK OJ YG aDG ZP VX VE WW aBX Y7 aEy T5 U4 zg0 zg1 zs0 zs1 zb zm zi zc zn zr0 zr1 zl0 zl1 znt znf zko zks zkn W7 aAf aEr aB4 Y9 aDQ aCp aDu aDN VS aBL AR aCd aE6 aBb UN aDL aDV XZ aGn XX Q7 aGh MC aF6 OQ T8 WC YD QZ aFG aEQ RC K8 aAX Z2 aFy aDP O2 N1 PR aC7 aFW aGS aF1 XH WX P6 IQ FA U9 PM aAg VC yG LR HP E4 N4 LM HL KY WH OI A9 xF vQ HX aA1 RB UE NX NQ NH KQ if_true if_false Bool.false_eq_true decide_true decide_false Bool.true_eq_false not_true_eq_false not_false_eq_true and_self and_true true_and or_true true_or Za reduceIte Int.reduceLT Int.reduceLE Int.reduceGT Int.reduceNeg Nat.reduceAdd Nat.reduceLT Nat.reduceLeDiff Int.reduceEq Int.reduceNe Nat.reduceBEq Zs List.map_nil Zj List.all_nil Bool.and_true Bool.true_and Bool.false_and Bool.and_false List.length_nil Zk beq_self_eq_true sV ZU aD9 List.take_succ_cons List.take_zero List.drop_succ_cons List.drop_zero".splitOn " ")++(((s.getString.drop 1).toString.replace "%" "List.length_map").replace "&" "Bool.or_false Bool.false_or Bool.or_true Bool.true_or" |>.splitOn " ")).filter (· ≠ "") |>.toArray.map λx => Lean.mkIdent x.toName):term],*, *])
theorem lD:type_of% (And.intro @ML (And.intro @st_ (And.intro @List.getElem?_cons_zero.{0} (And.intro @List.getElem?_cons_succ.{0} (And.intro @List.set_cons_zero.{0} (And.intro @List.set_cons_succ.{0} (And.intro @F6 (And.intro @GB (And.intro @KU @aAj))))))))):=(And.intro @ML (And.intro @st_ (And.intro @List.getElem?_cons_zero.{0} (And.intro @List.getElem?_cons_succ.{0} (And.intro @List.set_cons_zero.{0} (And.intro @List.set_cons_succ.{0} (And.intro @F6 (And.intro @GB (And.intro @KU @aAj)))))))))
def aH(k s m:Int):Int:=if k=0 then s / m else(s*69621+7) % 2147483629
noncomputable def aZ(k s m:Int):Int:=if k=0 then s % m else((((s*69621+7) % 2147483629) % 65521*40503+((s*69621+7) % 2147483629) / 65521+1)*16807 % 2147483647) / 13 % m
theorem cM{W n:Nat}{k s m:Int}(h1:0<m)(h2:m<nofun):run T W (n+1) "L_draw" [.ow (.lst [.int k,.int s]) true false,.sh (.int m)]=some (.ok (.sh (.int (aZ k s m))),[.ow (.lst [.int k,.int (aH k s m)]) true false,.sh (.int m)]):=by
 rw[cU EH rfl rfl];unfold l5;by_cases hk:k=0
 ·subst hk;unfold aH aZ
  walk_at "!"
 ·unfold aH aZ
  walk_at "!"
theorem bG{k s m:Int}(h:0<m):0<=aZ k s m:=by unfold aZ;split<;>exact Int.emod_nonneg _ (by omega)
theorem bF{k s m:Int}(h:0<m):aZ k s m<m:=by unfold aZ;split<;>exact Int.emod_lt_of_pos _ h
mutual
theorem C5:∀(n:Nat) (d:D),bM n d=true->eE d d=true
 |_,.non,_=>by simp[eE]
 |_,.bl _,_=>by simp[eE]
 |_,.int _,_=>by simp[eE]
 |_,.str _,_=>by simp[eE]
 | 0,.tup _,h=>by simp[bM] at h
 | 0,.lst _,h=>by simp[bM] at h
 |n+1,.tup ds,h=>by simp only[bM] at h;simp only[eE];exact rO n ds h
 |n+1,.lst ds,h=>by simp only[bM] at h;simp only[eE];exact rO n ds h
 |_,.ins _ _ _,h=>by simp[bM] at h
 |_,.dct _,h=>by simp[bM] at h
 |_,.exn _,h=>by simp[bM] at h
 |_,.dcs _ _,h=>by simp[bM] at h
theorem rO:∀(n:Nat) (ds:List D),ds.all (bM n)=true->lX ds ds=true
 |_,[],_=>by simp[lX]
 |n,d::ds,h=>by(simp only[Zj,ZB] at h;simp only[lX,C5 n d h.1,rO n ds h.2,Bool.and_self])
end
theorem HR{d:D}(h:bM 20 d=true):cQ .NotEq d d=some false:=by rw[aAa h h,C5 20 d h];rfl
def eJ(tss:List (List Int)):List D:=tss.map λis=>.tup (is.map D.int)
noncomputable def gF(ns:List Int)(k:Nat):Int×Int :=
 if k<ns.length/\ns.headD 0 % 2=0 then(0,ns.getD k 0)
 else(1,((if 0<ns.length then ns.getD (k % ns.length) 0 % 2147483587+48611*((k / ns.length:Nat):Int)+3*(k:Int) else 30011*(k:Int)+7)*48271+11*(k:Int)+1) % 2147483647)
theorem xU{ns:List Int}{k:Nat}(h:k<ns.length):L2.eO (ns.map D.int) (k:Int)=some (.int (ns.getD k 0)):=by
 apply L2.yR
 rw[Zh,Zb h];simp[h]
theorem CW{W n:Nat}{ns:List Int}{k:Nat}(hn:ns.length<=63)(hk:k<=100000):run T W (n+1) "L_pen" [.sh (.lst (ns.map .int)),.sh (.int (k:Int))]=some (.ok (.ow (.lst [.int (gF ns k).1,.int (gF ns k).2])),[.sh (.lst (ns.map .int)),.sh (.int (k:Int))]):=by
 rw[cU G7 rfl rfl];unfold pI;by_cases h0:ns=[]
 ·subst h0;have hb:decide ((k:Int)<((0:Nat):Int))=false:=Zm (by omega);have hb':decide (((0:Nat):Int) > 0)=false:=rfl;have hb2:decide (0<((0:Nat):Int))=false:=rfl;have hb3:decide ((k:Int)<0)=false:=Zm (by omega)
  have ev:gF [] k=(1,((30011*(k:Int)+7)*48271+11*(k:Int)+1) % 2147483647):=by(unfold gF;rw[Zp (by simp),Zp (by simp)])
  walk_at "!%"
 ·have hpos:0<ns.length:=List.length_pos_iff.mpr h0;have hb2:decide (0<(ns.length:Int))=true:=Zn (by omega)
  have e0:(ns.map D.int)[0]?=some (.int (ns.headD 0)):=by cases ns with | nil=>exact absurd rfl h0 | cons a r=>rfl
  have e1:(0:Int)<(ns.length:Int):=by omega
  have e2:(ns.length:Int)<nofun:=by omega
  have e3:(k:Int) / (ns.length:Int)=((k / ns.length:Nat):Int):=by rw[Int.natCast_ediv]
  have e4:(k:Int) % (ns.length:Int)=((k % ns.length:Nat):Int):=by rw[Int.natCast_emod]
  have e5:=xU (ns:=ns) (k:=k % ns.length) (Nat.mod_lt _ hpos);by_cases hk2:k<ns.length
  ·have hb:decide ((k:Int)<(ns.length:Int))=true:=Zn (by omega);have e6:=xU hk2;by_cases hm:ns.headD 0 % 2=0
   ·have ev:gF ns k=(0,ns.getD k 0):=by unfold gF;rw[Zo ⟨hk2,hm⟩]
    clear hk2
    walk_at "!%"
   ·have hm':decide (ns.headD 0 % 2=0)=false:=Zm hm
    have ev:gF ns k=(1,((ns.getD (k % ns.length) 0 % 2147483587+48611*((k / ns.length:Nat):Int)+3*(k:Int))*48271+11*(k:Int)+1) % 2147483647):=by(unfold gF;rw[Zp (λz=>hm z.2),Zo hpos])
    clear hk2 hm
    walk_at "!%"
  ·have hb:decide ((k:Int)<(ns.length:Int))=false:=Zm (by omega)
   have ev:gF ns k=(1,((ns.getD (k % ns.length) 0 % 2147483587+48611*((k / ns.length:Nat):Int)+3*(k:Int))*48271+11*(k:Int)+1) % 2147483647):=by(unfold gF;rw[Zp (λz=>hk2 z.1),Zo hpos])
   clear hk2
   walk_at "!%"
theorem tP:((Str.ofString "span")==(Str.ofString "leap"))=false:=by decide +kernel
theorem r8:((Str.ofString "span")==(Str.ofString "back"))=false:=by decide +kernel
theorem pY:((Str.ofString "span")==(Str.ofString "again"))=false:=by decide +kernel
theorem qB:((Str.ofString "span")==(Str.ofString "range"))=false:=by decide +kernel
theorem qG:((Str.ofString "span")==(Str.ofString "above"))=false:=by decide +kernel
theorem qE:((Str.ofString "span")==(Str.ofString "never"))=false:=by decide +kernel
theorem yC:cQ .In (.str (Str.ofString "span")) (.tup [.str (Str.ofString "leap"),.str (Str.ofString "back"),.str (Str.ofString "again")])=some false:=(rfl)
theorem tN:((Str.ofString "leap")==(Str.ofString "span"))=false:=by decide +kernel
theorem sS:((Str.ofString "leap")==(Str.ofString "back"))=false:=by decide +kernel
theorem qS:((Str.ofString "leap")==(Str.ofString "again"))=false:=by decide +kernel
theorem pU:((Str.ofString "leap")==(Str.ofString "range"))=false:=by decide +kernel
theorem qZ:((Str.ofString "leap")==(Str.ofString "above"))=false:=by decide +kernel
theorem qL:((Str.ofString "leap")==(Str.ofString "never"))=false:=by decide +kernel
theorem xC:cQ .In (.str (Str.ofString "leap")) (.tup [.str (Str.ofString "leap"),.str (Str.ofString "back"),.str (Str.ofString "again")])=some true:=(rfl)
theorem sA:((Str.ofString "back")==(Str.ofString "span"))=false:=by decide +kernel
theorem sG:((Str.ofString "back")==(Str.ofString "leap"))=false:=by decide +kernel
theorem rC:((Str.ofString "back")==(Str.ofString "again"))=false:=by decide +kernel
theorem qO:((Str.ofString "back")==(Str.ofString "range"))=false:=by decide +kernel
theorem qT:((Str.ofString "back")==(Str.ofString "above"))=false:=by decide +kernel
theorem q0:((Str.ofString "back")==(Str.ofString "never"))=false:=by decide +kernel
theorem xR:cQ .In (.str (Str.ofString "back")) (.tup [.str (Str.ofString "leap"),.str (Str.ofString "back"),.str (Str.ofString "again")])=some true:=(rfl)
theorem pZ:((Str.ofString "again")==(Str.ofString "span"))=false:=by decide +kernel
theorem rA:((Str.ofString "again")==(Str.ofString "leap"))=false:=by decide +kernel
theorem pX:((Str.ofString "again")==(Str.ofString "back"))=false:=by decide +kernel
theorem nS:((Str.ofString "again")==(Str.ofString "range"))=false:=by decide +kernel
theorem oJ:((Str.ofString "again")==(Str.ofString "above"))=false:=by decide +kernel
theorem oG:((Str.ofString "again")==(Str.ofString "never"))=false:=by decide +kernel
theorem uT:cQ .In (.str (Str.ofString "again")) (.tup [.str (Str.ofString "leap"),.str (Str.ofString "back"),.str (Str.ofString "again")])=some true:=(rfl)
theorem qI:((Str.ofString "range")==(Str.ofString "span"))=false:=by decide +kernel
theorem qH:((Str.ofString "range")==(Str.ofString "leap"))=false:=by decide +kernel
theorem qY:((Str.ofString "range")==(Str.ofString "back"))=false:=by decide +kernel
theorem nN:((Str.ofString "range")==(Str.ofString "again"))=false:=by decide +kernel
theorem n0:((Str.ofString "range")==(Str.ofString "above"))=false:=by decide +kernel
theorem nW:((Str.ofString "range")==(Str.ofString "never"))=false:=by decide +kernel
theorem uO:cQ .In (.str (Str.ofString "range")) (.tup [.str (Str.ofString "leap"),.str (Str.ofString "back"),.str (Str.ofString "again")])=some false:=(rfl)
theorem qA:((Str.ofString "above")==(Str.ofString "span"))=false:=by decide +kernel
theorem p9:((Str.ofString "above")==(Str.ofString "leap"))=false:=by decide +kernel
theorem rB:((Str.ofString "above")==(Str.ofString "back"))=false:=by decide +kernel
theorem oF:((Str.ofString "above")==(Str.ofString "again"))=false:=by decide +kernel
theorem nU:((Str.ofString "above")==(Str.ofString "range"))=false:=by decide +kernel
theorem nV:((Str.ofString "above")==(Str.ofString "never"))=false:=by decide +kernel
theorem vD:cQ .In (.str (Str.ofString "above")) (.tup [.str (Str.ofString "leap"),.str (Str.ofString "back"),.str (Str.ofString "again")])=some false:=(rfl)
theorem rE:((Str.ofString "never")==(Str.ofString "span"))=false:=by decide +kernel
theorem qF:((Str.ofString "never")==(Str.ofString "leap"))=false:=by decide +kernel
theorem qJ:((Str.ofString "never")==(Str.ofString "back"))=false:=by decide +kernel
theorem n9:((Str.ofString "never")==(Str.ofString "again"))=false:=by decide +kernel
theorem nY:((Str.ofString "never")==(Str.ofString "range"))=false:=by decide +kernel
theorem nM:((Str.ofString "never")==(Str.ofString "above"))=false:=by decide +kernel
theorem vA:cQ .In (.str (Str.ofString "never")) (.tup [.str (Str.ofString "leap"),.str (Str.ofString "back"),.str (Str.ofString "again")])=some false:=(rfl)
theorem BO:type_of% (And.intro @tP (And.intro @r8 (And.intro @pY (And.intro @qB (And.intro @qG (And.intro @qE (And.intro @yC (And.intro @tN (And.intro @sS (And.intro @qS (And.intro @pU (And.intro @qZ (And.intro @qL (And.intro @xC (And.intro @sA (And.intro @sG (And.intro @rC (And.intro @qO (And.intro @qT (And.intro @q0 (And.intro @xR (And.intro @pZ (And.intro @rA (And.intro @pX (And.intro @nS (And.intro @oJ (And.intro @oG (And.intro @uT (And.intro @qI (And.intro @qH (And.intro @qY (And.intro @nN (And.intro @n0 (And.intro @nW (And.intro @uO (And.intro @qA (And.intro @p9 (And.intro @rB (And.intro @oF (And.intro @nU (And.intro @nV (And.intro @vD (And.intro @rE (And.intro @qF (And.intro @qJ (And.intro @n9 (And.intro @nY (And.intro @nM @vA)))))))))))))))))))))))))))))))))))))))))))))))):=(And.intro @tP (And.intro @r8 (And.intro @pY (And.intro @qB (And.intro @qG (And.intro @qE (And.intro @yC (And.intro @tN (And.intro @sS (And.intro @qS (And.intro @pU (And.intro @qZ (And.intro @qL (And.intro @xC (And.intro @sA (And.intro @sG (And.intro @rC (And.intro @qO (And.intro @qT (And.intro @q0 (And.intro @xR (And.intro @pZ (And.intro @rA (And.intro @pX (And.intro @nS (And.intro @oJ (And.intro @oG (And.intro @uT (And.intro @qI (And.intro @qH (And.intro @qY (And.intro @nN (And.intro @n0 (And.intro @nW (And.intro @uO (And.intro @qA (And.intro @p9 (And.intro @rB (And.intro @oF (And.intro @nU (And.intro @nV (And.intro @vD (And.intro @rE (And.intro @qF (And.intro @qJ (And.intro @n9 (And.intro @nY (And.intro @nM @vA))))))))))))))))))))))))))))))))))))))))))))))))
theorem pw{j:Int}(h1:0<=j)(h2:j<=12):(0:Int)<2 ^ j.toNat/\(2:Int) ^ j.toNat<nofun:=by
 have h:j.toNat<=12:=by omega
 generalize j.toNat=q at h;have h3:2 ^ q<=2 ^ 12:=Nat.pow_le_pow_right (by decide) h;have h4:(2:Int) ^ q<=4096:=by exact_mod_cast h3
 exact⟨Int.pow_pos (by decide),Int.lt_of_le_of_lt h4 (by decide)⟩
inductive RuleD(no ba oc ma:Int):D->Prop
 |span (a b:Int) (h1:0<=a) (h2:a<ba) (h3:0<=b) (h4:b<2 ^ oc.toNat):RuleD no ba oc ma (.tup [.str "span",.int a,.int b])
 |leap (a:Int) (h1:0<=a) (h2:a<=12):RuleD no ba oc ma (.tup [.str "leap",.int a])
 |back (a b:Int) (h1:1<=a) (h2:a<=12) (h3:1<=b) (h4:b<=12):RuleD no ba oc ma (.tup [.str "back",.int a,.int b])
 |again (a:Int) (h1:1<=a) (h2:a<=3):RuleD no ba oc ma (.tup [.str "again",.int a])
 |range (a b:Int) (h1:-60<=a) (h2:a<=b) (h3:b<=60):RuleD no ba oc ma (.tup [.str "range",.int a,.int b])
 |above (v w:Nat) (h1:(v:Int)<=ma) (h2:(w:Int)<=ma) (h3:v≠w):RuleD no ba oc ma (.tup [.str "above",.int (v:Int),.int (w:Int)])
 |never (a b:Int) (x:PySem.Str) (h1:0<=a) (h2:a<oc) (h3:0<=b) (h4:b<oc) (h5:x="like"\/x="against"\/x="aside"\/x="any"):RuleD no ba oc ma (.tup [.str "never",.int a,.int b,.str x])
section
variable{P:aE}{C:Calls}{W:Nat}{k s no ba oc ma w:Int}{u6 u7 u8:Sl}
noncomputable def fM(k s no ba oc ma w:Int)(u6 u7 u8:Sl):Env:=[.ow (.lst [.int k,.int s]) true false,.sh (.int no),.sh (.int ba),.sh (.int oc),.sh (.int ma),.sh (.int w),u6,u7,u8]
theorem qQ{a:List S}{i:Int}:ex P C W (.ifs (.cmp .Eq (.var 5) (.con (.int i))) a []) (fM k s no ba oc ma w u6 u7 u8)=if w=i then exs P C W a (fM k s no ba oc ma w u6 u7 u8) else some (.nx,fM k s no ba oc ma w u6 u7 u8):=by
 unfold fM;by_cases h:w=i
 ·have h':decide (w=i)=true:=Zn h;rw[Zo h];clear h
  walk_at "!"
 ·have h':decide (w=i)=false:=Zm h;rw[Zp h];clear h
  walk_at "!"
end
theorem at2{a b:Int}{c:Int}(h1:0<=c)(h2:c<2):L2.eO [D.int a,D.int b] c=some (.int (if c=0 then a else b)):=by
 have:c=0\/c=1:=by omega
 rcases this with rfl | rfl<;>rfl
theorem atW{c:Int}(h1:0<=c)(h2:c<4):∃x:PySem.Str,L2.eO [D.str "like",D.str "against",D.str "aside",D.str "any"] c=some (.str x)/\(x="like"\/x="against"\/x="aside"\/x="any"):=by
 have:c=0\/c=1\/c=2\/c=3:=by omega
 rcases this with rfl | rfl | rfl | rfl
 ·exact⟨_,rfl,.inl rfl⟩
 ·exact⟨_,rfl,.inr (.inl rfl)⟩
 ·exact⟨_,rfl,.inr (.inr (.inl rfl))⟩
 ·exact⟨_,rfl,.inr (.inr (.inr rfl))⟩
theorem LD{W n:Nat}{k s0 no ba oc ma:Int}(n1:1<=no)(n2:no<=7)(b1:1<=ba)(b2:ba<=4)(o1:1<=oc)(o2:oc<=12)(m1:1<=ma)(m2:ma<=3) :
  ∃s' d,run T W (n+2) "L_rule" [.ow (.lst [.int k,.int s0]) true false,.sh (.int no),.sh (.int ba),.sh (.int oc),.sh (.int ma)]=some (.ok (.sh d),[.ow (.lst [.int k,.int s']) true false,.sh (.int no),.sh (.int ba),.sh (.int oc),.sh (.int ma)])/\RuleD no ba oc ma d:=by
 rw[cU BV rfl rfl];unfold l8;have g1:0<ba:=by omega
 have g2:ba<nofun:=by omega
 have g3:0<oc:=by omega
 have g4:oc<nofun:=by omega
 have g5:0<=oc:=by omega
 have g6:oc<=1000:=by omega
 obtain⟨g7,g8⟩:=pw g5 o2;have g9:0<ma:=by omega
 have g10:ma<nofun:=by omega
 have g11:0<ma+1:=by omega
 have g12:ma+1<nofun:=by omega
 have v1:=bG (k:=k) (s:=s0) (m:=9) (by decide);have v2:=bF (k:=k) (s:=s0) (m:=9) (by decide)
 have e0:ex T.pins (run T W (n+1)) W m9 ([.ow (.lst [.int k,.int s0]) true false,.sh (.int no),.sh (.int ba),.sh (.int oc),.sh (.int ma)]++List.replicate 4 .un)=some (.nx,fM k (aH k s0 9) no ba oc ma (aZ k s0 9) .un .un .un):=by
  unfold fM;rw[A5];clear g1 g2 g3 g4 g5 g6 g7 g8 g9 g10 g11 g12 v1 v2 n1 n2 b1 b2 o1 o2 m1 m2
  walk_at "!cM"
 generalize aZ k s0 9=w at *
 generalize aH k s0 9=s at *
 rw[dH,e0,kO,dH];clear e0
 -- a return of a statement ends the def
 have fin:∀{st:S} {r:List S} {s':Int} {d:D} {u6 u7 u8:Sl},ex T.pins (run T W (n+1)) W st (fM k s no ba oc ma w .un .un .un)=some (.rt (.sh d),fM k s' no ba oc ma w u6 u7 u8)->RuleD no ba oc ma d ->
   ∃s'' d,NR [.ow (.lst [.int k,.int s0]) true false,.sh (.int no),.sh (.int ba),.sh (.int oc),.sh (.int ma)] ((ex T.pins (run T W (n+1)) W st (fM k s no ba oc ma w .un .un .un)).next (exs T.pins (run T W (n+1)) W r))=some (.ok (.sh d),[.ow (.lst [.int k,.int s'']) true false,.sh (.int no),.sh (.int ba),.sh (.int oc),.sh (.int ma)])/\RuleD no ba oc ma d:=λh hd=>by
  rw[h,R3,FF];exact⟨_,_,rfl,hd⟩
 by_cases c0:w<2
 ·refine fin (s':=aH k (aH k s ba) (2 ^ oc.toNat)) (d:=.tup [.str "span",.int (aZ k s ba),.int (aZ k (aH k s ba) (2 ^ oc.toNat))]) (u6:=.un) (u7:=.un) (u8:=.un) ?_ (.span _ _ (bG g1) (bF g1) (bG g7) (bF g7));have c0':decide (w<2)=true:=Zn c0;rw[qU];unfold fM;clear n1 n2 b1 b2 o1 o2 m1 m2 v1 v2 c0 fin
  walk_at "!cM"
 have e1:ex T.pins (run T W (n+1)) W m8 (fM k s no ba oc ma w .un .un .un)=some (.nx,fM k s no ba oc ma w .un .un .un):=by
  have c0':decide (w<2)=false:=Zm c0;rw[qU];unfold fM;clear n1 n2 b1 b2 o1 o2 m1 m2 v1 v2 c0 fin
  walk_at "!cM"
 rw[e1,kO,dH];clear e1;by_cases c2:w=2
 ·have x1:=bG (k:=k) (s:=aH k s ba) (m:=oc) g3;have x2:=bF (k:=k) (s:=aH k s ba) (m:=oc) g3;have x3:aZ k (aH k s ba) oc<=1000:=by omega
  have h4:(2:Int) ^ (aZ k (aH k s ba) oc).toNat<=2 ^ oc.toNat-1:=by
   have h1:(aZ k (aH k s ba) oc).toNat+1<=oc.toNat:=by omega
   have h2:(2:Int) ^ ((aZ k (aH k s ba) oc).toNat+1)<=2 ^ oc.toNat:=by
    have h3:2 ^ ((aZ k (aH k s ba) oc).toNat+1)<=2 ^ oc.toNat:=Nat.pow_le_pow_right (by decide) h1
    exact_mod_cast h3
   have h4:(2:Int) ^ ((aZ k (aH k s ba) oc).toNat+1)=2 ^ (aZ k (aH k s ba) oc).toNat*2:=Int.pow_succ _ _;have h5:(0:Int)<2 ^ (aZ k (aH k s ba) oc).toNat:=Int.pow_pos (by decide);omega
  have h5:(0:Int)<2 ^ (aZ k (aH k s ba) oc).toNat:=Int.pow_pos (by decide);refine fin (s':=aH k (aH k s ba) oc) (d:=.tup [.str "span",.int (aZ k s ba),.int (2 ^ oc.toNat-1-2 ^ (aZ k (aH k s ba) oc).toNat)]) (u6:=.un) (u7:=.un) (u8:=.un) ?_ (.span _ _ (bG g1) (bF g1) (by omega) (by omega));rw[qX,qQ,Zo c2];unfold fM;clear n1 n2 b1 b2 o1 o2 m1 m2 v1 v2 c0 fin h4 h5 x2
  walk_at "!cM"
 rw[qX,qQ,Zp c2,kO,dH];by_cases c3:w=3
 ·have x1:=bG (k:=k) (s:=s) (m:=2) (by decide);have x2:=bF (k:=k) (s:=s) (m:=2) (by decide);have hat:=at2 (a:=13) (b:=no+1) x1 x2;obtain⟨q,hq⟩:∃q,q=(if aZ k s 2=0 then 13 else no+1):=⟨_,rfl⟩
  rw[<- hq] at hat;have q1:0<q:=by rw[hq];split<;>omega
  have q2:q<=13:=by rw[hq];split<;>omega
  have q3:q<nofun:=by omega
  refine fin (s':=aH k (aH k s 2) q) (d:=.tup [.str "leap",.int (aZ k (aH k s 2) q)]) (u6:=.un) (u7:=.un) (u8:=.un) ?_ (.leap _ (bG q1) (by have:=bF (k:=k) (s:=aH k s 2) q1;omega));rw[qK,qQ,Zo c3];unfold fM;clear n1 n2 b1 b2 o1 o2 m1 m2 v1 v2 c0 fin q2 hq x1 x2
  walk_at "!cM"
 rw[qK,qQ,Zp c3,kO,dH];by_cases c4:w=4
 ·have x1:=bG (k:=k) (s:=s) (m:=12) (by decide);have x2:=bF (k:=k) (s:=s) (m:=12) (by decide);have x3:=bG (k:=k) (s:=aH k s 12) (m:=12) (by decide);have x4:=bF (k:=k) (s:=aH k s 12) (m:=12) (by decide);refine fin (s':=aH k (aH k s 12) 12) (d:=.tup [.str "back",.int (1+aZ k s 12),.int (1+aZ k (aH k s 12) 12)]) (u6:=.un) (u7:=.un) (u8:=.un) ?_ (.back _ _ (by omega) (by omega) (by omega) (by omega));rw[qM,qQ,Zo c4];unfold fM;clear n1 n2 b1 b2 o1 o2 m1 m2 v1 v2 c0 fin x1 x2 x3 x4
  walk_at "!cM"
 rw[qM,qQ,Zp c4,kO,dH];by_cases c5:w=5
 ·have x1:=bG (k:=k) (s:=s) (m:=3) (by decide);have x2:=bF (k:=k) (s:=s) (m:=3) (by decide);refine fin (s':=aH k s 3) (d:=.tup [.str "again",.int (1+aZ k s 3)]) (u6:=.un) (u7:=.un) (u8:=.un) ?_ (.again _ (by omega) (by omega));rw[qR,qQ,Zo c5];unfold fM;clear n1 n2 b1 b2 o1 o2 m1 m2 v1 v2 c0 fin x1 x2
  walk_at "!cM"
 rw[qR,qQ,Zp c5,kO,dH];by_cases c6:w=6
 ·have u1:=bG (k:=k) (s:=s) (m:=121) (by decide);have u2:=bF (k:=k) (s:=s) (m:=121) (by decide);have u3:=bG (k:=k) (s:=aH k s 121) (m:=20) (by decide);have u4:=bF (k:=k) (s:=aH k s 121) (m:=20) (by decide);have u5:=bG (k:=k) (s:=aH k (aH k s 121) 20) (m:=2) (by decide);have u6:=bF (k:=k) (s:=aH k (aH k s 121) 20) (m:=2) (by decide);have hat:=at2 (a:=aZ k s 121-60) (b:=aZ k (aH k s 121) 20-12) u5 u6;obtain⟨lo,hlo⟩:∃lo,lo=(if aZ k (aH k (aH k s 121) 20) 2=0 then aZ k s 121-60 else aZ k (aH k s 121) 20-12):=⟨_,rfl⟩
  rw[<- hlo] at hat;have q1:lo<=60:=by rw[hlo];split<;>omega
  have q2:-60<=lo:=by rw[hlo];split<;>omega
  have y1:0<61-lo:=by omega
  have y2:61-lo<nofun:=by omega
  obtain⟨s1,hs1⟩:∃s1,s1=aH k (aH k (aH k s 121) 20) 2:=⟨_,rfl⟩
  have z1:=bG (k:=k) (s:=s1) y1;have z2:=bF (k:=k) (s:=s1) y1;refine fin (s':=aH k s1 (61-lo)) (d:=.tup [.str "range",.int lo,.int (lo+aZ k s1 (61-lo))]) (u6:=.sh (.int lo)) (u7:=.un) (u8:=.un) ?_ (.range _ _ q2 (by omega) (by omega));rw[qV,qQ,Zo c6];have hs1':=hs1.symm;unfold fM;clear n1 n2 b1 b2 o1 o2 m1 m2 v1 v2 c0 fin u1 u2 u3 u4 u5 u6 q1 q2 z1 z2 hlo hs1
  walk_at "!cM"
 rw[qV,qQ,Zp c6,kO,dH];by_cases c7:w=7
 ·have x1:=bG (k:=k) (s:=s) g11;have x2:=bF (k:=k) (s:=s) g11;have x3:=bG (k:=k) (s:=aH k s (ma+1)) g9;have x4:=bF (k:=k) (s:=aH k s (ma+1)) g9;obtain⟨a,ha⟩:∃a:Nat,aZ k s (ma+1)=(a:Int):=⟨_,(Int.toNat_of_nonneg x1).symm⟩
  have y1:=Int.emod_nonneg ((a:Int)+1+aZ k (aH k s (ma+1)) ma) (b:=ma+1) (by omega);have y2:=Int.emod_lt_of_pos ((a:Int)+1+aZ k (aH k s (ma+1)) ma) (b:=ma+1) (by omega);obtain⟨b,hb⟩:∃b:Nat,((a:Int)+1+aZ k (aH k s (ma+1)) ma) % (ma+1)=(b:Int):=⟨_,(Int.toNat_of_nonneg y1).symm⟩
  have hne:a≠b:=λz=>by
   subst z;rcases Int.lt_or_le ((a:Int)+1+aZ k (aH k s (ma+1)) ma) (ma+1) with h | h
   ·rw[Int.emod_eq_of_lt (by omega) h] at hb;omega
   ·have h2:((a:Int)+1+aZ k (aH k s (ma+1)) ma) % (ma+1)=((a:Int)+1+aZ k (aH k s (ma+1)) ma-(ma+1)):=by
     rw[<- Int.sub_emod_right,Int.emod_eq_of_lt (by omega) (by omega)]
    omega
  refine fin (s':=aH k (aH k s (ma+1)) ma) (d:=.tup [.str "above",.int (a:Int),.int (b:Int)]) (u6:=.un) (u7:=.sh (.int (a:Int))) (u8:=.un) ?_ (.above _ _ (by omega) (by omega) hne);rw[rG,qQ,Zo c7];unfold fM;clear n1 n2 b1 b2 o1 o2 m1 m2 v1 v2 c0 fin x1 x2 x3 x4 y1 y2 hne
  walk_at "!cM"
 rw[rG,qQ,Zp c7,kO,dH,A0];have x1:=bG (k:=k) (s:=aH k (aH k s oc) oc) (m:=4) (by decide);have x2:=bF (k:=k) (s:=aH k (aH k s oc) oc) (m:=4) (by decide);obtain⟨x,hat,hx⟩:=atW x1 x2;refine⟨aH k (aH k (aH k s oc) oc) 4,.tup [.str "never",.int (aZ k s oc),.int (aZ k (aH k s oc) oc),.str x], ?_,.never _ _ _ (bG g3) (bF g3) (bG g3) (bF g3) hx⟩;unfold fM;clear n1 n2 b1 b2 o1 o2 m1 m2 v1 v2 c0 fin x1 x2 hx
 walk_at "!A1 cM"
def fD(f:Int×Int×Bool):D:=.tup [.int f.1,.int f.2.1,.bl f.2.2]
theorem QA{g:Bool}{a b:Int}:L2.eO [D.int a,D.int b] (if g=true then 1 else 0)=some (.int (if g=true then b else a)):=by cases g<;>rfl
theorem SD{g:Bool}{a b:Int}(ha:0<a)(hb:0<b):0<(if g=true then b else a):=by cases g<;>simpa
theorem SS{g:Bool}{a b c:Int}(ha:a<c)(hb:b<c):(if g=true then b else a)<c:=by cases g<;>simpa
structure HouseOk(no ba oc:Int)(fs:List (Int×Int×Bool)):Prop where
 n1:1<=no
 n2:no<=7
 b1:1<=ba
 b2:ba<=4
 o1:1<=oc
 o2:oc<=12
 l1:1<=fs.length
 l2:fs.length<=3
 f:∀f∈fs,0<=f.1/\f.1<=4/\-12<=f.2.1/\f.2.1<=12
theorem JW{W n:Nat}{k s:Int}:∃s' no ba oc fs rs,run T W (n+3) "L_house" [.ow (.lst [.int k,.int s]) true false]=some (.ok (.sh (.tup [.int no,.int ba,.int oc,.tup (fs.map fD),.tup rs])),[.ow (.lst [.int k,.int s']) true false])/\HouseOk no ba oc fs/\rs.length<=8/\∀d∈rs,RuleD no ba oc (fs.length:Int) d:=by
 rw[cU z7 rfl rfl];unfold kH;generalize hg:decide (aZ k s 2=0)=g;have p1:=SD (g:=g) (a:=4) (b:=7) (by decide) (by decide);have p2:=SS (g:=g) (a:=4) (b:=7) (c:=nofun) (by decide) (by decide);have p3:=SD (g:=g) (a:=2) (b:=4) (by decide) (by decide);have p4:=SS (g:=g) (a:=2) (b:=4) (c:=nofun) (by decide) (by decide);have p5:=SD (g:=g) (a:=2) (b:=3) (by decide) (by decide);have p6:=SS (g:=g) (a:=2) (b:=3) (c:=nofun) (by decide) (by decide);have p7:=SD (g:=g) (a:=2) (b:=5) (by decide) (by decide);have p8:=SS (g:=g) (a:=2) (b:=5) (c:=nofun) (by decide) (by decide);obtain⟨s1,hs1⟩:∃s1,s1=aH k s 2:=⟨_,rfl⟩
 obtain⟨no,hno⟩:∃no,no=1+aZ k s1 (if g=true then 7 else 4):=⟨_,rfl⟩
 obtain⟨s2,hs2⟩:∃s2,s2=aH k s1 (if g=true then 7 else 4):=⟨_,rfl⟩
 obtain⟨ba,hba⟩:∃ba,ba=1+aZ k s2 (if g=true then 4 else 2):=⟨_,rfl⟩
 obtain⟨s3,hs3⟩:∃s3,s3=aH k s2 (if g=true then 4 else 2):=⟨_,rfl⟩
 obtain⟨oc,hoc⟩:∃oc,oc=1+aZ k s3 12:=⟨_,rfl⟩
 obtain⟨s4,hs4⟩:∃s4,s4=aH k s3 12:=⟨_,rfl⟩
 obtain⟨ma,hma⟩:∃ma,ma=1+aZ k s4 (if g=true then 3 else 2):=⟨_,rfl⟩
 obtain⟨s5,hs5⟩:∃s5,s5=aH k s4 (if g=true then 3 else 2):=⟨_,rfl⟩
 have n1:1<=no:=by have:=bG (k:=k) (s:=s1) p1;omega
 have n2:no<=7:=by
  have:=bF (k:=k) (s:=s1) p1
  have:(if g=true then(7:Int) else 4)<=7:=by cases g<;>decide
  omega
 have b1:1<=ba:=by have:=bG (k:=k) (s:=s2) p3;omega
 have b2:ba<=4:=by
  have:=bF (k:=k) (s:=s2) p3
  have:(if g=true then(4:Int) else 2)<=4:=by cases g<;>decide
  omega
 have o1:1<=oc:=by have:=bG (k:=k) (s:=s3) (m:=12) (by decide);omega
 have o2:oc<=12:=by have:=bF (k:=k) (s:=s3) (m:=12) (by decide);omega
 have m1:1<=ma:=by have:=bG (k:=k) (s:=s4) p5;omega
 have m2:ma<=3:=by
  have:=bF (k:=k) (s:=s4) p5
  have:(if g=true then(3:Int) else 2)<=3:=by cases g<;>decide
  omega
 have hi1:aN .rng [.slot 5] [.ow (.lst [.int k,.int s5]) true false,.sh (.bl g),.sh (.int no),.sh (.int ba),.sh (.int oc),.sh (.int ma),.ow (.lst []) false false,.un,.un,.un]=some ((List.range ma.toNat).map λ(j:Nat)=>.int (j:Int),none):=BB rfl (by omega) (by omega)
 have key1:=kP (bind:=bN true [7]) (body:=exs T.pins (run T W (n+2)) W lU)
  (λpre ρ=>∃s6 fs t7 t8,ρ=[.ow (.lst [.int k,.int s6]) true false,.sh (.bl g),.sh (.int no),.sh (.int ba),.sh (.int oc),.sh (.int ma),.ow (.lst (fs.map fD)) false false,t7,t8,.un]/\cV t7=true/\cV t8=true/\fs.length=pre.length/\∀f∈fs,0<=f.1/\f.1<=4/\-12<=f.2.1/\f.2.1<=12)
  (ds:=(List.range ma.toNat).map λ(j:Nat)=>.int (j:Int)) (λpre d post hds ρ hρ=>by
   obtain⟨s6,fs,t7,t8,rfl,h7,h8,hl,hf⟩:=hρ
   have hlen:pre.length<ma.toNat:=by
    have:=congrArg List.length hds
    simp at this;omega
   refine⟨_,by simp only[lD,cD h7]<;>rfl, ?_⟩;have hsm:aR ((fs.map fD).length+1)=true:=dI (by simp;omega);have la:=bG (k:=k) (s:=s6) p7;have lb:=bF (k:=k) (s:=s6) p7;have lc:(if g=true then(5:Int) else 2)<=5:=by cases g<;>decide
   have sa:=bG (k:=k) (s:=aH k s6 (if g=true then 5 else 2)) (m:=25) (by decide);have sb:=bF (k:=k) (s:=aH k s6 (if g=true then 5 else 2)) (m:=25) (by decide);refine⟨[.ow (.lst [.int k,.int (aH k (aH k (aH k s6 (if g=true then 5 else 2)) 25) 4)]) true false,.sh (.bl g),.sh (.int no),.sh (.int ba),.sh (.int oc),.sh (.int ma),.ow (.lst ((fs++[(aZ k s6 (if g=true then 5 else 2),aZ k (aH k s6 (if g=true then 5 else 2)) 25-12,decide (aZ k (aH k (aH k s6 (if g=true then 5 else 2)) 25) 4=0))]).map fD)) false false,.sh d,.sh (.int (aZ k s6 (if g=true then 5 else 2))),.un], ?_,_,_,_,_,rfl,rfl,rfl,by simp[hl],λf hm=>?_⟩
   ·unfold lU;clear hf hds la lb lc sa sb hg hno hs2 hba hs3 hoc hs4 hma hs5 n1 n2 b1 b2 o1 o2 m1 m2 hlen hl hi1 hs1
    walk_at "!QA cM"
    simp only[zd,Zs,List.map_nil,fD]
   ·rcases zo.mp hm with hm | hm
    ·exact hf f hm
    ·rw[ze.mp hm]
     refine⟨la, ?_, ?_, ?_⟩<;>simp only<;>omega)
  (ρ:=[.ow (.lst [.int k,.int s5]) true false,.sh (.bl g),.sh (.int no),.sh (.int ba),.sh (.int oc),.sh (.int ma),.ow (.lst []) false false,.un,.un,.un]) ⟨_,[],_,_,rfl,rfl,rfl,rfl,λf h=>nomatch h⟩
 obtain⟨ρ1,el1,s6,fs,t7,t8,rfl,h7,h8,hl,hf⟩:=key1;have hl:fs.length=ma.toNat:=by rw[hl];simp
 have hr1:=bG (k:=k) (s:=s6) (m:=9) (by decide);have hr2:=bF (k:=k) (s:=s6) (m:=9) (by decide);have hi2:aN .rng [.val (.sh (.int (aZ k s6 9)))] [.ow (.lst [.int k,.int (aH k s6 9)]) true false,.sh (.bl g),.sh (.int no),.sh (.int ba),.sh (.int oc),.sh (.int ma),.ow (.lst (fs.map fD)) false false,t7,t8,.ow (.lst []) false false]=some ((List.range (aZ k s6 9).toNat).map λ(j:Nat)=>.int (j:Int),none):=BB rfl (by omega) (by omega)
 have key2:=kP (bind:=bN true [7]) (body:=exs T.pins (run T W (n+2)) W lF)
  (λpre ρ=>∃s7 rs t7,ρ=[.ow (.lst [.int k,.int s7]) true false,.sh (.bl g),.sh (.int no),.sh (.int ba),.sh (.int oc),.sh (.int ma),.ow (.lst (fs.map fD)) false false,t7,t8,.ow (.lst rs) false false]/\cV t7=true/\rs.length=pre.length/\∀d∈rs,RuleD no ba oc ma d)
  (ds:=(List.range (aZ k s6 9).toNat).map λ(j:Nat)=>.int (j:Int)) (λpre d post hds ρ hρ=>by
   obtain⟨s7,rs,t7,rfl,h7,hl,hR⟩:=hρ
   have hlen:pre.length<(aZ k s6 9).toNat:=by
    have:=congrArg List.length hds
    simp at this;omega
   refine⟨_,by simp only[lD,cD h7]<;>rfl, ?_⟩;have hsm:aR (rs.length+1)=true:=dI (by omega);obtain⟨s8,dr,er,hrd⟩:=LD (W:=W) (n:=n) (k:=k) (s0:=s7) n1 n2 b1 b2 o1 o2 m1 m2;refine⟨[.ow (.lst [.int k,.int s8]) true false,.sh (.bl g),.sh (.int no),.sh (.int ba),.sh (.int oc),.sh (.int ma),.ow (.lst (fs.map fD)) false false,.sh d,t8,.ow (.lst (rs++[dr])) false false], ?_,_,_,_,rfl,rfl,by simp[hl],λd hd=>(zo.mp hd).elim (hR d) λq=>by rw[ze.mp q];exact hrd⟩;unfold lF;clear hR hrd hf hds hg hno hs2 hba hs3 hoc hs4 hma hs5 n1 n2 b1 b2 o1 o2 m1 m2 hlen hl hi1 hs1 el1 hi2 hr1 hr2
   walk_at "!cM QA")
  (ρ:=[.ow (.lst [.int k,.int (aH k s6 9)]) true false,.sh (.bl g),.sh (.int no),.sh (.int ba),.sh (.int oc),.sh (.int ma),.ow (.lst (fs.map fD)) false false,t7,t8,.ow (.lst []) false false]) ⟨_,[],_,rfl,h7,rfl,λ_ z=>nomatch z⟩
 obtain⟨ρ2,el2,s7,rs,t7',rfl,h7',hlr,hR⟩:=key2;have hlr2:rs.length<=8:=by rw[hlr];simp;omega
 have hlm:(fs.length:Int)=ma:=by omega
 refine⟨s7,no,ba,oc,fs,rs, ?_,⟨n1,n2,b1,b2,o1,o2,by omega,by omega,hf⟩,hlr2,by rw[hlm];exact hR⟩;clear hf n1 n2 b1 b2 o1 o2 m1 m2 hl hlr hr1 hr2 hR hlr2 hlm;have e1:=hno.symm;have e2:=hs2.symm;have e3:=hba.symm;have e4:=hs3.symm;have e5:=hoc.symm;have e6:=hs4.symm;have e7:=hma.symm;have e8:=hs5.symm;have e9:=hs1.symm;clear hno hs2 hba hs3 hoc hs4 hma hs5 hs1
 walk_at "!QA cM"
theorem o9{W n:Nat}{late shift note:Int}{turned:Bool}:run T W (n+1) "pitch" [.sh (.tup [.int late,.int shift,.bl turned]),.sh (.int note)]=some (.ok (.sh (.int (if turned then shift-note else shift+note))),[.sh (.tup [.int late,.int shift,.bl turned]),.sh (.int note)]):=by
 rw[cU F0 rfl rfl];unfold pQ;cases turned<;>walk_at "!"
noncomputable def aO(no ba oc:Int)(fs:List (Int×Int×Bool))(rs:List D):D:=.tup [.int no,.int ba,.int oc,.tup (fs.map fD),.tup rs]
noncomputable def gI(xs:List Int)(b:Int)(f:Int×Int×Bool):D :=
 if 0<=b-f.1/\b-f.1<xs.length then .int (if f.2.2=true then f.2.1-xs.getD (b-f.1).toNat 0 else f.2.1+xs.getD (b-f.1).toNat 0) else .non
abbrev eD(fs:List (Int×Int×Bool)):List (Int×Int×Bool):=(0,0,false)::fs
theorem jT{W n:Nat}{no ba oc:Int}{fs:List (Int×Int×Bool)}{rs:List D}{v:Nat}{f:Int×Int×Bool}(h:(eD fs)[v]?=some f) :
  run T W (n+1) "singer" [.sh (aO no ba oc fs rs),.sh (.int (v:Int))]=some (.ok (.sh (fD f)),[.sh (aO no ba oc fs rs),.sh (.int (v:Int))]):=by
 rw[cU DT rfl rfl];unfold mK
 cases v with
 |zero =>
  simp only[zr,Option.some.injEq] at h;subst h;have e:decide (((0:Nat):Int)=0)=true:=rfl
  walk_at "!"
  all_goals (try simp only[e])
  all_goals (try walk_at "!")
  all_goals rfl
 |succ v =>
  have h:fs[v]?=some f:=by simpa using h
  have e:decide (((v+1:Nat):Int)=0)=false:=Zm (by omega);have e2:((v+1:Nat):Int)-1=(v:Int):=by omega
  have e3:L2.eO (fs.map fD) (v:Int)=some (fD f):=L2.yR (by rw[Zh,h];rfl);unfold aO
  walk_at "!"
theorem UB{xs:List Int}{i:Int}(h1:0<=i)(h2:i<xs.length):L2.eO (xs.map D.int) i=some (.int (xs.getD i.toNat 0)):=by
 have:=xU (ns:=xs) (k:=i.toNat) (by omega)
 have e:((i.toNat:Nat):Int)=i:=by omega
 rwa[e] at this
theorem L4{W n:Nat}{no ba oc:Int}{fs:List (Int×Int×Bool)}{rs:List D}{xs:List Int}{v:Nat}{b:Int}{p:Bool}{f:Int×Int×Bool}(h:(eD fs)[v]?=some f) :
  run T W (n+2) "sung" [.sh (aO no ba oc fs rs),~~~xs,.sh (.int (v:Int)),.sh (.int b)]=some (.ok (.sh (gI xs b f)),[.sh (aO no ba oc fs rs),~~~xs,.sh (.int (v:Int)),.sh (.int b)]):=by
 rw[cU LG rfl rfl];unfold tW;have hs:=jT (W:=W) (n:=n) (no:=no) (ba:=ba) (oc:=oc) (rs:=rs) h;obtain⟨late,shift,turned⟩:=f;simp only[fD] at hs;by_cases c:0<=b-late/\b-late<xs.length
 ·have e1:=UB c.1 c.2;have ev:gI xs b (late,shift,turned)=.int (if turned=true then shift-xs.getD (b-late).toNat 0 else shift+xs.getD (b-late).toNat 0):=Zo c;obtain⟨c1,c2⟩:=c;clear h
  walk_at "!jT o9 %"
 ·have ev:gI xs b (late,shift,turned)=.non:=Zp c;by_cases c1:0<=b-late
  ·have c2:¬b-late<xs.length:=λz=>c ⟨c1,z⟩
   have c2':decide (b-late<(xs.length:Int))=false:=Zm c2;clear h c c2
   walk_at "!jT o9 %"
  ·have c1':decide (0<=b-late)=false:=Zm c1;clear h c c1
   walk_at "!jT o9 %"
theorem MN{xs:List Int}{b:Int}{f:Int×Int×Bool}:gI xs b f=.non\/∃i,gI xs b f=.int i:=by
 unfold gI;split
 ·exact .inr ⟨_,rfl⟩
 ·exact .inl rfl
theorem DY{tests elt:Env->aF RV}{bind:D->Env->Option Env}{ds:List D}(sel:Nat->Bool)(val:Nat->D)(J:Env->Prop)
  (step:∀(j:Nat) (d:D),ds[j]?=some d->∀ρ,J ρ->∃ρ1 ρ2,bind d ρ=some ρ1/\tests ρ1=some (.ok (.sh (.bl (sel j))),ρ2)/\(sel j=true->∃v ρ3,elt ρ2=some (.ok v,ρ3)/\v.d=val j/\J ρ3)/\(sel j=false->J ρ2)) :
  ∀ρ,J ρ->∃ρ',fQ tests elt bind ds [] ρ=some (.ok (((List.range ds.length).filter sel).map val),ρ')/\J ρ':=by
 intro ρ hρ
 obtain⟨acc,ρ',e,⟨rfl,hJ⟩,_⟩:=iG (tests:=tests) (elt:=elt) (bind:=bind) (ds:=ds) (λj acc ρ=>acc=((List.range j).filter sel).map val/\J ρ)
  (λj d hd acc ρ ⟨ha,hJ⟩=>by
   subst ha;obtain⟨ρ1,ρ2,h1,h2,h3,h4⟩:=step j d hd ρ hJ;refine⟨ρ1,sel j,ρ2,h1,h2,λhc=>?_,λhc=>?_⟩
   ·obtain⟨v,ρ3,h5,h6,h7⟩:=h3 hc;refine⟨v,ρ3,h5, ?_,h7⟩;rw[List.range_succ,List.filter_append,zd,h6];simp[hc]
   ·refine⟨?_,h4 hc⟩;rw[List.range_succ,List.filter_append,zd]
    simp[hc]) [] ρ ⟨rfl,hρ⟩
 exact⟨ρ',e,hJ⟩
theorem J1{W n:Nat}{no ba oc:Int}{fs:List (Int×Int×Bool)}{rs:List D}{xs:List Int}{b:Int}(hl:fs.length<=1000) :
  run T W (n+3) "chord" [.sh (aO no ba oc fs rs),~~~xs,.sh (.int b)]=some (.ok (.ow (.lst ((eD fs).map (gI xs b)))),[.sh (aO no ba oc fs rs),~~~xs,.sh (.int b)]):=by
 rw[cU HA rfl rfl];unfold pT
 have hi:aN .rng [.val (.sh (.int ((fs.length:Int)+1)))] [.sh (aO no ba oc fs rs),~~~xs,.sh (.int b)]=some ((List.range (fs.length+1)).map λ(j:Nat)=>.int (j:Int),none):=by(refine Eq.trans (BB (n:=(fs.length:Int)+1) rfl (by omega) (by omega)) ?_;rw[show((fs.length:Int)+1).toNat=fs.length+1 from by omega])
 have hix:gK (some (aO no ba oc fs rs)) (.int 3)=some (.sh (.tup (fs.map fD))):=rfl
 obtain⟨acc,ρi,e,⟨t4,rfl,ht4,rfl⟩,hz⟩:=iG (tests:=fB T.pins (run T W (n+2)) []) (elt:=ev T.pins (run T W (n+2)) false oZ) (bind:=bN true [4]) (ds:=(List.range (fs.length+1)).map λ(j:Nat)=>.int (j:Int))
  (λj acc ρ=>∃(t4:Sl),ρ=[.sh (.int b),.sh (aO no ba oc fs rs),~~~xs,.un,t4]/\cV t4=true/\acc=((eD fs).take j).map (gI xs b))
  (λj d hd acc ρ hρ=>by
   obtain⟨t4,rfl,ht4,rfl⟩:=hρ
   have hj:j<fs.length+1:=by
    have:=(Zc.mp hd).1
    simpa using this
   have hd':d=.int (j:Int):=by(rw[Zh,List.getElem?_range hj] at hd;exact(Option.some.inj hd).symm)
   subst hd';obtain⟨f,hf⟩:∃f,(eD fs)[j]?=some f:=⟨_,Zb (by simp;omega)⟩
   have hs:=L4 (W:=W) (n:=n) (no:=no) (ba:=ba) (oc:=oc) (rs:=rs) (xs:=xs) (b:=b) (p:=true) hf;refine⟨_,true,_,by simp only[lD,cD ht4]<;>rfl,lE,λ_=>?_,λz=>nomatch z⟩;refine⟨.sh (gI xs b f),[.sh (.int b),.sh (aO no ba oc fs rs),~~~xs,.un,.sh (.int (j:Int))], ?_,_,rfl,rfl, ?_⟩
   ·unfold oZ;clear hd hj hf hi ht4 hix
    walk_at "!%"
   ·rw[List.take_succ,hf,zd]
    rfl)
  [] [.sh (.int b),.sh (aO no ba oc fs rs),~~~xs,.un,.un] ⟨_,rfl,rfl,rfl⟩
 have ht:(eD fs).take (((List.range (fs.length+1)).map λ(j:Nat)=>D.int (j:Int)).length)=eD fs:=by(rw[zf];simp)
 rw[ht] at e;have hsm:aR ((eD fs).map (gI xs b)).length=true:=dI (by simp;omega);have hsm2:aR (fs.length+1)=true:=dI (by omega);clear hz ht4 ht hl
 walk_at "!%"
 rw[iF hi]
 walk_at "!%"
def j4(lo hi:Int):D->Bool
 |.int i=>!(decide (lo<=i)&&decide (i<=hi))
 |_=>false
def vZ(n:Nat)(sel:Nat->Bool):List (List Int):=((List.range n).filter sel).map λ(j:Nat)=>[(j:Int)]
theorem C7{n:Nat}{sel:Nat->Bool}(hn:n<=1000):(vZ n sel).length<=1000:=by
 unfold vZ;rw[List.length_map]
 have:=List.length_filter_le sel (List.range n)
 simp at this;omega
theorem ZI{n:Nat}{sel:Nat->Bool}:((List.range n).filter sel).map (λ(j:Nat)=>D.tup [.int (j:Int)])=eJ (vZ n sel):=by
 unfold eJ vZ;rw[List.map_map];rfl
theorem A8{W n:Nat}{lo hi:Int}{d:D}(hd:d=.non\/∃i,d=.int i):run T W (n+1) "Range.forbids" [.sh (.ins "Range" ["low","high"] [.int lo,.int hi]),.sh d]=some (.ok (.sh (.bl (j4 lo hi d))),[.sh (.ins "Range" ["low","high"] [.int lo,.int hi]),.sh d]):=by
 rw[cU mH rfl rfl];unfold fU;rcases hd with rfl | ⟨i,rfl⟩
 ·have e:j4 lo hi .non=false:=rfl
  walk_at "!kA i8"
 ·have e:j4 lo hi (.int i)=!(decide (lo<=i)&&decide (i<=hi)):=rfl;by_cases c:lo<=i
  ·have c':decide (lo<=i)=true:=Zn c;rw[e,c',Bool.true_and];clear e c
   walk_at "!kA i8"
  ·have c':decide (lo<=i)=false:=Zm c;rw[e,c',Bool.false_and];clear e c
   walk_at "!kA i8"
def dG(fs:List (Int×Int×Bool))(xs:List Int)(b:Int):List D:=(eD fs).map (gI xs b)
theorem JF{fs:List (Int×Int×Bool)}{xs:List Int}{b:Int}{j:Nat}{d:D}(h:(dG fs xs b)[j]?=some d):d=.non\/∃i,d=.int i:=by
 unfold dG at h;rw[Zh] at h
 cases q:(eD fs)[j]? with
 |none=>rw[q] at h;cases h
 |some f =>
  rw[q] at h;cases h;exact MN
theorem LB{fs:List (Int×Int×Bool)}{xs:List Int}{b:Int}:(dG fs xs b).length=fs.length+1:=by unfold dG;simp
theorem QT{fs:List (Int×Int×Bool)}{xs:List Int}{b:Int}{v:Nat}{f:Int×Int×Bool}(h:(eD fs)[v]?=some f):(dG fs xs b)[v]?=some (gI xs b f):=by
 unfold dG;rw[Zh,h];rfl
theorem IW{fs:List (Int×Int×Bool)}{xs:List Int}{b:Int}{v:Nat}{f:Int×Int×Bool}(h:(eD fs)[v]?=some f):(dG fs xs b).getD v .non=gI xs b f:=by
 rw[List.getD_eq_getElem?_getD,QT h];rfl
theorem aE3{ρ:Env}{v:RV}{ds:List D}(h:v.d=.lst ds):aN (.enum 0) [.val v] ρ=some (dE 0 ds,none):=by simp only[aN,h]
noncomputable def jX(lo hi:Int)(fs:List (Int×Int×Bool))(xs:List Int)(b:Int):List (List Int):=vZ (fs.length+1) λj=>j4 lo hi ((dG fs xs b).getD j .non)
theorem B2{W n:Nat}{lo hi no ba oc:Int}{fs:List (Int×Int×Bool)}{rs:List D}{xs:List Int}{b:Int}(hl:fs.length<=900) :
  run T W (n+4) "Range.broken" [.sh (.ins "Range" ["low","high"] [.int lo,.int hi]),.sh (aO no ba oc fs rs),~~~xs,.sh (.int b)]=some (.ok (.ow (.lst (eJ (jX lo hi fs xs b)))),[.sh (.ins "Range" ["low","high"] [.int lo,.int hi]),.sh (aO no ba oc fs rs),~~~xs,.sh (.int b)]):=by
 rw[cU oI rfl rfl];unfold gH;have hc:run T W (n+3) "chord" _=some (.ok (.ow (.lst (dG fs xs b))),_):=J1 (W:=W) (n:=n) (no:=no) (ba:=ba) (oc:=oc) (fs:=fs) (rs:=rs) (xs:=xs) (b:=b) (by omega);have hi2:aN (.enum 0) [.val (.ow (.lst (dG fs xs b)))] [.sh (.ins "Range" ["low","high"] [.int lo,.int hi]),.sh (aO no ba oc fs rs),~~~xs,.sh (.int b)]=some (dE 0 (dG fs xs b),none):=aE3 rfl
 obtain⟨ρi,e,t2,t3,rfl,ht2,ht3⟩:=DY (tests:=fB T.pins (run T W (n+3)) [.meth 0 "forbids" gU [.var 3]]) (elt:=ev T.pins (run T W (n+3)) false hE) (bind:=bN false [2,3]) (ds:=dE 0 (dG fs xs b))
  (λj=>j4 lo hi ((dG fs xs b).getD j .non)) (λ(j:Nat)=>.tup [.int (j:Int)])
  (λρ=>∃(t2 t3:Sl),ρ=[.sh (.ins "Range" ["low","high"] [.int lo,.int hi]),.un,t2,t3]/\cV t2=true/\cV t3=true)
  (λj d hd ρ hρ=>by
   obtain⟨t2,t3,rfl,ht2,ht3⟩:=hρ
   have hj:j<(dG fs xs b).length:=by
    have:=(Zc.mp hd).1
    rwa[fO] at this
   have hg:=Zb hj;rw[l9 hg,Int.zero_add] at hd;cases hd;generalize (dG fs xs b)[j]=x at hg;have hgd:(dG fs xs b).getD j .non=x:=by rw[List.getD_eq_getElem?_getD,hg];rfl
   have hk:=JF hg;have hf:=A8 (W:=W) (n:=n+2) (lo:=lo) (hi:=hi) hk;refine⟨_,[.sh (.ins "Range" ["low","high"] [.int lo,.int hi]),.un,.sh (.int (j:Int)),.sh x],by simp only[lD,cD ht2,cD ht3]<;>rfl, ?_,λ_=>?_,λ_=>?_⟩
   ·simp only[hgd];clear hj hg hgd hk hc hi2 ht2 ht3
    walk_at "!fX"
   ·refine⟨.sh (.tup [.int (j:Int)]),[.sh (.ins "Range" ["low","high"] [.int lo,.int hi]),.un,.sh (.int (j:Int)),.sh x], ?_,rfl,_,_,rfl,rfl,rfl⟩;unfold hE;clear hj hg hgd hk hc hi2 ht2 ht3 hf
    walk_at "!fX"
   ·exact⟨_,_,rfl,rfl,rfl⟩)
  [.sh (.ins "Range" ["low","high"] [.int lo,.int hi]),.un,.un,.un] ⟨_,_,rfl,rfl,rfl⟩
 rw[fO,LB,ZI] at e;have hB:vZ (fs.length+1) (λj=>j4 lo hi ((dG fs xs b).getD j .non))=jX lo hi fs xs b:=rfl;rw[hB] at e
 have hsm:aR (eJ (jX lo hi fs xs b)).length=true:=dI (by
  have:=C7 (n:=fs.length+1) (sel:=λj=>j4 lo hi ((dG fs xs b).getD j .non)) (by omega)
  unfold eJ jX;simp only[List.length_map]
  omega)
 clear hl ht2 ht3 hB
 walk_at "!fX"
 rw[iF hi2]
 walk_at "!fX"
def EM(i:Int):Int:=if i<0 then -i else i
theorem JP{i:Int}:(if i<0 then -i else i)=EM i:=rfl
def gx(xs:List Int)(i:Nat):Int:=xs.getD i 0
theorem J3{xs:List Int}{k:Nat}(h:k<xs.length):L2.eO (xs.map D.int) (k:Int)=some (.int (gx xs k)):=xU h
theorem aBe{xs:List Int}{k:Nat}(h:k<xs.length):gx xs k∈xs:=by
 unfold gx;rw[List.getD_eq_getElem?_getD,Zb h];simp
def iT(c:Bool):List (List Int):=if c=true then [[]] else []
theorem ES{c:Bool}:(iT c).length<=1000:=by cases c<;>decide
def l7(mo:Int)(xs:List Int):Nat->Bool
 | 0=>false
 |b+1=>decide (mo<EM (gx xs (b+1)-gx xs b))
theorem EW{W n:Nat}{mo:Int}{h:D}{xs:List Int}{b:Nat}(hb:b<xs.length) :
  run T W (n+1) "Leap.broken" [.sh (.ins "Leap" ["most"] [.int mo]),.sh h,~~~xs,.sh (.int (b:Int))]=some (.ok (.ow (.lst (eJ (iT (l7 mo xs b))))),[.sh (.ins "Leap" ["most"] [.int mo]),.sh h,~~~xs,.sh (.int (b:Int))]):=by
 rw[cU rF rfl rfl];unfold gS
 match b,hb with
 | 0,hb =>
  have e:eJ (iT (l7 mo xs 0))=[]:=rfl;have c:decide (0<((0:Nat):Int))=false:=rfl;clear hb
  walk_at "!j9 % JP"
 |b+1,hb =>
  have c:decide (0<((b+1:Nat):Int))=true:=Zn (by omega);have i1:((b+1:Nat):Int)-1=((b:Nat):Int):=by omega
  have a0:=J3 (xs:=xs) (k:=b) (by omega);have a1:=J3 (xs:=xs) (k:=b+1) (by omega);have ev:l7 mo xs (b+1)=decide (mo<EM (gx xs (b+1)-gx xs b)):=rfl;clear hb;cases c1:decide (mo<EM (gx xs (b+1)-gx xs b))
  ·have e:eJ (iT (l7 mo xs (b+1)))=[]:=by rw[ev,c1];rfl
   clear ev
   walk_at "!j9 % JP"
  ·have e:eJ (iT (l7 mo xs (b+1)))=[.tup []]:=by rw[ev,c1];rfl
   clear ev
   walk_at "!j9 % JP"
def vV(m:Nat)(xs:List Int)(b:Nat):List Int:=(xs.drop (b-m)).take m
noncomputable def fZ(m:Nat)(xs:List Int)(b:Nat):Bool:=decide ((m:Int)<=(b:Int))&&(vV m xs b).all λz=>decide (z=gx xs b)
theorem X1{xs:List Int}{m b e:Nat}(h:m<=b)(hb:b<=e)(he:e<=xs.length):rN (some (.lst (xs.map D.int))) (some (.int ((b:Int)-(m:Int)))) (some (.int (e:Int)))=some (.ow (.lst (((xs.drop (b-m)).take (m+(e-b))).map D.int))):=by
 have e1:(b:Int)-(m:Int)=((b-m:Nat):Int):=by omega
 show some (RV.ow (.lst (iP (xs.map D.int) (some ((b:Int)-(m:Int))) (some (e:Int)))))=_;rw[e1];unfold iP;rw[HT.uC,HT.uC,List.length_map,Nat.min_eq_left (by omega),Nat.min_eq_left (by omega),<- List.map_drop,<- List.map_take,show e-(b-m)=m+(e-b) from by omega]
theorem nP{Z:List Int}{p:Int->Bool}:lW .all [.lst (Z.map λz=>.bl (p z))]=some (.sh (.bl (Z.all p))):=by
 have h:gJ (Z.map λz=>.bl (p z))=some (Z.map p):=by
  induction Z with
  |nil=>rfl
  |cons z Z ih=>simp[gJ,ih]
 show(gJ _).map _=_;rw[h];simp[List.all_map]
theorem DU{W n:Nat}{m:Nat}{h:D}{xs:List Int}{b:Nat}(hb:b<xs.length)(hm:m<=3) :
  run T W (n+1) "Again.broken" [.sh (.ins "Again" ["most"] [.int (m:Int)]),.sh h,~~~xs,.sh (.int (b:Int))]=some (.ok (.ow (.lst (eJ (iT (fZ m xs b))))),[.sh (.ins "Again" ["most"] [.int (m:Int)]),.sh h,~~~xs,.sh (.int (b:Int))]):=by
 rw[cU oM rfl rfl];unfold gG;by_cases c:(b:Int)<(m:Int)
 ·have c':decide ((b:Int)<(m:Int))=true:=Zn c
  have e:eJ (iT (fZ m xs b))=[]:=by(unfold fZ;rw[Zm (by omega)];rfl)
  clear c hb hm
  walk_at "!eN nP %"
 ·have c':decide ((b:Int)<(m:Int))=false:=Zm c;have hs:=X1 (xs:=xs) (m:=m) (b:=b) (e:=b) (by omega) (Zq _) (by omega);rw[Nat.sub_self,Nat.add_zero] at hs;have hZ:((xs.drop (b-m)).take m)=vV m xs b:=rfl;rw[hZ] at hs
  have hv:fZ m xs b=(vV m xs b).all λz=>decide (z=gx xs b):=by(unfold fZ;rw[Zn (by omega),Bool.true_and])
  have hzl:(vV m xs b).length<=3:=by unfold vV;rw[List.length_take];omega
  have a0:=J3 (xs:=xs) (k:=b) hb
  generalize vV m xs b=Z at *
  have hi:aN .of [.val (.ow (.lst (Z.map D.int)))] [.sh (.ins "Again" ["most"] [.int (m:Int)]),.sh h,~~~xs,.sh (.int (b:Int))]=some (Z.map D.int,none):=BF rfl
  obtain⟨acc,ρi,e,⟨t4,rfl,ht4,rfl⟩,hz⟩:=iG (tests:=fB T.pins (run T W n) []) (elt:=ev T.pins (run T W n) false gX) (bind:=bN true [3]) (ds:=Z.map D.int)
   (λj acc ρ=>∃(t4:Sl),ρ=[.sh (.int (b:Int)),~~~xs,.un,t4]/\cV t4=true/\acc=(Z.take j).map λz=>.bl (decide (z=gx xs b)))
   (λj d hd acc ρ hρ=>by
    obtain⟨t4,rfl,ht4,rfl⟩:=hρ;obtain⟨z,hz,rfl⟩:∃z,Z[j]?=some z/\D.int z=d:=by simpa using hd
    refine⟨_,true,_,by simp only[lD,cD ht4]<;>rfl,lE,λ_=>?_,λz=>nomatch z⟩;refine⟨.sh (.bl (decide (z=gx xs b))),[.sh (.int (b:Int)),~~~xs,.un,.sh (.int z)], ?_,_,rfl,rfl, ?_⟩
    ·unfold gX;clear hd hz hi ht4 hs hv hzl c c' hb hm hZ
     walk_at "!eN nP %"
    ·rw[List.take_succ,hz,zd]
     rfl)
   [] [.sh (.int (b:Int)),~~~xs,.un,.un] ⟨_,rfl,rfl,rfl⟩
  have ht:Z.take (Z.map D.int).length=Z:=by(rw[zf];simp)
  rw[ht] at e;have hsm:aR (Z.map λz=>D.bl (decide (z=gx xs b))).length=true:=dI (by simp;omega);have hsm2:aR Z.length=true:=dI (by omega);clear hz ht4 ht c hb hm hzl hZ;cases c1:Z.all λz=>decide (z=gx xs b)
  ·have e2:eJ (iT (fZ m xs b))=[]:=by rw[hv,c1];rfl
   clear hv
   walk_at "!eN nP %"
   rw[iF hi]
   walk_at "!eN nP %"
  ·have e2:eJ (iT (fZ m xs b))=[.tup []]:=by rw[hv,c1];rfl
   clear hv
   walk_at "!eN nP %"
   rw[iF hi]
   walk_at "!eN nP %"
theorem BZ{W n:Nat}{a:D}:run T W (n+1) "rule_of" [.sh (.tup [.str "leap",a])]=some (.ok (.sh (.ins "Leap" ["most"] [a])),[.sh (.tup [.str "leap",a])]):=by
 rw[cU mQ rfl rfl];unfold gP
 walk_at "!BO"
theorem A7{W n:Nat}{a:D}:run T W (n+1) "rule_of" [.sh (.tup [.str "again",a])]=some (.ok (.sh (.ins "Again" ["most"] [a])),[.sh (.tup [.str "again",a])]):=by
 rw[cU mQ rfl rfl];unfold gP
 walk_at "!BO"
theorem AY{W n:Nat}{a b:D}:run T W (n+1) "rule_of" [.sh (.tup [.str "range",a,b])]=some (.ok (.sh (.ins "Range" ["low","high"] [a,b])),[.sh (.tup [.str "range",a,b])]):=by
 rw[cU mQ rfl rfl];unfold gP
 walk_at "!BO"
def mx(m y:Int):Int:=if y > m then y else m
theorem R4{m y:Int}:(if y > m then y else m)=mx m y:=rfl
def nB(fs:List (Int×Int×Bool)):Int:=(fs.map λf=>1+f.1).foldl mx 3
def aAw:List (Int×Int×Bool)->Int
 |[]=>0
 |f::r=>(r.map λf=>f.1).foldl mx f.1
theorem B1:∀(l:List (Int×Int×Bool)) (a c:Int),(l.map λf=>1+f.1).foldl mx (mx c (1+a))=mx c (1+(l.map λf=>f.1).foldl mx a)
 |[],_,_=>rfl
 |f::l,a,c=>by
  have h:mx (mx c (1+a)) (1+f.1)=mx c (1+mx a f.1):=by
   unfold mx
   split<;>split<;>split<;>first | omega | (split<;>omega)
  rw[Zs,List.foldl_cons,h,B1 l (mx a f.1) c,Zs,List.foldl_cons]
theorem WS{fs:List (Int×Int×Bool)}(h:1<=fs.length):mx 3 (1+aAw fs)=nB fs:=by
 match fs,h with
 |f::r,_=>exact(B1 r f.1 3).symm
theorem MW:∀(l:List Int) (a:Int),a<=l.foldl mx a
 |[],a=>Int.le_refl a
 |b::l,a=>Int.le_trans (by unfold mx;split<;>omega) (MW l (mx a b))
theorem MU{b:Int}:∀(l:List Int) (a:Int),a<=b->(∀x∈l,x<=b)->l.foldl mx a<=b
 |[],_,h,_=>h
 |x::l,a,h,hl=>MU l (mx a x) (by have:=hl x (zh ..);unfold mx;split<;>omega) λy hy=>hl y (Ze _ hy)
theorem Y5{no ba oc:Int}{fs:List (Int×Int×Bool)}(h:HouseOk no ba oc fs):∃m:Nat,nB fs=(m:Int)/\3<=m/\m<=5:=by
 have h1:3<=nB fs:=MW _ _
 have h2:nB fs<=5:=MU _ _ (by decide) λx hx=>by
  obtain⟨f,hf,rfl⟩:=List.mem_map.mp hx
  have:=(h.f f hf).2.1
  omega
 exact⟨(nB fs).toNat,by omega,by omega,by omega⟩
theorem aAE{a:Int}{l:List Int}:lW .max [.lst ((a::l).map D.int)]=some (.sh (.int (l.foldl mx a))):=by
 show(match fA ((a::l).map D.int) with
  |some (i::r)=>some (RV.sh (.int (r.foldl (λm y=>if y > m then y else m) i)))
  |_=>none)=_
 rw[vU];rfl
theorem uN{W n:Nat}{no ba oc:Int}{fs:List (Int×Int×Bool)}{rs:List D}(h1:1<=fs.length)(h3:fs.length<=3) :
  run T W (n+1) "memory" [.sh (aO no ba oc fs rs)]=some (.ok (.sh (.int (nB fs))),[.sh (aO no ba oc fs rs)]):=by
 rw[cU CK rfl rfl];unfold mD;have hi:aN .of [.val (.sh (.tup (fs.map fD)))] [.sh (aO no ba oc fs rs)]=some (fs.map fD,none):=RN rfl;have hix:gK (some (aO no ba oc fs rs)) (.int 3)=some (.sh (.tup (fs.map fD))):=rfl
 obtain⟨acc,ρi,e,⟨t1,rfl,ht1,rfl⟩,_⟩:=iG (tests:=fB T.pins (run T W n) []) (elt:=ev T.pins (run T W n) false mT) (bind:=bN true [1]) (ds:=fs.map fD)
  (λj acc ρ=>∃(t1:Sl),ρ=[.un,t1]/\cV t1=true/\acc=((fs.take j).map λf=>f.1).map D.int)
  (λj d hd acc ρ hρ=>by
   obtain⟨t1,rfl,ht1,rfl⟩:=hρ;obtain⟨f,hf,rfl⟩:∃f,fs[j]?=some f/\fD f=d:=by simpa using hd
   refine⟨_,true,_,by simp only[lD,cD ht1]<;>rfl,lE,λ_=>?_,λz=>nomatch z⟩;refine⟨.sh (.int f.1),[.un,.sh (fD f)], ?_,_,rfl,rfl, ?_⟩
   ·unfold mT fD;clear hd hf hi hix ht1 h1 h3
    walk_at "!% R4"
   ·rw[List.take_succ,hf,zd,zd]
    rfl)
  [] [.un,.un] ⟨_,rfl,rfl,rfl⟩
 have ht:fs.take (fs.map fD).length=fs:=by(rw[zf];simp)
 rw[ht] at e;have hsm:aR ((fs.map λf=>f.1).map D.int).length=true:=dI (by simp;omega);have hsm2:aR fs.length=true:=dI (by omega)
 have hmx:lW .max [.lst ((fs.map λf=>f.1).map D.int)]=some (.sh (.int (aAw fs))):=by
  match fs,h1 with
  |f::r,_=>exact aAE
 have hml:=WS h1;clear ht ht1 h1 h3
 walk_at "!% R4"
 rw[iF hi]
 walk_at "!% R4"
 all_goals (rw[sV rfl];walk_at "!% R4")
def BK(m ba n:Int):Int:=if n<=m then n else m+(n-m) % ba
def BJ(m:Nat)(xs:List Int):List Int:=xs.drop (xs.length-m)
theorem HB{m ba n:Int}(h:n<=m):BK m ba n=n:=Zo h
theorem YJ{m ba n:Int}(h:¬n<=m):BK m ba n=m+(n-m) % ba:=Zp h
theorem AH{W n:Nat}{no ba oc:Int}{fs:List (Int×Int×Bool)}{rs:List D}{m:Nat}{k:Int}(ho:HouseOk no ba oc fs)(hm:nB fs=(m:Int)) :
  run T W (n+2) "turn_of" [.sh (aO no ba oc fs rs),.sh (.int k)]=some (.ok (.sh (.int (BK m ba k))),[.sh (aO no ba oc fs rs),.sh (.int k)]):=by
 rw[cU zQ rfl rfl];unfold kJ;have hme:=uN (W:=W) (n:=n) (no:=no) (ba:=ba) (oc:=oc) (rs:=rs) ho.l1 ho.l2;rw[hm] at hme;have hix:gK (some (aO no ba oc fs rs)) (.int 1)=some (.sh (.int ba)):=rfl;have g1:0<ba:=by have:=ho.b1;omega
 have g2:ba<nofun:=by have:=ho.b2;omega
 by_cases c:k<=(m:Int)
 ·have c':decide (k<=(m:Int))=true:=Zn c;rw[HB c];clear c ho hm
  walk_at "!"
 ·have c':decide (k<=(m:Int))=false:=Zm c;rw[YJ c];clear c ho hm
  walk_at "!"
theorem UU{xs:List Int}{m:Nat}(h:1<=m):rN (some (.lst (xs.map D.int))) (some (.int (-(m:Int)))) none=some (.ow (.lst ((BJ m xs).map D.int))):=by
 show some (RV.ow (.lst (iP (xs.map D.int) (some (-(m:Int))) none)))=_;unfold iP BJ
 have e:HT.bL (xs.map D.int).length 0 (some (-(m:Int)))=xs.length-m:=by(unfold HT.bL;rw[List.length_map];show(if -(m:Int)<0 then _ else _)=_;rw[Zo (by omega)];omega)
 rw[e,HT.vP,List.length_map,<- List.map_drop,<- List.map_take,zf (by rw[List.length_drop];omega)]
def n6(m:Nat)(ba:Int)(xs:List Int):D:=.tup [.int (BK m ba xs.length),.tup ((BJ m xs).map D.int)]
theorem JY{W n:Nat}{no ba oc:Int}{fs:List (Int×Int×Bool)}{rs:List D}{m:Nat}{xs:List Int}(ho:HouseOk no ba oc fs)(hm:nB fs=(m:Int))(h3:3<=m) :
  run T W (n+3) "stand_of" [.sh (aO no ba oc fs rs),~~~xs]=some (.ok (.sh (n6 m ba xs)),[.sh (aO no ba oc fs rs),~~~xs]):=by
 rw[cU wY rfl rfl];unfold jM n6;have hme:=uN (W:=W) (n:=n+1) (no:=no) (ba:=ba) (oc:=oc) (rs:=rs) ho.l1 ho.l2;rw[hm] at hme;have htu:=AH (W:=W) (n:=n) (rs:=rs) (k:=(xs.length:Int)) ho hm;have hs:=UU (xs:=xs) (m:=m) (by omega);clear ho hm h3
 walk_at "!AH %"
theorem zN{a:List (List Int)}:(eJ a).length=a.length:=by unfold eJ;rw[List.length_map]
abbrev Br:=List Int->Nat->List (List Int)
abbrev RP:=D×D×Br
noncomputable def IU(o h:D)(xs:List Int)(b:Nat):List Sl:=[.sh o,.sh h,~~~xs,.sh (.int (b:Int))]
structure RX(no ba oc:Int)(fs:List (Int×Int×Bool))(rs:List D)(m:Nat)(p:RP):Prop where
 ob:∃c ns ds f q,p.2.1=.ins c ns ds/\iJ c ns "broken" gL=some f/\T.pins f=[true,true,true,q] /\
  ∀(W n:Nat) (xs:List Int) (b:Nat),b<xs.length->(∀x∈xs,0<=x/\x<no)->run T W (n+4) f (IU (.ins c ns ds) (aO no ba oc fs rs) xs b)=some (.ok (.ow (.lst (eJ (p.2.2 xs b)))),IU (.ins c ns ds) (aO no ba oc fs rs) xs b)
 ru:∀(W n:Nat),run T W (n+1) "rule_of" [.sh p.1]=some (.ok (.sh p.2.1),[.sh p.1])
 len:∀xs b,(p.2.2 xs b).length<=1000
def JE(a:Int):RP:=(.tup [.str "leap",.int a],.ins "Leap" ["most"] [.int a],λxs b=>iT (l7 a xs b))
noncomputable def yA(k:Nat):RP:=(.tup [.str "again",.int (k:Int)],.ins "Again" ["most"] [.int (k:Int)],λxs b=>iT (fZ k xs b))
noncomputable def DC(fs:List (Int×Int×Bool))(lo hi:Int):RP:=(.tup [.str "range",.int lo,.int hi],.ins "Range" ["low","high"] [.int lo,.int hi],λxs b=>jX lo hi fs xs (b:Int))
section
variable{no ba oc:Int}{fs:List (Int×Int×Bool)}{rs:List D}{m:Nat}
theorem VF{a:Int}:RX no ba oc fs rs m (JE a):=⟨⟨_,_,_,_,false,rfl,zH,A2,λW n xs b hb _=>EW (n:=n+3) hb⟩,λW n=>BZ,λxs b=>ES⟩
theorem DK{k:Nat}(h:k<=3):RX no ba oc fs rs m (yA k):=⟨⟨_,_,_,_,false,rfl,wV,yY,λW n xs b hb _=>DU (n:=n+3) hb h⟩,λW n=>A7,λxs b=>ES⟩
theorem P9{lo hi:Int}(h:fs.length<=900):RX no ba oc fs rs m (DC fs lo hi):=⟨⟨_,_,_,_,true,rfl,x8,y4,λW n xs b _ _=>B2 h⟩,λW n=>AY,λxs b=>C7 (by omega)⟩
end
theorem aEq{ρ:Env}{i:Nat}{lo:Int}{ds:List D}{p l:Bool}(h:ρ[i]?=some (.ow (.lst ds) p l)):aN (.enum lo) [.slot i] ρ=some (dE lo ds,some i):=by simp only[aN,h]
section
variable{no ba oc:Int}{fs:List (Int×Int×Bool)}{rs:List D}{m:Nat}{ps:List RP}
theorem IE{W n:Nat}(hrs:ps.map (·.1)=rs)(hp:∀p∈ps,RX no ba oc fs rs m p)(hl:rs.length<=8):run T W (n+2) "rules_of" [.sh (aO no ba oc fs rs)]=some (.ok (.ow (.lst (ps.map (·.2.1)))),[.sh (aO no ba oc fs rs)]):=by
 rw[cU wL rfl rfl];unfold jJ;have hl':ps.length<=8:=by rw[<- hrs,List.length_map] at hl;exact hl
 have hi:aN .of [.val (.sh (.tup rs))] [.sh (aO no ba oc fs rs)]=some (rs,none):=RN rfl;have hix:gK (some (aO no ba oc fs rs)) (.int 4)=some (.sh (.tup rs)):=rfl
 obtain⟨acc,ρi,e,⟨t1,rfl,ht1,rfl⟩,_⟩:=iG (tests:=fB T.pins (run T W (n+1)) []) (elt:=ev T.pins (run T W (n+1)) false j8) (bind:=bN true [1]) (ds:=rs)
  (λj acc ρ=>∃(t1:Sl),ρ=[.un,t1]/\cV t1=true/\acc=(ps.take j).map (·.2.1))
  (λj d hd acc ρ hρ=>by
   obtain⟨t1,rfl,ht1,rfl⟩:=hρ
   obtain⟨p,hpj,rfl⟩:∃p,ps[j]?=some p/\p.1=d:=by
    rw[<- hrs,Zh] at hd
    cases q:ps[j]? with
    |none=>rw[q] at hd;cases hd
    |some p=>rw[q] at hd;exact⟨p,rfl,Option.some.inj hd⟩
   have hw:=(hp p (zj hpj)).ru W n;refine⟨_,true,_,by simp only[lD,cD ht1]<;>rfl,lE,λ_=>?_,λz=>nomatch z⟩;refine⟨.sh p.2.1,[.un,.sh p.1], ?_,_,rfl,rfl,by rw[List.take_succ,hpj,zd];rfl⟩;unfold j8;clear hd hpj hp hi hix ht1 hrs hl hl'
   walk_at "!")
  [] [.un,.un] ⟨_,rfl,rfl,rfl⟩
 rw[show rs.length=ps.length by rw[<- hrs,List.length_map],List.take_length] at e;have hsm:aR (ps.map (·.2.1)).length=true:=dI (by simp;omega);clear hp hrs hl hl' ht1
 walk_at "!"
 rw[iF hi]
 walk_at "!"
 all_goals (rw[sV rfl];walk_at "!")
def pV(ps:List RP)(xs:List Int)(b:Nat):Nat:=(ps.map λp=>(p.2.2 xs b).length).sum
theorem MG{xs:List Int}{b:Nat}:∀(ps:List RP),(∀p∈ps,(p.2.2 xs b).length<=1000)->pV ps xs b<=1000*ps.length
 |[],_=>by simp[pV]
 |p::ps,h=>by
  have h1:=h p zh;have h2:=MG ps λq hq=>h q (Ze _ hq)
  unfold pV at h2 ⊢;rw[Zs,List.sum_cons,Zk];omega
theorem EZ{W n:Nat}{xs:List Int}{b:Nat}(hp:∀p∈ps,RX no ba oc fs rs m p)(hl:ps.length<=8)(hb:b<xs.length)(hx:∀x∈xs,0<=x/\x<no) :
  ∃L:List D,run T W (n+5) "breaks_at" [.sh (aO no ba oc fs rs),.ow (.lst (ps.map (·.2.1))) true false,~~~xs,.sh (.int (b:Int))]=some (.ok (.ow (.lst L)),[.sh (aO no ba oc fs rs),.ow (.lst (ps.map (·.2.1))) true false,~~~xs,.sh (.int (b:Int))])/\L.length=pV ps xs b:=by
 rw[cU uZ rfl rfl];unfold iQ;have hi:aN (.enum 0) [.slot 1] [.sh (aO no ba oc fs rs),.ow (.lst (ps.map (·.2.1))) true false,~~~xs,.sh (.int (b:Int)),.ow (.lst []) false false,.un,.un,.un]=some (dE 0 (ps.map (·.2.1)),some 1):=aEq rfl
 obtain⟨ρ1,e1,L,t5,t6,t7,rfl,h5,h6,h7,hL⟩:=kP (bind:=bN false [5,6]) (body:=exs T.pins (run T W (n+4)) W jD)
  (λpre ρ=>∃(L:List D) (t5 t6 t7:Sl),ρ=[.sh (aO no ba oc fs rs),.un,~~~xs,.sh (.int (b:Int)),.ow (.lst L) false false,t5,t6,t7]/\cV t5=true/\cV t6=true/\cV t7=true/\L.length=pV (ps.take pre.length) xs b)
  (ds:=dE 0 (ps.map (·.2.1))) (λpre d post hds ρ hρ=>by
   obtain⟨L,t5,t6,t7,rfl,h5,h6,h7,hL⟩:=hρ
   have hlen:pre.length<ps.length:=by
    have:=congrArg List.length hds
    rw[fO,List.length_map,Za,Zk] at this;omega
   obtain⟨p,hpj⟩:∃p,ps[pre.length]?=some p:=⟨_,Zb hlen⟩
   have hd:d=.tup [.int (0+(pre.length:Int)),p.2.1]:=by(have q:=l9 (lo:=0) (ds:=ps.map (·.2.1)) (i:=pre.length) (d:=p.2.1) (by rw[Zh,hpj];rfl);rw[hds,List.getElem?_append_right (Zq _),Nat.sub_self] at q;exact Option.some.inj q)
   subst hd;refine⟨_,by simp only[lD,cD h5,cD h6]<;>rfl, ?_⟩;have hrx:=hp p (zj hpj);have hlen1:=hrx.len xs b;have hbr:=MG (xs:=xs) (b:=b) (ps.take pre.length) λq hq=>(hp q (List.mem_of_mem_take hq)).len xs b
   rw[List.length_take] at hbr
   have hN:pV (ps.take (pre++[D.tup [D.int (0+(pre.length:Int)),p.2.1]]).length) xs b=pV (ps.take pre.length) xs b+(p.2.2 xs b).length:=by(rw[Za,Zk,List.length_nil,List.take_succ,hpj];unfold pV;simp)
   rw[hN];obtain⟨c,ns,ds,f,q,ho,hmt,hpi,hrun⟩:=hrx.ob;have hr:=hrun W n xs b hb hx;unfold IU at hr;rw[ho]
   generalize p.2.2 xs b=Z at *
   have hi2:aN .of [.val (.ow (.lst (eJ Z)))] [.sh (aO no ba oc fs rs),.un,~~~xs,.sh (.int (b:Int)),.ow (.lst L) false false,.sh (.int (0+(pre.length:Int))),.sh (.ins c ns ds),t7]=some (eJ Z,none):=BF rfl
   obtain⟨ρ2,e2,L2,t7',rfl,h7',hL2⟩:=kP (bind:=bN true [7]) (body:=exs T.pins (run T W (n+4)) W iZ)
    (λpr ρ=>∃(L2:List D) (t7:Sl),ρ=[.sh (aO no ba oc fs rs),.un,~~~xs,.sh (.int (b:Int)),.ow (.lst L2) false false,.sh (.int (0+(pre.length:Int))),.sh (.ins c ns ds),t7]/\cV t7=true/\L2.length=L.length+pr.length)
    (ds:=eJ Z) (λpr d po hd' ρ hρ=>by
     obtain⟨L2,t7,rfl,h7,hL2⟩:=hρ;refine⟨_,by simp only[lD,cD h7]<;>rfl, ?_⟩
     have hz:pr.length<=1000:=by
      have:=congrArg List.length hd'
      rw[zN,Za] at this;omega
     have hsm:aR (L2.length+1)=true:=dI (by omega);refine⟨[.sh (aO no ba oc fs rs),.un,~~~xs,.sh (.int (b:Int)),.ow (.lst (L2++[.tup [.int (b:Int),.int (0+(pre.length:Int)),d]])) false false,.sh (.int (0+(pre.length:Int))),.sh (.ins c ns ds),.sh d], ?_,_,_,rfl,rfl,by rw[Za,Za,hL2];rfl⟩;unfold iZ;clear hp hl hb hx hi hL hlen hpj hrx hlen1 hbr hN ho hmt hpi hrun hr hi2 hd' hz hL2 h5 h6 h7 hds
     walk_at "!")
    (ρ:=[.sh (aO no ba oc fs rs),.un,~~~xs,.sh (.int (b:Int)),.ow (.lst L) false false,.sh (.int (0+(pre.length:Int))),.sh (.ins c ns ds),t7]) ⟨L,_,rfl,h7,by simp⟩
   rw[zN] at hL2;refine⟨[.sh (aO no ba oc fs rs),.un,~~~xs,.sh (.int (b:Int)),.ow (.lst L2) false false,.sh (.int (0+(pre.length:Int))),.sh (.ins c ns ds),t7'], ?_,_,_,_,_,rfl,rfl,rfl,h7',by rw[hL2,hL]⟩;unfold jD;clear hp hl hb hx hi hL hlen hpj hrx hlen1 hbr hN ho hrun hL2 h5 h6 h7 hds h7'
   cases q<;>walk_at "!")
  (ρ:=[.sh (aO no ba oc fs rs),.un,~~~xs,.sh (.int (b:Int)),.ow (.lst []) false false,.un,.un,.un]) ⟨[],_,_,_,rfl,rfl,rfl,rfl,by simp[pV]⟩
 rw[fO,List.length_map,List.take_length] at hL;refine⟨L, ?_,hL⟩;clear hp hl hb hx hL h5 h6 h7
 walk_at "!"
 simp only[aQ,List.set_cons_zero,List.set_cons_succ,e1,bI.restore,eM,zr,List.getElem?_cons_succ,Option.map_some]
 walk_at "!"
end
section
variable{no ba oc:Int}{fs:List (Int×Int×Bool)}{rs:List D}{m:Nat}{ps:List RP}
theorem C8{z:Nat}{x:D}:(List.replicate z [x]).flatten=List.replicate z x:=by
 induction z with
 |zero=>rfl
 |succ z ih=>rw[List.replicate_succ,List.flatten_cons,ih];rfl
def jY(z:Nat)(tl:List Int):List Int:=List.replicate z 0++tl
def jZ(z:Nat)(tl:List Int):D:=.tup [.int ((z:Int)+(tl.length:Int)),.tup (tl.map D.int)]
theorem FO{z:Nat}{tl:List Int}:(jY z tl).length=z+tl.length:=by unfold jY;simp
theorem sP{W n:Nat}{z:Nat}{tl:List Int}(hz:z<=100)(ht:tl.length<=1000):run T W (n+1) "line_to" [.sh (jZ z tl)]=some (.ok (.ow (.lst ((jY z tl).map D.int))),[.sh (jZ z tl)]):=by
 rw[cU AB rfl rfl];unfold kK jZ;have e0:(z:Int)+(tl.length:Int)-(tl.length:Int)=(z:Int):=by omega
 have e1:cI .Mult (.lst [.int 0]) (.int (z:Int))=some (.ow (.lst (List.replicate z (.int 0)))):=by(rw[aDf (by omega) (by omega) (dX (by simp;omega)),Int.toNat_natCast,C8])
 have e2:cI .Add (.lst (List.replicate z (.int 0))) (.lst (tl.map D.int))=some (.ow (.lst ((jY z tl).map D.int))):=by(rw[xA (dX (by simp;omega))];unfold jY;rw[zd,List.map_replicate])
 clear hz ht
 walk_at "!%"
theorem y6{xs:List Int}{q:Int}:xs.map D.int++[D.int q]=(xs++[q]).map D.int:=by rw[zd];rfl
def jK(ps:List RP)(xs:List Int)(q:Int):Bool:=decide (((pV ps (xs++[q]) xs.length:Nat):Int)=0)
theorem aGl{ρ:Env}{k:Nat}(h:k<=1000):aN .rng [.val (.sh (.int (k:Int)))] ρ=some ((List.range k).map λ(j:Nat)=>.int (j:Int),none):=by
 refine Eq.trans (BB (n:=(k:Int)) rfl (by omega) (by omega)) ?_;rw[Int.toNat_natCast]
noncomputable def cF(k:Nat)(ok:Int->Bool):List Int:=((List.range k).filter λ(j:Nat)=>ok (j:Int)).map λ(j:Nat)=>(j:Int)
theorem aBy{k:Nat}{ok:Int->Bool}:((List.range k).filter λ(j:Nat)=>ok (j:Int)).map (λ(j:Nat)=>D.int (j:Int))=(cF k ok).map D.int:=by unfold cF;rw[List.map_map];rfl
theorem GQ{k:Nat}{ok:Int->Bool}{x:Int}(h:x∈cF k ok):0<=x/\x<k:=by
 obtain⟨j,hj,rfl⟩:=List.mem_map.mp h
 have:=List.mem_range.mp (List.mem_filter.mp hj).1
 omega
theorem wI{k:Nat}{ok:Int->Bool}:(cF k ok).length<=k:=by
 unfold cF;rw[List.length_map];exact Zr (List.length_filter_le _ _) (by rw[List.length_range];exact Zq _)
theorem IP{W n:Nat}{k z:Nat}{tl:List Int}(hk:no=(k:Int))(hk7:k<=7)(hrs:ps.map (·.1)=rs)(hp:∀p∈ps,RX no ba oc fs rs m p)(hl:rs.length<=8)(hz:z<=100)(ht:tl.length<=1000)(hx:∀x∈tl,0<=x/\x<no) :
  run T W (n+6) "nexts" [.sh (aO no ba oc fs rs),.sh (jZ z tl)]=some (.ok (.ow (.lst ((cF k (jK ps (jY z tl))).map D.int))),[.sh (aO no ba oc fs rs),.sh (jZ z tl)]):=by
 rw[cU G9 rfl rfl];unfold oV;have hl':ps.length<=8:=by rw[<- hrs,List.length_map] at hl;exact hl
 have h1:=IE (W:=W) (n:=n+3) hrs hp hl;have h2:=sP (W:=W) (n:=n+4) hz ht;have hi:∀{ρ:Env},aN .rng [.val (.sh (.int no))] ρ=some ((List.range k).map λ(j:Nat)=>.int (j:Int),none):=λ{ρ}=>by rw[hk];exact aGl (by omega)
 have hix:gK (some (aO no ba oc fs rs)) (.int 0)=some (.sh (.int no)):=rfl
 have hxl:∀x∈jY z tl,0<=x/\x<no\/x=0:=λx hm=>by
  unfold jY at hm;rcases zo.mp hm with h | h
  ·exact .inr (List.eq_of_mem_replicate h)
  ·exact .inl (hx x h)
 have hlen:(jY z tl).length<=1100:=by rw[FO];omega
 generalize jY z tl=ys at *
 obtain⟨ρi,e,t4,rfl,ht4⟩:=DY (tests:=fB T.pins (run T W (n+5)) [.cmp .Eq (.bif .len [.call "breaks_at" [.var 0,.var 2,.bin .Add (.var 1) (.lst [.var 4]),.bif .len [.var 1]]]) (.con (.int 0))]) (elt:=ev T.pins (run T W (n+5)) false oQ) (bind:=bN true [4]) (ds:=(List.range k).map λ(j:Nat)=>.int (j:Int))
  (λj=>jK ps ys (j:Int)) (λj=>.int (j:Int)) (λρ=>∃t4,ρ=[.sh (aO no ba oc fs rs),.ow (.lst (ys.map D.int)) true false,.ow (.lst (ps.map (·.2.1))) true false,.un,t4]/\cV t4=true)
  (λj d hd ρ hρ=>by
   obtain⟨t4,rfl,ht4⟩:=hρ
   have hj:j<k:=by
    have:=(Zc.mp hd).1
    simpa using this
   have hd':d=.int (j:Int):=by(rw[Zh,List.getElem?_range hj] at hd;exact(Option.some.inj hd).symm)
   subst hd'
   have hcat:cI .Add (.lst (ys.map D.int)) (.lst [.int (j:Int)])=some (.ow (.lst ((ys++[(j:Int)]).map D.int))):=by(rw[xA (dX (by simp;omega)),y6])
   obtain⟨L,hb,hL⟩:=EZ (W:=W) (n:=n) (xs:=ys++[(j:Int)]) (b:=ys.length) hp hl' (by simp) (λx hm=>by
    rcases zo.mp hm with h | h
    ·rcases hxl x h with h | h
     ·exact h
     ·subst h;omega
    ·rw[ze.mp h];omega)
   have hok:decide ((L.length:Int)=0)=jK ps ys (j:Int):=by rw[hL];rfl
   refine⟨_,[.sh (aO no ba oc fs rs),.ow (.lst (ys.map D.int)) true false,.ow (.lst (ps.map (·.2.1))) true false,.un,.sh (.int (j:Int))],by simp only[lD,cD ht4]<;>rfl, ?_,λ_=>⟨.sh (.int (j:Int)),[.sh (aO no ba oc fs rs),.ow (.lst (ys.map D.int)) true false,.ow (.lst (ps.map (·.2.1))) true false,.un,.sh (.int (j:Int))], ?_,rfl,.sh (.int (j:Int)),rfl,rfl⟩,λ_=>⟨.sh (.int (j:Int)),rfl,rfl⟩⟩
   ·clear hd hj hL hp hl hl' hxl hlen h1 h2 hi hix ht4 hrs hx hk
    walk_at "!%"
   ·unfold oQ;clear hd hj hL hp hl hl' hxl hlen h1 h2 hi hix ht4 hrs hx hk hcat hb hok
    walk_at "!%")
  [.sh (aO no ba oc fs rs),.ow (.lst (ys.map D.int)) true false,.ow (.lst (ps.map (·.2.1))) true false,.un,.un] ⟨_,rfl,rfl⟩
 rw[List.length_map,List.length_range,aBy] at e;have hsm:aR ((cF k (jK ps ys)).map D.int).length=true:=dI (by rw[List.length_map];have:=wI (k:=k) (ok:=jK ps ys);omega);have hsm2:aR (cF k (jK ps ys)).length=true:=dI (by have:=wI (k:=k) (ok:=jK ps ys);omega);clear hp hl hl' hxl hlen hrs hx hk ht4
 walk_at "!%"
 rw[iF hi]
 walk_at "!%"
 all_goals (first | done | (rw[sV rfl];walk_at "!%"))
theorem CA{xs:List Int}{b:Nat}:∀(ps:List RP),decide (((pV ps xs b:Nat):Int)=0)=ps.all λp=>(p.2.2 xs b).isEmpty
 |[]=>rfl
 |p::ps=>by(have ih:=CA (xs:=xs) (b:=b) ps;rw[Zj,<- ih];unfold pV;rw[Zs,List.sum_cons,Bool.eq_iff_iff];cases p.2.2 xs b<;>simp<;>omega)
end
theorem aAF{k:Nat}{ok:Int->Bool}{q:Int}(h0:0<=q)(hk:q<k):cQ .In (.int q) (.lst ((cF k ok).map D.int))=some (ok q):=by
 have h1:((cF k ok).map D.int).all cB=true:=by rw[List.all_map,List.all_eq_true];exact λ_ _=>rfl
 show(if cB (.int q)&&((cF k ok).map D.int).all cB then some (zP (.int q) ((cF k ok).map D.int)) else none)=_;rw[h1];show some _=_;congr 1;unfold zP;rw[List.any_map,Bool.eq_iff_iff,List.any_eq_true];constructor
 ·rintro⟨y,hy,e⟩
  obtain⟨j,hj,rfl⟩:=List.mem_map.mp hy;have hj2:=(List.mem_filter.mp hj).2;have e:eE (.int (j:Int)) (.int q)=true:=e;simp only[eE,beq_iff_eq,decide_eq_true_eq] at e;rw[<- e];exact hj2
 ·intro h;refine⟨q,List.mem_map.mpr ⟨q.toNat,List.mem_filter.mpr ⟨List.mem_range.mpr (by omega),by rw[Int.toNat_of_nonneg h0];exact h⟩,Int.toNat_of_nonneg h0⟩, ?_⟩;show eE (.int q) (.int q)=true;simp only[eE,beq_self_eq_true,decide_true]
section
variable{no ba oc:Int}{fs:List (Int×Int×Bool)}{rs:List D}{m:Nat}{ps:List RP}
theorem E7{W n:Nat}{z:Nat}{tl:List Int}{q:Int}(ho:HouseOk no ba oc fs)(hm:nB fs=(m:Int))(h3:3<=m)(hz:z<=100)(ht:tl.length<=1000) :
  run T W (n+4) "behind" [.sh (aO no ba oc fs rs),.sh (jZ z tl),.sh (.int q)]=some (.ok (.sh (n6 m ba (jY z tl++[q]))),[.sh (aO no ba oc fs rs),.sh (jZ z tl),.sh (.int q)]):=by
 rw[cU B0 rfl rfl];unfold l6;have h1:=sP (W:=W) (n:=n+2) hz ht
 have hcat:cI .Add (.lst ((jY z tl).map D.int)) (.lst [.int q])=some (.ow (.lst ((jY z tl++[q]).map D.int))):=by(rw[xA (dX (by simp[FO];omega)),y6])
 have h2:=JY (W:=W) (n:=n) (rs:=rs) (xs:=jY z tl++[q]) ho hm h3;clear ho hm h3 hz ht
 generalize jY z tl++[q]=zs at *
 walk_at "!%"
end
noncomputable def w9(m:Nat)(w:List Int)(q:Int):Bool:=decide (m≠0)&&(decide (m<=w.length)&&(w.drop (w.length-m)).all λz=>decide (z=q))
theorem C6{m:Nat}{w:List Int}{q:Int}(h:m≠0):fZ m (w++[q]) w.length=w9 m w q:=by
 unfold fZ w9 vV;rw[Zn h,Bool.true_and];have e2:gx (w++[q]) w.length=q:=by unfold gx;simp
 rw[e2];by_cases c:m<=w.length
 ·rw[Zn c,Zn (by omega:(m:Int)<=(w.length:Int))];rw[List.drop_append_of_le_length (Nat.sub_le _ _),List.take_append_of_le_length (by rw[List.length_drop];omega),zf (by rw[List.length_drop];omega)]
 ·rw[Zm c,Zm (by omega:¬(m:Int)<=(w.length:Int)),Bool.false_and,Bool.false_and]
theorem aBs{m:Nat}{w:List Int}{q:Int}(h:w.length<m):w9 m w q=false:=by
 unfold w9;rw[Zm (by omega:¬m<=w.length),Bool.false_and,Bool.and_false]
def zS(w:List Int):Prop:=∀x∈w,0<=x/\x<7
theorem SO{w:List Int}(h:zS w){k:Nat}(hk:k<w.length):0<=gx w k/\gx w k<7:=h _ (aBe hk)
theorem VI{a:Int}{w:List Int}(ha:6<=a)(h:zS w){b:Nat}(hb:b<w.length):l7 a w b=false:=by
 cases b with
 |zero=>rfl
 |succ b =>
  have h1:=SO h hb;have h2:=SO h (show b<w.length by omega);refine Zm ?_;unfold EM
  split<;>omega
theorem Q9{fs:List (Int×Int×Bool)}{w:List Int}{b:Int}(hf:∀f∈fs,-12<=f.2.1/\f.2.1<=12)(h:zS w):jX (-60) 60 fs w b=[]:=by
 unfold jX vZ;rw[List.filter_eq_nil_iff.mpr,List.map_nil];intro j hj;rw[Bool.not_eq_true];have hj:=List.mem_range.mp hj
 have hv:∀f∈eD fs,-12<=f.2.1/\f.2.1<=12:=λf hm=>by
  rcases List.mem_cons.mp hm with rfl | hm
  ·decide
  ·exact hf f hm
 have hl:j<(eD fs).length:=by unfold eD;simp;omega
 rw[IW (Zb hl)];have hf:=hv _ (List.getElem_mem hl)
 generalize (eD fs)[j]=f at *
 unfold gI;split
 ·rename_i hc
  have hx:=h (w.getD (b-f.1).toNat 0) (by
   rw[List.getD_eq_getElem?_getD,Zb (by omega)]
   exact List.getElem_mem _)
  generalize w.getD (b-f.1).toNat 0=x at *
  show(_:Bool)=false;unfold j4;cases f.2.2<;>simp<;>omega
 ·rfl
noncomputable def sU(fs:List (Int×Int×Bool))(a:Int)(r m:Nat):List RP:=[JE a,DC fs (-60) 60,yA 3].take r++(if m=0 then [] else [yA m])
theorem aAL{fs:List (Int×Int×Bool)}{a:Int}{r m:Nat}{w:List Int}{q:Int}(ha:6<=a)(hf:∀f∈fs,-12<=f.2.1/\f.2.1<=12)(h:zS w)(hl:w.length<=2)(hq:0<=q/\q<7):jK (sU fs a r m) w q=!w9 m w q:=by
 have h':zS (w++[q]):=λx hx=>by
  rcases zo.mp hx with z | z
  ·exact h x z
  ·rw[ze.mp z];exact hq
 unfold jK sU;rw[CA,List.all_append]
 have e1:(([JE a,DC fs (-60) 60,yA 3].take r).all λp=>(p.2.2 (w++[q]) w.length).isEmpty)=true:=by
  rw[List.all_eq_true];intro p hp;have hp:=List.mem_of_mem_take hp;simp only[List.mem_cons,List.not_mem_nil,or_false] at hp;rcases hp with rfl | rfl | rfl
  ·show(iT (l7 a (w++[q]) w.length)).isEmpty=true;rw[VI ha h' (by simp)];rfl
  ·show(jX (-60) 60 fs (w++[q]) (w.length:Int)).isEmpty=true;rw[Q9 hf h'];rfl
  ·show(iT (fZ 3 (w++[q]) w.length)).isEmpty=true;rw[C6 (by decide),aBs (by omega)];rfl
 rw[e1,Bool.true_and];by_cases c:m=0
 ·rw[Zo c];subst c;rfl
 ·rw[Zp c,Zj,List.all_nil,Bool.and_true];show(iT (fZ m (w++[q]) w.length)).isEmpty=_;rw[C6 c];cases w9 m w q<;>rfl
theorem aCN{no ba oc:Int}{fs:List (Int×Int×Bool)}{rs:List D}{mm:Nat}{a:Int}{r m:Nat}(hl:fs.length<=3)(hm:m<=3):∀p∈sU fs a r m,RX no ba oc fs rs mm p:=λp hp=>by
 unfold sU at hp;rcases zo.mp hp with hp | hp
 ·have hp:=List.mem_of_mem_take hp;simp only[List.mem_cons,List.not_mem_nil,or_false] at hp;rcases hp with rfl | rfl | rfl
  ·exact VF
  ·exact P9 (by omega)
  ·exact DK (by decide)
 ·split at hp
  ·exact nomatch hp
  ·rw[ze.mp hp];exact DK hm
def iV(fs:List (Int×Int×Bool))(a:Int)(r m:Nat):List D:=(sU fs a r m).map (·.1)
theorem FU{fs:List (Int×Int×Bool)}{a:Int}{r m:Nat}:(sU fs a r m).length<=4:=by
 unfold sU;rw[Za,List.length_take]
 split<;>simp<;>omega
def foH(m:Nat)(w:List Int):List Int:=cF 7 λq=>!w9 m w q
structure HH(ba oc:Int)(fs:List (Int×Int×Bool))(a:Int)(r m mm:Nat):Prop where
 ok:HouseOk 7 ba oc fs
 ha:6<=a
 hm:m<=3
 me:nB fs=(mm:Int)
 m3:3<=mm
def mE(ba oc:Int)(fs:List (Int×Int×Bool))(a:Int)(r m:Nat):D:=aO 7 ba oc fs (iV fs a r m)
section
variable{ba oc:Int}{fs:List (Int×Int×Bool)}{a:Int}{r m mm:Nat}{w:List Int}{q:Int}
theorem NK{W n:Nat}(h:HH ba oc fs a r m mm)(hw:zS w)(hl:w.length<=2):run T W (n+6) "nexts" [.sh (mE ba oc fs a r m),.sh (jZ 0 w)]=some (.ok (.ow (.lst ((foH m w).map D.int))),[.sh (mE ba oc fs a r m),.sh (jZ 0 w)]):=by
 have e:=IP (W:=W) (n:=n) (no:=7) (ba:=ba) (oc:=oc) (fs:=fs) (rs:=iV fs a r m) (m:=mm) (ps:=sU fs a r m) (k:=7) (z:=0) (tl:=w) rfl (by decide) rfl (aCN h.ok.l2 h.hm) (by unfold iV;rw[List.length_map];have:=FU (fs:=fs) (a:=a) (r:=r) (m:=m);omega) (by omega) (by omega) hw
 have e2:cF 7 (jK (sU fs a r m) (jY 0 w))=foH m w:=by
  unfold foH cF;congr 1;refine List.filter_congr λj hj=>?_
  have hj:=List.mem_range.mp hj;exact aAL h.ha (λf hf=>⟨(h.ok.f f hf).2.2.1,(h.ok.f f hf).2.2.2⟩) hw hl (by omega)
 rw[e2] at e;exact e
theorem EU{W n:Nat}(h:HH ba oc fs a r m mm)(hl:w.length<=3):n6 mm ba w=jZ 0 w:=by
 have h3:=h.m3;unfold n6 jZ BJ;rw[HB (by omega),show w.length-mm=0 by omega,List.drop_zero];simp
theorem FW{W n:Nat}(h:HH ba oc fs a r m mm)(hl:w.length<=2):run T W (n+4) "behind" [.sh (mE ba oc fs a r m),.sh (jZ 0 w),.sh (.int q)]=some (.ok (.sh (jZ 0 (w++[q]))),[.sh (mE ba oc fs a r m),.sh (jZ 0 w),.sh (.int q)]):=by
 have e:=E7 (W:=W) (n:=n) (rs:=iV fs a r m) (z:=0) (tl:=w) (q:=q) h.ok h.me h.m3 (by omega) (by omega);have e2:n6 mm ba (jY 0 w++[q])=jZ 0 (w++[q]):=EU (W:=W) (n:=n) (w:=w++[q]) h (by simp;omega);rw[e2] at e;exact e
end
def aX(w:List Int):D:=.tup [jZ 0 w,jZ 0 w]
def NB(a b:Nat)(w:List Int):List Int:=cF 7 λq=>!w9 a w q && !w9 b w q
def ext(a b:Nat)(w:List Int):List (List Int):=(NB a b w).map λq=>w++[q]
def dJ(a b:Nat):Nat->List (List Int)
 | 0=>[[]]
 |k+1=>(dJ a b k).flatMap (ext a b)
theorem aBE:∀a b:Fin 4,(0<(dJ a b 1).length/\(dJ a b 1).length<=7)/\(0<(dJ a b 2).length/\(dJ a b 2).length<=49)/\200<(dJ a b 3).length/\(dJ a b 3).length<=343:=by decide +kernel
theorem lN{a b:Nat}:∀{k:Nat} {w:List Int},w∈dJ a b k->w.length=k/\zS w
 | 0,w,h=>by
  rw[ze.mp h];exact⟨rfl,λx hx=>nomatch hx⟩
 |k+1,w,h=>by
  obtain⟨v,hv,hw⟩:=List.mem_flatMap.mp h;obtain⟨q,hq,rfl⟩:=List.mem_map.mp hw;obtain⟨h1,h2⟩:=lN hv;refine⟨by rw[Za,h1];rfl,λx hx=>?_⟩;rcases zo.mp hx with z | z
  ·exact h2 x z
  ·rw[ze.mp z];exact GQ hq
theorem aB3{k:Nat}{ok:Int->Bool}:(cF k ok).Nodup:=by
 unfold cF;refine List.pairwise_map.mpr (List.Pairwise.imp (λ{x y} h=>?_) (List.Pairwise.filter _ List.nodup_range));omega
theorem NN{a b:Nat}:∀k:Nat,(dJ a b k).Nodup
 | 0=>List.pairwise_singleton _ _
 |k+1=>by
  refine List.pairwise_flatMap.mpr ⟨λw _=>List.pairwise_map.mpr (List.Pairwise.imp (λ{x y} h z=>h ?_) aB3),List.Pairwise.imp (λ{v w} h x hx y hy z=>h ?_) (NN k)⟩
  ·exact List.singleton_inj.mp (List.append_cancel_left z)
  ·obtain⟨q,_,rfl⟩:=List.mem_map.mp hx;obtain⟨r,_,rfl⟩:=List.mem_map.mp hy;exact(List.append_inj' z rfl).1
theorem aAM{α:Type}{xs ys:List α}(h1:xs.Nodup)(h2:ys.Nodup)(h:∀x∈xs,∀y∈ys,x≠y):(xs++ys).Nodup:=List.nodup_append.mpr ⟨h1,h2,h⟩
def gY(a b:Nat):Nat->List (List Int)
 | 0=>[[]]
 |k+1=>gY a b k++dJ a b (k+1)
theorem FL{a b:Nat}:∀{k:Nat} {w:List Int},w∈gY a b k->w.length<=k
 | 0,w,h=>by rw[ze.mp h];exact Zq _
 |k+1,w,h=>by
  rcases zo.mp h with h | h
  ·have:=FL h;omega
  ·have:=(lN h).1;omega
theorem GJ{a b:Nat}:∀k:Nat,(gY a b k).Nodup
 | 0=>List.pairwise_singleton _ _
 |k+1=>aAM (GJ k) (NN (k+1)) λx hx y hy z=>by(have h1:=FL hx;have h2:=(lN hy).1;subst z;omega)
theorem Y4{a b:Nat}:∀{k:Nat} {w:List Int},w∈dJ a b k->w∈gY a b k
 | 0,w,h=>h
 |k+1,w,h=>zo.mpr (.inr h)
def kW(w:List Int):L2.cG:=(((0:Nat):Int)+(w.length:Int),w)
def gk(w:List Int):L2.bB:=.inr (kW w,kW w)
def lv(w:List Int):D:=.lst (w.map D.int)
theorem DP{w:List Int}:eP (aX w)=some (gk w):=aBV
theorem KP{v w:List Int}(h:gk v=gk w):v=w:=by
 unfold gk kW at h
 injection h with h
 injection h with h _
 injection h
theorem GR{w:List Int}:∀{L:List (List Int)},w∈L->jQ (L.map gk) (L.map lv) (gk w)=some (lv w)
 |v::L,h=>by
  unfold jQ;rw[Zs,Zs,List.zip_cons_cons,List.find?_cons];by_cases e:gk v=gk w
  ·rw[Zn e,KP e];rfl
  ·rw[Zm e];have hm:w∈L:=(List.mem_cons.mp h).resolve_left λz=>e (by rw[z])
   exact GR hm
theorem aBq{w:List Int}{L:List (List Int)}(h:w ∉ L):nC (L.map gk) (gk w)=false:=by
 unfold nC;rw[List.any_map,List.any_eq_false];intro v hv;simp only[Function.comp_apply,decide_eq_true_eq];exact λz=>h (KP z ▸ hv)
def kpI(ok:Int->Bool):D->Bool
 |.int x=>ok x
 |_=>false
theorem YW{k:Nat}{ok1 ok2:Int->Bool}:(((cF k ok1).map D.int).filter (kpI ok2)).map id=(cF k λq=>ok1 q&&ok2 q).map D.int:=by
 rw[List.map_id,List.filter_map];congr 1;show(cF k ok1).filter ok2=_;unfold cF;rw[List.filter_map,List.filter_filter];congr 1;refine List.filter_congr λj _=>?_
 exact Bool.and_comm _ _
theorem O8{tests elt:Env->aF RV}{bind:D->Env->Option Env}{ds:List D}(keep:D->Bool)(val:D->D)(J:Env->Prop)
  (step:∀d∈ds,∀ρ,J ρ->∃ρ1 ρ2,bind d ρ=some ρ1/\tests ρ1=some (.ok (.sh (.bl (keep d))),ρ2)/\(keep d=true->∃v ρ3,elt ρ2=some (.ok v,ρ3)/\v.d=val d/\J ρ3)/\(keep d=false->J ρ2)) {ρ:Env} (h:J ρ) :
  ∃ρ',fQ tests elt bind ds [] ρ=some (.ok ((ds.filter keep).map val),ρ')/\J ρ':=by
 obtain⟨acc,ρ',e,⟨rfl,hJ⟩,_⟩:=iG (tests:=tests) (elt:=elt) (bind:=bind) (ds:=ds) (λj acc ρ=>acc=((ds.take j).filter keep).map val/\J ρ)
  (λj d hd acc ρ ⟨ha,hJ⟩=>by
   obtain⟨ρ1,ρ2,h1,h2,h3,h4⟩:=step d (zj hd) ρ hJ;refine⟨ρ1,keep d,ρ2,h1,h2,λhk=>?_,λhk=>⟨?_,h4 hk⟩⟩
   ·obtain⟨v,ρ3,h5,h6,h7⟩:=h3 hk;refine⟨v,ρ3,h5, ?_,h7⟩;rw[ha,h6,List.take_add_one,hd];simp[List.filter_append,hk]
   ·rw[ha,List.take_add_one,hd]
    simp[List.filter_append,hk]) [] ρ ⟨by simp,h⟩
 refine⟨ρ', ?_,hJ⟩;rw[e,List.take_length]
theorem LZ{W n:Nat}{H1 H2 s1 s2:D}{ok1 ok2:Int->Bool}(h1:run T W (n+1) "nexts" [.sh H1,.sh s1]=some (.ok (.ow (.lst ((cF 7 ok1).map D.int))),[.sh H1,.sh s1]))(h2:run T W (n+1) "nexts" [.sh H2,.sh s2]=some (.ok (.ow (.lst ((cF 7 ok2).map D.int))),[.sh H2,.sh s2])) :
  run T W (n+2) "notes_of_both" [.sh H1,.sh H2,.sh (.tup [s1,s2])]=some (.ok (.ow (.lst ((cF 7 λq=>ok1 q&&ok2 q).map D.int))),[.sh H1,.sh H2,.sh (.tup [s1,s2])]):=by
 rw[cU mC rfl rfl];unfold fV;have hi:∀{ρ:Env},aN .of [.val (.ow (.lst ((cF 7 ok1).map D.int)))] ρ=some ((cF 7 ok1).map D.int,none):=BF rfl
 obtain⟨ρa,ea,t2,rfl,ht2⟩:=O8 (tests:=fB T.pins (run T W (n+1)) [.cmp .In (.var 2) (.var 0)]) (elt:=ev T.pins (run T W (n+1)) false gM) (bind:=bN true [2]) (ds:=(cF 7 ok1).map D.int)
  (kpI ok2) id (λρ=>∃t2,ρ=[.ow (.lst ((cF 7 ok2).map D.int)) true false,.un,t2]/\cV t2=true)
  (λd hd ρ hρ=>by
   obtain⟨t2,rfl,ht2⟩:=hρ;obtain⟨x,hx,rfl⟩:=List.mem_map.mp hd;have hx:=GQ hx;have hin:=aAF (k:=7) (ok:=ok2) (q:=x) hx.1 hx.2;refine⟨[.ow (.lst ((cF 7 ok2).map D.int)) true false,.un,.sh (.int x)],[.ow (.lst ((cF 7 ok2).map D.int)) true false,.un,.sh (.int x)],by simp only[lD,cD ht2]<;>rfl, ?_,λ_=>⟨.sh (.int x),[.ow (.lst ((cF 7 ok2).map D.int)) true false,.un,.sh (.int x)], ?_,rfl,_,rfl,rfl⟩,λ_=>⟨_,rfl,rfl⟩⟩
   ·show(_:aF RV)=some (Out.ok (RV.sh (.bl (ok2 x))),_);clear hd hx ht2 h1 h2 hi;cases hb:ok2 x<;>rw[hb] at hin<;>walk_at "!%"
   ·unfold gM;clear hd hx ht2 h1 h2 hi hin
    walk_at "!%") (ρ:=[.ow (.lst ((cF 7 ok2).map D.int)) true false,.un,.un]) ⟨_,rfl,rfl⟩
 rw[YW] at ea;have hz:=wI (k:=7) (ok:=λq=>ok1 q&&ok2 q);have hsm:aR (cF 7 λq=>ok1 q&&ok2 q).length=true:=dI (by omega);have hsm2:aR ((cF 7 λq=>ok1 q&&ok2 q).map D.int).length=true:=dI (by rw[List.length_map];omega);clear hz ht2
 walk_at "!%"
 rw[iF hi]
 walk_at "!%"
 all_goals (first | done | (rw[sV rfl];walk_at "!%"))
theorem aEz{W n:Nat}{H1 H2 s1 s2 u1 u2:D}{q:Int}(h1:run T W (n+1) "behind" [.sh H1,.sh s1,.sh (.int q)]=some (.ok (.sh u1),[.sh H1,.sh s1,.sh (.int q)]))(h2:run T W (n+1) "behind" [.sh H2,.sh s2,.sh (.int q)]=some (.ok (.sh u2),[.sh H2,.sh s2,.sh (.int q)])) :
  run T W (n+2) "pair_behind" [.sh H1,.sh H2,.sh (.tup [s1,s2]),.sh (.int q)]=some (.ok (.sh (.tup [u1,u2])),[.sh H1,.sh H2,.sh (.tup [s1,s2]),.sh (.int q)]):=by
 rw[cU qP rfl rfl];unfold gT
 walk_at "!"
theorem aD2{W n:Nat}{H1 H2 pd pd':D}{ks:List L2.bB}{ds v N:List D}{k k':L2.bB}{q:Int}{S3 t7:Sl}(h7:cV t7=true)
  (hpb:run T W (n+1) "pair_behind" [.sh H1,.sh H2,.sh pd,.sh (.int q)]=some (.ok (.sh pd'),[.sh H1,.sh H2,.sh pd,.sh (.int q)]))
  (hk:eP pd=some k) (hk':eP pd'=some k') (hl:jQ ks ds k=some (.lst v)) (hn:nC ks k'=false) (s1:v.length<=1000) (s2:ks.length<=1000) (s3:N.length<=1000) :
  exs T.pins (run T W (n+1)) W cP [.sh H1,.sh H2,.ow (.dcs ks ds) false false,S3,.ow (.lst N) false false,.sh pd,.sh (.int q),t7]=some (.nx,[.sh H1,.sh H2,.ow (.dcs (ks++[k']) (ds++[.lst (v++[.int q])])) false false,S3,.ow (.lst (N++[pd'])) false false,.sh pd,.sh (.int q),.sh pd']):=by
 have hni:cQ .NotIn pd' (.dcs ks ds)=some true:=by rw[aEn hk',hn];rfl
 have hix:gK (some (.dcs ks ds)) pd=some (.sh (.lst v)):=aEK hk hl;have hcat:cI .Add (.lst v) (.lst [.int q])=some (.ow (.lst (v++[.int q]))):=xA (dX (by simp;omega));have hpk:oY ks k'=ks++[k']:=by unfold oY;rw[hn];rfl
 have hpv:pB ks ds k' (.lst (v++[.int q]))=ds++[.lst (v++[.int q])]:=by unfold pB;rw[hn];rfl
 have z2:aR (ks.length+1)=true:=dX (by omega);have z3:aR (N.length+1)=true:=dX (by omega);unfold cP;clear hk hl hn s1 s2 s3
 walk_at "!aEs"
theorem nQ{P:aE}{C:Calls}{W:Nat}{ρ':Env}:∀{j:Nat} {l:List S} {ρ:Env},exs P C W (l.take j) ρ=some (.nx,ρ')->exs P C W l ρ=exs P C W (l.drop j) ρ'
 | 0,l,ρ,h=>by
  rw[List.take_zero,oK] at h;cases h;rfl
 |j+1,[],ρ,h=>by
  rw[List.take_nil,oK] at h;cases h;rfl
 |j+1,s::l,ρ,h=>by
  rw[List.take_succ_cons,dH] at h;rw[dH,List.drop_succ_cons]
  generalize ex P C W s ρ=r at *
  obtain _ | ⟨fl,ρ1⟩:=r
  ·cases h
  ·cases fl with
   |nx=>exact nQ (j:=j) h
   |_=>cases h
noncomputable def fN(H1 H2:D)(L N:List (List Int))(S3 t5 t6 t7:Sl):Env:=[.sh H1,.sh H2,.ow (.dcs (L.map gk) (L.map lv)) false false,S3,.ow (.lst (N.map aX)) false false,t5,t6,t7]
section
variable{W n:Nat}{H1 H2:D}{S3:Sl}
theorem SK{w:List Int}(hwl:w.length<=3):∀(qs:List Int) (L N:List (List Int)) (t6 t7:Sl),cV t6=true->cV t7=true ->
  (∀q∈qs,run T W (n+1) "pair_behind" [.sh H1,.sh H2,.sh (aX w),.sh (.int q)]=some (.ok (.sh (aX (w++[q]))),[.sh H1,.sh H2,.sh (aX w),.sh (.int q)])) ->
  w∈L->(L++qs.map λq=>w++[q]).Nodup->L.length+qs.length<=900->N.length+qs.length<=900 ->
  ∃t6' t7',dD (bN true [6]) (exs T.pins (run T W (n+1)) W cP) (qs.map D.int) (fN H1 H2 L N S3 (.sh (aX w)) t6 t7)=some (.nx,fN H1 H2 (L++qs.map λq=>w++[q]) (N++qs.map λq=>w++[q]) S3 (.sh (aX w)) t6' t7')/\cV t6'=true/\cV t7'=true
 |[],L,N,t6,t7,h6,h7,_,_,_,_,_=>⟨t6,t7,by rw[List.map_nil,List.map_nil,List.append_nil,List.append_nil];rfl,h6,h7⟩
 |q::qs,L,N,t6,t7,h6,h7,hpb,hw,lR,hL,hN=>by
  have hx:w++[q] ∉ L:=λz=>(List.nodup_append.mp lR).2.2 _ z _ (zh ..) rfl
  rw[Zk] at hL hN;have e2:=aD2 (W:=W) (n:=n) (S3:=S3) h7 (hpb q (zh ..)) DP DP (GR hw) (aBq hx) (N:=N.map aX) (by rw[List.length_map];omega) (by rw[List.length_map];omega) (by rw[List.length_map];omega);rw[y6] at e2
  have e3:exs T.pins (run T W (n+1)) W cP (fN H1 H2 L N S3 (.sh (aX w)) (.sh (.int q)) t7)=some (.nx,fN H1 H2 (L++[w++[q]]) (N++[w++[q]]) S3 (.sh (aX w)) (.sh (.int q)) (.sh (aX (w++[q])))):=by(unfold fN;rw[zd,zd,zd];exact e2)
  have e1:bN true [6] (.int q) (fN H1 H2 L N S3 (.sh (aX w)) t6 t7)=some (fN H1 H2 L N S3 (.sh (aX w)) (.sh (.int q)) t7):=by(unfold fN;simp only[lD,cD h6]<;>rfl)
  obtain⟨t6',t7',e4,k6,k7⟩:=SK hwl qs (L++[w++[q]]) (N++[w++[q]]) (.sh (.int q)) (.sh (aX (w++[q]))) rfl rfl (λr hr=>hpb r (Ze _ hr)) (zo.mpr (.inl hw)) (by rw[List.append_assoc];exact lR) (by rw[Za,List.length_singleton];omega) (by rw[Za,List.length_singleton];omega);refine⟨t6',t7', ?_,k6,k7⟩;rw[List.append_assoc,List.append_assoc] at e4;rw[Zs,Zs];simp only[dD,e1,e3];exact e4
theorem aEW{w:List Int}{L N:List (List Int)}{t6 t7:Sl}{qs:List Int}(hb:run T W (n+1) "notes_of_both" [.sh H1,.sh H2,.sh (aX w)]=some (.ok (.ow (.lst (qs.map D.int))),[.sh H1,.sh H2,.sh (aX w)]))
  {ρ':Env} (e:dD (bN true [6]) (exs T.pins (run T W (n+1)) W cP) (qs.map D.int) (fN H1 H2 L N S3 (.sh (aX w)) t6 t7)=some (.nx,ρ')):exs T.pins (run T W (n+1)) W dF (fN H1 H2 L N S3 (.sh (aX w)) t6 t7)=some (.nx,ρ'):=by
 have hi:∀{ρ:Env},aN .of [.val (.ow (.lst (qs.map D.int)))] ρ=some (qs.map D.int,none):=BF rfl
 unfold dF;unfold fN at e ⊢
 generalize qs.map D.int=Q at *
 generalize aX w=pd at *
 generalize L.map gk=ks at *
 generalize L.map lv=vs at *
 generalize N.map aX=N' at *
 walk_at "!%"
theorem RY{a b:Nat}:∀(ws:List (List Int)) (L N:List (List Int)) (t5 t6 t7:Sl),cV t5=true->cV t6=true->cV t7=true ->
  (∀w∈ws,w∈L/\w.length<=3/\run T W (n+1) "notes_of_both" [.sh H1,.sh H2,.sh (aX w)]=some (.ok (.ow (.lst ((NB a b w).map D.int))),[.sh H1,.sh H2,.sh (aX w)]) /\
   ∀q,run T W (n+1) "pair_behind" [.sh H1,.sh H2,.sh (aX w),.sh (.int q)]=some (.ok (.sh (aX (w++[q]))),[.sh H1,.sh H2,.sh (aX w),.sh (.int q)])) ->
  (L++ws.flatMap (ext a b)).Nodup->L.length+(ws.flatMap (ext a b)).length<=900->N.length+(ws.flatMap (ext a b)).length<=900 ->
  ∃t5' t6' t7',dD (bN true [5]) (exs T.pins (run T W (n+1)) W dF) (ws.map aX) (fN H1 H2 L N S3 t5 t6 t7)=some (.nx,fN H1 H2 (L++ws.flatMap (ext a b)) (N++ws.flatMap (ext a b)) S3 t5' t6' t7')/\cV t5'=true/\cV t6'=true/\cV t7'=true
 |[],L,N,t5,t6,t7,h5,h6,h7,_,_,_,_=>⟨t5,t6,t7,by rw[List.flatMap_nil,List.append_nil,List.append_nil];rfl,h5,h6,h7⟩
 |w::ws,L,N,t5,t6,t7,h5,h6,h7,hw,lR,hL,hN=>by
  obtain⟨g1,g2,g3,g4⟩:=hw w (zh ..);rw[List.flatMap_cons] at lR hL hN ⊢;rw[Za] at hL hN;have hz:(ext a b w).length=(NB a b w).length:=List.length_map _;obtain⟨u6,u7,e1,k6,k7⟩:=SK (W:=W) (n:=n) (H1:=H1) (H2:=H2) (S3:=S3) g2 (NB a b w) L N t6 t7 h6 h7 (λq _=>g4 q) g1 (by rw[<- List.append_assoc] at lR;exact(List.nodup_append.mp lR).1) (by omega) (by omega);have e2:=aEW g3 e1
  have e0:bN true [5] (aX w) (fN H1 H2 L N S3 t5 t6 t7)=some (fN H1 H2 L N S3 (.sh (aX w)) t6 t7):=by(unfold fN;simp only[lD,cD h5]<;>rfl)
  obtain⟨t5',t6',t7',e4,m5,m6,m7⟩:=RY ws (L++ext a b w) (N++ext a b w) (.sh (aX w)) u6 u7 rfl k6 k7 (λv hv=>⟨zo.mpr (.inl (hw v (Ze _ hv)).1),(hw v (Ze _ hv)).2⟩) (by rw[List.append_assoc];exact lR) (by rw[Za];omega) (by rw[Za];omega);refine⟨t5',t6',t7', ?_,m5,m6,m7⟩;rw[List.append_assoc,List.append_assoc] at e4;rw[Zs];simp only[dD,e0,e2];exact e4
theorem EB{P:aE}{C:Calls}{W:Nat}{ρ':Env}:∀{j:Nat} {l:List S} {ρ:Env},exs P C W (l.take j) ρ=some (.nx,ρ')->dO P C W l ρ=dO P C W (l.drop j) ρ'
 | 0,l,ρ,h=>by
  rw[List.take_zero,oK] at h;cases h;rfl
 |j+1,[],ρ,h=>by
  rw[List.take_nil,oK] at h;cases h;rfl
 |j+1,s::l,ρ,h=>by
  rw[List.take_succ_cons,dH] at h;rw[AR,List.drop_succ_cons]
  generalize ex P C W s ρ=r at *
  obtain _ | ⟨fl,ρ1⟩:=r
  ·cases h
  ·cases fl with
   |nx=>exact EB (j:=j) h
   |_=>cases h
theorem aEw{L ws:List (List Int)}{L' N':List (List Int)}{S4 t5 t6 t7 t5' t6' t7':Sl}(h4:cV S4=true)(o:Bool)
  (e:dD (bN true [5]) (exs T.pins (run T W (n+1)) W dF) (ws.map aX) (fN H1 H2 L [] (if o then .un else .sh (.lst (ws.map aX))) t5 t6 t7)=some (.nx,fN H1 H2 L' N' (if o then .un else .sh (.lst (ws.map aX))) t5' t6' t7')) :
  exs T.pins (run T W (n+1)) W (aW.take 2) [.sh H1,.sh H2,.ow (.dcs (L.map gk) (L.map lv)) false false,if o then .ow (.lst (ws.map aX)) false false else .sh (.lst (ws.map aX)),S4,t5,t6,t7]=some (.nx,fN H1 H2 L' N' (if o then .ow (.lst (ws.map aX)) false false else .sh (.lst (ws.map aX))) t5' t6' t7'):=by
 unfold aW;unfold fN at e ⊢;rw[List.map_nil] at e
 generalize ws.map aX=Q at *
 generalize L.map gk=ks at *
 generalize L.map lv=vs at *
 generalize L'.map gk=ks' at *
 generalize L'.map lv=vs' at *
 generalize N'.map aX=N2 at *
 cases o with
 |true =>
  have hi:aN .of [.slot 3] [.sh H1,.sh H2,.ow (.dcs ks vs) false false,.ow (.lst Q) false false,.ow (.lst []) false false,t5,t6,t7]=some (Q,some 3):=aDU rfl;simp only[if_true] at e ⊢
  walk_at "!%"
  simp only[aQ,List.set_cons_zero,List.set_cons_succ,e,bI.restore,eM,zr,List.getElem?_cons_succ,Option.map_some]
  walk_at "!%"
 |false =>
  have hi:aN .of [.slot 3] [.sh H1,.sh H2,.ow (.dcs ks vs) false false,.sh (.lst Q),.ow (.lst []) false false,t5,t6,t7]=some (Q,none):=aEP rfl;simp only[if_false,Bool.false_eq_true] at e ⊢
  walk_at "!%"
end
theorem lw3{test:Env->aF RV}{body:Env->bI}{bx:Env->Option (Exc×Env)}{ρ0 ρ1 ρ2:Env}{x:Exc×Env}{n:Nat}(t0:test ρ0=some (.ok (.sh (.bl true)),ρ0))(b0:body ρ0=some (.nx,ρ1))(t1:test ρ1=some (.ok (.sh (.bl true)),ρ1))(b1:body ρ1=some (.nx,ρ2))(t2:test ρ2=some (.ok (.sh (.bl true)),ρ2))(b2:body ρ2=none)(hx:bx ρ2=some x) :
  iM test body (n+3) ρ0=none/\iB test body bx (n+3) ρ0=some x:=by
 simp only[iM,iB,t0,b0,t1,b1,t2,b2,hx,aF.flow,and_self]
theorem aBg{a b:Nat}(ha:a<=3)(hb:b<=3):(0<(dJ a b 1).length/\(dJ a b 1).length<=7)/\(0<(dJ a b 2).length/\(dJ a b 2).length<=49)/\200<(dJ a b 3).length/\(dJ a b 3).length<=343:=aBE ⟨a,by omega⟩ ⟨b,by omega⟩
section
variable{W n:Nat}{H1 H2:D}{a b:Nat}
structure PB(W n:Nat)(H1 H2:D)(a b:Nat):Prop where
 nb:∀w,zS w->w.length<=2->run T W (n+1) "notes_of_both" [.sh H1,.sh H2,.sh (aX w)]=some (.ok (.ow (.lst ((NB a b w).map D.int))),[.sh H1,.sh H2,.sh (aX w)])
 pb:∀w q,w.length<=2->run T W (n+1) "pair_behind" [.sh H1,.sh H2,.sh (aX w),.sh (.int q)]=some (.ok (.sh (aX (w++[q]))),[.sh H1,.sh H2,.sh (aX w),.sh (.int q)])
theorem aBS{a b k:Nat}(ha:a<=3)(hb:b<=3)(hk:k<=2):(gY a b k).length+(dJ a b (k+1)).length<=900:=by
 have h:=aBg ha hb
 match k,hk with
 | 0,_=>show 1+(dJ a b 1).length<=900;omega
 | 1,_ =>
  show([[]]++dJ a b 1).length+(dJ a b 2).length<=900;rw[Za,List.length_singleton];omega
 | 2,_ =>
  show(([[]]++dJ a b 1)++dJ a b 2).length+(dJ a b 3).length<=900;rw[Za,Za,List.length_singleton];omega
noncomputable def AN(o:Bool)(ws:List (List Int)):Sl:=if o then .ow (.lst (ws.map aX)) false false else .sh (.lst (ws.map aX))
noncomputable def sF(H1 H2:D)(L ws:List (List Int))(o:Bool)(S4 t5 t6 t7:Sl):Env:=[.sh H1,.sh H2,.ow (.dcs (L.map gk) (L.map lv)) false false,AN o ws,S4,t5,t6,t7]
theorem IF(h:PB W n H1 H2 a b)(ha:a<=3)(hb:b<=3){k:Nat}(hk:k<=2)(o:Bool){S4 t5 t6 t7:Sl}(h4:cV S4=true)(h5:cV t5=true)(h6:cV t6=true)(h7:cV t7=true) :
  ∃t5' t6' t7',exs T.pins (run T W (n+1)) W (aW.take 2) (sF H1 H2 (gY a b k) (dJ a b k) o S4 t5 t6 t7)=some (.nx,fN H1 H2 (gY a b (k+1)) (dJ a b (k+1)) (AN o (dJ a b k)) t5' t6' t7')/\cV t5'=true/\cV t6'=true/\cV t7'=true:=by
 have hz:=aBS ha hb hk
 obtain⟨t5',t6',t7',e,k5,k6,k7⟩:=RY (W:=W) (n:=n) (H1:=H1) (H2:=H2) (S3:=if o then .un else .sh (.lst ((dJ a b k).map aX))) (a:=a) (b:=b) (dJ a b k) (gY a b k) [] t5 t6 t7 h5 h6 h7
  (λw hw=>⟨Y4 hw,by have:=(lN hw).1;omega,h.nb w (lN hw).2 (by have:=(lN hw).1;omega),λq=>h.pb w q (by have:=(lN hw).1;omega)⟩) (GJ (k+1)) hz (by rw[List.length_nil];show 0+(dJ a b (k+1)).length<=900;omega)
 rw[List.nil_append] at e;exact⟨t5',t6',t7',aEw h4 o e,k5,k6,k7⟩
theorem TM{L' N':List (List Int)}{ρ0:Env}{o:Bool}{ws:List (List Int)}{t5' t6' t7':Sl}(hA:exs T.pins (run T W (n+1)) W (aW.take 2) ρ0=some (.nx,fN H1 H2 L' N' (AN o ws) t5' t6' t7'))(hl:L'.length<=150) :
  exs T.pins (run T W (n+1)) W aW ρ0=some (.nx,sF H1 H2 L' N' false (.sh (.lst (N'.map aX))) t5' t6' t7'):=by
 rw[nQ hA];have c:decide (150<(((L'.map gk).length:Nat):Int))=false:=Zm (by rw[List.length_map];omega);unfold aW sF fN AN;clear hA hl
 generalize L'.map gk=ks at *
 generalize L'.map lv=vs at *
 generalize N'.map aX=Q at *
 generalize ws.map aX=R at *
 cases o<;>simp only[if_true,if_false,Bool.false_eq_true]<;>walk_at "!%"
theorem aEm{L' N':List (List Int)}{ρ0:Env}{o:Bool}{ws:List (List Int)}{t5' t6' t7':Sl}(hA:exs T.pins (run T W (n+1)) W (aW.take 2) ρ0=some (.nx,fN H1 H2 L' N' (AN o ws) t5' t6' t7'))(hl:150<L'.length) :
  exs T.pins (run T W (n+1)) W aW ρ0=none/\dO T.pins (run T W (n+1)) W aW ρ0=some (⟨"TooMany"⟩,fN H1 H2 L' N' (AN o ws) t5' t6' t7'):=by
 rw[nQ hA,EB hA];have c:decide (150<(((L'.map gk).length:Nat):Int))=true:=Zn (by rw[List.length_map];omega);unfold aW fN AN;clear hA hl
 generalize L'.map gk=ks at *
 generalize L'.map lv=vs at *
 generalize N'.map aX=Q at *
 generalize ws.map aX=R at *
 cases o<;>simp only[if_true,if_false,Bool.false_eq_true]<;>exact⟨by walk_at "!%",by walk_at "!%"⟩
theorem KD{L ws:List (List Int)}{o:Bool}{S4 t5 t6 t7:Sl}{P:aE}{C:Calls}(h:0<ws.length):ev P C true (.cmp .Gt (.bif .len [.var 3]) (.con (.int 0))) (sF H1 H2 L ws o S4 t5 t6 t7)=some (.ok (.sh (.bl true)),sF H1 H2 L ws o S4 t5 t6 t7):=by
 have c:decide (0<(((ws.map aX).length:Nat):Int))=true:=Zn (by rw[List.length_map];omega);unfold sF AN
 generalize L.map gk=ks at *
 generalize L.map lv=vs at *
 generalize ws.map aX=R at *
 clear h;cases o<;>simp only[if_true,if_false,Bool.false_eq_true]<;>walk_at "!%"
theorem IY(h:PB (W+3) n H1 H2 a b)(ha:a<=3)(hb:b<=3):run T (W+3) (n+2) "lines_of_pairs" [.sh H1,.sh H2]=some (.ex ⟨"TooMany"⟩,[.sh H1,.sh H2]):=by
 have hl:=aBg ha hb;have u1:(gY a b 1).length=1+(dJ a b 1).length:=by show([[]]++dJ a b 1).length=_;rw[Za];rfl
 have u2:(gY a b 2).length=(gY a b 1).length+(dJ a b 2).length:=Za;have u3:(gY a b 3).length=(gY a b 2).length+(dJ a b 3).length:=Za;obtain⟨u5,u6,u7,e0,k5,k6,k7⟩:=IF h ha hb (k:=0) (by decide) true (S4:=.un) (t5:=.un) (t6:=.un) (t7:=.un) rfl rfl rfl rfl;have b0:=TM e0 (by show(gY a b 1).length<=150;omega);obtain⟨v5,v6,v7,e1,j5,j6,j7⟩:=IF h ha hb (k:=1) (by decide) false (S4:=.sh (.lst ((dJ a b 1).map aX))) (t5:=u5) (t6:=u6) (t7:=u7) rfl k5 k6 k7;have b1:=TM e1 (by show(gY a b 2).length<=150;omega);obtain⟨w5,w6,w7,e2,i5,i6,i7⟩:=IF h ha hb (k:=2) (by decide) false (S4:=.sh (.lst ((dJ a b 2).map aX))) (t5:=v5) (t6:=v6) (t7:=v7) rfl j5 j6 j7;obtain⟨b2,bx⟩:=aEm e2 (by show 150<(gY a b 3).length;omega);obtain⟨g1,g2⟩:=lw3 (n:=W) (bx:=dO T.pins (run T (W+3) (n+1)) (W+3) aW) (KD (P:=T.pins) (C:=run T (W+3) (n+1)) (by show 0<1;decide)) b0 (KD hl.1.1) b1 (KD hl.2.1.1) b2 bx;rw[xO lZ rfl rfl];unfold nL fE;have hk:eP (.tup [.tup [.int 0,.tup []],.tup [.int 0,.tup []]])=some (gk []):=DP (w:=[]);replace g1:iM (ev T.pins (run T (W+3) (n+1)) true (.cmp .Gt (.bif .len [.var 3]) (.con (.int 0)))) (exs T.pins (run T (W+3) (n+1)) (W+3) aW) (W+3) [.sh H1,.sh H2,.ow (.dcs [gk []] [.lst []]) false false,.ow (.lst [.tup [.tup [.int 0,.tup []],.tup [.int 0,.tup []]]]) false false,.un,.un,.un,.un]=none:=g1;replace g2:iB (ev T.pins (run T (W+3) (n+1)) true (.cmp .Gt (.bif .len [.var 3]) (.con (.int 0)))) (exs T.pins (run T (W+3) (n+1)) (W+3) aW) (dO T.pins (run T (W+3) (n+1)) (W+3) aW) (W+3) [.sh H1,.sh H2,.ow (.dcs [gk []] [.lst []]) false false,.ow (.lst [.tup [.tup [.int 0,.tup []],.tup [.int 0,.tup []]]]) false false,.un,.un,.un,.un]=some (⟨"TooMany"⟩,_):=g2;unfold fN at g2;clear e0 b0 e1 b1 e2 b2 bx hl h ha hb k5 k6 k7 j5 j6 j7 i5 i6 i7
 walk_at "!"
end
theorem EE{W n:Nat}{i:Int}:run T W (n+1) "is_whole" [.sh (.int i)]=some (.ok (.sh (.bl true)),[.sh (.int i)]):=by
 rw[cU xW rfl rfl];unfold jS
 walk_at "!"
theorem MS{W n:Nat}{i a b:Int}(h1:a<=i)(h2:i<=b):run T W (n+2) "is_within" [.sh (.int i),.sh (.int a),.sh (.int b)]=some (.ok (.sh (.bl true)),[.sh (.int i),.sh (.int a),.sh (.int b)]):=by
 rw[cU uM rfl rfl];unfold iS;have c1:decide (a<=i)=true:=Zn h1;have c2:decide (i<=b)=true:=Zn h2;clear h1 h2
 walk_at "!EE"
theorem R8{W k:Nat}{ba oc:Int}{fs:List (Int×Int×Bool)}{a:Int}{r r' m m' mm:Nat}(h:HH ba oc fs a r m mm)(h':HH ba oc fs a r' m' mm):PB W (k+6) (mE ba oc fs a r m) (mE ba oc fs a r' m') m m' where
 nb:=λw h7 hl=>LZ (n:=k+5) (NK (n:=k) h h7 hl) (NK (n:=k) h' h7 hl)
 pb:=λw q hl=>aEz (n:=k+5) (FW (n:=k+2) h hl) (FW (n:=k+2) h' hl)
section
variable{W n:Nat}{H1 H2:D}{x y:Int}
theorem iD(i1:gK (some H1) (.int 0)=some (.sh (.int x)))(i2:gK (some H2) (.int 0)=some (.sh (.int x)))(h:run T W (n+1) "lines_of_pairs" [.sh H1,.sh H2]=some (.ex ⟨"TooMany"⟩,[.sh H1,.sh H2])) :
  run T W (n+2) "compared" [.sh H1,.sh H2]=some (.ex ⟨"TooMany"⟩,[.sh H1,.sh H2]):=by
 rw[xO oO rfl rfl];unfold nL iA;have c:cQ .NotEq (.int x) (.int x)=some false:=HR rfl
 walk_at "!"
 rfl
theorem x6(i1:gK (some H1) (.int 0)=some (.sh (.int x)))(i2:gK (some H2) (.int 0)=some (.sh (.int y)))(h:x≠y) :
  run T W (n+1) "compared" [.sh H1,.sh H2]=some (.ex ⟨"Unlike"⟩,[.sh H1,.sh H2]):=by
 rw[xO oO rfl rfl];unfold nL iA
 have c:cQ .NotEq (.int x) (.int y)=some true:=by(rw[aAa rfl rfl];show some (!(x==y))=_;rw[beq_eq_false_iff_ne.mpr h];rfl)
 clear h
 walk_at "!"
theorem E8{k:Int}(h1:run T W (n+1) "less" [.sh H2,.sh (.int k)]=some (.ok (.sh H1),[.sh H2,.sh (.int k)]))(h2:run T W (n+1) "compared" [.sh H1,.sh H2]=some (.ex ⟨"TooMany"⟩,[.sh H1,.sh H2])) :
  run T W (n+2) "needed" [.sh H2,.sh (.int k)]=some (.ex ⟨"TooMany"⟩,[.sh H2,.sh (.int k)]):=by
 rw[xO DH rfl rfl];unfold nL mS
 walk_at "!"
 rfl
theorem BX{ρ:Env}:o4 dZ 4 (some (⟨"TooMany"⟩,ρ))=store 4 (.sh (.exn "TooMany")) ρ:=RQ oC
theorem EC{ρ:Env}:o4 dZ 4 (some (⟨"Unlike"⟩,ρ))=store 4 (.sh (.exn "Unlike")) ρ:=RQ pP
theorem BS(h:run T W (n+1) "compared" [.sh H1,.sh H2]=some (.ex ⟨"TooMany"⟩,[.sh H1,.sh H2])) :
  run T W (n+2) "L_heard" [.sh H1,.sh H2,.sh .non]=some (.ok (.ow (.lst [.bl false,.bl true,.bl true,.bl false])),[.sh H1,.sh H2,.sh .non]):=by
 rw[cU mM rfl rfl];unfold gN
 walk_at "!BX EC lO lY lS mU mY mW"
theorem aCg(h:run T W (n+1) "compared" [.sh H1,.sh H2]=some (.ex ⟨"Unlike"⟩,[.sh H1,.sh H2])) :
  run T W (n+2) "L_heard" [.sh H1,.sh H2,.sh .non]=some (.ok (.ow (.lst [.bl true,.bl false,.bl true,.bl false])),[.sh H1,.sh H2,.sh .non]):=by
 rw[cU mM rfl rfl];unfold gN
 walk_at "!BX EC lO lY lS mU mY mW"
theorem Y8{k:Int}(h:run T W (n+1) "needed" [.sh H1,.sh (.int k)]=some (.ex ⟨"TooMany"⟩,[.sh H1,.sh (.int k)])) :
  run T W (n+2) "L_heard" [.sh H1,.sh .non,.sh (.int k)]=some (.ok (.ow (.lst [.bl false,.bl true,.bl true,.bl false])),[.sh H1,.sh .non,.sh (.int k)]):=by
 rw[cU mM rfl rfl];unfold gN;have c:cQ .Is (.int k) .non=some false:=rfl
 walk_at "!BX EC lO lY lS mU mY mW"
end
theorem S9{ds:List D}{c:Nat}:rN (some (.tup ds)) none (some (.int (c:Int)))=some (.sh (.tup (ds.take c))):=by
 show some (RV.sh (.tup (iP ds none (some (c:Int)))))=_;unfold iP;rw[HT.uC,HT.vP,List.drop_zero,Nat.sub_zero];by_cases h:c<=ds.length
 ·rw[Nat.min_eq_left h]
 ·rw[Nat.min_eq_right (by omega),zf (Zq _),zf (by omega)]
theorem JG{ds:List D}{c:Nat}:rN (some (.tup ds)) (some (.int (c:Int))) none=some (.sh (.tup (ds.drop c))):=by
 show some (RV.sh (.tup (iP ds (some (c:Int)) none)))=_;unfold iP;rw[HT.uC,HT.vP];by_cases h:c<=ds.length
 ·rw[Nat.min_eq_left h,zf (by rw[List.length_drop];omega)]
 ·rw[Nat.min_eq_right (by omega),Nat.sub_self,List.take_zero,List.drop_of_length_le (by omega)]
theorem M0{W n:Nat}{no ba oc:Int}{fs:List (Int×Int×Bool)}{rs:List D}{d:D}(hl:rs.length<=100) :
  run T W (n+3) "less" [.sh (aO no ba oc fs (rs++[d])),.sh (.int (rs.length:Int))]=some (.ok (.sh (aO no ba oc fs rs)),[.sh (aO no ba oc fs (rs++[d])),.sh (.int (rs.length:Int))]):=by
 rw[xO KJ rfl rfl];unfold t9;have i0:gK (some (aO no ba oc fs (rs++[d]))) (.int 0)=some (.sh (.int no)):=rfl;have i1:gK (some (aO no ba oc fs (rs++[d]))) (.int 1)=some (.sh (.int ba)):=rfl;have i2:gK (some (aO no ba oc fs (rs++[d]))) (.int 2)=some (.sh (.int oc)):=rfl;have i3:gK (some (aO no ba oc fs (rs++[d]))) (.int 3)=some (.sh (.tup (fs.map fD))):=rfl;have i4:gK (some (aO no ba oc fs (rs++[d]))) (.int 4)=some (.sh (.tup (rs++[d]))):=rfl;have hw:=MS (W:=W) (n:=n) (i:=(rs.length:Int)) (a:=0) (b:=((rs++[d]).length:Int)-1) (by omega) (by rw[Za,List.length_singleton];omega);have s1:=S9 (ds:=rs++[d]) (c:=rs.length);have s2:=JG (ds:=rs++[d]) (c:=rs.length+1);rw[Int.natCast_add,show((1:Nat):Int)=1 from rfl,List.drop_of_length_le (by simp)] at s2;rw[List.take_left] at s1
 have hc:cI .Add (.tup rs) (.tup [])=some (.sh (.tup rs)):=by
  cases rs with
  |nil=>rfl
  |cons x xs =>
   rw[nJ (dX (by simp at hl ⊢;omega))];simp
 generalize hq:rs++[d]=qs at *
 generalize (rs.length:Int)=kk at *
 clear hq hl
 walk_at "!"
 rfl
theorem FN{fs:List (Int×Int×Bool)}{a:Int}{r m:Nat}(h:m≠0):iV fs a r m=iV fs a r 0++[.tup [.str "again",.int (m:Int)]]:=by
 unfold iV sU;rw[Zp h,Zo rfl,List.append_nil,zd];rfl
theorem T9{fs:List (Int×Int×Bool)}{a:Int}{r m:Nat}:(iV fs a r m).length<=4:=by unfold iV;rw[List.length_map];exact FU
theorem aEX{fs:List (Int×Int×Bool)}{a:Int}{r:Nat}:[D.tup [.str "leap",.int a],.tup [.str "range",.int (-60),.int 60],.tup [.str "again",.int 3]].take r=iV fs a r 0:=by
 unfold iV sU;rw[Zo rfl,List.append_nil,List.map_take];rfl
theorem aGq{rs:List D}{d:D}(h:rs.length<=100):cI .Add (.tup rs) (.tup [d])=some (.sh (.tup (rs++[d]))):=by
 cases rs with
 |nil=>rfl
 |cons x xs =>
  rw[nJ (dX (by simp at h ⊢;omega))]
theorem aEG{W:Nat}{ns:List Int}{K s0 s1 s2 s3 s4 s5 s6 s7 s8 s9 D1 D2 D3 D4 D5 D6 D8 D9:Int}{r:Nat}{V R0 RM:List D}{G Mo:D}
  (hp:run T W 29 "L_pen" [.sh (.lst (ns.map .int)),.sh (.int 0)]=some (.ok (.ow (.lst [.int K,.int s0])),[.sh (.lst (ns.map .int)),.sh (.int 0)]))
  (d1:run T W 29 "L_draw" [.ow (.lst [.int K,.int s0]) true false,.sh (.int 5)]=some (.ok (.sh (.int D1)),[.ow (.lst [.int K,.int s1]) true false,.sh (.int 5)]))
  (d2:run T W 29 "L_draw" [.ow (.lst [.int K,.int s1]) true false,.sh (.int 25)]=some (.ok (.sh (.int D2)),[.ow (.lst [.int K,.int s2]) true false,.sh (.int 25)]))
  (d3:run T W 29 "L_draw" [.ow (.lst [.int K,.int s2]) true false,.sh (.int 2)]=some (.ok (.sh (.int D3)),[.ow (.lst [.int K,.int s3]) true false,.sh (.int 2)]))
  (d4:run T W 29 "L_draw" [.ow (.lst [.int K,.int s3]) true false,.sh (.int 3)]=some (.ok (.sh (.int D4)),[.ow (.lst [.int K,.int s4]) true false,.sh (.int 3)]))
  (d5:run T W 29 "L_draw" [.ow (.lst [.int K,.int s4]) true false,.sh (.int 4)]=some (.ok (.sh (.int D5)),[.ow (.lst [.int K,.int s5]) true false,.sh (.int 4)]))
  (d6:run T W 29 "L_draw" [.ow (.lst [.int K,.int s5]) true false,.sh (.int 7)]=some (.ok (.sh (.int D6)),[.ow (.lst [.int K,.int s6]) true false,.sh (.int 7)]))
  (d7:run T W 29 "L_draw" [.ow (.lst [.int K,.int s6]) true false,.sh (.int 4)]=some (.ok (.sh (.int (r:Int))),[.ow (.lst [.int K,.int s7]) true false,.sh (.int 4)]))
  (d8:run T W 29 "L_draw" [.ow (.lst [.int K,.int s7]) true false,.sh (.int 12)]=some (.ok (.sh (.int D8)),[.ow (.lst [.int K,.int s8]) true false,.sh (.int 12)]))
  (d9:run T W 29 "L_draw" [.ow (.lst [.int K,.int s8]) true false,.sh (.int 3)]=some (.ok (.sh (.int D9)),[.ow (.lst [.int K,.int s9]) true false,.sh (.int 3)]))
  (hv:cI .Mult (.tup [.tup [.int D1,.int (D2-12),.bl (decide (D3=0))]]) (.int (1+D4))=some (.sh (.tup V)))
  (hr:rN (some (.tup [.tup [.str "leap",.int (6+D6)],.tup [.str "range",.int (-60),.int 60],.tup [.str "again",.int 3]])) none (some (.int (r:Int)))=some (.sh (.tup R0)))
  (hg:D.tup [.int 7,.int (1+D5),.int (1+D8),.tup V,.tup R0]=G)
  (hs:rN (some G) none (some (.int 4))=some (.sh (.tup [.int 7,.int (1+D5),.int (1+D8),.tup V])))
  (ha:cI .Add (.tup R0) (.tup [.tup [.str "again",.int (1+D9)]])=some (.sh (.tup RM)))
  (hm:cI .Add (.tup [.int 7,.int (1+D5),.int (1+D8),.tup V]) (.tup [.tup RM])=some (.sh Mo)) :
  exs T.pins (run T W 29) W (f6.body.take 7) [.sh (.lst (ns.map .int)),.un,.un,.un,.un,.un,.un,.un,.un,.un,.un,.un,.un,.un]=some (.nx,[.sh (.lst (ns.map .int)),.ow (.lst [.int K,.int s9]) false false,.sh (.int D1),.sh (.tup V),.sh (.int (1+D5)),.sh (.tup R0),.sh G,.sh Mo,.un,.un,.un,.un,.un,.un]):=by
 unfold f6
 walk_at "!"
theorem aEo{W:Nat}{S0 S1 S2 S3 S4:Sl}{R0:List D}{G Mo:D}
  (h1:run T W 29 "L_heard" [.sh G,.sh G,.sh .non]=some (.ok (.ow (.lst [.bl false,.bl true,.bl true,.bl false])),[.sh G,.sh G,.sh .non]))
  (h2:run T W 29 "L_heard" [.sh G,.sh Mo,.sh .non]=some (.ok (.ow (.lst [.bl false,.bl true,.bl true,.bl false])),[.sh G,.sh Mo,.sh .non]))
  (h3:run T W 29 "L_heard" [.sh Mo,.sh G,.sh .non]=some (.ok (.ow (.lst [.bl false,.bl true,.bl true,.bl false])),[.sh Mo,.sh G,.sh .non]))
  (h4:run T W 29 "L_heard" [.sh Mo,.sh .non,.sh (.int (R0.length:Int))]=some (.ok (.ow (.lst [.bl false,.bl true,.bl true,.bl false])),[.sh Mo,.sh .non,.sh (.int (R0.length:Int))])) :
  exs T.pins (run T W 29) W ((f6.body.drop 7).take 4) [S0,S1,S2,S3,S4,.sh (.tup R0),.sh G,.sh Mo,.un,.un,.un,.un,.un,.un]=some (.nx,[S0,S1,S2,S3,S4,.sh (.tup R0),.sh G,.sh Mo,.ow (.lst [.bl false,.bl true,.bl true,.bl false]) false false,.ow (.lst [.bl true,.bl false,.bl true,.bl false]) false false,.un,.un,.un,.un]):=by
 have e:=HR (d:=.lst [.bl false,.bl true,.bl true,.bl false]) rfl;unfold f6
 walk_at "!"
theorem SQ{W:Nat}{S0 S1 S2 S3 S4 S5 S6 S7 S8 S10 S11:Sl}{A B:D}
  (h1:run T W 29 "L_heard" [.sh A,.sh B,.sh .non]=some (.ok (.ow (.lst [.bl true,.bl false,.bl true,.bl false])),[.sh A,.sh B,.sh .non]))
  (h2:run T W 29 "L_heard" [.sh B,.sh A,.sh .non]=some (.ok (.ow (.lst [.bl true,.bl false,.bl true,.bl false])),[.sh B,.sh A,.sh .non])) :
  exs T.pins (run T W 29) W pA [S0,S1,S2,S3,S4,S5,S6,S7,S8,.ow (.lst [.bl true,.bl false,.bl true,.bl false]) false false,S10,S11,.sh A,.sh B]=some (.nx,[S0,S1,S2,S3,S4,S5,S6,S7,S8,.ow (.lst [.bl true,.bl false,.bl true,.bl false]) false false,S10,S11,.sh A,.sh B]):=by
 have e:=HR (d:=.lst [.bl true,.bl false,.bl true,.bl false]) rfl;unfold pA
 walk_at "!"
theorem aEg{W:Nat}{ns:List Int}{K s9 s10 s11 K1 z0 z1 D10 D11 no nn:Int}{S2 S3 S4 S5 S8:Sl}{G Mo Hd U1 U2:D}{Q1 Q2:List D}
  (hp:run T W 29 "L_pen" [.sh (.lst (ns.map .int)),.sh (.int 1)]=some (.ok (.ow (.lst [.int K1,.int z0])),[.sh (.lst (ns.map .int)),.sh (.int 1)]))
  (hh:run T W 29 "L_house" [.ow (.lst [.int K1,.int z0]) true false]=some (.ok (.sh Hd),[.ow (.lst [.int K1,.int z1]) true false]))
  (d10:run T W 29 "L_draw" [.ow (.lst [.int K,.int s9]) true false,.sh (.int 6)]=some (.ok (.sh (.int D10)),[.ow (.lst [.int K,.int s10]) true false,.sh (.int 6)]))
  (d11:run T W 29 "L_draw" [.ow (.lst [.int K,.int s10]) true false,.sh (.int 6)]=some (.ok (.sh (.int D11)),[.ow (.lst [.int K,.int s11]) true false,.sh (.int 6)]))
  (i0:gK (some Hd) (.int 0)=some (.sh (.int no))) (hn:1+(no+D10) % 7=nn)
  (q1:rN (some Mo) (some (.int 1)) none=some (.sh (.tup Q1))) (u1:cI .Add (.tup [.int (1+D11)]) (.tup Q1)=some (.sh U1))
  (q2:rN (some Hd) (some (.int 1)) none=some (.sh (.tup Q2))) (u2:cI .Add (.tup [.int nn]) (.tup Q2)=some (.sh U2))
  (h1:run T W 29 "L_heard" [.sh G,.sh U1,.sh .non]=some (.ok (.ow (.lst [.bl true,.bl false,.bl true,.bl false])),[.sh G,.sh U1,.sh .non]))
  (h2:run T W 29 "L_heard" [.sh U1,.sh G,.sh .non]=some (.ok (.ow (.lst [.bl true,.bl false,.bl true,.bl false])),[.sh U1,.sh G,.sh .non]))
  (h3:run T W 29 "L_heard" [.sh Hd,.sh U2,.sh .non]=some (.ok (.ow (.lst [.bl true,.bl false,.bl true,.bl false])),[.sh Hd,.sh U2,.sh .non]))
  (h4:run T W 29 "L_heard" [.sh U2,.sh Hd,.sh .non]=some (.ok (.ow (.lst [.bl true,.bl false,.bl true,.bl false])),[.sh U2,.sh Hd,.sh .non])) :
  ∃ρ',exs T.pins (run T W 29) W ((f6.body.drop 7).drop 4) [.sh (.lst (ns.map .int)),.ow (.lst [.int K,.int s9]) false false,S2,S3,S4,S5,.sh G,.sh Mo,S8,.ow (.lst [.bl true,.bl false,.bl true,.bl false]) false false,.un,.un,.un,.un]=some (.rt (.sh (.bl true)),ρ'):=by
 have hi:∀ρ,aN .of [.val (.ow (.lst [.tup [G,U1],.tup [Hd,U2]]))] ρ=some ([.tup [G,U1],.tup [Hd,U2]],none):=λ_=>rfl
 have hb:cI .Mod (.int (no+D10)) (.int 7)=some (.sh (.int ((no+D10) % 7))):=R5 (by decide)
 obtain⟨ρ1,e1,t12,t13,rfl,k12,k13⟩:=MX (bind:=bN false [12,13]) (body:=exs T.pins (run T W 29) W pA)
  (λρ=>∃t12 t13,ρ=[.sh (.lst (ns.map .int)),.ow (.lst [.int K,.int s11]) false false,S2,S3,S4,S5,.sh G,.sh Mo,S8,.ow (.lst [.bl true,.bl false,.bl true,.bl false]) false false,.sh Hd,.sh (.int nn),t12,t13]/\cV t12=true/\cV t13=true)
  (ds:=[.tup [G,U1],.tup [Hd,U2]]) (λd hd ρ hρ=>by
   obtain⟨t12,t13,rfl,k12,k13⟩:=hρ;simp only[List.mem_cons,List.not_mem_nil,or_false] at hd;rcases hd with rfl | rfl
   ·exact⟨_,by simp only[lD,cD k12,cD k13]<;>rfl,_,SQ h1 h2,_,_,rfl,rfl,rfl⟩
   ·exact⟨_,by simp only[lD,cD k12,cD k13]<;>rfl,_,SQ h3 h4,_,_,rfl,rfl,rfl⟩)
  (ρ:=[.sh (.lst (ns.map .int)),.ow (.lst [.int K,.int s11]) false false,S2,S3,S4,S5,.sh G,.sh Mo,S8,.ow (.lst [.bl true,.bl false,.bl true,.bl false]) false false,.sh Hd,.sh (.int nn),.un,.un]) ⟨_,_,rfl,rfl,rfl⟩
 unfold f6;clear h1 h2 h3 h4 k12 k13
 walk_at "!"
 exact⟨_,rfl⟩
theorem RR{W n:Nat}{A B:D}{x y:Int}(i1:gK (some A) (.int 0)=some (.sh (.int x)))(i2:gK (some B) (.int 0)=some (.sh (.int y)))(h:x≠y) :
  run T W (n+2) "L_heard" [.sh A,.sh B,.sh .non]=some (.ok (.ow (.lst [.bl true,.bl false,.bl true,.bl false])),[.sh A,.sh B,.sh .non]):=aCg (x6 i1 i2 h)
theorem law_spec(W:Nat)(ns:List Int)(hn:ns.length<=63):∃as',run T (W+3) 30 "law" [.sh (.lst (ns.map .int))]=some (.ok (.sh (.bl true)),as'):=by
 have hp0:=CW (W:=W+3) (n:=28) (ns:=ns) (k:=0) hn (by omega);have hp1:=CW (W:=W+3) (n:=28) (ns:=ns) (k:=1) hn (by omega);replace hp0:run T (W+3) 29 "L_pen" [.sh (.lst (ns.map .int)),.sh (.int 0)]=some (.ok (.ow (.lst [.int (gF ns 0).1,.int (gF ns 0).2])),[.sh (.lst (ns.map .int)),.sh (.int 0)]):=hp0;replace hp1:run T (W+3) 29 "L_pen" [.sh (.lst (ns.map .int)),.sh (.int 1)]=some (.ok (.ow (.lst [.int (gF ns 1).1,.int (gF ns 1).2])),[.sh (.lst (ns.map .int)),.sh (.int 1)]):=hp1
 generalize (gF ns 0).1=K at *
 generalize (gF ns 0).2=s0 at *
 generalize (gF ns 1).1=K1 at *
 generalize (gF ns 1).2=z0 at *
 have dr:∀s m:Int,0<m->m<100->∃v s',run T (W+3) 29 "L_draw" [.ow (.lst [.int K,.int s]) true false,.sh (.int m)]=some (.ok (.sh (.int v)),[.ow (.lst [.int K,.int s']) true false,.sh (.int m)])/\0<=v/\v<m:=λs m h1 h2=>⟨_,_,cM (n:=28) h1 (by omega),bG h1,bF h1⟩
 obtain⟨D1,s1,d1,a1,b1⟩:=dr s0 5 (by decide) (by decide);obtain⟨D2,s2,d2,a2,b2⟩:=dr s1 25 (by decide) (by decide);obtain⟨D3,s3,d3,a3,b3⟩:=dr s2 2 (by decide) (by decide);obtain⟨D4,s4,d4,a4,b4⟩:=dr s3 3 (by decide) (by decide);obtain⟨D5,s5,d5,a5,b5⟩:=dr s4 4 (by decide) (by decide);obtain⟨D6,s6,d6,a6,b6⟩:=dr s5 7 (by decide) (by decide);obtain⟨D7,s7,d7,a7,b7⟩:=dr s6 4 (by decide) (by decide);obtain⟨D8,s8,d8,a8,b8⟩:=dr s7 12 (by decide) (by decide);obtain⟨D9,s9,d9,a9,b9⟩:=dr s8 3 (by decide) (by decide);obtain⟨D10,s10,d10,a10,b10⟩:=dr s9 6 (by decide) (by decide);obtain⟨D11,s11,d11,a11,b11⟩:=dr s10 6 (by decide) (by decide);clear dr;obtain⟨r,rfl⟩:∃r:Nat,D7=(r:Int):=⟨D7.toNat,by omega⟩
 obtain⟨c,hc⟩:∃c:Nat,1+D4=(c:Int):=⟨(1+D4).toNat,by omega⟩
 obtain⟨m,hm⟩:∃m:Nat,1+D9=(m:Int):=⟨(1+D9).toNat,by omega⟩
 obtain⟨fs,hfs⟩:∃fs:List (Int×Int×Bool),fs=List.replicate c (D1,D2-12,decide (D3=0)):=⟨_,rfl⟩
 have hfl:fs.length=c:=by rw[hfs,List.length_replicate]
 have ok:HouseOk 7 (1+D5) (1+D8) fs:=⟨by decide,by decide,by omega,by omega,by omega,by omega,by omega,by omega,λf hf=>by
  rw[hfs] at hf;rw[List.eq_of_mem_replicate hf]
  exact⟨a1,by show D1<=4;omega,by show -12<=D2-12;omega,by show D2-12<=12;omega⟩⟩
 obtain⟨mm,me,m3,_⟩:=Y5 ok;have hG:HH (1+D5) (1+D8) fs (6+D6) r 0 mm:=⟨ok,by omega,by decide,me,m3⟩
 have hM:HH (1+D5) (1+D8) fs (6+D6) r m mm:=⟨ok,by omega,by omega,me,m3⟩
 have m0:m≠0:=by omega
 have m3':m<=3:=by omega
 have z3:0<=3:=by decide
 have g1:=BS (n:=27) (iD (x:=7) (n:=26) rfl rfl (IY (W:=W) (n:=25) (R8 (k:=19) hG hG) z3 z3));have g2:=BS (n:=27) (iD (x:=7) (n:=26) rfl rfl (IY (W:=W) (n:=25) (R8 (k:=19) hG hM) z3 m3'));have g3:=BS (n:=27) (iD (x:=7) (n:=26) rfl rfl (IY (W:=W) (n:=25) (R8 (k:=19) hM hG) m3' z3));have rl:=T9 (fs:=fs) (a:=6+D6) (r:=r) (m:=0)
 have hls:run T (W+3) 27 "less" [.sh (mE (1+D5) (1+D8) fs (6+D6) r m),.sh (.int ((iV fs (6+D6) r 0).length:Int))]=some (.ok (.sh (mE (1+D5) (1+D8) fs (6+D6) r 0)),[.sh (mE (1+D5) (1+D8) fs (6+D6) r m),.sh (.int ((iV fs (6+D6) r 0).length:Int))]):=by(unfold mE;rw[FN m0];exact M0 (n:=24) (by omega))
 have g4:=Y8 (n:=27) (E8 (n:=26) hls (iD (x:=7) (n:=25) rfl rfl (IY (W:=W) (n:=24) (R8 (k:=18) hG hM) z3 m3')))
 have hv:cI .Mult (.tup [.tup [.int D1,.int (D2-12),.bl (decide (D3=0))]]) (.int (1+D4))=some (.sh (.tup (fs.map fD))):=by(show @ite _ _ (cl _) _ _=_;rw[Zo ⟨by simp,by omega,by omega,dX (by simp;omega)⟩,hc,Int.toNat_natCast,C8,hfs,List.map_replicate];rfl)
 have hr:rN (some (.tup [.tup [.str "leap",.int (6+D6)],.tup [.str "range",.int (-60),.int 60],.tup [.str "again",.int 3]])) none (some (.int (r:Int)))=some (.sh (.tup (iV fs (6+D6) r 0))):=by rw[S9,aEX]
 have ha:cI .Add (.tup (iV fs (6+D6) r 0)) (.tup [.tup [.str "again",.int (1+D9)]])=some (.sh (.tup (iV fs (6+D6) r m))):=by rw[aGq (by omega),hm,<- FN m0]
 have hmo:cI .Add (.tup [.int 7,.int (1+D5),.int (1+D8),.tup (fs.map fD)]) (.tup [.tup (iV fs (6+D6) r m)])=some (.sh (mE (1+D5) (1+D8) fs (6+D6) r m)):=nJ (dX (by simp));obtain⟨z1,no,ba,oc,fs',rs',hh,ho,_⟩:=JW (W:=W+3) (n:=26) (k:=K1) (s:=z0);have n1:=ho.n1;have n2:=ho.n2;have eA:=aEG hp0 d1 d2 d3 d4 d5 d6 d7 d8 d9 hv hr (show _=mE (1+D5) (1+D8) fs (6+D6) r 0 from rfl) rfl ha hmo;have eB:=aEo (W:=W+3) (S0:=.sh (.lst (ns.map .int))) (S1:=.ow (.lst [.int K,.int s9]) false false) (S2:=.sh (.int D1)) (S3:=.sh (.tup (fs.map fD))) (S4:=.sh (.int (1+D5))) g1 g2 g3 g4
 obtain⟨ρ',eC⟩:=aEg (W:=W+3) (S2:=.sh (.int D1)) (S3:=.sh (.tup (fs.map fD))) (S4:=.sh (.int (1+D5))) (S5:=.sh (.tup (iV fs (6+D6) r 0))) (S8:=.ow (.lst [.bl false,.bl true,.bl true,.bl false]) false false) (G:=mE (1+D5) (1+D8) fs (6+D6) r 0) (Mo:=mE (1+D5) (1+D8) fs (6+D6) r m)
  (U1:=aO (1+D11) (1+D5) (1+D8) fs (iV fs (6+D6) r m)) (U2:=aO (1+(no+D10) % 7) ba oc fs' rs') (no:=no) hp1 hh d10 d11 rfl rfl
  (JG (c:=1)) (nJ (dX (by simp))) (JG (c:=1)) (nJ (dX (by simp))) (RR (x:=7) (y:=1+D11) rfl rfl (by omega)) (RR (x:=1+D11) (y:=7) rfl rfl (by omega)) (RR (x:=no) (y:=1+(no+D10) % 7) rfl rfl (by omega)) (RR (x:=1+(no+D10) % 7) (y:=no) rfl rfl (by omega))
 refine⟨back [.sh (.lst (ns.map .int))] ρ', ?_⟩;rw[cU HV rfl rfl];have e:exs T.pins (run T (W+3) 29) (W+3) f6.body ([.sh (.lst (ns.map .int))]++List.replicate f6.nl .un)=some (.rt (.sh (.bl true)),ρ'):=(nQ eA).trans ((nQ eB).trans eC);rw[e];rfl
end Mx
namespace PySem.W.Fast
def tw10002853262546073008:=True
def tw10011599588948277457:=True
def tw10016301316926568115:=True
def tw100419293490702197:=True
def tw10094219500992933334:=True
def tw10098937155961408908:=True
def tw10113498918323223519:=True
def tw10135245337124705590:=True
def tw10168960375770283748:=True
def tw10213766163801307685:=True
def tw10323601280042845702:=True
def tw10339486172480333820:=True
def tw10615895201346625702:=True
def tw10617370332113111305:=True
def tw10685179367264435901:=True
def tw10716934778228585816:=True
def tw1075403386848941837:=True
def tw10792582253848106528:=True
def tw10855761550110550317:=True
def tw10983139280073361837:=True
def tw10999586047541989118:=True
def tw11011448748679057602:=True
def tw11012157151561064682:=True
def tw11037683115110058023:=True
def tw11094710935557651106:=True
def tw11200471714857805663:=True
def tw11227807918262062045:=True
def tw11232017960607696525:=True
def tw11274030570656684671:=True
def tw11283873972594623064:=True
def tw11326717654851076608:=True
def tw11396289468896826353:=True
def tw11465493170272409100:=True
def tw11501680889068904432:=True
def tw11648882901076466766:=True
def tw11690109347823668700:=True
def tw11754476013054367599:=True
def tw11892628222001692680:=True
def tw1195967472878278042:=True
def tw12016860506157600765:=True
def tw12038613820432117524:=True
def tw12184209884984742648:=True
def tw12223634982893918121:=True
def tw12237171020950041984:=True
def tw12244828287435994476:=True
def tw12263817298246176839:=True
def tw12264721700889710875:=True
def tw12278031976433088111:=True
def tw12413290493492676480:=True
def tw12425469306349409700:=True
def tw12460549544232012993:=True
def tw12521907870690446561:=True
def tw12711179582711756127:=True
def tw12934244963125520804:=True
def tw1296201187175960533:=True
def tw12997591484491030621:=True
def tw1302925782705958643:=True
def tw13041908061231800446:=True
def tw13103252365119017194:=True
def tw13135847051399691902:=True
def tw131411040962347729:=True
def tw13141910950698286575:=True
def tw1318759832888594736:=True
def tw13207748449507582159:=True
def tw13235348640706520413:=True
def tw13279895762380156815:=True
def tw13346920199836834997:=True
def tw13399571194394677594:=True
def tw13424377708909131660:=True
def tw13443223133670654320:=True
def tw13491393571221988038:=True
def tw13510625640609632107:=True
def tw13588264267423357401:=True
def tw13590589592250980874:=True
def tw13593812114072917103:=True
def tw13692293684771261422:=True
def tw13724473124228079426:=True
def tw13766426669165163581:=True
def tw13773967404354472959:=True
def tw13787842207025064186:=True
def tw13832376050318738230:=True
def tw1383765515337200503:=True
def tw13854598741988951517:=True
def tw13889097197554836502:=True
def tw13927829871524972845:=True
def tw14145929380668273783:=True
def tw14160951813884921566:=True
def tw14297887876762038263:=True
def tw14387434598887181688:=True
def tw14389765819646736308:=True
def tw14390175550032699216:=True
def tw14398535347989436728:=True
def tw14469313470816019370:=True
def tw14473578134618135617:=True
def tw14530600556937329629:=True
def tw14582107775880912799:=True
def tw1459884175889783292:=True
def tw14605591754206870854:=True
def tw14774646664132192443:=True
def tw14779384289981436646:=True
def tw14787404451893361514:=True
def tw14788289736875769868:=True
def tw14797070570950030657:=True
def tw14816760117588015426:=True
def tw14860824436765760294:=True
def tw14920204464718501535:=True
def tw1501301487816085451:=True
def tw15040198232742612873:=True
def tw15080268556977985438:=True
def tw15104022444270116088:=True
def tw15108349417252322572:=True
def tw15112555546980899830:=True
def tw15122700350419747539:=True
def tw1518877741864801587:=True
def tw15288139114389952757:=True
def tw15317195785861608314:=True
def tw15404186665509870670:=True
def tw15411289975715306746:=True
def tw15440547391595386660:=True
def tw15561310917577845375:=True
def tw15573758023509305714:=True
def tw15645834755409453063:=True
def tw15648770445466637729:=True
def tw15682306815014601048:=True
def tw15692362610779531779:=True
def tw15710524080005296423:=True
def tw15821761765034449114:=True
def tw15861671694286694158:=True
def tw15863567957475315905:=True
def tw15865674627265990406:=True
def tw15869843502454041462:=True
def tw15975178909365091037:=True
def tw16007405529932254378:=True
def tw16025697981636854229:=True
def tw1602694837027589765:=True
def tw16054365927721059638:=True
def tw16100862344953234859:=True
def tw16195892777601985660:=True
def tw16206066557395149157:=True
def tw16274847087037408427:=True
def tw16298767009212778051:=True
def tw16302110983153206406:=True
def tw16308099764531246132:=True
def tw16320747188804983586:=True
def tw16330059718479271928:=True
def tw1643620103006377599:=True
def tw16508198010773197644:=True
def tw1651553686772524064:=True
def tw16546674861167389328:=True
def tw16655619959635098514:=True
def tw16694612553359645307:=True
def tw16719820726911167330:=True
def tw16729628003298904404:=True
def tw16733234622327889982:=True
def tw1683110345089001120:=True
def tw16952005115118314343:=True
def tw17098123740905976678:=True
def tw17147222989848937617:=True
def tw17148416445471682130:=True
def tw17187693491775533147:=True
def tw17204538813015317804:=True
def tw17285842198757613770:=True
def tw17435813591481181233:=True
def tw17437462676990501241:=True
def tw17508622799309479368:=True
def tw17513671270628926666:=True
def tw17515346638876329863:=True
def tw17538140429941125040:=True
def tw17594346427636044992:=True
def tw175997131422419640:=True
def tw17623114299657730448:=True
def tw17635379698823783862:=True
def tw17650677291632228599:=True
def tw17707947900305456500:=True
def tw17736157305214198758:=True
def tw17812048545282293211:=True
def tw17976618634753505549:=True
def tw18055266866614764903:=True
def tw18092546299391465741:=True
def tw18196871914022341467:=True
def tw18261752642003579443:=True
def tw18362951431948703616:=True
def tw18391043072975127206:=True
def tw18391195103901743760:=True
def tw18403633494128596416:=True
def tw18417851742495044845:=True
def tw1864428540836550187:=True
def tw1877059130739407152:=True
def tw1894534307779446910:=True
def tw1904023519924160403:=True
def tw1925676426947420711:=True
def tw1942290031953753252:=True
def tw1989870270579560863:=True
def tw2015156771168311529:=True
def tw2102505040735510099:=True
def tw220659861732448570:=True
def tw2245380735532182886:=True
def tw2282693239437509445:=True
def tw2376527818883342887:=True
def tw2415523736398868906:=True
def tw2496804232567274842:=True
def tw2519322032962715391:=True
def tw254273970696365270:=True
def tw2570278428656681392:=True
def tw2584977560637577216:=True
def tw2613900228504136073:=True
def tw2622759474218574046:=True
def tw2626550688956433420:=True
def tw2641383565248884817:=True
def tw2653955885755703677:=True
def tw2720170125194382094:=True
def tw2803202475196653147:=True
def tw2816278278177130858:=True
def tw3054339668188284822:=True
def tw3176637482489897561:=True
def tw3277874132443044686:=True
def tw3293998332865738902:=True
def tw3301751973628305051:=True
def tw3336238680551363999:=True
def tw3350723270002419387:=True
def tw3412565892426649996:=True
def tw3465626963946315355:=True
def tw3520942934460041873:=True
def tw358215733241535710:=True
def tw3625937256732143703:=True
def tw3678800118123527360:=True
def tw3828295281634990031:=True
def tw3896143873437735726:=True
def tw3979555924375460071:=True
def tw3992558571507492463:=True
def tw4019816306110603162:=True
def tw4042295923862557446:=True
def tw4083751563884440344:=True
def tw4102519810622282956:=True
def tw4188888879245795778:=True
def tw434966560788693963:=True
def tw4443793192406181689:=True
def tw4457404322027797618:=True
def tw4546834847713404795:=True
def tw4775338555439940562:=True
def tw4870707905346666977:=True
def tw4878460282938703768:=True
def tw4893896783073621444:=True
def tw4923115510621256660:=True
def tw4984193837433381244:=True
def tw5031989673503239575:=True
def tw5063632414431305673:=True
def tw5146565712155862496:=True
def tw5208856604001657172:=True
def tw5221832217854773997:=True
def tw5252871066366180063:=True
def tw5264631839761012450:=True
def tw5268372234959236178:=True
def tw5273376747353665306:=True
def tw5288067761636130146:=True
def tw5318728543130181015:=True
def tw5381318291805348787:=True
def tw5412271423262352879:=True
def tw5414428976176573343:=True
def tw5572850858102812297:=True
def tw5574761005743512360:=True
def tw5589087680752135395:=True
def tw562911214507524006:=True
def tw5634853836259217401:=True
def tw5680612763162641249:=True
def tw5736846369581119252:=True
def tw5738994771134618319:=True
def tw5812303631692297904:=True
def tw5842650926604442202:=True
def tw5850845379546721878:=True
def tw5900610215332089336:=True
def tw5906855125798642420:=True
def tw5969365797511475703:=True
def tw5987117676375009870:=True
def tw6026263931828388613:=True
def tw6059054242259929053:=True
def tw6103706571454020665:=True
def tw6109404015591750002:=True
def tw6209810356606533672:=True
def tw6243431531580449568:=True
def tw6435730598162724391:=True
def tw6479637430413006835:=True
def tw6481768916615381201:=True
def tw6511767108220977256:=True
def tw6558162550819476582:=True
def tw6573950532059185298:=True
def tw6579337136294840586:=True
def tw6590253619288725267:=True
def tw6597863071432021632:=True
def tw6668731811631343860:=True
def tw6700665674447825334:=True
def tw677086400400549176:=True
def tw6850611965680673361:=True
def tw6923556414731308455:=True
def tw6928673513259245372:=True
def tw6934876889634686504:=True
def tw6944189943320530681:=True
def tw6976733437886088922:=True
def tw7025157916978497367:=True
def tw7044180535392041590:=True
def tw7056409634410545436:=True
def tw7272621761131934319:=True
def tw7292878030691144936:=True
def tw7317644615442350563:=True
def tw7320789233914176897:=True
def tw7349046041231840619:=True
def tw7389707487751376976:=True
def tw7458924331162234496:=True
def tw7501808697750792690:=True
def tw7644554984578751136:=True
def tw7649933879573424797:=True
def tw7650540276006905167:=True
def tw7676116543325651320:=True
def tw7746171616818642759:=True
def tw7814253962473800752:=True
def tw782883361974481203:=True
def tw7869690806218248212:=True
def tw7874153890094904958:=True
def tw7877267076231505528:=True
def tw79147991115378443:=True
def tw7963092366941730887:=True
def tw7966264937223337492:=True
def tw7989272298206605800:=True
def tw805699825777217848:=True
def tw8067744680875093971:=True
def tw8079068339981353775:=True
def tw8083846491025449284:=True
def tw8104652929991480721:=True
def tw8115152870530235269:=True
def tw8119618729447650448:=True
def tw818045136675471908:=True
def tw818935274683257351:=True
def tw8205359962792330183:=True
def tw8207978876760107720:=True
def tw8300572204980334411:=True
def tw8452034214175598346:=True
def tw8467465619042641531:=True
def tw8470380450337608791:=True
def tw8493774946174935296:=True
def tw849515664051041804:=True
def tw8522102150083500396:=True
def tw8695898005369644597:=True
def tw8772888020090209666:=True
def tw8866728285937827430:=True
def tw8875451806749175358:=True
def tw9017964136754514517:=True
def tw901913278020488039:=True
def tw9019231828450110821:=True
def tw9047678626398490152:=True
def tw9071019697888551123:=True
def tw913295967018847892:=True
def tw9135251276409450467:=True
def tw9200689453168035890:=True
def tw9272963402501553171:=True
def tw9283737861704642851:=True
def tw9299258832015681881:=True
def tw9385154112479634797:=True
def tw9420112874554991848:=True
def tw9438326813781802096:=True
def tw9457336968693800418:=True
def tw9472331661002011198:=True
def tw95404934001003556:=True
def tw9547815468267703664:=True
def tw9556939459644684105:=True
def tw9622170207614354622:=True
def tw962670299735296254:=True
def tw9682667797612904757:=True
def tw9713277916204212712:=True
def tw9870275919402889268:=True
def tw9929600293795249767:=True
end PySem.W.Fast
open PySem PySem.W PyProof.Rows
set_option maxRecDepth 100000 in
set_option maxHeartbeats 0 in
theorem PySem.Challenge.cw_canonwright_k52_houses_refused_holds : PySem.Challenge.rw_canonwright_k52_houses_refused.Holds := by
 w_on;o_law;k_head;(case hw=>w_witness2)
 k_fill
 refine CI.Q0 (l:=PySem.Challenge.rw_canonwright_k52_houses_refused) (T:=Tx.T) (L:=Tx.L) (st:=Tx.top 72) (fn:=Tx.f6) (W:=1000000) (n:=30) (x:="law") (p:="_law_script") (f:="law") rfl rfl ⟨rfl,by decide,by decide,rfl⟩ rfl Tx.HV Tx.K0 (by decide +kernel) (λw h Y=>PySem.W.kIn_of Y) ?factF ?mathM
 case mathM=>exact Mx.law_spec _
 case factF =>
  intro w mg h KX G
  have K_Span:CI.ClsAt (L2.aA KX) "Span":=by
   refine' CI.lM ?a ?pg ?hd ?po ?sa ?mk ?kp
   (case a | pg | hd | po | sa | mk | kp=>dsimp only[L2.aA];k_is)
  have I_Span:CI.MthAt (L2.aA KX) "Span" "__init__" "Span.__init__" (Tx.eK 35 0):=by
   refine' CI.eG ?a ?b ?i ?l ?c ?k
   (case a | b | i | l | c | k=>dsimp only[L2.aA];k_is)
  have N_Span_beat:CI.iE (L2.aA KX) "Span" "beat":=by
   refine' CI.gQ ?a ?b
   (case a | b=>dsimp only[L2.aA];k_is)
  have N_Span_spans:CI.iE (L2.aA KX) "Span" "spans":=by
   refine' CI.gQ ?a ?b
   (case a | b=>dsimp only[L2.aA];k_is)
  have K_Leap:CI.ClsAt (L2.aA KX) "Leap":=by
   refine' CI.lM ?a ?pg ?hd ?po ?sa ?mk ?kp
   (case a | pg | hd | po | sa | mk | kp=>dsimp only[L2.aA];k_is)
  have I_Leap:CI.MthAt (L2.aA KX) "Leap" "__init__" "Leap.__init__" (Tx.eK 36 0):=by
   refine' CI.eG ?a ?b ?i ?l ?c ?k
   (case a | b | i | l | c | k=>dsimp only[L2.aA];k_is)
  have N_Leap_most:CI.iE (L2.aA KX) "Leap" "most":=by
   refine' CI.gQ ?a ?b
   (case a | b=>dsimp only[L2.aA];k_is)
  have K_Back:CI.ClsAt (L2.aA KX) "Back":=by
   refine' CI.lM ?a ?pg ?hd ?po ?sa ?mk ?kp
   (case a | pg | hd | po | sa | mk | kp=>dsimp only[L2.aA];k_is)
  have I_Back:CI.MthAt (L2.aA KX) "Back" "__init__" "Back.__init__" (Tx.eK 37 0):=by
   refine' CI.eG ?a ?b ?i ?l ?c ?k
   (case a | b | i | l | c | k=>dsimp only[L2.aA];k_is)
  have N_Back_leap:CI.iE (L2.aA KX) "Back" "leap":=by
   refine' CI.gQ ?a ?b
   (case a | b=>dsimp only[L2.aA];k_is)
  have N_Back_most:CI.iE (L2.aA KX) "Back" "most":=by
   refine' CI.gQ ?a ?b
   (case a | b=>dsimp only[L2.aA];k_is)
  have K_Again:CI.ClsAt (L2.aA KX) "Again":=by
   refine' CI.lM ?a ?pg ?hd ?po ?sa ?mk ?kp
   (case a | pg | hd | po | sa | mk | kp=>dsimp only[L2.aA];k_is)
  have I_Again:CI.MthAt (L2.aA KX) "Again" "__init__" "Again.__init__" (Tx.eK 38 0):=by
   refine' CI.eG ?a ?b ?i ?l ?c ?k
   (case a | b | i | l | c | k=>dsimp only[L2.aA];k_is)
  have N_Again_most:CI.iE (L2.aA KX) "Again" "most":=by
   refine' CI.gQ ?a ?b
   (case a | b=>dsimp only[L2.aA];k_is)
  have K_Range:CI.ClsAt (L2.aA KX) "Range":=by
   refine' CI.lM ?a ?pg ?hd ?po ?sa ?mk ?kp
   (case a | pg | hd | po | sa | mk | kp=>dsimp only[L2.aA];k_is)
  have I_Range:CI.MthAt (L2.aA KX) "Range" "__init__" "Range.__init__" (Tx.eK 39 0):=by
   refine' CI.eG ?a ?b ?i ?l ?c ?k
   (case a | b | i | l | c | k=>dsimp only[L2.aA];k_is)
  have N_Range_low:CI.iE (L2.aA KX) "Range" "low":=by
   refine' CI.gQ ?a ?b
   (case a | b=>dsimp only[L2.aA];k_is)
  have N_Range_high:CI.iE (L2.aA KX) "Range" "high":=by
   refine' CI.gQ ?a ?b
   (case a | b=>dsimp only[L2.aA];k_is)
  have K_Above:CI.ClsAt (L2.aA KX) "Above":=by
   refine' CI.lM ?a ?pg ?hd ?po ?sa ?mk ?kp
   (case a | pg | hd | po | sa | mk | kp=>dsimp only[L2.aA];k_is)
  have I_Above:CI.MthAt (L2.aA KX) "Above" "__init__" "Above.__init__" (Tx.eK 40 0):=by
   refine' CI.eG ?a ?b ?i ?l ?c ?k
   (case a | b | i | l | c | k=>dsimp only[L2.aA];k_is)
  have N_Above_one:CI.iE (L2.aA KX) "Above" "one":=by
   refine' CI.gQ ?a ?b
   (case a | b=>dsimp only[L2.aA];k_is)
  have N_Above_other:CI.iE (L2.aA KX) "Above" "other":=by
   refine' CI.gQ ?a ?b
   (case a | b=>dsimp only[L2.aA];k_is)
  have K_Never:CI.ClsAt (L2.aA KX) "Never":=by
   refine' CI.lM ?a ?pg ?hd ?po ?sa ?mk ?kp
   (case a | pg | hd | po | sa | mk | kp=>dsimp only[L2.aA];k_is)
  have I_Never:CI.MthAt (L2.aA KX) "Never" "__init__" "Never.__init__" (Tx.eK 41 0):=by
   refine' CI.eG ?a ?b ?i ?l ?c ?k
   (case a | b | i | l | c | k=>dsimp only[L2.aA];k_is)
  have N_Never_one:CI.iE (L2.aA KX) "Never" "one":=by
   refine' CI.gQ ?a ?b
   (case a | b=>dsimp only[L2.aA];k_is)
  have N_Never_other:CI.iE (L2.aA KX) "Never" "other":=by
   refine' CI.gQ ?a ?b
   (case a | b=>dsimp only[L2.aA];k_is)
  have N_Never_way:CI.iE (L2.aA KX) "Never" "way":=by
   refine' CI.gQ ?a ?b
   (case a | b=>dsimp only[L2.aA];k_is)
  have D_Span_broken:CI.MthAt (L2.aA KX) "Span" "broken" "Span.broken" (Tx.eK 35 1):=by
   refine' CI.eG ?a ?b ?i ?l ?c ?k
   (case a | b | i | l | c | k=>dsimp only[L2.aA];k_is)
  have D_Span_forbids:CI.MthAt (L2.aA KX) "Span" "forbids" "Span.forbids" (Tx.eK 35 2):=by
   refine' CI.eG ?a ?b ?i ?l ?c ?k
   (case a | b | i | l | c | k=>dsimp only[L2.aA];k_is)
  have D_Leap_broken:CI.MthAt (L2.aA KX) "Leap" "broken" "Leap.broken" (Tx.eK 36 1):=by
   refine' CI.eG ?a ?b ?i ?l ?c ?k
   (case a | b | i | l | c | k=>dsimp only[L2.aA];k_is)
  have D_Back_broken:CI.MthAt (L2.aA KX) "Back" "broken" "Back.broken" (Tx.eK 37 1):=by
   refine' CI.eG ?a ?b ?i ?l ?c ?k
   (case a | b | i | l | c | k=>dsimp only[L2.aA];k_is)
  have D_Again_broken:CI.MthAt (L2.aA KX) "Again" "broken" "Again.broken" (Tx.eK 38 1):=by
   refine' CI.eG ?a ?b ?i ?l ?c ?k
   (case a | b | i | l | c | k=>dsimp only[L2.aA];k_is)
  have D_Range_broken:CI.MthAt (L2.aA KX) "Range" "broken" "Range.broken" (Tx.eK 39 1):=by
   refine' CI.eG ?a ?b ?i ?l ?c ?k
   (case a | b | i | l | c | k=>dsimp only[L2.aA];k_is)
  have D_Range_forbids:CI.MthAt (L2.aA KX) "Range" "forbids" "Range.forbids" (Tx.eK 39 2):=by
   refine' CI.eG ?a ?b ?i ?l ?c ?k
   (case a | b | i | l | c | k=>dsimp only[L2.aA];k_is)
  have D_Above_broken:CI.MthAt (L2.aA KX) "Above" "broken" "Above.broken" (Tx.eK 40 1):=by
   refine' CI.eG ?a ?b ?i ?l ?c ?k
   (case a | b | i | l | c | k=>dsimp only[L2.aA];k_is)
  have D_Never_broken:CI.MthAt (L2.aA KX) "Never" "broken" "Never.broken" (Tx.eK 41 1):=by
   refine' CI.eG ?a ?b ?i ?l ?c ?k
   (case a | b | i | l | c | k=>dsimp only[L2.aA];k_is)
  have D_is_whole:CI.DefAt (L2.aA KX) "is_whole" (Tx.top 22):=by
   refine' CI.bR ?a ?l ?c ?k
   (case a | l | c | k=>dsimp only[L2.aA];k_is)
  have D_is_within:CI.DefAt (L2.aA KX) "is_within" (Tx.top 23):=by
   refine' CI.bR ?a ?l ?c ?k
   (case a | l | c | k=>dsimp only[L2.aA];k_is)
  have D_pitch:CI.DefAt (L2.aA KX) "pitch" (Tx.top 25):=by
   refine' CI.bR ?a ?l ?c ?k
   (case a | l | c | k=>dsimp only[L2.aA];k_is)
  have D_singer:CI.DefAt (L2.aA KX) "singer" (Tx.top 26):=by
   refine' CI.bR ?a ?l ?c ?k
   (case a | l | c | k=>dsimp only[L2.aA];k_is)
  have D_sung:CI.DefAt (L2.aA KX) "sung" (Tx.top 27):=by
   refine' CI.bR ?a ?l ?c ?k
   (case a | l | c | k=>dsimp only[L2.aA];k_is)
  have D_span:CI.DefAt (L2.aA KX) "span" (Tx.top 28):=by
   refine' CI.bR ?a ?l ?c ?k
   (case a | l | c | k=>dsimp only[L2.aA];k_is)
  have D_chord:CI.DefAt (L2.aA KX) "chord" (Tx.top 29):=by
   refine' CI.bR ?a ?l ?c ?k
   (case a | l | c | k=>dsimp only[L2.aA];k_is)
  have D_sounding_pairs:CI.DefAt (L2.aA KX) "sounding_pairs" (Tx.top 32):=by
   refine' CI.bR ?a ?l ?c ?k
   (case a | l | c | k=>dsimp only[L2.aA];k_is)
  have D_move_so:CI.DefAt (L2.aA KX) "move_so" (Tx.top 33):=by
   refine' CI.bR ?a ?l ?c ?k
   (case a | l | c | k=>dsimp only[L2.aA];k_is)
  have D_rule_of:CI.DefAt (L2.aA KX) "rule_of" (Tx.top 42):=by
   refine' CI.bR ?a ?l ?c ?k
   (case a | l | c | k=>dsimp only[L2.aA];k_is)
  have D_rules_of:CI.DefAt (L2.aA KX) "rules_of" (Tx.top 44):=by
   refine' CI.bR ?a ?l ?c ?k
   (case a | l | c | k=>dsimp only[L2.aA];k_is)
  have D_breaks_at:CI.DefAt (L2.aA KX) "breaks_at" (Tx.top 45):=by
   refine' CI.bR ?a ?l ?c ?k
   (case a | l | c | k=>dsimp only[L2.aA];k_is)
  have D_memory:CI.DefAt (L2.aA KX) "memory" (Tx.top 50):=by
   refine' CI.bR ?a ?l ?c ?k
   (case a | l | c | k=>dsimp only[L2.aA];k_is)
  have D_turn_of:CI.DefAt (L2.aA KX) "turn_of" (Tx.top 51):=by
   refine' CI.bR ?a ?l ?c ?k
   (case a | l | c | k=>dsimp only[L2.aA];k_is)
  have D_stand_of:CI.DefAt (L2.aA KX) "stand_of" (Tx.top 52):=by
   refine' CI.bR ?a ?l ?c ?k
   (case a | l | c | k=>dsimp only[L2.aA];k_is)
  have D_line_to:CI.DefAt (L2.aA KX) "line_to" (Tx.top 53):=by
   refine' CI.bR ?a ?l ?c ?k
   (case a | l | c | k=>dsimp only[L2.aA];k_is)
  have D_nexts:CI.DefAt (L2.aA KX) "nexts" (Tx.top 54):=by
   refine' CI.bR ?a ?l ?c ?k
   (case a | l | c | k=>dsimp only[L2.aA];k_is)
  have D_behind:CI.DefAt (L2.aA KX) "behind" (Tx.top 55):=by
   refine' CI.bR ?a ?l ?c ?k
   (case a | l | c | k=>dsimp only[L2.aA];k_is)
  have D_pair_behind:CI.DefAt (L2.aA KX) "pair_behind" (Tx.top 59):=by
   refine' CI.bR ?a ?l ?c ?k
   (case a | l | c | k=>dsimp only[L2.aA];k_is)
  have D_notes_of_both:CI.DefAt (L2.aA KX) "notes_of_both" (Tx.top 60):=by
   refine' CI.bR ?a ?l ?c ?k
   (case a | l | c | k=>dsimp only[L2.aA];k_is)
  have D_lines_of_pairs:CI.DefAt (L2.aA KX) "lines_of_pairs" (Tx.top 61):=by
   refine' CI.bR ?a ?l ?c ?k
   (case a | l | c | k=>dsimp only[L2.aA];k_is)
  have D_first_apart:CI.DefAt (L2.aA KX) "first_apart" (Tx.top 62):=by
   refine' CI.bR ?a ?l ?c ?k
   (case a | l | c | k=>dsimp only[L2.aA];k_is)
  have D_compared:CI.DefAt (L2.aA KX) "compared" (Tx.top 63):=by
   refine' CI.bR ?a ?l ?c ?k
   (case a | l | c | k=>dsimp only[L2.aA];k_is)
  have D_less:CI.DefAt (L2.aA KX) "less" (Tx.top 64):=by
   refine' CI.bR ?a ?l ?c ?k
   (case a | l | c | k=>dsimp only[L2.aA];k_is)
  have D_needed:CI.DefAt (L2.aA KX) "needed" (Tx.top 65):=by
   refine' CI.bR ?a ?l ?c ?k
   (case a | l | c | k=>dsimp only[L2.aA];k_is)
  have D_L_pen:CI.DefAt (L2.aA KX) "_law_pen" (Tx.top 67):=by
   refine' CI.bR ?a ?l ?c ?k
   (case a | l | c | k=>dsimp only[L2.aA];k_is)
  have D_L_draw:CI.DefAt (L2.aA KX) "_law_draw" (Tx.top 68):=by
   refine' CI.bR ?a ?l ?c ?k
   (case a | l | c | k=>dsimp only[L2.aA];k_is)
  have D_L_rule:CI.DefAt (L2.aA KX) "_law_rule" (Tx.top 69):=by
   refine' CI.bR ?a ?l ?c ?k
   (case a | l | c | k=>dsimp only[L2.aA];k_is)
  have D_L_house:CI.DefAt (L2.aA KX) "_law_house" (Tx.top 70):=by
   refine' CI.bR ?a ?l ?c ?k
   (case a | l | c | k=>dsimp only[L2.aA];k_is)
  have D_L_heard:CI.DefAt (L2.aA KX) "_law_heard" (Tx.top 71):=by
   refine' CI.bR ?a ?l ?c ?k
   (case a | l | c | k=>dsimp only[L2.aA];k_is)
  have D_law:CI.DefAt (L2.aA KX) "law" (Tx.top 72):=by
   refine' CI.bR ?a ?l ?c ?k
   (case a | l | c | k=>dsimp only[L2.aA];k_is)
  have C_NOTES:CI.bZ (L2.aA KX) mg Tx.T (CI.aV Tx.L) ("NOTES",.con (.int 0)):=by
   refine' CI.eV KX G ?a
   (case a=>dsimp only[L2.aA];k_is)
  have C_BAR:CI.bZ (L2.aA KX) mg Tx.T (CI.aV Tx.L) ("BAR",.con (.int 1)):=by
   refine' CI.eV KX G ?a
   (case a=>dsimp only[L2.aA];k_is)
  have C_OCTAVE:CI.bZ (L2.aA KX) mg Tx.T (CI.aV Tx.L) ("OCTAVE",.con (.int 2)):=by
   refine' CI.eV KX G ?a
   (case a=>dsimp only[L2.aA];k_is)
  have C_VOICES:CI.bZ (L2.aA KX) mg Tx.T (CI.aV Tx.L) ("VOICES",.con (.int 3)):=by
   refine' CI.eV KX G ?a
   (case a=>dsimp only[L2.aA];k_is)
  have C_RULES:CI.bZ (L2.aA KX) mg Tx.T (CI.aV Tx.L) ("RULES",.con (.int 4)):=by
   refine' CI.eV KX G ?a
   (case a=>dsimp only[L2.aA];k_is)
  have C_LATE:CI.bZ (L2.aA KX) mg Tx.T (CI.aV Tx.L) ("LATE",.con (.int 0)):=by
   refine' CI.eV KX G ?a
   (case a=>dsimp only[L2.aA];k_is)
  have C_SHIFT:CI.bZ (L2.aA KX) mg Tx.T (CI.aV Tx.L) ("SHIFT",.con (.int 1)):=by
   refine' CI.eV KX G ?a
   (case a=>dsimp only[L2.aA];k_is)
  have C_TURNED:CI.bZ (L2.aA KX) mg Tx.T (CI.aV Tx.L) ("TURNED",.con (.int 2)):=by
   refine' CI.eV KX G ?a
   (case a=>dsimp only[L2.aA];k_is)
  have C_LEADER:CI.bZ (L2.aA KX) mg Tx.T (CI.aV Tx.L) ("LEADER",.con (.tup [(.int 0),(.int 0),(.bl false)])):=by
   refine' CI.GF KX G ?a ?l ?c ?z
   (case a | l=>dsimp only[L2.aA];k_is)
   (case c=>first | rfl | decide +kernel)
   (case z=>rfl)
  have C_BY_THE_LINE:CI.bZ (L2.aA KX) mg Tx.T (CI.aV Tx.L) ("BY_THE_LINE",.con (.tup [])):=by
   refine' CI.GF KX G ?a ?l ?c ?z
   (case a | l=>dsimp only[L2.aA];k_is)
   (case c=>first | rfl | decide +kernel)
   (case z=>rfl)
  have C_TURN:CI.bZ (L2.aA KX) mg Tx.T (CI.aV Tx.L) ("TURN",.con (.int 0)):=by
   refine' CI.eV KX G ?a
   (case a=>dsimp only[L2.aA];k_is)
  have C_TAIL:CI.bZ (L2.aA KX) mg Tx.T (CI.aV Tx.L) ("TAIL",.con (.int 1)):=by
   refine' CI.eV KX G ?a
   (case a=>dsimp only[L2.aA];k_is)
  have C_LEAST_MEMORY:CI.bZ (L2.aA KX) mg Tx.T (CI.aV Tx.L) ("LEAST_MEMORY",.con (.int 3)):=by
   refine' CI.eV KX G ?a
   (case a=>dsimp only[L2.aA];k_is)
  have C_START:CI.bZ (L2.aA KX) mg Tx.T (CI.aV Tx.L) ("START",.con (.tup [(.tup [(.int 0),(.tup [])]),(.tup [(.int 0),(.tup [])])])):=by
   refine' CI.UZ KX G ?a ?xq
   (case a=>dsimp only[L2.aA];k_is)
   case xq =>
    refine' CI.rT ?xl1 ?xc1 ?xz1
    (case xl1=>dsimp only[L2.aA];k_is)
    (case xz1=>rfl)
    case xc1 =>
     refine' CI.kS ?xe1_0 (CI.kS ?xe1_1 CI.sW)
     case xe1_0 =>
      refine' CI.rT ?xl2 ?xc2 ?xz2
      (case xl2=>dsimp only[L2.aA];k_is)
      (case xz2=>rfl)
      case xc2 =>
       refine' CI.kS (CI.aCZ (by decide +kernel)) (CI.kS ?xe2_1 CI.sW)
       case xe2_1 =>
        refine' CI.rT ?xl3 ?xc3 ?xz3
        (case xl3=>dsimp only[L2.aA];k_is)
        (case xz3=>rfl)
        (case xc3=>exact CI.sW)
     case xe1_1 =>
      refine' CI.rT ?xl4 ?xc4 ?xz4
      (case xl4=>dsimp only[L2.aA];k_is)
      (case xz4=>rfl)
      case xc4 =>
       refine' CI.kS (CI.aCZ (by decide +kernel)) (CI.kS ?xe4_1 CI.sW)
       case xe4_1 =>
        refine' CI.rT ?xl5 ?xc5 ?xz5
        (case xl5=>dsimp only[L2.aA];k_is)
        (case xz5=>rfl)
        (case xc5=>exact CI.sW)
  have C_MOST_PAIRS:CI.bZ (L2.aA KX) mg Tx.T (CI.aV Tx.L) ("MOST_PAIRS",.con (.int 150)):=by
   refine' CI.eV KX G ?a
   (case a=>dsimp only[L2.aA];k_is)
  have B_ValueError:CI.bZ (L2.aA KX) mg Tx.T (CI.aV Tx.L) ("ValueError",.blt):=by
   refine' CI.fH KX G ?a
   (case a=>dsimp only[L2.aA];k_is)
  have B_abs:CI.bZ (L2.aA KX) mg Tx.T (CI.aV Tx.L) ("abs",.blt):=by
   refine' CI.fH KX G ?a
   (case a=>dsimp only[L2.aA];k_is)
  have B_all:CI.bZ (L2.aA KX) mg Tx.T (CI.aV Tx.L) ("all",.blt):=by
   refine' CI.fH KX G ?a
   (case a=>dsimp only[L2.aA];k_is)
  have B_bool:CI.bZ (L2.aA KX) mg Tx.T (CI.aV Tx.L) ("bool",.blt):=by
   refine' CI.fH KX G ?a
   (case a=>dsimp only[L2.aA];k_is)
  have B_enumerate:CI.bZ (L2.aA KX) mg Tx.T (CI.aV Tx.L) ("enumerate",.blt):=by
   refine' CI.fH KX G ?a
   (case a=>dsimp only[L2.aA];k_is)
  have B_int:CI.bZ (L2.aA KX) mg Tx.T (CI.aV Tx.L) ("int",.blt):=by
   refine' CI.fH KX G ?a
   (case a=>dsimp only[L2.aA];k_is)
  have B_isinstance:CI.bZ (L2.aA KX) mg Tx.T (CI.aV Tx.L) ("isinstance",.blt):=by
   refine' CI.fH KX G ?a
   (case a=>dsimp only[L2.aA];k_is)
  have B_len:CI.bZ (L2.aA KX) mg Tx.T (CI.aV Tx.L) ("len",.blt):=by
   refine' CI.fH KX G ?a
   (case a=>dsimp only[L2.aA];k_is)
  have B_list:CI.bZ (L2.aA KX) mg Tx.T (CI.aV Tx.L) ("list",.blt):=by
   refine' CI.fH KX G ?a
   (case a=>dsimp only[L2.aA];k_is)
  have B_max:CI.bZ (L2.aA KX) mg Tx.T (CI.aV Tx.L) ("max",.blt):=by
   refine' CI.fH KX G ?a
   (case a=>dsimp only[L2.aA];k_is)
  have B_range:CI.bZ (L2.aA KX) mg Tx.T (CI.aV Tx.L) ("range",.blt):=by
   refine' CI.fH KX G ?a
   (case a=>dsimp only[L2.aA];k_is)
  have B_sorted:CI.bZ (L2.aA KX) mg Tx.T (CI.aV Tx.L) ("sorted",.blt):=by
   refine' CI.fH KX G ?a
   (case a=>dsimp only[L2.aA];k_is)
  have B_tuple:CI.bZ (L2.aA KX) mg Tx.T (CI.aV Tx.L) ("tuple",.blt):=by
   refine' CI.fH KX G ?a
   (case a=>dsimp only[L2.aA];k_is)
  have X_TooMany:CI.ExcK (L2.aA KX) "TooMany":=by
   refine' CI.tY ?a ?xq ?ga ?no ?cl ?gt ?tk ?mo ?mb ?mv
   (case a | ga | no | cl | gt | tk | mo | mb | mv=>dsimp only[L2.aA];k_is)
   (case xq=>dsimp only[L2.aA];k_exc)
  have X_Unlike:CI.ExcK (L2.aA KX) "Unlike":=by
   refine' CI.tY ?a ?xq ?ga ?no ?cl ?gt ?tk ?mo ?mb ?mv
   (case a | ga | no | cl | gt | tk | mo | mb | mv=>dsimp only[L2.aA];k_is)
   (case xq=>dsimp only[L2.aA];k_exc)
  have X_NoNumber:CI.ExcK (L2.aA KX) "NoNumber":=by
   refine' CI.tY ?a ?xq ?ga ?no ?cl ?gt ?tk ?mo ?mb ?mv
   (case a | ga | no | cl | gt | tk | mo | mb | mv=>dsimp only[L2.aA];k_is)
   (case xq=>dsimp only[L2.aA];k_exc)
  have X_CanonError:CI.ExcK (L2.aA KX) "CanonError":=by
   refine' CI.tY ?a ?xq ?ga ?no ?cl ?gt ?tk ?mo ?mb ?mv
   (case a | ga | no | cl | gt | tk | mo | mb | mv=>dsimp only[L2.aA];k_is)
   (case xq=>dsimp only[L2.aA];k_exc)
  have SX_Broken:CI.KinX (L2.aA KX) "Broken":=by
   refine' CI.f9 ?a
   (case a=>dsimp only[L2.aA];k_is)
  have SN_TooMany_Broken:CI.KinN (L2.aA KX) "TooMany" "Broken":=by
   refine' CI.bQ ?a ?b ?k
   (case a | b=>dsimp only[L2.aA];k_is)
   (case k=>dsimp only[L2.aA];kin_no)
  have SN_Unlike_Broken:CI.KinN (L2.aA KX) "Unlike" "Broken":=by
   refine' CI.bQ ?a ?b ?k
   (case a | b=>dsimp only[L2.aA];k_is)
   (case k=>dsimp only[L2.aA];kin_no)
  have SN_NoNumber_Broken:CI.KinN (L2.aA KX) "NoNumber" "Broken":=by
   refine' CI.bQ ?a ?b ?k
   (case a | b=>dsimp only[L2.aA];k_is)
   (case k=>dsimp only[L2.aA];kin_no)
  have SX_NoHouse:CI.KinX (L2.aA KX) "NoHouse":=by
   refine' CI.f9 ?a
   (case a=>dsimp only[L2.aA];k_is)
  have SN_TooMany_NoHouse:CI.KinN (L2.aA KX) "TooMany" "NoHouse":=by
   refine' CI.bQ ?a ?b ?k
   (case a | b=>dsimp only[L2.aA];k_is)
   (case k=>dsimp only[L2.aA];kin_no)
  have SN_Unlike_NoHouse:CI.KinN (L2.aA KX) "Unlike" "NoHouse":=by
   refine' CI.bQ ?a ?b ?k
   (case a | b=>dsimp only[L2.aA];k_is)
   (case k=>dsimp only[L2.aA];kin_no)
  have SN_NoNumber_NoHouse:CI.KinN (L2.aA KX) "NoNumber" "NoHouse":=by
   refine' CI.bQ ?a ?b ?k
   (case a | b=>dsimp only[L2.aA];k_is)
   (case k=>dsimp only[L2.aA];kin_no)
  have SX_NoNote:CI.KinX (L2.aA KX) "NoNote":=by
   refine' CI.f9 ?a
   (case a=>dsimp only[L2.aA];k_is)
  have SN_TooMany_NoNote:CI.KinN (L2.aA KX) "TooMany" "NoNote":=by
   refine' CI.bQ ?a ?b ?k
   (case a | b=>dsimp only[L2.aA];k_is)
   (case k=>dsimp only[L2.aA];kin_no)
  have SN_Unlike_NoNote:CI.KinN (L2.aA KX) "Unlike" "NoNote":=by
   refine' CI.bQ ?a ?b ?k
   (case a | b=>dsimp only[L2.aA];k_is)
   (case k=>dsimp only[L2.aA];kin_no)
  have SN_NoNumber_NoNote:CI.KinN (L2.aA KX) "NoNumber" "NoNote":=by
   refine' CI.bQ ?a ?b ?k
   (case a | b=>dsimp only[L2.aA];k_is)
   (case k=>dsimp only[L2.aA];kin_no)
  have SX_NoNumber:CI.KinX (L2.aA KX) "NoNumber":=by
   refine' CI.f9 ?a
   (case a=>dsimp only[L2.aA];k_is)
  have SY_NoNumber_NoNumber:CI.KinI (L2.aA KX) "NoNumber" "NoNumber":=by
   refine' CI.yU ?a ?b ?k
   (case a | b | k=>dsimp only[L2.aA];k_is)
  have SN_TooMany_NoNumber:CI.KinN (L2.aA KX) "TooMany" "NoNumber":=by
   refine' CI.bQ ?a ?b ?k
   (case a | b=>dsimp only[L2.aA];k_is)
   (case k=>dsimp only[L2.aA];kin_no)
  have SN_Unlike_NoNumber:CI.KinN (L2.aA KX) "Unlike" "NoNumber":=by
   refine' CI.bQ ?a ?b ?k
   (case a | b=>dsimp only[L2.aA];k_is)
   (case k=>dsimp only[L2.aA];kin_no)
  have SX_NoRow:CI.KinX (L2.aA KX) "NoRow":=by
   refine' CI.f9 ?a
   (case a=>dsimp only[L2.aA];k_is)
  have SN_TooMany_NoRow:CI.KinN (L2.aA KX) "TooMany" "NoRow":=by
   refine' CI.bQ ?a ?b ?k
   (case a | b=>dsimp only[L2.aA];k_is)
   (case k=>dsimp only[L2.aA];kin_no)
  have SN_Unlike_NoRow:CI.KinN (L2.aA KX) "Unlike" "NoRow":=by
   refine' CI.bQ ?a ?b ?k
   (case a | b=>dsimp only[L2.aA];k_is)
   (case k=>dsimp only[L2.aA];kin_no)
  have SN_NoNumber_NoRow:CI.KinN (L2.aA KX) "NoNumber" "NoRow":=by
   refine' CI.bQ ?a ?b ?k
   (case a | b=>dsimp only[L2.aA];k_is)
   (case k=>dsimp only[L2.aA];kin_no)
  have SX_NoRule:CI.KinX (L2.aA KX) "NoRule":=by
   refine' CI.f9 ?a
   (case a=>dsimp only[L2.aA];k_is)
  have SN_TooMany_NoRule:CI.KinN (L2.aA KX) "TooMany" "NoRule":=by
   refine' CI.bQ ?a ?b ?k
   (case a | b=>dsimp only[L2.aA];k_is)
   (case k=>dsimp only[L2.aA];kin_no)
  have SN_Unlike_NoRule:CI.KinN (L2.aA KX) "Unlike" "NoRule":=by
   refine' CI.bQ ?a ?b ?k
   (case a | b=>dsimp only[L2.aA];k_is)
   (case k=>dsimp only[L2.aA];kin_no)
  have SN_NoNumber_NoRule:CI.KinN (L2.aA KX) "NoNumber" "NoRule":=by
   refine' CI.bQ ?a ?b ?k
   (case a | b=>dsimp only[L2.aA];k_is)
   (case k=>dsimp only[L2.aA];kin_no)
  have SX_NoText:CI.KinX (L2.aA KX) "NoText":=by
   refine' CI.f9 ?a
   (case a=>dsimp only[L2.aA];k_is)
  have SN_TooMany_NoText:CI.KinN (L2.aA KX) "TooMany" "NoText":=by
   refine' CI.bQ ?a ?b ?k
   (case a | b=>dsimp only[L2.aA];k_is)
   (case k=>dsimp only[L2.aA];kin_no)
  have SN_Unlike_NoText:CI.KinN (L2.aA KX) "Unlike" "NoText":=by
   refine' CI.bQ ?a ?b ?k
   (case a | b=>dsimp only[L2.aA];k_is)
   (case k=>dsimp only[L2.aA];kin_no)
  have SN_NoNumber_NoText:CI.KinN (L2.aA KX) "NoNumber" "NoText":=by
   refine' CI.bQ ?a ?b ?k
   (case a | b=>dsimp only[L2.aA];k_is)
   (case k=>dsimp only[L2.aA];kin_no)
  have SX_NoVoice:CI.KinX (L2.aA KX) "NoVoice":=by
   refine' CI.f9 ?a
   (case a=>dsimp only[L2.aA];k_is)
  have SN_TooMany_NoVoice:CI.KinN (L2.aA KX) "TooMany" "NoVoice":=by
   refine' CI.bQ ?a ?b ?k
   (case a | b=>dsimp only[L2.aA];k_is)
   (case k=>dsimp only[L2.aA];kin_no)
  have SN_Unlike_NoVoice:CI.KinN (L2.aA KX) "Unlike" "NoVoice":=by
   refine' CI.bQ ?a ?b ?k
   (case a | b=>dsimp only[L2.aA];k_is)
   (case k=>dsimp only[L2.aA];kin_no)
  have SN_NoNumber_NoVoice:CI.KinN (L2.aA KX) "NoNumber" "NoVoice":=by
   refine' CI.bQ ?a ?b ?k
   (case a | b=>dsimp only[L2.aA];k_is)
   (case k=>dsimp only[L2.aA];kin_no)
  have SX_Unlike:CI.KinX (L2.aA KX) "Unlike":=by
   refine' CI.f9 ?a
   (case a=>dsimp only[L2.aA];k_is)
  have SY_Unlike_Unlike:CI.KinI (L2.aA KX) "Unlike" "Unlike":=by
   refine' CI.yU ?a ?b ?k
   (case a | b | k=>dsimp only[L2.aA];k_is)
  have SN_TooMany_Unlike:CI.KinN (L2.aA KX) "TooMany" "Unlike":=by
   refine' CI.bQ ?a ?b ?k
   (case a | b=>dsimp only[L2.aA];k_is)
   (case k=>dsimp only[L2.aA];kin_no)
  have SN_NoNumber_Unlike:CI.KinN (L2.aA KX) "NoNumber" "Unlike":=by
   refine' CI.bQ ?a ?b ?k
   (case a | b=>dsimp only[L2.aA];k_is)
   (case k=>dsimp only[L2.aA];kin_no)
  have SX_TooMany:CI.KinX (L2.aA KX) "TooMany":=by
   refine' CI.f9 ?a
   (case a=>dsimp only[L2.aA];k_is)
  have SY_TooMany_TooMany:CI.KinI (L2.aA KX) "TooMany" "TooMany":=by
   refine' CI.yU ?a ?b ?k
   (case a | b | k=>dsimp only[L2.aA];k_is)
  have SN_Unlike_TooMany:CI.KinN (L2.aA KX) "Unlike" "TooMany":=by
   refine' CI.bQ ?a ?b ?k
   (case a | b=>dsimp only[L2.aA];k_is)
   (case k=>dsimp only[L2.aA];kin_no)
  have SN_NoNumber_TooMany:CI.KinN (L2.aA KX) "NoNumber" "TooMany":=by
   refine' CI.bQ ?a ?b ?k
   (case a | b=>dsimp only[L2.aA];k_is)
   (case k=>dsimp only[L2.aA];kin_no)
  have M_TooMany_CanonError:CI.MroK (L2.aA KX) "TooMany" "CanonError":=by
   refine' CI.yT ?a ?b ?m
   (case a | b | m=>dsimp only[L2.aA];k_is)
  have M_Unlike_CanonError:CI.MroK (L2.aA KX) "Unlike" "CanonError":=by
   refine' CI.yT ?a ?b ?m
   (case a | b | m=>dsimp only[L2.aA];k_is)
  have M_NoNumber_CanonError:CI.MroK (L2.aA KX) "NoNumber" "CanonError":=by
   refine' CI.yT ?a ?b ?m
   (case a | b | m=>dsimp only[L2.aA];k_is)
  refine⟨D_law, ?_⟩;unfold Tx.L;refine CI.fc (C_NOTES) ?_;refine CI.fc (C_BAR) ?_;refine CI.fc (C_OCTAVE) ?_;refine CI.fc (C_VOICES) ?_;refine CI.fc (C_RULES) ?_;refine CI.fc (C_LATE) ?_;refine CI.fc (C_SHIFT) ?_;refine CI.fc (C_TURNED) ?_;refine CI.fc (C_LEADER) ?_;refine CI.fc (C_BY_THE_LINE) ?_;refine CI.fc (C_TURN) ?_;refine CI.fc (C_TAIL) ?_;refine CI.fc (C_LEAST_MEMORY) ?_;refine CI.fc (C_START) ?_;refine CI.fc (C_MOST_PAIRS) ?_;refine CI.fc (CI.bC KX G D_is_whole Tx.E2 Tx.xW) ?_;refine CI.fc (CI.bC KX G D_is_within Tx.CB Tx.uM) ?_;refine CI.fc (CI.bC KX G D_pitch Tx.QR Tx.F0) ?_;refine CI.fc (CI.bC KX G D_singer Tx.LX Tx.DT) ?_;refine CI.fc (CI.bC KX G D_sung Tx.WD Tx.LG) ?_;refine CI.fc (CI.bC KX G D_span Tx.WR Tx.aCl) ?_;refine CI.fc (CI.bC KX G D_chord Tx.O7 Tx.HA) ?_;refine CI.fc (CI.bC KX G D_sounding_pairs Tx.uF Tx.vX) ?_;refine CI.fc (CI.bC KX G D_move_so Tx.HM Tx.MM) ?_;refine CI.fc (CI.bC KX G D_rule_of Tx.JO Tx.mQ) ?_;refine CI.fc (CI.bC KX G D_rules_of Tx.EX Tx.wL) ?_;refine CI.fc (CI.bC KX G D_breaks_at Tx.C4 Tx.uZ) ?_;refine CI.fc (CI.bC KX G D_memory Tx.L7 Tx.CK) ?_;refine CI.fc (CI.bC KX G D_turn_of Tx.J8 Tx.zQ) ?_;refine CI.fc (CI.bC KX G D_stand_of Tx.EV Tx.wY) ?_;refine CI.fc (CI.bC KX G D_line_to Tx.JI Tx.AB) ?_;refine CI.fc (CI.bC KX G D_nexts Tx.QS Tx.G9) ?_;refine CI.fc (CI.bC KX G D_behind Tx.KS Tx.B0) ?_;refine CI.fc (CI.bC KX G D_pair_behind Tx.yX Tx.qP) ?_;refine CI.fc (CI.bC KX G D_notes_of_both Tx.vW Tx.mC) ?_;refine CI.fc (CI.bC KX G D_lines_of_pairs Tx.uE Tx.lZ) ?_;refine CI.fc (CI.bC KX G D_first_apart Tx.zK Tx.BA) ?_;refine CI.fc (CI.bC KX G D_compared Tx.E1 Tx.oO) ?_;refine CI.fc (CI.bC KX G D_less Tx.XS Tx.KJ) ?_;refine CI.fc (CI.bC KX G D_needed Tx.K4 Tx.DH) ?_;refine CI.fc (CI.bC KX G D_L_pen Tx.RE Tx.G7) ?_;refine CI.fc (CI.bC KX G D_L_draw Tx.ME Tx.EH) ?_;refine CI.fc (CI.bC KX G D_L_rule Tx.KH Tx.BV) ?_;refine CI.fc (CI.bC KX G D_L_house Tx.JK Tx.z7) ?_;refine CI.fc (CI.bC KX G D_L_heard Tx.HY Tx.mM) ?_;refine CI.fc (CI.bC KX G D_law Tx.K0 Tx.HV) ?_;refine CI.fc (CI.lJ KX G K_Span I_Span Tx.Q4 (CI.fc (N_Span_beat) (CI.fc (N_Span_spans) (λ_ h=>nomatch h)))) ?_;refine CI.fc (CI.lJ KX G K_Leap I_Leap Tx.OA (CI.fc (N_Leap_most) (λ_ h=>nomatch h))) ?_;refine CI.fc (CI.lJ KX G K_Back I_Back Tx.N0 (CI.fc (N_Back_leap) (CI.fc (N_Back_most) (λ_ h=>nomatch h)))) ?_;refine CI.fc (CI.lJ KX G K_Again I_Again Tx.MP (CI.fc (N_Again_most) (λ_ h=>nomatch h))) ?_;refine CI.fc (CI.lJ KX G K_Range I_Range Tx.MA (CI.fc (N_Range_low) (CI.fc (N_Range_high) (λ_ h=>nomatch h)))) ?_;refine CI.fc (CI.lJ KX G K_Above I_Above Tx.K9 (CI.fc (N_Above_one) (CI.fc (N_Above_other) (λ_ h=>nomatch h)))) ?_;refine CI.fc (CI.lJ KX G K_Never I_Never Tx.NF (CI.fc (N_Never_one) (CI.fc (N_Never_other) (CI.fc (N_Never_way) (λ_ h=>nomatch h))))) ?_;refine List.forall_mem_cons.mpr ⟨⟨"broken",rfl,by unfold Tx.gL;exact CI.fc (CI.iN K_Span D_Span_broken Tx.zE Tx.A6) (CI.fc (CI.iN K_Leap D_Leap_broken Tx.yP Tx.rF) (CI.fc (CI.iN K_Back D_Back_broken Tx.yO Tx.A3) (CI.fc (CI.iN K_Again D_Again_broken Tx.xS Tx.oM) (CI.fc (CI.iN K_Range D_Range_broken Tx.wO Tx.oI) (CI.fc (CI.iN K_Above D_Above_broken Tx.yD Tx.y9) (CI.fc (CI.iN K_Never D_Never_broken Tx.wK Tx.yN) (λ_ h=>nomatch h)))))))⟩, ?_⟩;refine List.forall_mem_cons.mpr ⟨⟨"forbids",rfl,by unfold Tx.gU;exact CI.fc (CI.iN K_Span D_Span_forbids Tx.wQ Tx.zA) (CI.fc (CI.iN K_Range D_Range_forbids Tx.vR Tx.mH) (λ_ h=>nomatch h))⟩, ?_⟩;refine CI.fc (B_ValueError) ?_;refine CI.fc (B_abs) ?_;refine CI.fc (B_all) ?_;refine CI.fc (B_bool) ?_;refine CI.fc (B_enumerate) ?_;refine CI.fc (B_int) ?_;refine CI.fc (B_isinstance) ?_;refine CI.fc (B_len) ?_;refine CI.fc (B_list) ?_;refine CI.fc (B_max) ?_;refine CI.fc (B_range) ?_;refine CI.fc (B_sorted) ?_;refine CI.fc (B_tuple) ?_;refine CI.fc (CI.B7 KX G X_TooMany) ?_;refine CI.fc (CI.B7 KX G X_Unlike) ?_;refine CI.fc (CI.B7 KX G X_NoNumber) ?_;refine CI.fc (CI.gA KX G SX_Broken (by unfold Tx.sQ;exact λ_ h=>nomatch h) (by unfold Tx.rK;exact CI.fc (SN_TooMany_Broken) (CI.fc (SN_Unlike_Broken) (CI.fc (SN_NoNumber_Broken) (λ_ h=>nomatch h))))) ?_;refine CI.fc (CI.gA KX G SX_NoHouse (by unfold Tx.oP;exact λ_ h=>nomatch h) (by unfold Tx.oN;exact CI.fc (SN_TooMany_NoHouse) (CI.fc (SN_Unlike_NoHouse) (CI.fc (SN_NoNumber_NoHouse) (λ_ h=>nomatch h))))) ?_;refine CI.fc (CI.gA KX G SX_NoNote (by unfold Tx.rM;exact λ_ h=>nomatch h) (by unfold Tx.rW;exact CI.fc (SN_TooMany_NoNote) (CI.fc (SN_Unlike_NoNote) (CI.fc (SN_NoNumber_NoNote) (λ_ h=>nomatch h))))) ?_;refine CI.fc (CI.gA KX G SX_NoNumber (by unfold Tx.nA;exact CI.fc (SY_NoNumber_NoNumber) (λ_ h=>nomatch h)) (by unfold Tx.mX;exact CI.fc (SN_TooMany_NoNumber) (CI.fc (SN_Unlike_NoNumber) (λ_ h=>nomatch h)))) ?_;refine CI.fc (CI.gA KX G SX_NoRow (by unfold Tx.wC;exact λ_ h=>nomatch h) (by unfold Tx.wJ;exact CI.fc (SN_TooMany_NoRow) (CI.fc (SN_Unlike_NoRow) (CI.fc (SN_NoNumber_NoRow) (λ_ h=>nomatch h))))) ?_;refine CI.fc (CI.gA KX G SX_NoRule (by unfold Tx.tK;exact λ_ h=>nomatch h) (by unfold Tx.rQ;exact CI.fc (SN_TooMany_NoRule) (CI.fc (SN_Unlike_NoRule) (CI.fc (SN_NoNumber_NoRule) (λ_ h=>nomatch h))))) ?_;refine CI.fc (CI.gA KX G SX_NoText (by unfold Tx.sR;exact λ_ h=>nomatch h) (by unfold Tx.sT;exact CI.fc (SN_TooMany_NoText) (CI.fc (SN_Unlike_NoText) (CI.fc (SN_NoNumber_NoText) (λ_ h=>nomatch h))))) ?_;refine CI.fc (CI.gA KX G SX_NoVoice (by unfold Tx.o7;exact λ_ h=>nomatch h) (by unfold Tx.oX;exact CI.fc (SN_TooMany_NoVoice) (CI.fc (SN_Unlike_NoVoice) (CI.fc (SN_NoNumber_NoVoice) (λ_ h=>nomatch h))))) ?_;refine CI.fc (CI.gA KX G SX_Unlike (by unfold Tx.rV;exact CI.fc (SY_Unlike_Unlike) (λ_ h=>nomatch h)) (by unfold Tx.r6;exact CI.fc (SN_TooMany_Unlike) (CI.fc (SN_NoNumber_Unlike) (λ_ h=>nomatch h)))) ?_;refine CI.fc (CI.gA KX G SX_TooMany (by unfold Tx.oW;exact CI.fc (SY_TooMany_TooMany) (λ_ h=>nomatch h)) (by unfold Tx.pD;exact CI.fc (SN_Unlike_TooMany) (CI.fc (SN_NoNumber_TooMany) (λ_ h=>nomatch h)))) ?_;refine CI.fc (CI.aAZ KX G X_CanonError (by unfold Tx.dZ;exact CI.fc (M_TooMany_CanonError) (CI.fc (M_Unlike_CanonError) (CI.fc (M_NoNumber_CanonError) (λ_ h=>nomatch h))))) ?_
  exact λ_ h=>nomatch h
