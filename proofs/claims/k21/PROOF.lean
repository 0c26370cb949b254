import PyProof.Rows.All
import Wide.All
import OpenK.AllK
import Wide.FinOn
import Lean
import PyProof.EqAt
import PyProof.EqKinds
import PyProof.TupleCall
import PyProof.Rows.SortRunsK
import PyProof.Rows.SortShellK
import OpenK.KOwn
import PyProof.NsDelKeeps
import KE.KIsAll
import PyProof.ExcArgsOwn
import PyProof.ExcAttrAll.ValueError
import KE.KIntText
import PyProof.NeData
import PySem.Challenge.RW_canonwright_k21_whole_beginnings_and_rul
local macro_rules|`(nofun)=>`(100000000000000000000000000000000000000000000000000000000000000000000000000000000)
set_option Elab.async false
set_option linter.all false
set_option maxRecDepth 100000
theorem ZB:type_of% @Bool.and_eq_true:=@Bool.and_eq_true
theorem Za.{u}:type_of% @List.length_append.{u}:=@List.length_append.{u}
theorem Zb.{u}:type_of% @List.getElem?_eq_getElem.{u}:=@List.getElem?_eq_getElem.{u}
theorem Zc.{u}:type_of% @List.getElem?_eq_some_iff.{u}:=@List.getElem?_eq_some_iff.{u}
theorem Zd:type_of% @PySem.Heap.get?_push_of_some:=@PySem.Heap.get?_push_of_some
theorem Ze.{u}:type_of% @List.mem_cons_of_mem.{u}:=@List.mem_cons_of_mem.{u}
theorem Zf.{u}:type_of% @List.getElem?_set_ne.{u}:=@List.getElem?_set_ne.{u}
theorem Zh.{u,v}:type_of% @List.getElem?_map.{u,v}:=@List.getElem?_map.{u,v}
theorem Zi.{u}:type_of% @List.size_toArray.{u}:=@List.size_toArray.{u}
theorem Zj.{u}:type_of% @List.all_cons.{u}:=@List.all_cons.{u}
theorem Zk.{u}:type_of% @List.length_cons.{u}:=@List.length_cons.{u}
theorem Zl:type_of% @Nat.lt_of_lt_of_le:=@Nat.lt_of_lt_of_le
theorem Zm:type_of% @decide_eq_false:=@decide_eq_false
theorem Zn:type_of% @decide_eq_true:=@decide_eq_true
theorem Zo.{u}:type_of% @if_pos.{u}:=@if_pos.{u}
theorem Zp.{u}:type_of% @if_neg.{u}:=@if_neg.{u}
theorem Zq:type_of% @Nat.le_refl:=@Nat.le_refl
theorem Zr:type_of% @Nat.le_trans:=@Nat.le_trans
theorem Zs.{u,v}:type_of% @List.map_cons.{u,v}:=@List.map_cons.{u,v}
theorem Zt:type_of% @PySem.wpAny_bind:=@PySem.wpAny_bind
theorem Zu:type_of% @PySem.wpAny_pure:=@PySem.wpAny_pure
theorem Zv:type_of% @PySem.Heap.lt_size:=@PySem.Heap.lt_size
theorem Zw:type_of% @PySem.Heap.get?_push_size:=@PySem.Heap.get?_push_size
theorem Zy.{u}:type_of% @eq_of_beq.{u}:=@eq_of_beq.{u}
theorem Zz:type_of% @Nat.ne_of_lt:=@Nat.ne_of_lt
theorem zd.{u,v}:type_of% @List.map_append.{u,v}:=@List.map_append.{u,v}
theorem ze.{u}:type_of% @List.mem_singleton.{u}:=@List.mem_singleton.{u}
theorem zf.{u}:type_of% @List.take_of_length_le.{u}:=@List.take_of_length_le.{u}
theorem zg.{u}:type_of% @List.length_set.{u}:=@List.length_set.{u}
theorem zh.{u}:type_of% @List.mem_cons_self.{u}:=@List.mem_cons_self.{u}
theorem zj.{u}:type_of% @List.mem_of_getElem?.{u}:=@List.mem_of_getElem?.{u}
theorem zk.{u}:type_of% @List.getElem?_set_self.{u}:=@List.getElem?_set_self.{u}
theorem zp.{u}:type_of% @List.mem_append.{u}:=@List.mem_append.{u}
theorem zr.{u}:type_of% @List.getElem?_cons_succ.{u}:=@List.getElem?_cons_succ.{u}
theorem zt.{u}:type_of% @List.getElem?_cons_zero.{u}:=@List.getElem?_cons_zero.{u}
open PySem.W (Frag nsIn findIn)
open PySem (Str)
set_option compiler.extract_closed false
set_option genSizeOf false
set_option bootstrap.genMatcherCode false
noncomputable section
namespace L2
open PySem PySem.Spec PyProof.Rows
abbrev hE:=Sum Int Str
def P6:hE->Value->Bool
 |.inl k,v=>Value.isInt k v
 |.inr x,v=>Value.isStrOf x v
def aDw(w:World):hE->Int
 |.inl k=>hashInt k
 |.inr x=>hashStr w x
theorem dD:∀{k:hE} {v:Value},P6 k v=true->(∃i t,k=Sum.inl i/\v=Value.int i t)\/(∃x t,k=Sum.inr x/\v=Value.str x t)
 |.inl i,v,h=>by
  obtain⟨t,e⟩:=Value.isInt_shape (k:=i) (v:=v) h;exact .inl ⟨i,t,rfl,e⟩
 |.inr x,v,h=>by(obtain⟨t,e⟩:=Value.isStrOf_shape (x:=x) (v:=v) h;exact .inr ⟨x,t,rfl,e⟩)
theorem ZM(a b:Int):decide ((Sum.inl a:hE)=Sum.inl b)=(a==b):=by
 by_cases e:a=b
 ·subst e;simp
 ·have h:¬(Sum.inl a:hE)=Sum.inl b:=λq=>e (Sum.inl.inj q)
  rw[Zm h];exact(beq_eq_false_iff_ne.mpr e).symm
theorem aAw(a b:Str):decide ((Sum.inr a:hE)=Sum.inr b)=decide (a=b):=by
 by_cases e:a=b
 ·subst e;simp
 ·have h:¬(Sum.inr a:hE)=Sum.inr b:=λq=>e (Sum.inr.inj q)
  rw[Zm h,Zm e]
theorem aAg(a:Int)(b:Str):decide ((Sum.inl a:hE)=Sum.inr b)=false:=Zm (λq=>nomatch q)
theorem XB(a:Str)(b:Int):decide ((Sum.inr a:hE)=Sum.inl b)=false:=Zm (λq=>nomatch q)
noncomputable def xB(prog:Program)(w:World):PySem.KeyKind prog w hE where
 is:=P6
 hash:=aDw w
 inj:=λv a b ha hb=>by
  rcases dD ha with ⟨i,t,rfl,rfl⟩ | ⟨x,t,rfl,rfl⟩
  ·rcases dD hb with ⟨j,u,rfl,e⟩ | ⟨y,u,rfl,e⟩
   ·injection e with e1 _;rw[e1]
   ·exact nomatch e
  ·rcases dD hb with ⟨j,u,rfl,e⟩ | ⟨y,u,rfl,e⟩
   ·exact nomatch e
   ·injection e with e1 _;rw[e1]
 byValue:=λk v h=>by
  rcases dD h with ⟨i,t,rfl,rfl⟩ | ⟨x,t,rfl,rfl⟩<;>rfl
 pyHash:=λhv h=>by
  rcases dD hv with ⟨i,t,rfl,rfl⟩ | ⟨x,t,rfl,rfl⟩
  ·exact wpAny_pyHash_int h
  ·exact wpAny_pyHash_str h
 eqBool:=λhu hv h=>by
  rcases dD hu with ⟨i,t,rfl,rfl⟩ | ⟨x,t,rfl,rfl⟩
  ·rcases dD hv with ⟨j,u,rfl,rfl⟩ | ⟨y,u,rfl,rfl⟩
   ·rw[ZM] at h;exact wpAny_eqBool_int h
   ·rw[aAg] at h;exact SeqAt.EqAt.int_str i t y u _ _ _ _ h
  ·rcases dD hv with ⟨j,u,rfl,rfl⟩ | ⟨y,u,rfl,rfl⟩
   ·rw[XB] at h;exact SeqAt.EqAt.str_int x t j u _ _ _ _ h
   ·rw[aAw] at h;exact wpAny_eqBool_str h
 «strs»:=λk x t v h=>by
  rcases dD h with ⟨i,u,rfl,e⟩ | ⟨y,u,rfl,e⟩
  ·exact nomatch e
  ·injection e with e1 _
   subst e1;cases v<;>rfl
inductive V where
 |non | bl (b:Bool) | int (i:Int) | str (x:Str) | byt (b:Array UInt8) | flt (b:UInt64) | ref (a:Addr) | ty (n:String)
 deriving DecidableEq
def a8:V->Value->Prop
 |.non,u=>u=Value.none
 |.bl b,u=>u=Value.bool b
 |.int i,u=>∃t,u=Value.int i t
 |.str x,u=>∃t,u=Value.str x t
 |.byt b,u=>∃t,u=Value.bytes b t
 |.flt b,u=>∃t,u=Value.float b t
 |.ref a,u=>u=Value.ref a
 |.ty n,u=>u=Value.type n
abbrev aS:List V->List Value->Prop:=Paired a8
theorem aS.length{xs:List V}{us:List Value}(r:aS xs us):xs.length=us.length:=Paired.length r
theorem aS.get:∀{xs:List V} {us:List Value} {i:Nat} {x:V},aS xs us->xs[i]?=some x->∃u,us[i]?=some u/\a8 x u
 |_,_,_,_,.nil,e=>by simp at e
 |_,_,0,_,.cons r _,e=>by simp at e;subst e;exact⟨_,rfl,r⟩
 |_,_,i+1,x,.cons _ t,e=>by(obtain⟨u,h1,h2⟩:=aS.get (i:=i) (x:=x) t (by simpa using e);exact⟨u,by simpa using h1,h2⟩)
theorem aS.set{x:V}{u:Value}(r:a8 x u):∀{xs:List V} {us:List Value} (i:Nat),aS xs us->aS (xs.set i x) (us.set i u)
 |_,_,_,.nil=>.nil
 |_,_,0,.cons _ t=>.cons r t
 |_,_,i+1,.cons q t=>.cons q (aS.set r i t)
theorem aS.append:∀{xs ys:List V} {us ws:List Value},aS xs us->aS ys ws->aS (xs++ys) (us++ws)
 |_,_,_,_,.nil,s=>s
 |_,_,_,_,.cons r t,s=>.cons r (aS.append t s)
theorem aS.take:∀{xs:List V} {us:List Value} (n:Nat),aS xs us->aS (xs.take n) (us.take n)
 |_,_,0,_=>.nil
 |_,_,_+1,.nil=>.nil
 |_,_,n+1,.cons r t=>.cons r (aS.take n t)
theorem aS.drop:∀{xs:List V} {us:List Value} (n:Nat),aS xs us->aS (xs.drop n) (us.drop n)
 |_,_,0,r=>r
 |_,_,_+1,.nil=>.nil
 |_,_,n+1,.cons _ t=>aS.drop n t
def lZ:Option V->Option Value->Prop
 |some v,some u=>a8 v u
 |none,none=>True
 |_,_=>False
def KV{κ:Type}:List (κ×V)->List (κ×Value)->Prop:=Paired λ(p:κ×V) (q:κ×Value)=>p.1=q.1/\a8 p.2 q.2
def kV:hE->V
 |.inl i=>.int i
 |.inr x=>.str x
inductive HO where
 |lst (xs:List V)
 |tup (xs:List V)
 |dK (kvs:List (hE×V)) | dT (kvs:List (List hE×V))
 |set (S:Int->Bool) (n:Nat)
 |ins (C dx:Addr) (fs:List (Str×V))
 |own (x:Addr)
 |xd (fs:List (Str×V))
 |met (f x:Addr)
 |rng (lo hi:Int)
 |frz (o:Obj) (u:HO)
 |tbl (ps:Array Value)
 |ext (φ:Heap->Prop)
abbrev Hp:=Addr->Option HO
def aW(H:Hp)(a:Addr)(o:HO):Hp:=λb=>if b=a then some o else H b
theorem bB{H:Hp}{a:Addr}{o:HO}:aW H a o a=some o:=by unfold aW;rw[Zo rfl]
theorem aO{H:Hp}{a b:Addr}{o:HO}(h:b≠a):aW H a o b=H b:=by unfold aW;rw[Zp h]
theorem bN{H:Hp}{a b:Addr}{o:HO}(h:H a=some o)(h':H b=none):a≠b:=by
 intro e;subst e;rw[h] at h';cases h'
section
variable(P:Program)(w:World)
def eS(H:Hp)(h:Heap)(a:Addr):HO->Prop
 |.lst xs=>xs.length<=sizeLine/\∃(its:List Value) (n:Nat),aS xs its/\h.get? a=some { cls:=.type "list",data:=.seq its.toArray n }
 |.tup xs=>xs.length<=sizeLine/\∃its:List Value,aS xs its/\IsTup h a its.toArray
 |.dK kvs=>kvs.length<=sizeLine/\(a==sysModules)=false/\∃vs,KV kvs vs/\h.DictOf (xB P w) a vs
 |.dT kvs=>kvs.length<=sizeLine/\(a==sysModules)=false/\∃xs:List (List hE×Addr×Value),
   Paired (λ(p:List hE×V) (q:List hE×Addr×Value)=>p.1=q.1/\H q.2.1=some (.tup (p.1.map kV))/\a8 p.2 q.2.2) kvs xs /\
   ∃o es ep,h.get? a=some o/\o.ExactDict/\o.data=.dict es ep/\es.toList=xs.map (entryOfKey (tupleKind (xB P w)))/\(xs.map (·.1)).Nodup
 |.set S n=>h.SetOf (intKind P w) a S n
 |.ins C dx fs=>H dx=some (.own a)/\fs.length<=1000/\dx≠a/\h.get? a=some (PySem.W.instObj C dx) /\
   ∃mA,h.Ns1 dx mA/\(∀f,lZ (fs.lookup f) (mA f))/\PySem.Within mA (fs.map (·.1))
 |.own _=>∃o,h.get? a=some o
 |.xd fs=>∃mA,h.Ns1 a mA/\∀f,lZ (fs.lookup f) (mA f)
 |.rng lo hi=>∃t u v,h.get? a=some { cls:=.type "range",data:=.fields #[.int lo t,.int hi u,.int 1 v] }
 |.frz o u=>h.get? a=some o/\eS H h a u
 |.tbl ps=>h.get? a=some { cls:=.none,data:=.fields ps }
 |.met f x=>h.get? a=some (PySem.W.methodObj (.ref f) (.ref x))
 |.ext φ=>φ h/\(∃o,h.get? a=some o)/\∀h1 h2:Heap,φ h1->(∀o,h1.get? a=some o->h2.get? a=some o)->φ h2
def gC(H:Hp)(h:Heap):Prop:=∀a o,H a=some o->eS P w H h a o
end
section
variable{P:Program}{w:World}{H H':Hp}{h h':Heap}{a:Addr}{o:HO}
theorem eS.lt(x:eS P w H h a o):a<h.objs.size:=by
 cases o with
 |lst xs=>obtain⟨_,_,_,_,e⟩:=x;exact Zv e
 |tup xs=>obtain⟨_,_,_,p⟩:=x;exact p.lt
 |dK kvs=>obtain⟨_,_,_,_,o,_,_,e,_⟩:=x;exact Zv e
 |dT kvs=>obtain⟨_,_,_,_,o,_,_,e,_⟩:=x;exact Zv e
 |set S n=>obtain⟨o,_,_,_,e,_⟩:=x;exact Zv e
 |ins C dx fs=>obtain⟨_,_,_,e,_⟩:=x;exact Zv e
 |own y=>obtain⟨_,e⟩:=x;exact Zv e
 |xd fs=>obtain⟨_,⟨_,_,_,e,_⟩,_⟩:=x;exact Zv e
 |rng lo hi=>obtain⟨_,_,_,e⟩:=x;exact Zv e
 |frz ob u=>obtain⟨e,_⟩:=x;exact Zv e
 |tbl ps=>exact Zv (show h.get? a=some _ from x)
 |met f y=>exact Zv (show h.get? a=some _ from x)
 |ext φ=>obtain⟨_,⟨_,e⟩,_⟩:=x;exact Zv e
theorem Paired.mapP{α β:Type}{F G:α->β->Prop}:∀{l₁:List α} {l₂:List β},Paired F l₁ l₂->(∀a b,F a b->G a b)->Paired G l₁ l₂
 |_,_,.nil,_=>.nil
 |_,_,.cons r t,f=>.cons (f _ _ r) (Paired.mapP t f)
theorem eS.stay(x:eS P w H h a o)(k:∀b u,(b=a\/H b=some (.own a))->h.get? b=some u->h'.get? b=some u)
  (ho:∀b,H b=some (.own a)->H' b=some (.own a)) (ht:∀b xs,H b=some (.tup xs)->H' b=some (.tup xs)):eS P w H' h' a o:=by
 induction o with
 |lst xs=>obtain⟨z,its,n,r,e⟩:=x;exact⟨z,its,n,r,k _ _ (.inl rfl) e⟩
 |tup xs=>obtain⟨z,its,r,ob,e,c⟩:=x;exact⟨z,its,r,ob,k _ _ (.inl rfl) e,c⟩
 |dK kvs=>obtain⟨z,y,vs,r,ob,es,ep,e,c⟩:=x;exact⟨z,y,vs,r,ob,es,ep,k _ _ (.inl rfl) e,c⟩
 |dT kvs =>
  obtain⟨z,y,xs,r,ob,es,ep,e,c⟩:=x;exact⟨z,y,xs,Paired.mapP r λp q z=>⟨z.1,ht _ _ z.2.1,z.2.2⟩,ob,es,ep,k _ _ (.inl rfl) e,c⟩
 |set S n=>obtain⟨ob,es,ep,t,e,c⟩:=x;exact⟨ob,es,ep,t,k _ _ (.inl rfl) e,c⟩
 |ins C dx fs =>
  obtain⟨d,z,ne,e,mA,⟨od,es,ep,e2,c⟩,r⟩:=x;exact⟨ho _ d,z,ne,k _ _ (.inl rfl) e,mA,⟨od,es,ep,k _ _ (.inr d) e2,c⟩,r⟩
 |own y=>obtain⟨ob,e⟩:=x;exact⟨ob,k _ _ (.inl rfl) e⟩
 |xd fs=>obtain⟨mA,⟨od,es,ep,e,c⟩,r⟩:=x;exact⟨mA,⟨od,es,ep,k _ _ (.inl rfl) e,c⟩,r⟩
 |rng lo hi=>obtain⟨t,u,v,e⟩:=x;exact⟨t,u,v,k _ _ (.inl rfl) e⟩
 |frz ob u ih=>obtain⟨e,q⟩:=x;exact⟨k _ _ (.inl rfl) e,ih q⟩
 |tbl ps =>
  have e:h.get? a=some { cls:=.none,data:=.fields ps }:=x;show h'.get? a=some { cls:=.none,data:=.fields ps };exact k a _ (.inl rfl) e
 |met f y =>
  have e:h.get? a=some (PySem.W.methodObj (.ref f) (.ref y)):=x;show h'.get? a=some (PySem.W.methodObj (.ref f) (.ref y));exact k a _ (.inl rfl) e
 |ext φ=>obtain⟨p,⟨o,e⟩,st⟩:=x;exact⟨st _ _ p λo q=>k _ _ (.inl rfl) q,⟨o,k _ _ (.inl rfl) e⟩,st⟩
theorem gC.lt(x:gC P w H h)(e:H a=some o):a<h.objs.size:=(x a o e).lt
theorem gC.fresh(x:gC P w H h)(e:h.objs.size<=a):H a=none:=by
 cases q:H a with
 |none=>rfl
 |some u=>exact absurd (Zl (x.lt q) e) (Nat.lt_irrefl _)
theorem gC.kept(x:gC P w H h)(k:∀b u,h.get? b=some u->h'.get? b=some u):gC P w H h':=λa o e =>
 (x a o e).stay (λb u _ q=>k b u q) (λ_ q=>q) λ_ _ q=>q
theorem gC.laid(x:gC P w H h)(k:∀b u,h.get? b=some u->h'.get? b=some u)(hp:h.objs.size<=a)(new:eS P w (aW H a o) h' a o):gC P w (aW H a o) h':=λb u e=>by
 have hn:=x.fresh hp;by_cases hb:b=a
 ·subst hb;rw[bB] at e;cases e;exact new
 ·rw[aO hb] at e;exact(x b u e).stay (λc v _ q=>k c v q) (λc q=>by rw[aO (bN q hn)];exact q) λc xs q=>by rw[aO (bN q hn)];exact q
end
def Rd(H:Hp)(a:Addr)(u:HO):Prop:=H a=some u\/∃o,H a=some (.frz o u)
theorem Rd.ok{P:Program}{w:World}{H:Hp}{h:Heap}{a:Addr}{u:HO}(r:Rd H a u)(x:gC P w H h):eS P w H h a u:=by
 rcases r with r | ⟨o,r⟩
 ·exact x a u r
 ·obtain⟨_,q⟩:=x a _ r;exact q
def RC:Option HO->Prop
 |some (.lst _)=>True
 |some (.dK _)=>True
 |some (.dT _)=>True
 |some (.set _ _)=>True
 |some (.ins _ _ _)=>True
 |some (.ext _)=>True
 |_=>False
section
variable{P:Program}{w:World}{H:Hp}{h h':Heap}{x e:Addr}{o':HO}
theorem gC.write(ok:gC P w H h)(mu:RC (H x))(he:e=x\/H e=some (.own x))(k:∀b u,b≠e->h.get? b=some u->h'.get? b=some u)(heo:∃u,h'.get? e=some u)
  (new:eS P w (aW H x o') h' x o'):gC P w (aW H x o') h':=λb u q=>by
 have nown:∀c y,H c=some (.own y)->c≠x:=λc y r z=>by subst z;rw[r] at mu;exact mu
 have ntup:∀c xs,H c=some (.tup xs)->c≠x:=λc xs r z=>by subst z;rw[r] at mu;exact mu
 by_cases hb:b=x
 ·subst hb;rw[bB] at q;cases q;exact new
 ·rw[aO hb] at q;by_cases hbe:b=e
  ·have q':H b=some (.own x):=by
    rcases he with z | z
    ·exact absurd (hbe.trans z) hb
    ·rw[hbe];exact z
   rw[q] at q';cases q';obtain⟨v,hv⟩:=heo;exact⟨v,by rw[hbe];exact hv⟩
  ·refine(ok b u q).stay (λc v hc r=>k c v ?_ r) (λc r=>by rw[aO (nown c b r)];exact r) λc xs r=>by rw[aO (ntup c xs r)];exact r
   rcases hc with rfl | hc
   ·exact hbe
   ·rintro rfl
    rcases he with z | z
    ·exact nown c b hc z
    ·rw[hc] at z;cases z;exact hb rfl
end
structure Un(fs ex:List Addr)(H H':Hp)(h h':Heap):Prop where
 keep:∀b o,h.get? b=some o->H b=none->b ∉ fs->b ∉ ex->h'.get? b=some o
 slot:∀b o,h.get? b=some o->H b=none->b∈fs->b ∉ ex->∃sl,h'.get? b=some { o with slots:=sl }
 free:∀b o,h.get? b=some o->H b=none->b ∉ ex->H' b=none
 there:∀b o,h.get? b=some o->b ∉ ex->∃o',h'.get? b=some o'
 tups:∀b xs,H b=some (.tup xs)->H' b=some (.tup xs)
 frzs:∀b o u,H b=some (.frz o u)->H' b=some (.frz o u)
 tbls:∀b ps,H b=some (.tbl ps)->∃more,H' b=some (.tbl (ps++more))
section
variable{fs fs' ex ex':List Addr}{H H1 H2:Hp}{h h1 h2 h':Heap}{a x e:Addr}{o:HO}
theorem Un.any(u:Un fs ex H H1 h h1){b:Addr}{ob:Obj}(q:h.get? b=some ob)(n:H b=none)(hx:b ∉ ex):∃sl,h1.get? b=some { ob with slots:=sl }:=by
 by_cases hb:b∈fs
 ·exact u.slot b ob q n hb hx
 ·exact⟨ob.slots,u.keep b ob q n hb hx⟩
theorem Un.kept(k:∀b u,h.get? b=some u->h'.get? b=some u):Un fs ex H H h h' :=
 ⟨λb ob q _ _ _=>k b ob q,λb ob q _ _ _=>⟨ob.slots,k b ob q⟩,λ_ _ _ n _=>n,λb ob q _=>⟨ob,k b ob q⟩,λ_ _ q=>q,λ_ _ _ q=>q,λ_ ps q=>⟨#[],by rw[q];simp⟩⟩
theorem Un.refl:Un fs ex H H h h:=Un.kept λ_ _ q=>q
theorem Un.laid(k:∀b u,h.get? b=some u->h'.get? b=some u)(hp:h.objs.size<=a)(hn:H a=none):Un fs ex H (aW H a o) h h' where
 keep:=λb u q _ _ _=>k b u q
 slot:=λb u q _ _ _=>⟨u.slots,k b u q⟩
 free:=λb u q n _=>by rw[aO (Zz (Zl (Zv q) hp))];exact n
 there:=λb u q _=>⟨u,k b u q⟩
 tups:=λb xs q=>by rw[aO (bN q hn)];exact q
 frzs:=λb u xs q=>by rw[aO (bN q hn)];exact q
 tbls:=λb ps q=>⟨#[],by rw[aO (bN q hn),q];simp⟩
theorem Un.write(mu:RC (H x))(he:e=x\/H e=some (.own x))(k:∀b u,b≠e->h.get? b=some u->h'.get? b=some u)(heo:∃u,h'.get? e=some u):Un fs ex H (aW H x o) h h':=by
 have hx:∀b,H b=none->b≠x:=λb n z=>by subst z;rw[n] at mu;exact mu
 have hb:∀b,H b=none->b≠e:=λb n z=>by
  subst z;rcases he with r | r
  ·exact hx b n r
  ·rw[n] at r;cases r
 have hm:∀b u,H b=some u->¬RC (some u)->b≠x:=λb u q nm z=>by subst z;rw[q] at mu;exact nm mu
 refine⟨λb u q n _ _=>k b u (hb b n) q,λb u q n _ _=>⟨u.slots,k b u (hb b n) q⟩,λb u q n _=>by rw[aO (hx b n)];exact n,λb u q _=>?_,
  λb xs q=>by rw[aO (hm b _ q λz=>z)];exact q,λb u xs q=>by rw[aO (hm b _ q λz=>z)];exact q,λb ps q=>⟨#[],by rw[aO (hm b _ q λz=>z),q];simp⟩⟩
 by_cases hbe:b=e
 ·subst hbe;exact heo
 ·exact⟨u,k b u hbe q⟩
end
def QY(h:Heap)(H:Hp):List Addr:=(List.range h.objs.size).filter λa=>(H a).isSome
def nK(h:Heap)(H:Hp):Heap:=PySem.W.hideAll h (QY h H)
theorem JS(h:Heap)(H:Hp):(nK h H).objs.size=h.objs.size:=PySem.W.hideAll_size _ _
theorem M7{h:Heap}{H:Hp}{b:Addr}{o:Obj}(e:h.get? b=some o)(n:H b=none):(nK h H).get? b=some o :=
 PySem.W.hideAll_get _ e λhm=>by(have q:(H b).isSome=true:=(List.mem_filter.mp hm).2;rw[n] at q;simp at q)
theorem TR{h:Heap}{H:Hp}{b:Addr}{o:Obj}(e:(nK h H).get? b=some o):h.get? b=some o/\H b=none:=by
 have e':h.get? b=some o:=PySem.W.of_hideAll (QY h H) e;refine⟨e', ?_⟩
 cases q:H b with
 |none=>rfl
 |some x =>
  have hm:b∈QY h H:=List.mem_filter.mpr ⟨List.mem_range.mpr (Zv e'),by simp[q]⟩;have z:(nK h H).get? b=none:=PySem.W.hideAll_none (QY h H) hm;rw[z] at e;cases e
noncomputable def RT(g h:Heap)(L:Addr):List (Addr×Obj):=(List.range h.objs.size).filterMap λa=>if a=L\/(g.get? a).isSome=true then none else(h.get? a).map λo=>(a,o)
def fT(g h:Heap)(L d:Addr):List (Addr×Obj):=(RT g h L).filter λp=>decide (p.1≠d)
structure Mod(K:Frag)(mg:Str->Option Value)(base:Heap):Prop where
 kin:K.In base
 glob:base.Ns mainGlobals mg
 blt:∃mb,base.Ns builtinsNs mb/\∀x:Str,x≠"__name__"->mb x=bootBuiltins x
 nolimit:base.NoLimit
structure Cx where
 prog:Program
 w:World
 K:Frag
 mg:Str->Option Value
 base:Heap
 A:Around
 N:List Str
 s₀:Shared
 H₀:Hp
 env:Env
 outer:List Env
 stack:List Env
 ex:List Addr
 fn:Str->Bool
 calm:Bool
 pn:List (Addr×Obj)
 xe:Value->Shared->Prop
def pV(l:List Env):List Addr:=l.filterMap (·.frame)
abbrev Cx.fs(X:Cx):List Addr:=pV X.outer
def IH(sc:Scope)(x:Str):Prop:=sc.names.lookup x=some .local\/sc.names.lookup x=some .cell\/sc.names.lookup x=some .free
def yX(sc:Scope)(x:Str):Prop:=sc.names.lookup x=some .local\/sc.names.lookup x=some .cell
def aDO(env:Env)(h:Heap)(m:Str->Option Value)(x:Str)(u:Value):Prop :=
 (env.kindOf x=some .local/\m x=some u)\/((env.kindOf x=some .cell\/env.kindOf x=some .free)/\∃c,env.cells.lookup x=some c/\h.IsCell c (some u))
structure Cx.Ok(X:Cx):Prop where
 mod:Mod X.K X.mg X.base
 kind:X.env.scope.kind=.function
 glob:X.env.globals=mainGlobals
 blt:X.env.builtins=builtinsNs
 above:X.s₀.heap.objs.size<=X.env.locals
 inj:∀x y c,X.env.cells.lookup x=some c->X.env.cells.lookup y=some c->x=y
 has:∀x,(X.env.kindOf x=some .cell\/X.env.kindOf x=some .free)->∃c,X.env.cells.lookup x=some c
 cab:∀x c,X.fn x=true->X.env.cells.lookup x=some c->X.s₀.heap.objs.size<=c
 hd:X.calm=true->X.A.handled=none
 frames:X.A.frames=some X.stack
 stk:X.stack=X.outer\/(X.stack=X.env::X.outer/\X.env.frame=some X.env.locals)
 exf:∀b∈X.ex,b≠X.env.locals/\∀x c,X.env.cells.lookup x=some c->c≠b
 bs:∀b o,X.base.get? b=some o->X.s₀.heap.get? b=some o/\X.H₀ b=none
 bsz:X.base.objs.size<=X.s₀.heap.objs.size
 noex:∀b o,X.base.get? b=some o->b ∉ X.ex
 exfs:∀b∈X.ex,b ∉ X.fs
 funs:X.s₀.heap.FunFrames X.base X.outer
 frf:∀b∈X.fs,X.H₀ b=none
structure Inv(X:Cx)(pins:List (Addr×Obj))(σ:List (Option V))(H:Hp)(s:Shared):Prop where
 ok:X.Ok
 os:s.os=X.s₀.os
 bare:AllBare s.gens
 base:Un X.fs X.ex X.H₀ H X.s₀.heap s.heap
 loc:∃m,s.heap.Ns X.env.locals m/\∀(i:Nat) (x:Str) (v:V),X.N[i]?=some x->σ[i]?=some (some v)->IH X.env.scope x->∃u,a8 v u/\aDO X.env s.heap m x u
 cell:∀x c,X.env.cells.lookup x=some c->∃v,s.heap.IsCell c v
 free:H X.env.locals=none
 freeC:∀x c,X.env.cells.lookup x=some c->H c=none
 pin:∀p∈X.pn++pins,s.heap.get? p.1=some p.2/\H p.1=none/\p.1≠X.env.locals/\p.1 ∉ X.fs/\∀v,p.2.data≠.cell v
 hok:gC X.prog X.w H s.heap
 len:σ.length=X.N.length
section
variable{X:Cx}{pins:List (Addr×Obj)}{σ:List (Option V)}{H H':Hp}{s:Shared}{h':Heap}
theorem Cx.Ok.nofr(ok:X.Ok){b:Addr}{o:Obj}(e:X.base.get? b=some o):b ∉ X.fs:=λhb=>by
 have:=(ok.funs.mem hb).1
 rw[e] at this;cases this
theorem Inv.bs(I:Inv X pins σ H s):∀b o,X.base.get? b=some o->s.heap.get? b=some o/\H b=none:=λb o e =>
 ⟨I.base.keep b o (I.ok.bs b o e).1 (I.ok.bs b o e).2 (I.ok.nofr e) (I.ok.noex b o e),I.base.free b o (I.ok.bs b o e).1 (I.ok.bs b o e).2 (I.ok.noex b o e)⟩
theorem Inv.bk(I:Inv X pins σ H s):∀b o,X.base.get? b=some o->s.heap.get? b=some o:=λb o e=>(I.bs b o e).1
theorem Inv.mod(I:Inv X pins σ H s):Mod X.K X.mg X.base:=I.ok.mod
theorem Inv.kIn(I:Inv X pins σ H s):X.K.In s.heap:=I.ok.mod.kin.keeps I.bk
theorem Inv.lt(I:Inv X pins σ H s):X.env.locals<s.heap.objs.size:=let ⟨_,hn,_⟩:=I.loc;hn.lt
theorem Inv.sz(I:Inv X pins σ H s):X.s₀.heap.objs.size<=s.heap.objs.size:=Zr I.ok.above (Nat.le_of_lt I.lt)
theorem Inv.nofs(I:Inv X pins σ H s){a:Addr}(h:s.heap.objs.size<=a):a ∉ X.fs:=λhb=>by
 obtain⟨_,o,ho,_⟩:=I.ok.funs.mem hb;exact absurd (Zl (Zv ho) (Zr I.sz h)) (Nat.lt_irrefl _)
theorem Inv.cne(I:Inv X pins σ H s):∀x c,X.env.cells.lookup x=some c->c≠X.env.locals:=λx c e z=>by
 obtain⟨v,o,ho,hd⟩:=I.cell x c e;obtain⟨m,⟨o',es,ep,ho',hd',_⟩,_⟩:=I.loc;rw[z,ho'] at ho;cases ho;rw[hd'] at hd;cases hd
theorem Inv.funs(I:Inv X pins σ H s):s.heap.FunFrames X.base X.outer:=by
 have all:∀(l:List Env),(∀b∈pV l,b∈X.fs)->X.s₀.heap.FunFrames X.base l->s.heap.FunFrames X.base l:=by
  intro l
  induction l with
  |nil=>intro _ _;trivial
  |cons env r ih =>
   intro hs hl;obtain⟨hk,⟨L,o,hf,hn,ho,hd⟩,hr⟩:=hl;have hL:L∈X.fs:=hs L (by unfold pV;rw[List.filterMap_cons,hf];exact zh);obtain⟨sl,e⟩:=I.base.slot L o ho (I.ok.frf L hL) hL λz=>I.ok.exfs L z hL
   exact⟨hk,⟨L,_,hf,hn,e,hd⟩,ih (λb hb=>hs b (by unfold pV;rw[List.filterMap_cons,hf];exact Ze _ hb)) hr⟩
 exact all X.outer (λ_ hb=>hb) I.ok.funs
theorem Inv.stack(I:Inv X pins σ H s):s.heap.FunFrames X.base X.stack:=by
 rcases I.ok.stk with e | ⟨e,hf⟩
 ·rw[e];exact I.funs
 ·rw[e];obtain⟨m,hn,_⟩:=I.loc;refine .cons (by rw[I.ok.kind];decide) hf hn ?_ I.funs;exact Heap.get?_none_of_le (Zr I.ok.bsz I.ok.above)
theorem Inv.stkSub(I:Inv X pins σ H s):∀b∈pV X.stack,b∈X.env.locals::X.fs:=λb hb=>by
 rcases I.ok.stk with e | ⟨e,hf⟩
 ·rw[e] at hb;exact Ze _ hb
 ·rw[e] at hb;unfold pV at hb;rw[List.filterMap_cons,hf] at hb;exact hb
theorem Inv.stkFree(I:Inv X pins σ H s):∀b∈pV X.stack,H b=none:=λb hb=>by
 rcases List.mem_cons.mp (I.stkSub b hb) with e | hb
 ·rw[e];exact I.free
 ·obtain⟨_,o,ho,_⟩:=I.ok.funs.mem hb;exact I.base.free b o ho (I.ok.frf b hb) λz=>I.ok.exfs b z hb
theorem Inv.step{g':Array GenState}{t':Nat}{d':Drawn}{ch:List Addr}(I:Inv X pins σ H s)
  (hch:∀b∈ch,(b∈X.ex\/X.s₀.heap.get? b=none)/\b≠X.env.locals/\(∀x c,X.env.cells.lookup x=some c->c≠b)/\∀p∈X.pn++pins,p.1≠b)
  (keep:∀b o,b≠X.env.locals->b ∉ X.fs->b ∉ ch->s.heap.get? b=some o->H b=none->h'.get? b=some o)
  (slot:∀b o,b≠X.env.locals->b∈X.fs->b ∉ ch->s.heap.get? b=some o->H b=none->∃sl,h'.get? b=some { o with slots:=sl }) (free:∀b o,b ∉ ch->s.heap.get? b=some o->H b=none->H' b=none)
  (there:∀b o,b ∉ ch->s.heap.get? b=some o->∃o',h'.get? b=some o')
  (tups:∀b xs,H b=some (.tup xs)->H' b=some (.tup xs)) (frzs:∀b o u,H b=some (.frz o u)->H' b=some (.frz o u)) (tbls:∀b ps,H b=some (.tbl ps)->∃more,H' b=some (.tbl (ps++more)))
  (ns:∀m,s.heap.Ns X.env.locals m->h'.Ns X.env.locals m) (hok:gC X.prog X.w H' h') (hg:AllBare g') :
  Inv X pins σ H' { s with heap:=h',gens:=g',drawn:=d',toks:=t' }:=by
 have neL:∀b o,X.s₀.heap.get? b=some o->b≠X.env.locals:=λb o e=>Zz (Zl (Zv e) I.ok.above)
 have neC:∀b o,X.s₀.heap.get? b=some o->b ∉ X.ex->b ∉ ch:=λb o e hx hb=>by
  rcases(hch b hb).1 with z | z
  ·exact hx z
  ·rw[z] at e;cases e
 have cellK:∀x c,X.env.cells.lookup x=some c->∀v,s.heap.IsCell c v->h'.IsCell c v:=λx c e v ⟨o,ho,hd⟩=>by
  have nch:c ∉ ch:=λz=>(hch c z).2.2.1 x c e rfl
  by_cases hc:c∈X.fs
  ·obtain⟨sl,q⟩:=slot c o (I.cne x c e) hc nch ho (I.freeC x c e);exact⟨_,q,hd⟩
  ·exact⟨o,keep c o (I.cne x c e) hc nch ho (I.freeC x c e),hd⟩
 refine⟨I.ok,I.os,hg,⟨λb o e n hb hx=>?_,λb o e n hb hx=>?_,λb o e n hx=>?_,λb o e hx=>?_,λb xs e=>tups b xs (I.base.tups b xs e),λb o xs e=>frzs b o xs (I.base.frzs b o xs e),λb ps e=>?_⟩, ?_,λx c e=>?_, ?_,λx c e=>?_,λp hp=>?_,hok,I.len⟩
 ·exact keep b o (neL b o e) hb (neC b o e hx) (I.base.keep b o e n hb hx) (I.base.free b o e n hx)
 ·obtain⟨sl,e1⟩:=I.base.slot b o e n hb hx;obtain⟨sl',e2⟩:=slot b _ (neL b o e) hb (neC b o e hx) e1 (I.base.free b o e n hx);exact⟨sl',e2⟩
 ·obtain⟨o',e1⟩:=I.base.there b o e hx;exact free b o' (neC b o e hx) e1 (I.base.free b o e n hx)
 ·obtain⟨o',e1⟩:=I.base.there b o e hx;exact there b o' (neC b o e hx) e1
 ·obtain⟨m1,e1⟩:=I.base.tbls b ps e;obtain⟨m2,e2⟩:=tbls b _ e1;exact⟨m1++m2,by rw[e2,Array.append_assoc]⟩
 ·obtain⟨m,hn,hl⟩:=I.loc;refine⟨m,ns m hn,λi x v e1 e2 e3=>?_⟩;obtain⟨u,r,l⟩:=hl i x v e1 e2 e3;refine⟨u,r, ?_⟩;rcases l with l | ⟨k,c,e,z⟩
  ·exact .inl l
  ·exact .inr ⟨k,c,e,cellK x c e _ z⟩
 ·obtain⟨v,z⟩:=I.cell x c e;exact⟨v,cellK x c e v z⟩
 ·obtain⟨m,⟨o,_,_,ho,_⟩,_⟩:=I.loc;exact free _ o (λz=>(hch _ z).2.1 rfl) ho I.free
 ·obtain⟨v,o,ho,hd⟩:=I.cell x c e;exact free c o (λz=>(hch c z).2.2.1 x c e rfl) ho (I.freeC x c e)
 ·obtain⟨e,n,ne,nf,d⟩:=I.pin p hp;have nch:p.1 ∉ ch:=λz=>(hch p.1 z).2.2.2 p hp rfl
  exact⟨keep p.1 p.2 ne nf nch e n,free p.1 p.2 nch e n,ne,nf,d⟩
theorem Inv.un{t':Nat}(I:Inv X pins σ H s)(u:Un X.fs [] H H' s.heap h')(hok:gC X.prog X.w H' h'):Inv X pins σ H' { s with heap:=h',toks:=t' }:=by
 obtain⟨m,⟨o,es,ep,ho,r⟩,_⟩:=id I.loc;obtain⟨sl,hL⟩:=u.any ho I.free (by simp)
 exact I.step (g':=s.gens) (d':=s.drawn) (ch:=[]) (λ_ z=>nomatch z) (λb o _ hb _ e n=>u.keep b o e n hb (by simp)) (λb o _ hb _ e n=>u.slot b o e n hb (by simp)) (λb o _ e n=>u.free b o e n (by simp)) (λb o _ e=>u.there b o e (by simp)) u.tups u.frzs u.tbls (λm' hm=>by
  obtain⟨o',es',ep',ho',r'⟩:=hm;rw[ho] at ho';cases ho'
  exact⟨_,es',ep',hL,r'⟩) hok I.bare
theorem Inv.call{g':Array GenState}{t':Nat}{d':Drawn}{ch:List Addr}(I:Inv X pins σ H s)(u:Un (pV X.stack) ch H H' s.heap h')(hok:gC X.prog X.w H' h')(hg:AllBare g')
  (hch:∀b∈ch,(b∈X.ex\/X.s₀.heap.get? b=none)/\b≠X.env.locals/\(∀x c,X.env.cells.lookup x=some c->c≠b)/\∀p∈X.pn++pins,p.1≠b) :
  Inv X pins σ H' { s with heap:=h',gens:=g',drawn:=d',toks:=t' }:=by
 obtain⟨m,⟨o,es,ep,ho,r⟩,_⟩:=id I.loc;obtain⟨sl,hL⟩:=u.any ho I.free λz=>(hch _ z).2.1 rfl
 exact I.step (ch:=ch) hch (λb o hL hb hc e n=>u.keep b o e n (λz=>(List.mem_cons.mp (I.stkSub b z)).elim hL hb) hc) (λb o _ _ hc e n=>u.any e n hc) (λb o hc e n=>u.free b o e n hc) (λb o hc e=>u.there b o e hc) u.tups u.frzs u.tbls (λm' hm=>by
  obtain⟨o',es',ep',ho',r'⟩:=hm;rw[ho] at ho';cases ho'
  exact⟨_,es',ep',hL,r'⟩) hok hg
theorem Inv.turned{t':Nat}{it:Addr}(I:Inv X pins σ H s)(k:∀b o,b≠it->s.heap.get? b=some o->h'.get? b=some o)(hn:H it=none)(hL:it≠X.env.locals)
  (h1:it∈X.ex\/X.s₀.heap.get? it=none) (h2:∀x c,X.env.cells.lookup x=some c->c≠it) (h3:∀p∈X.pn++pins,p.1≠it):Inv X pins σ H { s with heap:=h',toks:=t' }:=by
 have nit:∀b u,H b=some u->b≠it:=λb u e z=>by rw[z,hn] at e;cases e
 refine I.step (g':=s.gens) (d':=s.drawn) (ch:=[it]) (λb hb=>?_) (λb o _ _ hc e _=>k b o (λz=>hc (by simp[z])) e) (λb o _ _ hc e _=>⟨o.slots,k b o (λz=>hc (by simp[z])) e⟩) (λ_ _ _ _ n=>n)
  (λb o hc e=>⟨o,k b o (λz=>hc (by simp[z])) e⟩) (λ_ _ e=>e) (λ_ _ _ e=>e) (λb ps e=>⟨#[],by rw[e];simp⟩) (λm hm=>?_) (λb u e=>?_) I.bare
 ·have e:b=it:=by simpa using hb
  subst e;exact⟨h1,hL,h2,h3⟩
 ·obtain⟨o,es,ep,ho,r⟩:=hm;exact⟨o,es,ep,k _ o (Ne.symm hL) ho,r⟩
 ·refine(I.hok b u e).stay (λc v hc q=>k c v ?_ q) (λ_ q=>q) λ_ _ q=>q
  rcases hc with z | z
  ·rw[z];exact nit b u e
  ·exact nit c _ z
theorem Inv.tok(I:Inv X pins σ H s)(t:Nat):Inv X pins σ H { s with toks:=t }:=I.un (h':=s.heap) (t':=t) Un.refl I.hok
theorem Inv.kept{t':Nat}(I:Inv X pins σ H s)(k:∀b u,s.heap.get? b=some u->h'.get? b=some u):Inv X pins σ H { s with heap:=h',toks:=t' }:=I.un (Un.kept k) (I.hok.kept k)
theorem Inv.laid{a:Addr}{o:HO}{t':Nat}(I:Inv X pins σ H s)(k:∀b u,s.heap.get? b=some u->h'.get? b=some u)(hp:s.heap.objs.size<=a)(new:eS X.prog X.w (aW H a o) h' a o) :
  Inv X pins σ (aW H a o) { s with heap:=h',toks:=t' }:=I.un (Un.laid k hp (I.hok.fresh hp)) (I.hok.laid k hp new)
theorem Inv.write{x e:Addr}{o:HO}{t':Nat}(I:Inv X pins σ H s)(mu:RC (H x))(he:e=x\/H e=some (.own x))(k:∀b u,b≠e->s.heap.get? b=some u->h'.get? b=some u)(heo:∃u,h'.get? e=some u)
  (new:eS X.prog X.w (aW H x o) h' x o):Inv X pins σ (aW H x o) { s with heap:=h',toks:=t' }:=I.un (Un.write mu he k heo) (I.hok.write mu he k heo new)
theorem Inv.pins_of{pins':List (Addr×Obj)}(I:Inv X pins σ H s)(h:∀p∈pins',s.heap.get? p.1=some p.2/\H p.1=none/\p.1≠X.env.locals/\p.1 ∉ X.fs/\∀v,p.2.data≠.cell v):Inv X pins' σ H s :=
 ⟨I.ok,I.os,I.bare,I.base,I.loc,I.cell,I.free,I.freeC,λp hp=>(zp.mp hp).elim (λz=>I.pin p (List.mem_append_left _ z)) (h p),I.hok,I.len⟩
theorem C1{N:List Str}(hN:N.Nodup){i j:Nat}{x:Str}(a:N[i]?=some x)(b:N[j]?=some x):i=j:=by
 obtain⟨h1,e1⟩:=Zc.mp a;obtain⟨h2,e2⟩:=Zc.mp b;exact(List.getElem_inj hN).mp (e1.trans e2.symm)
theorem yP{M:Model}{A:Around}{E:Value->Shared->Prop}{i:Nat}{x:Str}{v:V}{u:Value}{Q:Unit->Shared->Prop}(I:Inv X pins σ H s)(hN:X.N.Nodup)(hi:X.N[i]?=some x)(hx:yX X.env.scope x)(r:a8 v u)
  (h:∀s',Inv X pins (σ.set i (some v)) H s'->(∃a,Heap.SameBut a s.heap s'.heap/\(a=X.env.locals\/X.env.cells.lookup x=some a))->Q () s') (hf:X.fn x=true\/X.env.scope.names.lookup x=some .local:=by first | exact .inl rfl | exact .inr rfl | assumption):wpAny M A (storeName X.env x u) Q E s:=by
 obtain⟨m,hn,hl⟩:=id I.loc;have hcls:(X.env.scope.kind==.class||(X.env.scope.kind==.module&&X.env.locals != X.env.globals))=false:=by rw[I.ok.kind];rfl
 have hiσ:i<σ.length:=by rw[I.len];exact(Zc.mp hi).1
 have cne:=I.cne
 have tracked:∀{a:Addr} {h':Heap},(∃o,s.heap.get? a=some o/\H a=none)->Heap.SameBut a s.heap h'->gC X.prog X.w H h':=λ{a h'} ha hs b ob e=>by
  obtain⟨_,_,hfree⟩:=ha;refine(I.hok b ob e).stay (λc w' hc q=>(hs.2 c ?_).trans q) (λ_ q=>q) λ_ _ q=>q
  rintro rfl
  rcases hc with rfl | hc
  ·rw[hfree] at e;cases e
  ·rw[hfree] at hc;cases hc
 rcases hx with hk | hk
 ·refine wpAny_storeName_local hk hn (λh' hn' hs=>?_) hcls;obtain⟨oL,_,_,hoL,_⟩:=id hn;refine h _ ⟨I.ok,I.os,I.bare,⟨λb o e n hb hx=>?_,λb o e n hb hx=>?_,I.base.free,λb o e hx=>?_,I.base.tups,I.base.frzs,I.base.tbls⟩,⟨_,hn',λj y v' e1 e2 e3=>?_⟩,λy c e=>?_,I.free,I.freeC,λp hp=>?_,tracked ⟨oL,hoL,I.free⟩ hs,by simpa using I.len⟩ ⟨_,hs,.inl rfl⟩
  ·exact(hs.2 b (Zz (Zl (Zv e) I.ok.above))).trans (I.base.keep b o e n hb hx)
  ·obtain⟨sl,e1⟩:=I.base.slot b o e n hb hx;exact⟨sl,(hs.2 b (Zz (Zl (Zv e) I.ok.above))).trans e1⟩
  ·obtain⟨o',e1⟩:=I.base.there b o e hx;exact⟨o',(hs.2 b (Zz (Zl (Zv e) I.ok.above))).trans e1⟩
  ·by_cases hj:j=i
   ·subst hj;rw[hi] at e1;cases e1;rw[zk hiσ] at e2;cases e2;exact⟨u,r,.inl ⟨hk,by simp⟩⟩
   ·rw[Zf (Ne.symm hj)] at e2;obtain⟨u',r',q⟩:=hl j y v' e1 e2 e3;refine⟨u',r', ?_⟩;rcases q with ⟨k,e⟩ | ⟨k,c,e,z⟩
    ·refine .inl ⟨k, ?_⟩
     have:y≠x:=λe=>hj (C1 hN e1 (e ▸ hi))
     simp[this,e]
    ·exact .inr ⟨k,c,e,z.sameBut hs (cne y c e)⟩
  ·obtain⟨w',z⟩:=I.cell y c e;exact⟨w',z.sameBut hs (cne y c e)⟩
  ·obtain⟨e,n,ne,nf,d⟩:=I.pin p hp;exact⟨(hs.2 p.1 ne).trans e,n,ne,nf,d⟩
 ·have hfn:X.fn x=true:=by
   rcases hf with z | z
   ·exact z
   ·rw[z] at hk;cases hk
  obtain⟨c,hc⟩:=I.ok.has x (.inl hk);obtain⟨w',z⟩:=I.cell x c hc;refine wpAny_storeName_cell I.ok.kind hk hc z (λh' hc' hs=>?_);obtain⟨oc,hoc,hocd⟩:=id z;refine h { s with heap:=h' } ⟨I.ok,I.os,I.bare,⟨λb o e n hb hx=>?_,λb o e n hb hx=>?_,I.base.free,λb o e hx=>?_,I.base.tups,I.base.frzs,I.base.tbls⟩,⟨m,hn.sameBut hs (Ne.symm (cne x c hc)),λj y v' e1 e2 e3=>?_⟩,λy c' e=>?_,I.free,I.freeC,λp hp=>?_,tracked ⟨oc,hoc,I.freeC x c hc⟩ hs,by simpa using I.len⟩ ⟨c,hs,.inr hc⟩
  ·exact(hs.2 b (Zz (Zl (Zv e) (I.ok.cab x c hfn hc)))).trans (I.base.keep b o e n hb hx)
  ·obtain⟨sl,e1⟩:=I.base.slot b o e n hb hx;exact⟨sl,(hs.2 b (Zz (Zl (Zv e) (I.ok.cab x c hfn hc)))).trans e1⟩
  ·obtain⟨o',e1⟩:=I.base.there b o e hx;exact⟨o',(hs.2 b (Zz (Zl (Zv e) (I.ok.cab x c hfn hc)))).trans e1⟩
  ·by_cases hj:j=i
   ·subst hj;rw[hi] at e1;cases e1;rw[zk hiσ] at e2;cases e2;exact⟨u,r,.inr ⟨.inl hk,c,hc,hc'⟩⟩
   ·rw[Zf (Ne.symm hj)] at e2;obtain⟨u',r',q⟩:=hl j y v' e1 e2 e3;refine⟨u',r', ?_⟩;rcases q with q | ⟨k,c',e,z'⟩
    ·exact .inl q
    ·refine .inr ⟨k,c',e,z'.sameBut hs ?_⟩
     rintro rfl
     exact hj (C1 hN e1 (I.ok.inj _ _ _ e hc ▸ hi))
  ·by_cases hcc:c'=c
   ·subst hcc;exact⟨_,hc'⟩
   ·obtain⟨w2,z2⟩:=I.cell y c' e;exact⟨w2,z2.sameBut hs hcc⟩
  ·obtain⟨e,n,ne,nf,d⟩:=I.pin p hp;refine⟨(hs.2 p.1 ?_).trans e,n,ne,nf,d⟩;intro q;rw[q,hoc] at e;have q':oc=p.2:=Option.some.inj e;exact d w' (by rw[<- q'];exact hocd)
theorem MG{M:Model}{A:Around}{E:Value->Shared->Prop}{i:Nat}{x:Str}{v:V}{u:Value}{Q:Unit->Shared->Prop}(I:Inv X pins σ H s)(hN:X.N.Nodup)(hi:X.N[i]?=some x)(hx:yX X.env.scope x)(r:a8 v u)
  (h:∀s',Inv X pins (σ.set i (some v)) H s'->Q () s') (hf:X.fn x=true\/X.env.scope.names.lookup x=some .local:=by first | exact .inl rfl | exact .inr rfl | assumption):wpAny M A (storeName X.env x u) Q E s :=
 yP I hN hi hx r (λs' I' _=>h s' I') hf
theorem Inv.call'{s':Shared}{ch:List Addr}(I:Inv X pins σ H s)(ho:s'.os=s.os)(u:Un (pV X.stack) ch H H' s.heap s'.heap)(hok:gC X.prog X.w H' s'.heap)(hg:AllBare s'.gens)
  (hch:∀b∈ch,(b∈X.ex\/X.s₀.heap.get? b=none)/\b≠X.env.locals/\(∀x c,X.env.cells.lookup x=some c->c≠b)/\∀p∈X.pn++pins,p.1≠b):Inv X pins σ H' s':=by
 obtain⟨h',g',d',t',o'⟩:=s';have e:o'=s.os:=ho;subst e;exact I.call (g':=g') (t':=t') (d':=d') u hok hg hch
end
abbrev XK:=Value->Option Addr->Hp->Prop
abbrev St:=List (Option V)
abbrev VK:=V->Hp->Prop
abbrev TE:=St->Hp->VK->Prop
abbrev TT:=St->Hp->(Bool->Hp->Prop)->Prop
abbrev TA:=St->Hp->(List V->Hp->Prop)->Prop
structure Ends where
 nx:St->Hp->Prop
 rt:VK
 bk:St->Hp->Prop:=λ_ _=>False
 ct:St->Hp->Prop:=λ_ _=>False
abbrev TS:=Ends->St->Hp->Prop
def EP(X:Cx)(pins:List (Addr×Obj))(σ:St)(Q:VK)(u:Value)(s':Shared):Prop:=∃v H',Inv X pins σ H' s'/\a8 v u/\Q v H'
def TP(X:Cx)(pins:List (Addr×Obj))(σ:St)(Q:Bool->Hp->Prop)(b:Bool)(s':Shared):Prop:=∃H',Inv X pins σ H' s'/\Q b H'
def AP(X:Cx)(pins:List (Addr×Obj))(σ:St)(Q:List V->Hp->Prop)(us:List Value)(s':Shared):Prop:=∃vs H',Inv X pins σ H' s'/\aS vs us/\Q vs H'
def SP(X:Cx)(pins:List (Addr×Obj))(D:Ends)(f:Flow)(s':Shared):Prop :=
 match f with
 |.next=>∃σ' H',Inv X pins σ' H' s'/\D.nx σ' H'
 |.brk=>∃σ' H',Inv X pins σ' H' s'/\D.bk σ' H'
 |.cont=>∃σ' H',Inv X pins σ' H' s'/\D.ct σ' H'
 |.ret u=>∃v σ' H',Inv X pins σ' H' s'/\a8 v u/\D.rt v H'
def PE(X:Cx)(e:Expr)(t:TE):Prop :=
 ∀(pins:List (Addr×Obj)) (s:Shared) (σ:St) (H:Hp) (Q:VK),Inv X pins σ H s->t σ H Q->wpAny (model X.prog X.w) X.A (eval e X.env) (EP X pins σ Q) X.xe s
def PT(X:Cx)(e:Expr)(t:TT):Prop :=
 ∀(pins:List (Addr×Obj)) (s:Shared) (σ:St) (H:Hp) (Q:Bool->Hp->Prop),Inv X pins σ H s->t σ H Q->wpAny (model X.prog X.w) X.A (isTrue e X.env (eval e X.env)) (TP X pins σ Q) X.xe s
def PW(X:Cx)(e:Expr)(t:TT):Prop :=
 ∀(whole:Sem Value) (pins:List (Addr×Obj)) (s:Shared) (σ:St) (H:Hp) (Q:Bool->Hp->Prop),Inv X pins σ H s->t σ H Q->wpAny (model X.prog X.w) X.A (isTrue e X.env whole) (TP X pins σ Q) X.xe s
theorem PW.pt{X:Cx}{e:Expr}{t:TT}(h:PW X e t):PT X e t:=h _
def PA(X:Cx)(es:List Expr)(t:TA):Prop :=
 ∀(pos:Pos) (pins:List (Addr×Obj)) (s:Shared) (σ:St) (H:Hp) (Q:List V->Hp->Prop),Inv X pins σ H s->t σ H Q->wpAny (model X.prog X.w) X.A (spliced (backTo pos (starEach es X.env))) (AP X pins σ Q) X.xe s
def PS(X:Cx)(st:Stmt)(t:TS):Prop :=
 ∀(pins:List (Addr×Obj)) (s:Shared) (σ:St) (H:Hp) (D:Ends),Inv X pins σ H s->t D σ H->wpAny (model X.prog X.w) X.A (exec st X.env) (SP X pins D) X.xe s
def f6(X:Cx)(st:List Stmt)(t:TS):Prop :=
 ∀(pins:List (Addr×Obj)) (s:Shared) (σ:St) (H:Hp) (D:Ends),Inv X pins σ H s->t D σ H->wpAny (model X.prog X.w) X.A (execs st X.env) (SP X pins D) X.xe s
theorem a7{α:Type}{t:Sem α}{Q Q':α->Shared->Prop}{M:Model}{A:Around}{E:Value->Shared->Prop}{s:Shared}(h:wpAny M A t Q E s)(hQ:∀a s,Q a s->Q' a s):wpAny M A t Q' E s:=wpAny_mono h hQ λ_ _ x=>x
section
variable{X:Cx}
def nM(i:Nat):TE:=λσ H Q=>∃v,σ[i]?=some (some v)/\Q v H
def tC(v:V):TE:=λ_ H Q=>Q v H
theorem BV{i:Nat}{x:Str}{pos:Pos}(hN:X.N[i]?=some x)(hv:IH X.env.scope x)(hd:(x==("__debug__":Str))=false:=by decide)(hcd:(x==("__classdict__":Str))=false:=by decide):PE X (.Name x pos) (nM i):=by
 intro pins s σ H Q I h;obtain⟨v,e,h⟩:=h;obtain⟨m,hn,hl⟩:=I.loc;obtain⟨u,r,l⟩:=hl i x v hN e hv;have fin:EP X pins σ Q u s:=⟨v,H,I,r,h⟩
 rcases l with ⟨hk,hm⟩ | ⟨hk,c,hc,hcell⟩
 ·exact wpAny_Name (wpAny_loadName_local I.ok.kind hk hn hm fin) hd
 ·rcases hk with hk | hk
  ·exact wpAny_Name (wpAny_loadName_cell I.ok.kind hk hc hcell fin) hd
  ·exact wpAny_Name (wpAny_loadName_free I.ok.kind hk hc hcell fin hcd) hd
theorem KZ{i j pos}:PE X (.Constant (.int i) j pos) (tC (.int i)):=λ_ _ _ H _ I h=>wpAny_Constant_int ⟨.int i,H,I.tok _,⟨_,rfl⟩,h⟩
theorem aBv{b j pos}:PE X (.Constant (.bool b) j pos) (tC (.bl b)):=λ_ _ _ H _ I h=>Constant_bool ⟨.bl b,H,I,rfl,h⟩
theorem WT{j pos}:PE X (.Constant .none j pos) (tC .non):=λ_ _ _ H _ I h=>Constant_none ⟨.non,H,I,rfl,h⟩
theorem aAf{x j pos}:PE X (.Constant (.str x) j pos) (tC (.str x)):=λ_ _ _ H _ I h=>Calls.Constant_str ⟨.str x,H,I.tok _,⟨_,rfl⟩,h⟩
def Gl(X:Cx)(x:Str):Prop:=X.env.kindOf x=some .globalImplicit
theorem xC{E:Value->Shared->Prop}{pins:List (Addr×Obj)}{s:Shared}{σ:St}{H:Hp}{x:Str}{u:Value}{pos:Pos}{Q:Value->Shared->Prop}(I:Inv X pins σ H s)(hg:Gl X x)(hm:X.mg x=some u)(h:Q u s)
  (hd:(x==("__debug__":Str))=false:=by decide):wpAny (model X.prog X.w) X.A (eval (.Name x pos) X.env) Q E s :=
 Calls.Name_function_global I.ok.kind hg (Calls.loadGlobal_global (by rw[I.ok.glob];exact I.mod.glob.keeps I.bk) hm h) hd
theorem mL{E:Value->Shared->Prop}{pins:List (Addr×Obj)}{s:Shared}{σ:St}{H:Hp}{x:Str}{u:Value}{pos:Pos}{Q:Value->Shared->Prop}(I:Inv X pins σ H s)(hg:Gl X x)(hm:X.mg x=none)(hv:bootBuiltins x=some u)(h:Q u s)
  (hn:x≠"__name__":=by decide) (hd:(x==("__debug__":Str))=false:=by decide):wpAny (model X.prog X.w) X.A (eval (.Name x pos) X.env) Q E s:=by
 obtain⟨mb,h1,h2⟩:=I.mod.blt;exact Calls.Name_function_global I.ok.kind hg (Calls.loadGlobal_builtin (by rw[I.ok.glob];exact I.mod.glob.keeps I.bk) hm (by rw[I.ok.blt];exact h1.keeps I.bk) ((h2 x hn).trans hv) h) hd
theorem S3{x:Str}{v:V}{u:Value}{pos:Pos}(hg:Gl X x)(hm:X.mg x=some u)(r:a8 v u)(hd:(x==("__debug__":Str))=false:=by decide):PE X (.Name x pos) (tC v) :=
 λ_ _ _ H _ I h=>xC I hg hm ⟨v,H,I,r,h⟩ hd
variable{a b:Expr}{ta tb:TE}{pos:Pos}
variable{tA tB':TT}{fT:List Expr}
def YU(t u:TT):TT:=λσ H Q=>t σ H λc H1=>if c=true then u σ H1 Q else Q false H1
def tOr(t u:TT):TT:=λσ H Q=>t σ H λc H1=>if c=true then Q true H1 else u σ H1 Q
def aED(t:TT):TT:=λσ H Q=>t σ H λc H1=>Q (!c) H1
theorem UH(ha:PT X a tA):PW X (.BoolOp .And [a] pos) tA:=by
 intro wh pins s σ H Q I h;refine isTrue_and (a7 (ha pins s σ H Q I h) λc s1 e=>?_)
 cases c with
 |true=>exact isTrue_and_nil e
 |false=>exact e
theorem X4(ha:PT X a tA):PW X (.BoolOp .Or [a] pos) tA:=by
 intro wh pins s σ H Q I h;refine isTrue_or (a7 (ha pins s σ H Q I h) λc s1 e=>?_)
 cases c with
 |false=>exact isTrue_or_nil e
 |true=>exact e
theorem ZV(ha:PT X a tA)(hb:PW X (.BoolOp .And (b::fT) pos) tB'):PW X (.BoolOp .And (a::b::fT) pos) (YU tA tB'):=by
 intro wh pins s σ H Q I h;refine isTrue_and (a7 (ha pins s σ H _ I h) λc s1 ⟨H1,I1,q1⟩=>?_)
 cases c with
 |true=>exact hb wh pins s1 σ H1 Q I1 q1
 |false=>exact⟨H1,I1,q1⟩
theorem aB6(ha:PT X a tA)(hb:PW X (.BoolOp .Or (b::fT) pos) tB'):PW X (.BoolOp .Or (a::b::fT) pos) (tOr tA tB'):=by
 intro wh pins s σ H Q I h;refine isTrue_or (a7 (ha pins s σ H _ I h) λc s1 ⟨H1,I1,q1⟩=>?_)
 cases c with
 |true=>exact⟨H1,I1,q1⟩
 |false=>exact hb wh pins s1 σ H1 Q I1 q1
theorem ZW(ha:PT X a tA):PT X (.UnaryOp .Not a pos) (aED tA):=by
 intro pins s σ H Q I h;exact isTrue_not (ha pins s σ H (λc H1=>Q (!c) H1) I h)
noncomputable def RF(ta tb:TE):TE:=λσ H Q=>ta σ H λx H1=>∃c,x=.bl c/\if c=true then tb σ H1 Q else Q (.bl false) H1
noncomputable def ZQ(ta tb:TE):TE:=λσ H Q=>ta σ H λx H1=>∃c,x=.bl c/\if c=true then Q (.bl true) H1 else tb σ H1 Q
theorem HZ{op}{t:TE}(h:PE X a t):PE X (.BoolOp op [a] pos) t:=λpins s σ H Q I hw=>BoolOp_one (h pins s σ H Q I hw)
theorem XJ(ha:PE X a ta)(hb:PE X (.BoolOp .And (b::fT) pos) tb):PE X (.BoolOp .And (a::b::fT) pos) (RF ta tb):=by
 intro pins s σ H Q I h;refine BoolOp_and (a7 (ha pins s σ H _ I h) λv s1 ⟨x,H1,I1,r1,q1⟩=>?_);obtain⟨c,rfl,q1⟩:=q1;cases r1;refine wpAny_truthy_bool ?_
 cases c with
 |true=>exact hb pins s1 σ H1 Q I1 q1
 |false=>exact⟨.bl false,H1,I1,rfl,q1⟩
theorem P1(ha:PE X a ta)(hb:PE X (.BoolOp .Or (b::fT) pos) tb):PE X (.BoolOp .Or (a::b::fT) pos) (ZQ ta tb):=by
 intro pins s σ H Q I h;refine BoolOp_or (a7 (ha pins s σ H _ I h) λv s1 ⟨x,H1,I1,r1,q1⟩=>?_);obtain⟨c,rfl,q1⟩:=q1;cases r1;refine wpAny_truthy_bool ?_
 cases c with
 |false=>exact hb pins s1 σ H1 Q I1 q1
 |true=>exact⟨.bl true,H1,I1,rfl,q1⟩
end
def bV(K:Frag)(H:Hp)(a:Addr)(xs:List V):Prop :=
 Rd H a (.lst xs) \/
  ∃(o:Obj) (its:Array Value) (n:Nat),K.lookup a=some o/\o.cls=.type "list"/\o.dict=none/\o.data=.seq its n/\its.size<=sizeLine/\aS xs its.toList
def cK(K:Frag)(H:Hp)(a:Addr)(xs:List V):Prop :=
 Rd H a (.tup xs) \/
  ∃(o:Obj) (its:Array Value) (n:Nat),K.lookup a=some o/\o.cls=.type "tuple"/\o.data=.seq its n/\its.size<=sizeLine/\aS xs its.toList
noncomputable def aDy:Value->Option V
 |.none=>some .non
 |.bool b=>some (.bl b)
 |.int i _=>some (.int i)
 |.str x _=>some (.str x)
 |.bytes b _=>some (.byt b)
 |.float b _=>some (.flt b)
 |.ref a=>some (.ref a)
 |.type n=>some (.ty n)
 |_=>none
theorem a8.abs{x:V}{u:Value}(r:a8 x u):aDy u=some x:=by
 cases x with
 |non=>cases r;rfl
 |bl _=>cases r;rfl
 |int _=>obtain⟨t,rfl⟩:=r;rfl
 |str _=>obtain⟨t,rfl⟩:=r;rfl
 |byt _=>obtain⟨t,rfl⟩:=r;rfl
 |flt _=>obtain⟨t,rfl⟩:=r;rfl
 |ref _=>cases r;rfl
 |ty _=>cases r;rfl
theorem a8.inj{x y:V}{u:Value}(r:a8 x u)(q:a8 y u):x=y:=Option.some.inj (r.abs.symm.trans q.abs)
theorem aS.inj:∀{xs ys:List V} {us:List Value},aS xs us->aS ys us->xs=ys
 |_,_,_,.nil,.nil=>rfl
 |_,_,_,.cons r t,.cons r' t'=>by rw[r.inj r',aS.inj t t']
section
variable{X:Cx}{pins:List (Addr×Obj)}{σ:St}{H:Hp}{s:Shared}{a:Addr}{xs ys:List V}
theorem bV.of{K:Frag}(h:H a=some (.lst xs)):bV K H a xs:=.inl (.inl h)
theorem cK.of{K:Frag}(h:H a=some (.tup xs)):cK K H a xs:=.inl (.inl h)
theorem Inv.list(I:Inv X pins σ H s)(h:bV X.K H a xs):∃its:List Value,aS xs its/\PlainL s.heap a its.toArray/\xs.length<=sizeLine:=by
 rcases h with h | ⟨o,its,n,hk,hc,hd,hs,hz,r⟩
 ·obtain⟨z,its,n,r,e⟩:=h.ok I.hok;exact⟨its,r,⟨_,n,e,rfl,rfl,rfl⟩,z⟩
 ·refine⟨its.toList,r,⟨o,n,I.kIn a o hk,hc,hd,by simpa using hs⟩, ?_⟩;have e:=r.length;simp only[Array.length_toList] at e;omega
theorem Inv.tuple(I:Inv X pins σ H s)(h:cK X.K H a xs):∃its:List Value,aS xs its/\IsTup s.heap a its.toArray/\xs.length<=sizeLine:=by
 rcases h with h | ⟨o,its,n,hk,hc,hs,hz,r⟩
 ·obtain⟨z,its,r,p⟩:=h.ok I.hok;exact⟨its,r,p,z⟩
 ·refine⟨its.toList,r,⟨o,I.kIn a o hk,hc,n,by simpa using hs⟩, ?_⟩;have e:=r.length;simp only[Array.length_toList] at e;omega
theorem Inv.list_inj(I:Inv X pins σ H s)(h:bV X.K H a xs)(h':bV X.K H a ys):xs=ys:=by
 obtain⟨its,r,⟨o,n,e,_,_,d⟩,_⟩:=I.list h;obtain⟨its',r',⟨o',n',e',_,_,d'⟩,_⟩:=I.list h';rw[e] at e';cases e';rw[d] at d'
 injection d' with d1 _
 have:its=its':=by simpa using congrArg Array.toList d1
 subst this;exact r.inj r'
theorem Inv.tuple_inj(I:Inv X pins σ H s)(h:cK X.K H a xs)(h':cK X.K H a ys):xs=ys:=by
 obtain⟨its,r,⟨o,e,_,n,d⟩,_⟩:=I.tuple h;obtain⟨its',r',⟨o',e',_,n',d'⟩,_⟩:=I.tuple h';rw[e] at e';cases e';rw[d] at d'
 injection d' with d1 _
 have:its=its':=by simpa using congrArg Array.toList d1
 subst this;exact r.inj r'
end
abbrev Cx.wish(X:Cx)(E:Value->Shared->Prop):Cx:={ X with xe:=E }
abbrev Cx.nox(X:Cx):Cx:=X.wish λ_ _=>False
theorem Cx.Ok.wish{X:Cx}(ok:X.Ok)(E:Value->Shared->Prop):(X.wish E).Ok :=
 ⟨ok.mod,ok.kind,ok.glob,ok.blt,ok.above,ok.inj,ok.has,ok.cab,ok.hd,ok.frames,ok.stk,ok.exf,ok.bs,ok.bsz,ok.noex,ok.exfs,ok.funs,ok.frf⟩
theorem Cx.Ok.unwish{X:Cx}{E:Value->Shared->Prop}(ok:(X.wish E).Ok):X.Ok :=
 ⟨ok.mod,ok.kind,ok.glob,ok.blt,ok.above,ok.inj,ok.has,ok.cab,ok.hd,ok.frames,ok.stk,ok.exf,ok.bs,ok.bsz,ok.noex,ok.exfs,ok.funs,ok.frf⟩
section
variable{X:Cx}{pins:List (Addr×Obj)}{σ:St}{H:Hp}{s:Shared}{E:Value->Shared->Prop}
theorem Inv.wish(I:Inv X pins σ H s)(E:Value->Shared->Prop):Inv (X.wish E) pins σ H s:=⟨I.ok.wish E,I.os,I.bare,I.base,I.loc,I.cell,I.free,I.freeC,I.pin,I.hok,I.len⟩
theorem Inv.unwish(I:Inv (X.wish E) pins σ H s):Inv X pins σ H s:=⟨I.ok.unwish,I.os,I.bare,I.base,I.loc,I.cell,I.free,I.freeC,I.pin,I.hok,I.len⟩
theorem SP.unwish{D:Ends}{f:Flow}{s':Shared}(h:SP (X.wish E) pins D f s'):SP X pins D f s':=by
 cases f with
 |next=>obtain⟨σ',H',I,q⟩:=h;exact⟨σ',H',I.unwish,q⟩
 |brk=>obtain⟨σ',H',I,q⟩:=h;exact⟨σ',H',I.unwish,q⟩
 |cont=>obtain⟨σ',H',I,q⟩:=h;exact⟨σ',H',I.unwish,q⟩
 |ret u=>obtain⟨v,σ',H',I,r,q⟩:=h;exact⟨v,σ',H',I.unwish,r,q⟩
theorem f6.nox{st:List Stmt}{t:TS}(h:f6 X.nox st t):f6 X st t:=λpins s σ H D I hw =>
 wpAny_mono (h pins s σ H D (I.wish _) hw) (λ_ _ q=>q.unwish) λ_ _ z=>False.elim z
end
section
variable{X:Cx}{st:Stmt}{fT:List Stmt}{t u:TS}{e:Expr}{te:TE}{pos:Pos}
def FE:TS:=λD σ H=>D.nx σ H
def aEe(t u:TS):TS:=λD σ H=>t { D with nx:=u D } σ H
theorem EI:f6 X [] FE:=λ_ _ σ H _ I h=>wpAny_execs_nil ⟨σ,H,I,h⟩
theorem CW(h1:PS X st t)(h2:f6 X fT u):f6 X (st::fT) (aEe t u):=by
 intro pins s σ H D I h;refine wpAny_execs_cons (a7 (h1 pins s σ H { D with nx:=u D } I h) λf s1 q=>?_)
 cases f with
 |next =>
  obtain⟨σ',H',I',q⟩:=q;exact h2 pins s1 σ' H' D I' q
 |ret v=>exact q
 |brk=>exact q
 |cont=>exact q
def Y5:TS:=λD σ H=>D.bk σ H
def aCo:TS:=λD σ H=>D.ct σ H
theorem VI:PS X (.Pass pos) FE:=λ_ _ σ H _ I h=>wpAny_Pass ⟨σ,H,I,h⟩
theorem PJ:PS X (.Break pos) Y5:=λ_ _ σ H _ I h=>wpAny_Break ⟨σ,H,I,h⟩
theorem DO:PS X (.Continue pos) aCo:=λ_ _ σ H _ I h=>wpAny_Continue ⟨σ,H,I,h⟩
theorem Inv.quiet{pins:List (Addr×Obj)}{σ:St}{H:Hp}{s:Shared}(I:Inv X pins σ H s):interactive X.env=false:=by simp[interactive,I.ok.kind]
def aCV(te:TE):TS:=λD σ H=>te σ H λ_ H1=>D.nx σ H1
theorem T8(he:PE X e te)(hs:swapsWith e none pos.line X.env=pure false:=by rfl):PS X (.Expr e pos) (aCV te):=by
 intro pins s σ H D I h;exact wpAny_Expr_any (a7 (he pins s σ H _ I h) λv s1 ⟨x,H1,I1,r1,q1⟩=>⟨σ,H1,I1,q1⟩) I.quiet hs
def aEo(te:TE):TS:=λD σ H=>te σ H D.rt
theorem KP(he:PE X e te):PS X (.Return (some e) pos) (aEo te):=by
 intro pins s σ H D I h;exact wpAny_Return_some (a7 (he pins s σ H _ I h) λv s1 ⟨x,H1,I1,r1,q1⟩=>⟨x,σ,H1,I1,r1,q1⟩)
def aCd:TS:=λD _ H=>D.rt .non H
theorem UT:PS X (.Return none pos) aCd:=λ_ _ σ H _ I h=>wpAny_Return_none ⟨.non,σ,H,I,rfl,h⟩
def aDU(c:TT)(t u:TS):TS:=λD σ H=>c σ H λb H1=>if b=true then t D σ H1 else u D σ H1
theorem aCw{c:Expr}{a b:List Stmt}{tc:TT}(hc:PT X c tc)(ha:f6 X a t)(hb:f6 X b u):PS X (.If c a b pos) (aDU tc t u):=by
 intro pins s σ H D I h;refine wpAny_If (a7 (hc pins s σ H _ I h) λd s1 ⟨H1,I1,q1⟩=>?_)
 cases d with
 |true=>exact ha pins s1 σ H1 D I1 q1
 |false=>exact hb pins s1 σ H1 D I1 q1
end
abbrev TG:=V->St->Hp->(St->Hp->Prop)->Prop
abbrev yO:=List V->St->Hp->(St->Hp->Prop)->Prop
def PG(X:Cx)(target:Expr)(t:TG):Prop :=
 ∀(pins:List (Addr×Obj)) (s:Shared) (σ:St) (H:Hp) (v:V) (u:Value) (Q:St->Hp->Prop),Inv X pins σ H s->a8 v u->t v σ H Q ->
  wpAny (model X.prog X.w) X.A (assign target X.env u) (λ_ s'=>∃σ' H',Inv X pins σ' H' s'/\Q σ' H') X.xe s
def vU(X:Cx)(ts:List Expr)(t:yO):Prop :=
 ∀(pins:List (Addr×Obj)) (s:Shared) (σ:St) (H:Hp) (vs:List V) (us:List Value) (Q:St->Hp->Prop),Inv X pins σ H s->aS vs us->t vs σ H Q ->
  wpAny (model X.prog X.w) X.A (assignInOrder ((assignEach ts X.env).map (·.2)) us) (λ_ s'=>∃σ' H',Inv X pins σ' H' s'/\Q σ' H') X.xe s
abbrev BH:=V->V->V->Hp->(Hp->Prop)->Prop
def O8(X:Cx)(t:BH):Prop :=
 ∀(pins:List (Addr×Obj)) (s:Shared) (σ:St) (H:Hp) (o i v:V) (ov iv u:Value) (Q:Hp->Prop),Inv X pins σ H s->a8 o ov->a8 i iv->a8 v u->t o i v H Q ->
  wpAny (model X.prog X.w) X.A (setItem ov iv u) (λ_ s'=>∃H',Inv X pins σ H' s'/\Q H') X.xe s
section
variable{X:Cx}{pos:Pos}
def r9(i:Nat):TG:=λv σ H Q=>Q (σ.set i (some v)) H
theorem D4{i:Nat}{x:Str}(hN:X.N.Nodup)(hi:X.N[i]?=some x)(hx:yX X.env.scope x)(hf:X.fn x=true\/X.env.scope.names.lookup x=some .local:=by first | exact .inl rfl | exact .inr rfl | assumption):PG X (.Name x pos) (r9 i):=by
 intro pins s σ H v u Q I r h;exact wpAny_assign_Name (MG I hN hi hx r (λs' I'=>⟨_,H,I',h⟩) hf)
def aEf:yO:=λvs σ H Q=>vs=[]/\Q σ H
def aBM(t:TG)(u:yO):yO:=λvs σ H Q=>∃v r,vs=v::r/\t v σ H λσ' H'=>u r σ' H' Q
theorem VY:vU X [] aEf:=by
 intro pins s σ H vs us Q I r h;obtain⟨e,h⟩:=h;subst e;cases r;exact assignInOrder_nil ⟨σ,H,I,h⟩
theorem N3{e:Expr}{es:List Expr}{t:TG}{u:yO}(h1:PG X e t)(h2:vU X es u)
  (hs:(assignEach (e::es) X.env).map (·.2)=assign e X.env::(assignEach es X.env).map (·.2):=by rfl):vU X (e::es) (aBM t u):=by
 intro pins s σ H vs us Q I r h;obtain⟨v,vr,e1,h⟩:=h;subst e1
 cases r with
 |cons r rr =>
  rw[hs];refine assignInOrder_cons (a7 (h1 pins s σ H _ _ _ I r h) λ_ s1 ⟨σ1,H1,I1,q1⟩=>?_);exact h2 pins s1 σ1 H1 _ _ Q I1 rr q1
noncomputable def aEA(K:Frag)(n:Nat)(t:yO):TG:=λv σ H Q=>∃a xs,v=.ref a/\cK K H a xs/\xs.length=n/\t xs σ H Q
theorem W5{es:List Expr}{k:Nat}{t:yO}{n:Nat}(hc:X.calm=true)(h:vU X es t)
  (hn:(assignEach es X.env).length=n:=by rfl) (hst:(assignEach es X.env).findIdx? (·.1)=none:=by rfl):PG X (.Tuple es k pos) (aEA X.K n t):=by
 intro pins s σ H v u Q I r hw;obtain⟨a,xs,e1,hq,hl,hw⟩:=hw;subst e1;cases r;obtain⟨its,rv,ht,hz⟩:=I.tuple hq;refine assign_Tuple_tuple (I.ok.hd hc) ht (by simp[hn,<- hl,rv.length]) hst λh' hx=>?_
 have I1:Inv X pins σ H { s with heap:=h' }:=I.kept (t':=s.toks) λb o e=>hx b o (Zz (Zv e)) e
 exact h pins _ σ H xs _ Q I1 (by simpa using rv) hw
def aDV(to ti:TE)(t:BH):TG:=λv σ H Q=>to σ H λo H1=>ti σ H1 λi H2=>t o i v H2 λH3=>Q σ H3
theorem ZP{o i:Expr}{to ti:TE}{t:BH}(ho:PE X o to)(hi:PE X i ti)(hs:O8 X t)
  (ha:∀v,assign (.Subscript o i pos) X.env v=(do
   let ov <- holding [v] (eval o X.env)
   let iv <- holding [v,ov] (eval i X.env)
   standAt pos
   holding [v,ov,iv] (setItem ov iv v)
   release [v,ov,iv] []):=by intro _;rfl):PG X (.Subscript o i pos) (aDV to ti t):=by
 intro pins s σ H v u Q I r h;rw[ha];refine Zt (wpAny_holding (a7 (ho pins s σ H _ I h) λov s1 ⟨x,H1,I1,r1,q1⟩=>?_));refine Zt (wpAny_holding (a7 (hi pins s1 σ H1 _ I1 q1) λiv s2 ⟨y,H2,I2,r2,q2⟩=>?_));refine Zt (wpAny_standAt (Zt (wpAny_holding (a7 (hs pins s2 σ H2 x y v ov iv u _ I2 r1 r2 r q2) λ_ s3 ⟨H3,I3,q3⟩=>?_))));exact wpAny_release ⟨σ,H3,I3,q3⟩
def PN(te:TE)(g:TG):TS:=λD σ H=>te σ H λx H1=>g x σ H1 D.nx
theorem vK{tg e:Expr}{te:TE}{g:TG}(he:PE X e te)(hg:PG X tg g)(hs:swapsWithSole [tg] e pos.line X.env=pure false:=by rfl)(hw:swappedStores [tg] e X.env=pure none:=by rfl)
  (h1:(assignEach [tg] X.env).map (·.2)=[assign tg X.env]:=by rfl):PS X (.Assign [tg] e pos) (PN te g):=by
 intro pins s σ H D I h;refine wpAny_Assign_stores (a7 (he pins s σ H _ I h) λv s1 ⟨x,H1,I1,r1,q1⟩=>?_) hs hw;rw[h1];exact a7 (hg pins s1 σ H1 x v _ I1 r1 q1) λ_ s2 q=>q
end
section
variable{X:Cx}{pos:Pos}
end
structure It where
 go:Nat->Hp->Prop
 yld:Nat->Hp->V->Hp->Prop
 stop:Nat->Hp->Prop
def iY(X:Cx)(pins:List (Addr×Obj))(H:Hp)(b:Addr):Prop :=
 H b=none/\b≠X.env.locals/\b ∉ X.fs/\(b∈X.ex\/X.s₀.heap.get? b=none)/\(∀x c,X.env.cells.lookup x=some c->c≠b)/\∀p∈X.pn++pins,p.1≠b
theorem Inv.fpOk{X:Cx}{pins:List (Addr×Obj)}{σ:St}{H H':Hp}{s:Shared}{b:Addr}(I:Inv X pins σ H s)(hb:s.heap.objs.size<=b)(hn:H' b=none):iY X pins H' b:=by
 refine⟨hn,Nat.ne_of_gt (Zl I.lt hb),I.nofs hb,.inr (Heap.get?_none_of_le (Zr I.sz hb)),λx c e z=>?_,λp hp z=>?_⟩
 ·obtain⟨v,q⟩:=I.cell x c e;exact absurd (Zl q.lt (by rw[z];exact hb)) (Nat.lt_irrefl _)
 ·exact absurd (Zl (Zv (I.pin p hp).1) (by rw[z];exact hb)) (Nat.lt_irrefl _)
structure Turn(P:Program)(w:World)(K:Frag)(tg:Expr)(J:It)(fp:List Addr)(it:Addr)(tn:Nat->Heap->Prop):Prop where
 mem:it∈fp
 obj:∀i h,tn i h->∀b∈fp,∃o,h.get? b=some o/\∀v,o.data≠.cell v
 keep:∀i h h',tn i h->(∀b∈fp,∀o,h.get? b=some o->h'.get? b=some o)->tn i h'
 item:∀(X:Cx),X.prog=P->X.w=w->X.K=K->X.calm=true->∀(i:Nat) (pins:List (Addr×Obj)) (s:Shared) (σ:St) (H:Hp) (E:Value->Shared->Prop),Inv X pins σ H s->(∀b∈fp,iY X pins H b)->tn i s.heap->J.go i H ->
  wpAny (model P w) X.A (pyNext (.ref it)) (λr s1=>∃u,r=some u /\
   wpAny (model P w) X.A (letOwnedTupleGo tg (.ref it) u) (λ_ s2=>∃x H',Inv X pins σ H' s2/\a8 x u/\J.yld i H x H'/\tn (i+1) s2.heap/\∀b∈fp,H' b=none) E s1) E s
 done:∀(X:Cx),X.prog=P->X.w=w->X.K=K->X.calm=true->∀(i:Nat) (pins:List (Addr×Obj)) (s:Shared) (σ:St) (H:Hp) (E:Value->Shared->Prop),Inv X pins σ H s->(∀b∈fp,iY X pins H b)->tn i s.heap->J.stop i H ->
  wpAny (model P w) X.A (pyNext (.ref it)) (λr s1=>r=none/\Inv X pins σ H s1) E s
 self:∀(A:Around) (i:Nat) (s:Shared) (Q:Value->Shared->Prop) (E:Value->Shared->Prop),tn i s.heap->Q (.ref it) s->wpAny (model P w) A (pyIter (.ref it)) Q E s
abbrev TI:=St->Hp->(It->Hp->Prop)->Prop
def PIE(X:Cx)(pins:List (Addr×Obj))(σ:St)(tg:Expr)(R:It->Hp->Prop)(itv:Value)(s2:Shared):Prop :=
 ∃(it:Addr) (fp:List Addr) (tn:Nat->Heap->Prop) (J:It) (H':Hp),itv=.ref it/\Inv X pins σ H' s2/\Turn X.prog X.w X.K tg J fp it tn/\tn 0 s2.heap/\(∀b∈fp,iY X pins H' b)/\R J H'
def PI(X:Cx)(tg iter:Expr)(wi:TI):Prop :=
 ∀(pins:List (Addr×Obj)) (s:Shared) (σ:St) (H:Hp) (R:It->Hp->Prop),Inv X pins σ H s->wi σ H R ->
  wpAny (model X.prog X.w) X.A (eval iter X.env) (λv s1=>wpAny (model X.prog X.w) X.A (pyIter v) (PIE X pins σ tg R) X.xe s1) X.xe s
theorem FZ{M:Model}{A:Around}{E:Value->Shared->Prop}{s:Shared}{tg:Expr}{it:Addr}{u:Value}{o:Obj}{n:String}{vs:Array Value}{Q:Unit->Shared->Prop}(ho:s.heap.get? it=some o)(hc:o.cls=.type n)(hd:o.data=.fields vs)
  (hn:["enumerate","zip","dict_itemiterator","dict_reverseitemiterator","odict_iterator","itertools.zip_longest","itertools.pairwise"].contains n=false) (hQ:Q () s):wpAny M A (letOwnedTupleGo tg (.ref it) u) Q E s:=by
 unfold letOwnedTupleGo
 cases tg<;>first
  |exact Zu hQ
  | (cases u<;>first
    |exact Zu hQ
    | (refine Zt (wpAny_load ho ?_)
       rw[hc,hd];show wpAny M A (if(["enumerate","zip","dict_itemiterator","dict_reverseitemiterator","odict_iterator","itertools.zip_longest","itertools.pairwise"].contains n&&vs[0]? == some (rawInt _))=true then _ else _) Q E s;rw[Zp (by intro h;rw[hn,Bool.false_and] at h;cases h)]
       exact Zu hQ))
noncomputable def mB(K:Frag)(a:Addr):It :=
 ⟨λi H=>∃xs x,bV K H a xs/\xs[i]?=some x,λi H x H'=>H'=H/\∀xs,bV K H a xs->xs[i]?=some x,λi H=>∃xs,bV K H a xs/\xs.length<=i⟩
noncomputable def mN(K:Frag)(a:Addr):It :=
 ⟨λi H=>∃xs x,cK K H a xs/\xs[i]?=some x,λi H x H'=>H'=H/\∀xs,cK K H a xs->xs[i]?=some x,λi H=>∃xs,cK K H a xs/\xs.length<=i⟩
def kL(lo:Int)(n:Nat):It:=⟨λi _=>i<n,λi H x H'=>H'=H/\x=.int (lo+i),λi _=>n<=i⟩
theorem KO{P:Program}{w:World}{K:Frag}{tg:Expr}(a it:Addr):Turn P w K tg (mB K a) [it] it (λi h=>h.IsListIter it a i) where
 mem:=by simp
 obj:=λi h st b hb=>by
  have e:b=it:=by simpa using hb
  subst e;obtain⟨o,e,c,d⟩:=st;exact⟨o,e,λv z=>by rw[d] at z;cases z⟩
 keep:=λi h h' st k=>st.at λo e=>k it (by simp) o e
 item:=by
  intro X hP hw hK hc i pins s σ H E I hf st hg;subst hP hw hK;obtain⟨xs,x,hq,hx⟩:=hg;obtain⟨its,rv,p,hz⟩:=I.list hq;obtain⟨u,hu,ru⟩:=rv.get hx;obtain⟨f0,f1,f2,f3,f4,f5⟩:=hf it (by simp);refine wpAny_pyNext_list_item st p.isList (x:=u) (by simpa using hu) λh' st' sb=>?_
  have I1:Inv X pins σ H { s with heap:=h' }:=I.turned (t':=s.toks) (λb o hb e=>(sb.2 b hb).trans e) f0 f1 f3 f4 f5;obtain⟨o,e,c,d⟩:=id st';exact⟨u,rfl,FZ (s:={ s with heap:=h' }) e c d (by decide) ⟨x,H,I1,ru,⟨rfl,λys hy=>by rw[I.list_inj hy hq];exact hx⟩,st',λb hb=>(hf b hb).1⟩⟩
 done:=by(intro X hP hw hK hc i pins s σ H E I hf st hg;subst hP hw hK;obtain⟨xs,hq,hx⟩:=hg;obtain⟨its,rv,p,hz⟩:=I.list hq;obtain⟨f0,f1,f2,f3,f4,f5⟩:=hf it (by simp);have hl:=rv.length;exact wpAny_pyNext_list_end (I.ok.hd hc) st p.isList (by simp;omega) λh' eb=>⟨rfl,I.turned (t':=s.toks) (λb o hb e=>eb b o hb e) f0 f1 f3 f4 f5⟩)
 self:=λ_ _ _ _ _ st h=>wpAny_pyIter_listiter st h
theorem FH{P:Program}{w:World}{K:Frag}{tg:Expr}(a it:Addr):Turn P w K tg (mN K a) [it] it (λi h=>h.IsTupleIter it a i) where
 mem:=by simp
 obj:=λi h st b hb=>by
  have e:b=it:=by simpa using hb
  subst e;obtain⟨o,e,c,d⟩:=st;exact⟨o,e,λv z=>by rw[d] at z;cases z⟩
 keep:=λi h h' st k=>st.at λo e=>k it (by simp) o e
 item:=by
  intro X hP hw hK hc i pins s σ H E I hf st hg;subst hP hw hK;obtain⟨xs,x,hq,hx⟩:=hg;obtain⟨its,rv,p,hz⟩:=I.tuple hq;obtain⟨u,hu,ru⟩:=rv.get hx;obtain⟨f0,f1,f2,f3,f4,f5⟩:=hf it (by simp);refine wpAny_pyNext_tuple_item st (show s.heap.IsTuple a its.toArray from p) (x:=u) (by simpa using hu) λh' st' sb=>?_
  have I1:Inv X pins σ H { s with heap:=h' }:=I.turned (t':=s.toks) (λb o hb e=>(sb.2 b hb).trans e) f0 f1 f3 f4 f5;obtain⟨o,e,c,d⟩:=id st';exact⟨u,rfl,FZ (s:={ s with heap:=h' }) e c d (by decide) ⟨x,H,I1,ru,⟨rfl,λys hy=>by rw[I.tuple_inj hy hq];exact hx⟩,st',λb hb=>(hf b hb).1⟩⟩
 done:=by(intro X hP hw hK hc i pins s σ H E I hf st hg;subst hP hw hK;obtain⟨xs,hq,hx⟩:=hg;obtain⟨its,rv,p,hz⟩:=I.tuple hq;obtain⟨f0,f1,f2,f3,f4,f5⟩:=hf it (by simp);have hl:=rv.length;exact wpAny_pyNext_tuple_end (I.ok.hd hc) st (show s.heap.IsTuple a its.toArray from p) (by simp;omega) λh' eb=>⟨rfl,I.turned (t':=s.toks) (λb o hb e=>eb b o hb e) f0 f1 f3 f4 f5⟩)
 self:=λ_ _ _ _ _ st h=>wpAny_pyIter_tupleiter st h
theorem F8{P:Program}{w:World}{K:Frag}{tg:Expr}(it:Addr)(lo:Int)(n:Nat):Turn P w K tg (kL lo n) [it] it (λi h=>IsRangeIter h it (lo+(i:Nat)*1) ((n:Int)-(i:Nat)) 1) where
 mem:=by simp
 obj:=λi h st b hb=>by
  have e:b=it:=by simpa using hb
  subst e
  exact⟨_,st,λv z=>by
   have z':Data.fields _=Data.cell v:=z
   cases z'⟩
 keep:=λi h h' st k=>k it (by simp) _ st
 item:=by
  intro X hP hw hK hc i pins s σ H E I hf st hg;subst hP hw hK;obtain⟨f0,f1,f2,f3,f4,f5⟩:=hf it (by simp);have W:=Walks.range (prog:=X.prog) (w:=X.w) (I.ok.hd hc) it lo 1 n;refine W.item i s _ _ hg st λv h' tk hv st' kk=>?_
  obtain⟨t,rfl⟩:=hv;have I1:Inv X pins σ H { s with heap:=h',toks:=tk }:=I.turned (λb o hb e=>kk b o (by simpa using hb) e) f0 f1 f3 f4 f5;refine⟨_,rfl,FZ (s:={ s with heap:=h',toks:=tk }) (n:="range_iterator") st' rfl rfl (by decide) ⟨.int (lo+i),H,I1,⟨t, ?_⟩,⟨rfl,rfl⟩,st',λb hb=>(hf b hb).1⟩⟩;rw[Int.mul_one]
 done:=by(intro X hP hw hK hc i pins s σ H E I hf st hg;subst hP hw hK;obtain⟨f0,f1,f2,f3,f4,f5⟩:=hf it (by simp);exact wpAny_pyNext_range_end (I.ok.hd hc) st (by have:n<=i:=hg;omega) λh' eb=>⟨rfl,I.turned (t':=s.toks) (λb o hb e=>eb b o hb e) f0 f1 f3 f4 f5⟩)
 self:=λ_ _ _ _ _ st h=>wpAny_pyIter_rangeiter st h
section
variable{X:Cx}{tg:Expr}
noncomputable def QM(K:Frag)(tl:TE):TI:=λσ H R=>tl σ H λx H1=>∃a,x=.ref a/\(∃xs,bV K H1 a xs)/\R (mB K a) H1
noncomputable def aAb(K:Frag)(tl:TE):TI:=λσ H R=>tl σ H λx H1=>∃a,x=.ref a/\(∃xs,cK K H1 a xs)/\R (mN K a) H1
theorem EN{l:Expr}{tl:TE}(hl:PE X l tl):PI X tg l (QM X.K tl):=by
 intro pins s σ H R I h;refine a7 (hl pins s σ H _ I h) λv s1 ⟨x,H1,I1,r1,q1⟩=>?_
 obtain⟨a,e,⟨xs,hq⟩,q⟩:=q1;subst e;cases r1;obtain⟨its,rv,p,hz⟩:=I1.list hq;refine wpAny_pyIter_list p.isList ?_;refine⟨s1.heap.objs.size,[s1.heap.objs.size],_,_,H1,rfl,I1.kept (t':=s1.toks) λb o e=>Zd _ e,KO a _,⟨_,Zw _ rfl,rfl,rfl⟩,λb hb=>?_,q⟩;have e:b=s1.heap.objs.size:=by simpa using hb
 subst e;exact I1.fpOk (Zq _) (I1.hok.fresh (Zq _))
theorem LG{l:Expr}{tl:TE}(hl:PE X l tl):PI X tg l (aAb X.K tl):=by
 intro pins s σ H R I h;refine a7 (hl pins s σ H _ I h) λv s1 ⟨x,H1,I1,r1,q1⟩=>?_
 obtain⟨a,e,⟨xs,hq⟩,q⟩:=q1;subst e;cases r1;obtain⟨its,rv,p,hz⟩:=I1.tuple hq;refine wpAny_pyIter_tuple (show s1.heap.IsTuple a its.toArray from p) ?_;refine⟨s1.heap.objs.size,[s1.heap.objs.size],_,_,H1,rfl,I1.kept (t':=s1.toks) λb o e=>Zd _ e,FH a _,⟨_,Zw _ rfl,rfl,rfl⟩,λb hb=>?_,q⟩;have e:b=s1.heap.objs.size:=by simpa using hb
 subst e;exact I1.fpOk (Zq _) (I1.hok.fresh (Zq _))
theorem C4{pins:List (Addr×Obj)}{σ:St}{H:Hp}{s:Shared}{R:It->Hp->Prop}{E:Value->Shared->Prop}{lo hi:Int}{t u v:Tok}{tk:Nat}(I:Inv X pins σ H s)(h1:-(2 ^ 62)<=lo)(h2:lo<2 ^ 62)(h3:-(2 ^ 62)<=hi)(h4:hi<2 ^ 62)
  (q:R (kL lo (hi-lo).toNat) H):wpAny (model X.prog X.w) X.A (pyIter (.ref s.heap.objs.size)) (PIE X pins σ tg R) E { s with heap:=s.heap.push { cls:=.type "range",data:=.fields #[.int lo t,.int hi u,.int 1 v] },toks:=tk }:=by
 refine wpAny_pyIter_range (IsRange.new ..) (small_one h1 h2 h3 h4) ?_;have I1:Inv X pins σ H { s with heap:=s.heap.push { cls:=.type "range",data:=.fields #[.int lo t,.int hi u,.int 1 v] },toks:=tk }:=I.kept λb o e=>Zd _ e
 refine⟨(s.heap.push { cls:=.type "range",data:=.fields #[.int lo t,.int hi u,.int 1 v] }).objs.size,[(s.heap.push { cls:=.type "range",data:=.fields #[.int lo t,.int hi u,.int 1 v] }).objs.size],_,_,H,rfl,
  I1.kept (t':=tk) λb o e=>Zd _ e,F8 _ lo (hi-lo).toNat, ?_,λb hb=>?_,q⟩
 ·have e1:lo+((0:Nat):Int)*1=lo:=by simp
  have e2:(((hi-lo).toNat:Nat):Int)-((0:Nat):Int)=Builtin.Range.rangeSize lo hi 1:=by rw[rangeSize_one];split<;>omega
  show IsRangeIter _ _ (lo+((0:Nat):Int)*1) ((((hi-lo).toNat:Nat):Int)-((0:Nat):Int)) 1;rw[e1,e2];exact Zw _ rfl
 ·have e:b=(s.heap.push { cls:=.type "range",data:=.fields #[.int lo t,.int hi u,.int 1 v] }).objs.size:=by simpa using hb
  subst e;exact I1.fpOk (Zq _) (I1.hok.fresh (Zq _))
noncomputable def RL(ta:TA):TI:=λσ H R=>ta σ H λvs H1=>∃j:Int,vs=[.int j]/\-(2 ^ 62)<=j/\j<2 ^ 62/\R (kL 0 j.toNat) H1
noncomputable def QQ(ta:TA):TI:=λσ H R=>ta σ H λvs H1=>∃i j:Int,vs=[.int i,.int j]/\(-(2 ^ 62)<=i/\i<2 ^ 62/\-(2 ^ 62)<=j/\j<2 ^ 62)/\R (kL i (j-i).toNat) H1
theorem y6{a:Expr}{ta:TA}{p pos:Pos}(hg:Gl X "range")(hm:X.mg "range"=none)(ha:PA X [a] ta)(hs:starEach [a] X.env=[(false,eval a X.env)]:=by rfl):PI X tg (.Call (.Name "range" p) [a] [] pos) (RL ta):=by
 intro pins s σ H R I h;refine Call_ (mL I hg hm boot_range (PyProof.Rows.callWith_type1 (a7 (ha pos pins s σ H _ I h) λus s1 ⟨vs,H1,I1,r1,q1⟩=>?_) hs rfl));obtain⟨j,e,q1,q2,q⟩:=q1;subst e
 cases r1 with
 |cons r rr =>
  cases rr;obtain⟨t,rfl⟩:=r;exact call_range_1 (C4 I1 (by omega) (by omega) q1 q2 (by simpa using q))
theorem y9{a b:Expr}{ta:TA}{p pos:Pos}(hg:Gl X "range")(hm:X.mg "range"=none)(ha:PA X [a,b] ta)(hs:starEach [a,b] X.env=[(false,eval a X.env),(false,eval b X.env)]:=by rfl)(hs2:starEach [b] X.env=[(false,eval b X.env)]:=by rfl) :
  PI X tg (.Call (.Name "range" p) [a,b] [] pos) (QQ ta):=by
 intro pins s σ H R I h;refine Call_ (mL I hg hm boot_range (PyProof.Rows.callWith_type1 (a7 (ha pos pins s σ H _ I h) λus s1 ⟨vs,H1,I1,r1,q1⟩=>?_) (by rw[hs,hs2]) (by rw[hs2];rfl)));obtain⟨i,j,e,⟨q1,q2,q3,q4⟩,q⟩:=q1;subst e
 cases r1 with
 |cons r rr =>
  cases rr with
  |cons r' rr =>
   cases rr;obtain⟨t,rfl⟩:=r;obtain⟨t',rfl⟩:=r';exact call_range_2 (C4 I1 q1 q2 q3 q4 q)
noncomputable def aD0(wi:TI)(g:TG)(tb:TS):TS:=λD σ H=>wi σ H λJ H1=>∃W:Nat->Nat->St->Hp->Prop,(∃m,W 0 m σ H1)/\∀i m σ H,W i m σ H ->
 (J.stop i H/\D.nx σ H)\/(J.go i H/\∃N:St->Hp->Prop,(∀σ' H',N σ' H'->∃m',m'<m/\W (i+1) m' σ' H')/\∀x H',J.yld i H x H'->g x σ H' λσ2 H2=>tb { D with nx:=N,ct:=N,bk:=D.nx } σ2 H2)
def rF(fp:List Addr)(h:Heap):List (Addr×Obj):=fp.filterMap λb=>(h.get? b).map λo=>(b,o)
theorem j4{fp:List Addr}{h:Heap}{b:Addr}{o:Obj}(hb:b∈fp)(e:h.get? b=some o):(b,o)∈rF fp h:=List.mem_filterMap.mpr ⟨b,hb,by rw[e];rfl⟩
theorem LK{fp:List Addr}{h:Heap}{p:Addr×Obj}(hp:p∈rF fp h):p.1∈fp/\h.get? p.1=some p.2:=by
 obtain⟨b,hb,e⟩:=List.mem_filterMap.mp hp
 cases q:h.get? b with
 |none=>rw[q] at e;cases e
 |some o =>
  rw[q] at e;have e':(b,o)=p:=Option.some.inj e;subst e';exact⟨hb,q⟩
theorem Inv.pinned{pins:List (Addr×Obj)}{σ:St}{H:Hp}{s:Shared}{fp:List Addr}(I:Inv X pins σ H s)(hf:∀b∈fp,iY X pins H b)(ho:∀b∈fp,∃o,s.heap.get? b=some o/\∀v,o.data≠.cell v):Inv X (pins++rF fp s.heap) σ H s :=
 I.pins_of λp hp=>(zp.mp hp).elim (λz=>I.pin p (List.mem_append_right _ z)) λz=>by(obtain⟨hb,e⟩:=LK z;obtain⟨f0,f1,f2,_⟩:=hf p.1 hb;obtain⟨o,e',d⟩:=ho p.1 hb;rw[e] at e';cases e';exact⟨e,f0,f1,f2,d⟩)
theorem Inv.unpinned{pins pl:List (Addr×Obj)}{σ:St}{H:Hp}{s:Shared}(I:Inv X (pins++pl) σ H s):Inv X pins σ H s:=I.pins_of λp hp=>I.pin p (List.mem_append_right _ (List.mem_append_left _ hp))
theorem W6{iter:Expr}{body:List Stmt}{wi:TI}{g:TG}{tb:TS}{pos:Pos}(hp:PassesOwn (model X.prog X.w) X.A X.env X.xe)(hc:X.calm=true)(hi:PI X tg iter wi)(hg:PG X tg g)(hb:f6 X body tb)
  (hs:∀x,foldedSetIterable iter X.env x=pure x:=by intro _;rfl):PS X (.For tg iter body [] pos) (aD0 wi g tb):=by
 intro pins s σ H D I h;refine wpAny_For (a7 (hi pins s σ H _ I h) λv s1 h1=>a7 h1 λitv s2 h2=>?_) hs;obtain⟨it,fp,tn,J,H2,e,I2,T,st2,f2,W,⟨m0,w0⟩,turn⟩:=h2;subst e
 -- what stays true of the iterator's objects through the loop
 have stat:∀{H':Hp},(∀b∈fp,H' b=none)->∀b∈fp,iY X pins H' b:=λhn b hb=>⟨hn b hb,(f2 b hb).2⟩
 refine codeAny_forLoop_any (λn s'=>∃i σ' H',Inv X pins σ' H' s'/\tn i s'.heap/\(∀b∈fp,H' b=none)/\W i n σ' H') ?_ m0 ⟨0,σ,H2,I2,st2,λb hb=>(f2 b hb).1,w0⟩
 rintro n s3 ⟨i,σ3,H3,I3,st3,fr3,w3⟩
 rcases turn i n σ3 H3 w3 with ⟨stop,qn⟩ | ⟨go,N,hN,step⟩
 ·refine wpAny_passesOwn hp (a7 (T.done X rfl rfl rfl hc i pins s3 σ3 H3 X.xe I3 (stat fr3) st3 stop) λr s4 ⟨hr,I4⟩=>?_);subst hr;exact wpAny_execs_nil ⟨σ3,H3,I4,qn⟩
 ·refine wpAny_passesOwn hp (a7 (T.item X rfl rfl rfl hc i pins s3 σ3 H3 X.xe I3 (stat fr3) st3 go) λr s4 ⟨u,hr,h4⟩=>?_);subst hr;refine wpAny_passesOwn hp (a7 h4 λ_ s5 ⟨x,H5,I5,r5,y5,st5,fr5⟩=>?_);have I5':=I5.pinned (stat fr5) (T.obj _ _ st5);refine wpAny_passesOwn hp (a7 (hg _ s5 σ3 H5 x u _ I5' r5 (step x H5 y5)) λ_ s6 ⟨σ6,H6,I6,q6⟩=>?_);refine wpAny_passesOwn hp (a7 (hb _ s6 σ6 H6 _ I6 q6) λf s7 q7=>?_)
  have again:∀{σ7:St} {H7:Hp},Inv X (pins++rF fp s5.heap) σ7 H7 s7->N σ7 H7->∃m,m<n/\∃i σ' H',Inv X pins σ' H' s7/\tn i s7.heap/\(∀b∈fp,H' b=none)/\W i m σ' H':=λ{σ7 H7} I7 n7=>by(obtain⟨m',hm,w7⟩:=hN σ7 H7 n7;refine⟨m',hm,i+1,σ7,H7,I7.unpinned,T.keep _ _ _ st5 λb hb o e=>(I7.pin (b,o) (List.mem_append_right _ (List.mem_append_right _ (j4 hb e)))).1,λb hb=>?_,w7⟩;obtain⟨o,e,d⟩:=T.obj _ _ st5 b hb;exact(I7.pin (b,o) (List.mem_append_right _ (List.mem_append_right _ (j4 hb e)))).2.1)
  cases f with
  |next=>obtain⟨σ7,H7,I7,n7⟩:=q7;exact again I7 n7
  |cont=>obtain⟨σ7,H7,I7,n7⟩:=q7;exact again I7 n7
  |brk=>obtain⟨σ7,H7,I7,q7⟩:=q7;exact⟨σ7,H7,I7.unpinned,q7⟩
  |ret v=>obtain⟨x7,σ7,H7,I7,r7,q7⟩:=q7;exact⟨x7,σ7,H7,I7.unpinned,r7,q7⟩
end
theorem MM{K:Frag}{a:Addr}{xs:List V}{g:TG}{tb:TS}{D:Ends}{σ:St}{H:Hp}(Pv:Nat->St->Hp->Prop)(h0:Pv 0 σ H)(hl:∀i σ H,i<=xs.length->Pv i σ H->bV K H a xs)
  (hs:∀i x σ H,xs[i]?=some x->Pv i σ H->g x σ H λσ2 H2=>tb { D with nx:=Pv (i+1),ct:=Pv (i+1),bk:=D.nx } σ2 H2) (hd:∀σ H,Pv xs.length σ H->D.nx σ H) :
  ∃W:Nat->Nat->St->Hp->Prop,(∃m,W 0 m σ H)/\∀i m σ H,W i m σ H ->
   ((mB K a).stop i H/\D.nx σ H)\/((mB K a).go i H/\∃N:St->Hp->Prop,(∀σ' H',N σ' H'->∃m',m'<m/\W (i+1) m' σ' H')/\∀x H',(mB K a).yld i H x H'->g x σ H' λσ2 H2=>tb { D with nx:=N,ct:=N,bk:=D.nx } σ2 H2):=by
 refine⟨λi m σ H=>m=xs.length-i/\i<=xs.length/\Pv i σ H,⟨xs.length,by simp,Nat.zero_le _,h0⟩, ?_⟩
 rintro i m σ H ⟨rfl,hi,p⟩
 have q:=hl i σ H hi p;by_cases hlt:i<xs.length
 ·refine .inr ⟨⟨xs,xs[i],q,by simp[hlt]⟩,Pv (i+1),λσ' H' p'=>⟨xs.length-(i+1),by omega,rfl,hlt,p'⟩,λx H' y=>?_⟩;obtain⟨e,y⟩:=y;subst e;exact hs i x σ _ (y xs q) p
 ·have e:i=xs.length:=by omega
  subst e;exact .inl ⟨⟨xs,q,Zq _⟩,hd σ H p⟩
theorem VO{K:Frag}{a:Addr}{xs:List V}{g:TG}{tb:TS}{D:Ends}{σ:St}{H:Hp}(Pv:Nat->St->Hp->Prop)(h0:Pv 0 σ H)(hl:∀i σ H,i<=xs.length->Pv i σ H->cK K H a xs)
  (hs:∀i x σ H,xs[i]?=some x->Pv i σ H->g x σ H λσ2 H2=>tb { D with nx:=Pv (i+1),ct:=Pv (i+1),bk:=D.nx } σ2 H2) (hd:∀σ H,Pv xs.length σ H->D.nx σ H) :
  ∃W:Nat->Nat->St->Hp->Prop,(∃m,W 0 m σ H)/\∀i m σ H,W i m σ H ->
   ((mN K a).stop i H/\D.nx σ H)\/((mN K a).go i H/\∃N:St->Hp->Prop,(∀σ' H',N σ' H'->∃m',m'<m/\W (i+1) m' σ' H')/\∀x H',(mN K a).yld i H x H'->g x σ H' λσ2 H2=>tb { D with nx:=N,ct:=N,bk:=D.nx } σ2 H2):=by
 refine⟨λi m σ H=>m=xs.length-i/\i<=xs.length/\Pv i σ H,⟨xs.length,by simp,Nat.zero_le _,h0⟩, ?_⟩
 rintro i m σ H ⟨rfl,hi,p⟩
 have q:=hl i σ H hi p;by_cases hlt:i<xs.length
 ·refine .inr ⟨⟨xs,xs[i],q,by simp[hlt]⟩,Pv (i+1),λσ' H' p'=>⟨xs.length-(i+1),by omega,rfl,hlt,p'⟩,λx H' y=>?_⟩;obtain⟨e,y⟩:=y;subst e;exact hs i x σ _ (y xs q) p
 ·have e:i=xs.length:=by omega
  subst e;exact .inl ⟨⟨xs,q,Zq _⟩,hd σ H p⟩
theorem KS{lo:Int}{n:Nat}{g:TG}{tb:TS}{D:Ends}{σ:St}{H:Hp}(Pv:Nat->St->Hp->Prop)(h0:Pv 0 σ H)
  (hs:∀i σ H,i<n->Pv i σ H->g (.int (lo+i)) σ H λσ2 H2=>tb { D with nx:=Pv (i+1),ct:=Pv (i+1),bk:=D.nx } σ2 H2) (hd:∀σ H,Pv n σ H->D.nx σ H) :
  ∃W:Nat->Nat->St->Hp->Prop,(∃m,W 0 m σ H)/\∀i m σ H,W i m σ H ->
   ((kL lo n).stop i H/\D.nx σ H)\/((kL lo n).go i H/\∃N:St->Hp->Prop,(∀σ' H',N σ' H'->∃m',m'<m/\W (i+1) m' σ' H')/\∀x H',(kL lo n).yld i H x H'->g x σ H' λσ2 H2=>tb { D with nx:=N,ct:=N,bk:=D.nx } σ2 H2):=by
 refine⟨λi m σ H=>m=n-i/\i<=n/\Pv i σ H,⟨n,by simp,Nat.zero_le _,h0⟩, ?_⟩
 rintro i m σ H ⟨rfl,hi,p⟩
 by_cases hlt:i<n
 ·refine .inr ⟨hlt,Pv (i+1),λσ' H' p'=>⟨n-(i+1),by omega,rfl,hlt,p'⟩,λx H' y=>?_⟩;obtain⟨e,y⟩:=y;subst e y;exact hs i σ _ hlt p
 ·have e:i=n:=by omega
  subst e;exact .inl ⟨Zq _,hd σ H p⟩
abbrev R2:=V->V->Hp->VK->Prop
def eA(X:Cx)(f:Value->Value->Sem Value)(r:R2):Prop :=
 ∀(pins:List (Addr×Obj)) (s:Shared) (σ:St) (H:Hp) (x y:V) (v u:Value) (Q:VK),Inv X pins σ H s->a8 x v->a8 y u->r x y H Q ->
  wpAny (model X.prog X.w) X.A (f v u) (EP X pins σ Q) X.xe s
def ZZ(X:Cx)(f:Value->Sem Value)(r:V->Hp->VK->Prop):Prop :=
 ∀(pins:List (Addr×Obj)) (s:Shared) (σ:St) (H:Hp) (x:V) (v:Value) (Q:VK),Inv X pins σ H s->a8 x v->r x H Q ->
  wpAny (model X.prog X.w) X.A (f v) (EP X pins σ Q) X.xe s
def gD(X:Cx)(f:Value)(r:List V->Hp->VK->Prop):Prop :=
 ∀(pins:List (Addr×Obj)) (s:Shared) (σ:St) (H:Hp) (xs:List V) (us:List Value) (Q:VK),Inv X pins σ H s->aS xs us->r xs H Q ->
  wpAny (model X.prog X.w) X.A (call f us) (EP X pins σ Q) X.xe s
def aDv(X:Cx)(r:V->Hp->(Bool->Hp->Prop)->Prop):Prop :=
 ∀(pins:List (Addr×Obj)) (s:Shared) (σ:St) (H:Hp) (x:V) (v:Value) (Q:Bool->Hp->Prop),Inv X pins σ H s->a8 x v->r x H Q ->
  wpAny (model X.prog X.w) X.A (truthy v) (TP X pins σ Q) X.xe s
def LR(r:R2)(ta tb:TE):TE:=λσ H Q=>ta σ H λx H1=>tb σ H1 λy H2=>r x y H2 Q
def tUn(r:V->Hp->VK->Prop)(ta:TE):TE:=λσ H Q=>ta σ H λx H1=>r x H1 Q
def rI(C:Int->Int->Prop)(g:Int->Int->V):R2:=λx y H Q=>∃i j,x=.int i/\y=.int j/\C i j/\Q (g i j) H
def v7(g:Int->Int->V):R2:=λx y H Q=>∃i j,x=.int i/\y=.int j/\Q (g i j) H
def rU(g:Int->V):V->Hp->VK->Prop:=λx H Q=>∃i,x=.int i/\Q (g i) H
section
variable{X:Cx}{a b c:Expr}{ta tb tc:TE}{pos:Pos}
theorem NN(ha:PE X a ta)(hb:PE X b tb){pins:List (Addr×Obj)}{s:Shared}{σ:St}{H:Hp}{R:V->V->Hp->Prop}(I:Inv X pins σ H s)
  (h:ta σ H λx H1=>tb σ H1 λy H2=>R x y H2) {Q:Value->Shared->Prop} {f:Value->Value->Sem Value}
  (hf:∀v u s2 x y H2,Inv X pins σ H2 s2->a8 x v->a8 y u->R x y H2->wpAny (model X.prog X.w) X.A (f v u) Q X.xe s2) :
  wpAny (model X.prog X.w) X.A (eval a X.env) (λv s₁=>wpAny (model X.prog X.w) X.A (eval b X.env) (λu s₂=>wpAny (model X.prog X.w) X.A (f v u) Q X.xe s₂) X.xe s₁) X.xe s:=by
 refine a7 (ha pins s σ H _ I h) λv s1 ⟨x,H1,I1,r1,q1⟩=>?_
 refine a7 (hb pins s1 σ H1 _ I1 q1) λu s2 ⟨y,H2,I2,r2,q2⟩=>?_
 exact hf v u s2 x y H2 I2 r1 r2 q2
theorem aCy{op:Operator}{r:R2}(ho:eA X (binaryOp op) r)(ha:PE X a ta)(hb:PE X b tb):PE X (.BinOp a op b pos) (LR r ta tb):=by
 intro pins s σ H Q I h;exact wpAny_BinOp (NN ha hb I h λv u s2 x y H2 I2 rx ry q=>ho pins s2 σ H2 x y v u Q I2 rx ry q)
theorem aBq{op:UnaryOp}{r:V->Hp->VK->Prop}(ho:ZZ X (unaryOp op) r)(ha:PE X a ta):PE X (.UnaryOp op a pos) (tUn r ta):=by
 intro pins s σ H Q I h;exact UnaryOp_ (a7 (ha pins s σ H _ I h) λv s1 ⟨x,H1,I1,r1,q1⟩=>ho pins s1 σ H1 x v Q I1 r1 q1)
theorem KI{f:Value->Value->Sem Value}{C:Int->Int->Prop}{g:Int->Int->Int}
  (rule:∀(i j:Int) (t u:Tok) (s:Shared) (Q:Value->Shared->Prop) (E:Value->Shared->Prop),C i j->Q (.int (g i j) s.toks) { s with toks:=s.toks+1 }->wpAny (model X.prog X.w) X.A (f (.int i t) (.int j u)) Q E s) :
  eA X f (rI C λi j=>.int (g i j)):=by
 intro pins s σ H x y v u Q I rx ry h;obtain⟨i,j,rfl,rfl,hc,q⟩:=h;obtain⟨t,rfl⟩:=rx;obtain⟨t',rfl⟩:=ry;exact rule i j t t' s _ _ hc ⟨.int (g i j),H,I.tok _,⟨_,rfl⟩,q⟩
theorem PU{f:Value->Value->Sem Value}{g:Int->Int->Int}
  (rule:∀(i j:Int) (t u:Tok) (s:Shared) (Q:Value->Shared->Prop) (E:Value->Shared->Prop),Q (.int (g i j) s.toks) { s with toks:=s.toks+1 }->wpAny (model X.prog X.w) X.A (f (.int i t) (.int j u)) Q E s) :
  eA X f (v7 λi j=>.int (g i j)):=by
 intro pins s σ H x y v u Q I rx ry h;obtain⟨i,j,rfl,rfl,q⟩:=h;obtain⟨t,rfl⟩:=rx;obtain⟨t',rfl⟩:=ry;exact rule i j t t' s _ _ ⟨.int (g i j),H,I.tok _,⟨_,rfl⟩,q⟩
theorem HD{f:Value->Value->Sem Value}{g:Int->Int->Bool}
  (rule:∀(i j:Int) (t u:Tok) (s:Shared) (Q:Value->Shared->Prop) (E:Value->Shared->Prop),Q (.bool (g i j)) s->wpAny (model X.prog X.w) X.A (f (.int i t) (.int j u)) Q E s) :
  eA X f (v7 λi j=>.bl (g i j)):=by
 intro pins s σ H x y v u Q I rx ry h;obtain⟨i,j,rfl,rfl,q⟩:=h;obtain⟨t,rfl⟩:=rx;obtain⟨t',rfl⟩:=ry;exact rule i j t t' s _ _ ⟨.bl (g i j),H,I,rfl,q⟩
def aDq(i j:Int):Prop:=0<=j/\j<=1000000/\i.natAbs<2 ^ 64
def N0(i j:Int):Prop:=(-(2 ^ 64)<i/\i<2 ^ 64)\/(-(2 ^ 64)<j/\j<2 ^ 64)
theorem N0.ok{i j:Int}(h:N0 i j):IntMulOk i j:=by
 rcases h with ⟨h1,h2⟩ | ⟨h1,h2⟩
 ·exact .of_left (intBits_le_64 h1 h2)
 ·exact .of_right (intBits_le_64 h1 h2)
theorem two_pow_nn(k:Nat):(0:Int)<=2 ^ k:=by
 rw[two_pow_cast];exact Int.natCast_nonneg _
theorem YS:eA X (binaryOp .Add) (v7 λi j=>.int (i+j)):=PU λ_ _ _ _ _ _ _ q=>add_int q
theorem XI:eA X (binaryOp .Sub) (v7 λi j=>.int (i-j)):=PU λ_ _ _ _ _ _ _ q=>sub_int q
theorem aAp:eA X (binaryOp .Mult) (rI N0 λi j=>.int (i*j)):=KI λ_ _ _ _ _ _ _ hc q=>mul_int q hc.ok
theorem aAd:eA X (binaryOp .Mod) (rI (λ_ j=>0<j) λi j=>.int (i % j)):=KI λi j _ _ _ _ _ hc q=>by
 have h1:(0:Int)<j:=hc;exact mod_int' (by omega) (by rw[Int.fmod_eq_emod_of_nonneg i (by omega)];exact q)
theorem X5:eA X (binaryOp .LShift) (rI aDq λi j=>.int (i*2 ^ j.toNat)):=KI λ_ _ _ _ _ _ _ hc q=>lshift_int_small hc.1 hc.2.1 hc.2.2 q
theorem Y4:eA X (binaryOp .RShift) (rI (λ_ j=>0<=j) λi j=>.int (i / 2 ^ j.toNat)):=KI λi j _ _ _ _ _ hc q =>
 rshift_int hc (by rw[Int.fdiv_eq_ediv_of_nonneg i (two_pow_nn _)];exact q)
theorem Z8:eA X (binaryOp .BitAnd) (v7 λi j=>.int (Builtin.bitAnd i j)):=PU λ_ _ _ _ _ _ _ q=>and_int q
theorem unI{f:Value->Sem Value}{g:Int->Int}
  (rule:∀(i:Int) (t:Tok) (s:Shared) (Q:Value->Shared->Prop) (E:Value->Shared->Prop),Q (.int (g i) s.toks) { s with toks:=s.toks+1 }->wpAny (model X.prog X.w) X.A (f (.int i t)) Q E s) :
  ZZ X f (rU λi=>.int (g i)):=by
 intro pins s σ H x v Q I rx h;obtain⟨i,rfl,q⟩:=h;obtain⟨t,rfl⟩:=rx;exact rule i t s _ _ ⟨.int (g i),H,I.tok _,⟨_,rfl⟩,q⟩
theorem aAr:ZZ X (unaryOp .USub) (rU λi=>.int (-i)):=unI λ_ _ _ _ _ q=>neg_int q
end
section
variable{X:Cx}{a b c:Expr}{ta tb tc:TE}{pos:Pos}
theorem LN{pins:List (Addr×Obj)}{σ:St}{H:Hp}{s:Shared}{Q:VK}{k k':Bool}(I:Inv X pins σ H s)(q:Q (.bl k) H)(e:k=k'):EP X pins σ Q (.bool k') s:=by
 subst e;exact⟨.bl k,H,I,rfl,q⟩
theorem aBg:eA X (compareOp .Lt) (v7 λi j=>.bl (decide (i<j))):=HD λ_ _ _ _ _ _ _ q=>lt_int q
theorem aBA:eA X (compareOp .LtE) (v7 λi j=>.bl (decide (i<=j))):=HD λ_ _ _ _ _ _ _ q=>le_int q
theorem aBW:eA X (compareOp .Gt) (v7 λi j=>.bl (decide (j<i))):=HD λ_ _ _ _ _ _ _ q=>gt_int q
theorem aBC:eA X (compareOp .GtE) (v7 λi j=>.bl (decide (j<=i))):=HD λ_ _ _ _ _ _ _ q=>ge_int q
theorem aAK:eA X (compareOp .Is) (λx y H Q=>y=.non/\Q (.bl (decide (x=.non))) H):=by
 intro pins s σ H x y v u Q I rx ry h;obtain⟨rfl,q⟩:=h;cases ry;refine is_none_gen (LN I q ?_)
 cases x<;>first
  | (cases rx;rfl)
  | (obtain⟨t,rfl⟩:=rx;rfl)
theorem R3:eA X (compareOp .IsNot) (λx y H Q=>y=.non/\Q (.bl (!decide (x=.non))) H):=by
 intro pins s σ H x y v u Q I rx ry h;obtain⟨rfl,q⟩:=h;cases ry;refine isnot_none_gen (LN I q ?_)
 cases x<;>first
  | (cases rx;rfl)
  | (obtain⟨t,rfl⟩:=rx;rfl)
theorem UD{op:CmpOp}{r:R2}(ho:eA X (compareOp op) r)(ha:PE X a ta)(hb:PE X b tb)(hm:behindInMarks op b=false):PE X (.Compare a [op] [b] pos) (LR r ta tb):=by
 intro pins s σ H Q I h;exact wpAny_Compare1 (NN ha hb I h λv u s2 x y H2 I2 rx ry q=>ho pins s2 σ H2 x y v u Q I2 rx ry q) hm
def QO(t:TE):TT:=λσ H Q=>t σ H λx H'=>∃k,x=.bl k/\Q k H'
theorem SV{op:CmpOp}{r:R2}(ho:eA X (compareOp op) r)(ha:PE X a ta)(hb:PE X b tb)(hm:behindInMarks op b=false):PT X (.Compare a [op] [b] pos) (QO (LR r ta tb)):=by
 intro pins s σ H Q I h
 refine wpAny_isTrue_Compare1 (a7 (ha pins s σ H _ I h) λv s1 ⟨x,H1,I1,r1,q1⟩=>a7 (hb pins s1 σ H1 _ I1 q1) λu s2 ⟨y,H2,I2,r2,q2⟩ =>
  a7 (ho pins s2 σ H2 x y v u _ I2 r1 r2 q2) λc s3 ⟨z,H3,I3,r3,k,e,q3⟩=>?_) hm
 subst e;cases r3;exact wpAny_truthy_bool ⟨H3,I3,q3⟩
noncomputable def AU(r r':R2)(ta tb tc:TE):TE:=λσ H Q=>ta σ H λx H1=>tb σ H1 λy H2=>r x y H2 λz H3=>∃k,z=.bl k /\
 (if k=true then tc σ H3 λw' H4=>r' y w' H4 Q else Q (.bl false) H3)
theorem PY{op op':CmpOp}{r r':R2}(ho:eA X (compareOp op) r)(ho':eA X (compareOp op') r')(ha:PE X a ta)(hb:PE X b tb)(hc:PE X c tc)
  (hm:lastMarks [op,op'] [b,c]=false:=by with_unfolding_all rfl):PE X (.Compare a [op,op'] [b,c] pos) (AU r r' ta tb tc):=by
 intro pins s σ H Q I h
 refine Compare_chain (a7 (ha pins s σ H _ I h) λv s1 ⟨x,H1,I1,r1,q1⟩=>chain_link (a7 (hb pins s1 σ H1 _ I1 q1) λu s2 ⟨y,H2,I2,r2,q2⟩ =>
  a7 (ho pins s2 σ H2 x y v u _ I2 r1 r2 q2) λd s3 ⟨z,H3,I3,r3,k,e,q3⟩=>?_)) hm
 subst e;cases r3;refine wpAny_truthy_bool ?_
 cases k with
 |false=>exact ite_ff ⟨.bl false,H3,I3,rfl,q3⟩
 |true=>exact ite_tt (chain_last (a7 (hc pins s3 σ H3 _ I3 q3) λw' s4 ⟨z',H4,I4,r4,q4⟩=>ho' pins s4 σ H4 y z' u w' Q I4 r2 r4 q4))
theorem OE{op op':CmpOp}{r r':R2}(ho:eA X (compareOp op) r)(ho':eA X (compareOp op') r')(ha:PE X a ta)(hb:PE X b tb)(hc:PE X c tc)
  (hm:lastMarks [op,op'] [b,c]=false:=by with_unfolding_all rfl):PT X (.Compare a [op,op'] [b,c] pos) (QO (AU r r' ta tb tc)):=by
 intro pins s σ H Q I h
 refine isTrue_chain (a7 (ha pins s σ H _ I h) λv s1 ⟨x,H1,I1,r1,q1⟩=>test_link (a7 (hb pins s1 σ H1 _ I1 q1) λu s2 ⟨y,H2,I2,r2,q2⟩ =>
  a7 (ho pins s2 σ H2 x y v u _ I2 r1 r2 q2) λd s3 ⟨z,H3,I3,r3,k,e,q3⟩=>?_)) hm
 subst e;cases r3;refine wpAny_truthy_bool ?_
 cases k with
 |false =>
  obtain⟨k',e',q'⟩:=q3;cases e';exact ite_ff ⟨H3,I3,q'⟩
 |true =>
  refine ite_tt (test_last (a7 (hc pins s3 σ H3 _ I3 q3) λw' s4 ⟨z',H4,I4,r4,q4⟩=>a7 (ho' pins s4 σ H4 y z' u w' _ I4 r2 r4 q4) λd' s5 ⟨z2,H5,I5,r5,k2,e2,q5⟩=>?_));subst e2;cases r5;exact wpAny_truthy_bool ⟨H5,I5,q5⟩
def FG(K:Frag)(x:V)(H:Hp)(k:Bool):Prop :=
 match x with
 |.non=>k=false
 |.bl b=>k=b
 |.int i=>k=(i != 0)
 |.str y=>y.length<=sizeLine/\k=((y.length:Int) != 0)
 |.byt y=>y.size<=sizeLine/\k=((y.size:Int) != 0)
 |.ref p=>(∃xs,bV K H p xs/\k=!xs.isEmpty)\/(∃xs,cK K H p xs/\k=!xs.isEmpty)\/∃kvs,H p=some (.dK kvs)/\k=!kvs.isEmpty
 |_=>False
theorem FC{κ:Type}{kvs:List (κ×V)}{vs:List (κ×Value)}(r:KV kvs vs):(!vs.isEmpty)=!kvs.isEmpty:=by
 cases r<;>rfl
theorem uG{xs:List V}{its:List Value}(r:aS xs its):(!its.toArray.isEmpty)=!xs.isEmpty:=by
 cases r<;>simp
theorem kK:(sizeLine:Nat)<2 ^ 63:=by rw[sizeLine_eq];decide
theorem K5:aDv X (λx H Q=>∃k,FG X.K x H k/\Q k H):=by
 intro pins s σ H x v Q I rx h;obtain⟨k,e,q⟩:=h;have hl:=kK;have hs:sizeLine=16777216:=sizeLine_eq
 cases x with
 |non =>
  cases rx;have e':k=false:=e;subst e';exact truthy_none ⟨H,I,q⟩
 |bl b =>
  cases rx;have e':k=b:=e;subst e';exact wpAny_truthy_bool ⟨H,I,q⟩
 |int i =>
  obtain⟨t,rfl⟩:=rx;have e':k=(i != 0):=e;subst e';exact PySem.P.truthy_int ⟨H,I,q⟩
 |str y =>
  obtain⟨t,rfl⟩:=rx;obtain⟨hy,e'⟩:y.length<=sizeLine/\k=((y.length:Int) != 0):=e;subst e';exact PySem.P.truthy_str (by omega) ⟨H,I.tok _,q⟩
 |byt y =>
  obtain⟨t,rfl⟩:=rx;obtain⟨hy,e'⟩:y.size<=sizeLine/\k=((y.size:Int) != 0):=e;subst e';exact PySem.W.truthy_bytes (by omega) ⟨H,I.tok _,q⟩
 |ref p =>
  cases rx;have e':(∃xs,bV X.K H p xs/\k=!xs.isEmpty)\/(∃xs,cK X.K H p xs/\k=!xs.isEmpty)\/∃kvs,H p=some (.dK kvs)/\k=!kvs.isEmpty:=e
  rcases e' with ⟨xs,hx,e'⟩ | ⟨xs,hx,e'⟩ | ⟨kvs,hx,e'⟩
  ·subst e';obtain⟨its,r,pl,hz⟩:=I.list hx;have hlen:=r.length;exact wpAny_truthy_list pl.isList (by simp only[Zi];omega) ⟨H,I.tok _,by rw[uG r];exact q⟩
  ·subst e';obtain⟨its,r,pl,hz⟩:=I.tuple hx;have hlen:=r.length;exact truthy_tuple pl (by simp only[Zi];omega) ⟨H,I.tok _,by rw[uG r];exact q⟩
  ·subst e';obtain⟨hz,hS,vs,r,m⟩:kvs.length<=sizeLine/\(p==sysModules)=false/\∃vs,KV kvs vs/\s.heap.DictOf (xB X.prog X.w) p vs:=I.hok p _ hx
   have hlen:kvs.length=vs.length:=Paired.length r;exact wpAny_truthy_dict hS m (by omega) ⟨H,I.tok _,by rw[FC r];exact q⟩
 |_=>exact(show False from e).elim
theorem BO(ha:PE X a ta)(he:∀whole,isTrue a X.env whole=(do let v <- whole;standAt a.pos;holding [v] (truthy v))) :
  PT X a (λσ H Q=>ta σ H λx H'=>∃k,FG X.K x H' k/\Q k H'):=by
 intro pins s σ H Q I h;exact isTrue_plain (a7 (ha pins s σ H _ I h) λv s1 ⟨x,H1,I1,r1,q1⟩=>K5 pins s1 σ H1 x v Q I1 r1 q1) (he _)
theorem iS{x:V}{us:List Value}(r:aS [x] us):∃u,us=[u]/\a8 x u:=by
 cases r with
 |cons r1 r2=>cases r2;exact⟨_,rfl,r1⟩
theorem aB4{x y:V}{us:List Value}(r:aS [x,y] us):∃u w',us=[u,w']/\a8 x u/\a8 y w':=by
 cases r with
 |cons r1 r2 =>
  cases r2 with
  |cons r3 r4=>cases r4;exact⟨_,_,rfl,r1,r3⟩
theorem M6:gD X (.builtin "abs") (λxs H Q=>∃i,xs=[.int i]/\Q (.int (if i<0 then -i else i)) H):=by
 intro pins s σ H xs us Q I r h;obtain⟨i,rfl,q⟩:=h;obtain⟨u,rfl,t,rfl⟩:=iS r;exact call_abs_int λu tk=>⟨.int (if i<0 then -i else i),H,I.tok _,⟨_,rfl⟩,q⟩
theorem yR:gD X (.type "int") (λxs H Q=>(∃i,xs=[.int i]/\Q (.int i) H)\/∃k,xs=[.bl k]/\Q (.int (if k then 1 else 0)) H):=by
 intro pins s σ H xs us Q I r h;rcases h with ⟨i,rfl,q⟩ | ⟨k,rfl,q⟩
 ·obtain⟨u,rfl,t,rfl⟩:=iS r;exact call_int_int ⟨.int i,H,I,⟨_,rfl⟩,q⟩
 ·obtain⟨u,rfl,r1⟩:=iS r;cases r1;exact call_int_bool ⟨.int (if k then 1 else 0),H,I.tok _,⟨_,rfl⟩,q⟩
end
structure ObjM(h:Heap)(x dx C:Addr)(mA:Str->Option Value):Prop where
 obj:h.get? x=some (PySem.W.instObj C dx)
 ns:h.Ns1 dx mA
 ne:dx≠x
theorem IA{h:Heap}{dx:Addr}{mA:Str->Option Value}(n:h.Ns1 dx mA):∃od,h.get? dx=some od/\∀name,PySem.W.lookIn name od=some (mA name):=by
 obtain⟨o,es,ep,ho,hd,hk,_,hm⟩:=n;refine⟨o,ho,λname=>?_⟩;have e:=hm name;unfold nsFind findBy at e;rw[<- Array.find?_toList] at e;unfold PySem.W.lookIn;rw[hd];dsimp only;split
 ·rename_i y q;rw[q] at e;exact congrArg some e
 ·rename_i q;rw[q] at e
  have a:es.toList.any (·.refKey)=false:=by(rw[List.any_eq_false];intro y hy;obtain⟨z,t,hkey⟩:=hk y (Array.mem_toList_iff.mp hy);simp[DictEntry.refKey,hkey])
  have a':¬es.toList.any (·.refKey)=true:=by rw[a];exact Bool.false_ne_true
  rw[Zp a'];exact congrArg some e
theorem ObjM.look{h:Heap}{x dx C:Addr}{mA:Str->Option Value}(I:ObjM h x dx C mA):∃od,PySem.W.InstAt h x (PySem.W.instObj C dx) C (some od)/\∀name,PySem.W.lookIn name od=some (mA name) :=
 let ⟨od,ho,hl⟩:=IA I.ns
 ⟨od,⟨I.obj,rfl,rfl,ho⟩,hl⟩
section
variable{prog:Program}{w:World}{A:Around}{E:Value->Shared->Prop}{s:Shared}{K:Frag}{x dx C f:Addr}{mA:Str->Option Value}{name:Str}{v:Value}
theorem S0{expr:Bool}{Q:Value->Shared->Prop}(X:K.In s.heap)(I:ObjM s.heap x dx C mA)(hg:PySem.W.plainGet K C name=true)(hh:PySem.W.hasDictIn K C=true)
  (ha:findIn K (.ref C) name=some none) (hv:mA name=some v) (hv':PySem.W.handedIn v=true) (h:Q v { s with toks:=s.toks+1 }) :
  wpAny (model prog w) A (getAttr (.ref x) name expr) Q E s:=by
 obtain⟨od,J,hl⟩:=I.look;exact PySem.W.get_value X J (PySem.W.plainGet_of hg).1 (PySem.W.findObj_own hh ha rfl (by rw[hl,hv])) hv' h
theorem L6{pl:Sem Bool}{Q:Value×List Value->Shared->Prop}(X:K.In s.heap)(I:ObjM s.heap x dx C mA)(hg:PySem.W.plainGet K C name=true)
  (hf:findIn K (.ref C) name=some (some (.ref f))) (ht:PySem.W.isFn K (.ref f)=true) (hv:mA name=none) (h:Q (.ref f,[.ref x]) s) :
  wpAny (model prog w) A (getMethod (.ref x) name pl) Q E s:=by
 obtain⟨od,J,hl⟩:=I.look;exact PySem.W.method_fn X J (PySem.W.plainGet_of hg).1 (PySem.W.plainGet_of hg).2 hf (beq_iff_eq.mp ht) (by show(PySem.W.lookIn name od).map (·.isSome)=some false;rw[hl,hv];rfl) h
theorem TH{ns:List Str}{Q:Unit->Shared->Prop}(X:K.In s.heap)(I:ObjM s.heap x dx C mA)
  (hs:findIn K (.ref C) "__setattr__"=some (some (.builtin "object.__setattr__"))) (hp:PySem.W.plainOver K C=true) (ht:PySem.W.takerIn K C name=some none) (hh:PySem.W.hasDictIn K C=true)
  (hw:PySem.Within mA ns) (hsz:ns.length<=sizeLine)
  (h:∀h',ObjM h' x dx C (λy=>if y=name then some v else mA y)->Heap.SameBut dx s.heap h'->Q () { s with heap:=h',toks:=s.toks+2 }) :
  wpAny (model prog w) A (setAttr (.ref x) name v) Q E s:=by
 obtain⟨od,J,hl⟩:=I.look;refine PySem.W.set_plain X J hs (PySem.W.osa_open (s:={ s with toks:=s.toks+1 }) (r:=none) X J hp ht λb=>?_);obtain⟨cd,hc,hd'⟩:=PySem.W.any_some hh;have hx:s.heap.get? x=some ⟨.ref C,some dx,.plain,#[]⟩:=I.obj;refine Zt (Zu (Zt (Zt (wpAny_loadPart hx (Zt (PySem.W.Looks.here (s:={ s with toks:=s.toks+1 }) (PySem.W.looks_clsIn X hc) ?_))))));rw[hd'];refine Zu (a:=some dx) (Zt (Zu (Zt ?_)));refine wpAny_nsSet1 (s:={ s with toks:=s.toks+1 }) I.ns λh' hn2 hs2=>?_
 obtain⟨oD,esD,epD,hoD,l8,hcD⟩:=hn2.count (PySem.Within.cons name v hw);refine Zt (wpAny_lookBehind hoD (by rw[l8];exact pastItsLine_dict (Zr hcD (by rw[Zk];omega))) ?_);exact Zu (h _ ⟨(hs2.2 _ (Ne.symm I.ne)).trans I.obj,hn2,I.ne⟩ hs2)
theorem O6{R:Result->Shared->Prop}{vs:List Value}{kw:List (Str×Value)}(X:K.In s.heap)(hm:PySem.W.makesIn K C=true)
  (hi:findIn K (.ref C) "__init__"=some (some (.ref f))) (hf:PySem.W.typeIn K (.ref f)=some (.type "function"))
  (h:codeAny (model prog w) (A.under (.builtin "type.__call__" ⟨.ref C::vs,kw⟩)) (.call (.ref f) ⟨.ref (s.heap.objs.size+1)::vs,kw⟩) (PySem.W.InitBack (s.heap.objs.size+1) R)
   { s with heap:=(s.heap.push PySem.W.emptyDict).push (PySem.W.instObj C s.heap.objs.size) }) :
  codeAny (model prog w) A (.call (.ref C) ⟨vs,kw⟩) R s:=by
 obtain⟨hh,g,d,t,os⟩:=s;exact PySem.W.make_core (PySem.W.makes_of X hm) (PySem.W.looks_findIn X hi) (λself=>PySem.W.bind_fn X self hf) (.inl rfl) h
end
noncomputable def fS(f:Str)(v:V):List (Str×V)->List (Str×V)
 |[]=>[(f,v)]
 | (g,x)::r=>if g=f then(g,v)::r else(g,x)::fS f v r
theorem sY(f g:Str)(v:V):∀fs:List (Str×V),(fS f v fs).lookup g=if g=f then some v else fs.lookup g
 |[]=>by
  show List.lookup g [(f,v)]=_;by_cases h:g=f
  ·have hb:(g==f)=true:=beq_iff_eq.mpr h;simp only[List.lookup,hb,Zo h]
  ·have hb:(g==f)=false:=beq_eq_false_iff_ne.mpr h;simp only[List.lookup,hb,Zp h]
 | (k,x)::r=>by
  have ih:=sY f g v r;rw[show fS f v ((k,x)::r)=(if k=f then(k,v)::r else(k,x)::fS f v r) from rfl];by_cases hk:k=f
  ·rw[Zo hk];by_cases h:g=k
   ·have hb:(g==k)=true:=beq_iff_eq.mpr h;simp only[List.lookup,hb,Zo (h.trans hk)]
   ·have hb:(g==k)=false:=beq_eq_false_iff_ne.mpr h;simp only[List.lookup,hb,Zp (λe:g=f=>h (e.trans hk.symm))]
  ·rw[Zp hk];by_cases h:g=k
   ·have hb:(g==k)=true:=beq_iff_eq.mpr h;simp only[List.lookup,hb,Zp (λe:g=f=>hk (h.symm.trans e))]
   ·have hb:(g==k)=false:=beq_eq_false_iff_ne.mpr h;simp only[List.lookup,hb];exact ih
theorem qP(f:Str)(v:V):∀fs:List (Str×V),f∈(fS f v fs).map (·.1)/\∀g,g∈fs.map (·.1)->g∈(fS f v fs).map (·.1)
 |[]=>⟨by simp[fS],λg h=>by simp at h⟩
 | (k,x)::r=>by
  obtain⟨i1,i2⟩:=qP f v r;rw[show fS f v ((k,x)::r)=(if k=f then(k,v)::r else(k,x)::fS f v r) from rfl];by_cases hk:k=f
  ·rw[Zo hk];subst hk;exact⟨by simp,λg h=>by simpa using h⟩
  ·rw[Zp hk];refine⟨?_,λg h=>?_⟩
   ·rw[Zs];exact Ze _ i1
   ·rw[Zs] at h ⊢;rcases List.mem_cons.mp h with e | e
    ·exact List.mem_cons.mpr (.inl e)
    ·exact Ze _ (i2 g e)
theorem sS(f:Str)(v:V):∀fs:List (Str×V),(fS f v fs).length<=fs.length+1
 |[]=>by simp[fS]
 | (k,x)::r=>by
  have ih:=sS f v r;rw[show fS f v ((k,x)::r)=(if k=f then(k,v)::r else(k,x)::fS f v r) from rfl];by_cases hk:k=f
  ·rw[Zo hk,Zk,Zk];omega
  ·rw[Zp hk,Zk,Zk];omega
theorem lZ.some_of{v:V}{o:Option Value}(r:lZ (some v) o):∃u,o=some u/\a8 v u:=by
 cases o with
 |none=>exact(show False from r).elim
 |some u=>exact⟨u,rfl,r⟩
theorem lZ.none_of{o:Option Value}(r:lZ none o):o=none:=by
 cases o with
 |none=>rfl
 |some u=>exact(show False from r).elim
theorem LO{v:V}{u:Value}(r:a8 v u):PySem.W.handedIn u=true:=by
 cases v with
 |non=>cases (show u=Value.none from r);rfl
 |bl b=>cases (show u=Value.bool b from r);rfl
 |int i=>obtain⟨t,e⟩:=(show ∃t,u=Value.int i t from r);cases e;rfl
 |str x=>obtain⟨t,e⟩:=(show ∃t,u=Value.str x t from r);cases e;rfl
 |byt b=>obtain⟨t,e⟩:=(show ∃t,u=Value.bytes b t from r);cases e;rfl
 |flt b=>obtain⟨t,e⟩:=(show ∃t,u=Value.float b t from r);cases e;rfl
 |ref a=>cases (show u=Value.ref a from r);rfl
 |ty n=>cases (show u=Value.type n from r);rfl
section
variable{P:Program}{w:World}{H H':Hp}{h h':Heap}{a C dx:Addr}{fs fs':List (Str×V)}
theorem xA(hok:gC P w H h)(e:H a=some (.ins C dx fs)):∃mA,ObjM h a dx C mA/\(∀f,lZ (fs.lookup f) (mA f))/\PySem.Within mA (fs.map (·.1))/\fs.length<=1000/\H dx=some (.own a):=by
 obtain⟨d,z,ne,ob,mA,n,r,q⟩:=(show eS P w H h a (.ins C dx fs) from hok a _ e)
 exact⟨mA,⟨ob,n,ne⟩,r,q,z,d⟩
end
structure Cls(K:Frag)(C:Addr):Prop where
 pg:PySem.W.plainGet K C Str.empty=true
 hd:PySem.W.hasDictIn K C=true
 po:PySem.W.plainOver K C=true
 sa:findIn K (.ref C) "__setattr__"=some (some (.builtin "object.__setattr__"))
theorem Cls.get{K:Frag}{C:Addr}(c:Cls K C)(f:Str):PySem.W.plainGet K C f=true:=c.pg
def jH(K:Frag)(C:Addr)(f:Str):Prop:=findIn K (.ref C) f=some none
theorem jH.taker{K:Frag}{C:Addr}{f:Str}(n:jH K C f):PySem.W.takerIn K C f=some none:=by
 unfold PySem.W.takerIn;rw[show findIn K (.ref C) f=some none from n];rfl
structure Con(K:Frag)(C:Addr)(f:Str)(v:V)(u:Value):Prop where
 at_:findIn K (.ref C) f=some (some u)
 rel:a8 v u
 get:PySem.W.specialIn K u "__get__"=some none
 cp:PySem.W.copiedNames.contains f=false
structure Meth(K:Frag)(C:Addr)(m:Str)(f:Addr):Prop where
 at_:findIn K (.ref C) m=some (some (.ref f))
 fn:PySem.W.isFn K (.ref f)=true
 kp:PySem.W.keepIn K (.ref f)=true
section
variable{X:Cx}{pins:List (Addr×Obj)}{σ:St}{H:Hp}{s:Shared}{a C dx:Addr}{fs:List (Str×V)}{f:Str}{v:V}{A:Around}{E:Value->Shared->Prop}
theorem FQ{b:Bool}{Q:Value->Shared->Prop}(I:Inv X pins σ H s)(e:H a=some (.ins C dx fs))(c:Cls X.K C)(n:jH X.K C f)(l:fs.lookup f=some v)
  (h:∀u s',Inv X pins σ H s'->a8 v u->Q u s'):wpAny (model X.prog X.w) A (getAttr (.ref a) f b) Q E s:=by
 obtain⟨mA,O,r,_,_,_⟩:=xA I.hok e;obtain⟨u,hu,ru⟩:=lZ.some_of (v:=v) (o:=mA f) (by rw[<- l];exact r f);exact S0 I.kIn O (c.get f) c.hd n hu (LO ru) (h u _ (I.tok _) ru)
theorem uO{m:Str}{g:Addr}{pl:Sem Bool}{Q:Value×List Value->Shared->Prop}(I:Inv X pins σ H s)(e:H a=some (.ins C dx fs))(c:Cls X.K C)(k:Meth X.K C m g)(l:fs.lookup m=none)
  (h:Q (.ref g,[.ref a]) s):wpAny (model X.prog X.w) A (getMethod (.ref a) m pl) Q E s:=by
 obtain⟨mA,O,r,_,_,_⟩:=xA I.hok e;have hn:mA m=none:=lZ.none_of (by rw[<- l];exact r m);exact L6 I.kIn O (c.get m) k.at_ k.fn hn h
theorem GB{y:V}{u:Value}{Q:Unit->Shared->Prop}(I:Inv X pins σ H s)(e:H a=some (.ins C dx fs))(c:Cls X.K C)(n:jH X.K C f)(hl:fs.length<1000)(ry:a8 y u)
  (h:∀s',Inv X pins σ (aW H a (.ins C dx (fS f y fs))) s'->Q () s'):wpAny (model X.prog X.w) A (setAttr (.ref a) f u) Q E s:=by
 obtain⟨mA,O,r,wi,_,ho⟩:=xA I.hok e;have hz:(fs.map (·.1)).length<=sizeLine:=by rw[List.length_map,sizeLine_eq];omega
 refine TH I.kIn O c.sa c.po n.taker c.hd wi hz λh' O' sb=>h _ ?_
 have hd:∃o,h'.get? dx=some o:=let ⟨o,_,_,e',_⟩:=O'.ns;⟨o,e'⟩
 refine I.write (x:=a) (e:=dx) (by rw[e];exact True.intro) (.inr ho) (λb q hb z=>(sb.2 b hb).trans z) hd ?_;refine⟨by rw[aO O.ne];exact ho, ?_,O.ne,O'.obj,_,O'.ns,λg=>?_,λg hg=>?_⟩
 ·have:=sS f y fs;omega
 ·show lZ ((fS f y fs).lookup g) (if g=f then some u else mA g);rw[sY];by_cases q:g=f
  ·rw[Zo q,Zo q];exact ry
  ·rw[Zp q,Zp q];exact r g
 ·by_cases q:g=f
  ·rw[q];exact(qP f y fs).1
  ·refine(qP f y fs).2 g (wi g λz=>hg ?_);show(if g=f then some u else mA g)=none;rw[Zp q];exact z
theorem Inv.made(I:Inv X pins σ H s):Inv X pins σ (aW (aW H s.heap.objs.size (.own (s.heap.objs.size+1))) (s.heap.objs.size+1) (.ins C s.heap.objs.size []))
  { s with heap:=(s.heap.push PySem.W.emptyDict).push (PySem.W.instObj C s.heap.objs.size) }:=by
 have e1:(s.heap.push PySem.W.emptyDict).get? s.heap.objs.size=some PySem.W.emptyDict:=Zw s.heap rfl
 have e2:((s.heap.push PySem.W.emptyDict).push (PySem.W.instObj C s.heap.objs.size)).get? (s.heap.objs.size+1)=some (PySem.W.instObj C s.heap.objs.size):=by
  have:=Zw (s.heap.push PySem.W.emptyDict) (o:=PySem.W.instObj C s.heap.objs.size) rfl
  rwa[Heap.size_push] at this
 have e3:(s.heap.push PySem.W.emptyDict).Ns s.heap.objs.size (λ_=>none):=⟨PySem.W.emptyDict,#[],_,e1,rfl,(λe he=>absurd he (by simp)),λ_=>rfl⟩
 have I1:=I.laid (a:=s.heap.objs.size) (o:=.own (s.heap.objs.size+1)) (h':=s.heap.push PySem.W.emptyDict) (t':=s.toks) (λb u q=>Zd _ q) (Zq _) ⟨_,e1⟩;refine I1.laid (a:=s.heap.objs.size+1) (o:=.ins C s.heap.objs.size []) (t':=s.toks) (λb u q=>Zd _ q) (Nat.le_of_eq (Heap.size_push _ _)) ?_;have ne:s.heap.objs.size≠s.heap.objs.size+1:=Zz (Nat.lt_succ_self _);refine⟨by rw[aO ne,bB],Nat.zero_le _,ne,e2,λ_=>none,(Heap.Ns1.of_empty e3).at λo q=>Zd _ q,λ_=>True.intro,λy hy=>absurd rfl hy⟩
theorem T9{prog:Program}{w:World}{env:Env}{e:Expr}{f:Str}{pos:Pos}{s:Shared}{Q:Value->Shared->Prop}(hb:attributeBase e f env (eval e env)=eval e env)
  (h:wpAny (model prog w) A (eval e env) (λo s₁=>wpAny (model prog w) A (getAttr o f true) Q E s₁) E s):wpAny (model prog w) A (eval (.Attribute e f pos) env) Q E s :=
 Attribute_any_ h (by rw[arm_eval_Attribute,hb])
end
noncomputable def aEi(K:Frag)(ta:TE)(f:Str):TE:=λσ H Q=>ta σ H λx H1=>∃a C dx fs v,x=.ref a/\H1 a=some (.ins C dx fs)/\Cls K C/\jH K C f/\fs.lookup f=some v/\Q v H1
noncomputable def aDN(K:Frag)(ta tv:TE)(f:Str):TS:=λD σ H=>tv σ H λy H1=>ta σ H1 λx H2=>∃a C dx fs,x=.ref a/\H2 a=some (.ins C dx fs)/\Cls K C/\jH K C f/\fs.length<1000 /\
 D.nx σ (aW H2 a (.ins C dx (fS f y fs)))
section
variable{X:Cx}{o e value:Expr}{f:Str}{pos pos' tpos:Pos}{ta tv:TE}
theorem XE(he:PE X e ta)(hb:attributeBase e f X.env (eval e X.env)=eval e X.env):PE X (.Attribute e f pos) (aEi X.K ta f):=by
 intro pins s σ H Q I h;refine T9 hb (a7 (he pins s σ H _ I h) λu s1 ⟨x,H1,I1,rx,a,C,dx,fs,v,ex,ea,c,n,l,q⟩=>?_);subst ex;obtain rfl:u=Value.ref a:=rx;exact FQ I1 ea c n l λu' s2 I2 ru=>⟨v,H1,I2,ru,q⟩
theorem YF(ha:PE X o ta)(hv:PE X value tv)(hs:swapsWith value (some (.Attribute o f pos')) pos.line X.env=pure false):PS X (.Assign [.Attribute o f pos'] value pos) (aDN X.K ta tv f):=by
 intro pins s σ H D I h;refine plainObj_wpAny_Assign_Attribute (a7 (hv pins s σ H _ I h) λu s1 ⟨y,H1,I1,ry,q⟩=>a7 (ha pins s1 σ H1 _ I1 q) λov s2 ⟨x,H2,I2,rx,a,C,dx,fs,ex,ea,c,n,l,q2⟩=>?_) hs;subst ex;obtain rfl:ov=Value.ref a:=rx;exact GB I2 ea c n l ry λs3 I3=>⟨σ,_,I3,q2⟩
end
section
variable{X:Cx}{pins:List (Addr×Obj)}{σ:St}{H:Hp}{s:Shared}{A:Around}{E:Value->Shared->Prop}{Q:Value->Shared->Prop}{c:Value}{b:Bool}
inductive TyOf(K:Frag)(H:Hp):V->Value->Prop where
 |non:TyOf K H .non (.type "NoneType")
 |bl (x:Bool):TyOf K H (.bl x) (.type "bool")
 |int (i:Int):TyOf K H (.int i) (.type "int")
 |str (x:Str):TyOf K H (.str x) (.type "str")
 |flt (x:UInt64):TyOf K H (.flt x) (.type "float")
 |lst {a:Addr} {xs:List V} (e:H a=some (.lst xs)):TyOf K H (.ref a) (.type "list")
 |frz {a:Addr} {o:Obj} {xs:List V} (e:H a=some (.frz o (.lst xs))):TyOf K H (.ref a) (.type "list")
 |tup {a:Addr} {xs:List V} (e:H a=some (.tup xs)):TyOf K H (.ref a) (.type "tuple")
 |dK {a:Addr} {kvs:List (hE×V)} (e:H a=some (.dK kvs)):TyOf K H (.ref a) (.type "dict")
 |dT {a:Addr} {kvs:List (List hE×V)} (e:H a=some (.dT kvs)):TyOf K H (.ref a) (.type "dict")
 |ins {a C dx:Addr} {fs:List (Str×V)} (e:H a=some (.ins C dx fs)) (cl:Cls K C) (ha:findIn K (.ref C) "__class__"=some (some (.builtin "object.__class__")))
   (hn:PySem.W.specialIn K (.builtin "object.__class__") "__get__"=some (some (.builtin "getset_descriptor.__get__"))) (htk:PySem.W.takesIn K (.builtin "object.__class__")=some true)
   (hm:PySem.W.mroIn K C (.type "object")=some true):TyOf K H (.ref a) (.ref C)
end
structure Room(k:Nat)(A:Around):Prop where
 hd:A.handled=none
 dp:A.depth+3*k+5<recursionLimit
 un:A.units+16*k+200<cLine
 gs:A.guards=some []
theorem Room.mono{j k:Nat}{A:Around}(r:Room k A)(h:j<=k):Room j A:=⟨r.hd,by have:=r.dp;omega,by have:=r.un;omega,by first | exact r.gs | simpa[Around.deeper,Around.under,Code.guards,Code.isGuard,pushGuards,guardIds] using r.gs⟩
theorem Room.deeper{k:Nat}{A:Around}(r:Room (k+1) A)(env:Env):Room k (A.deeper env) :=
 ⟨r.hd,by have:=r.dp;show A.depth+1+3*k+5<_;omega,by have:=r.un;show A.units+3+16*k+200<_;omega,by first | exact r.gs | simpa[Around.deeper,Around.under,Code.guards,Code.isGuard,pushGuards,guardIds] using r.gs⟩
theorem FJ{A:Around}{C:Addr}{us:List Value}{kw:List (Str×Value)}:(A.under (.builtin "type.__call__" ⟨.ref C::us,kw⟩)).depth=A.depth+1:=by
 first | rfl | simp[Around.under,Code.weight,Code.isCreation,Code.isGuard,Code.isCaller,Code.frames,Code.isFrame,guardIds]
theorem F2{A:Around}{C:Addr}{us:List Value}{kw:List (Str×Value)}:(A.under (.builtin "type.__call__" ⟨.ref C::us,kw⟩)).units=A.units+1:=by
 first | rfl | simp[Around.under,Code.cUnits,Code.frames,Code.isFrame]
theorem Room.make{k:Nat}{A:Around}(r:Room (k+1) A)(C:Addr)(us:List Value)(kw:List (Str×Value)):Room k (A.under (.builtin "type.__call__" ⟨.ref C::us,kw⟩)) :=
 ⟨r.hd,by have:=r.dp;rw[FJ];omega,by have:=r.un;rw[F2];omega,by first | exact r.gs | simpa[Around.deeper,Around.under,Code.guards,Code.isGuard,pushGuards,guardIds] using r.gs⟩
theorem Room.depth{k:Nat}{A:Around}(r:Room k A):A.depth<recursionLimit:=by have:=r.dp;omega
theorem Room.units{k:Nat}{A:Around}(r:Room k A):A.units+64<cLine:=by have:=r.un;omega
def xV:TA:=λ_ H Q=>Q [] H
def vP(ta:TE)(tr:TA):TA:=λσ H Q=>ta σ H λx H1=>tr σ H1 λxs H2=>Q (x::xs) H2
section
variable{X:Cx}{e:Expr}{es:List Expr}{te:TE}{t:TA}{pos:Pos}
theorem mP:PA X [] xV:=λ_ _ _ _ H Q I h=>Calls.spliced_nil ⟨[],H,I,.nil,h⟩
theorem j9(ha:PE X e te)(hr:PA X es t)(hs:starEach (e::es) X.env=(false,eval e X.env)::starEach es X.env:=by rfl):PA X (e::es) (vP te t):=by
 intro pos pins s σ H Q I h;rw[hs];show wpAny _ _ (spliced ((false,eval e X.env)::backTo pos (starEach es X.env))) _ _ s;refine Calls.spliced_cons (a7 (ha pins s σ H _ I h) λu s1 ⟨x,H1,I1,r1,q1⟩=>?_);exact a7 (hr pos pins s1 σ H1 _ I1 q1) λus s2 ⟨xs,H2,I2,r2,q2⟩=>⟨x::xs,H2,I2,.cons r1 r2,q2⟩
noncomputable def aEb(t:TA):TE:=λσ H Q=>t σ H λxs H1=>xs.length<=sizeLine/\∀p,H1 p=none->Q (.ref p) (aW H1 p (.tup xs))
noncomputable def aDY(t:TA):TE:=λσ H Q=>t σ H λxs H1=>xs.length<=sizeLine/\∀p,H1 p=none->Q (.ref p) (aW H1 p (.lst xs))
theorem YT{x1}(h:PA X es t):PE X (.Tuple es x1 pos) (aEb t):=by
 intro pins s σ H Q I hq;refine wpAny_Tuple_spliced (a7 (h pos pins s σ H _ I hq) λus s1 ⟨xs,H1,I1,r,z,q⟩=>⟨by rw[<- r.length];exact z, ?_⟩);have hf:H1 s1.heap.objs.size=none:=I1.hok.fresh (Zq _);refine⟨.ref s1.heap.objs.size,aW H1 s1.heap.objs.size (.tup xs),I1.laid (t':=s1.toks) (λb u e=>Zd _ e) (Zq _) ?_,rfl,q _ hf⟩;exact⟨z,us,r,⟨_,Zw _ rfl,rfl,_,rfl⟩⟩
theorem ZU(h:PA X es t):PE X (.List es pos) (aDY t):=by
 intro pins s σ H Q I hq;refine wpAny_List_spliced (a7 (h pos pins s σ H _ I hq) λus s1 ⟨xs,H1,I1,r,z,q⟩=>⟨by rw[<- r.length];exact z, ?_⟩);have hf:H1 s1.heap.objs.size=none:=I1.hok.fresh (Zq _);refine⟨.ref s1.heap.objs.size,aW H1 s1.heap.objs.size (.lst xs),I1.laid (t':=s1.toks) (λb u e=>Zd _ e) (Zq _) ?_,rfl,q _ hf⟩;exact⟨z,us,0,r,Zw _ rfl⟩
end
abbrev Sp:=List V->Hp->VK->XK->Prop
abbrev qF:=List Env->Hp->Shared->XK->Value->Shared->Prop
structure Env0(P:Program)(w:World)(K:Frag)(mg:Str->Option Value)(base:Heap)(A:Around)(outer:List Env)(s:Shared)(H:Hp):Prop where
 frames:A.frames=some outer
 mod:Mod K mg base
 bs:∀b o,base.get? b=some o->s.heap.get? b=some o/\H b=none
 bsz:base.objs.size<=s.heap.objs.size
 funs:s.heap.FunFrames base outer
 frf:∀b∈pV outer,H b=none
 hok:gC P w H s.heap
 bare:AllBare s.gens
def CE(outer:List Env)(P:Program)(w:World)(H:Hp)(s:Shared)(Q:VK)(u:Value)(s':Shared):Prop :=
 ∃v H',s'.os=s.os/\AllBare s'.gens/\Un (pV outer) [] H H' s.heap s'.heap/\gC P w H' s'.heap/\a8 v u/\Q v H'
def CR(CX:qF)(outer:List Env)(P:Program)(w:World)(H:Hp)(s:Shared)(Q:VK)(E:XK)(r:Result)(s':Shared):Prop :=
 match r with
 |.ok (.ret u)=>CE outer P w H s Q u s'
 |.ok _=>False
 |.error e=>CX outer H s E e s'
structure FnOk(P:Program)(w:World)(K:Frag)(mg:Str->Option Value)(base:Heap)(CX:qF)(k:Nat)(f:Addr)(fd:FuncData)(ps:List Str)(sp:Sp):Prop where
 len:∀vs H Q E,sp vs H Q E->vs.length=ps.length
 run:∀(A:Around) (outer:List Env) (s:Shared) (H:Hp) (args:Args) (us:List Value) (vs:List V) (Q:VK) (E:XK),Room k A->Env0 P w K mg base A outer s H->BindsTo s fd args (ps.zip us)->aS vs us->sp vs H Q E ->
  codeAny (model P w) A (.call (.ref f) args) (CR CX outer P w H s Q E) s
theorem Env0.make{P:Program}{w:World}{K:Frag}{mg:Str->Option Value}{base:Heap}{A:Around}{outer:List Env}{s:Shared}{H:Hp}(e:Env0 P w K mg base A outer s H)(C:Addr)(us:List Value)(kw:List (Str×Value)) :
  Env0 P w K mg base (A.under (.builtin "type.__call__" ⟨.ref C::us,kw⟩)) outer s H:=⟨by first | exact e.frames | (simpa[Around.under,Code.envs,Code.isFrame,pushEnvs] using e.frames),e.mod,e.bs,e.bsz,e.funs,e.frf,e.hok,e.bare⟩
section
variable{X:Cx}{pins:List (Addr×Obj)}{σ:St}{H:Hp}{s s':Shared}
theorem Inv.env0(I:Inv X pins σ H s):Env0 X.prog X.w X.K X.mg X.base X.A X.stack s H :=
 ⟨I.ok.frames,I.ok.mod,I.bs,Zr I.ok.bsz I.sz,I.stack,I.stkFree,I.hok,I.bare⟩
theorem Inv.after{Q:VK}{u:Value}(I:Inv X pins σ H s)(h:CE X.stack X.prog X.w H s Q u s'):EP X pins σ Q u s':=by
 obtain⟨v,H',os,bare,un,hok,r,q⟩:=h;obtain⟨hh,g,d,t,os'⟩:=s';obtain rfl:os'=s.os:=os;exact⟨v,H',I.call (h':=hh) (g':=g) (d':=d) (t':=t) (ch:=[]) un hok bare (λb z=>absurd z (by simp)),r,q⟩
end
def aBT(sp:Sp)(dvs:List V)(E:XK)(t:TA):TE:=λσ H Q=>t σ H λvs H1=>sp (vs++dvs) H1 Q E
noncomputable def F7(C:Addr)(m:Str)(sp:Sp)(dvs:List V)(E:XK)(ta:TE)(t:TA):TE:=λσ H Q=>ta σ H λx H1=>∃a dx fs,x=.ref a/\H1 a=some (.ins C dx fs)/\fs.lookup m=none /\
 t σ H1 λvs H2=>sp (x::(vs++dvs)) H2 Q E
noncomputable def aBn(C:Addr)(sp:Sp)(dvs:List V)(E:XK)(t:TA):TE:=λσ H Q=>t σ H λvs H1=>∀x dx,H1 x=none->H1 dx=none->dx≠x ->
 sp (.ref x::(vs++dvs)) (aW (aW H1 dx (.own x)) x (.ins C dx [])) (λv H2=>v=.non/\Q (.ref x) H2) E
def fZ(K:Frag)(fd:FuncData)(ps:List Str)(ds:List Value):Prop :=
 ∀(s:Shared) (us:List Value),K.In s.heap->(us++ds).length=ps.length->BindsTo s fd ⟨us,[]⟩ (ps.zip (us++ds))
theorem fZ.all{K:Frag}{fd:FuncData}{ps:List Str}(h:∀us:List Value,us.length=ps.length->bindArgs fd ⟨us,[]⟩=pure (ps.zip us)):fZ K fd ps []:=λs us _ hl=>by
 rw[List.append_nil] at hl ⊢;exact .of_eq (h us hl)
def k6(CX:qF)(X:Cx)(E:XK):Prop:=∀(pins:List (Addr×Obj)) (σ:St) (H:Hp) (s:Shared) (e:Value) (s':Shared),Inv X pins σ H s->CX X.stack H s E e s'->X.xe e s'
section
variable{X:Cx}{CX:qF}{k:Nat}{f C:Addr}{fd:FuncData}{ps:List Str}{sp:Sp}{dvs:List V}{ds:List Value}{E:XK}{x m:Str}{p pos apos:Pos}{e o:Expr}{es:List Expr}{ta:TE}{t:TA}
theorem BM{pins:List (Addr×Obj)}{σ:St}{H:Hp}{s:Shared}{Q:VK}{us:List Value}{vs:List V}(F:FnOk X.prog X.w X.K X.mg X.base CX k f fd ps sp)(hr:Room k X.A)(hb:fZ X.K fd ps ds)(hd:aS dvs ds)(hx:k6 CX X E)
  (I:Inv X pins σ H s) (r:aS vs us) (h:sp (vs++dvs) H Q E):wpAny (model X.prog X.w) X.A (call (.ref f) us) (EP X pins σ Q) X.xe s:=by
 have r2:aS (vs++dvs) (us++ds):=r.append hd;have hl:(us++ds).length=ps.length:=by rw[<- r2.length];exact F.len _ _ _ _ h
 refine wpAny_call (codeAny_mono (F.run X.A X.stack s H ⟨us,[]⟩ (us++ds) (vs++dvs) Q E hr I.env0 (hb s us I.kIn hl) r2 h) λr s' hq=>?_)
 cases r with
 |error e=>exact hx pins σ H s e s' I hq
 |ok fl =>
  cases fl with
  |ret u=>exact I.after hq
  |next=>exact False.elim hq
  |brk=>exact False.elim hq
  |cont=>exact False.elim hq
theorem TY(F:FnOk X.prog X.w X.K X.mg X.base CX k f fd ps sp)(hr:Room k X.A)(hg:Gl X x)(hm:X.mg x=some (.ref f))(hk:PySem.W.keepIn X.K (.ref f)=true)(hb:fZ X.K fd ps ds)(hd:aS dvs ds)(hx:k6 CX X E)
  (ha:PA X (e::es) t) (hdb:(x==("__debug__":Str))=false:=by decide) (he:starEach (e::es) X.env=(false,eval e X.env)::starEach es X.env:=by rfl) (hpl:(backTo pos (starEach es X.env)).any (·.1)=false:=by rfl) :
  PE X (.Call (.Name x p) (e::es) [] pos) (aBT sp dvs E t):=by
 intro pins s σ H Q I h;refine wpAny_Call_Name_kw (xC I hg hm ?_ hdb);refine PySem.W.callWith_K (h₀:=X.base) I.ok.mod.kin hk (a7 (ha pos pins s σ H _ I h) λus s1 ⟨vs,H1,I1,r,q⟩=>⟨I1.kIn, ?_⟩) he hpl;exact BM F hr hb hd hx I1 r q
theorem SK{pl:Sem Bool}(he:PE X o ta)(c:Cls X.K C)(hm:Meth X.K C m f)(F:FnOk X.prog X.w X.K X.mg X.base CX k f fd ps sp)(hr:Room k X.A)(hb:fZ X.K fd ps ds)(hd:aS dvs ds)(hx:k6 CX X E)(ha:PA X (e::es) t)
  (hst:starEach (e::es) X.env=(false,eval e X.env)::starEach es X.env:=by rfl) (hpl:(backTo pos (starEach es X.env)).any (·.1)=false:=by rfl)
  (ht:eval (.Call (.Attribute o m apos) (e::es) [] pos) X.env=(do
   let ov <- eval o X.env
   standAt apos.atName
   let (f,first) <- holding [ov] (getMethod ov m pl)
   callWith pos f first (backTo pos (starEach (e::es) X.env)) (backToKw pos (keywordEach [] X.env))):=by rfl) :
  PE X (.Call (.Attribute o m apos) (e::es) [] pos) (F7 C m sp dvs E ta t):=by
 intro pins s σ H Q I h;refine PySem.W.methodCall_KW (pl:=pl) (a7 (he pins s σ H _ I h) λu s1 ⟨x,H1,I1,rx,a,dx,fs,ex,ea,l,q⟩=>?_) ht;subst ex;obtain rfl:u=Value.ref a:=rx;refine uO I1 ea c hm l ?_;refine PySem.W.callWith_K (first:=[.ref a]) (h₀:=X.base) I.ok.mod.kin hm.kp (a7 (ha pos pins s1 σ H1 _ I1 q) λus s2 ⟨vs,H2,I2,r,q2⟩=>⟨I2.kIn, ?_⟩) hst hpl;exact BM (us:=.ref a::us) (vs:=.ref a::vs) F hr hb hd hx I2 (.cons rfl r) q2
theorem OZ{pl:Sem Bool}(he:PE X o ta)(c:Cls X.K C)(hm:Meth X.K C m f)(F:FnOk X.prog X.w X.K X.mg X.base CX k f fd ps sp)(hr:Room k X.A)(hb:fZ X.K fd ps ds)(hd:aS dvs ds)(hx:k6 CX X E)
  (ht:eval (.Call (.Attribute o m apos) [] [] pos) X.env=(do
   let ov <- eval o X.env
   standAt apos.atName
   let (f,first) <- holding [ov] (getMethod ov m pl)
   callWith pos f first (backTo pos (starEach [] X.env)) (backToKw pos (keywordEach [] X.env))):=by rfl) :
  PE X (.Call (.Attribute o m apos) [] [] pos) (F7 C m sp dvs E ta xV):=by
 intro pins s σ H Q I h;refine PySem.W.methodCall_KW (pl:=pl) (a7 (he pins s σ H _ I h) λu s1 ⟨x,H1,I1,rx,a,dx,fs,ex,ea,l,q⟩=>?_) ht;subst ex;obtain rfl:u=Value.ref a:=rx;refine uO I1 ea c hm l ?_;exact PySem.W.callWith_K0 (first:=[.ref a]) I1.kIn hm.kp (BM (us:=[.ref a]) (vs:=[.ref a]) F hr hb hd hx I1 (.cons rfl .nil) q)
structure Mk(K:Frag)(C f:Addr):Prop where
 makes:PySem.W.makesIn K C=true
 init:findIn K (.ref C) "__init__"=some (some (.ref f))
 fn:PySem.W.isFn K (.ref f)=true
 kp:PySem.W.keepIn K (.ref C)=true
theorem PB{pins:List (Addr×Obj)}{σ:St}{H:Hp}{s:Shared}{Q:VK}{us:List Value}{vs:List V}(M:Mk X.K C f)(F:FnOk X.prog X.w X.K X.mg X.base CX k f fd ps sp)(hr:Room (k+1) X.A)(hb:fZ X.K fd ps ds)(hd:aS dvs ds)
  (hx:k6 CX X E) (I:Inv X pins σ H s) (r:aS vs us)
  (h:∀x dx,H x=none->H dx=none->dx≠x->sp (.ref x::(vs++dvs)) (aW (aW H dx (.own x)) x (.ins C dx [])) (λv H2=>v=.non/\Q (.ref x) H2) E) :
  wpAny (model X.prog X.w) X.A (call (.ref C) us) (EP X pins σ Q) X.xe s:=by
 have hq:=h (s.heap.objs.size+1) s.heap.objs.size (I.hok.fresh (Nat.le_succ _)) (I.hok.fresh (Zq _)) (Zz (Nat.lt_succ_self _));have I2:=Inv.made (C:=C) I;have r2:aS (V.ref (s.heap.objs.size+1)::(vs++dvs)) (Value.ref (s.heap.objs.size+1)::(us++ds)):=.cons rfl (r.append hd)
 have hl:(Value.ref (s.heap.objs.size+1)::us++ds).length=ps.length:=by(have e:=r2.length;rw[F.len _ _ _ _ hq] at e;exact e.symm)
 refine wpAny_call (O6 (f:=f) I.kIn M.makes M.init (beq_iff_eq.mp M.fn) (codeAny_mono (F.run _ X.stack _ _ ⟨Value.ref (s.heap.objs.size+1)::us,[]⟩ (Value.ref (s.heap.objs.size+1)::(us++ds)) _ _ E (hr.make C us [])
  (I2.env0.make C us []) (hb _ (Value.ref (s.heap.objs.size+1)::us) I2.kIn hl) r2 hq) λr s' hq'=>?_))
 cases r with
 |error e=>exact hx pins σ _ _ e s' I2 hq'
 |ok fl =>
  cases fl with
  |ret u =>
   obtain⟨v,H',I3,rv,ev,q3⟩:=I2.after hq';subst ev;exact⟨rv,⟨V.ref (s.heap.objs.size+1),H',I3,rfl,q3⟩⟩
  |next=>exact False.elim hq'
  |brk=>exact False.elim hq'
  |cont=>exact False.elim hq'
theorem UL(M:Mk X.K C f)(F:FnOk X.prog X.w X.K X.mg X.base CX k f fd ps sp)(hr:Room (k+1) X.A)(hg:Gl X x)(hm:X.mg x=some (.ref C))(hb:fZ X.K fd ps ds)(hd:aS dvs ds)(hx:k6 CX X E)
  (ha:PA X (e::es) t) (hdb:(x==("__debug__":Str))=false:=by decide) (he:starEach (e::es) X.env=(false,eval e X.env)::starEach es X.env:=by rfl) (hpl:(backTo pos (starEach es X.env)).any (·.1)=false:=by rfl) :
  PE X (.Call (.Name x p) (e::es) [] pos) (aBn C sp dvs E t):=by
 intro pins s σ H Q I h;refine wpAny_Call_Name_kw (xC I hg hm ?_ hdb);refine PySem.W.callWith_K (h₀:=X.base) I.ok.mod.kin M.kp (a7 (ha pos pins s σ H _ I h) λus s1 ⟨vs,H1,I1,r,q⟩=>⟨I1.kIn, ?_⟩) he hpl;exact PB M F hr hb hd hx I1 r q
end
def PK(X:Cx)(kws:List Keyword)(t:TA):Prop :=
 ∀(pos:Pos) (pins:List (Addr×Obj)) (s:Shared) (σ:St) (H:Hp) (Q:List V->Hp->Prop),Inv X pins σ H s->t σ H Q->wpAny (model X.prog X.w) X.A (evalAll ((backToKw pos (keywordEach kws X.env)).map (·.2))) (AP X pins σ Q) X.xe s
section
variable{X:Cx}{CX:qF}{k:Nat}{f C:Addr}{fd:FuncData}{ps ks:List Str}{sp:Sp}{E:XK}{x m:Str}{p pos apos kpos:Pos}{e o:Expr}{es:List Expr}{kws:List Keyword}{te ta:TE}{t tk:TA}{nm:Option Str}
theorem ZD:PK X [] xV:=λ_ _ _ _ H Q I h=>wpAny_evalAll_nil ⟨[],H,I,.nil,h⟩
theorem WE(ha:PE X e te)(hr:PK X kws t):PK X (⟨nm,e,kpos⟩::kws) (vP te t):=by
 intro pos pins s σ H Q I h;show wpAny _ _ (evalAll ((do let v <- eval e X.env;standAt pos;pure v)::(backToKw pos (keywordEach kws X.env)).map (·.2))) _ _ s;refine wpAny_evalAll_cons (Zt (a7 (ha pins s σ H _ I h) λu s1 ⟨x,H1,I1,r1,q1⟩=>Zt (wpAny_standAt (Zu ?_))));exact a7 (hr pos pins s1 σ H1 _ I1 q1) λus s2 ⟨xs,H2,I2,r2,q2⟩=>⟨x::xs,H2,I2,.cons r1 r2,q2⟩
structure KBinds(K:Frag)(fd:FuncData)(ps ks:List Str)(g:List Value->List Value->List Value)(gV:List V->List V->List V):Prop where
 to:∀(s:Shared) (us ws:List Value),K.In s.heap->(g us ws).length=ps.length->BindsTo s fd ⟨us,ks.zip ws⟩ (ps.zip (g us ws))
 rel:∀{vs:List V} {us:List Value} {zs:List V} {ws:List Value},aS vs us->aS zs ws->aS (gV vs zs) (g us ws)
variable{g:List Value->List Value->List Value}{gV:List V->List V->List V}
end
structure FnScope(N P:List Str)(sc:Scope):Prop where
 kind:sc.kind=.function
 co:sc.isCoroutine=false
 gen:sc.isGenerator=false
 nd:N.Nodup
 pre:N.take P.length=P
 par:∀x∈P,sc.names.lookup x=some .local\/sc.names.lookup x=some .cell
 nofree:∀y∈sc.names,y.2≠.free
theorem y8{kindOf:Str->Option NameKind}{x:Str}:∀{binds:List (Str×Value)} {m:Str->Option Value},(∀v,(x,v) ∉ binds)->bindL kindOf binds m x=m x
 |[],_,_=>rfl
 | (n,v)::r,m,h=>by
  unfold bindL;rw[y8 λw hw=>h w (Ze _ hw)];split
  ·have:x≠n:=by rintro rfl;exact h v zh
   simp[this]
  ·rfl
theorem yD{kindOf:Str->Option NameKind}{x:Str}:∀{binds:List (Str×Value)} {m:Str->Option Value},(∀v,(x,v) ∉ binds)->bindC kindOf binds m x=m x
 |[],_,_=>rfl
 | (n,v)::r,m,h=>by
  unfold bindC;rw[yD λw hw=>h w (Ze _ hw)];split
  ·rfl
  ·have:x≠n:=by rintro rfl;exact h v zh
   simp[this]
theorem yK{kindOf:Str->Option NameKind}{x:Str}{v:Value}:∀{P:List Str} {vs:List Value} {i:Nat} {m:Str->Option Value},P.Nodup->P[i]?=some x->vs[i]?=some v->kindOf x=some .local ->
  bindL kindOf (P.zip vs) m x=some v
 |[],_,_,_,_,h,_,_=>by simp at h
 |_::_,[],_,_,_,_,h,_=>by simp at h
 |p::P,w::vs,0,m,nd,h1,h2,hk=>by
  simp at h1 h2;subst h1;subst h2;show bindL kindOf ((p,w)::P.zip vs) m p=_;unfold bindL;rw[y8 λv hv=>(List.nodup_cons.mp nd).1 (List.of_mem_zip hv).1,Zo hk];simp
 |p::P,w::vs,i+1,m,nd,h1,h2,hk=>by(show bindL kindOf ((p,w)::P.zip vs) m x=_;unfold bindL;exact yK (i:=i) (List.nodup_cons.mp nd).2 (by simpa using h1) (by simpa using h2) hk)
theorem x9{kindOf:Str->Option NameKind}{x:Str}{v:Value}:∀{P:List Str} {vs:List Value} {i:Nat} {m:Str->Option Value},P.Nodup->P[i]?=some x->vs[i]?=some v->kindOf x≠some .local ->
  bindC kindOf (P.zip vs) m x=some v
 |[],_,_,_,_,h,_,_=>by simp at h
 |_::_,[],_,_,_,_,h,_=>by simp at h
 |p::P,w::vs,0,m,nd,h1,h2,hk=>by
  simp at h1 h2;subst h1;subst h2;show bindC kindOf ((p,w)::P.zip vs) m p=_;unfold bindC;rw[yD λv hv=>(List.nodup_cons.mp nd).1 (List.of_mem_zip hv).1,Zp hk];simp
 |p::P,w::vs,i+1,m,nd,h1,h2,hk=>by(show bindC kindOf ((p,w)::P.zip vs) m x=_;unfold bindC;exact x9 (i:=i) (List.nodup_cons.mp nd).2 (by simpa using h1) (by simpa using h2) hk)
def b0(N:List Str)(vs:List V):St:=vs.map some++List.replicate (N.length-vs.length) none
noncomputable def pY(CX:qF)(P:Program)(w:World)(K:Frag)(mg:Str->Option Value)(base:Heap)(N:List Str)(qual:Str)(scope:Scope)(f:Addr)(cd:Value)(A:Around)(outer:List Env)(s:Shared)(H:Hp)(E:XK):Cx where
 prog:=P
 w:=w
 K:=K
 mg:=mg
 base:=base
 A:=A.deeper (envOfC qual scope s.heap.objs.size f cd)
 N:=N
 s₀:=s
 H₀:=H
 env:=envOfC qual scope s.heap.objs.size f cd
 outer:=outer
 stack:=envOfC qual scope s.heap.objs.size f cd::outer
 ex:=[]
 calm:=true
 fn:=λ_=>true
 pn:=[]
 xe:=λe s'=>wpAny (model P w) (A.deeper (envOfC qual scope s.heap.objs.size f cd)) (leaving (envOfC qual scope s.heap.objs.size f cd) e) (λ_ s''=>CX outer H s E e s'') (λe' s''=>CX outer H s E e' s'') s'
theorem BA{sc:Scope}{n:Nat}{x:Str}(h:sc.names.lookup x=some .cell):∃c,(cellsFrom n sc.names []).lookup x=some c:=by
 have q:=PySem.W.cellsFrom_some sc.names n [] (.inl h);exact Option.isSome_iff_exists.mp q
theorem J2{CX:qF}{P:Program}{w:World}{K:Frag}{mg:Str->Option Value}{base:Heap}{N ps:List Str}{qual:Str}{scope:Scope}{f:Addr}{cd:Value}{A:Around}{outer:List Env}{s s1:Shared}{H:Hp}{E:XK}{us:List Value}{vs:List V}
  (S:FnScope N ps scope) (hd:A.handled=none) (e0:Env0 P w K mg base A outer s H) (hl:vs.length=ps.length) (r:aS vs us)
  (x:InCallC s s.heap.objs.size (bindL (envOfC qual scope s.heap.objs.size f cd).kindOf (ps.zip us) λ_=>none) (cellsFrom (s.heap.objs.size+1) scope.names []) (bindC (envOfC qual scope s.heap.objs.size f cd).kindOf (ps.zip us) λ_=>none) s1) :
  Inv (pY CX P w K mg base N qual scope f cd A outer s H E) [] (b0 N vs) H s1:=by
 have hpl:ps.length<=N.length:=by have:=congrArg List.length S.pre;rw[List.length_take] at this;omega
 obtain⟨h1,tk,rfl,hk⟩:=x.done;have noA:∀b:Addr,b ∉ (pY CX P w K mg base N qual scope f cd A outer s H E).ex:=λb z=>absurd (show b∈([]:List Addr) from z) (by simp)
 refine⟨⟨e0.mod,S.kind,rfl,rfl,Zq _,λy z c h1 h2=>?_,λy hy=>?_,λy c _ h=>?_,λ_=>hd,Around.frames_deeper e0.frames,.inr ⟨rfl,rfl⟩,λb z=>absurd z (noA b),e0.bs,e0.bsz,λb _ _=>noA b,λb z=>absurd z (noA b),e0.funs,e0.frf⟩,
  rfl,e0.bare,Un.kept hk,⟨_,x.toInCall.ns,λi y v h1 h2 h3=>?_⟩,λy c h=>⟨_,x.cell y c h⟩,e0.hok.fresh (Zq _),λy c h=>?_,λp hp=>absurd (show p∈([]:List (Addr×Obj)) from hp) (by simp),e0.hok.kept hk, ?_⟩
 ·exact name_of_addr x.apart (PySem.mem_of_lookup h1) (PySem.mem_of_lookup h2)
 ·have hy:scope.names.lookup y=some .cell\/scope.names.lookup y=some .free:=hy;rcases hy with hy | hy
  ·exact BA hy
  ·exact absurd rfl (S.nofree _ (PySem.mem_of_lookup hy))
 ·exact Nat.le_of_lt (x.above y c (PySem.mem_of_lookup h))
 ·have hi:i<vs.length:=by
   unfold b0 at h2;by_cases hi:i<vs.length
   ·exact hi
   ·rw[List.getElem?_append_right (by simpa using hi)] at h2;rw[List.getElem?_replicate] at h2;split at h2<;>cases h2
  have ha:vs[i]?=some v:=by
   unfold b0 at h2;rw[List.getElem?_append_left (by simpa using hi),Zh] at h2
   cases e:vs[i]? with
   |none=>rw[e] at h2;cases h2
   |some a=>rw[e] at h2;cases h2;rfl
  obtain⟨u,hu,rv⟩:=r.get ha
  have hp:ps[i]?=some y:=by(rw[<- S.pre,List.getElem?_take_of_lt (by omega)];exact h1)
  have ndP:ps.Nodup:=by rw[<- S.pre];exact S.nd.sublist (List.take_sublist _ _)
  refine⟨u,rv, ?_⟩;rcases S.par y (zj hp) with k | k
  ·exact .inl ⟨k,yK ndP hp hu k⟩
  ·obtain⟨c,e⟩:=BA (n:=s.heap.objs.size+1) k;refine .inr ⟨.inl k,c,e, ?_⟩;have q:=x.cell y c e;rw[x9 ndP hp hu (by show scope.names.lookup y≠_;rw[k];decide)] at q;exact q
 ·exact e0.hok.fresh (Nat.le_of_lt (x.above y c (PySem.mem_of_lookup h)))
 ·unfold b0;show _=N.length;rw[Za,List.length_map,List.length_replicate];omega
theorem aBe{CX:qF}{P:Program}{w:World}{K:Frag}{mg:Str->Option Value}{base:Heap}{k:Nat}{f:Addr}{name qual:Str}{params:Arguments}{body:List Stmt}{scope:Scope}{dV kV doc pm cdv ct oc:Value}{an od:Option Addr}
  {osl:Array (Option Value)} {N ps:List Str} {sp:Sp} (lk:K.lookup f=some ⟨oc,od,.func (PySem.W.fnOf name qual params body scope dV kV doc pm an cdv ct),osl⟩) (hcd:PySem.W.codeIn K cdv qual=true) (S:FnScope N ps scope)
  (len:∀vs H Q E,sp vs H Q E->vs.length=ps.length)
  (hbody:∀(A:Around) (outer:List Env) (s:Shared) (H:Hp) (vs:List V) (Q:VK) (E:XK),Room k (A.deeper (envOfC qual scope s.heap.objs.size f cdv))->sp vs H Q E ->
   ∃t,f6 (pY CX P w K mg base N qual scope f cdv A outer s H E) body t/\t { nx:=λ_ H'=>Q .non H',rt:=Q } (b0 N vs) H) :
  FnOk P w K mg base CX (k+1) f (PySem.W.fnOf name qual params body scope dV kV doc pm an cdv ct) ps sp:=by
 refine⟨len,λA outer s H args us vs Q E hr e0 hb r hsp=>?_⟩;have hl:=len _ _ _ _ hsp;have KX:K.In s.heap:=e0.mod.kin.keeps λb o e=>(e0.bs b o e).1
 have lim:s.heap.NoLimit:=e0.mod.nolimit.keeps λb o e=>(e0.bs b o e).1
 have hkind:∀y∈ps.zip us,scope.names.lookup y.1=some .local\/(scope.names.lookup y.1=some .cell/\((cellsFrom (s.heap.objs.size+1) scope.names []).lookup y.1).isSome=true):=λ⟨n,v⟩ hy=>by
  rcases S.par n (List.of_mem_zip hy).1 with q | q
  ·exact .inl q
  ·exact .inr ⟨q,PySem.W.cellsFrom_some _ _ _ (.inl q)⟩
 refine codeAny_call_function hr.depth (KX _ _ lk) rfl S.co S.gen rfl (PySem.W.codeRec_of KX hcd) (hb _ _ _ _ ?_);refine wpAny_newFunctionEnv_cells S.kind hkind λenv he s1 x=>?_
 subst he;refine⟨lim.keeps x.toInCall.keep,codeAny_func ?_⟩;obtain⟨t,ht,hq⟩:=hbody A outer s H vs Q E (hr.deeper _) hsp;have I:Inv (pY CX P w K mg base N qual scope f cdv A outer s H E) [] (b0 N vs) H s1:=J2 S hr.hd e0 hl r x;refine wpAny_mono (ht [] s1 (b0 N vs) H _ I hq) (λfl s' hs=>?_) λe s' hs=>hs
 have fin:∀{σ':St} {H':Hp} {v:V} {u:Value},Inv (pY CX P w K mg base N qual scope f cdv A outer s H E) [] σ' H' s'->a8 v u->Q v H'->CE outer P w H s Q u s' :=
  λ{σ' H' v u} J rv q=>⟨v,H',J.os,J.bare,J.base,J.hok,rv,q⟩
 cases fl with
 |ret u =>
  obtain⟨v,σ',H',J,rv,q⟩:=hs;exact fin J rv q
 |next =>
  obtain⟨σ',H',J,q⟩:=hs;exact fin (v:=V.non) (u:=Value.none) J rfl q
 |brk =>
  obtain⟨_,_,_,q⟩:=hs;exact False.elim q
 |cont =>
  obtain⟨_,_,_,q⟩:=hs;exact False.elim q
section
variable{X:Cx}{x:Str}{p pos:Pos}{e:Expr}{es:List Expr}{t:TA}{id T:String}{r:List V->Hp->VK->Prop}
def WR(r:List V->Hp->VK->Prop)(t:TA):TE:=λσ H Q=>t σ H λvs H1=>r vs H1 Q
theorem PV(hc:gD X (.builtin id) r)(hg:Gl X x)(hm:X.mg x=none)(hv:bootBuiltins x=some (.builtin id))(ha:PA X (e::es) t)(hn:x≠"__name__":=by decide)(hdb:(x==("__debug__":Str))=false:=by decide)
  (he:starEach (e::es) X.env=(false,eval e X.env)::starEach es X.env:=by rfl) (hpl:(backTo pos (starEach es X.env)).any (·.1)=false:=by rfl):PE X (.Call (.Name x p) (e::es) [] pos) (WR r t):=by
 intro pins s σ H Q I h;refine wpAny_Call_Name_kw (mL I hg hm hv ?_ hn hdb);exact PyProof.Rows.callWith_builtin1 (a7 (ha pos pins s σ H _ I h) λus s1 ⟨vs,H1,I1,r1,q1⟩=>hc pins s1 σ H1 vs us Q I1 r1 q1) he hpl
theorem qN(hc:gD X (.type T) r)(hg:Gl X x)(hm:X.mg x=none)(hv:bootBuiltins x=some (.type T))(ha:PA X (e::es) t)(hn:x≠"__name__":=by decide)(hdb:(x==("__debug__":Str))=false:=by decide)
  (he:starEach (e::es) X.env=(false,eval e X.env)::starEach es X.env:=by rfl) (hpl:(backTo pos (starEach es X.env)).any (·.1)=false:=by rfl):PE X (.Call (.Name x p) (e::es) [] pos) (WR r t):=by
 intro pins s σ H Q I h;refine wpAny_Call_Name_kw (mL I hg hm hv ?_ hn hdb);exact PyProof.Rows.callWith_type1 (a7 (ha pos pins s σ H _ I h) λus s1 ⟨vs,H1,I1,r1,q1⟩=>hc pins s1 σ H1 vs us Q I1 r1 q1) he hpl
end
end L2
namespace HT
open PySem PyProof.Rows
noncomputable def bT:List Int->List Int->Bool
 |[],[]=>false
 |[],_::_=>true
 |_::_,[]=>false
 |x::xs,y::ys=>if x=y then bT xs ys else decide (x<y)
theorem dO(x y:Int)(xs ys:List Int):bT (x::xs) (y::ys)=if x=y then bT xs ys else decide (x<y):=rfl
theorem zN:bT [] []=false:=rfl
theorem xT(y:Int)(ys:List Int):bT [] (y::ys)=true:=rfl
theorem xR(x:Int)(xs:List Int):bT (x::xs) []=false:=rfl
theorem ME(A:Around)(s:Shared)(a:Int)(t:Tok)(c:Int)(u:Tok):∃e,SeqAt.EqAt A s (.int a t) (.int c u) e/\(e=true↔a=c) :=
 ⟨(a==c),SeqAt.EqAt.int_int a t c u,by simp⟩
theorem MK(A:Around)(s:Shared)(a:Int)(t:Tok)(c:Int)(u:Tok)(prog:Program)(w:World)(E:Value->Shared->Prop)(Q:Value->Shared->Prop)(h:Q (.bool (decide (a<c))) s) :
  wpAny (model prog w) A (richCompare .Lt (.int a t) (.int c u)) Q E s :=
 (PyProof.Rows.lt_int h:wpAny (model prog w) A (compareOp .Lt (.int a t) (.int c u)) Q E s)
section
open PySem.SeqAt
open PySem.AutoSeq1 (wpAny_loadPart')
open PySem.MeetsSeq PySem.MeetsSeq2 PySem.MeetsSeq3
theorem zD(l b:Addr)(items items2:Array Value)(n n2:Nat)(dd dd2:Option Addr)(sl sl2:Array (Option Value))(ns ms:List Int)(hi:IntsAre items.toList ns)(hj:IntsAre items2.toList ms) :
  Meets (Builtin.«tuple.__lt__» ⟨[.ref l,.ref b],[]⟩)
   (λ_ R s=>s.heap.get? l=some { cls:=.type "tuple",dict:=dd,data:=.seq items n,slots:=sl }/\s.heap.get? b=some { cls:=.type "tuple",dict:=dd2,data:=.seq items2 n2,slots:=sl2 } /\
    R (.ok (.ret (.bool (bT ns ms)))) s) :=
 .of_wp λprog w A R s h=>by
  obtain⟨hp,g,d,tk,os⟩:=s;obtain⟨hl,hb,h⟩:=h;have f2:=AutoSeq1.sub_tuple_tuple;have z1:items.size=ns.length:=by rw[<- hi.length];simp
  have z2:items2.size=ms.length:=by rw[<- hj.length];simp
  wp_walk using wpAny_loadPart' hl,wpAny_loadPart' hb,wpAny_forIn_list _ (λfT b s'=>b.1=none/\s'=⟨hp,g,d,tk,os⟩/\∃(vs ws:List Value) (ns' ms':List Int),fT=vs.zip ws /\
   IntsAre vs ns'/\IntsAre ws ms'/\ns'.length+items2.size=ms'.length+items.size/\R (.ok (.ret (.bool (bT ns' ms')))) ⟨hp,g,d,tk,os⟩) _
  case turn =>
   rintro⟨y,x⟩ fT b s' ⟨hb',rfl,vs,ws,ns',ms',hz,hvi,hwi,hlen,hR⟩
   cases hvi with
   |nil=>rw[List.zip_nil_left] at hz;cases hz
   |cons a t hvi' =>
    cases hwi with
    |nil=>rw[List.zip_nil_right] at hz;cases hz
    |cons c u hwi' =>
     rw[List.zip_cons_cons] at hz
     injection hz with hyx hrest
     injection hyx with hy hx
     subst hy hx;rw[dO] at hR;simp only[Zk] at hlen;obtain⟨e,he,hiff⟩:=ME A.in1 ⟨hp,g,d,tk,os⟩ a t c u;refine Zt (he prog w _ _ ?_)
     cases e with
     |true =>
      rw[Zo (hiff.mp rfl)] at hR
      wp_walk
      exact⟨rfl,rfl,_,_,_,_,hrest,hvi',hwi',by omega,hR⟩
     |false =>
      rw[Zp (λq=>absurd (hiff.mpr q) Bool.false_ne_true)] at hR;have hri:=MK A.in1 ⟨hp,g,d,tk,os⟩ a t c u prog w
      wp_walk using hri
      exact⟨_,rfl,by simpa using hR⟩
  case fin =>
   rintro⟨b1,b2⟩ s' ⟨hb',rfl,vs,ws,ns',ms',hz,hvi,hwi,hlen,hR⟩
   simp only at hb';subst hb'
   have hv:bT ns' ms'=decide (items.size<items2.size):=by
    cases hvi with
    |nil =>
     cases hwi with
     |nil =>
      simp only[List.length_nil] at hlen;rw[zN];exact(Zm (by omega)).symm
     |cons c u hw =>
      simp only[List.length_nil,Zk] at hlen;rw[xT];exact(Zn (by omega)).symm
    |cons a t hv =>
     cases hwi with
     |nil =>
      simp only[List.length_nil,Zk] at hlen;rw[xR];exact(Zm (by omega)).symm
     |cons c u hw =>
      rw[List.zip_cons_cons] at hz;cases hz
   rw[hv] at hR
   wp_walk
   exact⟨_,rfl,by simpa[Builtin.Tuple.tupleCompareSizes] using hR⟩
  case h =>
   exact⟨rfl,rfl,items.toList,items2.toList,ns,ms,rfl,hi,hj,by omega,h⟩
end
section
variable{prog:Program}{w:World}{A:Around}{E:Value->Shared->Prop}{s:Shared}
theorem GA{l b:Addr}{items items2:Array Value}{ns ms:List Int}{Q:Value->Shared->Prop}(hl:IsTup s.heap l items)(hb:IsTup s.heap b items2)(hi:IntsAre items.toList ns)(hj:IntsAre items2.toList ms)
  (hu:A.units<cLine) (h:Q (.bool (bT ns ms)) s):wpAny (model prog w) A (compareOp .Lt (.ref l) (.ref b)) Q E s:=by
 obtain⟨⟨cls,dd,data,sl⟩,ho,hc,n,hd⟩:=id hl;obtain⟨⟨cls2,dd2,data2,sl2⟩,ho2,hc2,n2,hd2⟩:=id hb;simp only at hc hd hc2 hd2;subst hc hd hc2 hd2
 exact richCompare_meets_room (op:=.Lt) ⟨_,ho,rfl⟩ ⟨_,ho2,rfl⟩ PySem.F.slot_tuple_lt PySem.F.entry_tuple_lt (PySem.F.args_tuple_lt_2 _ _) (zD l b items items2 n n2 dd dd2 sl sl2 ns ms hi hj)
  ⟨ho,ho2,show Value.bool (bT ns ms)≠Value.notImplemented/\Q (.bool (bT ns ms)) s from⟨(λx=>nomatch x),h⟩⟩ hu
theorem WG{t b:Addr}{vs ws:List Value}{Q:Value->Shared->Prop}(ht:IsTup s.heap t vs.toArray)(hb:IsTup s.heap b ws.toArray)(hv:vs≠[])
  (h1:ws=[]->Q (.ref t) s) (h2:ws≠[]->Q (.ref s.heap.objs.size) { s with heap:=s.heap.push { cls:=.type "tuple",data:=.seq (vs++ws).toArray } })
  (hsz:vs.length+ws.length<=sizeLine):wpAny (model prog w) A (binaryOp .Add (.ref t) (.ref b)) Q E s:=by
 obtain⟨⟨cls,dd,data,sl⟩,ho,hc,n,hd⟩:=id ht;obtain⟨⟨cls2,dd2,data2,sl2⟩,ho2,hc2,n2,hd2⟩:=id hb;simp only at hc hd hc2 hd2;subst hc hd hc2 hd2;have e:vs.toArray++ws.toArray=(vs++ws).toArray:=by simp
 by_cases hw:ws=[]
 ·exact concat_meets ⟨_,ho,rfl⟩ ⟨_,ho2,rfl⟩ noFill_tuple_add seq_tuple_add PySem.F.slot_tuple_add PySem.F.entry_tuple_add (PySem.F.args_tuple_add_2 _ _)
   (tuple_addW1 t b vs.toArray ws.toArray n n2 dd dd2 sl sl2 (by simpa using hv) (by simp[hw])) ⟨ho,ho2,h1 hw⟩
 ·refine concat_meets ⟨_,ho,rfl⟩ ⟨_,ho2,rfl⟩ noFill_tuple_add seq_tuple_add PySem.F.slot_tuple_add PySem.F.entry_tuple_add (PySem.F.args_tuple_add_2 _ _)
   (tuple_addW2 t b vs.toArray ws.toArray n n2 dd dd2 sl sl2 (by simpa using hv) (by simpa using hw) (by rw[Zi,Zi];exact hsz)) ⟨ho,ho2, ?_⟩
  rw[e];exact h2 hw
def bO(n d:Nat):Option Int->Nat
 |none=>d
 |some v=>if v<0 then(v+(n:Int)).toNat else min v.toNat n
theorem MD(n d:Nat):bO n d none=d:=rfl
theorem wJ(n d k:Nat):bO n d (some (k:Int))=min k n:=by
 show(if(k:Int)<0 then((k:Int)+(n:Int)).toNat else min (k:Int).toNat n)=min k n;rw[Zp (by omega),Int.toNat_natCast]
theorem Y0(n d:Nat)(hd:d<=n)(o:Option Int):bO n d o<=n:=by
 cases o with
 |none=>exact hd
 |some v =>
  show(if v<0 then(v+(n:Int)).toNat else min v.toNat n)<=n;by_cases hv:v<0
  ·rw[Zo hv];omega
  ·rw[Zp hv];exact Nat.min_le_right _ _
theorem EC(v:Int)(n d:Nat):(if v<0 then max (v+(n:Int)) 0 else min v (n:Int))=((bO n d (some v):Nat):Int):=by
 show(if v<0 then max (v+(n:Int)) 0 else min v (n:Int))=(((if v<0 then(v+(n:Int)).toNat else min v.toNat n):Nat):Int);by_cases hv:v<0
 ·simp only[Zo hv];omega
 ·simp only[Zp hv];omega
theorem HC(lo hi:Option Int)(n:Nat):Builtin.Slice.sliceAdjust lo hi 1 (n:Int)=(((bO n 0 lo:Nat):Int),((bO n n hi:Nat):Int)):=by
 have h1:¬((1:Int)<0):=by omega
 unfold Builtin.Slice.sliceAdjust;simp only[h1,if_false];refine Prod.ext ?_ ?_
 ·cases lo with
  |none=>rfl
  |some v=>exact EC v n 0
 ·cases hi with
  |none=>rfl
  |some v=>exact EC v n n
theorem GS(i j:Nat):Builtin.Slice.slicePlaces (i:Int) (j:Int) 1=j-i:=by
 unfold Builtin.Slice.slicePlaces;have h1:(1:Int) > 0:=by omega
 simp only[h1,if_true,Int.ediv_one]
 split<;>omega
theorem wH{v:Value}{o:Option Int}{Q:Option Int->Shared->Prop}(p:IsPart v o)(h:Q o s):wpAny (model prog w) A (Builtin.Slice.slicePartIndex v) Q E s:=by
 cases p with
 |none=>exact slicePart_none h
 |int i t=>exact slicePart_int h
theorem tN{sl:Addr}{vl vu:Value}{lo hi:Option Int}{n:Nat}{Q:Int×Int×Nat->Shared->Prop}(hs:s.heap.IsSliceOf sl vl vu .none)(pl:IsPart vl lo)(pu:IsPart vu hi)
  (h:Q (((bO n 0 lo:Nat):Int),1,bO n n hi-bO n 0 lo) s):wpAny (model prog w) A (Builtin.Slice.sliceApplied (.ref sl) (pure (n:Int))) Q E s:=by
 obtain⟨os,hos,hcs,hds⟩:=id hs;unfold Builtin.Slice.sliceApplied Builtin.Slice.sliceFields;refine Zt (Zt (wpAny_field hos hds (x:=vl) rfl (Zt (wpAny_field hos hds (x:=vu) rfl (Zt (wpAny_field hos hds (x:=.none) rfl (Zu ?_)))))));refine Zt (slicePart_none ?_);show wpAny _ _ (if((1:Int)==0)=true then _ else _) _ _ s;rw[Zp (by decide)];refine Zt (wH pl (Zt (wH pu (Zt (Zu ?_)))));show wpAny _ _ (match Builtin.Slice.sliceAdjust lo hi 1 (n:Int) with | (lo,hi)=>pure (lo,(1:Int),Builtin.Slice.slicePlaces lo hi 1)) _ _ s;rw[HC lo hi n];show wpAny _ _ (pure (((bO n 0 lo:Nat):Int),(1:Int),Builtin.Slice.slicePlaces ((bO n 0 lo:Nat):Int) ((bO n n hi:Nat):Int) 1)) _ _ s;rw[GS];exact Zu h
theorem O4(xs:Array Value)(i k:Nat):((List.range k).filterMap λ(m:Nat)=>xs[((i:Int)+(m:Int)*1).toNat]?).toArray=((xs.toList.drop i).take k).toArray:=by
 have e:(λ(m:Nat)=>xs[((i:Int)+(m:Int)*1).toNat]?)=λm=>xs[i+m]?:=by
  funext m
  have:((i:Int)+(m:Int)*1).toNat=i+m:=by omega
  rw[this]
 rw[e]
 have:=pick_run xs i k
 rw[List.filterMap_map] at this;have e2:((λx=>xs[x]?) ∘ λx=>i+x)=λm=>xs[i+m]?:=rfl
 rw[e2] at this;rw[this]
theorem sD{t sl:Addr}{items:Array Value}{vl vu:Value}{lo hi:Option Int}{Q:Value->Shared->Prop}(ht:IsTup s.heap t items)(hs:s.heap.IsSliceOf sl vl vu .none)(pl:IsPart vl lo)(pu:IsPart vu hi)
  (hw:¬(bO items.size 0 lo=0/\bO items.size items.size hi=items.size))
  (h:Q (.ref s.heap.objs.size) { s with heap:=s.heap.push { cls:=.type "tuple",data:=.seq ((items.toList.drop (bO items.size 0 lo)).take (bO items.size items.size hi-bO items.size 0 lo)).toArray } })
  (hsz:items.size<=sizeLine):wpAny (model prog w) A (getItem (.ref t) (.ref sl)) Q E s:=by
 have htake:sizeOk (.seq ((items.toList.drop (bO items.size 0 lo)).take (bO items.size items.size hi-bO items.size 0 lo)).toArray):=by(show((items.toList.drop (bO items.size 0 lo)).take (bO items.size items.size hi-bO items.size 0 lo)).toArray.size<=sizeLine;rw[Zi,List.length_take,List.length_drop,Array.length_toList];omega)
 have hj:bO items.size items.size hi<=items.size:=Y0 _ _ (Zq _) hi;obtain⟨os,hos,hcs,hds⟩:=id hs;have hTs:s.TypeIs (.ref sl) "slice":=⟨os,hos,hcs⟩
 unfold getItem
 try with_reducible refine wpAny_holding ?_
 first | refine Zt (Zu ?_) | skip
 refine Zt (wpAny_sequenceKey ht.typeIs (by decide) ?_)
 refine Zt (wpAny_callSpecial?_slot (name:=Str.ofString "__getitem__") ht.typeIs PyProof.Rows.slot_tuple_getitem
  (wpAny_call_entry PyProof.Rows.slot_tuple_getitem ht.typeIs entry_tuple_getitem ?_ (args_tuple_getitem _ _)))
 show wpAny _ _ (Builtin.Tuple.tupleItemsOf (.ref t)>>=_) _ _ s;refine Zt (tupleItemsOf_ ht ?_);refine Zt (wpAny_typeOf hTs ?_);rw[Zo (by decide)];refine Zt (tN hs pl pu ?_)
 have hno:¬((((bO items.size 0 lo:Nat):Int)==0&&(1:Int)==1&&(bO items.size items.size hi-bO items.size 0 lo)==items.size)=true):=by(intro q;rw[ZB,ZB] at q;have q1:((bO items.size 0 lo:Nat):Int)=0:=Zy q.1.1;have q2:bO items.size items.size hi-bO items.size 0 lo=items.size:=Zy q.2;exact hw ⟨by omega,by omega⟩)
 show wpAny _ _ (if(((bO items.size 0 lo:Nat):Int)==0&&(1:Int)==1&&(bO items.size items.size hi-bO items.size 0 lo)==items.size)=true then _ else _) _ _ s;rw[Zp hno,O4]
 first
  |exact Zt (m:=Builtin.Tuple.tupleExact _) (wpAny_newObj_type (Zu ⟨_,rfl,Zu h⟩) htake)
  |exact Zt (m:=Builtin.Tuple.tupleExact _) (wpAny_newObj_type (Zt (Zu (Zu ⟨_,rfl,Zu h⟩))) htake)
  |exact Zt (Zt (m:=Builtin.Tuple.tupleExact _) (wpAny_newObj_type (Zu (Zu ⟨_,rfl,Zu h⟩)) htake))
  |exact Zt (Zt (m:=Builtin.Tuple.tupleExact _) (wpAny_newObj_type (Zu ⟨_,rfl,Zu h⟩) htake))
end
end HT
namespace L2
open PySem PySem.Spec PyProof.Rows
abbrev TO:=St->Hp->(Option Int->Hp->Prop)->Prop
def PO(X:Cx)(e:Option Expr)(t:TO):Prop :=
 ∀(pins:List (Addr×Obj)) (s:Shared) (σ:St) (H:Hp) (Q:Option Int->Hp->Prop),Inv X pins σ H s->t σ H Q ->
  wpAny (model X.prog X.w) X.A (evalPart e X.env) (λu s'=>∃o H',Inv X pins σ H' s'/\IsPart u o/\Q o H') X.xe s
def UZ:TO:=λ_ H Q=>Q none H
def aBl(t:TE):TO:=λσ H Q=>t σ H λx H1=>∃i,x=.int i/\Q (some i) H1
section
variable{X:Cx}{e:Expr}{te:TE}{lo hi:Option Expr}{tl th:TO}{pos p2:Pos}
theorem S2:PO X none UZ:=by
 intro pins s σ H Q I h;rw[evalPart_none];exact Zu ⟨none,H,I,.none,h⟩
theorem UM(h:PE X e te):PO X (some e) (aBl te):=by
 intro pins s σ H Q I hw;rw[evalPart_some];refine a7 (h pins s σ H _ I hw) λu s1 ⟨x,H1,I1,r1,q1⟩=>?_
 obtain⟨i,rfl,q⟩:=q1;obtain⟨t,rfl⟩:=r1;exact⟨some i,H1,I1,.int i t,q⟩
def uD(X:Cx)(r:V->Option Int->Option Int->Hp->VK->Prop):Prop :=
 ∀(pins:List (Addr×Obj)) (s:Shared) (σ:St) (H:Hp) (x:V) (v vl vu:Value) (lo hi:Option Int) (sl:Addr) (Q:VK),Inv X pins σ H s->a8 x v->s.heap.IsSliceOf sl vl vu .none->IsPart vl lo->IsPart vu hi->r x lo hi H Q ->
  ∃T id,typeLookup (.type T) "__getitem__"=pure (some (.builtin id))/\s.TypeIs v T/\wpAny (model X.prog X.w) X.A (getItem v (.ref sl)) (EP X pins σ Q) X.xe s
theorem uD.or{r r':V->Option Int->Option Int->Hp->VK->Prop}(h:uD X r)(h':uD X r'):uD X (λx lo hi H Q=>r x lo hi H Q\/r' x lo hi H Q):=by
 intro pins s σ H x v vl vu lo hi sl Q I rx hs pl pu q;rcases q with q | q
 ·exact h pins s σ H x v vl vu lo hi sl Q I rx hs pl pu q
 ·exact h' pins s σ H x v vl vu lo hi sl Q I rx hs pl pu q
noncomputable def tSl(r:V->Option Int->Option Int->Hp->VK->Prop)(te:TE)(tl th:TO):TE:=λσ H Q=>te σ H λx H1=>tl σ H1 λl H2=>th σ H2 λu H3=>r x l u H3 Q
theorem OV{r:V->Option Int->Option Int->Hp->VK->Prop}(hr:uD X r)(he:PE X e te)(hl:PO X lo tl)(hu:PO X hi th):PE X (.Subscript e (.Slice lo hi none p2) pos) (tSl r te tl th):=by
 intro pins s σ H Q I h;refine Subscript_ (a7 (he pins s σ H _ I h) λv s1 ⟨x,H1,I1,r1,q1⟩=>?_);refine wpAny_Slice (a7 (hl pins s1 σ H1 _ I1 q1) λvl s2 ⟨l,H2,I2,pl,q2⟩=>a7 (hu pins s2 σ H2 _ I2 q2) λvu s3 ⟨u,H3,I3,pu,q3⟩=>?_);rw[evalPart_none];refine Zu ?_;have I4:Inv X pins σ H3 { s3 with heap:=s3.heap.push { cls:=.type "slice",data:=.fields #[vl,vu,.none] } }:=I3.kept (t':=s3.toks) λb ob q=>Zd _ q
 obtain⟨T,id,hT,ht,hg⟩:=hr pins { s3 with heap:=s3.heap.push { cls:=.type "slice",data:=.fields #[vl,vu,.none] } } σ H3 x v vl vu l u s3.heap.objs.size Q I4 r1 (Heap.IsSliceOf.new ..) pl pu q3;show wpAny (model X.prog X.w) X.A (subscriptTail e (.Slice lo hi none p2) v (.ref s3.heap.objs.size)) (EP X pins σ Q) X.xe { s3 with heap:=s3.heap.push { cls:=.type "slice",data:=.fields #[vl,vu,.none] } };exact tail_any (ops:=[.ref s3.heap.objs.size,v]) ht hT hg (by with_unfolding_all rfl)
noncomputable def qG(xs:List V)(lo hi:Option Int):List V:=(xs.drop (HT.bO xs.length 0 lo)).take (HT.bO xs.length xs.length hi-HT.bO xs.length 0 lo)
theorem sX(xs:List V)(lo hi:Option Int):(qG xs lo hi).length<=xs.length:=by
 unfold qG;rw[List.length_take,List.length_drop];omega
def aDt(K:Frag):V->Option Int->Option Int->Hp->VK->Prop:=λx lo hi H Q=>∃a xs,x=.ref a/\cK K H a xs /\
 ¬(HT.bO xs.length 0 lo=0/\HT.bO xs.length xs.length hi=xs.length)/\∀p,H p=none->Q (.ref p) (aW H p (.tup (qG xs lo hi)))
theorem YN:uD X (aDt X.K):=by
 intro pins s σ H x v vl vu lo hi sl Q I rx hs pl pu h;obtain⟨a,xs,rfl,hx,hw,q⟩:=h;cases rx;obtain⟨its,r,ht,hz⟩:=I.tuple hx;have hlen:its.toArray.size=xs.length:=by rw[Zi];exact r.length.symm
 refine⟨"tuple",_,PyProof.Rows.slot_tuple_getitem.lookup,ht.typeIs, ?_⟩;refine HT.sD ht hs pl pu (by rw[hlen];exact hw) ?_ (by rw[hlen];exact hz);rw[hlen];refine⟨.ref s.heap.objs.size,_,I.laid (t':=s.toks) (o:=.tup (qG xs lo hi)) (λb ob q=>Zd _ q) (Zq _) ?_,rfl,q _ (I.hok.fresh (Zq _))⟩;exact⟨Zr (sX xs lo hi) hz,_,(r.drop (HT.bO xs.length 0 lo)).take (HT.bO xs.length xs.length hi-HT.bO xs.length 0 lo),IsTup.new _ _⟩
noncomputable def aBs(K:Frag):R2:=λx y H Q=>∃a b xs ys,x=.ref a/\y=.ref b/\cK K H a xs/\cK K H b ys/\xs≠[]/\xs.length+ys.length<=sizeLine /\
 (ys=[]->Q (.ref a) H)/\(ys≠[]->∀p,H p=none->Q (.ref p) (aW H p (.tup (xs++ys))))
theorem aS.nil_iff{xs:List V}{us:List Value}(r:aS xs us):us=[]↔xs=[]:=by
 cases r with
 |nil=>simp
 |cons _ _=>simp
theorem VE:eA X (binaryOp .Add) (aBs X.K):=by
 intro pins s σ H x y v u Q I rx ry h;obtain⟨a,b,xs,ys,rfl,rfl,ha,hb,hx,hz,q1,q2⟩:=h;cases rx;cases ry;obtain⟨its,r1,p1,_⟩:=I.tuple ha;obtain⟨its2,r2,p2,_⟩:=I.tuple hb;refine HT.WG p1 p2 (λz=>hx (r1.nil_iff.mp z)) (λz=>⟨.ref a,H,I,rfl,q1 (r2.nil_iff.mp z)⟩) (λz=>?_) (by rw[<- r1.length,<- r2.length];exact hz);refine⟨.ref s.heap.objs.size,_,I.laid (t':=s.toks) (o:=.tup (xs++ys)) (λb ob q=>Zd _ q) (Zq _) ?_,rfl,q2 (λw=>z (r2.nil_iff.mpr w)) _ (I.hok.fresh (Zq _))⟩;exact⟨by rw[Za];exact hz,_,r1.append r2,IsTup.new _ _⟩
end
noncomputable def jS(n:Nat)(i:Int):Option Nat:=if 0<=i then(if i<n then some i.toNat else none) else if -(n:Int)<=i then some (i+n).toNat else none
def cG{α:Type}(xs:List α)(i:Int):Option α:=(jS xs.length i).bind λj=>xs[j]?
theorem ER{n:Nat}{i:Int}{j:Nat}(h:jS n i=some j):seqIndex? i n=some j/\j<n/\-(n:Int)<=i/\i<n:=by
 unfold jS at h;by_cases h0:0<=i
 ·rw[Zo h0] at h;by_cases h1:i<n
  ·rw[Zo h1] at h;have e:i.toNat=j:=Option.some.inj h;exact⟨by rw[seqIndex_of h0 h1,e],by omega,by omega,h1⟩
  ·rw[Zp h1] at h;cases h
 ·rw[Zp h0] at h;by_cases h1:-(n:Int)<=i
  ·rw[Zo h1] at h;have e:(i+n).toNat=j:=Option.some.inj h;exact⟨by rw[seqIndex_neg (by omega) h1,e],by omega,h1,by omega⟩
  ·rw[Zp h1] at h;cases h
theorem wV{α:Type}{xs:List α}{i:Int}{v:α}(h:cG xs i=some v):∃j,seqIndex? i xs.length=some j/\xs[j]?=some v/\j<xs.length/\-(xs.length:Int)<=i/\i<xs.length:=by
 unfold cG at h
 cases e:jS xs.length i with
 |none=>rw[e] at h;cases h
 |some j =>
  rw[e] at h;obtain⟨h1,h2,h3,h4⟩:=ER e;exact⟨j,h1,h,h2,h3,h4⟩
theorem mZ{α:Type}{xs:List α}{j:Nat}{v:α}(h:xs[j]?=some v):cG xs (j:Int)=some v:=by
 have hj:j<xs.length:=(Zc.mp h).1
 have e:jS xs.length (j:Int)=some j:=by(unfold jS;rw[Zo (by omega),Zo (by omega)];simp)
 unfold cG;rw[e];exact h
def xK(b:Expr):Prop:=∀o i,subscripted b false o i=operate [o,i] (getItem o i)
def jR(X:Cx)(r:R2):Prop :=
 ∀(value slice:Expr) (pins:List (Addr×Obj)) (s:Shared) (σ:St) (H:Hp) (x y:V) (v u:Value) (Q:VK),Inv X pins σ H s->a8 x v->a8 y u->r x y H Q ->
  subscripted slice false v u=operate [v,u] (getItem v u)->wpAny (model X.prog X.w) X.A (subscriptTail value slice v u) (EP X pins σ Q) X.xe s
def MtR(X:Cx)(id:String)(r:V->List V->Hp->VK->Prop):Prop :=
 ∀(pins:List (Addr×Obj)) (s:Shared) (σ:St) (H:Hp) (x:V) (xs:List V) (v:Value) (us:List Value) (Q:VK),Inv X pins σ H s->a8 x v->aS xs us->r x xs H Q ->
  wpAny (model X.prog X.w) X.A (call (.builtin id) (v::us)) (EP X pins σ Q) X.xe s
section
variable{X:Cx}{a b:Expr}{ta tb:TE}{pos:Pos}
theorem jR.or{r r':R2}(h:jR X r)(h':jR X r'):jR X (λx y H Q=>r x y H Q\/r' x y H Q):=by
 intro value slice pins s σ H x y v u Q I rx ry q hs;rcases q with q | q
 ·exact h value slice pins s σ H x y v u Q I rx ry q hs
 ·exact h' value slice pins s σ H x y v u Q I rx ry q hs
theorem aCx{r:R2}(hr:jR X r)(ha:PE X a ta)(hb:PE X b tb)(hs:xK b):PE X (.Subscript a b pos) (LR r ta tb):=by
 intro pins s σ H Q I h;exact Subscript_ (NN ha hb I h λv u s2 x y H2 I2 rx ry q=>hr a b pins s2 σ H2 x y v u Q I2 rx ry q (hs _ _))
noncomputable def XZ(K:Frag):R2:=λx y H Q=>∃p xs i v,x=.ref p/\y=.int i/\bV K H p xs/\cG xs i=some v/\Q v H
noncomputable def X7(K:Frag):R2:=λx y H Q=>∃p xs i v,x=.ref p/\y=.int i/\cK K H p xs/\cG xs i=some v/\Q v H
noncomputable def HF:R2:=λx y H Q=>∃z i c,x=.str z/\y=.int i/\z.length<=sizeLine/\cG z.cps.toList i=some c/\Q (.str ⟨#[c]⟩) H
theorem VC:jR X (XZ X.K):=by
 intro value slice pins s σ H x y v u Q I rx ry h hs;obtain⟨p,xs,i,z,rfl,rfl,hq,he,q⟩:=h;cases rx;obtain⟨t,rfl⟩:=ry;obtain⟨its,r,pl,hz⟩:=I.list hq;obtain⟨j,h1,h2,h3,h4,h5⟩:=wV he;obtain⟨w,ew,rw'⟩:=r.get h2;have hl:=r.length;have hn:=kK;have fin:EP X pins σ Q w s:=⟨z,H,I,rw',q⟩
 by_cases h0:0<=i
 ·have hj:i.toNat=j:=by
   rw[seqIndex_of h0 h5] at h1;exact Option.some.inj h1
  exact item_listR pl.isList h0 (by omega) (by rw[hj];simpa using ew) fin hs
 ·have hj:(i+(its.toArray.size:Int)).toNat=j:=by
   rw[seqIndex_neg (by omega) h4] at h1;rw[Zi,<- hl];exact Option.some.inj h1
  exact subscriptTail_builtinR (x:=w) pl.isList.typeIs slot_list_getitem.lookup
   (wpAny_getItem_list_neg (Q:=λr s'=>r=w/\EP X pins σ Q r s') pl.isList (by omega) (by rw[Zi]<;>omega) (by omega) (by rw[hj];simpa using ew) ⟨rfl,fin⟩) hs
theorem Y3:jR X (X7 X.K):=by
 intro value slice pins s σ H x y v u Q I rx ry h hs;obtain⟨p,xs,i,z,rfl,rfl,hq,he,q⟩:=h;cases rx;obtain⟨t,rfl⟩:=ry;obtain⟨its,r,pl,hz⟩:=I.tuple hq;obtain⟨j,h1,h2,h3,h4,h5⟩:=wV he;obtain⟨w,ew,rw'⟩:=r.get h2;have hl:=r.length;have hn:=kK;have fin:EP X pins σ Q w s:=⟨z,H,I,rw',q⟩
 exact subscriptTail_builtinR (x:=w) pl.typeIs slot_tuple_getitem.lookup
  (getItem_tuple (j:=j) (Q:=λr s'=>r=w/\EP X pins σ Q r s') pl (by omega) (by omega) (by rw[Zi,<- hl];exact h1) (by simpa using ew) ⟨rfl,fin⟩) hs
theorem aAm:jR X HF:=by
 intro value slice pins s σ H x y v u Q I rx ry h hs;obtain⟨z,i,c,rfl,rfl,hz,he,q⟩:=h;obtain⟨t,rfl⟩:=rx;obtain⟨t',rfl⟩:=ry;obtain⟨j,h1,h2,h3,h4,h5⟩:=wV he;have hl:z.cps.toList.length=z.length:=by simp[Str.length]
 rw[hl] at h1 h4 h5;have hn:=kK
 exact tail_any (typeIs_str s z t) slot_str_getitem.lookup (getItem_str (c:=c) (by
  have e1:decide (i < -(2 ^ 63:Int))=false:=Zm (by omega);have e2:decide (i >= 2 ^ 63)=false:=Zm (by omega)
  rw[e1,e2,Bool.or_false]) (by rw[h1];simpa using h2) ⟨.str ⟨#[c]⟩,H,I.tok _,⟨_,rfl⟩,q⟩) hs
def rIx(K:Frag):R2:=λx y H Q=>XZ K x y H Q\/X7 K x y H Q\/HF x y H Q
theorem XX:jR X (rIx X.K):=VC.or (Y3.or aAm)
theorem GQ(its:List Value)(n j:Nat)(u:Value):Obj.mapSeq (·.setIfInBounds j u) { cls:=.type "list",data:=.seq its.toArray n }={ cls:=.type "list",data:=.seq (its.set j u).toArray n }:=by
 simp[Obj.mapSeq]
theorem Inv.lst{pins:List (Addr×Obj)}{σ:St}{H:Hp}{s:Shared}{p:Addr}{xs:List V}(I:Inv X pins σ H s)(h:H p=some (.lst xs)) :
  ∃(its:List Value) (n:Nat),aS xs its/\s.heap.get? p=some { cls:=.type "list",data:=.seq its.toArray n }/\xs.length<=sizeLine:=by
 obtain⟨z,its,n,r,e⟩:=I.hok p _ h;exact⟨its,n,r,e,z⟩
theorem Inv.lstUpd{pins:List (Addr×Obj)}{σ:St}{H:Hp}{s:Shared}{p:Addr}{xs ys:List V}{its its':List Value}{n n':Nat}{f:Obj->Obj}(I:Inv X pins σ H s)(h:H p=some (.lst xs))
  (ho:s.heap.get? p=some { cls:=.type "list",data:=.seq its.toArray n }) (hf:f { cls:=.type "list",data:=.seq its.toArray n }={ cls:=.type "list",data:=.seq its'.toArray n' }) (r:aS ys its') (hz:ys.length<=sizeLine) (t:Nat) :
  Inv X pins σ (aW H p (.lst ys)) { s with heap:=s.heap.update p f,toks:=t }:=by
 have e:(s.heap.update p f).get? p=some { cls:=.type "list",data:=.seq its'.toArray n' }:=by(rw[Heap.get?_update_self f ho (by rw[hf]<;>rfl),hf])
 refine I.write (x:=p) (e:=p) (by rw[h];trivial) (.inl rfl) (λb u hb q=>(Heap.get?_update_other _ _ (Ne.symm hb)).trans q) ⟨_,e⟩ ?_;exact⟨hz,its',n',r,e⟩
def RB:V->V->V->Hp->(Hp->Prop)->Prop:=λo i v H Q=>∃p xs k j,o=.ref p/\i=.int k/\H p=some (.lst xs)/\jS xs.length k=some j/\Q (aW H p (.lst (xs.set j v)))
theorem NU:O8 X RB:=by
 intro pins s σ H o i v ov iv u Q I ro ri rv h;obtain⟨p,xs,k,j,rfl,rfl,hp,hj,q⟩:=h;cases ro;obtain⟨t,rfl⟩:=ri;obtain⟨its,n,r,ho,hz⟩:=I.lst hp;obtain⟨h1,h2,h3,h4⟩:=ER hj;have hl:=r.length;have hn:=kK
 have I':Inv X pins σ (aW H p (.lst (xs.set j v))) { s with heap:=s.heap.update p (Obj.mapSeq (·.setIfInBounds j u)) } :=
  I.lstUpd hp ho (GQ its n j u) (r.set rv j) (by rw[zg];exact hz) s.toks
 by_cases h0:0<=k
 ·have hk:k.toNat=j:=by
   rw[seqIndex_of h0 h4] at h1;exact Option.some.inj h1
  exact PySem.W.ki_setAt ho h0 (by omega) (by rw[Zi,<- hl];exact h4) (by rw[hk];exact⟨_,I',q⟩)
 ·have hk:(k+(its.toArray.size:Int)).toNat=j:=by
   rw[seqIndex_neg (by omega) h3] at h1;rw[Zi,<- hl];exact Option.some.inj h1
  exact PySem.W.ki_setBack ho (by omega) (by rw[Zi,<- hl];exact h3) (by omega) (by rw[hk];exact⟨_,I',q⟩)
theorem AS(lo hi:Option Int)(n:Nat):(sliceBounds lo hi none n).1=((HT.bO n 0 lo:Nat):Int)/\(sliceBounds lo hi none n).2.1=((HT.bO n n hi:Nat):Int)/\(sliceBounds lo hi none n).2.2=1:=by
 refine⟨?_, ?_,rfl⟩
 ·cases lo with
  |none=>simp[sliceBounds,HT.bO]
  |some i =>
   simp only[sliceBounds,HT.bO,Option.getD_none,show(1:Int) > 0 by decide,if_true];by_cases h:i<0
   ·simp only[h,if_true]<;>omega
   ·simp only[h,if_false]<;>omega
 ·cases hi with
  |none=>simp[sliceBounds,HT.bO]
  |some i =>
   simp only[sliceBounds,HT.bO,Option.getD_none,show(1:Int) > 0 by decide,if_true];by_cases h:i<0
   ·simp only[h,if_true]<;>omega
   ·simp only[h,if_false]<;>omega
theorem zJ(its:List Value)(lo hi:Option Int):slicePick its.toArray lo hi none=((its.drop (HT.bO its.length 0 lo)).take (HT.bO its.length its.length hi-HT.bO its.length 0 lo)).toArray:=by
 obtain⟨h1,h2,h3⟩:=AS lo hi its.toArray.size;unfold slicePick;rw[h1,h2,h3];simp only[sliceRange_one,pick_run,Zi]<;>rfl
def aEB(K:Frag):V->Option Int->Option Int->Hp->VK->Prop:=λx lo hi H Q=>∃a xs,x=.ref a/\bV K H a xs/\∀p,H p=none->Q (.ref p) (aW H p (.lst (qG xs lo hi)))
theorem U0:uD X (aEB X.K):=by
 intro pins s σ H x v vl vu lo hi sl Q I rx hs pl pu h;obtain⟨a,xs,rfl,hx,q⟩:=h;cases rx;obtain⟨its,r,ht,hz⟩:=I.list hx;have hlen:=r.length;refine⟨"list",_,slot_list_getitem.lookup,ht.isList.typeIs, ?_⟩;refine wpAny_getItem_list_slice ht.isList hs pl pu .none (by simp) ?_ (by rw[Zi]<;>omega);rw[zJ,<- hlen];refine⟨.ref s.heap.objs.size,_,I.laid (t':=s.toks) (o:=.lst (qG xs lo hi)) (λb ob q=>Zd _ q) (Zq _) ?_,rfl,q _ (I.hok.fresh (Zq _))⟩;exact⟨Zr (sX xs lo hi) hz,_,0,(r.drop (HT.bO xs.length 0 lo)).take (HT.bO xs.length xs.length hi-HT.bO xs.length 0 lo),Zw _ rfl⟩
def jF:V->Bool
 |.non=>true
 |.bl _=>true
 |.int _=>true
 |.str _=>true
 |_=>false
noncomputable def mM:V->V->Bool
 |.non,.non=>true
 |.bl a,.bl b=>a==b
 |.bl a,.int b=>(if a then 1 else 0)==b
 |.int a,.bl b=>a==(if b then 1 else 0)
 |.int a,.int b=>a==b
 |.str a,.str b=>a==b
 |_,_=>false
theorem aAu{A:Around}{s:Shared}{y x:V}{u v:Value}(ry:a8 y u)(rx:a8 x v)(fy:jF y=true)(fx:jF x=true):SeqAt.EqAt A s u v (mM y x):=by
 cases y with
 |non =>
  cases ry
  cases x with
  |non=>cases rx;exact SeqAt.EqAt.same _
  |bl b=>cases rx;exact SeqAt.EqAt.none_bool b
  |int b=>obtain⟨t,rfl⟩:=rx;exact SeqAt.EqAt.none_int b t
  |str b=>obtain⟨t,rfl⟩:=rx;exact SeqAt.EqAt.none_str b t
  |_=>exact absurd (show false=true from fx) Bool.false_ne_true
 |bl a =>
  cases ry
  cases x with
  |non=>cases rx;exact SeqAt.EqAt.bool_none a
  |bl b=>cases rx;exact SeqAt.EqAt.bool_bool a b
  |int b=>obtain⟨t,rfl⟩:=rx;exact SeqAt.EqAt.bool_int a b t
  |str b=>obtain⟨t,rfl⟩:=rx;exact SeqAt.EqAt.bool_str a b t
  |_=>exact absurd (show false=true from fx) Bool.false_ne_true
 |int a =>
  obtain⟨t',rfl⟩:=ry
  cases x with
  |non=>cases rx;exact SeqAt.EqAt.int_none a t'
  |bl b=>cases rx;exact SeqAt.EqAt.int_bool a t' b
  |int b=>obtain⟨t,rfl⟩:=rx;exact SeqAt.EqAt.int_int a t' b t
  |str b=>obtain⟨t,rfl⟩:=rx;exact SeqAt.EqAt.int_str a t' b t
  |_=>exact absurd (show false=true from fx) Bool.false_ne_true
 |str a =>
  obtain⟨t',rfl⟩:=ry
  cases x with
  |non=>cases rx;exact SeqAt.EqAt.str_none a t'
  |bl b=>cases rx;exact SeqAt.EqAt.str_bool a t' b
  |int b=>obtain⟨t,rfl⟩:=rx;exact SeqAt.EqAt.str_int a t' b t
  |str b=>obtain⟨t,rfl⟩:=rx;exact SeqAt.EqAt.str_str a t' b t
  |_=>exact absurd (show false=true from fx) Bool.false_ne_true
 |_=>exact absurd (show false=true from fy) Bool.false_ne_true
noncomputable def wB(x:V)(u:Value):Bool:=match u with
 |.none=>mM .non x
 |.bool b=>mM (.bl b) x
 |.int i _=>mM (.int i) x
 |.str z _=>mM (.str z) x
 |_=>false
theorem HR{x y:V}{u:Value}(r:a8 y u)(f:jF y=true):wB x u=mM y x:=by
 cases y with
 |non=>cases r;rfl
 |bl b=>cases r;rfl
 |int i=>obtain⟨t,rfl⟩:=r;rfl
 |str z=>obtain⟨t,rfl⟩:=r;rfl
 |_=>exact absurd (show false=true from f) Bool.false_ne_true
theorem xX{x:V}:∀{xs:List V} {us:List Value},aS xs us->xs.all jF=true->us.any (wB x)=xs.any λy=>mM y x
 |_,_,.nil,_=>rfl
 |y::xs,u::us,.cons r t,f=>by(rw[Zj,ZB] at f;rw[List.any_cons,List.any_cons,HR r f.1,xX t f.2])
theorem uB{A:Around}{s:Shared}{x:V}{v:Value}(rx:a8 x v)(fx:jF x=true):∀{xs:List V} {us:List Value},aS xs us->xs.all jF=true->∀u∈us,SeqAt.EqAt A s u v (wB x u)
 |_,_,.nil,_=>λu hu=>by cases hu
 |y::xs,u::us,.cons r t,f=>λu' hu=>by
  rw[Zj,ZB] at f;rcases List.mem_cons.mp hu with rfl | hu
  ·rw[HR r f.1];exact aAu r rx f.1 fx
  ·exact uB rx fx t f.2 u' hu
def QH(x:V)(xs:List V):Bool:=xs.any λy=>mM y x
noncomputable def rIn(K:Frag)(neg:Bool):R2:=λx y H Q=>∃p xs,y=.ref p/\(bV K H p xs\/cK K H p xs)/\jF x=true/\xs.all jF=true/\Q (.bl (if neg then !QH x xs else QH x xs)) H
theorem yS:eA X (compareOp .In) (rIn X.K false):=by
 intro pins s σ H x y v u Q I rx ry h;obtain⟨p,xs,rfl,hq,fx,fs,q⟩:=h;cases ry;rcases hq with hq | hq
 ·obtain⟨its,r,pl,hz⟩:=I.list hq;refine SeqAt.in_listAt (wB x) pl.isList (λw hw=>uB rx fx r fs w (by simpa using hw)) ⟨.bl _,H,I,rfl, ?_⟩;rw[show its.toArray.any (wB x)=its.any (wB x) by simp,xX r fs];exact q
 ·obtain⟨its,r,pl,hz⟩:=I.tuple hq;refine SeqAt.in_tupleAt (wB x) pl (λw hw=>uB rx fx r fs w (by simpa using hw)) ⟨.bl _,H,I,rfl, ?_⟩;rw[show its.toArray.any (wB x)=its.any (wB x) by simp,xX r fs];exact q
theorem rB:gD X (.builtin "len") (λxs H Q=>∃p ys,xs=[.ref p]/\(bV X.K H p ys\/cK X.K H p ys)/\Q (.int ys.length) H):=by
 intro pins s σ H xs us Q I r h;obtain⟨p,ys,rfl,hq,q⟩:=h;obtain⟨u,rfl,rx⟩:=iS r;cases rx;have hn:=kK;rcases hq with hq | hq
 ·obtain⟨its,r',pl,hz⟩:=I.list hq;have hlen:=r'.length;exact Calls.call_len_list pl.isList (by simp only[Zi]<;>omega) ⟨.int ys.length,H,I.tok _,⟨s.toks+1,by rw[Zi,hlen]⟩,q⟩
 ·obtain⟨its,r',pl,hz⟩:=I.tuple hq;have hlen:=r'.length;exact len_tuple pl (by simp only[Zi]<;>omega) ⟨.int ys.length,H,I.tok _,⟨s.toks+1,by rw[Zi,hlen]⟩,q⟩
theorem BG:gD X (.builtin "len") (λxs H Q=>∃z,xs=[.str z]/\z.length<=sizeLine/\Q (.int z.length) H):=by
 intro pins s σ H xs us Q I r h;obtain⟨z,rfl,hz,q⟩:=h;obtain⟨u,rfl,t,rfl⟩:=iS r;have hn:=kK;exact len_str (by omega) ⟨.int z.length,H,I.tok _,⟨_,rfl⟩,q⟩
theorem pU:gD X (.type "list") (λxs H Q=>∃p ys,xs=[.ref p]/\(bV X.K H p ys\/cK X.K H p ys)/\∀l,H l=none->Q (.ref l) (aW H l (.lst ys))):=by
 intro pins s σ H xs us Q I r h;obtain⟨p,ys,rfl,hq,q⟩:=h;obtain⟨u,rfl,rx⟩:=iS r;cases rx
 have fin:∀(its:List Value),aS ys its->ys.length<=sizeLine->∀(h':Heap) (c':Nat),(∀b o',s.heap.get? b=some o'->h'.get? b=some o') ->
   h'.get? s.heap.objs.size=some { cls:=.type "list",dict:=none,data:=.seq its.toArray c',slots:=#[] }->EP X pins σ Q (.ref s.heap.objs.size) { s with heap:=h' }:=λits r' hz h' c' kp e =>
  ⟨.ref s.heap.objs.size,_,I.laid (t':=s.toks) kp (Zq _) (show eS X.prog X.w _ h' _ (.lst ys) from⟨hz,its,c',r',e⟩),rfl,q _ (I.hok.fresh (Zq _))⟩
 rcases hq with hq | hq
 ·obtain⟨its,r',pl,hz⟩:=I.list hq;have hlen:=r'.length;obtain⟨o,ho,hc,n,hd⟩:=pl.isList;exact call_list_seq p (.inl rfl) ho hc hd (λh' c' kp e=>fin its r' hz h' c' kp e) (by simp only[Zi]<;>omega)
 ·obtain⟨its,r',pl,hz⟩:=I.tuple hq;have hlen:=r'.length;obtain⟨o,ho,hc,n,hd⟩:=pl;exact call_list_seq p (.inr rfl) ho hc hd (λh' c' kp e=>fin its r' hz h' c' kp e) (by simp only[Zi]<;>omega)
theorem oT:gD X (.type "tuple") (λxs H Q=>∃p ys,xs=[.ref p]/\((bV X.K H p ys/\∀l,H l=none->Q (.ref l) (aW H l (.tup ys)))\/(cK X.K H p ys/\Q (.ref p) H))):=by
 intro pins s σ H xs us Q I r h;obtain⟨p,ys,rfl,h⟩:=h;obtain⟨u,rfl,rx⟩:=iS r;cases rx;rcases h with ⟨hq,q⟩ | ⟨hq,q⟩
 ·obtain⟨its,r',pl,hz⟩:=I.list hq;have hlen:=r'.length;refine call_tuple_list pl.isList (λh' kp=>?_) (by simp only[Zi]<;>omega);have I1:Inv X pins σ H { s with heap:=h' }:=I.kept (t':=s.toks) kp
  have I2:Inv X pins σ (aW H h'.objs.size (.tup ys)) { s with heap:=h'.push { cls:=.type "tuple",data:=.seq its.toArray } } :=
   I1.laid (t':=s.toks) (λb o e=>Zd _ e) (Zq _) (show eS X.prog X.w _ _ _ (.tup ys) from⟨hz,its,r',IsTup.new _ _⟩)
  exact⟨.ref h'.objs.size,_,I2,rfl,q _ (I1.hok.fresh (Zq _))⟩
 ·obtain⟨its,r',pl,hz⟩:=I.tuple hq;exact call_tuple_same pl ⟨.ref p,H,I,rfl,q⟩
def tyV(K:Frag)(T:String)(x:V)(H:Hp):Prop:=match x with
 |.str _=>T="str"
 |.int _=>T="int"
 |.ref p=>(T="list"/\∃xs,bV K H p xs)\/(T="tuple"/\∃o,K.lookup p=some o/\o.cls=.type "tuple"/\o.dict=none) \/
   (T="dict"/\((∃kvs,H p=some (.dK kvs))\/∃kvs,H p=some (.dT kvs)))\/(T="set"/\∃S n,H p=some (.set S n))
 |_=>False
theorem aAZ{pins:List (Addr×Obj)}{σ:St}{H:Hp}{s:Shared}{T:String}{x:V}{v:Value}(I:Inv X pins σ H s)(r:a8 x v)(ty:tyV X.K T x H) :
  s.TypeIs v T/\∀a,v=.ref a->∃ob,s.heap.get? a=some ob/\ob.dict=none:=by
 cases x with
 |str z =>
  obtain⟨t,rfl⟩:=r;cases (show T="str" from ty);exact⟨typeIs_str s z t,λ_ e=>nomatch e⟩
 |int i =>
  obtain⟨t,rfl⟩:=r;cases (show T="int" from ty);exact⟨typeIs_int s i t,λ_ e=>nomatch e⟩
 |ref p =>
  cases r;rcases ty with ⟨rfl,xs,hq⟩ | ⟨rfl,o,hk,hc,hd⟩ | ⟨rfl,hk⟩ | ⟨rfl,S,n,hk⟩
  ·obtain⟨its,_,pl,_⟩:=I.list hq;refine⟨pl.isList.typeIs,λa e=>?_⟩;cases e;obtain⟨o,n,e,c,hd,_⟩:=pl;exact⟨o,e,hd⟩
  ·refine⟨⟨o,I.kIn p o hk,hc⟩,λa e=>?_⟩;cases e;exact⟨o,I.kIn _ o hk,hd⟩
  ·have z:∃o,s.heap.get? p=some o/\o.ExactDict:=by
    rcases hk with ⟨kvs,hk⟩ | ⟨kvs,hk⟩
    ·obtain⟨_,_,_,_,o,_,_,e,ex,_⟩:=I.hok p _ hk;exact⟨o,e,ex⟩
    ·obtain⟨_,_,_,_,o,_,_,e,ex,_⟩:=I.hok p _ hk;exact⟨o,e,ex⟩
   obtain⟨o,e,ex⟩:=z;refine⟨⟨o,e,ex.1⟩,λa e2=>?_⟩;cases e2;exact⟨o,e,ex.2.1⟩
  ·obtain⟨o,_,_,_,e,ex,_⟩:=I.hok p _ hk;refine⟨⟨o,e,ex.1⟩,λa e2=>?_⟩;cases e2;exact⟨o,e,ex.2.1⟩
 |_=>exact False.elim ty
noncomputable def tBM(K:Frag)(T:String)(r:V->List V->Hp->VK->Prop)(to:TE)(t:TA):TE:=λσ H Q=>to σ H λx H1=>tyV K T x H1/\t σ H1 λxs H2=>r x xs H2 Q
variable{o e:Expr}{es:List Expr}{to:TE}{t:TA}{name:Str}{apos cpos:Pos}{T id:String}{r:V->List V->Hp->VK->Prop}
theorem HL(pa:PlainAttrs T)(slot:Slot T name id)(hty:typeOf (.builtin id)=pure (.type "method_descriptor"))(hm:MtR X id r)(ho:PE X o to)(ha:PA X (e::es) t)
  (hbase:attributeBase o name X.env (eval o X.env)=eval o X.env:=by rfl)
  (hfew:((backTo cpos (starEach (e::es) X.env)).all (λx=>!x.1)&&(backToKw cpos (keywordEach [] X.env)).all (λx=>x.1.isSome)
   && decide ((e::es).length+([]:List Keyword).length+(if([]:List Keyword).isEmpty then 0 else 1)<30))=true:=by rfl)
  (hline:(apos.endLine==cpos.line)=true:=by rfl) (hs:starEach (e::es) X.env=(false,eval e X.env)::starEach es X.env:=by rfl) (hplain:(backTo cpos (starEach es X.env)).any (·.1)=false:=by rfl) :
  PE X (.Call (.Attribute o name apos) (e::es) [] cpos) (tBM X.K T r to t):=by
 intro pins s σ H Q I h;refine wpAny_Call_method_late hbase hfew hline rfl (a7 (ho pins s σ H _ I h) λv s1 ⟨x,H1,I1,r1,ty,q1⟩=>?_);obtain⟨h1,h2⟩:=aAZ I1 r1 ty;refine⟨T,id,pa,slot,hty,h1,h2, ?_⟩;have hA:=ha cpos pins s1 σ H1 _ I1 q1;rw[hs] at hA ⊢;refine Calls.callWith_builtin (by show(false||(backTo cpos (starEach es X.env)).any (·.1))=false;rw[hplain]<;>rfl) (Calls.evalArgs_plain ?_);exact a7 hA λus s2 ⟨vs,H2,I2,r2,q2⟩=>hm pins s2 σ H2 x vs v us Q I2 r1 r2 q2
end
def MtM(X:Cx)(id:String)(r:V->List V->Hp->VK->Prop):Prop :=
 ∀(pins:List (Addr×Obj)) (s:Shared) (σ:St) (H:Hp) (x:V) (xs:List V) (v:Value) (us:List Value) (Q:VK),Inv X pins σ H s->a8 x v->aS xs us->r x xs H Q ->
  wpAny (model X.prog X.w) X.A (call (.builtin id) (v::us)) (EP X pins σ Q) X.xe s
theorem aS.one:∀{x:V} {us:List Value},aS [x] us->∃u,us=[u]/\a8 x u
 |_,_,.cons r .nil=>⟨_,rfl,r⟩
theorem aS.eraseIdx:∀{xs:List V} {us:List Value} (i:Nat),aS xs us->aS (xs.eraseIdx i) (us.eraseIdx i)
 |_,_,_,.nil=>.nil
 |_,_,0,.cons _ t=>t
 |_,_,i+1,.cons r t=>.cons r (aS.eraseIdx i t)
theorem yE{α:Type}:∀(l:List α) (i:Nat),(l.eraseIdx i).length<=l.length
 |[],_=>Zq _
 |_::_,0=>Nat.le_succ _
 |_::r,i+1=>Nat.succ_le_succ (yE r i)
section
variable{X:Cx}{pins:List (Addr×Obj)}{σ:St}{H:Hp}{s:Shared}{l b:Addr}{xs ys zs:List V}
theorem Inv.lset{its its':List Value}{n:Nat}{f:Array Value->Array Value}{t':Nat}(I:Inv X pins σ H s)(hH:H l=some (.lst xs))
  (e:s.heap.get? l=some { cls:=.type "list",data:=.seq its.toArray n }) (hf:f its.toArray=its'.toArray) (hv:aS ys its') (hz:ys.length<=sizeLine) :
  Inv X pins σ (aW H l (.lst ys)) { s with heap:=s.heap.update l (Obj.mapSeq f),toks:=t' }:=by
 have q:=PySem.IsL.update e f;rw[hf] at q;refine I.write (x:=l) (e:=l) (by rw[hH];exact trivial) (.inl rfl) (λb' u hb hu=>(Heap.get?_update_other s.heap (Obj.mapSeq f) (Ne.symm hb)).trans hu) ⟨_,q⟩ ?_;exact⟨hz,its',_,hv,q⟩
theorem Inv.lnew{its:List Value}{t':Nat}(I:Inv X pins σ H s)(hv:aS ys its)(hz:ys.length<=sizeLine) :
  Inv X pins σ (aW H s.heap.objs.size (.lst ys)) { s with heap:=s.heap.push { cls:=.type "list",data:=.seq its.toArray },toks:=t' } :=
 I.laid (λ_ _ q=>Zd _ q) (Zq _) ⟨hz,its,0,hv,Zw _ rfl⟩
theorem Inv.fresh(I:Inv X pins σ H s):H s.heap.objs.size=none:=I.hok.fresh (Zq _)
theorem Inv.lstM(I:Inv X pins σ H s)(hH:H l=some (.lst xs)):xs.length<=sizeLine/\∃(its:List Value) (n:Nat),aS xs its/\xs.length=its.length/\s.heap.get? l=some { cls:=.type "list",data:=.seq its.toArray n }:=by
 obtain⟨z,its,n,r,e⟩:=I.hok l _ hH;exact⟨z,its,n,r,r.length,e⟩
theorem MC{n:Nat}(h:n<=sizeLine):Builtin.List.listTooLong n=false:=by
 unfold Builtin.List.listTooLong;exact Zm (by omega)
end
section
variable{X:Cx}
def SN:V->List V->Hp->VK->Prop:=λx vs H Q=>∃l xs y,x=.ref l/\vs=[y]/\H l=some (.lst xs)/\xs.length<sizeLine/\Q .non (aW H l (.lst (xs++[y])))
theorem yA:MtM X "list.append" SN:=by
 intro pins s σ H x vs v us Q I rx rv h;obtain⟨l,xs,y,rfl,rfl,hH,hz,q⟩:=h;cases rx;obtain⟨u,rfl,ru⟩:=rv.one;obtain⟨z,its,n,r,hl,e⟩:=I.lstM hH;refine call_meets F.slot_list_append ⟨_,e,rfl⟩ F.entry_list_append (F.args_list_append_2 _ _) (PySem.list_append l its.toArray n u (by rw[Zi];omega)) ⟨e, ?_⟩;refine⟨.non,_,I.lset (its':=its++[u]) hH e (by simp) (r.append (.cons ru .nil)) ?_,rfl,q⟩;rw[Za,List.length_singleton];omega
def S8:V->List V->Hp->VK->Prop:=λx vs H Q=>∃l b xs zs,x=.ref l/\vs=[.ref b]/\H l=some (.lst xs)/\H b=some (.lst zs)/\xs.length+zs.length<=sizeLine/\Q .non (aW H l (.lst (xs++zs)))
theorem IV:MtM X "list.extend" S8:=by
 intro pins s σ H x vs v us Q I rx rv h;obtain⟨l,b,xs,zs,rfl,rfl,hH,hB,hz,q⟩:=h;cases rx;obtain⟨u,rfl,ru⟩:=rv.one;cases ru;obtain⟨z,its,n,r,hl,e⟩:=I.lstM hH;obtain⟨z2,its2,n2,r2,hl2,e2⟩:=I.lstM hB;have hsz:its.toArray.size+its2.toArray.size<=sizeLine:=by rw[Zi,Zi];omega
 have hlong:¬(!its.toArray.isEmpty&&Builtin.List.listTooLong (its.toArray.size+its2.toArray.size))=true:=by(rw[MC hsz,Bool.and_false];exact Bool.false_ne_true)
 refine call_meets F.slot_list_extend ⟨_,e,rfl⟩ F.entry_list_extend (F.args_list_extend_2 _ _)
  (AutoSeq1.list_extend_list_list_0 l its.toArray n b its2.toArray n2 hlong (by rw[Zi];omega) (by omega)) ⟨e,e2, ?_⟩
 refine⟨.non,_,I.lset (its':=its++its2) hH e (by simp) (r.append r2) ?_,rfl,q⟩;rw[Za];omega
def W9:V->List V->Hp->VK->Prop:=λx vs H Q=>∃l xs i k y,x=.ref l/\vs=[.int i]/\H l=some (.lst xs)/\-(2 ^ 63)<=i/\i<2 ^ 63/\seqIndex? i xs.length=some k/\xs[k]?=some y/\Q y (aW H l (.lst (xs.eraseIdx k)))
theorem OA:MtM X "list.pop" W9:=by
 intro pins s σ H x vs v us Q I rx rv h;obtain⟨l,xs,i,k,y,rfl,rfl,hH,h1,h2,hk,hy,q⟩:=h;cases rx;obtain⟨u,rfl,ru⟩:=rv.one;obtain⟨t,rfl⟩:=ru;obtain⟨z,its,n,r,hl,e⟩:=I.lstM hH;obtain⟨w,hw,rw'⟩:=r.get hy
 refine call_meets F.slot_list_pop ⟨_,e,rfl⟩ F.entry_list_pop (F.args_list_pop_2 _ _)
  (MeetsSeq.list_pop_at l its.toArray n i t k w (fitsIndex_both h1 h2) (by rw[Zi,<- hl];exact hk) (by rw[<- Array.getElem?_toList];exact hw) (by rw[Zi];omega)) ⟨e, ?_⟩
 refine⟨y,_,I.lset (its':=its.eraseIdx k) hH e ?_ (r.eraseIdx k) ?_,rw',q⟩
 ·show its.toArray.eraseIdxIfInBounds k=(its.eraseIdx k).toArray;rw[List.eraseIdxIfInBounds_toArray]
 ·have:=yE xs k
  omega
end
section
variable{prog:Program}{w:World}{A:Around}{E:Value->Shared->Prop}{s:Shared}
end
section
variable{X:Cx}
end
end L2
namespace Att
open PySem PySem.W PySem.Calls PyProof.Rows
theorem vD{P:Params}{h:Heap}:∀(ns:List Int) (vs:List Value),WellAll P h vs (ns.map WData.int)->IntsAre vs ns:=by
 intro ns
 induction ns with
 |nil =>
  intro vs w;rw[List.map_nil] at w;cases w;exact .nil
 |cons n ns ih =>
  intro vs w;rw[Zs] at w
  cases w with
  |cons a b =>
   cases a;exact .cons _ _ (ih _ b)
theorem KQ{l:OpenLaw}{n:Nat}(hn:l.most=some n){P:Params}{h:Heap}{args:List WData}{vals:List Value}
  (hpre:l.row.toRowW.claim.pre args=true) (hwl:WellAll P h vals args) :
  ∃a vs ns,vals=[Value.ref a]/\args=[WData.list (ns.map WData.int)]/\h.get? a=some { cls:=.type "list",data:=.seq vs.toArray }/\IntsAre vs ns/\ns.length<=n:=by
 have hsh:WShape.hasAll [] args [.list .int]=true:=(pre_splitW hpre).1;have hc:l.pre.holds [] { args:=args }=true:=(pre_splitW hpre).2;obtain⟨d,r,rfl,h1,h2⟩:=hasAllW_cons hsh;obtain rfl:=hasAllW_nil h2;obtain⟨xs,rfl,h3⟩:=hasW_list h1;obtain⟨ns,rfl⟩:=items_int h3
 have hlen:ns.length<=n:=by
  unfold OpenLaw.pre at hc
  have h4:(WTm.not (.lt (.lit (.int (n:Int))) (.len (.arg 0)))).holds [] { args:=[.list (ns.map .int)] }=true:=by(have h4:=(holds_andW hc).1;rw[hn] at h4;exact h4)
  have h5:=condW_of h4 (w_not (w_lt w_lit (w_len_list (w_arg rfl))));rw[List.length_map] at h5;refine Nat.le_of_not_lt λq=>?_
  have q':(n:Int)<((ns.length:Nat):Int):=by omega
  first
   | (rw[Zn q'] at h5;exact absurd h5 (by decide))
   | (simp at h5;omega)
 cases hwl with
 |cons w1 w2 =>
  cases w2
  cases w1 with
  |list ho hall=>exact⟨_,_,ns,rfl,rfl,ho,vD ns _ hall,hlen⟩
theorem KU(l:OpenLaw)(args:List WData):l.row.toRowW.claim.post args (.bool true) args=true :=
 postW_of (r:=l.row.toRowW) (X:=(true==true))
  (show WShape.has [] (.bool true) .bool=true by first | rfl | decide | simp[WShape.has,WShape.arms,WShape.armsAll])
  (show(WTm.eq .res (.lit (.bool true))).value [] { args:=args,res:=some (.bool true),after:=args }=some (.bool (true==true)) from w_eq_bool (w_res rfl) w_lit) rfl
theorem DA{l:OpenLaw}{n:Nat}{q:Program}{loose:List Str}{XP:(Str->Option Value)->Heap->Prop}{YP:World->Heap->Prop}{d:DefRec}
  (hn:l.most=some n) (hdf:d.params.defaults=[])
  (call:∀(w:World) (s₀ s₁:Shared) (mg mb:Str->Option Value) (fa:Addr) (o:Obj) (pm cd doc:Value) (a:Addr) (vs:List Value) (ns:List Int),
   Ground q loose [] XP w s₀ mg mb s₁.heap->YP w s₁.heap ->
   s₁.heap.get? fa=some o->o.data=.func (docDef d.name d.params d.body d.scope pm cd doc)->s₁.heap.CodeRec cd d.name->mg d.name=some (.ref fa) ->
   s₁.heap.get? a=some { cls:=.type "list",data:=.seq vs.toArray }->IntsAre vs ns->ns.length<=n->s₁.gens=#[] ->
   codeAny (model l.prog w) callerA (.call (.ref fa) ⟨[.ref a],[]⟩) (λr s'=>r=.ok (.ret (.bool true))/\OldK s₁.heap s'.heap/\s'.os=s₁.os/\AllBare s'.gens) s₁) :
  WalkO q loose XP YP l.row.toRowW d [] (λf vs=>PySem.call f vs):=by
 intro w s₀ s₁ mg mb G Y fa o pm cd doc dV kV ho hd hcd hD hmg hg args vals as hpre hlay hrd hwl hlo;obtain rfl:dV=.none:=Dflts.none hD hdf;obtain rfl:kV=.none:=Dflts.noKw hD;obtain⟨a,vs,ns,rfl,rfl,hobj,hints,hlen⟩:=KQ hn hpre hwl;refine enter_call (codeAny_mono (call w s₀ s₁ mg mb fa o pm cd doc a vs ns G Y ho (fd_plain hd) hcd hmg hobj hints hlen hg) λr s' hq=>?_);obtain⟨rfl,h2,h3,h4⟩:=hq;exact⟨.inl ⟨.bool true,.bool true,[],rfl,λ_=>rfl,.bool true,KU l _,λ_=>⟨List.Pairwise.nil,λ_ hm=>(nomatch hm)⟩⟩,h2,h3,h4⟩
section
variable{prog:Program}{w:World}{A:Around}{E:Value->Shared->Prop}{s:Shared}{K:Frag}
end
end Att
namespace L2
open PySem PySem.Spec PyProof.Rows
theorem yG:∀{vs:List Value} {ns:List Int},IntsAre vs ns->aS (ns.map V.int) vs
 |_,_,.nil=>.nil
 |_,_,.cons n t h=>.cons ⟨t,rfl⟩ (yG h)
def OQ(H:Hp):Prop:=∀b,H b=none\/∃o xs,H b=some (.frz o (.lst xs))
theorem OX{P:Program}{w:World}{K:Frag}{mg mb:Str->Option Value}{CX:qF}{k:Nat}{fa a:Addr}{fd:FuncData}{x:Str}{sp:Sp}{s₁:Shared}{vs:List Value}{ns:List Int}
  (KX:K.In s₁.heap) (hns:s₁.heap.Ns mainGlobals mg) (hb:s₁.heap.Ns builtinsNs mb) (hbb:∀x:Str,x≠"__name__"->mb x=bootBuiltins x) (hlim:s₁.heap.NoLimit) (hg:s₁.gens=#[])
  (ha:s₁.heap.get? a=some { cls:=.type "list",data:=.seq vs.toArray }) (hi:IntsAre vs ns) (hl:ns.length<=sizeLine) (hr:Room k callerA)
  (F:∀base:Heap,K.In base->base.Ns mainGlobals mg->FnOk P w K mg base CX k fa fd [x] sp) (hbind:∀(s:Shared) (u:Value),BindsTo s fd ⟨[u],[]⟩ [(x,u)])
  (hsp:∀H:Hp,OQ H->bV K H a (ns.map V.int)->sp [.ref a] H (λv _=>v=.bl true) λ_ _ _=>False)
  (hCX:∀H e s',CX [] H s₁ (λ_ _ _=>False) e s'->False) :
  codeAny (model P w) callerA (.call (.ref fa) ⟨[.ref a],[]⟩) (λr s'=>r=.ok (.ret (.bool true))/\OldK s₁.heap s'.heap/\s'.os=s₁.os/\AllBare s'.gens) s₁:=by
 have rv:=yG hi;have lenV:=hi.length
 -- from an abstract heap in which nothing but the script may be tracked
 have core:∀H:Hp,OQ H->bV K H a (ns.map V.int)->gC P w H s₁.heap->(∀b,H b≠none->b=a)->(H a≠none->K.lookup a=none) ->
   codeAny (model P w) callerA (.call (.ref fa) ⟨[.ref a],[]⟩) (λr s'=>r=.ok (.ret (.bool true))/\OldK s₁.heap s'.heap/\s'.os=s₁.os/\AllBare s'.gens) s₁:=by
  intro H hO hS hok hA hK;have base_of:∀{b:Addr} {o:Obj},s₁.heap.get? b=some o->H b=none->(nK s₁.heap H).get? b=some o:=λe n=>M7 e n
  have noA:∀{b:Addr} {o:Obj} {es:Array DictEntry} {ep:Nat},s₁.heap.get? b=some o->o.data=.dict es ep->H b=none:=λ{b o es ep} e d=>by
   cases q:H b with
   |none=>rfl
   |some u =>
    have e':b=a:=hA b (by rw[q];simp);subst e';rw[ha] at e;cases e;have d':Data.seq vs.toArray _=Data.dict es ep:=d;cases d'
  have nsK:∀{b:Addr} {m:Str->Option Value},s₁.heap.Ns b m->(nK s₁.heap H).Ns b m:=λ{b m} ⟨o,es,ep,e,d,r⟩=>⟨o,es,ep,base_of e (noA e d),d,r⟩
  have hKb:K.In (nK s₁.heap H):=λb o e=>base_of (KX b o e) (by
   cases q:H b with
   |none=>rfl
   |some u =>
    have e':b=a:=hA b (by rw[q];simp);subst e'
    rw[hK (by rw[q];simp)] at e;cases e)
  have hM:Mod K mg (nK s₁.heap H):=⟨hKb,nsK hns,⟨mb,nsK hb,hbb⟩,let ⟨mc,h1,h2⟩:=hlim;⟨mc,nsK h1,h2⟩⟩
  have e0:Env0 P w K mg (nK s₁.heap H) callerA [] s₁ H:=⟨rfl,hM,λb o e=>TR e,Nat.le_of_eq (JS _ _),trivial,λb hb=>absurd (show b∈([]:List Addr) from hb) (by simp),hok,.of_eq hg⟩
  refine codeAny_mono ((F _ hKb (nsK hns)).run callerA [] s₁ H ⟨[.ref a],[]⟩ [.ref a] [.ref a] _ _ hr e0 (hbind s₁ (.ref a)) (.cons rfl .nil) (hsp H hO hS)) λr s' h=>?_
  cases r with
  |error e=>exact(hCX H e s' h).elim
  |ok fl =>
   cases fl with
   |next=>exact False.elim h
   |brk=>exact False.elim h
   |cont=>exact False.elim h
   |ret u =>
    obtain⟨v,H',os,bare,un,hok',r',q⟩:=h;have q':v=.bl true:=q;subst q';obtain rfl:u=Value.bool true:=r';refine⟨rfl,OldK.of_keep λb o e=>?_,os,bare⟩
    cases q:H b with
    |none=>exact un.keep b o e q (by intro z;exact absurd (show b∈([]:List Addr) from z) (by simp)) (by simp)
    |some u =>
     rcases hO b with z | ⟨ob,xs,z⟩
     ·rw[q] at z;cases z
     ·have z2:=un.frzs b ob _ z;obtain⟨e1,_⟩:=hok b _ z;obtain⟨e2,_⟩:=hok' b _ z2;rw[e] at e1;cases e1;exact e2
 cases hk:K.lookup a with
 |some o =>
  -- the script is one of the module's own objects
  have e:=KX a o hk;rw[ha] at e;cases e;refine core (λ_=>none) (λ_=>.inl rfl) (.inr ⟨_,vs.toArray,_,hk,rfl,rfl,rfl,by rw[Zi,lenV];exact hl,by simpa using rv⟩) (λb u z=>by have z':(none:Option HO)=some u:=z;cases z') (λb z=>absurd rfl z) λz=>absurd rfl z
 |none =>
  refine core (λb=>if b=a then some (.frz { cls:=.type "list",data:=.seq vs.toArray } (.lst (ns.map V.int))) else none) (λb=>?_) (.inl (.inr ⟨{ cls:=.type "list",data:=.seq vs.toArray },Zo rfl⟩)) (λb u z=>?_) (λb z=>?_) λ_=>hk
  ·by_cases hb:b=a
   ·exact .inr ⟨_,_,Zo hb⟩
   ·exact .inl (Zp hb)
  ·by_cases hb:b=a
   ·have z':=(Zo hb).symm.trans z;cases z';subst hb;exact⟨ha,by rw[List.length_map];exact hl,vs,_,rv,ha⟩
   ·have z':=(Zp hb).symm.trans z;cases z'
  ·by_cases hb:b=a
   ·exact hb
   ·exact absurd (Zp hb) z
abbrev aD{K:Frag}{h:Heap}(_:K.In h):Frag:=K
theorem V6{l:PySem.W.OpenLaw}{n k:Nat}{q:Program}{loose:List Str}{XP:(Str->Option Value)->Heap->Prop}{YP:World->Heap->Prop}{d:DefRec}{K:Params->Frag}{CX:World->qF}{sp:World->Sp}{x:Str}
  (hn:l.most=some n) (hn2:n<=sizeLine) (hdf:d.params.defaults=[]) (hr:Room k callerA)
  (hY:∀(w:World) (h:Heap),YP w h->(K w.params).In h)
  (F:∀(w:World) (mg:Str->Option Value) (fa:Addr) (h:Heap),(K w.params).In h->h.Ns mainGlobals mg->mg d.name=some (.ref fa) ->
   ∃fd:FuncData,(∀(s:Shared) (u:Value),BindsTo s fd ⟨[u],[]⟩ [(x,u)]) /\
    ∀base:Heap,(K w.params).In base->base.Ns mainGlobals mg->FnOk l.prog w (K w.params) mg base (CX w) k fa fd [x] (sp w))
  (hsp:∀(w:World) (H:Hp) (a:Addr) (ns:List Int),ns.length<=n->OQ H->bV (K w.params) H a (ns.map V.int)->sp w [.ref a] H (λv _=>v=.bl true) λ_ _ _=>False)
  (hCX:∀(w:World) (H:Hp) (s:Shared) (e:Value) (s':Shared),CX w [] H s (λ_ _ _=>False) e s'->False) :
  PySem.W.WalkO q loose XP YP l.row.toRowW d [] (λf vs=>PySem.call f vs):=by
 refine Att.DA hn hdf λw s₀ s₁ mg mb fa o pm cd doc a vs ns G Y ho hd hcd hmg hobj hints hlen hg=>?_
 have KX:=hY w _ Y;obtain⟨fd,hb,hF⟩:=F w mg fa _ KX G.T.g hmg;exact OX KX G.T.g G.T.b G.T.builtins G.T.nolimit hg hobj hints (Zr hlen hn2) hr hF hb (λH hO hS=>hsp w H a ns hlen hO hS) λH e s'=>hCX w H s₁ e s'
noncomputable def dX(s:Stmt):Arguments:=match s with
 |.FunctionDef _ a _ _ _ _ _ _ _ _=>a
 |_=>{ posonlyargs:=[],args:=[],vararg:=none,kwonlyargs:=[],kw_defaults:=[],kwarg:=none,defaults:=[] }
def bW(s:Stmt):List Stmt:=match s with
 |.FunctionDef _ _ b _ _ _ _ _ _ _=>b
 |_=>[]
noncomputable def aV(s:Stmt):Scope:=match s with
 |.FunctionDef _ _ _ _ _ _ sc _ _ _=>sc
 |_=>{ kind:=.function,names:=[],isGenerator:=false,isCoroutine:=false }
abbrev pT:qF:=λ_ _ _ _ _ _=>False
abbrev E0:XK:=λ_ _ _=>False
theorem AD{X:Cx}:k6 pT X E0:=λ_ _ _ _ _ _ _ h=>h.elim
structure Fun(K:Frag)(x qual:Str)(st:Stmt)(f:Addr)(fd:FuncData):Prop where
 ex:∃(oc:Value) (od:Option Addr) (kV doc pm:Value) (an:Option Addr) (cdv ct:Value) (osl:Array (Option Value)),
  fd=PySem.W.fnOf x qual (dX st) (bW st) (aV st) .none kV doc pm an cdv ct/\K.lookup f=some ⟨oc,od,.func fd,osl⟩/\PySem.W.codeIn K cdv qual=true
 kp:PySem.W.keepIn K (.ref f)=true
section
variable{P:Program}{w:World}{K:Frag}{mg:Str->Option Value}{base:Heap}
theorem Fun.ok{x qual:Str}{st:Stmt}{f:Addr}{fd:FuncData}{N ps:List Str}{k:Nat}{sp:Sp}(F:Fun K x qual st f fd)(S:FnScope N ps (aV st))(len:∀vs H Q E,sp vs H Q E->vs.length=ps.length)
  (hbody:∀(cdv:Value) (A:Around) (outer:List Env) (s:Shared) (H:Hp) (vs:List V) (Q:VK) (E:XK),Room k (A.deeper (envOfC qual (aV st) s.heap.objs.size f cdv))->sp vs H Q E ->
   ∃t,f6 (pY pT P w K mg base N qual (aV st) f cdv A outer s H E).nox (bW st) t/\t { nx:=λ_ H'=>Q .non H',rt:=Q } (b0 N vs) H):FnOk P w K mg base pT (k+1) f fd ps sp:=by
 obtain⟨oc,od,kV,doc,pm,an,cdv,ct,osl,rfl,lk,hcd⟩:=F.ex;refine aBe lk hcd S len λA outer s H vs Q E hr hsp=>?_
 obtain⟨t,h,q⟩:=hbody cdv A outer s H vs Q E hr hsp;exact⟨t,h.nox,q⟩
theorem Fun.binds{x qual:Str}{st:Stmt}{f:Addr}{fd:FuncData}{ps:List Str}(F:Fun K x qual st f fd)
  (h:∀(kV doc pm:Value) (an:Option Addr) (cdv ct:Value) (us:List Value),us.length=ps.length->bindArgs (PySem.W.fnOf x qual (dX st) (bW st) (aV st) .none kV doc pm an cdv ct) ⟨us,[]⟩=pure (ps.zip us)):fZ K fd ps []:=by
 obtain⟨oc,od,kV,doc,pm,an,cdv,ct,osl,rfl,lk,hcd⟩:=F.ex;exact .all (h kV doc pm an cdv ct)
theorem v8{x qual:Str}{st:Stmt}{f:Addr}{oc:Value}{od an:Option Addr}{osl:Array (Option Value)}{kV doc pm cdv ct:Value}(l:K.lookup f=some ⟨oc,od,.func (PySem.W.fnOf x qual (dX st) (bW st) (aV st) .none kV doc pm an cdv ct),osl⟩)
  (c:PySem.W.codeIn K cdv qual=true) (k:PySem.W.keepIn K (.ref f)=true):Fun K x qual st f (PySem.W.fnOf x qual (dX st) (bW st) (aV st) .none kV doc pm an cdv ct):=⟨⟨oc,od,kV,doc,pm,an,cdv,ct,osl,rfl,l,c⟩,k⟩
end
section
variable{X:Cx}
end
theorem CT{A B:Prop}(h:B):if false=true then A else B:=by
 rw[Zp Bool.false_ne_true];exact h
theorem AY{A B:Prop}(h:A):if true=true then A else B:=by
 rw[Zo rfl];exact h
def aN(H H':Hp):Prop:=∀b o,H b=some o->H' b=some o
theorem aN.refl(H:Hp):aN H H:=λ_ _ h=>h
theorem aN.trans{H H1 H2:Hp}(a:aN H H1)(b:aN H1 H2):aN H H2:=λc o h=>b c o (a c o h)
theorem aN.free{H H':Hp}(e:aN H H'){l:Addr}(h:H' l=Option.none):H l=Option.none:=by
 cases q:H l with
 |none=>rfl
 |some o =>
  rw[e l o q] at h;cases h
theorem aN.seq{K:Frag}{H H':Hp}{a:Addr}{xs:List V}(e:aN H H')(h:bV K H a xs):bV K H' a xs:=by
 rcases h with (h | ⟨o,h⟩) | h
 ·exact .inl (.inl (e _ _ h))
 ·exact .inl (.inr ⟨o,e _ _ h⟩)
 ·exact .inr h
end L2
set_option maxHeartbeats 4000000
namespace L2
open PySem PySem.Spec PyProof.Rows
section
variable{κ:Type}[DecidableEq κ]
end
section
variable{P:Program}{w:World}{H:Hp}{h:Heap}{a:Addr}
end
section
variable{X:Cx}{pins:List (Addr×Obj)}{σ:St}{H:Hp}{s:Shared}{a:Addr}{y v:V}{u r:Value}{o:Option V}{A:Around}{E:Value->Shared->Prop}
end
section
variable{X:Cx}{pins:List (Addr×Obj)}{σ:St}{H:Hp}{s:Shared}{a:Addr}{kvs:List (hE×V)}{k:hE}{u:Value}{A:Around}{E:Value->Shared->Prop}
end
section
variable{X:Cx}{o i e value:Expr}{pos pos' tpos:Pos}{td ty tv:TE}
end
section
variable{X:Cx}{pos:Pos}
end
structure M1(X:Cx)(o:Expr)(m:Str)(apos:Pos)(e:Expr)(cpos:Pos):Prop where
 base:attributeBase o m X.env (eval o X.env)=eval o X.env
 few:((backTo cpos (starEach [e] X.env)).all (λx=>!x.1)&&(backToKw cpos (keywordEach [] X.env)).all (λx=>x.1.isSome)
  && decide (([e]:List Expr).length+([]:List Keyword).length+(if([]:List Keyword).isEmpty then 0 else 1)<30))=true
 line:(apos.endLine==cpos.line)=true
 trees:backTo cpos (starEach [e] X.env)=[(false,eval e X.env)]
structure M2(X:Cx)(o:Expr)(m:Str)(apos:Pos)(e f:Expr)(cpos:Pos):Prop where
 base:attributeBase o m X.env (eval o X.env)=eval o X.env
 few:((backTo cpos (starEach [e,f] X.env)).all (λx=>!x.1)&&(backToKw cpos (keywordEach [] X.env)).all (λx=>x.1.isSome)
  && decide (([e,f]:List Expr).length+([]:List Keyword).length+(if([]:List Keyword).isEmpty then 0 else 1)<30))=true
 line:(apos.endLine==cpos.line)=true
 trees:backTo cpos (starEach [e,f] X.env)=[(false,eval e X.env),(false,eval f X.env)]
section
variable{X:Cx}{pins:List (Addr×Obj)}{σ:St}{H:Hp}{s:Shared}{a:Addr}{y d:V}{u r:Value}{o:Option V}{A:Around}{E:Value->Shared->Prop}
end
section
variable{X:Cx}{o e f:Expr}{apos cpos:Pos}{td ty tx:TE}
end
section
variable{X:Cx}{pins:List (Addr×Obj)}{σ:St}{H:Hp}{s:Shared}{a:Addr}{kvs:List (hE×V)}{A:Around}{E:Value->Shared->Prop}
end
section
variable{X:Cx}{pins:List (Addr×Obj)}{σ:St}{H:Hp}{s:Shared}{a:Addr}{y:V}{u:Value}{A:Around}{E:Value->Shared->Prop}
end
abbrev CF:=Int×List Int
section
variable{P:Program}{w:World}{A:Around}{E:Value->Shared->Prop}{s:Shared}{h:Heap}
theorem HV{ns:List Int}:PyData.canLayAll0 (ns.map .int)=true:=by
 induction ns with
 |nil=>simp[PyData.canLayAll0]
 |cons n ns ih=>simp[PyData.canLayAll0,PyData.canLay0,ih]
theorem MV{ns:List Int}:PyData.depthAll (ns.map .int)<=1:=by
 induction ns with
 |nil=>simp[PyData.depthAll]
 |cons n ns ih=>simp[PyData.depthAll,PyData.depth];omega
theorem IM:∀{ns ms:List Int},PyData.eqvAll (ns.map .int) (ms.map .int)=decide (ns=ms)
 |[],[]=>by simp[PyData.eqvAll]
 |[],_::_=>by simp[PyData.eqvAll]
 |_::_,[]=>by simp[PyData.eqvAll]
 |n::ns,m::ms=>by(rw[Zs,Zs,PyData.eqvAll,IM];simp only[PyData.eqv,List.cons.injEq,Bool.decide_and];congr 1)
theorem VW{a b:Addr}{c:Bool}{Q:Bool->Shared->Prop}(hs:a=b->c=true)(r:SeqAt.RcAt A s (.ref a) (.ref b) c)(q:Q c s):wpAny (model P w) A (eqBool (.ref a) (.ref b)) Q E s:=by
 unfold eqBool;refine wpAny_holding ?_;by_cases e:a=b
 ·subst e;rw[Zo (by simp)];rw[hs rfl] at q;exact Zt (wpAny_rule (Zu q))
 ·rw[Zp (by simpa using e)];exact Zt (r P w E _ (wpAny_truthy_bool q))
end
section
end
end L2
namespace CS
open PySem PyProof.Rows
noncomputable def gM:Bool->Keyed->Array Keyed->Nat->Nat->Nat->StateT SortSt Sem (Option Nat):=sortPriv% PySem.Builtin.gallop
def tG:Array Keyed->Array Keyed->StateT SortSt Sem (Array Keyed):=sortPriv% PySem.Builtin.mergeLo
def tL:Array Keyed->Array Keyed->StateT SortSt Sem (Array Keyed):=sortPriv% PySem.Builtin.mergeHi
def fM:Nat->StateT SortSt Sem Unit:=sortPriv% PySem.Builtin.setMinGallop
noncomputable def dY(left:Bool)(key:Keyed)(arr:Array Keyed)(base i:Nat):StateT SortSt Sem (Option Bool):=do
  let x <- elem' arr (base+i)
  if left then lt' x key else return (<- lt' key x).map (!·)
abbrev T3:=Option (Option Nat)×Nat×Nat
noncomputable def LS(f:Nat->StateT SortSt Sem (Option Bool))(c:T3):StateT SortSt Sem (ForInStep T3) :=
 if c.2.1 >= c.2.2 then pure (.done (none,c.2.1,c.2.2))
 else do
  let r <- f (c.2.1+(c.2.2-c.2.1) / 2)
  match r with
  |some v=>if v=true then pure (.yield (none,c.2.1+(c.2.2-c.2.1) / 2+1,c.2.2)) else pure (.yield (none,c.2.1,c.2.1+(c.2.2-c.2.1) / 2))
  |_=>pure (.done (some none,c.2.1,c.2.2))
noncomputable def ZC(f:Nat->StateT SortSt Sem (Option Bool))(n hint:Nat)(c:T3):StateT SortSt Sem (ForInStep T3) :=
 if c.2.2 >= n-hint then pure (.done (none,c.2.1,c.2.2))
 else do
  let r <- f (hint+c.2.2)
  match r with
  |some v=>if(!v)=true then pure (.done (none,c.2.1,c.2.2)) else pure (.yield (none,c.2.2,2*c.2.2+1))
  |_=>pure (.done (some none,c.2.1,c.2.2))
noncomputable def Y6(f:Nat->StateT SortSt Sem (Option Bool))(hint:Nat)(c:T3):StateT SortSt Sem (ForInStep T3) :=
 if c.2.2 >= hint+1 then pure (.done (none,c.2.1,c.2.2))
 else do
  let r <- f (hint-c.2.2)
  match r with
  |some v=>if v=true then pure (.done (none,c.2.1,c.2.2)) else pure (.yield (none,c.2.2,2*c.2.2+1))
  |_=>pure (.done (some none,c.2.1,c.2.2))
noncomputable def QG(f:Nat->StateT SortSt Sem (Option Bool))(n lo hi:Nat):StateT SortSt Sem (Option Nat):=do
 let q <- forIn [0:n] ((none,lo,hi):T3) λ_=>LS f
 match q.1 with
 |some r=>pure r
 |none=>pure (some q.2.2)
theorem FL(left:Bool)(key:Keyed)(arr:Array Keyed)(base n hint:Nat):gM left key arr base n hint=(do
  let r <- dY left key arr base hint
  match r with
  |some true=>do
   let c <- forIn [0:n] ((none,0,1):T3) λ_=>ZC (dY left key arr base) n hint
   match c.1 with
   |some r=>pure r
   |none=>QG (dY left key arr base) n (hint+c.2.1+1) (hint+min c.2.2 (n-hint))
  |some false=>do
   let c <- forIn [0:n] ((none,0,1):T3) λ_=>Y6 (dY left key arr base) hint
   match c.1 with
   |some r=>pure r
   |none=>QG (dY left key arr base) n (hint+1-min c.2.2 (hint+1)) (hint-c.2.1)
  |none=>pure none):=by
 show(dY left key arr base hint>>=_)=_;refine congrArg _ (funext λr=>?_)
 cases r with
 |none=>rfl
 |some v =>
  cases v
  ·show((forIn [0:n] ((none,0,1):T3) λ_=>Y6 (dY left key arr base) hint)>>=_)=_;refine congrArg _ (funext λc=>?_);obtain⟨c1,c2⟩:=c;cases c1
   ·show((forIn [0:n] _ λ_=>LS (dY left key arr base))>>=_)=_;refine congrArg _ (funext λq=>?_);obtain⟨q1,q2⟩:=q;cases q1<;>rfl
   ·rfl
  ·show((forIn [0:n] ((none,0,1):T3) λ_=>ZC (dY left key arr base) n hint)>>=_)=_;refine congrArg _ (funext λc=>?_);obtain⟨c1,c2⟩:=c;cases c1
   ·show((forIn [0:n] _ λ_=>LS (dY left key arr base))>>=_)=_;refine congrArg _ (funext λq=>?_);obtain⟨q1,q2⟩:=q;cases q1<;>rfl
   ·rfl
section
variable{prog:Program}{w:World}{A:Around}{E:Value->Shared->Prop}{s:Shared}
def Cut(b:Nat->Bool)(n k:Nat):Prop:=k<=n/\(∀i,i<k->b i=true)/\∀i,k<=i->i<n->b i=false
theorem y4{f:Nat->StateT SortSt Sem (Option Bool)}{n lo hi:Nat}{b:Nat->Bool}{st:SortSt}{Q:T3->SortSt->Prop}
  (hb:∀i,i<n->∀R:Option Bool->SortSt->Prop,R (some (b i)) st->wpS (model prog w) A E s (f i) R st)
  (h1:lo<=hi) (h2:hi<=n) (h3:∀i,i<lo->b i=true) (h4:∀i,hi<=i->i<n->b i=false) (mono:∀i j,i<j->j<n->b j=true->b i=true)
  (h:∀k,Cut b n k->Q (none,k,k) st):wpS (model prog w) A E s (forIn [0:n] ((none,lo,hi):T3) λ_=>LS f) Q st:=by
 refine wpS_forRange (I:=λx c st'=>st'=st/\∃lo hi,c=(none,lo,hi)/\lo<=hi/\hi<=n/\hi-lo<=n-x/\(∀i,i<lo->b i=true)/\∀i,hi<=i->i<n->b i=false) ?step ?fin ⟨rfl,lo,hi,rfl,h1,h2,by omega,h3,h4⟩
 case fin =>
  rintro c st' ⟨rfl,lo,hi,rfl,a1,a2,a3,a4,a5⟩
  obtain rfl:lo=hi:=by omega
  exact h lo ⟨a2,a4,a5⟩
 case step =>
  rintro x c st' _ hx ⟨rfl,lo,hi,rfl,a1,a2,a3,a4,a5⟩
  unfold LS;dsimp only;by_cases hc:lo >= hi
  ·rw[Zo hc];cases Nat.le_antisymm a1 hc;exact wpS_pure (h lo ⟨a2,a4,a5⟩)
  ·rw[Zp hc];have hm:lo+(hi-lo) / 2<hi:=by clear a1 a2 a3 h1 h2 hx;omega
   generalize hmm:lo+(hi-lo) / 2=m at *
   have hn':=Zl hm a2;refine wpS_bind (hb m hn' _ ?_)
   cases hbm:b m with
   |true =>
    dsimp only;rw[Zo rfl];refine wpS_pure ⟨rfl,m+1,hi,rfl,hm,a2,by clear a1 h1 h2 hc hn';omega,λi hi'=>?_,a5⟩;by_cases e:i=m
    ·rw[e];exact hbm
    ·exact mono i m (Nat.lt_of_le_of_ne (Nat.le_of_lt_succ hi') e) hn' hbm
   |false =>
    dsimp only;rw[Zp (by simp)];refine wpS_pure ⟨rfl,lo,m,rfl,hmm ▸ Nat.le_add_right _ _,Nat.le_of_lt hn',by clear a1 h1 h2 hc hn';omega,a4,λi hi' hn=>?_⟩;by_cases e:i=m
    ·rw[e];exact hbm
    ·cases hbi:b i with
     |false=>rfl
     |true=>rw[mono m i (Nat.lt_of_le_of_ne hi' (Ne.symm e)) hn hbi] at hbm;cases hbm
theorem LI{left:Bool}{key:Keyed}{arr:Array Keyed}{base n hint:Nat}{b:Nat->Bool}{st:SortSt}{Q:Option Nat->SortSt->Prop}
  (hb:∀i,i<n->∀R:Option Bool->SortSt->Prop,R (some (b i)) st->wpS (model prog w) A E s (dY left key arr base i) R st)
  (hh:hint<n) (mono:∀i j,i<j->j<n->b j=true->b i=true) (h:∀k,Cut b n k->Q (some k) st) :
  wpS (model prog w) A E s (gM left key arr base n hint) Q st:=by
 rw[FL];refine wpS_bind (hb hint hh _ ?_)
 have up:∀i j,i<=j->j<n->b j=true->b i=true:=λi j hij hj hbj=>by
  by_cases e:i=j
  ·rw[e];exact hbj
  ·exact mono i j (by omega) hj hbj
 have dn:∀i j,i<=j->j<n->b i=false->b j=false:=λi j hij hj hbi=>by
  cases hbj:b j with
  |false=>rfl
  |true=>rw[up i j hij hj hbj] at hbi;cases hbi
 cases hb0:b hint with
 |true =>
  dsimp only
  refine wpS_bind (wpS_mono (wpS_forRange (I:=λx c st'=>st'=st/\∃l o,c=(none,l,o)/\l<o/\x<o/\hint+l<n/\b (hint+l)=true)
   (Q:=λc st'=>st'=st/\∃l o,c=(none,l,o)/\l<o/\hint+l<n/\b (hint+l)=true/\(n-hint<=o\/(hint+o<n/\b (hint+o)=false))) ?step ?fin ⟨rfl,0,1,rfl,by omega,by omega,by omega,hb0⟩) ?post)
  case fin =>
   rintro c st' ⟨rfl,l,o,rfl,a1,a2,a3,a4⟩
   exact⟨rfl,l,o,rfl,a1,a3,a4,.inl (by omega)⟩
  case step =>
   rintro x c st' _ hx ⟨rfl,l,o,rfl,a1,a2,a3,a4⟩
   unfold ZC;dsimp only;by_cases hc:o >= n-hint
   ·rw[Zo hc];exact wpS_pure ⟨rfl,l,o,rfl,a1,a3,a4,.inl hc⟩
   ·rw[Zp hc];refine wpS_bind (hb (hint+o) (by omega) _ ?_)
    cases hbo:b (hint+o) with
    |true =>
     dsimp only;rw[Zp (by simp)];exact wpS_pure ⟨rfl,o,2*o+1,rfl,by omega,by omega,by omega,hbo⟩
    |false =>
     dsimp only;rw[Zo (by simp)];exact wpS_pure ⟨rfl,l,o,rfl,a1,a3,a4,.inr ⟨by omega,hbo⟩⟩
  case post =>
   rintro c st' ⟨rfl,l,o,rfl,a1,a3,a4,a5⟩
   dsimp only;unfold QG;refine wpS_bind (y4 hb (lo:=hint+l+1) (hi:=hint+min o (n-hint)) (b:=b) ?_ ?_ ?_ ?_ mono λk hk=>?_)
   ·omega
   ·omega
   ·intro i hi;exact up i (hint+l) (by omega) a3 a4
   ·intro i hi hn;rcases a5 with a5 | ⟨a5,a6⟩
    ·omega
    ·exact dn (hint+o) i (by omega) hn a6
   ·exact wpS_pure (h k hk)
 |false =>
  dsimp only
  refine wpS_bind (wpS_mono (wpS_forRange (I:=λx c st'=>st'=st/\∃l o,c=(none,l,o)/\l<o/\x<o/\l<=hint/\b (hint-l)=false)
   (Q:=λc st'=>st'=st/\∃l o,c=(none,l,o)/\l<o/\l<=hint/\b (hint-l)=false/\(hint+1<=o\/(o<=hint/\b (hint-o)=true))) ?step ?fin ⟨rfl,0,1,rfl,by omega,by omega,by omega,hb0⟩) ?post)
  case fin =>
   rintro c st' ⟨rfl,l,o,rfl,a1,a2,a3,a4⟩
   exact⟨rfl,l,o,rfl,a1,a3,a4,.inl (by omega)⟩
  case step =>
   rintro x c st' _ hx ⟨rfl,l,o,rfl,a1,a2,a3,a4⟩
   unfold Y6;dsimp only;by_cases hc:o >= hint+1
   ·rw[Zo hc];exact wpS_pure ⟨rfl,l,o,rfl,a1,a3,a4,.inl hc⟩
   ·rw[Zp hc];refine wpS_bind (hb (hint-o) (by omega) _ ?_)
    cases hbo:b (hint-o) with
    |true =>
     dsimp only;rw[Zo rfl];exact wpS_pure ⟨rfl,l,o,rfl,a1,a3,a4,.inr ⟨by omega,hbo⟩⟩
    |false =>
     dsimp only;rw[Zp (by simp)];exact wpS_pure ⟨rfl,o,2*o+1,rfl,by omega,by omega,by omega,hbo⟩
  case post =>
   rintro c st' ⟨rfl,l,o,rfl,a1,a3,a4,a5⟩
   dsimp only;unfold QG;refine wpS_bind (y4 hb (lo:=hint+1-min o (hint+1)) (hi:=hint-l) (b:=b) ?_ ?_ ?_ ?_ mono λk hk=>?_)
   ·omega
   ·omega
   ·intro i hi;rcases a5 with a5 | ⟨a5,a6⟩
    ·omega
    ·exact up i (hint-o) (by omega) (by omega) a6
   ·intro i hi hn;exact dn (hint-l) i (by omega) hn a4
   ·exact wpS_pure (h k hk)
end
abbrev G6:=Option (Array Keyed)×Array Keyed×Nat×Nat×Nat×Nat
abbrev G7:=Option (Array Keyed)×Array Keyed×Nat×Nat×Nat×Nat×Nat
abbrev G5:=Option (Array Keyed)×Array Keyed×Nat×Nat×Nat
def pO(a b out:Array Keyed)(ia ib:Nat):Array Keyed:=out++a.extract ia a.size++b.extract ib b.size
def wG(a b out:Array Keyed)(ia ib:Nat):Array Keyed:=out++b.extract ib b.size++a.extract ia a.size
noncomputable def Q5(a b:Array Keyed)(mg:Nat)(c:G6):StateT SortSt Sem (ForInStep G6):=do
 let y <- elem' b c.2.2.2.1
 let x <- elem' a c.2.2.1
 let r <- lt' y x
 match r with
 |some bWins =>
  if bWins=true then do
   let v <- elem' b c.2.2.2.1
   if(c.2.2.2.1+1==b.size)=true then pure (.done (some (pO a b (c.2.1.push v) c.2.2.1 (c.2.2.2.1+1)),c.2.1.push v,c.2.2.1,c.2.2.2.1+1,0,c.2.2.2.2.2+1))
   else if c.2.2.2.2.2+1 >= mg then pure (.done (none,c.2.1.push v,c.2.2.1,c.2.2.2.1+1,0,c.2.2.2.2.2+1))
   else pure (.yield (none,c.2.1.push v,c.2.2.1,c.2.2.2.1+1,0,c.2.2.2.2.2+1))
  else do
   let v <- elem' a c.2.2.1
   if(c.2.2.1+1+1==a.size)=true then pure (.done (some (wG a b (c.2.1.push v) (c.2.2.1+1) c.2.2.2.1),c.2.1.push v,c.2.2.1+1,c.2.2.2.1,c.2.2.2.2.1+1,0))
   else if c.2.2.2.2.1+1 >= mg then pure (.done (none,c.2.1.push v,c.2.2.1+1,c.2.2.2.1,c.2.2.2.2.1+1,0))
   else pure (.yield (none,c.2.1.push v,c.2.2.1+1,c.2.2.2.1,c.2.2.2.2.1+1,0))
 |x=>pure (.done (some (pO a b c.2.1 c.2.2.1 c.2.2.2.1),c.2.1,c.2.2.1,c.2.2.2.1,c.2.2.2.2.1,c.2.2.2.2.2))
noncomputable def RR(a b:Array Keyed)(mg ac bc:Nat)(out:Array Keyed)(ia ib:Nat):StateT SortSt Sem (ForInStep G7):=do
 let v <- elem' a ia
 if(ia+1+1==a.size)=true then pure (.done (some (wG a b (out.push v) (ia+1) ib),out.push v,ia+1,ib,mg,ac,bc))
 else if(decide (ac<7)&&decide (bc<7))=true then pure (.done (none,out.push v,ia+1,ib,mg,ac,bc))
 else pure (.yield (none,out.push v,ia+1,ib,mg,ac,bc))
noncomputable def RH(a b:Array Keyed)(mg ac bc:Nat)(out:Array Keyed)(ia ib:Nat):StateT SortSt Sem (ForInStep G7):=do
 let v <- elem' b ib
 if(ib+1==b.size)=true then pure (.done (some (pO a b (out.push v) ia (ib+1)),out.push v,ia,ib+1,mg,ac,bc))
 else do
  let u <- elem' a ia
  let r <- gM true u b (ib+1) (b.size-(ib+1)) 0
  match r with
  |some k =>
   if k > 0 then
    if(ib+1+k==b.size)=true then pure (.done (some (pO a b (out.push v++b.extract (ib+1) (ib+1+k)) ia (ib+1+k)),out.push v++b.extract (ib+1) (ib+1+k),ia,ib+1+k,mg,ac,k))
    else RR a b mg ac k (out.push v++b.extract (ib+1) (ib+1+k)) ia (ib+1+k)
   else RR a b mg ac k (out.push v) ia (ib+1)
  |x=>pure (.done (some (pO a b (out.push v) ia (ib+1)),out.push v,ia,ib+1,mg,ac,bc))
noncomputable def QU(a b:Array Keyed)(mg ac bc:Nat)(out:Array Keyed)(ia ib:Nat):StateT SortSt Sem (ForInStep G7):=do
 fM mg
 let y <- elem' b ib
 let r <- gM false y a ia (a.size-ia) 0
 match r with
 |some k =>
  if k > 0 then
   if(ia+k+1==a.size)=true then pure (.done (some (wG a b (out++a.extract ia (ia+k)) (ia+k) ib),out++a.extract ia (ia+k),ia+k,ib,mg,k,bc))
   else if(ia+k==a.size)=true then pure (.done (some (pO a b (out++a.extract ia (ia+k)) (ia+k) ib),out++a.extract ia (ia+k),ia+k,ib,mg,k,bc))
   else RH a b mg k bc (out++a.extract ia (ia+k)) (ia+k) ib
  else RH a b mg k bc out ia ib
 |x=>pure (.done (some (pO a b out ia ib),out,ia,ib,mg,ac,bc))
noncomputable def YG(a b:Array Keyed)(c:G7):StateT SortSt Sem (ForInStep G7) :=
 if c.2.2.2.2.1 > 1 then QU a b (c.2.2.2.2.1-1) c.2.2.2.2.2.1 c.2.2.2.2.2.2 c.2.1 c.2.2.1 c.2.2.2.1 else QU a b c.2.2.2.2.1 c.2.2.2.2.2.1 c.2.2.2.2.2.2 c.2.1 c.2.2.1 c.2.2.2.1
noncomputable def loO(a b:Array Keyed)(c:G5):StateT SortSt Sem (ForInStep G5):=do
 let r <- forIn [0:a.size+b.size] ((none,c.2.1,c.2.2.1,c.2.2.2.1,0,0):G6) λ_=>Q5 a b c.2.2.2.2
 match r.1 with
 |some z=>pure (.done (some z,r.2.1,r.2.2.1,r.2.2.2.1,c.2.2.2.2))
 |none=>do
  liftM (rule "list.sort.gallop")
  let q <- forIn [0:a.size+b.size] ((none,r.2.1,r.2.2.1,r.2.2.2.1,c.2.2.2.2+1,r.2.2.2.2.1,r.2.2.2.2.2):G7) λ_=>YG a b
  match q.1 with
  |some z=>pure (.done (some z,q.2.1,q.2.2.1,q.2.2.2.1,q.2.2.2.2.1))
  |none=>do
   fM (q.2.2.2.2.1+1)
   pure (.yield (none,q.2.1,q.2.2.1,q.2.2.2.1,q.2.2.2.2.1+1))
theorem DF(a b:Array Keyed):tG a b=(do
 liftM (rule "list.sort.merge-lo")
 let v <- elem' b 0
 if(1==b.size)=true then pure (pO a b #[v] 0 1)
 else if(0+1==a.size)=true then pure (wG a b #[v] 0 1)
 else do
  let st <- get
  let q <- forIn [0:a.size+b.size] ((none,#[v],0,1,gallopOf st):G5) λ_=>loO a b
  match q.1 with
  |some z=>pure z
  |none=>liftM (unsupported "internal:list.sort.merge-bound":Sem (Array Keyed))):=by
 show((liftM (rule "list.sort.merge-lo"):StateT SortSt Sem Unit)>>=_)=_;refine congrArg _ (funext λ_=>?_);show(elem' b 0>>=_)=_;refine congrArg _ (funext λv=>?_);dsimp only;unfold pO wG;refine congrArg _ (congrArg _ ?_);show((get:StateT SortSt Sem SortSt)>>=_)=_;refine congrArg _ (funext λst=>?_);show((forIn [0:a.size+b.size] ((none,#[v],0,1,gallopOf st):G5) _)>>=_)=_;refine congr (congrArg _ (congrArg _ (funext λx=>funext λc=>?_))) ?_
 ·unfold loO;show((forIn [0:a.size+b.size] ((none,c.2.1,c.2.2.1,c.2.2.2.1,0,0):G6) λ_=>Q5 a b c.2.2.2.2)>>=_)=_;refine congrArg _ (funext λr=>?_);cases r.1
  ·show((liftM (rule "list.sort.gallop"):StateT SortSt Sem Unit)>>=_)=_;refine congrArg _ (funext λ_=>?_);show((forIn [0:a.size+b.size] ((none,r.2.1,r.2.2.1,r.2.2.2.1,c.2.2.2.2+1,r.2.2.2.2.1,r.2.2.2.2.2):G7) λ_=>YG a b)>>=_)=_;refine congrArg _ (funext λq=>?_);obtain⟨q1,q2⟩:=q;cases q1<;>rfl
  ·rfl
 ·funext q
  obtain⟨q1,q2⟩:=q;cases q1<;>rfl
section
variable{O:KeyOrd}{ky:Keyed->O.α}
def le(ky:Keyed->O.α)(x y:Keyed):Prop:=O.kle (ky x) (ky y)
theorem le_refl(x:Keyed):le ky x x:=KeyOrd.kle_refl _
theorem le_trans{x y z:Keyed}(h1:le ky x y)(h2:le ky y z):le ky x z:=KeyOrd.kle_trans h1 h2
theorem le_of_lt{x y:Keyed}(h:O.blt (ky x) (ky y)=true):le ky x y:=KeyOrd.kle_of_klt h
abbrev cP(ky:Keyed->O.α)(l:List Keyed):Prop:=l.Pairwise (le ky)
theorem cP.drop{l:List Keyed}(h:cP ky l)(n:Nat):cP ky (l.drop n):=h.sublist (List.drop_sublist _ _)
theorem cP.take{l:List Keyed}(h:cP ky l)(n:Nat):cP ky (l.take n):=h.sublist (List.take_sublist _ _)
structure MI(ky:Keyed->O.α)(al bl:List Keyed)(out:Array Keyed)(ia ib:Nat):Prop where
 ha:ia<=al.length
 hb:ib<=bl.length
 perm:(out.toList++(al.drop ia++bl.drop ib)).Perm (al++bl)
 srt:cP ky out.toList
 low:∀x∈out.toList,∀y∈al.drop ia++bl.drop ib,le ky x y
 len:out.size=ia+ib
theorem oC(l:List Keyed)(i k:Nat):l.drop i=(l.drop i).take k++l.drop (i+k):=by
 rw[<- List.drop_drop,List.take_append_drop]
theorem MI.takeA{al bl:List Keyed}{out out':Array Keyed}{ia ib k:Nat}(h:MI ky al bl out ia ib)(sa:cP ky al)(hk:ia+k<=al.length)(hle:∀x∈(al.drop ia).take k,∀y∈bl.drop ib,le ky x y)
  (ho:out'.toList=out.toList++(al.drop ia).take k):MI ky al bl out' (ia+k) ib:=by
 have sd:=sa.drop ia;rw[oC al ia k] at sd;obtain⟨s1,s2,s3⟩:=List.pairwise_append.mp sd
 have hl:out'.size=ia+k+ib:=by(rw[<- Array.length_toList,ho,Za,Array.length_toList,h.len,List.length_take,List.length_drop];omega)
 refine⟨hk,h.hb, ?_, ?_,λx hx y hy=>?_,hl⟩
 ·rw[ho]
  have:=h.perm
  rw[oC al ia k] at this;simpa[List.append_assoc] using this
 ·rw[ho];refine List.pairwise_append.mpr ⟨h.srt,s1,λx hx y hy=>h.low x hx y ?_⟩;rw[oC al ia k];exact List.mem_append_left _ (List.mem_append_left _ hy)
 ·rw[ho] at hx;rcases zp.mp hx with hx | hx
  ·refine h.low x hx y ?_;rw[oC al ia k];rcases zp.mp hy with hy | hy
   ·exact List.mem_append_left _ (List.mem_append_right _ hy)
   ·exact List.mem_append_right _ hy
  ·rcases zp.mp hy with hy | hy
   ·exact s3 x hx y hy
   ·exact hle x hx y hy
theorem MI.takeB{al bl:List Keyed}{out out':Array Keyed}{ia ib k:Nat}(h:MI ky al bl out ia ib)(sb:cP ky bl)(hk:ib+k<=bl.length)(hle:∀x∈(bl.drop ib).take k,∀y∈al.drop ia,le ky x y)
  (ho:out'.toList=out.toList++(bl.drop ib).take k):MI ky al bl out' ia (ib+k):=by
 have sd:=sb.drop ib;rw[oC bl ib k] at sd;obtain⟨s1,s2,s3⟩:=List.pairwise_append.mp sd
 have hl:out'.size=ia+(ib+k):=by(rw[<- Array.length_toList,ho,Za,Array.length_toList,h.len,List.length_take,List.length_drop];omega)
 refine⟨h.ha,hk, ?_, ?_,λx hx y hy=>?_,hl⟩
 ·rw[ho]
  have:=h.perm
  rw[oC bl ib k] at this;refine List.Perm.trans ?_ this;rw[List.append_assoc];refine List.Perm.append_left _ ?_;rw[<- List.append_assoc,<- List.append_assoc];exact List.Perm.append_right _ List.perm_append_comm
 ·rw[ho];refine List.pairwise_append.mpr ⟨h.srt,s1,λx hx y hy=>h.low x hx y ?_⟩;rw[oC bl ib k];exact List.mem_append_right _ (List.mem_append_left _ hy)
 ·rw[ho] at hx;rcases zp.mp hx with hx | hx
  ·refine h.low x hx y ?_;rw[oC bl ib k];rcases zp.mp hy with hy | hy
   ·exact List.mem_append_left _ hy
   ·exact List.mem_append_right _ (List.mem_append_right _ hy)
  ·rcases zp.mp hy with hy | hy
   ·exact hle x hx y hy
   ·exact s3 x hx y hy
def fH(ky:Keyed->O.α)(al bl:List Keyed)(m:Array Keyed):Prop:=m.toList.Perm (al++bl)/\cP ky m.toList
theorem mK{a:Array Keyed}{i j:Nat}:(a.extract i j).toList=(a.toList.drop i).take (j-i):=by rw[Array.toList_extract,List.extract_eq_take_drop]
theorem rO{a:Array Keyed}{i:Nat}:(a.extract i a.size).toList=a.toList.drop i:=by
 rw[mK,zf (by simp)]
theorem nH{a b out:Array Keyed}{ia ib:Nat}(h:MI ky a.toList b.toList out ia ib)(sa:cP ky a.toList)(sb:cP ky b.toList)(he:ia=a.size\/ib=b.size):fH ky a.toList b.toList (pO a b out ia ib):=by
 have e:(pO a b out ia ib).toList=out.toList++(a.toList.drop ia++b.toList.drop ib):=by(unfold pO;rw[Array.toList_append,Array.toList_append,rO,rO,List.append_assoc])
 refine⟨by rw[e];exact h.perm, ?_⟩;rw[e];refine List.pairwise_append.mpr ⟨h.srt, ?_,h.low⟩;rcases he with rfl | rfl
 ·rw[List.drop_of_length_le (by simp),List.nil_append];exact sb.drop _
 ·rw[List.drop_of_length_le (l:=b.toList) (by simp),List.append_nil];exact sa.drop _
theorem SW{a b out:Array Keyed}{ia ib:Nat}(h:MI ky a.toList b.toList out ia ib)(sa:cP ky a.toList)(sb:cP ky b.toList)(he:ia+1=a.size)(hl:∀y∈b.toList,∀x∈a.toList.drop ia,le ky y x):fH ky a.toList b.toList (wG a b out ia ib):=by
 have e:(wG a b out ia ib).toList=out.toList++(b.toList.drop ib++a.toList.drop ia):=by(unfold wG;rw[Array.toList_append,Array.toList_append,rO,rO,List.append_assoc])
 refine⟨by rw[e];exact(List.Perm.append_left _ List.perm_append_comm).trans h.perm, ?_⟩;rw[e];refine List.pairwise_append.mpr ⟨h.srt,List.pairwise_append.mpr ⟨sb.drop _,sa.drop _,λy hy x hx=>hl y (List.mem_of_mem_drop hy) x hx⟩,λx hx y hy=>h.low x hx y ?_⟩;rcases zp.mp hy with hy | hy
 ·exact List.mem_append_right _ hy
 ·exact List.mem_append_left _ hy
theorem l7{l:List Keyed}(hs:cP ky l){i:Nat}{x:Keyed}(hx:l[i]?=some x):∀y∈l.drop i,le ky x y:=by
 intro y hy
 have:l.drop i=x::l.drop (i+1):=by
  have hi:=(Zc.mp hx)
  rw[List.drop_eq_getElem_cons hi.1,hi.2]
 rw[this] at hy;have sd:=hs.drop i;rw[this] at sd;rcases List.mem_cons.mp hy with rfl | hy
 ·exact le_refl _
 ·exact(List.pairwise_cons.mp sd).1 y hy
theorem GZ{l:List Keyed}{i:Nat}{x:Keyed}(hx:l[i]?=some x):(l.drop i).take 1=[x]:=by
 have hi:=(Zc.mp hx)
 rw[List.drop_eq_getElem_cons hi.1,hi.2];rfl
end
section
variable{prog:Program}{w:World}{A:Around}{E:Value->Shared->Prop}{s:Shared}
def lU(prog:Program)(w:World)(A:Around)(E:Value->Shared->Prop)(s:Shared)(O:KeyOrd)(ky:Keyed->O.α)(kd:SortKind)(P:Keyed->Prop):Prop :=
 ∀(st:SortSt) (x y:Keyed) (Q:Option Bool->SortSt->Prop),kindOf st=kd->P x->P y->Q (some (O.blt (ky x) (ky y))) st->wpS (model prog w) A E s (lt' x y) Q st
structure SameS(st st':SortSt):Prop where
 k:kindOf st'=kindOf st
 a:arrOf st'=arrOf st
 p:pendingOf st'=pendingOf st
 f:failedOf st'=failedOf st
theorem SameS.refl(st:SortSt):SameS st st:=⟨rfl,rfl,rfl,rfl⟩
theorem bU{arr:Array Keyed}{i:Nat}{x:Keyed}{st:SortSt}{Q:Keyed->SortSt->Prop}(h:arr[i]?=some x)(q:Q x st):wpS (model prog w) A E s (elem' arr i) Q st:=by
 rw[elem'_eq,h];exact wpS_pure q
theorem rL{g:Nat}{st st0:SortSt}{Q:Unit->SortSt->Prop}(h0:SameS st0 st)(q:∀st',SameS st0 st'->Q () st'):wpS (model prog w) A E s (fM g) Q st :=
 wpS_modify (q _ ⟨h0.k,h0.a,h0.p,h0.f⟩)
variable{O:KeyOrd}{ky:Keyed->O.α}{kd:SortKind}{P:Keyed->Prop}
theorem K9{left:Bool}{key x:Keyed}{arr:Array Keyed}{base i:Nat}{st:SortSt}{R:Option Bool->SortSt->Prop}(hL:lU prog w A E s O ky kd P)(hk:kindOf st=kd)(hx:arr[base+i]?=some x)(px:P x)(pk:P key)
  (h:R (some (if left then O.blt (ky x) (ky key) else !O.blt (ky key) (ky x))) st):wpS (model prog w) A E s (dY left key arr base i) R st:=by
 unfold dY;refine wpS_bind (bU hx ?_)
 cases left with
 |true=>exact hL st x key R hk px pk h
 |false=>exact wpS_bind (hL st key x _ hk pk px (wpS_pure h))
theorem mE{left:Bool}{key:Keyed}{arr:Array Keyed}{base n hint:Nat}{st:SortSt}{Q:Option Nat->SortSt->Prop}(hL:lU prog w A E s O ky kd P)(hk:kindOf st=kd)(hn:base+n<=arr.size)(hh:hint<n)
  (px:∀i x,i<n->arr[base+i]?=some x->P x) (pk:P key) (hs:∀i j x y,i<j->j<n->arr[base+i]?=some x->arr[base+j]?=some y->le ky x y)
  (h:∀k,k<=n->(∀i x,i<k->arr[base+i]?=some x->if left then O.blt (ky x) (ky key)=true else le ky x key)->(∀i x,k<=i->i<n->arr[base+i]?=some x->if left then le ky key x else O.blt (ky key) (ky x)=true)->Q (some k) st) :
  wpS (model prog w) A E s (gM left key arr base n hint) Q st:=by
 have ex:∀i,i<n->arr[base+i]?=some (arr.getD (base+i) default):=λi hi=>by(rw[Array.getElem?_eq_getElem (show base+i<arr.size by omega)];simp[Array.getD,show base+i<arr.size by omega])
 refine LI (b:=λi=>if left then O.blt (ky (arr.getD (base+i) default)) (ky key) else !O.blt (ky key) (ky (arr.getD (base+i) default))) (λi hi R hR=>K9 hL hk (ex i hi) (px i _ hi (ex i hi)) pk hR) hh ?_ λk hc=>?_
 ·intro i j hij hj hb;have hle:=hs i j _ _ hij hj (ex i (by omega)) (ex j hj)
  cases left with
  |true =>
   have hb:O.blt (ky (arr.getD (base+j) default)) (ky key)=true:=hb;exact KeyOrd.klt_of_kle_of_klt hle hb
  |false =>
   have hb:(!O.blt (ky key) (ky (arr.getD (base+j) default)))=true:=hb;have hb:O.kle (ky (arr.getD (base+j) default)) (ky key):=by simpa[KeyOrd.kle] using hb
   have:=KeyOrd.kle_trans hle hb
   simpa[KeyOrd.kle] using this
 ·obtain⟨c1,c2,c3⟩:=hc;refine h k c1 (λi x hi hx=>?_) λi x hi hn' hx=>?_
  ·have hb:=c2 i hi;rw[ex i (by omega)] at hx;cases hx
   cases left with
   |true=>exact hb
   |false=>simpa[le,KeyOrd.kle] using hb
  ·have hb:=c3 i hi hn';rw[ex i hn'] at hx;cases hx
   cases left with
   |true=>exact hb
   |false=>simpa using hb
end
structure ML{O:KeyOrd}(ky:Keyed->O.α)(P:Keyed->Prop)(a b:Array Keyed):Prop where
 sa:cP ky a.toList
 sb:cP ky b.toList
 pa:∀x∈a.toList,P x
 pb:∀x∈b.toList,P x
section
variable{prog:Program}{w:World}{A:Around}{E:Value->Shared->Prop}{s:Shared}
variable{O:KeyOrd}{ky:Keyed->O.α}{kd:SortKind}{P:Keyed->Prop}{a b:Array Keyed}
theorem cQ{a:Array Keyed}{i:Nat}(h:i<a.size):∃x,a[i]?=some x/\a.toList[i]?=some x/\x∈a.toList:=by
 refine⟨a[i],Array.getElem?_eq_getElem h, ?_, ?_⟩
 ·rw[Array.getElem?_toList,Array.getElem?_eq_getElem h]
 ·exact Array.getElem_mem_toList h
theorem xF{a:Array Keyed}{i k:Nat}{x:Keyed}(h:x∈(a.toList.drop i).take k):∃j,j<k/\a[i+j]?=some x:=by
 obtain⟨j,e⟩:=List.mem_iff_getElem?.mp h
 have hj:j<k:=by
  have:=(Zc.mp e).1
  rw[List.length_take] at this;omega
 refine⟨j,hj, ?_⟩;rw[List.getElem?_take,Zo hj,List.getElem?_drop,Array.getElem?_toList] at e;exact e
theorem kJ{a:Array Keyed}{i:Nat}{x:Keyed}(h:x∈a.toList.drop i):∃j,i+j<a.size/\a[i+j]?=some x:=by
 obtain⟨j,e⟩:=List.mem_iff_getElem?.mp h;rw[List.getElem?_drop,Array.getElem?_toList] at e;exact⟨j,(Array.getElem?_eq_some_iff.mp e).1,e⟩
theorem uI{a:Array Keyed}(h:cP ky a.toList){i j:Nat}{x y:Keyed}(hij:i<j)(hx:a[i]?=some x)(hy:a[j]?=some y):le ky x y:=by
 rw[<- Array.getElem?_toList] at hx hy;obtain⟨h1,rfl⟩:=Zc.mp hx;obtain⟨h2,rfl⟩:=Zc.mp hy;exact List.pairwise_iff_getElem.mp h i j h1 h2 hij
theorem iH{a:Array Keyed}{i:Nat}{x:Keyed}(h:a[i]?=some x):x∈a.toList:=by
 rw[<- Array.getElem?_toList] at h;exact zj h
def Js(ky:Keyed->O.α)(a b:Array Keyed)(n:Nat)(out:Array Keyed)(ia ib:Nat):Prop:=MI ky a.toList b.toList out ia ib/\ia+1<a.size/\ib<b.size/\n<=out.size
theorem Js.pushB{n ia ib:Nat}{out:Array Keyed}{v:Keyed}(m:ML ky P a b)(h:Js ky a b n out ia ib)(hv:b[ib]?=some v)(hle:∀y∈a.toList.drop ia,le ky v y):MI ky a.toList b.toList (out.push v) ia (ib+1):=by
 have e:=GZ (l:=b.toList) (i:=ib) (x:=v) (by rw[Array.getElem?_toList];exact hv);refine h.1.takeB m.sb (by rw[Array.length_toList];exact h.2.2.1) (λx hx y hy=>?_) (by rw[Array.toList_push,e]);rw[e] at hx;rw[ze.mp hx];exact hle y hy
theorem Js.pushA{n ia ib:Nat}{out:Array Keyed}{v:Keyed}(m:ML ky P a b)(h:Js ky a b n out ia ib)(hv:a[ia]?=some v)(hle:∀y∈b.toList.drop ib,le ky v y):MI ky a.toList b.toList (out.push v) (ia+1) ib:=by
 have e:=GZ (l:=a.toList) (i:=ia) (x:=v) (by rw[Array.getElem?_toList];exact hv);refine h.1.takeA m.sa (by rw[Array.length_toList];have:=h.2.1;omega) (λx hx y hy=>?_) (by rw[Array.toList_push,e]);rw[e] at hx;rw[ze.mp hx];exact hle y hy
theorem cD{x y:Nat}(h:¬(x==y)=true):x≠y:=by simpa using h
variable(hL:lU prog w A E s O ky kd P)(m:ML ky P a b)(hlast:∀y∈b.toList,∀i x,i+1=a.size->a[i]?=some x->le ky y x)
include hL m hlast
omit hL in
theorem AE{out:Array Keyed}{ia ib:Nat}(h:MI ky a.toList b.toList out ia ib)(he:ia+1=a.size):fH ky a.toList b.toList (wG a b out ia ib):=by
 refine SW h m.sa m.sb he λy hy x hx=>?_
 obtain⟨j,h1,h2⟩:=kJ hx;obtain rfl:j=0:=by omega
 exact hlast y hy ia x he h2
theorem XF{st st0:SortSt}{mg n:Nat}{c:G6}(h0:SameS st0 st)(hk:kindOf st0=kd)(hc:∃out ia ib ac bc,c=(none,out,ia,ib,ac,bc)/\Js ky a b n out ia ib) :
  wpS (model prog w) A E s (Q5 a b mg c) (λr st'=>SameS st0 st'/\match r with
   |.done c'=>(∃z q,c'=(some z,q)/\fH ky a.toList b.toList z)\/∃out ia ib ac bc,c'=(none,out,ia,ib,ac,bc)/\Js ky a b (n+1) out ia ib
   |.yield c'=>∃out ia ib ac bc,c'=(none,out,ia,ib,ac,bc)/\Js ky a b (n+1) out ia ib) st:=by
 obtain⟨out,ia,ib,ac,bc,rfl,h⟩:=hc;obtain⟨h1,h2,h3,h4⟩:=id h;obtain⟨y,y1,y2,y3⟩:=cQ h3;obtain⟨x,x1,x2,x3⟩:=cQ (show ia<a.size by omega);unfold Q5;dsimp only;refine wpS_bind (bU y1 (wpS_bind (bU x1 (wpS_bind (hL st y x _ (h0.k.trans hk) (m.pb y y3) (m.pa x x3) ?_)))))
 cases hb:O.blt (ky y) (ky x) with
 |true =>
  dsimp only;rw[Zo rfl];refine wpS_bind (bU y1 ?_);have hI:=h.pushB m y1 λz hz=>le_trans (le_of_lt hb) (l7 m.sa x2 z hz)
  by_cases e1:(ib+1==b.size)=true
  ·rw[Zo e1];exact wpS_pure ⟨h0,.inl ⟨_,_,rfl,nH hI m.sa m.sb (.inr (by simpa using e1))⟩⟩
  ·rw[Zp e1];have hJ:Js ky a b (n+1) (out.push y) ia (ib+1):=⟨hI,h2,by have:=cD e1;omega,by rw[Array.size_push];omega⟩
   split
   ·exact wpS_pure ⟨h0,.inr ⟨_,_,_,_,_,rfl,hJ⟩⟩
   ·exact wpS_pure ⟨h0,_,_,_,_,_,rfl,hJ⟩
 |false =>
  dsimp only;rw[Zp (by simp)];refine wpS_bind (bU x1 ?_);have hI:=h.pushA m x1 λz hz=>le_trans (show le ky x y from hb) (l7 m.sb y2 z hz)
  by_cases e1:(ia+1+1==a.size)=true
  ·rw[Zo e1];exact wpS_pure ⟨h0,.inl ⟨_,_,rfl,AE m hlast hI (by simpa using e1)⟩⟩
  ·rw[Zp e1];have hJ:Js ky a b (n+1) (out.push x) (ia+1) ib:=⟨hI,by have:=cD e1;omega,h3,by rw[Array.size_push];omega⟩
   split
   ·exact wpS_pure ⟨h0,.inr ⟨_,_,_,_,_,rfl,hJ⟩⟩
   ·exact wpS_pure ⟨h0,_,_,_,_,_,rfl,hJ⟩
def Y8(ky:Keyed->O.α)(a b:Array Keyed)(n:Nat)(st0:SortSt)(r:ForInStep G7)(st':SortSt):Prop:=SameS st0 st'/\match r with
   |.done c'=>(∃z q,c'=(some z,q)/\fH ky a.toList b.toList z)\/∃out ia ib mg ac bc,c'=(none,out,ia,ib,mg,ac,bc)/\Js ky a b (n+1) out ia ib
   |.yield c'=>∃out ia ib mg ac bc,c'=(none,out,ia,ib,mg,ac,bc)/\Js ky a b (n+1) out ia ib
theorem LF{st st0:SortSt}{mg ac bc n ia ib:Nat}{out:Array Keyed}(h0:SameS st0 st)(hJ:Js ky a b n out ia ib)(hle:∀x,a[ia]?=some x->∀y∈b.toList.drop ib,le ky x y) :
  wpS (model prog w) A E s (RR a b mg ac bc out ia ib) (Y8 ky a b n st0) st:=by
 obtain⟨h1,h2,h3,h4⟩:=id hJ;obtain⟨x,x1,x2,x3⟩:=cQ (show ia<a.size by omega);unfold RR;refine wpS_bind (bU x1 ?_);have hI:=hJ.pushA m x1 (hle x x1);by_cases e1:(ia+1+1==a.size)=true
 ·rw[Zo e1];exact wpS_pure ⟨h0,.inl ⟨_,_,rfl,AE m hlast hI (by simpa using e1)⟩⟩
 ·rw[Zp e1];have hJ:Js ky a b (n+1) (out.push x) (ia+1) ib:=⟨hI,by have:=cD e1;omega,h3,by rw[Array.size_push];omega⟩
  split
  ·exact wpS_pure ⟨h0,.inr ⟨_,_,_,_,_,_,rfl,hJ⟩⟩
  ·exact wpS_pure ⟨h0,_,_,_,_,_,_,rfl,hJ⟩
theorem ID{st st0:SortSt}{mg ac bc n ia ib:Nat}{out:Array Keyed}(h0:SameS st0 st)(hk:kindOf st0=kd)(hJ:Js ky a b n out ia ib)(hle:∀x,b[ib]?=some x->∀y∈a.toList.drop ia,le ky x y) :
  wpS (model prog w) A E s (RH a b mg ac bc out ia ib) (Y8 ky a b n st0) st:=by
 obtain⟨h1,h2,h3,h4⟩:=id hJ;obtain⟨y,y1,y2,y3⟩:=cQ h3;obtain⟨x,x1,x2,x3⟩:=cQ (show ia<a.size by omega);unfold RH;refine wpS_bind (bU y1 ?_);have hI:=hJ.pushB m y1 (hle y y1);by_cases e1:(ib+1==b.size)=true
 ·rw[Zo e1];exact wpS_pure ⟨h0,.inl ⟨_,_,rfl,nH hI m.sa m.sb (.inr (by simpa using e1))⟩⟩
 ·rw[Zp e1];have hb1:ib+1<b.size:=by have:=cD e1;omega
  refine wpS_bind (bU x1 (wpS_bind (mE hL (h0.k.trans hk) (by omega) (by omega) (λi z hi hz=>m.pb z (iH hz)) (m.pa x x3) (λi j u v hij hj hu hv=>uI m.sb (by omega) hu hv) λk k1 k2 k3=>?_)));dsimp only;have k2:∀i z,i<k->b[ib+1+i]?=some z->le ky z x:=λi z hi hz=>le_of_lt (by simpa using k2 i z hi hz)
  have k3:∀i z,k<=i->i<b.size-(ib+1)->b[ib+1+i]?=some z->le ky x z:=λi z hi hn hz=>by simpa using k3 i z hi hn hz
  by_cases hk0:k > 0
  ·rw[Zo hk0]
   have hI2:MI ky a.toList b.toList (out.push y++b.extract (ib+1) (ib+1+k)) ia (ib+1+k):=by(refine hI.takeB m.sb (by rw[Array.length_toList];omega) (λz hz u hu=>?_) (by rw[Array.toList_append,mK,show ib+1+k-(ib+1)=k by omega]);obtain⟨j,hj,e⟩:=xF hz;exact le_trans (k2 j z hj e) (l7 m.sa x2 u hu))
   by_cases e2:(ib+1+k==b.size)=true
   ·rw[Zo e2];exact wpS_pure ⟨h0,.inl ⟨_,_,rfl,nH hI2 m.sa m.sb (.inr (by simpa using e2))⟩⟩
   ·rw[Zp e2];refine LF hL m hlast h0 ⟨hI2,h2,by have:=cD e2;omega, ?_⟩ λx' hx' u hu=>?_
    ·rw[Array.size_append,Array.size_push];omega
    ·rw[x1] at hx';cases hx';obtain⟨j,hj,e⟩:=kJ hu;exact k3 (k+j) u (by omega) (by omega) (by rw[<- Nat.add_assoc];exact e)
  ·rw[Zp hk0];obtain rfl:k=0:=by omega
   refine LF hL m hlast h0 ⟨hI,h2,hb1,by rw[Array.size_push];omega⟩ λx' hx' u hu=>?_
   rw[x1] at hx';cases hx';obtain⟨j,hj,e⟩:=kJ hu;exact k3 j u (by omega) (by omega) e
theorem aAP{st st0:SortSt}{mg ac bc n ia ib:Nat}{out:Array Keyed}(h0:SameS st0 st)(hk:kindOf st0=kd)(hJ:Js ky a b n out ia ib) :
  wpS (model prog w) A E s (QU a b mg ac bc out ia ib) (Y8 ky a b n st0) st:=by
 obtain⟨h1,h2,h3,h4⟩:=id hJ;obtain⟨y,y1,y2,y3⟩:=cQ h3;unfold QU;refine wpS_bind (rL h0 λst1 h0=>?_);refine wpS_bind (bU y1 (wpS_bind (mE hL (h0.k.trans hk) (by omega) (by omega) (λi z hi hz=>m.pa z (iH hz)) (m.pb y y3) (λi j u v hij hj hu hv=>uI m.sa (by omega) hu hv) λk k1 k2 k3=>?_)));dsimp only;have k2:∀i z,i<k->a[ia+i]?=some z->le ky z y:=λi z hi hz=>by simpa using k2 i z hi hz
 have k3:∀i z,k<=i->i<a.size-ia->a[ia+i]?=some z->le ky y z:=λi z hi hn hz=>le_of_lt (by simpa using k3 i z hi hn hz)
 by_cases hk0:k > 0
 ·rw[Zo hk0]
  have hI2:MI ky a.toList b.toList (out++a.extract ia (ia+k)) (ia+k) ib:=by(refine h1.takeA m.sa (by rw[Array.length_toList];omega) (λz hz u hu=>?_) (by rw[Array.toList_append,mK,show ia+k-ia=k by omega]);obtain⟨j,hj,e⟩:=xF hz;exact le_trans (k2 j z hj e) (l7 m.sb y2 u hu))
  by_cases e1:(ia+k+1==a.size)=true
  ·rw[Zo e1];exact wpS_pure ⟨h0,.inl ⟨_,_,rfl,AE m hlast hI2 (by simpa using e1)⟩⟩
  ·rw[Zp e1];by_cases e2:(ia+k==a.size)=true
   ·rw[Zo e2];exact wpS_pure ⟨h0,.inl ⟨_,_,rfl,nH hI2 m.sa m.sb (.inl (by simpa using e2))⟩⟩
   ·rw[Zp e2]
    have:=cD e1
    have:=cD e2
    refine ID hL m hlast h0 hk ⟨hI2,by omega,h3,by rw[Array.size_append];omega⟩ λy' hy' u hu=>?_
    rw[y1] at hy';cases hy';obtain⟨j,hj,e⟩:=kJ hu;exact k3 (k+j) u (by omega) (by omega) (by rw[<- Nat.add_assoc];exact e)
 ·rw[Zp hk0];obtain rfl:k=0:=by omega
  refine ID hL m hlast h0 hk hJ λy' hy' u hu=>?_
  rw[y1] at hy';cases hy';obtain⟨j,hj,e⟩:=kJ hu;exact k3 j u (by omega) (by omega) e
theorem F6{st:SortSt}{Q:Array Keyed->SortSt->Prop}(hk:kindOf st=kd)(ha:0<a.size)(hb:0<b.size)(hfirst:∀x y,b[0]?=some y->a[0]?=some x->le ky y x)
  (h:∀z st',SameS st st'->fH ky a.toList b.toList z->Q z st'):wpS (model prog w) A E s (tG a b) Q st:=by
 rw[DF];refine wpS_bind (wpS_lift (wpAny_rule ⟨rfl, ?_⟩));obtain⟨y,y1,y2,y3⟩:=cQ hb;obtain⟨x,x1,x2,x3⟩:=cQ ha;refine wpS_bind (bU y1 ?_);have hI0:MI ky a.toList b.toList #[] 0 0:=⟨Nat.zero_le _,Nat.zero_le _,by simp,by simp,by simp,rfl⟩
 have hI:MI ky a.toList b.toList #[y] 0 1:=by(have e:=GZ (l:=b.toList) (i:=0) y2;refine hI0.takeB (k:=1) (ib:=0) m.sb (by rw[Array.length_toList];omega) (λz hz u hu=>?_) (by rw[e];rfl);rw[e] at hz;rw[ze.mp hz];exact le_trans (hfirst x y y1 x1) (l7 m.sa x2 u hu))
 by_cases e1:(1==b.size)=true
 ·rw[Zo e1];exact wpS_pure (h _ _ (.refl _) (nH hI m.sa m.sb (.inr (by simpa using e1))))
 ·rw[Zp e1];by_cases e2:(0+1==a.size)=true
  ·rw[Zo e2];exact wpS_pure (h _ _ (.refl _) (AE m hlast hI (by simpa using e2)))
  ·rw[Zp e2];have e1':=cD e1;have e2':=cD e2;have hJ0:Js ky a b 1 #[y] 0 1:=⟨hI,by omega,by omega,by simp⟩
   refine wpS_bind (wpS_get ?_)
   have full:∀{n:Nat} {out:Array Keyed} {ia ib:Nat},Js ky a b n out ia ib->n<a.size+b.size:=λhJ=>by
    have:=hJ.1.len
    have:=hJ.2.1
    have:=hJ.2.2.1
    have:=hJ.2.2.2
    omega
   refine wpS_bind (wpS_mono (wpS_forRange (I:=λi c st'=>SameS st st'/\∃out ia ib mg,c=(none,out,ia,ib,mg)/\Js ky a b (i+1) out ia ib)
    (Q:=λc st'=>SameS st st'/\∃z q,c=(some z,q)/\fH ky a.toList b.toList z) ?step ?fin ⟨.refl _,_,_,_,_,rfl,hJ0⟩) ?post)
   case fin =>
    rintro c st' ⟨_,out,ia,ib,mg,rfl,hJ⟩
    have:=full hJ
    omega
   case post =>
    rintro c st' ⟨hs,z,q,rfl,hg⟩
    exact wpS_pure (h z st' hs hg)
   case step =>
    rintro i c st' _ hi ⟨hs,out,ia,ib,mg,rfl,hJ⟩
    unfold loO;dsimp only
    refine wpS_bind (wpS_mono (wpS_forRange (I:=λj c st'=>SameS st st'/\∃out ia ib ac bc,c=(none,out,ia,ib,ac,bc)/\Js ky a b (i+1+j) out ia ib)
     (Q:=λc st'=>SameS st st'/\((∃z q,c=(some z,q)/\fH ky a.toList b.toList z)\/∃out ia ib ac bc,c=(none,out,ia,ib,ac,bc)/\Js ky a b (i+2) out ia ib)) ?step1 ?fin1 ⟨hs,_,_,_,_,_,rfl,hJ⟩) ?post1)
    case fin1 =>
     rintro c st' ⟨_,out,ia,ib,ac,bc,rfl,hJ⟩
     have:=full hJ
     omega
    case step1 =>
     rintro j c st' _ hj ⟨hs,hc⟩
     refine wpS_mono (XF hL m hlast hs hk hc) λr st2 hr=>?_
     obtain⟨hs2,hr⟩:=hr
     cases r with
     |done c' =>
      rcases hr with hr | ⟨out,ia,ib,ac,bc,rfl,hJ'⟩
      ·exact⟨hs2,.inl hr⟩
      ·exact⟨hs2,.inr ⟨_,_,_,_,_,rfl,hJ'.1,hJ'.2.1,hJ'.2.2.1,by have:=hJ'.2.2.2;omega⟩⟩
     |yield c'=>exact⟨hs2,hr⟩
    case post1 =>
     rintro c st' ⟨hs,hc⟩
     rcases hc with ⟨z,q,rfl,hg⟩ | ⟨out,ia,ib,ac,bc,rfl,hJ⟩
     ·exact wpS_pure ⟨hs,z,_,rfl,hg⟩
     ·dsimp only;refine wpS_bind (wpS_lift (wpAny_rule ⟨rfl, ?_⟩))
      refine wpS_bind (wpS_mono (wpS_forRange (I:=λj c st'=>SameS st st'/\∃out ia ib mg ac bc,c=(none,out,ia,ib,mg,ac,bc)/\Js ky a b (i+2+j) out ia ib)
       (Q:=λc st'=>SameS st st'/\((∃z q,c=(some z,q)/\fH ky a.toList b.toList z)\/∃out ia ib mg ac bc,c=(none,out,ia,ib,mg,ac,bc)/\Js ky a b (i+2) out ia ib)) ?step2 ?fin2 ⟨hs,_,_,_,_,_,_,rfl,hJ⟩) ?post2)
      case fin2 =>
       rintro c st' ⟨_,out,ia,ib,mg,ac,bc,rfl,hJ⟩
       have:=full hJ
       omega
      case step2 =>
       rintro j c st' _ hj ⟨hs,out,ia,ib,mg,ac,bc,rfl,hJ⟩
       unfold YG;dsimp only;split
       all_goals
        refine wpS_mono (aAP hL m hlast hs hk hJ) λr st2 hr=>?_
        obtain⟨hs2,hr⟩:=hr
        cases r with
        |done c' =>
         rcases hr with hr | ⟨out,ia,ib,mg,ac,bc,rfl,hJ'⟩
         ·exact⟨hs2,.inl hr⟩
         ·exact⟨hs2,.inr ⟨_,_,_,_,_,_,rfl,hJ'.1,hJ'.2.1,hJ'.2.2.1,by have:=hJ'.2.2.2;omega⟩⟩
        |yield c'=>exact⟨hs2,hr⟩
      case post2 =>
       rintro c st' ⟨hs,hc⟩
       rcases hc with ⟨z,q,rfl,hg⟩ | ⟨out,ia,ib,mg,ac,bc,rfl,hJ⟩
       ·exact wpS_pure ⟨hs,z,_,rfl,hg⟩
       ·dsimp only;exact wpS_bind (rL hs λst3 hs3=>wpS_pure ⟨hs3,_,_,_,_,rfl,hJ⟩)
end
abbrev H6:=Option (Array Keyed)×Nat×Nat×Array Keyed×Nat×Nat
abbrev H7:=Option (Array Keyed)×Nat×Nat×Array Keyed×Nat×Nat×Nat
abbrev H5:=Option (Array Keyed)×Nat×Nat×Array Keyed×Nat
def oP(a b out:Array Keyed)(na nb:Nat):Array Keyed:=a.extract 0 na++b.extract 0 nb++out.reverse
def uR(a b out:Array Keyed)(na nb:Nat):Array Keyed:=b.extract 0 nb++a.extract 0 na++out.reverse
noncomputable def yN(a b:Array Keyed)(mg:Nat)(c:H6):StateT SortSt Sem (ForInStep H6):=do
 let y <- elem' b (c.2.2.1-1)
 let x <- elem' a (c.2.1-1)
 let r <- lt' y x
 match r with
 |some aWins =>
  if aWins=true then do
   let v <- elem' a (c.2.1-1)
   if(c.2.1-1==0)=true then pure (.done (some (oP a b (c.2.2.2.1.push v) (c.2.1-1) c.2.2.1),c.2.1-1,c.2.2.1,c.2.2.2.1.push v,c.2.2.2.2.1+1,0))
   else if c.2.2.2.2.1+1 >= mg then pure (.done (none,c.2.1-1,c.2.2.1,c.2.2.2.1.push v,c.2.2.2.2.1+1,0))
   else pure (.yield (none,c.2.1-1,c.2.2.1,c.2.2.2.1.push v,c.2.2.2.2.1+1,0))
  else do
   let v <- elem' b (c.2.2.1-1)
   if(c.2.2.1-1==1)=true then pure (.done (some (uR a b (c.2.2.2.1.push v) c.2.1 (c.2.2.1-1)),c.2.1,c.2.2.1-1,c.2.2.2.1.push v,0,c.2.2.2.2.2+1))
   else if c.2.2.2.2.2+1 >= mg then pure (.done (none,c.2.1,c.2.2.1-1,c.2.2.2.1.push v,0,c.2.2.2.2.2+1))
   else pure (.yield (none,c.2.1,c.2.2.1-1,c.2.2.2.1.push v,0,c.2.2.2.2.2+1))
 |x=>pure (.done (some (oP a b c.2.2.2.1 c.2.1 c.2.2.1),c.2.1,c.2.2.1,c.2.2.2.1,c.2.2.2.2.1,c.2.2.2.2.2))
noncomputable def P7(a b:Array Keyed)(mg ac bc:Nat)(out:Array Keyed)(na nb:Nat):StateT SortSt Sem (ForInStep H7):=do
 let v <- elem' a (na-1)
 if(na-1==0)=true then pure (.done (some (oP a b (out.push v) (na-1) nb),na-1,nb,out.push v,mg,ac,bc))
 else if(decide (ac<7)&&decide (bc<7))=true then pure (.done (none,na-1,nb,out.push v,mg,ac,bc))
 else pure (.yield (none,na-1,nb,out.push v,mg,ac,bc))
noncomputable def C2(a b:Array Keyed)(mg ac bc:Nat)(out:Array Keyed)(na nb:Nat):StateT SortSt Sem (ForInStep H7):=do
 let v <- elem' b (nb-1)
 if(nb-1==1)=true then pure (.done (some (uR a b (out.push v) na (nb-1)),na,nb-1,out.push v,mg,ac,bc))
 else do
  let u <- elem' a (na-1)
  let r <- gM true u b 0 (nb-1) (nb-1-1)
  match r with
  |some at_ =>
   if nb-1-at_ > 0 then
    if(at_==1)=true then pure (.done (some (uR a b (out.push v++(b.extract at_ (nb-1)).reverse) na at_),na,at_,out.push v++(b.extract at_ (nb-1)).reverse,mg,ac,nb-1-at_))
    else if(at_==0)=true then pure (.done (some (oP a b (out.push v++(b.extract at_ (nb-1)).reverse) na at_),na,at_,out.push v++(b.extract at_ (nb-1)).reverse,mg,ac,nb-1-at_))
    else P7 a b mg ac (nb-1-at_) (out.push v++(b.extract at_ (nb-1)).reverse) na at_
   else P7 a b mg ac (nb-1-at_) (out.push v) na (nb-1)
  |x=>pure (.done (some (oP a b (out.push v) na (nb-1)),na,nb-1,out.push v,mg,ac,bc))
noncomputable def gZ(a b:Array Keyed)(mg ac bc:Nat)(out:Array Keyed)(na nb:Nat):StateT SortSt Sem (ForInStep H7):=do
 fM mg
 let y <- elem' b (nb-1)
 let r <- gM false y a 0 na (na-1)
 match r with
 |some at_ =>
  if na-at_ > 0 then
   if(at_==0)=true then pure (.done (some (oP a b (out++(a.extract at_ na).reverse) at_ nb),at_,nb,out++(a.extract at_ na).reverse,mg,na-at_,bc))
   else C2 a b mg (na-at_) bc (out++(a.extract at_ na).reverse) at_ nb
  else C2 a b mg (na-at_) bc out na nb
 |x=>pure (.done (some (oP a b out na nb),na,nb,out,mg,ac,bc))
noncomputable def hiG(a b:Array Keyed)(c:H7):StateT SortSt Sem (ForInStep H7) :=
 if c.2.2.2.2.1 > 1 then gZ a b (c.2.2.2.2.1-1) c.2.2.2.2.2.1 c.2.2.2.2.2.2 c.2.2.2.1 c.2.1 c.2.2.1 else gZ a b c.2.2.2.2.1 c.2.2.2.2.2.1 c.2.2.2.2.2.2 c.2.2.2.1 c.2.1 c.2.2.1
noncomputable def XU(a b:Array Keyed)(c:H5):StateT SortSt Sem (ForInStep H5):=do
 let r <- forIn [0:a.size+b.size] ((none,c.2.1,c.2.2.1,c.2.2.2.1,0,0):H6) λ_=>yN a b c.2.2.2.2
 match r.1 with
 |some z=>pure (.done (some z,r.2.1,r.2.2.1,r.2.2.2.1,c.2.2.2.2))
 |none=>do
  liftM (rule "list.sort.gallop")
  let q <- forIn [0:a.size+b.size] ((none,r.2.1,r.2.2.1,r.2.2.2.1,c.2.2.2.2+1,r.2.2.2.2.1,r.2.2.2.2.2):H7) λ_=>hiG a b
  match q.1 with
  |some z=>pure (.done (some z,q.2.1,q.2.2.1,q.2.2.2.1,q.2.2.2.2.1))
  |none=>do
   fM (q.2.2.2.2.1+1)
   pure (.yield (none,q.2.1,q.2.2.1,q.2.2.2.1,q.2.2.2.2.1+1))
theorem DK(a b:Array Keyed):tL a b=(do
 liftM (rule "list.sort.merge-hi")
 let v <- elem' a (a.size-1)
 if(a.size-1==0)=true then pure (oP a b #[v] (a.size-1) b.size)
 else if(b.size==1)=true then pure (uR a b #[v] (a.size-1) b.size)
 else do
  let st <- get
  let q <- forIn [0:a.size+b.size] ((none,a.size-1,b.size,#[v],gallopOf st):H5) λ_=>XU a b
  match q.1 with
  |some z=>pure z
  |none=>liftM (unsupported "internal:list.sort.merge-bound":Sem (Array Keyed))):=by
 show((liftM (rule "list.sort.merge-hi"):StateT SortSt Sem Unit)>>=_)=_;refine congrArg _ (funext λ_=>?_);show(elem' a (a.size-1)>>=_)=_;refine congrArg _ (funext λv=>?_);dsimp only;unfold oP uR;refine congrArg _ (congrArg _ ?_);show((get:StateT SortSt Sem SortSt)>>=_)=_;refine congrArg _ (funext λst=>?_);show((forIn [0:a.size+b.size] ((none,a.size-1,b.size,#[v],gallopOf st):H5) _)>>=_)=_;refine congr (congrArg _ (congrArg _ (funext λx=>funext λc=>?_))) ?_
 ·unfold XU;show((forIn [0:a.size+b.size] ((none,c.2.1,c.2.2.1,c.2.2.2.1,0,0):H6) λ_=>yN a b c.2.2.2.2)>>=_)=_;refine congrArg _ (funext λr=>?_);cases r.1
  ·show((liftM (rule "list.sort.gallop"):StateT SortSt Sem Unit)>>=_)=_;refine congrArg _ (funext λ_=>?_);show((forIn [0:a.size+b.size] ((none,r.2.1,r.2.2.1,r.2.2.2.1,c.2.2.2.2+1,r.2.2.2.2.1,r.2.2.2.2.2):H7) λ_=>hiG a b)>>=_)=_;refine congrArg _ (funext λq=>?_);obtain⟨q1,q2⟩:=q;cases q1<;>rfl
  ·rfl
 ·funext q
  obtain⟨q1,q2⟩:=q;cases q1<;>rfl
section
variable{O:KeyOrd}{ky:Keyed->O.α}
structure MH(ky:Keyed->O.α)(al bl:List Keyed)(out:Array Keyed)(na nb:Nat):Prop where
 ha:na<=al.length
 hb:nb<=bl.length
 perm:((al.take na++bl.take nb)++out.toList.reverse).Perm (al++bl)
 srt:cP ky out.toList.reverse
 high:∀x∈al.take na++bl.take nb,∀y∈out.toList,le ky x y
 len:out.size+(na+nb)=al.length+bl.length
theorem pZ(l:List Keyed){n n':Nat}(h:n'<=n):l.take n=l.take n'++(l.take n).drop n':=by
 have:=List.take_append_drop n' (l.take n)
 rw[List.take_take,Nat.min_eq_left h] at this;exact this.symm
theorem MH.takeA{al bl:List Keyed}{out out':Array Keyed}{na nb n':Nat}(h:MH ky al bl out na nb)(sa:cP ky al)(hn:n'<=na)(hle:∀x∈bl.take nb,∀y∈(al.take na).drop n',le ky x y)
  (ho:out'.toList.reverse=(al.take na).drop n'++out.toList.reverse):MH ky al bl out' n' nb:=by
 have sd:=sa.take na;rw[pZ al hn] at sd;obtain⟨s1,s2,s3⟩:=List.pairwise_append.mp sd
 have hl:out'.size=na-n'+out.size:=by
  have:=congrArg List.length ho
  simp only[List.length_reverse,Za,List.length_drop,List.length_take,Array.length_toList] at this
  have:=h.ha
  omega
 have mem':∀y,y∈out'.toList↔y∈(al.take na).drop n'\/y∈out.toList:=λy=>by(rw[<- List.mem_reverse,ho,zp,List.mem_reverse])
 refine⟨Zr hn h.ha,h.hb, ?_, ?_,λx hx y hy=>?_,by have:=h.len;omega⟩
 ·rw[ho]
  have:=h.perm
  rw[pZ al hn] at this;refine List.Perm.trans ?_ this;rw[<- List.append_assoc,List.append_assoc _ (bl.take nb)];refine List.Perm.append_right _ ?_;rw[List.append_assoc];exact List.Perm.append_left _ List.perm_append_comm
 ·rw[ho];refine List.pairwise_append.mpr ⟨s2,h.srt,λx hx y hy=>h.high x ?_ y (List.mem_reverse.mp hy)⟩;rw[pZ al hn];exact List.mem_append_left _ (List.mem_append_right _ hx)
 ·rcases(mem' y).mp hy with hy | hy
  ·rcases zp.mp hx with hx | hx
   ·exact s3 x hx y hy
   ·exact hle x hx y hy
  ·refine h.high x ?_ y hy;rw[pZ al hn];rcases zp.mp hx with hx | hx
   ·exact List.mem_append_left _ (List.mem_append_left _ hx)
   ·exact List.mem_append_right _ hx
theorem MH.takeB{al bl:List Keyed}{out out':Array Keyed}{na nb n':Nat}(h:MH ky al bl out na nb)(sb:cP ky bl)(hn:n'<=nb)(hle:∀x∈al.take na,∀y∈(bl.take nb).drop n',le ky x y)
  (ho:out'.toList.reverse=(bl.take nb).drop n'++out.toList.reverse):MH ky al bl out' na n':=by
 have sd:=sb.take nb;rw[pZ bl hn] at sd;obtain⟨s1,s2,s3⟩:=List.pairwise_append.mp sd
 have hl:out'.size=nb-n'+out.size:=by
  have:=congrArg List.length ho
  simp only[List.length_reverse,Za,List.length_drop,List.length_take,Array.length_toList] at this
  have:=h.hb
  omega
 have mem':∀y,y∈out'.toList↔y∈(bl.take nb).drop n'\/y∈out.toList:=λy=>by(rw[<- List.mem_reverse,ho,zp,List.mem_reverse])
 refine⟨h.ha,Zr hn h.hb, ?_, ?_,λx hx y hy=>?_,by have:=h.len;omega⟩
 ·rw[ho]
  have:=h.perm
  rw[pZ bl hn] at this;simpa[List.append_assoc] using this
 ·rw[ho];refine List.pairwise_append.mpr ⟨s2,h.srt,λx hx y hy=>h.high x ?_ y (List.mem_reverse.mp hy)⟩;rw[pZ bl hn];exact List.mem_append_right _ (List.mem_append_right _ hx)
 ·rcases(mem' y).mp hy with hy | hy
  ·rcases zp.mp hx with hx | hx
   ·exact hle x hx y hy
   ·exact s3 x hx y hy
  ·refine h.high x ?_ y hy;rw[pZ bl hn];rcases zp.mp hx with hx | hx
   ·exact List.mem_append_left _ hx
   ·exact List.mem_append_right _ (List.mem_append_left _ hx)
theorem z8{a:Array Keyed}{j:Nat}:(a.extract 0 j).toList=a.toList.take j:=by rw[mK,List.drop_zero,Nat.sub_zero]
theorem kN{a b out:Array Keyed}{na nb:Nat}(h:MH ky a.toList b.toList out na nb)(sa:cP ky a.toList)(sb:cP ky b.toList)(he:na=0\/nb=0):fH ky a.toList b.toList (oP a b out na nb):=by
 have e:(oP a b out na nb).toList=(a.toList.take na++b.toList.take nb)++out.toList.reverse:=by(unfold oP;rw[Array.toList_append,Array.toList_append,z8,z8,Array.toList_reverse])
 refine⟨by rw[e];exact h.perm, ?_⟩;rw[e];refine List.pairwise_append.mpr ⟨?_,h.srt,λx hx y hy=>h.high x hx y (List.mem_reverse.mp hy)⟩;rcases he with rfl | rfl
 ·rw[List.take_zero,List.nil_append];exact sb.take _
 ·rw[List.take_zero,List.append_nil];exact sa.take _
theorem L5{a b out:Array Keyed}{na nb:Nat}(h:MH ky a.toList b.toList out na nb)(sa:cP ky a.toList)(sb:cP ky b.toList)(hl:∀y∈b.toList.take nb,∀x∈a.toList,le ky y x):fH ky a.toList b.toList (uR a b out na nb):=by
 have e:(uR a b out na nb).toList=(b.toList.take nb++a.toList.take na)++out.toList.reverse:=by(unfold uR;rw[Array.toList_append,Array.toList_append,z8,z8,Array.toList_reverse])
 refine⟨by rw[e];exact(List.Perm.append_right _ List.perm_append_comm).trans h.perm, ?_⟩;rw[e];refine List.pairwise_append.mpr ⟨List.pairwise_append.mpr ⟨sb.take _,sa.take _,λy hy x hx=>hl y hy x (List.mem_of_mem_take hx)⟩,h.srt,λx hx y hy=>h.high x ?_ y (List.mem_reverse.mp hy)⟩;rcases zp.mp hx with hx | hx
 ·exact List.mem_append_right _ hx
 ·exact List.mem_append_left _ hx
theorem rJ{l:List Keyed}(hs:cP ky l){n:Nat}{x:Keyed}(hn:0<n)(hx:l[n-1]?=some x):∀y∈l.take n,le ky y x:=by
 intro y hy;obtain⟨j,e⟩:=List.mem_iff_getElem?.mp hy
 have hj:j<n:=by
  have:=(Zc.mp e).1
  rw[List.length_take] at this;omega
 rw[List.getElem?_take,Zo hj] at e;by_cases he:j=n-1
 ·rw[he,hx] at e;cases e;exact le_refl _
 ·obtain⟨h1,rfl⟩:=Zc.mp e;obtain⟨h2,rfl⟩:=Zc.mp hx;exact List.pairwise_iff_getElem.mp hs j (n-1) h1 h2 (by omega)
theorem F3{l:List Keyed}{n:Nat}{x:Keyed}(hn:0<n)(hx:l[n-1]?=some x):(l.take n).drop (n-1)=[x]:=by
 obtain⟨h2,h3⟩:=Zc.mp hx;rw[List.drop_take,show n-(n-1)=1 by omega,List.drop_eq_getElem_cons h2,h3];rfl
end
section
variable{prog:Program}{w:World}{A:Around}{E:Value->Shared->Prop}{s:Shared}
variable{O:KeyOrd}{ky:Keyed->O.α}{kd:SortKind}{P:Keyed->Prop}{a b:Array Keyed}
theorem tK{a:Array Keyed}{n n':Nat}{x:Keyed}(h:x∈(a.toList.take n).drop n'):∃j,n'<=j/\j<n/\a[j]?=some x:=by
 obtain⟨j,e⟩:=List.mem_iff_getElem?.mp h;rw[List.getElem?_drop] at e
 have hj:n'+j<n:=by
  have:=(Zc.mp e).1
  rw[List.length_take] at this;omega
 rw[List.getElem?_take,Zo hj,Array.getElem?_toList] at e;exact⟨n'+j,by omega,hj,e⟩
theorem kR{a:Array Keyed}{n:Nat}{x:Keyed}(h:x∈a.toList.take n):∃j,j<n/\a[j]?=some x:=by
 rw[<- List.drop_zero (l:=a.toList.take n)] at h;obtain⟨j,_,h1,h2⟩:=tK h;exact⟨j,h1,h2⟩
theorem EX{a:Array Keyed}{i j:Nat}:((a.extract i j).reverse).toList.reverse=(a.toList.take j).drop i:=by
 rw[Array.toList_reverse,List.reverse_reverse,mK,List.drop_take]
def Jh(ky:Keyed->O.α)(a b:Array Keyed)(n:Nat)(out:Array Keyed)(na nb:Nat):Prop:=MH ky a.toList b.toList out na nb/\0<na/\1<nb/\n<=out.size
theorem Jh.bd{n na nb:Nat}{out:Array Keyed}(h:Jh ky a b n out na nb):na<=a.size/\nb<=b.size:=by
 have h1:=h.1.ha;have h2:=h.1.hb;rw[Array.length_toList] at h1 h2;exact⟨h1,h2⟩
theorem Jh.pushA{n na nb:Nat}{out:Array Keyed}{v:Keyed}(m:ML ky P a b)(h:Jh ky a b n out na nb)(hv:a[na-1]?=some v)(hle:∀y∈b.toList.take nb,le ky y v):MH ky a.toList b.toList (out.push v) (na-1) nb:=by
 have e:=F3 (l:=a.toList) (n:=na) (x:=v) h.2.1 (by rw[Array.getElem?_toList];exact hv);refine h.1.takeA m.sa (by omega) (λx hx y hy=>?_) (by rw[Array.toList_push,List.reverse_append,e];rfl);rw[e] at hy;rw[ze.mp hy];exact hle x hx
theorem Jh.pushB{n na nb:Nat}{out:Array Keyed}{v:Keyed}(m:ML ky P a b)(h:Jh ky a b n out na nb)(hv:b[nb-1]?=some v)(hle:∀y∈a.toList.take na,le ky y v):MH ky a.toList b.toList (out.push v) na (nb-1):=by
 have e:=F3 (l:=b.toList) (n:=nb) (x:=v) (by have:=h.2.2.1;omega) (by rw[Array.getElem?_toList];exact hv);refine h.1.takeB m.sb (by omega) (λx hx y hy=>?_) (by rw[Array.toList_push,List.reverse_append,e];rfl);rw[e] at hy;rw[ze.mp hy];exact hle x hx
variable(hL:lU prog w A E s O ky kd P)(m:ML ky P a b)(hfirst:∀y,b[0]?=some y->∀x∈a.toList,le ky y x)
include hL m hfirst
omit hL in
theorem zW{out:Array Keyed}{na nb:Nat}(h:MH ky a.toList b.toList out na nb)(he:nb=1):fH ky a.toList b.toList (uR a b out na nb):=by
 refine L5 h m.sa m.sb λy hy x hx=>?_
 obtain⟨j,h1,h2⟩:=kR hy;obtain rfl:j=0:=by omega
 exact hfirst y h2 x hx
theorem aAB{st st0:SortSt}{mg n:Nat}{c:H6}(h0:SameS st0 st)(hk:kindOf st0=kd)(hc:∃out na nb ac bc,c=(none,na,nb,out,ac,bc)/\Jh ky a b n out na nb) :
  wpS (model prog w) A E s (yN a b mg c) (λr st'=>SameS st0 st'/\match r with
   |.done c'=>(∃z q,c'=(some z,q)/\fH ky a.toList b.toList z)\/∃out na nb ac bc,c'=(none,na,nb,out,ac,bc)/\Jh ky a b (n+1) out na nb
   |.yield c'=>∃out na nb ac bc,c'=(none,na,nb,out,ac,bc)/\Jh ky a b (n+1) out na nb) st:=by
 obtain⟨out,na,nb,ac,bc,rfl,h⟩:=hc;obtain⟨h1,h2,h3,h4⟩:=id h;obtain⟨g1,g2⟩:=h.bd;obtain⟨y,y1,y2,y3⟩:=cQ (a:=b) (show nb-1<b.size by omega);obtain⟨x,x1,x2,x3⟩:=cQ (a:=a) (show na-1<a.size by omega);unfold yN;dsimp only;refine wpS_bind (bU y1 (wpS_bind (bU x1 (wpS_bind (hL st y x _ (h0.k.trans hk) (m.pb y y3) (m.pa x x3) ?_)))))
 cases hb:O.blt (ky y) (ky x) with
 |true =>
  dsimp only;rw[Zo rfl];refine wpS_bind (bU x1 ?_);have hI:=h.pushA m x1 λz hz=>le_trans (rJ m.sb (by omega) y2 z hz) (le_of_lt hb)
  by_cases e1:(na-1==0)=true
  ·rw[Zo e1];exact wpS_pure ⟨h0,.inl ⟨_,_,rfl,kN hI m.sa m.sb (.inl (by simpa using e1))⟩⟩
  ·rw[Zp e1];have hJ:Jh ky a b (n+1) (out.push x) (na-1) nb:=⟨hI,by have:=cD e1;omega,h3,by rw[Array.size_push];omega⟩
   split
   ·exact wpS_pure ⟨h0,.inr ⟨_,_,_,_,_,rfl,hJ⟩⟩
   ·exact wpS_pure ⟨h0,_,_,_,_,_,rfl,hJ⟩
 |false =>
  dsimp only;rw[Zp (by simp)];refine wpS_bind (bU y1 ?_);have hI:=h.pushB m y1 λz hz=>le_trans (rJ m.sa h2 x2 z hz) (show le ky x y from hb)
  by_cases e1:(nb-1==1)=true
  ·rw[Zo e1];exact wpS_pure ⟨h0,.inl ⟨_,_,rfl,zW m hfirst hI (by simpa using e1)⟩⟩
  ·rw[Zp e1];have hJ:Jh ky a b (n+1) (out.push y) na (nb-1):=⟨hI,h2,by have:=cD e1;omega,by rw[Array.size_push];omega⟩
   split
   ·exact wpS_pure ⟨h0,.inr ⟨_,_,_,_,_,rfl,hJ⟩⟩
   ·exact wpS_pure ⟨h0,_,_,_,_,_,rfl,hJ⟩
def ZS(ky:Keyed->O.α)(a b:Array Keyed)(n:Nat)(st0:SortSt)(r:ForInStep H7)(st':SortSt):Prop:=SameS st0 st'/\match r with
   |.done c'=>(∃z q,c'=(some z,q)/\fH ky a.toList b.toList z)\/∃out na nb mg ac bc,c'=(none,na,nb,out,mg,ac,bc)/\Jh ky a b (n+1) out na nb
   |.yield c'=>∃out na nb mg ac bc,c'=(none,na,nb,out,mg,ac,bc)/\Jh ky a b (n+1) out na nb
theorem IP{st st0:SortSt}{mg ac bc n na nb:Nat}{out:Array Keyed}(h0:SameS st0 st)(hJ:Jh ky a b n out na nb)(hle:∀x,a[na-1]?=some x->∀y∈b.toList.take nb,le ky y x) :
  wpS (model prog w) A E s (P7 a b mg ac bc out na nb) (ZS ky a b n st0) st:=by
 obtain⟨h1,h2,h3,h4⟩:=id hJ;obtain⟨g1,g2⟩:=hJ.bd;obtain⟨x,x1,x2,x3⟩:=cQ (a:=a) (show na-1<a.size by omega);unfold P7;refine wpS_bind (bU x1 ?_);have hI:=hJ.pushA m x1 (hle x x1);by_cases e1:(na-1==0)=true
 ·rw[Zo e1];exact wpS_pure ⟨h0,.inl ⟨_,_,rfl,kN hI m.sa m.sb (.inl (by simpa using e1))⟩⟩
 ·rw[Zp e1];have hJ:Jh ky a b (n+1) (out.push x) (na-1) nb:=⟨hI,by have:=cD e1;omega,h3,by rw[Array.size_push];omega⟩
  split
  ·exact wpS_pure ⟨h0,.inr ⟨_,_,_,_,_,_,rfl,hJ⟩⟩
  ·exact wpS_pure ⟨h0,_,_,_,_,_,_,rfl,hJ⟩
theorem KR{st st0:SortSt}{mg ac bc n na nb:Nat}{out:Array Keyed}(h0:SameS st0 st)(hk:kindOf st0=kd)(hJ:Jh ky a b n out na nb)(hle:∀x,b[nb-1]?=some x->∀y∈a.toList.take na,le ky y x) :
  wpS (model prog w) A E s (C2 a b mg ac bc out na nb) (ZS ky a b n st0) st:=by
 obtain⟨h1,h2,h3,h4⟩:=id hJ;obtain⟨g1,g2⟩:=hJ.bd;obtain⟨y,y1,y2,y3⟩:=cQ (a:=b) (show nb-1<b.size by omega);obtain⟨x,x1,x2,x3⟩:=cQ (a:=a) (show na-1<a.size by omega);unfold C2;refine wpS_bind (bU y1 ?_);have hI:=hJ.pushB m y1 (hle y y1);by_cases e1:(nb-1==1)=true
 ·rw[Zo e1];exact wpS_pure ⟨h0,.inl ⟨_,_,rfl,zW m hfirst hI (by simpa using e1)⟩⟩
 ·rw[Zp e1];have hb1:1<nb-1:=by have:=cD e1;omega
  refine wpS_bind (bU x1 (wpS_bind (mE hL (h0.k.trans hk) (by omega) (by omega) (λi z hi hz=>m.pb z (iH hz)) (m.pa x x3) (λi j u v hij hj hu hv=>uI m.sb (by omega) hu hv) λk k1 k2 k3=>?_)));dsimp only;have k2:∀i z,i<k->b[i]?=some z->le ky z x:=λi z hi hz=>le_of_lt (by simpa using k2 i z hi (by rw[Nat.zero_add];exact hz))
  have k3:∀i z,k<=i->i<nb-1->b[i]?=some z->le ky x z:=λi z hi hn hz=>by simpa using k3 i z hi hn (by rw[Nat.zero_add];exact hz)
  by_cases hk0:nb-1-k > 0
  ·rw[Zo hk0]
   have hI2:MH ky a.toList b.toList (out.push y++(b.extract k (nb-1)).reverse) na k:=by(refine hI.takeB m.sb (by omega) (λz hz u hu=>?_) (by rw[Array.toList_append,List.reverse_append,EX]);obtain⟨j,hj1,hj2,e⟩:=tK hu;exact le_trans (rJ m.sa h2 x2 z hz) (k3 j u hj1 hj2 e))
   by_cases e2:(k==1)=true
   ·rw[Zo e2];exact wpS_pure ⟨h0,.inl ⟨_,_,rfl,zW m hfirst hI2 (by simpa using e2)⟩⟩
   ·rw[Zp e2];by_cases e3:(k==0)=true
    ·rw[Zo e3];exact wpS_pure ⟨h0,.inl ⟨_,_,rfl,kN hI2 m.sa m.sb (.inr (by simpa using e3))⟩⟩
    ·rw[Zp e3]
     have:=cD e2
     have:=cD e3
     refine IP hL m hfirst h0 ⟨hI2,h2,by omega, ?_⟩ λx' hx' u hu=>?_
     ·rw[Array.size_append,Array.size_push];omega
     ·rw[x1] at hx';cases hx';obtain⟨j,hj,e⟩:=kR hu;exact k2 j u hj e
  ·rw[Zp hk0];refine IP hL m hfirst h0 ⟨hI,h2,hb1,by rw[Array.size_push];omega⟩ λx' hx' u hu=>?_
   rw[x1] at hx';cases hx';obtain⟨j,hj,e⟩:=kR hu;exact k2 j u (by omega) e
theorem Z7{st st0:SortSt}{mg ac bc n na nb:Nat}{out:Array Keyed}(h0:SameS st0 st)(hk:kindOf st0=kd)(hJ:Jh ky a b n out na nb) :
  wpS (model prog w) A E s (gZ a b mg ac bc out na nb) (ZS ky a b n st0) st:=by
 obtain⟨h1,h2,h3,h4⟩:=id hJ;obtain⟨g1,g2⟩:=hJ.bd;obtain⟨y,y1,y2,y3⟩:=cQ (a:=b) (show nb-1<b.size by omega);unfold gZ;refine wpS_bind (rL h0 λst1 h0=>?_);refine wpS_bind (bU y1 (wpS_bind (mE hL (h0.k.trans hk) (by omega) (by omega) (λi z hi hz=>m.pa z (iH hz)) (m.pb y y3) (λi j u v hij hj hu hv=>uI m.sa (by omega) hu hv) λk k1 k2 k3=>?_)));dsimp only;have k2:∀i z,i<k->a[i]?=some z->le ky z y:=λi z hi hz=>by simpa using k2 i z hi (by rw[Nat.zero_add];exact hz)
 have k3:∀i z,k<=i->i<na->a[i]?=some z->le ky y z:=λi z hi hn hz=>le_of_lt (by simpa using k3 i z hi hn (by rw[Nat.zero_add];exact hz))
 by_cases hk0:na-k > 0
 ·rw[Zo hk0]
  have hI2:MH ky a.toList b.toList (out++(a.extract k na).reverse) k nb:=by(refine h1.takeA m.sa (by omega) (λz hz u hu=>?_) (by rw[Array.toList_append,List.reverse_append,EX]);obtain⟨j,hj1,hj2,e⟩:=tK hu;exact le_trans (rJ m.sb (by omega) y2 z hz) (k3 j u hj1 hj2 e))
  by_cases e1:(k==0)=true
  ·rw[Zo e1];exact wpS_pure ⟨h0,.inl ⟨_,_,rfl,kN hI2 m.sa m.sb (.inl (by simpa using e1))⟩⟩
  ·rw[Zp e1]
   have:=cD e1
   refine KR hL m hfirst h0 hk ⟨hI2,by omega,h3,by rw[Array.size_append];omega⟩ λy' hy' u hu=>?_
   rw[y1] at hy';cases hy';obtain⟨j,hj,e⟩:=kR hu;exact k2 j u hj e
 ·rw[Zp hk0];refine KR hL m hfirst h0 hk hJ λy' hy' u hu=>?_
  rw[y1] at hy';cases hy';obtain⟨j,hj,e⟩:=kR hu;exact k2 j u (by omega) e
theorem F0{st:SortSt}{Q:Array Keyed->SortSt->Prop}(hk:kindOf st=kd)(ha:0<a.size)(hb:0<b.size)(hlast:∀y∈b.toList,∀x,a[a.size-1]?=some x->le ky y x)
  (h:∀z st',SameS st st'->fH ky a.toList b.toList z->Q z st'):wpS (model prog w) A E s (tL a b) Q st:=by
 rw[DK];refine wpS_bind (wpS_lift (wpAny_rule ⟨rfl, ?_⟩));obtain⟨x,x1,x2,x3⟩:=cQ (a:=a) (show a.size-1<a.size by omega);refine wpS_bind (bU x1 ?_);have hI0:MH ky a.toList b.toList #[] a.size b.size:=⟨by simp,by simp,by rw[zf (by simp),zf (by simp)];simp,by simp,by simp,by simp⟩
 have hI:MH ky a.toList b.toList #[x] (a.size-1) b.size:=by(have e:=F3 (l:=a.toList) (n:=a.size) ha x2;refine hI0.takeA m.sa (by omega) (λz hz u hu=>?_) (by rw[e];rfl);rw[e] at hu;rw[ze.mp hu];exact hlast z (List.mem_of_mem_take hz) x x1)
 by_cases e1:(a.size-1==0)=true
 ·rw[Zo e1];exact wpS_pure (h _ _ (.refl _) (kN hI m.sa m.sb (.inl (by simpa using e1))))
 ·rw[Zp e1];by_cases e2:(b.size==1)=true
  ·rw[Zo e2];exact wpS_pure (h _ _ (.refl _) (zW m hfirst hI (by simpa using e2)))
  ·rw[Zp e2];have e1':=cD e1;have e2':=cD e2;have hJ0:Jh ky a b 1 #[x] (a.size-1) b.size:=⟨hI,by omega,by omega,by simp⟩
   refine wpS_bind (wpS_get ?_)
   have full:∀{n:Nat} {out:Array Keyed} {na nb:Nat},Jh ky a b n out na nb->n<a.size+b.size:=λhJ=>by
    have h1:=hJ.1.len;rw[Array.length_toList,Array.length_toList] at h1
    have:=hJ.2.1
    have:=hJ.2.2.1
    have:=hJ.2.2.2
    omega
   refine wpS_bind (wpS_mono (wpS_forRange (I:=λi c st'=>SameS st st'/\∃out na nb mg,c=(none,na,nb,out,mg)/\Jh ky a b (i+1) out na nb)
    (Q:=λc st'=>SameS st st'/\∃z q,c=(some z,q)/\fH ky a.toList b.toList z) ?step ?fin ⟨.refl _,_,_,_,_,rfl,hJ0⟩) ?post)
   case fin =>
    rintro c st' ⟨_,out,na,nb,mg,rfl,hJ⟩
    have:=full hJ
    omega
   case post =>
    rintro c st' ⟨hs,z,q,rfl,hg⟩
    exact wpS_pure (h z st' hs hg)
   case step =>
    rintro i c st' _ hi ⟨hs,out,na,nb,mg,rfl,hJ⟩
    unfold XU;dsimp only
    refine wpS_bind (wpS_mono (wpS_forRange (I:=λj c st'=>SameS st st'/\∃out na nb ac bc,c=(none,na,nb,out,ac,bc)/\Jh ky a b (i+1+j) out na nb)
     (Q:=λc st'=>SameS st st'/\((∃z q,c=(some z,q)/\fH ky a.toList b.toList z)\/∃out na nb ac bc,c=(none,na,nb,out,ac,bc)/\Jh ky a b (i+2) out na nb)) ?step1 ?fin1 ⟨hs,_,_,_,_,_,rfl,hJ⟩) ?post1)
    case fin1 =>
     rintro c st' ⟨_,out,na,nb,ac,bc,rfl,hJ⟩
     have:=full hJ
     omega
    case step1 =>
     rintro j c st' _ hj ⟨hs,hc⟩
     refine wpS_mono (aAB hL m hfirst hs hk hc) λr st2 hr=>?_
     obtain⟨hs2,hr⟩:=hr
     cases r with
     |done c' =>
      rcases hr with hr | ⟨out,na,nb,ac,bc,rfl,hJ'⟩
      ·exact⟨hs2,.inl hr⟩
      ·exact⟨hs2,.inr ⟨_,_,_,_,_,rfl,hJ'.1,hJ'.2.1,hJ'.2.2.1,by have:=hJ'.2.2.2;omega⟩⟩
     |yield c'=>exact⟨hs2,hr⟩
    case post1 =>
     rintro c st' ⟨hs,hc⟩
     rcases hc with ⟨z,q,rfl,hg⟩ | ⟨out,na,nb,ac,bc,rfl,hJ⟩
     ·exact wpS_pure ⟨hs,z,_,rfl,hg⟩
     ·dsimp only;refine wpS_bind (wpS_lift (wpAny_rule ⟨rfl, ?_⟩))
      refine wpS_bind (wpS_mono (wpS_forRange (I:=λj c st'=>SameS st st'/\∃out na nb mg ac bc,c=(none,na,nb,out,mg,ac,bc)/\Jh ky a b (i+2+j) out na nb)
       (Q:=λc st'=>SameS st st'/\((∃z q,c=(some z,q)/\fH ky a.toList b.toList z)\/∃out na nb mg ac bc,c=(none,na,nb,out,mg,ac,bc)/\Jh ky a b (i+2) out na nb)) ?step2 ?fin2 ⟨hs,_,_,_,_,_,_,rfl,hJ⟩) ?post2)
      case fin2 =>
       rintro c st' ⟨_,out,na,nb,mg,ac,bc,rfl,hJ⟩
       have:=full hJ
       omega
      case step2 =>
       rintro j c st' _ hj ⟨hs,out,na,nb,mg,ac,bc,rfl,hJ⟩
       unfold hiG;dsimp only;split
       all_goals
        refine wpS_mono (Z7 hL m hfirst hs hk hJ) λr st2 hr=>?_
        obtain⟨hs2,hr⟩:=hr
        cases r with
        |done c' =>
         rcases hr with hr | ⟨out,na,nb,mg,ac,bc,rfl,hJ'⟩
         ·exact⟨hs2,.inl hr⟩
         ·exact⟨hs2,.inr ⟨_,_,_,_,_,_,rfl,hJ'.1,hJ'.2.1,hJ'.2.2.1,by have:=hJ'.2.2.2;omega⟩⟩
        |yield c'=>exact⟨hs2,hr⟩
      case post2 =>
       rintro c st' ⟨hs,hc⟩
       rcases hc with ⟨z,q,rfl,hg⟩ | ⟨out,na,nb,mg,ac,bc,rfl,hJ⟩
       ·exact wpS_pure ⟨hs,z,_,rfl,hg⟩
       ·dsimp only;exact wpS_bind (rL hs λst3 hs3=>wpS_pure ⟨hs3,_,_,_,_,rfl,hJ⟩)
end
abbrev T2:=Option (Option Nat)×Nat
noncomputable def yQ(lo:Nat)(c:T2):StateT SortSt Sem (ForInStep T2):=do
 let r <- ltAt' (lo+c.2) (lo+c.2-1)
 match r with
 |some v=>if v=true then pure (.done (none,c.2)) else pure (.yield (none,c.2+1))
 |_=>pure (.done (some none,c.2))
noncomputable def Q9(lo:Nat)(c:T3):StateT SortSt Sem (ForInStep T3):=do
 let r <- ltAt' (lo+c.2.1) (lo+c.2.1-1)
 match r with
 |some v =>
  if v=true then
   if c.2.2 > 0 then do
    reverseSlice' (lo+c.2.1-(c.2.2+1)) (lo+c.2.1)
    pure (.yield (none,c.2.1+1,0))
   else pure (.yield (none,c.2.1+1,0))
  else do
   let q <- ltAt' (lo+c.2.1-1) (lo+c.2.1)
   match q with
   |some u=>if u=true then pure (.done (none,c.2.1,c.2.2)) else pure (.yield (none,c.2.1+1,c.2.2+1))
   |_=>pure (.done (some none,c.2.1,c.2.2))
 |_=>pure (.done (some none,c.2.1,c.2.2))
noncomputable def tF(lo n nrem:Nat):StateT SortSt Sem (Option Nat):=do
 reverseSlice' lo (lo+n)
 let c <- forIn [n:nrem] ((none,n):T2) λ_=>yQ lo
 match c.1 with
 |some r=>pure r
 |none=>pure (some c.2)
noncomputable def DW(lo n nrem:Nat):StateT SortSt Sem (Option Nat):=do
 liftM (rule "list.sort.descending-run")
 let c <- forIn [n+1:nrem] ((none,n+1,0):T3) λ_=>Q9 lo
 match c.1 with
 |some r=>pure r
 |none =>
  if c.2.2 > 0 then do
   reverseSlice' (lo+c.2.1-(c.2.2+1)) (lo+c.2.1)
   tF lo c.2.1 nrem
  else tF lo c.2.1 nrem
theorem P8{lo n nrem:Nat}{f:Unit->T2->StateT SortSt Sem (Option Nat)}(h:∀u c,f u (none,c)=pure (some c))(h2:∀u r c,f u (some r,c)=pure r) :
  (reverseSlice' lo (lo+n)>>=λu=>(forIn [n:nrem] ((none,n):T2) λ_=>yQ lo)>>=f u)=tF lo n nrem:=by
 unfold tF;refine congrArg _ (funext λu=>congrArg _ (funext λc=>?_));obtain⟨c1,c2⟩:=c;cases c1
 ·exact h u c2
 ·exact h2 u _ c2
theorem DE(lo nrem:Nat):countRun' lo nrem=(do
  let c <- forIn [1:nrem] ((none,1):T2) λ_=>yQ lo
  match c.1 with
  |some r=>pure r
  |none =>
   if(c.2==nrem)=true then pure (some c.2)
   else if c.2 > 1 then do
    let r <- ltAt' lo (lo+c.2-1)
    match r with
    |some true=>pure (some c.2)
    |some false=>do
     reverseSlice' lo (lo+c.2)
     DW lo c.2 nrem
    |none=>pure none
   else DW lo c.2 nrem):=by
 show((forIn [1:nrem] ((none,1):T2) λ_=>yQ lo)>>=_)=_;refine congrArg _ (funext λc=>?_);obtain⟨c1,n⟩:=c
 cases c1 with
 |some r=>rfl
 |none =>
  dsimp only
  have key:∀{f:Unit->T3->StateT SortSt Sem (Option Nat)},(∀u m q,f u (none,m,q)=if q > 0 then(reverseSlice' (lo+m-(q+1)) (lo+m)>>=λ_=>tF lo m nrem) else tF lo m nrem)->(∀u r c,f u (some r,c)=pure r) ->
    ((liftM (rule "list.sort.descending-run"):StateT SortSt Sem Unit)>>=λu=>(forIn [n+1:nrem] ((none,n+1,0):T3) λ_=>Q9 lo)>>=f u)=DW lo n nrem:=by
   intro f h1 h2;unfold DW;refine congrArg _ (funext λu=>congrArg _ (funext λc=>?_));obtain⟨c1,m,q⟩:=c;cases c1
   ·exact h1 u m q
   ·exact h2 u _ _
  have tail:∀{m q:Nat} {f:Unit->T2->StateT SortSt Sem (Option Nat)} {g:Unit->Unit->T2->StateT SortSt Sem (Option Nat)},(∀u c,f u (none,c)=pure (some c))->(∀u r c,f u (some r,c)=pure r)->(∀v u c,g v u (none,c)=pure (some c))->(∀v u r c,g v u (some r,c)=pure r) ->
    (if q > 0 then(reverseSlice' (lo+m-(q+1)) (lo+m)>>=λv=>(reverseSlice' lo (lo+m)>>=λu=>(forIn [m:nrem] ((none,m):T2) λ_=>yQ lo)>>=g v u)) else(reverseSlice' lo (lo+m)>>=λu=>(forIn [m:nrem] ((none,m):T2) λ_=>yQ lo)>>=f u)) =
    if q > 0 then(reverseSlice' (lo+m-(q+1)) (lo+m)>>=λ_=>tF lo m nrem) else tF lo m nrem:=by
   intro m q f g h1 h2 h3 h4;split
   ·exact congrArg _ (funext λv=>P8 (h3 v) (h4 v))
   ·exact P8 h1 h2
  refine congrArg _ ?_;split
  ·show(ltAt' lo (lo+n-1)>>=_)=_;refine congrArg _ (funext λr=>?_)
   cases r with
   |none=>rfl
   |some v =>
    cases v with
    |true=>rfl
    |false =>
     show(reverseSlice' lo (lo+n)>>=_)=_;refine congrArg _ (funext λ_=>?_);exact key (λu m q=>tail (λ_ _=>rfl) (λ_ _ _=>rfl) (λ_ _ _=>rfl) (λ_ _ _ _=>rfl)) (λ_ _ _=>rfl)
  ·exact key (λu m q=>tail (λ_ _=>rfl) (λ_ _ _=>rfl) (λ_ _ _=>rfl) (λ_ _ _ _=>rfl)) (λ_ _ _=>rfl)
section
variable{O:KeyOrd}{ky:Keyed->O.α}
def KY(ky:Keyed->O.α)(xs:Array Keyed)(k:Nat):O.α:=ky ((xs[k]?).getD default)
theorem wI{xs ys:Array Keyed}{i j:Nat}(h:xs[i]?=ys[j]?):KY ky xs i=KY ky ys j:=by unfold KY;rw[h]
def Up(ky:Keyed->O.α)(xs:Array Keyed)(lo n:Nat):Prop:=∀i j,i<=j->j<n->O.kle (KY ky xs (lo+i)) (KY ky xs (lo+j))
def Dw(ky:Keyed->O.α)(xs:Array Keyed)(lo n:Nat):Prop:=∀i j,i<=j->j<n->O.kle (KY ky xs (lo+j)) (KY ky xs (lo+i))
theorem AJ{xs:Array Keyed}{i j:Nat}(hj:j<=xs.size)(k:Nat):KY ky (mirror xs i j ((j-i) / 2)) k=if i<=k/\k<j then KY ky xs (i+j-1-k) else KY ky xs k:=by
 have e:=getElem?_mirror_all (i:=i) hj k;split
 ·rename_i c;rw[Zo c] at e;exact wI e
 ·rename_i c;rw[Zp c] at e;exact wI e
theorem kO{xs:Array Keyed}{i j:Nat}(hj:j<=xs.size)(he:∀k,i<=k->k<j->KY ky xs k=KY ky xs (j-1))(k:Nat):KY ky (mirror xs i j ((j-i) / 2)) k=KY ky xs k:=by
 rw[AJ hj];split
 ·rename_i c;rw[he _ (by omega) (by omega),he k (by omega) (by omega)]
 ·rfl
structure Fr(lo hi:Nat)(st0 st:SortSt):Prop where
 k:kindOf st=kindOf st0
 p:pendingOf st=pendingOf st0
 f:failedOf st=failedOf st0
 perm:(arrOf st).Perm (arrOf st0)
 out:∀i,i<lo\/hi<=i->(arrOf st)[i]?=(arrOf st0)[i]?
theorem Fr.refl{lo hi:Nat}(st:SortSt):Fr lo hi st st:=⟨rfl,rfl,rfl,Array.Perm.refl _,λ_ _=>rfl⟩
theorem Fr.sz{lo hi:Nat}{st0 st:SortSt}(h:Fr lo hi st0 st):(arrOf st).size=(arrOf st0).size:=h.perm.size_eq
theorem Fr.mir{lo hi i j:Nat}{st0 st:SortSt}(h:Fr lo hi st0 st)(hi':lo<=i)(hj:j<=hi)(hs:hi<=(arrOf st0).size):Fr lo hi st0 (setArr st (mirror (arrOf st) i j ((j-i) / 2))):=by
 refine⟨h.k,h.p,h.f,(mirror_perm _ _ _ _).trans h.perm,λq hq=>?_⟩;show(mirror (arrOf st) i j ((j-i) / 2))[q]?=_;rw[getElem?_mirror_all (by rw[h.sz];omega),Zp (by omega)];exact h.out q hq
end
section
variable{prog:Program}{w:World}{A:Around}{E:Value->Shared->Prop}{s:Shared}
variable{O:KeyOrd}{ky:Keyed->O.α}{kd:SortKind}{P:Keyed->Prop}{lo hi:Nat}{st0:SortSt}
variable(hL:lU prog w A E s O ky kd P)(hk:kindOf st0=kd)(hP:∀x∈(arrOf st0).toList,P x)
include hL hk hP
theorem nB{st:SortSt}{i j:Nat}{Q:Option Bool->SortSt->Prop}(hF:Fr lo hi st0 st)(hi':i<(arrOf st0).size)(hj:j<(arrOf st0).size)(h:Q (some (O.blt (KY ky (arrOf st) i) (KY ky (arrOf st) j))) st):wpS (model prog w) A E s (ltAt' i j) Q st:=by
 obtain⟨x,x1,x2,x3⟩:=cQ (a:=arrOf st) (show i<(arrOf st).size by rw[hF.sz];exact hi');obtain⟨y,y1,y2,y3⟩:=cQ (a:=arrOf st) (show j<(arrOf st).size by rw[hF.sz];exact hj);have mem:∀z∈(arrOf st).toList,P z:=λz hz=>hP z ((Array.perm_iff_toList_perm.mp hF.perm).mem_iff.mp hz)
 have e1:KY ky (arrOf st) i=ky x:=by unfold KY;rw[x1];rfl
 have e2:KY ky (arrOf st) j=ky y:=by unfold KY;rw[y1];rfl
 rw[e1,e2] at h;rw[ltAt'_eq];refine wpS_bind (wpS_get ?_);exact wpS_bind (bU x1 (wpS_bind (bU y1 (hL st x y Q (hF.k.trans hk) (mem x x3) (mem y y3) h))))
variable(hsz:hi<=(arrOf st0).size)
include hsz
omit hsz in
theorem Up.grow{xs:Array Keyed}{n:Nat}(hu:Up ky xs lo n)(h:O.kle (KY ky xs (lo+n-1)) (KY ky xs (lo+n)))(hn:1<=n):Up ky xs lo (n+1):=by
 intro i j hij hj;by_cases e:j<n
 ·exact hu i j hij e
 ·obtain rfl:j=n:=by omega
  by_cases e2:i=j
  ·rw[e2];exact KeyOrd.kle_refl _
  ·refine KeyOrd.kle_trans (hu i (j-1) (by omega) (by omega)) ?_;rw[show lo+(j-1)=lo+j-1 by omega];exact h
theorem LM{st:SortSt}{n nrem:Nat}{Q:T2->SortSt->Prop}(hF:Fr lo hi st0 st)(hr:lo+nrem=hi)(h1:1<=n)(h2:n<=nrem)(hu:Up ky (arrOf st) lo n)
  (h:∀m,n<=m->m<=nrem->Up ky (arrOf st) lo m->(m=nrem\/O.klt (KY ky (arrOf st) (lo+m)) (KY ky (arrOf st) (lo+m-1)))->Q (none,m) st) :
  wpS (model prog w) A E s (forIn [n:nrem] ((none,n):T2) λ_=>yQ lo) Q st:=by
 refine wpS_forRange (I:=λx c st'=>st'=st/\c=(none,x)/\Up ky (arrOf st) lo x) ?step ?fin ⟨rfl,rfl,hu⟩
 case fin =>
  rintro c st' ⟨rfl,rfl,hu'⟩
  rw[Nat.max_eq_right h2] at hu' ⊢;exact h nrem h2 (Zq _) hu' (.inl rfl)
 case step =>
  rintro x c st' hx1 hx2 ⟨rfl,rfl,hu'⟩
  unfold yQ;dsimp only;refine wpS_bind (nB hL hk hP hF (by omega) (by omega) ?_)
  cases hb:O.blt (KY ky (arrOf st') (lo+x)) (KY ky (arrOf st') (lo+x-1)) with
  |true=>exact wpS_pure (h x hx1 (by omega) hu' (.inr hb))
  |false=>exact wpS_pure ⟨rfl,rfl,Up.grow hL hk hP hu' hb (by omega)⟩
theorem QB{st:SortSt}{n nrem:Nat}{Q:Option Nat->SortSt->Prop}(hF:Fr lo hi st0 st)(hr:lo+nrem=hi)(h1:1<=n)(h2:n<=nrem)(hd:Dw ky (arrOf st) lo n)
  (h:∀m st',Fr lo hi st0 st'->1<=m->m<=nrem->Up ky (arrOf st') lo m->Q (some m) st'):wpS (model prog w) A E s (tF lo n nrem) Q st:=by
 unfold tF;refine wpS_bind (wpS_reverse ?_);have hF':=hF.mir (i:=lo) (j:=lo+n) (Zq _) (by omega) hsz;refine wpS_bind (LM hL hk hP hsz hF' hr h1 h2 ?_ λm m1 m2 m3 _=>wpS_pure (h m _ hF' (by omega) m2 m3));intro i j hij hj;show O.kle (KY ky (mirror (arrOf st) lo (lo+n) _) (lo+i)) (KY ky (mirror (arrOf st) lo (lo+n) _) (lo+j));have hz:lo+n<=(arrOf st).size:=by rw[hF.sz];omega
 rw[AJ hz,AJ hz,Zo (by omega),Zo (by omega),show lo+(lo+n)-1-(lo+i)=lo+(n-1-i) by omega,show lo+(lo+n)-1-(lo+j)=lo+(n-1-j) by omega];exact hd _ _ (by omega) (by omega)
theorem R5{st:SortSt}{n nrem:Nat}{Q:T3->SortSt->Prop}(hF:Fr lo hi st0 st)(hr:lo+nrem=hi)(h1:1<=n)(h2:n<=nrem)(hd:Dw ky (arrOf st) lo n)
  (h:∀m q st',Fr lo hi st0 st'->n<=m->m<=nrem->Dw ky (arrOf st') lo m->q+1<=m->(∀k,lo+m-(q+1)<=k->k<lo+m->KY ky (arrOf st') k=KY ky (arrOf st') (lo+m-1))->Q (none,m,q) st') :
  wpS (model prog w) A E s (forIn [n:nrem] ((none,n,0):T3) λ_=>Q9 lo) Q st:=by
 refine wpS_forRange (I:=λx c st'=>∃q,c=(none,x,q)/\Fr lo hi st0 st'/\Dw ky (arrOf st') lo x/\q+1<=x/\∀k,lo+x-(q+1)<=k->k<lo+x->KY ky (arrOf st') k=KY ky (arrOf st') (lo+x-1)) ?step ?fin
  ⟨0,rfl,hF,hd,by omega,λk k1 k2=>by rw[show k=lo+n-1 by omega]⟩
 case fin =>
  rintro c st' ⟨q,rfl,hF',hd',hq,he⟩
  rw[Nat.max_eq_right h2] at hd' hq he ⊢;exact h nrem q st' hF' h2 (Zq _) hd' hq he
 case step =>
  rintro x c st' hx1 hx2 ⟨q,rfl,hF',hd',hq,he⟩
  unfold Q9;dsimp only;have hz:lo+x<=(arrOf st').size:=by rw[hF'.sz];omega
  refine wpS_bind (nB hL hk hP hF' (by omega) (by omega) ?_)
  cases hb:O.blt (KY ky (arrOf st') (lo+x)) (KY ky (arrOf st') (lo+x-1)) with
  |true =>
   have step:∀xs:Array Keyed,(∀k,KY ky xs k=KY ky (arrOf st') k)->Dw ky xs lo (x+1):=λxs hxs i j hij hj=>by
    rw[hxs,hxs];by_cases e:j<x
    ·exact hd' i j hij e
    ·obtain rfl:j=x:=by omega
     by_cases e2:i=j
     ·rw[e2];exact KeyOrd.kle_refl _
     ·refine KeyOrd.kle_trans (KeyOrd.kle_of_klt hb) ?_;rw[show lo+j-1=lo+(j-1) by omega];exact hd' i (j-1) (by omega) (by omega)
   have one:∀xs:Array Keyed,∀k,lo+(x+1)-(0+1)<=k->k<lo+(x+1)->KY ky xs k=KY ky xs (lo+(x+1)-1):=λxs k k1 k2=>by rw[show k=lo+(x+1)-1 by omega]
   dsimp only;rw[Zo rfl];by_cases hq0:q > 0
   ·rw[Zo hq0];refine wpS_bind (wpS_reverse (wpS_pure ⟨0,rfl,hF'.mir (by omega) (by omega) hsz,step _ (kO hz he),by omega,one _⟩))
   ·rw[Zp hq0];exact wpS_pure ⟨0,rfl,hF',step _ λ_=>rfl,by omega,one _⟩
  |false =>
   dsimp only;rw[Zp (by simp)];refine wpS_bind (nB hL hk hP hF' (by omega) (by omega) ?_)
   cases hb2:O.blt (KY ky (arrOf st') (lo+x-1)) (KY ky (arrOf st') (lo+x)) with
   |true=>exact wpS_pure (h x q st' hF' hx1 (by omega) hd' hq he)
   |false =>
    have ee:KY ky (arrOf st') (lo+x)=KY ky (arrOf st') (lo+x-1):=KeyOrd.kle_antisymm hb2 hb;refine wpS_pure ⟨q+1,rfl,hF',λi j hij hj=>?_,by omega,λk k1 k2=>?_⟩
    ·by_cases e:j<x
     ·exact hd' i j hij e
     ·obtain rfl:j=x:=by omega
      by_cases e2:i=j
      ·rw[e2];exact KeyOrd.kle_refl _
      ·rw[ee,show lo+j-1=lo+(j-1) by omega];exact hd' i (j-1) (by omega) (by omega)
    ·rw[show lo+(x+1)-1=lo+x by omega,ee];by_cases e:k=lo+x
     ·rw[e,ee]
     ·exact he k (by omega) (by omega)
theorem QR{st:SortSt}{n nrem:Nat}{Q:Option Nat->SortSt->Prop}(hF:Fr lo hi st0 st)(hr:lo+nrem=hi)(h2:n+1<=nrem)(hd:Dw ky (arrOf st) lo (n+1))
  (h:∀m st',Fr lo hi st0 st'->1<=m->m<=nrem->Up ky (arrOf st') lo m->Q (some m) st'):wpS (model prog w) A E s (DW lo n nrem) Q st:=by
 unfold DW;refine wpS_bind (wpS_lift (wpAny_rule ⟨rfl, ?_⟩));refine wpS_bind (R5 hL hk hP hsz hF hr (by omega) h2 hd λm q st' hF' m1 m2 m3 m4 m5=>?_);dsimp only;have hz:lo+m<=(arrOf st').size:=by rw[hF'.sz];omega
 split
 ·refine wpS_bind (wpS_reverse (QB hL hk hP hsz (hF'.mir (by omega) (by omega) hsz) hr (by omega) m2 ?_ h));intro i j hij hj;show O.kle (KY ky (mirror (arrOf st') _ _ _) _) (KY ky (mirror (arrOf st') _ _ _) _);rw[kO hz m5,kO hz m5];exact m3 i j hij hj
 ·exact QB hL hk hP hsz hF' hr (by omega) m2 m3 h
theorem DH{st:SortSt}{nrem:Nat}{Q:Option Nat->SortSt->Prop}(hF:Fr lo hi st0 st)(hr:lo+nrem=hi)(h1:1<=nrem)
  (h:∀m st',Fr lo hi st0 st'->1<=m->m<=nrem->Up ky (arrOf st') lo m->Q (some m) st'):wpS (model prog w) A E s (countRun' lo nrem) Q st:=by
 rw[DE];refine wpS_bind (LM hL hk hP hsz hF hr (Zq 1) h1 (λi j hij hj=>by rw[show i=j by omega];exact KeyOrd.kle_refl _) λn n1 n2 hu hor=>?_);dsimp only;by_cases e:(n==nrem)=true
 ·rw[Zo e];exact wpS_pure (h n st hF n1 n2 hu)
 ·rw[Zp e];have e':=cD e;have hlt:=hor.resolve_left e';by_cases e2:n > 1
  ·rw[Zo e2];refine wpS_bind (nB hL hk hP hF (by omega) (by omega) ?_)
   cases hb:O.blt (KY ky (arrOf st) lo) (KY ky (arrOf st) (lo+n-1)) with
   |true=>exact wpS_pure (h n st hF n1 n2 hu)
   |false =>
    dsimp only;have hz:lo+n<=(arrOf st).size:=by rw[hF.sz];omega
    have hall:∀k,lo<=k->k<lo+n->KY ky (arrOf st) k=KY ky (arrOf st) (lo+n-1):=λk k1 k2=>by(have a1:=hu 0 (k-lo) (by omega) (by omega);have a2:=hu (k-lo) (n-1) (by omega) (by omega);rw[show lo+(k-lo)=k by omega] at a1 a2;rw[show lo+(n-1)=lo+n-1 by omega] at a2;exact KeyOrd.kle_antisymm a2 (KeyOrd.kle_trans hb a1))
    refine wpS_bind (wpS_reverse (QR hL hk hP hsz (hF.mir (Zq _) (by omega) hsz) hr (by omega) ?_ h));intro i j hij hj;show O.kle (KY ky (mirror (arrOf st) _ _ _) _) (KY ky (mirror (arrOf st) _ _ _) _);rw[kO hz hall,kO hz hall];by_cases ej:j<n
    ·rw[hall (lo+i) (by omega) (by omega),hall (lo+j) (by omega) (by omega)];exact KeyOrd.kle_refl _
    ·obtain rfl:j=n:=by omega
     by_cases ei:i=j
     ·rw[ei];exact KeyOrd.kle_refl _
     ·rw[hall (lo+i) (by omega) (by omega)];exact KeyOrd.kle_of_klt hlt
  ·rw[Zp e2];obtain rfl:n=1:=by omega
   refine QR hL hk hP hsz hF hr (by omega) (λi j hij hj=>?_) h;by_cases ei:i=j
   ·rw[ei];exact KeyOrd.kle_refl _
   ·obtain rfl:i=0:=by omega
    obtain rfl:j=1:=by omega
    exact KeyOrd.kle_of_klt hlt
end
section
variable{O:KeyOrd}{ky:Keyed->O.α}
theorem aAl{xs:Array Keyed}{src d:Nat}(hs:src<xs.size)(hd:d<=src)(k:Nat) :
  KY ky (bubble xs src d) k=if k=src-d then KY ky xs src else if src-d<k/\k<=src then KY ky xs (k-1) else KY ky xs k:=by
 have e:=getElem?_bubble hs d hd k;split
 ·rename_i c;rw[Zo c] at e;exact wI e
 ·rename_i c;rw[Zp c] at e;split
  ·rename_i c2;rw[Zo c2] at e;exact wI e
  ·rename_i c2;rw[Zp c2] at e;exact wI e
theorem DV{xs:Array Keyed}{lo k l:Nat}(hz:lo+k<xs.size)(b1:l<=k)(i:Nat):KY ky (bubble xs (lo+k) (lo+k-(lo+l))) (lo+i)=if i=l then KY ky xs (lo+k) else if l<i/\i<=k then KY ky xs (lo+(i-1)) else KY ky xs (lo+i):=by
 rw[Nat.add_sub_add_left,aAl hz (Zr (Nat.sub_le k l) (Nat.le_add_left k lo))];clear hz;have e:lo+k-(k-l)=lo+l:=by omega
 rw[e];by_cases h1:i=l
 ·subst h1;rw[Zo rfl,Zo rfl]
 ·rw[Zp (λz=>h1 (Nat.add_left_cancel z)),Zp h1];by_cases h2:l<i/\i<=k
  ·rw[Zo ⟨Nat.add_lt_add_left h2.1 lo,Nat.add_le_add_left h2.2 lo⟩,Zo h2,Nat.add_sub_assoc (Nat.lt_of_le_of_lt (Nat.zero_le _) h2.1)]
  ·rw[Zp (λz=>h2 ⟨Nat.lt_of_add_lt_add_left z.1,Nat.le_of_add_le_add_left z.2⟩),Zp h2]
theorem xJ{l j k:Nat}(h:l<j)(hj:j<k+1):j-1<k:=Zl (Nat.sub_lt (Nat.lt_of_le_of_lt (Nat.zero_le _) h) Nat.one_pos) (Nat.le_of_lt_succ hj)
theorem ZI{xs:Array Keyed}{lo k l:Nat}(hz:lo+k<xs.size)(b1:l<=k)(f2:Up ky xs lo k)(b2:∀i,i<l->O.kle (KY ky xs (lo+i)) (KY ky xs (lo+k)))(b3:∀i,l<=i->i<k->O.klt (KY ky xs (lo+k)) (KY ky xs (lo+i))):Up ky (bubble xs (lo+k) (lo+k-(lo+l))) lo (k+1):=by
 intro i j hij hj;rw[DV hz b1,DV hz b1];clear hz;rcases Nat.lt_trichotomy i l with h | rfl | h
 ·rw[Zp (Zz h),Zp (λz=>Nat.lt_asymm h z.1)];rcases Nat.lt_trichotomy j l with g | rfl | g
  ·rw[Zp (Zz g),Zp (λz=>Nat.lt_asymm g z.1)];exact f2 i j hij (Zl g b1)
  ·rw[Zo rfl];exact b2 i h
  ·rw[Zp (Nat.ne_of_gt g),Zo ⟨g,Nat.le_of_lt_succ hj⟩];exact f2 i (j-1) (Nat.le_sub_one_of_lt (Nat.lt_trans h g)) (xJ g hj)
 ·rw[Zo rfl];rcases Nat.eq_or_lt_of_le hij with rfl | g
  ·rw[Zo rfl];exact KeyOrd.kle_refl _
  ·rw[Zp (Nat.ne_of_gt g),Zo ⟨g,Nat.le_of_lt_succ hj⟩];exact KeyOrd.kle_of_klt (b3 _ (Nat.le_sub_one_of_lt g) (xJ g hj))
 ·have g:l<j:=Zl h hij;rw[Zp (Nat.ne_of_gt h),Zo ⟨h,Zr hij (Nat.le_of_lt_succ hj)⟩,Zp (Nat.ne_of_gt g),Zo ⟨g,Nat.le_of_lt_succ hj⟩];exact f2 (i-1) (j-1) (Nat.sub_le_sub_right hij 1) (xJ g hj)
theorem Fr.bub{lo hi src d:Nat}{st0 st:SortSt}(h:Fr lo hi st0 st)(h1:lo<=src-d)(h2:src<hi)(hd:d<=src)(hs:hi<=(arrOf st0).size):Fr lo hi st0 (setArr st (bubble (arrOf st) src d)):=by
 refine⟨h.k,h.p,h.f,(bubble_perm _ _ _).trans h.perm,λq hq=>?_⟩;show(bubble (arrOf st) src d)[q]?=_;rw[getElem?_bubble (by rw[h.sz];omega) d hd,Zp (by omega),Zp (by omega)];exact h.out q hq
end
section
variable{prog:Program}{w:World}{A:Around}{E:Value->Shared->Prop}{s:Shared}
variable{O:KeyOrd}{ky:Keyed->O.α}{kd:SortKind}{P:Keyed->Prop}{lo hi:Nat}{st0:SortSt}
variable(hL:lU prog w A E s O ky kd P)(hk:kindOf st0=kd)(hP:∀x∈(arrOf st0).toList,P x)(hsz:hi<=(arrOf st0).size)
include hL hk hP hsz
theorem JP{st:SortSt}{n ok:Nat}{Q:Bool->SortSt->Prop}(hF:Fr lo hi st0 st)(hn:lo+n<=hi)(hok:ok<=n)(hu:Up ky (arrOf st) lo ok)
  (h:∀st',Fr lo hi st0 st'->Up ky (arrOf st') lo n->Q true st'):wpS (model prog w) A E s (binarySort' lo n ok) Q st:=by
 rw[binarySort'_eq];refine wpS_bind (wpS_mono (wpS_forRange (I:=λk c st'=>c=(none,())/\Fr lo hi st0 st'/\Up ky (arrOf st') lo (min k n)) (Q:=λc st'=>c=(none,())/\Fr lo hi st0 st'/\Up ky (arrOf st') lo n) ?turn ?last ?b0) ?behind)
 case behind =>
  rintro c st' ⟨rfl,f1,f2⟩
  exact wpS_pure (h st' f1 f2)
 case b0 =>
  refine⟨rfl,hF,λi j hij hj=>?_⟩;by_cases e:ok=0
  ·rw[show i=j by omega];exact KeyOrd.kle_refl _
  ·exact hu i j hij (by omega)
 case last =>
  rintro c st' ⟨rfl,f1,f2⟩
  rw[show min (max (max ok 1) n) n=n by omega] at f2;exact⟨rfl,f1,f2⟩
 case turn =>
  rintro k c st' k1 k2 ⟨rfl,f1,f2⟩
  rw[Nat.min_eq_left (by omega)] at f2
  refine wpS_bind (wpS_mono (wpS_forRange (I:=λx c u=>u=st'/\∃l r,c=(none,l,r)/\l<=r/\r<=k/\r-l<=k-x/\(∀i,i<l->O.kle (KY ky (arrOf st') (lo+i)) (KY ky (arrOf st') (lo+k)))/\∀i,r<=i->i<k->O.klt (KY ky (arrOf st') (lo+k)) (KY ky (arrOf st') (lo+i)))
   (Q:=λc u=>u=st'/\∃l r,c=(none,l,r)/\l<=k/\(∀i,i<l->O.kle (KY ky (arrOf st') (lo+i)) (KY ky (arrOf st') (lo+k)))/\∀i,l<=i->i<k->O.klt (KY ky (arrOf st') (lo+k)) (KY ky (arrOf st') (lo+i))) ?turn2 ?last2 ?start2) ?behind2)
  case start2=>exact⟨rfl,0,k,rfl,Nat.zero_le _,Zq _,Zq _,λi hi=>by omega,λi a b=>by omega⟩
  case last2 =>
   rintro c u ⟨rfl,l,r,rfl,a1,a2,a3,a4,a5⟩
   obtain rfl:l=r:=by omega
   exact⟨rfl,l,l,rfl,a2,a4,a5⟩
  case turn2 =>
   rintro x c u _ hx ⟨rfl,l,r,rfl,a1,a2,a3,a4,a5⟩
   dsimp only;by_cases e:l >= r
   ·rw[Zo e];obtain rfl:l=r:=by omega
    exact wpS_pure ⟨rfl,l,l,rfl,a2,a4,a5⟩
   ·rw[Zp e];refine wpS_bind (nB hL hk hP f1 (by omega) (by omega) ?_)
    cases hb:O.blt (KY ky (arrOf u) (lo+k)) (KY ky (arrOf u) (lo+(l+r) / 2)) with
    |true =>
     dsimp only;rw[Zo rfl];exact wpS_pure ⟨rfl,l,(l+r) / 2,rfl,by omega,by omega,by omega,a4,λi b1 b2=>KeyOrd.klt_of_klt_of_kle hb (f2 _ _ b1 b2)⟩
    |false =>
     dsimp only;rw[Zp (by simp)];exact wpS_pure ⟨rfl,(l+r) / 2+1,r,rfl,by omega,a2,by omega,λi b1=>KeyOrd.kle_trans (f2 i ((l+r) / 2) (by omega) (by omega)) hb,a5⟩
  case behind2 =>
   rintro c u ⟨rfl,l,r,rfl,b1,b2,b3⟩
   show wpS _ _ _ _ (moveDown' (lo+k) (lo+l)>>=λ_=>pure (ForInStep.yield (none,()))) _ _;rw[moveDown'_eq];refine wpS_bind (wpS_modify (wpS_pure ⟨rfl, ?_, ?_⟩))
   ·clear b2 b3 f2;exact f1.bub (by omega) (by omega) (by omega) hsz
   ·rw[show min (k+1) n=k+1 by clear b2 b3 b1 hok hn hsz f1 f2 hF hu;omega];exact ZI (by rw[f1.sz];clear b1 b2 b3 f2 hok;omega) b1 f2 b2 b3
end
noncomputable def WM(arr:Array Keyed)(off:Nat)(l:List Keyed):Array Keyed:=l.zipIdx.foldl (λa p=>a.setIfInBounds (off+p.2) p.1) arr
noncomputable def RG(sa:Nat)(z:Array Keyed):StateT SortSt Sem Bool:=do
 modify λs=>setArr s (WM (arrOf s) sa z.toList)
 let s <- get
 pure (failedOf s).isNone
noncomputable def RM(arr:Array Keyed)(sa na sb nb:Nat):StateT SortSt Sem Bool:=do
 let y <- elem' arr sb
 let r <- gM false y arr sa na 0
 match r with
 |some k =>
  if(na-k==0)=true then pure true
  else do
   let x <- elem' arr (sa+k+(na-k)-1)
   let r <- gM true x arr sb nb (nb-1)
   match r with
   |some m =>
    if(m==0)=true then pure true
    else if na-k<=m then do
     let z <- tG (arr.extract (sa+k) sb) (arr.extract sb (sb+m))
     RG (sa+k) z
    else do
     let z <- tL (arr.extract (sa+k) sb) (arr.extract sb (sb+m))
     RG (sa+k) z
   |none=>pure false
 |none=>pure false
section
variable{prog:Program}{w:World}{A:Around}{E:Value->Shared->Prop}{s:Shared}
theorem C7{st:SortSt}{i sa na pw sb nb q:Nat}{Q:Bool->SortSt->Prop}(h1:(pendingOf st)[i]?=some (sa,na,pw))(h2:(pendingOf st)[i+1]?=some (sb,nb,q))
  (h:wpS (model prog w) A E s (RM (arrOf st) sa na sb nb) Q (setPending st (((pendingOf st).setIfInBounds i (sa,na+nb,pw)).eraseIdxIfInBounds (i+1)))):wpS (model prog w) A E s (mergeAt' i) Q st:=by
 show wpS (model prog w) A E s ((get:StateT SortSt Sem SortSt)>>=_) Q st;refine wpS_bind (wpS_get ?_);dsimp only;rw[h1,h2];dsimp only;unfold wpS at h ⊢;have e:∀{m m':StateT SortSt Sem Bool},m=m'->∀u:SortSt,m.run u=m'.run u:=λh u=>by rw[h]
 refine cast (congrArg (λx:Sem (Bool×SortSt)=>wpAny (model prog w) A x (λr s'=>s'=s/\Q r.1 r.2) E s) ?_) h;show _=(StateT.run (set _>>=_) st);rw[StateT.run_bind,StateT.run_set,pure_bind];refine e ?_ _;unfold RM;refine congrArg _ (funext λy=>congrArg _ (funext λr=>?_))
 cases r with
 |none=>rfl
 |some k =>
  dsimp only;refine congrArg _ ?_;refine congrArg _ (funext λx=>congrArg _ (funext λr=>?_))
  cases r with
  |none=>rfl
  |some m =>
   dsimp only;refine congrArg _ ?_;split
   ·rfl
   ·rfl
end
theorem KH:∀(l:List Keyed) (n:Nat) (arr:Array Keyed) (off:Nat),((l.zipIdx n).foldl (λa p=>a.setIfInBounds (off+p.2) p.1) arr).size=arr.size /\
  (off+n+l.length<=arr.size->∀k:Nat,((l.zipIdx n).foldl (λa p=>a.setIfInBounds (off+p.2) p.1) arr)[k]?=if off+n<=k/\k<off+n+l.length then l[k-(off+n)]? else arr[k]?)
 |[],n,arr,off=>⟨rfl,λ_ k=>by rw[Zp (by rw[List.length_nil];omega)];rfl⟩
 |x::l,n,arr,off=>by
  have ih:=KH l (n+1) (arr.setIfInBounds (off+n) x) off;refine⟨ih.1.trans (by simp),λhz k=>?_⟩;rw[Zk] at hz;have h2:=ih.2 (by simp;omega) k;show((l.zipIdx (n+1)).foldl _ (arr.setIfInBounds (off+n) x))[k]?=_;rw[h2,Zk];by_cases c:off+(n+1)<=k/\k<off+(n+1)+l.length
  ·rw[Zo c,Zo (by omega),show k-(off+n)=(k-(off+(n+1)))+1 by omega,zr]
  ·rw[Zp c];by_cases e:k=off+n
   ·subst e;rw[Zo (by omega),Nat.sub_self,zt,Array.getElem?_setIfInBounds,Zo rfl,Zo (by omega)]
   ·rw[Zp (by omega),Array.getElem?_setIfInBounds,Zp (by omega)]
theorem OW{arr:Array Keyed}{off:Nat}{l:List Keyed}(h:off+l.length<=arr.size):(WM arr off l).toList=arr.toList.take off++(l++arr.toList.drop (off+l.length)):=by
 have e:=(KH l 0 arr off).2 (by omega);have h1:arr.toList.length=arr.size:=Array.length_toList;refine List.ext_getElem? λk=>?_
 rw[Array.getElem?_toList];show((l.zipIdx 0).foldl _ arr)[k]?=_;rw[e k,Nat.add_zero];by_cases c1:k<off
 ·rw[Zp (by omega),List.getElem?_append_left (by rw[List.length_take];omega),List.getElem?_take,Zo c1,Array.getElem?_toList]
 ·rw[List.getElem?_append_right (by rw[List.length_take];omega),List.length_take,Nat.min_eq_left (by omega)];by_cases c2:k<off+l.length
  ·rw[Zo (by omega),List.getElem?_append_left (by omega)]
  ·rw[Zp (by omega),List.getElem?_append_right (by omega),List.getElem?_drop,Array.getElem?_toList];congr 1;omega
def bF(l:List Keyed)(s n:Nat):List Keyed:=(l.drop s).take n
theorem dR(l:List Keyed)(s a b:Nat):bF l s (a+b)=bF l s a++bF l (s+a) b:=by
 unfold bF;rw[List.take_add,List.drop_drop]
theorem vZ(l:List Keyed)(s n:Nat):l=l.take s++(bF l s n++l.drop (s+n)):=by
 unfold bF;rw[<- List.drop_drop,List.take_append_drop,List.take_append_drop]
section
variable{O:KeyOrd}{ky:Keyed->O.α}
theorem iK{a:Array Keyed}{s n:Nat}{x:Keyed}(h:x∈bF a.toList s n):∃j,j<n/\a[s+j]?=some x:=xF h
theorem uJ{a:Array Keyed}{s n:Nat}(h:cP ky (bF a.toList s n)){i j:Nat}{x y:Keyed}(hij:i<j)(hj:j<n)(hx:a[s+i]?=some x)(hy:a[s+j]?=some y):le ky x y:=by
 have e1:(bF a.toList s n)[i]?=some x:=by unfold bF;rw[List.getElem?_take,Zo (by omega),List.getElem?_drop,Array.getElem?_toList];exact hx
 have e2:(bF a.toList s n)[j]?=some y:=by unfold bF;rw[List.getElem?_take,Zo hj,List.getElem?_drop,Array.getElem?_toList];exact hy
 obtain⟨h1,rfl⟩:=Zc.mp e1;obtain⟨h2,rfl⟩:=Zc.mp e2;exact List.pairwise_iff_getElem.mp h i j h1 h2 hij
theorem EV{a:Array Keyed}{i j:Nat}:(a.extract i j).toList=bF a.toList i (j-i):=mK
end
section
variable{prog:Program}{w:World}{A:Around}{E:Value->Shared->Prop}{s:Shared}
variable{O:KeyOrd}{ky:Keyed->O.α}{kd:SortKind}{P:Keyed->Prop}
structure Mg(ky:Keyed->O.α)(l l':List Keyed)(s n:Nat):Prop where
 ex:∃M,l'=l.take s++(M++l.drop (s+n))/\M.Perm (bF l s n)/\cP ky M
theorem aAW{st:SortSt}{arr:Array Keyed}{sa na nb:Nat}{Q:Bool->SortSt->Prop}(hL:lU prog w A E s O ky kd P)(hk:kindOf st=kd)(ha:arrOf st=arr)(hf:failedOf st=none)(hP:∀x∈arr.toList,P x)
  (h1:1<=na) (h2:1<=nb) (hz:sa+na+nb<=arr.size) (s1:cP ky (bF arr.toList sa na)) (s2:cP ky (bF arr.toList (sa+na) nb))
  (h:∀st',kindOf st'=kd->pendingOf st'=pendingOf st->failedOf st'=none->Mg ky arr.toList (arrOf st').toList sa (na+nb)->Q true st'):wpS (model prog w) A E s (RM arr sa na (sa+na) nb) Q st:=by
 obtain⟨y,y1,y2,y3⟩:=cQ (a:=arr) (show sa+na<arr.size by omega);have same:cP ky (bF arr.toList sa (na+nb))->Q true st:=λhs=>h st hk rfl hf ⟨_,by rw[ha];exact vZ _ _ _,List.Perm.refl _,hs⟩
 have all:∀x∈bF arr.toList sa na,P x:=λx hx=>hP x (List.mem_of_mem_drop (List.mem_of_mem_take hx))
 have hB:∀z∈bF arr.toList (sa+na) nb,le ky y z:=λz hz'=>by
  obtain⟨j,j1,j2⟩:=iK hz';by_cases e:j=0
  ·subst e;rw[Nat.add_zero,y1] at j2;cases j2;exact le_refl _
  ·exact uJ s2 (i:=0) (j:=j) (by omega) j1 y1 j2
 unfold RM;refine wpS_bind (bU y1 (wpS_bind (mE hL hk (by omega) (by omega) (λi x hi hx=>hP x (iH hx)) (hP y y3) (λi j u v hij hj hu hv=>uJ s1 hij hj hu hv) λk k1 k2 k3=>?_)));dsimp only;have k2:∀i z,i<k->arr[sa+i]?=some z->le ky z y:=λi z hi hz=>by simpa using k2 i z hi hz
 have k3:∀i z,k<=i->i<na->arr[sa+i]?=some z->le ky y z:=λi z hi hn hz=>le_of_lt (by simpa using k3 i z hi hn hz)
 by_cases e1:(na-k==0)=true
 ·rw[Zo e1];refine wpS_pure (same ?_);have e1:na-k=0:=by simpa using e1
  rw[dR];refine List.pairwise_append.mpr ⟨s1,s2,λu hu v hv=>?_⟩;obtain⟨j,j1,j2⟩:=iK hu;exact le_trans (k2 j u (by omega) j2) (hB v hv)
 ·rw[Zp e1];have e1':=cD e1;rw[show sa+k+(na-k)=sa+na from by rw[Nat.add_assoc,Nat.add_sub_of_le k1]];obtain⟨x,x1,x2,x3⟩:=cQ (a:=arr) (show sa+na-1<arr.size by omega)
  have hA:∀u∈bF arr.toList sa na,le ky u x:=λu hu=>by
   obtain⟨j,j1,j2⟩:=iK hu;by_cases e:j=na-1
   ·subst e;rw[show sa+(na-1)=sa+na-1 by omega,x1] at j2;cases j2;exact le_refl _
   ·exact uJ s1 (i:=j) (j:=na-1) (by omega) (by omega) j2 (by rw[show sa+(na-1)=sa+na-1 by omega];exact x1)
  refine wpS_bind (bU x1 (wpS_bind (mE hL hk (by omega) (by omega) (λi x hi hx=>hP x (iH hx)) (hP x x3) (λi j u v hij hj hu hv=>uJ s2 hij hj hu hv) λm m1 m2 m3=>?_)));dsimp only;have m2:∀i z,i<m->arr[sa+na+i]?=some z->le ky z x:=λi z hi hz=>le_of_lt (by simpa using m2 i z hi hz)
  have m3:∀i z,m<=i->i<nb->arr[sa+na+i]?=some z->le ky x z:=λi z hi hn hz=>by simpa using m3 i z hi hn hz
  by_cases e2:(m==0)=true
  ·rw[Zo e2];refine wpS_pure (same ?_);have e2:m=0:=by simpa using e2
   rw[dR];refine List.pairwise_append.mpr ⟨s1,s2,λu hu v hv=>?_⟩;obtain⟨j,j1,j2⟩:=iK hv;exact le_trans (hA u hu) (m3 j v (by omega) j1 j2)
  ·rw[Zp e2];have e2':=cD e2;have eX:(arr.extract (sa+k) (sa+na)).toList=bF arr.toList (sa+k) (na-k):=by rw[EV,Nat.add_sub_add_left]
   have eY:(arr.extract (sa+na) (sa+na+m)).toList=bF arr.toList (sa+na) m:=by rw[EV,Nat.add_sub_cancel_left]
   have sA:=s1;rw[<- Nat.add_sub_of_le k1,dR] at sA;obtain⟨t1,t2,t3⟩:=List.pairwise_append.mp sA;have sB:=s2;rw[<- Nat.add_sub_of_le m1,dR] at sB;obtain⟨u1,u2,u3⟩:=List.pairwise_append.mp sB
   have atX:∀t v,(arr.extract (sa+k) (sa+na))[t]?=some v->t<na-k/\arr[sa+k+t]?=some v:=λt v hv=>by
    have e:bF arr.toList (sa+k) (na-k)=_:=eX.symm;rw[<- Array.getElem?_toList,eX] at hv;unfold bF at hv;rw[List.getElem?_take] at hv;split at hv
    ·rw[List.getElem?_drop,Array.getElem?_toList] at hv;exact⟨‹_›,hv⟩
    ·cases hv
   have atY:∀t v,(arr.extract (sa+na) (sa+na+m))[t]?=some v->t<m/\arr[sa+na+t]?=some v:=λt v hv=>by
    rw[<- Array.getElem?_toList,eY] at hv;unfold bF at hv;rw[List.getElem?_take] at hv;split at hv
    ·rw[List.getElem?_drop,Array.getElem?_toList] at hv;exact⟨‹_›,hv⟩
    ·cases hv
   have zX:(arr.extract (sa+k) (sa+na)).size=na-k:=by rw[Array.size_extract];omega
   have zY:(arr.extract (sa+na) (sa+na+m)).size=m:=by rw[Array.size_extract];omega
   have hM:ML ky P (arr.extract (sa+k) (sa+na)) (arr.extract (sa+na) (sa+na+m)):=⟨by rw[eX];exact t2,by rw[eY];exact u1,λz hz'=>by
     rw[eX] at hz';exact hP z (List.mem_of_mem_drop (List.mem_of_mem_take hz')),λz hz'=>by
     rw[eY] at hz';exact hP z (List.mem_of_mem_drop (List.mem_of_mem_take hz'))⟩
   have lastY:∀v∈(arr.extract (sa+na) (sa+na+m)).toList,le ky v x:=λv hv=>by(rw[eY] at hv;obtain⟨j,j1,j2⟩:=iK hv;exact m2 j v j1 j2)
   have hlast:∀v∈(arr.extract (sa+na) (sa+na+m)).toList,∀i x',i+1=(arr.extract (sa+k) (sa+na)).size->(arr.extract (sa+k) (sa+na))[i]?=some x'->le ky v x':=λv hv i x' hi hx'=>by(obtain⟨g1,g2⟩:=atX i x' hx';rw[zX] at hi;rw[show sa+k+i=sa+na-1 by omega,x1] at g2;cases g2;exact lastY v hv)
   have fin:∀z st',SameS st st'->fH ky (arr.extract (sa+k) (sa+na)).toList (arr.extract (sa+na) (sa+na+m)).toList z->wpS (model prog w) A E s (RG (sa+k) z) Q st':=λz st' hs hg=>by
    obtain⟨g1,g2⟩:=hg
    have zl:z.toList.length=(na-k)+m:=by(rw[g1.length_eq,Za,Array.length_toList,Array.length_toList,zX,zY])
    unfold RG;refine wpS_bind (wpS_modify (wpS_bind (wpS_get (wpS_pure ?_))));have hff:(failedOf st').isNone=true:=by rw[hs.f,hf];rfl
    show Q (failedOf st').isNone _;rw[hff];refine h _ (hs.k.trans hk) hs.p (hs.f.trans hf) ⟨bF arr.toList sa k++(z.toList++bF arr.toList (sa+na+m) (nb-m)), ?_, ?_, ?_⟩
    ·show(WM (arrOf st') (sa+k) z.toList).toList=_;rw[hs.a,ha,OW (by rw[zl];omega),zl,List.take_add,show sa+k+(na-k+m)=sa+na+m from by rw[<- Nat.add_assoc,Nat.add_assoc sa,Nat.add_sub_of_le k1],List.append_assoc,List.append_assoc,List.append_assoc]
     have e:arr.toList.drop (sa+na+m)=bF arr.toList (sa+na+m) (nb-m)++arr.toList.drop (sa+(na+nb)):=by(rw[show sa+(na+nb)=sa+na+m+(nb-m) from by rw[Nat.add_assoc (sa+na),Nat.add_sub_of_le m1,Nat.add_assoc]];exact oC _ _ _)
     rw[e];rfl
    ·rw[dR,show bF arr.toList sa na=_ from(congrArg (bF arr.toList sa) (Nat.add_sub_of_le k1).symm).trans (dR arr.toList sa k (na-k))];have e:bF arr.toList (sa+na) nb=bF arr.toList (sa+na) m++bF arr.toList (sa+na+m) (nb-m):=by rw[<- dR,Nat.add_sub_of_le m1]
     rw[e,List.append_assoc];refine List.Perm.append_left _ ?_;rw[<- List.append_assoc];refine List.Perm.append_right _ ?_;rw[eX,eY] at g1;exact g1
    ·have memz:∀v,v∈z.toList->v∈bF arr.toList (sa+k) (na-k)\/v∈bF arr.toList (sa+na) m:=λv hv=>by
      have:=g1.mem_iff.mp hv
      rw[eX,eY] at this;exact zp.mp this
     have lowA:∀u∈bF arr.toList sa k,le ky u y:=λu hu=>by(obtain⟨j,j1,j2⟩:=iK hu;exact k2 j u j1 j2)
     have hiB:∀v∈bF arr.toList (sa+na+m) (nb-m),le ky x v:=λv hv=>by(obtain⟨j,j1,j2⟩:=iK hv;exact m3 (m+j) v (by omega) (by omega) (by rw[<- Nat.add_assoc];exact j2))
     have subA:∀u∈bF arr.toList (sa+k) (na-k),u∈bF arr.toList sa na:=λu hu=>by(rw[show na=k+(na-k) by omega,dR];exact List.mem_append_right _ hu)
     have subA1:∀u∈bF arr.toList sa k,u∈bF arr.toList sa na:=λu hu=>by(rw[show na=k+(na-k) by omega,dR];exact List.mem_append_left _ hu)
     have subB:∀u∈bF arr.toList (sa+na) m,u∈bF arr.toList (sa+na) nb:=λu hu=>by(rw[show nb=m+(nb-m) by omega,dR];exact List.mem_append_left _ hu)
     refine List.pairwise_append.mpr ⟨t1,List.pairwise_append.mpr ⟨g2,u2,λu hu v hv=>?_⟩,λu hu v hv=>?_⟩
     ·rcases memz u hu with hu | hu
      ·exact le_trans (hA u (subA u hu)) (hiB v hv)
      ·exact u3 u hu v hv
     ·rcases zp.mp hv with hv | hv
      ·rcases memz v hv with hv | hv
       ·exact t3 u hu v hv
       ·exact le_trans (lowA u hu) (hB v (subB v hv))
      ·exact le_trans (hA u (subA1 u hu)) (hiB v hv)
   split
   ·refine wpS_bind (F6 hL hM hlast hk (by rw[zX];omega) (by rw[zY];omega) (λv u hu hv=>?_) fin);obtain⟨_,g1⟩:=atY 0 u hu;obtain⟨_,g2⟩:=atX 0 v hv;rw[Nat.add_zero,y1] at g1;cases g1;exact k3 k v (Zq _) (by omega) g2
   ·refine wpS_bind (F0 hL hM (λu hu v hv=>?_) hk (by rw[zX];omega) (by rw[zY];omega) (λv hv u hu=>hlast v hv _ u (by omega) hu) fin);obtain⟨_,g1⟩:=atY 0 u hu;rw[Nat.add_zero,y1] at g1;cases g1;rw[eX] at hv;obtain⟨j,j1,j2⟩:=iK hv;exact k3 (k+j) v (by omega) (by omega) (by rw[<- Nat.add_assoc];exact j2)
end
abbrev U2:=Option Unit×Unit
noncomputable def JT(pw:Nat)(c:U2):StateT SortSt Sem (ForInStep U2):=do
 let u <- get
 match (if(pendingOf u).size > 1 then(pendingOf u)[(pendingOf u).size-2]? else none) with
 |some (_,_,v) =>
  if v<=pw then pure (.done (none,()))
  else do
   let b <- mergeAt' ((pendingOf u).size-2)
   if(!b)=true then pure (.done (some (),())) else pure (.yield (none,()))
 |_=>pure (.done (none,()))
noncomputable def EW(lo n:Nat):StateT SortSt Sem (ForInStep (Option Unit×Nat)):=do
 modify λu=>setPending u ((pendingOf u).push (lo,n,0))
 pure (.yield (none,lo+n))
noncomputable def EH(size lo n:Nat):StateT SortSt Sem (ForInStep (Option Unit×Nat)):=do
 let u <- get
 match (pendingOf u).back? with
 |some (s1,n1,_)=>do
  let q <- forIn [0:size] ((none,()):U2) λ_=>JT (power' size (2*s1+n1) (2*s1+n1+n1+n) size)
  match q.1 with
  |some r=>pure (.done (some r,lo))
  |none=>do
   modify λu=>setPending u ((pendingOf u).modify ((pendingOf u).size-1) λx=>(x.1,x.2.1,power' size (2*s1+n1) (2*s1+n1+n1+n) size))
   EW lo n
 |_=>EW lo n
noncomputable def Q3(size:Nat)(c:Option Unit×Nat):StateT SortSt Sem (ForInStep (Option Unit×Nat)) :=
 if c.2 >= size then pure (.done (none,c.2))
 else do
  let r <- countRun' c.2 (size-c.2)
  match r with
  |some f =>
   if f<minRun' size size 0 then do
    liftM (rule "list.sort.binary-insertion")
    let b <- binarySort' c.2 (min (size-c.2) (minRun' size size 0)) f
    if(!b)=true then pure (.done (some (),c.2)) else EH size c.2 (min (size-c.2) (minRun' size size 0))
   else EH size c.2 f
  |_=>pure (.done (some (),c.2))
noncomputable def XC(p:Array (Nat×Nat×Nat)):Nat :=
 if((if p.size-2 > 0 then(p[p.size-2-1]?).map (·.2.1) else none).any (·<((p[p.size-2+1]?).elim 0 (·.2.1))))=true then p.size-2-1 else p.size-2
noncomputable def rsF(c:U2):StateT SortSt Sem (ForInStep U2):=do
 let u <- get
 if(pendingOf u).size<=1 then pure (.done (none,()))
 else do
  let b <- mergeAt' (XC (pendingOf u))
  if(!b)=true then pure (.done (some (),())) else pure (.yield (none,()))
theorem IY{size lo n:Nat}{g:SortSt->StateT SortSt Sem (ForInStep (Option Unit×Nat))}
  (h3:∀u s1 n1 p,(pendingOf u).back?=some (s1,n1,p)->∃k,g u=((forIn [0:size] ((none,()):U2) λ_=>JT (power' size (2*s1+n1) (2*s1+n1+n1+n) size))>>=k)/\(∀r,k (some r,())=pure (.done (some r,lo))) /\
   k (none,())=((modify λu=>setPending u ((pendingOf u).modify ((pendingOf u).size-1) λx=>(x.1,x.2.1,power' size (2*s1+n1) (2*s1+n1+n1+n) size)))>>=λ_=>EW lo n)) (h4:∀u,(pendingOf u).back?=none->g u=EW lo n) :
  ((get:StateT SortSt Sem SortSt)>>=g)=EH size lo n:=by
 unfold EH;refine congrArg _ (funext λu=>?_)
 cases hb:(pendingOf u).back? with
 |none=>rw[h4 u hb]
 |some x =>
  obtain⟨s1,n1,p⟩:=x;obtain⟨k,e,k1,k2⟩:=h3 u s1 n1 p hb;rw[e];refine congrArg _ (funext λq=>?_);obtain⟨q1,⟨⟩⟩:=q;cases q1
  ·exact k2
  ·exact k1 _
theorem JQ{pw:Nat}{g:SortSt->StateT SortSt Sem (ForInStep U2)}(h1:∀u x y v,(if(pendingOf u).size > 1 then(pendingOf u)[(pendingOf u).size-2]? else none)=some (x,y,v)->g u=if v<=pw then pure (.done (none,())) else(mergeAt' ((pendingOf u).size-2)>>=λb=>if(!b)=true then pure (.done (some (),())) else pure (.yield (none,()))))
  (h2:∀u,(if(pendingOf u).size > 1 then(pendingOf u)[(pendingOf u).size-2]? else none)=none->g u=pure (.done (none,()))) (c:U2):((get:StateT SortSt Sem SortSt)>>=g)=JT pw c:=by
 unfold JT;refine congrArg _ (funext λu=>?_)
 cases hb:(if(pendingOf u).size > 1 then(pendingOf u)[(pendingOf u).size-2]? else none) with
 |none=>rw[h2 u hb]
 |some x =>
  obtain⟨a,b,v⟩:=x;rw[h1 u a b v hb]
theorem DC:sortRuns'=((get:StateT SortSt Sem SortSt)>>=λst=>(forIn [0:(arrOf st).size] ((none,0):Option Unit×Nat) λ_=>Q3 (arrOf st).size)>>=λc=>match c.1 with
  |some r=>pure r
  |none=>(forIn [0:(arrOf st).size] ((none,()):U2) λ_=>rsF)>>=λq=>match q.1 with
   |some r=>pure r
   |none=>pure ()):=by
 rw[sortRuns'_eq];dsimp only;refine congrArg _ (funext λst=>?_);refine congr (congrArg _ (congrArg _ (funext λx=>funext λc=>?_))) (funext λc=>?_)
 ·unfold Q3;refine congrArg _ (congrArg _ (funext λr=>?_))
  cases r with
  |none=>rfl
  |some f =>
   dsimp only;refine congr (congrArg _ (congrArg _ (funext λ_=>congrArg _ (funext λb=>congrArg _ ?_)))) ?_
   ·refine IY (λu s1 n1 p hb=>?_) λu hb=>by rw[hb];rfl
    rw[hb];refine⟨_,congrArg (·>>=_) (congrArg _ (funext λx=>funext λc=>?_)),λr=>rfl,rfl⟩;exact JQ (λu x y v h=>by rw[h]) (λu h=>by rw[h]) c
   ·refine IY (λu s1 n1 p hb=>?_) λu hb=>by rw[hb];rfl
    rw[hb];refine⟨_,congrArg (·>>=_) (congrArg _ (funext λx=>funext λc=>?_)),λr=>rfl,rfl⟩;exact JQ (λu x y v h=>by rw[h]) (λu h=>by rw[h]) c
 ·obtain⟨c1,c2⟩:=c
  cases c1 with
  |some r=>rfl
  |none =>
   dsimp only;refine congr (congrArg _ (congrArg _ (funext λx=>funext λc=>?_))) (funext λq=>?_)
   ·rfl
   ·obtain⟨q1,q2⟩:=q;cases q1<;>rfl
section
variable{O:KeyOrd}{ky:Keyed->O.α}
def c9(ky:Keyed->O.α)(L:List Keyed):Nat->List (Nat×Nat×Nat)->Nat->Prop
 |s,[],e=>s=e
 |s,(t,n,_)::r,e=>t=s/\1<=n/\cP ky (bF L s n)/\c9 ky L (s+n) r e
theorem c9.le{L:List Keyed}:∀{s:Nat} {r:List (Nat×Nat×Nat)} {e:Nat},c9 ky L s r e->s+r.length<=e
 |s,[],e,h=>by have h:s=e:=h;simp;omega
 |s,(t,n,p)::r,e,h=>by
  obtain⟨_,h1,_,h2⟩:=h
  have:=c9.le h2
  rw[Zk];omega
theorem c9.app{L:List Keyed}:∀{s:Nat} {r1 r2:List (Nat×Nat×Nat)} {e:Nat},c9 ky L s (r1++r2) e↔∃m,c9 ky L s r1 m/\c9 ky L m r2 e
 |s,[],r2,e=>⟨λh=>⟨s,rfl,h⟩,λ⟨m,h1,h2⟩=>by have h1:s=m:=h1;rw[h1];exact h2⟩
 |s,(t,n,p)::r,r2,e=>by
  constructor
  ·rintro⟨h1,h2,h3,h4⟩
   obtain⟨m,h5,h6⟩:=c9.app.mp h4;exact⟨m,⟨h1,h2,h3,h5⟩,h6⟩
  ·rintro⟨m,⟨h1,h2,h3,h4⟩,h5⟩
   exact⟨h1,h2,h3,c9.app.mpr ⟨m,h4,h5⟩⟩
theorem c9.same{L L':List Keyed}:∀{s:Nat} {r:List (Nat×Nat×Nat)} {e:Nat},c9 ky L s r e->(∀t n,s<=t->t+n<=e->bF L' t n=bF L t n)->c9 ky L' s r e
 |s,[],e,h,_=>h
 |s,(t,n,p)::r,e,h,hs=>by
  obtain⟨h1,h2,h3,h4⟩:=h
  have:=c9.le h4
  exact⟨h1,h2,by rw[hs s n (Zq _) (by omega)];exact h3,c9.same h4 λt' n' a b=>hs t' n' (by omega) b⟩
theorem Y1{L M:List Keyed}{s n t k:Nat}(hs:s+n<=L.length)(hM:M.length=n)(h:t+k<=s):bF (L.take s++(M++L.drop (s+n))) t k=bF L t k:=by
 unfold bF;refine List.ext_getElem? λi=>?_
 rw[List.getElem?_take,List.getElem?_take];split
 ·rw[List.getElem?_drop,List.getElem?_drop,List.getElem?_append_left (by rw[List.length_take];omega),List.getElem?_take,Zo (by omega)]
 ·rfl
theorem KD{L M:List Keyed}{s n t k:Nat}(hs:s+n<=L.length)(hM:M.length=n)(h:s+n<=t):bF (L.take s++(M++L.drop (s+n))) t k=bF L t k:=by
 unfold bF;refine List.ext_getElem? λi=>?_
 rw[List.getElem?_take,List.getElem?_take];split
 ·rw[List.getElem?_drop,List.getElem?_drop,List.getElem?_append_right (by rw[List.length_take];omega),List.length_take,Nat.min_eq_left (by omega),List.getElem?_append_right (by omega),List.getElem?_drop];congr 1;omega
 ·rfl
theorem SQ{L M:List Keyed}{s n:Nat}(hs:s+n<=L.length)(hM:M.length=n):bF (L.take s++(M++L.drop (s+n))) s n=M:=by
 unfold bF;rw[List.drop_append_of_le_length (by rw[List.length_take];omega),List.drop_of_length_le (by rw[List.length_take];omega),List.nil_append,List.take_append_of_le_length (by omega),zf (by omega)]
structure SI(ky:Keyed->O.α)(kd:SortKind)(a₀:Array Keyed)(st:SortSt)(lo:Nat)(rs:List (Nat×Nat×Nat)):Prop where
 k:kindOf st=kd
 f:failedOf st=none
 perm:(arrOf st).Perm a₀
 p:(pendingOf st).toList=rs
 ch:c9 ky (arrOf st).toList 0 rs lo
 le:lo<=a₀.size
theorem SI.sz{kd:SortKind}{a₀:Array Keyed}{st:SortSt}{lo:Nat}{rs:List (Nat×Nat×Nat)}(h:SI ky kd a₀ st lo rs):(arrOf st).size=a₀.size:=h.perm.size_eq
theorem SI.psz{kd:SortKind}{a₀:Array Keyed}{st:SortSt}{lo:Nat}{rs:List (Nat×Nat×Nat)}(h:SI ky kd a₀ st lo rs):(pendingOf st).size=rs.length:=by rw[<- h.p,Array.length_toList]
theorem SI.pat{kd:SortKind}{a₀:Array Keyed}{st:SortSt}{lo:Nat}{rs:List (Nat×Nat×Nat)}(h:SI ky kd a₀ st lo rs)(i:Nat):(pendingOf st)[i]?=rs[i]?:=by rw[<- h.p,Array.getElem?_toList]
end
section
variable{prog:Program}{w:World}{A:Around}{E:Value->Shared->Prop}{s:Shared}
variable{O:KeyOrd}{ky:Keyed->O.α}{kd:SortKind}{P:Keyed->Prop}{a₀:Array Keyed}
variable(hL:lU prog w A E s O ky kd P)(hP:∀x∈a₀.toList,P x)
include hL hP
theorem vC{st:SortSt}{lo i:Nat}{rs:List (Nat×Nat×Nat)}{Q:Bool->SortSt->Prop}(h:SI ky kd a₀ st lo rs)(hi:i+1<rs.length)
  (hQ:∀st' rs',SI ky kd a₀ st' lo rs'->rs'.length+1=rs.length->(∀t n,lo<=t->bF (arrOf st').toList t n=bF (arrOf st).toList t n)->Q true st'):wpS (model prog w) A E s (mergeAt' i) Q st:=by
 obtain⟨pre,x,y,post,rfl,hpre⟩:∃pre x y post,rs=pre++x::y::post/\pre.length=i:=by(refine⟨rs.take i,rs[i],rs[i+1],rs.drop (i+2), ?_,by rw[List.length_take];omega⟩;rw[<- List.drop_eq_getElem_cons (by omega),<- List.drop_eq_getElem_cons (by omega),List.take_append_drop])
 obtain⟨sa,na,pw⟩:=x;obtain⟨sb,nb,q⟩:=y;obtain⟨m,c1,c2⟩:=c9.app.mp h.ch;obtain⟨rfl,n1,s1,rfl,n2,s2,c3⟩:=c2;have c3':=c3.le;have hsz:=h.sz;have hlo:=h.le;have ll:(arrOf st).toList.length=(arrOf st).size:=Array.length_toList;have mem:∀z∈(arrOf st).toList,P z:=λz hz=>hP z ((Array.perm_iff_toList_perm.mp h.perm).mem_iff.mp hz)
 refine C7 (sa:=sa) (na:=na) (pw:=pw) (sb:=sa+na) (nb:=nb) (q:=q) ?_ ?_ ?_
 ·rw[h.pat,List.getElem?_append_right (by omega),hpre,Nat.sub_self];rfl
 ·rw[h.pat,List.getElem?_append_right (by omega),hpre,show i+1-i=1 by omega];rfl
 ·refine aAW hL h.k rfl h.f mem n1 n2 (by omega) s1 s2 λst' k' p' f' mg=>?_
  obtain⟨M,e1,e2,e3⟩:=mg.ex;have hM:M.length=na+nb:=by rw[e2.length_eq];unfold bF;rw[List.length_take,List.length_drop];omega
  have hz:sa+(na+nb)<=(arrOf st).toList.length:=by omega
  have hperm:(arrOf st').toList.Perm (arrOf st).toList:=by
   rw[e1]
   conv=>rhs;rw[vZ (arrOf st).toList sa (na+nb)]
   exact List.Perm.append_left _ (List.Perm.append_right _ e2)
  refine hQ st' (pre++(sa,na+nb,pw)::post) ⟨k',f',Array.perm_iff_toList_perm.mpr (hperm.trans (Array.perm_iff_toList_perm.mp h.perm)), ?_, ?_,hlo⟩ (by simp;omega) λt n ht=>by rw[e1];exact KD hz hM (by omega)
  ·rw[p'];show(((pendingOf st).setIfInBounds i (sa,na+nb,pw)).eraseIdxIfInBounds (i+1)).toList=_;rw[Array.toList_eraseIdxIfInBounds,Array.toList_setIfInBounds,h.p,<- hpre,List.set_append_right _ _ (Zq _),Nat.sub_self,List.set_cons_zero,List.eraseIdx_append_of_length_le (by omega),show pre.length+1-pre.length=1 by omega];rfl
  ·refine c9.app.mpr ⟨sa,c1.same λt n _ b=>?_,rfl,by omega, ?_, ?_⟩
   ·rw[e1];exact Y1 hz hM b
   ·rw[e1,SQ hz hM];exact e3
   ·rw[show sa+(na+nb)=sa+na+nb by omega];refine c3.same λt n a _=>?_
    rw[e1];exact KD hz hM (by omega)
theorem J3{st:SortSt}{lo n:Nat}{rs:List (Nat×Nat×Nat)}{Q:ForInStep (Option Unit×Nat)->SortSt->Prop}(h:SI ky kd a₀ st lo rs)(h1:1<=n)(h2:lo+n<=a₀.size)(hs:cP ky (bF (arrOf st).toList lo n))
  (hQ:∀st' rs',SI ky kd a₀ st' (lo+n) rs'->Q (.yield (none,lo+n)) st'):wpS (model prog w) A E s (EW lo n) Q st:=by
 unfold EW;refine wpS_bind (wpS_modify (wpS_pure (hQ _ (rs++[(lo,n,0)]) ⟨h.k,h.f,h.perm, ?_, ?_,h2⟩)))
 ·show((pendingOf st).push (lo,n,0)).toList=_;rw[Array.toList_push,h.p]
 ·exact c9.app.mpr ⟨lo,h.ch,rfl,h1,hs,rfl⟩
omit hL hP in
theorem BY{L:List Keyed}{pw:Nat}:∀{s e:Nat} {rs:List (Nat×Nat×Nat)} (i:Nat),c9 ky L s rs e->c9 ky L s (rs.modify i λx=>(x.1,x.2.1,pw)) e
 |s,e,[],i,h=>by cases i<;>exact h
 |s,e,(t,n,p)::r,0,h=>h
 |s,e,(t,n,p)::r,i+1,h=>⟨h.1,h.2.1,h.2.2.1,BY i h.2.2.2⟩
theorem IT{st:SortSt}{size lo n:Nat}{rs:List (Nat×Nat×Nat)}{Q:ForInStep (Option Unit×Nat)->SortSt->Prop}(h:SI ky kd a₀ st lo rs)(h1:1<=n)(h2:lo+n<=a₀.size)(hs:cP ky (bF (arrOf st).toList lo n))
  (hQ:∀st' rs',SI ky kd a₀ st' (lo+n) rs'->Q (.yield (none,lo+n)) st'):wpS (model prog w) A E s (EH size lo n) Q st:=by
 unfold EH;refine wpS_bind (wpS_get ?_)
 cases hb:(pendingOf st).back? with
 |none=>exact J3 hL hP h h1 h2 hs hQ
 |some x =>
  obtain⟨s1,n1,p⟩:=x;dsimp only;generalize power' size (2*s1+n1) (2*s1+n1+n1+n) size=pw;refine wpS_bind (wpS_mono (wpS_forRange (I:=λx c st'=>c=(none,())/\∃rs',SI ky kd a₀ st' lo rs'/\cP ky (bF (arrOf st').toList lo n)) (Q:=λc st'=>c=(none,())/\∃rs',SI ky kd a₀ st' lo rs'/\cP ky (bF (arrOf st').toList lo n)) ?step (λ_ _ hh=>hh) ⟨rfl,rs,h,hs⟩) ?post)
  case post =>
   rintro c st' ⟨rfl,rs',h',hs'⟩
   dsimp only;refine wpS_bind (wpS_modify (J3 hL hP (rs:=rs'.modify ((pendingOf st').size-1) λx=>(x.1,x.2.1,pw)) ⟨h'.k,h'.f,h'.perm, ?_,BY _ h'.ch,h'.le⟩ h1 h2 hs' hQ));show((pendingOf st').modify _ _).toList=_;rw[Array.toList_modify,h'.p]
  case step =>
   rintro x c st' _ _ ⟨rfl,rs',h',hs'⟩
   unfold JT;refine wpS_bind (wpS_get ?_);split
   ·rename_i q u v hq;split
    ·exact wpS_pure ⟨rfl,rs',h',hs'⟩
    ·have hl:(pendingOf st').size > 1:=by
      by_cases e:(pendingOf st').size > 1
      ·exact e
      ·rw[Zp e] at hq;cases hq
     rw[h'.psz] at hl;refine wpS_bind (vC hL hP h' (by rw[h'.psz];omega) λst2 rs2 g1 _ g2=>?_);simp only[Bool.not_true,Bool.false_eq_true,if_false];exact wpS_pure ⟨rfl,rs2,g1,by rw[g2 lo n (Zq _)];exact hs'⟩
   ·exact wpS_pure ⟨rfl,rs',h',hs'⟩
omit hL hP in
theorem yL{xs:Array Keyed}{lo n:Nat}(h:Up ky xs lo n)(hz:lo+n<=xs.size):cP ky (bF xs.toList lo n):=by
 refine List.pairwise_iff_getElem.mpr λi j hi hj hij=>?_
 have hl:(bF xs.toList lo n).length=n:=by unfold bF;rw[List.length_take,List.length_drop,Array.length_toList];omega
 have at_:∀k (hk:k<(bF xs.toList lo n).length),KY ky xs (lo+k)=ky ((bF xs.toList lo n)[k]):=λk hk=>by
  have e:(bF xs.toList lo n)[k]?=xs[lo+k]?:=by(unfold bF;rw[List.getElem?_take,Zo (by omega),List.getElem?_drop,Array.getElem?_toList])
  unfold KY;rw[<- e,Zb hk];rfl
 have:=h i j (by omega) (by omega)
 rw[at_ i hi,at_ j hj] at this;exact this
theorem ZG{st:SortSt}{lo:Nat}{rs:List (Nat×Nat×Nat)}{Q:ForInStep (Option Unit×Nat)->SortSt->Prop}(h:SI ky kd a₀ st lo rs)(h0:lo >= a₀.size->Q (.done (none,lo)) st)
  (hQ:∀n st' rs',1<=n->SI ky kd a₀ st' (lo+n) rs'->Q (.yield (none,lo+n)) st'):wpS (model prog w) A E s (Q3 a₀.size (none,lo)) Q st:=by
 unfold Q3;dsimp only;by_cases e:lo >= a₀.size
 ·rw[Zo e];exact wpS_pure (h0 e)
 ·rw[Zp e];have hsz:=h.sz;have mem:∀z∈(arrOf st).toList,P z:=λz hz=>hP z ((Array.perm_iff_toList_perm.mp h.perm).mem_iff.mp hz)
  have carry:∀{st':SortSt},Fr lo a₀.size st st'->SI ky kd a₀ st' lo rs:=λ{st'} f=>by
   refine⟨f.k.trans h.k,f.f.trans h.f,f.perm.trans h.perm,by rw[f.p];exact h.p,h.ch.same λt n _ hb=>?_,h.le⟩;unfold bF;refine List.ext_getElem? λi=>?_
   rw[List.getElem?_take,List.getElem?_take];split
   ·rw[List.getElem?_drop,List.getElem?_drop,Array.getElem?_toList,Array.getElem?_toList];exact f.out _ (.inl (by omega))
   ·rfl
  refine wpS_bind (DH hL h.k mem (lo:=lo) (hi:=a₀.size) (by omega) (Fr.refl st) (by omega) (by omega) λm st1 f1 m1 m2 m3=>?_);dsimp only;split
  ·rename_i hm;refine wpS_bind (wpS_lift (wpAny_rule ⟨rfl, ?_⟩))
   generalize minRun' a₀.size a₀.size 0=mr at *
   refine wpS_bind (JP hL h.k mem (lo:=lo) (hi:=a₀.size) (by omega) f1 (by omega) (by omega) m3 λst2 f2 u2=>?_);simp only[Bool.not_true,Bool.false_eq_true,if_false];exact IT hL hP (carry f2) (by omega) (by omega) (yL u2 (by rw[f2.sz];omega)) λst3 rs3 g=>hQ _ st3 rs3 (by omega) g
  ·exact IT hL hP (carry f1) m1 (by omega) (yL m3 (by rw[f1.sz];omega)) λst3 rs3 g=>hQ _ st3 rs3 m1 g
theorem DD{st:SortSt}{Q:Unit->SortSt->Prop}(hk:kindOf st=kd)(hf:failedOf st=none)(hp:pendingOf st=#[])(ha:arrOf st=a₀)
  (hQ:∀st',failedOf st'=none->(arrOf st').Perm a₀->cP ky (arrOf st').toList->Q () st'):wpS (model prog w) A E s sortRuns' Q st:=by
 rw[DC];refine wpS_bind (wpS_get ?_);rw[ha];refine wpS_bind (wpS_mono (wpS_forRange (I:=λx c st'=>∃lo rs,c=(none,lo)/\SI ky kd a₀ st' lo rs/\x<=lo) (Q:=λc st'=>∃rs,c=(none,a₀.size)/\SI ky kd a₀ st' a₀.size rs) ?step ?fin ⟨0,[],rfl,⟨hk,hf,ha ▸ Array.Perm.refl _,by rw[hp],rfl,Nat.zero_le _⟩,Zq _⟩) ?post)
 case fin =>
  rintro c st' ⟨lo,rs,rfl,h,hx⟩
  have:=h.le
  obtain rfl:lo=a₀.size:=by omega
  exact⟨rs,rfl,h⟩
 case step =>
  rintro x c st' _ hx ⟨lo,rs,rfl,h,hxl⟩
  refine ZG hL hP h (λe=>?_) λn st2 rs2 n1 g=>⟨_,rs2,rfl,g,by omega⟩
  have:=h.le
  obtain rfl:lo=a₀.size:=by omega
  exact⟨rs,rfl,h⟩
 case post =>
  rintro c st' ⟨rs,rfl,h⟩
  dsimp only;refine wpS_bind (wpS_mono (wpS_forRange (I:=λx c st'=>c=(none,())/\∃rs,SI ky kd a₀ st' a₀.size rs/\(rs.length<=a₀.size-x\/rs.length<=1)) (Q:=λc st'=>c=(none,())/\∃rs,SI ky kd a₀ st' a₀.size rs/\rs.length<=1) ?step2 ?fin2 ⟨rfl,rs,h,.inl (by have:=h.ch.le;omega)⟩) ?post2)
  case fin2 =>
   rintro c st' ⟨rfl,rs,h,hl⟩
   exact⟨rfl,rs,h,by omega⟩
  case step2 =>
   rintro x c st' _ hx ⟨rfl,rs,h,hl⟩
   unfold rsF;refine wpS_bind (wpS_get ?_);rw[h.psz];split
   ·exact wpS_pure ⟨rfl,rs,h,‹_›⟩
   ·rename_i hn
    have hi:XC (pendingOf st')+1<rs.length:=by
     unfold XC;rw[h.psz];have key:∀c:Bool,(if c=true then rs.length-2-1 else rs.length-2)+1<rs.length:=λc=>by cases c<;>simp<;>omega
     exact key _
    refine wpS_bind (vC hL hP h hi λst2 rs2 g1 g2 _=>?_);simp only[Bool.not_true,Bool.false_eq_true,if_false];exact wpS_pure ⟨rfl,rs2,g1,by omega⟩
  case post2 =>
   rintro c st' ⟨rfl,rs,h,hl⟩
   refine wpS_pure (hQ st' h.f h.perm ?_);have hz:(arrOf st').toList.length=a₀.size:=by rw[Array.length_toList];exact h.sz
   obtain _ | ⟨⟨t,n,p⟩,_ | ⟨_,_⟩⟩:=rs
   ·have h0:0=a₀.size:=h.ch;rw[List.eq_nil_of_length_eq_zero (by omega:(arrOf st').toList.length=0)];exact List.Pairwise.nil
   ·obtain⟨_,_,h3,h4⟩:=h.ch;have h4:0+n=a₀.size:=h4;unfold bF at h3;rw[List.drop_zero,zf (by omega)] at h3;exact h3
   ·simp at hl
end
theorem lx_irr:∀a:List Int,HT.bT a a=false
 |[]=>rfl
 |x::xs=>by rw[HT.dO,Zo rfl];exact lx_irr xs
theorem lx_tr:∀a b c:List Int,HT.bT a b=true->HT.bT b c=true->HT.bT a c=true
 |[],[],_,h,_=>nomatch h
 |[],_::_,[],_,h=>nomatch h
 |[],_::_,_::_,_,_=>rfl
 |_::_,[],_,h,_=>nomatch h
 |_::_,_::_,[],_,h=>nomatch h
 |x::xs,y::ys,z::zs,h,k=>by
  rw[HT.dO] at h k ⊢;by_cases e:x=y
  ·subst e;rw[Zo rfl] at h;by_cases e2:x=z
   ·rw[Zo e2] at k ⊢;exact lx_tr xs ys zs h k
   ·rw[Zp e2] at k ⊢;exact k
  ·rw[Zp e,decide_eq_true_eq] at h;by_cases e2:y=z
   ·rw[Zp (e2 ▸ e),decide_eq_true_eq];omega
   ·rw[Zp e2,decide_eq_true_eq] at k;rw[Zp (by omega),decide_eq_true_eq];omega
theorem lx_neg:∀a b c:List Int,HT.bT a c=true->HT.bT a b=true\/HT.bT b c=true
 |[],[],_,h=>.inr h
 |[],_::_,_,_=>.inl rfl
 |_::_,_,[],h=>nomatch h
 |_::_,[],_::_,_=>.inr rfl
 |x::xs,y::ys,z::zs,h=>by
  rw[HT.dO] at h ⊢;rw[HT.dO];by_cases e:x=y
  ·subst e;rw[Zo rfl];by_cases e2:x=z
   ·rw[Zo e2] at h ⊢;exact lx_neg xs ys zs h
   ·rw[Zp e2] at h ⊢;exact .inr h
  ·rw[Zp e];by_cases e2:y=z
   ·rw[Zp (e2 ▸ e)] at h;exact .inl (e2 ▸ h)
   ·rw[Zp e2];by_cases e3:x=z
    ·rw[decide_eq_true_eq,decide_eq_true_eq];omega
    ·rw[Zp e3,decide_eq_true_eq] at h;rw[decide_eq_true_eq,decide_eq_true_eq];omega
theorem lx_tot:∀a b:List Int,HT.bT a b=false->HT.bT b a=false->a=b
 |[],[],_,_=>rfl
 |[],_::_,h,_=>nomatch h
 |_::_,[],_,h=>nomatch h
 |x::xs,y::ys,h,k=>by
  rw[HT.dO] at h k;by_cases e:x=y
  ·subst e;rw[Zo rfl] at h k;rw[lx_tot xs ys h k]
  ·rw[Zp e,decide_eq_false_iff_not] at h;rw[Zp (λz=>e z.symm),decide_eq_false_iff_not] at k;omega
@[reducible] noncomputable def Q1:KeyOrd:=⟨List Int,HT.bT,lx_irr,lx_tr,lx_neg,lx_tot⟩
def TriAt(h:Heap)(v:Value)(k:List Int):Prop :=
 ∃(t u:Addr) (b r:Int) (tb tr:Tok) (ns:List Int) (vs:Array Value),v=.ref t/\IsTup h t #[.int b tb,.int r tr,.ref u]/\IsTup h u vs/\IntsAre vs.toList ns/\k=b::r::ns
section
variable{prog:Program}{w:World}{A:Around}{E:Value->Shared->Prop}{s:Shared}
theorem oF{h:Heap}:∀{us:List Value} {ns:List Int},IntsAre us ns->∃as,ReadsAll h us (ns.map .int) as
 |_,_,.nil=>⟨_,.nil⟩
 |_,_,.cons n t r=>by(obtain⟨as,r⟩:=oF (h:=h) r;exact⟨_,.cons (.int _ _) r⟩)
theorem IntsAre.one:∀{us:List Value} {ns ms:List Int},IntsAre us ns->IntsAre us ms->ns=ms
 |_,_,_,.nil,.nil=>rfl
 |_,_,_,.cons n t r,.cons _ _ r2=>by rw[IntsAre.one r r2]
theorem xO{h:Heap}{u:Addr}{vs ws:Array Value}(p:IsTup h u vs)(q:IsTup h u ws):vs=ws:=by
 obtain⟨o,e,_,n,d⟩:=p;obtain⟨o',e',_,n',d'⟩:=q;rw[e] at e';cases e';rw[d] at d';exact(Data.seq.inj d').1
theorem T1{a b:Addr}{vs ws:Array Value}{ns ms:List Int}{Q:Bool->Shared->Prop}(p:IsTup s.heap a vs)(q:IsTup s.heap b ws)(i:IntsAre vs.toList ns)(j:IntsAre ws.toList ms)(hu:A.units+8<cLine)
  (k:Q (decide (ns=ms)) s):wpAny (model prog w) A (eqBool (.ref a) (.ref b)) Q E s:=by
 obtain⟨as,r1⟩:=oF (h:=s.heap) i;obtain⟨bs,r2⟩:=oF (h:=s.heap) j;obtain⟨o,e,c,n,d⟩:=id p;obtain⟨o',e',c',n',d'⟩:=id q;refine L2.VW (λz=>Zn ?_) ?_ k
 ·subst z;obtain rfl:=xO p q;exact IntsAre.one i j
 ·have dp:=L2.MV (ns:=ns)
  have:(PyData.tuple (ns.map .int)).eqv (.tuple (ms.map .int))=decide (ns=ms):=by simp only[PyData.eqv,L2.IM]
  rw[<- this];refine SeqAt.rcAt_reads (.tuple e c d r1) (.tuple e' c' d' r2) ?_ ?_ ?_
  ·simp[PyData.canLay0,L2.HV]
  ·simp[PyData.canLay0,L2.HV]
  ·simp only[PyData.depth];omega
theorem CL{x y:Value}{c:Bool}{Q:Bool->Shared->Prop}(h:∀(R:Value->Shared->Prop),R (.bool c) s->wpAny (model prog w) A (compareOp .Lt x y) R E s)(q:Q c s):wpAny (model prog w) A (oneLt' false x y) Q E s:=by
 show wpAny _ _ (richCompare .Lt x y>>=_) _ _ _;exact Zt (h _ (wpAny_truthy_bool q))
theorem JI{x y:Value}{k l:List Int}{Q:Bool->Shared->Prop}(hx:TriAt s.heap x k)(hy:TriAt s.heap y l)(hu:A.units+8<cLine)(q:Q (HT.bT k l) s) :
  wpAny (model prog w) A (keyLt' (tuples' true) x y) Q E s:=by
 obtain⟨t,u,b,r,tb,tr,ns,vs,rfl,p1,p2,p3,rfl⟩:=hx;obtain⟨t',u',b',r',tb',tr',ns',vs',rfl,q1,q2,q3,rfl⟩:=hy;obtain⟨o,e,_,n,d⟩:=p1;obtain⟨o',e',_,n',d'⟩:=q1;show wpAny _ _ (Builtin.List.listItems _>>=_) _ _ _;refine Zt (listItems_at e d ?_);show wpAny _ _ (Builtin.List.listItems _>>=_) _ _ _;refine Zt (listItems_at e' d' ?_);simp only[List.zip_cons_cons,List.zip_nil_right,List.zipIdx_cons,List.zipIdx_nil,List.forIn_cons,List.forIn_nil,bind_assoc,pure_bind];rw[HT.dO,HT.dO] at q;refine Zt (wpAny_eqBool_int ?_);by_cases z:b=b'
 ·subst z;rw[Zo rfl] at q;simp only[beq_self_eq_true,Bool.not_true,Bool.false_eq_true,if_false,bind_assoc,pure_bind];refine Zt (wpAny_eqBool_int ?_);by_cases z:r=r'
  ·subst z;rw[Zo rfl] at q;simp only[beq_self_eq_true,Bool.not_true,Bool.false_eq_true,if_false,bind_assoc,pure_bind];refine Zt (T1 p2 q2 p3 q3 hu ?_);by_cases z:ns=ns'
   ·subst z;rw[lx_irr] at q;simp only[decide_true,Bool.not_true,Bool.false_eq_true,if_false,bind_assoc,pure_bind];exact Zu q
   ·simp only[Zm z,Bool.not_false,if_true,bind_assoc,pure_bind];exact Zt (CL (λR hR=>HT.GA p2 q2 p3 q3 (by omega) hR) (Zu q))
  ·have hz:(r==r')=false:=by simpa using z
   rw[Zp z] at q;simp only[hz,Bool.not_false,if_true,bind_assoc,pure_bind];exact Zt (CL (λR hR=>lt_int hR) (Zu q))
 ·have hz:(b==b')=false:=by simpa using z
  rw[Zp z] at q;simp only[hz,Bool.not_false,if_true,bind_assoc,pure_bind];exact Zt (oneLt_int (Zu q))
theorem aD8{P:Keyed->Prop}{ky:Keyed->List Int}(hu:A.units+8<cLine)(hP:∀x,P x->TriAt s.heap x.1 (ky x)):lU prog w A E s Q1 ky (tuples' true) P:=by
 intro st x y Q hk hx hy q;rw[lt'_eq];refine wpS_bind (wpS_get ?_);rw[hk];exact wpS_bind (wpS_lift (wpAny_attempt (JI (hP x hx) (hP y hy) hu ⟨rfl,wpS_pure q⟩)))
end
theorem TriAt.mono{h h':Heap}{v:Value}{k:List Int}(x:TriAt h v k)(m:∀t its,IsTup h t its->IsTup h' t its):TriAt h' v k:=by
 obtain⟨t,u,b,r,tb,tr,ns,vs,e,p1,p2,p⟩:=x;exact⟨t,u,b,r,tb,tr,ns,vs,e,m _ _ p1,m _ _ p2,p⟩
theorem TriAt.one{h:Heap}{v:Value}{k l:List Int}(x:TriAt h v k)(y:TriAt h v l):k=l:=by
 obtain⟨t,u,b,r,tb,tr,ns,vs,rfl,p1,p2,p3,rfl⟩:=x;obtain⟨t',u',b',r',tb',tr',ns',vs',e,q1,q2,q3,rfl⟩:=y;cases e;have z:=xO p1 q1;have z1:Value.int b tb=Value.int b' tb':=congrArg (λ(q:Array Value)=>q.getD 0 .none) z;have z2:Value.int r tr=Value.int r' tr':=congrArg (λ(q:Array Value)=>q.getD 1 .none) z;have z3:Value.ref u=Value.ref u':=congrArg (λ(q:Array Value)=>q.getD 2 .none) z;cases z1;cases z2;cases z3;cases xO p2 q2;rw[IntsAre.one p3 q3]
noncomputable def kf(h:Heap)(v:Value):List Int:=Classical.epsilon (TriAt h v)
theorem RJ{h:Heap}{v:Value}{k:List Int}(x:TriAt h v k):TriAt h v (kf h v):=Classical.epsilon_spec ⟨k,x⟩
theorem QV{h:Heap}{v:Value}{k:List Int}(x:TriAt h v k):kf h v=k:=(RJ x).one x
section
variable{prog:Program}{w:World}{A:Around}{E:Value->Shared->Prop}{s:Shared}
theorem xS{α β:Type}{M:Model}{f:α->Sem β}{R:α->β->Prop}:∀(l:List α) {Q:List β->Shared->Prop},(∀x∈l,∀K:β->Shared->Prop,(∀y,R x y->K y s)->wpAny M A (f x) K E s) ->
  (∀ys,ys.length=l.length->(∀y∈ys,∃x∈l,R x y)->Q ys s)->wpAny M A (l.mapM f) Q E s
 |[],Q,_,q=>by
  rw[List.mapM_nil];exact Zu (q [] rfl (λ_ h=>nomatch h))
 |x::l,Q,h,q=>by
  rw[List.mapM_cons];refine Zt (h x (zh ..) _ λy ry=>Zt (xS l (λz hz=>h z (Ze _ hz)) λys e1 e2=>Zu (q _ (congrArg (·+1) e1) λz hz=>?_)));rcases List.mem_cons.mp hz with rfl | hz
  ·exact⟨x,zh ..,ry⟩
  ·obtain⟨u,hu,ru⟩:=e2 z hz;exact⟨u,Ze _ hu,ru⟩
theorem MO{v:Value}{k:List Int}{K:Option Value->Shared->Prop}(hv:TriAt s.heap v k)(q:∀y,(∃b tb,y=some (.int b tb))->K y s):wpAny (model prog w) A (firstOfTuple' v) K E s:=by
 obtain⟨t,u,b,r,tb,tr,ns,vs,rfl,p1,p2,p3,rfl⟩:=hv;show wpAny _ _ (typeOf (.ref t)>>=_) _ _ _;refine Zt (wpAny_typeOf p1.typeIs ?_);obtain⟨o,e,_,n,d⟩:=p1;show wpAny _ _ (Builtin.List.listItems (.ref t)>>=_) _ _ _;exact Zt (listItems_at e d (Zu (q _ ⟨b,tb,rfl⟩)))
theorem TX{v:Value}{vs:List Value}{Q:SortKind->Shared->Prop}(hv:∀x∈v::vs,∃k,TriAt s.heap x k)(q:Q (tuples' true) s):wpAny (model prog w) A (keyKind' (v::vs).toArray) Q E s:=by
 rw[keyKind'_eq,List.mapM_toArray,map_eq_pure_bind,bind_assoc];refine Zt (xS (R:=λ_ y=>∃b tb,y=some (Value.int b tb)) _ (λx hx K hK=>MO (hv x hx).choose_spec hK) λys e1 e2=>?_);rw[pure_bind]
 obtain⟨y,ys,rfl⟩:∃y zs,ys=y::zs:=by cases ys with | nil=>exact nomatch e1 | cons y zs=>exact⟨y,zs,rfl⟩
 have e3:∀z∈y::ys,∃b tb,z=some (Value.int b tb):=λz hz=>(e2 z hz).choose_spec.2
 rw[Zo (by
  rw[List.all_toArray,List.all_eq_true];intro z hz;obtain⟨b,tb,rfl⟩:=e3 z hz
  rfl)]
 refine Zt (wpAny_rule ?_);rw[oneTypeOnly'_eq];have ef:((y::ys).toArray.filterMap id)=((y::ys).filterMap id).toArray:=by simp
 rw[ef,List.mapM_toArray,map_eq_pure_bind];simp only[bind_assoc,pure_bind];refine Zt (xS (R:=λ_ y=>y=Value.type "int") _ (λx hx K hK=>?_) λts e4 e5=>?_)
 ·obtain⟨z,hz,hx⟩:=List.mem_filterMap.mp hx;obtain⟨b,tb,rfl⟩:=e3 z hz;cases hx;exact wpAny_typeOf (typeIs_int s b tb) (hK _ rfl)
 ·have e6:∀t∈ts,t=Value.type "int":=λt ht=>(e5 t ht).choose_spec.2
  have:ts≠[]:=by
   rintro rfl
   obtain⟨b,tb,rfl⟩:=e3 y (zh ..)
   exact nomatch e4
  obtain⟨t,ts,rfl⟩:∃t us,ts=t::us:=by cases ts with | nil=>exact absurd rfl this | cons t us=>exact⟨t,us,rfl⟩
  obtain rfl:=e6 t (zh ..)
  have e7:((Value.type "int" :: ts).toArray.all λx=>x==Value.type "int")=true:=by(rw[List.all_toArray,List.all_eq_true];intro z hz;rw[e6 z hz];rfl)
  rw[show(Value.type "int" :: ts).toArray[0]?=some (Value.type "int") from rfl];simp only[e7,if_true,pure_bind];exact Zu q
abbrev Rise(h:Heap)(l:List Value):Prop:=l.Pairwise λx y=>∀k m,TriAt h x k->TriAt h y m->HT.bT m k=false
theorem rW{h:Heap}{a b:Addr}{o:Obj}(f:Obj->Obj)(ne:b≠a)(e:h.get? b=some o):(h.update a f).get? b=some o:=by
 rw[Heap.get?_update_ne _ _ _ _ ne];exact e
theorem D1{h:Heap}{a b:Addr}{o:Obj}{f:Obj->Obj}{its:Array Value}(e:h.get? a=some o)(c:o.cls=.type "list")(x:IsTup h b its):IsTup (h.update a f) b its:=by
 obtain⟨o',e',c',r⟩:=x;refine⟨o',rW f (λz=>?_) e',c',r⟩;subst z;rw[e] at e';cases e';rw[c] at c';exact absurd c' (by decide)
theorem O3{α:Type}{R:α->α->Prop}:∀(l:List α),l.length<2->l.Pairwise R
 |[],_=>.nil
 |[_],_=>List.pairwise_singleton _ _
theorem N4{a:Addr}{vs:List Value}{n:Nat}{P:Fin->Shared->Prop}(ho:s.heap.get? a=some (seqObj "list" vs.toArray n))(hz:vs.length<=sizeLine)(hv:∀x∈vs,∃k,TriAt s.heap x k)(hu:A.units+8<cLine)
  (h:∀out:Array Value,out.toList.Perm vs->Rise s.heap out.toList->P (.done (.ret .none)) { s with heap:=sortedHeap s.heap a vs out }):wpAny (model prog w) A (Builtin.«list.sort» ⟨[.ref a],[]⟩) P E s:=by
 rw[list_sort_plain];have hz2:vs.toArray.size<=sizeLine:=by simpa using hz
 have lt:a<s.heap.objs.size:=Zv ho;refine Zt (listItems_at ho rfl (Zt (listUpdate_at ho rfl ?_ hz2 (by simp))));obtain⟨e1,g1⟩:∃e1,(s.heap.update a (Obj.mapSeq λ_=>#[])).get? a=some (seqObj "list" #[] e1):=⟨_,get?_update_seq ho _⟩
 refine Zt (seqEpoch_at g1 rfl (Zt (wpAny_newTuple (Zt (wpAny_newList (wpAny_holding ?_))) )))
 ·generalize hh:((s.heap.update a (Obj.mapSeq λ_=>#[])).push (seqObj "tuple" vs.toArray 0)).push (seqObj "list" #[] 0)=h6
  have g6:h6.get? a=some (seqObj "list" #[] e1):=by(rw[<- hh];exact Zd _ (Zd _ g1))
  have mo:∀t its,IsTup s.heap t its->IsTup h6 t its:=by(intro t its x;rw[<- hh];exact((D1 ho rfl x).push _).push _)
  have hr:∀out,sortedHeap s.heap a vs out=h6.update a (Obj.mapSeq λ_=>out):=λout=>by unfold sortedHeap;rw[hh]
  show wpAny (model prog w) A _ P E { s with heap:=h6 }
  have fin:∀st':SortSt,(arrOf st').Perm (pairsOf vs)->cP (O:=Q1) (λx:Keyed=>kf h6 x.1) (arrOf st').toList->P (.done (.ret .none)) { s with heap:=h6.update a (Obj.mapSeq λ_=>(arrOf st').map (·.2)) }:=by
   intro st' p r;have hl:(arrOf st').toList.Perm (vs.zip vs):=by rw[<- pairsOf_toList];exact Array.perm_iff_toList_perm.mp p
   have me:∀x∈(arrOf st').toList,x.1=x.2:=λx hx=>(mem_zip_self (hl.mem_iff.mp hx)).1
   rw[<- hr];refine h _ ?_ ?_
   ·have:=hl.map (·.2)
    rw[List.map_snd_zip (Zq _)] at this;rw[Array.toList_map];exact this
   ·rw[Array.toList_map];refine List.pairwise_map.mpr (List.Pairwise.imp_of_mem (λ{x y} hx hy hxy k m hk hm=>?_) r);rw[<- me x hx] at hk;rw[<- me y hy] at hm
    have:HT.bT (kf h6 y.1) (kf h6 x.1)=false:=hxy
    rwa[QV (hk.mono mo),QV (hm.mono mo)] at this
  have sz:∀st':SortSt,(arrOf st').Perm (pairsOf vs)->((arrOf st').map (·.2)).size<=sizeLine+1:=λst' p=>by(rw[Array.size_map,p.size_eq,pairsOf_size];omega)
  by_cases h2:vs.toArray.size<2
  ·rw[Zo h2,Zo h2];refine Zt (Zu ?_);dsimp only;rw[StateT.run_pure];refine Zt (Zu ?_);dsimp only;have p0:(arrOf (SortSt.mk' general' (vs.toArray.zip vs.toArray) #[] 7 none)).Perm (pairsOf vs):=Array.Perm.refl _;refine Zt (seqEpoch_at g6 rfl (Zt (listUpdate_at g6 rfl ?_ (Nat.zero_le _) (sz _ p0))));simp only[bne_self_eq_false,Bool.false_eq_true,if_false];refine Zu (fin _ p0 ?_)
   have:(pairsOf vs).toList.length<2:=by rw[Array.length_toList,pairsOf_size];simpa using h2
   show(pairsOf vs).toList.Pairwise _;exact O3 _ this
  ·rw[Zp h2,Zp h2]
   obtain⟨v,us,rfl⟩:∃v us,vs=v::us:=by cases vs with | nil=>simp at h2 | cons v us=>exact⟨v,us,rfl⟩
   have hv6:∀x∈v::us,∃k,TriAt h6 x k:=λx hx=>⟨_,(hv x hx).choose_spec.mono mo⟩
   refine Zt (TX (s:={ s with heap:=h6 }) hv6 ?_);have L:lU prog w A E { s with heap:=h6 } Q1 (λx:Keyed=>kf h6 x.1) (tuples' true) (λx=>x.1∈v::us):=aD8 hu λx hx=>RJ (hv6 _ hx).choose_spec
   refine Zt (wpAny_mono (DD L (a₀:=pairsOf (v::us)) (λx hx=>?_) (Q:=λ_ st'=>failedOf st'=none/\(arrOf st').Perm (pairsOf (v::us))/\cP (O:=Q1) (λx:Keyed=>kf h6 x.1) (arrOf st').toList) rfl rfl rfl rfl λst' a1 a2 a3=>⟨a1,a2,a3⟩) ?_ λ_ _ e=>e)
   ·rw[pairsOf_toList] at hx;exact(mem_zip_self hx).2
   ·rintro⟨⟨⟩,st'⟩ s' ⟨rfl,f,p,r⟩
    dsimp only;refine Zt (seqEpoch_at g6 rfl (Zt (listUpdate_at g6 rfl ?_ (Nat.zero_le _) (sz _ p))));rw[f];simp only[bne_self_eq_false,Bool.false_eq_true,if_false];exact Zu (fin st' p r)
theorem sorted_any{l:Addr}{vs:List Value}{Q:Value->Shared->Prop}(hl:s.heap.IsList l vs.toArray)(hz:vs.length<=sizeLine)(hv:∀x∈vs,∃k,TriAt s.heap x k)(hu:A.units+10<cLine)
  (h:∀out:Array Value,out.toList.Perm vs->Rise s.heap out.toList->Q (.ref (s.heap.objs.size+1)) { s with heap:=sortedAll s.heap vs out }):wpAny (model prog w) A (call (.builtin "sorted") [.ref l]) Q E s:=by
 refine Calls.call_function_entry kind_sorted plain_sorted entry_sorted (args_sorted1 _) ?_;show wpAny _ _ (checkCount _ _ _ _>>=_) _ _ _;refine Zt (Zu (Zt (collect_list hl (Zt (wpAny_newList ?_ (by simpa using hz))) hz)));have es:((s.heap.push (seqObj "list" #[] 0)).update s.heap.objs.size (Obj.mapSeq (· ++ vs.toArray))).objs.size=s.heap.objs.size+1:=by rw[Heap.size_update,size_push']
 generalize hh:((s.heap.push (seqObj "list" #[] 0)).update s.heap.objs.size (Obj.mapSeq (· ++ vs.toArray))).push (seqObj "list" vs.toArray 0)=h5
 have g5:h5.get? (s.heap.objs.size+1)=some (seqObj "list" vs.toArray 0):=by(rw[<- hh,<- es];exact Zw _ rfl)
 have mo:∀t its,IsTup s.heap t its->IsTup h5 t its:=by(intro t its x;rw[<- hh];exact(D1 (Zw _ rfl) rfl (x.push _)).push _)
 have ri:∀l:List Value,(∀x∈l,x∈vs)->Rise h5 l->Rise s.heap l:=λl _ r=>List.Pairwise.imp (λq k m hk hm=>q k m (hk.mono mo) (hm.mono mo)) r
 show wpAny _ _ _ _ _ { s with heap:=h5 };rw[es];refine Zt (wpAny_holding (wpAny_call_entry slot_list_sort ⟨_,g5,rfl⟩ entry_list_sort (N4 (s:={ s with heap:=h5 }) g5 hz (λx hx=>⟨_,(hv x hx).choose_spec.mono mo⟩) (by show A.units+1+1+8<_;omega) λout p r=>⟨_,rfl,Zu ⟨_,rfl, ?_⟩⟩) (args_list_sort _)))
 have:=h out p (ri _ (λx hx=>p.mem_iff.mp hx) r)
 unfold sortedAll at this;rw[hh] at this;exact this
end
theorem EB(h:Heap)(vs:List Value)(out:Array Value):∃e h4,sortedAll h vs out=(h4:Heap).update (h.objs.size+1) (Obj.mapSeq λ_=>out)/\h4.get? (h.objs.size+1)=some (seqObj "list" #[] e)/\∀b o,h.get? b=some o->h4.get? b=some o:=by
 have es:((h.push (seqObj "list" #[] 0)).update h.objs.size (Obj.mapSeq (· ++ vs.toArray))).objs.size=h.objs.size+1:=by rw[Heap.size_update,size_push']
 unfold sortedAll sortedHeap;generalize h1:(h.push (seqObj "list" #[] 0)).update h.objs.size (Obj.mapSeq (· ++ vs.toArray))=x at es;have g2:(x.push (seqObj "list" vs.toArray 0)).get? (h.objs.size+1)=some (seqObj "list" vs.toArray 0):=by rw[<- es];exact Zw _ rfl
 refine⟨_,_,rfl,Zd _ (Zd _ (get?_update_seq g2 _)),λb o e=>Zd _ (Zd _ (rW _ ?_ (Zd _ ?_)))⟩
 ·exact Zz (Nat.lt_succ_of_lt (Zv e))
 ·rw[<- h1];exact rW _ (Zz (Zv e)) (Zd _ e)
theorem all_kept(h:Heap)(vs:List Value)(out:Array Value):∀b o,h.get? b=some o->(sortedAll h vs out).get? b=some o:=by
 intro b o e;obtain⟨n,h4,e1,e2,e3⟩:=EB h vs out;rw[e1];exact rW _ (Zz (Nat.lt_succ_of_lt (Zv e))) (e3 b o e)
theorem all_at(h:Heap)(vs:List Value)(out:Array Value):∃n,(sortedAll h vs out).get? (h.objs.size+1)=some { cls:=.type "list",data:=.seq out.toList.toArray n }:=by
 obtain⟨n,h4,e1,e2,e3⟩:=EB h vs out;rw[e1];exact⟨_,get?_update_seq e2 _⟩
end CS
namespace L2
open PySem PySem.Spec PyProof.Rows
abbrev SXs:=List (CF×Addr×Value)
noncomputable def hS(k:CF):Int:=reduceHash (Builtin.Tuple.tupleHashOf [hashInt k.1,reduceHash (Builtin.Tuple.tupleHashOf (k.2.map hashInt))])
def aEg(x:CF×Addr×Value):DictEntry:={ hash:=hS x.1,key:=.ref x.2.1,val:=x.2.2 }
def aDG(a:Addr)(xs:SXs)(h:Heap):Prop:=∃o es ep,h.get? a=some o/\o.ExactDict/\o.data=.dict es ep/\es.toList=xs.map aEg
def aBZ(K:Frag)(H:Hp)(k:CF)(b:Addr):Prop:=∃c,cK K H b [.int k.1,.ref c]/\cK K H c (k.2.map V.int)
structure DS(K:Frag)(H:Hp)(a:Addr)(xs:SXs):Prop where
 at_:H a=some (.ext (aDG a xs))
 nd:(xs.map (·.1)).Nodup
 len:xs.length<=sizeLine
 sm:(a==sysModules)=false
 keys:∀x∈xs,aBZ K H x.1 x.2.1
section
variable{X:Cx}{pins:List (Addr×Obj)}{σ:St}{H:Hp}{s:Shared}{a b:Addr}{xs:SXs}{k:CF}{A:Around}{E:Value->Shared->Prop}
end
end L2
namespace HT
open PySem PySem.Spec PyProof.Rows
section
variable{prog:Program}{w:World}{A:Around}{E:Value->Shared->Prop}{s:Shared}
end
end HT
namespace L2
open PySem PySem.Spec PyProof.Rows
section
variable{X:Cx}{e st:Expr}{te tst:TE}{pos p2:Pos}
end
end L2
namespace CI
open PySem PySem.Spec PyProof.Rows L2
section
variable{X:Cx}{pins:List (Addr×Obj)}{σ:L2.St}{H H':Hp}{s:Shared}{h':Heap}{a C:Addr}
variable{M:Model}{A:Around}{E:Value->Shared->Prop}{Q:Unit->Shared->Prop}
end
section
variable{X:Cx}{pins:List (Addr×Obj)}{σ:L2.St}{H:Hp}{s s':Shared}
end
abbrev bmV:List Value:=[.type "ValueError",.type "Exception",.type "BaseException",.type "object"]
structure ExcN(K:Frag)(mg:Str->Option Value)(c:Str):Prop where
 ex:∃C,nsIn K mainGlobals c=some (some (.ref C))/\mg c=some (.ref C)/\PySem.W.excIn K C bmV "ValueError.__new__"=true
section
variable{X:Cx}{pins:List (Addr×Obj)}{σ:L2.St}{H:Hp}{s:Shared}{h':Heap}{a C:Addr}
end
end CI
namespace CI
open PySem PySem.Spec PySem.Calls PyProof.Rows L2 PySem.W PySem.Builtin PySem.Builtin.ObjectAttr PySem.Builtin.Getset_descriptor
structure ExcG(K:Frag)(C:Addr):Prop where
 q:excIn K C bmV "ValueError.__new__"=true
 ga:findIn K (.ref C) "__getattribute__"=some (some (.builtin "BaseException.__getattribute__"))
 no:findIn K (.ref C) "__getattr__"=some none
 cl:findIn K (.ref C) "__class__"=some (some (.builtin "object.__class__"))
 gt:specialIn K (.builtin "object.__class__") "__get__"=some (some (.builtin "getset_descriptor.__get__"))
 tk:takesIn K (.builtin "object.__class__")=some true
 mo:mroIn K C (.type "object")=some true
 mb:mroIn K C (.type "BaseException")=some true
 mv:mroIn K C (.type "ValueError")=some true
section
variable{prog:Program}{w:World}{A:Around}{E:Value->Shared->Prop}{s:Shared}{K:Frag}{a C:Addr}
end
end CI
namespace L2
open PySem PySem.Spec PyProof.Rows
noncomputable def Its(x:Str):It:=⟨λi _=>i<x.cps.size,λi H v H'=>H'=H/\∃c,x.cps[i]?=some c/\v=.str ⟨#[c]⟩,λi _=>x.cps.size<=i⟩
section
variable{X:Cx}{tg:Expr}
end
end L2
namespace CI
open PySem
inductive D where
 |non | bl (b:Bool) | int (i:Int) | str (x:Str) | tup (ds:List D) | lst (ds:List D)
 |ins (c:Str) (ns:List Str) (ds:List D) | dct (kvs:List (Int×Int)) | exn (c:Str) | dcs (kvs:List ((Int×List Int)×Int))
 deriving Inhabited
inductive RV where
 |sh (d:D) | ow (d:D) | od (d:D)
def RV.d:RV->D
 |.sh d=>d
 |.ow d=>d
 |.od d=>d
def RV.low:RV->RV
 |.od d=>.ow d
 |v=>v
inductive Sl where
 |un | mv | sh (d:D) | ow (d:D) (pin lk:Bool)
def Sl.get:Sl->Option D
 |.un=>none
 |.mv=>none
 |.sh d=>some d
 |.ow d _ _=>some d
structure Exc where
 cls:Str
inductive Out(α:Type) where
 |ok (a:α) | ex (e:Exc)
abbrev Env:=List Sl
abbrev aM(α:Type):=Option (Out α×Env)
noncomputable def aM.bind{α β:Type}(r:aM α)(f:α->Env->aM β):aM β :=
 match r with
 |none=>none
 |some (.ex e,ρ)=>some (.ex e,ρ)
 |some (.ok a,ρ)=>f a ρ
inductive Hd where
 |slot (i:Nat) | val (v:RV)
def Hd.get(h:Hd)(ρ:Env):Option D :=
 match h with
 |.slot i=>(ρ[i]?).bind Sl.get
 |.val v=>some v.d
noncomputable def getAll:List Hd->Env->Option (List D)
 |[],_=>some []
 |h::r,ρ=>(h.get ρ).bind λd=>(getAll r ρ).map (d :: ·)
inductive Ty where
 |int | bool | str | list | tuple | dict | cls (c:Nat) | verr
inductive BI where
 |len | abs | int | list | tuple | min | max | all | repr | str | sorted
 deriving DecidableEq
inductive ItK where
 |rng | of | enum (lo:Int) | sig
 deriving DecidableEq
set_option genSizeOf false
set_option genInjectivity false
inductive E where
 |bad | omt
 |var (i:Nat)
 |con (d:D)
 |tup (es:List E) | lst (es:List E)
 |bin (op:Operator) (a b:E)
 |neg (a:E) | not (a:E)
 |cmp (op:CmpOp) (a b:E)
 |cmp2 (op op':CmpOp) (a b c:E)
 |and (a b:E) | or (a b:E)
 |ite (c a b:E)
 |ix (a i:E)
 |sl (a lo hi:E)
 |rev (a:E)
 |call (f:String) (args:List E)
 |bif (f:BI) (args:List E)
 |isi (a:E) (ts:List Ty)
 |isC (a:E) (s n:List Str)
 |isX (a:E) (sn:List (List Str×List Str))
 |app (i:Nat) (a:E)
 |ext (i:Nat) (a:E)
 |dict (kvs:List (Int×Int))
 |dict1 (k:E) (n:Int)
 |insr (i:Nat) (k a:E) | popi (i:Nat) (k:E)
 |frz (i:Nat)
 |bitl (a:E)
 |mkset (a:E) | nset (a:E)
 |joi (s:Str) (a:E) | spl (i:Nat) (s:Str) | stw (i:Nat) (s:Str)
 |mkrng (es:List E) | lrng (es:List E)
 |fld (a:E) (f:Str)
 |make (c:Str) (ns:List Str) (args:List E)
 |meth (i:Nat) (m:Str) (tb:List (Str×String)) (args:List E)
 |methE (a:E) (m:Str) (tb:List (Str×String)) (args:List E)
 |comp (elt:E) (tg:List Nat) (k:ItK) (its:List E) (cond:List E) (imp:List Nat) (nl:Nat)
inductive S where
 |bad | pass | brk | cnt
 |asg (i:Nat) (e:E)
 |asgT (is:List Nat) (e:E)
 |set (i:Nat) (k e:E)
 |expr (e:E)
 |ret (e:E) | retN
 |ifs (c:E) (a b:List S)
 |for (tg:List Nat) (one:Bool) (k:ItK) (its:List E) (body:List S)
 |whl (c:E) (body:List S)
 |rse (c:Str) (args:List E)
 |tryA (body:List S) (cs:List Str) (i j:Nat)
 |tryB (body:List S) (cs:List Str) (i:Nat) (ss:List S)
 |tryN (body:List S) (cs:List Str)
 |tryO (body:List S)
 |aug (i:Nat) (e:E)
 |retD (elt:E) (tg:List Nat) (k:ItK) (its:List E) (imp:List Nat) (nl:Nat)
 |scr (i j:Nat) (e c:E)
set_option genInjectivity true
noncomputable def bA:Nat->D->Bool
 |_,.non=>true
 |_,.bl _=>true
 |_,.int _=>true
 |_,.str _=>true
 |n+1,.tup ds=>ds.all (bA n)
 |n+1,.lst ds=>ds.all (bA n)
 |_,_=>false
mutual
noncomputable def d5:D->D->Bool
 |.non,.non=>true
 |.bl a,.bl b=>a==b
 |.bl a,.int b=>(if a then 1 else 0)==b
 |.int a,.bl b=>a==(if b then 1 else 0)
 |.int a,.int b=>a==b
 |.str a,.str b=>a==b
 |.tup a,.tup b=>kU a b
 |.lst a,.lst b=>kU a b
 |_,_=>false
noncomputable def kU:List D->List D->Bool
 |[],[]=>true
 |a::as,b::bs=>d5 a b&&kU as bs
 |_,_=>false
end
noncomputable def cl(p:Prop):Decidable p:=Classical.propDecidable p
noncomputable section
noncomputable def hW:D->Option Bool
 |.non=>some false
 |.bl b=>some b
 |.int i=>some (i != 0)
 |.str x=>@ite _ (x.length<=1000000) (cl _) (some ((x.length:Int) != 0)) none
 |.tup ds=>some (!ds.isEmpty)
 |.lst ds=>some (!ds.isEmpty)
 |_=>none
def aP(n:Nat):Bool:=@decide (n<=1000000) (cl _)
noncomputable def fC:Operator->D->D->Option RV
 |.Add,.int i,.int j=>some (.sh (.int (i+j)))
 |.Sub,.int i,.int j=>some (.sh (.int (i-j)))
 |.Mult,.int i,.int j=>@ite _ ((-(2 ^ 64)<i/\i<2 ^ 64)\/(-(2 ^ 64)<j/\j<2 ^ 64)) (cl _) (some (.sh (.int (i*j)))) none
 |.FloorDiv,.int i,.int j=>@ite _ (0<j/\j<nofun) (cl _) (some (.sh (.int (i / j)))) none
 |.Mod,.int i,.int j=>@ite _ (0<j) (cl _) (some (.sh (.int (i % j)))) none
 |.LShift,.int i,.int j=>@ite _ (0<=j/\j<=1000/\i.natAbs<2 ^ 64) (cl _) (some (.sh (.int (i*2 ^ j.toNat)))) none
 |.RShift,.int i,.int j=>@ite _ (0<=j) (cl _) (some (.sh (.int (i / 2 ^ j.toNat)))) none
 |.BitAnd,.int i,.int j=>some (.sh (.int (Builtin.bitAnd i j)))
 |.Add,.lst xs,.lst ys=>if aP (xs.length+ys.length) then some (.ow (.lst (xs++ys))) else none
 |.Add,.tup [],.tup ys=>some (.sh (.tup ys))
 |.Add,.tup (x::xs),.tup ys=>if aP (xs.length+1+ys.length) then some (.sh (.tup (x::xs++ys))) else none
 |_,_,_=>none
def cV:D->Bool
 |.non=>true | .bl _=>true | .int _=>true | .str _=>true
 |_=>false
def BK(x:D)(ds:List D):Bool:=ds.any λy=>d5 y x
noncomputable def aDF(kvs:List (Int×Int))(n m:Int):List (Int×Int):=if(kvs.any λp=>decide (p.1=n))=true then kvs.map (λp=>if p.1=n then(p.1,m) else p) else kvs++[(n,m)]
def fF:List D->Option (List Int)
 |[]=>some []
 |.int i::r=>(fF r).map (i :: ·)
 |_=>none
def OL:D->Option (Int×List Int)
 |.tup [.int t,.tup ds]=>(fF ds).map λns=>(t,ns)
 |_=>none
noncomputable def aBK(kvs:List ((Int×List Int)×Int))(k:Int×List Int):Option Int:=(kvs.find? λp=>decide (p.1=k)).map (·.2)
noncomputable def aEs(kvs:List ((Int×List Int)×Int))(k:Int×List Int)(m:Int):List ((Int×List Int)×Int):=if(aBK kvs k).isSome=true then kvs.map (λp=>if p.1=k then(p.1,m) else p) else kvs++[(k,m)]
noncomputable def bX:CmpOp->D->D->Option Bool
 |.Eq,x,y=>if bA 20 x&&bA 20 y then some (d5 x y) else none
 |.NotEq,x,y=>if bA 20 x&&bA 20 y then some (!d5 x y) else none
 |.Lt,.int i,.int j=>some (decide (i<j))
 |.LtE,.int i,.int j=>some (decide (i<=j))
 |.Gt,.int i,.int j=>some (decide (j<i))
 |.GtE,.int i,.int j=>some (decide (j<=i))
 |.Is,.bl a,.bl b=>some (a==b)
 |.Is,.non,.non=>some true
 |.Is,_,.non=>some false
 |.IsNot,.non,.non=>some false
 |.IsNot,_,.non=>some true
 |.In,x,.tup ds=>if cV x&&ds.all cV then some (BK x ds) else none
 |.In,x,.lst ds=>if cV x&&ds.all cV then some (BK x ds) else none
 |_,_,_=>none
def atD(ds:List D)(i:Int):Option D:=L2.cG ds i
noncomputable def LX:D->D->Option D
 |.tup ds,.int i=>atD ds i
 |.lst ds,.int i=>atD ds i
 |.str x,.int i=>@ite _ (x.length<=1000000) (cl _) ((L2.cG x.cps.toList i).map λc=>.str ⟨#[c]⟩) none
 |_,_=>none
noncomputable def rC(ds:List D)(lo hi:Option Int):List D:=(ds.drop (HT.bO ds.length 0 lo)).take (HT.bO ds.length ds.length hi-HT.bO ds.length 0 lo)
def lQ:Option D->Option (Option Int)
 |none=>some none
 |some (.int i)=>some (some i)
 |_=>none
noncomputable def QS:D->Option Int->Option Int->Option RV
 |.lst ds,lo,hi=>some (.ow (.lst (rC ds lo hi)))
 |.tup ds,lo,hi=>if HT.bO ds.length 0 lo=0/\HT.bO ds.length ds.length hi=ds.length then none else some (.sh (.tup (rC ds lo hi)))
 |_,_,_=>none
def aDC:D->Option RV
 |.tup ds=>some (.sh (.tup ds.reverse))
 |_=>none
def eH:List D->Option (List Bool)
 |[]=>some []
 |.bl b::r=>(eH r).map (b :: ·)
 |_=>none
mutual
noncomputable def d6:D->PyData
 |.non=>.none
 |.bl b=>.bool b
 |.int i=>.int i
 |.str x=>.str x
 |.tup ds=>.tuple (gT ds)
 |.lst ds=>.list (gT ds)
 |.ins _ _ _=>.none
 |.dct _=>.none
 |.exn _=>.none
 |.dcs _=>.none
noncomputable def gT:List D->List PyData
 |[]=>[]
 |d::ds=>d6 d::gT ds
end
def gH:D->Option (List Int)
 |.tup [.int b,.int r,.tup ds]=>(fF ds).map λns=>b::r::ns
 |_=>none
def kD(d:D):List Int:=(gH d).getD []
def wN(x:D):List D->List D
 |[]=>[x]
 |y::l=>if HT.bT (kD y) (kD x) then y::wN x l else x::y::l
def jD(ds:List D):List D:=ds.foldr wN []
noncomputable def lK:BI->List D->Option RV
 |.len,[.lst ds]=>some (.sh (.int ds.length))
 |.len,[.tup ds]=>some (.sh (.int ds.length))
 |.len,[.str x]=>@ite _ (x.length<=1000000) (cl _) (some (.sh (.int x.length))) none
 |.abs,[.int i]=>some (.sh (.int (if i<0 then -i else i)))
 |.int,[.int i]=>some (.sh (.int i))
 |.int,[.bl b]=>some (.sh (.int (if b then 1 else 0)))
 |.list,[.lst ds]=>some (.ow (.lst ds))
 |.list,[.tup ds]=>some (.ow (.lst ds))
 |.tuple,[.lst ds]=>some (.sh (.tup ds))
 |.tuple,[.tup ds]=>some (.sh (.tup ds))
 |.all,[.lst ds]=>(eH ds).map λbs=>.sh (.bl (bs.all id))
 |.sorted,[.lst ds]=>if(ds.all λd=>(gH d).isSome)=true then some (.ow (.lst (jD ds))) else none
 |_,_=>none
noncomputable def aEk:Ty->D->Option Bool
 |.int,d=>match d with
  |.int _=>some true | .bl _=>some true | .non=>some false | .str _=>some false | .tup _=>some false | .lst _=>some false
  |_=>none
 |.bool,d=>match d with
  |.bl _=>some true | .int _=>some false | .non=>some false | .str _=>some false | .tup _=>some false | .lst _=>some false
  |_=>none
 |.str,d=>match d with
  |.str _=>some true | .bl _=>some false | .int _=>some false | .non=>some false | .tup _=>some false | .lst _=>some false
  |_=>none
 |.list,d=>match d with
  |.lst _=>some true | .bl _=>some false | .int _=>some false | .non=>some false | .tup _=>some false | .str _=>some false
  |_=>none
 |.tuple,d=>match d with
  |.tup _=>some true | .bl _=>some false | .int _=>some false | .non=>some false | .lst _=>some false | .str _=>some false
  |_=>none
 |.verr,d=>match d with
  |.exn _=>some true
  |_=>none
 |_,_=>none
noncomputable def QT:List Ty->D->Option Bool
 |[],_=>some false
 |t::r,d=>(aEk t d).bind λb=>(QT r d).map λc=>b||c
noncomputable def aDu(s n:List Str):D->Option RV
 |.ins c _ _=>if s.contains c then some (.sh (.bl true)) else if n.contains c then some (.sh (.bl false)) else none
 |_=>none
noncomputable def aAq(c:Str):List (List Str×List Str)->Option Bool
 |[]=>some false
 | (s,n)::r=>if s.contains c then some true else if n.contains c then aAq c r else none
def aEa(sn:List (List Str×List Str)):D->Option RV
 |.exn c=>(aAq c sn).map λb=>.sh (.bl b)
 |_=>none
def aDD:D->Option RV
 |.int i=>some (.sh (.int (Builtin.Int.intBits i)))
 |_=>none
noncomputable def aCN:D->Option RV
 |.lst ds=>match fF ds with
  |some is=>@ite _ (is.length<=1000) (cl _) (some (.sh (.int (PyProof.Rows.firstMet (λi=>is.getD i 0) is.length).length))) none
  |none=>none
 |_=>none
noncomputable def rY:List D->Option RV
 |[.int j]=>@ite _ (-1000000<=j/\j<=1000000) (cl _) (some (.ow (.lst ((List.range (j-0).toNat).map λ(n:Nat)=>.int (0+(n:Int)))))) none
 |[.int i,.int j]=>@ite _ ((-1000000<=i/\i<=1000000)/\(-1000000<=j/\j<=1000000)) (cl _) (some (.ow (.lst ((List.range (j-i).toNat).map λ(n:Nat)=>.int (i+(n:Int)))))) none
 |_=>none
def PX:D->Str->Option D
 |.ins _ ns ds,f=>(ns.zip ds).lookup f
 |_,_=>none
noncomputable def eQ(c:Str)(ns:List Str)(m:Str)(tb:List (Str×String)):Option String:=if ns.contains m then none else tb.lookup c
noncomputable def bE(t:Bool)(r:aM RV):aM RV :=
 match t with
 |false=>r
 |true=>r.bind λv ρ=>(hW v.d).map λb=>(.ok (.sh (.bl b)),ρ)
noncomputable def hd(e:E)(r:aM RV)(ρ:Env):aM Hd :=
 match e with
 |.var i=>if((ρ[i]?).bind Sl.get).isSome then some (.ok (.slot i),ρ) else none
 |_=>r.bind λv ρ'=>some (.ok (.val v.low),ρ')
def A5:E->Bool
 |.omt=>true
 |_=>false
noncomputable def xH(e:E)(r:aM RV)(ρ:Env):aM (Option D) :=
 if A5 e then some (.ok none,ρ) else r.bind λv ρ'=>some (.ok (some v.d),ρ')
noncomputable def nU(op:Operator)(x:Hd)(d:D):Bool :=
 match op,d with
 |.Mult,.lst _=>match x with
  |.val (.ow _)=>true
  |_=>false
 |_,_=>true
def gW(ρ:Env)(i:Nat):Bool :=
 match ρ[i]? with
 |some (.ow (.lst _) _ _)=>true
 |_=>false
def aDJ(ρ:Env)(i:Nat):Bool :=
 match ρ[i]? with
 |some (.ow (.dcs _) _ _)=>true
 |_=>false
def aDW(ρ:Env)(i:Nat):Bool :=
 match ρ[i]? with
 |some (.ow (.dct _) _ _)=>true
 |_=>false
noncomputable def wF(i:Nat)(ρ:Env):aM RV :=
 match ρ[i]? with
 |some (.sh d)=>some (.ok (.sh d),ρ)
 |some (.ow d false false)=>some (.ok (.sh d),ρ.set i (.sh d))
 |_=>none
def done(o:Option RV)(ρ:Env):aM RV:=o.map λv=>(.ok v,ρ)
noncomputable def store(i:Nat)(v:RV)(ρ:Env):Option Env :=
 match ρ[i]? with
 |none=>none
 |some (.ow _ true _)=>none
 |some (.ow _ _ true)=>none
 |some _=>match v with
  |.sh d=>some (ρ.set i (.sh d))
  |.ow d=>some (ρ.set i (.ow d false false))
  |.od _=>none
noncomputable def dN:List Nat->List D->Env->Option Env
 |[],[],ρ=>some ρ
 |i::is,d::ds,ρ=>(store i (.sh d) ρ).bind (dN is ds)
 |_,_,_=>none
noncomputable def aY(one:Bool)(tg:List Nat)(d:D)(ρ:Env):Option Env :=
 match one,tg,d with
 |true,[i],d=>store i (.sh d) ρ
 |false,is,.tup ds=>dN is ds ρ
 |_,_,_=>none
abbrev Calls:=String->List Sl->aM RV
noncomputable def bP(pins:List Bool)(hs:List Hd)(ρ:Env):Option (List Sl×Env) :=
 match pins,hs with
 |[],[]=>some ([],ρ)
 |p::ps,.val (.sh d)::r=>(bP ps r ρ).map λ(as,ρ')=>(.sh d::as,ρ')
 |p::ps,.val (.ow d)::r=>(bP ps r ρ).map λ(as,ρ')=>((if p then .ow d true false else .sh d)::as,ρ')
 |p::ps,.slot i::r =>
  match ρ[i]? with
  |some (.sh d)=>(bP ps r ρ).map λ(as,ρ')=>(.sh d::as,ρ')
  |some (.ow d pin lk) =>
   match p with
   |true=>(bP ps r (ρ.set i .un)).map λ(as,ρ')=>(.ow d true lk::as,ρ')
   |false=>if pin||lk then none else(bP ps r (ρ.set i (.sh d))).map λ(as,ρ')=>(.sh d::as,ρ')
  |_=>none
 |_,_=>none
noncomputable def bG(pins:List Bool)(hs:List Hd)(as:List Sl)(ρ0 ρ:Env):Option Env :=
 match pins,hs,as with
 |[],[],[]=>some ρ
 |true::ps,.slot i::r,a::as =>
  match ρ0[i]?,a with
  |some (.ow _ pin lk),.ow d _ _=>bG ps r as ρ0 (ρ.set i (.ow d pin lk))
  |some (.ow _ _ _),_=>none
  |_,_=>bG ps r as ρ0 ρ
 |_::ps,_::r,_::as=>bG ps r as ρ0 ρ
 |_,_,_=>none
noncomputable def dJ(pins:List Bool)(f:List Sl->aM RV)(hs:List Hd)(ρ:Env):aM RV :=
 match bP pins hs ρ with
 |none=>none
 |some (as,ρ1) =>
  match f as with
  |none=>none
  |some (o,as')=>(bG pins hs as' ρ ρ1).map λρ'=>(o,ρ')
noncomputable def cW(lo:Int)(ds:List D):List D:=(List.range ds.length).map λ(j:Nat)=>.tup [.int (lo+(j:Int)),ds.getD j .non]
def AG(x:Str):List D:=x.cps.toList.map λc=>.str ⟨#[c]⟩
def QL:List D->Option (List Str)
 |[]=>some []
 |.str x::r=>(QL r).map (x :: ·)
 |_=>none
noncomputable def aCT(s:Str):D->Option RV
 |.lst ds=>match QL ds with
  |some ts=>@ite _ (JoinOk s ts=true/\PyData.strOk (Txt.join s ts)=true) (cl _) (some (.sh (.str (Txt.join s ts)))) none
  |none=>none
 |_=>none
noncomputable def aEm(s:Str)(ρ:Env)(o:Option Sl):aM RV:=match o with
 |some (.sh (.str x))=>@ite _ ((s.length==0)=false/\x.length<=1000000/\(Txt.split x s).all PyData.strOk=true) (cl _) (some (.ok (.ow (.lst ((Txt.split x s).map D.str))),ρ)) none
 |_=>none
noncomputable def aEn(s:Str)(ρ:Env)(o:Option Sl):aM RV:=match o with
 |some (.sh (.str x))=>some (.ok (.sh (.bl (Txt.startswith x s))),ρ)
 |_=>none
noncomputable def aE(k:ItK)(hs:List Hd)(ρ:Env):Option (List D×Option Nat) :=
 match k,hs with
 |.rng,[a]=>match a.get ρ with
  |some (.int n)=>@ite _ (-1000000<=n/\n<=1000000) (cl _) (some ((List.range n.toNat).map λ(j:Nat)=>.int (j:Int),none)) none
  |_=>none
 |.rng,[a,b]=>match a.get ρ,b.get ρ with
  |some (.int m),some (.int n)=>@ite _ ((-1000000<=m/\m<=1000000)/\(-1000000<=n/\n<=1000000)) (cl _) (some ((List.range (n-m).toNat).map λ(j:Nat)=>.int (m+(j:Int)),none)) none
  |_,_=>none
 |.enum lo,[.slot i]=>match ρ[i]? with
  |some (.ow (.lst ds) _ _)=>some (cW lo ds,some i)
  |some (.sh (.lst ds))=>some (cW lo ds,none)
  |_=>none
 |.enum lo,[.val v]=>match v.d with
  |.lst ds=>some (cW lo ds,none)
  |_=>none
 |.of,[.slot i]=>match ρ[i]? with
  |some (.ow (.lst ds) _ _)=>some (ds,some i)
  |some (.sh (.lst ds))=>some (ds,none)
  |some (.sh (.tup ds))=>some (ds,none)
  |_=>none
 |.of,[.val v]=>match v.d with
  |.lst ds=>some (ds,none)
  |.tup ds=>some (ds,none)
  |_=>none
 |_,_=>none
def aL(o:Option Nat)(ρ:Env):Env :=
 match o with
 |none=>ρ
 |some i=>ρ.set i .un
noncomputable def cC(o:Option Nat)(ρ0 ρ:Env):Option Env :=
 match o with
 |none=>some ρ
 |some i=>match ρ[i]?,ρ0[i]? with
  |some .un,some sl=>some (ρ.set i sl)
  |_,_=>none
noncomputable def c8(tests:Env->aM RV)(elt:Env->aM RV)(bind:D->Env->Option Env):List D->List D->Env->aM (List D)
 |[],acc,ρ=>some (.ok acc,ρ)
 |d::ds,acc,ρ=>match bind d ρ with
  |none=>none
  |some ρ1=>(tests ρ1).bind λc ρ2=>match c with
   |.sh (.bl true)=>(elt ρ2).bind λv ρ3=>c8 tests elt bind ds (acc++[v.d]) ρ3
   |.sh (.bl false)=>c8 tests elt bind ds acc ρ2
   |_=>none
noncomputable def back:List Sl->Env->List Sl
 |.ow _ _ _::as,b::bs=>b::back as bs
 |a::as,_::bs=>a::back as bs
 |_,_=>[]
def j8:Sl->Bool
 |.ow _ p _=>p
 |.sh _=>true
 |_=>false
noncomputable def lS(tests:Env->aM RV)(elt:Env->aM RV)(bind:D->Env->Option Env)(ds:List D)(nl:Nat)(as:List Sl):aM RV :=
 if as.all j8=true then(c8 tests elt bind ds [] (as++List.replicate nl .un)).bind λacc ρi =>
  if aP acc.length then some (.ok (.ow (.lst acc)),back as ρi) else none
 else none
def dW(o:Option Nat)(ρ1:Env)(v:RV)(ρ2:Env):aM RV:=(cC o ρ1 ρ2).map λρ'=>(.ok v,ρ')
structure Fn where
 pins:List Bool
 nl:Nat
 body:List S
 rs:Bool
abbrev aJ:=String->List Bool
mutual
noncomputable def ev(P:aJ)(C:Calls)(t:Bool):E->Env->aM RV
 |.bad,_=>none
 |.omt,_=>none
 |.var i,ρ=>match t with
  |true=>bE true (((ρ[i]?).bind Sl.get).map λd=>(.ok (.sh d),ρ))
  |false=>wF i ρ
 |.con d,ρ=>bE t (some (.ok (.sh d),ρ))
 |.tup es,ρ=>bE t ((k9 P C es ρ).bind λds ρ'=>if aP ds.length then some (.ok (.sh (.tup ds)),ρ') else none)
 |.lst es,ρ=>bE t ((k9 P C es ρ).bind λds ρ'=>if aP ds.length then some (.ok (.ow (.lst ds)),ρ') else none)
 |.bin op a b,ρ=>bE t ((hd a (ev P C false a ρ) ρ).bind λx ρ1=>(hd b (ev P C false b ρ1) ρ1).bind λy ρ2 =>
   done ((x.get ρ2).bind λd=>(y.get ρ2).bind λe=>if nU op x d then fC op d e else none) ρ2)
 |.neg a,ρ=>bE t ((ev P C false a ρ).bind λv ρ1=>match v.d with
  |.int i=>some (.ok (.sh (.int (-i))),ρ1)
  |_=>none)
 |.not a,ρ=>match t with
  |true=>(ev P C true a ρ).bind λv ρ1=>match v with
   |.sh (.bl b)=>some (.ok (.sh (.bl (!b))),ρ1)
   |_=>none
  |false=>(hd a (ev P C false a ρ) ρ).bind λx ρ1=>done ((x.get ρ1).bind λd=>(hW d).map λb=>.sh (.bl (!b))) ρ1
 |.cmp op a b,ρ=>(hd a (ev P C false a ρ) ρ).bind λx ρ1=>(hd b (ev P C false b ρ1) ρ1).bind λy ρ2 =>
   done ((x.get ρ2).bind λd=>(y.get ρ2).bind λe=>(bX op d e).map λb=>.sh (.bl b)) ρ2
 |.cmp2 op op' a b c,ρ=>(hd a (ev P C false a ρ) ρ).bind λx ρ1=>(hd b (ev P C false b ρ1) ρ1).bind λy ρ2 =>
   match (x.get ρ2).bind λd=>(y.get ρ2).bind λe=>bX op d e with
   |none=>none
   |some false=>some (.ok (.sh (.bl false)),ρ2)
   |some true=>(hd c (ev P C false c ρ2) ρ2).bind λz ρ3 =>
    done ((y.get ρ3).bind λd=>(z.get ρ3).bind λe=>(bX op' d e).map λb=>.sh (.bl b)) ρ3
 |.and a b,ρ=>(ev P C t a ρ).bind λv ρ1=>match v with
  |.sh (.bl true)=>ev P C t b ρ1
  |.sh (.bl false)=>some (.ok (.sh (.bl false)),ρ1)
  |_=>none
 |.or a b,ρ=>(ev P C t a ρ).bind λv ρ1=>match v with
  |.sh (.bl true)=>some (.ok (.sh (.bl true)),ρ1)
  |.sh (.bl false)=>ev P C t b ρ1
  |_=>none
 |.ite c a b,ρ=>(ev P C true c ρ).bind λv ρ1=>match v with
  |.sh (.bl true)=>ev P C t a ρ1
  |.sh (.bl false)=>ev P C t b ρ1
  |_=>none
 |.ix a i,ρ=>bE t ((hd a (ev P C false a ρ) ρ).bind λx ρ1=>(ev P C false i ρ1).bind λk ρ2 =>
   done ((x.get ρ2).bind λd=>(LX d k.d).map .sh) ρ2)
 |.sl a lo hi,ρ=>bE t ((hd a (ev P C false a ρ) ρ).bind λx ρ1 =>
   (xH lo (ev P C false lo ρ1) ρ1).bind λl ρ2=>(xH hi (ev P C false hi ρ2) ρ2).bind λh ρ3 =>
   done ((x.get ρ3).bind λd=>(lQ l).bind λl=>(lQ h).bind λh=>QS d l h) ρ3)
 |.rev a,ρ=>bE t ((hd a (ev P C false a ρ) ρ).bind λx ρ1=>done ((x.get ρ1).bind aDC) ρ1)
 |.call f es,ρ=>bE t ((bZ P C es ρ).bind λhs ρ1=>dJ (P f) (C f) hs ρ1)
 |.bif f es,ρ=>bE t ((bZ P C es ρ).bind λhs ρ1=>done ((getAll hs ρ1).bind (lK f)) ρ1)
 |.isi a ts,ρ=>bE t ((hd a (ev P C false a ρ) ρ).bind λx ρ1 =>
   done ((x.get ρ1).bind λd=>(QT ts d).map λb=>.sh (.bl b)) ρ1)
 |.isX a sn,ρ=>bE t ((hd a (ev P C false a ρ) ρ).bind λx ρ1=>done ((x.get ρ1).bind (aEa sn)) ρ1)
 |.isC a s n,ρ=>bE t ((hd a (ev P C false a ρ) ρ).bind λx ρ1=>done ((x.get ρ1).bind (aDu s n)) ρ1)
 |.app i a,ρ=>bE t (if gW ρ i then(ev P C false a ρ).bind λv ρ1=>match ρ1[i]? with
  |some (.ow (.lst ds) p false)=>if aP (ds.length+1) then some (.ok (.sh .non),ρ1.set i (.ow (.lst (ds++[v.d])) p false)) else none
  |_=>none
  else none)
 |.popi i k,ρ=>bE t (if gW ρ i then(ev P C false k ρ).bind λj ρ1=>match ρ1[i]?,j with
  |some (.ow (.lst ds) p false),.sh (.int n)=>@ite _ (0<=n/\n<=1000000) (cl _) ((ds[n.toNat]?).map λd=>(.ok (.sh d),ρ1.set i (.ow (.lst (ds.eraseIdx n.toNat)) p false))) none
  |_,_=>none
  else none)
 |.insr i k a,ρ=>bE t (if gW ρ i then(ev P C false k ρ).bind λj ρ1=>(ev P C false a ρ1).bind λv ρ2=>match ρ2[i]?,j with
  |some (.ow (.lst ds) p false),.sh (.int n)=>@ite _ ((0<=n/\n<=1000000)/\aP (ds.length+1)=true) (cl _) (some (.ok (.sh .non),ρ2.set i (.ow (.lst (ds.take n.toNat++v.d::ds.drop n.toNat)) p false))) none
  |_,_=>none
  else none)
 |.dict kvs,ρ=>bE t (some (.ok (.ow (.dct kvs)),ρ))
 |.dict1 a n,ρ=>bE t ((ev P C false a ρ).bind λv ρ1=>match OL v.d with
  |some k=>some (.ok (.ow (.dcs [(k,n)])),ρ1)
  |none=>none)
 |.ext i a,ρ=>bE t (if gW ρ i then(ev P C false a ρ).bind λv ρ1=>match ρ1[i]?,v with
  |some (.ow (.lst ds) p false),.ow (.lst es)=>if aP (ds.length+es.length) then some (.ok (.sh .non),ρ1.set i (.ow (.lst (ds++es)) p false)) else none
  |_,_=>none
  else none)
 |.frz i,ρ=>bE t (wF i ρ)
 |.bitl a,ρ=>bE t ((hd a (ev P C false a ρ) ρ).bind λx ρ1=>done ((x.get ρ1).bind aDD) ρ1)
 |.mkset _,_=>none
 |.mkrng _,_=>none
 |.lrng es,ρ=>bE t ((bZ P C es ρ).bind λhs ρ1=>done ((getAll hs ρ1).bind rY) ρ1)
 |.joi s a,ρ=>bE t ((hd a (ev P C false a ρ) ρ).bind λx ρ1=>done ((x.get ρ1).bind (aCT s)) ρ1)
 |.spl i s,ρ=>bE t (aEm s ρ ρ[i]?)
 |.stw i s,ρ=>bE t (aEn s ρ ρ[i]?)
 |.nset a,ρ=>bE t ((hd a (ev P C false a ρ) ρ).bind λx ρ1=>done ((x.get ρ1).bind aCN) ρ1)
 |.fld a f,ρ=>bE t ((hd a (ev P C false a ρ) ρ).bind λx ρ1=>done ((x.get ρ1).bind λd=>(PX d f).map .sh) ρ1)
 |.make c ns es,ρ=>bE t ((k9 P C es ρ).bind λds ρ1=>if ds.length=ns.length then some (.ok (.sh (.ins c ns ds)),ρ1) else none)
 |.meth i m tb es,ρ=>bE t (match ρ[i]? with
  |some (.sh (.ins c ns ds))=>(match eQ c ns m tb with
   |some f=>(bZ P C es ρ).bind λhs ρ1=>dJ (P f) (C f) (.val (.sh (.ins c ns ds))::hs) ρ1
   |none=>none)
  |_=>none)
 |.methE a m tb es,ρ=>bE t ((ev P C false a ρ).bind λv ρ0=>match v with
  |.sh (.ins c ns ds)=>(match eQ c ns m tb with
   |some f=>(bZ P C es ρ0).bind λhs ρ1=>dJ (P f) (C f) (.val (.sh (.ins c ns ds))::hs) ρ1
   |none=>none)
  |_=>none)
 |.comp elt tg k its cond imp nl,ρ=>bE t ((bZ P C its ρ).bind λhs ρ1 =>
   match aE k hs ρ1 with
   |none=>none
   |some (ds,o)=>(dJ (imp.map λ_=>true) (lS (cI P C cond) (ev P C false elt) (aY (tg.length==1) tg) ds nl) (imp.map Hd.slot) (aL o ρ1)).bind (dW o ρ1))
noncomputable def k9(P:aJ)(C:Calls):List E->Env->aM (List D)
 |[],ρ=>some (.ok [],ρ)
 |e::es,ρ=>(ev P C false e ρ).bind λv ρ1=>(k9 P C es ρ1).bind λds ρ2=>some (.ok (v.d::ds),ρ2)
noncomputable def bZ(P:aJ)(C:Calls):List E->Env->aM (List Hd)
 |[],ρ=>some (.ok [],ρ)
 |e::es,ρ=>(hd e (ev P C false e ρ) ρ).bind λv ρ1=>(bZ P C es ρ1).bind λds ρ2=>some (.ok (v::ds),ρ2)
noncomputable def cI(P:aJ)(C:Calls):List E->Env->aM RV
 |[],ρ=>some (.ok (.sh (.bl true)),ρ)
 |e::es,ρ=>(ev P C true e ρ).bind λv ρ1=>match v with
  |.sh (.bl true)=>cI P C es ρ1
  |.sh (.bl false)=>some (.ok (.sh (.bl false)),ρ1)
  |_=>none
end
mutual
noncomputable def QZ(P:aJ)(C:Calls):E->Env->Option (Exc×Env)
 |.call f es,ρ=>match bZ P C es ρ with
  |some (.ok hs,ρ1)=>match dJ (P f) (C f) hs ρ1 with
   |some (.ex x,ρ')=>some (x,ρ')
   |_=>none
  |_=>ZX P C es ρ
 |_,_=>none
noncomputable def ZX(P:aJ)(C:Calls):List E->Env->Option (Exc×Env)
 |[],_=>none
 |e::es,ρ=>match hd e (ev P C false e ρ) ρ with
  |some (.ok _,ρ1)=>ZX P C es ρ1
  |_=>QZ P C e ρ
end
inductive Fl where
 |nx | bk | ct | rt (v:RV) | ex (e:Exc)
abbrev bS:=Option (Fl×Env)
noncomputable def aM.flow{α:Type}(r:aM α)(f:α->Env->bS):bS :=
 match r with
 |none=>none
 |some (.ex e,ρ)=>some (.ex e,ρ)
 |some (.ok a,ρ)=>f a ρ
def bS.next(r:bS)(f:Env->bS):bS :=
 match r with
 |some (.nx,ρ)=>f ρ
 |r=>r
noncomputable def bS.restore(r:bS)(o:Option Nat)(ρ0:Env):bS :=
 match r with
 |none=>none
 |some (fl,ρ)=>(cC o ρ0 ρ).map λρ'=>(fl,ρ')
def i8(o:Option Env):bS:=o.map λρ=>(.nx,ρ)
noncomputable def cF(bind:D->Env->Option Env)(body:Env->bS):List D->Env->bS
 |[],ρ=>some (.nx,ρ)
 |d::ds,ρ=>match bind d ρ with
  |none=>none
  |some ρ1=>match body ρ1 with
   |some (.nx,ρ2)=>cF bind body ds ρ2
   |some (.ct,ρ2)=>cF bind body ds ρ2
   |some (.bk,ρ2)=>some (.nx,ρ2)
   |r=>r
noncomputable def FI(test:Env->aM RV)(body:Env->bS):Nat->Env->bS
 | 0,_=>none
 |n+1,ρ=>(test ρ).flow λv ρ1=>match v with
  |.sh (.bl true)=>match body ρ1 with
   |some (.nx,ρ2)=>FI test body n ρ2
   |some (.ct,ρ2)=>FI test body n ρ2
   |some (.bk,ρ2)=>some (.nx,ρ2)
   |r=>r
  |.sh (.bl false)=>some (.nx,ρ1)
  |_=>none
noncomputable def aEu(i:Nat)(o:Option Sl)(r:aM RV):bS :=
 match o,r with
 |some (.sh (.int a)),some (.ok (.sh (.int b)),ρ1)=>i8 (store i (.sh (.int (a+b))) ρ1)
 |_,_=>none
noncomputable def XA(i:Nat)(ρ:Env)(o:Option Sl)(k:Option (Int×List Int))(v:RV):bS :=
 match o,k,v with
 |some (.ow (.dcs kvs) p false),some k,.sh (.int m)=>if aP (kvs.length+1) then some (.nx,ρ.set i (.ow (.dcs (aEs kvs k m)) p false)) else none
 |_,_,_=>none
noncomputable def P5(r:aM RV):aM RV :=
 match r with
 |some (.ok (.ow (.lst ds)),ρ)=>if ds.length<=1000 then some (.ok (.ow (.lst ds)),ρ) else none
 |_=>none
noncomputable def evG(P:aJ)(C:Calls)(elt:Env->aM RV)(tg:List Nat)(k:ItK)(its cond:List E)(imp:List Nat)(nl:Nat)(ρ:Env):aM RV :=
 (bZ P C its ρ).bind λhs ρ1 =>
   match aE k hs ρ1 with
   |none=>none
   |some (ds,o)=>(dJ (imp.map λ_=>true) (lS (cI P C cond) elt (aY (tg.length==1) tg) ds nl) (imp.map Hd.slot) (aL o ρ1)).bind (dW o ρ1)
noncomputable def Y7(P:aJ)(C:Calls)(elt:E)(tg:List Nat)(k:ItK)(its:List E)(imp:List Nat)(nl:Nat)(ρ:Env):aM RV :=
 evG P C (λρ=>P5 (ev P C false elt ρ)) tg k its [] imp nl ρ
def aBL(r:aM RV):bS :=
 match r with
 |some (.ok (.ow d),ρ1)=>some (.rt (.od d),ρ1)
 |_=>none
def aD5(ρ:Env):Bool:=ρ.all λs=>match s with | .ow _ _ _=>false | _=>true
def fz1(n:Nat)(ρ:Env):Env :=
 match ρ[n]? with
 |some (.ow d false false)=>ρ.set n (.sh d)
 |_=>ρ
def frz:Nat->Env->Env
 | 0,ρ=>ρ
 |n+1,ρ=>fz1 n (frz n ρ)
noncomputable def aD3(i j:Nat)(ρ:Env)(e c:Env->aM RV):bS :=
 match e (frz ρ.length ρ) with
 |some (.ok (.od (.lst ds)),ρ1)=>@ite _ (ρ1=frz ρ.length ρ/\aD5 ρ1=true/\ds.length<=1000/\i<ρ1.length/\j<ρ1.length/\c (ρ1.set i (.sh (.lst ds)))=some (.ok (.sh (.bl false)),ρ1.set i (.sh (.lst ds)))) (cl _) (some (.nx,(ρ1.set i .mv).set j .mv)) none
 |_=>none
noncomputable def aEv(cs:List Str)(i:Nat)(o:Option (Exc×Env)):Option Env :=
 match o with
 |none=>none
 |some (x,ρ1)=>if cs.contains x.cls then store i (.sh (.exn x.cls)) ρ1 else none
noncomputable def aDB(i:Nat)(r:bS):bS :=
 match r with
 |some (.nx,ρ)=>(match ρ[i]? with | some (.sh _)=>some (.nx,ρ.set i .mv) | _=>none)
 |_=>none
noncomputable def aAV(cs:List Str)(i j:Nat)(o:Option (Exc×Env)):bS :=
 match o with
 |none=>none
 |some (x,ρ1)=>if cs.contains x.cls/\i≠j then(store i (.sh (.exn x.cls)) ρ1).bind λρ2=>(store j (.sh (.exn x.cls)) ρ2).map λρ3=>(.nx,ρ3.set i .mv) else none
noncomputable def RW(cs:List Str)(o:Option (Exc×Env)):bS :=
 match o with
 |none=>none
 |some (x,ρ1)=>if cs.contains x.cls then some (.rt (.sh .non),ρ1) else none
mutual
noncomputable def ex(P:aJ)(C:Calls)(W:Nat):S->Env->bS
 |.bad,_=>none
 |.pass,ρ=>some (.nx,ρ)
 |.brk,ρ=>some (.bk,ρ)
 |.cnt,ρ=>some (.ct,ρ)
 |.asg i e,ρ=>(ev P C false e ρ).flow λv ρ1=>i8 (store i v ρ1)
 |.asgT is e,ρ=>(ev P C false e ρ).flow λv ρ1=>i8 (aY false is v.d ρ1)
 |.set i k e,ρ=>(ev P C false e ρ).flow λv ρ1=>if gW ρ1 i then(ev P C false k ρ1).flow λj ρ2=>match ρ2[i]?,j.d with
  |some (.ow (.lst ds) p false),.int n=>i8 ((L2.jS ds.length n).map λm=>ρ2.set i (.ow (.lst (ds.set m v.d)) p false))
  |_,_=>none
  else none
 |.expr e,ρ=>(ev P C false e ρ).flow λ_ ρ1=>some (.nx,ρ1)
 |.ret e,ρ=>match e with
  |.var i=>match ρ[i]? with
   |some (.ow d false _)=>some (.rt (.ow d),ρ.set i .mv)
   |some (.sh d)=>some (.rt (.sh d),ρ)
   |_=>none
  |e=>(ev P C false e ρ).flow λv ρ1=>some (.rt v,ρ1)
 |.retN,ρ=>some (.rt (.sh .non),ρ)
 |.ifs c a b,ρ=>(ev P C true c ρ).flow λv ρ1=>match v with
  |.sh (.bl true)=>exs P C W a ρ1
  |.sh (.bl false)=>exs P C W b ρ1
  |_=>none
 |.for tg one k its body,ρ=>(bZ P C its ρ).flow λhs ρ1 =>
  match aE k hs ρ1 with
  |none=>none
  |some (ds,o)=>(cF (aY one tg) (exs P C W body) ds (aL o ρ1)).restore o ρ1
 |.whl c body,ρ=>FI (ev P C true c) (exs P C W body) W ρ
 |.rse _ _,_=>none
 |.aug i e,ρ=>aEu i ρ[i]? (ev P C false e ρ)
 |.retD elt tg k its imp nl,ρ=>aBL (Y7 P C elt tg k its imp nl ρ)
 |.scr i j e c,ρ=>aD3 i j ρ (ev P C false e) (ev P C true c)
 |.tryA body cs i j,ρ=>match exs P C W body ρ with
  |some (.nx,ρ1)=>some (.nx,ρ1)
  |_=>aAV cs i j (tY P C W body ρ)
 |.tryB body cs i ss,ρ=>match exs P C W body ρ with
  |some (.nx,ρ1)=>some (.nx,ρ1)
  |_=>match aEv cs i (tY P C W body ρ) with
   |some ρ2=>aDB i (exs P C W ss ρ2)
   |none=>none
 |.tryN body cs,ρ=>match exs P C W body ρ with
  |some (.nx,ρ1)=>some (.nx,ρ1)
  |some (.rt v,ρ1)=>some (.rt v,ρ1)
  |_=>RW cs (tY P C W body ρ)
 |.tryO body,ρ=>exs P C W body ρ
noncomputable def exs(P:aJ)(C:Calls)(W:Nat):List S->Env->bS
 |[],ρ=>some (.nx,ρ)
 |s::r,ρ=>(ex P C W s ρ).next (exs P C W r)
noncomputable def exX(P:aJ)(C:Calls)(W:Nat):S->Env->Option (Exc×Env)
 |.asg _ e,ρ=>QZ P C e ρ
 |.expr e,ρ=>QZ P C e ρ
 |.ret e,ρ=>QZ P C e ρ
 |.rse c es,ρ=>match k9 P C es ρ with
  |some (.ok _,ρ1)=>some (⟨c⟩,ρ1)
  |_=>none
 |.ifs c a b,ρ=>match ev P C true c ρ with
  |some (.ok (.sh (.bl true)),ρ1)=>tY P C W a ρ1
  |some (.ok (.sh (.bl false)),ρ1)=>tY P C W b ρ1
  |_=>none
 |_,_=>none
noncomputable def tY(P:aJ)(C:Calls)(W:Nat):List S->Env->Option (Exc×Env)
 |[],_=>none
 |s::r,ρ=>match ex P C W s ρ with
  |some (.nx,ρ1)=>tY P C W r ρ1
  |_=>exX P C W s ρ
end
abbrev hX:=String->Option Fn
def hX.pins(T:hX):aJ:=λf=>match T f with
 |some fn=>fn.pins
 |none=>[]
noncomputable def run(T:hX)(W:Nat):Nat->Calls
 | 0=>λ_ _=>none
 |n+1=>λf as=>match T f with
  |none=>none
  |some fn=>if as.length=fn.pins.length/\as.all j8=true then
    match exs T.pins (run T W n) W fn.body (as++List.replicate fn.nl .un) with
    |some (.nx,ρ)=>some (.ok (.sh .non),back as ρ)
    |some (.rt v,ρ)=>some (.ok v,back as ρ)
    |_=>if fn.rs then match tY T.pins (run T W n) W fn.body (as++List.replicate fn.nl .un) with
     |some (x,ρ)=>some (.ex x,back as ρ)
     |none=>none
     else none
   else none
end
end CI
namespace CI
open PySem PySem.Spec PyProof.Rows L2
abbrev St:=L2.St
structure ClsF(K:Frag)(C:Addr)(ns:List Str):Prop where
 cl:Cls K C
 no:∀f∈ns,jH K C f
mutual
def aC(K:Frag)(G:Hp):D->V->Prop
 |.non,v=>v=.non
 |.bl b,v=>v=.bl b
 |.int i,v=>v=.int i
 |.str x,v=>v=.str x/\PyData.strOk x=true
 |.tup ds,v=>∃a vs,v=.ref a/\cK K G a vs/\aA K G ds vs
 |.lst ds,v=>∃a vs,v=.ref a/\bV K G a vs/\aA K G ds vs
 |.ins c ns ds,v=>∃a C dx vs,v=.ref a/\nsIn K mainGlobals c=some (some (.ref C))/\G a=some (.ins C dx (ns.zip vs))/\aA K G ds vs/\ClsF K C ns/\ns.length=vs.length
 |.dct kvs,v=>False
 |.exn c,v=>False
 |.dcs kvs,v=>False
def aA(K:Frag)(G:Hp):List D->List V->Prop
 |[],vs=>vs=[]
 |d::ds,vs=>∃v r,vs=v::r/\aC K G d v/\aA K G ds r
end
theorem cZ{K:Frag}{G G':Hp}(s:aN G G'){a:Addr}{vs:List V}(h:cK K G a vs):cK K G' a vs:=by
 rcases h with (h | ⟨o,h⟩) | h
 ·exact .inl (.inl (s _ _ h))
 ·exact .inl (.inr ⟨o,s _ _ h⟩)
 ·exact .inr h
mutual
theorem aC.mono{K:Frag}{G G':Hp}(s:aN G G'):∀(d:D) {v:V},aC K G d v->aC K G' d v
 |.non,_,h=>by simpa[aC] using h
 |.bl _,_,h=>by simpa[aC] using h
 |.int _,_,h=>by simpa[aC] using h
 |.str _,_,h=>by simpa[aC] using h
 |.tup ds,_,h=>by
  simp only[aC] at h ⊢;obtain⟨a,vs,e,h1,h2⟩:=h;exact⟨a,vs,e,cZ s h1,aA.mono s ds h2⟩
 |.lst ds,_,h=>by
  simp only[aC] at h ⊢;obtain⟨a,vs,e,h1,h2⟩:=h;exact⟨a,vs,e,s.seq h1,aA.mono s ds h2⟩
 |.ins c ns ds,_,h=>by
  simp only[aC] at h ⊢;obtain⟨a,C,dx,vs,e,h1,h2,h3,h4,h5⟩:=h;exact⟨a,C,dx,vs,e,h1,s _ _ h2,aA.mono s ds h3,h4,h5⟩
 |.dct kvs,_,h=>by simp only[aC] at h
 |.exn c,_,h=>by simp only[aC] at h
 |.dcs kvs,_,h=>by simp only[aC] at h
theorem aA.mono{K:Frag}{G G':Hp}(s:aN G G'):∀(ds:List D) {vs:List V},aA K G ds vs->aA K G' ds vs
 |[],_,h=>by simpa[aA] using h
 |d::ds,_,h=>by(simp only[aA] at h ⊢;obtain⟨v,r,e,h1,h2⟩:=h;exact⟨v,r,e,aC.mono s d h1,aA.mono s ds h2⟩)
end
theorem aA.len{K:Frag}{G:Hp}:∀{ds:List D} {vs:List V},aA K G ds vs->vs.length=ds.length
 |[],_,h=>by simp only[aA] at h;subst h;rfl
 |d::ds,_,h=>by(simp only[aA] at h;obtain⟨v,r,rfl,_,h2⟩:=h;simp[aA.len h2])
theorem aA.nil{K:Frag}{G:Hp}:aA K G [] []:=by simp[aA]
theorem aA.cons{K:Frag}{G:Hp}{d:D}{ds:List D}{v:V}{vs:List V}(h:aC K G d v)(t:aA K G ds vs):aA K G (d::ds) (v::vs):=by
 simp only[aA];exact⟨v,vs,rfl,h,t⟩
theorem aA.app{K:Frag}{G:Hp}:∀{ds es:List D} {vs ws:List V},aA K G ds vs->aA K G es ws->aA K G (ds++es) (vs++ws)
 |[],_,_,_,h,h'=>by simp only[aA] at h;subst h;exact h'
 |d::ds,_,_,_,h,h'=>by(simp only[aA] at h;obtain⟨v,r,rfl,h1,h2⟩:=h;exact aA.cons h1 (aA.app h2 h'))
theorem aA.get{K:Frag}{G:Hp}:∀{ds:List D} {vs:List V} {i:Nat} {d:D},aA K G ds vs->ds[i]?=some d->∃v,vs[i]?=some v/\aC K G d v
 |[],_,_,_,_,e=>by simp at e
 |d::ds,_,0,_,h,e=>by
  simp only[aA] at h;obtain⟨v,r,rfl,h1,h2⟩:=h;simp at e;subst e;exact⟨v,rfl,h1⟩
 |d::ds,_,i+1,_,h,e=>by
  simp only[aA] at h;obtain⟨v,r,rfl,h1,h2⟩:=h
  have:=aA.get (i:=i) h2 (by simpa using e)
  simpa using this
theorem aA.set{K:Frag}{G:Hp}{d:D}{v:V}(hv:aC K G d v):∀{ds:List D} {vs:List V} (i:Nat),aA K G ds vs->aA K G (ds.set i d) (vs.set i v)
 |[],_,_,h=>by simp only[aA] at h;subst h;simp[aA]
 |e::ds,_,0,h=>by
  simp only[aA] at h;obtain⟨u,r,rfl,h1,h2⟩:=h;exact aA.cons hv h2
 |e::ds,_,i+1,h=>by(simp only[aA] at h;obtain⟨u,r,rfl,h1,h2⟩:=h;exact aA.cons h1 (aA.set hv i h2))
theorem aA.take{K:Frag}{G:Hp}:∀{ds:List D} {vs:List V} (n:Nat),aA K G ds vs->aA K G (ds.take n) (vs.take n)
 |_,_,0,_=>by simp[aA]
 |[],_,_+1,h=>by simp only[aA] at h;subst h;simp[aA]
 |e::ds,_,n+1,h=>by(simp only[aA] at h;obtain⟨u,r,rfl,h1,h2⟩:=h;exact aA.cons h1 (aA.take n h2))
theorem aA.drop{K:Frag}{G:Hp}:∀{ds:List D} {vs:List V} (n:Nat),aA K G ds vs->aA K G (ds.drop n) (vs.drop n)
 |_,_,0,h=>h
 |[],_,_+1,h=>by simp only[aA] at h;subst h;simp[aA]
 |e::ds,_,n+1,h=>by(simp only[aA] at h;obtain⟨u,r,rfl,h1,h2⟩:=h;exact aA.drop n h2)
def fJ(K:Frag)(H G:Hp)(a:Addr):D->Prop
 |.lst ds=>∃vs,H a=some (.lst vs)/\aA K G ds vs
 |_=>False
def aI(ρ:Env)(σ:St)(a:Addr):Prop:=∃(i:Nat) (d:D) (p l:Bool),ρ[i]?=some (.ow d p l)/\σ[i]?=some (some (.ref a))
structure Rel(K:Frag)(ρ:Env)(σ:St)(H G:Hp):Prop where
 len:ρ.length=σ.length
 sub:aN G H
 sh:∀(i:Nat) (d:D),ρ[i]?=some (.sh d)->∃v,σ[i]?=some (some v)/\aC K G d v
 ow:∀(i:Nat) (d:D) (p l:Bool),ρ[i]?=some (.ow d p l)->∃a,σ[i]?=some (some (.ref a))/\G a=none/\fJ K H G a d
 inj:∀(i j:Nat) (d:D) (p l:Bool) (d':D) (p' l':Bool) (a:Addr),ρ[i]?=some (.ow d p l)->ρ[j]?=some (.ow d' p' l')->σ[i]?=some (some (.ref a))->σ[j]?=some (some (.ref a))->i=j
structure Ext(own:Addr->Prop)(H G H' G':Hp):Prop where
 gg:aN G G'
 hh:∀a o,H a=some o->¬own a->H' a=some o
 hx:∀a,H' a=none->H a=none
 gn:∀a,H a≠none->G a=none->¬own a->G' a=none
theorem Ext.refl{own:Addr->Prop}{H G:Hp}:Ext own H G H G:=⟨aN.refl _,λ_ _ h _=>h,λ_ h=>h,λ_ _ h _=>h⟩
theorem Ext.trans{own own1:Addr->Prop}{H G H1 G1 H2 G2:Hp}(a:Ext own H G H1 G1)(w:∀x,own1 x->own x\/H x=none)(b:Ext own1 H1 G1 H2 G2):Ext own H G H2 G2:=by
 refine⟨a.gg.trans b.gg,λx o h n=>?_,λx h=>a.hx x (b.hx x h),λx h g n=>?_⟩
 ·refine b.hh x o (a.hh x o h n) λz=>?_
  rcases w x z with z | z
  ·exact n z
  ·rw[h] at z;cases z
 ·have h1:H1 x≠none:=λz=>h (a.hx x z)
  refine b.gn x h1 (a.gn x h g n) λz=>?_
  rcases w x z with z | z
  ·exact n z
  ·exact h z
theorem Ext.weaken{own own':Addr->Prop}{H G H1 G1:Hp}(a:Ext own H G H1 G1)(w:∀x,own x->own' x):Ext own' H G H1 G1 :=
 ⟨a.gg,λx o h n=>a.hh x o h λz=>n (w x z),a.hx,λx h g n=>a.gn x h g λz=>n (w x z)⟩
def jW(H:Hp)(own new:Addr->Prop)(vs:List V):Prop:=∀x∈vs,∃b ws,x=.ref b/\H b=some (.lst ws)/\ws.length<=1000/\¬own b/\new b
def Rows(H:Hp)(own new:Addr->Prop)(a:Addr):Prop:=∃vs,H a=some (.lst vs)/\jW H own (λb=>new b/\b≠a) vs
theorem jW.step{H H':Hp}{own own' new:Addr->Prop}{vs:List V}(h:jW H own new vs)(e:∀b o,H b=some o->¬own b->H' b=some o)(w:∀b,own' b->own b\/H b=none):jW H' own' new vs:=λx hx=>by
 obtain⟨b,ws,h1,h2,h3,h4,h5⟩:=h x hx;refine⟨b,ws,h1,e b _ h2 h4,h3,λz=>?_,h5⟩;rcases w b z with z | z
 ·exact h4 z
 ·rw[h2] at z;cases z
theorem jW.new{H:Hp}{own new new':Addr->Prop}{vs:List V}(h:jW H own new vs)(w:∀b,new b->new' b):jW H own new' vs:=λx hx=>let ⟨b,ws,h1,h2,h3,h4,h5⟩:=h x hx;⟨b,ws,h1,h2,h3,h4,w b h5⟩
def b8(K:Frag)(H G:Hp)(own:Addr->Prop)(new:Addr->Prop):RV->V->Prop
 |.sh d,v=>aC K G d v
 |.ow d,v=>∃a,v=.ref a/\G a=none/\fJ K H G a d/\¬own a/\new a
 |.od d,v=>∃a,v=.ref a/\G a=none/\fJ K H G a d/\¬own a/\new a/\Rows H own new a
def b9(K:Frag)(H G:Hp)(d:D)(v:V):Prop:=aC K G d v\/∃a,v=.ref a/\fJ K H G a d
def fR(K:Frag)(H G:Hp)(own:Addr->Prop)(new:Addr->Prop)(σ:St):Hd->V->Prop
 |.slot i,v=>σ[i]?=some (some v)
 |.val (.od _),_=>False
 |.val r,v=>b8 K H G own new r v
section
variable{K:Frag}{ρ:Env}{σ:St}{H G H' G':Hp}{own own' new new':Addr->Prop}
theorem fJ.mono{a:Addr}{d:D}(h:fJ K H G a d)(s:aN G G')(e:∀o,H a=some o->H' a=some o):fJ K H' G' a d:=by
 cases d with
 |lst ds =>
  obtain⟨vs,h1,h2⟩:=h;exact⟨vs,e _ h1,aA.mono s _ h2⟩
 |_=>exact h
theorem fJ.put{a:Addr}{d:D}(h:fJ K H G a d):∃o,H a=some o/\∀G',aN G G'->G' a=some o->aC K G' d (.ref a):=by
 cases d with
 |lst ds =>
  obtain⟨vs,h1,h2⟩:=h;exact⟨_,h1,λG' s e=>by simp only[aC];exact⟨a,vs,rfl,bV.of e,aA.mono s ds h2⟩⟩
 |_=>exact h.elim
theorem fJ.there{a:Addr}{d:D}(h:fJ K H G a d):∃o,H a=some o:=let ⟨o,h,_⟩:=h.put;⟨o,h⟩
theorem Rel.owned(r:Rel K ρ σ H G){a:Addr}(o:aI ρ σ a):H a≠none/\G a=none:=by
 obtain⟨i,d,p,l,h1,h2⟩:=o;obtain⟨b,e,g,h⟩:=r.ow i d p l h1;rw[h2] at e;cases e;obtain⟨vs,h⟩:=h.there;exact⟨by rw[h];simp,g⟩
theorem b8.wait{v:RV}{x:V}(h:b8 K H G own new v x)(e:Ext own H G H' G')(w:∀a,own' a->own a\/H a=none):b8 K H' G' own' new v x:=by
 cases v with
 |sh d=>exact aC.mono e.gg d h
 |ow d =>
  obtain⟨a,rfl,g,o,n,m⟩:=h;obtain⟨vs,hv⟩:=o.there;have ne:H a≠none:=by rw[hv];simp
  refine⟨a,rfl,e.gn a ne g n,o.mono e.gg λo' h'=>e.hh a o' h' n,λz=>?_,m⟩;rcases w a z with z | z
  ·exact n z
  ·exact ne z
 |od d =>
  obtain⟨a,rfl,g,o,n,m,vs,hv,hr⟩:=h;have ne:H a≠none:=by rw[hv];simp
  refine⟨a,rfl,e.gn a ne g n,o.mono e.gg λo' h'=>e.hh a o' h' n,λz=>?_,m,vs,e.hh a _ hv n,hr.step e.hh w⟩;rcases w a z with z | z
  ·exact n z
  ·exact ne z
theorem fR.wait{v:Hd}{x:V}(h:fR K H G own new σ v x)(e:Ext own H G H' G')(w:∀a,own' a->own a\/H a=none):fR K H' G' own' new σ v x:=by
 cases v with
 |slot i=>exact h
 |val r=>cases r with
  |od d=>exact h.elim
  |sh d=>exact aC.mono e.gg d h
  |ow d=>exact b8.wait (new:=new) (v:=.ow d) h e w
theorem b8.new_mono{v:RV}{x:V}(h:b8 K H G own new v x)(w:∀a,new a->new' a):b8 K H G own new' v x:=by
 cases v with
 |sh d=>exact h
 |ow d =>
  obtain⟨a,rfl,g,o,n,m⟩:=h;exact⟨a,rfl,g,o,n,w a m⟩
 |od d =>
  obtain⟨a,rfl,g,o,n,m,vs,hv,hr⟩:=h;exact⟨a,rfl,g,o,n,w a m,vs,hv,hr.new λb z=>⟨w b z.1,z.2⟩⟩
theorem b8.low{v:RV}{x:V}(h:b8 K H G own new v x):b8 K H G own new v.low x:=by
 cases v with
 |sh d=>exact h
 |ow d=>exact h
 |od d =>
  obtain⟨a,rfl,g,o,n,m,_⟩:=h;exact⟨a,rfl,g,o,n,m⟩
theorem fR.of{v:RV}{x:V}(h:b8 K H G own new v x):fR K H G own new σ (.val v.low) x:=by
 have:=h.low
 cases v<;>exact this
theorem fR.new_mono{v:Hd}{x:V}(h:fR K H G own new σ v x)(w:∀a,new a->new' a):fR K H G own new' σ v x:=by
 cases v with
 |slot i=>exact h
 |val r=>cases r with
  |od d=>exact h.elim
  |sh d=>exact h
  |ow d=>exact b8.new_mono (own:=own) (H:=H) (v:=.ow d) h w
theorem b8.readR{v:RV}{x:V}(h:b8 K H G own new v x):b9 K H G v.d x:=by
 cases v with
 |sh d=>exact .inl h
 |ow d =>
  obtain⟨a,rfl,g,o,n,m⟩:=h;exact .inr ⟨a,rfl,o⟩
 |od d =>
  obtain⟨a,rfl,g,o,n,m,_⟩:=h;exact .inr ⟨a,rfl,o⟩
theorem Rel.get(r:Rel K ρ σ H G){i:Nat}{d:D}{x:V}(h:(ρ[i]?).bind Sl.get=some d)(hx:σ[i]?=some (some x)):b9 K H G d x:=by
 cases e:ρ[i]? with
 |none=>rw[e] at h;cases h
 |some sl =>
  rw[e] at h
  cases sl with
  |un=>cases h
  |mv=>cases h
  |sh d' =>
   cases h;obtain⟨v,h1,h2⟩:=r.sh i _ e;rw[hx] at h1;cases h1;exact .inl h2
  |ow d' p l =>
   cases h;obtain⟨a,h1,_,h2⟩:=r.ow i _ p l e;rw[hx] at h1;cases h1;exact .inr ⟨a,rfl,h2⟩
theorem fR.read{v:Hd}{x:V}{d:D}(h:fR K H G own new σ v x)(r:Rel K ρ σ H G)(e:v.get ρ=some d):b9 K H G d x:=by
 cases v with
 |slot i=>exact r.get e h
 |val u =>
  simp only[Hd.get,Option.some.injEq] at e;subst e
  cases u with
  |od d=>exact h.elim
  |sh d=>exact .inl h
  |ow d=>exact b8.readR (own:=own) (new:=new) (v:=.ow d) h
theorem Rel.bound(r:Rel K ρ σ H G){i:Nat}(h:((ρ[i]?).bind Sl.get).isSome=true):∃v,σ[i]?=some (some v):=by
 cases e:ρ[i]? with
 |none=>rw[e] at h;cases h
 |some sl =>
  rw[e] at h
  cases sl with
  |un=>cases h
  |mv=>cases h
  |sh d' =>
   obtain⟨v,h1,h2⟩:=r.sh i _ e;exact⟨v,h1⟩
  |ow d' p l =>
   obtain⟨a,h1,_,h2⟩:=r.ow i _ p l e;exact⟨_,h1⟩
theorem b9.lst{ds:List D}{x:V}(s:aN G H)(h:b9 K H G (.lst ds) x):∃a vs,x=.ref a/\bV K H a vs/\aA K G ds vs:=by
 rcases h with h | ⟨a,rfl,h⟩
 ·simp only[aC] at h;obtain⟨a,vs,e,h1,h2⟩:=h;exact⟨a,vs,e,s.seq h1,h2⟩
 ·obtain⟨vs,h1,h2⟩:=h;exact⟨a,vs,rfl,bV.of h1,h2⟩
theorem b9.tup{ds:List D}{x:V}(s:aN G H)(h:b9 K H G (.tup ds) x):∃a vs,x=.ref a/\cK K H a vs/\aA K G ds vs:=by
 rcases h with h | ⟨a,rfl,h⟩
 ·simp only[aC] at h;obtain⟨a,vs,e,h1,h2⟩:=h;exact⟨a,vs,e,cZ s h1,h2⟩
 ·exact h.elim
theorem b9.int{i:Int}{x:V}(h:b9 K H G (.int i) x):x=.int i:=by
 rcases h with h | ⟨a,rfl,h⟩
 ·simpa[aC] using h
 ·exact h.elim
theorem b9.bl{i:Bool}{x:V}(h:b9 K H G (.bl i) x):x=.bl i:=by
 rcases h with h | ⟨a,rfl,h⟩
 ·simpa[aC] using h
 ·exact h.elim
theorem b9.str{i:Str}{x:V}(h:b9 K H G (.str i) x):x=.str i/\PyData.strOk i=true:=by
 rcases h with h | ⟨a,rfl,h⟩
 ·simpa[aC] using h
 ·exact h.elim
theorem b9.non{x:V}(h:b9 K H G .non x):x=.non:=by
 rcases h with h | ⟨a,rfl,h⟩
 ·simpa[aC] using h
 ·exact h.elim
theorem p9{i:Bool}{x:V}(h:aC K G (.bl i) x):x=.bl i:=by simpa[aC] using h
theorem aN.laid{a:Addr}{o:HO}(h:H a=none):aN H (aW H a o):=λb u e=>by rw[aO (bN e h)];exact e
theorem Rel.layG(r:Rel K ρ σ H G){a:Addr}{o:HO}(h:H a=none):Rel K ρ σ (aW H a o) (aW G a o):=by
 have hg:G a=none:=aN.free r.sub h;refine⟨r.len,λb u e=>?_,λi d e=>?_,λi d p l e=>?_,r.inj⟩
 ·by_cases hb:b=a
  ·subst hb;rw[bB] at e ⊢;exact e
  ·rw[aO hb] at e ⊢;exact r.sub b u e
 ·obtain⟨v,h1,h2⟩:=r.sh i d e;exact⟨v,h1,aC.mono (aN.laid hg) d h2⟩
 ·obtain⟨b,h1,h2,h3⟩:=r.ow i d p l e;obtain⟨vs,hv⟩:=h3.there;have hb:b≠a:=bN hv h;refine⟨b,h1,by rw[aO hb];exact h2,h3.mono (aN.laid hg) λo' h'=>by rw[aO hb];exact h'⟩
theorem Ext.layG{a:Addr}{o:HO}(s:aN G H)(h:H a=none):Ext own H G (aW H a o) (aW G a o):=by
 have hg:G a=none:=aN.free s h;refine⟨aN.laid hg,λb u e _=>aN.laid h b u e,λb e=>?_,λb e g _=>?_⟩
 ·by_cases hb:b=a
  ·subst hb;exact h
  ·rwa[aO hb] at e
 ·by_cases hb:b=a
  ·subst hb;exact absurd h e
  ·rw[aO hb];exact g
theorem Rel.layH(r:Rel K ρ σ H G){a:Addr}{o:HO}(h:H a=none):Rel K ρ σ (aW H a o) G:=by
 refine⟨r.len,r.sub.trans (aN.laid h),r.sh,λi d p l e=>?_,r.inj⟩;obtain⟨b,h1,h2,h3⟩:=r.ow i d p l e;obtain⟨vs,hv⟩:=h3.there;have hb:b≠a:=bN hv h;exact⟨b,h1,h2,h3.mono (aN.refl _) λo' h'=>by rw[aO hb];exact h'⟩
theorem Ext.layH{a:Addr}{o:HO}(h:H a=none):Ext own H G (aW H a o) G:=by
 refine⟨aN.refl _,λb u e _=>aN.laid h b u e,λb e=>?_,λb e g _=>g⟩;by_cases hb:b=a
 ·subst hb;exact h
 ·rwa[aO hb] at e
theorem Rel.notOwn(r:Rel K ρ σ H G){a:Addr}(h:H a=none):¬aI ρ σ a:=λo=>(r.owned o).1 h
theorem aN.put{a:Addr}{o:HO}(h:G a=none):aN G (aW G a o):=aN.laid h
theorem b8.share{v:RV}{x:V}(h:b8 K H G (aI ρ σ) new v x)(r:Rel K ρ σ H G)(hn:∀a,new a->own a\/new' a) :
  ∃G',Rel K ρ σ H G'/\aN G G'/\(∀a,G' a≠none->G a≠none\/new a)/\aC K G' v.d x:=by
 have main:∀d,b8 K H G (aI ρ σ) new (.ow d) x->∃G',Rel K ρ σ H G'/\aN G G'/\(∀a,G' a≠none->G a≠none\/new a)/\aC K G' d x:=by
  intro d h;obtain⟨a,rfl,g,o,n,m⟩:=h;obtain⟨ob,hv,hr⟩:=o.put;refine⟨aW G a ob,⟨r.len,λb u e=>?_,λi d e=>?_,λi d p l e=>?_,r.inj⟩,aN.put g,λb z=>?_, ?_⟩
  ·by_cases hb:b=a
   ·subst hb;rw[bB] at e;rw[hv];exact e
   ·rw[aO hb] at e;exact r.sub b u e
  ·obtain⟨v,h1,h2⟩:=r.sh i d e;exact⟨v,h1,aC.mono (aN.put g) d h2⟩
  ·obtain⟨b,h1,h2,h3⟩:=r.ow i d p l e;have hb:b≠a:=λz=>by subst z;exact n ⟨i,d,p,l,e,h1⟩
   exact⟨b,h1,by rw[aO hb];exact h2,h3.mono (aN.put g) λ_ z=>z⟩
  ·by_cases hb:b=a
   ·subst hb;exact .inr m
   ·rw[aO hb] at z;exact .inl z
  ·exact hr _ (aN.put g) bB
 cases v with
 |sh d=>exact⟨G,r,aN.refl _,λa z=>.inl z,h⟩
 |ow d=>exact main d h
 |od d=>exact main d h.low
end
def dG:Option Sl->Option Sl->Prop
 |some (.ow _ p l),some (.ow _ p' l')=>p=p'/\l=l'
 |some (.ow _ p _),some (.sh _)=>p=false
 |some .un,some .un=>True
 |some .mv,some .mv=>True
 |some (.sh _),some (.sh _)=>True
 |none,none=>True
 |_,_=>False
theorem dG.refl(a:Option Sl):dG a a:=by
 cases a with
 |none=>trivial
 |some s=>cases s<;>first | trivial | exact⟨rfl,rfl⟩
theorem dG.trans{a b c:Option Sl}(h:dG a b)(h':dG b c):dG a c:=by
 cases a with
 |none =>
  cases b with
  |none=>exact h'
  |some t=>cases t<;>exact h.elim
 |some s =>
  cases b with
  |none=>cases s<;>exact h.elim
  |some t =>
   cases c with
   |none=>cases t<;>exact h'.elim
   |some u=>cases s<;>cases t<;>first | exact h.elim | (cases u<;>first | exact h'.elim | trivial | exact⟨h.1.trans h'.1,h.2.trans h'.2⟩ | exact h.1.trans h' | exact h)
theorem dG.ow_of{a:Option Sl}{d:D}{p l:Bool}(h:dG a (some (.ow d p l))):∃d',a=some (.ow d' p l):=by
 cases a with
 |none=>exact h.elim
 |some s=>cases s<;>first | exact h.elim | (obtain⟨rfl,rfl⟩:=h;exact⟨_,rfl⟩)
def gY(ρ ρ':Env):Prop:=∀i:Nat,dG ρ[i]? ρ'[i]?
theorem gY.refl(ρ:Env):gY ρ ρ:=λ_=>dG.refl _
theorem gY.trans{a b c:Env}(h:gY a b)(h':gY b c):gY a c:=λi=>(h i).trans (h' i)
theorem gY.own{ρ ρ':Env}{σ:St}(h:gY ρ ρ')(a:Addr)(o:aI ρ' σ a):aI ρ σ a:=by
 obtain⟨i,d,p,l,h1,h2⟩:=o
 have:=h i
 rw[h1] at this;obtain⟨d',e⟩:=this.ow_of;exact⟨i,d',p,l,e,h2⟩
theorem gY.set{ρ:Env}{i:Nat}{s:Sl}(h:dG ρ[i]? (some s)):gY ρ (ρ.set i s):=λj=>by
 by_cases hij:j=i
 ·subst hij;by_cases hl:j<ρ.length
  ·rw[zk hl];exact h
  ·rw[List.getElem?_eq_none (by omega)] at h;cases s<;>exact h.elim
 ·rw[Zf (λz=>hij z.symm)];exact dG.refl _
structure Aft(K:Frag)(ρ:Env)(σ:St)(H G:Hp)(ρ':Env)(H' G':Hp):Prop where
 rel:Rel K ρ' σ H' G'
 ext:Ext (aI ρ σ) H G H' G'
 evo:gY ρ ρ'
section
variable{K:Frag}{ρ ρ' ρ1 ρ2:Env}{σ:St}{H G H' G' H1 G1 H2 G2:Hp}
theorem Aft.own(a:Aft K ρ σ H G ρ' H' G'):∀a,aI ρ' σ a->aI ρ σ a:=λx h=>a.evo.own x h
theorem Aft.refl(r:Rel K ρ σ H G):Aft K ρ σ H G ρ H G:=⟨r,Ext.refl,gY.refl _⟩
theorem Aft.trans(a:Aft K ρ σ H G ρ1 H1 G1)(b:Aft K ρ1 σ H1 G1 ρ2 H2 G2):Aft K ρ σ H G ρ2 H2 G2 :=
 ⟨b.rel,a.ext.trans (λx h=>.inl (a.own x h)) b.ext,a.evo.trans b.evo⟩
abbrev dC(H:Hp):Addr->Prop:=λa=>H a=none
theorem Aft.fresh(a:Aft K ρ σ H G ρ1 H1 G1){x:Addr}(h:H1 x=none):H x=none:=a.ext.hx x h
theorem Aft.share(a:Aft K ρ σ H G ρ' H' G'){v:RV}{x:V}(h:b8 K H' G' (aI ρ' σ) (dC H) v x):∃G2,Aft K ρ σ H G ρ' H' G2/\aC K G2 v.d x:=by
 obtain⟨G2,r2,s2,n2,h2⟩:=h.share (own:=λ_=>False) (new':=dC H) a.rel (λ_ z=>.inr z);refine⟨G2,⟨r2,⟨a.ext.gg.trans s2,a.ext.hh,a.ext.hx,λb hb gb nb=>?_⟩,a.evo⟩,h2⟩
 cases e:G2 b with
 |none=>rfl
 |some o =>
  rcases n2 b (by rw[e];simp) with z | z
  ·exact absurd (a.ext.gn b hb gb nb) z
  ·exact absurd z hb
theorem Aft.layG(a:Aft K ρ σ H G ρ' H' G'){p:Addr}{o:HO}(h:H' p=none):Aft K ρ σ H G ρ' (aW H' p o) (aW G' p o) :=
 a.trans ⟨a.rel.layG h,Ext.layG a.rel.sub h,gY.refl _⟩
theorem Aft.layH(a:Aft K ρ σ H G ρ' H' G'){p:Addr}{o:HO}(h:H' p=none):Aft K ρ σ H G ρ' (aW H' p o) G' :=
 a.trans ⟨a.rel.layH h,Ext.layH h,gY.refl _⟩
theorem Aft.own_new(a:Aft K ρ σ H G ρ' H' G'){p:Addr}{ds:List D}{vs:List V}(h:H' p=none)(r:aA K G' ds vs) :
  Aft K ρ σ H G ρ' (aW H' p (.lst vs)) G'/\b8 K (aW H' p (.lst vs)) G' (aI ρ' σ) (dC H) (.ow (.lst ds)) (.ref p) :=
 ⟨a.layH h,p,rfl,aN.free a.rel.sub h,⟨vs,bB,r⟩,a.rel.notOwn h,a.fresh h⟩
theorem Aft.tup_new(a:Aft K ρ σ H G ρ' H' G'){p:Addr}{ds:List D}{vs:List V}(h:H' p=none)(r:aA K G' ds vs) :
  Aft K ρ σ H G ρ' (aW H' p (.tup vs)) (aW G' p (.tup vs))/\b8 K (aW H' p (.tup vs)) (aW G' p (.tup vs)) (aI ρ' σ) (dC H) (.sh (.tup ds)) (.ref p):=by
 refine⟨a.layG h, ?_⟩;show aC K _ (.tup ds) _;simp only[aC];exact⟨p,vs,rfl,cK.of bB,aA.mono (aN.laid (aN.free a.rel.sub h)) ds r⟩
end
def kW:List Hd->List V->Addr->Prop
 |.val (.ow _)::hs,x::xs,a=>x=.ref a\/kW hs xs a
 |_::hs,_::xs,a=>kW hs xs a
 |_,_,_=>False
def cX(K:Frag)(H G:Hp)(own new:Addr->Prop)(σ:St):List Hd->List V->Prop
 |[],xs=>xs=[]
 |h::hs,xs=>∃x r,xs=x::r/\fR K H G own new σ h x/\cX K H G own new σ hs r/\∀d a,h=.val (.ow d)->x=.ref a->¬kW hs r a
section
variable(K:Frag)(P:aJ)(C:Calls)
noncomputable def tE(c:E):TE:=λσ H Q=>∃(ρ:Env) (G:Hp) (v:RV) (ρ':Env),Rel K ρ σ H G/\ev P C false c ρ=some (.ok v,ρ') /\
 ∀x H' G',Aft K ρ σ H G ρ' H' G'->b8 K H' G' (aI ρ' σ) (dC H) v x->Q x H'
noncomputable def tT(c:E):TT:=λσ H Q=>∃(ρ:Env) (G:Hp) (b:Bool) (ρ':Env),Rel K ρ σ H G/\ev P C true c ρ=some (.ok (.sh (.bl b)),ρ') /\
 ∀H' G',Aft K ρ σ H G ρ' H' G'->Q b H'
noncomputable def tH(c:E):TE:=λσ H Q=>∃(ρ:Env) (G:Hp) (h:Hd) (ρ':Env),Rel K ρ σ H G/\hd c (ev P C false c ρ) ρ=some (.ok h,ρ') /\
 ∀x H' G',Aft K ρ σ H G ρ' H' G'->fR K H' G' (aI ρ' σ) (dC H) σ h x->Q x H'
noncomputable def AM(cs:List E):TA:=λσ H Q=>∃(ρ:Env) (G:Hp) (ds:List D) (ρ':Env),Rel K ρ σ H G/\k9 P C cs ρ=some (.ok ds,ρ') /\
 ∀xs H' G',Aft K ρ σ H G ρ' H' G'->aA K G' ds xs->Q xs H'
noncomputable def kP(cs:List E):TA:=λσ H Q=>∃(ρ:Env) (G:Hp) (hs:List Hd) (ρ':Env),Rel K ρ σ H G/\bZ P C cs ρ=some (.ok hs,ρ') /\
 ∀xs H' G',Aft K ρ σ H G ρ' H' G'->cX K H' G' (aI ρ' σ) (dC H) σ hs xs->Q xs H'
end
theorem TE.imp_pe{X:Cx}{e:Expr}{t u:TE}(h:PE X e t)(w:∀σ H Q,u σ H Q->t σ H Q):PE X e u:=λpins s σ H Q I q=>h pins s σ H Q I (w σ H Q q)
theorem TT.imp_pt{X:Cx}{e:Expr}{t u:TT}(h:PT X e t)(w:∀σ H Q,u σ H Q->t σ H Q):PT X e u:=λpins s σ H Q I q=>h pins s σ H Q I (w σ H Q q)
theorem TA.imp_pa{X:Cx}{e:List Expr}{t u:TA}(h:PA X e t)(w:∀σ H Q,u σ H Q->t σ H Q):PA X e u:=λpos pins s σ H Q I q=>h pos pins s σ H Q I (w σ H Q q)
theorem aK{α β:Type}{r:aM α}{f:α->Env->aM β}{b:β}{ρ:Env}(h:r.bind f=some (.ok b,ρ)):∃a ρ1,r=some (.ok a,ρ1)/\f a ρ1=some (.ok b,ρ):=by
 unfold aM.bind at h;split at h
 ·cases h
 ·cases h
 ·exact⟨_,_,rfl,h⟩
theorem eV{o:Option RV}{ρ ρ':Env}{v:RV}(h:done o ρ=some (.ok v,ρ')):o=some v/\ρ'=ρ:=by
 unfold done at h
 cases o with
 |none=>cases h
 |some u=>simp only[Option.map_some,Option.some.injEq,Prod.mk.injEq,Out.ok.injEq] at h;exact⟨by rw[h.1],h.2.symm⟩
theorem ET{r:aM RV}{v:RV}{ρ':Env}(h:bE true r=some (.ok v,ρ')):∃u b,r=some (.ok u,ρ')/\hW u.d=some b/\v=.sh (.bl b):=by
 obtain⟨u,ρ1,h1,h2⟩:=aK h
 cases e:hW u.d with
 |none=>rw[e] at h2;cases h2
 |some b =>
  rw[e] at h2;simp only[Option.map_some,Option.some.injEq,Prod.mk.injEq,Out.ok.injEq] at h2;obtain⟨h3,h4⟩:=h2;subst h4;exact⟨u,b,h1,e,h3.symm⟩
section
variable{K:Frag}{P:aJ}{C:Calls}{σ:St}{H:Hp}
theorem r8{X:Cx}{e:Expr}{c:E}(h:PE X e (tE K P C c))(n:∀i,c≠.var i):PE X e (tH K P C c):=by
 refine TE.imp_pe h λσ H Q q=>?_
 obtain⟨ρ,G,hd',ρ',r,e1,k⟩:=q
 have:hd c (ev P C false c ρ) ρ=(ev P C false c ρ).bind λv ρ'=>some (.ok (.val v.low),ρ'):=by
  cases c<;>first | rfl | exact absurd rfl (n _)
 rw[this] at e1;obtain⟨v,ρ1,e2,e3⟩:=aK e1;cases e3;exact⟨ρ,G,v,_,r,e2,λx H' G' a hv=>k x H' G' a (fR.of hv)⟩
theorem SG{X:Cx}{e:Expr}{i:Nat}(h:PE X e (nM i)):PE X e (tE K P C (.var i)):=by
 refine TE.imp_pe h λσ H Q q=>?_
 obtain⟨ρ,G,v,ρ',r,e1,k⟩:=q;replace e1:wF i ρ=_:=e1;unfold wF at e1;split at e1
 ·rename_i d hd;cases e1;obtain⟨x,h1,h2⟩:=r.sh i d hd;exact⟨x,h1,k x H G (Aft.refl r) h2⟩
 ·rename_i d hd;cases e1;obtain⟨a,h1,g,o⟩:=r.ow i d _ _ hd;refine⟨.ref a,h1, ?_⟩;obtain⟨ob,hv,hr⟩:=o.put;have li:i<ρ.length:=(Zc.mp hd).1
  have oth:∀(j:Nat) (sl:Sl),(ρ.set i (.sh d))[j]?=some sl->(j=i/\sl=.sh d)\/(j≠i/\ρ[j]?=some sl):=λj sl hj=>by
   by_cases hij:j=i
   ·subst hij;rw[zk li] at hj;exact .inl ⟨rfl,(Option.some.inj hj).symm⟩
   ·rw[Zf (λz=>hij z.symm)] at hj;exact .inr ⟨hij,hj⟩
  have own':∀b,aI (ρ.set i (.sh d)) σ b->aI ρ σ b:=λb ⟨j,d',p,l,h3,h4⟩=>by
   rcases oth j _ h3 with ⟨_,z⟩ | ⟨_,z⟩
   ·cases z
   ·exact⟨j,d',p,l,z,h4⟩
  refine k (.ref a) H (aW G a ob) ⟨⟨?_,λb u z=>?_,λj d' hj=>?_,λj d' p l hj=>?_,λj k' d1 p1 l1 d2 p2 l2 b h3 h4 h5 h6=>?_⟩,⟨aN.put g,λ_ _ z _=>z,λ_ z=>z,λb h3 h4 h5=>?_⟩,gY.set (by rw[hd];rfl)⟩ ?_
  ·rw[zg];exact r.len
  ·by_cases hb:b=a
   ·subst hb;rw[bB] at z;rw[hv];exact z
   ·rw[aO hb] at z;exact r.sub b u z
  ·rcases oth j _ hj with ⟨rfl,z⟩ | ⟨_,z⟩
   ·cases z;exact⟨_,h1,hr _ (aN.put g) bB⟩
   ·obtain⟨x,h3,h4⟩:=r.sh j d' z;exact⟨x,h3,aC.mono (aN.put g) d' h4⟩
  ·rcases oth j _ hj with ⟨_,z⟩ | ⟨ne,z⟩
   ·cases z
   ·obtain⟨b,h3,h4,h5⟩:=r.ow j d' p l z;have hb:b≠a:=λe=>by subst e;exact ne (r.inj _ _ _ _ _ _ _ _ _ z hd h3 h1)
    exact⟨b,h3,by rw[aO hb];exact h4,h5.mono (aN.put g) λ_ z=>z⟩
  ·rcases oth j _ h3 with ⟨_,z⟩ | ⟨_,z⟩
   ·cases z
   ·rcases oth k' _ h4 with ⟨_,z'⟩ | ⟨_,z'⟩
    ·cases z'
    ·exact r.inj _ _ _ _ _ _ _ _ _ z z' h5 h6
  ·by_cases hb:b=a
   ·subst hb;exact absurd ⟨i,_,_,_,hd,h1⟩ h5
   ·rw[aO hb];exact h4
  ·exact hr _ (aN.put g) bB
 ·cases e1
theorem VP{X:Cx}{e:Expr}{i:Nat}(h:PE X e (nM i)):PE X e (tH K P C (.var i)):=by
 refine TE.imp_pe h λσ H Q q=>?_
 obtain⟨ρ,G,hd',ρ',r,e1,k⟩:=q;simp only[hd] at e1;split at e1
 ·rename_i hb;cases e1;obtain⟨x,hx⟩:=r.bound hb;exact⟨x,hx,k x H G (Aft.refl r) hx⟩
 ·cases e1
theorem tU{G:Hp}{d:D}{x:V}{b:Bool}(s:aN G H)(h:b9 K H G d x)(e:hW d=some b):FG K x H b:=by
 cases d<;>simp only[hW,Option.some.injEq,reduceCtorEq] at e
 ·have:=h.non;subst this;exact e.symm
 ·have:=h.bl;subst this;exact e.symm
 ·have:=h.int;subst this;exact e.symm
 ·split at e
  ·rename_i hz;obtain⟨rfl,_⟩:=h.str;exact⟨Zr hz (by decide),(Option.some.inj e).symm⟩
  ·cases e
 ·obtain⟨a,vs,rfl,h1,h2⟩:=h.tup s;refine .inr (.inl ⟨vs,h1, ?_⟩);rw[<- e]
  have:=h2.len
  cases vs<;>cases ‹List D›<;>simp_all
 ·obtain⟨a,vs,rfl,h1,h2⟩:=h.lst s;refine .inl ⟨vs,h1, ?_⟩;rw[<- e]
  have:=h2.len
  cases vs<;>cases ‹List D›<;>simp_all
theorem aCQ{X:Cx}{e:Expr}{c:E}(hK:X.K=K)(h:PE X e (tE K P C c))(hw:∀ρ,ev P C true c ρ=bE true (ev P C false c ρ))
  (he:∀whole,isTrue e X.env whole=(do let v <- whole;standAt e.pos;holding [v] (truthy v))):PT X e (tT K P C c):=by
 refine TT.imp_pt (BO h he) λσ H Q q=>?_
 obtain⟨ρ,G,b,ρ',r,e1,k⟩:=q;rw[hw] at e1;obtain⟨u,b',e2,e3,e4⟩:=ET e1;cases e4;refine⟨ρ,G,u,ρ',r,e2,λx H' G' a hv=>⟨b, ?_,k H' G' a⟩⟩;rw[hK];exact tU a.rel.sub hv.readR e3
end
mutual
theorem DT:∀(n:Nat) (d e:D),bA n d=true->bA n e=true->PyData.eqv (d6 d) (d6 e)=d5 d e
 |n,.non,e,_,h=>by cases e<;>first | (cases n<;>simp[bA] at h;done) | simp[d6,PyData.eqv,d5]
 |n,.bl b,e,_,h=>by cases e<;>first | (cases n<;>simp[bA] at h;done) | simp[d6,PyData.eqv,d5]
 |n,.int b,e,_,h=>by cases e<;>first | (cases n<;>simp[bA] at h;done) | simp[d6,PyData.eqv,d5]
 |n,.str b,e,_,h=>by cases e<;>first | (cases n<;>simp[bA] at h;done) | simp[d6,PyData.eqv,d5]
 |n+1,.tup ds,e,h,h'=>by
  cases e with
  |tup es =>
   simp only[d6,PyData.eqv,d5];exact uA n ds es (by simpa[bA] using h) (by simpa[bA] using h')
  |ins=>simp[bA] at h'
  |dct=>simp[bA] at h'
  |dcs=>simp[bA] at h'
  |exn=>simp[bA] at h'
  |_=>simp[d6,PyData.eqv,d5]
 |n+1,.lst ds,e,h,h'=>by
  cases e with
  |lst es =>
   simp only[d6,PyData.eqv,d5];exact uA n ds es (by simpa[bA] using h) (by simpa[bA] using h')
  |ins=>simp[bA] at h'
  |dct=>simp[bA] at h'
  |dcs=>simp[bA] at h'
  |exn=>simp[bA] at h'
  |_=>simp[d6,PyData.eqv,d5]
 | 0,.tup ds,e,h,_=>by simp[bA] at h
 | 0,.lst ds,e,h,_=>by simp[bA] at h
 |n,.ins _ _ _,_,h,_=>by cases n<;>simp[bA] at h
 |n,.dct _,_,h,_=>by cases n<;>simp[bA] at h
 |n,.dcs _,_,h,_=>by cases n<;>simp[bA] at h
 |n,.exn _,_,h,_=>by cases n<;>simp[bA] at h
theorem uA:∀(n:Nat) (ds es:List D),(∀d∈ds,bA n d=true)->(∀d∈es,bA n d=true)->PyData.eqvAll (gT ds) (gT es)=kU ds es
 |n,[],[],_,_=>by simp[gT,PyData.eqvAll,kU]
 |n,[],_::_,_,_=>by simp[gT,PyData.eqvAll,kU]
 |n,_::_,[],_,_=>by simp[gT,PyData.eqvAll,kU]
 |n,d::ds,e::es,h,h'=>by(simp only[gT,PyData.eqvAll,kU];rw[DT n d e (h d (by simp)) (h' e (by simp)),uA n ds es (λx hx=>h x (by simp[hx])) (λx hx=>h' x (by simp[hx]))])
end
section
variable{X:Cx}{K:Frag}{pins:List (Addr×Obj)}{σ:St}{H G:Hp}{s:Shared}
mutual
theorem yY(I:Inv X pins σ H s)(hK:X.K=K)(sub:aN G H):∀(n:Nat) (d:D) (x:V) (u:Value),bA n d=true->aC K G d x->a8 x u->∃as,Reads s.heap u (d6 d) as/\PyData.canLay0 (d6 d)=true/\PyData.depth (d6 d)<=n
 |n,.non,x,u,_,h,r=>by
  simp only[aC] at h;subst h;cases r;exact⟨_,Reads.none,by simp[d6,PyData.canLay0],by simp[d6,PyData.depth]⟩
 |n,.bl b,x,u,_,h,r=>by
  simp only[aC] at h;subst h;cases r;exact⟨_,Reads.bool b,by simp[d6,PyData.canLay0],by simp[d6,PyData.depth]⟩
 |n,.int b,x,u,_,h,r=>by
  simp only[aC] at h;subst h;obtain⟨t,rfl⟩:=r;exact⟨_,Reads.int b t,by simp[d6,PyData.canLay0],by simp[d6,PyData.depth]⟩
 |n,.str b,x,u,_,h,r=>by
  simp only[aC] at h;obtain⟨rfl,hs⟩:=h;obtain⟨t,rfl⟩:=r;exact⟨_,Reads.str b t,by simpa[d6,PyData.canLay0] using hs,by simp[d6,PyData.depth]⟩
 |n+1,.tup ds,x,u,ok,h,r=>by
  simp only[aC] at h;obtain⟨a,vs,rfl,h1,h2⟩:=h;cases r;obtain⟨its,rv,⟨o,ho,hc,m,hd⟩,hz⟩:=I.tuple (show cK X.K H a vs from hK ▸ cZ sub h1);obtain⟨as,r1,r2,r3⟩:=j7 I hK sub n ds vs its (by simpa[bA] using ok) h2 rv;exact⟨_,Reads.tuple ho hc hd (by simpa using r1),by simpa[d6,PyData.canLay0] using r2,by simp[d6,PyData.depth];omega⟩
 |n+1,.lst ds,x,u,ok,h,r=>by
  simp only[aC] at h;obtain⟨a,vs,rfl,h1,h2⟩:=h;cases r;obtain⟨its,rv,⟨o,m,ho,hc,hn,hd⟩,hz⟩:=I.list (show bV X.K H a vs from hK ▸ sub.seq h1);obtain⟨as,r1,r2,r3⟩:=j7 I hK sub n ds vs its (by simpa[bA] using ok) h2 rv;exact⟨_,Reads.list ho hc hd (by simpa using r1),by simpa[d6,PyData.canLay0] using r2,by simp[d6,PyData.depth];omega⟩
 | 0,.tup ds,_,_,h,_,_=>by simp[bA] at h
 | 0,.lst ds,_,_,h,_,_=>by simp[bA] at h
 |n,.ins _ _ _,_,_,h,_,_=>by cases n<;>simp[bA] at h
 |n,.dct _,_,_,h,_,_=>by cases n<;>simp[bA] at h
 |n,.dcs _,_,_,h,_,_=>by cases n<;>simp[bA] at h
 |n,.exn _,_,_,h,_,_=>by cases n<;>simp[bA] at h
theorem j7(I:Inv X pins σ H s)(hK:X.K=K)(sub:aN G H):∀(n:Nat) (ds:List D) (xs:List V) (us:List Value),(∀d∈ds,bA n d=true)->aA K G ds xs->aS xs us->∃as,ReadsAll s.heap us (gT ds) as/\PyData.canLayAll0 (gT ds)=true/\PyData.depthAll (gT ds)<=n
 |n,[],xs,us,_,h,r=>by
  simp only[aA] at h;subst h;cases r;exact⟨_,ReadsAll.nil,by simp[gT,PyData.canLayAll0],by simp[gT,PyData.depthAll]⟩
 |n,d::ds,xs,us,ok,h,r=>by
  simp only[aA] at h;obtain⟨v,r',rfl,h1,h2⟩:=h
  cases r with
  |cons ra rb =>
   obtain⟨as,a1,a2,a3⟩:=yY I hK sub n d v _ (ok d (by simp)) h1 ra;obtain⟨bs,b1,b2,b3⟩:=j7 I hK sub n ds r' _ (λx hx=>ok x (by simp[hx])) h2 rb;exact⟨_,ReadsAll.cons a1 b1,by simp[gT,PyData.canLayAll0,a2,b2],by simp[gT,PyData.depthAll];omega⟩
end
theorem uX(I:Inv X pins σ H s)(hK:X.K=K)(sub:aN G H)(n:Nat)(d:D)(x:V)(u:Value)(ok:bA n d=true)(h:b9 K H G d x)(r:a8 x u):∃as,Reads s.heap u (d6 d) as/\PyData.canLay0 (d6 d)=true/\PyData.depth (d6 d)<=n:=by
 rcases h with h | ⟨a,rfl,h⟩
 ·exact yY I hK sub n d x u ok h r
 ·cases r
  cases d<;>first | exact h.elim | skip
  rename_i ds;obtain⟨vs,h1,h2⟩:=h
  cases n with
  |zero=>simp[bA] at ok
  |succ n =>
   obtain⟨its,rv,⟨o,m,ho,hc,hn,hd⟩,hz⟩:=I.list (bV.of h1);obtain⟨as,r1,r2,r3⟩:=j7 I hK sub n ds vs its (by simpa[bA] using ok) h2 rv;exact⟨_,Reads.list ho hc hd (by simpa using r1),by simpa[d6,PyData.canLay0] using r2,by simp[d6,PyData.depth];omega⟩
def xU(K:Frag)(H G:Hp)(v:RV)(x:V)(H':Hp):Prop :=
 (∃d,v=.sh d/\aC K G d x/\H'=H) \/
 (∃ds vs p,v=.ow (.lst ds)/\H p=none/\aA K G ds vs/\x=.ref p/\H'=aW H p (.lst vs)) \/
 (∃ds vs p,v=.sh (.tup ds)/\H p=none/\aA K G ds vs/\x=.ref p/\H'=aW H p (.tup vs))
theorem Aft.made{ρ ρ':Env}{H0 G0 H2:Hp}(a:Aft K ρ σ H0 G0 ρ' H G){v:RV}{x:V}(m:xU K H G v x H2) :
  ∃G2,Aft K ρ σ H0 G0 ρ' H2 G2/\b8 K H2 G2 (aI ρ' σ) (dC H0) v x:=by
 rcases m with ⟨d,rfl,h,rfl⟩ | ⟨ds,vs,p,rfl,h,r,rfl,rfl⟩ | ⟨ds,vs,p,rfl,h,r,rfl,rfl⟩
 ·exact⟨G,a,h⟩
 ·exact⟨_,a.own_new h r⟩
 ·exact⟨_,a.tup_new h r⟩
noncomputable def aEd(K:Frag)(op:Operator):R2:=λx y H Q=>∃G d e v,aN G H/\b9 K H G d x/\b9 K H G e y/\(op=.Mult->∀ds,d=.lst ds->∃a vs,x=.ref a/\H a=some (.lst vs)/\aA K G ds vs)/\fC op d e=some v/\∀z H',xU K H G v z H'->Q z H'
theorem cT{i:Int}:xU K H G (.sh (.int i)) (.int i) H:=.inl ⟨_,rfl,by simp[aC],rfl⟩
theorem UB{i:Bool}:xU K H G (.sh (.bl i)) (.bl i) H:=.inl ⟨_,rfl,by simp[aC],rfl⟩
theorem gF{n:Nat}(h:aP n=true):n<=sizeLine:=Zr (@of_decide_eq_true _ (cl _) h) (by decide)
theorem rK(I:Inv X pins σ H s){a:Addr}{vs:List V}(h:bV X.K H a vs):∃(its:List Value),aS vs its/\s.heap.IsList a its.toArray/\vs.length<=sizeLine:=by
 obtain⟨its,r,p,z⟩:=I.list h;exact⟨its,r,p.isList,z⟩
noncomputable def aBj(K:Frag):R2:=λx y H Q=>∃l b xs zs,x=.ref l/\y=.ref b/\bV K H l xs/\bV K H b zs/\xs.length+zs.length<=sizeLine/\∀p,H p=none->Q (.ref p) (aW H p (.lst (xs++zs)))
theorem TB:eA X (binaryOp .Add) (aBj X.K):=by
 intro pins s σ H x y v u Q I rx ry h;obtain⟨l,b,xs,zs,rfl,rfl,hH,hB,hz,q⟩:=h;cases rx;cases ry;obtain⟨its,r,hl,z⟩:=rK I hH;obtain⟨its2,r2,hl2,z2⟩:=rK I hB;have e1:=r.length;have e2:=r2.length;obtain⟨⟨cls,dd,data,sl⟩,ho,hc,n,hd⟩:=id hl;obtain⟨⟨cls2,dd2,data2,sl2⟩,ho2,hc2,n2,hd2⟩:=id hl2;simp only at hc hd hc2 hd2;subst hc hd hc2 hd2;refine concat_meets ⟨_,ho,rfl⟩ ⟨_,ho2,rfl⟩ noFill_list_add seq_list_add PySem.F.slot_list_add PySem.F.entry_list_add (PySem.F.args_list_add_2 _ _) (list_addW l b its.toArray its2.toArray n n2 dd dd2 sl sl2 (by simp;omega)) ⟨ho,ho2, ?_⟩;have ea:its.toArray++its2.toArray=(its++its2).toArray:=by simp
 rw[ea];exact⟨.ref _,_,I.lnew (t':=s.toks) (r.append r2) (by rw[Za];omega),rfl,q _ I.fresh⟩
theorem L0:eA X (binaryOp .FloorDiv) (rI (λ_ j=>0<j/\j<nofun) λi j=>.int (i / j)):=KI λi j _ _ _ _ _ hc q=>by
 have h1:(0:Int)<j:=hc.1;have h2:j<nofun:=hc.2;have h3:j.natAbs<2 ^ 300:=Zl (by omega:j.natAbs<nofun) (by decide);have h4:j.natAbs.log2<300:=(Nat.log2_lt (by omega)).mpr h3;exact PyProof.Rows.floordiv_int (by omega) (by rw[Int.fdiv_eq_ediv_of_nonneg i (by omega)];exact q) (.inl (PyProof.noPylong_of_log2 (by omega)))
theorem aF{α:Type _}{v:α}(e:none=some v):False:=nomatch e
theorem SY{X:Cx}:eA X (binaryOp .Add) (λx y H Q=>∃a b ys,x=.ref a/\y=.ref b/\cK X.K H a []/\cK X.K H b ys/\Q (.ref b) H):=by
 intro pins s σ H x y v u Q I rx ry h;obtain⟨a,b,ys,rfl,rfl,ha,hb,q⟩:=h;cases rx;cases ry;obtain⟨its,r1,p1,_⟩:=I.tuple ha;obtain⟨its2,r2,p2,_⟩:=I.tuple hb;have e0:its=[]:=r1.nil_iff.mpr rfl;subst e0;obtain⟨⟨cls,dd,data,sl⟩,ho,hc,n,hd⟩:=id p1;obtain⟨⟨cls2,dd2,data2,sl2⟩,ho2,hc2,n2,hd2⟩:=id p2;simp only at hc hd hc2 hd2;subst hc hd hc2 hd2
 exact concat_meets ⟨_,ho,rfl⟩ ⟨_,ho2,rfl⟩ noFill_tuple_add seq_tuple_add PySem.F.slot_tuple_add PySem.F.entry_tuple_add (PySem.F.args_tuple_add_2 _ _)
  (tuple_addW0 a b [].toArray its2.toArray n n2 dd dd2 sl sl2 rfl) ⟨ho,ho2,⟨.ref b,H,I,rfl,q⟩⟩
theorem aBb(hK:X.K=K)(op:Operator):eA X (binaryOp op) (aEd K op):=by
 intro pins s σ H x y v u Q I rx ry h;obtain⟨G,d,e,w,sub,hx,hy,hm,eb,k⟩:=h;subst hK
 cases op with
 |Add =>
  cases d with
  |int =>
   cases e with
   |int =>
    cases hx.int;cases hy.int;change some _=_ at eb;cases eb;exact YS pins s σ H _ _ _ _ Q I rx ry ⟨_,_,rfl,rfl,k _ _ cT⟩
   |_=>exact(aF eb).elim
  |lst xs =>
   cases e with
   |lst ys =>
    change (if aP (xs.length+ys.length) then some _ else none)=_ at eb;split at eb
    ·rename_i hz;cases eb;obtain⟨a,vs,rfl,h1,h2⟩:=hx.lst sub;obtain⟨b,ws,rfl,h3,h4⟩:=hy.lst sub;refine TB pins s σ H _ _ _ _ Q I rx ry ⟨a,b,vs,ws,rfl,rfl,h1,h3, ?_,λp hp=>k _ _ (.inr (.inl ⟨_,_,p,rfl,hp,h2.app h4,rfl,rfl⟩))⟩;rw[h2.len,h4.len];exact gF hz
    ·cases eb
   |_=>exact(aF eb).elim
  |tup xs =>
   cases xs with
   |nil =>
    cases e with
    |tup ys0 =>
     change some _=_ at eb;cases eb;have hy':=hy;obtain⟨a,vs,rfl,h1,h2⟩:=hx.tup sub;obtain⟨b,ws,rfl,h3,h4⟩:=hy.tup sub;have e1:vs=[]:=List.length_eq_zero_iff.mp h2.len;subst e1;refine SY pins s σ H _ _ _ _ Q I rx ry ⟨a,b,ws,rfl,rfl,h1,h3, ?_⟩;rcases hy' with hy' | ⟨_,_,hy'⟩
     ·exact k _ _ (.inl ⟨_,rfl,hy',rfl⟩)
     ·exact hy'.elim
    |_=>exact(aF eb).elim
   |cons x0 xs0 =>
    cases e with
    |tup ys0 =>
     change (if aP (xs0.length+1+ys0.length) then some _ else none)=_ at eb;split at eb
     ·rename_i hz;cases eb;have hx':=hx;obtain⟨a,vs,rfl,h1,h2⟩:=hx.tup sub;obtain⟨b,ws,rfl,h3,h4⟩:=hy.tup sub;have e1:=h2.len;have e2:=h4.len;refine VE pins s σ H _ _ _ _ Q I rx ry ⟨a,b,vs,ws,rfl,rfl,h1,h3, ?_, ?_,λhw=>?_,λhw p hp=>?_⟩
      ·intro z;subst z;simp at e1
      ·rw[e1,e2];exact gF hz
      ·subst hw;have e3:ys0=[]:=List.length_eq_zero_iff.mp e2.symm;subst e3;rcases hx' with hx' | ⟨_,_,hx'⟩
       ·exact k _ _ (.inl ⟨_,rfl,by simpa using hx',rfl⟩)
       ·exact hx'.elim
      ·exact k _ _ (.inr (.inr ⟨_,_,p,rfl,hp,h2.app h4,rfl,rfl⟩))
     ·cases eb
    |_=>exact(aF eb).elim
  |_=>exact(aF eb).elim
 |Sub =>
  cases d with
  |int =>
   cases e with
   |int =>
    cases hx.int;cases hy.int;change some _=_ at eb;cases eb;exact XI pins s σ H _ _ _ _ Q I rx ry ⟨_,_,rfl,rfl,k _ _ cT⟩
   |_=>exact(aF eb).elim
  |_=>exact(aF eb).elim
 |Mult =>
  cases d with
  |int =>
   cases e with
   |int =>
    cases hx.int;cases hy.int;change @ite _ _ (cl _) _ none=_ at eb;split at eb
    ·cases eb;exact aAp pins s σ H _ _ _ _ Q I rx ry ⟨_,_,rfl,rfl,‹_›,k _ _ cT⟩
    ·cases eb
   |_=>exact(aF eb).elim
  |_=>exact(aF eb).elim
 |FloorDiv =>
  cases d with
  |int =>
   cases e with
   |int =>
    cases hx.int;cases hy.int;change @ite _ _ (cl _) _ none=_ at eb;split at eb
    ·cases eb;exact L0 pins s σ H _ _ _ _ Q I rx ry ⟨_,_,rfl,rfl,‹_›,k _ _ cT⟩
    ·cases eb
   |_=>exact(aF eb).elim
  |_=>exact(aF eb).elim
 |Mod =>
  cases d with
  |int =>
   cases e with
   |int =>
    cases hx.int;cases hy.int;change @ite _ _ (cl _) _ none=_ at eb;split at eb
    ·cases eb;exact aAd pins s σ H _ _ _ _ Q I rx ry ⟨_,_,rfl,rfl,‹_›,k _ _ cT⟩
    ·cases eb
   |_=>exact(aF eb).elim
  |_=>exact(aF eb).elim
 |Pow=>exact(aF eb).elim
 |LShift =>
  cases d with
  |int =>
   cases e with
   |int =>
    cases hx.int;cases hy.int;change @ite _ _ (cl _) _ none=_ at eb;split at eb
    ·rename_i hc;cases eb;exact X5 pins s σ H _ _ _ _ Q I rx ry ⟨_,_,rfl,rfl,⟨hc.1,by omega,hc.2.2⟩,k _ _ cT⟩
    ·cases eb
   |_=>exact(aF eb).elim
  |_=>exact(aF eb).elim
 |RShift =>
  cases d with
  |int =>
   cases e with
   |int =>
    cases hx.int;cases hy.int;change @ite _ _ (cl _) _ none=_ at eb;split at eb
    ·cases eb;exact Y4 pins s σ H _ _ _ _ Q I rx ry ⟨_,_,rfl,rfl,‹_›,k _ _ cT⟩
    ·cases eb
   |_=>exact(aF eb).elim
  |_=>exact(aF eb).elim
 |BitAnd =>
  cases d with
  |int =>
   cases e with
   |int =>
    cases hx.int;cases hy.int;change some _=_ at eb;cases eb;exact Z8 pins s σ H _ _ _ _ Q I rx ry ⟨_,_,rfl,rfl,k _ _ cT⟩
   |_=>exact(aF eb).elim
  |_=>exact(aF eb).elim
 |BitOr=>exact(aF eb).elim
 |_=>exact(aF eb).elim
noncomputable def AK(K:Frag)(op:CmpOp):R2:=λx y H Q=>∃G d e b,aN G H/\b9 K H G d x/\b9 K H G e y/\bX op d e=some b/\Q (.bl b) H
theorem rT{d:D}{x:V}(h:aC K G d x)(f:cV d=true):jF x=true/\∀(e:D) (y:V),aC K G e y->cV e=true->mM y x=d5 e d:=by
 cases d<;>simp only[cV,Bool.false_eq_true] at f<;>simp only[aC] at h
 ·subst h;refine⟨rfl,λe y hy fe=>?_⟩;cases e<;>simp only[cV,Bool.false_eq_true] at fe<;>simp only[aC] at hy<;>(first | subst hy | (obtain⟨rfl,_⟩:=hy))<;>simp[mM,d5]
 ·subst h;refine⟨rfl,λe y hy fe=>?_⟩;cases e<;>simp only[cV,Bool.false_eq_true] at fe<;>simp only[aC] at hy<;>(first | subst hy | (obtain⟨rfl,_⟩:=hy))<;>simp[mM,d5]
 ·subst h;refine⟨rfl,λe y hy fe=>?_⟩;cases e<;>simp only[cV,Bool.false_eq_true] at fe<;>simp only[aC] at hy<;>(first | subst hy | (obtain⟨rfl,_⟩:=hy))<;>simp[mM,d5]
 ·obtain⟨rfl,_⟩:=h;refine⟨rfl,λe y hy fe=>?_⟩;cases e<;>simp only[cV,Bool.false_eq_true] at fe<;>simp only[aC] at hy<;>(first | subst hy | (obtain⟨rfl,_⟩:=hy))<;>simp[mM,d5]
theorem b9.flat{d:D}{x:V}(h:b9 K H G d x)(f:cV d=true):aC K G d x:=by
 rcases h with h | ⟨a,rfl,h⟩
 ·exact h
 ·cases d<;>first | exact h.elim | cases f
theorem CK{d:D}{x:V}(h:aC K G d x)(f:cV d=true):∀{ds:List D} {vs:List V},aA K G ds vs->ds.all cV=true->vs.all jF=true/\QH x vs=BK d ds
 |[],vs,h2,_=>by simp only[aA] at h2;subst h2;exact⟨rfl,rfl⟩
 |e::ds,vs,h2,fs=>by
  simp only[aA] at h2;obtain⟨y,r,rfl,h3,h4⟩:=h2;rw[Zj,ZB] at fs;obtain⟨a1,a2⟩:=CK h f h4 fs.2;obtain⟨b1,_⟩:=rT h3 fs.1;have b2:=(rT h f).2 e y h3 fs.1;refine⟨by rw[Zj,b1,a1];rfl, ?_⟩
  unfold QH BK at *
  rw[List.any_cons,List.any_cons,a2,b2]
theorem IC(I:Inv X pins σ H s)(hK:X.K=K)(sub:aN G H){A:Around}(hu:A.units+20<cLine){d e:D}{x y:V}{v u:Value}(od:bA 20 d=true)(oe:bA 20 e=true)(hx:b9 K H G d x)(hy:b9 K H G e y)(rx:a8 x v)(ry:a8 y u) :
  SeqAt.RcAt A s v u (d5 d e)/\SeqAt.RcNeAt A s v u (!d5 d e):=by
 obtain⟨as,a1,a2,a3⟩:=uX I hK sub 20 d x v od hx rx;obtain⟨bs,b1,b2,b3⟩:=uX I hK sub 20 e y u oe hy ry;rw[<- DT 20 d e od oe];exact⟨SeqAt.rcAt_reads a1 b1 a2 b2 (by omega),SeqAt.rcNeAt_reads a1 b1 a2 b2 (by omega)⟩
theorem AI:∀{ds:List D} {ns:List Int},fF ds=some ns->ds=ns.map D.int
 |[],ns,h=>by cases h;rfl
 |.int i::r,ns,h=>by
  replace h:(fF r).map (i :: ·)=some ns:=h
  cases q:fF r with
  |none=>rw[q] at h;cases h
  |some ms =>
   rw[q] at h;cases h;rw[Zs,<- AI q]
 |.non::_,_,h | .bl _::_,_,h | .str _::_,_,h | .tup _::_,_,h | .lst _::_,_,h | .ins _ _ _::_,_,h | .dct _::_,_,h | .exn _::_,_,h | .dcs _::_,_,h=>nomatch h
theorem l6(hK:X.K=K)(hu:X.A.units+64<cLine)(op:CmpOp):eA X (compareOp op) (AK K op):=by
 intro pins s σ H x y v u Q I rx ry h;obtain⟨G,d,e,b,sub,hx,hy,eb,k⟩:=h
 cases op with
 |Eq =>
  change (if bA 20 d&&bA 20 e then some _ else none)=_ at eb;split at eb
  ·rename_i hc;cases eb;rw[ZB] at hc;exact(IC I hK sub (by omega) hc.1 hc.2 hx hy rx ry).1 _ _ _ _ ⟨.bl _,H,I,rfl,k⟩
  ·cases eb
 |NotEq =>
  change (if bA 20 d&&bA 20 e then some _ else none)=_ at eb;split at eb
  ·rename_i hc;cases eb;rw[ZB] at hc;exact(IC I hK sub (by omega) hc.1 hc.2 hx hy rx ry).2 _ _ _ _ ⟨.bl _,H,I,rfl,k⟩
  ·cases eb
 |Lt =>
  cases d with
  |int =>
   cases e with
   |int =>
    cases hx.int;cases hy.int;change some _=_ at eb;cases eb;exact aBg pins s σ H _ _ _ _ Q I rx ry ⟨_,_,rfl,rfl,k⟩
   |_=>exact(aF eb).elim
  |_=>exact(aF eb).elim
 |LtE =>
  cases d with
  |int =>
   cases e with
   |int =>
    cases hx.int;cases hy.int;change some _=_ at eb;cases eb;exact aBA pins s σ H _ _ _ _ Q I rx ry ⟨_,_,rfl,rfl,k⟩
   |_=>exact(aF eb).elim
  |_=>exact(aF eb).elim
 |Gt =>
  cases d with
  |int =>
   cases e with
   |int =>
    cases hx.int;cases hy.int;change some _=_ at eb;cases eb;exact aBW pins s σ H _ _ _ _ Q I rx ry ⟨_,_,rfl,rfl,k⟩
   |_=>exact(aF eb).elim
  |_=>exact(aF eb).elim
 |GtE =>
  cases d with
  |int =>
   cases e with
   |int =>
    cases hx.int;cases hy.int;change some _=_ at eb;cases eb;exact aBC pins s σ H _ _ _ _ Q I rx ry ⟨_,_,rfl,rfl,k⟩
   |_=>exact(aF eb).elim
  |_=>exact(aF eb).elim
 |Is =>
  cases e with
  |non =>
   cases hy.non;refine aAK pins s σ H _ _ _ _ Q I rx ry ⟨rfl, ?_⟩;by_cases hd:d=.non
   ·subst hd;cases hx.non;change some _=_ at eb;cases eb;simpa using k
   ·have:¬x=.non:=λz=>by
     subst z;rcases hx with hx | ⟨_,z,_⟩
     ·cases d<;>first | exact hd rfl | simp[aC] at hx
     ·cases z
    cases d with
    |non=>exact absurd rfl hd
    |_ =>
     change some _=_ at eb;cases eb;simpa[this] using k
  |bl =>
   cases d with
   |bl =>
    cases hx.bl;cases hy.bl;change some _=_ at eb;cases eb;cases rx;cases ry;exact is_bool ⟨.bl _,H,I,rfl,k⟩
   |_=>exact(aF eb).elim
  |_=>cases d<;>exact(aF eb).elim
 |IsNot =>
  cases e with
  |non =>
   cases hy.non;refine R3 pins s σ H _ _ _ _ Q I rx ry ⟨rfl, ?_⟩;by_cases hd:d=.non
   ·subst hd;cases hx.non;change some _=_ at eb;cases eb;simpa using k
   ·have:¬x=.non:=λz=>by
     subst z;rcases hx with hx | ⟨_,z,_⟩
     ·cases d<;>first | exact hd rfl | simp[aC] at hx
     ·cases z
    cases d with
    |non=>exact absurd rfl hd
    |_ =>
     change some _=_ at eb;cases eb;simpa[this] using k
  |_=>cases d<;>exact(aF eb).elim
 |In =>
  cases e with
  |tup ds =>
   change (if cV d&&ds.all cV then some _ else none)=_ at eb;split at eb
   ·rename_i hc;cases eb;rw[ZB] at hc;obtain⟨a,vs,rfl,h1,h2⟩:=hy.tup sub;obtain⟨i1,i2⟩:=CK (hx.flat hc.1) hc.1 h2 hc.2;refine yS pins s σ H _ _ _ _ Q I rx ry ⟨a,vs,rfl,.inr (hK ▸ h1),(rT (hx.flat hc.1) hc.1).1,i1, ?_⟩;simpa[i2] using k
   ·cases eb
  |lst ds =>
   change (if cV d&&ds.all cV then some _ else none)=_ at eb;split at eb
   ·rename_i hc;cases eb;rw[ZB] at hc;obtain⟨a,vs,rfl,h1,h2⟩:=hy.lst sub;obtain⟨i1,i2⟩:=CK (hx.flat hc.1) hc.1 h2 hc.2;refine yS pins s σ H _ _ _ _ Q I rx ry ⟨a,vs,rfl,.inl (hK ▸ h1),(rT (hx.flat hc.1) hc.1).1,i1, ?_⟩;simpa[i2] using k
   ·cases eb
  |_=>exact(aF eb).elim
 |NotIn=>exact(aF eb).elim
end
section
variable{X:Cx}{K:Frag}{pins:List (Addr×Obj)}{σ:St}{H G:Hp}{s:Shared}
theorem QC{ds:List D}{vs:List V}{i:Int}{d:D}(h:aA K G ds vs)(e:cG ds i=some d):∃v,cG vs i=some v/\aC K G d v:=by
 unfold cG at e ⊢;rw[h.len]
 cases q:jS ds.length i with
 |none=>rw[q] at e;cases e
 |some j =>
  rw[q] at e;exact h.get e
noncomputable def aEp(K:Frag):R2:=λx y H Q=>∃G d e r,aN G H/\b9 K H G d x/\b9 K H G e y/\LX d e=some r/\∀z,aC K G r z->Q z H
theorem jR.imp{r r':R2}(h:jR X r)(w:∀x y H Q,r' x y H Q->r x y H Q):jR X r':=λva sl pins s σ H x y v u Q I rx ry q hs=>h va sl pins s σ H x y v u Q I rx ry (w x y H Q q) hs
theorem LB{x:Str}(h:PyData.strOk x=true){i:Int}{c:Nat}(e:cG x.cps.toList i=some c):PyData.strOk ⟨#[c]⟩=true:=by
 unfold PyData.strOk at *
 have hm:c∈x.cps.toList:=by
  unfold cG at e
  cases q:jS x.cps.toList.length i with
  |none=>rw[q] at e;cases e
  |some j=>rw[q] at e;exact zj e
 have:=Array.all_eq_true'.mp h c (by simpa using hm)
 simpa using this
theorem QX:jR X (λ_ _ _ _=>False):=λ_ _ _ _ _ _ _ _ _ _ _ _ _ _ h _=>h.elim
def HF(K:Frag):R2:=λ_ _ _ _=>False
theorem OT(hu:X.A.units+9<cLine):jR X (HF X.K):=QX
theorem aBo(hK:X.K=K)(hu:X.A.units+9<cLine):jR X (aEp K):=by
 refine jR.imp ((XX.or QX).or (OT hu)) λx y H Q h=>?_
 obtain⟨G,d,e,r,sub,hx,hy,er,k⟩:=h;subst hK;unfold LX at er;split at er
 ·cases hy.int;obtain⟨a,vs,rfl,h1,h2⟩:=hx.tup sub;obtain⟨v,h3,h4⟩:=QC h2 er;exact .inl (.inl (.inr (.inl ⟨a,vs,_,v,rfl,rfl,h1,h3,k v h4⟩)))
 ·cases hy.int;obtain⟨a,vs,rfl,h1,h2⟩:=hx.lst sub;obtain⟨v,h3,h4⟩:=QC h2 er;exact .inl (.inl (.inl ⟨a,vs,_,v,rfl,rfl,h1,h3,k v h4⟩))
 ·split at er
  ·rename_i hz;cases hy.int;obtain⟨rfl,ok⟩:=hx.str
   cases q:cG ‹Str›.cps.toList ‹Int› with
   |none=>rw[q] at er;cases er
   |some c =>
    rw[q] at er;cases er;exact .inl (.inl (.inr (.inr ⟨_,_,c,rfl,rfl,Zr hz (by decide),q,k _ (show aC X.K G (.str _) _ by unfold aC;exact⟨rfl,LB ok q⟩)⟩)))
  ·cases er
 ·cases er
theorem JN{ds:List D}{vs:List V}{lo hi:Option Int}(h:aA K G ds vs):aA K G (rC ds lo hi) (qG vs lo hi):=by
 unfold rC qG;rw[h.len];exact(h.drop _).take _
def aDz(K:Frag):V->Option Int->Option Int->Hp->VK->Prop:=λx lo hi H Q=>∃G d v,aN G H/\b9 K H G d x/\QS d lo hi=some v/\∀z H',xU K H G v z H'->Q z H'
theorem aCJ(hK:X.K=K):uD X (aDz K):=by
 intro pins s σ H x v vl vu lo hi sl Q I rx hs pl pu h;obtain⟨G,d,r,sub,hx,er,k⟩:=h;subst hK;refine uD.or U0 YN pins s σ H x v vl vu lo hi sl Q I rx hs pl pu ?_;unfold QS at er;split at er
 ·cases er;obtain⟨a,vs,rfl,h1,h2⟩:=hx.lst sub;exact .inl ⟨a,vs,rfl,h1,λp hp=>k _ _ (.inr (.inl ⟨_,_,p,rfl,hp,JN h2,rfl,rfl⟩))⟩
 ·split at er
  ·cases er
  ·rename_i hw;cases er;obtain⟨a,vs,rfl,h1,h2⟩:=hx.tup sub;exact .inr ⟨a,vs,rfl,h1,by rw[h2.len];exact hw,λp hp=>k _ _ (.inr (.inr ⟨_,_,p,rfl,hp,JN h2,rfl,rfl⟩))⟩
 ·cases er
def uF(K:Frag)(H G:Hp):List D->List V->Prop
 |[],xs=>xs=[]
 |d::ds,xs=>∃x r,xs=x::r/\b9 K H G d x/\uF K H G ds r
theorem eI{d:D}{xs:List V}(h:uF K H G [d] xs):∃x,xs=[x]/\b9 K H G d x:=by
 obtain⟨x,r,rfl,h1,h2⟩:=h;cases (show r=[] from h2);exact⟨x,rfl,h1⟩
theorem aA0{d e:D}{xs:List V}(h:uF K H G [d,e] xs):∃x y,xs=[x,y]/\b9 K H G d x/\b9 K H G e y:=by
 obtain⟨x,r,rfl,h1,h2⟩:=h;obtain⟨y,rfl,h3⟩:=eI h2;exact⟨x,y,rfl,h1,h3⟩
def rBi(K:Frag)(f:BI):List V->Hp->VK->Prop:=λxs H Q=>∃G ds v,aN G H/\uF K H G ds xs/\lK f ds=some v/\∀z H',xU K H G v z H'->Q z H'
noncomputable def biV:BI->Value
 |.len=>.builtin "len"
 |.abs=>.builtin "abs"
 |.int=>.type "int"
 |.list=>.type "list"
 |.tuple=>.type "tuple"
 |.min=>.builtin "min"
 |.max=>.builtin "max"
 |.all=>.builtin "all"
 |.repr=>.builtin "repr"
 |.str=>.type "str"
 |.sorted=>.builtin "sorted"
theorem BE:∀{ds:List D} {vs:List V} {us:List Value} {bs:List Bool},aA K G ds vs->aS vs us->eH ds=some bs->LSm.BoolsAre us bs
 |[],_,_,_,h,r,e=>by
  simp only[aA] at h;subst h;cases r;cases e;exact .nil
 |d::ds,_,_,_,h,r,e=>by
  simp only[aA] at h;obtain⟨v,r',rfl,h1,h2⟩:=h
  cases r with
  |cons ra rb =>
   cases d<;>simp only[eH,reduceCtorEq] at e;rename_i b
   cases q:eH ds with
   |none=>rw[q] at e;cases e
   |some bs' =>
    rw[q] at e;cases e;simp only[aC] at h1;subst h1;cases ra;exact .cons b (BE h2 rb q)
theorem MX(hc:X.A.handled=none):gD X (.builtin "all") (λxs H Q=>∃a vs ds bs G,xs=[.ref a]/\bV X.K H a vs/\aA X.K G ds vs/\eH ds=some bs/\Q (.bl (bs.all id)) H):=by
 intro pins s σ H xs us Q I r h;obtain⟨a,vs,ds,bs,G,rfl,h1,h2,h3,q⟩:=h;obtain⟨u,rfl,rx⟩:=iS r;cases rx;obtain⟨its,rv,hl,z⟩:=rK I h1;have hb:=BE h2 rv h3;have hlt:a<s.heap.objs.size:=by obtain⟨_,e,_⟩:=hl;exact Zv e
 refine call_all_walk (wpAny_pyIter_list hl ?_)
 refine⟨s.heap.objs.size,[s.heap.objs.size,a],[s.heap.objs.size],its.toArray.size,_,_,λi=>(bs[i]?).getD true,rfl,Walks.list (A:=X.A.in1) hc _ a (Zz hlt) its.toArray,
  ⟨⟨_,Zw _ rfl,rfl,rfl⟩,hl.push _⟩,λi v s' Q' E' hP hQ=>?_,λh' tk hk=>?_⟩
 ·obtain⟨b,e,rfl⟩:=hb.get i v (by simpa using hP);simp only[e,Option.getD_some] at hQ;exact wpAny_truthy_bool hQ
 ·have e:((List.range its.toArray.size).all λi=>(bs[i]?).getD true)=bs.all id:=by
   rw[Zi,hb.length];exact LSm.range_all bs
  rw[e];exact⟨.bl _,H,I.kept (t':=tk) (LSm.kept_iter hk),rfl,q⟩
theorem EJ:∀{ds:List D} {vs:List V} {us:List Value} {is:List Int},aA K G ds vs->aS vs us->fF ds=some is->IntsAre us is
 |[],_,_,_,h,r,e=>by
  simp only[aA] at h;subst h;cases r;cases e;exact .nil
 |d::ds,_,_,_,h,r,e=>by
  simp only[aA] at h;obtain⟨v,r',rfl,h1,h2⟩:=h
  cases r with
  |cons ra rb =>
   cases d<;>simp only[fF,reduceCtorEq] at e;rename_i b
   cases q:fF ds with
   |none=>rw[q] at e;cases e
   |some bs' =>
    rw[q] at e;cases e;simp only[aC] at h1;subst h1;obtain⟨t,rfl⟩:=ra;exact .cons _ _ (EJ h2 rb q)
theorem n8:∀ns:List Int,fF (ns.map .int)=some ns
 |[]=>rfl
 |n::ns=>by rw[Zs,fF,n8 ns];rfl
theorem xD{d:D}{k:List Int}(h:gH d=some k):∃b r ns,d=.tup [.int b,.int r,.tup (ns.map .int)]/\k=b::r::ns:=by
 unfold gH at h;split at h
 ·rename_i b r ds
  cases q:fF ds with
  |none=>rw[q] at h;cases h
  |some ns =>
   rw[q] at h;cases h;exact⟨b,r,ns,by rw[AI q],rfl⟩
 ·cases h
theorem O9{d e:D}(h1:(gH d).isSome=true)(h2:(gH e).isSome=true)(h:kD d=kD e):d=e:=by
 obtain⟨k,hk⟩:=Option.isSome_iff_exists.mp h1;obtain⟨l,hl⟩:=Option.isSome_iff_exists.mp h2;unfold kD at h;rw[hk,hl] at h;cases h;obtain⟨b,r,ns,rfl,e1⟩:=xD hk;obtain⟨b',r',ns',rfl,e2⟩:=xD hl;rw[e1] at e2;cases e2;rfl
abbrev mF(d e:D):Prop:=HT.bT (kD e) (kD d)=false
theorem W2{d e:D}(h:HT.bT (kD d) (kD e)=true):mF d e:=by
 cases q:HT.bT (kD e) (kD d) with
 |false=>exact q
 |true =>
  have:=CS.lx_tr _ _ _ h q
  rw[CS.lx_irr] at this;cases this
theorem aAD{d e f:D}(h1:mF d e)(h2:mF e f):mF d f:=by
 cases q:HT.bT (kD f) (kD d) with
 |false=>exact q
 |true =>
  rcases CS.lx_neg _ (kD e) _ q with h | h
  ·rw[h2] at h;cases h
  ·rw[h1] at h;cases h
theorem qB(x:D):∀l:List D,(wN x l).Perm (x::l)
 |[]=>.refl _
 |y::l=>by
  unfold wN;split
  ·exact((qB x l).cons y).trans (.swap ..)
  ·exact .refl _
theorem ES(x:D):∀{l:List D},l.Pairwise mF->(wN x l).Pairwise mF
 |[],_=>List.pairwise_singleton _ _
 |y::l,h=>by
  obtain⟨h1,h2⟩:=List.pairwise_cons.mp h;unfold wN;split
  ·rename_i q;refine List.pairwise_cons.mpr ⟨λz hz=>?_,ES x h2⟩;rcases List.mem_cons.mp ((qB x l).mem_iff.mp hz) with rfl | hz
   ·exact W2 q
   ·exact h1 z hz
  ·rename_i q;have q:mF x y:=by simpa using q
   refine List.pairwise_cons.mpr ⟨λz hz=>?_,h⟩;rcases List.mem_cons.mp hz with rfl | hz
   ·exact q
   ·exact aAD q (h1 z hz)
theorem nX:∀ds:List D,(jD ds).Perm ds
 |[]=>.refl _
 |d::ds=>(qB d _).trans ((nX ds).cons d)
theorem BX:∀ds:List D,(jD ds).Pairwise mF
 |[]=>.nil
 |d::ds=>ES d (BX ds)
theorem B6{ds es:List D}(h:(ds.all λd=>(gH d).isSome)=true)(p:es.Perm ds)(r:es.Pairwise mF):es=jD ds:=by
 have hd:∀d∈ds,(gH d).isSome=true:=List.all_eq_true.mp h
 refine List.Perm.eq_of_pairwise (le:=mF) (λa b ha hb h1 h2=>?_) r (BX ds) (p.trans (nX ds).symm);exact O9 (hd a (p.mem_iff.mp ha)) (hd b ((nX ds).mem_iff.mp hb)) (CS.lx_tot _ _ h2 h1)
theorem aCU{its out:List Value}(p:its.Perm out):∀{ds:List D} {vs:List V},aA K G ds vs->aS vs its->∃ds' vs',ds'.Perm ds/\aA K G ds' vs'/\aS vs' out:=by
 induction p with
 |nil=>exact λ{ds vs} h r=>⟨ds,vs,.refl _,h,r⟩
 |cons u _ ih =>
  intro ds vs h r
  cases r with
  |cons ra rb =>
   cases ds with
   |nil=>simp only[aA] at h;cases h
   |cons d ds =>
    simp only[aA] at h;obtain⟨v,r',e,h1,h2⟩:=h;cases e;obtain⟨ds',vs',p',h',r'⟩:=ih h2 rb;exact⟨d::ds',_::vs',p'.cons d,by simp only[aA];exact⟨_,_,rfl,h1,h'⟩,.cons ra r'⟩
 |swap u w l =>
  intro ds vs h r
  cases r with
  |cons ra rb =>
   cases rb with
   |cons rb rc =>
    obtain _ | ⟨d,_ | ⟨e,ds⟩⟩:=ds
    ·simp only[aA] at h;cases h
    ·simp only[aA] at h;obtain⟨_,_,e,_,h2⟩:=h;cases e;cases h2
    ·simp only[aA] at h;obtain⟨_,_,e1,h1,_,_,e2,h2,h3⟩:=h;cases e1;cases e2;exact⟨e::d::ds,_,.swap ..,by simp only[aA];exact⟨_,_,rfl,h2,_,_,rfl,h1,h3⟩,.cons rb (.cons ra rc)⟩
 |trans _ _ ih1 ih2 =>
  intro ds vs h r;obtain⟨ds1,vs1,p1,h1,r1⟩:=ih1 h r;obtain⟨ds2,vs2,p2,h2,r2⟩:=ih2 h1 r1;exact⟨ds2,vs2,p2.trans p1,h2,r2⟩
theorem aBU(I:Inv X pins σ H s)(sub:aN G H){d:D}{x:V}{u:Value}(h:aC X.K G d x)(r:a8 x u)(e:(gH d).isSome=true):CS.TriAt s.heap u (kD d):=by
 obtain⟨k,hk⟩:=Option.isSome_iff_exists.mp e;have ek:kD d=k:=by unfold kD;rw[hk];rfl
 obtain⟨b,c,ns,rfl,rfl⟩:=xD hk;rw[ek];simp only[aC,aA] at h;obtain⟨a,vs,rfl,h1,_,_,rfl,rfl,_,_,rfl,rfl,_,_,rfl,⟨a2,vs2,rfl,h2,h3⟩,rfl⟩:=h;cases r;obtain⟨its,ri,ti,_⟩:=I.tuple (cZ sub h1);obtain⟨its2,ri2,ti2,_⟩:=I.tuple (cZ sub h2)
 cases ri with
 |cons r1 ri =>
  cases ri with
  |cons r2 ri =>
   cases ri with
   |cons r3 ri =>
    cases ri;obtain⟨t1,rfl⟩:=r1;obtain⟨t2,rfl⟩:=r2;cases r3;refine⟨a,a2,b,c,t1,t2,ns,its2.toArray,rfl,ti,ti2, ?_,rfl⟩;exact EJ (K:=X.K) (G:=G) h3 ri2 (n8 ns)
theorem AN(I:Inv X pins σ H s)(sub:aN G H):∀{ds:List D} {vs:List V} {us:List Value},aA X.K G ds vs->aS vs us->(∀d∈ds,(gH d).isSome=true)->(∀u∈us,∃d∈ds,CS.TriAt s.heap u (kD d))/\(CS.Rise s.heap us->ds.Pairwise mF)/\∀d∈ds,∃u∈us,CS.TriAt s.heap u (kD d)
 |[],_,_,h,r,_=>by
  simp only[aA] at h;subst h;cases r;exact⟨λ_ z=>(nomatch z),λ_=>.nil,λ_ z=>(nomatch z)⟩
 |d::ds,_,_,h,r,e=>by
  simp only[aA] at h;obtain⟨v,r',rfl,h1,h2⟩:=h
  cases r with
  |cons ra rb =>
   obtain⟨a1,a2,a3⟩:=AN I sub h2 rb λx hx=>e x (Ze _ hx)
   have k1:=aBU I sub h1 ra (e d (zh ..));refine⟨λu hu=>?_,λhr=>?_,λx hx=>?_⟩
   ·rcases List.mem_cons.mp hu with rfl | hu
    ·exact⟨d,zh ..,k1⟩
    ·obtain⟨y,hy,q⟩:=a1 u hu;exact⟨y,Ze _ hy,q⟩
   ·obtain⟨q1,q2⟩:=List.pairwise_cons.mp hr;refine List.pairwise_cons.mpr ⟨λx hx=>?_,a2 q2⟩;obtain⟨u,hu,q⟩:=a3 x hx;exact q1 u hu _ _ k1 q
   ·rcases List.mem_cons.mp hx with rfl | hx
    ·exact⟨_,zh ..,k1⟩
    ·obtain⟨y,hy,q⟩:=a3 x hx;exact⟨y,Ze _ hy,q⟩
theorem DN(rm:Room 2 X.A)(hc:X.calm=true):gD X (.builtin "sorted") (λxs H Q=>∃a vs ds G,aN G H/\xs=[.ref a]/\bV X.K H a vs/\aA X.K G ds vs/\(ds.all λd=>(gH d).isSome)=true/\∀p vs',H p=none->aA X.K G (jD ds) vs'->Q (.ref p) (aW H p (.lst vs'))):=by
 intro pins s σ H xs us Q I r h;obtain⟨a,vs,ds,G,sub,rfl,h1,h2,h3,q⟩:=h;obtain⟨u,rfl,rx⟩:=iS r;cases rx;obtain⟨its,rv,hl,z⟩:=rK I h1;have hd:∀d∈ds,(gH d).isSome=true:=List.all_eq_true.mp h3
 obtain⟨k1,_,_⟩:=AN I sub h2 rv hd;refine CS.sorted_any hl (by rw[<- rv.length];exact z) (λx hx=>⟨_,(k1 x hx).choose_spec.2⟩) (by have:=rm.un;omega) λout p ri=>?_
 obtain⟨ds',vs',p',h',r'⟩:=aCU p.symm h2 rv;obtain⟨_,k2,_⟩:=AN I sub h' r' λd hd'=>hd d (p'.mem_iff.mp hd')
 obtain rfl:=B6 h3 p' (k2 ri);obtain⟨nn,ea⟩:=CS.all_at s.heap its out;refine⟨.ref (s.heap.objs.size+1),_,I.laid (o:=.lst vs') (t':=s.toks) (CS.all_kept s.heap its out) (Nat.le_succ _) ⟨?_,out.toList,_,r',ea⟩,rfl,q _ _ (I.hok.fresh (Nat.le_succ _)) h'⟩;rw[r'.length,p.length_eq,<- rv.length];exact z
theorem aBu(hK:X.K=K)(hc:X.calm=true)(hh:X.A.handled=none)(rm:Room 2 X.A)(f:BI):gD X (biV f) (rBi K f):=by
 intro pins s σ H xs us Q I r h;obtain⟨G,ds,v,sub,hx,e,k⟩:=h;subst hK
 cases f with
 |len =>
  obtain _ | ⟨d,_ | ⟨_,_⟩⟩:=ds
  ·exact(aF e).elim
  ·cases d with
   |lst =>
    change some _=_ at e;cases e;obtain⟨x,rfl,h1⟩:=eI hx;obtain⟨a,vs,rfl,h2,h3⟩:=h1.lst sub;exact rB pins s σ H _ us Q I r ⟨a,vs,rfl,.inl h2,by rw[h3.len];exact k _ _ cT⟩
   |tup =>
    change some _=_ at e;cases e;obtain⟨x,rfl,h1⟩:=eI hx;obtain⟨a,vs,rfl,h2,h3⟩:=h1.tup sub;exact rB pins s σ H _ us Q I r ⟨a,vs,rfl,.inr h2,by rw[h3.len];exact k _ _ cT⟩
   |str x =>
    change @ite _ (x.length<=1000000) (cl _) _ none=_ at e;split at e
    ·rename_i hz;cases e;obtain⟨x,rfl,h1⟩:=eI hx;obtain⟨rfl,_⟩:=h1.str;exact BG pins s σ H _ us Q I r ⟨_,rfl,Zr hz (by decide),k _ _ cT⟩
    ·cases e
   |_=>exact(aF e).elim
  ·cases d<;>exact(aF e).elim
 |abs =>
  obtain _ | ⟨d,_ | ⟨_,_⟩⟩:=ds
  ·exact(aF e).elim
  ·cases d with
   |int =>
    change some _=_ at e;cases e;obtain⟨x,rfl,h1⟩:=eI hx;cases h1.int;exact M6 pins s σ H _ us Q I r ⟨_,rfl,k _ _ cT⟩
   |_=>exact(aF e).elim
  ·cases d<;>exact(aF e).elim
 |int =>
  obtain _ | ⟨d,_ | ⟨_,_⟩⟩:=ds
  ·exact(aF e).elim
  ·cases d with
   |int =>
    change some _=_ at e;cases e;obtain⟨x,rfl,h1⟩:=eI hx;cases h1.int;exact yR pins s σ H _ us Q I r (.inl ⟨_,rfl,k _ _ cT⟩)
   |bl =>
    change some _=_ at e;cases e;obtain⟨x,rfl,h1⟩:=eI hx;cases h1.bl;exact yR pins s σ H _ us Q I r (.inr ⟨_,rfl,k _ _ cT⟩)
   |_=>exact(aF e).elim
  ·cases d<;>exact(aF e).elim
 |list =>
  obtain _ | ⟨d,_ | ⟨_,_⟩⟩:=ds
  ·exact(aF e).elim
  ·cases d with
   |lst =>
    change some _=_ at e;cases e;obtain⟨x,rfl,h1⟩:=eI hx;obtain⟨a,vs,rfl,h2,h3⟩:=h1.lst sub;exact pU pins s σ H _ us Q I r ⟨a,vs,rfl,.inl h2,λp hp=>k _ _ (.inr (.inl ⟨_,_,p,rfl,hp,h3,rfl,rfl⟩))⟩
   |tup =>
    change some _=_ at e;cases e;obtain⟨x,rfl,h1⟩:=eI hx;obtain⟨a,vs,rfl,h2,h3⟩:=h1.tup sub;exact pU pins s σ H _ us Q I r ⟨a,vs,rfl,.inr h2,λp hp=>k _ _ (.inr (.inl ⟨_,_,p,rfl,hp,h3,rfl,rfl⟩))⟩
   |_=>exact(aF e).elim
  ·cases d<;>exact(aF e).elim
 |tuple =>
  obtain _ | ⟨d,_ | ⟨_,_⟩⟩:=ds
  ·exact(aF e).elim
  ·cases d with
   |lst =>
    change some _=_ at e;cases e;obtain⟨x,rfl,h1⟩:=eI hx;obtain⟨a,vs,rfl,h2,h3⟩:=h1.lst sub;exact oT pins s σ H _ us Q I r ⟨a,vs,rfl,.inl ⟨h2,λp hp=>k _ _ (.inr (.inr ⟨_,_,p,rfl,hp,h3,rfl,rfl⟩))⟩⟩
   |tup =>
    change some _=_ at e;cases e;obtain⟨x,rfl,h1⟩:=eI hx;have h1':=h1;obtain⟨a,vs,rfl,h2,h3⟩:=h1.tup sub;refine oT pins s σ H _ us Q I r ⟨a,vs,rfl,.inr ⟨h2, ?_⟩⟩;rcases h1' with h1' | ⟨_,_,h1'⟩
    ·exact k _ _ (.inl ⟨_,rfl,h1',rfl⟩)
    ·exact h1'.elim
   |_=>exact(aF e).elim
  ·cases d<;>exact(aF e).elim
 |min=>exact(aF e).elim
 |max=>exact(aF e).elim
 |all =>
  obtain _ | ⟨d,_ | ⟨_,_⟩⟩:=ds
  ·exact(aF e).elim
  ·cases d with
   |lst ds =>
    change (eH ds).map _=_ at e
    cases q:eH ds with
    |none=>rw[q] at e;cases e
    |some bs =>
     rw[q] at e;cases e;obtain⟨x,rfl,h1⟩:=eI hx;obtain⟨a,vs,rfl,h2,h3⟩:=h1.lst sub;exact MX hh pins s σ H _ us Q I r ⟨a,vs,ds,bs,G,rfl,h2,h3,q,k _ _ UB⟩
   |_=>exact(aF e).elim
  ·cases d<;>exact(aF e).elim
 |repr=>exact(aF e).elim
 |sorted =>
  obtain _ | ⟨d,_ | ⟨_,_⟩⟩:=ds
  ·exact(aF e).elim
  ·cases d with
   |lst ds =>
    change (if(ds.all λd=>(gH d).isSome)=true then some (RV.ow (.lst (jD ds))) else none)=_ at e;split at e
    ·rename_i ha;cases e;obtain⟨x,rfl,h1⟩:=eI hx;obtain⟨a,vs,rfl,h2,h3⟩:=h1.lst sub;exact DN rm hc pins s σ H _ us Q I r ⟨a,vs,ds,G,sub,rfl,h2,h3,ha,λp vs' hp h'=>k _ _ (.inr (.inl ⟨_,_,p,rfl,hp,h',rfl,rfl⟩))⟩
    ·cases e
   |_=>exact(aF e).elim
  ·cases d<;>exact(aF e).elim
 |str =>
  exact(aF e).elim
theorem JZ:gD X (.type "range") (λxs H Q=>∃i j:Int,(xs=[.int i,.int j]\/(xs=[.int j]/\i=0))/\∀p,H p=none->Q (.ref p) (aW H p (.rng i j))):=by
 intro pins s σ H xs us Q I r h;obtain⟨i,j,rfl | ⟨rfl,rfl⟩,q⟩:=h
 ·obtain⟨u,w,rfl,⟨t,rfl⟩,⟨t',rfl⟩⟩:=aB4 r;exact call_range_2 ⟨.ref s.heap.objs.size,_,I.laid (o:=.rng i j) (λb o e=>Zd _ e) (Zq _) ⟨t,t',_,Zw _ rfl⟩,rfl,q _ (I.hok.fresh (Zq _))⟩
 ·obtain⟨u,rfl,⟨t,rfl⟩⟩:=iS r;exact call_range_1 ⟨.ref s.heap.objs.size,_,I.laid (o:=.rng 0 j) (λb o e=>Zd _ e) (Zq _) ⟨_,t,_,Zw _ rfl⟩,rfl,q _ (I.hok.fresh (Zq _))⟩
theorem C9{i:Int}:∀{n:Nat} {its:List Value},its.length=n->(∀(j:Nat) v,its[j]?=some v->∃t,v=Value.int (i+(j:Int)) t)->aS ((List.range n).map λ(m:Nat)=>V.int (i+(m:Int))) its:=by
 intro n
 induction n generalizing i with
 |zero =>
  intro its h _
  cases its with
  |nil=>exact .nil
  |cons _ _=>cases h
 |succ n ih =>
  intro its h k
  cases its with
  |nil=>cases h
  |cons u r =>
   rw[List.range_succ_eq_map,Zs,List.map_map];refine .cons ?_ ?_
   ·obtain⟨t,e⟩:=k 0 u rfl;exact⟨t,e⟩
   ·have:=ih (i:=i+1) (its:=r) (by simpa using h) λj v e=>by
     obtain⟨t,e'⟩:=k (j+1) v (by simpa using e);exact⟨t,by rw[e'];congr 1;omega⟩
    have e:((λ(m:Nat)=>V.int (i+(m:Int))) ∘ Nat.succ)=λ(m:Nat)=>V.int (i+1+(m:Int)):=by
     funext m
     show V.int _=V.int _;congr 1;omega
    rw[e];exact this
theorem K6(hc:X.calm=true):gD X (.type "list") (λxs H Q=>∃p,∃i j:Int,xs=[.ref p]/\H p=some (.rng i j)/\((-1000000<=i/\i<=1000000)/\(-1000000<=j/\j<=1000000))/\∀q,H q=none->Q (.ref q) (aW H q (.lst ((List.range (j-i).toNat).map λ(m:Nat)=>V.int (i+(m:Int)))))):=by
 intro pins s σ H xs us Q I r h;obtain⟨p,i,j,rfl,hp,hb,q⟩:=h;obtain⟨u,rfl,rx⟩:=iS r;cases rx;obtain⟨t,u',v,hr⟩:=I.hok p _ hp;have hn:Builtin.Range.rangeSize i j 1=((j-i).toNat:Nat):=by rw[rangeSize_one];split<;>omega
 refine call_list_range (n:=(j-i).toNat) (I.ok.hd hc) hr (small_one (by omega) (by omega) (by omega) (by omega)) hn (by omega) λh' tk acc' c' hk hS hacc=>?_
 refine⟨.ref s.heap.objs.size,_,I.laid (o:=.lst ((List.range (j-i).toNat).map λ(m:Nat)=>V.int (i+(m:Int)))) (t':=tk) hk (Zq _) ⟨?_,acc'.toList,c', ?_, ?_⟩,rfl,q _ (I.hok.fresh (Zq _))⟩
 ·rw[List.length_map,List.length_range];show _<=sizeLine;rw[sizeLine_eq];omega
 ·refine C9 (by rw[Array.length_toList];exact hacc.1) λk v e=>?_
  obtain⟨t2,e2⟩:=hacc.2 k v (by rw[<- Array.getElem?_toList];exact e);exact⟨t2,by rw[e2];congr 1;omega⟩
 ·rw[hS]
end
section
variable{X:Cx}{pins:List (Addr×Obj)}{σ:L2.St}{H:Hp}{s:Shared}{h':Heap}
theorem JW{t':Nat}{e it p:Addr}{o:HO}(I:Inv X pins σ H s)(k:∀b u,b≠e->b≠it->s.heap.get? b=some u->h'.get? b=some u)(fe:iY X pins H e)(fi:iY X pins H it)(hp:s.heap.objs.size<=p)
  (new:eS X.prog X.w (aW H p o) h' p o):Inv X pins σ (aW H p o) { s with heap:=h',toks:=t' }:=by
 have hn:H p=none:=I.hok.fresh hp;have ne:∀{b:Addr} {u:HO},H b=some u->b≠e/\b≠it:=λq=>⟨bN q fe.1,bN q fi.1⟩
 have nc:∀{b:Addr},b ∉ [e,it]->b≠e/\b≠it:=λhc=>⟨λz=>hc (by simp[z]),λz=>hc (by simp[z])⟩
 refine I.step (g':=s.gens) (d':=s.drawn) (ch:=[e,it]) (λb hb=>?_) (λb o _ _ hc q _=>k b o (nc hc).1 (nc hc).2 q) (λb o _ _ hc q _=>⟨o.slots,k b o (nc hc).1 (nc hc).2 q⟩)
  (λb o _ q n=>by rw[aO (Zz (Zl (Zv q) hp))];exact n)
  (λb o hc q=>⟨o,k b o (nc hc).1 (nc hc).2 q⟩) (λb xs q=>by rw[aO (bN q hn)];exact q) (λb o u q=>by rw[aO (bN q hn)];exact q) (λb ps q=>⟨#[],by rw[aO (bN q hn),q];simp⟩) (λm hm=>?_) (λb u q=>?_) I.bare
 ·have hb:b=e\/b=it:=by simpa using hb
  rcases hb with rfl | rfl
  ·exact⟨fe.2.2.2.1,fe.2.1,fe.2.2.2.2.1,fe.2.2.2.2.2⟩
  ·exact⟨fi.2.2.2.1,fi.2.1,fi.2.2.2.2.1,fi.2.2.2.2.2⟩
 ·obtain⟨o,es,ep,ho,r⟩:=hm;exact⟨o,es,ep,k _ o (Ne.symm fe.2.1) (Ne.symm fi.2.1) ho,r⟩
 ·by_cases hb:b=p
  ·subst hb;rw[bB] at q;cases q;exact new
  ·rw[aO hb] at q;refine(I.hok b u q).stay (λc v hc z=>?_) (λc q=>by rw[aO (bN q hn)];exact q) λc xs q=>by rw[aO (bN q hn)];exact q
   have hc':c≠e/\c≠it:=by
    rcases hc with w | w
    ·rw[w];exact ne q
    ·exact ne w
   exact k c v hc'.1 hc'.2 z
theorem DP{t':Nat}{e it:Addr}(I:Inv X pins σ H s)(k:∀b u,b≠e->b≠it->s.heap.get? b=some u->h'.get? b=some u)(fe:iY X pins H e)(fi:iY X pins H it):Inv X pins σ H { s with heap:=h',toks:=t' }:=by
 have ne:∀{b:Addr} {u:HO},H b=some u->b≠e/\b≠it:=λq=>⟨bN q fe.1,bN q fi.1⟩
 have nc:∀{b:Addr},b ∉ [e,it]->b≠e/\b≠it:=λhc=>⟨λz=>hc (by simp[z]),λz=>hc (by simp[z])⟩
 refine I.step (g':=s.gens) (d':=s.drawn) (ch:=[e,it]) (λb hb=>?_) (λb o _ _ hc q _=>k b o (nc hc).1 (nc hc).2 q) (λb o _ _ hc q _=>⟨o.slots,k b o (nc hc).1 (nc hc).2 q⟩)
  (λ_ _ _ _ n=>n) (λb o hc q=>⟨o,k b o (nc hc).1 (nc hc).2 q⟩) (λ_ _ q=>q) (λ_ _ _ q=>q) (λb ps q=>⟨#[],by rw[q];simp⟩) (λm hm=>?_) (λb u q=>?_) I.bare
 ·have hb:b=e\/b=it:=by simpa using hb
  rcases hb with rfl | rfl
  ·exact⟨fe.2.2.2.1,fe.2.1,fe.2.2.2.2.1,fe.2.2.2.2.2⟩
  ·exact⟨fi.2.2.2.1,fi.2.1,fi.2.2.2.2.1,fi.2.2.2.2.2⟩
 ·obtain⟨o,es,ep,ho,r⟩:=hm;exact⟨o,es,ep,k _ o (Ne.symm fe.2.1) (Ne.symm fi.2.1) ho,r⟩
 ·refine(I.hok b u q).stay (λc v hc z=>?_) (λ_ q=>q) λ_ _ q=>q
  have hc':c≠e/\c≠it:=by
   rcases hc with w | w
   ·rw[w];exact ne q
   ·exact ne w
  exact k c v hc'.1 hc'.2 z
end
section
variable{prog:Program}{w:World}{A:Around}{E:Value->Shared->Prop}{s:Shared}
theorem S5{e it l:Addr}{c:Int}{i:Nat}{us:Array Value}{u old:Value}{Q:Value->Shared->Prop}(q1:IsEnum s.heap e it c old)(q2:s.heap.IsListIter it l i)(q3:s.heap.IsList l us)(q4:us[i]?=some u)(ne:e≠it)
  (k:∀g,IsEnumOut g e it (c+1) u s.heap.objs.size->g.IsListIter it l (i+1)->g.get? s.heap.objs.size=some { cls:=.type "tuple",data:=.seq #[.int c s.toks,u] }->(∀b o,b≠e->b≠it->s.heap.get? b=some o->g.get? b=some o)->Q (.ref s.heap.objs.size) { s with heap:=g,toks:=s.toks+1 }) :
  wpAny (model prog w) A (Builtin.«enumerate.__next__» ⟨[.ref e],[]⟩) (λfin s'=>∃v,fin=.done (.ret v)/\Q v s') E s:=by
 obtain⟨m0,ge,dr,tk,os⟩:=s;refine Zt (m:=field (.ref e) 2) (wpAny_field q1 rfl (x:=.ref it) rfl (Zt (wpAny_nextOf_list_item q2 q3 q4 λm1 t1 b1=>?_)));have b1:Heap.SameBut it m0 m1:=b1;have e1:IsEnum m1 e it c old:=(b1.2 e ne).trans q1;refine Zt (m:=field (.ref e) 3) (wpAny_field e1 rfl (x:=rawInt c) rfl (Zt (m:=field (.ref e) 4) (wpAny_field e1 rfl (x:=.none) rfl (Zt (m:=mkInt c) (wpAny_mkInt ?_)))));refine Zt (m:=setField (.ref e) 3 (rawInt (c+1))) (wpAny_setField_rec e1 (by simp) λm2 e2 b2=>?_);have b2:Heap.SameBut e m1 m2:=b2;have e2:IsEnum m2 e it (c+1) old:=e2;refine Zt (m:=setField (.ref e) 4 .none) (wpAny_setField_rec e2 (by simp) λm3 e3 b3=>?_);have b3:Heap.SameBut e m2 m3:=b3;have e3:IsEnum m3 e it (c+1) old:=e3;refine Zt (m:=newTuple [.int c tk,u]) (wpAny_newTuple ?_);have n3:m3.objs.size=m0.objs.size:=by rw[b3.1,b2.1,b1.1]
 have lt:e<m0.objs.size:=Zv q1;obtain⟨m4,z4⟩:∃m4,m3.push { cls:=.type "tuple",data:=.seq #[.int c tk,u] }=m4:=⟨_,rfl⟩
 have e4:IsEnum m4 e it (c+1) old:=z4 ▸ Zd _ e3;have p4:m4.get? m0.objs.size=some { cls:=.type "tuple",data:=.seq #[.int c tk,u] }:=z4 ▸ n3 ▸ Zw _ rfl;have k4:∀b o,b≠e->b≠it->m0.get? b=some o->m4.get? b=some o:=λb o x y q=>z4 ▸ Zd _ (b3.extBut b o x (b2.extBut b o x (b1.extBut b o y q)))
 have t4:m4.IsListIter it l (i+1):=by(obtain⟨o,ho,r⟩:=(t1.extBut b2.extBut ne.symm).extBut b3.extBut ne.symm;exact⟨o,z4 ▸ Zd _ ho,r⟩)
 rw[n3,z4];refine Zt (m:=Builtin.SmallTypes.ownedTupleIsFree (.ref e)) ?_;unfold Builtin.SmallTypes.ownedTupleIsFree;refine Zt (wpAny_field e4 rfl (x:=.none) rfl (Zu ?_));simp only[if_true];refine Zt (wpAny_rule (Zt (wpAny_field e4 rfl (x:=old) rfl (Zt (wpAny_setField_rec e4 (by simp) λm5 e5 b5=>?_)))));have b5:Heap.SameBut e m4 m5:=b5;have e5:IsEnum m5 e it (c+1) u:=e5;refine Zt (m:=Builtin.SmallTypes.ownedTupleHandOut (.ref e) (.ref m0.objs.size)) ?_;unfold Builtin.SmallTypes.ownedTupleHandOut;refine Zt (wpAny_setField_rec e5 (by simp) λm6 e6 b6=>?_);have b6:Heap.SameBut e m5 m6:=b6;have e6:IsEnumOut m6 e it (c+1) u m0.objs.size:=e6;refine wpAny_setField_rec e6 (by simp) λm7 e7 b7=>?_
 have b7:Heap.SameBut e m6 m7:=b7;have st:∀b o,b≠e->m4.get? b=some o->m7.get? b=some o:=λb o x q=>b7.extBut b o x (b6.extBut b o x (b5.extBut b o x q))
 refine Zt (wpAny_letGo (Zu ⟨_,rfl,k m7 e7 ?_ (st _ _ (Nat.ne_of_gt lt) p4) λb o x y q=>st b o x (k4 b o x y q)⟩));exact((t4.extBut b5.extBut ne.symm).extBut b6.extBut ne.symm).extBut b7.extBut ne.symm
theorem J6{e it l:Addr}{c:Int}{i:Nat}{us:Array Value}{u old:Value}{Q:Option Value->Shared->Prop}(q1:IsEnum s.heap e it c old)(q2:s.heap.IsListIter it l i)(q3:s.heap.IsList l us)(q4:us[i]?=some u)(ne:e≠it)
  (k:∀g,IsEnumOut g e it (c+1) u s.heap.objs.size->g.IsListIter it l (i+1)->g.get? s.heap.objs.size=some { cls:=.type "tuple",data:=.seq #[.int c s.toks,u] }->(∀b o,b≠e->b≠it->s.heap.get? b=some o->g.get? b=some o)->Q (some (.ref s.heap.objs.size)) { s with heap:=g,toks:=s.toks+1 }) :
  wpAny (model prog w) A (pyNext (.ref e)) Q E s :=
 have ty:s.TypeIs (.ref e) "enumerate":=⟨_,q1,rfl⟩
 Zt (wpAny_attempt (wpAny_callSpecial?_slot (name:=Str.ofString "__next__") ty F.slot_enumerate_next (wpAny_call_entry F.slot_enumerate_next ty F.entry_enumerate_next (S5 q1 q2 q3 q4 ne λg a b c d=>Zu (k g a b c d)) (F.args_enumerate_next_1 _))))
theorem SF{e it l:Addr}{c:Int}{i:Nat}{us:Array Value}{old:Value}{Q:Option Value->Shared->Prop}(hh:A.handled=none)(q1:IsEnum s.heap e it c old)(q2:s.heap.IsListIter it l i)(q3:s.heap.IsList l us)(q4:us[i]?=none)
  (k:∀g,Heap.ExtBut it s.heap g->Q none { s with heap:=g }):wpAny (model prog w) A (pyNext (.ref e)) Q E s:=by
 have ty:s.TypeIs (.ref e) "enumerate":=⟨_,q1,rfl⟩
 refine Zt (wpAny_attempt (wpAny_callSpecial?_slot (name:=Str.ofString "__next__") ty F.slot_enumerate_next (wpAny_call_entry F.slot_enumerate_next ty F.entry_enumerate_next ?_ (F.args_enumerate_next_1 _))));refine Zt (m:=field (.ref e) 2) (wpAny_field q1 rfl (x:=.ref it) rfl (Zt (wpAny_nextOf_list_end hh q2 q3 q4 λg x ex px=>?_)));obtain⟨o,ho,hc⟩:=px;exact Zt (wpAny_isInstance (T:="StopIteration") (b:=true) ⟨o,ho,hc⟩ isSubtype_stop (Zu (k _ ex)))
end
theorem S6(l:Addr)(us:Array Value)(n:Nat)(dct:Option Addr)(sl:Array (Option Value))(c:Int)(t:Tok)(hc:Builtin.SmallTypes.fitsIndex c=true) :
  Meets (Builtin.«enumerate.__new__» ⟨[.type "enumerate",.ref l],[("start",.int c t)]⟩) (λ_ R s=>s.heap.get? l=some { cls:=.type "list",dict:=dct,data:=.seq us n,slots:=sl } /\
   R (.ok (.ret (.ref (s.heap.push { cls:=.type "list_iterator",data:=.fields #[.ref l,.int 0 0] }).objs.size)))
    { s with heap:=(s.heap.push { cls:=.type "list_iterator",data:=.fields #[.ref l,.int 0 0] }).push { cls:=.type "enumerate",data:=.fields #[.none,.bool false,.ref s.heap.objs.size,rawInt c,.none,.none] } }) :=
 .of_wp λprog w A R s h=>by
  obtain⟨hp,g,d,tk,os⟩:=s;obtain⟨hl,h⟩:=h;have sb:=sub_enumerate;have isl:Heap.IsList (Shared.heap ⟨hp,g,d,tk,os⟩) l us:=⟨_,hl,rfl,n,rfl⟩
  wp_walk using AutoSeq1.wpAny_loadPart' hl
  refine wpAny_stack_any λst=>Zu ?_
  split
  ·rename_i v _ _ _ _ _;cases (v==Value.type "enumerate")
   ·wp_walk using AutoSeq1.wpAny_loadPart' hl,wpAny_pyIter_list isl
    exact⟨_,rfl,h⟩
   ·wp_walk using AutoSeq1.wpAny_loadPart' hl,wpAny_pyIter_list isl
    exact⟨_,rfl,h⟩
  ·wp_walk using AutoSeq1.wpAny_loadPart' hl,wpAny_pyIter_list isl
   exact⟨_,rfl,h⟩
theorem aAT(a:Value)(c:Int)(t:Tok):checkTypeCall "enumerate" ⟨[a],[("start",.int c t)]⟩=pure ():=by kernel_rfl
theorem UP(a:Value)(c:Int)(t:Tok):checkBuiltinCall "enumerate.__new__" ⟨[.type "enumerate",a],[("start",.int c t)]⟩=pure ():=by kernel_rfl
theorem WH{a b:Value}{kw:List (Str×Value)}:Meets (Builtin.«object.__init__» ⟨[a,b],kw⟩) (λ_ R s=>s.TypeIs a "enumerate"/\R (.ok (.ret .none)) s):=by
 refine Meets.of_wp λprog w A R s hs=>?_
 obtain⟨ty,hq⟩:=hs;have hl:typeLookup (.type "enumerate") "__init__"=pure (some (.builtin "object.__init__")):=F.called_enumerate.init.lookup;have hm:=F.called_enumerate.made;have hne:(some "enumerate.__new__" != some "object.__new__")=true:=by decide
 repeat (any_goals (first | assumption | wp_step))
 exact⟨_,rfl,hq⟩
theorem U8(a b:Value)(c:Int)(t:Tok):argsOk "object.__init__" ⟨[a,b],[("start",.int c t)]⟩:=by
 unfold argsOk;rw[signature?_of (id:="object.__init__") (n:="__init__".toList.reverse) (o:="object".toList.reverse) (by kernel_rfl) F.owner_object]
 kernel_rfl
section
variable{prog:Program}{w:World}{A:Around}{E:Value->Shared->Prop}{s:Shared}
theorem UU{l:Addr}{us:Array Value}{c:Int}{t:Tok}{Q:Value->Shared->Prop}(hc:Builtin.SmallTypes.fitsIndex c=true)(q:s.heap.IsList l us)
  (k:∀g,IsEnum g (s.heap.objs.size+1) s.heap.objs.size c .none->g.IsListIter s.heap.objs.size l 0->(∀b o,s.heap.get? b=some o->g.get? b=some o)->Q (.ref (s.heap.objs.size+1)) { s with heap:=g }) :
  wpAny (model prog w) A (call (.type "enumerate") [.ref l] [("start",.int c t)]) Q E s:=by
 have ft:=F.called_enumerate;obtain⟨c0,tl,hmro⟩:=ft.mro;have hmade:=ft.made;have hsub:=ft.sub;obtain⟨⟨cl,dct,dt,sl⟩,hl,hcl,n,hd⟩:=q;have hcl:cl=.type "list":=hcl;have hd:dt=.seq us n:=hd;subst hcl hd;refine wpAny_call (codeAny_of_tree ?_);change wpAny _ _ (callAny (.type "enumerate") _) _ _ _;refine Zu ⟨Code.quiet_builtin _ (by decide +kernel),codeAny_builtin F.entry_type_call ?_⟩;rw[Around.under_plain (weight_type_call_type "enumerate" _ _) (units_type_call_type "enumerate" _ _)];have h1:=ft.notType;have h2:=ft.canCreate;have h3:=aAT (.ref l) c t
 repeat (any_goals (first | assumption | wp_step))
 refine codeAny_mono (codeAny_call_builtin ft.plain F.entry_enumerate_new (wpAny_of_eq (UP (.ref l) c t) (S6 l us n dct sl c t hc prog w A.in1 (wants (λobj s1=>s1.TypeIs obj "enumerate"/\Q obj s1) E) s ⟨hl, ?_⟩))) λr s1 hr=>?_
 ·have hz:(s.heap.push { cls:=.type "list_iterator",data:=.fields #[.ref l,.int 0 0] }).objs.size=s.heap.objs.size+1:=Heap.size_push ..;change _/\_;rw[hz]
  have he:IsEnum ((s.heap.push { cls:=.type "list_iterator",data:=.fields #[.ref l,.int 0 0] }).push { cls:=.type "enumerate",data:=.fields #[.none,.bool false,.ref s.heap.objs.size,rawInt c,.none,.none] }) (s.heap.objs.size+1) s.heap.objs.size c .none:=by
   have x:=Zw (s.heap.push { cls:=.type "list_iterator",data:=.fields #[.ref l,.int 0 0] }) (o:={ cls:=.type "enumerate",data:=.fields #[.none,.bool false,.ref s.heap.objs.size,rawInt c,.none,.none] }) rfl
   rwa[hz] at x
  exact⟨⟨_,he,rfl⟩,k _ he ⟨_,Zd _ (Zw _ rfl),rfl,rfl⟩ λb o x=>Zd _ (Zd _ x)⟩
 ·cases r with
  |error e=>exact hr
  |ok fl =>
   cases fl with
   |ret obj =>
    have hT:s1.TypeIs obj "enumerate":=hr.1;have hli:=ft.init.lookup;have hbi:=ft.init.bind obj
    repeat (any_goals (first | assumption | wp_step))
    refine codeAny_mono (codeAny_call_builtin ft.init.plain F.entry_object_init (ft.init.check _ _ _ _ _ _ _ _ hT (U8 obj (.ref l) c t) (WH prog w A.in1 (wants (λr s2=>r=.none/\Q obj s2) E) s1 ⟨hT,rfl,hr.2⟩))) λr2 s2 hr2=>?_
    cases r2 with
    |error e=>exact hr2
    |ok fl2 =>
     cases fl2 with
     |ret r =>
      obtain⟨rfl,hq⟩:=hr2
      repeat (any_goals (first | assumption | wp_step))
     |_=>exact hr2.elim
   |_=>exact hr.elim
end
noncomputable def mD(K:Frag)(a:Addr)(lo:Int):It :=
 ⟨λi H=>∃xs x,bV K H a xs/\xs[i]?=some x,λi H x H'=>∃p y,H p=none/\x=.ref p/\H'=aW H p (.tup [.int (lo+(i:Int)),y])/\∀xs,bV K H a xs->xs[i]?=some y,λi H=>∃xs,bV K H a xs/\xs.length<=i⟩
theorem yV{P:Program}{w:World}{K:Frag}{elts:List Expr}{k0:Nat}{pos:Pos}(a e it:Addr)(lo:Int)(hei:e≠it):Turn P w K (.Tuple elts k0 pos) (mD K a lo) [e,it] e (λi h=>(∃old,IsEnum h e it (lo+(i:Int)) old)/\h.IsListIter it a i) where
 mem:=by simp
 obj:=λi h st b hb=>by
  obtain⟨⟨old,h1⟩,o,h2,c,d⟩:=st;have hb:b=e\/b=it:=by simpa using hb
  rcases hb with rfl | rfl
  ·exact⟨_,h1,λv z=>by
    have z':Data.fields _=Data.cell v:=z
    cases z'⟩
  ·exact⟨o,h2,λv z=>by rw[d] at z;cases z⟩
 keep:=λi h h' st k=>by(obtain⟨⟨old,h1⟩,h2⟩:=st;exact⟨⟨old,k e (by simp) _ h1⟩,h2.at λo q=>k it (by simp) o q⟩)
 item:=by
  intro X hP hw hK hc i pins s σ H E I hf st hg;subst hP hw hK;obtain⟨xs,x,hq,hx⟩:=hg;obtain⟨its,rv,p,hz⟩:=I.list hq;obtain⟨u,hu,ru⟩:=rv.get hx;obtain⟨⟨old,he⟩,hit⟩:=st;have fe:=hf e (by simp);have fi:=hf it (by simp);refine J6 he hit p.isList (u:=u) (by simpa using hu) hei λh' ho hit' hT hk=>?_
  refine⟨_,rfl,wpAny_letOwnedTupleGo_enum ho λh2 he2 hs2=>?_⟩;have helt:e<s.heap.objs.size:=Zv he;have hilt:it<s.heap.objs.size:=by obtain⟨_,q,_⟩:=hit;exact Zv q
  have ke:∀b u,b≠e->b≠it->s.heap.get? b=some u->h2.get? b=some u:=λb u n1 n2 q=>(hs2.2 b n1).trans (hk b u n1 n2 q)
  have hT2:h2.get? s.heap.objs.size=some { cls:=.type "tuple",data:=.seq #[.int (lo+(i:Int)) s.toks,u] }:=(hs2.2 _ (Nat.ne_of_gt helt)).trans hT;have hfr:H s.heap.objs.size=none:=I.hok.fresh (Zq _);have I2:Inv X pins σ (aW H s.heap.objs.size (.tup [.int (lo+(i:Int)),x])) { s with heap:=h2,toks:=s.toks+1 }:=JW I ke fe fi (Zq _) ⟨by rw[sizeLine_eq];simp,[.int (lo+(i:Int)) s.toks,u],.cons ⟨_,rfl⟩ (.cons ru .nil),⟨_,hT2,rfl,_,rfl⟩⟩;refine⟨.ref s.heap.objs.size,aW H s.heap.objs.size (.tup [.int (lo+(i:Int)),x]),I2,rfl,⟨s.heap.objs.size,x,hfr,rfl,rfl,λys hy=>by rw[I.list_inj hy hq];exact hx⟩,⟨⟨_,by rw[Int.natCast_add,Int.natCast_one,<- Int.add_assoc];exact he2⟩,hit'.at λo q=>(hs2.2 it hei.symm).trans q⟩,λb hb=>?_⟩
  ·have hb:b=e\/b=it:=by simpa using hb
   rcases hb with rfl | rfl
   ·rw[aO (Zz helt)];exact fe.1
   ·rw[aO (Zz hilt)];exact fi.1
 done:=by(intro X hP hw hK hc i pins s σ H E I hf st hg;subst hP hw hK;obtain⟨xs,hq,hx⟩:=hg;obtain⟨its,rv,p,hz⟩:=I.list hq;obtain⟨⟨old,he⟩,hit⟩:=st;have hl:=rv.length;exact SF (I.ok.hd hc) he hit p.isList (by simp;omega) λh' eb=>⟨rfl,DP (t':=s.toks) I (λb o _ n2 q=>eb b o n2 q) (hf e (by simp)) (hf it (by simp))⟩)
 self:=λ_ _ _ _ _ st h=>by(obtain⟨⟨old,he⟩,_⟩:=st;exact wpAny_pyIter_enum he h)
section
variable{X:Cx}
noncomputable def FW(K:Frag)(lo:Int)(ta:TA):TI:=λσ H R=>ta σ H λvs H1=>∃a,vs=[.ref a]/\(∃xs,bV K H1 a xs)/\R (mD K a lo) H1
theorem yM:bootBuiltins "enumerate"=some (.type "enumerate"):=by decide +kernel
theorem D5{a:Expr}{ta:TA}{p pos tpos:Pos}{elts:List Expr}{k0:Nat}(hg:Gl X "enumerate")(hm:X.mg "enumerate"=none)(ha:PA X [a] ta)(hs:starEach [a] X.env=[(false,eval a X.env)]:=by rfl):PI X (.Tuple elts k0 tpos) (.Call (.Name "enumerate" p) [a] [] pos) (FW X.K 0 ta):=by
 intro pins s σ H R I h;refine Call_ (mL I hg hm yM (PyProof.Rows.callWith_type1 (a7 (ha pos pins s σ H _ I h) λus s1 ⟨vs,H1,I1,r1,q1⟩=>?_) hs rfl));obtain⟨l,e,⟨xs,hq⟩,q⟩:=q1;subst e
 cases r1 with
 |cons r rr =>
  cases rr;cases r;obtain⟨its,rv,p,hz⟩:=I1.list hq;refine call_enumerate_list p.isList λh' he hit hsz hk=>?_
  have I2:Inv X pins σ H1 { s1 with heap:=h' }:=I1.kept (t':=s1.toks) hk;refine wpAny_pyIter_enum he ?_;refine⟨s1.heap.objs.size+1,[s1.heap.objs.size+1,s1.heap.objs.size],_,_,H1,rfl,I2,yV l _ _ 0 (Nat.succ_ne_self _),⟨⟨_,by simpa using he⟩,hit⟩,λb hb=>?_,q⟩;have hb:b=s1.heap.objs.size+1\/b=s1.heap.objs.size:=by simpa using hb
  rcases hb with rfl | rfl
  ·exact I1.fpOk (Nat.le_succ _) (I1.hok.fresh (Nat.le_succ _))
  ·exact I1.fpOk (Zq _) (I1.hok.fresh (Zq _))
theorem MU{a:Expr}{ta:TA}{p pos tpos kq kp:Pos}{j:Nat}{elts:List Expr}{k0:Nat}(hg:Gl X "enumerate")(hm:X.mg "enumerate"=none)(ha:PA X [a] ta)(hs:starEach [a] X.env=[(false,eval a X.env)]:=by rfl) :
  PI X (.Tuple elts k0 tpos) (.Call (.Name "enumerate" p) [a] [⟨some "start",.Constant (.int 1) j kq,kp⟩] pos) (FW X.K 1 ta):=by
 intro pins s σ H R I h;refine wpAny_Call_Name_kw (mL I hg hm yM ?_);refine PySem.W.callWith_of (P:=λ_=>True) (by rw[hs];rfl) (λ_ _=>⟨.machine,.inr (.inl rfl),PySem.W.Looks.now⟩) (evalArgs_kw2 rfl (a7 (ha pos pins s σ H _ I h) λus s1 ⟨vs,H1,I1,r1,q1⟩=>?_) hs);obtain⟨l,e,⟨xs,hq⟩,q⟩:=q1;subst e
 cases r1 with
 |cons r rr =>
  cases rr;cases r;refine a7 (WE (X:=X) (nm:=some "start") (kpos:=kp) (KZ (i:=1) (j:=j) (pos:=kq)) ZD pos pins s1 σ H1 (λzs H2=>zs=[.int 1]/\H2=H1) I1 ⟨rfl,rfl⟩) λws s2 ⟨zs,H2,I2,rz,ez,eh⟩=>⟨trivial, ?_⟩
  subst ez eh
  cases rz with
  |cons rz rn =>
   cases rn;obtain⟨t,rfl⟩:=rz;obtain⟨its,rv,p,hz⟩:=I2.list hq;refine UU (c:=1) (by decide) p.isList λh' he hit hk=>?_
   have I3:Inv X pins σ H2 { s2 with heap:=h' }:=I2.kept (t':=s2.toks) hk;refine wpAny_pyIter_enum he ?_;refine⟨s2.heap.objs.size+1,[s2.heap.objs.size+1,s2.heap.objs.size],_,_,H2,rfl,I3,yV l _ _ 1 (Nat.succ_ne_self _),⟨⟨_,by simpa using he⟩,hit⟩,λb hb=>?_,q⟩;have hb:b=s2.heap.objs.size+1\/b=s2.heap.objs.size:=by simpa using hb
   rcases hb with rfl | rfl
   ·exact I2.fpOk (Nat.le_succ _) (I2.hok.fresh (Nat.le_succ _))
   ·exact I2.fpOk (Zq _) (I2.hok.fresh (Zq _))
end
section
variable{K:Frag}{ρ ρ1:Env}{σ:St}{H G H' G':Hp}{own own' new new':Addr->Prop}
theorem cJ{α:Type}{l:List α}{i j:Nat}{a b:α}(h:(l.set i a)[j]?=some b):(j=i/\b=a/\i<l.length)\/(j≠i/\l[j]?=some b):=by
 by_cases hij:j=i
 ·subst hij;by_cases hl:j<l.length
  ·rw[zk hl] at h;exact .inl ⟨rfl,(Option.some.inj h).symm,hl⟩
  ·rw[List.getElem?_eq_none (by rw[zg];omega)] at h;cases h
 ·rw[Zf (λz=>hij z.symm)] at h;exact .inr ⟨hij,h⟩
theorem Rel.unset(r:Rel K ρ σ H G)(i:Nat):Rel K (ρ.set i .un) σ H G:=by
 refine⟨by rw[zg];exact r.len,r.sub,λj d h=>?_,λj d p l h=>?_,λj k d p l d' p' l' a h1 h2 h3 h4=>?_⟩
 ·rcases cJ h with ⟨_,z,_⟩ | ⟨_,z⟩
  ·cases z
  ·exact r.sh j d z
 ·rcases cJ h with ⟨_,z,_⟩ | ⟨_,z⟩
  ·cases z
  ·exact r.ow j d p l z
 ·rcases cJ h1 with ⟨_,z,_⟩ | ⟨_,z⟩
  ·cases z
  ·rcases cJ h2 with ⟨_,z',_⟩ | ⟨_,z'⟩
   ·cases z'
   ·exact r.inj _ _ _ _ _ _ _ _ _ z z' h3 h4
theorem aI.unset{i:Nat}{a:Addr}(h:aI (ρ.set i .un) σ a):aI ρ σ a:=by
 obtain⟨j,d,p,l,h1,h2⟩:=h;rcases cJ h1 with ⟨_,z,_⟩ | ⟨_,z⟩
 ·cases z
 ·exact⟨j,d,p,l,z,h2⟩
theorem Rel.unset_not(r:Rel K ρ σ H G){i:Nat}{d:D}{p l:Bool}{a:Addr}(h:ρ[i]?=some (.ow d p l))(hx:σ[i]?=some (some (.ref a))):¬aI (ρ.set i .un) σ a:=by
 rintro⟨j,d',p',l',h1,h2⟩
 rcases cJ h1 with ⟨_,z,_⟩ | ⟨ne,z⟩
 ·cases z
 ·exact ne (r.inj _ _ _ _ _ _ _ _ _ z h h2 hx)
theorem Rel.grow(r:Rel K ρ σ H G){a:Addr}{ob:HO}(hv:H a=some ob)(g:G a=none)(no:¬aI ρ σ a):Rel K ρ σ H (aW G a ob):=by
 refine⟨r.len,λb u e=>?_,λi d e=>?_,λi d p l e=>?_,r.inj⟩
 ·by_cases hb:b=a
  ·subst hb;rw[bB] at e;rw[hv];exact e
  ·rw[aO hb] at e;exact r.sub b u e
 ·obtain⟨v,h1,h2⟩:=r.sh i d e;exact⟨v,h1,aC.mono (aN.put g) d h2⟩
 ·obtain⟨b,h1,h2,h3⟩:=r.ow i d p l e;have hb:b≠a:=λz=>by subst z;exact no ⟨i,d,p,l,e,h1⟩
  exact⟨b,h1,by rw[aO hb];exact h2,h3.mono (aN.put g) λ_ z=>z⟩
theorem Rel.put_sh(r:Rel K (ρ.set i .un) σ H G){d:D}{v:V}(hx:σ[i]?=some (some v))(hr:aC K G d v):Rel K (ρ.set i (.sh d)) σ H G:=by
 have key:∀(j:Nat) (sl:Sl),(ρ.set i (.sh d))[j]?=some sl->(j=i/\sl=.sh d)\/(ρ.set i .un)[j]?=some sl:=λj sl h=>by
  rcases cJ h with ⟨e,z,_⟩ | ⟨ne,z⟩
  ·exact .inl ⟨e,z⟩
  ·exact .inr (by rw[Zf (λq=>ne q.symm)];exact z)
 refine⟨by have:=r.len;rw[zg] at this ⊢;exact this,r.sub,λj d' h=>?_,λj d' p l h=>?_,λj k d1 p l d2 p' l' a h1 h2 h3 h4=>?_⟩
 ·rcases key j _ h with ⟨rfl,z⟩ | z
  ·cases z;exact⟨v,hx,hr⟩
  ·exact r.sh j d' z
 ·rcases key j _ h with ⟨rfl,z⟩ | z
  ·cases z
  ·exact r.ow j d' p l z
 ·rcases key j _ h1 with ⟨rfl,z⟩ | z
  ·cases z
  ·rcases key k _ h2 with ⟨rfl,z'⟩ | z'
   ·cases z'
   ·exact r.inj _ _ _ _ _ _ _ _ _ z z' h3 h4
theorem Rel.put_ow(r:Rel K (ρ.set i .un) σ H G){d:D}{p l:Bool}{a:Addr}(hx:σ[i]?=some (some (.ref a)))(g:G a=none)(ho:fJ K H G a d)(no:¬aI (ρ.set i .un) σ a):Rel K (ρ.set i (.ow d p l)) σ H G:=by
 have key:∀(j:Nat) (sl:Sl),(ρ.set i (.ow d p l))[j]?=some sl->(j=i/\sl=.ow d p l)\/(ρ.set i .un)[j]?=some sl:=λj sl h=>by
  rcases cJ h with ⟨e,z,_⟩ | ⟨ne,z⟩
  ·exact .inl ⟨e,z⟩
  ·exact .inr (by rw[Zf (λq=>ne q.symm)];exact z)
 refine⟨by have:=r.len;rw[zg] at this ⊢;exact this,r.sub,λj d' h=>?_,λj d' p' l' h=>?_,λj k d1 p1 l1 d2 p2 l2 b h1 h2 h3 h4=>?_⟩
 ·rcases key j _ h with ⟨rfl,z⟩ | z
  ·cases z
  ·exact r.sh j d' z
 ·rcases key j _ h with ⟨rfl,z⟩ | z
  ·cases z;exact⟨a,hx,g,ho⟩
  ·exact r.ow j d' p' l' z
 ·rcases key j _ h1 with ⟨rfl,z⟩ | z
  ·rcases key k _ h2 with ⟨rfl,z'⟩ | z'
   ·rfl
   ·rw[hx] at h3;cases h3;exact absurd ⟨k,_,_,_,z',h4⟩ no
  ·rcases key k _ h2 with ⟨rfl,z'⟩ | z'
   ·rw[hx] at h4;cases h4;exact absurd ⟨j,_,_,_,z,h3⟩ no
   ·exact r.inj _ _ _ _ _ _ _ _ _ z z' h3 h4
theorem aI.put_sh{i:Nat}{d:D}{a:Addr}(h:aI (ρ.set i (.sh d)) σ a):aI (ρ.set i .un) σ a:=by
 obtain⟨j,d',p,l,h1,h2⟩:=h;rcases cJ h1 with ⟨_,z,_⟩ | ⟨ne,z⟩
 ·cases z
 ·exact⟨j,d',p,l,by rw[Zf (λq=>ne q.symm)];exact z,h2⟩
theorem aI.put_ow{i:Nat}{d:D}{p l:Bool}{a b:Addr}(hx:σ[i]?=some (some (.ref b)))(h:aI (ρ.set i (.ow d p l)) σ a):a=b\/aI (ρ.set i .un) σ a:=by
 obtain⟨j,d',p',l',h1,h2⟩:=h;rcases cJ h1 with ⟨rfl,z,_⟩ | ⟨ne,z⟩
 ·rw[hx] at h2;cases h2;exact .inl rfl
 ·exact .inr ⟨j,d',p',l',by rw[Zf (λq=>ne q.symm)];exact z,h2⟩
theorem fR.grow{h:Hd}{x:V}(r:fR K H G own new σ h x){G2:Hp}(s:aN G G2)(k:∀a d,h=.val (.ow d)->x=.ref a->G2 a=none)(w:∀a,own' a->own a):fR K H G2 own' new σ h x:=by
 cases h with
 |slot i=>exact r
 |val v =>
  cases v with
  |sh d=>exact aC.mono s d r
  |ow d =>
   obtain⟨a,rfl,g,o,n,m⟩:=r;exact⟨a,rfl,k a d rfl rfl,o.mono s λ_ z=>z,λz=>n (w a z),m⟩
  |od d=>exact r.elim
theorem cX.tmp_own:∀{hs:List Hd} {xs:List V} {a:Addr},cX K H G own new σ hs xs->kW hs xs a->¬own a/\new a/\H a≠none/\G a=none
 |[],_,_,h,t=>by cases (show _=[] from h);exact t.elim
 |h::hs,_,a,r,t=>by
  obtain⟨x,r',rfl,h1,h2,h3⟩:=r;have tl:kW hs r' a->¬own a/\new a/\H a≠none/\G a=none:=λt=>cX.tmp_own h2 t
  cases h with
  |slot i=>exact tl t
  |val v =>
   cases v with
   |sh d=>exact tl t
   |ow d =>
    rcases t with rfl | t
    ·obtain⟨b,e,g,o,n,m⟩:=h1;cases e;obtain⟨vs,hv⟩:=o.there;exact⟨n,m,by rw[hv];simp,g⟩
    ·exact tl t
   |od d=>exact h1.elim
theorem cX.grow:∀{hs:List Hd} {xs:List V},cX K H G own new σ hs xs->∀{G2:Hp},aN G G2->(∀a,kW hs xs a->G2 a=none)->(∀a,own' a->own a)->cX K H G2 own' new σ hs xs
 |[],_,h,_,_,_,_=>h
 |h::hs,_,r,G2,s,k,w=>by
  obtain⟨x,r',rfl,h1,h2,h3⟩:=r;refine⟨x,r',rfl,h1.grow s (λa d e1 e2=>k a (by subst e1;exact .inl e2)) w,cX.grow h2 s (λa t=>k a ?_) w,h3⟩
  cases h with
  |slot i=>exact t
  |val v =>
   cases v with
   |sh d=>exact t
   |ow d=>exact .inr t
   |od d=>exact h1.elim
theorem Rel.nil(s:aN G H):Rel K [] [] H G:=⟨rfl,s,λi d h=>by simp at h,λi d p l h=>by simp at h,λi j d p l d' p' l' a h=>by simp at h⟩
theorem Rel.cons_sh{as:List Sl}{τ:St}(r:Rel K as τ H G){d:D}{x:V}(h:aC K G d x):Rel K (.sh d::as) (some x :: τ) H G:=by
 refine⟨by simp[r.len],r.sub,λi d' e=>?_,λi d' p l e=>?_,λi j d1 p l d2 p' l' a h1 h2 h3 h4=>?_⟩
 ·cases i with
  |zero=>simp at e;subst e;exact⟨x,rfl,h⟩
  |succ i=>simpa using r.sh i d' (by simpa using e)
 ·cases i with
  |zero=>simp at e
  |succ i=>simpa using r.ow i d' p l (by simpa using e)
 ·cases i with
  |zero=>simp at h1
  |succ i =>
   cases j with
   |zero=>simp at h2
   |succ j=>exact congrArg (·+1) (r.inj i j d1 p l d2 p' l' a (by simpa using h1) (by simpa using h2) (by simpa using h3) (by simpa using h4))
theorem Rel.cons_ow{as:List Sl}{τ:St}(r:Rel K as τ H G){d:D}{p l:Bool}{a:Addr}(g:G a=none)(o:fJ K H G a d)(n:¬aI as τ a):Rel K (.ow d p l::as) (some (.ref a) :: τ) H G:=by
 refine⟨by simp[r.len],r.sub,λi d' e=>?_,λi d' p l e=>?_,λi j d1 p1 l1 d2 p' l' b h1 h2 h3 h4=>?_⟩
 ·cases i with
  |zero=>simp at e
  |succ i=>simpa using r.sh i d' (by simpa using e)
 ·cases i with
  |zero =>
   simp only[zt,Option.some.injEq,Sl.ow.injEq] at e;obtain⟨rfl,_,_⟩:=e;exact⟨a,rfl,g,o⟩
  |succ i=>simpa using r.ow i d' p l (by simpa using e)
 ·cases i with
  |zero =>
   simp only[zt,Option.some.injEq,V.ref.injEq] at h3;subst h3
   cases j with
   |zero=>rfl
   |succ j=>exact absurd ⟨j,d2,p',l',by simpa using h2,by simpa using h4⟩ n
  |succ i =>
   cases j with
   |zero =>
    simp only[zt,Option.some.injEq,V.ref.injEq] at h4;subst h4;exact absurd ⟨i,d1,p1,l1,by simpa using h1,by simpa using h3⟩ n
   |succ j=>exact congrArg (·+1) (r.inj i j d1 p1 l1 d2 p' l' b (by simpa using h1) (by simpa using h2) (by simpa using h3) (by simpa using h4))
theorem aI.cons{as:List Sl}{τ:St}{sl:Sl}{v:Option V}{a:Addr}(h:aI (sl::as) (v :: τ) a):(∃d p l,sl=.ow d p l/\v=some (.ref a))\/aI as τ a:=by
 obtain⟨i,d,p,l,h1,h2⟩:=h
 cases i with
 |zero=>exact .inl ⟨d,p,l,by simpa using h1,by simpa using h2⟩
 |succ i=>exact .inr ⟨i,d,p,l,by simpa using h1,by simpa using h2⟩
structure Lent(K:Frag)(ρ:Env)(σ:St)(H G:Hp)(hs:List Hd)(xs:List V)(as:List Sl)(ρ1:Env)(G2:Hp):Prop where
 gg:aN G G2
 gn:∀a,G2 a≠none->G a≠none\/aI ρ σ a\/kW hs xs a
 ra:Rel K as (xs.map some) H G2
 rc:Rel K ρ1 σ H G2
 ao:∀a,aI as (xs.map some) a->aI ρ σ a\/kW hs xs a
 an:∀a,aI as (xs.map some) a->¬aI ρ1 σ a
 ro:∀a,aI ρ1 σ a->aI ρ σ a
theorem i7:∀(hs:List Hd) (pins:List Bool) (ρ:Env) (G:Hp) (xs:List V) (as:List Sl) (ρ1:Env),Rel K ρ σ H G->cX K H G (aI ρ σ) new σ hs xs->bP pins hs ρ=some (as,ρ1) ->
  ∃G2,Lent K ρ σ H G hs xs as ρ1 G2
 |[],pins,ρ,G,xs,as,ρ1,r,h,e=>by
  cases (show xs=[] from h)
  cases pins with
  |cons p ps=>cases e
  |nil =>
   simp only[bP,Option.some.injEq,Prod.mk.injEq] at e;obtain⟨rfl,rfl⟩:=e;exact⟨G,aN.refl _,λa z=>.inl z,Rel.nil r.sub,r,λa ⟨i,d,p,l,z,_⟩=>by simp at z,λa ⟨i,d,p,l,z,_⟩=>by simp at z,λ_ z=>z⟩
 |.val (.sh d)::hs,pins,ρ,G,xs,as,ρ1,r,h,e=>by
  obtain⟨x,r',rfl,h1,h2,h3⟩:=h
  cases pins with
  |nil=>cases e
  |cons p ps =>
   simp only[bP] at e
   cases q:bP ps hs ρ with
   |none=>rw[q] at e;cases e
   |some y =>
    obtain⟨as',ρ'⟩:=y;rw[q] at e;simp only[Option.map_some,Option.some.injEq,Prod.mk.injEq] at e;obtain⟨rfl,rfl⟩:=e;obtain⟨G2,L⟩:=i7 hs ps ρ G r' as' ρ' r h2 q;refine⟨G2,L.gg,L.gn,L.ra.cons_sh (aC.mono L.gg d h1),L.rc,λa z=>?_,λa z=>?_,L.ro⟩
    ·rcases z.cons with ⟨_,_,_,z,_⟩ | z
     ·cases z
     ·exact L.ao a z
    ·rcases z.cons with ⟨_,_,_,z,_⟩ | z
     ·cases z
     ·exact L.an a z
 |.val (.ow d)::hs,pins,ρ,G,xs,as,ρ1,r,h,e=>by
  obtain⟨x,r',rfl,h1,h2,h3⟩:=h;obtain⟨b,rfl,g,o,n,m⟩:=h1;have nt:¬kW hs r' b:=h3 d b rfl rfl
  cases pins with
  |nil=>cases e
  |cons p ps =>
   simp only[bP] at e
   cases q:bP ps hs ρ with
   |none=>rw[q] at e;cases e
   |some y =>
    obtain⟨as',ρ'⟩:=y;rw[q] at e;simp only[Option.map_some,Option.some.injEq,Prod.mk.injEq] at e;obtain⟨rfl,rfl⟩:=e
    cases p with
    |true =>
     obtain⟨G2,L⟩:=i7 hs ps ρ G r' as' ρ' r h2 q
     have g2:G2 b=none:=by
      cases w:G2 b with
      |none=>rfl
      |some o' =>
       rcases L.gn b (by rw[w];simp) with z | z | z
       ·exact absurd g z
       ·exact absurd z n
       ·exact absurd z nt
     have nb:¬aI as' (r'.map some) b:=λz=>by
      rcases L.ao b z with z | z
      ·exact n z
      ·exact nt z
     refine⟨G2,L.gg,λa z=>?_,L.ra.cons_ow g2 (o.mono L.gg λ_ z=>z) nb,L.rc,λa z=>?_,λa z=>?_,L.ro⟩
     ·rcases L.gn a z with z | z | z
      ·exact .inl z
      ·exact .inr (.inl z)
      ·exact .inr (.inr (.inr z))
     ·rcases z.cons with ⟨_,_,_,_,z⟩ | z
      ·cases z;exact .inr (.inl rfl)
      ·rcases L.ao a z with z | z
       ·exact .inl z
       ·exact .inr (.inr z)
     ·rcases z.cons with ⟨_,_,_,_,z⟩ | z
      ·cases z;exact λw=>n (L.ro _ w)
      ·exact L.an a z
    |false =>
     obtain⟨ob,hv,hr⟩:=o.put
     have tb:∀a,kW hs r' a->(aW G b ob) a=none:=λa z=>by
      have hb:a≠b:=λw=>by subst w;exact nt z
      rw[aO hb];exact(h2.tmp_own z).2.2.2
     obtain⟨G2,L⟩:=i7 hs ps ρ (aW G b ob) r' as' ρ' (r.grow hv g n) (h2.grow (aN.put g) tb λ_ z=>z) q;refine⟨G2,(aN.put g).trans L.gg,λa z=>?_,L.ra.cons_sh ?_,L.rc,λa z=>?_,λa z=>?_,L.ro⟩
     ·by_cases hb:a=b
      ·subst hb;exact .inr (.inr (.inl rfl))
      ·rcases L.gn a z with z | z | z
       ·rw[aO hb] at z;exact .inl z
       ·exact .inr (.inl z)
       ·exact .inr (.inr (.inr z))
     ·exact hr _ ((aN.put g).trans L.gg) (L.gg _ _ bB)
     ·rcases z.cons with ⟨_,_,_,z,_⟩ | z
      ·simp at z
      ·rcases L.ao a z with z | z
       ·exact .inl z
       ·exact .inr (.inr z)
     ·rcases z.cons with ⟨_,_,_,z,_⟩ | z
      ·simp at z
      ·exact L.an a z
 |.slot i::hs,pins,ρ,G,xs,as,ρ1,r,h,e=>by
  obtain⟨x,r',rfl,h1,h2,h3⟩:=h;have h1:σ[i]?=some (some x):=h1
  cases pins with
  |nil=>cases e
  |cons p ps =>
   simp only[bP] at e;split at e
   ·rename_i d hd
    cases q:bP ps hs ρ with
    |none=>rw[q] at e;cases e
    |some y =>
     obtain⟨as',ρ'⟩:=y;rw[q] at e;simp only[Option.map_some,Option.some.injEq,Prod.mk.injEq] at e;obtain⟨rfl,rfl⟩:=e;obtain⟨G2,L⟩:=i7 hs ps ρ G r' as' ρ' r h2 q;obtain⟨v,h4,h5⟩:=r.sh i d hd;rw[h1] at h4;cases h4;refine⟨G2,L.gg,L.gn,L.ra.cons_sh (aC.mono L.gg d h5),L.rc,λa z=>?_,λa z=>?_,L.ro⟩
     ·rcases z.cons with ⟨_,_,_,z,_⟩ | z
      ·cases z
      ·exact L.ao a z
     ·rcases z.cons with ⟨_,_,_,z,_⟩ | z
      ·cases z
      ·exact L.an a z
   ·rename_i d pin lk hd;obtain⟨b,h4,g,o⟩:=r.ow i d pin lk hd;rw[h1] at h4;cases h4;have hown:aI ρ σ b:=⟨i,d,pin,lk,hd,h1⟩
    have nt:¬kW hs r' b:=λz=>(h2.tmp_own z).1 hown
    have nu:¬aI (ρ.set i .un) σ b:=r.unset_not hd h1
    cases p with
    |true =>
     simp only at e
     cases q:bP ps hs (ρ.set i .un) with
     |none=>rw[q] at e;cases e
     |some y =>
      obtain⟨as',ρ'⟩:=y;rw[q] at e;simp only[Option.map_some,Option.some.injEq,Prod.mk.injEq] at e;obtain⟨rfl,rfl⟩:=e;obtain⟨G2,L⟩:=i7 hs ps (ρ.set i .un) G r' as' ρ' (r.unset i) (h2.grow (aN.refl _) (λa z=>(h2.tmp_own z).2.2.2) λa z=>z.unset) q
      have g2:G2 b=none:=by
       cases w:G2 b with
       |none=>rfl
       |some o' =>
        rcases L.gn b (by rw[w];simp) with z | z | z
        ·exact absurd g z
        ·exact absurd z nu
        ·exact absurd z nt
      have nb:¬aI as' (r'.map some) b:=λz=>by
       rcases L.ao b z with z | z
       ·exact nu z
       ·exact nt z
      refine⟨G2,L.gg,λa z=>?_,L.ra.cons_ow g2 (o.mono L.gg λ_ z=>z) nb,L.rc,λa z=>?_,λa z=>?_,λa z=>(L.ro a z).unset⟩
      ·rcases L.gn a z with z | z | z
       ·exact .inl z
       ·exact .inr (.inl z.unset)
       ·exact .inr (.inr z)
      ·rcases z.cons with ⟨_,_,_,_,z⟩ | z
       ·cases z;exact .inl hown
       ·rcases L.ao a z with z | z
        ·exact .inl z.unset
        ·exact .inr z
      ·rcases z.cons with ⟨_,_,_,_,z⟩ | z
       ·cases z;exact λw=>nu (L.ro _ w)
       ·exact L.an a z
    |false =>
     simp only at e;split at e
     ·cases e
     ·cases q:bP ps hs (ρ.set i (.sh d)) with
      |none=>rw[q] at e;cases e
      |some y =>
       obtain⟨as',ρ'⟩:=y;rw[q] at e;simp only[Option.map_some,Option.some.injEq,Prod.mk.injEq] at e;obtain⟨rfl,rfl⟩:=e;obtain⟨ob,hv,hr⟩:=o.put
       have tb:∀a,kW hs r' a->(aW G b ob) a=none:=λa z=>by
        have hb:a≠b:=λw=>by subst w;exact nt z
        rw[aO hb];exact(h2.tmp_own z).2.2.2
       have rb:∀G2,aN (aW G b ob) G2->aC K G2 d (.ref b):=λG2 s2=>hr _ ((aN.put g).trans s2) (s2 _ _ bB)
       obtain⟨G2,L⟩:=i7 hs ps (ρ.set i (.sh d)) (aW G b ob) r' as' ρ' (((r.unset i).grow hv g nu).put_sh h1 (rb _ (aN.refl _)))
        (h2.grow (aN.put g) tb λa z=>z.put_sh.unset) q
       refine⟨G2,(aN.put g).trans L.gg,λa z=>?_,L.ra.cons_sh (rb G2 L.gg),L.rc,λa z=>?_,λa z=>?_,λa z=>(L.ro a z).put_sh.unset⟩
       ·by_cases hb:a=b
        ·subst hb;exact .inr (.inl hown)
        ·rcases L.gn a z with z | z | z
         ·rw[aO hb] at z;exact .inl z
         ·exact .inr (.inl z.put_sh.unset)
         ·exact .inr (.inr z)
       ·rcases z.cons with ⟨_,_,_,z,_⟩ | z
        ·cases z
        ·rcases L.ao a z with z | z
         ·exact .inl z.put_sh.unset
         ·exact .inr z
       ·rcases z.cons with ⟨_,_,_,z,_⟩ | z
        ·cases z
        ·exact L.an a z
   ·cases e
end
section
variable{K:Frag}{ρ ρ1 ρ0:Env}{σ τ:St}{H G H' G' H0 G0:Hp}{own own' new new':Addr->Prop}
theorem Rel.keep(r:Rel K ρ σ H G)(e:Ext own H G H' G')(n:∀a,aI ρ σ a->¬own a)(s:aN G' H'):Rel K ρ σ H' G':=by
 refine⟨r.len,s,λi d h=>?_,λi d p l h=>?_,r.inj⟩
 ·obtain⟨v,h1,h2⟩:=r.sh i d h;exact⟨v,h1,aC.mono e.gg d h2⟩
 ·obtain⟨a,h1,g,o⟩:=r.ow i d p l h;have na:=n a ⟨i,d,p,l,h,h1⟩;obtain⟨vs,hv⟩:=o.there;exact⟨a,h1,e.gn a (by rw[hv];simp) g na,o.mono e.gg λo' h'=>e.hh a o' h' na⟩
theorem Rel.tail{a:Sl}{as:List Sl}{v:Option V}(r:Rel K (a::as) (v :: τ) H G):Rel K as τ H G:=by
 refine⟨by have:=r.len;simpa using this,r.sub,λi d h=>?_,λi d p l h=>?_,λi j d p l d' p' l' b h1 h2 h3 h4=>?_⟩
 ·simpa using r.sh (i+1) d (by simpa using h)
 ·simpa using r.ow (i+1) d p l (by simpa using h)
 ·have:=r.inj (i+1) (j+1) d p l d' p' l' b (by simpa using h1) (by simpa using h2) (by simpa using h3) (by simpa using h4)
  omega
theorem aI.tail{a:Sl}{as:List Sl}{v:Option V}{b:Addr}(h:aI as τ b):aI (a::as) (v :: τ) b:=by
 obtain⟨i,d,p,l,h1,h2⟩:=h;exact⟨i+1,d,p,l,by simpa using h1,by simpa using h2⟩
theorem l5:∀(hs:List Hd) (pins:List Bool) (as:List Sl) (xs:List V) (ρ ρ':Env),Rel K as (xs.map some) H G->Rel K ρ σ H G->(∀a,aI as (xs.map some) a->¬aI ρ σ a)->cX K H0 G0 own new σ hs xs ->
  bG pins hs as ρ0 ρ=some ρ'->Rel K ρ' σ H G/\∀a,aI ρ' σ a->aI ρ σ a\/aI ρ0 σ a
 |[],pins,as,xs,ρ,ρ',ra,r,n,h,e=>by
  cases pins with
  |nil =>
   cases as with
   |nil =>
    cases e;exact⟨r,λ_ z=>.inl z⟩
   |cons a as=>cases e
  |cons p ps=>cases p<;>cases as<;>cases e
 |h::hs,pins,as,xs,ρ,ρ',ra,r,n,hh,e=>by
  obtain⟨x,r',rfl,h1,h2,h3⟩:=hh
  cases pins with
  |nil=>cases e
  |cons p ps =>
   cases as with
   |nil=>cases p<;>cases h<;>cases e
   |cons a as' =>
    have skip:bG ps hs as' ρ0 ρ=some ρ'->Rel K ρ' σ H G/\∀a,aI ρ' σ a->aI ρ σ a\/aI ρ0 σ a:=λe' =>
     l5 hs ps as' r' ρ ρ' ra.tail r (λb z=>n b z.tail) h2 e'
    cases p with
    |false=>cases h<;>exact skip e
    |true =>
     cases h with
     |val v=>exact skip e
     |slot i =>
      have h1:σ[i]?=some (some x):=h1;simp only[bG] at e;split at e
      ·rename_i _ pin lk d p' l' hi;obtain⟨b,hb,g,o⟩:=ra.ow 0 d p' l' rfl;simp only[Zs,zt,Option.some.injEq] at hb;subst hb;have nb:¬aI ρ σ b:=n b ⟨0,d,p',l',rfl,rfl⟩;have r2:Rel K (ρ.set i (.ow d pin lk)) σ H G:=(r.unset i).put_ow h1 g o λz=>nb z.unset
       obtain⟨r3,r4⟩:=l5 hs ps as' r' (ρ.set i (.ow d pin lk)) ρ' ra.tail r2 (λc z w=>by
        rcases w.put_ow h1 with rfl | w
        ·obtain⟨j,d2,p2,l2,z1,z2⟩:=z
         have:=ra.inj 0 (j+1) d p' l' d2 p2 l2 c rfl (by simpa using z1) rfl (by simpa using z2)
         omega
        ·exact n c z.tail w.unset) h2 e
       refine⟨r3,λc z=>?_⟩;rcases r4 c z with z | z
       ·rcases z.put_ow h1 with rfl | z
        ·exact .inr ⟨i,_,pin,lk,hi,h1⟩
        ·exact .inl z.unset
       ·exact .inr z
      ·cases e
      ·exact skip e
def i9(pins:List Bool)(hs:List Hd)(i:Nat):Prop:=∃j:Nat,pins[j]?=some true/\hs[j]?=some (.slot i)
theorem i9.cons{p:Bool}{ps:List Bool}{h:Hd}{hs:List Hd}{i:Nat}(l:i9 ps hs i):i9 (p::ps) (h::hs) i:=by
 obtain⟨j,h1,h2⟩:=l;exact⟨j+1,by simpa using h1,by simpa using h2⟩
theorem C3:∀(hs:List Hd) (pins:List Bool) (ρ:Env) (as:List Sl) (ρ1:Env),bP pins hs ρ=some (as,ρ1)->∀i:Nat,dG ρ[i]? ρ1[i]?\/(i9 pins hs i/\∃d p l,ρ[i]?=some (.ow d p l))
 |[],pins,ρ,as,ρ1,e,i=>by
  cases pins<;>cases e;exact .inl (dG.refl _)
 |h::hs,pins,ρ,as,ρ1,e,i=>by
  cases pins with
  |nil=>cases h with
   |slot i=>cases e
   |val v=>cases v<;>cases e
  |cons p ps =>
   have fin:∀{ρ':Env} {g:Sl},(bP ps hs ρ').map (λ(as,ρ')=>(g::as,ρ'))=some (as,ρ1)->dG ρ'[i]? ρ1[i]?\/(i9 ps hs i/\∃d p l,ρ'[i]?=some (.ow d p l)):=by
    intro ρ' g e
    cases q:bP ps hs ρ' with
    |none=>rw[q] at e;cases e
    |some y =>
     obtain⟨as',ρ2⟩:=y;rw[q] at e;simp only[Option.map_some,Option.some.injEq,Prod.mk.injEq] at e;obtain⟨_,rfl⟩:=e;exact C3 hs ps ρ' as' ρ2 q i
   have same:∀{g:Sl},(bP ps hs ρ).map (λ(as,ρ')=>(g::as,ρ'))=some (as,ρ1)->dG ρ[i]? ρ1[i]?\/(i9 (p::ps) (h::hs) i/\∃d p l,ρ[i]?=some (.ow d p l)):=by
    intro g e;rcases fin e with z | ⟨z,w⟩
    ·exact .inl z
    ·exact .inr ⟨z.cons,w⟩
   cases h with
   |val v=>cases v<;>first | exact same e | cases e
   |slot i0 =>
    simp only[bP] at e;split at e
    ·exact same e
    ·rename_i d pin lk hd
     cases p with
     |true =>
      simp only at e;by_cases hi:i=i0
      ·subst hi;exact .inr ⟨⟨0,rfl,rfl⟩,d,pin,lk,hd⟩
      ·have:=fin e
       rw[Zf (λz=>hi z.symm)] at this;rcases this with z | ⟨z,w⟩
       ·exact .inl z
       ·exact .inr ⟨z.cons,w⟩
     |false =>
      simp only at e;split at e
      ·cases e
      ·rename_i hp;simp only[Bool.or_eq_true,not_or,Bool.not_eq_true] at hp;have ev0:gY ρ (ρ.set i0 (.sh d)):=gY.set (by rw[hd];exact hp.1);rcases fin e with z | ⟨z,d',p',l',w⟩
       ·exact .inl ((ev0 i).trans z)
       ·have:=ev0 i
        rw[w] at this;obtain⟨d2,e2⟩:=this.ow_of;exact .inr ⟨z.cons,d2,p',l',e2⟩
    ·cases e
theorem kH:∀(hs:List Hd) (pins:List Bool) (as:List Sl) (ρ ρ':Env),bG pins hs as ρ0 ρ=some ρ'->∀i:Nat,(ρ'[i]?=ρ[i]?\/∃d d' p l,ρ0[i]?=some (.ow d p l)/\ρ'[i]?=some (.ow d' p l)) /\
  (i9 pins hs i->(∃d p l,ρ0[i]?=some (.ow d p l))->i<ρ.length->∃d d' p l,ρ0[i]?=some (.ow d p l)/\ρ'[i]?=some (.ow d' p l))
 |[],pins,as,ρ,ρ',e,i=>by
  cases pins with
  |nil =>
   cases as with
   |nil =>
    cases e;exact⟨.inl rfl,λ⟨j,h,_⟩=>by simp at h⟩
   |cons a as=>cases e
  |cons p ps=>cases p<;>cases as<;>cases e
 |h::hs,pins,as,ρ,ρ',e,i=>by
  cases pins with
  |nil=>cases e
  |cons p ps =>
   cases as with
   |nil=>cases p<;>cases h<;>cases e
   |cons a as' =>
    have uncons:¬(p=true/\h=.slot i)->i9 (p::ps) (h::hs) i->i9 ps hs i:=λn ⟨j,h1,h2⟩=>by
     cases j with
     |zero =>
      simp only[zt,Option.some.injEq] at h1 h2;exact absurd ⟨h1,h2⟩ n
     |succ j=>exact⟨j,by simpa using h1,by simpa using h2⟩
    have skip:¬(p=true/\h=.slot i)\/¬(∃d p l,ρ0[i]?=some (.ow d p l))->bG ps hs as' ρ0 ρ=some ρ'->(ρ'[i]?=ρ[i]?\/∃d d' p l,ρ0[i]?=some (.ow d p l)/\ρ'[i]?=some (.ow d' p l)) /\
      (i9 (p::ps) (h::hs) i->(∃d p l,ρ0[i]?=some (.ow d p l))->i<ρ.length->∃d d' p l,ρ0[i]?=some (.ow d p l)/\ρ'[i]?=some (.ow d' p l)):=λn e'=>by
     obtain⟨h1,h2⟩:=kH hs ps as' ρ ρ' e' i;refine⟨h1,λl o=>?_⟩;rcases n with n | n
     ·exact h2 (uncons n l) o
     ·exact absurd o n
    cases p with
    |false=>cases h<;>exact skip (.inl (by simp)) e
    |true =>
     cases h with
     |val v=>exact skip (.inl (by simp)) e
     |slot i0 =>
      simp only[bG] at e;split at e
      ·rename_i d0 pin lk d p' l' hi;obtain⟨h1,h2⟩:=kH hs ps as' _ ρ' e i;by_cases hii:i=i0
       ·subst hii;refine⟨?_,λl o hl=>?_⟩
        ·rcases h1 with h1 | h1
         ·by_cases hl:i<ρ.length
          ·rw[zk hl] at h1;exact .inr ⟨_,_,_,_,hi,h1⟩
          ·exact .inl (by rw[h1,List.getElem?_eq_none (by rw[zg];omega),List.getElem?_eq_none (by omega)])
         ·exact .inr h1
        ·rcases h1 with h1 | h1
         ·rw[zk hl] at h1;exact⟨_,_,_,_,hi,h1⟩
         ·exact h1
       ·rw[Zf (λz=>hii z.symm)] at h1;refine⟨h1,λl o hl=>h2 (uncons (λz=>hii (by have:=z.2;simp at this;exact this.symm)) l) o (by rw[zg];exact hl)⟩
      ·cases e
      ·rename_i hn1 hn2;refine skip ?_ e;by_cases hii:i=i0
       ·subst hii;refine .inr λ⟨d,p,l,z⟩=>?_
        exact hn1 d p l z
       ·exact .inl λz=>hii (by have:=z.2;simp at this;exact this.symm)
theorem pW{pins:List Bool}{f:List Sl->aM RV}{hs:List Hd}{xs:List V}{v:RV}{ρ':Env}(a:Aft K ρ0 σ H0 G0 ρ H G)(h:cX K H G (aI ρ σ) (dC H0) σ hs xs)(e:dJ pins f hs ρ=some (.ok v,ρ')) :
  ∃as G2 as',Rel K as (xs.map some) H G2/\as.length=pins.length/\f as=some (.ok v,as')/\(aN G G2/\∀c,aI as (xs.map some) c->aI ρ σ c\/kW hs xs c)/\∀x H' G',Aft K as (xs.map some) H G2 as' H' G'->b8 K H' G' (aI as' (xs.map some)) (dC H) v x ->
   Aft K ρ0 σ H0 G0 ρ' H' G'/\b8 K H' G' (aI ρ' σ) (dC H0) v x:=by
 unfold dJ at e
 cases q:bP pins hs ρ with
 |none=>rw[q] at e;cases e
 |some y =>
  obtain⟨as,ρ1⟩:=y;rw[q] at e;simp only at e
  cases q2:f as with
  |none=>rw[q2] at e;cases e
  |some y =>
   obtain⟨o,as'⟩:=y;rw[q2] at e;simp only at e
   cases q3:bG pins hs as' ρ ρ1 with
   |none=>rw[q3] at e;cases e
   |some ρ2 =>
    rw[q3] at e;simp only[Option.map_some,Option.some.injEq,Prod.mk.injEq] at e;obtain⟨rfl,rfl⟩:=e;obtain⟨G2,L⟩:=i7 hs pins ρ G xs as ρ1 a.rel h q;refine⟨as,G2,as',L.ra, ?_,q2,⟨L.gg,L.ao⟩,λx H' G' b hv=>?_⟩
    ·have:∀(hs:List Hd) (pins:List Bool) (ρ:Env) (as:List Sl) (ρ1:Env),bP pins hs ρ=some (as,ρ1)->as.length=pins.length:=by
      intro hs
      induction hs with
      |nil =>
       intro pins ρ as ρ1 e;cases pins<;>cases e;rfl
      |cons h hs ih =>
       intro pins ρ as ρ1 e
       cases pins with
       |nil=>cases h with
        |slot i=>cases e
        |val v=>cases v<;>cases e
       |cons p ps =>
        have fin:∀{o:Option (List Sl×Env)} {g:Sl},(o.map λ(as,ρ')=>(g::as,ρ'))=some (as,ρ1)->(∀as' ρ',o=some (as',ρ')->as'.length=ps.length)->as.length=(p::ps).length:=by
         intro o g e k
         cases o with
         |none=>cases e
         |some y =>
          obtain⟨as',ρ'⟩:=y;simp only[Option.map_some,Option.some.injEq,Prod.mk.injEq] at e;rw[<- e.1,Zk,Zk,k as' ρ' rfl]
        cases h with
        |slot i =>
         simp only[bP] at e;split at e
         ·exact fin e λas' ρ' z=>ih _ _ _ _ z
         ·split at e
          ·exact fin e λas' ρ' z=>ih _ _ _ _ z
          ·split at e
           ·cases e
           ·exact fin e λas' ρ' z=>ih _ _ _ _ z
         ·cases e
        |val v =>
         cases v with
         |sh d=>exact fin e λas' ρ' z=>ih _ _ _ _ z
         |ow d=>exact fin e λas' ρ' z=>ih _ _ _ _ z
         |od d=>cases e
     exact this hs pins ρ as ρ1 q
    ·have own_there:∀c,aI as (xs.map some) c->H c≠none:=λc z=>(L.ra.owned z).1
     have rc:Rel K ρ1 σ H' G':=L.rc.keep b.ext (λc z w=>L.an c w z) b.rel.sub;obtain⟨r3,r4⟩:=l5 hs pins as' xs ρ1 ρ2 b.rel rc (λc z w=>L.an c (b.own c z) w) h q3
     have own2:∀c,aI ρ2 σ c->aI ρ σ c:=λc z=>by
      rcases r4 c z with z | z
      ·exact L.ro c z
      ·exact z
     have hown:∀c,aI as (xs.map some) c->aI ρ0 σ c\/H0 c=none:=λc z=>by
      rcases L.ao c z with z | z
      ·exact .inl (a.own c z)
      ·exact .inr (h.tmp_own z).2.1
     have evo2:gY ρ ρ2:=λi=>by
      obtain⟨g1,g2⟩:=kH hs pins as' ρ1 ρ2 q3 i;rcases C3 hs pins ρ as ρ1 q i with z | ⟨z,o⟩
      ·rcases g1 with g1 | ⟨d,d',p,l,w1,w2⟩
       ·rw[g1];exact z
       ·rw[w1,w2];exact⟨rfl,rfl⟩
      ·have hl:i<ρ1.length:=by
        obtain⟨d,p,l,o⟩:=o;rw[L.rc.len,<- a.rel.len];exact(Zc.mp o).1
       obtain⟨d,d',p,l,w1,w2⟩:=g2 z o hl;rw[w1,w2];exact⟨rfl,rfl⟩
     refine⟨⟨r3,⟨a.ext.gg.trans (L.gg.trans b.ext.gg),λc o hc nc=>?_,λc z=>a.ext.hx c (b.ext.hx c z),λc hc gc nc=>?_⟩,a.evo.trans evo2⟩, ?_⟩
     ·refine b.ext.hh c o (a.ext.hh c o hc nc) λz=>?_
      rcases hown c z with z | z
      ·exact nc z
      ·rw[hc] at z;cases z
     ·have hc':H c≠none:=λz=>hc (a.ext.hx c z)
      have g1:G c=none:=a.ext.gn c hc gc nc
      have g2:G2 c=none:=by
       cases w:G2 c with
       |none=>rfl
       |some o =>
        rcases L.gn c (by rw[w];simp) with z | z | z
        ·exact absurd g1 z
        ·exact absurd (a.own c z) nc
        ·exact absurd (h.tmp_own z).2.1 hc
      refine b.ext.gn c hc' g2 λz=>?_
      rcases hown c z with z | z
      ·exact nc z
      ·exact hc z
     ·cases v with
      |sh d=>exact hv
      |ow d =>
       obtain⟨c,rfl,g,o,n,m⟩:=hv;exact⟨c,rfl,g,o,λz=>(a.rel.owned (own2 c z)).1 m,a.ext.hx c m⟩
      |od d =>
       obtain⟨c,rfl,g,o,n,m,vs,hv,hr⟩:=hv;exact⟨c,rfl,g,o,λz=>(a.rel.owned (own2 c z)).1 m,a.ext.hx c m,vs,hv,λx hx=>let ⟨b,ws,h1,h2,h3,h4,h5,h6⟩:=hr x hx;⟨b,ws,h1,h2,h3,λz=>(a.rel.owned (own2 b z)).1 h5,a.ext.hx b h5,h6⟩⟩
end
inductive GV where
 |no | con (d:D) | fn (f:String) | blt | cls (ns:List Str) | mth (tb:List (Str×String)) | sub (s n:List Str) | subx (s n:List Str) | exc | exs (cs:List Str)
structure CC where
 N:List Str
 names:List (Str×NameKind)
 gl:Str->GV
 top:Bool
def CC.isGl(Γ:CC)(x:Str):Bool:=Γ.names.lookup x==some .globalImplicit
noncomputable def CC.isVis(Γ:CC)(x:Str):Bool:=Γ.names.lookup x==some .local || Γ.names.lookup x==some .cell || Γ.names.lookup x==some .free
def eC(x:Str):Bool:=x==("__debug__":Str)||x==("__classdict__":Str)||x==("__name__":Str)
def CC.slot(Γ:CC)(x:Str):Option Nat:=if eC x then none else if Γ.isVis x then Γ.N.idxOf? x else none
def CC.glob(Γ:CC)(x:Str):GV:=if eC x then .no else if Γ.isGl x then Γ.gl x else .no
noncomputable def vI(Γ:CC)(x:Str):E :=
 match Γ.slot x with
 |some i=>.var i
 |none=>match Γ.glob x with
  |.con d=>.con d
  |_=>.bad
noncomputable def B5:Const->E
 |.none=>.con .non
 |.bool b=>.con (.bl b)
 |.int i=>.con (.int i)
 |.str s=>if PyData.strOk s then .con (.str s) else .bad
 |_=>.bad
noncomputable def HM(f:Str):Option BI :=
 if f=("len":Str) then some .len else if f=("abs":Str) then some .abs else if f=("int":Str) then some .int else if f=("list":Str) then some .list
 else if f=("tuple":Str) then some .tuple else if f=("min":Str) then some .min else if f=("max":Str) then some .max else if f=("all":Str) then some .all else if f=("repr":Str) then some .repr else if f=("str":Str) then some .str else if f=("sorted":Str) then some .sorted else none
noncomputable def aD1(Γ:CC):Expr->Option Ty
 |.Name x _=>match Γ.glob x with
  |.blt=>if x=("int":Str) then some .int else if x=("bool":Str) then some .bool else if x=("str":Str) then some .str else if x=("list":Str) then some .list else if x=("tuple":Str) then some .tuple else if x=("ValueError":Str) then some .verr else none
  |_=>none
 |_=>none
theorem yW{p:Prop}(h:false=true):p:=nomatch h
theorem xZ{α:Type}{a:α}{p:Prop}(h:none=some a):p:=nomatch h
def K7:Expr->Option Str
 |.Name x _=>some x
 |_=>none
def CZ:E->E
 |.omt=>.bad
 |c=>c
def aX:Expr->Bool
 |.Starred _ _=>false
 |_=>true
def sV(x:Str):Str:=⟨#[58]++x.cps⟩
def CC.globS(Γ:CC)(x:Str):GV:=if eC x then .no else if Γ.isGl x then Γ.gl (sV x) else .no
noncomputable def P4(Γ:CC):List Expr->Option (List (List Str×List Str))
 |[]=>some []
 |.Name x _::es=>(match Γ.globS x with
  |.subx s n=>(P4 Γ es).map ((s,n) :: ·)
  |_=>none)
 |_=>none
def JO(x:Str):Str:=⟨#[94]++x.cps⟩
noncomputable def ZA(Γ:CC)(t:Expr)(a:E):E:=match t with
 |.Name x _=>(match Γ.globS x with
  |.sub s n=>.bad
  |.subx s n=>.bad
  |_=>.bad)
 |.Tuple es _ _=>(match P4 Γ es with
  |some sn=>if es.length<=100 then .bad else .bad
  |none=>.bad)
 |_=>.bad
noncomputable def GP(Γ:CC)(args:List Expr)(cs:List E):E :=
 match args,cs with
 |[_,t],[a,_]=>(match aD1 Γ t with | some ty=>.bad | none=>ZA Γ t a)
 |_,_=>.bad
def aCg(ks:List (Option Expr))(vs:List Expr)(cs:List E):E:=.bad
def rA(m:Str):Str:=⟨#[46]++m.cps⟩
def aDI(Γ:CC)(x m:Str)(apos cpos:Pos)(a:Expr):E:=.bad
noncomputable def NQ(Γ:CC)(x m:Str)(apos cpos:Pos)(args:List Expr)(cs:List E):E :=
 match Γ.gl (rA m) with
 |.mth tb=>if args.all aX&&(apos.endLine==cpos.line)&&decide (args.length<29) then(match Γ.slot x with | some i=>.meth i m tb cs | none=>.bad) else .bad
 |_=>match args,cs with
  |[a],[c]=>if aX a&&(apos.endLine==cpos.line)&&(m==("append":Str)) then(match Γ.slot x with | some i=>.app i c | none=>.bad) else if aX a&&(apos.endLine==cpos.line)&&(m==("extend":Str)) then(match Γ.slot x with | some i=>.ext i c | none=>.bad) else if aX a&&(apos.endLine==cpos.line)&&(m==("pop":Str)) then(match Γ.slot x with | some i=>.popi i c | none=>.bad) else aDI Γ x m apos cpos a
  |[],[]=>if(apos.endLine==cpos.line)&&(m==("bit_length":Str)) then .bad else .bad
  |[a,b],[c,c']=>if aX a&&aX b&&(apos.endLine==cpos.line)&&(m==("insert":Str)) then(match Γ.slot x with | some i=>.bad | none=>.bad) else .bad
  |_,_=>.bad
noncomputable def GL(Γ:CC)(m:Str)(apos cpos:Pos)(args:List Expr)(a:E)(cs:List E):E :=
 match Γ.gl (rA m) with
 |.mth tb=>if args.all aX&&(apos.endLine==cpos.line)&&decide (args.length<29) then .bad else .bad
 |_=>.bad
def aDZ(args:List Expr)(cs:List E):E:=.bif .len cs
def aEK(cs:List E):E:=.bad
def A8:Expr->Bool
 |.Call (.Name f _) (_::_) [] _=>f==("range":Str)
 |_=>false
noncomputable def Q6(args:List Expr)(cs:List E):E :=
 match args,cs with
 |[a],[.mkrng c]=>if A8 a then .lrng c else .bif .list cs
 |_,_=>.bif .list cs
noncomputable def CY(f:Str)(args:List Expr)(cs:List E):E :=
 if f=("len":Str) then aDZ args cs else if f=("set":Str) then aEK cs else if f=("range":Str) then .mkrng cs else if f=("list":Str) then Q6 args cs else(match HM f with | some b=>.bif b cs | none=>.bad)
def HI:Expr->Bool
 |.ListComp _ _ _ _=>true
 |_=>false
noncomputable def cU:Expr->Bool
 |.ListComp _ _ _ _=>false
 |.SetComp _ _ _ _=>false
 |.DictComp _ _ _ _ _=>false
 |_=>true
def A7:Expr->Bool
 |.Slice _ _ _ _=>false
 |_=>true
def uP:Expr->Bool
 |.Set _ _ _=>false
 |_=>true
def vM:Expr->Bool
 |.Tuple _ _ _=>false
 |_=>true
def CC.isLoc(Γ:CC)(x:Str):Bool:=Γ.names.lookup x==some .local||(Γ.top && Γ.names.lookup x==some .cell)
def CC.slotL(Γ:CC)(x:Str):Option Nat:=if Γ.isLoc x then Γ.slot x else none
def CM(Γ:CC):Expr->Option Nat
 |.Name x _=>Γ.slotL x
 |_=>none
noncomputable def gL(Γ:CC):List Expr->Option (List Nat)
 |[]=>some []
 |e::es=>(CM Γ e).bind λi=>(gL Γ es).map (i :: ·)
noncomputable def jN(Γ:CC):Expr->Option (Bool×List Nat)
 |.Name x _=>(Γ.slotL x).map λi=>(true,[i])
 |.Tuple es _ _=>(gL Γ es).map λis=>(false,is)
 |_=>none
noncomputable def qZ(Γ:CC):Expr->Option (ItK×List Expr)
 |.Call (.Name f p) args [] pos=>if(f==("range":Str)) then
   (match Γ.glob f with
   |.blt=>if args.all aX&&(args.length==1||args.length==2) then some (.rng,args) else none
   |_=>none)
  else if(f==("enumerate":Str)) then
   (match Γ.glob f with
   |.blt=>if args.all aX&&(args.length==1) then some (.enum 0,args) else none
   |_=>none)
  else some (.of,[.Call (.Name f p) args [] pos])
 |.Call (.Name f p) [a] [⟨some x,.Constant (.int c) j q,kp⟩] pos=>if f==("enumerate":Str)&&x==("start":Str)&&aX a&&c==1 then
   (match Γ.glob f with
   |.blt=>some (.enum 1,[a])
   |_=>none)
  else none
 |e=>if uP e then some (.of,[e]) else none
def HJ:Expr->Bool
 |.Slice none none (some (.UnaryOp .USub (.Constant (.int i) _ _) _)) _=>i==1
 |_=>false
def eU(scope:Scope):List Str:=(scope.names.filter λp=>p.2==NameKind.free).map (·.1)
def eM(scope:Scope):List Str:=(scope.names.filter λp=>p.2==NameKind.local).map (·.1)
noncomputable def CC.inner(Γ:CC)(scope:Scope):CC :=
 ⟨eU scope++eM scope,scope.names.map λ(n,k)=>if(k==NameKind.free && Γ.names.lookup n==some .cell) then(n,NameKind.cell) else(n,k),Γ.gl,false⟩
noncomputable def CC.imps(Γ:CC):List Str->Option (List Nat)
 |[]=>some []
 |x::xs=>(Γ.N.idxOf? x).bind λi=>(Γ.imps xs).map (i :: ·)
noncomputable def CC.scOk(Γ:CC)(scope:Scope):Bool:=(scope.kind==ScopeKind.function)&&(scope.names.all λp=>p.2 != NameKind.cell)&&(scope.names.all λp=>p.2 != NameKind.local||scope.names.lookup p.1==some NameKind.local) &&
 (scope.names.all λp=>p.2 != NameKind.free||(scope.names.lookup p.1==some NameKind.free&&(Γ.names.lookup p.1==some NameKind.cell || Γ.names.lookup p.1==some NameKind.free)))&&decide (eU scope++eM scope).Nodup
def ZO(k:ItK)(ci:E)(cargs:List E):List E:=match k with
 |.of=>[ci]
 |_=>cargs
def jV(k:ItK)(one:Bool):Bool:=match k with
 |.enum _=>!one
 |_=>true
def aEr(iter:Expr):Bool:=false
noncomputable def nP(Γ:CC)(scope:Scope)(tg iter:Expr)(ci:E)(cargs cond:List E)(ce:E):E :=
 if Γ.scOk scope then
  match Γ.imps (eU scope),jN (Γ.inner scope) tg,qZ Γ iter with
  |some imp,some (one,is),some (k,_)=>if aEr iter then(if one==(is.length==1) then .comp ce is .sig [ci] cond imp (eM scope).length else .bad) else if one==(is.length==1)&&jV k one&&k != .enum 1 then .comp ce is k (ZO k ci cargs) cond imp (eM scope).length else .bad
  |_,_,_=>.bad
 else .bad
mutual
noncomputable def cE(Γ:CC):Expr->E
 |.Name x _=>vI Γ x
 |.Constant c _ _=>B5 c
 |.Tuple es _ _=>if es.all aX then .tup (cA Γ es) else .bad
 |.List es _=>if es.all aX then .lst (cA Γ es) else .bad
 |.Dict ks vs _=>aCg ks vs (cOs Γ ks)
 |.BinOp a op b _=>.bin op (cE Γ a) (cE Γ b)
 |.UnaryOp .Not a _=>.not (cE Γ a)
 |.UnaryOp .USub a _=>.neg (cE Γ a)
 |.Compare a [op] [b] _=>if behindInMarks op b then .bad else .cmp op (cE Γ a) (cE Γ b)
 |.Compare a [op,op'] [b,c] _=>if behindInMarks op' c then .bad else .cmp2 op op' (cE Γ a) (cE Γ b) (cE Γ c)
 |.BoolOp .And (a::b::r) _=>.and (cE Γ a) (OD Γ (b::r))
 |.BoolOp .Or (a::b::r) _=>.or (cE Γ a) (YC Γ (b::r))
 |.IfExp c a b _=>.bad
 |.Subscript a (.Slice lo hi none _) _=>.sl (cE Γ a) (cO Γ lo) (cO Γ hi)
 |.Subscript a i _=>if HJ i then .bad else .ix (cE Γ a) (cE Γ i)
 |.Call (.Name f _) args [] _=>if args.all aX&&decide (args≠[]) then
   match Γ.glob f with
   |.fn g=>.call g (cA Γ args)
   |.cls ns=>.make f ns (cA Γ args)
   |.blt=>if f=("isinstance":Str) then GP Γ args (cA Γ args)
     else CY f args (cA Γ args)
   |_=>.bad
  else .bad
 |.Call (.Attribute (.Name x _) m apos) args [] cpos=>NQ Γ x m apos cpos args (cA Γ args)
 |.Call (.Attribute (.Call g (a0::as0) kw p) m apos) args [] cpos=>GL Γ m apos cpos args (cE Γ (.Call g (a0::as0) kw p)) (cA Γ args)
 |.Attribute (.Name x _) f _=>.fld (vI Γ x) f
 |.ListComp elt [⟨tg,iter,[],0⟩] scope _=>nP Γ scope tg iter (cE Γ iter) (AA Γ iter) [] (cE (Γ.inner scope) elt)
 |.ListComp elt [⟨tg,iter,[c],0⟩] scope _=>nP Γ scope tg iter (cE Γ iter) (AA Γ iter) [cE (Γ.inner scope) c] (cE (Γ.inner scope) elt)
 |_=>.bad
noncomputable def AA(Γ:CC):Expr->List E
 |.Call _ args _ _=>cA Γ args
 |_=>[]
noncomputable def cA(Γ:CC):List Expr->List E
 |[]=>[]
 |e::es=>cE Γ e::cA Γ es
noncomputable def cOs(Γ:CC):List (Option Expr)->List E
 |[]=>[]
 |o::os=>cO Γ o::cOs Γ os
noncomputable def OD(Γ:CC):List Expr->E
 |[]=>.bad
 |[a]=>cE Γ a
 |a::b::r=>.and (cE Γ a) (OD Γ (b::r))
noncomputable def YC(Γ:CC):List Expr->E
 |[]=>.bad
 |[a]=>cE Γ a
 |a::b::r=>.or (cE Γ a) (YC Γ (b::r))
noncomputable def cO(Γ:CC):Option Expr->E
 |none=>.omt
 |some e=>CZ (cE Γ e)
end
noncomputable def JK(K:Frag)(n:Nat)(run:List Sl->aM RV):Sp:=λvs H Q _=>vs.length=n/\∃(as:List Sl) (G:Hp) (v:RV) (as':List Sl),Rel K as (vs.map some) H G/\as.length=n/\run as=some (.ok v,as') /\
 ∀x H' G',Aft K as (vs.map some) H G as' H' G'->b8 K H' G' (aI as' (vs.map some)) (dC H) v x->Q x H'
structure FnAt(X:Cx)(K:Frag)(x:Str)(n:Nat)(run:List Sl->aM RV):Prop where
 ex:∃(fa:Addr) (fd:FuncData) (ps:List Str) (k:Nat),FnOk X.prog X.w X.K X.mg X.base pT k fa fd ps (JK K n run)/\Room k X.A/\X.mg x=some (.ref fa)/\PySem.W.keepIn X.K (.ref fa)=true/\fZ X.K fd ps []
noncomputable def JG(K:Frag)(ns:List Str):Sp:=λvs H Q _=>∃a C dx xs,vs=.ref a::xs/\xs.length=ns.length/\H a=some (.ins C dx [])/\ClsF K C ns/\Q .non (aW H a (.ins C dx (ns.zip xs)))
structure MkAt(X:Cx)(K:Frag)(x:Str)(ns:List Str):Prop where
 ex:∃(Ca fa:Addr) (fd:FuncData) (ps:List Str),nsIn K mainGlobals x=some (some (.ref Ca))/\X.mg x=some (.ref Ca)/\Mk X.K Ca fa/\ClsF K Ca ns/\FnOk X.prog X.w X.K X.mg X.base pT 1 fa fd ps (JG K ns)/\fZ X.K fd ps []
structure MethAt(X:Cx)(K:Frag)(c m:Str)(n:Nat)(run:List Sl->aM RV):Prop where
 ex:∃(Ca fa:Addr) (fd:FuncData) (ps:List Str) (k:Nat),nsIn K mainGlobals c=some (some (.ref Ca))/\Meth X.K Ca m fa/\FnOk X.prog X.w X.K X.mg X.base pT k fa fd ps (JK K n run)/\Room k X.A/\fZ X.K fd ps []/\Cls K Ca
structure NotC(K:Frag)(D C:Addr):Prop where
 a:PySem.W.kin_not K D C=true
 b:PySem.W.plainGet K D "__class__"=true
 c:PySem.W.hasDictIn K D=true
 d:findIn K (.ref D) "__class__"=some (some (.builtin "object.__class__"))
 e:PySem.W.specialIn K (.builtin "object.__class__") "__get__"=some (some (.builtin "getset_descriptor.__get__"))
 f:PySem.W.takesIn K (.builtin "object.__class__")=some true
 g:PySem.W.mroIn K D (.type "object")=some true
structure SubAt(K:Frag)(mg:Str->Option Value)(x:Str)(s n:List Str):Prop where
 ex:∃C,mg x=some (.ref C)/\(∀c∈s,∀Ca,nsIn K mainGlobals c=some (some (.ref Ca))->PySem.W.isIn K (.ref Ca) C=true)/\∀c∈n,∀Ca,nsIn K mainGlobals c=some (some (.ref Ca))->NotC K Ca C
structure FnAtX(X:Cx)(K:Frag)(x:Str)(n:Nat)(run:List Sl->aM RV):Prop where
 ex:True
structure ExcAt(K:Frag)(mg:Str->Option Value)(x:Str):Prop where
 ex:∃C,nsIn K mainGlobals x=some (some (.ref C))/\mg x=some (.ref C)/\ExcG K C
structure ExsAt(K:Frag)(mg:Str->Option Value)(x:Str)(cs:List Str):Prop where
 ex:∃D,mg x=some (.ref D)/\PySem.W.excIn K D bmV "ValueError.__new__"=true/\∀c∈cs,∀C,nsIn K mainGlobals c=some (some (.ref C))->PySem.W.mroIn K C (.ref D)=some true
structure SubX(K:Frag)(mg:Str->Option Value)(x:Str)(s n:List Str):Prop where
 ex:∃D,mg x=some (.ref D)/\(∀c∈s,∀C,nsIn K mainGlobals c=some (some (.ref C))->PySem.W.isIn K (.ref C) D=true)/\∀c∈n,∀C,nsIn K mainGlobals c=some (some (.ref C))->PySem.W.kin_not K C D=true
structure XOkB(q:Bool)(X:Cx)(K:Frag)(P:aJ)(C:Calls)(Γ:CC):Prop where
 keq:X.K=K
 neq:X.N=Γ.N
 nm:X.env.scope.names=Γ.names
 nd:Γ.N.Nodup
 con:∀x d,Γ.gl x=.con d->∃u v,X.mg x=some u/\a8 v u/\∀G,aC K G d v
 blt:∀x,Γ.gl x=.blt->X.mg x=none
 sub:∀x s n,Γ.gl (sV x)=.sub s n->SubAt K X.mg x s n
 subx:∀x s n,Γ.gl (sV x)=.subx s n->SubX K X.mg x s n
 cond:q=true->X.calm=true/\X.A.handled=none/\X.A.units+64<cLine/\(∀x f,Γ.gl x=.fn f->FnAt X K x (P f).length (C f))/\(∀x ns,Γ.gl x=.cls ns->MkAt X K x ns) /\
  (∀m tb c f,Γ.gl (rA m)=.mth tb->tb.lookup c=some f->MethAt X K c m (P f).length (C f))/\Room 2 X.A/\(∀x,Γ.gl x=.exc->ExcAt K X.mg x)/\(∀x cs,Γ.gl (JO x)=.exs cs->ExsAt K X.mg x cs)/\(∀x f,Γ.gl x=.fn f->FnAtX X K x (P f).length (C f))/\∃env0 outer0 L,X.stack=env0::outer0/\env0.frame=some L/\X.env.frame=some L
abbrev bH(X:Cx)(K:Frag)(P:aJ)(C:Calls)(Γ:CC):Prop:=XOkB true X K P C Γ
section
variable{X:Cx}{K:Frag}{P:aJ}{C:Calls}{Γ:CC}
theorem XOkB.calm(o:XOkB true X K P C Γ):X.calm=true:=(o.cond rfl).1
theorem XOkB.hh(o:XOkB true X K P C Γ):X.A.handled=none:=(o.cond rfl).2.1
theorem XOkB.hu(o:XOkB true X K P C Γ):X.A.units+64<cLine:=(o.cond rfl).2.2.1
theorem XOkB.fn(o:XOkB true X K P C Γ):∀x f,Γ.gl x=.fn f->FnAt X K x (P f).length (C f):=(o.cond rfl).2.2.2.1
theorem XOkB.cls(o:XOkB true X K P C Γ):∀x ns,Γ.gl x=.cls ns->MkAt X K x ns:=(o.cond rfl).2.2.2.2.1
theorem XOkB.mth(o:XOkB true X K P C Γ):∀m tb c f,Γ.gl (rA m)=.mth tb->tb.lookup c=some f->MethAt X K c m (P f).length (C f):=(o.cond rfl).2.2.2.2.2.1
theorem XOkB.rm(o:XOkB true X K P C Γ):Room 2 X.A:=(o.cond rfl).2.2.2.2.2.2.1
theorem XOkB.exc(o:XOkB true X K P C Γ):∀x,Γ.gl x=.exc->ExcAt K X.mg x:=(o.cond rfl).2.2.2.2.2.2.2.1
theorem XOkB.exs(o:XOkB true X K P C Γ):∀x cs,Γ.gl (JO x)=.exs cs->ExsAt K X.mg x cs:=(o.cond rfl).2.2.2.2.2.2.2.2.1
theorem XOkB.fnX(o:XOkB true X K P C Γ):∀x f,Γ.gl x=.fn f->FnAtX X K x (P f).length (C f):=(o.cond rfl).2.2.2.2.2.2.2.2.2.1
theorem XOkB.tp(o:XOkB true X K P C Γ):∃env0 outer0 L,X.stack=env0::outer0/\env0.frame=some L/\X.env.frame=some L:=(o.cond rfl).2.2.2.2.2.2.2.2.2.2
theorem bH.of(keq:X.K=K)(neq:X.N=Γ.N)(nm:X.env.scope.names=Γ.names)(nd:Γ.N.Nodup)(calm:X.calm=true)(hh:X.A.handled=none)(hu:X.A.units+64<cLine)
  (con:∀x d,Γ.gl x=.con d->∃u v,X.mg x=some u/\a8 v u/\∀G,aC K G d v) (blt:∀x,Γ.gl x=.blt->X.mg x=none) (fn:∀x f,Γ.gl x=.fn f->FnAt X K x (P f).length (C f)) (cls:∀x ns,Γ.gl x=.cls ns->MkAt X K x ns)
  (mth:∀m tb c f,Γ.gl (rA m)=.mth tb->tb.lookup c=some f->MethAt X K c m (P f).length (C f)) (rm:Room 2 X.A) (sub:∀x s n,Γ.gl (sV x)=.sub s n->SubAt K X.mg x s n) (subx:∀x s n,Γ.gl (sV x)=.subx s n->SubX K X.mg x s n)
  (exc:∀x,Γ.gl x=.exc->ExcAt K X.mg x) (exs:∀x cs,Γ.gl (JO x)=.exs cs->ExsAt K X.mg x cs) (fnX:∀x f,Γ.gl x=.fn f->FnAtX X K x (P f).length (C f)) (tp:∃env0 outer0 L,X.stack=env0::outer0/\env0.frame=some L/\X.env.frame=some L):bH X K P C Γ :=
 ⟨keq,neq,nm,nd,con,blt,sub,subx,λ_=>⟨calm,hh,hu,fn,cls,mth,rm,exc,exs,fnX,tp⟩⟩
end
structure Ok3(X:Cx)(K:Frag)(P:aJ)(C:Calls)(e:Expr)(c:E):Prop where
 v:PE X e (tE K P C c)
 t:PT X e (tT K P C c)
 h:PE X e (tH K P C c)
section
variable{X:Cx}{K:Frag}{P:aJ}{C:Calls}{Γ:CC}
theorem RO{e:Expr}{c:E}(h:∀t ρ,ev P C t c ρ=none)(n:∀i,c≠.var i):Ok3 X K P C e c:=by
 have v:PE X e (tE K P C c):=λpins s σ H Q I ⟨ρ,G,w,ρ',r,z,k⟩=>by rw[h] at z;cases z
 exact⟨v,(λpins s σ H Q I ⟨ρ,G,w,ρ',r,z,k⟩=>by rw[h] at z;cases z),r8 v n⟩
theorem aQ{e:Expr}:Ok3 X K P C e .bad:=RO (λt ρ=>rfl) λi z=>nomatch z
theorem jJ{e:Expr}{c:E}{q:Bool}(xo:XOkB q X K P C Γ)(h:PE X e (tE K P C c))(n:∀i,c≠.var i)(hw:∀ρ,ev P C true c ρ=bE true (ev P C false c ρ))
  (he:∀whole,isTrue e X.env whole=(do let v <- whole;standAt e.pos;holding [v] (truthy v))):Ok3 X K P C e c:=⟨h,aCQ xo.keq h hw he,r8 h n⟩
theorem lN{α:Type}[BEq α][LawfulBEq α]{l:List α}{x:α}{i:Nat}(h:l.idxOf? x=some i):l[i]?=some x:=by
 rw[List.idxOf?,List.findIdx?_eq_some_iff_getElem] at h;obtain⟨h1,h2,_⟩:=h;rw[Zb h1];exact congrArg some (Zy h2)
theorem CC.slot_ok{q:Bool}(xo:XOkB q X K P C Γ){x:Str}{i:Nat}(h:Γ.slot x=some i){pos:Pos}:PE X (.Name x pos) (nM i):=by
 unfold CC.slot at h;split at h
 ·cases h
 ·rename_i hb;split at h
  ·rename_i hv;simp only[eC,Bool.or_eq_true,not_or,Bool.not_eq_true] at hb;refine BV (by rw[xo.neq];exact lN h) ?_ hb.1.1 hb.1.2;unfold CC.isVis at hv;simp only[Bool.or_eq_true,beq_iff_eq] at hv;unfold IH;rw[xo.nm];rcases hv with (h | h) | h
   ·exact .inl h
   ·exact .inr (.inl h)
   ·exact .inr (.inr h)
  ·cases h
theorem CC.glob_ok{q:Bool}(xo:XOkB q X K P C Γ){x:Str}{g:GV}(h:Γ.glob x=g)(hg:g≠.no):Gl X x/\Γ.gl x=g/\(x==("__debug__":Str))=false/\x≠"__name__":=by
 unfold CC.glob at h;split at h
 ·exact absurd h.symm hg
 ·rename_i hb;split at h
  ·rename_i hv;simp only[eC,Bool.or_eq_true,not_or,Bool.not_eq_true] at hb;refine⟨?_,h,hb.1.1,λz=>?_⟩
   ·unfold Gl Env.kindOf;rw[xo.nm];unfold CC.isGl at hv;simpa using hv
   ·have:=hb.2
    rw[z] at this;simp at this
  ·exact absurd h.symm hg
theorem q0{e:Expr}{d:D}{v:V}{q:Bool}(xo:XOkB q X K P C Γ)(h:PE X e (tC v))(r:∀G,aC K G d v)(he:∀whole,isTrue e X.env whole=(do let v <- whole;standAt e.pos;holding [v] (truthy v))):Ok3 X K P C e (.con d):=by
 refine jJ xo (TE.imp_pe h λσ H Q q=>?_) (λi z=>nomatch z) (λρ=>rfl) he;obtain⟨ρ,G,w,ρ',r',z,k⟩:=q;cases z;exact k v H G (Aft.refl r') (r G)
theorem E4{q:Bool}(xo:XOkB q X K P C Γ)(x:Str)(pos:Pos):Ok3 X K P C (.Name x pos) (vI Γ x):=by
 unfold vI;split
 ·rename_i i hi;have hp:=CC.slot_ok xo hi (pos:=pos);refine⟨SG hp, ?_,VP hp⟩
  -- a test of a local: looked at
  refine TT.imp_pt (BO hp λ_=>rfl) λσ H Q q=>?_
  obtain⟨ρ,G,b,ρ',r,e1,k⟩:=q;obtain⟨u,b',e2,e3,e4⟩:=ET e1;cases e4
  cases w:(ρ[i]?).bind Sl.get with
  |none=>rw[w] at e2;cases e2
  |some d =>
   rw[w] at e2;simp only[Option.map_some,Option.some.injEq,Prod.mk.injEq,Out.ok.injEq] at e2;obtain⟨rfl,rfl⟩:=e2;obtain⟨x,hx⟩:=r.bound (i:=i) (by rw[w];rfl);exact⟨x,hx,b,by rw[xo.keq];exact tU r.sub (r.get w hx) e3,k H G (Aft.refl r)⟩
 ·split
  ·rename_i d hd;obtain⟨h1,h2,h3,h4⟩:=CC.glob_ok xo hd (λz=>nomatch z);obtain⟨u,v,hm,hr,hrep⟩:=xo.con x d h2;exact q0 xo (S3 h1 hm hr h3) hrep λ_=>rfl
  ·exact aQ
theorem NO{q:Bool}(xo:XOkB q X K P C Γ)(c:Const)(k:Nat)(pos:Pos):Ok3 X K P C (.Constant c k pos) (B5 c):=by
 cases c with
 |none=>exact q0 xo WT (λG=>by simp[aC]) λ_=>rfl
 |bool b=>exact q0 xo aBv (λG=>by simp[aC]) λ_=>rfl
 |int i=>exact q0 xo KZ (λG=>by simp[aC]) λ_=>rfl
 |str s =>
  simp only[B5];split
  ·rename_i h;exact q0 xo aAf (λG=>by simp only[aC];exact⟨trivial,h⟩) λ_=>rfl
  ·exact aQ
 |_=>exact aQ
theorem bJ{e:Expr}(h:aX e=true)(es:List Expr)(env:PySem.Env):starEach (e::es) env=(false,eval e env)::starEach es env:=by
 cases e<;>first | rfl | cases h
theorem UY:PA X [] (AM K P C []):=by
 refine TA.imp_pa mP λσ H Q q=>?_
 obtain⟨ρ,G,ds,ρ',r,e,k⟩:=q;simp only[k9,Option.some.injEq,Prod.mk.injEq,Out.ok.injEq] at e;obtain⟨rfl,rfl⟩:=e;exact k [] H G (Aft.refl r) aA.nil
theorem M5{e:Expr}{es:List Expr}{c:E}{cs:List E}(h:Ok3 X K P C e c)(t:PA X es (AM K P C cs))(ns:aX e=true):PA X (e::es) (AM K P C (c::cs)):=by
 refine TA.imp_pa (j9 h.v t (bJ ns _ _)) λσ H Q q=>?_
 obtain⟨ρ,G,ds,ρ',r,e,k⟩:=q;rw[k9] at e;obtain⟨v,ρ1,e1,e2⟩:=aK e;obtain⟨ds',ρ2,e3,e4⟩:=aK e2;cases e4;refine⟨ρ,G,v,ρ1,r,e1,λx H1 G1 a1 hx=>?_⟩;obtain⟨G1',a1',rx⟩:=a1.share hx;refine⟨ρ1,G1',ds',_,a1'.rel,e3,λxs H2 G2 a2 hxs=>?_⟩;exact k (x::xs) H2 G2 (a1'.trans a2) (aA.cons (aC.mono a2.ext.gg _ rx) hxs)
theorem VQ:PA X [] (kP K P C []):=by
 refine TA.imp_pa mP λσ H Q q=>?_
 obtain⟨ρ,G,ds,ρ',r,e,k⟩:=q;simp only[bZ,Option.some.injEq,Prod.mk.injEq,Out.ok.injEq] at e;obtain⟨rfl,rfl⟩:=e;exact k [] H G (Aft.refl r) rfl
theorem cX.new_mono{H G:Hp}{own new new':Addr->Prop}{σ:St}(w:∀a,new a->new' a):∀{hs:List Hd} {xs:List V},cX K H G own new σ hs xs->cX K H G own new' σ hs xs
 |[],_,h=>h
 |h::hs,_,r=>by(obtain⟨x,r',rfl,h1,h2,h3⟩:=r;exact⟨x,r',rfl,h1.new_mono w,cX.new_mono w h2,h3⟩)
theorem M3{e:Expr}{es:List Expr}{c:E}{cs:List E}(h:Ok3 X K P C e c)(t:PA X es (kP K P C cs))(ns:aX e=true):PA X (e::es) (kP K P C (c::cs)):=by
 refine TA.imp_pa (j9 h.h t (bJ ns _ _)) λσ H Q q=>?_
 obtain⟨ρ,G,ds,ρ',r,e,k⟩:=q;rw[bZ] at e;obtain⟨v,ρ1,e1,e2⟩:=aK e;obtain⟨ds',ρ2,e3,e4⟩:=aK e2;cases e4;refine⟨ρ,G,v,ρ1,r,e1,λx H1 G1 a1 hx=>⟨ρ1,G1,ds',_,a1.rel,e3,λxs H2 G2 a2 hxs=>?_⟩⟩;refine k (x::xs) H2 G2 (a1.trans a2) ⟨x,xs,rfl,hx.wait a2.ext λa z=>.inl (a2.own a z),hxs.new_mono λa z=>a1.ext.hx a z,λd a hd ha ht=>?_⟩;subst hd;obtain⟨b,e5,g,o,n,m⟩:=hx;rw[ha] at e5;cases e5;obtain⟨vs,hv⟩:=o.there
 have:=(hxs.tmp_own ht).2.1
 rw[show H1 a=none from this] at hv;cases hv
theorem cX.getAll{H G:Hp}{own new:Addr->Prop}{σ:St}{ρ:Env}(r:Rel K ρ σ H G):∀{hs:List Hd} {xs:List V} {ds:List D},cX K H G own new σ hs xs->getAll hs ρ=some ds->uF K H G ds xs
 |[],_,_,h,e=>by cases (show _=[] from h);cases e;rfl
 |h::hs,_,ds,hh,e=>by
  obtain⟨x,r',rfl,h1,h2,h3⟩:=hh;simp only[CI.getAll] at e
  cases q:h.get ρ with
  |none=>rw[q] at e;cases e
  |some d =>
   rw[q] at e
   cases q2:CI.getAll hs ρ with
   |none=>rw[q2] at e;cases e
   |some ds' =>
    rw[q2] at e;cases e;exact⟨x,r',rfl,h1.read r q,cX.getAll r h2 q2⟩
theorem X2(xo:bH X K P C Γ){a b:Expr}{ca cb:E}{op:Operator}{pos:Pos}(ha:Ok3 X K P C a ca)(hb:Ok3 X K P C b cb):Ok3 X K P C (.BinOp a op b pos) (.bin op ca cb):=by
 refine jJ xo (TE.imp_pe (aCy (aBb xo.keq op) ha.h hb.h) λσ H Q q=>?_) (λi z=>nomatch z) (λρ=>rfl) λ_=>rfl
 obtain⟨ρ,G,v,ρ',r,e,k⟩:=q;obtain⟨hx,ρ1,e1,e⟩:=aK e;obtain⟨hy,ρ2,e2,e⟩:=aK e;obtain⟨e3,rfl⟩:=eV e;refine⟨ρ,G,hx,ρ1,r,e1,λx H1 G1 a1 rx=>⟨ρ1,G1,hy,ρ',a1.rel,e2,λy H2 G2 a2 ry=>?_⟩⟩
 cases q1:hx.get ρ' with
 |none=>rw[q1] at e3;cases e3
 |some d =>
  cases q2:hy.get ρ' with
  |none=>rw[q1,q2] at e3;cases e3
  |some d2 =>
   rw[q1,q2] at e3;simp only[Option.bind_some] at e3;split at e3
   ·rename_i hm;have rx':=rx.wait a2.ext λa z=>.inl (a2.own a z)
    refine⟨G2,d,d2,v,a2.rel.sub,rx'.read a2.rel q1,ry.read a2.rel q2,λho ds hd=>?_,e3,λz H3 hm3=>?_⟩
    ·subst ho;subst hd
     cases hx with
     |slot i=>simp[nU] at hm
     |val w =>
      cases w with
      |sh _=>simp[nU] at hm
      |od _=>simp[nU] at hm
      |ow w =>
       simp only[Hd.get,RV.d,Option.some.injEq] at q1;subst q1;obtain⟨c,e5,g,⟨vs,o1,o2⟩,n,m⟩:=rx';exact⟨c,vs,e5,o1,o2⟩
    ·obtain⟨G3,a3,v3⟩:=(a1.trans a2).made hm3;exact k z H3 G3 a3 v3
   ·cases e3
theorem aAy(xo:bH X K P C Γ){a:Expr}{ca:E}{pos:Pos}(ha:Ok3 X K P C a ca):Ok3 X K P C (.UnaryOp .USub a pos) (.neg ca):=by
 refine jJ xo (TE.imp_pe (aBq aAr ha.v) λσ H Q q=>?_) (λi z=>nomatch z) (λρ=>rfl) λ_=>rfl
 obtain⟨ρ,G,v,ρ',r,e,k⟩:=q;obtain⟨w,ρ1,e1,e⟩:=aK e;split at e
 ·rename_i i hi;cases e;refine⟨ρ,G,w,_,r,e1,λx H1 G1 a1 rx=>?_⟩
  have:=rx.readR
  rw[hi] at this;cases this.int;exact⟨i,rfl,k _ H1 G1 a1 (by show aC K G1 (.int (-i)) _;simp[aC])⟩
 ·cases e
theorem UI{a:Expr}{ta:TE}{pos:Pos}(ha:PE X a ta):PE X (.UnaryOp .Not a pos) (λσ H Q=>ta σ H λx H'=>∃k,FG X.K x H' k/\Q (.bl (!k)) H'):=by
 intro pins s σ H Q I h;refine UnaryOp_ (a7 (ha pins s σ H _ I h) λv s1 ⟨x,H1,I1,r1,q1⟩=>?_);exact not_of (a7 (K5 pins s1 σ H1 x v (λk H'=>Q (.bl (!k)) H') I1 r1 q1) λb s2 ⟨H2,I2,q2⟩=>⟨.bl (!b),H2,I2,rfl,q2⟩)
theorem YV(xo:bH X K P C Γ){a:Expr}{ca:E}{pos:Pos}(ha:Ok3 X K P C a ca):Ok3 X K P C (.UnaryOp .Not a pos) (.not ca):=by
 have v:PE X (.UnaryOp .Not a pos) (tE K P C (.not ca)):=by
  refine TE.imp_pe (UI ha.h) λσ H Q q=>?_
  obtain⟨ρ,G,v,ρ',r,e,k⟩:=q;obtain⟨w,ρ1,e1,e⟩:=aK e;obtain⟨e2,rfl⟩:=eV e;refine⟨ρ,G,w,ρ',r,e1,λx H1 G1 a1 rx=>?_⟩
  cases q:w.get ρ' with
  |none=>rw[q] at e2;cases e2
  |some d =>
   rw[q] at e2;simp only[Option.bind_some] at e2
   cases q2:hW d with
   |none=>rw[q2] at e2;cases e2
   |some b =>
    rw[q2] at e2;cases e2;refine⟨b, ?_,k _ H1 G1 a1 (by show aC K G1 (.bl _) _;simp[aC])⟩;rw[xo.keq];exact tU a1.rel.sub (rx.read a1.rel q) q2
 refine⟨v, ?_,r8 v λi z=>nomatch z⟩;refine TT.imp_pt (ZW ha.t) λσ H Q q=>?_
 obtain⟨ρ,G,b,ρ',r,e,k⟩:=q;obtain⟨w,ρ1,e1,e⟩:=aK e;split at e
 ·rename_i b';cases e;exact⟨ρ,G,b',_,r,e1,λH1 G1 a1=>k H1 G1 a1⟩
 ·cases e
theorem nJ{σ:St}{H G H1 G1 H2 G2:Hp}{ρ ρ1 ρ2:Env}{hx hy:Hd}{x y:V}{op:CmpOp}{b:Bool}(a1:Aft K ρ σ H G ρ1 H1 G1)(rx:fR K H1 G1 (aI ρ1 σ) (dC H) σ hx x)(a2:Aft K ρ1 σ H1 G1 ρ2 H2 G2)(ry:fR K H2 G2 (aI ρ2 σ) (dC H1) σ hy y)
  (e:((hx.get ρ2).bind λd=>(hy.get ρ2).bind λe=>bX op d e)=some b) (Q:VK) (q:Q (.bl b) H2):AK K op x y H2 Q:=by
 cases q1:hx.get ρ2 with
 |none=>rw[q1] at e;cases e
 |some d =>
  cases q2:hy.get ρ2 with
  |none=>rw[q1,q2] at e;cases e
  |some d2 =>
   rw[q1,q2] at e;exact⟨G2,d,d2,b,a2.rel.sub,(rx.wait a2.ext λa z=>.inl (a2.own a z)).read a2.rel q1,ry.read a2.rel q2,e,q⟩
theorem aBd{o:Option Bool}{v:RV}(e:(o.map λb=>RV.sh (.bl b))=some v):∃b,o=some b/\v=.sh (.bl b):=by
 cases o with
 |none=>cases e
 |some b=>cases e;exact⟨b,rfl,rfl⟩
theorem n6{x y:Option D}{f:D->D->Option Bool}{v:RV}(e:(x.bind λd=>y.bind λe=>(f d e).map λb=>RV.sh (.bl b))=some v):∃b,(x.bind λd=>y.bind λe=>f d e)=some b/\v=.sh (.bl b):=by
 cases x with
 |none=>cases e
 |some d =>
  cases y with
  |none=>cases e
  |some d2=>exact aBd e
theorem WN(xo:bH X K P C Γ){a b:Expr}{ca cb:E}{op:CmpOp}{pos:Pos}(ha:Ok3 X K P C a ca)(hb:Ok3 X K P C b cb)(hm:behindInMarks op b=false):Ok3 X K P C (.Compare a [op] [b] pos) (.cmp op ca cb):=by
 have core:∀σ H (Q:VK),(∃(ρ:Env) (G:Hp) (b:Bool) (ρ':Env),Rel K ρ σ H G/\ev P C false (.cmp op ca cb) ρ=some (.ok (.sh (.bl b)),ρ')/\∀H' G',Aft K ρ σ H G ρ' H' G'->Q (.bl b) H') ->
   LR (AK K op) (tH K P C ca) (tH K P C cb) σ H Q:=λσ H Q q=>by
  obtain⟨ρ,G,b,ρ',r,e,k⟩:=q;obtain⟨hx,ρ1,e1,e⟩:=aK e;obtain⟨hy,ρ2,e2,e⟩:=aK e;obtain⟨e3,rfl⟩:=eV e;obtain⟨b',e4,e5⟩:=n6 e3;cases e5;exact⟨ρ,G,hx,ρ1,r,e1,λx H1 G1 a1 rx=>⟨ρ1,G1,hy,ρ',a1.rel,e2,λy H2 G2 a2 ry=>nJ a1 rx a2 ry e4 Q (k H2 G2 (a1.trans a2))⟩⟩
 have v:PE X (.Compare a [op] [b] pos) (tE K P C (.cmp op ca cb)):=by
  refine TE.imp_pe (UD (l6 xo.keq xo.hu op) ha.h hb.h hm) λσ H Q q=>core σ H Q ?_
  obtain⟨ρ,G,v,ρ',r,e,k⟩:=q;have e0:=e;obtain⟨hx,ρ1,e1,e⟩:=aK e;obtain⟨hy,ρ2,e2,e⟩:=aK e;obtain⟨e3,rfl⟩:=eV e;obtain⟨b',e4,rfl⟩:=n6 e3;exact⟨ρ,G,b',ρ',r,e0,λH' G' a=>k _ H' G' a (by show aC K G' (.bl _) _;simp[aC])⟩
 refine⟨v, ?_,r8 v λi z=>nomatch z⟩;refine TT.imp_pt (SV (l6 xo.keq xo.hu op) ha.h hb.h hm) λσ H Q q=>core σ H _ ?_
 obtain⟨ρ,G,b',ρ',r,e,k⟩:=q;exact⟨ρ,G,b',ρ',r,e,λH' G' a=>⟨b',rfl,k H' G' a⟩⟩
theorem R6(xo:bH X K P C Γ){a b c:Expr}{ca cb cc:E}{op op':CmpOp}{pos:Pos}(ha:Ok3 X K P C a ca)(hb:Ok3 X K P C b cb)(hc:Ok3 X K P C c cc)(hm:behindInMarks op' c=false):Ok3 X K P C (.Compare a [op,op'] [b,c] pos) (.cmp2 op op' ca cb cc):=by
 have core:∀σ H (Q:VK),(∃(ρ:Env) (G:Hp) (b:Bool) (ρ':Env),Rel K ρ σ H G/\ev P C false (.cmp2 op op' ca cb cc) ρ=some (.ok (.sh (.bl b)),ρ')/\∀H' G',Aft K ρ σ H G ρ' H' G'->Q (.bl b) H') ->
   AU (AK K op) (AK K op') (tH K P C ca) (tH K P C cb) (tH K P C cc) σ H Q:=λσ H Q q=>by
  obtain⟨ρ,G,b,ρ',r,e,k⟩:=q;obtain⟨hx,ρ1,e1,e⟩:=aK e;obtain⟨hy,ρ2,e2,e⟩:=aK e;refine⟨ρ,G,hx,ρ1,r,e1,λx H1 G1 a1 rx=>⟨ρ1,G1,hy,ρ2,a1.rel,e2,λy H2 G2 a2 ry=>?_⟩⟩;split at e
  ·cases e
  ·rename_i e4;cases e;refine nJ a1 rx a2 ry e4 _ ⟨false,rfl, ?_⟩;rw[Zp Bool.false_ne_true];exact k H2 G2 (a1.trans a2)
  ·rename_i e4;obtain⟨hz,ρ3,e5,e⟩:=aK e;obtain⟨e6,rfl⟩:=eV e;obtain⟨b',e7,e8⟩:=n6 e6;cases e8;refine nJ a1 rx a2 ry e4 _ ⟨true,rfl, ?_⟩;rw[Zo rfl];exact⟨ρ2,G2,hz,ρ',a2.rel,e5,λz H3 G3 a3 rz=>nJ (a1.trans a2) (ry.new_mono λa z=>a1.ext.hx a z) a3 rz e7 Q (k H3 G3 ((a1.trans a2).trans a3))⟩
 have hl:lastMarks [op,op'] [b,c]=false:=hm
 have v:PE X (.Compare a [op,op'] [b,c] pos) (tE K P C (.cmp2 op op' ca cb cc)):=by
  refine TE.imp_pe (PY (l6 xo.keq xo.hu op) (l6 xo.keq xo.hu op') ha.h hb.h hc.h hl) λσ H Q q=>core σ H Q ?_
  obtain⟨ρ,G,v,ρ',r,e,k⟩:=q;have e0:=e
  have:∃b,v=.sh (.bl b):=by
   obtain⟨hx,ρ1,e1,e⟩:=aK e;obtain⟨hy,ρ2,e2,e⟩:=aK e;split at e
   ·cases e
   ·cases e;exact⟨_,rfl⟩
   ·obtain⟨hz,ρ3,e5,e⟩:=aK e;obtain⟨e6,rfl⟩:=eV e;obtain⟨b',e7,e8⟩:=n6 e6;exact⟨b',e8⟩
  obtain⟨b',rfl⟩:=this;exact⟨ρ,G,b',ρ',r,e0,λH' G' a=>k _ H' G' a (by show aC K G' (.bl _) _;simp[aC])⟩
 refine⟨v, ?_,r8 v λi z=>nomatch z⟩;refine TT.imp_pt (OE (l6 xo.keq xo.hu op) (l6 xo.keq xo.hu op') ha.h hb.h hc.h hl) λσ H Q q=>core σ H _ ?_
 obtain⟨ρ,G,b',ρ',r,e,k⟩:=q;exact⟨ρ,G,b',ρ',r,e,λH' G' a=>⟨b',rfl,k H' G' a⟩⟩
end
section
variable{X:Cx}{K:Frag}{P:aJ}{C:Calls}{Γ:CC}
theorem PW.imp{e:Expr}{t u:TT}(h:PW X e t)(w:∀σ H Q,u σ H Q->t σ H Q):PW X e u:=λwh pins s σ H Q I q=>h wh pins s σ H Q I (w σ H Q q)
theorem aCB{σ:St}{H:Hp}{Q:VK}{ca cb:E}(q:tE K P C (.and ca cb) σ H Q):RF (tE K P C ca) (tE K P C cb) σ H Q:=by
 obtain⟨ρ,G,v,ρ',r,e,k⟩:=q;obtain⟨w,ρ1,e1,e⟩:=aK e;refine⟨ρ,G,w,ρ1,r,e1,λx H1 G1 a1 rx=>?_⟩;split at e
 ·refine⟨true,p9 (K:=K) (G:=G1) rx, ?_⟩;refine AY ?_;exact⟨ρ1,G1,v,ρ',a1.rel,e,λy H2 G2 a2 ry=>k y H2 G2 (a1.trans a2) (ry.new_mono λa z=>a1.ext.hx a z)⟩
 ·refine⟨false,p9 (K:=K) (G:=G1) rx, ?_⟩;refine CT ?_;cases e;exact k _ H1 G1 a1 (by show aC K G1 (.bl _) _;simp[aC])
 ·cases e
theorem aBE{σ:St}{H:Hp}{Q:Bool->Hp->Prop}{ca cb:E}(q:tT K P C (.and ca cb) σ H Q):YU (tT K P C ca) (tT K P C cb) σ H Q:=by
 obtain⟨ρ,G,b,ρ',r,e,k⟩:=q;obtain⟨w,ρ1,e1,e⟩:=aK e;split at e
 ·refine⟨ρ,G,true,ρ1,r,e1,λH1 G1 a1=>?_⟩;refine AY ?_;exact⟨ρ1,G1,b,ρ',a1.rel,e,λH2 G2 a2=>k H2 G2 (a1.trans a2)⟩
 ·refine⟨ρ,G,false,ρ1,r,e1,λH1 G1 a1=>?_⟩;refine CT ?_;cases e;exact k H1 G1 a1
 ·cases e
theorem aD2{σ:St}{H:Hp}{Q:VK}{ca cb:E}(q:tE K P C (.or ca cb) σ H Q):ZQ (tE K P C ca) (tE K P C cb) σ H Q:=by
 obtain⟨ρ,G,v,ρ',r,e,k⟩:=q;obtain⟨w,ρ1,e1,e⟩:=aK e;refine⟨ρ,G,w,ρ1,r,e1,λx H1 G1 a1 rx=>?_⟩;split at e
 ·refine⟨true,p9 (K:=K) (G:=G1) rx, ?_⟩;refine AY ?_;cases e;exact k _ H1 G1 a1 (by show aC K G1 (.bl _) _;simp[aC])
 ·refine⟨false,p9 (K:=K) (G:=G1) rx, ?_⟩;refine CT ?_;exact⟨ρ1,G1,v,ρ',a1.rel,e,λy H2 G2 a2 ry=>k y H2 G2 (a1.trans a2) (ry.new_mono λa z=>a1.ext.hx a z)⟩
 ·cases e
theorem aEc{σ:St}{H:Hp}{Q:Bool->Hp->Prop}{ca cb:E}(q:tT K P C (.or ca cb) σ H Q):tOr (tT K P C ca) (tT K P C cb) σ H Q:=by
 obtain⟨ρ,G,b,ρ',r,e,k⟩:=q;obtain⟨w,ρ1,e1,e⟩:=aK e;split at e
 ·refine⟨ρ,G,true,ρ1,r,e1,λH1 G1 a1=>?_⟩;refine AY ?_;cases e;exact k H1 G1 a1
 ·refine⟨ρ,G,false,ρ1,r,e1,λH1 G1 a1=>?_⟩;refine CT ?_;exact⟨ρ1,G1,b,ρ',a1.rel,e,λH2 G2 a2=>k H2 G2 (a1.trans a2)⟩
 ·cases e
structure Ok2(X:Cx)(K:Frag)(P:aJ)(C:Calls)(op:BoolOp)(vs:List Expr)(c:E):Prop where
 v:∀pos,PE X (.BoolOp op vs pos) (tE K P C c)
 w:∀pos,PW X (.BoolOp op vs pos) (tT K P C c)
theorem M9{a:Expr}{c:E}(h:Ok3 X K P C a c):Ok2 X K P C .And [a] c:=⟨λ_=>HZ h.v,λ_=>UH h.t⟩
theorem UW{a:Expr}{c:E}(h:Ok3 X K P C a c):Ok2 X K P C .Or [a] c:=⟨λ_=>HZ h.v,λ_=>X4 h.t⟩
theorem DY{a b:Expr}{r:List Expr}{ca cb:E}(h:Ok3 X K P C a ca)(t:Ok2 X K P C .And (b::r) cb):Ok2 X K P C .And (a::b::r) (.and ca cb) :=
 ⟨λpos=>TE.imp_pe (XJ h.v (t.v pos)) λ_ _ _ q=>aCB q,λpos=>PW.imp (ZV h.t (t.w pos)) λ_ _ _ q=>aBE q⟩
theorem JU{a b:Expr}{r:List Expr}{ca cb:E}(h:Ok3 X K P C a ca)(t:Ok2 X K P C .Or (b::r) cb):Ok2 X K P C .Or (a::b::r) (.or ca cb) :=
 ⟨λpos=>TE.imp_pe (P1 h.v (t.v pos)) λ_ _ _ q=>aD2 q,λpos=>PW.imp (aB6 h.t (t.w pos)) λ_ _ _ q=>aEc q⟩
theorem Ok2.ok3{op:BoolOp}{vs:List Expr}{c:E}{pos:Pos}(h:Ok2 X K P C op vs c)(n:∀i,c≠.var i):Ok3 X K P C (.BoolOp op vs pos) c:=⟨h.v pos,(h.w pos).pt,r8 (h.v pos) n⟩
theorem YK(xo:bH X K P C Γ){es:List Expr}{cs:List E}{k0:Nat}{pos:Pos}(h:PA X es (AM K P C cs)):Ok3 X K P C (.Tuple es k0 pos) (.tup cs):=by
 refine jJ xo (TE.imp_pe (YT h) λσ H Q q=>?_) (λi z=>nomatch z) (λρ=>rfl) λ_=>rfl
 obtain⟨ρ,G,v,ρ',r,e,k⟩:=q;obtain⟨ds,ρ1,e1,e⟩:=aK e;split at e
 ·rename_i hz;cases e;refine⟨ρ,G,ds,_,r,e1,λxs H1 G1 a1 rx=>⟨by rw[rx.len];exact gF hz,λp hp=>?_⟩⟩;obtain⟨a2,v2⟩:=a1.tup_new hp rx;exact k _ _ _ a2 v2
 ·cases e
theorem X0{q:Bool}(xo:XOkB q X K P C Γ){es:List Expr}{cs:List E}{pos:Pos}(h:PA X es (AM K P C cs)):Ok3 X K P C (.List es pos) (.lst cs):=by
 refine jJ xo (TE.imp_pe (ZU h) λσ H Q q=>?_) (λi z=>nomatch z) (λρ=>rfl) λ_=>rfl
 obtain⟨ρ,G,v,ρ',r,e,k⟩:=q;obtain⟨ds,ρ1,e1,e⟩:=aK e;split at e
 ·rename_i hz;cases e;refine⟨ρ,G,ds,_,r,e1,λxs H1 G1 a1 rx=>⟨by rw[rx.len];exact gF hz,λp hp=>?_⟩⟩;obtain⟨a2,v2⟩:=a1.own_new hp rx;exact k _ _ _ a2 v2
 ·cases e
theorem aB7(xo:bH X K P C Γ){a b:Expr}{ca cb:E}{pos:Pos}(ha:Ok3 X K P C a ca)(hb:Ok3 X K P C b cb)(hs:xK b):Ok3 X K P C (.Subscript a b pos) (.ix ca cb):=by
 refine jJ xo (TE.imp_pe (aCx (aBo xo.keq (by have:=xo.hu;omega)) ha.h hb.v hs) λσ H Q q=>?_) (λi z=>nomatch z) (λρ=>rfl) λ_=>rfl
 obtain⟨ρ,G,v,ρ',r,e,k⟩:=q;obtain⟨hx,ρ1,e1,e⟩:=aK e;obtain⟨w,ρ2,e2,e⟩:=aK e;obtain⟨e3,rfl⟩:=eV e;refine⟨ρ,G,hx,ρ1,r,e1,λx H1 G1 a1 rx=>⟨ρ1,G1,w,ρ',a1.rel,e2,λy H2 G2 a2 ry=>?_⟩⟩
 cases q1:hx.get ρ' with
 |none=>rw[q1] at e3;cases e3
 |some d =>
  rw[q1] at e3;simp only[Option.bind_some] at e3
  cases q2:LX d w.d with
  |none=>rw[q2] at e3;cases e3
  |some d2 =>
   rw[q2] at e3;cases e3;exact⟨G2,d,w.d,d2,a2.rel.sub,(rx.wait a2.ext λa z=>.inl (a2.own a z)).read a2.rel q1,ry.readR,q2,λz hz=>k z H2 G2 (a1.trans a2) hz⟩
noncomputable def tO(K:Frag)(P:aJ)(C:Calls)(c:E):TO:=λσ H Q=>∃(ρ:Env) (G:Hp) (o:Option D) (ρ':Env),Rel K ρ σ H G/\xH c (ev P C false c ρ) ρ=some (.ok o,ρ')/\∃i,lQ o=some i/\∀H' G',Aft K ρ σ H G ρ' H' G'->Q i H'
theorem NS:PO X none (tO K P C .omt):=λpins s σ H Q I ⟨ρ,G,o,ρ',r,e,i,e2,k⟩=>by
 simp only[xH,A5,if_true,Option.some.injEq,Prod.mk.injEq,Out.ok.injEq] at e;obtain⟨rfl,rfl⟩:=e;cases e2;exact S2 pins s σ H Q I (k H G (Aft.refl r))
theorem N6{e:Expr}{c:E}(h:Ok3 X K P C e c):PO X (some e) (tO K P C (CZ c)):=λpins s σ H Q I ⟨ρ,G,o,ρ',r,e1,i,e2,k⟩=>by
 have key:∀c',CZ c=c'->A5 c'=false->(∀ρ,ev P C false c' ρ=ev P C false c ρ\/ev P C false c' ρ=none)->wpAny (model X.prog X.w) X.A (evalPart (some e) X.env) (λu s'=>∃o H',Inv X pins σ H' s'/\IsPart u o/\Q o H') X.xe s:=λc' e0 hno he=>by
  rw[e0] at e1;simp only[xH,hno,Bool.false_eq_true,if_false] at e1;obtain⟨w,ρ1,e3,e4⟩:=aK e1;cases e4;rcases he ρ with he | he
  ·rw[he] at e3;refine UM h.v pins s σ H Q I ⟨ρ,G,w,_,r,e3,λx H1 G1 a1 rx=>?_⟩;cases q:w.d<;>rw[q] at e2<;>simp only[lQ,reduceCtorEq,Option.some.injEq] at e2;subst e2
   have:=rx.readR
   rw[q] at this;exact⟨_,this.int,k H1 G1 a1⟩
  ·rw[he] at e3;cases e3
 cases c with
 |omt=>exact key .bad rfl rfl λρ=>.inr (rfl)
 |_=>exact key _ rfl rfl λρ=>.inl rfl
theorem aCO(xo:bH X K P C Γ){a:Expr}{lo hi:Option Expr}{ca cl ch:E}{pos p2:Pos}(ha:Ok3 X K P C a ca)(hl:PO X lo (tO K P C cl))(hh:PO X hi (tO K P C ch)):Ok3 X K P C (.Subscript a (.Slice lo hi none p2) pos) (.sl ca cl ch):=by
 refine jJ xo (TE.imp_pe (OV (aCJ xo.keq) ha.h hl hh) λσ H Q q=>?_) (λi z=>nomatch z) (λρ=>rfl) λ_=>rfl
 obtain⟨ρ,G,v,ρ',r,e,k⟩:=q;obtain⟨hx,ρ1,e1,e⟩:=aK e;obtain⟨l,ρ2,e2,e⟩:=aK e;obtain⟨h,ρ3,e3,e⟩:=aK e;obtain⟨e4,rfl⟩:=eV e
 cases q1:hx.get ρ' with
 |none=>rw[q1] at e4;cases e4
 |some d =>
  cases q2:lQ l with
  |none=>rw[q1,q2] at e4;cases e4
  |some l' =>
   cases q3:lQ h with
   |none=>rw[q1,q2,q3] at e4;cases e4
   |some h' =>
    rw[q1,q2,q3] at e4;simp only[Option.bind_some] at e4;refine⟨ρ,G,hx,ρ1,r,e1,λx H1 G1 a1 rx=>⟨ρ1,G1,l,ρ2,a1.rel,e2,l',q2,λH2 G2 a2=>⟨ρ2,G2,h,ρ',a2.rel,e3,h',q3,λH3 G3 a3=>?_⟩⟩⟩;have a23:=a2.trans a3;refine⟨G3,d,v,a3.rel.sub,(rx.wait a23.ext λa z=>.inl (a23.own a z)).read a3.rel q1,e4,λz H4 hm=>?_⟩;obtain⟨G4,a4,v4⟩:=(a1.trans a23).made hm;exact k z H4 G4 a4 v4
theorem eP{es:List Expr}(h:es.all aX=true)(env:PySem.Env)(pos:Pos):(backTo pos (starEach es env)).any (·.1)=false/\(backTo pos (starEach es env)).all (λx=>!x.1)=true:=by
 induction es with
 |nil=>exact⟨rfl,rfl⟩
 |cons e es ih =>
  rw[Zj,ZB] at h;rw[bJ h.1];obtain⟨i1,i2⟩:=ih h.2
  unfold backTo at *
  refine⟨?_, ?_⟩
  ·rw[Zs,List.any_cons,i1];rfl
  ·rw[Zs,Zj,i2];rfl
theorem UO(xo:bH X K P C Γ){f:Str}{g:String}{e:Expr}{es:List Expr}{cs:List E}{p pos:Pos}(hf:Γ.glob f=.fn g)(ns:(e::es).all aX=true)(ha:PA X (e::es) (kP K P C cs)):Ok3 X K P C (.Call (.Name f p) (e::es) [] pos) (.call g cs):=by
 obtain⟨h1,h2,h3,h4⟩:=CC.glob_ok xo hf (λz=>nomatch z);obtain⟨fa,fd,ps,k0,F,hr,hm,hk,hb⟩:=(xo.fn f g h2).ex;rw[Zj,ZB] at ns;refine jJ xo (TE.imp_pe (TY F hr h1 hm hk hb .nil AD ha h3 (bJ ns.1 _ _) (eP ns.2 _ _).1) λσ H Q q=>?_) (λi z=>nomatch z) (λρ=>rfl) λ_=>rfl
 obtain⟨ρ,G,v,ρ',r,e,k⟩:=q;obtain⟨hs,ρ1,e1,e⟩:=aK e;refine⟨ρ,G,hs,ρ1,r,e1,λxs H1 G1 a1 rx=>?_⟩;obtain⟨as,G2,as',d1,d2,d3,_,d4⟩:=pW a1 rx e;rw[List.append_nil];refine⟨?_,as,G2,v,as',d1,d2,d3,λx H' G' a hv=>?_⟩
 ·have:=d1.len
  rw[List.length_map] at this;omega
 ·obtain⟨a5,v5⟩:=d4 x H' G' a hv;exact k x H' G' a5 v5
theorem V3{f:Str}{b:BI}(h:HM f=some b):bootBuiltins f=some (biV b):=by
 unfold HM at h
 repeat (split at h;· (rename_i hf;cases h;subst hf;first | exact PySem.boot_len | decide +kernel | rfl))
 cases h
theorem vH(xo:bH X K P C Γ){f:Str}{b:BI}{e:Expr}{es:List Expr}{cs:List E}{p pos:Pos}(hf:Γ.glob f=.blt)(hb:HM f=some b)(ns:(e::es).all aX=true)(ha:PA X (e::es) (kP K P C cs)):Ok3 X K P C (.Call (.Name f p) (e::es) [] pos) (.bif b cs):=by
 obtain⟨h1,h2,h3,h4⟩:=CC.glob_ok xo hf (λz=>nomatch z);have hm:=xo.blt f h2;have hv:=V3 hb;rw[Zj,ZB] at ns
 have hp:PE X (.Call (.Name f p) (e::es) [] pos) (WR (rBi K b) (kP K P C cs)):=by
  have hc:=aBu xo.keq xo.calm xo.hh xo.rm b
  cases b<;>first
   |exact PV hc h1 hm hv ha h4 h3 (bJ ns.1 _ _) (eP ns.2 _ _).1
   |exact qN hc h1 hm hv ha h4 h3 (bJ ns.1 _ _) (eP ns.2 _ _).1
 refine jJ xo (TE.imp_pe hp λσ H Q q=>?_) (λi z=>nomatch z) (λρ=>rfl) λ_=>rfl
 obtain⟨ρ,G,v,ρ',r,e,k⟩:=q;obtain⟨hs,ρ1,e1,e⟩:=aK e;obtain⟨e2,rfl⟩:=eV e;refine⟨ρ,G,hs,ρ',r,e1,λxs H1 G1 a1 rx=>?_⟩
 cases q1:getAll hs ρ' with
 |none=>rw[q1] at e2;cases e2
 |some ds =>
  rw[q1] at e2;refine⟨G1,ds,v,a1.rel.sub,rx.getAll a1.rel q1,e2,λz H' hm=>?_⟩;obtain⟨G2,a2,v2⟩:=a1.made hm;exact k z H' G2 a2 v2
end
section
variable{X:Cx}{K:Frag}{P:aJ}{C:Calls}{Γ:CC}
theorem rV{ρ:Env}{i:Nat}(h:gW ρ i=true):∃ds p l,ρ[i]?=some (.ow (.lst ds) p l):=by
 unfold gW at h;split at h
 ·rename_i d p l e;exact⟨d,p,l,e⟩
 ·cases h
theorem Rel.writeO{ρ:Env}{σ:St}{H G:Hp}(r:Rel K ρ σ H G){i:Nat}{d:D}{p l:Bool}{a:Addr}{d':D}{ob:HO}(h:ρ[i]?=some (.ow d p l))(hx:σ[i]?=some (some (.ref a)))(hr:fJ K (aW H a ob) G a d') :
  Aft K ρ σ H G (ρ.set i (.ow d' p l)) (aW H a ob) G:=by
 obtain⟨b,h1,g,o⟩:=r.ow i d p l h;rw[hx] at h1;cases h1;have hn:H a≠none:=(r.owned ⟨i,d,p,l,h,hx⟩).1
 have r0:Rel K (ρ.set i .un) σ (aW H a ob) G:=by
  have ru:=r.unset i;have nu:=r.unset_not h hx;refine⟨ru.len,λb u e=>?_,ru.sh,λj d' p' l' hj=>?_,ru.inj⟩
  ·have:b≠a:=λz=>by subst z;rw[g] at e;cases e
   rw[aO this];exact ru.sub b u e
  ·obtain⟨b,h3,h4,h5⟩:=ru.ow j d' p' l' hj;have hb:b≠a:=λz=>by subst z;exact nu ⟨j,d',p',l',hj,h3⟩
   exact⟨b,h3,h4,h5.mono (aN.refl _) λ_ z=>by rw[aO hb];exact z⟩
 refine⟨r0.put_ow hx g hr (r.unset_not h hx),⟨aN.refl _,λb u e nb=>?_,λb e=>?_,λb e g' _=>g'⟩,gY.set (by rw[h];exact⟨rfl,rfl⟩)⟩
 ·have:b≠a:=λz=>by subst z;exact nb ⟨i,d,p,l,h,hx⟩
  rw[aO this];exact e
 ·by_cases hb:b=a
  ·subst hb;rw[bB] at e;cases e
  ·rwa[aO hb] at e
theorem Rel.write{ρ:Env}{σ:St}{H G:Hp}(r:Rel K ρ σ H G){i:Nat}{d:D}{p l:Bool}{a:Addr}{ds:List D}{vs:List V}(h:ρ[i]?=some (.ow d p l))(hx:σ[i]?=some (some (.ref a)))(hr:aA K G ds vs) :
  Aft K ρ σ H G (ρ.set i (.ow (.lst ds) p l)) (aW H a (.lst vs)) G:=r.writeO h hx ⟨vs,bB,hr⟩
theorem YQ(xo:bH X K P C Γ){x:Str}{i:Nat}{a:Expr}{ca:E}{p apos cpos:Pos}(hi:Γ.slot x=some i)(hl:(apos.endLine==cpos.line)=true)(ns:aX a=true)(ha:Ok3 X K P C a ca) :
  Ok3 X K P C (.Call (.Attribute (.Name x p) ("append":Str) apos) [a] [] cpos) (.app i ca):=by
 have hp:PE X (.Name x p) (nM i):=CC.slot_ok xo hi;have hpa:PA X [a] (vP (tE K P C ca) xV):=j9 ha.v mP (bJ ns _ _);have hall:[a].all aX=true:=by rw[Zj,ns];rfl
 refine jJ xo (TE.imp_pe (HL PySem.F.plainAttrs_list PySem.F.slot_list_append PySem.F.type_list_append yA hp hpa rfl (by
   rw[ZB,ZB];exact⟨⟨(eP hall _ _).2,rfl⟩,rfl⟩) hl (bJ ns _ _) rfl) λσ H Q q=>?_) (λi z=>nomatch z) (λρ=>rfl) λ_=>rfl
 obtain⟨ρ,G,v,ρ',r,e,k⟩:=q;replace e:(if gW ρ i then _ else none)=_:=e;split at e
 ·rename_i ho;obtain⟨d0,p0,l0,h0⟩:=rV ho;obtain⟨b,hb,g0,o0⟩:=r.ow i _ p0 l0 h0;obtain⟨w,ρ1,e1,e⟩:=aK e;refine⟨.ref b,hb,.inl ⟨rfl, ?_⟩,ρ,G,w,ρ1,r,e1,λy H1 G1 a1 ry=>?_⟩
  ·obtain⟨vs,hv,_⟩:=o0;exact⟨vs,bV.of hv⟩
  ·split at e
   ·rename_i ds p1 h1;split at e
    ·rename_i hz;cases e;obtain⟨G2,a2,r2⟩:=a1.share ry;obtain⟨b',hb',g1,vs,hv,hr⟩:=a2.rel.ow i _ _ _ h1;rw[hb] at hb';cases hb'
     have:=hr.len
     refine⟨b,vs,y,rfl,rfl,hv, ?_, ?_⟩
     ·have:=gF hz
      omega
     ·have a3:=a2.rel.write h1 hb (hr.app (aA.cons r2 aA.nil));exact k _ _ _ (a2.trans a3) (by show aC K G2 .non _;simp[aC])
    ·cases e
   ·cases e
 ·cases e
theorem YL(xo:bH X K P C Γ){x:Str}{i:Nat}{a:Expr}{ca:E}{p apos cpos:Pos}(hi:Γ.slot x=some i)(hl:(apos.endLine==cpos.line)=true)(ns:aX a=true)(ha:Ok3 X K P C a ca) :
  Ok3 X K P C (.Call (.Attribute (.Name x p) ("extend":Str) apos) [a] [] cpos) (.ext i ca):=by
 have hp:PE X (.Name x p) (nM i):=CC.slot_ok xo hi;have hpa:PA X [a] (vP (tE K P C ca) xV):=j9 ha.v mP (bJ ns _ _);have hall:[a].all aX=true:=by rw[Zj,ns];rfl
 refine jJ xo (TE.imp_pe (HL PySem.F.plainAttrs_list PySem.F.slot_list_extend PySem.F.type_list_extend IV hp hpa rfl (by
   rw[ZB,ZB];exact⟨⟨(eP hall _ _).2,rfl⟩,rfl⟩) hl (bJ ns _ _) rfl) λσ H Q q=>?_) (λi z=>nomatch z) (λρ=>rfl) λ_=>rfl
 obtain⟨ρ,G,v,ρ',r,e,k⟩:=q;replace e:(if gW ρ i then _ else none)=_:=e;split at e
 ·rename_i ho;obtain⟨d0,p0,l0,h0⟩:=rV ho;obtain⟨b,hb,g0,o0⟩:=r.ow i _ p0 l0 h0;obtain⟨w,ρ1,e1,e⟩:=aK e;refine⟨.ref b,hb,.inl ⟨rfl, ?_⟩,ρ,G,w,ρ1,r,e1,λy H1 G1 a1 ry=>?_⟩
  ·obtain⟨vs,hv,_⟩:=o0;exact⟨vs,bV.of hv⟩
  ·split at e
   ·rename_i ds p1 es h1;split at e
    ·rename_i hz;cases e;obtain⟨c,rfl,gc,⟨zs,hc,hzr⟩,nown,new⟩:=ry;obtain⟨b',hb',g1,vs,hv,hr⟩:=a1.rel.ow i _ _ _ h1;rw[hb] at hb';cases hb';have l1:=hr.len;have l2:=hzr.len;refine⟨b,c,vs,zs,rfl,rfl,hv,hc, ?_, ?_⟩
     ·have:=gF hz
      omega
     ·exact k _ _ _ (a1.trans (a1.rel.write h1 hb (hr.app hzr))) (by show aC K G1 .non _;simp[aC])
    ·cases e
   ·cases e
 ·cases e
theorem T7(xo:bH X K P C Γ){x:Str}{i:Nat}{a:Expr}{ca:E}{p apos cpos:Pos}(hi:Γ.slot x=some i)(hl:(apos.endLine==cpos.line)=true)(ns:aX a=true)(ha:Ok3 X K P C a ca) :
  Ok3 X K P C (.Call (.Attribute (.Name x p) ("pop":Str) apos) [a] [] cpos) (.popi i ca):=by
 have hp:PE X (.Name x p) (nM i):=CC.slot_ok xo hi;have hpa:PA X [a] (vP (tE K P C ca) xV):=j9 ha.v mP (bJ ns _ _);have hall:[a].all aX=true:=by rw[Zj,ns];rfl
 refine jJ xo (TE.imp_pe (HL PySem.F.plainAttrs_list PySem.F.slot_list_pop PySem.F.type_list_pop OA hp hpa rfl (by
   rw[ZB,ZB];exact⟨⟨(eP hall _ _).2,rfl⟩,rfl⟩) hl (bJ ns _ _) rfl) λσ H Q q=>?_) (λi z=>nomatch z) (λρ=>rfl) λ_=>rfl
 obtain⟨ρ,G,v,ρ',r,e,k⟩:=q;replace e:(if gW ρ i then _ else none)=_:=e;split at e
 ·rename_i ho;obtain⟨d0,p0,l0,h0⟩:=rV ho;obtain⟨b,hb,g0,o0⟩:=r.ow i _ p0 l0 h0;obtain⟨w,ρ1,e1,e⟩:=aK e;refine⟨.ref b,hb,.inl ⟨rfl, ?_⟩,ρ,G,w,ρ1,r,e1,λy H1 G1 a1 ry=>?_⟩
  ·obtain⟨vs,hv,_⟩:=o0;exact⟨vs,bV.of hv⟩
  ·split at e
   ·rename_i _ ds p1 n h1;split at e
    ·rename_i hz
     cases q:ds[n.toNat]? with
     |none=>rw[q] at e;cases e
     |some d =>
      rw[q] at e;cases e;have ry:aC K G1 (.int n) y:=ry;simp only[aC] at ry;subst ry;obtain⟨b',hb',g1,vs,hv,hr⟩:=a1.rel.ow i _ _ _ h1;rw[hb] at hb';cases hb';obtain⟨x,hx,rd⟩:=hr.get q;have hn:n.toNat<vs.length:=(Zc.mp hx).1;refine⟨b,vs,n,n.toNat,x,rfl,rfl,hv,by omega,by omega, ?_,hx, ?_⟩
      ·unfold seqIndex?
       have:¬n<0:=by omega
       have h9:n.toNat<vs.length:=hn;simp only[this,if_false];exact Zo (by rw[ZB,decide_eq_true_eq,decide_eq_true_eq];omega)
      ·have a3:=a1.rel.write h1 hb (ds:=ds.eraseIdx n.toNat) (vs:=vs.eraseIdx n.toNat) (by rw[List.eraseIdx_eq_take_drop_succ,List.eraseIdx_eq_take_drop_succ];exact(hr.take _).app (hr.drop _));exact k _ _ _ (a1.trans a3) rd
    ·cases e
   ·cases e
 ·cases e
theorem EG{H:Hp}{p:Addr}{a b:HO}:aW (aW H p a) p b=aW H p b:=by
 funext q
 by_cases h:q=p
 ·subst h;rw[bB,bB]
 ·rw[aO h,aO h,aO h]
theorem Rel.poke{ρ:Env}{σ:St}{H G:Hp}(r:Rel K ρ σ H G){a:Addr}{o:HO}(g:G a=none)(n:¬aI ρ σ a):Rel K ρ σ (aW H a o) G:=by
 refine⟨r.len,λb u e=>?_,r.sh,λj d' p' l' hj=>?_,r.inj⟩
 ·have:b≠a:=λz=>by subst z;rw[g] at e;cases e
  rw[aO this];exact r.sub b u e
 ·obtain⟨b,h3,h4,h5⟩:=r.ow j d' p' l' hj;have hb:b≠a:=λz=>by subst z;exact n ⟨j,d',p',l',hj,h3⟩
  exact⟨b,h3,h4,h5.mono (aN.refl _) λ_ z=>by rw[aO hb];exact z⟩
theorem FO{b:Expr}(h:∀lo hi p,b≠.Slice lo hi none p):xK b:=λo i=>by
 cases b<;>first
  |rfl
  | (rename_i lo hi st p;cases st with
    |none=>exact absurd rfl (h lo hi p)
    |some s=>rfl)
end
section
variable{X:Cx}{K:Frag}{P:aJ}{C:Calls}{Γ:CC}
theorem NV{e:Expr}{c:List E}:Ok3 X K P C e (.mkrng c):=RO (λt ρ=>rfl) λi z=>nomatch z
theorem tW{G:Hp}{i:Int}:∀l:List Nat,aA K G (l.map λ(n:Nat)=>D.int (i+(n:Int))) (l.map λ(n:Nat)=>V.int (i+(n:Int)))
 |[]=>aA.nil
 |n::l=>aA.cons (by simp[aC]) (tW l)
theorem TU(xo:bH X K P C Γ){a:Expr}{b:List Expr}{cs:List E}{p p2 pos pos2:Pos}(h1:Γ.glob "list"=.blt)(h2:Γ.glob "range"=.blt)(ns:(a::b).all aX=true)(ha:PA X (a::b) (kP K P C cs)) :
  Ok3 X K P C (.Call (.Name "list" p) [.Call (.Name "range" p2) (a::b) [] pos2] [] pos) (.lrng cs):=by
 obtain⟨a1,a2,a3,a4⟩:=CC.glob_ok xo h1 (λz=>nomatch z);obtain⟨b1,b2,b3,b4⟩:=CC.glob_ok xo h2 (λz=>nomatch z);rw[Zj,ZB] at ns;have hrng:=qN JZ b1 (xo.blt _ b2) boot_range ha (pos:=pos2) (p:=p2) b4 b3 (bJ ns.1 _ _) (eP ns.2 _ _).1;have hlst:=qN (K6 xo.calm) a1 (xo.blt _ a2) (by decide +kernel:bootBuiltins "list"=some (.type "list")) (j9 hrng mP rfl) (pos:=pos) (p:=p) a4 a3 rfl rfl;refine jJ xo (TE.imp_pe hlst λσ H Q q=>?_) (λi z=>nomatch z) (λρ=>rfl) λ_=>rfl
 obtain⟨ρ,G,v,ρ',r,e,k⟩:=q;obtain⟨hs,ρ1,e1,e⟩:=aK e;obtain⟨e3,rfl⟩:=eV e;refine⟨ρ,G,hs,ρ',r,e1,λxs H1 G1 a1 rx=>?_⟩
 cases q1:getAll hs ρ' with
 |none=>rw[q1] at e3;cases e3
 |some ds =>
  rw[q1] at e3;simp only[Option.bind_some] at e3;have hd:=rx.getAll a1.rel q1;unfold rY at e3;split at e3
  ·rename_i j;split at e3
   ·rename_i hb;cases e3;obtain⟨x,rfl,rx1⟩:=eI hd;cases rx1.int;refine⟨0,j,.inr ⟨rfl,rfl⟩,λp hp=>⟨p,0,j,rfl,bB,⟨by omega,hb⟩,λq hq=>?_⟩⟩;obtain⟨a5,v5⟩:=(a1.layH (o:=.rng 0 j) hp).own_new hq (tW (K:=K) (G:=G1) (i:=0) (List.range (j-0).toNat));exact k _ _ G1 a5 v5
   ·cases e3
  ·rename_i i j;split at e3
   ·rename_i hb;cases e3;obtain⟨x,y,rfl,rx1,rx2⟩:=aA0 hd;cases rx1.int;cases rx2.int;refine⟨i,j,.inl rfl,λp hp=>⟨p,i,j,rfl,bB,hb,λq hq=>?_⟩⟩;obtain⟨a5,v5⟩:=(a1.layH (o:=.rng i j) hp).own_new hq (tW (K:=K) (G:=G1) (i:=i) (List.range (j-i).toNat));exact k _ _ G1 a5 v5
   ·cases e3
  ·cases e3
theorem vR{G:Hp}{f:Str}:∀{ns:List Str} {ds:List D} {vs:List V} {d:D},aA K G ds vs->(ns.zip ds).lookup f=some d->f∈ns/\∃v,(ns.zip vs).lookup f=some v/\aC K G d v
 |[],_,_,_,_,h=>by simp at h
 |n::ns,[],_,_,_,h=>by simp at h
 |n::ns,d0::ds,vs,d,r,h=>by
  simp only[aA] at r;obtain⟨v,r',rfl,h1,h2⟩:=r;rw[List.zip_cons_cons,List.lookup_cons] at h ⊢
  cases q:(f==n) with
  |true =>
   rw[q] at h;cases h;exact⟨by rw[Zy q];simp,v,rfl,h1⟩
  |false =>
   rw[q] at h;obtain⟨z1,v',z2,z3⟩:=vR h2 h;exact⟨Ze _ z1,v',z2,z3⟩
theorem b9.ins{H G:Hp}{c:Str}{ns:List Str}{ds:List D}{x:V}(h:b9 K H G (.ins c ns ds) x):aC K G (.ins c ns ds) x:=by
 rcases h with h | ⟨a,rfl,h⟩
 ·exact h
 ·exact h.elim
theorem ZE(xo:bH X K P C Γ){x f:Str}{p pos:Pos}:Ok3 X K P C (.Attribute (.Name x p) f pos) (.fld (vI Γ x) f):=by
 have ha:=E4 xo x p;refine jJ xo (TE.imp_pe (XE ha.h rfl) λσ H Q q=>?_) (λi z=>nomatch z) (λρ=>rfl) λ_=>rfl
 obtain⟨ρ,G,v,ρ',r,e,k⟩:=q;obtain⟨hx,ρ1,e1,e⟩:=aK e;obtain⟨e3,rfl⟩:=eV e;refine⟨ρ,G,hx,ρ',r,e1,λx H1 G1 a1 rx=>?_⟩
 cases q1:hx.get ρ' with
 |none=>rw[q1] at e3;cases e3
 |some d =>
  rw[q1] at e3;simp only[Option.bind_some] at e3;cases d<;>simp only[PX,reduceCtorEq,Option.map_none] at e3;rename_i c ns ds
  cases q2:(ns.zip ds).lookup f with
  |none=>rw[q2] at e3;cases e3
  |some d' =>
   rw[q2] at e3;cases e3;have rr:=(rx.read a1.rel q1).ins;simp only[aC] at rr;obtain⟨a,Ca,dx,vs,rfl,h1,h2,h3,h4,h5⟩:=rr;obtain⟨z1,v',z2,z3⟩:=vR h3 q2;have hK:=xo.keq;exact⟨a,Ca,dx,_,v',rfl,a1.rel.sub _ _ h2,by rw[hK];exact h4.cl,by rw[hK];exact h4.no f z1,z2,k v' H1 G1 a1 z3⟩
inductive XDs(K:Frag):List (List Str×List Str)->List Addr->Prop
 |nil:XDs K [] []
 |cons {s n:List Str} {D:Addr} {sn:List (List Str×List Str)} {Ds:List Addr} (hs:∀c∈s,∀C,nsIn K mainGlobals c=some (some (.ref C))->PySem.W.isIn K (.ref C) D=true)
   (hn:∀c∈n,∀C,nsIn K mainGlobals c=some (some (.ref C))->PySem.W.kin_not K C D=true) (t:XDs K sn Ds):XDs K ((s,n)::sn) (D::Ds)
theorem V8(xo:bH X K P C Γ){f:Str}{ns:List Str}{e:Expr}{es:List Expr}{cs:List E}{p pos:Pos}(hf:Γ.glob f=.cls ns)(st:(e::es).all aX=true)(ha:PA X (e::es) (AM K P C cs)):Ok3 X K P C (.Call (.Name f p) (e::es) [] pos) (.make f ns cs):=by
 obtain⟨h1,h2,h3,h4⟩:=CC.glob_ok xo hf (λz=>nomatch z);obtain⟨Ca,fa,fd,ps,hn,hm,M,cf,F,hb⟩:=(xo.cls f ns h2).ex;rw[Zj,ZB] at st;refine jJ xo (TE.imp_pe (UL M F xo.rm h1 hm hb .nil AD ha h3 (bJ st.1 _ _) (eP st.2 _ _).1) λσ H Q q=>?_) (λi z=>nomatch z) (λρ=>rfl) λ_=>rfl
 obtain⟨ρ,G,v,ρ',r,e,k⟩:=q;obtain⟨ds,ρ1,e1,e⟩:=aK e;split at e
 ·rename_i hl;cases e;refine⟨ρ,G,ds,_,r,e1,λxs H1 G1 a1 rx x dx nx ndx ne=>?_⟩;have el:xs.length=ns.length:=rx.len.trans hl;rw[List.append_nil];refine⟨x,Ca,dx,xs,rfl,el,bB,cf,rfl, ?_⟩;rw[EG];have nx':(aW H1 dx (.own x)) x=none:=by rw[aO (Ne.symm ne)];exact nx
  have a2:=(a1.layH (o:=.own x) ndx).layG (o:=.ins Ca dx (ns.zip xs)) nx';refine k (.ref x) _ _ a2 ?_;show aC K _ (.ins f ns ds) _;simp only[aC];exact⟨x,Ca,dx,xs,rfl,hn,bB,aA.mono (aN.laid (aN.free a1.rel.sub nx)) ds rx,cf,el.symm⟩
 ·cases e
theorem lP{α:Type}{f:Str}:∀{ns:List Str} {vs:List α},ns.contains f=false->(ns.zip vs).lookup f=none
 |[],_,_=>by simp
 |n::ns,[],_=>by simp
 |n::ns,v::vs,h=>by(rw[List.contains_cons,Bool.or_eq_false_iff] at h;rw[List.zip_cons_cons,List.lookup_cons,h.1];exact lP h.2)
theorem EA{o:Expr}{m:Str}{es:List Expr}{apos pos:Pos}(st:es.all aX=true)(hln:(apos.endLine==pos.line)=true)(hfw:es.length<29)(env:PySem.Env)(hb:attributeBase o m env (eval o env)=eval o env:=by rfl):eval (.Call (.Attribute o m apos) es [] pos) env=(do
   let ov <- eval o env
   standAt apos.atName
   let (f,first) <- holding [ov] (getMethod ov m (do return (<- importBound o env).getD true))
   callWith pos f first (backTo pos (starEach es env)) (backToKw pos (keywordEach [] env))):=by
 rw[arm_eval_Call]
 have hform:methodCallForm (es.length+([]:List Keyword).length) (backTo pos (starEach es env)) (backToKw pos (keywordEach [] env))=true:=by
  unfold methodCallForm;rw[(eP st env pos).2];simp only[Bool.true_and]
  have:(backToKw pos (keywordEach [] env))=[]:=rfl
  rw[this];simp;omega
 have hpos:methodCallPos true o env apos pos=pure pos:=by unfold methodCallPos;simp[hln]
 unfold methodCall;rw[hform];unfold calleeOf;simp only[if_true,hpos,hb];rfl
theorem UK(xo:bH X K P C Γ){x m:Str}{i:Nat}{tb:List (Str×String)}{es:List Expr}{cs:List E}{p apos pos:Pos}(hi:Γ.slot x=some i)(hm:Γ.gl (rA m)=.mth tb)(st:es.all aX=true)(hln:(apos.endLine==pos.line)=true)(hfw:es.length<29)(ha:PA X es (kP K P C cs))(hz:es=[]->cs=[]):Ok3 X K P C (.Call (.Attribute (.Name x p) m apos) es [] pos) (.meth i m tb cs):=by
 have hp:=CC.slot_ok xo hi (pos:=p);refine jJ xo (λpins s σ H Q I q=>?_) (λi z=>nomatch z) (λρ=>rfl) λ_=>rfl
 obtain⟨ρ,G,v,ρ',r,e,k⟩:=q;replace e:(match ρ[i]? with | some (.sh (.ins c ns ds))=>(match eQ c ns m tb with | some f=>(bZ P C cs ρ).bind λhs ρ1=>dJ (P f) (C f) (.val (.sh (.ins c ns ds))::hs) ρ1 | none=>none) | _=>none)=some (.ok v,ρ'):=e;split at e
 ·rename_i c ns ds hs;split at e
  ·rename_i f hmf;unfold eQ at hmf;split at hmf
   ·cases hmf
   ·rename_i hns;obtain⟨Ca,fa,fd,ps,k0,hn,M,F,hr,hb,hcl⟩:=(xo.mth m tb c f hm hmf).ex;obtain⟨x0,hx0,rx0⟩:=r.sh i _ hs;have rx1:=rx0;simp only[aC] at rx0;obtain⟨a,Cb,dx,vs,rfl,h1,h2,h3,h4,h5⟩:=rx0;rw[hn] at h1;cases h1;obtain⟨hd0,ρ1,e1,e⟩:=aK e;have hK:=xo.keq;have clX:Cls X.K Ca:=by rw[hK];exact h4.cl
    have main:∀t:TA,(∀σ H Q,kP K P C cs σ H Q->t σ H Q)->F7 Ca m (JK K (P f).length (C f)) [] (λ_ _ _=>False) (nM i) t σ H Q:=λt ht=>by
     refine⟨.ref a,hx0,a,dx,_,rfl,r.sub _ _ h2,lP (by simpa using hns),ht _ _ _ ⟨ρ,G,hd0,ρ1,r,e1,λxs H1 G1 a1 rx=>?_⟩⟩;have rx':cX K H1 G1 (aI ρ1 σ) (dC H) σ (.val (.sh (.ins c ns ds))::hd0) (.ref a::xs):=⟨.ref a,xs,rfl,aC.mono a1.ext.gg _ rx1,rx,λd b z=>by cases z⟩
     obtain⟨as,G2,as',d1,d2,d3,_,d4⟩:=pW a1 rx' e;dsimp only;rw[List.append_nil];refine⟨?_,as,G2,v,as',d1,d2,d3,λx H' G' a hv=>?_⟩
     ·have:=d1.len
      rw[List.length_map] at this;omega
     ·obtain⟨a5,v5⟩:=d4 x H' G' a hv;exact k x H' G' a5 v5
    cases es with
    |nil =>
     cases hz rfl;refine OZ hp clX M F hr hb .nil AD (EA st hln hfw _) pins s σ H Q I (main _ λσ' H' Q' z=>?_);obtain⟨ρ2,G2,hs2,ρ3,r2,e2,k2⟩:=z;rw[bZ] at e2;cases e2;exact k2 [] H' G2 (Aft.refl r2) rfl
    |cons e0 es0 =>
     have st0:=st;rw[Zj,ZB] at st;exact SK hp clX M F hr hb .nil AD ha (bJ st.1 _ _) (eP st.2 _ _).1 (EA st0 hln hfw _) pins s σ H Q I (main _ λ_ _ _ z=>z)
  ·cases e
 ·cases e
end
structure AftS(K:Frag)(ρ:Env)(σ:St)(H G:Hp)(ρ':Env)(σ':St)(H' G':Hp):Prop where
 rel:Rel K ρ' σ' H' G'
 ext:Ext (aI ρ σ) H G H' G'
 own:∀a,aI ρ' σ' a->aI ρ σ a\/H a=none
 un:∀i:Nat,ρ'[i]?=some .un->ρ[i]?=some .un/\σ'[i]?=σ[i]?
 pin:∀(i:Nat) d l,ρ[i]?=some (.ow d true l)->σ'[i]?=σ[i]?/\∃d',ρ'[i]?=some (.ow d' true l)
 len:ρ'.length=ρ.length
section
variable{K:Frag}{ρ ρ' ρ1 ρ2:Env}{σ σ' σ1 σ2:St}{H G H' G' H1 G1 H2 G2:Hp}
theorem AftS.refl(r:Rel K ρ σ H G):AftS K ρ σ H G ρ σ H G:=⟨r,Ext.refl,λ_ h=>.inl h,λ_ h=>⟨h,rfl⟩,λ_ d _ h=>⟨rfl,d,h⟩,rfl⟩
theorem Aft.s(r:Rel K ρ σ H G)(a:Aft K ρ σ H G ρ' H' G'):AftS K ρ σ H G ρ' σ H' G':=by
 refine⟨a.rel,a.ext,λx h=>.inl (a.own x h),λi h=>⟨?_,rfl⟩,λi d l h=>⟨rfl, ?_⟩, ?_⟩
 ·have:=a.evo i
  rw[h] at this
  cases e:ρ[i]? with
  |none=>rw[e] at this;exact this.elim
  |some s=>rw[e] at this;cases s<;>first | rfl | exact this.elim
 ·have:=a.evo i
  rw[h] at this
  cases e:ρ'[i]? with
  |none=>rw[e] at this;exact this.elim
  |some s =>
   rw[e] at this
   cases s with
   |ow d' p' l'=>obtain⟨rfl,rfl⟩:=this;exact⟨d',rfl⟩
   |sh d'=>exact absurd (show true=false from this) (by simp)
   |_=>exact this.elim
 ·rw[a.rel.len,r.len]
theorem AftS.trans(a:AftS K ρ σ H G ρ1 σ1 H1 G1)(b:AftS K ρ1 σ1 H1 G1 ρ2 σ2 H2 G2):AftS K ρ σ H G ρ2 σ2 H2 G2:=by
 refine⟨b.rel,a.ext.trans a.own b.ext,λx h=>?_,λi h=>?_,λi d l h=>?_,b.len.trans a.len⟩
 ·rcases b.own x h with z | z
  ·exact a.own x z
  ·exact .inr (a.ext.hx x z)
 ·obtain⟨h1,h2⟩:=b.un i h;obtain⟨h3,h4⟩:=a.un i h1;exact⟨h3,h2.trans h4⟩
 ·obtain⟨h1,d',h2⟩:=a.pin i d l h;obtain⟨h3,h4⟩:=b.pin i d' l h2;exact⟨h3.trans h1,h4⟩
def fD(K:Frag)(ρ:Env)(σ:St)(H G:Hp)(ρ':Env)(D:Ends):Fl->Prop
 |.nx=>∀σ' H' G',AftS K ρ σ H G ρ' σ' H' G'->D.nx σ' H'
 |.bk=>∀σ' H' G',AftS K ρ σ H G ρ' σ' H' G'->D.bk σ' H'
 |.ct=>∀σ' H' G',AftS K ρ σ H G ρ' σ' H' G'->D.ct σ' H'
 |.rt v=>∀x σ' H' G',AftS K ρ σ H G ρ' σ' H' G'->b8 K H' G' (aI ρ' σ') (λa=>aI ρ σ a\/H a=none) v x->D.rt x H'
 |.ex _=>False
theorem fD.pre{D:Ends}{fl:Fl}(a:AftS K ρ σ H G ρ1 σ1 H1 G1)(h:fD K ρ σ H G ρ' D fl):fD K ρ1 σ1 H1 G1 ρ' D fl:=by
 cases fl with
 |nx=>exact λσ' H' G' b=>h σ' H' G' (a.trans b)
 |bk=>exact λσ' H' G' b=>h σ' H' G' (a.trans b)
 |ct=>exact λσ' H' G' b=>h σ' H' G' (a.trans b)
 |rt v=>exact λx σ' H' G' b hv=>h x σ' H' G' (a.trans b) (hv.new_mono λc z=>by
   rcases z with z | z
   ·exact a.own c z
   ·exact .inr (a.ext.hx c z))
 |ex e=>exact h
end
noncomputable def tS(K:Frag)(P:aJ)(C:Calls)(W:Nat)(c:S):TS:=λD σ H=>∃(ρ:Env) (G:Hp) (fl:Fl) (ρ':Env),Rel K ρ σ H G/\ex P C W c ρ=some (fl,ρ')/\fD K ρ σ H G ρ' D fl
noncomputable def pD(K:Frag)(P:aJ)(C:Calls)(W:Nat)(c:List S):TS:=λD σ H=>∃(ρ:Env) (G:Hp) (fl:Fl) (ρ':Env),Rel K ρ σ H G/\exs P C W c ρ=some (fl,ρ')/\fD K ρ σ H G ρ' D fl
theorem TS.imp_ps{X:Cx}{e:Stmt}{t u:TS}(h:PS X e t)(w:∀D σ H,u D σ H->t D σ H):PS X e u:=λpins s σ H D I q=>h pins s σ H D I (w D σ H q)
theorem TS.imp_pss{X:Cx}{e:List Stmt}{t u:TS}(h:f6 X e t)(w:∀D σ H,u D σ H->t D σ H):f6 X e u:=λpins s σ H D I q=>h pins s σ H D I (w D σ H q)
section
variable{X:Cx}{K:Frag}{P:aJ}{C:Calls}{W:Nat}{Γ:CC}
theorem gO{α:Type}{r:aM α}{f:α->Env->bS}{fl:Fl}{ρ:Env}(h:r.flow f=some (fl,ρ))(n:∀e,fl≠.ex e):∃a ρ1,r=some (.ok a,ρ1)/\f a ρ1=some (fl,ρ):=by
 unfold aM.flow at h;split at h
 ·cases h
 ·cases h;exact absurd rfl (n _)
 ·exact⟨_,_,rfl,h⟩
theorem fD.ne{ρ ρ':Env}{σ:St}{H G:Hp}{D:Ends}{fl:Fl}(h:fD K ρ σ H G ρ' D fl):∀e,fl≠.ex e:=λe z=>by subst z;exact h
theorem MJ:f6 X [] (pD K P C W []):=TS.imp_pss EI λD σ H ⟨ρ,G,fl,ρ',r,e,k⟩=>by
 simp only[exs,Option.some.injEq,Prod.mk.injEq] at e;obtain⟨rfl,rfl⟩:=e;exact k σ H G (AftS.refl r)
theorem JA{st:Stmt}{fT:List Stmt}{c:S}{cs:List S}(h1:PS X st (tS K P C W c))(h2:f6 X fT (pD K P C W cs)):f6 X (st::fT) (pD K P C W (c::cs)):=by
 refine TS.imp_pss (CW h1 h2) λD σ H ⟨ρ,G,fl,ρ',r,e,k⟩=>?_
 rw[exs] at e
 cases q:ex P C W c ρ with
 |none=>rw[q] at e;cases e
 |some y =>
  obtain⟨fl1,ρ1⟩:=y;rw[q] at e;refine⟨ρ,G,fl1,ρ1,r,q, ?_⟩
  cases fl1 with
  |nx=>exact λσ1 H1 G1 a1=>⟨ρ1,G1,fl,ρ',a1.rel,e,k.pre a1⟩
  |bk=>cases e;exact k
  |ct=>cases e;exact k
  |rt v=>cases e;exact k
  |ex x=>cases e;exact k
theorem Rel.storeR{ρ ρ':Env}{σ:St}{H G:Hp}{new:Addr->Prop}{i:Nat}{v:RV}{x:V}(r:Rel K ρ σ H G)(e:store i v ρ=some ρ')(h:b8 K H G (aI ρ σ) new v x) :
  Rel K ρ' (σ.set i (some x)) H G/\(∀a,aI ρ' (σ.set i (some x)) a->aI ρ σ a\/new a)/\(∀j:Nat,ρ'[j]?=some .un->ρ[j]?=some .un/\(σ.set i (some x))[j]?=σ[j]?) /\
  (∀(j:Nat) d l,ρ[j]?=some (.ow d true l)->(σ.set i (some x))[j]?=σ[j]?/\∃d',ρ'[j]?=some (.ow d' true l))/\ρ'.length=ρ.length:=by
 have key:∃sl,i<ρ.length/\ρ'=ρ.set i sl/\(∀d l,ρ[i]?≠some (.ow d true l))/\((∃d,v=.sh d/\sl=.sh d)\/∃d,v=.ow d/\sl=.ow d false false):=by
  unfold store at e;split at e
  ·cases e
  ·cases e
  ·cases e
  ·rename_i s h1 h2 h3;have hnp:∀d l,ρ[i]?≠some (.ow d true l):=λd l z=>by rw[h3] at z;cases z;exact h1 _ _ rfl
   have hlt:=(Zc.mp h3).1
   cases v with
   |sh d=>cases e;exact⟨_,hlt,rfl,hnp,.inl ⟨d,rfl,rfl⟩⟩
   |ow d=>cases e;exact⟨_,hlt,rfl,hnp,.inr ⟨d,rfl,rfl⟩⟩
   |od d=>cases e
 obtain⟨sl,hi,rfl,np,hs⟩:=key;have his:i<σ.length:=by rw[<- r.len];exact hi
 have hx:(σ.set i (some x))[i]?=some (some x):=zk his;have ne:∀j:Nat,j≠i->(σ.set i (some x))[j]?=σ[j]?:=λj h=>Zf (λz=>h z.symm)
 have oth:∀(j:Nat) s,(ρ.set i sl)[j]?=some s->(j=i/\s=sl)\/(j≠i/\ρ[j]?=some s):=λj s h=>by
  rcases cJ h with ⟨h1,h2,_⟩ | h
  ·exact .inl ⟨h1,h2⟩
  ·exact .inr h
 refine⟨⟨by rw[zg,zg];exact r.len,r.sub,λj d h1=>?_,λj d p l h1=>?_,λj k d p l d' p' l' a h1 h2 h3 h4=>?_⟩,λa ⟨j,d,p,l,h1,h2⟩=>?_,λj h1=>?_,λj d l h1=>?_,by rw[zg]⟩
 ·rcases oth j _ h1 with ⟨rfl,z⟩ | ⟨nj,z⟩
  ·rcases hs with ⟨d0,rfl,rfl⟩ | ⟨d0,rfl,rfl⟩
   ·cases z;exact⟨x,hx,h⟩
   ·cases z
  ·rw[ne j nj];exact r.sh j d z
 ·rcases oth j _ h1 with ⟨rfl,z⟩ | ⟨nj,z⟩
  ·rcases hs with ⟨d0,rfl,rfl⟩ | ⟨d0,rfl,rfl⟩
   ·cases z
   ·cases z;obtain⟨a,rfl,g,o,_,_⟩:=h;exact⟨a,hx,g,o⟩
  ·rw[ne j nj];exact r.ow j d p l z
 ·rcases oth j _ h1 with ⟨rfl,z⟩ | ⟨nj,z⟩
  ·rcases oth k _ h2 with ⟨rfl,z'⟩ | ⟨nk,z'⟩
   ·rfl
   ·rcases hs with ⟨d0,rfl,rfl⟩ | ⟨d0,rfl,rfl⟩
    ·cases z
    ·obtain⟨b,rfl,g,o,no,_⟩:=h;rw[hx] at h3;cases h3;rw[ne k nk] at h4;exact absurd ⟨k,_,_,_,z',h4⟩ no
  ·rcases oth k _ h2 with ⟨rfl,z'⟩ | ⟨nk,z'⟩
   ·rcases hs with ⟨d0,rfl,rfl⟩ | ⟨d0,rfl,rfl⟩
    ·cases z'
    ·obtain⟨b,rfl,g,o,no,_⟩:=h;rw[hx] at h4;cases h4;rw[ne j nj] at h3;exact absurd ⟨j,_,_,_,z,h3⟩ no
   ·rw[ne j nj] at h3;rw[ne k nk] at h4;exact r.inj _ _ _ _ _ _ _ _ _ z z' h3 h4
 ·rcases oth j _ h1 with ⟨rfl,z⟩ | ⟨nj,z⟩
  ·rcases hs with ⟨d0,rfl,rfl⟩ | ⟨d0,rfl,rfl⟩
   ·cases z
   ·obtain⟨b,rfl,g,o,no,m⟩:=h;rw[hx] at h2;cases h2;exact .inr m
  ·rw[ne j nj] at h2;exact .inl ⟨j,d,p,l,z,h2⟩
 ·rcases oth j _ h1 with ⟨rfl,z⟩ | ⟨nj,z⟩
  ·rcases hs with ⟨d0,rfl,rfl⟩ | ⟨d0,rfl,rfl⟩<;>cases z
  ·exact⟨z,ne j nj⟩
 ·by_cases hj:j=i
  ·subst hj;exact absurd h1 (np d l)
  ·exact⟨ne j hj,d,by rw[Zf (λz=>hj z.symm)];exact h1⟩
theorem Aft.store{ρ ρ1 ρ':Env}{σ:St}{H G H1 G1:Hp}{i:Nat}{v:RV}{x:V}(r:Rel K ρ σ H G)(a:Aft K ρ σ H G ρ1 H1 G1)(e:store i v ρ1=some ρ')(h:b8 K H1 G1 (aI ρ1 σ) (dC H) v x):AftS K ρ σ H G ρ' (σ.set i (some x)) H1 G1:=by
 obtain⟨h1,h2,h3,h4,h5⟩:=a.rel.storeR e h;have s:=Aft.s r a;refine⟨h1,a.ext,λb z=>?_,λj z=>?_,λj d l z=>?_,h5.trans s.len⟩
 ·rcases h2 b z with z | z
  ·exact s.own b z
  ·exact .inr z
 ·obtain⟨z1,z2⟩:=h3 j z;obtain⟨z3,z4⟩:=s.un j z1;exact⟨z3,z2⟩
 ·obtain⟨_,d',z2⟩:=s.pin j d l z;exact h4 j d' l z2
theorem Rel.store1{ρ ρ':Env}{σ:St}{H G:Hp}{i:Nat}{d:D}{x:V}(r:Rel K ρ σ H G)(e:store i (.sh d) ρ=some ρ')(h:aC K G d x):AftS K ρ σ H G ρ' (σ.set i (some x)) H G :=
 Aft.store r (Aft.refl r) e h
noncomputable def gB(K:Frag)(one:Bool)(is:List Nat):TG:=λv σ H Q=>∃(ρ:Env) (G:Hp) (d:D) (ρ':Env),Rel K ρ σ H G/\aC K G d v/\aY one is d ρ=some ρ'/\∀σ',AftS K ρ σ H G ρ' σ' H G->Q σ' H
noncomputable def J8(K:Frag)(is:List Nat):yO:=λvs σ H Q=>∃(ρ:Env) (G:Hp) (ds:List D) (ρ':Env),Rel K ρ σ H G/\aA K G ds vs/\dN is ds ρ=some ρ'/\∀σ',AftS K ρ σ H G ρ' σ' H G->Q σ' H
theorem Z6{tg:Expr}{i:Nat}(h:PG X tg (r9 i)):PG X tg (gB K true [i]):=λpins s σ H v u Q I rv ⟨ρ,G,d,ρ',r,hd,e,k⟩ =>
 h pins s σ H v u Q I rv (k _ (r.store1 (by simpa only[aY] using e) hd))
theorem NB:vU X [] (J8 K []):=λpins s σ H vs us Q I rv ⟨ρ,G,ds,ρ',r,hd,e,k⟩=>by
 cases ds with
 |nil =>
  simp only[dN,Option.some.injEq] at e;subst e;simp only[aA] at hd;subst hd;exact VY pins s σ H [] us Q I rv ⟨rfl,k σ (AftS.refl r)⟩
 |cons d ds=>simp[dN] at e
theorem LJ{e:Expr}{es:List Expr}{i:Nat}{is:List Nat}(h:PG X e (r9 i))(t:vU X es (J8 K is))(hs:(assignEach (e::es) X.env).map (·.2)=assign e X.env::(assignEach es X.env).map (·.2)):vU X (e::es) (J8 K (i::is)) :=
 λpins s σ H vs us Q I rv ⟨ρ,G,ds,ρ',r,hd,e,k⟩=>by
  cases ds with
  |nil=>simp[dN] at e
  |cons d ds =>
   simp only[dN] at e
   cases q:store i (.sh d) ρ with
   |none=>rw[q] at e;cases e
   |some ρ1 =>
    rw[q] at e;simp only[aA] at hd;obtain⟨v,r',rfl,h1,h2⟩:=hd;have a1:=r.store1 q h1;exact N3 h t hs pins s σ H (v::r') us Q I rv ⟨v,r',rfl,ρ1,G,ds,ρ',a1.rel,h2,e,λσ' a2=>k σ' (a1.trans a2)⟩
theorem u9:∀{is:List Nat} {ds:List D} {ρ ρ':Env},dN is ds ρ=some ρ'->ds.length=is.length
 |[],[],_,_,_=>rfl
 |[],_::_,_,_,e=>by simp[dN] at e
 |_::_,[],_,_,e=>by simp[dN] at e
 |i::is,d::ds,ρ,ρ',e=>by
  simp only[dN] at e
  cases q:store i (.sh d) ρ with
  |none=>rw[q] at e;cases e
  |some ρ1=>rw[q] at e;simp[u9 e]
theorem EE(xo:bH X K P C Γ){es:List Expr}{k0:Nat}{pos:Pos}{is:List Nat}(t:vU X es (J8 K is))(hn:(assignEach es X.env).length=is.length)(hst:(assignEach es X.env).findIdx? (·.1)=none):PG X (.Tuple es k0 pos) (gB K false is) :=
 λpins s σ H v u Q I rv ⟨ρ,G,d,ρ',r,hd,e,k⟩=>by
  cases d with
  |tup ds =>
   simp only[aY] at e;simp only[aC] at hd;obtain⟨a,vs,rfl,h1,h2⟩:=hd;refine W5 xo.calm t hn hst pins s σ H (.ref a) u Q I rv ⟨a,vs,rfl, ?_, ?_,ρ,G,ds,ρ',r,h2,e,k⟩
   ·rw[xo.keq];exact cZ r.sub h1
   ·rw[h2.len];exact u9 e
  |_=>simp only[aY,reduceCtorEq] at e
end
mutual
noncomputable def XS(x:Str):Stmt->Bool
 |.For _ it body _ _=>(K7 it==some x)||rH x body
 |.If _ a b _=>rH x a||rH x b
 |_=>false
noncomputable def rH(x:Str):List Stmt->Bool
 |[]=>false
 |s::r=>XS x s||rH x r
end
def Q7(Γ:CC)(it:Expr)(body:List Stmt)(cs:List E):List E:=cs
noncomputable def O5(Γ:CC):Expr->S
 |.Call (.Name x _) args [] _=>if args.all aX&&(decide (args≠[])&&decide (args.length<=100)) then(match Γ.glob x with | .exc=>.rse x (cA Γ args) | _=>.bad) else .bad
 |_=>.bad
noncomputable def LA:List ExceptHandler->Option (Str×Str×List Stmt)
 |[.ExceptHandler (some c) (some n) body _]=>(K7 c).map λx=>(x,n,body)
 |_=>none
def Q8(cb:List S)(hs:List ExceptHandler)(o f:List Stmt):S:=.bad
def aEy(Γ:CC)(cb:List S)(hs:List ExceptHandler)(o f:List Stmt):S:=Q8 cb hs o f
def aDA(e:Expr)(c:E):S:=.ret c
def aB1(Γ:CC)(s:Stmt)(r:List Stmt):Option (Nat×Nat×E×E):=none
noncomputable def aDx(o:Option (Nat×Nat×E×E))(c:S)(cs:List S):List S :=
 match o with
 |none=>c::cs
 |some (i,j,ce,cc)=>.scr i j ce cc::cs.drop 3
mutual
noncomputable def cS(Γ:CC):Stmt->S
 |.Pass _=>.pass
 |.Break _=>.brk
 |.Continue _=>.cnt
 |.Return (some e) _=>aDA e (cE Γ e)
 |.Return none _=>.retN
 |.Expr e _=>if cU e then .expr (cE Γ e) else .bad
 |.If c a b _=>.ifs (cE Γ c) (qU Γ a) (qU Γ b)
 |.While c body [] _=>.bad
 |.For tg it body [] _=>match jN Γ tg,qZ Γ it with
  |some (one,is),some (k,its)=>if jV k one then .for is one k (Q7 Γ it body (cA Γ its)) (qU Γ body) else .bad
  |_,_=>.bad
 |.Assign [.Name x _] e _=>match Γ.slotL x with
  |some i=>if cU e||HI e then .asg i (cE Γ e) else .bad
  |none=>.bad
 |.Assign [.Tuple ts _ _] e _=>match gL Γ ts with
  |some is=>if cU e&&vM e then .asgT is (cE Γ e) else .bad
  |none=>.bad
 |.Assign [.Subscript (.Name x _) k _] e _=>match Γ.slot x with
  |some i=>if cU e&&A7 k then .set i (cE Γ k) (cE Γ e) else .bad
  |none=>.bad
 |.AugAssign (.Name x _) .Add e _=>(match Γ.slotL x with
  |some i=>if cU e then .bad else .bad
  |none=>.bad)
 |.Raise (some e) none _=>O5 Γ e
 |.Try body hs o f _=>aEy Γ (qU Γ body) hs o f
 |_=>.bad
noncomputable def qU(Γ:CC):List Stmt->List S
 |[]=>[]
 |s::r=>aDx (aB1 Γ s r) (cS Γ s) (qU Γ r)
end
section
variable{X:Cx}{K:Frag}{P:aJ}{C:Calls}{W:Nat}{Γ:CC}
theorem CD{e:Expr}(h:cU e=true)(t:Option Expr)(line:Nat)(env:PySem.Env):swapsWith e t line env=pure false:=by
 cases e<;>first | rfl | cases h
theorem kQ{e:Expr}(h:cU e=true)(t:Expr)(line:Nat)(env:PySem.Env):swapsWithSole [t] e line env=pure false:=CD h _ _ _
theorem D3{st:Stmt}{c:S}(h:∀ρ,ex P C W c ρ=none):PS X st (tS K P C W c):=λpins s σ H D I ⟨ρ,G,fl,ρ',r,e,k⟩=>by rw[h] at e;cases e
theorem bK{st:Stmt}:PS X st (tS K P C W .bad):=D3 λρ=>rfl
theorem MY{pos:Pos}:PS X (.Pass pos) (tS K P C W .pass):=TS.imp_ps VI λD σ H ⟨ρ,G,fl,ρ',r,e,k⟩=>by
 cases e;exact k σ H G (AftS.refl r)
theorem R7{pos:Pos}:PS X (.Break pos) (tS K P C W .brk):=TS.imp_ps PJ λD σ H ⟨ρ,G,fl,ρ',r,e,k⟩=>by
 cases e;exact k σ H G (AftS.refl r)
theorem UE{pos:Pos}:PS X (.Continue pos) (tS K P C W .cnt):=TS.imp_ps DO λD σ H ⟨ρ,G,fl,ρ',r,e,k⟩=>by
 cases e;exact k σ H G (AftS.refl r)
theorem NZ{e:Expr}{c:E}{pos:Pos}(h:Ok3 X K P C e c)(n:cU e=true):PS X (.Expr e pos) (tS K P C W (.expr c)):=by
 refine TS.imp_ps (T8 h.v (CD n _ _ _)) λD σ H ⟨ρ,G,fl,ρ',r,e,k⟩=>?_
 obtain⟨v,ρ1,e1,e2⟩:=gO e k.ne;cases e2;exact⟨ρ,G,v,_,r,e1,λx H' G' a hv=>k σ H' G' (Aft.s r a)⟩
theorem N8{pos:Pos}:PS X (.Return none pos) (tS K P C W .retN):=TS.imp_ps UT λD σ H ⟨ρ,G,fl,ρ',r,e,k⟩=>by
 cases e;exact k .non σ H G (AftS.refl r) (by show aC K G .non _;simp[aC])
theorem Rel.give{ρ:Env}{σ:St}{H G:Hp}(r:Rel K ρ σ H G){i:Nat}{d:D}{l:Bool}{a:Addr}(h:ρ[i]?=some (.ow d false l))(hx:σ[i]?=some (some (.ref a))) :
  AftS K ρ σ H G (ρ.set i .mv) σ H G/\b8 K H G (aI (ρ.set i .mv) σ) (λa=>aI ρ σ a\/H a=none) (.ow d) (.ref a):=by
 have key:∀(j:Nat) (sl:Sl),(ρ.set i .mv)[j]?=some sl->(j=i/\sl=.mv)\/(j≠i/\ρ[j]?=some sl):=λj sl z=>by
  rcases cJ z with ⟨e,z,_⟩ | z
  ·exact .inl ⟨e,z⟩
  ·exact .inr z
 obtain⟨b,h1,g,o⟩:=r.ow i d false l h;rw[hx] at h1;cases h1
 have own':∀c,aI (ρ.set i .mv) σ c->aI ρ σ c/\c≠a:=λc ⟨j,d',p',l',z,w⟩=>by
  rcases key j _ z with ⟨_,q⟩ | ⟨nj,q⟩
  ·cases q
  ·refine⟨⟨j,d',p',l',q,w⟩,λz=>?_⟩;subst z;exact nj (r.inj _ _ _ _ _ _ _ _ _ q h w hx)
 refine⟨⟨⟨by rw[zg];exact r.len,r.sub,λj d' z=>?_,λj d' p' l' z=>?_,λj k d1 p1 l1 d2 p2 l2 c z1 z2 z3 z4=>?_⟩,Ext.refl,λc z=>.inl (own' c z).1,λj z=>?_,λj d' l' z=>⟨rfl,d', ?_⟩,by rw[zg]⟩,a,rfl,g,o,λz=>(own' a z).2 rfl,.inl ⟨i,d,false,l,h,hx⟩⟩
 ·rcases key j _ z with ⟨_,q⟩ | ⟨nj,q⟩
  ·cases q
  ·exact r.sh j d' q
 ·rcases key j _ z with ⟨_,q⟩ | ⟨nj,q⟩
  ·cases q
  ·exact r.ow j d' p' l' q
 ·rcases key j _ z1 with ⟨_,q⟩ | ⟨nj,q⟩
  ·cases q
  ·rcases key k _ z2 with ⟨_,q'⟩ | ⟨nk,q'⟩
   ·cases q'
   ·exact r.inj _ _ _ _ _ _ _ _ _ q q' z3 z4
 ·rcases key j _ z with ⟨_,q⟩ | ⟨nj,q⟩
  ·cases q
  ·exact⟨q,rfl⟩
 ·have nj:j≠i:=λw=>by subst w;rw[h] at z;cases z
  rw[Zf (λw=>nj w.symm)];exact z
theorem SU{e:Expr}{c:E}{pos:Pos}(h:Ok3 X K P C e c):PS X (.Return (some e) pos) (tS K P C W (.ret c)):=by
 by_cases hv:∃i,c=.var i
 ·obtain⟨i,rfl⟩:=hv;refine TS.imp_ps (KP h.h) λD σ H ⟨ρ,G,fl,ρ',r,e,k⟩=>?_
  replace e:(match ρ[i]? with | some (.ow d false _)=>some (.rt (.ow d),ρ.set i .mv) | some (.sh d)=>some (.rt (.sh d),ρ) | _=>none)=some (fl,ρ'):=e;split at e
  ·rename_i d l hd;cases e;obtain⟨a,h1,g,o⟩:=r.ow i d false l hd;refine⟨ρ,G,.slot i,ρ,r,by simp[hd,hd,Sl.get,CI.hd],λx H' G' a1 hx=>?_⟩;obtain⟨a',h1',g',o'⟩:=a1.rel.ow i d false l hd;have hx:σ[i]?=some (some x):=hx;rw[hx] at h1';cases h1';obtain⟨s1,v1⟩:=a1.rel.give hd hx;exact(k.pre (Aft.s r a1)) _ σ H' G' s1 v1
  ·rename_i d hd;cases e;obtain⟨v,h1,h2⟩:=r.sh i d hd;refine⟨ρ,G,.slot i,ρ,r,by simp[hd,Sl.get,CI.hd],λx H' G' a1 hx=>?_⟩;obtain⟨v',h1',h2'⟩:=a1.rel.sh i d hd;have hx:σ[i]?=some (some x):=hx;rw[hx] at h1';cases h1';exact k x σ H' G' (Aft.s r a1) h2'
  ·cases e
 ·refine TS.imp_ps (KP h.v) λD σ H ⟨ρ,G,fl,ρ',r,e,k⟩=>?_
  have e':(ev P C false c ρ).flow (λv ρ1=>some (.rt v,ρ1))=some (fl,ρ'):=by
   cases c<;>first | exact absurd ⟨_,rfl⟩ hv | exact e
  obtain⟨v,ρ1,e1,e2⟩:=gO e' k.ne;cases e2;exact⟨ρ,G,v,_,r,e1,λx H' G' a hv=>k x σ H' G' (Aft.s r a) (hv.new_mono λa z=>.inr z)⟩
theorem W8{c:Expr}{a b:List Stmt}{cc:E}{ca cb:List S}{pos:Pos}(hc:Ok3 X K P C c cc)(ha:f6 X a (pD K P C W ca))(hb:f6 X b (pD K P C W cb)):PS X (.If c a b pos) (tS K P C W (.ifs cc ca cb)):=by
 refine TS.imp_ps (aCw hc.t ha hb) λD σ H ⟨ρ,G,fl,ρ',r,e,k⟩=>?_
 obtain⟨v,ρ1,e1,e2⟩:=gO e k.ne;split at e2
 ·refine⟨ρ,G,true,ρ1,r,e1,λH1 G1 a1=>?_⟩;refine AY ?_;exact⟨ρ1,G1,fl,ρ',a1.rel,e2,k.pre (Aft.s r a1)⟩
 ·refine⟨ρ,G,false,ρ1,r,e1,λH1 G1 a1=>?_⟩;refine CT ?_;exact⟨ρ1,G1,fl,ρ',a1.rel,e2,k.pre (Aft.s r a1)⟩
 ·cases e2
theorem tV{qq:Bool}(xo:XOkB qq X K P C Γ)(hfn:∀x,Γ.isLoc x=true->X.fn x=true\/X.env.scope.names.lookup x=some .local){x:Str}{i:Nat}(h:Γ.slotL x=some i){pos:Pos}:PG X (.Name x pos) (r9 i):=by
 unfold CC.slotL at h;split at h
 ·rename_i hl
  have hN:X.N[i]?=some x:=by
   unfold CC.slot at h;split at h
   ·cases h
   ·split at h
    ·rw[xo.neq];exact lN h
    ·cases h
  refine D4 (by rw[xo.neq];exact xo.nd) hN ?_ (hfn x hl);unfold L2.yX;rw[xo.nm];unfold CC.isLoc at hl;rw[Bool.or_eq_true,ZB] at hl;rcases hl with hl | hl
  ·exact .inl (Zy hl)
  ·exact .inr (Zy hl.2)
 ·cases h
theorem WJ{qq:Bool}(xo:XOkB qq X K P C Γ)(hfn:∀x,Γ.isLoc x=true->X.fn x=true\/X.env.scope.names.lookup x=some .local){x:Str}{i:Nat}{e:Expr}{c:E}{p pos:Pos}(hi:Γ.slotL x=some i)(h:Ok3 X K P C e c)(n:cU e=true):PS X (.Assign [.Name x p] e pos) (tS K P C W (.asg i c)):=by
 refine TS.imp_ps (vK h.v (tV xo hfn hi) (kQ n _ _ _)) λD σ H ⟨ρ,G,fl,ρ',r,e,k⟩=>?_
 obtain⟨v,ρ1,e1,e2⟩:=gO e k.ne;unfold i8 at e2
 cases q:store i v ρ1 with
 |none=>rw[q] at e2;cases e2
 |some ρ2 =>
  rw[q] at e2;cases e2;exact⟨ρ,G,v,ρ1,r,e1,λx H' G' a hv=>k _ H' G' (Aft.store r a q hv)⟩
theorem nV(xo:bH X K P C Γ)(hfn:∀x,Γ.isLoc x=true->X.fn x=true\/X.env.scope.names.lookup x=some .local):∀{ts:List Expr} {is:List Nat},gL Γ ts=some is->vU X ts (J8 K is)/\(assignEach ts X.env).length=is.length/\(assignEach ts X.env).findIdx? (·.1)=none/\ts.length=is.length
 |[],is,h=>by cases h;exact⟨NB,rfl,rfl,rfl⟩
 |e::es,is,h=>by
  simp only[gL] at h
  cases q:CM Γ e with
  |none=>rw[q] at h;cases h
  |some i =>
   rw[q] at h;simp only[Option.bind_some] at h
   cases q2:gL Γ es with
   |none=>rw[q2] at h;cases h
   |some is' =>
    rw[q2] at h;cases h;obtain⟨h1,h2,h3,h4⟩:=nV xo hfn q2;cases e<;>simp only[CM,reduceCtorEq] at q;refine⟨LJ (tV xo hfn q) h1 rfl, ?_, ?_,by simp[h4]⟩
    ·show(assignEach es X.env).length+1=is'.length+1;rw[h2]
    ·show((false,_)::assignEach es X.env).findIdx? (·.1)=none;rw[List.findIdx?_cons,h3];rfl
theorem B9{ts:List Expr}{k0:Nat}{p:Pos}{e:Expr}(h:vM e=true)(env:PySem.Env):swappedStores [.Tuple ts k0 p] e env=pure none:=by
 cases e<;>first | rfl | cases h
theorem OC(xo:bH X K P C Γ)(hfn:∀x,Γ.isLoc x=true->X.fn x=true\/X.env.scope.names.lookup x=some .local){ts:List Expr}{is:List Nat}{e:Expr}{c:E}{k0:Nat}{p pos:Pos}(hi:gL Γ ts=some is)(h:Ok3 X K P C e c)(n:cU e=true)(n2:vM e=true):PS X (.Assign [.Tuple ts k0 p] e pos) (tS K P C W (.asgT is c)):=by
 obtain⟨h1,h2,h3,h4⟩:=nV xo hfn hi;refine TS.imp_ps (vK h.v (EE xo h1 h2 h3) (kQ n _ _ _) (B9 n2 _)) λD σ H ⟨ρ,G,fl,ρ',r,e,k⟩=>?_
 obtain⟨v,ρ1,e1,e2⟩:=gO e k.ne;unfold i8 at e2
 cases q:aY false is v.d ρ1 with
 |none=>rw[q] at e2;cases e2
 |some ρ2 =>
  rw[q] at e2;cases e2;refine⟨ρ,G,v,ρ1,r,e1,λx H' G' a hv=>?_⟩;obtain⟨G2,a2,r2⟩:=a.share hv;exact⟨ρ1,G2,v.d,_,a2.rel,r2,q,λσ' b=>k σ' H' G2 ((Aft.s r a2).trans b)⟩
def aBY(K:Frag):BH:=λ_ _ _ _ _=>False
def aB0:BH:=λ_ _ _ _ _=>False
theorem NX(hu:X.A.units+9<cLine):O8 X (λo i v H Q=>RB o i v H Q\/aB0 o i v H Q\/aBY X.K o i v H Q):=by
 intro pins s σ H o i v ov iv u Q I ro ri rv h;rcases h with h | h | h
 ·exact NU pins s σ H o i v ov iv u Q I ro ri rv h
 ·exact h.elim
 ·exact h.elim
theorem US(xo:bH X K P C Γ){x:Str}{i:Nat}{e j:Expr}{c cj:E}{p p2 pos:Pos}(hi:Γ.slot x=some i)(h:Ok3 X K P C e c)(hj:Ok3 X K P C j cj)(n:cU e=true)
  (ha:∀v,assign (.Subscript (.Name x p) j p2) X.env v=(do
   let ov <- holding [v] (eval (.Name x p) X.env)
   let iv <- holding [v,ov] (eval j X.env)
   standAt p2
   holding [v,ov,iv] (setItem ov iv v)
   release [v,ov,iv] [])):PS X (.Assign [.Subscript (.Name x p) j p2] e pos) (tS K P C W (.set i cj c)):=by
 have hp:PE X (.Name x p) (nM i):=CC.slot_ok xo hi;refine TS.imp_ps (vK h.v (ZP hp hj.v (xo.keq ▸ NX (by have:=xo.hu;omega)) ha) (kQ n _ _ _)) λD σ H ⟨ρ,G,fl,ρ',r,e,k⟩=>?_
 obtain⟨v,ρ1,e1,e2⟩:=gO e k.ne;split at e2
 ·rename_i ho;obtain⟨w,ρ2,e3,e4⟩:=gO e2 k.ne;split at e4
  ·rename_i ds p1 nn hs hw;unfold i8 at e4
   cases q:jS ds.length nn with
   |none=>rw[q] at e4;cases e4
   |some m =>
    rw[q] at e4;cases e4;refine⟨ρ,G,v,ρ1,r,e1,λy H1 G1 a1 hv=>?_⟩;obtain⟨d0,p0,l0,h0⟩:=rV ho;obtain⟨b,hb,g0,o0⟩:=a1.rel.ow i _ p0 l0 h0;refine⟨.ref b,hb,ρ1,G1,w,ρ2,a1.rel,e3,λz H2 G2 a2 hz=>?_⟩;have hv2:=hv.wait a2.ext λa z=>.inl (a2.own a z)
    obtain⟨G3,a3,r3⟩:=(a1.trans a2).share hv2;obtain⟨b',hb',g1,vs,hvs,hr⟩:=a3.rel.ow i _ _ _ hs;rw[hb] at hb';cases hb';have hzi:=hz.readR;rw[hw] at hzi;cases hzi.int;have a4:=a3.rel.write hs hb (hr.set r3 m);exact .inl ⟨b,vs,nn,m,rfl,rfl,hvs,by rw[hr.len];exact q,k σ _ _ (Aft.s r (a3.trans a4))⟩
  ·cases e4
 ·cases e2
end
section
variable{X:Cx}{K:Frag}{P:aJ}{C:Calls}{W:Nat}{Γ:CC}
theorem jG{ρ:Env}{σ:St}{H G:Hp}{o:Option Nat}(r:Rel K ρ σ H G):Rel K (aL o ρ) σ H G/\∀a,aI (aL o ρ) σ a->aI ρ σ a:=by
 cases o with
 |none=>exact⟨r,λ_ z=>z⟩
 |some i=>exact⟨r.unset i,λ_ z=>z.unset⟩
theorem hU{ρ1 ρf ρ':Env}{σ σf:St}{H1 G1 Hf Gf:Hp}{o:Option Nat}(r:Rel K ρ1 σ H1 G1)(ho:∀i,o=some i->∃d p l,ρ1[i]?=some (.ow d p l))(e:cC o ρ1 ρf=some ρ')(a:AftS K (aL o ρ1) σ H1 G1 ρf σf Hf Gf) :
  AftS K ρ1 σ H1 G1 ρ' σf Hf Gf/\∀c,aI ρ' σf c->aI ρf σf c\/(aI ρ1 σ c/\¬aI (aL o ρ1) σ c):=by
 cases o with
 |none =>
  simp only[cC,Option.some.injEq] at e;subst e;exact⟨a,λ_ z=>.inl z⟩
 |some i =>
  obtain⟨d,p,l,hi⟩:=ho i rfl;obtain⟨b,hb,g,ob⟩:=r.ow i d p l hi;have hob:aI ρ1 σ b:=⟨i,d,p,l,hi,hb⟩
  have nob:¬aI (ρ1.set i .un) σ b:=r.unset_not hi hb;have hne:H1 b≠none:=(r.owned hob).1;simp only[cC] at e;split at e
  ·rename_i sl hf hs;rw[hi] at hs;cases hs;cases e;obtain⟨hu1,hu2⟩:=a.un i hf;have hx:σf[i]?=some (some (.ref b)):=hu2.trans hb;have gb:Gf b=none:=a.ext.gn b hne g nob;have of:fJ K Hf Gf b d:=ob.mono a.ext.gg λo' h'=>a.ext.hh b o' h' nob
   have nf:¬aI ρf σf b:=λz=>by
    rcases a.own b z with z | z
    ·exact nob z
    ·exact hne z
   have rf:Rel K (ρf.set i (.ow d p l)) σf Hf Gf:=(a.rel.unset i).put_ow hx gb of λz=>nf z.unset
   have own':∀c,aI (ρf.set i (.ow d p l)) σf c->c=b\/aI ρf σf c:=λc z=>by
    rcases z.put_ow hx with z | z
    ·exact .inl z
    ·exact .inr z.unset
   refine⟨⟨rf,a.ext.weaken λc z=>z.unset,λc z=>?_,λj z=>?_,λj d' l' z=>?_,by rw[zg,a.len];exact zg⟩,λc z=>?_⟩
   ·rcases own' c z with rfl | z
    ·exact .inl hob
    ·rcases a.own c z with z | z
     ·exact .inl z.unset
     ·exact .inr z
   ·rcases cJ z with ⟨_,w,_⟩ | ⟨nj,w⟩
    ·cases w
    ·obtain⟨w1,w2⟩:=a.un j w;have w1':(ρ1.set i .un)[j]?=some .un:=w1;rw[Zf (λq=>nj q.symm)] at w1';exact⟨w1',w2⟩
   ·by_cases hj:j=i
    ·subst hj;rw[hi] at z;cases z;refine⟨hu2,d, ?_⟩;rw[zk (Zc.mp hf).1]
    ·have z':(aL (some i) ρ1)[j]?=some (.ow d' true l'):=by
      show(ρ1.set i .un)[j]?=_;rw[Zf (λq=>hj q.symm)];exact z
     obtain⟨w1,d2,w2⟩:=a.pin j d' l' z';exact⟨w1,d2,by rw[Zf (λq=>hj q.symm)];exact w2⟩
   ·rcases own' c z with rfl | z
    ·exact .inr ⟨hob,nob⟩
    ·exact .inl z
  ·cases e
theorem fD.restore{ρ1 ρf ρ':Env}{σ:St}{H1 G1:Hp}{o:Option Nat}{D:Ends}{fl:Fl}(r:Rel K ρ1 σ H1 G1)(ho:∀i,o=some i->∃d p l,ρ1[i]?=some (.ow d p l))(e:cC o ρ1 ρf=some ρ')(k:fD K ρ1 σ H1 G1 ρ' D fl) :
  fD K (aL o ρ1) σ H1 G1 ρf D fl:=by
 cases fl with
 |nx=>exact λσ' H' G' b=>k σ' H' G' (hU r ho e b).1
 |bk=>exact λσ' H' G' b=>k σ' H' G' (hU r ho e b).1
 |ct=>exact λσ' H' G' b=>k σ' H' G' (hU r ho e b).1
 |rt v =>
  refine λx σ' H' G' b hv=>?_
  obtain⟨b1,b2⟩:=hU r ho e b;refine k x σ' H' G' b1 ?_
  cases v with
  |sh d=>exact hv
  |ow d =>
   obtain⟨c,rfl,g,oo,n,m⟩:=hv;refine⟨c,rfl,g,oo,λz=>?_, ?_⟩
   ·rcases b2 c z with z | ⟨z1,z2⟩
    ·exact n z
    ·rcases m with m | m
     ·exact z2 m
     ·exact(r.owned z1).1 m
   ·rcases m with m | m
    ·exact .inl ((jG r).2 c m)
    ·exact .inr m
  |od d =>
   obtain⟨c,rfl,g,oo,n,m,vs,hvs,hr⟩:=hv
   have key:∀c,¬aI ρf σ' c->(aI (aL o ρ1) σ c\/H1 c=none)->¬aI ρ' σ' c/\(aI ρ1 σ c\/H1 c=none):=λc n m=>by
    refine⟨λz=>?_, ?_⟩
    ·rcases b2 c z with z | ⟨z1,z2⟩
     ·exact n z
     ·rcases m with m | m
      ·exact z2 m
      ·exact(r.owned z1).1 m
    ·rcases m with m | m
     ·exact .inl ((jG r).2 c m)
     ·exact .inr m
   exact⟨c,rfl,g,oo,(key c n m).1,(key c n m).2,vs,hvs,λx hx=>let ⟨b,ws,h1,h2,h3,h4,h5,h6⟩:=hr x hx;⟨b,ws,h1,h2,h3,(key b h4 h5).1,(key b h4 h5).2,h6⟩⟩
 |ex x=>exact k
def iL(K:Frag)(P:aJ)(C:Calls)(W:Nat)(one:Bool)(tg:List Nat)(cb:List S)(ρ0:Env)(σ0:St)(H0 G0:Hp)(fl:Fl)(ρf:Env)(ds:List D)(i:Nat):St->Hp->Prop:=λσ H =>
 ∃ρ G,AftS K ρ0 σ0 H0 G0 ρ σ H G/\cF (aY one tg) (exs P C W cb) (ds.drop i) ρ=some (fl,ρf)
theorem qT{one:Bool}{tg:List Nat}{cb:List S}{ρ0 ρf:Env}{σ0 σ:St}{H0 G0 H:Hp}{fl:Fl}{ds:List D}{i:Nat}{d:D}{x:V}{D0:Ends}(hk:fD K ρ0 σ0 H0 G0 ρf D0 fl)(hd:ds[i]?=some d)(hx:aC K G0 d x)
  (h:iL K P C W one tg cb ρ0 σ0 H0 G0 fl ρf ds i σ H) :
  gB K one tg x σ H λσ2 H2=>pD K P C W cb { D0 with nx:=iL K P C W one tg cb ρ0 σ0 H0 G0 fl ρf ds (i+1),ct:=iL K P C W one tg cb ρ0 σ0 H0 G0 fl ρf ds (i+1),bk:=D0.nx } σ2 H2:=by
 obtain⟨ρ,G,a,e⟩:=h;have hl:i<ds.length:=(Zc.mp hd).1
 have ed:ds.drop i=d::ds.drop (i+1):=by(rw[List.drop_eq_getElem_cons hl];congr 1;rw[Zb hl] at hd;exact Option.some.inj hd)
 rw[ed] at e;simp only[cF] at e
 cases q:aY one tg d ρ with
 |none=>rw[q] at e;cases e
 |some ρ1 =>
  rw[q] at e;simp only at e;refine⟨ρ,G,d,ρ1,a.rel,aC.mono a.ext.gg d hx,q,λσ1 a1=>?_⟩;have a01:=a.trans a1
  cases q2:exs P C W cb ρ1 with
  |none=>rw[q2] at e;cases e
  |some y =>
   obtain⟨fl1,ρ2⟩:=y;rw[q2] at e;refine⟨ρ1,G,fl1,ρ2,a1.rel,q2, ?_⟩
   cases fl1 with
   |nx=>exact λσ2 H2 G2 a2=>⟨ρ2,G2,a01.trans a2,e⟩
   |ct=>exact λσ2 H2 G2 a2=>⟨ρ2,G2,a01.trans a2,e⟩
   |bk=>cases e;exact λσ2 H2 G2 a2=>hk σ2 H2 G2 (a01.trans a2)
   |rt v=>cases e;exact hk.pre a01
   |ex x=>cases e;exact hk
theorem F1{one:Bool}{tg:List Nat}{cb:List S}{ρ0 ρf:Env}{σ0 σ:St}{H0 G0 H:Hp}{fl:Fl}{ds:List D}{i:Nat}{d:D}{x:V}{D0:Ends}(hk:fD K ρ0 σ0 H0 G0 ρf D0 fl)(hd:ds[i]?=some d)
  (h:∃ρ G,AftS K ρ0 σ0 H0 G0 ρ σ H G/\aC K G d x/\cF (aY one tg) (exs P C W cb) (ds.drop i) ρ=some (fl,ρf)) :
  gB K one tg x σ H λσ2 H2=>pD K P C W cb { D0 with nx:=iL K P C W one tg cb ρ0 σ0 H0 G0 fl ρf ds (i+1),ct:=iL K P C W one tg cb ρ0 σ0 H0 G0 fl ρf ds (i+1),bk:=D0.nx } σ2 H2:=by
 obtain⟨ρ,G,a,hx,e⟩:=h;have hl:i<ds.length:=(Zc.mp hd).1
 have ed:ds.drop i=d::ds.drop (i+1):=by(rw[List.drop_eq_getElem_cons hl];congr 1;rw[Zb hl] at hd;exact Option.some.inj hd)
 rw[ed] at e;simp only[cF] at e
 cases q:aY one tg d ρ with
 |none=>rw[q] at e;cases e
 |some ρ1 =>
  rw[q] at e;simp only at e;refine⟨ρ,G,d,ρ1,a.rel,hx,q,λσ1 a1=>?_⟩;have a01:=a.trans a1
  cases q2:exs P C W cb ρ1 with
  |none=>rw[q2] at e;cases e
  |some y =>
   obtain⟨fl1,ρ2⟩:=y;rw[q2] at e;refine⟨ρ1,G,fl1,ρ2,a1.rel,q2, ?_⟩
   cases fl1 with
   |nx=>exact λσ2 H2 G2 a2=>⟨ρ2,G2,a01.trans a2,e⟩
   |ct=>exact λσ2 H2 G2 a2=>⟨ρ2,G2,a01.trans a2,e⟩
   |bk=>cases e;exact λσ2 H2 G2 a2=>hk σ2 H2 G2 (a01.trans a2)
   |rt v=>cases e;exact hk.pre a01
   |ex x=>cases e;exact hk
theorem M8{a:Addr}{lo:Int}{xs:List V}{g:TG}{tb:TS}{D:Ends}{σ:St}{H:Hp}(Pv:Nat->St->Hp->Prop)(h0:Pv 0 σ H)(hl:∀i σ H,i<=xs.length->Pv i σ H->bV K H a xs)
  (hs:∀i y p σ H,xs[i]?=some y->H p=none->Pv i σ H->g (.ref p) σ (aW H p (.tup [.int (lo+(i:Int)),y])) λσ2 H2=>tb { D with nx:=Pv (i+1),ct:=Pv (i+1),bk:=D.nx } σ2 H2) (hd:∀σ H,Pv xs.length σ H->D.nx σ H) :
  ∃W:Nat->Nat->St->Hp->Prop,(∃m,W 0 m σ H)/\∀i m σ H,W i m σ H ->
   ((mD K a lo).stop i H/\D.nx σ H)\/((mD K a lo).go i H/\∃N:St->Hp->Prop,(∀σ' H',N σ' H'->∃m',m'<m/\W (i+1) m' σ' H')/\∀x H',(mD K a lo).yld i H x H'->g x σ H' λσ2 H2=>tb { D with nx:=N,ct:=N,bk:=D.nx } σ2 H2):=by
 refine⟨λi m σ H=>m=xs.length-i/\i<=xs.length/\Pv i σ H,⟨xs.length,by simp,Nat.zero_le _,h0⟩, ?_⟩
 rintro i m σ H ⟨rfl,hi,p⟩
 have q:=hl i σ H hi p;by_cases hlt:i<xs.length
 ·refine .inr ⟨⟨xs,xs[i],q,by simp[hlt]⟩,Pv (i+1),λσ' H' p'=>⟨xs.length-(i+1),by omega,rfl,hlt,p'⟩,λx H' y=>?_⟩;obtain⟨p0,y0,hn,rfl,rfl,hy⟩:=y;exact hs i y0 p0 σ H (hy xs q) hn p
 ·have e:i=xs.length:=by omega
  subst e;exact .inl ⟨⟨xs,q,Zq _⟩,hd σ H p⟩
theorem fB{lo:Int}{ds:List D}:(cW lo ds).length=ds.length:=by unfold cW;simp
theorem lI{lo:Int}{ds:List D}{i:Nat}{d:D}(h:ds[i]?=some d):(cW lo ds)[i]?=some (.tup [.int (lo+(i:Int)),d]):=by
 have hl:i<ds.length:=(Zc.mp h).1;unfold cW;rw[Zh,List.getElem?_range hl,Option.map_some,List.getD_eq_getElem?_getD,h];rfl
theorem CU{G:Hp}{p:Addr}{i:Int}{d:D}{y:V}(hg:G p=none)(h:aC K G d y):aC K (aW G p (.tup [.int i,y])) (.tup [.int i,d]) (.ref p):=by
 simp only[aC];exact⟨p,_,rfl,cK.of bB,aA.cons (by simp[aC]) (aA.cons (aC.mono (aN.laid hg) d h) aA.nil)⟩
theorem nI{one:Bool}{tg:List Nat}{cb:List S}{ρ0 ρf:Env}{σ0 σ:St}{H0 G0 H:Hp}{fl:Fl}{ds:List D}{D0:Ends}(hk:fD K ρ0 σ0 H0 G0 ρf D0 fl)(h:iL K P C W one tg cb ρ0 σ0 H0 G0 fl ρf ds ds.length σ H):D0.nx σ H:=by
 obtain⟨ρ,G,a,e⟩:=h;rw[List.drop_length] at e;simp only[cF,Option.some.injEq,Prod.mk.injEq] at e;obtain⟨rfl,rfl⟩:=e;exact hk σ H G a
def iV(K:Frag)(ρ:Env)(σ:St)(H G:Hp)(a:Addr)(vs:List V):Prop:=bV K G a vs\/(H a=some (.lst vs)/\G a=none/\¬aI ρ σ a)
theorem iV.now{ρ ρ':Env}{σ σ':St}{H G H' G':Hp}{a:Addr}{vs:List V}(h:iV K ρ σ H G a vs)(b:AftS K ρ σ H G ρ' σ' H' G'):bV K H' a vs:=by
 rcases h with h | ⟨h1,h2,h3⟩
 ·exact b.rel.sub.seq (b.ext.gg.seq h)
 ·exact bV.of (b.ext.hh a _ h1 h3)
theorem qY(po:PassesOwn (model X.prog X.w) X.A X.env X.xe)(xo:bH X K P C Γ){tg it:Expr}{body:List Stmt}{pos:Pos}{one:Bool}{is:List Nat}{k0:ItK}{its:List E}{cb:List S}{wi:TI}(hg:PG X tg (gB K one is))(hb:f6 X body (pD K P C W cb))
  (hs:∀x,foldedSetIterable it X.env x=pure x) (hi:PI X tg it wi)
  (hw:∀σ H (R:It->Hp->Prop),(∃(ρ:Env) (G:Hp) (hs:List Hd) (ρ1:Env) (ds:List D) (o:Option Nat),Rel K ρ σ H G/\bZ P C its ρ=some (.ok hs,ρ1)/\aE k0 hs ρ1=some (ds,o) /\
   ∀H1 G1,Aft K ρ σ H G ρ1 H1 G1->(∀i,o=some i->∃d p l,ρ1[i]?=some (.ow d p l)) ->
    (∀a vs,iV K (aL o ρ1) σ H1 G1 a vs->aA K G1 ds vs->R (mB K a) H1)/\(∀a vs,cK K G1 a vs->aA K G1 ds vs->R (mN K a) H1)/\(∀(lo:Int) (n:Nat),ds=(List.range n).map (λ(j:Nat)=>D.int (lo+(j:Int)))->R (kL lo n) H1)/\(∀a vs ds0 lo,ds=cW lo ds0->iV K (aL o ρ1) σ H1 G1 a vs->aA K G1 ds0 vs->R (mD K a lo) H1))->wi σ H R) :
  PS X (.For tg it body [] pos) (tS K P C W (.for is one k0 its cb)):=by
 refine TS.imp_ps (W6 po xo.calm hi hg hb hs) λD σ H ⟨ρ,G,fl,ρ',r,e,k⟩=>?_
 obtain⟨hs,ρ1,e1,e2⟩:=gO e k.ne
 cases q:aE k0 hs ρ1 with
 |none=>rw[q] at e2;cases e2
 |some y =>
  obtain⟨ds,o⟩:=y;rw[q] at e2;simp only at e2
  cases q2:cF (aY one is) (exs P C W cb) ds (aL o ρ1) with
  |none=>rw[q2] at e2;cases e2
  |some y =>
   obtain⟨fl1,ρf⟩:=y;rw[q2] at e2;simp only[bS.restore] at e2
   cases q3:cC o ρ1 ρf with
   |none=>rw[q3] at e2;cases e2
   |some ρ2 =>
    rw[q3] at e2;cases e2;refine hw σ H _ ⟨ρ,G,hs,ρ1,ds,o,r,e1,q,λH1 G1 a1 ho=>?_⟩;have k1:fD K (aL o ρ1) σ H1 G1 ρf D fl:=fD.restore a1.rel ho q3 (k.pre (Aft.s r a1));have p0:iL K P C W one is cb (aL o ρ1) σ H1 G1 fl ρf ds 0 σ H1:=⟨aL o ρ1,G1,AftS.refl (jG a1.rel).1,q2⟩
    refine⟨λa vs hsrc hr=>?_,λa vs ht hr=>?_,λlo n hds=>?_,λa vs ds0 lo hds hsrc hr=>?_⟩
    ·refine MM (K:=K) (a:=a) (xs:=vs) (iL K P C W one is cb (aL o ρ1) σ H1 G1 fl ρf ds) p0 (λi σ2 H2 _ ⟨ρ2,G2,b,_⟩=>hsrc.now b) (λi x σ2 H2 hx hp=>?_) (λσ2 H2 hp=>?_)
     ·have hl:i<ds.length:=by rw[<- hr.len];exact(Zc.mp hx).1
      obtain⟨x',h1,h2⟩:=hr.get (Zb hl);rw[hx] at h1;cases h1;exact qT k1 (Zb hl) h2 hp
     ·rw[hr.len] at hp;exact nI k1 hp
    ·refine VO (K:=K) (a:=a) (xs:=vs) (iL K P C W one is cb (aL o ρ1) σ H1 G1 fl ρf ds) p0 (λi σ2 H2 _ ⟨ρ2,G2,b,_⟩=>cZ b.rel.sub (cZ b.ext.gg ht)) (λi x σ2 H2 hx hp=>?_) (λσ2 H2 hp=>?_)
     ·have hl:i<ds.length:=by rw[<- hr.len];exact(Zc.mp hx).1
      obtain⟨x',h1,h2⟩:=hr.get (Zb hl);rw[hx] at h1;cases h1;exact qT k1 (Zb hl) h2 hp
     ·rw[hr.len] at hp;exact nI k1 hp
    ·have hlen:ds.length=n:=by rw[hds];simp
     refine KS (lo:=lo) (n:=n) (iL K P C W one is cb (aL o ρ1) σ H1 G1 fl ρf ds) p0 (λi σ2 H2 hi hp=>?_) (λσ2 H2 hp=>?_)
     ·have hd:ds[i]?=some (.int (lo+(i:Int))):=by rw[hds];simp[hi]
      exact qT k1 hd (by simp[aC]) hp
     ·rw[<- hlen] at hp;exact nI k1 hp
    ·subst hds;refine M8 (K:=K) (a:=a) (xs:=vs) (iL K P C W one is cb (aL o ρ1) σ H1 G1 fl ρf (cW lo ds0)) p0 (λi σ2 H2 _ ⟨ρ2,G2,b,_⟩=>hsrc.now b) (λi y p σ2 H2 hx hn hp=>?_) (λσ2 H2 hp=>?_)
     ·have hl:i<ds0.length:=by rw[<- hr.len];exact(Zc.mp hx).1
      obtain⟨x',h1,h2⟩:=hr.get (Zb hl);rw[hx] at h1;cases h1;obtain⟨ρ2,G2,b,e2⟩:=hp;have b2:=b.trans (Aft.s b.rel ((Aft.refl b.rel).layG (o:=.tup [.int (lo+(i:Int)),y]) hn));exact F1 k1 (lI (Zb hl)) ⟨ρ2,_,b2,CU (aN.free b.rel.sub hn) (aC.mono b.ext.gg _ h2),e2⟩
     ·rw[hr.len,<- fB] at hp;exact nI k1 hp
end
section
variable{X:Cx}{K:Frag}{P:aJ}{C:Calls}{W:Nat}{Γ:CC}
theorem PI.or{tg it:Expr}{w w':TI}(h:PI X tg it w)(h':PI X tg it w'):PI X tg it (λσ H R=>w σ H R\/w' σ H R):=λpins s σ H R I q=>by
 rcases q with q | q
 ·exact h pins s σ H R I q
 ·exact h' pins s σ H R I q
theorem zT{c:E}{ρ ρ1:Env}{hs:List Hd}(e:bZ P C [c] ρ=some (.ok hs,ρ1)):∃h,hs=[h]/\hd c (ev P C false c ρ) ρ=some (.ok h,ρ1):=by
 rw[bZ] at e;obtain⟨h,ρ2,e1,e2⟩:=aK e;rw[bZ] at e2;simp only[aM.bind] at e2;cases e2;exact⟨h,rfl,e1⟩
theorem QP(hK:X.K=K){c:E}(σ:St)(H:Hp)(R:It->Hp->Prop) (q:∃(ρ:Env) (G:Hp) (hs:List Hd) (ρ1:Env) (ds:List D) (o:Option Nat),Rel K ρ σ H G/\bZ P C [c] ρ=some (.ok hs,ρ1)/\aE .of hs ρ1=some (ds,o) /\
   ∀H1 G1,Aft K ρ σ H G ρ1 H1 G1->(∀i,o=some i->∃d p l,ρ1[i]?=some (.ow d p l)) ->
    (∀a vs,iV K (aL o ρ1) σ H1 G1 a vs->aA K G1 ds vs->R (mB K a) H1)/\(∀a vs,cK K G1 a vs->aA K G1 ds vs->R (mN K a) H1)/\(∀(lo:Int) (n:Nat),ds=(List.range n).map (λ(j:Nat)=>D.int (lo+(j:Int)))->R (kL lo n) H1)/\(∀a vs ds0 lo,ds=cW lo ds0->iV K (aL o ρ1) σ H1 G1 a vs->aA K G1 ds0 vs->R (mD K a lo) H1)) :
  QM X.K (tH K P C c) σ H R\/aAb X.K (tH K P C c) σ H R:=by
 obtain⟨ρ,G,hs,ρ1,ds,o,r,e,ei,k⟩:=q;obtain⟨h,rfl,e1⟩:=zT e;rw[hK]
 cases h with
 |slot i =>
  simp only[aE] at ei;split at ei
  ·rename_i ds' p l hi;cases ei;refine .inl ⟨ρ,G,.slot i,ρ1,r,e1,λx H1 G1 a1 hx=>?_⟩;have hx:σ[i]?=some (some x):=hx;obtain⟨b,h1,g,vs,hv,hr⟩:=a1.rel.ow i _ _ _ hi;rw[hx] at h1;cases h1;exact⟨b,rfl,⟨vs,bV.of hv⟩,(k H1 G1 a1 λj z=>by cases z;exact⟨_,_,_,hi⟩).1 b vs (.inr ⟨hv,g,a1.rel.unset_not hi hx⟩) hr⟩
  ·rename_i ds' hi;cases ei;refine .inl ⟨ρ,G,.slot i,ρ1,r,e1,λx H1 G1 a1 hx=>?_⟩;have hx:σ[i]?=some (some x):=hx;obtain⟨v,h1,h2⟩:=a1.rel.sh i _ hi;rw[hx] at h1;cases h1;simp only[aC] at h2;obtain⟨b,vs,rfl,h3,h4⟩:=h2;exact⟨b,rfl,⟨vs,a1.rel.sub.seq h3⟩,(k H1 G1 a1 λj z=>by cases z).1 b vs (.inl h3) h4⟩
  ·rename_i ds' hi;cases ei;refine .inr ⟨ρ,G,.slot i,ρ1,r,e1,λx H1 G1 a1 hx=>?_⟩;have hx:σ[i]?=some (some x):=hx;obtain⟨v,h1,h2⟩:=a1.rel.sh i _ hi;rw[hx] at h1;cases h1;simp only[aC] at h2;obtain⟨b,vs,rfl,h3,h4⟩:=h2;exact⟨b,rfl,⟨vs,cZ a1.rel.sub h3⟩,(k H1 G1 a1 λj z=>by cases z).2.1 b vs h3 h4⟩
  ·cases ei
 |val v =>
  simp only[aE] at ei;split at ei
  ·rename_i ds' hd;cases ei;refine .inl ⟨ρ,G,.val v,ρ1,r,e1,λx H1 G1 a1 hx=>?_⟩
   cases v with
   |sh d =>
    simp only[RV.d] at hd;subst hd;have hx:aC K G1 (.lst ds) x:=hx;simp only[aC] at hx;obtain⟨b,vs,rfl,h3,h4⟩:=hx;exact⟨b,rfl,⟨vs,a1.rel.sub.seq h3⟩,(k H1 G1 a1 λj z=>by cases z).1 b vs (.inl h3) h4⟩
   |ow d =>
    simp only[RV.d] at hd;subst hd;obtain⟨b,rfl,g,⟨vs,hv,hr⟩,n,m⟩:=hx;exact⟨b,rfl,⟨vs,bV.of hv⟩,(k H1 G1 a1 λj z=>by cases z).1 b vs (.inr ⟨hv,g,n⟩) hr⟩
   |od d=>exact hx.elim
  ·rename_i ds' hd;cases ei;refine .inr ⟨ρ,G,.val v,ρ1,r,e1,λx H1 G1 a1 hx=>?_⟩
   cases v with
   |sh d =>
    simp only[RV.d] at hd;subst hd;have hx:aC K G1 (.tup ds) x:=hx;simp only[aC] at hx;obtain⟨b,vs,rfl,h3,h4⟩:=hx;exact⟨b,rfl,⟨vs,cZ a1.rel.sub h3⟩,(k H1 G1 a1 λj z=>by cases z).2.1 b vs h3 h4⟩
   |ow d =>
    simp only[RV.d] at hd;subst hd;obtain⟨b,rfl,g,o,n,m⟩:=hx;exact o.elim
   |od d=>exact hx.elim
  ·cases ei
theorem EZ{c:E}(σ:St)(H:Hp)(R:It->Hp->Prop) (q:∃(ρ:Env) (G:Hp) (hs:List Hd) (ρ1:Env) (ds:List D) (o:Option Nat),Rel K ρ σ H G/\bZ P C [c] ρ=some (.ok hs,ρ1)/\aE .rng hs ρ1=some (ds,o) /\
   ∀H1 G1,Aft K ρ σ H G ρ1 H1 G1->(∀i,o=some i->∃d p l,ρ1[i]?=some (.ow d p l)) ->
    (∀a vs,iV K (aL o ρ1) σ H1 G1 a vs->aA K G1 ds vs->R (mB K a) H1)/\(∀a vs,cK K G1 a vs->aA K G1 ds vs->R (mN K a) H1)/\(∀(lo:Int) (n:Nat),ds=(List.range n).map (λ(j:Nat)=>D.int (lo+(j:Int)))->R (kL lo n) H1)/\(∀a vs ds0 lo,ds=cW lo ds0->iV K (aL o ρ1) σ H1 G1 a vs->aA K G1 ds0 vs->R (mD K a lo) H1)) :
  RL (kP K P C [c]) σ H R:=by
 obtain⟨ρ,G,hs,ρ1,ds,o,r,e,ei,k⟩:=q;refine⟨ρ,G,hs,ρ1,r,e,λxs H1 G1 a1 hx=>?_⟩;obtain⟨h,rfl,e1⟩:=zT e;obtain⟨x,r',rfl,h1,h2,_⟩:=hx;cases (show r'=[] from h2);simp only[aE] at ei;split at ei
 ·rename_i n hn;split at ei
  ·rename_i hb;cases ei;cases (h1.read a1.rel hn).int;refine⟨n,rfl,by omega,by omega,(k H1 G1 a1 λj z=>by cases z).2.2.1 0 n.toNat ?_⟩;congr 1
   funext j
   rw[Int.zero_add]
  ·cases ei
 ·cases ei
theorem EM{c c2:E}(σ:St)(H:Hp)(R:It->Hp->Prop) (q:∃(ρ:Env) (G:Hp) (hs:List Hd) (ρ1:Env) (ds:List D) (o:Option Nat),Rel K ρ σ H G/\bZ P C [c,c2] ρ=some (.ok hs,ρ1)/\aE .rng hs ρ1=some (ds,o) /\
   ∀H1 G1,Aft K ρ σ H G ρ1 H1 G1->(∀i,o=some i->∃d p l,ρ1[i]?=some (.ow d p l)) ->
    (∀a vs,iV K (aL o ρ1) σ H1 G1 a vs->aA K G1 ds vs->R (mB K a) H1)/\(∀a vs,cK K G1 a vs->aA K G1 ds vs->R (mN K a) H1)/\(∀(lo:Int) (n:Nat),ds=(List.range n).map (λ(j:Nat)=>D.int (lo+(j:Int)))->R (kL lo n) H1)/\(∀a vs ds0 lo,ds=cW lo ds0->iV K (aL o ρ1) σ H1 G1 a vs->aA K G1 ds0 vs->R (mD K a lo) H1)) :
  QQ (kP K P C [c,c2]) σ H R:=by
 obtain⟨ρ,G,hs,ρ1,ds,o,r,e,ei,k⟩:=q;refine⟨ρ,G,hs,ρ1,r,e,λxs H1 G1 a1 hx=>?_⟩;rw[bZ] at e;obtain⟨h,ρ2,e1,e2⟩:=aK e;obtain⟨hs',ρ3,e3,e4⟩:=aK e2;obtain⟨h',rfl,e5⟩:=zT e3;cases e4;obtain⟨x,r',rfl,h1,h2,_⟩:=hx;obtain⟨y,r'',rfl,h3,h4,_⟩:=h2;cases (show r''=[] from h4);simp only[aE] at ei;split at ei
 ·rename_i m n hm hn;split at ei
  ·rename_i hb;cases ei;cases (h1.read a1.rel hm).int;cases (h3.read a1.rel hn).int;exact⟨m,n,rfl,by omega,(k H1 G1 a1 λj z=>by cases z).2.2.1 m (n-m).toNat rfl⟩
  ·cases ei
 ·cases ei
theorem xI(hK:X.K=K){c:E}{lo:Int}(σ:St)(H:Hp)(R:It->Hp->Prop) (q:∃(ρ:Env) (G:Hp) (hs:List Hd) (ρ1:Env) (ds:List D) (o:Option Nat),Rel K ρ σ H G/\bZ P C [c] ρ=some (.ok hs,ρ1)/\aE (.enum lo) hs ρ1=some (ds,o) /\
   ∀H1 G1,Aft K ρ σ H G ρ1 H1 G1->(∀i,o=some i->∃d p l,ρ1[i]?=some (.ow d p l)) ->
    (∀a vs,iV K (aL o ρ1) σ H1 G1 a vs->aA K G1 ds vs->R (mB K a) H1)/\(∀a vs,cK K G1 a vs->aA K G1 ds vs->R (mN K a) H1)/\(∀(lo:Int) (n:Nat),ds=(List.range n).map (λ(j:Nat)=>D.int (lo+(j:Int)))->R (kL lo n) H1)/\(∀a vs ds0 lo,ds=cW lo ds0->iV K (aL o ρ1) σ H1 G1 a vs->aA K G1 ds0 vs->R (mD K a lo) H1)) :
  FW X.K lo (kP K P C [c]) σ H R:=by
 obtain⟨ρ,G,hs,ρ1,ds,o,r,e,ei,k⟩:=q;rw[hK];refine⟨ρ,G,hs,ρ1,r,e,λxs H1 G1 a1 hxs=>?_⟩;obtain⟨h,rfl,e1⟩:=zT e;obtain⟨x,r',rfl,hx,h2,_⟩:=hxs;cases (show r'=[] from h2)
 cases h with
 |slot i =>
  simp only[aE] at ei;have hx:σ[i]?=some (some x):=hx;split at ei
  ·rename_i ds' p l hi;cases ei;obtain⟨b,h1,g,vs,hv,hr⟩:=a1.rel.ow i _ _ _ hi;rw[hx] at h1;cases h1;exact⟨b,rfl,⟨vs,bV.of hv⟩,(k H1 G1 a1 λj z=>by cases z;exact⟨_,_,_,hi⟩).2.2.2 b vs _ lo rfl (.inr ⟨hv,g,a1.rel.unset_not hi hx⟩) hr⟩
  ·rename_i ds' hi;cases ei;obtain⟨v,h1,h2⟩:=a1.rel.sh i _ hi;rw[hx] at h1;cases h1;simp only[aC] at h2;obtain⟨b,vs,rfl,h3,h4⟩:=h2;exact⟨b,rfl,⟨vs,a1.rel.sub.seq h3⟩,(k H1 G1 a1 λj z=>by cases z).2.2.2 b vs _ lo rfl (.inl h3) h4⟩
  ·cases ei
 |val v =>
  simp only[aE] at ei;split at ei
  ·rename_i ds' hd;cases ei
   cases v with
   |sh d =>
    simp only[RV.d] at hd;subst hd;have hx:aC K G1 (.lst ds') x:=hx;simp only[aC] at hx;obtain⟨b,vs,rfl,h3,h4⟩:=hx;exact⟨b,rfl,⟨vs,a1.rel.sub.seq h3⟩,(k H1 G1 a1 λj z=>by cases z).2.2.2 b vs _ lo rfl (.inl h3) h4⟩
   |ow d =>
    simp only[RV.d] at hd;subst hd;obtain⟨b,rfl,g,⟨vs,hv,hr⟩,n,m⟩:=hx;exact⟨b,rfl,⟨vs,bV.of hv⟩,(k H1 G1 a1 λj z=>by cases z).2.2.2 b vs _ lo rfl (.inr ⟨hv,g,n⟩) hr⟩
   |od d=>exact hx.elim
  ·cases ei
theorem yH{e:Expr}(h:uP e=true)(env:PySem.Env):∀x,foldedSetIterable e env x=pure x:=λx=>by
 cases e<;>first | rfl | cases h
theorem EU(xo:bH X K P C Γ)(hfn:∀x,Γ.isLoc x=true->X.fn x=true\/X.env.scope.names.lookup x=some .local){tg:Expr}{one:Bool}{is:List Nat}(h:jN Γ tg=some (one,is)):PG X tg (gB K one is):=by
 cases tg<;>simp only[jN,reduceCtorEq] at h
 ·rename_i x pos
  cases q:Γ.slotL x with
  |none=>rw[q] at h;cases h
  |some i=>rw[q] at h;cases h;exact Z6 (tV xo hfn q)
 ·rename_i es k0 pos
  cases q:gL Γ es with
  |none=>rw[q] at h;cases h
  |some is' =>
   rw[q] at h;cases h;obtain⟨h1,h2,h3,h4⟩:=nV xo hfn q;exact EE xo h1 h2 h3
end
section
variable{K:Frag}{σ σ':St}{H G H' G':Hp}
theorem nE{as:List Sl}{n i:Nat}{s:Sl}(h:(as++List.replicate n Sl.un)[i]?=some s):(as[i]?=some s)\/(as.length<=i/\s=.un):=by
 by_cases hl:i<as.length
 ·rw[List.getElem?_append_left hl] at h;exact .inl h
 ·rw[List.getElem?_append_right (by omega),List.getElem?_replicate] at h;split at h
  ·cases h;exact .inr ⟨by omega,rfl⟩
  ·cases h
theorem qL{N:List Str}{vs:List V}{i:Nat}(h:i<vs.length):(L2.b0 N vs)[i]?=(vs.map some)[i]?:=by
 unfold L2.b0;rw[List.getElem?_append_left (by rw[List.length_map];exact h)]
theorem Rel.pad{as:List Sl}{vs:List V}{N:List Str}{n:Nat}(r:Rel K as (vs.map some) H G)(hn:N.length=as.length+n):Rel K (as++List.replicate n .un) (L2.b0 N vs) H G/\∀a,aI (as++List.replicate n .un) (L2.b0 N vs) a->aI as (vs.map some) a:=by
 have hl:as.length=vs.length:=by have:=r.len;rwa[List.length_map] at this
 have st:∀i:Nat,i<as.length->(L2.b0 N vs)[i]?=(vs.map some)[i]?:=λi h=>qL (by omega)
 have lt:∀{i:Nat} {s:Sl},as[i]?=some s->i<as.length:=λh=>(Zc.mp h).1
 refine⟨⟨by unfold L2.b0;simp;omega,r.sub,λi d h=>?_,λi d p l h=>?_,λi j d p l d' p' l' a h1 h2 h3 h4=>?_⟩,λa ⟨i,d,p,l,h1,h2⟩=>?_⟩
 ·rcases nE h with h | ⟨_,h⟩
  ·rw[st i (lt h)];exact r.sh i d h
  ·cases h
 ·rcases nE h with h | ⟨_,h⟩
  ·rw[st i (lt h)];exact r.ow i d p l h
  ·cases h
 ·rcases nE h1 with h1 | ⟨_,h1⟩
  ·rcases nE h2 with h2 | ⟨_,h2⟩
   ·rw[st i (lt h1)] at h3;rw[st j (lt h2)] at h4;exact r.inj _ _ _ _ _ _ _ _ _ h1 h2 h3 h4
   ·cases h2
  ·cases h1
 ·rcases nE h1 with h1 | ⟨_,h1⟩
  ·rw[st i (lt h1)] at h2;exact⟨i,d,p,l,h1,h2⟩
  ·cases h1
theorem kF:∀{as:List Sl} {ρ:Env} (i:Nat),as.length<=ρ.length->(back as ρ)[i]?=(as[i]?).bind λa=>match a with | .ow _ _ _=>ρ[i]? | a=>some a
 |[],ρ,i,_=>by cases ρ<;>simp[back]
 |a::as,[],i,h=>by simp at h
 |a::as,b :: ρ,i,h=>by
  have ih:=λj=>kF (as:=as) (ρ:=ρ) j (by simpa using h)
  cases i with
  |zero=>cases a<;>simp[back]
  |succ i=>cases a<;>simp[back,ih i]
theorem tP{as:List Sl}{vs:List V}{N:List Str}{n:Nat}{ρ':Env}(r:Rel K as (vs.map some) H G)(hp:as.all j8=true)(hn:N.length=as.length+n)
  (a:AftS K (as++List.replicate n .un) (L2.b0 N vs) H G ρ' σ' H' G'):Aft K as (vs.map some) H G (back as ρ') H' G'/\∀c,aI (back as ρ') (vs.map some) c->aI ρ' σ' c:=by
 have hl:as.length=vs.length:=by have:=r.len;rwa[List.length_map] at this
 have lt:∀{i:Nat} {s:Sl},as[i]?=some s->i<as.length:=λh=>(Zc.mp h).1
 have st:∀i:Nat,i<as.length->(L2.b0 N vs)[i]?=(vs.map some)[i]?:=λi h=>qL (by omega)
 have hlen:as.length<=ρ'.length:=by rw[a.len,Za];omega
 have at0:∀{i:Nat} {s:Sl},as[i]?=some s->(as++List.replicate n .un)[i]?=some s:=λh=>by rw[List.getElem?_append_left (lt h)];exact h
 have pin:∀(i:Nat) d p l,as[i]?=some (.ow d p l)->p=true/\σ'[i]?=(vs.map some)[i]?/\∃d',ρ'[i]?=some (.ow d' true l):=λi d p l h=>by(have h1:=List.all_eq_true.mp hp _ (zj h);simp only[j8] at h1;subst h1;obtain⟨h2,d',h3⟩:=a.pin i d l (at0 h);exact⟨rfl,h2.trans (st i (lt h)),d',h3⟩)
 have oth:∀{i:Nat} {s:Sl},(back as ρ')[i]?=some s->(∃d d' l,as[i]?=some (.ow d true l)/\s=.ow d' true l/\ρ'[i]?=some s/\σ'[i]?=(vs.map some)[i]?)\/(as[i]?=some s/\∀d p l,s≠.ow d p l):=λ{i s} h=>by
  rw[kF i hlen] at h
  cases e:as[i]? with
  |none=>rw[e] at h;cases h
  |some b =>
   rw[e] at h
   cases b with
   |ow d p l =>
    obtain⟨rfl,h1,d',h2⟩:=pin i d p l e;simp only[Option.bind_some] at h;rw[h2] at h;cases h;exact .inl ⟨d,d',l,rfl,rfl,h2,h1⟩
   |un=>cases h;exact .inr ⟨rfl,λd p l z=>nomatch z⟩
   |mv=>cases h;exact .inr ⟨rfl,λd p l z=>nomatch z⟩
   |sh d=>cases h;exact .inr ⟨rfl,λd p l z=>nomatch z⟩
 have blen:(back as ρ').length=as.length:=by
  apply Nat.le_antisymm
  ·refine Nat.le_of_not_lt λz=>?_
   have:=kF (as:=as) (ρ:=ρ') as.length hlen
   rw[Zb z,List.getElem?_eq_none (Zq _)] at this;cases this
  ·refine Nat.le_of_not_lt λz=>?_
   have h1:=kF (as:=as) (ρ:=ρ') (back as ρ').length hlen;rw[List.getElem?_eq_none (Zq _),Zb z] at h1
   cases e:as[(back as ρ').length] with
   |ow d p l =>
    have e':as[(back as ρ').length]?=some (.ow d p l):=by rw[Zb z,e]
    obtain⟨_,_,d',h2⟩:=pin _ d p l e';rw[e] at h1;simp only[Option.bind_some] at h1;rw[h2] at h1;cases h1
   |un=>rw[e] at h1;cases h1
   |mv=>rw[e] at h1;cases h1
   |sh d=>rw[e] at h1;cases h1
 refine⟨⟨⟨by rw[blen];exact r.len,a.rel.sub,λi d h=>?_,λi d p l h=>?_,λi j d p l d' p' l' c h1 h2 h3 h4=>?_⟩,a.ext.weaken λc z=>(r.pad hn).2 c z,λi=>?_⟩,λc ⟨i,d,p,l,h1,h2⟩=>?_⟩
 ·rcases oth h with ⟨_,_,_,_,z,_,_⟩ | ⟨z,_⟩
  ·cases z
  ·obtain⟨v,h1,h2⟩:=r.sh i d z;exact⟨v,h1,aC.mono a.ext.gg d h2⟩
 ·rcases oth h with ⟨d0,d',l',h1,h2,h3,h4⟩ | ⟨_,z⟩
  ·rw[<- h4];exact a.rel.ow i d p l h3
  ·exact absurd rfl (z d p l)
 ·rcases oth h1 with ⟨_,_,_,_,_,z3,z4⟩ | ⟨_,z⟩
  ·rcases oth h2 with ⟨_,_,_,_,_,w3,w4⟩ | ⟨_,w⟩
   ·rw[<- z4] at h3;rw[<- w4] at h4;exact a.rel.inj _ _ _ _ _ _ _ _ _ z3 w3 h3 h4
   ·exact absurd rfl (w _ _ _)
  ·exact absurd rfl (z _ _ _)
 ·rw[kF i hlen]
  cases e:as[i]? with
  |none=>trivial
  |some b =>
   cases b with
   |ow d p l =>
    obtain⟨rfl,_,d',h2⟩:=pin i d p l e;simp only[Option.bind_some];rw[h2];exact⟨rfl,rfl⟩
   |un=>trivial
   |mv=>trivial
   |sh d=>trivial
 ·rcases oth h1 with ⟨_,_,_,_,_,z3,z4⟩ | ⟨_,z⟩
  ·rw[<- z4] at h2;exact⟨i,d,p,l,z3,h2⟩
  ·exact absurd rfl (z _ _ _)
end
end CI
namespace L2
open PySem PySem.Spec PyProof.Rows
theorem dP{α β:Type}[BEq α][LawfulBEq α]:∀{l:List (α×β)} {x:α} {k:β},l.lookup x=some k->(x,k)∈l
 |[],x,k,h=>by simp at h
 | (y,k')::r,x,k,h=>by
  rw[List.lookup_cons] at h;split at h
  ·rename_i e;have e:=Zy e;subst e;cases h;exact zh
  ·exact Ze _ (dP h)
theorem S7{env:PySem.Env}{scope:Scope}(h:∀p∈scope.names,p.2=.free->∃c,env.cells.lookup p.1=some c) :
  ∃cl,closureFor scope env=pure cl/\(∀x c,cl.lookup x=some c->env.cells.lookup x=some c)/\∀p∈scope.names,p.2=.free->∃c,cl.lookup p.1=some c:=by
 have key:∀(names:List (Str×NameKind)) (acc:List (Str×Addr)),(∀p∈names,p.2=.free->∃c,env.cells.lookup p.1=some c)->(∀x c,acc.lookup x=some c->env.cells.lookup x=some c) ->
   ∃cl,(forIn names acc λ(p:Str×NameKind) (cs:List (Str×Addr))=>(if(p.2==NameKind.free)=true then do let a <- cellOf env p.1;pure (ForInStep.yield ((p.1,a)::cs)) else pure (ForInStep.yield cs):Sem _))=pure cl /\
    (∀x c,cl.lookup x=some c->env.cells.lookup x=some c)/\(∀p∈names,p.2=.free->∃c,cl.lookup p.1=some c)/\∀x c,acc.lookup x=some c->∃c',cl.lookup x=some c':=by
  intro names
  induction names with
  |nil=>intro acc _ h2;exact⟨acc,by simp,h2,λp hp=>(nomatch hp),λx c e=>⟨c,e⟩⟩
  |cons p r ih =>
   intro acc h1 h2;by_cases hp:p.2=.free
   ·obtain⟨c,hc⟩:=h1 p zh hp;have e:cellOf env p.1=pure c:=by unfold cellOf;rw[hc]
    obtain⟨cl,q1,q2,q3,q4⟩:=ih ((p.1,c)::acc) (λq hq=>h1 q (Ze _ hq)) (λx c' z=>by
     rw[List.lookup_cons] at z;split at z
     ·rename_i w;rw[Zy w,hc];exact z
     ·exact h2 x c' z)
    refine⟨cl, ?_,q2,λq hq hf=>?_,λx c' z=>?_⟩
    ·rw[List.forIn_cons];have hb:(p.2==NameKind.free)=true:=by rw[hp];rfl
     rw[Zo hb,e];simp only[pure_bind];exact q1
    ·rcases List.mem_cons.mp hq with w | w
     ·subst w;exact q4 q.1 c (by rw[List.lookup_cons];simp)
     ·exact q3 q w hf
    ·by_cases w:x=p.1
     ·subst w;exact q4 p.1 c (by rw[List.lookup_cons];simp)
     ·refine q4 x c' ?_;rw[List.lookup_cons]
      have:(x==p.1)=false:=beq_eq_false_iff_ne.mpr w
      rw[this];exact z
   ·obtain⟨cl,q1,q2,q3,q4⟩:=ih acc (λq hq=>h1 q (Ze _ hq)) h2;refine⟨cl, ?_,q2,λq hq hf=>?_,q4⟩
    ·rw[List.forIn_cons];have hb:¬(p.2==NameKind.free)=true:=by simpa using hp
     rw[Zp hb];simp only[pure_bind];exact q1
    ·rcases List.mem_cons.mp hq with w | w
     ·subst w;exact absurd hf hp
     ·exact q3 q w hf
 obtain⟨cl,q1,q2,q3,_⟩:=key scope.names [] h (λx c e=>by simp at e);refine⟨cl, ?_,q2,q3⟩;unfold closureFor
 have:(forIn scope.names ([]:List (Str×Addr)) λ(x:Str×NameKind) (r:List (Str×Addr))=>(match x with | (name,kind)=>if(kind==NameKind.free)=true then do let a <- cellOf env name;pure (ForInStep.yield ((name,a)::r)) else pure (ForInStep.yield r):Sem _))=pure cl:=q1
 simp only[this,pure_bind,bind_pure]
 first | rfl | (rw[this];rfl) | skip
theorem lY{env:PySem.Env}:∀{names:List (Str×NameKind)} {x:Str} {k':NameKind},
  (names.map λ(n,k)=>if(k==NameKind.free&&env.scope.kind==.function&&env.kindOf n==some .cell) then(n,NameKind.cell) else(n,k)).lookup x=some k'->∃k,names.lookup x=some k/\(k'=k\/(k=.free/\k'=.cell))
 |[],x,k',h=>by simp at h
 | (n,k)::r,x,k',h=>by
  have ih:=@lY env r x k';have h':List.lookup x ((if(k==NameKind.free&&env.scope.kind==.function&&env.kindOf n==some .cell)=true then(n,NameKind.cell) else(n,k))::(r.map λ(n,k)=>if(k==NameKind.free&&env.scope.kind==.function&&env.kindOf n==some .cell) then(n,NameKind.cell) else(n,k)))=some k':=h;by_cases hc:(k==NameKind.free&&env.scope.kind==.function&&env.kindOf n==some .cell)=true
  ·rw[Zo hc] at h';rw[List.lookup_cons] at h' ⊢
   cases hx:x==n with
   |true=>rw[hx] at h';cases h';simp only[ZB,beq_iff_eq] at hc;exact⟨k,rfl,.inr ⟨hc.1.1,rfl⟩⟩
   |false=>rw[hx] at h';exact ih h'
  ·rw[Zp hc] at h';rw[List.lookup_cons] at h' ⊢
   cases hx:x==n with
   |true=>rw[hx] at h';cases h';exact⟨k,rfl,.inl rfl⟩
   |false=>rw[hx] at h';exact ih h'
theorem qC{env:PySem.Env}:∀{names:List (Str×NameKind)} {x:Str},names.lookup x=some .free ->
  (names.map λ(n,k)=>if(k==NameKind.free&&env.scope.kind==.function&&env.kindOf n==some .cell) then(n,NameKind.cell) else(n,k)).lookup x=some .cell \/
  (names.map λ(n,k)=>if(k==NameKind.free&&env.scope.kind==.function&&env.kindOf n==some .cell) then(n,NameKind.cell) else(n,k)).lookup x=some .free
 |[],x,h=>by simp at h
 | (n,k)::r,x,h=>by
  have ih:=@qC env r x;show List.lookup x ((if(k==NameKind.free&&env.scope.kind==.function&&env.kindOf n==some .cell)=true then(n,NameKind.cell) else(n,k))::_)=_\/List.lookup x ((if(k==NameKind.free&&env.scope.kind==.function&&env.kindOf n==some .cell)=true then(n,NameKind.cell) else(n,k))::_)=_;rw[List.lookup_cons] at h;by_cases hc:(k==NameKind.free&&env.scope.kind==.function&&env.kindOf n==some .cell)=true
  ·rw[Zo hc,List.lookup_cons]
   cases hx:x==n with
   |true=>exact .inl rfl
   |false=>rw[hx] at h;exact ih h
  ·rw[Zp hc,List.lookup_cons]
   cases hx:x==n with
   |true=>rw[hx] at h;exact .inr h
   |false=>rw[hx] at h;exact ih h
theorem BL{prog:Program}{w:World}{A:Around}{R:Result->Shared->Prop}{s:Shared}{elt target iter:Expr}{ifs:List Expr}{scope:Scope}{pos:Pos}{it acc:Value}{env:PySem.Env}(I:Nat->Shared->Prop)
  (turn:∀n s,I n s->wpAny (model prog w) A (pyNext it) (λr s₁=>match r with
   |none=>R (.ok .next) s₁
   |some v=>wpAny (model prog w) A (letOwnedTupleGo target it v) (λ_ s₁=>wpAny (model prog w) A (assign target env v) (λ_ s₂ =>
     wpAny (model prog w) A (forIn ifs true λc r=>if r=true then do let ok <- isTrue c env (eval c env);pure (ForInStep.yield ok) else pure (ForInStep.yield r)) (λok s₃ =>
      if ok=true then wpAny (model prog w) A (eval elt env) (λx s₄ =>
       wpAny (model prog w) A (call (.builtin "list.append") [acc,x]) (λ_ s₅=>∃m,m<n/\I m s₅) (notedBy (model prog w) A env λe s'=>R (.error e) s') s₄) (notedBy (model prog w) A env λe s'=>R (.error e) s') s₃
      else ∃m,m<n/\I m s₃) (notedBy (model prog w) A env λe s'=>R (.error e) s') s₂) (notedBy (model prog w) A env λe s'=>R (.error e) s') s₁) (notedBy (model prog w) A env λe s'=>R (.error e) s') s₁) (notedBy (model prog w) A env λe s'=>R (.error e) s') s)
  (n:Nat) (h:I n s):codeAny (model prog w) A (.compLoop (.ListComp elt [⟨target,iter,ifs,0⟩] scope pos) 0 it acc env) R s:=by
 refine codeAny_loop rfl I (λn s hI=>?_) n h;show wpAny _ A ((compTurn (.ListComp elt [⟨target,iter,ifs,0⟩] scope pos) 0 it acc env).onRaise (λx=>do noteFrame x env;theTreesLotGoes x)) _ _ s;refine wpAny_noted ?_;rw[compTurn_list];refine Zt (wpAny_standAt (Zt (wpAny_mono (turn n s hI) (λr s₁ h₁=>?_) λ_ _ h'=>h')))
 cases r with
 |none=>exact Zu h₁
 |some v =>
  refine Zt (wpAny_mono h₁ (λ_ s₁' h₁'=>?_) λ_ _ h'=>h');refine Zt (wpAny_mono h₁' (λ_ s₂ h₂=>Zt (wpAny_mono h₂ (λok s₃ h₃=>?_) λ_ _ h'=>h')) λ_ _ h'=>h')
  cases ok with
  |false=>exact Zu ⟨rfl,h₃⟩
  |true =>
   exact Zt (Zt (wpAny_mono h₃ (λx s₄ h₄=>Zt (wpAny_mono h₄ (λ_ s₅ h₅=>Zu (Zu ⟨rfl,h₅⟩)) λ_ _ h'=>h')) λ_ _ h'=>h'))
noncomputable def RE(X:Cx)(scope:Scope)(cl:List (Str×Addr))(C:Addr)(N':List Str)(s₃:Shared)(H₃:Hp)(fp:List Addr)(xe:Value->Shared->Prop):Cx :=
 { X with N:=N',s₀:=s₃,H₀:=H₃,env:=compEnvC scope cl C X.env,outer:=X.stack,stack:=X.stack,ex:=fp,fn:=λ_=>false,pn:=[],xe:=xe }
def jQ(X:Cx)(scope:Scope)(N':List Str)(X':Cx):Prop:=∃cl C s₃ H₃ fp xe,X'=RE X scope cl C N' s₃ H₃ fp xe
section
variable{X:Cx}{pins:List (Addr×Obj)}{σ:St}{H:Hp}{s:Shared}
theorem OG{N:List Str}{vs:List V}{i:Nat}{v:V}(h:(b0 N vs)[i]?=some (some v)):vs[i]?=some v:=by
 unfold b0 at h;by_cases hl:i<vs.length
 ·rw[List.getElem?_append_left (by rw[List.length_map];exact hl),Zh,Zb hl] at h;rw[Zb hl];simpa using h
 ·rw[List.getElem?_append_right (by rw[List.length_map];omega),List.getElem?_replicate] at h;split at h
  ·cases h
  ·cases h
theorem Inv.block{scope:Scope}{cl:List (Str×Addr)}{N':List Str}{fp:List Addr}{xe:Value->Shared->Prop}{vs:List V}{h₄:Heap}{tk:Nat}{ob:Obj}(I:Inv X pins σ H s)
  (hkind:scope.kind=.function) (hcell:∀y∈scope.names,y.2≠.cell) (sub:∀x c,cl.lookup x=some c->X.env.cells.lookup x=some c) (hasF:∀p∈scope.names,p.2=.free->∃c,cl.lookup p.1=some c)
  (hfk:∀p∈scope.names,p.2=.free->X.env.kindOf p.1=some .cell\/X.env.kindOf p.1=some .free)
  (hf:∀b∈fp,iY X pins H b) (hfo:∀b∈fp,b<s.heap.objs.size) (hvl:vs.length<=N'.length)
  (himp:∀(i:Nat) x v,N'[i]?=some x->vs[i]?=some v->∃j:Nat,X.N[j]?=some x/\σ[j]?=some (some v)/\scope.names.lookup x=some .free)
  (m:Str->Option Value) (hns:h₄.Ns s.heap.objs.size m) (hsb:Heap.SameBut s.heap.objs.size (s.heap.push ob) h₄) :
  Inv (RE X scope cl s.heap.objs.size N' s H fp xe) [] (b0 N' vs) H { s with heap:=h₄,toks:=tk }:=by
 have old:∀b o,s.heap.get? b=some o->h₄.get? b=some o:=λb o e=>(hsb.2 b (Zz (Zv e))).trans (Zd _ e)
 have freeOf:∀x,(relabel scope X.env).names.lookup x=some .cell\/(relabel scope X.env).names.lookup x=some .free->scope.names.lookup x=some .free:=λx hx=>by
  rcases hx with hx | hx
  ·obtain⟨k,h1,h2⟩:=lY (env:=X.env) hx;rcases h2 with h2 | ⟨h2,_⟩
   ·subst h2;exact absurd rfl (hcell _ (dP h1))
   ·subst h2;exact h1
  ·obtain⟨k,h1,h2⟩:=lY (env:=X.env) hx;rcases h2 with h2 | ⟨_,h2⟩
   ·subst h2;exact h1
   ·cases h2
 have ok:(RE X scope cl s.heap.objs.size N' s H fp xe).Ok:=by
  refine⟨I.ok.mod,hkind,I.ok.glob,I.ok.blt,Zq _,λx y c h1 h2=>I.ok.inj x y c (sub x c h1) (sub y c h2),λx hx=>?_,λx c h=>(nomatch h),I.ok.hd,I.ok.frames,.inl rfl,λb hb=>⟨Zz (hfo b hb),λx c e=>(hf b hb).2.2.2.2.1 x c (sub x c e)⟩,λb o e=>I.bs b o e,Zr I.ok.bsz I.sz,λb o e hb=>?_,λb hb z=>?_,I.stack,I.stkFree⟩
  ·exact hasF (x,.free) (dP (freeOf x hx)) rfl
  ·rcases(hf b hb).2.2.2.1 with z | z
   ·exact I.ok.noex b o e z
   ·rw[(I.ok.bs b o e).1] at z;cases z
  ·rcases List.mem_cons.mp (I.stkSub b z) with z | z
   ·exact(hf b hb).2.1 z
   ·exact(hf b hb).2.2.1 z
 refine⟨ok,rfl,I.bare,Un.kept old,⟨m,hns,λi x v e1 e2 e3=>?_⟩,λx c e=>?_,I.hok.fresh (Zq _),λx c e=>I.freeC x c (sub x c e),λp hp=>(nomatch hp),I.hok.kept old, ?_⟩
 ·obtain⟨j,h1,h2,h3⟩:=himp i x v e1 (OG e2);have hk:=hfk (x,.free) (dP h3) rfl;obtain⟨m0,hn0,hl⟩:=I.loc;obtain⟨u,r,lk⟩:=hl j x v h1 h2 (.inr hk);refine⟨u,r, ?_⟩;rcases lk with ⟨k,_⟩ | ⟨k,c,e,z⟩
  ·rcases hk with hk | hk
   ·rw[hk] at k;cases k
   ·rw[hk] at k;cases k
  ·obtain⟨c',hc'⟩:=hasF (x,.free) (dP h3) rfl;have ec:=sub x c' hc';rw[e] at ec;cases ec;obtain⟨o,ho,hd⟩:=z;exact .inr ⟨qC (env:=X.env) h3,c,hc',o,old c o ho,hd⟩
 ·obtain⟨v,o,ho,hd⟩:=I.cell x c (sub x c e);exact⟨v,o,old c o ho,hd⟩
 ·show(b0 N' vs).length=N'.length;unfold b0;simp;omega
def sJ(X:Cx)(ifs:List Expr)(t:TT):Prop:=∀(pins:List (Addr×Obj)) (s:Shared) (σ:St) (H:Hp) (Q:Bool->Hp->Prop),Inv X pins σ H s->t σ H Q ->
 wpAny (model X.prog X.w) X.A (forIn ifs true λc r=>if r=true then do let ok <- isTrue c X.env (eval c X.env);pure (ForInStep.yield ok) else pure (ForInStep.yield r)) (TP X pins σ Q) X.xe s
theorem U7:sJ X [] (λσ H Q=>Q true H):=λpins s σ H Q I h=>wpAny_tests_nil ⟨H,I,h⟩
theorem TK{c:Expr}{t:TT}(h:PT X c t):sJ X [c] t:=λpins s σ H Q I q=>wpAny_tests_one (h pins s σ H Q I q)
def LC(N:List Str)(scope:Scope)(N':List Str)(g:TG)(tt:TT)(te:TE)(σ:St)(Q:VK)(J:It)(H1:Hp):Prop:=∃vs:List V,vs.length<=N'.length /\
 (∀(i:Nat) x v,N'[i]?=some x->vs[i]?=some v->∃j:Nat,N[j]?=some x/\σ[j]?=some (some v)/\scope.names.lookup x=some .free) /\
 ∀D,H1 D=none->∃(n:Nat) (LP:Nat->St->Hp->Prop),LP 0 (b0 N' vs) (aW H1 D (.lst []))/\∀i σ' H',LP i σ' H' ->
  (J.stop i H'/\Q (.ref D) H')\/(i<n/\J.go i H'/\∀x H2,J.yld i H' x H2->g x σ' H2 λσ2 H3=>tt σ2 H3 λb H4 =>
   if b=true then te σ2 H4 λy H5=>∃ys,H5 D=some (.lst ys)/\ys.length<sizeLine/\LP (i+1) σ2 (aW H5 D (.lst (ys++[y]))) else LP (i+1) σ2 H4)
noncomputable def n9(N:List Str)(scope:Scope)(N':List Str)(wi:TI)(g:TG)(tt:TT)(te:TE):TE:=λσ H Q=>wi σ H (LC N scope N' g tt te σ Q)
theorem yF{use:Option (Value->Sem Unit)}{QF:Value->Shared->Prop}{ps:Pos}{Q:VK}{elt tg iter:Expr}{ifs:List Expr}{scope:Scope}{pos:Pos}{N':List Str}{wi:TI}{g:TG}{tt:TT}{te:TE}(hc:X.calm=true)(hi:PI X tg iter wi)(hs:∀x,foldedSetIterable iter X.env x=pure x)
  (hkind:scope.kind=.function) (hcell:∀y∈scope.names,y.2≠.cell) (hnames:∀x∈scope.names,x.2=.local->scope.names.lookup x.1=some .local)
  (hfk:∀p∈scope.names,p.2=.free->X.env.kindOf p.1=some .cell\/X.env.kindOf p.1=some .free)
  (hg:∀X',jQ X scope N' X'->PG X' tg g) (ht:∀X',jQ X scope N' X'->sJ X' ifs tt) (he:∀X',jQ X scope N' X'->PE X' elt te) (I:Inv X pins σ H s) (h:n9 X.N scope N' wi g tt te σ H Q)
  (fin:∀(D C:Addr) (H':Hp) (s':Shared),Inv X pins σ H' s'->Q (.ref D) H'->H' C=none->X.s₀.heap.objs.size<=C->C≠X.env.locals->(∀x c,X.env.cells.lookup x=some c->c≠C)->(∀p∈X.pn++pins,p.1≠C)->(∃m,s'.heap.Ns C m) ->
   compPost (model X.prog X.w) X.A X.xe use QF (.ref D) C (.ok .next) s') :
  wpAny (model X.prog X.w) X.A (comprehension (.ListComp elt [⟨tg,iter,ifs,0⟩] scope pos) scope X.env ps (newList []) false (eval iter X.env) use) QF X.xe s:=by
 obtain⟨cl,hclos,sub,hasF⟩:=S7 (env:=X.env) (scope:=scope) λp hp hf=>I.ok.has p.1 (hfk p hp hf)
 refine wpAny_comprehension_free (use:=use) rfl hs hclos hkind hnames (a7 (hi pins s σ H _ I h) λv s1 h1=>a7 h1 λitv s2 h2=>?_);obtain⟨it,fp,tn,J,H2,e,I2,T,st2,f2,vs,hvl,himp,hD⟩:=h2;subst e
 have fpl:∀b∈fp,b<s2.heap.objs.size:=λb hb=>by(obtain⟨o,e,_⟩:=T.obj _ _ st2 b hb;exact Zv e)
 refine wpAny_newObj_type (wpAny_newFunctionEnv hcell (by intro y hy;simp at hy) (λh₁ hns₁ hsb₁=>?_) hkind);dsimp only at hns₁ hsb₁ ⊢;have I3:Inv X pins σ (aW H2 s2.heap.objs.size (.lst [])) { s2 with heap:=s2.heap.push { cls:=.type "list",dict:=none,data:=.seq ([]:List Value).toArray } }:=I2.lnew (its:=[]) (t':=s2.toks) .nil (Nat.zero_le _);obtain⟨n,LP,l0,turn⟩:=hD s2.heap.objs.size I2.fresh;generalize hs3:({ s2 with heap:=s2.heap.push { cls:=.type "list",dict:=none,data:=.seq ([]:List Value).toArray } }:Shared)=s3 at I3;have hh3:s3.heap=s2.heap.push { cls:=.type "list",dict:=none,data:=.seq ([]:List Value).toArray }:=by rw[<- hs3]
 rw[<- hh3] at hns₁ hsb₁ ⊢;have f3:∀b∈fp,iY X pins (aW H2 s2.heap.objs.size (.lst [])) b:=λb hb=>⟨by rw[aO (Zz (fpl b hb))];exact(f2 b hb).1,(f2 b hb).2⟩
 have fpl3:∀b∈fp,b<s3.heap.objs.size:=λb hb=>by rw[hh3,Heap.size_push];exact Nat.lt_succ_of_lt (fpl b hb)
 let R:Result->Shared->Prop:=compPost (model X.prog X.w) X.A X.xe use QF (.ref s2.heap.objs.size) s3.heap.objs.size
 let X':Cx:=RE X scope cl s3.heap.objs.size N' s3 (aW H2 s2.heap.objs.size (.lst [])) fp (notedBy (model X.prog X.w) X.A (compEnvC scope cl s3.heap.objs.size X.env) λe s'=>R (.error e) s')
 have hX':jQ X scope N' X':=⟨_,_,_,_,_,_,rfl⟩
 have I4:∀tk,Inv X' [] (b0 N' vs) (aW H2 s2.heap.objs.size (.lst [])) { s3 with heap:=h₁,toks:=tk }:=λtk=>I3.block hkind hcell sub hasF hfk f3 fpl3 hvl himp _ hns₁ hsb₁
 have old:∀b o,s3.heap.get? b=some o->h₁.get? b=some o:=λb o e=>(hsb₁.2 b (Zz (Zv e))).trans (Zd _ e)
 have st4:tn 0 h₁:=T.keep _ _ _ st2 λb hb o e=>old b o (by rw[hh3];exact Zd _ e)
 have stat:∀{H':Hp},(∀b∈fp,H' b=none)->∀b∈fp,iY X' [] H' b:=λhn b hb=>⟨hn b hb,Zz (fpl3 b hb),λz=>by
  rcases List.mem_cons.mp (I3.stkSub b z) with z | z
  ·exact(f2 b hb).2.1 z
  ·exact(f2 b hb).2.2.1 z,.inl hb,λx c e=>(f2 b hb).2.2.2.2.1 x c (sub x c e),λp hp=>(nomatch hp)⟩
 have loop:∀tk,codeAny (model X.prog X.w) X.A (.compLoop (.ListComp elt [⟨tg,iter,ifs,0⟩] scope pos) 0 (.ref it) (.ref s2.heap.objs.size) (compEnvC scope cl s3.heap.objs.size X.env)) R { s3 with heap:=h₁,toks:=tk }:=by
  intro tk;refine BL (λm s'=>∃i σ' H',m=n-i/\Inv X' [] σ' H' s'/\tn i s'.heap/\(∀b∈fp,H' b=none)/\LP i σ' H') ?_ n ⟨0,_,_,by simp,I4 tk,st4,λb hb=>(f3 b hb).1,l0⟩
  rintro m s5 ⟨i,σ5,H5,rfl,I5,st5,fr5,w5⟩
  rcases turn i σ5 H5 w5 with ⟨stop,qn⟩ | ⟨hin,go,step⟩
  ·refine a7 (T.done X' rfl rfl rfl hc i [] s5 σ5 H5 _ I5 (stat fr5) st5 stop) λr s6 ⟨hr,I6⟩=>?_
   subst hr;obtain⟨m6,hn6,_⟩:=I6.loc;have IX:Inv X pins σ H5 s6:=I3.call' (s':=s6) (ch:=fp) I6.os I6.base I6.hok I6.bare λb hb=>⟨(f2 b hb).2.2.2.1,(f2 b hb).2.1,(f2 b hb).2.2.2.2.1,(f2 b hb).2.2.2.2.2⟩
   refine fin _ _ H5 s6 IX qn I6.free I3.sz (λz=>Nat.lt_irrefl _ (Zl I3.lt (Nat.le_of_eq z))) (λx c e z=>?_) (λp hp z=>?_) ⟨m6,hn6⟩
   ·obtain⟨v,o,ho,hd⟩:=I3.cell x c e;rw[z] at ho;exact Nat.lt_irrefl _ (Zv ho)
   ·have:=(I3.pin p hp).1
    rw[z] at this;exact Nat.lt_irrefl _ (Zv this)
  ·refine a7 (T.item X' rfl rfl rfl hc i [] s5 σ5 H5 _ I5 (stat fr5) st5 go) λr s6 ⟨u,hr,h6⟩=>?_
   subst hr;refine a7 h6 λ_ s7 ⟨x,H7,I7,r7,y7,st7,fr7⟩=>?_
   have I7':=I7.pinned (stat fr7) (T.obj _ _ st7)
   have again:∀{σ8:St} {H8:Hp} {s8:Shared},Inv X' ([]++rF fp s7.heap) σ8 H8 s8->LP (i+1) σ8 H8->∃m,m<n-i/\∃i σ' H',m=n-i/\Inv X' [] σ' H' s8/\tn i s8.heap/\(∀b∈fp,H' b=none)/\LP i σ' H':=λ{σ8 H8 s8} I8 w8=>by(refine⟨n-(i+1),by omega,i+1,σ8,H8,rfl,I8.unpinned,T.keep _ _ _ st7 λb hb o e=>(I8.pin (b,o) (List.mem_append_right _ (List.mem_append_right _ (j4 hb e)))).1,λb hb=>?_,w8⟩;obtain⟨o,e,d⟩:=T.obj _ _ st7 b hb;exact(I8.pin (b,o) (List.mem_append_right _ (List.mem_append_right _ (j4 hb e)))).2.1)
   refine a7 (hg X' hX' _ s7 σ5 H7 x u _ I7' r7 (step x H7 y7)) λ_ s8 ⟨σ8,H8,I8,q8⟩=>?_
   refine a7 (ht X' hX' _ s8 σ8 H8 _ I8 q8) λb s9 ⟨H9,I9,q9⟩=>?_
   cases b with
   |false=>exact again I9 q9
   |true =>
    refine a7 (he X' hX' _ s9 σ8 H9 _ I9 q9) λy s10 ⟨yv,H10,I10,r10,ys,hy,hz,q10⟩=>?_
    refine a7 (yA (X:=X') _ s10 σ8 H10 (.ref s2.heap.objs.size) [yv] (.ref s2.heap.objs.size) [y] (λ_ H'=>LP (i+1) σ8 H') I10 rfl (.cons r10 .nil) ⟨_,ys,yv,rfl,rfl,hy,hz,q10⟩) λ_ s11 ⟨_,H11,I11,_,q11⟩=>?_
    exact again I11 q11
 subst hs3;exact codeAny_compStart_list (loop _) (T.self _ 0 _ _ _ st4 (loop _))
theorem E1{elt tg iter:Expr}{ifs:List Expr}{scope:Scope}{pos:Pos}{N':List Str}{wi:TI}{g:TG}{tt:TT}{te:TE}(hc:X.calm=true)(hi:PI X tg iter wi)(hs:∀x,foldedSetIterable iter X.env x=pure x)
  (hkind:scope.kind=.function) (hcell:∀y∈scope.names,y.2≠.cell) (hnames:∀x∈scope.names,x.2=.local->scope.names.lookup x.1=some .local)
  (hfk:∀p∈scope.names,p.2=.free->X.env.kindOf p.1=some .cell\/X.env.kindOf p.1=some .free)
  (hg:∀X',jQ X scope N' X'->PG X' tg g) (ht:∀X',jQ X scope N' X'->sJ X' ifs tt) (he:∀X',jQ X scope N' X'->PE X' elt te) :
  PE X (.ListComp elt [⟨tg,iter,ifs,0⟩] scope pos) (n9 X.N scope N' wi g tt te):=by
 intro pins s σ H Q I h;rw[eval_ListComp];refine yF (use:=none) (QF:=EP X pins σ Q) hc hi hs hkind hcell hnames hfk hg ht he I h λD C H' s' I' q hC hz hL hcl hp hm=>?_
 obtain⟨m,hm⟩:=hm;refine⟨m,hm,λh' sb=>⟨.ref D,H',I'.turned (t':=s'.toks) (λb o hb e=>(sb.2 b hb).trans e) hC hL (.inr (Heap.get?_none_of_le hz)) hcl hp,rfl,q⟩⟩
theorem AQ{elt tg iter:Expr}{ifs:List Expr}{scope:Scope}{pos py spos:Pos}{y:Str}{i:Nat}{N':List Str}{wi:TI}{g:TG}{tt:TT}{te:TE}(hsw:swapsWith (.ListComp elt [⟨tg,iter,ifs,0⟩] scope pos) (some (.Name y py)) spos.line X.env=pure true)
  (hN:X.N.Nodup) (hy:X.N[i]?=some y) (hx:yX X.env.scope y) (hf:X.fn y=true\/X.env.scope.names.lookup y=some .local) (hc:X.calm=true) (hi:PI X tg iter wi) (hs:∀x,foldedSetIterable iter X.env x=pure x)
  (hkind:scope.kind=.function) (hcell:∀y∈scope.names,y.2≠.cell) (hnames:∀x∈scope.names,x.2=.local->scope.names.lookup x.1=some .local)
  (hfk:∀p∈scope.names,p.2=.free->X.env.kindOf p.1=some .cell\/X.env.kindOf p.1=some .free)
  (hg:∀X',jQ X scope N' X'->PG X' tg g) (ht:∀X',jQ X scope N' X'->sJ X' ifs tt) (he:∀X',jQ X scope N' X'->PE X' elt te) :
  PS X (.Assign [.Name y py] (.ListComp elt [⟨tg,iter,ifs,0⟩] scope pos) spos) (PN (n9 X.N scope N' wi g tt te) (r9 i)):=by
 intro pins s σ H D0 I h;rw[exec_Assign_Name_used _ _ _ _ hsw];refine Zt (wpAny_standAt (Zt ?_));show wpAny _ X.A (do let _ <- comprehension (.ListComp elt [⟨tg,iter,ifs,0⟩] scope pos) scope X.env _ (newList []) false (eval iter X.env) (some (assign (.Name y py) X.env))) _ _ s;refine Zt (wpAny_mono (yF (use:=some (assign (.Name y py) X.env)) (QF:=λ_ s'=>SP X pins D0 .next s') hc hi hs hkind hcell hnames hfk hg ht he I h λD C H' s' I' q hC hz hL hcl hp hm=>?_) (λ_ s' hq=>Zu (Zu hq)) λ_ _ e=>e);obtain⟨m,hm⟩:=hm;refine wpAny_assign_Name (yP I' hN hy hx (v:=.ref D) rfl (λs2 I2 ⟨a,sb,ha⟩=>?_) hf)
 have hne:a≠C:=by
  rcases ha with rfl | ha
  ·exact Ne.symm hL
  ·exact hcl _ _ ha
 refine⟨m,hm.sameBut sb (Ne.symm hne),λh' sb2=>⟨_,H',I2.turned (t':=s2.toks) (λb o hb e=>(sb2.2 b hb).trans e) hC hL (.inr (Heap.get?_none_of_le hz)) hcl hp,q⟩⟩
end
end L2
namespace CI
open PySem PySem.Spec PyProof.Rows L2
section
variable{X:Cx}{K:Frag}{P:aJ}{C:Calls}{Γ:CC}
theorem bH.inner(xo:bH X K P C Γ)(hk:X.env.scope.kind=.function){scope:Scope}(nd:(eU scope++eM scope).Nodup){X':Cx}(b:jQ X scope (Γ.inner scope).N X'):bH X' K P C (Γ.inner scope):=by
 obtain⟨cl,C0,s₃,H₃,fp,xe,rfl⟩:=b;refine bH.of xo.keq rfl ?_ nd xo.calm xo.hh xo.hu xo.con xo.blt (λx f h=>?_) (λx ns h=>?_) (λm tb c f h1 h2=>?_) xo.rm xo.sub xo.subx xo.exc xo.exs (λx f h=>?_) xo.tp
 ·show(relabel scope X.env).names=(Γ.inner scope).names;unfold relabel CC.inner;simp only;congr 1
  funext p
  obtain⟨n,k⟩:=p;have e:X.env.kindOf n=Γ.names.lookup n:=by unfold PySem.Env.kindOf;rw[xo.nm]
  simp only[hk,e];simp
 ·obtain⟨fa,fd,ps,k,h1,h2,h3,h4,h5⟩:=(xo.fn x f h).ex;exact⟨⟨fa,fd,ps,k,h1,h2,h3,h4,h5⟩⟩
 ·obtain⟨Ca,fa,fd,ps,h1,h2,h3,h4,h5,h6⟩:=(xo.cls x ns h).ex;exact⟨⟨Ca,fa,fd,ps,h1,h2,h3,h4,h5,h6⟩⟩
 ·obtain⟨Ca,fa,fd,ps,k,z1,z2,z3,z4,z5,z6⟩:=(xo.mth m tb c f h1 h2).ex;exact⟨⟨Ca,fa,fd,ps,k,z1,z2,z3,z4,z5,z6⟩⟩
 ·exact⟨trivial⟩
noncomputable def vV(K:Frag)(P:aJ)(C:Calls)(cs:List E):TT:=λσ H Q=>∃(ρ:Env) (G:Hp) (b:Bool) (ρ':Env),Rel K ρ σ H G/\cI P C cs ρ=some (.ok (.sh (.bl b)),ρ') /\
 ∀H' G',Aft K ρ σ H G ρ' H' G'->Q b H'
theorem BP:sJ X [] (vV K P C []):=λpins s σ H Q I ⟨ρ,G,b,ρ',r,e,k⟩=>by
 rw[cI] at e;cases e;exact U7 pins s σ H Q I (k H G (Aft.refl r))
theorem B3{c:Expr}{cc:E}(h:Ok3 X K P C c cc):sJ X [c] (vV K P C [cc]):=λpins s σ H Q I ⟨ρ,G,b,ρ',r,e,k⟩=>by
 refine TK h.t pins s σ H Q I ?_;rw[cI] at e;obtain⟨v,ρ1,e1,e2⟩:=aK e;split at e2
 ·rw[cI] at e2;cases e2;exact⟨ρ,G,true,_,r,e1,k⟩
 ·cases e2;exact⟨ρ,G,false,_,r,e1,k⟩
 ·cases e2
theorem AftS.poke{ρ ρ':Env}{σ σ':St}{H G H' G':Hp}(b:AftS K ρ σ H G ρ' σ' H' G'){a:Addr}{o:HO}(h:H a=none)(g:G' a=none)(n:¬aI ρ' σ' a):AftS K ρ σ H G ρ' σ' (aW H' a o) G':=by
 refine⟨b.rel.poke g n,⟨b.ext.gg,λc u e nc=>?_,λc e=>?_,b.ext.gn⟩,b.own,b.un,b.pin,b.len⟩
 ·have:c≠a:=λz=>by subst z;rw[h] at e;cases e
  rw[aO this];exact b.ext.hh c u e nc
 ·by_cases hc:c=a
  ·subst hc;rw[bB] at e;cases e
  ·rw[aO hc] at e;exact b.ext.hx c e
theorem qD{tests elt:Env->aM RV}{bind:D->Env->Option Env}:∀{ds acc acc':List D} {ρ ρ':Env},c8 tests elt bind ds acc ρ=some (.ok acc',ρ')->acc.length<=acc'.length
 |[],acc,acc',ρ,ρ',e=>by simp only[c8,Option.some.injEq,Prod.mk.injEq,Out.ok.injEq] at e;rw[e.1];exact Zq _
 |d::ds,acc,acc',ρ,ρ',e=>by
  simp only[c8] at e;split at e
  ·cases e
  ·obtain⟨c,ρ2,e1,e2⟩:=aK e;split at e2
   ·obtain⟨v,ρ3,e3,e4⟩:=aK e2
    have:=qD e4
    simp at this;omega
   ·exact qD e2
   ·cases e2
theorem vN{H G:Hp}{own new:Addr->Prop}{σ:St}:∀(imp:List Nat) (ρ:Env) (as:List Sl) (ρ1:Env),Rel K ρ σ H G->bP (imp.map λ_=>true) (imp.map Hd.slot) ρ=some (as,ρ1) ->
  ∃xs,cX K H G own new σ (imp.map Hd.slot) xs/\xs.length=imp.length/\(∀a,¬kW (imp.map Hd.slot) xs a)/\∀(j:Nat) v,xs[j]?=some v->∃i:Nat,imp[j]?=some i/\σ[i]?=some (some v)
 |[],ρ,as,ρ1,r,e=>⟨[],rfl,rfl,λa z=>z,λj v h=>by simp at h⟩
 |i::imp,ρ,as,ρ1,r,e=>by
  have go:∀(ρ2:Env) (as2:List Sl) (ρ3:Env),Rel K ρ2 σ H G->bP (imp.map λ_=>true) (imp.map Hd.slot) ρ2=some (as2,ρ3)->(∃v,σ[i]?=some (some v)) ->
    ∃xs,cX K H G own new σ ((i::imp).map Hd.slot) xs/\xs.length=(i::imp).length/\(∀a,¬kW ((i::imp).map Hd.slot) xs a)/\∀(j:Nat) v,xs[j]?=some v->∃i':Nat,(i::imp)[j]?=some i'/\σ[i']?=some (some v):=by
   intro ρ2 as2 ρ3 r2 e2 ⟨v,hv⟩;obtain⟨xs,h1,h2,h3,h4⟩:=vN imp ρ2 as2 ρ3 r2 e2;refine⟨v::xs,⟨v,xs,rfl,hv,h1,λd a z=>(nomatch z)⟩,by simp[h2],λa z=>h3 a z,λj w hw=>?_⟩
   cases j with
   |zero=>simp only[zt,Option.some.injEq] at hw;subst hw;exact⟨i,rfl,hv⟩
   |succ j=>exact h4 j w (by simpa using hw)
  simp only[Zs,bP] at e;split at e
  ·rename_i d hi
   cases q:bP (imp.map λ_=>true) (imp.map Hd.slot) ρ with
   |none=>rw[q] at e;cases e
   |some y=>exact go ρ y.1 y.2 r q (r.bound (by rw[hi];rfl))
  ·rename_i d p l hi
   cases q:bP (imp.map λ_=>true) (imp.map Hd.slot) (ρ.set i .un) with
   |none=>rw[q] at e;cases e
   |some y=>exact go _ y.1 y.2 (r.unset i) q (r.bound (by rw[hi];rfl))
  ·cases e
theorem DQ{ρ1 ρ2 ρ':Env}{o:Option Nat}(ho:∀i,o=some i->∃d p l,ρ1[i]?=some (.ow d p l))(e:cC o ρ1 ρ2=some ρ')(h:gY (aL o ρ1) ρ2):gY ρ1 ρ':=by
 cases o with
 |none=>simp only[cC,Option.some.injEq] at e;subst e;exact h
 |some i =>
  obtain⟨d,p,l,hi⟩:=ho i rfl;simp only[cC] at e;split at e
  ·rename_i sl hf hs;rw[hi] at hs;cases hs;cases e;intro j;by_cases hj:j=i
   ·subst hj;rw[hi,zk (Zc.mp hf).1];exact dG.refl _
   ·have:=h j
    rw[Zf (λz=>hj z.symm)]
    have e2:(aL (some i) ρ1)[j]?=ρ1[j]?:=by(show(ρ1.set i .un)[j]?=_;rw[Zf (λz=>hj z.symm)])
    rw[e2] at this;exact this
  ·cases e
theorem D2{Γ:CC}:∀{xs:List Str} {imp:List Nat},Γ.imps xs=some imp->imp.length=xs.length/\∀(j:Nat) x i,xs[j]?=some x->imp[j]?=some i->Γ.N[i]?=some x
 |[],imp,h=>by simp only[CC.imps,Option.some.injEq] at h;subst h;exact⟨rfl,λj x i z=>by simp at z⟩
 |x::xs,imp,h=>by
  simp only[CC.imps] at h
  cases q:Γ.N.idxOf? x with
  |none=>rw[q] at h;cases h
  |some i =>
   rw[q] at h;simp only[Option.bind_some] at h
   cases q2:Γ.imps xs with
   |none=>rw[q2] at h;cases h
   |some r =>
    rw[q2] at h;simp only[Option.map_some,Option.some.injEq] at h;subst h;obtain⟨h1,h2⟩:=D2 q2;refine⟨by simp[h1],λj y k hy hk=>?_⟩
    cases j with
    |zero =>
     simp only[zt,Option.some.injEq] at hy hk;subst hy hk;exact lN q
    |succ j=>exact h2 j y k (by simpa using hy) (by simpa using hk)
structure ScOk(Γ:CC)(scope:Scope):Prop where
 kind:scope.kind=.function
 cell:∀y∈scope.names,y.2≠.cell
 names:∀x∈scope.names,x.2=.local->scope.names.lookup x.1=some .local
 free:∀x∈scope.names,x.2=.free->scope.names.lookup x.1=some .free
 out:∀p∈scope.names,p.2=.free->Γ.names.lookup p.1=some .cell\/Γ.names.lookup p.1=some .free
 nd:(eU scope++eM scope).Nodup
theorem TM{scope:Scope}(h:Γ.scOk scope=true):ScOk Γ scope:=by
 unfold CC.scOk at h;simp only[ZB,List.all_eq_true,decide_eq_true_eq,beq_iff_eq,bne_iff_ne,Bool.or_eq_true,ne_eq] at h;obtain⟨⟨⟨⟨h1,h2⟩,h3⟩,h4⟩,h5⟩:=h;refine⟨h1,h2,λx hx hl=>?_,λx hx hf=>?_,λx hx hf=>?_,h5⟩
 ·rcases h3 x hx with z | z
  ·exact absurd hl z
  ·exact z
 ·rcases h4 x hx with z | z
  ·exact absurd hf z
  ·exact z.1
 ·rcases h4 x hx with z | z
  ·exact absurd hf z
  ·exact z.2
theorem HE{scope:Scope}{x:Str}(sc:ScOk Γ scope)(h:x∈eU scope):scope.names.lookup x=some .free:=by
 unfold eU at h;obtain⟨p,hp,rfl⟩:=List.mem_map.mp h;obtain⟨h1,h2⟩:=List.mem_filter.mp hp;exact sc.free p h1 (Zy h2)
def EL(K:Frag)(ρ0:Env)(σ0:St)(H1 G2:Hp)(ds:List D)(J:It):Prop:=∀i H' ρc σ' Gc,AftS K ρ0 σ0 H1 G2 ρc σ' H' Gc->(i=ds.length->J.stop i H')/\(i<ds.length->J.go i H')/\∀d x H2,ds[i]?=some d->J.yld i H' x H2->∃Gd,Aft K ρc σ' H' Gc ρc H2 Gd/\aC K Gd d x
theorem WO{ρ1 ρ0:Env}{σ σ0:St}{H1 G1 G2:Hp}{ds:List D}{o:Option Nat}(gg2:aN G1 G2)(own:∀c,aI ρ0 σ0 c->aI (aL o ρ1) σ c) :
  (∀a vs,iV K (aL o ρ1) σ H1 G1 a vs->aA K G1 ds vs->EL K ρ0 σ0 H1 G2 ds (mB K a))/\(∀a vs,cK K G1 a vs->aA K G1 ds vs->EL K ρ0 σ0 H1 G2 ds (mN K a))/\(∀(lo:Int) (n:Nat),ds=(List.range n).map (λ(j:Nat)=>D.int (lo+(j:Int)))->EL K ρ0 σ0 H1 G2 ds (kL lo n))/\(∀a vs ds0 lo,ds=cW lo ds0->iV K (aL o ρ1) σ H1 G1 a vs->aA K G1 ds0 vs->EL K ρ0 σ0 H1 G2 ds (mD K a lo))/\(∀x,ds=AG x->PyData.strOk x=true->EL K ρ0 σ0 H1 G2 ds (Its x)):=by
 refine⟨λa vs hsrc hr=>?_,λa vs ht hr=>?_,λlo n hds=>?_,λa vs ds0 lo hds hsrc hr=>?_,λx hds hok=>?_⟩
 ·intro i H' ρc σ' Gc af
  have hnow:bV K H' a vs:=by
   rcases hsrc with h | ⟨h1,h2,h3⟩
   ·exact af.rel.sub.seq (af.ext.gg.seq (gg2.seq h))
   ·exact bV.of (af.ext.hh a _ h1 λz=>h3 (own a z))
  refine⟨λhi=>⟨vs,hnow,by rw[hr.len];omega⟩,λhi=>?_,λd x H2 hd hy=>?_⟩
  ·obtain⟨x',h1,h2⟩:=hr.get (Zb hi);exact⟨vs,x',hnow,h1⟩
  ·obtain⟨rfl,hy⟩:=hy;obtain⟨x',h1,h2⟩:=hr.get hd
   have:=hy vs hnow
   rw[h1] at this;cases this;exact⟨_,Aft.refl af.rel,aC.mono af.ext.gg d (aC.mono gg2 d h2)⟩
 ·intro i H' ρc σ' Gc af;have hnow:cK K H' a vs:=cZ af.rel.sub (cZ af.ext.gg (cZ gg2 ht));refine⟨λhi=>⟨vs,hnow,by rw[hr.len];omega⟩,λhi=>?_,λd x H2 hd hy=>?_⟩
  ·obtain⟨x',h1,h2⟩:=hr.get (Zb hi);exact⟨vs,x',hnow,h1⟩
  ·obtain⟨rfl,hy⟩:=hy;obtain⟨x',h1,h2⟩:=hr.get hd
   have:=hy vs hnow
   rw[h1] at this;cases this;exact⟨_,Aft.refl af.rel,aC.mono af.ext.gg d (aC.mono gg2 d h2)⟩
 ·intro i H' ρc σ' Gc af;have hlen:ds.length=n:=by rw[hds];simp
  refine⟨λhi=>by show n<=i;omega,λhi=>by show i<n;omega,λd x H2 hd hy=>?_⟩;obtain⟨rfl,hy⟩:=hy;have hi:i<n:=by rw[<- hlen];exact(Zc.mp hd).1
  have hd':ds[i]?=some (.int (lo+(i:Int))):=by rw[hds];simp[hi]
  rw[hd'] at hd;cases hd;subst hy;exact⟨_,Aft.refl af.rel,by simp[aC]⟩
 ·intro i H' ρc σ' Gc af;subst hds
  have hnow:bV K H' a vs:=by
   rcases hsrc with h | ⟨h1,h2,h3⟩
   ·exact af.rel.sub.seq (af.ext.gg.seq (gg2.seq h))
   ·exact bV.of (af.ext.hh a _ h1 λz=>h3 (own a z))
  refine⟨λhi=>⟨vs,hnow,by rw[hr.len,<- fB (lo:=lo)];omega⟩,λhi=>?_,λd x H2 hd hy=>?_⟩
  ·obtain⟨x',h1,h2⟩:=hr.get (Zb (by rw[fB] at hi;exact hi));exact⟨vs,x',hnow,h1⟩
  ·obtain⟨p0,y0,hn,rfl,rfl,hy⟩:=hy;have hl:i<ds0.length:=by rw[<- fB (lo:=lo)];exact(Zc.mp hd).1
   obtain⟨x',h1,h2⟩:=hr.get (Zb hl);have hy:=hy vs hnow;rw[h1] at hy;cases hy;rw[lI (Zb hl)] at hd;cases hd;exact⟨_,(Aft.refl af.rel).layG hn,CU (aN.free af.rel.sub hn) (aC.mono af.ext.gg _ (aC.mono gg2 _ h2))⟩
 ·intro i H' ρc σ' Gc af;have hlen:ds.length=x.cps.size:=by rw[hds];simp[AG]
  refine⟨λhi=>by show x.cps.size<=i;omega,λhi=>by show i<x.cps.size;omega,λd v H2 hd hy=>?_⟩;obtain⟨rfl,c,hc,rfl⟩:=hy;rw[hds] at hd;unfold AG at hd;rw[Zh,Array.getElem?_toList,hc] at hd;cases hd;refine⟨_,Aft.refl af.rel, ?_⟩;unfold aC;refine⟨rfl, ?_⟩;unfold PyData.strOk at hok ⊢
  have:=Array.all_eq_true.mp hok i (Array.getElem?_eq_some_iff.mp hc).1
  rw[(Array.getElem?_eq_some_iff.mp hc).2] at this;simpa using this
abbrev EY(K:Frag)(P:aJ)(C:Calls)(k0:ItK)(its:List E)(σ:St)(H:Hp)(R:It->Hp->Prop):Prop:=∃(ρ:Env) (G:Hp) (hs:List Hd) (ρ1:Env) (ds:List D) (o:Option Nat),Rel K ρ σ H G/\bZ P C its ρ=some (.ok hs,ρ1)/\aE k0 hs ρ1=some (ds,o) /\
   ∀H1 G1,Aft K ρ σ H G ρ1 H1 G1->(∀i,o=some i->∃d p l,ρ1[i]?=some (.ow d p l)) ->
    (∀a vs,iV K (aL o ρ1) σ H1 G1 a vs->aA K G1 ds vs->R (mB K a) H1)/\(∀a vs,cK K G1 a vs->aA K G1 ds vs->R (mN K a) H1)/\(∀(lo:Int) (n:Nat),ds=(List.range n).map (λ(j:Nat)=>D.int (lo+(j:Int)))->R (kL lo n) H1)/\(∀a vs ds0 lo,ds=cW lo ds0->iV K (aL o ρ1) σ H1 G1 a vs->aA K G1 ds0 vs->R (mD K a lo) H1)/\(∀x,ds=AG x->PyData.strOk x=true->R (Its x) H1)
abbrev Hw4(K:Frag)(P:aJ)(C:Calls)(k0:ItK)(its:List E)(σ:St)(H:Hp)(R:It->Hp->Prop):Prop:=∃(ρ:Env) (G:Hp) (hs:List Hd) (ρ1:Env) (ds:List D) (o:Option Nat),Rel K ρ σ H G/\bZ P C its ρ=some (.ok hs,ρ1)/\aE k0 hs ρ1=some (ds,o) /\
   ∀H1 G1,Aft K ρ σ H G ρ1 H1 G1->(∀i,o=some i->∃d p l,ρ1[i]?=some (.ow d p l)) ->
    (∀a vs,iV K (aL o ρ1) σ H1 G1 a vs->aA K G1 ds vs->R (mB K a) H1)/\(∀a vs,cK K G1 a vs->aA K G1 ds vs->R (mN K a) H1)/\(∀(lo:Int) (n:Nat),ds=(List.range n).map (λ(j:Nat)=>D.int (lo+(j:Int)))->R (kL lo n) H1)/\(∀a vs ds0 lo,ds=cW lo ds0->iV K (aL o ρ1) σ H1 G1 a vs->aA K G1 ds0 vs->R (mD K a lo) H1)
theorem P2{K:Frag}{P:aJ}{C:Calls}{k0:ItK}{its:List E}{σ:St}{H:Hp}{R:It->Hp->Prop}(q:EY K P C k0 its σ H R):Hw4 K P C k0 its σ H R:=by
 obtain⟨ρ,G,hs,ρ1,ds,o,r,e,ei,k⟩:=q;refine⟨ρ,G,hs,ρ1,ds,o,r,e,ei,λH1 G1 a ho=>?_⟩;obtain⟨k1,k2,k3,k4,_⟩:=k H1 G1 a ho;exact⟨k1,k2,k3,k4⟩
theorem A4(xo:bH X K P C Γ){scope:Scope}{ce:E}{k0:ItK}{its cond:List E}{imp is:List Nat}{wi:TI}{elt:Env->aM RV}(helt:∀ρ v ρ',elt ρ=some (.ok v,ρ')->ev P C false ce ρ=some (.ok v,ρ'))(sc:ScOk Γ scope)(himp:Γ.imps (eU scope)=some imp)
  (hw:∀σ H (R:It->Hp->Prop),EY K P C k0 its σ H R->wi σ H R)
  {σ:St} {H:Hp} {Q:VK} (h:∃(ρ:Env) (G:Hp) (v:RV) (ρ':Env),Rel K ρ σ H G/\evG P C elt is k0 its cond imp (eM scope).length ρ=some (.ok v,ρ')/\∀x H' G',Aft K ρ σ H G ρ' H' G'->b8 K H' G' (aI ρ' σ) (dC H) v x->((∀ρ v ρ',elt ρ=some (.ok v,ρ')->∃ds,v=.ow (.lst ds)/\ds.length<=1000)->∀a,x=.ref a->Rows H' (aI ρ' σ) (dC H) a)->Q x H'):n9 X.N scope (Γ.inner scope).N wi (gB K (is.length==1) is) (vV K P C cond) (tE K P C ce) σ H Q:=by
 obtain⟨ρ,G,v,ρ',r,e,k⟩:=h;unfold evG at e;obtain⟨hs',ρ1,e1,e2⟩:=aK e
 cases q:aE k0 hs' ρ1 with
 |none=>rw[q] at e2;cases e2
 |some y =>
  obtain⟨ds,o⟩:=y;rw[q] at e2;obtain⟨v',ρ2,e3,e4⟩:=aK e2;unfold dW at e4
  cases q3:cC o ρ1 ρ2 with
  |none=>rw[q3] at e4;cases e4
  |some ρ3 =>
   rw[q3] at e4;simp only[Option.map_some,Option.some.injEq,Prod.mk.injEq,Out.ok.injEq] at e4;obtain⟨rfl,rfl⟩:=e4;unfold n9;refine hw σ H _ ⟨ρ,G,hs',ρ1,ds,o,r,e1,q,λH1 G1 a1 ho=>?_⟩;have R0:=(jG (o:=o) a1.rel).1
   have hld:∃as ρ4,bP (imp.map λ_=>true) (imp.map Hd.slot) (aL o ρ1)=some (as,ρ4):=by
    unfold dJ at e3
    cases q4:bP (imp.map λ_=>true) (imp.map Hd.slot) (aL o ρ1) with
    |none=>rw[q4] at e3;cases e3
    |some y=>exact⟨y.1,y.2,rfl⟩
   obtain⟨as0,ρ4,hld⟩:=hld;obtain⟨xs,hx1,hx2,hx3,hx4⟩:=vN (own:=aI (aL o ρ1) σ) (new:=dC H1) imp _ _ _ R0 hld;obtain⟨as,G2,as',ra,hal,ef,⟨gg2,ao2⟩,kk⟩:=pW (Aft.refl R0) hx1 e3;unfold lS at ef;split at ef
   ·rename_i hp;obtain⟨acc,ρi,e5,e6⟩:=aK ef;split at e6
    ·rename_i hz;simp only[Option.some.injEq,Prod.mk.injEq,Out.ok.injEq] at e6;obtain⟨rfl,rfl⟩:=e6;obtain⟨il,ig⟩:=D2 himp
     have hNl:(Γ.inner scope).N.length=as.length+(eM scope).length:=by(show(eU scope++eM scope).length=_;rw[Za,hal,List.length_map,il])
     obtain⟨rp,op⟩:=ra.pad hNl;have hsz:=gF hz
     -- the block's turns
     have turns:∀(J:It),EL K (as++List.replicate (eM scope).length .un) (b0 (Γ.inner scope).N xs) H1 G2 ds J->LC X.N scope (Γ.inner scope).N (gB K (is.length==1) is) (vV K P C cond) (tE K P C ce) σ Q J H1:=by
      intro J hJ;refine Exists.intro xs ⟨by rw[hNl,hx2,hal,List.length_map];omega,λi x v hN hv=>?_,λD hD=>?_⟩
      ·obtain⟨j,hj,hσ⟩:=hx4 i v hv
       have hlt:i<(eU scope).length:=by(rw[<- il];exact(Zc.mp hj).1)
       have hfx:(eU scope)[i]?=some x:=by
        have:(eU scope++eM scope)[i]?=some x:=hN
        rwa[List.getElem?_append_left hlt] at this
       exact⟨j,by rw[xo.neq];exact ig i x j hfx hj,hσ,HE sc (zj hfx)⟩
      ·have fin:∀σ' H' Gc ys,AftS K (as++List.replicate (eM scope).length .un) (b0 (Γ.inner scope).N xs) H1 G2 ρi σ' H' Gc->H' D=some (.lst ys)->Gc D=none->¬aI ρi σ' D->aA K Gc acc ys->((∀ρ v ρ',elt ρ=some (.ok v,ρ')->∃ds,v=.ow (.lst ds)/\ds.length<=1000)->jW H' (aI ρi σ') (λb=>H1 b=none/\b≠D) ys)->Q (.ref D) H':=by
        intro σ' H' Gc ys a hHD hGD hnD hr hR;obtain⟨b1,b2⟩:=tP ra hp hNl a;obtain⟨c1,c2⟩:=kk (.ref D) H' Gc b1 ⟨D,rfl,hGD,⟨ys,hHD,hr⟩,λz=>hnD (b2 D z),hD⟩;obtain⟨d1,d2⟩:=hU a1.rel ho q3 (Aft.s R0 c1);have a2:Aft K ρ1 σ H1 G1 ρ3 H' Gc:=⟨d1.rel,d1.ext,DQ ho q3 c1.evo⟩
        obtain⟨D',e',g',o',n',f'⟩:=c2;cases e';refine k _ _ _ (a1.trans a2) ⟨D,rfl,g',o',λz=>?_,a1.fresh hD⟩ λhF c hc=>?_
        ·rcases d2 D z with z | ⟨z,_⟩
         ·exact n' z
         ·exact(a1.rel.owned z).1 hD
        ·cases hc;refine⟨ys,hHD,λx hx=>?_⟩;obtain⟨b,ws,z1,z2,z3,_,z5,z6⟩:=hR hF x hx;exact⟨b,ws,z1,z2,z3,λz=>(a1.rel.owned (a2.own b z)).1 z5,a1.fresh z5,z6⟩
       clear kk k q3 R0 ho a1 hp hNl ra hal gg2 ao2 hx1 hx2 hx3 hx4 hld e3 q e1 r himp il ig op;refine⟨ds.length,λi σ' H'=>i<=ds.length/\∃ρc Gc ac ys,AftS K (as++List.replicate (eM scope).length .un) (b0 (Γ.inner scope).N xs) H1 G2 ρc σ' H' Gc/\H' D=some (.lst ys)/\Gc D=none/\¬aI ρc σ' D/\aA K Gc ac ys/\c8 (cI P C cond) elt (aY (is.length==1) is) (ds.drop i) ac ρc=some (.ok acc,ρi)/\((∀ρ v ρ',elt ρ=some (.ok v,ρ')->∃ds,v=.ow (.lst ds)/\ds.length<=1000)->jW H' (aI ρc σ') (λb=>H1 b=none/\b≠D) ys), ?_, ?_⟩
       ·have g2:G2 D=none:=by
         cases z:G2 D with
         |none=>rfl
         |some u=>have:=rp.sub D u z;rw[hD] at this;cases this
        exact⟨Nat.zero_le _,_,G2,[],[],Aft.s rp ((Aft.refl rp).layH hD),bB,g2,rp.notOwn hD,aA.nil,e5,λ_ x hx=>nomatch hx⟩
       ·rintro i σ' H' ⟨hil,ρc,Gc,ac,ys,a,hHD,hGD,hnD,hr,ec,hR⟩
        obtain⟨j1,j2,j3⟩:=hJ i H' ρc σ' Gc a;by_cases hlt:i<ds.length
        ·refine .inr ⟨hlt,j2 hlt,λx H2 hy=>?_⟩;have hd:ds[i]?=some ds[i]:=Zb hlt;obtain⟨Gd,afd,hrep⟩:=j3 _ x H2 hd hy;have hGD:=afd.ext.gn D (by rw[hHD];simp) hGD hnD;have hR:=λz=>(hR z).step afd.ext.hh λb w=>.inl (afd.own b w)
         have hHD:=afd.ext.hh D _ hHD hnD;have hr:=aA.mono afd.ext.gg _ hr;have a:=a.trans (Aft.s a.rel afd);rw[List.drop_eq_getElem_cons hlt] at ec;simp only[c8] at ec;split at ec
         ·cases ec
         ·rename_i ρb hb;obtain⟨c,ρt,et,ec⟩:=aK ec;refine⟨ρc,Gd,ds[i],ρb,a.rel,hrep,hb,λσ1 ab=>?_⟩;have a01:=a.trans ab;have hR:=λz=>(hR z).step (λb o w _=>w) ab.own
          have nb:¬aI ρb σ1 D:=λz=>by
           rcases ab.own D z with z | z
           ·exact hnD z
           ·rw[hHD] at z;cases z
          split at ec
          ·obtain⟨w,ρe,ee,ec⟩:=aK ec;refine⟨ρb,Gd,true,ρt,ab.rel,et,λH3 G3 at3=>?_⟩;have h3:H3 D=some (.lst ys):=at3.ext.hh D _ hHD nb;have g3:G3 D=none:=at3.ext.gn D (by rw[hHD];simp) hGD nb;have n3:¬aI ρt σ1 D:=λz=>nb (at3.own D z)
           dsimp only;rw[Zo rfl];refine⟨ρt,G3,w,ρe,at3.rel,helt _ _ _ ee,λy H4 G4 a4 ry=>?_⟩;obtain⟨G5,a5,ry5⟩:=a4.share ry;have h4:H4 D=some (.lst ys):=a5.ext.hh D _ h3 n3;have g5:G5 D=none:=a5.ext.gn D (by rw[h3];simp) g3 n3;have n5:¬aI ρe σ1 D:=λz=>n3 (a5.own D z)
           have hlen:=qD ec;have hyl:=hr.len;rw[Za] at hlen;simp only[Zk,List.length_nil] at hlen;have a05:=(a01.trans (Aft.s ab.rel at3)).trans (Aft.s at3.rel a5);refine⟨ys,h4,by omega,hlt,ρe,G5,ac++[w.d],ys++[y],a05.poke hD g5 n5,bB,g5,n5, ?_,ec,λhF x hx=>?_⟩
           ·exact(aA.mono a5.ext.gg _ (aA.mono at3.ext.gg _ hr)).app (aA.cons ry5 aA.nil)
           ·rcases zp.mp hx with hx | hx
            ·obtain⟨b,ws,z1,z2,z3,z4,z5,z6⟩:=((hR hF).step at3.ext.hh λb w=>.inl (at3.own b w)).step a5.ext.hh (λb w=>.inl (a5.own b w)) x hx;exact⟨b,ws,z1,by rw[aO z6];exact z2,z3,z4,z5,z6⟩
            ·rw[ze.mp hx];obtain⟨dw,rfl,hdw⟩:=hF _ _ _ ee;obtain⟨b,rfl,_,⟨ws,z1,z2⟩,z3,z4⟩:=ry;have hbD:b≠D:=λz=>by subst z;have:H3 b=none:=z4;rw[h3] at this;cases this
             exact⟨b,ws,rfl,by rw[aO hbD];exact z1,by rw[z2.len];exact hdw,z3,(a01.trans (Aft.s ab.rel at3)).ext.hx b z4,hbD⟩
          ·refine⟨ρb,Gd,false,ρt,ab.rel,et,λH3 G3 at3=>?_⟩;have h3:H3 D=some (.lst ys):=at3.ext.hh D _ hHD nb;have g3:G3 D=none:=at3.ext.gn D (by rw[hHD];simp) hGD nb;have n3:¬aI ρt σ1 D:=λz=>nb (at3.own D z)
           dsimp only;rw[Zp (by decide)];exact⟨hlt,ρt,G3,ac,ys,a01.trans (Aft.s ab.rel at3),h3,g3,n3,aA.mono at3.ext.gg _ hr,ec,λhF=>(hR hF).step at3.ext.hh λb w=>.inl (at3.own b w)⟩
          ·cases ec
        ·have hie:i=ds.length:=by omega
         refine .inl ⟨j1 hie, ?_⟩;subst hie;rw[List.drop_length] at ec;simp only[c8,Option.some.injEq,Prod.mk.injEq,Out.ok.injEq] at ec;obtain⟨rfl,rfl⟩:=ec;exact fin _ _ _ _ a hHD hGD hnD hr hR
     have noTmp:∀c,aI as (xs.map some) c->aI (aL o ρ1) σ c:=λc z=>by
      rcases ao2 c z with z | z
      ·exact z
      ·exact absurd z (hx3 c)
     obtain⟨w1,w2,w3,w4,w5⟩:=WO (K:=K) (ρ1:=ρ1) (σ:=σ) (H1:=H1) (ds:=ds) (o:=o) gg2 λc z=>noTmp c (op c z)
     exact⟨λa vs h1 h2=>turns _ (w1 a vs h1 h2),λa vs h1 h2=>turns _ (w2 a vs h1 h2),λlo n h1=>turns _ (w3 lo n h1),λa vs ds0 lo h1 h2 h3=>turns _ (w4 a vs ds0 lo h1 h2 h3),λx h1 h2=>turns _ (w5 x h1 h2)⟩
    ·cases e6
   ·cases ef
theorem CH(xo:bH X K P C Γ){scope:Scope}{ce:E}{k0:ItK}{its cond:List E}{imp is:List Nat}{wi:TI}(sc:ScOk Γ scope)(himp:Γ.imps (eU scope)=some imp)
  (hw:∀σ H (R:It->Hp->Prop),EY K P C k0 its σ H R->wi σ H R)
  {σ:St} {H:Hp} {Q:VK} (h:tE K P C (.comp ce is k0 its cond imp (eM scope).length) σ H Q):n9 X.N scope (Γ.inner scope).N wi (gB K (is.length==1) is) (vV K P C cond) (tE K P C ce) σ H Q:=by
 obtain⟨ρ,G,v,ρ',r,e,k⟩:=h;exact A4 xo (elt:=ev P C false ce) (λ_ _ _ z=>z) sc himp hw ⟨ρ,G,v,ρ',r,e,λx H' G' a hv _=>k x H' G' a hv⟩
theorem IG(xo:bH X K P C Γ){scope:Scope}{ce:E}{k0:ItK}{its:List E}{imp is:List Nat}{wi:TI}(sc:ScOk Γ scope)(himp:Γ.imps (eU scope)=some imp)
  (hw:∀σ H (R:It->Hp->Prop),EY K P C k0 its σ H R->wi σ H R)
  {σ:St} {H:Hp} {Q:VK} (h:∃(ρ:Env) (G:Hp) (d:D) (ρ':Env),Rel K ρ σ H G/\Y7 P C ce is k0 its imp (eM scope).length ρ=some (.ok (.ow d),ρ')/\∀x H' G',Aft K ρ σ H G ρ' H' G'->b8 K H' G' (aI ρ' σ) (dC H) (.od d) x->Q x H'):n9 X.N scope (Γ.inner scope).N wi (gB K (is.length==1) is) (vV K P C []) (tE K P C ce) σ H Q:=by
 obtain⟨ρ,G,d,ρ',r,e,k⟩:=h
 have hO:∀ρ v ρ',P5 (ev P C false ce ρ)=some (.ok v,ρ')->ev P C false ce ρ=some (.ok v,ρ')/\∃ds,v=.ow (.lst ds)/\ds.length<=1000:=λρ v ρ' z=>by
  unfold P5 at z;split at z
  ·rename_i q;split at z
   ·rename_i hl;cases z;exact⟨q,_,rfl,hl⟩
   ·cases z
  ·cases z
 refine A4 xo (elt:=λρ=>P5 (ev P C false ce ρ)) (λρ v ρ' z=>(hO ρ v ρ' z).1) sc himp hw ⟨ρ,G,.ow d,ρ',r,e,λx H' G' a hv hR=>k x H' G' a ?_⟩;obtain⟨c,rfl,g,o,n,m⟩:=hv;exact⟨c,rfl,g,o,n,m,hR (λρ v ρ' z=>(hO ρ v ρ' z).2) c rfl⟩
noncomputable def WS(K:Frag)(P:aJ)(C:Calls)(c:E):TE:=λσ H Q=>match c with
 |.comp ce is k0 its [] imp nl=>∃(ρ:Env) (G:Hp) (d:D) (ρ':Env),Rel K ρ σ H G/\Y7 P C ce is k0 its imp nl ρ=some (.ok (.ow d),ρ')/\∀x H' G',Aft K ρ σ H G ρ' H' G'->b8 K H' G' (aI ρ' σ) (dC H) (.od d) x->Q x H'
 |_=>False
def EF(X:Cx)(K:Frag)(P:aJ)(C:Calls)(e:Expr)(c:E):Prop:=∀(x:Str) (i:Nat) (p pos:Pos),X.N.Nodup->X.N[i]?=some x->yX X.env.scope x->(X.fn x=true\/X.env.scope.names.lookup x=some .local) ->
 PS X (.Assign [.Name x p] e pos) (PN (tE K P C c) (r9 i))
theorem kE{e:Expr}:EF X K P C e .bad:=λx i p pos _ _ _ _ pins s σ H D I h=>by
 obtain⟨ρ,G,v,ρ',r,e,k⟩:=h;cases e
theorem U1(xo:bH X K P C Γ){elt tg iter:Expr}{ifs:List Expr}{scope:Scope}{pos:Pos}{ce:E}{k0:ItK}{its cond:List E}{imp is:List Nat}{wi:TI}(sc:ScOk Γ scope)(himp:Γ.imps (eU scope)=some imp)(htg:jN (Γ.inner scope) tg=some (is.length==1,is))
  (hi:PI X tg iter wi) (hs:∀x,foldedSetIterable iter X.env x=pure x)
  (hw:∀σ H (R:It->Hp->Prop),EY K P C k0 its σ H R->wi σ H R)
  (he:∀X',bH X' K P C (Γ.inner scope)->Ok3 X' K P C elt ce) (ht:∀X',bH X' K P C (Γ.inner scope)->sJ X' ifs (vV K P C cond)) :
  Ok3 X K P C (.ListComp elt [⟨tg,iter,ifs,0⟩] scope pos) (.comp ce is k0 its cond imp (eM scope).length)/\EF X K P C (.ListComp elt [⟨tg,iter,ifs,0⟩] scope pos) (.comp ce is k0 its cond imp (eM scope).length)/\PE X (.ListComp elt [⟨tg,iter,ifs,0⟩] scope pos) (WS K P C (.comp ce is k0 its cond imp (eM scope).length)):=by
 have all:X.env.scope.kind=.function->(∀X',jQ X scope (Γ.inner scope).N X'->PG X' tg (gB K (is.length==1) is))/\(∀X',jQ X scope (Γ.inner scope).N X'->sJ X' ifs (vV K P C cond))/\∀X',jQ X scope (Γ.inner scope).N X'->PE X' elt (tE K P C ce):=by
  intro hk;have xi:∀X',jQ X scope (Γ.inner scope).N X'->bH X' K P C (Γ.inner scope):=λX' b=>xo.inner hk sc.nd b
  have hfn:∀X',jQ X scope (Γ.inner scope).N X'->∀x,(Γ.inner scope).isLoc x=true->X'.fn x=true\/X'.env.scope.names.lookup x=some .local:=λX' b x hx=>by
   rw[(xi X' b).nm];unfold CC.isLoc at hx;rw[Bool.or_eq_true,ZB] at hx;rcases hx with hx | hx
   ·exact .inr (Zy hx)
   ·exact absurd hx.1 (by simp[CC.inner])
  exact⟨λX' b=>EU (xi X' b) (hfn X' b) htg,λX' b=>ht X' (xi X' b),λX' b=>(he X' (xi X' b)).v⟩
 have hfk:∀p∈scope.names,p.2=.free->X.env.kindOf p.1=some .cell\/X.env.kindOf p.1=some .free:=λp hp hf=>by unfold PySem.Env.kindOf;rw[xo.nm];exact sc.out p hp hf
 have hPE:PE X (.ListComp elt [⟨tg,iter,ifs,0⟩] scope pos) (tE K P C (.comp ce is k0 its cond imp (eM scope).length)):=λpins s σ H Q I h=>by(obtain⟨h1,h2,h3⟩:=all I.ok.kind;exact E1 (N':=(Γ.inner scope).N) xo.calm hi hs sc.kind sc.cell sc.names hfk h1 h2 h3 pins s σ H Q I (CH xo sc himp hw h))
 refine⟨jJ xo hPE (λi z=>nomatch z) (λρ=>rfl) λ_=>rfl,λx i p spos hN hx hl hf=>?_,λpins s σ H Q I h=>?_⟩
 case refine_2 =>
  obtain⟨h1,h2,h3⟩:=all I.ok.kind
  cases cond with
  |nil=>exact E1 (N':=(Γ.inner scope).N) xo.calm hi hs sc.kind sc.cell sc.names hfk h1 h2 h3 pins s σ H Q I (IG xo sc himp hw h)
  |cons _ _=>exact h.elim
 obtain⟨b,hb⟩:∃b:Bool,swapsWith (.ListComp elt [⟨tg,iter,ifs,0⟩] scope pos) (some (.Name x p)) spos.line X.env=pure b:=⟨_,rfl⟩
 cases b with
 |false=>exact vK hPE (D4 hN hx hl hf) hb
 |true =>
  intro pins s σ H D I h;obtain⟨h1,h2,h3⟩:=all I.ok.kind;exact AQ hb hN hx hl hf xo.calm hi hs sc.kind sc.cell sc.names hfk h1 h2 h3 pins s σ H D I (CH xo sc himp hw h)
end
structure ArgsOk(X:Cx)(K:Frag)(P:aJ)(C:Calls)(e:Expr)(cs:List E):Prop where
 h:∀(f:Str) (p:Pos) (args:List Expr) (kw:List _) (pos:Pos),e=.Call (.Name f p) args kw pos->args.all aX=true->PA X args (kP K P C cs)/\cs.length=args.length
theorem DZ{Γ:CC}:∀(es:List Expr),(cA Γ es).length=es.length
 |[]=>by rw[cA];rfl
 |e::es=>by rw[cA,Zk,Zk,DZ es]
section
variable{X:Cx}{K:Frag}{P:aJ}{C:Calls}{Γ:CC}
theorem rD{Γ:CC}{tg:Expr}{one:Bool}{is:List Nat}(h:jN Γ tg=some (one,is))(n:one=false):∃elts k p,tg=.Tuple elts k p:=by
 cases tg<;>simp only[jN,reduceCtorEq] at h
 ·rename_i x pos
  cases q:Γ.slotL x with
  |none=>rw[q] at h;cases h
  |some i=>rw[q] at h;cases h;cases n
 ·exact⟨_,_,_,rfl⟩
theorem IQ(xo:bH X K P C Γ){tg iter:Expr}{scope:Scope}{ci ce:E}{cargs cond:List E}(hci:Ok3 X K P C iter ci)(hca:ArgsOk X K P C iter cargs){Φ:E->Prop}(bad:Φ .bad)
  (good:∀{k0:ItK} {its:List E} {imp is:List Nat} {wi:TI},ScOk Γ scope->Γ.imps (eU scope)=some imp->jN (Γ.inner scope) tg=some (is.length==1,is)->PI X tg iter wi->(∀x,foldedSetIterable iter X.env x=pure x) ->
   (∀σ H (R:It->Hp->Prop),EY K P C k0 its σ H R->wi σ H R)->Φ (.comp ce is k0 its cond imp (eM scope).length)) :
  Φ (nP Γ scope tg iter ci cargs cond ce):=by
 unfold nP;split
 ·rename_i hsc;have sc:=TM hsc;split
  ·rename_i imp one is k0 its0 q1 q2 q3;split
   ·rename_i hsg;exact(Bool.false_ne_true hsg).elim
   split
   ·rename_i hone;rw[ZB,ZB] at hone;obtain⟨⟨hone,hfit⟩,hns⟩:=hone;have hone:=Zy hone;subst hone
    have gen:∀e:Expr,iter=e->uP e=true->some (ItK.of,[e])=some (k0,its0)->Φ (.comp ce is k0 (ZO k0 ci cargs) cond imp (eM scope).length):=λe he' hn hq=>by(subst he';cases hq;exact good sc q1 q2 (PI.or (EN hci.h) (LG hci.h)) (yH hn _) (λσ H R q=>QP xo.keq σ H R (P2 q)))
    unfold qZ at q3;split at q3
    ·rename_i f p args pos';split at q3
     ·rename_i hf;have hf:=Zy hf;subst hf;split at q3
      ·rename_i hgl;split at q3
       ·rename_i hc;cases q3;rw[ZB] at hc;obtain⟨h1,h2,h3,h4⟩:=CC.glob_ok xo hgl (λz=>nomatch z);have hm:=xo.blt _ h2;obtain⟨hpa,hcl⟩:=hca.h _ _ _ _ _ rfl hc.1
        match its0,cargs,hc,hpa,hcl with
        |[a],[c1],hc,hpa,_ =>
         have ns:=hc.1;rw[Zj,ZB] at ns;exact good sc q1 q2 (y6 h1 hm hpa (by rw[bJ ns.1];rfl)) (λ_=>rfl) (λσ H R q=>EZ σ H R (P2 q))
        |[a,b],[c1,c2],hc,hpa,_ =>
         have ns:=hc.1;rw[Zj,ZB,Zj,ZB] at ns;exact good sc q1 q2 (y9 h1 hm hpa (by rw[bJ ns.1,bJ ns.2.1];rfl) (by rw[bJ ns.2.1];rfl)) (λ_=>rfl) (λσ H R q=>EM σ H R (P2 q))
        |[],_,hc,_,_=>simp at hc
        |_::_::_::_,_,hc,_,_=>simp at hc
       ·cases q3
      ·cases q3
     ·split at q3
      ·rename_i hf;have hf:=Zy hf;subst hf;split at q3
       ·rename_i hgl;split at q3
        ·rename_i hc;cases q3;rw[ZB] at hc;obtain⟨h1,h2,h3,h4⟩:=CC.glob_ok xo hgl (λz=>nomatch z);have hm:=xo.blt _ h2;obtain⟨hpa,hcl⟩:=hca.h _ _ _ _ _ rfl hc.1
         match its0,cargs,hc,hpa,hcl with
         |[a],[c1],hc,hpa,_ =>
          have ns:=hc.1;rw[Zj,ZB] at ns;obtain⟨elts,kk,tp,rfl⟩:=rD q2 (by simpa[jV] using hfit);exact good sc q1 q2 (D5 h1 hm hpa (by rw[bJ ns.1];rfl)) (λ_=>rfl) (λσ H R q=>xI xo.keq σ H R (P2 q))
         |[],_,hc,_,_=>simp at hc
         |_::_::_,_,hc,_,_=>simp at hc
        ·cases q3
       ·cases q3
      ·exact gen _ rfl rfl q3
    ·split at q3
     ·split at q3
      ·cases q3;exact absurd hns (by decide)
      ·cases q3
     ·cases q3
    ·split at q3
     ·exact gen _ rfl ‹_› q3
     ·cases q3
   ·exact bad
  ·exact bad
 ·exact bad
theorem lJ(xo:bH X K P C Γ){elt tg iter:Expr}{ifs:List Expr}{scope:Scope}{pos:Pos}{ci ce:E}{cargs cond:List E}(hci:Ok3 X K P C iter ci)(hca:ArgsOk X K P C iter cargs)
  (he:∀X',bH X' K P C (Γ.inner scope)->Ok3 X' K P C elt ce) (ht:∀X',bH X' K P C (Γ.inner scope)->sJ X' ifs (vV K P C cond)) :
  Ok3 X K P C (.ListComp elt [⟨tg,iter,ifs,0⟩] scope pos) (nP Γ scope tg iter ci cargs cond ce)/\EF X K P C (.ListComp elt [⟨tg,iter,ifs,0⟩] scope pos) (nP Γ scope tg iter ci cargs cond ce)/\PE X (.ListComp elt [⟨tg,iter,ifs,0⟩] scope pos) (WS K P C (nP Γ scope tg iter ci cargs cond ce)) :=
 IQ xo hci hca (Φ:=λc=>Ok3 X K P C (.ListComp elt [⟨tg,iter,ifs,0⟩] scope pos) c/\EF X K P C (.ListComp elt [⟨tg,iter,ifs,0⟩] scope pos) c/\PE X (.ListComp elt [⟨tg,iter,ifs,0⟩] scope pos) (WS K P C c)) ⟨aQ,kE,λpins s σ H Q I h=>h.elim⟩ λsc q1 q2 hi hs hw=>U1 xo sc q1 q2 hi hs hw he ht
end
theorem HQ{Γ:CC}{a:Expr}{c:List E}(hs:A8 a=true)(h:cE Γ a=.mkrng c):∃p e r pos,a=.Call (.Name ("range":Str) p) (e::r) [] pos/\Γ.glob ("range":Str)=.blt/\(e::r).all aX=true/\c=cA Γ (e::r):=by
 unfold A8 at hs;split at hs
 ·rename_i f p e r pos;have hf:=Zy hs;subst hf;replace h:(if(e::r).all aX&&decide ((e::r)≠[]) then(match Γ.glob ("range":Str) with | .fn g=>.call g (cA Γ (e::r)) | .cls ns=>.make ("range":Str) ns (cA Γ (e::r)) | .blt=>if("range":Str)=("isinstance":Str) then GP Γ (e::r) (cA Γ (e::r)) else CY ("range":Str) (e::r) (cA Γ (e::r)) | _=>E.bad) else E.bad)=.mkrng c:=h;split at h
  ·rename_i hc;split at h
   ·cases h
   ·cases h
   ·rename_i hg;rw[Zp (by decide)] at h;unfold CY at h;rw[Zp (by decide),Zp (by decide),Zo rfl] at h;cases h;rw[ZB] at hc;exact⟨p,e,r,pos,rfl,hg,hc.1,rfl⟩
   ·cases h
  ·cases h
 ·cases hs
def aDT(i:Expr):Prop:=∃k p1 p2 p3,i=.Slice none none (some (.UnaryOp .USub (.Constant (.int 1) k p1) p2)) p3
theorem KJ{i:Expr}(h:HJ i=true):aDT i:=by
 cases i with
 |Slice lo hi st q =>
  obtain _ | _:=lo
  ·obtain _ | _:=hi
   ·obtain _ | st:=st
    ·exact yW h
    ·cases st with
     |UnaryOp op a p =>
      cases op with
      |USub =>
       cases a with
       |Constant c k p1 =>
        cases c with
        |int n =>
         have h:=Zy (show(n==1)=true from h);subst h;exact Exists.intro _ ⟨_,_,_,rfl⟩
        |_=>exact yW h
       |_=>exact yW h
      |_=>exact yW h
     |_=>exact yW h
   ·exact yW h
  ·exact yW h
 |_=>exact yW h
theorem aCq(Γ:CC)(a i:Expr)(p:Pos):(∃lo hi q,i=.Slice lo hi none q)\/((∀lo hi q,i≠.Slice lo hi none q)/\cE Γ (.Subscript a i p)=if HJ i then .bad else .ix (cE Γ a) (cE Γ i)):=by
 cases i with
 |Slice lo hi st q =>
  cases st with
  |none=>exact .inl ⟨_,_,_,rfl⟩
  |some _=>exact .inr ⟨(λ_ _ _ z=>nomatch z),rfl⟩
 |_=>exact .inr ⟨(λ_ _ _ z=>nomatch z),rfl⟩
def x5(K:Frag)(P:aJ)(C:Calls)(n:Nat):Prop:=∀(X:Cx) (Γ:CC),bH X K P C Γ->∀e:Expr,sizeOf e<n->Ok3 X K P C e (cE Γ e)
theorem bI{a b n:Nat}(h:a<b)(k:b<n+1):a<n:=Zl h (Nat.le_of_lt_succ k)
section
variable{X:Cx}{K:Frag}{P:aJ}{C:Calls}{Γ:CC}{n:Nat}
theorem rN{e:Expr}{r:List Expr}(h:sizeOf (e::r)<n):sizeOf e<n:=Nat.lt_trans (by simp;omega) h
theorem zV{e:Expr}{r:List Expr}(h:sizeOf (e::r)<n):sizeOf r<n:=Nat.lt_trans (by simp;omega) h
theorem zS(ih:x5 K P C n)(xo:bH X K P C Γ):∀es:List Expr,sizeOf es<n->es.all aX=true->PA X es (AM K P C (cA Γ es))
 |[],_,_=>UY
 |e::r,hs,h=>by(rw[Zj,ZB] at h;exact M5 (ih _ _ xo e (rN hs)) (zS ih xo r (zV hs) h.2) h.1)
theorem jC(ih:x5 K P C n)(xo:bH X K P C Γ):∀es:List Expr,sizeOf es<n->es.all aX=true->PA X es (kP K P C (cA Γ es))
 |[],_,_=>VQ
 |e::r,hs,h=>by(rw[Zj,ZB] at h;exact M3 (ih _ _ xo e (rN hs)) (jC ih xo r (zV hs) h.2) h.1)
theorem QW(ih:x5 K P C n)(xo:bH X K P C Γ):∀vs:List Expr,sizeOf vs<n->vs≠[]->Ok2 X K P C .And vs (OD Γ vs)
 |[],_,h=>absurd rfl h
 |[a],hs,_=>M9 (ih _ _ xo a (rN hs))
 |a::b::r,hs,_=>DY (ih _ _ xo a (rN hs)) (QW ih xo (b::r) (zV hs) (λz=>nomatch z))
theorem W4(ih:x5 K P C n)(xo:bH X K P C Γ):∀vs:List Expr,sizeOf vs<n->vs≠[]->Ok2 X K P C .Or vs (YC Γ vs)
 |[],_,h=>absurd rfl h
 |[a],hs,_=>UW (ih _ _ xo a (rN hs))
 |a::b::r,hs,_=>JU (ih _ _ xo a (rN hs)) (W4 ih xo (b::r) (zV hs) (λz=>nomatch z))
theorem o_n(ih:x5 K P C n)(xo:bH X K P C Γ):∀o:Option Expr,sizeOf o<n->PO X o (tO K P C (cO Γ o))
 |none,_=>NS
 |some e,hs=>N6 (ih _ _ xo e (Nat.lt_trans (by simp) hs))
theorem BD(ih:x5 K P C n)(xo:bH X K P C Γ)(e:Expr)(hs:sizeOf e<n):ArgsOk X K P C e (AA Γ e):=by
 cases e<;>first
  | (rename_i f args kw pos;exact⟨λf' p' args' kw' pos' z ns=>by cases z;exact⟨jC ih xo args (Nat.lt_trans (by simp;omega) hs) ns,DZ args⟩⟩)
  |exact⟨λf' p' args' kw' pos' z ns=>by cases z⟩
end
theorem WI{X:Cx}{K:Frag}{P:aJ}{C:Calls}{Γ:CC}{n:Nat}(ih:x5 K P C n)(xo:bH X K P C Γ)(e:Expr)(hsz:sizeOf e<n+1):Ok3 X K P C e (cE Γ e):=by
 cases e with
 |Name x p =>
  exact E4 xo _ _
 |Constant c k p =>
  exact NO xo _ _ _
 |Tuple es k p =>
  show Ok3 X K P C _ (if es.all aX then .tup (cA Γ es) else .bad);split
  ·exact YK xo (zS ih xo _ (bI (by simp;omega) hsz) ‹_›)
  ·exact aQ
 |List es p =>
  show Ok3 X K P C _ (if es.all aX then .lst (cA Γ es) else .bad);split
  ·exact X0 xo (zS ih xo _ (bI (by simp;omega) hsz) ‹_›)
  ·exact aQ
 |Dict ks vs p=>exact aQ
 |BinOp a op b p =>
  exact X2 xo (ih _ _ xo _ (bI (by simp;omega) hsz)) (ih _ _ xo _ (bI (by simp;omega) hsz))
 |UnaryOp op a p =>
  cases op with
  |Not =>
   exact YV xo (ih _ _ xo _ (bI (by simp;omega) hsz))
  |USub =>
   exact aAy xo (ih _ _ xo _ (bI (by simp;omega) hsz))
  |_=>exact aQ
 |Compare a ops cs p =>
  obtain _ | ⟨op,_ | ⟨op',_ | ⟨_,_⟩⟩⟩:=ops
  ·exact aQ
  ·obtain _ | ⟨b,_ | ⟨_,_⟩⟩:=cs
   ·exact aQ
   ·show Ok3 X K P C _ (if behindInMarks op b then .bad else .cmp op (cE Γ a) (cE Γ b));split
    ·exact aQ
    ·exact WN xo (ih _ _ xo _ (bI (by simp;omega) hsz)) (ih _ _ xo _ (bI (by simp;omega) hsz)) (by rename_i h;simpa using h)
   ·exact aQ
  ·obtain _ | ⟨b,_ | ⟨c,_ | ⟨_,_⟩⟩⟩:=cs
   ·exact aQ
   ·exact aQ
   ·show Ok3 X K P C _ (if behindInMarks op' c then .bad else .cmp2 op op' (cE Γ a) (cE Γ b) (cE Γ c));split
    ·exact aQ
    ·exact R6 xo (ih _ _ xo _ (bI (by simp;omega) hsz)) (ih _ _ xo _ (bI (by simp;omega) hsz)) (ih _ _ xo _ (bI (by simp;omega) hsz)) (by rename_i h;simpa using h)
   ·exact aQ
  ·exact aQ
 |BoolOp op vs p =>
  obtain _ | ⟨a,_ | ⟨b,r⟩⟩:=vs
  ·cases op<;>exact aQ
  ·cases op<;>exact aQ
  ·cases op with
   |And =>
    exact(DY (ih _ _ xo _ (bI (by simp;omega) hsz)) (QW ih xo _ (bI (by simp;omega) hsz) (by simp))).ok3 λi z=>nomatch z
   |Or =>
    exact(JU (ih _ _ xo _ (bI (by simp;omega) hsz)) (W4 ih xo _ (bI (by simp;omega) hsz) (by simp))).ok3 λi z=>nomatch z
 |IfExp c a b p =>
  exact aQ
 |Subscript a i p =>
  rcases aCq Γ a i p with ⟨lo,hi,q,rfl⟩ | ⟨hn,e⟩
  ·exact aCO xo (ih _ _ xo _ (bI (by simp;omega) hsz)) (o_n ih xo _ (bI (by simp;omega) hsz)) (o_n ih xo _ (bI (by simp;omega) hsz))
  ·rw[e];split
   ·rename_i hr;obtain⟨k,p1,p2,p3,rfl⟩:=KJ hr;exact aQ
   ·exact aB7 xo (ih _ _ xo _ (bI (by simp;omega) hsz)) (ih _ _ xo _ (bI (by simp;omega) hsz)) (FO hn)
 |Call fn args kw pos =>
  cases fn with
  |Name f p =>
   cases kw with
   |nil =>
    show Ok3 X K P C _ (if args.all aX&&decide (args≠[]) then(match Γ.glob f with | .fn g=>.call g (cA Γ args) | .cls ns=>.make f ns (cA Γ args) | .blt=>if f=("isinstance":Str) then GP Γ args (cA Γ args) else CY f args (cA Γ args) | _=>.bad) else .bad);split
    ·rename_i hc;rw[ZB] at hc;obtain⟨ns,ne⟩:=hc
     cases args with
     |nil=>simp at ne
     |cons a r =>
      split
      ·rename_i g hg;exact UO xo hg ns (jC ih xo _ (bI (by simp;omega) hsz) ns)
      ·rename_i g hg;exact V8 xo hg ns (zS ih xo _ (bI (by simp;omega) hsz) ns)
      ·rename_i hg;split
       ·rename_i hf;subst hf;unfold GP;split
        ·rename_i t a' _ e1 e2;split
         ·rename_i ty hty;simp only[cA,List.cons.injEq] at e1 e2;obtain⟨rfl,rfl⟩:=e1;obtain⟨rfl,_⟩:=e2;rw[Zj,ZB] at ns;exact aQ
         ·simp only[cA,List.cons.injEq] at e1 e2;obtain⟨rfl,rfl⟩:=e1;obtain⟨rfl,_⟩:=e2;rw[Zj,ZB] at ns
          (unfold ZA;repeat' split)<;>exact aQ
        ·exact aQ
       ·unfold CY;split
        ·rename_i hf2;subst hf2;exact vH xo hg (b:=.len) rfl ns (jC ih xo _ (bI (by simp;omega) hsz) ns)
        ·split
         ·exact aQ
         ·split
          ·exact NV
          ·split
           ·rename_i hf2;subst hf2;unfold Q6;split
            ·rename_i a' c e1 hcs;cases e1;simp only[cA,List.cons.injEq,and_true] at hcs;split
             ·rename_i his;obtain⟨p2,e2,e3,pos2,rfl,hg2,ns2,rfl⟩:=HQ his hcs;exact TU xo hg hg2 ns2 (jC ih xo _ (bI (by simp;omega) hsz) ns2)
             ·exact vH xo hg (b:=.list) rfl ns (jC ih xo _ (bI (by simp;omega) hsz) ns)
            ·exact vH xo hg (b:=.list) rfl ns (jC ih xo _ (bI (by simp;omega) hsz) ns)
           ·split
            ·rename_i b hb;exact vH xo hg hb ns (jC ih xo _ (bI (by simp;omega) hsz) ns)
            ·exact aQ
      ·exact aQ
    ·exact aQ
   |cons _ _=>exact aQ
  |Attribute o m apos =>
   cases o with
   |Name x p =>
    cases kw with
    |nil =>
     show Ok3 X K P C _ (NQ Γ x m apos pos args (cA Γ args));unfold NQ;split
     ·rename_i tb hm;split
      ·rename_i hc;rw[ZB,ZB] at hc;obtain⟨⟨ns,hl⟩,hf⟩:=hc;split
       ·exact UK xo ‹_› hm ns hl (of_decide_eq_true hf) (jC ih xo _ (bI (by simp;omega) hsz) ns) λz=>by rw[z,cA]
       ·exact aQ
      ·exact aQ
     ·split
      ·rename_i a c hcs;split
       ·rename_i hc;rw[ZB,ZB] at hc;obtain⟨⟨ns,hl⟩,hm⟩:=hc;have hm:=Zy hm;subst hm;split
        ·simp only[cA,List.cons.injEq] at hcs;obtain⟨rfl,_⟩:=hcs;exact YQ xo ‹_› hl ns (ih _ _ xo _ (bI (by simp;omega) hsz))
        ·exact aQ
       ·split
        ·rename_i hc;rw[ZB,ZB] at hc;obtain⟨⟨ns,hl⟩,hm⟩:=hc;have hm:=Zy hm;subst hm;split
         ·simp only[cA,List.cons.injEq] at hcs;obtain⟨rfl,_⟩:=hcs;exact YL xo ‹_› hl ns (ih _ _ xo _ (bI (by simp;omega) hsz))
         ·exact aQ
        ·split
         ·rename_i hc;rw[ZB,ZB] at hc;obtain⟨⟨ns,hl⟩,hm⟩:=hc;have hm:=Zy hm;subst hm;split
          ·simp only[cA,List.cons.injEq] at hcs;obtain⟨rfl,_⟩:=hcs;exact T7 xo ‹_› hl ns (ih _ _ xo _ (bI (by simp;omega) hsz))
          ·exact aQ
         ·exact aQ
      ·split
       ·rename_i hc;rw[ZB] at hc;obtain⟨hl,hm⟩:=hc;have hm:=Zy hm;subst hm;exact aQ
       ·exact aQ
      ·rename_i a b c c' hcs;split
       ·rename_i hc;rw[ZB,ZB,ZB] at hc;obtain⟨⟨⟨ns,ns2⟩,hl⟩,hm⟩:=hc;have hm:=Zy hm;subst hm;split
        ·simp only[cA,List.cons.injEq] at hcs;obtain⟨rfl,rfl,_⟩:=hcs;exact aQ
        ·exact aQ
       ·exact aQ
      ·exact aQ
    |cons _ _=>exact aQ
   |Call g as kw2 p2 =>
    cases as with
    |nil=>exact aQ
    |cons a0 as0 =>
     cases kw with
     |nil =>
      show Ok3 X K P C _ (GL Γ m apos pos args (cE Γ (.Call g (a0::as0) kw2 p2)) (cA Γ args));unfold GL;split
      ·rename_i tb hm;split
       ·rename_i hc;rw[ZB,ZB] at hc;exact aQ
       ·exact aQ
      ·exact aQ
     |cons _ _=>exact aQ
   |_=>exact aQ
  |_=>exact aQ
 |Attribute o f p =>
  cases o with
  |Name x q =>
   exact ZE xo
  |_=>exact aQ
 |ListComp elt gs scope pos =>
  obtain _ | ⟨⟨tg,iter,ifs,m⟩,_ | ⟨_,_⟩⟩:=gs
  ·exact aQ
  ·obtain _ | ⟨c,_ | ⟨_,_⟩⟩:=ifs<;>obtain(_ | _) | _:=m
   ·exact(lJ xo (ih _ _ xo _ (bI (by simp;omega) hsz)) (BD ih xo _ (bI (by simp;omega) hsz)) (λX' xo'=>ih _ _ xo' _ (bI (by simp;omega) hsz)) (λX' xo'=>BP)).1
   ·exact aQ
   ·exact aQ
   ·exact(lJ xo (ih _ _ xo _ (bI (by simp;omega) hsz)) (BD ih xo _ (bI (by simp;omega) hsz)) (λX' xo'=>ih _ _ xo' _ (bI (by simp;omega) hsz)) (λX' xo'=>B3 (ih _ _ xo' _ (bI (by simp;omega) hsz)))).1
   all_goals exact aQ
  ·obtain _ | ⟨c,_ | ⟨_,_⟩⟩:=ifs<;>obtain(_ | _) | _:=m<;>exact aQ
 |_=>exact aQ
theorem rS{K:Frag}{P:aJ}{C:Calls}:∀n:Nat,x5 K P C n
 | 0=>λ_ _ _ _ h=>absurd h (Nat.not_lt_zero _)
 |n+1=>λ_ _ xo e h=>WI (rS n) xo e h
section
variable{X:Cx}{K:Frag}{P:aJ}{C:Calls}{Γ:CC}
theorem fV(xo:bH X K P C Γ)(e:Expr):Ok3 X K P C e (cE Γ e):=rS _ _ _ xo e (Nat.lt_succ_self _)
theorem A2(xo:bH X K P C Γ)(e:Expr):ArgsOk X K P C e (AA Γ e):=BD (rS _) xo e (Nat.lt_succ_self _)
theorem rR(xo:bH X K P C Γ)(es:List Expr)(h:es.all aX=true):PA X es (kP K P C (cA Γ es)):=jC (rS _) xo es (Nat.lt_succ_self _) h
end
theorem aAo{X:Cx}{K:Frag}{P:aJ}{C:Calls}{Γ:CC}(xo:bH X K P C Γ)(e:Expr)(h:HI e=true):EF X K P C e (cE Γ e):=by
 cases e<;>simp only[HI,Bool.false_eq_true] at h;rename_i elt gs scope pos;obtain _ | ⟨⟨tg,iter,ifs,n⟩,_ | ⟨_,_⟩⟩:=gs
 ·exact kE
 ·obtain _ | ⟨c,_ | ⟨_,_⟩⟩:=ifs<;>obtain(_ | _) | _:=n
  ·exact(lJ xo (fV xo iter) (A2 xo iter) (λX' xo'=>fV xo' elt) (λX' xo'=>BP)).2.1
  ·exact kE
  ·exact kE
  ·exact(lJ xo (fV xo iter) (A2 xo iter) (λX' xo'=>fV xo' elt) (λX' xo'=>B3 (fV xo' c))).2.1
  all_goals exact kE
 ·obtain _ | ⟨c,_ | ⟨_,_⟩⟩:=ifs<;>obtain(_ | _) | _:=n<;>exact kE
section
variable{X:Cx}{K:Frag}{P:aJ}{C:Calls}{W:Nat}{Γ:CC}
theorem P1{e:Expr}{t u:TE}(h1:PE X e t)(h2:PE X e u):PE X e (λσ H Q=>t σ H Q\/u σ H Q):=λpins s σ H Q I q=>q.elim (h1 pins s σ H Q I) (h2 pins s σ H Q I)
end
section
variable{X:Cx}{pins:List (Addr×Obj)}{σ:L2.St}{H:Hp}{s:Shared}
end
section
variable{K:Frag}{ρ0 ρ:Env}{σ:St}{H0 G0 H G:Hp}
end
section
variable{X:Cx}{K:Frag}{P:aJ}{C:Calls}{Γ:CC}
end
section
variable{X:Cx}{K:Frag}{P:aJ}{C:Calls}{W:Nat}{Γ:CC}
def gD(Γ:CC)(e:Expr):Prop:=(∃f p a r pos g,e=.Call (.Name f p) (a::r) [] pos/\Γ.glob f=.fn g/\(a::r).all aX=true/\cE Γ e=.call g (cA Γ (a::r)))\/∃elt tg iter ifs sc pos,e=.ListComp elt [⟨tg,iter,ifs,0⟩] sc pos/\(ifs=[]\/∃c1,ifs=[c1])
end
section
variable{X:Cx}{K:Frag}{P:aJ}{C:Calls}{W:Nat}{Γ:CC}{pins pins':List (Addr×Obj)}{σ:St}{H G:Hp}{s:Shared}
abbrev Cx.re(X:Cx)(E:Value->Shared->Prop)(pn:List (Addr×Obj)):Cx:={ X with xe:=E,pn:=pn }
abbrev Cx.ma(X:Cx)(v:Value):Cx:={ X with A:=X.A.mark (some v),calm:=false,xe:=λ_ _=>False }
theorem bH.re{E:Value->Shared->Prop}{pn:List (Addr×Obj)}(xo:bH X K P C Γ):bH (Cx.re X E pn) K P C Γ :=
 bH.of xo.keq xo.neq xo.nm xo.nd xo.calm xo.hh xo.hu xo.con xo.blt (λx f h=>⟨(xo.fn x f h).ex⟩) (λx ns h=>⟨(xo.cls x ns h).ex⟩) (λm tb c f h1 h2=>⟨(xo.mth m tb c f h1 h2).ex⟩) xo.rm xo.sub xo.subx xo.exc xo.exs (λx f h=>⟨(xo.fnX x f h).ex⟩) xo.tp
theorem MP{body o f:List Stmt}{hs:List ExceptHandler}{cb:List S}{pos:Pos}
  (hb:∀E pn,PassesOwn (model X.prog X.w) X.A X.env E->f6 (Cx.re X E pn) body (pD K P C W cb)):PS X (.Try body hs o f pos) (tS K P C W (Q8 cb hs o f)):=bK
end
section
variable{X:Cx}{K:Frag}{P:aJ}{C:Calls}{W:Nat}{Γ:CC}
end
section
variable{X:Cx}{K:Frag}{P:aJ}{C:Calls}{W:Nat}{Γ:CC}
theorem OU(xo:bH X K P C Γ){x:Str}{i:Nat}(h:Γ.slotL x=some i):X.N[i]?=some x/\L2.yX X.env.scope x/\Γ.isLoc x=true:=by
 unfold CC.slotL at h;split at h
 ·rename_i hl
  have hN:X.N[i]?=some x:=by
   unfold CC.slot at h;split at h
   ·cases h
   ·split at h
    ·rw[xo.neq];exact lN h
    ·cases h
  refine⟨hN, ?_,hl⟩;unfold L2.yX;rw[xo.nm];unfold CC.isLoc at hl;rw[Bool.or_eq_true,ZB] at hl;rcases hl with hl | hl
  ·exact .inl (Zy hl)
  ·exact .inr (Zy hl.2)
 ·cases h
theorem UX(xo:bH X K P C Γ)(hfn:∀x,Γ.isLoc x=true->X.fn x=true\/X.env.scope.names.lookup x=some .local){x:Str}{i:Nat}{e:Expr}{c:E}{p pos:Pos}(hi:Γ.slotL x=some i)(h:EF X K P C e c):PS X (.Assign [.Name x p] e pos) (tS K P C W (.asg i c)):=by
 obtain⟨h1,h2,h3⟩:=OU xo hi;refine TS.imp_ps (h x i p pos (by rw[xo.neq];exact xo.nd) h1 h2 (hfn x h3)) λD σ H ⟨ρ,G,fl,ρ',r,e,k⟩=>?_
 obtain⟨v,ρ1,e1,e2⟩:=gO e k.ne;unfold i8 at e2
 cases q:store i v ρ1 with
 |none=>rw[q] at e2;cases e2
 |some ρ2 =>
  rw[q] at e2;cases e2;exact⟨ρ,G,v,ρ1,r,e1,λx H' G' a hv=>k _ H' G' (Aft.store r a q hv)⟩
theorem RU(po:PassesOwn (model X.prog X.w) X.A X.env X.xe)(xo:bH X K P C Γ)(hfn:∀x,Γ.isLoc x=true->X.fn x=true\/X.env.scope.names.lookup x=some .local){tg it:Expr}{body:List Stmt}{pos:Pos}{one:Bool}{is:List Nat}{k0:ItK}{its:List Expr}{cb:List S}
  (ht:jN Γ tg=some (one,is)) (hi:qZ Γ it=some (k0,its)) (hfit:jV k0 one=true) (hb:f6 X body (pD K P C W cb)):PS X (.For tg it body [] pos) (tS K P C W (.for is one k0 (cA Γ its) cb)):=by
 have hg:=EU xo hfn ht
 have gen:∀e:Expr,it=e->uP e=true->some (ItK.of,[e])=some (k0,its)->PS X (.For tg it body [] pos) (tS K P C W (.for is one k0 (cA Γ its) cb)):=λe he hn hq=>by(subst he;cases hq;exact qY po xo hg hb (yH hn _) (PI.or (EN (fV xo it).h) (LG (fV xo it).h)) λσ H R q=>QP xo.keq σ H R q)
 unfold qZ at hi;split at hi
 ·rename_i f p args pos';split at hi
  ·rename_i hf;have hf:=Zy hf;subst hf;split at hi
   ·rename_i hgl;split at hi
    ·rename_i hc;cases hi;rw[ZB] at hc;obtain⟨h1,h2,h3,h4⟩:=CC.glob_ok xo hgl (λz=>nomatch z);have hm:=xo.blt _ h2
     match its,hc with
     |[a],hc =>
      have ns:=hc.1;rw[Zj,ZB] at ns;exact qY po xo hg hb (λ_=>rfl) (y6 h1 hm (rR xo [a] hc.1) (by rw[bJ ns.1];rfl)) λσ H R q=>EZ σ H R q
     |[a,b],hc =>
      have ns:=hc.1;rw[Zj,ZB,Zj,ZB] at ns;exact qY po xo hg hb (λ_=>rfl) (y9 h1 hm (rR xo [a,b] hc.1) (by rw[bJ ns.1,bJ ns.2.1];rfl) (by rw[bJ ns.2.1];rfl)) λσ H R q=>EM σ H R q
     |[],hc=>simp at hc
     |_::_::_::_,hc=>simp at hc
    ·cases hi
   ·cases hi
  ·split at hi
   ·rename_i hf;have hf:=Zy hf;subst hf;split at hi
    ·rename_i hgl;split at hi
     ·rename_i hc;cases hi;rw[ZB] at hc;obtain⟨h1,h2,h3,h4⟩:=CC.glob_ok xo hgl (λz=>nomatch z);have hm:=xo.blt _ h2
      match its,hc with
      |[a],hc =>
       have ns:=hc.1;rw[Zj,ZB] at ns;obtain⟨elts,kk,tp,rfl⟩:=rD ht (by simpa[jV] using hfit);exact qY po xo hg hb (λ_=>rfl) (D5 h1 hm (rR xo [a] hc.1) (by rw[bJ ns.1];rfl)) λσ H R q=>xI xo.keq σ H R q
      |[],hc=>simp at hc
      |_::_::_,hc=>simp at hc
     ·cases hi
    ·cases hi
   ·exact gen _ rfl rfl hi
 ·split at hi
  ·rename_i hc;rw[ZB,ZB,ZB] at hc;obtain⟨⟨⟨hf,hx⟩,ns⟩,h1⟩:=hc;have hf:=Zy hf;have hx:=Zy hx;have h1:=Zy h1;subst hf hx h1;split at hi
   ·rename_i hgl;cases hi;obtain⟨h1,h2,h3,h4⟩:=CC.glob_ok xo hgl (λz=>nomatch z);have hm:=xo.blt _ h2;obtain⟨elts,kk,tp,rfl⟩:=rD ht (by simpa[jV] using hfit);exact qY po xo hg hb (λ_=>rfl) (MU h1 hm (rR xo [_] (by rw[Zj,ns];rfl)) (by rw[bJ ns];rfl)) λσ H R q=>xI xo.keq σ H R q
   ·cases hi
  ·cases hi
 ·split at hi
  ·exact gen _ rfl ‹_› hi
  ·cases hi
theorem TC(po:PassesOwn (model X.prog X.w) X.A X.env X.xe)(xo:bH X K P C Γ)(hfn:∀x,Γ.isLoc x=true->X.fn x=true\/X.env.scope.names.lookup x=some .local){tg it:Expr}{body:List Stmt}{pos:Pos}{one:Bool}{is:List Nat}{k0:ItK}{its:List Expr}{cb:List S}
  (ht:jN Γ tg=some (one,is)) (hi:qZ Γ it=some (k0,its)) (hfit:jV k0 one=true) (hb:f6 X body (pD K P C W cb)):PS X (.For tg it body [] pos) (tS K P C W (.for is one k0 (Q7 Γ it body (cA Γ its)) cb)):=by
 exact RU po xo hfn ht hi hfit hb
mutual
theorem aCm{X:Cx}(po:PassesOwn (model X.prog X.w) X.A X.env X.xe)(xo:bH X K P C Γ)(hfn:∀x,Γ.isLoc x=true->X.fn x=true\/X.env.scope.names.lookup x=some .local)(sk:Γ.top=true->X.stack=X.env::X.outer/\X.env.frame=some X.env.locals)(st:Stmt):PS X st (tS K P C W (cS Γ st)):=by
 cases st with
 |Pass _=>exact MY
 |Break _=>exact R7
 |Continue _=>exact UE
 |Return e _ =>
  cases e with
  |some e=>exact SU (fV xo e)
  |none=>exact N8
 |Expr e _ =>
  show PS X _ (tS K P C W (if cU e then .expr (cE Γ e) else .bad));split
  ·exact NZ (fV xo _) ‹_›
  ·exact bK
 |If c a b _=>exact W8 (fV xo _) (mR po xo hfn sk a) (mR po xo hfn sk b)
 |While c b o _ =>
  cases o with
  |nil=>exact bK
  |cons _ _=>exact bK
 |For tg it b o _ =>
  cases o with
  |nil =>
   show PS X _ (tS K P C W (match jN Γ tg,qZ Γ it with
    |some (one,is),some (k,its)=>if jV k one then .for is one k (Q7 Γ it b (cA Γ its)) (qU Γ b) else .bad
    |_,_=>.bad))
   cases h1:jN Γ tg with
   |none=>exact bK
   |some t =>
    cases h2:qZ Γ it with
    |none=>exact bK
    |some u =>
     show PS X _ (tS K P C W (if jV u.1 t.1 then .for t.2 t.1 u.1 (Q7 Γ it b (cA Γ u.2)) (qU Γ b) else .bad));split
     ·exact TC po xo hfn h1 h2 ‹_› (mR po xo hfn sk b)
     ·exact bK
  |cons _ _=>exact bK
 |Assign ts e _ =>
  obtain _ | ⟨t,_ | ⟨_,_⟩⟩:=ts
  ·exact bK
  ·cases t with
   |Name x p =>
    show PS X _ (tS K P C W (match Γ.slotL x with | some i=>if cU e||HI e then .asg i (cE Γ e) else .bad | none=>.bad));split
    ·split
     ·rename_i hc;rw[Bool.or_eq_true] at hc;rcases hc with hc | hc
      ·exact WJ xo hfn ‹_› (fV xo _) hc
      ·exact UX xo hfn ‹_› (aAo xo _ hc)
     ·exact bK
    ·exact bK
   |Tuple ts _ _ =>
    show PS X _ (tS K P C W (match gL Γ ts with | some is=>if cU e&&vM e then .asgT is (cE Γ e) else .bad | none=>.bad));split
    ·split
     ·rename_i h;rw[ZB] at h;exact OC xo hfn ‹_› (fV xo _) h.1 h.2
     ·exact bK
    ·exact bK
   |Subscript a k _ =>
    cases a with
    |Name x p =>
     show PS X _ (tS K P C W (match Γ.slot x with | some i=>if cU e&&A7 k then .set i (cE Γ k) (cE Γ e) else .bad | none=>.bad));split
     ·split
      ·rename_i h;rw[ZB] at h;refine US xo ‹_› (fV xo _) (fV xo _) h.1 λv=>?_
       have h2:=h.2
       cases k<;>first | rfl | cases h2
      ·exact bK
     ·exact bK
    |_=>exact bK
   |_=>exact bK
  ·cases t with
   |Subscript a _ _=>cases a<;>exact bK
   |_=>exact bK
 |AugAssign t op e _ =>
  cases t with
  |Name x p =>
   cases op with
   |Add =>
    show PS X _ (tS K P C W (match Γ.slotL x with | some i=>if cU e then .bad else .bad | none=>.bad));split
    ·split
     ·exact bK
     ·exact bK
    ·exact bK
   |_=>exact bK
  |_=>exact bK
 |Raise e c _ =>
  cases e with
  |none=>exact bK
  |some e =>
   cases c with
   |none =>
    show PS X _ (tS K P C W (O5 Γ e));unfold O5;split
    ·split
     ·split
      ·exact D3 λρ=>rfl
      ·exact bK
     ·exact bK
    ·exact bK
   |some _=>exact bK
 |Try body hs o f _=>exact MP λE pn po'=>mR (X:=Cx.re X E pn) po' xo.re hfn sk body
 |_=>exact bK
theorem mR{X:Cx}(po:PassesOwn (model X.prog X.w) X.A X.env X.xe)(xo:bH X K P C Γ)(hfn:∀x,Γ.isLoc x=true->X.fn x=true\/X.env.scope.names.lookup x=some .local)(sk:Γ.top=true->X.stack=X.env::X.outer/\X.env.frame=some X.env.locals)(sts:List Stmt):f6 X sts (pD K P C W (qU Γ sts)):=by
 cases sts with
 |nil=>exact MJ
 |cons s r=>exact JA (aCm po xo hfn sk s) (mR po xo hfn sk r)
end
end
noncomputable def j6(ps:List Str):Nat->List Stmt->Option (List Str)
 |j,[]=>if j=ps.length then some [] else none
 |j,.Assign [.Attribute (.Name s _) f _] (.Name q _) _::r=>if ps[0]?=some s/\ps[j]?=some q/\eC s=false/\eC q=false then(j6 ps (j+1) r).map (f :: ·) else none
 |_,_=>none
theorem B0{f:Str}{y:V}:∀{fs:List (Str×V)},f ∉ fs.map (·.1)->fS f y fs=fs++[(f,y)]
 |[],_=>rfl
 | (g,x)::r,h=>by(rw[Zs,List.mem_cons,not_or] at h;rw[fS,Zp (λz=>h.1 z.symm),B0 h.2];rfl)
theorem aAX{H:Hp}{a:Addr}{o:HO}(h:H a=some o):aW H a o=H:=by
 funext b
 unfold aW;split
 ·rename_i z;rw[z,h]
 ·rfl
theorem I0{ps:List Str}{j:Nat}{st:Stmt}{r:List Stmt}{ns:List Str}(h:j6 ps j (st::r)=some ns):∃s p1 f p2 q p3 p4 ns',st=.Assign [.Attribute (.Name s p1) f p2] (.Name q p3) p4/\(ps[0]?=some s/\ps[j]?=some q/\eC s=false/\eC q=false)/\j6 ps (j+1) r=some ns'/\ns=f::ns':=by
 cases st with
 |Assign tgs e pos =>
  obtain _ | ⟨tg,_ | ⟨_,_⟩⟩:=tgs
  ·exact xZ h
  ·cases tg with
   |Attribute v f p2 =>
    cases v with
    |Name s p =>
     cases e with
     |Name q p3 =>
      replace h:(if ps[0]?=some s/\ps[j]?=some q/\eC s=false/\eC q=false then(j6 ps (j+1) r).map (f :: ·) else none)=some ns:=h;split at h
      ·obtain⟨ns',h1,h2⟩:=Option.map_eq_some_iff.mp h;exact⟨_,_,_,_,_,_,_,ns',rfl,‹_›,h1,h2.symm⟩
      ·exact xZ h
     |_=>exact xZ h
    |_=>exact xZ h
   |_=>exact xZ h
  ·cases tg with | Attribute v _ _=>cases v<;>exact xZ h | _=>exact xZ h
 |_=>exact xZ h
theorem x6{X:Cx}{K:Frag}{ps:List Str}{xs:List V}{a:Addr}{Ca dx:Addr}(hK:X.K=K)(hN:∀(i:Nat) x,ps[i]?=some x->X.N[i]?=some x/\IH X.env.scope x)(hl:xs.length+1=ps.length)(cl:Cls K Ca):∀(r:List Stmt) (j:Nat) (ns:List Str),j6 ps j r=some ns->1<=j ->
  ∃t,f6 X r t/\∀(D:Ends) (σ:L2.St) (H:Hp) (fs:List (Str×V)),(∀(i:Nat) v,(V.ref a::xs)[i]?=some v->σ[i]?=some (some v))->H a=some (.ins Ca dx fs)->(∀f∈ns,jH K Ca f)->(fs.map (·.1)++ns).Nodup->fs.length+ns.length<1000 ->
   D.nx σ (aW H a (.ins Ca dx (fs++ns.zip (xs.drop (j-1)))))->t D σ H
 |[],j,ns,h,hj=>by
  replace h:(if j=ps.length then some [] else none)=some ns:=h;split at h
  ·rename_i hje;cases h;refine⟨FE,EI,λD σ H fs _ ha _ _ _ q=>?_⟩;simp only[List.zip_nil_left,List.append_nil] at q;rw[aAX ha] at q;exact q
  ·cases h
 |st::r,j,ns,h,hj=>by
  obtain⟨s,p1,f,p2,q,p3,p4,ns',rfl,⟨c1,c2,c3,c4⟩,q1,rfl⟩:=I0 h;obtain⟨t,ht,k⟩:=x6 hK hN hl cl r (j+1) ns' q1 (by omega);simp only[eC,Bool.or_eq_false_iff] at c3 c4;have v0:=BV (X:=X) (pos:=p1) (hN 0 s c1).1 (hN 0 s c1).2 c3.1.1 c3.1.2;have v1:=BV (X:=X) (pos:=p3) (hN j q c2).1 (hN j q c2).2 c4.1.1 c4.1.2;refine⟨_,CW (YF v0 v1 rfl) ht,λD σ H fs hσ ha hn LA hlt qq=>?_⟩;have hj2:j<ps.length:=(Zc.mp c2).1;obtain⟨j',rfl⟩:∃j',j=j'+1:=⟨j-1,by omega⟩
  have hxl:j'<xs.length:=by omega
  have hx:(V.ref a::xs)[j'+1]?=some xs[j']:=by simp[hxl]
  have hnf:f ∉ fs.map (·.1):=λz=>by
   have:=(List.nodup_append.mp LA).2.2 f z f (by simp)
   exact this rfl
  refine⟨_,hσ _ _ hx,.ref a,hσ 0 _ rfl,a,Ca,dx,fs,rfl,ha,by rw[hK];exact cl,by rw[hK];exact hn f (by simp),by simp at hlt;omega, ?_⟩;rw[B0 hnf];refine k D σ _ _ hσ bB (λg hg=>hn g (Ze _ hg)) ?_ ?_ ?_
  ·simpa using LA
  ·simp at hlt ⊢;omega
  ·rw[EG]
   have e:fs++(f::ns').zip (xs.drop (j'+1-1))=fs++[(f,xs[j'])]++ns'.zip (xs.drop (j'+1+1-1)):=by(rw[show j'+1-1=j' from rfl,show j'+1+1-1=j'+1 from rfl,List.drop_eq_getElem_cons hxl,List.zip_cons_cons,List.append_assoc];rfl)
   rw[<- e];exact qq
theorem UQ{Pr:Program}{w:World}{K:Frag}{mg:Str->Option Value}{base:Heap}{y qual:Str}{st:Stmt}{fa:Addr}{fd:FuncData}{N ps ns:List Str}(F:Fun K y qual st fa fd)(S:FnScope N ps (aV st))(hb:j6 ps 1 (bW st)=some ns)(hp:ps.length=ns.length+1)(LA:ns.Nodup)(hlt:ns.length<1000) :
  FnOk Pr w K mg base pT 1 fa fd ps (JG K ns):=by
 refine F.ok S (λvs H Q E h=>?_) λcdv A outer s H vs Q E hr h=>?_
 ·obtain⟨a,Ca,dx,xs,rfl,h1,_⟩:=h;rw[Zk,h1,hp]
 ·obtain⟨a,Ca,dx,xs,rfl,h1,h2,h3,q⟩:=h
  have hNN:∀(i:Nat) x,ps[i]?=some x->N[i]?=some x/\IH (aV st) x:=λi x hx=>by
   have hm:x∈ps:=zj hx;refine⟨?_, ?_⟩
   ·have:=S.pre
    rw[<- this,List.getElem?_take] at hx;split at hx
    ·exact hx
    ·cases hx
   ·rcases S.par x hm with z | z
    ·exact .inl z
    ·exact .inr (.inl z)
  obtain⟨t,ht,k⟩:=x6 (X:=(pY pT Pr w K mg base N qual (aV st) fa cdv A outer s H E).nox) (K:=K) (ps:=ps) (xs:=xs) (a:=a) (Ca:=Ca) (dx:=dx) rfl hNN (by omega) h3.cl (bW st) 1 ns hb (Zq _)
  ·refine⟨t,ht,k _ _ H [] (λi v hv=>?_) h2 h3.no (by simpa using LA) (by simpa using hlt) ?_⟩
   ·have hl:i<(V.ref a::xs).length:=(Zc.mp hv).1;rw[qL hl,Zh,hv];rfl
   ·simpa using q
structure EntB(K:Frag)(T:hX)(gl:Str->GV)(f:String)(fa:Addr)(fd:FuncData)(ps:List Str):Prop where
 bd:fZ K fd ps []
 ex:∃(y qual:Str) (st:Stmt) (N:List Str) (fn:Fn),Fun K y qual st fa fd/\FnScope N ps (aV st)/\N.Nodup/\T f=some fn/\fn.body=qU ⟨N,(aV st).names,gl,true⟩ (bW st)/\N.length=fn.pins.length+fn.nl/\ps.length=fn.pins.length
structure Entry(K:Frag)(mg:Str->Option Value)(T:hX)(gl:Str->GV)(x:Str)(f:String)(fa:Addr)(fd:FuncData)(ps:List Str):Prop where
 mgx:mg x=some (.ref fa)
 kp:PySem.W.keepIn K (.ref fa)=true
 b:EntB K T gl f fa fd ps
structure ClsE(K:Frag)(mg:Str->Option Value)(x:Str)(ns:List Str):Prop where
 ex:∃(Ca fa:Addr) (fd:FuncData) (ps:List Str) (y qual:Str) (st:Stmt) (N:List Str),nsIn K mainGlobals x=some (some (.ref Ca))/\mg x=some (.ref Ca)/\Mk K Ca fa/\ClsF K Ca ns /\
  Fun K y qual st fa fd/\FnScope N ps (aV st)/\j6 ps 1 (bW st)=some ns/\ps.length=ns.length+1/\ns.Nodup/\ns.length<1000/\fZ K fd ps []
structure MthE(K:Frag)(T:hX)(gl:Str->GV)(c m:Str)(f:String):Prop where
 ex:∃(Ca fa:Addr) (fd:FuncData) (ps:List Str),nsIn K mainGlobals c=some (some (.ref Ca))/\Meth K Ca m fa/\EntB K T gl f fa fd ps/\Cls K Ca
structure Globs(K:Frag)(mg:Str->Option Value)(T:hX)(gl:Str->GV):Prop where
 con:∀x d,gl x=.con d->∃u v,mg x=some u/\a8 v u/\∀G,aC K G d v
 blt:∀x,gl x=.blt->mg x=none
 fn:∀x f,gl x=.fn f->∃fa fd ps,Entry K mg T gl x f fa fd ps
 cls:∀x ns,gl x=.cls ns->ClsE K mg x ns
 mth:∀m tb c f,gl (rA m)=.mth tb->tb.lookup c=some f->MthE K T gl c m f
 sub:∀x s n,gl (sV x)=.sub s n->SubAt K mg x s n
 subx:∀x s n,gl (sV x)=.subx s n->SubX K mg x s n
 exc:∀x,gl x=.exc->ExcAt K mg x
 exs:∀x cs,gl (JO x)=.exs cs->ExsAt K mg x cs
theorem AF{b:Bool}{o:Option (Exc×Env)}{as as':List Sl}{v:RV}(h:(if b=true then(match o with | some (x,ρ)=>(some (Out.ex x,back as ρ):aM RV) | none=>none) else none)=some (.ok v,as')):False:=by
 split at h
 ·split at h<;>cases h
 ·cases h
theorem BR{Pr:Program}{w:World}{K:Frag}{mg:Str->Option Value}{base:Heap}{T:hX}{gl:Str->GV}(W:Nat)(g:Globs K mg T gl):∀(d:Nat) (f:String) (fa:Addr) (fd:FuncData) (ps:List Str),
  EntB K T gl f fa fd ps->FnOk Pr w K mg base pT (d+2) fa fd ps (JK K (T.pins f).length (run T W d f))/\True
 | 0,f,fa,fd,ps,e=>⟨⟨λvs H Q E h=>by obtain⟨_,as,G,v,as',_,_,z,_⟩:=h;simp[run] at z,λA outer s H args us vs Q E _ _ _ _ h=>by obtain⟨_,as,G,v,as',_,_,z,_⟩:=h;simp[run] at z⟩,trivial⟩
 |d+1,f,fa,fd,ps,e=>by
  obtain⟨y,qual,st,N,fn,F,S,nd,hT,hb,hN,hps⟩:=e.ex;have hpin:T.pins f=fn.pins:=by unfold hX.pins;rw[hT]
  refine⟨F.ok S (λvs H Q E h=>by rw[h.1,hpin,hps]) λcdv A outer s H vs Q E hr h=>?_, ?_⟩
  ·obtain⟨hl,as,G,v,as',rel,hal,er,k⟩:=h
   let X:Cx:=(pY pT Pr w K mg base N qual (aV st) fa cdv A outer s H E).nox
   let Γ:CC:=⟨N,(aV st).names,gl,true⟩
   have xo:bH X K T.pins (run T W d) Γ:=by
    refine bH.of rfl rfl rfl nd rfl hr.hd hr.units g.con g.blt (λx' f' hx=>?_) (λx' ns hx=>?_) (λm tb c f' h1 h2=>?_) (hr.mono (by omega)) g.sub g.subx g.exc g.exs (λx' f' hx=>?_) ⟨_,_,_,rfl,rfl,rfl⟩
    ·obtain⟨fa',fd',ps',e'⟩:=g.fn x' f' hx;exact⟨fa',fd',ps',d+2,(BR W g d f' fa' fd' ps' e'.b).1,hr,e'.mgx,e'.kp,e'.b.bd⟩
    ·obtain⟨Ca,fa',fd',ps',y',qual',st',N',h1,h2,h3,h4,h5,h6,h7,h8,h9,h10,h11⟩:=(g.cls x' ns hx).ex;exact⟨Ca,fa',fd',ps',h1,h2,h3,h4,UQ h5 h6 h7 h8 h9 h10,h11⟩
    ·obtain⟨Ca,fa',fd',ps',h3,h4,e',hcl⟩:=(g.mth m tb c f' h1 h2).ex;exact⟨Ca,fa',fd',ps',d+2,h3,h4,(BR W g d f' fa' fd' ps' e').1,hr,e'.bd,hcl⟩
    ·exact⟨trivial⟩
   refine⟨_,mR (W:=W) (X:=X) (Γ:=Γ) PassesOwn.never xo (λ_ _=>.inl rfl) (λ_=>⟨rfl,rfl⟩) (bW st), ?_⟩;simp only[run,hT] at er;split at er
   ·rename_i hc;rw[hb] at er;have hNa:N.length=as.length+fn.nl:=by rw[hN,hc.1]
    have hpad:=rel.pad hNa
    cases q:exs T.pins (run T W d) W (qU ⟨N,(aV st).names,gl,true⟩ (bW st)) (as++List.replicate fn.nl .un) with
    |none=>rw[q] at er;exact(AF er).elim
    |some y =>
     obtain⟨fl,ρ'⟩:=y;rw[q] at er;refine⟨as++List.replicate fn.nl .un,G,fl,ρ',hpad.1,q, ?_⟩
     cases fl with
     |nx =>
      cases er;intro σ' H' G' a;obtain⟨b1,b2⟩:=tP rel hc.2 hNa a;exact k .non H' G' b1 (by show aC K G' .non _;simp[aC])
     |rt v' =>
      cases er;intro x' σ' H' G' a hv;obtain⟨b1,b2⟩:=tP rel hc.2 hNa a;refine k x' H' G' b1 ?_
      have key:∀c,¬aI ρ' σ' c->(aI (as++List.replicate fn.nl .un) (b0 N vs) c\/H c=none)->H c=none:=λc nc mc=>by
       rcases mc with mc | mc
       ·have:=hpad.2 c mc
        obtain⟨i,d1,p1,l1,h1,h2⟩:=this;refine absurd ?_ nc
        apply b2 c
        have hp:=List.all_eq_true.mp hc.2 _ (zj h1);simp only[j8] at hp;subst hp
        have:=b1.evo i
        rw[h1] at this
        cases q3:(back as ρ')[i]? with
        |none=>rw[q3] at this;exact this.elim
        |some s =>
         rw[q3] at this
         cases s with
         |ow d2 p2 l2=>exact⟨i,d2,p2,l2,q3,h2⟩
         |sh d2=>exact absurd (show true=false from this) (by simp)
         |un=>exact this.elim
         |mv=>exact this.elim
       ·exact mc
      cases v with
      |sh d0=>exact hv
      |ow d0 =>
       obtain⟨c,rfl,gc,oc,nc,mc⟩:=hv;exact⟨c,rfl,gc,oc,λz=>nc (b2 c z),key c nc mc⟩
      |od d0 =>
       obtain⟨c,rfl,gc,oc,nc,mc,ys,hy,hr⟩:=hv;exact⟨c,rfl,gc,oc,λz=>nc (b2 c z),key c nc mc,ys,hy,λx hx=>let ⟨b,ws,h1,h2,h3,h4,h5,h6⟩:=hr x hx;⟨b,ws,h1,h2,h3,λz=>h4 (b2 b z),key b h4 h5,h6⟩⟩
     |bk=>exact(AF er).elim
     |ct=>exact(AF er).elim
     |ex x'=>exact(AF er).elim
   ·cases er
  ·trivial
def cH(st:Stmt):List Str:=(dX st).args.map (·.arg)
noncomputable def vX(st:Stmt):List Str:=cH st++(((aV st).names.filter λy=>(y.2==.local||y.2==.cell) && !(cH st).contains y.1).map (·.1))
def K0(gl:Str->GV)(st:Stmt):List S:=qU ⟨vX st,(aV st).names,gl,true⟩ (bW st)
structure MthAt(K:Frag)(x m qual:Str)(st:Stmt):Prop where
 ex:∃(Ca f:Addr) (oc:Value) (od an:Option Addr) (kV doc pm cdv ct:Value) (osl:Array (Option Value)),nsIn K mainGlobals x=some (some (.ref Ca))/\findIn K (.ref Ca) m=some (some (.ref f))/\PySem.W.isFn K (.ref f)=true /\
  K.lookup f=some ⟨oc,od,.func (PySem.W.fnOf m qual (dX st) (bW st) (aV st) .none kV doc pm an cdv ct),osl⟩/\PySem.W.codeIn K cdv qual=true/\PySem.W.keepIn K (.ref f)=true
theorem dM{K:Frag}{x m qual:Str}{st:Stmt}{Ca f:Addr}{oc:Value}{od an:Option Addr}{kV doc pm cdv ct:Value}{osl:Array (Option Value)}(a:nsIn K mainGlobals x=some (some (.ref Ca)))(b:findIn K (.ref Ca) m=some (some (.ref f)))(i:PySem.W.isFn K (.ref f)=true)
  (l:K.lookup f=some ⟨oc,od,.func (PySem.W.fnOf m qual (dX st) (bW st) (aV st) .none kV doc pm an cdv ct),osl⟩) (c:PySem.W.codeIn K cdv qual=true) (k:PySem.W.keepIn K (.ref f)=true):MthAt K x m qual st :=
 ⟨Ca,f,oc,od,an,kV,doc,pm,cdv,ct,osl,a,b,i,l,c,k⟩
structure ClsAt(K:Frag)(x:Str):Prop where
 ex:∃Ca:Addr,nsIn K mainGlobals x=some (some (.ref Ca))/\Cls K Ca/\PySem.W.makesIn K Ca=true/\PySem.W.keepIn K (.ref Ca)=true
theorem kM{K:Frag}{x:Str}{Ca:Addr}(a:nsIn K mainGlobals x=some (some (.ref Ca)))(pg:PySem.W.plainGet K Ca Str.empty=true)(hd:PySem.W.hasDictIn K Ca=true)(po:PySem.W.plainOver K Ca=true)
  (sa:findIn K (.ref Ca) "__setattr__"=some (some (.builtin "object.__setattr__"))) (mk:PySem.W.makesIn K Ca=true) (kp:PySem.W.keepIn K (.ref Ca)=true):ClsAt K x:=⟨Ca,a,⟨pg,hd,po,sa⟩,mk,kp⟩
def iC(K:Frag)(x f:Str):Prop:=∃Ca:Addr,nsIn K mainGlobals x=some (some (.ref Ca))/\findIn K (.ref Ca) f=some none
theorem gN{K:Frag}{x f:Str}{Ca:Addr}(a:nsIn K mainGlobals x=some (some (.ref Ca)))(b:findIn K (.ref Ca) f=some none):iC K x f:=⟨Ca,a,b⟩
structure DefAt(K:Frag)(x:Str)(st:Stmt):Prop where
 ex:∃(f:Addr) (oc:Value) (od an:Option Addr) (kV doc pm cdv ct:Value) (osl:Array (Option Value)),nsIn K mainGlobals x=some (some (.ref f)) /\
  K.lookup f=some ⟨oc,od,.func (PySem.W.fnOf x x (dX st) (bW st) (aV st) .none kV doc pm an cdv ct),osl⟩/\PySem.W.codeIn K cdv x=true/\PySem.W.keepIn K (.ref f)=true
theorem cB{K:Frag}{x:Str}{st:Stmt}{f:Addr}{oc:Value}{od an:Option Addr}{kV doc pm cdv ct:Value}{osl:Array (Option Value)}(a:nsIn K mainGlobals x=some (some (.ref f)))
  (l:K.lookup f=some ⟨oc,od,.func (PySem.W.fnOf x x (dX st) (bW st) (aV st) .none kV doc pm an cdv ct),osl⟩) (c:PySem.W.codeIn K cdv x=true) (k:PySem.W.keepIn K (.ref f)=true):DefAt K x st :=
 ⟨f,oc,od,an,kV,doc,pm,cdv,ct,osl,a,l,c,k⟩
structure DefOkQ(gl:Str->GV)(st:Stmt)(x qual:Str)(fn:Fn):Prop where
 sc:FnScope (vX st) (cH st) (aV st)
 body:fn.body=K0 gl st
 len:(vX st).length=fn.pins.length+fn.nl
 pl:(cH st).length=fn.pins.length
 bind:∀(kV doc pm:Value) (an:Option Addr) (cdv ct:Value) (us:List Value),us.length=(cH st).length->bindArgs (PySem.W.fnOf x qual (dX st) (bW st) (aV st) .none kV doc pm an cdv ct) ⟨us,[]⟩=pure ((cH st).zip us)
abbrev cM(gl:Str->GV)(st:Stmt)(x:Str)(fn:Fn):Prop:=DefOkQ gl st x x fn
theorem xN{K:Frag}{T:hX}{gl:Str->GV}{x qual:Str}{f:String}{st:Stmt}{fn:Fn}{fa:Addr}{fd:FuncData}(F:Fun K x qual st fa fd)(O:DefOkQ gl st x qual fn)(hT:T f=some fn):EntB K T gl f fa fd (cH st) :=
 ⟨F.binds O.bind,x,qual,st,vX st,fn,F,O.sc,O.sc.nd,hT,O.body,O.len,O.pl⟩
theorem iT{K:Frag}{T:hX}{gl:Str->GV}{x m qual:Str}{f:String}{st:Stmt}{fn:Fn}(A:ClsAt K x)(D:MthAt K x m qual st)(O:DefOkQ gl st m qual fn)(hT:T f=some fn):MthE K T gl x m f:=by
 obtain⟨Ca,fa,oc,od,an,kV,doc,pm,cdv,ct,osl,a,b,i,l,c,k⟩:=D.ex;obtain⟨Cb,a',cl,_,_⟩:=A.ex;rw[a] at a';cases a';exact⟨Ca,fa,_,cH st,a,⟨b,i,k⟩,xN (v8 (st:=st) l c k) O hT,cl⟩
structure IniOk(st:Stmt)(qual:Str)(ns:List Str):Prop where
 sc:FnScope (vX st) (cH st) (aV st)
 body:j6 (cH st) 1 (bW st)=some ns
 pl:(cH st).length=ns.length+1
 nd:ns.Nodup
 lt:ns.length<1000
 bind:∀(kV doc pm:Value) (an:Option Addr) (cdv ct:Value) (us:List Value),us.length=(cH st).length->bindArgs (PySem.W.fnOf "__init__" qual (dX st) (bW st) (aV st) .none kV doc pm an cdv ct) ⟨us,[]⟩=pure ((cH st).zip us)
theorem kT{K:Frag}{mg:Str->Option Value}{h:Heap}{x qual:Str}{st:Stmt}{ns:List Str}(X:K.In h)(G:h.Ns mainGlobals mg)(A:ClsAt K x)(D:MthAt K x "__init__" qual st)(O:IniOk st qual ns)(N:∀f∈ns,iC K x f):ClsE K mg x ns:=by
 obtain⟨Ca,a,cl,mk,kp⟩:=A.ex;obtain⟨Cb,fa,oc,od,an,kV,doc,pm,cdv,ct,osl,a',b,i,l,c,k⟩:=D.ex;rw[a] at a';cases a';have F:=v8 (st:=st) l c k;refine⟨Ca,fa,_,cH st,"__init__",qual,st,vX st,a,PySem.W.mg_of X G a,⟨mk,b,i,kp⟩,⟨cl,λf hf=>?_⟩,F,O.sc,O.body,O.pl,O.nd,O.lt,F.binds O.bind⟩;obtain⟨Cc,a2,b2⟩:=N f hf;rw[a] at a2;cases a2;exact b2
theorem bL{K:Frag}{mg:Str->Option Value}{h:Heap}{T:hX}{gl:Str->GV}{x:Str}{f:String}{st:Stmt}{fn:Fn}(X:K.In h)(G:h.Ns mainGlobals mg)(D:DefAt K x st)(O:cM gl st x fn)(hT:T f=some fn):∃fa fd ps,Entry K mg T gl x f fa fd ps:=by
 obtain⟨fa,oc,od,an,kV,doc,pm,cdv,ct,osl,a,l,c,k⟩:=D.ex;have F:=v8 (st:=st) l c k;exact⟨fa,_,cH st,PySem.W.mg_of X G a,k,xN F O hT⟩
def bC(L:List (Str×GV))(x:Str):GV:=(L.lookup x).getD .no
theorem dP{α β:Type}[BEq α][LawfulBEq α]:∀{L:List (α×β)} {x:α} {v:β},L.lookup x=some v->(x,v)∈L
 |[],_,_,h=>by simp at h
 | (y,w)::L,x,v,h=>by
  rw[List.lookup_cons] at h;split at h
  ·rename_i hb;cases h;rw[Zy hb];exact zh
  ·exact Ze _ (dP h)
theorem fL{L:List (Str×GV)}{x:Str}{v:GV}(h:bC L x=v)(n:v≠.no):(x,v)∈L:=by
 unfold bC at h
 cases q:L.lookup x with
 |none=>rw[q] at h;exact absurd h.symm n
 |some w =>
  rw[q] at h;cases h;exact dP q
def d8(K:Frag)(mg:Str->Option Value)(T:hX)(gl:Str->GV):Str×GV->Prop
 | (x,.cls ns)=>ClsE K mg x ns
 | (x,.mth tb)=>∃m,x=rA m/\∀p∈tb,MthE K T gl p.1 m p.2
 | (x,.con d)=>∃u v,mg x=some u/\a8 v u/\∀G,aC K G d v
 | (x,.blt)=>mg x=none
 | (x,.fn f)=>∃fa fd ps,Entry K mg T gl x f fa fd ps
 | (x,.sub s n)=>∃m,x=sV m/\SubAt K mg m s n
 | (x,.subx s n)=>∃m,x=sV m/\SubX K mg m s n
 | (x,.exc)=>ExcAt K mg x
 | (x,.exs cs)=>∃m,x=JO m/\ExsAt K mg m cs
 | (_,.no)=>True
theorem DX{p:Array Nat}{x y:Str}(h:(⟨p++x.cps⟩:Str)=⟨p++y.cps⟩):x=y:=by
 have e6:=congrArg Array.toList (congrArg Str.cps h);simp only[Array.toList_append] at e6;have e5:=Array.toList_inj.mp (List.append_cancel_left e6);cases x;cases y;simp only at e5;rw[e5]
theorem PR{K:Frag}{mg:Str->Option Value}{T:hX}{L:List (Str×GV)}(h:∀p∈L,d8 K mg T (bC L) p):Globs K mg T (bC L) :=
 ⟨λx d e=>h _ (fL e (λz=>nomatch z)),λx e=>h _ (fL e (λz=>nomatch z)),λx f e=>h _ (fL e (λz=>nomatch z)),λx ns e=>h _ (fL e (λz=>nomatch z)),λm tb c f e e2=>by
  obtain⟨m',e3,k⟩:=h _ (fL e (λz=>nomatch z))
  have:m'=m:=by
   unfold rA at e3;have e4:(#[46]++m.cps:Array Nat)=#[46]++m'.cps:=congrArg Str.cps e3
   have e5:m.cps=m'.cps:=by(have e6:=congrArg Array.toList e4;rw[Array.toList_append,Array.toList_append] at e6;exact Array.toList_inj.mp (List.append_cancel_left e6))
   cases m;cases m';simp only at e5;rw[e5]
  subst this;exact k _ (dP e2),λx s n e=>by
  obtain⟨m',e3,k⟩:=h _ (fL e (λz=>nomatch z))
  have:m'=x:=by
   unfold sV at e3
   have e5:x.cps=m'.cps:=by(have e6:=congrArg Array.toList (congrArg Str.cps e3);simp only[Array.toList_append] at e6;exact Array.toList_inj.mp (List.append_cancel_left e6))
   cases x;cases m';simp only at e5;rw[e5]
  subst this;exact k,λx s n e=>by
  obtain⟨m',e3,k⟩:=h _ (fL e (λz=>nomatch z));rw[DX e3];exact k,λx e=>h _ (fL e (λz=>nomatch z)),λx cs e=>by
  obtain⟨m',e3,k⟩:=h _ (fL e (λz=>nomatch z));rw[DX e3]
  exact k⟩
theorem i3{K:Frag}{mg:Str->Option Value}{h:Heap}{T:hX}{gl:Str->GV}{x:Str}{i:Int}{t:Tok}(X:K.In h)(G:h.Ns mainGlobals mg)(a:nsIn K mainGlobals x=some (some (.int i t))):d8 K mg T gl (x,.con (.int i)) :=
 ⟨_,.int i,PySem.W.mg_of X G a,⟨t,rfl⟩,λG=>by simp[aC]⟩
theorem iQ{K:Frag}{mg:Str->Option Value}{h:Heap}{T:hX}{gl:Str->GV}{x:Str}(X:K.In h)(G:h.Ns mainGlobals mg)(a:nsIn K mainGlobals x=some none):d8 K mg T gl (x,.blt):=PySem.W.mg_none_of X G a
structure KinN(K:Frag)(c x:Str):Prop where
 ex:∃Ca C:Addr,nsIn K mainGlobals c=some (some (.ref Ca))/\nsIn K mainGlobals x=some (some (.ref C))/\PySem.W.kin_not K Ca C=true
structure KinI(K:Frag)(c x:Str):Prop where
 ex:∃Ca C:Addr,nsIn K mainGlobals c=some (some (.ref Ca))/\nsIn K mainGlobals x=some (some (.ref C))/\PySem.W.isIn K (.ref Ca) C=true
structure KinC(K:Frag)(c:Str):Prop where
 ex:∃D:Addr,nsIn K mainGlobals c=some (some (.ref D))/\PySem.W.plainGet K D "__class__"=true/\PySem.W.hasDictIn K D=true/\findIn K (.ref D) "__class__"=some (some (.builtin "object.__class__")) /\
  PySem.W.specialIn K (.builtin "object.__class__") "__get__"=some (some (.builtin "getset_descriptor.__get__"))/\PySem.W.takesIn K (.builtin "object.__class__")=some true/\PySem.W.mroIn K D (.type "object")=some true
structure KinX(K:Frag)(x:Str):Prop where
 ex:∃C:Addr,nsIn K mainGlobals x=some (some (.ref C))
structure ExcK(K:Frag)(x:Str):Prop where
 ex:∃C:Addr,nsIn K mainGlobals x=some (some (.ref C))/\ExcG K C
structure MroK(K:Frag)(c x:Str):Prop where
 ex:∃C D:Addr,nsIn K mainGlobals c=some (some (.ref C))/\nsIn K mainGlobals x=some (some (.ref D))/\PySem.W.mroIn K C (.ref D)=some true
theorem MQ{l:PySem.W.OpenLaw}{q:Program}{loose:List Str}{XP:(Str->Option Value)->Heap->Prop}{YP:World->Heap->Prop}{d:DefRec}{K:Params->Frag}{T:hX}{L:List (Str×GV)}{st:Stmt}{fn:Fn}{W n:Nat}{x p:Str}{f:String}
  (hn:l.most=some 63) (hdf:d.params.defaults=[]) (hr:Room (n+2) callerA) (hx:d.name=x) (hT:T f=some fn) (O:cM (bC L) st x fn) (hp:cH st=[p])
  (hY:∀(w:World) (h:Heap),YP w h->(K w.params).In h)
  (F:∀(w:World) (mg:Str->Option Value) (h:Heap),(K w.params).In h->h.Ns mainGlobals mg->DefAt (K w.params) x st/\∀p∈L,d8 (K w.params) mg T (bC L) p)
  (M:∀ns:List Int,ns.length<=63->∃as',run T W n f [.sh (.lst (ns.map .int))]=some (.ok (.sh (.bl true)),as')) :
  PySem.W.WalkO q loose XP YP l.row.toRowW d [] (λf vs=>PySem.call f vs):=by
 refine L2.V6 (n:=63) (k:=n+2) (x:=p) (CX:=λ_=>pT) (sp:=λw=>JK (K w.params) 1 (run T W n f)) hn (by decide) hdf hr hY (λw mg fa h KX G hmg=>?_) (λw H a ns hl hO hS=>?_) λ_ _ _ _ _ z=>z
 ·obtain⟨D,hG⟩:=F w mg h KX G;have g:=PR hG;obtain⟨fa',oc,od,an,kV,doc,pm,cdv,ct,osl,a,lk,c,k⟩:=D.ex;have hm:=PySem.W.mg_of KX G a;rw[hx,hm] at hmg;cases hmg;have Fu:=v8 (st:=st) lk c k;have E:Entry (K w.params) mg T (bC L) x f fa _ (cH st):=⟨hm,k,xN Fu O hT⟩
  have hpins:(T.pins f).length=1:=by(unfold hX.pins;rw[hT];show fn.pins.length=1;rw[<- O.pl,hp];rfl)
  refine⟨PySem.W.fnOf x x (dX st) (bW st) (aV st) .none kV doc pm an cdv ct,λs u=>?_,λbase kb nb=>?_⟩
  rotate_left
  ·have:=(BR (Pr:=l.prog) (w:=w) (base:=base) W g n f fa _ (cH st) E.b).1
   rw[hpins] at this;rw[hp] at this;exact this
  ·have:=O.bind kV doc pm an cdv ct [u] (by rw[hp];rfl)
   rw[hp] at this;exact .of_eq this
 ·obtain⟨as',e⟩:=M ns hl
  have hr1:aA (K w.params) H (ns.map .int) (ns.map V.int):=by
   induction ns with
   |nil=>exact aA.nil
   |cons i r ih=>exact aA.cons (by simp[aC]) (by
     clear e hS hl ih
     induction r with
     |nil=>exact aA.nil
     |cons i r ih=>exact aA.cons (by simp[aC]) ih)
  refine⟨rfl,[.sh (.lst (ns.map .int))],H,.sh (.bl true),as',Rel.cons_sh (Rel.nil (aN.refl _)) ?_,rfl,e,λx H' G' _ hv=>p9 (K:=K w.params) (G:=G') hv⟩;simp only[aC];exact⟨a,_,rfl,hS,hr1⟩
end CI
namespace CI
open PySem (Operator CmpOp)
noncomputable section
variable{α β:Type}{P:aJ}{C:Calls}{W:Nat}{t:Bool}{ρ ρ1 ρ2:Env}
theorem aCk{a:α}{f:α->Env->aM β}:aM.bind (some (.ok a,ρ)) f=f a ρ:=rfl
theorem aCL{a:α}{f:α->Env->bS}:aM.flow (some (.ok a,ρ)) f=f a ρ:=rfl
theorem jX{f:Env->bS}:bS.next (some (.nx,ρ)) f=f ρ:=rfl
theorem RD{f:Env->bS}{v:RV}:bS.next (some (.rt v,ρ)) f=some (.rt v,ρ):=rfl
theorem SS:i8 (some ρ)=some (.nx,ρ):=rfl
theorem LV{v:RV}:done (some v) ρ=some (.ok v,ρ):=rfl
theorem aEE{d:D}:(RV.sh d).d=d:=rfl
theorem aEw{d:D}:(RV.ow d).d=d:=rfl
theorem aDK{d:D}:(Sl.sh d).get=some d:=rfl
theorem aD6{d:D}{p l:Bool}:(Sl.ow d p l).get=some d:=rfl
theorem XG{v:RV}:(Hd.val v).get ρ=some v.d:=rfl
theorem UC{i:Nat}:(Hd.slot i).get ρ=(ρ[i]?).bind Sl.get:=rfl
def kTr(ρ:Env)(o:Option Bool):aM RV:=o.map λb=>(.ok (.sh (.bl b)),ρ)
theorem OI{b:Bool}:kTr ρ (some b)=some (.ok (.sh (.bl b)),ρ):=rfl
theorem aDr{r:aM RV}:bE false r=r:=rfl
theorem aDX{v:RV}:bE true (some (.ok v,ρ))=kTr ρ (hW v.d):=rfl
noncomputable def kFz(i:Nat)(ρ:Env):Option Sl->aM RV
 |some (.sh d)=>some (.ok (.sh d),ρ)
 |some (.ow d false false)=>some (.ok (.sh d),ρ.set i (.sh d))
 |_=>none
theorem XY{i:Nat}{d:D}:kFz i ρ (some (.sh d))=some (.ok (.sh d),ρ):=rfl
theorem UR{i:Nat}:ev P C false (.var i) ρ=kFz i ρ ρ[i]?:=rfl
theorem aAC{d:D}:ev P C t (.con d) ρ=bE t (some (.ok (.sh d),ρ)):=rfl
def C5(b:Bool)(v:RV)(ρ:Env):aM RV:=if b then some (.ok v,ρ) else none
theorem aCt{v:RV}:C5 true v ρ=some (.ok v,ρ):=rfl
theorem nY{n:Nat}(h:n<=1000000):aP n=true:=@decide_eq_true _ (cl _) h
theorem aEJ:aP 0=true:=nY (by decide)
theorem aEL:aP 1=true:=nY (by decide)
theorem aEz:aP 2=true:=nY (by decide)
theorem aDs:aP 3=true:=nY (by decide)
theorem aDS:aP 4=true:=nY (by decide)
theorem aDE:aP 5=true:=nY (by decide)
def X6(ds:List D)(ρ:Env):aM RV:=C5 (aP ds.length) (.sh (.tup ds)) ρ
def WU(ds:List D)(ρ:Env):aM RV:=C5 (aP ds.length) (.ow (.lst ds)) ρ
theorem aCW{ds:List D}:X6 ds ρ=C5 (aP ds.length) (.sh (.tup ds)) ρ:=rfl
theorem aBr{ds:List D}:WU ds ρ=C5 (aP ds.length) (.ow (.lst ds)) ρ:=rfl
theorem aAL{es:List E}:ev P C t (.tup es) ρ=bE t ((k9 P C es ρ).bind X6):=rfl
theorem YB{es:List E}:ev P C t (.lst es) ρ=bE t ((k9 P C es ρ).bind WU):=rfl
theorem T6:k9 P C [] ρ=some (.ok [],ρ):=rfl
def A9(v:RV)(ds:List D)(ρ:Env):aM (List D):=some (.ok (v.d::ds),ρ)
def IU(P:aJ)(C:Calls)(es:List E)(v:RV)(ρ:Env):aM (List D):=(k9 P C es ρ).bind (A9 v)
theorem VS{v:RV}{ds:List D}:A9 v ds ρ=some (.ok (v.d::ds),ρ):=rfl
theorem V4{es:List E}{v:RV}:IU P C es v ρ=(k9 P C es ρ).bind (A9 v):=rfl
theorem P0{e:E}{es:List E}:k9 P C (e::es) ρ=(ev P C false e ρ).bind (IU P C es):=rfl
theorem OF:bZ P C [] ρ=some (.ok [],ρ):=rfl
def wU(v:Hd)(ds:List Hd)(ρ:Env):aM (List Hd):=some (.ok (v::ds),ρ)
def D6(P:aJ)(C:Calls)(es:List E)(v:Hd)(ρ:Env):aM (List Hd):=(bZ P C es ρ).bind (wU v)
theorem PD{v:Hd}{ds:List Hd}:wU v ds ρ=some (.ok (v::ds),ρ):=rfl
theorem PZ{es:List E}{v:Hd}:D6 P C es v ρ=(bZ P C es ρ).bind (wU v):=rfl
def eB(P:aJ)(C:Calls)(e:E)(ρ:Env):aM Hd:=hd e (ev P C false e ρ) ρ
def iO(v:RV)(ρ:Env):aM Hd:=some (.ok (.val v.low),ρ)
theorem aBQ{d:D}:iO (.sh d) ρ=some (.ok (.val (.sh d)),ρ):=rfl
theorem aAQ{d:D}:iO (.ow d) ρ=some (.ok (.val (.ow d)),ρ):=rfl
def QD(i:Nat)(ρ:Env)(b:Bool):aM Hd:=if b then some (.ok (.slot i),ρ) else none
theorem TV{i:Nat}:QD i ρ true=some (.ok (.slot i),ρ):=rfl
theorem TN{i:Nat}:eB P C (.var i) ρ=QD i ρ ((ρ[i]?).bind Sl.get).isSome:=rfl
theorem V5{d:D}:eB P C (.con d) ρ=some (.ok (.val (.sh d)),ρ):=rfl
theorem U6{es:List E}:eB P C (.tup es) ρ=(ev P C false (.tup es) ρ).bind iO:=rfl
theorem R8{es:List E}:eB P C (.lst es) ρ=(ev P C false (.lst es) ρ).bind iO:=rfl
theorem V7{op:Operator}{a b:E}:eB P C (.bin op a b) ρ=(ev P C false (.bin op a b) ρ).bind iO:=rfl
theorem WA{op:CmpOp}{a b:E}:eB P C (.cmp op a b) ρ=(ev P C false (.cmp op a b) ρ).bind iO:=rfl
theorem NP{op op':CmpOp}{a b c:E}:eB P C (.cmp2 op op' a b c) ρ=(ev P C false (.cmp2 op op' a b c) ρ).bind iO:=rfl
theorem aAM{a b:E}:eB P C (.ix a b) ρ=(ev P C false (.ix a b) ρ).bind iO:=rfl
theorem XN{a b c:E}:eB P C (.sl a b c) ρ=(ev P C false (.sl a b c) ρ).bind iO:=rfl
theorem N7{f:String}{es:List E}:eB P C (.call f es) ρ=(ev P C false (.call f es) ρ).bind iO:=rfl
theorem VZ{f:BI}{es:List E}:eB P C (.bif f es) ρ=(ev P C false (.bif f es) ρ).bind iO:=rfl
theorem OH{elt:E}{tg:List Nat}{k:ItK}{its cond:List E}{imp:List Nat}{nl:Nat}:eB P C (.comp elt tg k its cond imp nl) ρ=(ev P C false (.comp elt tg k its cond imp nl) ρ).bind iO:=rfl
theorem JR{e:E}{es:List E}:bZ P C (e::es) ρ=(eB P C e ρ).bind (D6 P C es):=rfl
noncomputable def wL(op:Operator)(x:Hd)(a b:Option D):Option RV:=a.bind λd=>b.bind λe=>if nU op x d then fC op d e else none
def GK(op:Operator)(x y:Hd)(ρ:Env):aM RV:=done (wL op x (x.get ρ) (y.get ρ)) ρ
def RI(P:aJ)(C:Calls)(op:Operator)(b:E)(x:Hd)(ρ:Env):aM RV:=(eB P C b ρ).bind (GK op x)
theorem aBc{op:Operator}{x y:Hd}:GK op x y ρ=done (wL op x (x.get ρ) (y.get ρ)) ρ:=rfl
theorem XH{op:Operator}{b:E}{x:Hd}:RI P C op b x ρ=(eB P C b ρ).bind (GK op x):=rfl
theorem aA6{op:Operator}{a b:E}:ev P C t (.bin op a b) ρ=bE t ((eB P C a ρ).bind (RI P C op b)):=rfl
theorem YH{op:Operator}{x:Hd}{i:Int}{e:D}:wL op x (some (.int i)) (some e)=fC op (.int i) e:=by
 unfold wL nU;cases op<;>rfl
theorem YA{op:Operator}{x:Hd}{ds:List D}{e:D}:wL op x (some (.tup ds)) (some e)=fC op (.tup ds) e:=by
 unfold wL nU;cases op<;>rfl
theorem aBB{i j:Int}:fC .Add (.int i) (.int j)=some (.sh (.int (i+j))):=rfl
theorem aCe{i j:Int}:fC .Sub (.int i) (.int j)=some (.sh (.int (i-j))):=rfl
theorem Q4{i j:Int}(h:(-(2 ^ 64)<i/\i<2 ^ 64)\/(-(2 ^ 64)<j/\j<2 ^ 64)):fC .Mult (.int i) (.int j)=some (.sh (.int (i*j))):=Zo h
theorem YX{i j:Int}(h1:-18446744073709551616<j)(h2:j<18446744073709551616):fC .Mult (.int i) (.int j)=some (.sh (.int (i*j))):=Q4 (.inr ⟨h1,h2⟩)
theorem YY{i j:Int}(h1:-18446744073709551616<i)(h2:i<18446744073709551616):fC .Mult (.int i) (.int j)=some (.sh (.int (i*j))):=Q4 (.inl ⟨h1,h2⟩)
theorem aBf{i j:Int}(h:0<j/\j<nofun):fC .FloorDiv (.int i) (.int j)=some (.sh (.int (i / j))):=Zo h
theorem aCI{i j:Int}(h:0<j):fC .Mod (.int i) (.int j)=some (.sh (.int (i % j))):=Zo h
theorem Y2{j:Int}(h:0<=j)(h2:j<=1000):fC .LShift (.int 1) (.int j)=some (.sh (.int (2 ^ j.toNat))):=by
 show @ite _ _ (cl _) _ _=_;rw[Zo ⟨h,h2,by decide⟩,Int.one_mul]
theorem aBx{i j:Int}(h:0<=j):fC .RShift (.int i) (.int j)=some (.sh (.int (i / 2 ^ j.toNat))):=Zo h
theorem aCn{i j:Int}:fC .BitAnd (.int i) (.int j)=some (.sh (.int (PySem.Builtin.bitAnd i j))):=rfl
theorem aB5{xs ys:List D}(h:aP (xs.length+ys.length)=true):fC .Add (.lst xs) (.lst ys)=some (.ow (.lst (xs++ys))):=Zo h
theorem aAx{ys:List D}:fC .Add (.tup []) (.tup ys)=some (.sh (.tup ys)):=rfl
theorem K4{x:D}{xs ys:List D}(h:aP (xs.length+1+ys.length)=true):fC .Add (.tup (x::xs)) (.tup ys)=some (.sh (.tup (x::xs++ys))):=Zo h
def PM(o:Option D):Option RV:=o.bind λd=>(hW d).map λb=>.sh (.bl (!b))
def RN(x:Hd)(ρ:Env):aM RV:=done (PM (x.get ρ)) ρ
theorem aAj{x:Hd}:RN x ρ=done (PM (x.get ρ)) ρ:=rfl
theorem S4{b:Bool}:PM (some (.bl b))=some (.sh (.bl (!b))):=rfl
theorem VN{a:E}:ev P C false (.not a) ρ=(eB P C a ρ).bind RN:=rfl
def CA(op:CmpOp)(a b:Option D):Option RV:=a.bind λd=>b.bind λe=>(bX op d e).map λb=>.sh (.bl b)
theorem aCC{op:CmpOp}{d e:D}:CA op (some d) (some e)=(bX op d e).map λb=>.sh (.bl b):=rfl
def N9(op:CmpOp)(a b:Option D):Option Bool:=a.bind λd=>b.bind λe=>bX op d e
theorem aCS{op:CmpOp}{d e:D}:N9 op (some d) (some e)=bX op d e:=rfl
def GN(op:CmpOp)(x y:Hd)(ρ:Env):aM RV:=done (CA op (x.get ρ) (y.get ρ)) ρ
def QK(P:aJ)(C:Calls)(op:CmpOp)(b:E)(x:Hd)(ρ:Env):aM RV:=(eB P C b ρ).bind (GN op x)
theorem ZJ{op:CmpOp}{x y:Hd}:GN op x y ρ=done (CA op (x.get ρ) (y.get ρ)) ρ:=rfl
theorem aAU{op:CmpOp}{b:E}{x:Hd}:QK P C op b x ρ=(eB P C b ρ).bind (GN op x):=rfl
theorem ZL{op:CmpOp}{a b:E}:ev P C t (.cmp op a b) ρ=(eB P C a ρ).bind (QK P C op b):=rfl
def NW(op:CmpOp)(y z:Hd)(ρ:Env):aM RV:=done (CA op (y.get ρ) (z.get ρ)) ρ
theorem aBH{op:CmpOp}{x y:Hd}:NW op x y ρ=done (CA op (x.get ρ) (y.get ρ)) ρ:=rfl
noncomputable def kCh(P:aJ)(C:Calls)(op':CmpOp)(y:Hd)(c:E)(ρ:Env):Option Bool->aM RV
 |none=>none
 |some false=>some (.ok (.sh (.bl false)),ρ)
 |some true=>(eB P C c ρ).bind (NW op' y)
theorem aCi{op':CmpOp}{y:Hd}{c:E}{b:Bool}:kCh P C op' y c ρ (some b)=if b=true then(eB P C c ρ).bind (NW op' y) else some (.ok (.sh (.bl false)),ρ):=by cases b<;>rfl
noncomputable def N1(P:aJ)(C:Calls)(op op':CmpOp)(c:E)(x y:Hd)(ρ:Env):aM RV:=kCh P C op' y c ρ (N9 op (x.get ρ) (y.get ρ))
noncomputable def aAn(P:aJ)(C:Calls)(op op':CmpOp)(b c:E)(x:Hd)(ρ:Env):aM RV:=(eB P C b ρ).bind (N1 P C op op' c x)
theorem aB9{op op':CmpOp}{c:E}{x y:Hd}:N1 P C op op' c x y ρ=kCh P C op' y c ρ (N9 op (x.get ρ) (y.get ρ)):=rfl
theorem aCl{op op':CmpOp}{b c:E}{x:Hd}:aAn P C op op' b c x ρ=(eB P C b ρ).bind (N1 P C op op' c x):=rfl
theorem WK{op op':CmpOp}{a b c:E}:ev P C t (.cmp2 op op' a b c) ρ=(eB P C a ρ).bind (aAn P C op op' b c):=rfl
theorem aEx{i j:Int}:bX .Lt (.int i) (.int j)=some (decide (i<j)):=rfl
theorem aEC{i j:Int}:bX .LtE (.int i) (.int j)=some (decide (i<=j)):=rfl
theorem aEH{i j:Int}:bX .Gt (.int i) (.int j)=some (decide (j<i)):=rfl
theorem aDL{i j:Int}:bX .GtE (.int i) (.int j)=some (decide (j<=i)):=rfl
theorem aB2{i j:Int}:bX .Eq (.int i) (.int j)=some (decide (i=j)):=rfl
theorem aCH{i j:Int}:bX .NotEq (.int i) (.int j)=some (!decide (i=j)):=rfl
theorem aEG{d e:D}(h1:bA 20 d=true)(h2:bA 20 e=true):bX .Eq d e=some (d5 d e):=by
 show(if(bA 20 d&&bA 20 e)=true then some (d5 d e) else none)=_;rw[h1,h2];rfl
theorem OK{d e:D}(h1:bA 20 d=true)(h2:bA 20 e=true):bX .NotEq d e=some (!d5 d e):=by
 show(if(bA 20 d&&bA 20 e)=true then some (!d5 d e) else none)=_;rw[h1,h2];rfl
theorem aCF{a b:PySem.Str}:bX .Eq (.str a) (.str b)=some (a==b):=rfl
theorem aC0:bX .Is .non .non=some true:=rfl
theorem aC3{i:Int}:bX .Is (.int i) .non=some false:=rfl
theorem aCP:bX .IsNot .non .non=some false:=rfl
theorem aBF{i:Int}:bX .IsNot (.int i) .non=some true:=rfl
theorem aEt{b:Bool}:hW (.bl b)=some b:=rfl
noncomputable def aAA(P:aJ)(C:Calls)(t:Bool)(b:E)(v:RV)(ρ:Env):aM RV:=match v with
 |.sh (.bl true)=>ev P C t b ρ
 |.sh (.bl false)=>some (.ok (.sh (.bl false)),ρ)
 |_=>none
noncomputable def kOr(P:aJ)(C:Calls)(t:Bool)(b:E)(v:RV)(ρ:Env):aM RV:=match v with
 |.sh (.bl true)=>some (.ok (.sh (.bl true)),ρ)
 |.sh (.bl false)=>ev P C t b ρ
 |_=>none
theorem aAz{a b:E}:ev P C t (.and a b) ρ=(ev P C t a ρ).bind (aAA P C t b):=rfl
theorem aBP{a b:E}:ev P C t (.or a b) ρ=(ev P C t a ρ).bind (kOr P C t b):=rfl
theorem XW{b:E}{x:Bool}:aAA P C t b (.sh (.bl x)) ρ=if x=true then ev P C t b ρ else some (.ok (.sh (.bl false)),ρ):=by cases x<;>rfl
theorem aCG{b:E}{x:Bool}:kOr P C t b (.sh (.bl x)) ρ=if x=true then some (.ok (.sh (.bl true)),ρ) else ev P C t b ρ:=by cases x<;>rfl
def iU(a:Option D)(k:D):Option RV:=a.bind λd=>(LX d k).map .sh
def NI(x:Hd)(k:RV)(ρ:Env):aM RV:=done (iU (x.get ρ) k.d) ρ
def YZ(P:aJ)(C:Calls)(i:E)(x:Hd)(ρ:Env):aM RV:=(ev P C false i ρ).bind (NI x)
theorem aCv{x:Hd}{k:RV}:NI x k ρ=done (iU (x.get ρ) k.d) ρ:=rfl
theorem aCZ{i:E}{x:Hd}:YZ P C i x ρ=(ev P C false i ρ).bind (NI x):=rfl
theorem aCD{a i:E}:ev P C t (.ix a i) ρ=bE t ((eB P C a ρ).bind (YZ P C i)):=rfl
theorem aCE{ds:List D}{i:Int}{d:D}(h:L2.cG ds i=some d):iU (some (.tup ds)) (.int i)=some (.sh d):=by
 show(L2.cG ds i).map RV.sh=_;rw[h];rfl
theorem Z0{ds:List D}{i:Int}:iU (some (.tup ds)) (.int i)=(L2.cG ds i).map RV.sh:=rfl
theorem YE{ds:List D}{i:Int}:iU (some (.lst ds)) (.int i)=(L2.cG ds i).map RV.sh:=rfl
theorem qH{α:Type}{xs:List α}{n:Nat}:L2.cG xs (OfNat.ofNat n)=xs[n]?:=by
 show L2.cG xs ((n:Nat):Int)=_
 cases h:xs[n]? with
 |some v=>exact L2.mZ h
 |none =>
  unfold L2.cG L2.jS
  have:=List.getElem?_eq_none_iff.mp h
  rw[Zo (by omega),Zp (by omega)];rfl
theorem MS{α:Type}{xs:List α}:L2.cG xs 0=xs[0]?:=qH (n:=0)
theorem aD9{α:Type}{xs:List α}:L2.cG xs 1=xs[1]?:=qH (n:=1)
theorem aDM{α:Type}{xs:List α}:L2.cG xs 2=xs[2]?:=qH (n:=2)
theorem aEh{α:Type}{xs:List α}:L2.cG xs 3=xs[3]?:=qH (n:=3)
def AZ(a l h:Option D):Option RV:=a.bind λd=>(lQ l).bind λl=>(lQ h).bind λh=>QS d l h
def OB(x:Hd)(l h:Option D)(ρ:Env):aM RV:=done (AZ (x.get ρ) l h) ρ
def vA(P:aJ)(C:Calls)(e:E)(ρ:Env):aM (Option D):=xH e (ev P C false e ρ) ρ
def M4(P:aJ)(C:Calls)(hi:E)(x:Hd)(l:Option D)(ρ:Env):aM RV:=(vA P C hi ρ).bind (OB x l)
def aAS(P:aJ)(C:Calls)(lo hi:E)(x:Hd)(ρ:Env):aM RV:=(vA P C lo ρ).bind (M4 P C hi x)
theorem aCf{x:Hd}{l h:Option D}:OB x l h ρ=done (AZ (x.get ρ) l h) ρ:=rfl
theorem aBR{hi:E}{x:Hd}{l:Option D}:M4 P C hi x l ρ=(vA P C hi ρ).bind (OB x l):=rfl
theorem aBD{lo hi:E}{x:Hd}:aAS P C lo hi x ρ=(vA P C lo ρ).bind (M4 P C hi x):=rfl
theorem VX:vA P C .omt ρ=some (.ok none,ρ):=rfl
def AB(v:RV)(ρ:Env):aM (Option D):=some (.ok (some v.d),ρ)
theorem XR{v:RV}:AB v ρ=some (.ok (some v.d),ρ):=rfl
theorem T5{d:D}:vA P C (.con d) ρ=some (.ok (some d),ρ):=rfl
theorem VU{i:Nat}:vA P C (.var i) ρ=(ev P C false (.var i) ρ).bind AB:=rfl
theorem SM{op:Operator}{a b:E}:vA P C (.bin op a b) ρ=(ev P C false (.bin op a b) ρ).bind AB:=rfl
theorem aBi{a lo hi:E}:ev P C t (.sl a lo hi) ρ=bE t ((eB P C a ρ).bind (aAS P C lo hi)):=rfl
def z9(P:aJ)(C:Calls)(f:String)(hs:List Hd)(ρ:Env):aM RV:=dJ (P f) (C f) hs ρ
theorem XT{f:String}{hs:List Hd}:z9 P C f hs ρ=dJ (P f) (C f) hs ρ:=rfl
theorem V0{f:String}{es:List E}:ev P C t (.call f es) ρ=bE t ((bZ P C es ρ).bind (z9 P C f)):=rfl
noncomputable def NM(pins:List Bool)(hs:List Hd)(ρ ρ1:Env):aM RV->aM RV
 |none=>none
 |some (o,as')=>(bG pins hs as' ρ ρ1).map λρ'=>(o,ρ')
noncomputable def aA1(pins:List Bool)(f:List Sl->aM RV)(hs:List Hd)(ρ:Env):Option (List Sl×Env)->aM RV
 |none=>none
 |some (as,ρ1)=>NM pins hs ρ ρ1 (f as)
theorem VR{pins:List Bool}{f:List Sl->aM RV}{hs:List Hd}:dJ pins f hs ρ=aA1 pins f hs ρ (bP pins hs ρ):=rfl
theorem aBk{pins:List Bool}{f:List Sl->aM RV}{hs:List Hd}{as:List Sl}:aA1 pins f hs ρ (some (as,ρ1))=NM pins hs ρ ρ1 (f as):=rfl
def X3(o:Out RV)(x:Option Env):aM RV:=x.map λρ'=>(o,ρ')
theorem aCr{o:Out RV}:X3 o (some ρ)=some (o,ρ):=rfl
theorem aCR{pins:List Bool}{hs:List Hd}{o:Out RV}{as':List Sl}:NM pins hs ρ ρ1 (some (o,as'))=X3 o (bG pins hs as' ρ ρ1):=rfl
def yJ(a:Sl)(o:Option (List Sl×Env)):Option (List Sl×Env):=o.map λ(as,ρ')=>(a::as,ρ')
theorem aDR{a:Sl}{as:List Sl}:yJ a (some (as,ρ))=some (a::as,ρ):=rfl
theorem WX:bP [] [] ρ=some ([],ρ):=rfl
theorem aB3{p:Bool}{ps:List Bool}{d:D}{r:List Hd}:bP (p::ps) (.val (.sh d)::r) ρ=yJ (.sh d) (bP ps r ρ):=rfl
theorem aBa{ps:List Bool}{d:D}{r:List Hd}:bP (true::ps) (.val (.ow d)::r) ρ=yJ (.ow d true false) (bP ps r ρ):=rfl
noncomputable def X9(p:Bool)(ps:List Bool)(i:Nat)(r:List Hd)(ρ:Env):Option Sl->Option (List Sl×Env)
 |some (.sh d)=>yJ (.sh d) (bP ps r ρ)
 |some (.ow d pin lk)=>match p with
  |true=>yJ (.ow d true lk) (bP ps r (ρ.set i .un))
  |false=>if pin||lk then none else yJ (.sh d) (bP ps r (ρ.set i (.sh d)))
 |_=>none
theorem RZ{p:Bool}{ps:List Bool}{i:Nat}{r:List Hd}:bP (p::ps) (.slot i::r) ρ=X9 p ps i r ρ ρ[i]?:=rfl
theorem ZK{p:Bool}{ps:List Bool}{i:Nat}{r:List Hd}{d:D}:X9 p ps i r ρ (some (.sh d))=yJ (.sh d) (bP ps r ρ):=rfl
theorem TF{ps:List Bool}{i:Nat}{r:List Hd}{d:D}{pin lk:Bool}:X9 true ps i r ρ (some (.ow d pin lk))=yJ (.ow d true lk) (bP ps r (ρ.set i .un)):=rfl
theorem aA5{ρ0:Env}:bG [] [] [] ρ0 ρ=some ρ:=rfl
theorem aEF{ps:List Bool}{i:Nat}{hs:List Hd}{a:Sl}{as:List Sl}{ρ0:Env}:bG (false::ps) (.slot i::hs) (a::as) ρ0 ρ=bG ps hs as ρ0 ρ:=rfl
theorem aCs{ps:List Bool}{v:RV}{hs:List Hd}{a:Sl}{as:List Sl}{ρ0:Env}:bG (false::ps) (.val v::hs) (a::as) ρ0 ρ=bG ps hs as ρ0 ρ:=rfl
theorem aAI{ps:List Bool}{v:RV}{hs:List Hd}{a:Sl}{as:List Sl}{ρ0:Env}:bG (true::ps) (.val v::hs) (a::as) ρ0 ρ=bG ps hs as ρ0 ρ:=rfl
noncomputable def W3(ps:List Bool)(i:Nat)(hs:List Hd)(a:Sl)(as:List Sl)(ρ0 ρ:Env)(o:Option Sl):Option Env :=
  match o,a with
  |some (.ow _ pin lk),.ow d _ _=>bG ps hs as ρ0 (ρ.set i (.ow d pin lk))
  |some (.ow _ _ _),_=>none
  |_,_=>bG ps hs as ρ0 ρ
theorem SA{ps:List Bool}{i:Nat}{hs:List Hd}{a:Sl}{as:List Sl}{ρ0:Env}:bG (true::ps) (.slot i::hs) (a::as) ρ0 ρ=W3 ps i hs a as ρ0 ρ ρ0[i]?:=rfl
theorem YJ{ps:List Bool}{i:Nat}{hs:List Hd}{as:List Sl}{ρ0:Env}{d d':D}{p l p' l':Bool}:W3 ps i hs (.ow d p l) as ρ0 ρ (some (.ow d' p' l'))=bG ps hs as ρ0 (ρ.set i (.ow d p' l')):=rfl
theorem XQ{ps:List Bool}{i:Nat}{hs:List Hd}{a:Sl}{as:List Sl}{ρ0:Env}{d:D}:W3 ps i hs a as ρ0 ρ (some (.sh d))=bG ps hs as ρ0 ρ:=rfl
def aAG(f:BI)(hs:List Hd)(ρ:Env):aM RV:=done ((getAll hs ρ).bind (lK f)) ρ
theorem aBm{f:BI}{hs:List Hd}:aAG f hs ρ=done ((getAll hs ρ).bind (lK f)) ρ:=rfl
theorem aA9{f:BI}{es:List E}:ev P C t (.bif f es) ρ=bE t ((bZ P C es ρ).bind (aAG f)):=rfl
theorem Z5:getAll [] ρ=some []:=rfl
def gaC(a:Option D)(b:Option (List D)):Option (List D):=a.bind λd=>b.map (d :: ·)
theorem aEq{d:D}{ds:List D}:gaC (some d) (some ds)=some (d::ds):=rfl
theorem SX{h:Hd}{r:List Hd}:getAll (h::r) ρ=gaC (h.get ρ) (getAll r ρ):=rfl
theorem Z4{ds:List D}:lK .len [.lst ds]=some (.sh (.int ds.length)):=rfl
theorem aAJ{ds:List D}:lK .len [.tup ds]=some (.sh (.int ds.length)):=rfl
theorem aCu{i:Int}:lK .abs [.int i]=some (.sh (.int (if i<0 then -i else i))):=rfl
theorem WW{b:Bool}:lK .int [.bl b]=some (.sh (.int (if b then 1 else 0))):=rfl
theorem WB{ds:List D}:lK .list [.lst ds]=some (.ow (.lst ds)):=rfl
theorem aAR{ds:List D}:lK .tuple [.lst ds]=some (.sh (.tup ds)):=rfl
noncomputable def L7(i:Nat)(d:D)(ρ:Env)(o:Option Sl):aM RV:=match o with
 |some (.ow (.lst ds) p false)=>if aP (ds.length+1) then some (.ok (.sh .non),ρ.set i (.ow (.lst (ds++[d])) p false)) else none
 |_=>none
def Q2(i:Nat)(v:RV)(ρ:Env):aM RV:=L7 i v.d ρ ρ[i]?
theorem aAe{i:Nat}{v:RV}:Q2 i v ρ=L7 i v.d ρ ρ[i]?:=rfl
theorem aCj{i:Nat}{d:D}{ds:List D}{p:Bool}:L7 i d ρ (some (.ow (.lst ds) p false))=C5 (aP (ds.length+1)) (.sh .non) (ρ.set i (.ow (.lst (ds++[d])) p false)):=rfl
def GY(r:aM RV)(b:Bool):aM RV:=if b then r else none
theorem YW{r:aM RV}:GY r true=r:=rfl
theorem aAO{i:Nat}{a:E}:ev P C t (.app i a) ρ=bE t (GY ((ev P C false a ρ).bind (Q2 i)) (gW ρ i)):=rfl
def P9:Option Sl->Bool
 |some (.ow (.lst _) _ _)=>true
 |_=>false
theorem aCc:gW ρ i=P9 ρ[i]?:=rfl
theorem MR{ds:List D}{p l:Bool}:P9 (some (.ow (.lst ds) p l))=true:=rfl
def YR(i:Nat)(v:RV)(ρ:Env):bS:=i8 (store i v ρ)
theorem aCX{i:Nat}{v:RV}:YR i v ρ=i8 (store i v ρ):=rfl
theorem Z9{i:Nat}{e:E}:ex P C W (.asg i e) ρ=(ev P C false e ρ).flow (YR i):=rfl
noncomputable def EK(i:Nat)(v:RV)(ρ:Env)(o:Option Sl):Option Env:=match o with
 |none=>none
 |some (.ow _ true _)=>none
 |some (.ow _ _ true)=>none
 |some _=>match v with
  |.sh d=>some (ρ.set i (.sh d))
  |.ow d=>some (ρ.set i (.ow d false false))
  |.od _=>none
theorem KL{i:Nat}{v:RV}:store i v ρ=EK i v ρ ρ[i]?:=rfl
theorem TQ{i:Nat}{d:D}:EK i (.sh d) ρ (some .un)=some (ρ.set i (.sh d)):=rfl
theorem VD{i:Nat}{d:D}:EK i (.ow d) ρ (some .un)=some (ρ.set i (.ow d false false)):=rfl
theorem SD{i:Nat}{d d':D}:EK i (.sh d) ρ (some (.sh d'))=some (ρ.set i (.sh d)):=rfl
def bR:Sl->Bool
 |.un=>true
 |.mv=>true
 |.sh _=>true
 |.ow _ false false=>true
 |_=>false
theorem bD{i:Nat}{d:D}{s:Sl}(h:bR s=true):EK i (.sh d) ρ (some s)=some (ρ.set i (.sh d)):=by
 cases s with
 |ow d p l=>cases p<;>cases l<;>first | rfl | cases h
 |_=>rfl
theorem UN{i:Nat}{d:D}{s:Sl}(h:bR s=true):EK i (.ow d) ρ (some s)=some (ρ.set i (.ow d false false)):=by
 cases s with
 |ow d p l=>cases p<;>cases l<;>first | rfl | cases h
 |_=>rfl
theorem W7:bR .un=true:=rfl
theorem aAY{d:D}:bR (.sh d)=true:=rfl
theorem uZ{i:Nat}{d:D}:aY true [i] d ρ=store i (.sh d) ρ:=rfl
theorem rP{i:Nat}{is:List Nat}{ds:List D}:aY false (i::is) (.tup ds) ρ=dN (i::is) ds ρ:=rfl
theorem uY:dN [] [] ρ=some ρ:=rfl
def kSs(is:List Nat)(ds:List D)(o:Option Env):Option Env:=o.bind (dN is ds)
theorem r6{i:Nat}{is:List Nat}{d:D}{ds:List D}:dN (i::is) (d::ds) ρ=kSs is ds (store i (.sh d) ρ):=rfl
theorem FA{is:List Nat}{ds:List D}:kSs is ds (some ρ)=dN is ds ρ:=rfl
noncomputable def NL(i:Nat)(v:D)(ρ:Env):Option Sl->D->bS
 |some (.ow (.lst ds) p false),.int n=>i8 ((L2.jS ds.length n).map λm=>ρ.set i (.ow (.lst (ds.set m v)) p false))
 |_,_=>none
def GR(i:Nat)(v:RV)(j:RV)(ρ:Env):bS:=NL i v.d ρ ρ[i]? j.d
noncomputable def YM(i:Nat)(v j:RV)(ρ:Env):Option Sl->bS
 |o=>match o,j,v with
  |some (.ow (.dct kvs) p false),.sh (.int n),.sh (.int m)=>if aP (kvs.length+1) then some (.nx,ρ.set i (.ow (.dct (aDF kvs n m)) p false)) else none
  |_,_,_=>none
def aCz(i:Nat)(v:RV)(j:RV)(ρ:Env):bS:=YM i v j ρ ρ[i]?
theorem aAs{i:Nat}{v j:RV}:aCz i v j ρ=YM i v j ρ ρ[i]?:=rfl
def aCK:Option Sl->Bool
 |some (.ow (.dct _) _ _)=>true
 |_=>false
theorem aBw{i:Nat}:aDW ρ i=aCK ρ[i]?:=rfl
def OO(r r':bS)(b:Bool):bS:=if b then r else r'
theorem aAN{r r':bS}:OO r r' true=r:=rfl
def kPS(i:Nat)(v:RV)(j:RV)(ρ:Env):bS:=XA i ρ ρ[i]? (OL j.d) v
theorem aDQ{i:Nat}{v j:RV}:kPS i v j ρ=XA i ρ ρ[i]? (OL j.d) v:=rfl
def aBt:Option Sl->Bool
 |some (.ow (.dcs _) _ _)=>true
 |_=>false
theorem aBO{i:Nat}:aDJ ρ i=aBt ρ[i]?:=rfl
def GG(P:aJ)(C:Calls)(i:Nat)(k:E)(v:RV)(ρ:Env):bS:=none
theorem ZN{i:Nat}{k:E}{v:RV}:GG P C i k v ρ=none:=rfl
noncomputable def RA(P:aJ)(C:Calls)(i:Nat)(k:E)(v:RV)(ρ:Env):bS:=OO ((ev P C false k ρ).flow (GR i v)) (GG P C i k v ρ) (gW ρ i)
theorem aA4{i:Nat}{v j:RV}:GR i v j ρ=NL i v.d ρ ρ[i]? j.d:=rfl
theorem aAv{i:Nat}{k:E}{v:RV}:RA P C i k v ρ=OO ((ev P C false k ρ).flow (GR i v)) (GG P C i k v ρ) (gW ρ i):=rfl
theorem XO{i:Nat}{k e:E}:ex P C W (.set i k e) ρ=(ev P C false e ρ).flow (RA P C i k):=rfl
theorem aCM{n:Nat}:L2.jS (n+2) 1=some 1:=by unfold L2.jS;rw[Zo (by omega),Zo (by omega)];rfl
theorem Y9{i:Nat}{v a b:D}{ds:List D}{p:Bool}:NL i v ρ (some (.ow (.lst (a::b::ds)) p false)) (.int 1)=some (.nx,ρ.set i (.ow (.lst (a::v::ds)) p false)):=by
 show i8 ((L2.jS (ds.length+2) 1).map _)=_;rw[aCM];rfl
def QJ(v:RV)(ρ:Env):bS:=some (.nx,ρ)
theorem XD{v:RV}:QJ v ρ=some (.nx,ρ):=rfl
theorem U4{e:E}:ex P C W (.expr e) ρ=(ev P C false e ρ).flow QJ:=rfl
noncomputable def L9(i:Nat)(ρ:Env):Option Sl->bS
 |some (.ow d false _)=>some (.rt (.ow d),ρ.set i .mv)
 |some (.sh d)=>some (.rt (.sh d),ρ)
 |_=>none
theorem V2{i:Nat}{d:D}{l:Bool}:L9 i ρ (some (.ow d false l))=some (.rt (.ow d),ρ.set i .mv):=rfl
theorem WC{i:Nat}{d:D}:L9 i ρ (some (.sh d))=some (.rt (.sh d),ρ):=rfl
def jO(v:RV)(ρ:Env):bS:=some (.rt v,ρ)
theorem aBV{v:RV}:jO v ρ=some (.rt v,ρ):=rfl
theorem V1{i:Nat}:ex P C W (.ret (.var i)) ρ=L9 i ρ ρ[i]?:=rfl
theorem ZY{d:D}:ex P C W (.ret (.con d)) ρ=(ev P C false (.con d) ρ).flow jO:=rfl
theorem Z2{es:List E}:ex P C W (.ret (.tup es)) ρ=(ev P C false (.tup es) ρ).flow jO:=rfl
theorem Z3{es:List E}:ex P C W (.ret (.lst es)) ρ=(ev P C false (.lst es) ρ).flow jO:=rfl
theorem WZ{op:Operator}{a b:E}:ex P C W (.ret (.bin op a b)) ρ=(ev P C false (.bin op a b) ρ).flow jO:=rfl
theorem WV{op:CmpOp}{a b:E}:ex P C W (.ret (.cmp op a b)) ρ=(ev P C false (.cmp op a b) ρ).flow jO:=rfl
theorem ZF{a b:E}:ex P C W (.ret (.and a b)) ρ=(ev P C false (.and a b) ρ).flow jO:=rfl
theorem aBS{a b:E}:ex P C W (.ret (.ix a b)) ρ=(ev P C false (.ix a b) ρ).flow jO:=rfl
theorem UA{f:String}{es:List E}:ex P C W (.ret (.call f es)) ρ=(ev P C false (.call f es) ρ).flow jO:=rfl
theorem X1{f:BI}{es:List E}:ex P C W (.ret (.bif f es)) ρ=(ev P C false (.bif f es) ρ).flow jO:=rfl
theorem UG{elt:E}{tg:List Nat}{k:ItK}{its cond:List E}{imp:List Nat}{nl:Nat}:ex P C W (.ret (.comp elt tg k its cond imp nl)) ρ=(ev P C false (.comp elt tg k its cond imp nl) ρ).flow jO:=rfl
noncomputable def kIf(P:aJ)(C:Calls)(W:Nat)(a b:List S)(v:RV)(ρ:Env):bS:=match v with
 |.sh (.bl true)=>exs P C W a ρ
 |.sh (.bl false)=>exs P C W b ρ
 |_=>none
theorem aCp{a b:List S}{x:Bool}:kIf P C W a b (.sh (.bl x)) ρ=if x=true then exs P C W a ρ else exs P C W b ρ:=by cases x<;>rfl
theorem YO{c:E}{a b:List S}:ex P C W (.ifs c a b) ρ=(ev P C true c ρ).flow (kIf P C W a b):=rfl
noncomputable def OP(P:aJ)(C:Calls)(W:Nat)(tg:List Nat)(one:Bool)(body:List S)(ρ:Env):Option (List D×Option Nat)->bS
 |none=>none
 |some (ds,o)=>(cF (aY one tg) (exs P C W body) ds (aL o ρ)).restore o ρ
theorem aB8{tg:List Nat}{one:Bool}{body:List S}{ds:List D}{o:Option Nat}:OP P C W tg one body ρ (some (ds,o))=(cF (aY one tg) (exs P C W body) ds (aL o ρ)).restore o ρ:=rfl
noncomputable def aA8(P:aJ)(C:Calls)(W:Nat)(tg:List Nat)(one:Bool)(k:ItK)(body:List S)(hs:List Hd)(ρ:Env):bS:=OP P C W tg one body ρ (aE k hs ρ)
theorem aBI{tg:List Nat}{one:Bool}{k:ItK}{body:List S}{hs:List Hd}:aA8 P C W tg one k body hs ρ=OP P C W tg one body ρ (aE k hs ρ):=rfl
theorem aAa{tg:List Nat}{one:Bool}{k:ItK}{its:List E}{body:List S}:ex P C W (.for tg one k its body) ρ=(bZ P C its ρ).flow (aA8 P C W tg one k body):=rfl
theorem VJ:exs P C W [] ρ=some (.nx,ρ):=rfl
theorem eO{s:S}{r:List S}:exs P C W (s::r) ρ=(ex P C W s ρ).next (exs P C W r):=rfl
theorem TZ{r:bS}{ρ0:Env}:r.restore none ρ0=r:=by cases r with | none=>rfl | some y=>obtain⟨fl,ρ⟩:=y;rfl
theorem R4:aL none ρ=ρ:=rfl
theorem nR{a:Hd}{n:Int}(h:a.get ρ=some (.int n))(h1:-1000000<=n)(h2:n<=1000000):aE .rng [a] ρ=some ((List.range n.toNat).map λ(j:Nat)=>.int (j:Int),none):=by
 simp only[aE,h];exact Zo ⟨h1,h2⟩
theorem aCA{a b:Hd}{m n:Int}(h:a.get ρ=some (.int m))(h':b.get ρ=some (.int n))(h1:-1000000<=m/\m<=1000000)(h2:-1000000<=n/\n<=1000000):aE .rng [a,b] ρ=some ((List.range (n-m).toNat).map λ(j:Nat)=>.int (m+(j:Int)),none):=by
 simp only[aE,h,h'];exact Zo ⟨h1,h2⟩
theorem zZ{v:RV}{ds:List D}(h:v.d=.lst ds):aE .of [.val v] ρ=some (ds,none):=by simp only[aE,h]
theorem aCY{v:RV}{ds:List D}(h:v.d=.tup ds):aE .of [.val v] ρ=some (ds,none):=by simp only[aE,h]
theorem vT{i:Nat}{ds:List D}{p l:Bool}(h:ρ[i]?=some (.ow (.lst ds) p l)):aE .of [.slot i] ρ=some (ds,some i):=by simp only[aE,h]
theorem dA{bind:D->Env->Option Env}{body:Env->bS}(I:List D->Env->Prop){ds:List D}(h:∀pre d post,ds=pre++d::post->∀ρ,I pre ρ->∃ρ1,bind d ρ=some ρ1/\∃ρ2,body ρ1=some (.nx,ρ2)/\I (pre++[d]) ρ2){ρ:Env}(h0:I [] ρ):∃ρ',cF bind body ds ρ=some (.nx,ρ')/\I ds ρ':=by
 have key:∀(post pre:List D) (ρ:Env),ds=pre++post->I pre ρ->∃ρ',cF bind body post ρ=some (.nx,ρ')/\I ds ρ':=by
  intro post
  induction post with
  |nil=>intro pre ρ e hp;rw[List.append_nil] at e;subst e;exact⟨ρ,rfl,hp⟩
  |cons d post ih =>
   intro pre ρ e hp;obtain⟨ρ1,e1,ρ2,e2,h2⟩:=h pre d post e ρ hp;obtain⟨ρ',e3,h3⟩:=ih (pre++[d]) ρ2 (by rw[e];simp) h2;exact⟨ρ',by simp only[cF,e1,e2,e3],h3⟩
 exact key ds [] ρ rfl h0
noncomputable def OY(as:List Sl):bS->aM RV
 |some (.nx,ρ)=>some (.ok (.sh .non),back as ρ)
 |some (.rt v,ρ)=>some (.ok v,back as ρ)
 |_=>none
theorem D9{as:List Sl}{v:RV}:OY as (some (.rt v,ρ))=some (.ok v,back as ρ):=rfl
theorem bY{T:hX}{n:Nat}{f:String}{as:List Sl}{fn:Fn}(hT:T f=some fn)(h1:as.length=fn.pins.length)(h2:as.all j8=true)(h3:fn.rs=false:=by rfl):run T W (n+1) f as=OY as (exs T.pins (run T W n) W fn.body (as++List.replicate fn.nl .un)):=by
 simp only[run,hT];rw[Zo ⟨h1,h2⟩,h3];generalize exs T.pins (run T W n) W fn.body (as++List.replicate fn.nl .un)=r;obtain _ | ⟨fl,ρ⟩:=r
 ·rfl
 ·cases fl<;>rfl
end
end CI
namespace CI
open PySem PySem.Spec PyProof.Rows L2
noncomputable def FR:D->Value->Bool
 |.non,.none=>true
 |.bl a,.bool b=>a==b
 |.int i,.int j _=>i==j
 |.str x,.str y _=>x==y&&PyData.strOk x
 |_,_=>false
noncomputable def mH:List D->List Value->Bool
 |[],[]=>true
 |d::ds,v::vs=>FR d v&&mH ds vs
 |_,_=>false
theorem PH{K:Frag}{d:D}{u:Value}(h:FR d u=true):∃v,a8 v u/\∀G,aC K G d v:=by
 cases d<;>cases u<;>simp only[FR,Bool.false_eq_true] at h
 ·exact⟨.non,rfl,λG=>by simp[aC]⟩
 ·exact⟨.bl _,rfl,λG=>by simp[aC,Zy h]⟩
 ·rename_i i j t;exact⟨.int i,⟨t,by rw[Zy h]⟩,λG=>by simp[aC]⟩
 ·rename_i x y t;rw[ZB] at h;exact⟨.str x,⟨t,by rw[Zy h.1]⟩,λG=>by simp[aC,h.2]⟩
theorem yU{K:Frag}:∀{ds:List D} {us:List Value},mH ds us=true->∃vs,aS vs us/\∀G,aA K G ds vs
 |[],[],_=>⟨[],.nil,λG=>aA.nil⟩
 |d::ds,u::us,h=>by
  simp only[mH,ZB] at h;obtain⟨v,h1,h2⟩:=PH (K:=K) h.1;obtain⟨vs,h3,h4⟩:=yU (K:=K) h.2;exact⟨v::vs,.cons h1 h3,λG=>aA.cons (h2 G) (h4 G)⟩
 |[],_::_,h=>by simp[mH] at h
 |_::_,[],h=>by simp[mH] at h
theorem E2{K:Frag}{mg:Str->Option Value}{h:Heap}{T:hX}{gl:Str->GV}{x:Str}{a:Addr}{its:Array Value}{n:Nat}{dd:Option Addr}{sl}{ds:List D}(X:K.In h)(G:h.Ns mainGlobals mg)
  (ha:nsIn K mainGlobals x=some (some (.ref a))) (hl:K.lookup a=some ⟨.type "tuple",dd,.seq its n,sl⟩) (hc:mH ds its.toList=true) (hz:decide (its.size<=1000)=true):d8 K mg T gl (x,.con (.tup ds)):=by
 obtain⟨vs,h1,h2⟩:=yU (K:=K) hc;refine⟨_,.ref a,PySem.W.mg_of X G ha,rfl,λG=>?_⟩;simp only[aC];exact⟨a,vs,rfl,.inr ⟨_,its,n,hl,rfl,rfl,Zr (of_decide_eq_true hz) (by decide),h1⟩,h2 G⟩
noncomputable section
variable{P:aJ}{C:Calls}{t:Bool}{ρ ρ1:Env}
noncomputable def vQ(P:aJ)(C:Calls)(elt:E)(tg:List Nat)(k:ItK)(cond:List E)(imp:List Nat)(nl:Nat)(hs:List Hd)(ρ1:Env):aM RV :=
 match aE k hs ρ1 with
 |none=>none
 |some (ds,o)=>(dJ (imp.map λ_=>true) (lS (cI P C cond) (ev P C false elt) (aY (tg.length==1) tg) ds nl) (imp.map Hd.slot) (aL o ρ1)).bind (dW o ρ1)
theorem S9{elt:E}{tg:List Nat}{k:ItK}{its cond:List E}{imp:List Nat}{nl:Nat}:ev P C t (.comp elt tg k its cond imp nl) ρ=bE t ((bZ P C its ρ).bind (vQ P C elt tg k cond imp nl)):=rfl
theorem i5{elt:E}{tg:List Nat}{k:ItK}{cond:List E}{imp:List Nat}{nl:Nat}{hs:List Hd}{ds:List D}(h:aE k hs ρ1=some (ds,none)) :
  vQ P C elt tg k cond imp nl hs ρ1=(dJ (imp.map λ_=>true) (lS (cI P C cond) (ev P C false elt) (aY (tg.length==1) tg) ds nl) (imp.map Hd.slot) ρ1).bind (dW none ρ1):=by
 unfold vQ;rw[h];rfl
theorem J5{v:RV}{ρ2:Env}:dW none ρ1 v ρ2=some (.ok v,ρ2):=rfl
theorem kA{elt:E}{tg:List Nat}{k:ItK}{cond:List E}{imp:List Nat}{nl:Nat}{hs:List Hd}{ds:List D}{i:Nat}(h:aE k hs ρ1=some (ds,some i)) :
  vQ P C elt tg k cond imp nl hs ρ1=(dJ (imp.map λ_=>true) (lS (cI P C cond) (ev P C false elt) (aY (tg.length==1) tg) ds nl) (imp.map Hd.slot) (aL (some i) ρ1)).bind (dW (some i) ρ1):=by
 unfold vQ;rw[h]
noncomputable def FN(as:List Sl)(acc:List D)(ρi:Env):aM RV:=if aP acc.length then some (.ok (.ow (.lst acc)),back as ρi) else none
theorem HP{tests elt:Env->aM RV}{bind:D->Env->Option Env}{ds:List D}{nl:Nat}{as:List Sl}(h:as.all j8=true):lS tests elt bind ds nl as=(c8 tests elt bind ds [] (as++List.replicate nl .un)).bind (FN as):=by
 unfold lS;rw[Zo h];rfl
theorem X8{as:List Sl}{acc:List D}{ρi:Env}(h:aP acc.length=true):FN as acc ρi=some (.ok (.ow (.lst acc)),back as ρi):=by unfold FN;rw[Zo h]
theorem iG:cI P C [] ρ=some (.ok (.sh (.bl true)),ρ):=rfl
noncomputable def kTs(P:aJ)(C:Calls)(es:List E)(v:RV)(ρ1:Env):aM RV:=match v with
 |.sh (.bl true)=>cI P C es ρ1
 |.sh (.bl false)=>some (.ok (.sh (.bl false)),ρ1)
 |_=>none
theorem K8{e:E}{es:List E}:cI P C (e::es) ρ=(ev P C true e ρ).bind (kTs P C es):=rfl
theorem aBy{b:Bool}:kTs P C [] (.sh (.bl b)) ρ1=some (.ok (.sh (.bl b)),ρ1):=by
 cases b
 ·rfl
 ·show cI P C [] ρ1=_;exact iG
theorem MN{d:D}{l:Bool}:j8 (.ow d true l)=true:=rfl
theorem MW{d:D}:j8 (.sh d)=true:=rfl
theorem gE{tests elt:Env->aM RV}{bind:D->Env->Option Env}{ds:List D}(I:Nat->List D->Env->Prop)
  (step:∀(j:Nat) (d:D),ds[j]?=some d->∀acc ρ,I j acc ρ->∃ρ1 c ρ2,bind d ρ=some ρ1/\tests ρ1=some (.ok (.sh (.bl c)),ρ2)/\(c=true->∃v ρ3,elt ρ2=some (.ok v,ρ3)/\I (j+1) (acc++[v.d]) ρ3)/\(c=false->I (j+1) acc ρ2)) :
  ∀acc ρ,I 0 acc ρ->∃acc' ρ',c8 tests elt bind ds acc ρ=some (.ok acc',ρ')/\I ds.length acc' ρ'/\acc'.length<=acc.length+ds.length:=by
 have key:∀(es:List D) (j:Nat),ds.drop j=es->∀acc ρ,I j acc ρ->∃acc' ρ',c8 tests elt bind es acc ρ=some (.ok acc',ρ')/\I (j+es.length) acc' ρ'/\acc'.length<=acc.length+es.length:=by
  intro es
  induction es with
  |nil=>intro j _ acc ρ h;exact⟨acc,ρ,rfl,h,by simp⟩
  |cons d es ih =>
   intro j hj acc ρ h
   have hd:ds[j]?=some d:=by
    have:(ds.drop j)[0]?=some d:=by rw[hj];rfl
    simpa using this
   have hj':ds.drop (j+1)=es:=by
    have:(ds.drop j).drop 1=es:=by rw[hj];rfl
    rw[List.drop_drop] at this;exact this
   obtain⟨ρ1,c,ρ2,h1,h2,h3,h4⟩:=step j d hd acc ρ h;simp only[c8,h1,h2,aM.bind]
   cases c with
   |false =>
    obtain⟨acc',ρ',e1,e2,e3⟩:=ih (j+1) hj' acc ρ2 (h4 rfl);refine⟨acc',ρ',e1, ?_,by simp only[Zk];omega⟩
    have:j+(d::es).length=j+1+es.length:=by simp only[Zk];omega
    rw[this];exact e2
   |true =>
    obtain⟨v,ρ3,h5,h6⟩:=h3 rfl;obtain⟨acc',ρ',e1,e2,e3⟩:=ih (j+1) hj' (acc++[v.d]) ρ3 h6;simp only[h5];refine⟨acc',ρ',e1, ?_,by simp only[Za,Zk,List.length_nil] at e3 ⊢;omega⟩
    have:j+(d::es).length=j+1+es.length:=by simp only[Zk];omega
    rw[this];exact e2
 intro acc ρ h
 have:=key ds 0 rfl acc ρ h
 simpa using this
theorem PL{f:String}{es:List E}:vA P C (.call f es) ρ=(ev P C false (.call f es) ρ).bind AB:=rfl
theorem bQ{n:Nat}(h:n<=1000000):aP n=true:=nY h
end
end CI
namespace CI
open PySem (Operator CmpOp Str)
noncomputable section
variable{P:aJ}{C:Calls}{W:Nat}{t:Bool}{ρ ρ1 ρ2:Env}
theorem SO{a:E}{f:Str}:eB P C (.fld a f) ρ=(ev P C false (.fld a f) ρ).bind iO:=rfl
theorem PF{i:Nat}{m:Str}{tb:List (Str×String)}{es:List E}:eB P C (.meth i m tb es) ρ=(ev P C false (.meth i m tb es) ρ).bind iO:=rfl
def kLr(hs:List Hd)(ρ:Env):aM RV:=done ((getAll hs ρ).bind rY) ρ
theorem aEj{hs:List Hd}:kLr hs ρ=done ((getAll hs ρ).bind rY) ρ:=rfl
theorem VM{es:List E}:ev P C t (.lrng es) ρ=bE t ((bZ P C es ρ).bind kLr):=rfl
theorem lr1{n:Nat}(h:n<=1000000):rY [.int (n:Int)]=some (.ow (.lst (((List.range n).map λ(k:Nat)=>(k:Int)).map D.int))):=by
 refine Eq.trans (@if_pos _ (cl _) (by omega) _ _ _) ?_;rw[show(((n:Int)-0).toNat)=n by omega,List.map_map];simp only[Function.comp_def,Int.zero_add]
def iF(o:Option D)(f:Str):Option RV:=o.bind λd=>(PX d f).map .sh
def aAH(f:Str)(x:Hd)(ρ:Env):aM RV:=done (iF (x.get ρ) f) ρ
theorem aBz{f:Str}{x:Hd}:aAH f x ρ=done (iF (x.get ρ) f) ρ:=rfl
theorem ZR{a:E}{f:Str}:ev P C t (.fld a f) ρ=bE t ((eB P C a ρ).bind (aAH f)):=rfl
noncomputable def zU(c:Str)(ns:List Str)(ds:List D)(ρ:Env):aM RV:=if ds.length=ns.length then some (.ok (.sh (.ins c ns ds)),ρ) else none
theorem SH{c:Str}{ns:List Str}{es:List E}:ev P C t (.make c ns es) ρ=bE t ((k9 P C es ρ).bind (zU c ns)):=rfl
theorem VH{c f:Str}{a:D}:zU c [f] [a] ρ=some (.ok (.sh (.ins c [f] [a])),ρ):=rfl
theorem U3{c f g:Str}{a b:D}:zU c [f,g] [a,b] ρ=some (.ok (.sh (.ins c [f,g] [a,b])),ρ):=rfl
theorem RY{c f g h:Str}{a b d:D}:zU c [f,g,h] [a,b,d] ρ=some (.ok (.sh (.ins c [f,g,h] [a,b,d])),ρ):=rfl
noncomputable def FF(P:aJ)(C:Calls)(f:String)(d:D)(hs:List Hd)(ρ:Env):aM RV:=z9 P C f (.val (.sh d)::hs) ρ
theorem YI{f:String}{d:D}{hs:List Hd}:FF P C f d hs ρ=z9 P C f (.val (.sh d)::hs) ρ:=rfl
noncomputable def FX(P:aJ)(C:Calls)(d:D)(es:List E)(ρ:Env):Option String->aM RV
 |some f=>(bZ P C es ρ).bind (FF P C f d)
 |none=>none
theorem aA3{f:String}{d:D}{es:List E}:FX P C d es ρ (some f)=(bZ P C es ρ).bind (FF P C f d):=rfl
noncomputable def ZH(P:aJ)(C:Calls)(m:Str)(tb:List (Str×String))(es:List E)(ρ:Env):Option Sl->aM RV
 |some (.sh (.ins c ns ds))=>FX P C (.ins c ns ds) es ρ (eQ c ns m tb)
 |_=>none
theorem aBX{m:Str}{tb:List (Str×String)}{es:List E}{c:Str}{ns:List Str}{ds:List D}:ZH P C m tb es ρ (some (.sh (.ins c ns ds)))=FX P C (.ins c ns ds) es ρ (eQ c ns m tb):=rfl
theorem U5{i:Nat}{m:Str}{tb:List (Str×String)}{es:List E}:ev P C t (.meth i m tb es) ρ=bE t (ZH P C m tb es ρ ρ[i]?):=rfl
theorem R9{c:Str}{ns:List Str}{es:List E}:ex P C W (.ret (.make c ns es)) ρ=(ev P C false (.make c ns es) ρ).flow jO:=rfl
theorem aBN{a b:Bool}:bX .NotEq (.bl a) (.bl b)=some (!(a==b)):=rfl
theorem zg0{α:Type}{a:α}{l:List α}:(a::l)[0]?=some a:=rfl
theorem zg1{α:Type}{a:α}{l:List α}{n:Nat}:(a::l)[n+1]?=l[n]?:=rfl
theorem zs0{α:Type}{a b:α}{l:List α}:(a::l).set 0 b=b::l:=rfl
theorem zs1{α:Type}{a b:α}{l:List α}{n:Nat}:(a::l).set (n+1) b=a::l.set n b:=rfl
theorem zb{α β:Type}{a:α}{f:α->Option β}:(some a).bind f=f a:=rfl
theorem zm{α β:Type}{a:α}{f:α->β}:(some a).map f=some (f a):=rfl
theorem zi{α:Type}{a:α}:(some a).isSome=true:=rfl
theorem zc{α:Type}{a:α}{l m:List α}:(a::l)++m=a::(l++m):=rfl
theorem zn{α:Type}{l:List α}:[]++l=l:=rfl
theorem zr0{α:Type}{a:α}:List.replicate 0 a=[]:=rfl
theorem zr1{α:Type}{a:α}{n:Nat}:List.replicate (n+1) a=a::List.replicate n a:=rfl
theorem zl0{α:Type}:([]:List α).length=0:=rfl
theorem zl1{α:Type}{a:α}{l:List α}:(a::l).length=l.length+1:=rfl
theorem znt:(!true)=false:=rfl
theorem znf:(!false)=true:=rfl
theorem zko{d:D}{p l:Bool}{as:List Sl}{b:Sl}{bs:Env}:back (.ow d p l::as) (b::bs)=b::back as bs:=rfl
theorem zks{d:D}{as:List Sl}{b:Sl}{bs:Env}:back (.sh d::as) (b::bs)=.sh d::back as bs:=rfl
theorem zkn{bs:Env}:back [] bs=[]:=rfl
end
theorem aDP{α:Type}{Q:List α->Prop}(h:∀a0,Q [a0])(us:List α)(hl:us.length=1):Q us:=by
 obtain _ | ⟨a0,r0⟩:=us
 ·simp at hl
 obtain _ | ⟨x,y⟩:=r0
 ·exact h a0
 ·simp at hl
theorem aEI{α:Type}{Q:List α->Prop}(h:∀a0 a1,Q [a0,a1])(us:List α)(hl:us.length=2):Q us:=by
 obtain _ | ⟨a0,r0⟩:=us
 ·simp at hl
 obtain _ | ⟨a1,r1⟩:=r0
 ·simp at hl
 obtain _ | ⟨x,y⟩:=r1
 ·exact h a0 a1
 ·simp at hl
theorem aD7{α:Type}{Q:List α->Prop}(h:∀a0 a1 a2,Q [a0,a1,a2])(us:List α)(hl:us.length=3):Q us:=by
 obtain _ | ⟨a0,r0⟩:=us
 ·simp at hl
 obtain _ | ⟨a1,r1⟩:=r0
 ·simp at hl
 obtain _ | ⟨a2,r2⟩:=r1
 ·simp at hl
 obtain _ | ⟨x,y⟩:=r2
 ·exact h a0 a1 a2
 ·simp at hl
theorem aD4{α:Type}{Q:List α->Prop}(h:∀a0 a1 a2 a3,Q [a0,a1,a2,a3])(us:List α)(hl:us.length=4):Q us:=by
 obtain _ | ⟨a0,r0⟩:=us
 ·simp at hl
 obtain _ | ⟨a1,r1⟩:=r0
 ·simp at hl
 obtain _ | ⟨a2,r2⟩:=r1
 ·simp at hl
 obtain _ | ⟨a3,r3⟩:=r2
 ·simp at hl
 obtain _ | ⟨x,y⟩:=r3
 ·exact h a0 a1 a2 a3
 ·simp at hl
theorem aDH{α:Type}{Q:List α->Prop}(h:∀a0 a1 a2 a3 a4,Q [a0,a1,a2,a3,a4])(us:List α)(hl:us.length=5):Q us:=by
 obtain _ | ⟨a0,r0⟩:=us
 ·simp at hl
 obtain _ | ⟨a1,r1⟩:=r0
 ·simp at hl
 obtain _ | ⟨a2,r2⟩:=r1
 ·simp at hl
 obtain _ | ⟨a3,r3⟩:=r2
 ·simp at hl
 obtain _ | ⟨a4,r4⟩:=r3
 ·simp at hl
 obtain _ | ⟨x,y⟩:=r4
 ·exact h a0 a1 a2 a3 a4
 ·simp at hl
open PySem PySem.Spec PyProof.Rows L2 in
def BQ(x qual:PySem.Str)(st:PySem.Stmt)(kV doc pm:PySem.Value)(an:Option PySem.Addr)(cdv ct:PySem.Value)(us:List PySem.Value):Prop:=PySem.bindArgs (PySem.W.fnOf x qual (dX st) (bW st) (aV st) .none kV doc pm an cdv ct) ⟨us,[]⟩=pure ((cH st).zip us)
theorem fc{α:Type}{P:α->Prop}{a:α}{l:List α}(h:P a)(t:∀x∈l,P x):∀x∈a::l,P x:=List.forall_mem_cons.mpr ⟨h,t⟩
section
open PySem PySem.Spec PyProof.Rows L2
abbrev Sc4(st:Stmt):Prop:=(vX st).Nodup/\(vX st).take (cH st).length=cH st/\(∀x∈cH st,(aV st).names.lookup x=some .local\/(aV st).names.lookup x=some .cell)/\∀y∈(aV st).names,y.2≠.free
abbrev B7(x qual:PySem.Str)(st:PySem.Stmt):Prop:=∀(kV doc pm:PySem.Value) (an:Option PySem.Addr) (cdv ct:PySem.Value) (us:List PySem.Value),us.length=(cH st).length->BQ x qual st kV doc pm an cdv ct us
theorem d9{gl:PySem.Str->GV}{st:Stmt}{x qual:PySem.Str}{fn:Fn}(h1:(aV st).kind=.function)(h2:(aV st).isCoroutine=false)(h3:(aV st).isGenerator=false)(h:Sc4 st/\(vX st).length=fn.pins.length+fn.nl/\(cH st).length=fn.pins.length)(b:fn.body=K0 gl st)(q:B7 x qual st):DefOkQ gl st x qual fn :=
 ⟨⟨h1,h2,h3,h.1.1,h.1.2.1,h.1.2.2.1,h.1.2.2.2⟩,b,h.2.1,h.2.2,q⟩
theorem CQ{st:Stmt}{qual:PySem.Str}{ns:List PySem.Str}(h1:(aV st).kind=.function)(h2:(aV st).isCoroutine=false)(h3:(aV st).isGenerator=false)(h:Sc4 st/\(cH st).length=ns.length+1/\ns.Nodup/\ns.length<1000)(b:j6 (cH st) 1 (bW st)=some ns)(q:B7 "__init__" qual st):IniOk st qual ns :=
 ⟨⟨h1,h2,h3,h.1.1,h.1.2.1,h.1.2.2.1,h.1.2.2.2⟩,b,h.2.1,h.2.2.1,h.2.2.2,q⟩
variable{x qual:PySem.Str}{st:Stmt}
theorem IW(hn:(cH st).length=1)(h:∀kV doc pm an cdv ct a0,BQ x qual st kV doc pm an cdv ct [a0]):B7 x qual st:=λkV doc pm an cdv ct us hl=>aDP (h kV doc pm an cdv ct) us (hl.trans hn)
theorem lE(hn:(cH st).length=2)(h:∀kV doc pm an cdv ct a0 a1,BQ x qual st kV doc pm an cdv ct [a0,a1]):B7 x qual st:=λkV doc pm an cdv ct us hl=>aEI (h kV doc pm an cdv ct) us (hl.trans hn)
theorem yC(hn:(cH st).length=3)(h:∀kV doc pm an cdv ct a0 a1 a2,BQ x qual st kV doc pm an cdv ct [a0,a1,a2]):B7 x qual st:=λkV doc pm an cdv ct us hl=>aD7 (h kV doc pm an cdv ct) us (hl.trans hn)
theorem sE(hn:(cH st).length=4)(h:∀kV doc pm an cdv ct a0 a1 a2 a3,BQ x qual st kV doc pm an cdv ct [a0,a1,a2,a3]):B7 x qual st:=λkV doc pm an cdv ct us hl=>aD4 (h kV doc pm an cdv ct) us (hl.trans hn)
theorem bn5(hn:(cH st).length=5)(h:∀kV doc pm an cdv ct a0 a1 a2 a3 a4,BQ x qual st kV doc pm an cdv ct [a0,a1,a2,a3,a4]):B7 x qual st:=λkV doc pm an cdv ct us hl=>aDH (h kV doc pm an cdv ct) us (hl.trans hn)
end
noncomputable def PQ(i:Nat)(v:RV)(ρ:Env)(o:Option Sl):aM RV:=match o,v with
 |some (.ow (.lst ds) p false),.ow (.lst es)=>if aP (ds.length+es.length) then some (.ok (.sh .non),ρ.set i (.ow (.lst (ds++es)) p false)) else none
 |_,_=>none
noncomputable def RK(i:Nat)(v:RV)(ρ:Env):aM RV:=PQ i v ρ ρ[i]?
theorem W0{i:Nat}{v:RV}:RK i v ρ=PQ i v ρ ρ[i]?:=rfl
theorem aBp{i:Nat}{ds es:List D}{p:Bool}:PQ i (.ow (.lst es)) ρ (some (.ow (.lst ds) p false))=C5 (aP (ds.length+es.length)) (.sh .non) (ρ.set i (.ow (.lst (ds++es)) p false)):=rfl
theorem aAE{i:Nat}{a:E}:ev P C t (.ext i a) ρ=bE t (GY ((ev P C false a ρ).bind (RK i)) (gW ρ i)):=rfl
noncomputable def GU(i:Nat)(j:RV)(ρ:Env)(o:Option Sl):aM RV:=match o,j with
 |some (.ow (.lst ds) p false),.sh (.int n)=>@ite _ (0<=n/\n<=1000000) (cl _) ((ds[n.toNat]?).map λd=>(.ok (.sh d),ρ.set i (.ow (.lst (ds.eraseIdx n.toNat)) p false))) none
 |_,_=>none
noncomputable def QN(i:Nat)(j:RV)(ρ:Env):aM RV:=GU i j ρ ρ[i]?
theorem ZT{i:Nat}{j:RV}:QN i j ρ=GU i j ρ ρ[i]?:=rfl
theorem aBJ{i:Nat}{ds:List D}{d:D}{p:Bool}{n:Int}(h1:0<=n)(h2:n<=1000000)(h3:ds[n.toNat]?=some d):GU i (.sh (.int n)) ρ (some (.ow (.lst ds) p false))=some (.ok (.sh d),ρ.set i (.ow (.lst (ds.eraseIdx n.toNat)) p false)):=by
 show @ite _ (0<=n/\n<=1000000) (cl _) ((ds[n.toNat]?).map _) none=_;rw[Zo ⟨h1,h2⟩,h3];rfl
theorem TJ{i:Nat}{k:E}:ev P C t (.popi i k) ρ=bE t (GY ((ev P C false k ρ).bind (QN i)) (gW ρ i)):=rfl
theorem LY{ds:List D}(h:(ds.all λd=>(gH d).isSome)=true):lK .sorted [.lst ds]=some (.ow (.lst (jD ds))):=Zo h
end CI
namespace Tx
open PySem PySem.Spec PyProof.Rows L2 CI
noncomputable def top(i:Nat):Stmt:=PySem.Challenge.pw_canonwright_k21_whole_beginnings_and_rul.main.body.getD i (.Pass ⟨0,0,0,0⟩)
noncomputable def dI:List (Str×String):=[("Span","Span.broken"),("Leap","Leap.broken"),("Back","Back.broken"),("Again","Again.broken"),("Range","Range.broken"),("Above","Above.broken"),("Never","Never.broken")]
noncomputable def eK:List (Str×String):=[("Span","Span.forbids"),("Range","Range.forbids")]
noncomputable def L:List (Str×GV):=[((Str.ofString "BAR",GV.con (.int 1)):Str×GV),((Str.ofString "OCTAVE",GV.con (.int 2)):Str×GV),((Str.ofString "VOICES",GV.con (.int 3)):Str×GV),((Str.ofString "RULES",GV.con (.int 4)):Str×GV),((Str.ofString "LATE",GV.con (.int 0)):Str×GV),((Str.ofString "SHIFT",GV.con (.int 1)):Str×GV),((Str.ofString "TURNED",GV.con (.int 2)):Str×GV),((Str.ofString "LEADER",GV.con (.tup [(.int 0),(.int 0),(.bl false)])):Str×GV),((Str.ofString "BY_THE_LINE",GV.con (.tup [])):Str×GV),((Str.ofString "pitch",GV.fn "pitch"):Str×GV),((Str.ofString "singer",GV.fn "singer"):Str×GV),((Str.ofString "sung",GV.fn "sung"):Str×GV),((Str.ofString "span",GV.fn "span"):Str×GV),((Str.ofString "chord",GV.fn "chord"):Str×GV),((Str.ofString "sounding_pairs",GV.fn "sounding_pairs"):Str×GV),((Str.ofString "move_so",GV.fn "move_so"):Str×GV),((Str.ofString "rule_of",GV.fn "rule_of"):Str×GV),((Str.ofString "rules_of",GV.fn "rules_of"):Str×GV),((Str.ofString "breaks_at",GV.fn "breaks_at"):Str×GV),((Str.ofString "breaks",GV.fn "breaks"):Str×GV),((Str.ofString "first_break",GV.fn "first_break"):Str×GV),((Str.ofString "is_let_by",GV.fn "is_let_by"):Str×GV),((Str.ofString "_law_pen",GV.fn "L_pen"):Str×GV),((Str.ofString "_law_draw",GV.fn "L_draw"):Str×GV),((Str.ofString "_law_rule",GV.fn "L_rule"):Str×GV),((Str.ofString "_law_house",GV.fn "L_house"):Str×GV),((Str.ofString "_law_line",GV.fn "L_line"):Str×GV),((Str.ofString "_law_order",GV.fn "L_order"):Str×GV),((Str.ofString "_law_with",GV.fn "L_with"):Str×GV),((Str.ofString "_law_named",GV.fn "L_named"):Str×GV),((Str.ofString "law",GV.fn "law"):Str×GV),((Str.ofString "Span",GV.cls ["beat","spans"]):Str×GV),((Str.ofString "Leap",GV.cls ["most"]):Str×GV),((Str.ofString "Back",GV.cls ["leap","most"]):Str×GV),((Str.ofString "Again",GV.cls ["most"]):Str×GV),((Str.ofString "Range",GV.cls ["low","high"]):Str×GV),((Str.ofString "Above",GV.cls ["one","other"]):Str×GV),((Str.ofString "Never",GV.cls ["one","other","way"]):Str×GV),((rA "broken",GV.mth dI):Str×GV),((rA "forbids",GV.mth eK):Str×GV),((Str.ofString "abs",GV.blt):Str×GV),((Str.ofString "all",GV.blt):Str×GV),((Str.ofString "enumerate",GV.blt):Str×GV),((Str.ofString "int",GV.blt):Str×GV),((Str.ofString "len",GV.blt):Str×GV),((Str.ofString "list",GV.blt):Str×GV),((Str.ofString "range",GV.blt):Str×GV),((Str.ofString "sorted",GV.blt):Str×GV),((Str.ofString "tuple",GV.blt):Str×GV)]
noncomputable def UJ:Stmt->List Stmt
 |.ClassDef _ _ _ body _ _ _ _ _ _ _=>body
 |_=>[]
noncomputable def dS(i j:Nat):Stmt:=(UJ (top i)).getD j (.Pass ⟨0,0,0,0⟩)
noncomputable def nO:E:=(.call "sung" [(.var 1),(.var 2),(.var 4),(.var 0)])
noncomputable def iB:E:=(.tup [(.var 4),(.var 5)])
noncomputable def gS:E:=(.cmp .Eq (.var 3) (.ix (.var 1) (.var 0)))
noncomputable def gX:E:=(.tup [(.var 2)])
noncomputable def jL:E:=(.call "rule_of" [(.var 1)])
noncomputable def lX:E:=(.call "L_draw" [(.var 1),(.var 0)])
noncomputable def lT:E:=(.ix (.ix (.var 0) (.con (.int 4))) (.var 2))
noncomputable def lA:E:=(.tup [(.var 2),(.ix (.var 0) (.var 3)),(.var 4)])
noncomputable def oJ:E:=(.var 2)
noncomputable def n0:E:=(.var 2)
noncomputable def nS:E:=(.var 2)
noncomputable def fQ:List S:=[(.ifs (.and (.cmp .IsNot (.ix (.var 0) (.var 2)) (.con .non)) (.cmp .IsNot (.ix (.var 0) (.var 3)) (.con .non))) [(.expr (.app 1 (.tup [(.var 2),(.var 3)])))] [])]
noncomputable def fU:List S:=[(.for [3] true .rng [(.bin .Add (.var 2) (.con (.int 1))),(.bif .len [(.var 0)])] fQ)]
noncomputable def gU:List S:=[(.ifs (.and (.cmp .Eq (.call "span" [(.var 4),(.ix (.var 5) (.var 8)),(.ix (.var 5) (.var 9))]) (.fld (.var 0) "one")) (.cmp .Eq (.call "span" [(.var 4),(.ix (.var 6) (.var 8)),(.ix (.var 6) (.var 9))]) (.fld (.var 0) "other"))) [(.ifs (.call "move_so" [(.fld (.var 0) "way"),(.bin .Sub (.ix (.var 6) (.var 8)) (.ix (.var 5) (.var 8))),(.bin .Sub (.ix (.var 6) (.var 9)) (.ix (.var 5) (.var 9)))]) [(.expr (.app 7 (.tup [(.var 8),(.var 9)])))] [])] [])]
noncomputable def i6:List S:=[(.expr (.app 4 (.tup [(.var 3),(.var 5),(.var 7)])))]
noncomputable def iX:List S:=[(.for [7] true .of [(.meth 6 "broken" dI [(.var 0),(.var 2),(.var 3)])] i6)]
noncomputable def lV:List S:=[(.expr (.ext 3 (.call "breaks_at" [(.var 0),(.var 2),(.var 1),(.var 4)])))]
noncomputable def iD:List S:=[(.asg 4 (.call "breaks_at" [(.var 0),(.var 2),(.var 1),(.var 3)])),(.ifs (.cmp .Gt (.bif .len [(.var 4)]) (.con (.int 0))) [(.ret (.ix (.var 4) (.con (.int 0))))] [])]
noncomputable def kX:List S:=[(.asg 8 (.call "L_draw" [(.var 0),(.ix (.lst [(.con (.int 2)),(.con (.int 5))]) (.bif .int [(.var 1)]))])),(.expr (.app 6 (.tup [(.var 8),(.bin .Sub (.call "L_draw" [(.var 0),(.con (.int 25))]) (.con (.int 12))),(.cmp .Eq (.call "L_draw" [(.var 0),(.con (.int 4))]) (.con (.int 0)))])))]
noncomputable def kG:List S:=[(.expr (.app 9 (.call "L_rule" [(.var 0),(.var 2),(.var 3),(.var 4),(.var 5)])))]
noncomputable def kZ:List S:=[(.expr (.app 3 (.popi 2 (.call "L_draw" [(.var 0),(.bif .len [(.var 2)])]))))]
noncomputable def oE:List S:=[(.ifs (.cmp .NotEq (.call "breaks" [(.var 1),(.sl (.var 2) .omt (.var 4))]) (.comp oJ [2] .of [(.var 3)] [(.cmp .Lt (.ix (.var 2) (.con (.int 0))) (.var 0))] [4] 2)) [(.ret (.con (.bl false)))] [])]
noncomputable def nL:List S:=[(.asg 7 (.call "L_named" [(.call "breaks" [(.call "L_with" [(.var 1),(.lst [(.var 6)])]),(.bif .list [(.var 2)])]),(.lst [(.var 6)])])),(.ifs (.cmp .NotEq (.var 7) (.comp n0 [2] .of [(.var 3)] [(.cmp .Eq (.ix (.var 2) (.con (.int 1))) (.var 0))] [6] 2)) [(.ret (.con (.bl false)))] []),(.expr (.app 5 (.call "is_let_by" [(.call "L_with" [(.var 1),(.lst [(.var 6)])]),(.bif .list [(.var 2)])])))]
noncomputable def lW:S:=(.asg 5 (.call "L_draw" [(.var 0),(.con (.int 9))]))
theorem zE{P:aJ}{C:Calls}{W:Nat}{ρ:CI.Env}:ex P C W lW ρ=ex P C W (.asg 5 (.call "L_draw" [(.var 0),(.con (.int 9))])) ρ:=(rfl)
noncomputable def l3:S:=(.ifs (.cmp .Lt (.var 5) (.con (.int 2))) [(.ret (.tup [(.con (.str ("span":Str))),(.call "L_draw" [(.var 0),(.var 2)]),(.call "L_draw" [(.var 0),(.bin .LShift (.con (.int 1)) (.var 3))])]))] [])
theorem o9{P:aJ}{C:Calls}{W:Nat}{ρ:CI.Env}:ex P C W l3 ρ=ex P C W (.ifs (.cmp .Lt (.var 5) (.con (.int 2))) [(.ret (.tup [(.con (.str ("span":Str))),(.call "L_draw" [(.var 0),(.var 2)]),(.call "L_draw" [(.var 0),(.bin .LShift (.con (.int 1)) (.var 3))])]))] []) ρ:=(rfl)
noncomputable def sF:S:=(.ifs (.cmp .Eq (.var 5) (.con (.int 2))) [(.ret (.tup [(.con (.str ("span":Str))),(.call "L_draw" [(.var 0),(.var 2)]),(.bin .Sub (.bin .Sub (.bin .LShift (.con (.int 1)) (.var 3)) (.con (.int 1))) (.bin .LShift (.con (.int 1)) (.call "L_draw" [(.var 0),(.var 3)])))]))] [])
theorem pR{P:aJ}{C:Calls}{W:Nat}{ρ:CI.Env}:ex P C W sF ρ=ex P C W (.ifs (.cmp .Eq (.var 5) (.con (.int 2))) [(.ret (.tup [(.con (.str ("span":Str))),(.call "L_draw" [(.var 0),(.var 2)]),(.bin .Sub (.bin .Sub (.bin .LShift (.con (.int 1)) (.var 3)) (.con (.int 1))) (.bin .LShift (.con (.int 1)) (.call "L_draw" [(.var 0),(.var 3)])))]))] []) ρ:=(rfl)
noncomputable def sT:S:=(.ifs (.cmp .Eq (.var 5) (.con (.int 3))) [(.ret (.tup [(.con (.str ("leap":Str))),(.call "L_draw" [(.var 0),(.ix (.lst [(.con (.int 13)),(.bin .Add (.var 1) (.con (.int 1)))]) (.call "L_draw" [(.var 0),(.con (.int 2))]))])]))] [])
theorem pN{P:aJ}{C:Calls}{W:Nat}{ρ:CI.Env}:ex P C W sT ρ=ex P C W (.ifs (.cmp .Eq (.var 5) (.con (.int 3))) [(.ret (.tup [(.con (.str ("leap":Str))),(.call "L_draw" [(.var 0),(.ix (.lst [(.con (.int 13)),(.bin .Add (.var 1) (.con (.int 1)))]) (.call "L_draw" [(.var 0),(.con (.int 2))]))])]))] []) ρ:=(rfl)
noncomputable def tD:S:=(.ifs (.cmp .Eq (.var 5) (.con (.int 4))) [(.ret (.tup [(.con (.str ("back":Str))),(.bin .Add (.con (.int 1)) (.call "L_draw" [(.var 0),(.con (.int 12))])),(.bin .Add (.con (.int 1)) (.call "L_draw" [(.var 0),(.con (.int 12))]))]))] [])
theorem oU{P:aJ}{C:Calls}{W:Nat}{ρ:CI.Env}:ex P C W tD ρ=ex P C W (.ifs (.cmp .Eq (.var 5) (.con (.int 4))) [(.ret (.tup [(.con (.str ("back":Str))),(.bin .Add (.con (.int 1)) (.call "L_draw" [(.var 0),(.con (.int 12))])),(.bin .Add (.con (.int 1)) (.call "L_draw" [(.var 0),(.con (.int 12))]))]))] []) ρ:=(rfl)
noncomputable def sR:S:=(.ifs (.cmp .Eq (.var 5) (.con (.int 5))) [(.ret (.tup [(.con (.str ("again":Str))),(.bin .Add (.con (.int 1)) (.call "L_draw" [(.var 0),(.con (.int 3))]))]))] [])
theorem pQ{P:aJ}{C:Calls}{W:Nat}{ρ:CI.Env}:ex P C W sR ρ=ex P C W (.ifs (.cmp .Eq (.var 5) (.con (.int 5))) [(.ret (.tup [(.con (.str ("again":Str))),(.bin .Add (.con (.int 1)) (.call "L_draw" [(.var 0),(.con (.int 3))]))]))] []) ρ:=(rfl)
noncomputable def sH:S:=(.ifs (.cmp .Eq (.var 5) (.con (.int 6))) [(.asg 6 (.ix (.lst [(.bin .Sub (.call "L_draw" [(.var 0),(.con (.int 121))]) (.con (.int 60))),(.bin .Sub (.call "L_draw" [(.var 0),(.con (.int 20))]) (.con (.int 12)))]) (.call "L_draw" [(.var 0),(.con (.int 2))]))),(.ret (.tup [(.con (.str ("range":Str))),(.var 6),(.bin .Add (.var 6) (.call "L_draw" [(.var 0),(.bin .Sub (.con (.int 61)) (.var 6))]))]))] [])
theorem pS{P:aJ}{C:Calls}{W:Nat}{ρ:CI.Env}:ex P C W sH ρ=ex P C W (.ifs (.cmp .Eq (.var 5) (.con (.int 6))) [(.asg 6 (.ix (.lst [(.bin .Sub (.call "L_draw" [(.var 0),(.con (.int 121))]) (.con (.int 60))),(.bin .Sub (.call "L_draw" [(.var 0),(.con (.int 20))]) (.con (.int 12)))]) (.call "L_draw" [(.var 0),(.con (.int 2))]))),(.ret (.tup [(.con (.str ("range":Str))),(.var 6),(.bin .Add (.var 6) (.call "L_draw" [(.var 0),(.bin .Sub (.con (.int 61)) (.var 6))]))]))] []) ρ:=(rfl)
noncomputable def sW:S:=(.ifs (.cmp .Eq (.var 5) (.con (.int 7))) [(.asg 7 (.call "L_draw" [(.var 0),(.bin .Add (.var 4) (.con (.int 1)))])),(.ret (.tup [(.con (.str ("above":Str))),(.var 7),(.bin .Mod (.bin .Add (.bin .Add (.var 7) (.con (.int 1))) (.call "L_draw" [(.var 0),(.var 4)])) (.bin .Add (.var 4) (.con (.int 1))))]))] [])
theorem oW{P:aJ}{C:Calls}{W:Nat}{ρ:CI.Env}:ex P C W sW ρ=ex P C W (.ifs (.cmp .Eq (.var 5) (.con (.int 7))) [(.asg 7 (.call "L_draw" [(.var 0),(.bin .Add (.var 4) (.con (.int 1)))])),(.ret (.tup [(.con (.str ("above":Str))),(.var 7),(.bin .Mod (.bin .Add (.bin .Add (.var 7) (.con (.int 1))) (.call "L_draw" [(.var 0),(.var 4)])) (.bin .Add (.var 4) (.con (.int 1))))]))] []) ρ:=(rfl)
noncomputable def sQ:S:=(.asg 8 (.tup [(.con (.str ("like":Str))),(.con (.str ("against":Str))),(.con (.str ("aside":Str))),(.con (.str ("any":Str)))]))
theorem zO{P:aJ}{C:Calls}{W:Nat}{ρ:CI.Env}:ex P C W sQ ρ=ex P C W (.asg 8 (.tup [(.con (.str ("like":Str))),(.con (.str ("against":Str))),(.con (.str ("aside":Str))),(.con (.str ("any":Str)))])) ρ:=(rfl)
noncomputable def sM:S:=(.ret (.tup [(.con (.str ("never":Str))),(.call "L_draw" [(.var 0),(.var 3)]),(.call "L_draw" [(.var 0),(.var 3)]),(.ix (.var 8) (.call "L_draw" [(.var 0),(.con (.int 4))]))]))
theorem zK{P:aJ}{C:Calls}{W:Nat}{ρ:CI.Env}:ex P C W sM ρ=ex P C W (.ret (.tup [(.con (.str ("never":Str))),(.call "L_draw" [(.var 0),(.var 3)]),(.call "L_draw" [(.var 0),(.var 3)]),(.ix (.var 8) (.call "L_draw" [(.var 0),(.con (.int 4))]))])) ρ:=(rfl)
noncomputable def n4:Fn:=⟨[true,true],0,[(.ifs (.ix (.var 0) (.con (.int 2))) [(.ret (.bin .Sub (.ix (.var 0) (.con (.int 1))) (.var 1)))] []),(.ret (.bin .Add (.ix (.var 0) (.con (.int 1))) (.var 1)))],false⟩
noncomputable def lL:Fn:=⟨[true,true],0,[(.ifs (.cmp .Eq (.var 1) (.con (.int 0))) [(.ret (.con (.tup [(.int 0),(.int 0),(.bl false)])))] []),(.ret (.ix (.ix (.var 0) (.con (.int 3))) (.bin .Sub (.var 1) (.con (.int 1)))))],false⟩
noncomputable def rX:Fn:=⟨[true,true,true,true],2,[(.asg 4 (.call "singer" [(.var 0),(.var 2)])),(.asg 5 (.bin .Sub (.var 3) (.ix (.var 4) (.con (.int 0))))),(.ifs (.cmp2 .LtE .Lt (.con (.int 0)) (.var 5) (.bif .len [(.var 1)])) [(.ret (.call "pitch" [(.var 4),(.ix (.var 1) (.var 5))]))] []),(.ret (.con .non))],false⟩
noncomputable def rQ:Fn:=⟨[true,true,true],0,[(.ret (.bin .Mod (.bif .abs [(.bin .Sub (.var 1) (.var 2))]) (.var 0)))],false⟩
noncomputable def oG:Fn:=⟨[true,true,true],0,[(.ret (.comp nO [4] .rng [(.bin .Add (.bif .len [(.ix (.var 0) (.con (.int 3)))]) (.con (.int 1)))] [] [2,0,1] 2))],false⟩
noncomputable def eT:Fn:=⟨[true],3,[(.asg 1 (.lst [])),(.for [2] true .rng [(.bif .len [(.var 0)])] fU),(.ret (.var 1))],false⟩
noncomputable def jT:Fn:=⟨[true,true,true],0,[(.ifs (.cmp .Eq (.var 0) (.con (.str ("like":Str)))) [(.ret (.cmp .Gt (.bin .Mult (.var 1) (.var 2)) (.con (.int 0))))] []),(.ifs (.cmp .Eq (.var 0) (.con (.str ("against":Str)))) [(.ret (.cmp .Lt (.bin .Mult (.var 1) (.var 2)) (.con (.int 0))))] []),(.ifs (.cmp .Eq (.var 0) (.con (.str ("aside":Str)))) [(.ret (.cmp .NotEq (.cmp .Eq (.var 1) (.con (.int 0))) (.cmp .Eq (.var 2) (.con (.int 0)))))] []),(.ret (.con (.bl true)))],false⟩
noncomputable def gQ:Fn:=⟨[true,true,true,true],2,[(.ifs (.cmp .NotEq (.bin .Mod (.var 3) (.ix (.var 1) (.con (.int 1)))) (.fld (.var 0) "beat")) [(.ret (.lst []))] []),(.asg 4 (.ix (.var 1) (.con (.int 2)))),(.asg 5 (.call "chord" [(.var 1),(.var 2),(.var 3)])),(.ret (.comp iB [4,5] .of [(.call "sounding_pairs" [(.var 5)])] [(.meth 2 "forbids" eK [(.call "span" [(.var 1),(.ix (.var 0) (.var 4)),(.ix (.var 0) (.var 5))])])] [5,4,0] 3))],false⟩
noncomputable def fX:Fn:=⟨[true,true],0,[(.ret (.cmp .Eq (.bin .BitAnd (.bin .RShift (.fld (.var 0) "spans") (.var 1)) (.con (.int 1))) (.con (.int 0))))],false⟩
noncomputable def gP:Fn:=⟨[true,true,true,false],0,[(.ifs (.and (.cmp .Gt (.var 3) (.con (.int 0))) (.cmp .Gt (.bif .abs [(.bin .Sub (.ix (.var 2) (.var 3)) (.ix (.var 2) (.bin .Sub (.var 3) (.con (.int 1)))))]) (.fld (.var 0) "most"))) [(.ret (.lst [(.con (.tup []))]))] []),(.ret (.lst []))],false⟩
noncomputable def gK:Fn:=⟨[true,true,true,false],2,[(.ifs (.cmp .Lt (.var 3) (.con (.int 2))) [(.ret (.lst []))] []),(.asg 4 (.bin .Sub (.ix (.var 2) (.bin .Sub (.var 3) (.con (.int 1)))) (.ix (.var 2) (.bin .Sub (.var 3) (.con (.int 2)))))),(.asg 5 (.bin .Sub (.ix (.var 2) (.var 3)) (.ix (.var 2) (.bin .Sub (.var 3) (.con (.int 1)))))),(.ifs (.cmp .Lt (.bif .abs [(.var 4)]) (.fld (.var 0) "leap")) [(.ret (.lst []))] []),(.ifs (.and (.cmp .Lt (.bin .Mult (.var 4) (.var 5)) (.con (.int 0))) (.cmp .LtE (.bif .abs [(.var 5)]) (.fld (.var 0) "most"))) [(.ret (.lst []))] []),(.ret (.lst [(.con (.tup []))]))],false⟩
noncomputable def fW:Fn:=⟨[true,true,true,false],0,[(.ifs (.cmp .Lt (.var 3) (.fld (.var 0) "most")) [(.ret (.lst []))] []),(.ifs (.bif .all [(.comp gS [3] .of [(.sl (.var 2) (.bin .Sub (.var 3) (.fld (.var 0) "most")) (.var 3))] [] [3,2] 2)]) [(.ret (.lst [(.con (.tup []))]))] []),(.ret (.lst []))],false⟩
noncomputable def fY:Fn:=⟨[true,true,true,true],0,[(.ret (.comp gX [2,3] (.enum 0) [(.call "chord" [(.var 1),(.var 2),(.var 3)])] [(.meth 0 "forbids" eK [(.var 3)])] [0] 3))],false⟩
noncomputable def fG:Fn:=⟨[true,true],0,[(.ret (.and (.cmp .IsNot (.var 1) (.con .non)) (.not (.cmp2 .LtE .LtE (.fld (.var 0) "low") (.var 1) (.fld (.var 0) "high")))))],false⟩
noncomputable def f9:Fn:=⟨[true,true,true,true],2,[(.asg 4 (.call "sung" [(.var 1),(.var 2),(.fld (.var 0) "one"),(.var 3)])),(.asg 5 (.call "sung" [(.var 1),(.var 2),(.fld (.var 0) "other"),(.var 3)])),(.ifs (.or (.cmp .Is (.var 4) (.con .non)) (.or (.cmp .Is (.var 5) (.con .non)) (.cmp .GtE (.var 4) (.var 5)))) [(.ret (.lst []))] []),(.ret (.lst [(.tup [(.fld (.var 0) "one"),(.fld (.var 0) "other")])]))],false⟩
noncomputable def f7:Fn:=⟨[true,true,true,true],6,[(.asg 4 (.ix (.var 1) (.con (.int 2)))),(.asg 5 (.call "chord" [(.var 1),(.var 2),(.bin .Sub (.var 3) (.con (.int 1)))])),(.asg 6 (.call "chord" [(.var 1),(.var 2),(.var 3)])),(.asg 7 (.lst [])),(.for [8,9] false .of [(.call "sounding_pairs" [(.var 5)])] gU),(.ret (.var 7))],false⟩
noncomputable def dB:Fn:=⟨[true],1,[(.asg 1 (.ix (.var 0) (.con (.int 0)))),(.ifs (.cmp .Eq (.var 1) (.con (.str ("span":Str)))) [(.ret (.make "Span" ["beat","spans"] [(.ix (.var 0) (.con (.int 1))),(.ix (.var 0) (.con (.int 2)))]))] []),(.ifs (.cmp .Eq (.var 1) (.con (.str ("leap":Str)))) [(.ret (.make "Leap" ["most"] [(.ix (.var 0) (.con (.int 1)))]))] []),(.ifs (.cmp .Eq (.var 1) (.con (.str ("back":Str)))) [(.ret (.make "Back" ["leap","most"] [(.ix (.var 0) (.con (.int 1))),(.ix (.var 0) (.con (.int 2)))]))] []),(.ifs (.cmp .Eq (.var 1) (.con (.str ("again":Str)))) [(.ret (.make "Again" ["most"] [(.ix (.var 0) (.con (.int 1)))]))] []),(.ifs (.cmp .Eq (.var 1) (.con (.str ("range":Str)))) [(.ret (.make "Range" ["low","high"] [(.ix (.var 0) (.con (.int 1))),(.ix (.var 0) (.con (.int 2)))]))] []),(.ifs (.cmp .Eq (.var 1) (.con (.str ("above":Str)))) [(.ret (.make "Above" ["one","other"] [(.ix (.var 0) (.con (.int 1))),(.ix (.var 0) (.con (.int 2)))]))] []),(.ret (.make "Never" ["one","other","way"] [(.ix (.var 0) (.con (.int 1))),(.ix (.var 0) (.con (.int 2))),(.ix (.var 0) (.con (.int 3)))]))],false⟩
noncomputable def jB:Fn:=⟨[true],0,[(.ret (.comp jL [1] .of [(.ix (.var 0) (.con (.int 4)))] [] [] 2))],false⟩
noncomputable def iM:Fn:=⟨[true,true,true,false],4,[(.asg 4 (.lst [])),(.for [5,6] false (.enum 0) [(.var 1)] iX),(.ret (.var 4))],false⟩
noncomputable def lC:Fn:=⟨[true,true],3,[(.asg 2 (.call "rules_of" [(.var 0)])),(.asg 3 (.lst [])),(.for [4] true .rng [(.bif .len [(.var 1)])] lV),(.ret (.var 3))],false⟩
noncomputable def gR:Fn:=⟨[true,true],3,[(.asg 2 (.call "rules_of" [(.var 0)])),(.for [3] true .rng [(.bif .len [(.var 1)])] iD),(.ret (.con .non))],false⟩
noncomputable def iR:Fn:=⟨[true,true],0,[(.ret (.cmp .Is (.call "first_break" [(.var 0),(.var 1)]) (.con .non)))],false⟩
noncomputable def nQ:Fn:=⟨[true,false],1,[(.ifs (.and (.cmp .Lt (.var 1) (.bif .len [(.var 0)])) (.cmp .Eq (.bin .Mod (.ix (.var 0) (.con (.int 0))) (.con (.int 2))) (.con (.int 0)))) [(.ret (.lst [(.con (.int 0)),(.ix (.var 0) (.var 1))]))] []),(.asg 2 (.bin .Add (.bin .Mult (.con (.int 30011)) (.var 1)) (.con (.int 7)))),(.ifs (.cmp .Gt (.bif .len [(.var 0)]) (.con (.int 0))) [(.asg 2 (.bin .Mod (.ix (.var 0) (.bin .Mod (.var 1) (.bif .len [(.var 0)]))) (.con (.int 2147483587)))),(.asg 2 (.bin .Add (.bin .Add (.var 2) (.bin .Mult (.con (.int 48611)) (.bin .FloorDiv (.var 1) (.bif .len [(.var 0)])))) (.bin .Mult (.con (.int 3)) (.var 1))))] []),(.ret (.lst [(.con (.int 1)),(.bin .Mod (.bin .Add (.bin .Add (.bin .Mult (.var 2) (.con (.int 48271))) (.bin .Mult (.con (.int 11)) (.var 1))) (.con (.int 1))) (.con (.int 2147483647)))]))],false⟩
noncomputable def lF:Fn:=⟨[true,true],2,[(.ifs (.cmp .Eq (.ix (.var 0) (.con (.int 0))) (.con (.int 0))) [(.asg 2 (.bin .Mod (.ix (.var 0) (.con (.int 1))) (.var 1))),(.set 0 (.con (.int 1)) (.bin .FloorDiv (.ix (.var 0) (.con (.int 1))) (.var 1))),(.ret (.var 2))] []),(.set 0 (.con (.int 1)) (.bin .Mod (.bin .Add (.bin .Mult (.ix (.var 0) (.con (.int 1))) (.con (.int 69621))) (.con (.int 7))) (.con (.int 2147483629)))),(.asg 3 (.bin .Mod (.bin .Mult (.bin .Add (.bin .Add (.bin .Mult (.bin .Mod (.ix (.var 0) (.con (.int 1))) (.con (.int 65521))) (.con (.int 40503))) (.bin .FloorDiv (.ix (.var 0) (.con (.int 1))) (.con (.int 65521)))) (.con (.int 1))) (.con (.int 16807))) (.con (.int 2147483647)))),(.ret (.bin .Mod (.bin .FloorDiv (.var 3) (.con (.int 13))) (.var 1)))],false⟩
noncomputable def lM:Fn:=⟨[true,true,true,true,true],4,[lW,l3,sF,sT,tD,sR,sH,sW,sQ,sM],false⟩
noncomputable def j5:Fn:=⟨[true],9,[(.asg 1 (.cmp .Eq (.call "L_draw" [(.var 0),(.con (.int 2))]) (.con (.int 0)))),(.asg 2 (.bin .Add (.con (.int 1)) (.call "L_draw" [(.var 0),(.ix (.lst [(.con (.int 4)),(.con (.int 7))]) (.bif .int [(.var 1)]))]))),(.asg 3 (.bin .Add (.con (.int 1)) (.call "L_draw" [(.var 0),(.ix (.lst [(.con (.int 2)),(.con (.int 4))]) (.bif .int [(.var 1)]))]))),(.asg 4 (.bin .Add (.con (.int 1)) (.call "L_draw" [(.var 0),(.con (.int 12))]))),(.asg 5 (.bin .Add (.con (.int 1)) (.call "L_draw" [(.var 0),(.ix (.lst [(.con (.int 2)),(.con (.int 3))]) (.bif .int [(.var 1)]))]))),(.asg 6 (.lst [])),(.for [7] true .rng [(.var 5)] kX),(.asg 9 (.lst [])),(.for [7] true .rng [(.call "L_draw" [(.var 0),(.con (.int 9))])] kG),(.ret (.tup [(.var 2),(.var 3),(.var 4),(.bif .tuple [(.var 6)]),(.bif .tuple [(.var 9)])]))],false⟩
noncomputable def lO:Fn:=⟨[true,true,true],1,[(.asg 3 (.call "L_draw" [(.var 0),(.bin .Add (.var 2) (.con (.int 1)))])),(.ret (.comp lX [3] .rng [(.var 3)] [] [1,0] 2))],false⟩
noncomputable def jU:Fn:=⟨[true,true],3,[(.asg 2 (.lrng [(.var 1)])),(.asg 3 (.lst [])),(.for [4] true .rng [(.var 1)] kZ),(.ret (.var 3))],false⟩
noncomputable def lR:Fn:=⟨[true,true],0,[(.ret (.bin .Add (.sl (.var 0) .omt (.con (.int 4))) (.tup [(.bif .tuple [(.comp lT [2] .of [(.var 1)] [] [0] 2)])])))],false⟩
noncomputable def jY:Fn:=⟨[true,true],0,[(.ret (.bif .sorted [(.comp lA [2,3,4] .of [(.var 0)] [] [1] 4)]))],false⟩
noncomputable def qR:Fn:=⟨[true],10,[(.asg 1 (.call "L_house" [(.call "L_pen" [(.var 0),(.con (.int 1))])])),(.asg 2 (.call "L_line" [(.call "L_pen" [(.var 0),(.con (.int 2))]),(.ix (.var 1) (.con (.int 0))),(.con (.int 40))])),(.asg 3 (.call "breaks" [(.var 1),(.bif .list [(.var 2)])])),(.for [4] true .rng [(.bif .len [(.var 2)])] oE),(.asg 5 (.lst [])),(.for [6] true .rng [(.bif .len [(.ix (.var 1) (.con (.int 4)))])] nL),(.asg 8 (.call "L_order" [(.call "L_pen" [(.var 0),(.con (.int 3))]),(.bif .len [(.ix (.var 1) (.con (.int 4)))])])),(.ifs (.cmp .NotEq (.call "L_named" [(.call "breaks" [(.call "L_with" [(.var 1),(.var 8)]),(.bif .list [(.var 2)])]),(.var 8)]) (.var 3)) [(.ret (.con (.bl false)))] []),(.asg 9 (.sl (.var 8) .omt (.call "L_draw" [(.call "L_pen" [(.var 0),(.con (.int 4))]),(.bin .Add (.bif .len [(.var 8)]) (.con (.int 1)))]))),(.ifs (.cmp .NotEq (.call "L_named" [(.call "breaks" [(.call "L_with" [(.var 1),(.var 9)]),(.bif .list [(.var 2)])]),(.var 9)]) (.comp nS [2] .of [(.var 3)] [(.cmp .In (.ix (.var 2) (.con (.int 1))) (.var 0))] [9] 2)) [(.ret (.con (.bl false)))] []),(.asg 10 (.con .non)),(.ifs (.cmp .NotEq (.var 3) (.lst [])) [(.asg 10 (.ix (.var 3) (.con (.int 0))))] []),(.ret (.and (.cmp .Eq (.call "is_let_by" [(.var 1),(.bif .list [(.var 2)])]) (.bif .all [(.var 5)])) (.cmp .Eq (.call "first_break" [(.var 1),(.bif .list [(.var 2)])]) (.var 10))))],false⟩
noncomputable def TL:List (String×Fn):=[("pitch",n4),("singer",lL),("sung",rX),("span",rQ),("chord",oG),("sounding_pairs",eT),("move_so",jT),("Span.broken",gQ),("Span.forbids",fX),("Leap.broken",gP),("Back.broken",gK),("Again.broken",fW),("Range.broken",fY),("Range.forbids",fG),("Above.broken",f9),("Never.broken",f7),("rule_of",dB),("rules_of",jB),("breaks_at",iM),("breaks",lC),("first_break",gR),("is_let_by",iR),("L_pen",nQ),("L_draw",lF),("L_rule",lM),("L_house",j5),("L_line",lO),("L_order",jU),("L_with",lR),("L_named",jY),("law",qR)]
noncomputable def T:hX:=λf=>TL.lookup f
theorem ED:T "pitch"=some n4:=rfl
theorem WL:T.pins "pitch"=[true,true]:=rfl
theorem A1:T "singer"=some lL:=rfl
theorem L4:T.pins "singer"=[true,true]:=rfl
theorem JF:T "sung"=some rX:=rfl
theorem YD:T.pins "sung"=[true,true,true,true]:=rfl
theorem HS:T "span"=some rQ:=rfl
theorem aAi:T.pins "span"=[true,true,true]:=rfl
theorem D7:T "chord"=some oG:=rfl
theorem VB:T.pins "chord"=[true,true,true]:=rfl
theorem kY:T "sounding_pairs"=some eT:=rfl
theorem tR:T.pins "sounding_pairs"=[true]:=rfl
theorem yZ:T "move_so"=some jT:=rfl
theorem J4:T.pins "move_so"=[true,true,true]:=rfl
theorem oO:T "Span.broken"=some gQ:=rfl
theorem zH:T.pins "Span.broken"=[true,true,true,true]:=rfl
theorem mS:T "Span.forbids"=some fX:=rfl
theorem wY:T.pins "Span.forbids"=[true,true]:=rfl
theorem oN:T "Leap.broken"=some gP:=rfl
theorem zR:T.pins "Leap.broken"=[true,true,true,false]:=rfl
theorem o6:T "Back.broken"=some gK:=rfl
theorem zF:T.pins "Back.broken"=[true,true,true,false]:=rfl
theorem nF:T "Again.broken"=some fW:=rfl
theorem wQ:T.pins "Again.broken"=[true,true,true,false]:=rfl
theorem m9:T "Range.broken"=some fY:=rfl
theorem xP:T.pins "Range.broken"=[true,true,true,true]:=rfl
theorem lD:T "Range.forbids"=some fG:=rfl
theorem wD:T.pins "Range.forbids"=[true,true]:=rfl
theorem mJ:T "Above.broken"=some f9:=rfl
theorem wO:T.pins "Above.broken"=[true,true,true,true]:=rfl
theorem mO:T "Never.broken"=some f7:=rfl
theorem wX:T.pins "Never.broken"=[true,true,true,true]:=rfl
theorem fA:T "rule_of"=some dB:=rfl
theorem LW:T.pins "rule_of"=[true]:=rfl
theorem vO:T "rules_of"=some jB:=rfl
theorem FY:T.pins "rules_of"=[true]:=rfl
theorem sU:T "breaks_at"=some iM:=rfl
theorem DM:T.pins "breaks_at"=[true,true,true,false]:=rfl
theorem A6:T "breaks"=some lC:=rfl
theorem O7:T.pins "breaks"=[true,true]:=rfl
theorem oV:T "first_break"=some gR:=rfl
theorem zI:T.pins "first_break"=[true,true]:=rfl
theorem sL:T "is_let_by"=some iR:=rfl
theorem DJ:T.pins "is_let_by"=[true,true]:=rfl
theorem E7:T "L_pen"=some nQ:=rfl
theorem V9:T.pins "L_pen"=[true,false]:=rfl
theorem CJ:T "L_draw"=some lF:=rfl
theorem OJ:T.pins "L_draw"=[true,true]:=rfl
theorem A0:T "L_rule"=some lM:=rfl
theorem NG:T.pins "L_rule"=[true,true,true,true,true]:=rfl
theorem xY:T "L_house"=some j5:=rfl
theorem J9:T.pins "L_house"=[true]:=rfl
theorem A3:T "L_line"=some lO:=rfl
theorem L8:T.pins "L_line"=[true,true,true]:=rfl
theorem yB:T "L_order"=some jU:=rfl
theorem IS:T.pins "L_order"=[true,true]:=rfl
theorem AX:T "L_with"=some lR:=rfl
theorem NY:T.pins "L_with"=[true,true]:=rfl
theorem yI:T "L_named"=some jY:=rfl
theorem HN:T.pins "L_named"=[true,true]:=rfl
theorem GH:T "law"=some qR:=rfl
theorem O1:IniOk (dS 20 0) "Span.__init__" ["beat","spans"]:=CQ rfl rfl rfl (by decide +kernel) (by kernel_rfl) (yC rfl λ_ _ _ _ _ _ _ _ _=>rfl)
theorem eF{d0 d1:D}:iF (some (.ins "Span" ["beat","spans"] [d0,d1])) "beat"=some (.sh d0):=(rfl)
theorem dU{d0 d1:D}:iF (some (.ins "Span" ["beat","spans"] [d0,d1])) "spans"=some (.sh d1):=(rfl)
theorem O2:IniOk (dS 21 0) "Leap.__init__" ["most"]:=CQ rfl rfl rfl (by decide +kernel) (by kernel_rfl) (lE rfl λ_ _ _ _ _ _ _ _=>rfl)
theorem jM{d0:D}:iF (some (.ins "Leap" ["most"] [d0])) "most"=some (.sh d0):=(rfl)
theorem MA:IniOk (dS 22 0) "Back.__init__" ["leap","most"]:=CQ rfl rfl rfl (by decide +kernel) (by kernel_rfl) (yC rfl λ_ _ _ _ _ _ _ _ _=>rfl)
theorem eD{d0 d1:D}:iF (some (.ins "Back" ["leap","most"] [d0,d1])) "leap"=some (.sh d0):=(rfl)
theorem eE{d0 d1:D}:iF (some (.ins "Back" ["leap","most"] [d0,d1])) "most"=some (.sh d1):=(rfl)
theorem II:IniOk (dS 23 0) "Again.__init__" ["most"]:=CQ rfl rfl rfl (by decide +kernel) (by kernel_rfl) (lE rfl λ_ _ _ _ _ _ _ _=>rfl)
theorem dZ{d0:D}:iF (some (.ins "Again" ["most"] [d0])) "most"=some (.sh d0):=(rfl)
theorem IZ:IniOk (dS 24 0) "Range.__init__" ["low","high"]:=CQ rfl rfl rfl (by decide +kernel) (by kernel_rfl) (yC rfl λ_ _ _ _ _ _ _ _ _=>rfl)
theorem jK{d0 d1:D}:iF (some (.ins "Range" ["low","high"] [d0,d1])) "low"=some (.sh d0):=(rfl)
theorem iZ{d0 d1:D}:iF (some (.ins "Range" ["low","high"] [d0,d1])) "high"=some (.sh d1):=(rfl)
theorem JC:IniOk (dS 25 0) "Above.__init__" ["one","other"]:=CQ rfl rfl rfl (by decide +kernel) (by kernel_rfl) (yC rfl λ_ _ _ _ _ _ _ _ _=>rfl)
theorem iA{d0 d1:D}:iF (some (.ins "Above" ["one","other"] [d0,d1])) "one"=some (.sh d0):=(rfl)
theorem gA{d0 d1:D}:iF (some (.ins "Above" ["one","other"] [d0,d1])) "other"=some (.sh d1):=(rfl)
theorem HY:IniOk (dS 26 0) "Never.__init__" ["one","other","way"]:=CQ rfl rfl rfl (by decide +kernel) (by kernel_rfl) (sE rfl λ_ _ _ _ _ _ _ _ _ _=>rfl)
theorem fO{d0 d1 d2:D}:iF (some (.ins "Never" ["one","other","way"] [d0,d1,d2])) "one"=some (.sh d0):=(rfl)
theorem eG{d0 d1 d2:D}:iF (some (.ins "Never" ["one","other","way"] [d0,d1,d2])) "other"=some (.sh d1):=(rfl)
theorem fP{d0 d1 d2:D}:iF (some (.ins "Never" ["one","other","way"] [d0,d1,d2])) "way"=some (.sh d2):=(rfl)
theorem wK:eQ "Span" ["beat","spans"] "broken" dI=some "Span.broken":=by decide +kernel
theorem xQ:eQ "Leap" ["most"] "broken" dI=some "Leap.broken":=by decide +kernel
theorem wW:eQ "Back" ["leap","most"] "broken" dI=some "Back.broken":=by decide +kernel
theorem vJ:eQ "Again" ["most"] "broken" dI=some "Again.broken":=by decide +kernel
theorem vY:eQ "Range" ["low","high"] "broken" dI=some "Range.broken":=by decide +kernel
theorem v9:eQ "Above" ["one","other"] "broken" dI=some "Above.broken":=by decide +kernel
theorem uL:eQ "Never" ["one","other","way"] "broken" dI=some "Never.broken":=by decide +kernel
theorem eJ:eQ "Span" ["beat","spans"] "forbids" eK=some "Span.forbids":=by decide +kernel
theorem fI:eQ "Range" ["low","high"] "forbids" eK=some "Range.forbids":=by decide +kernel
theorem NR:cM (bC L) (top 10) "pitch" n4:=d9 rfl rfl rfl (by decide +kernel) (by kernel_rfl) (lE rfl λ_ _ _ _ _ _ _ _=>rfl)
theorem JJ:cM (bC L) (top 11) "singer" lL:=d9 rfl rfl rfl (by decide +kernel) (by kernel_rfl) (lE rfl λ_ _ _ _ _ _ _ _=>rfl)
theorem VF:cM (bC L) (top 12) "sung" rX:=d9 rfl rfl rfl (by decide +kernel) (by kernel_rfl) (sE rfl λ_ _ _ _ _ _ _ _ _ _=>rfl)
theorem SJ:cM (bC L) (top 13) "span" rQ:=d9 rfl rfl rfl (by decide +kernel) (by kernel_rfl) (yC rfl λ_ _ _ _ _ _ _ _ _=>rfl)
theorem NJ:cM (bC L) (top 14) "chord" oG:=d9 rfl rfl rfl (by decide +kernel) (by kernel_rfl) (yC rfl λ_ _ _ _ _ _ _ _ _=>rfl)
theorem sC:cM (bC L) (top 17) "sounding_pairs" eT:=d9 rfl rfl rfl (by decide +kernel) (by kernel_rfl) (IW rfl λ_ _ _ _ _ _ _=>rfl)
theorem F4:cM (bC L) (top 18) "move_so" jT:=d9 rfl rfl rfl (by decide +kernel) (by kernel_rfl) (yC rfl λ_ _ _ _ _ _ _ _ _=>rfl)
theorem wM:DefOkQ (bC L) (dS 20 1) "broken" "Span.broken" gQ:=d9 rfl rfl rfl (by decide +kernel) (by kernel_rfl) (sE rfl λ_ _ _ _ _ _ _ _ _ _=>rfl)
theorem vG:DefOkQ (bC L) (dS 20 2) "forbids" "Span.forbids" fX:=d9 rfl rfl rfl (by decide +kernel) (by kernel_rfl) (lE rfl λ_ _ _ _ _ _ _ _=>rfl)
theorem wZ:DefOkQ (bC L) (dS 21 1) "broken" "Leap.broken" gP:=d9 rfl rfl rfl (by decide +kernel) (by kernel_rfl) (sE rfl λ_ _ _ _ _ _ _ _ _ _=>rfl)
theorem xG:DefOkQ (bC L) (dS 22 1) "broken" "Back.broken" gK:=d9 rfl rfl rfl (by decide +kernel) (by kernel_rfl) (sE rfl λ_ _ _ _ _ _ _ _ _ _=>rfl)
theorem uS:DefOkQ (bC L) (dS 23 1) "broken" "Again.broken" fW:=d9 rfl rfl rfl (by decide +kernel) (by kernel_rfl) (sE rfl λ_ _ _ _ _ _ _ _ _ _=>rfl)
theorem vW:DefOkQ (bC L) (dS 24 1) "broken" "Range.broken" fY:=d9 rfl rfl rfl (by decide +kernel) (by kernel_rfl) (sE rfl λ_ _ _ _ _ _ _ _ _ _=>rfl)
theorem tX:DefOkQ (bC L) (dS 24 2) "forbids" "Range.forbids" fG:=d9 rfl rfl rfl (by decide +kernel) (by kernel_rfl) (lE rfl λ_ _ _ _ _ _ _ _=>rfl)
theorem vE:DefOkQ (bC L) (dS 25 1) "broken" "Above.broken" f9:=d9 rfl rfl rfl (by decide +kernel) (by kernel_rfl) (sE rfl λ_ _ _ _ _ _ _ _ _ _=>rfl)
theorem uK:DefOkQ (bC L) (dS 26 1) "broken" "Never.broken" f7:=d9 rfl rfl rfl (by decide +kernel) (by kernel_rfl) (sE rfl λ_ _ _ _ _ _ _ _ _ _=>rfl)
theorem FV:cM (bC L) (top 27) "rule_of" dB:=d9 rfl rfl rfl (by decide +kernel) (by kernel_rfl) (IW rfl λ_ _ _ _ _ _ _=>rfl)
theorem DL:cM (bC L) (top 29) "rules_of" jB:=d9 rfl rfl rfl (by decide +kernel) (by kernel_rfl) (IW rfl λ_ _ _ _ _ _ _=>rfl)
theorem CN:cM (bC L) (top 30) "breaks_at" iM:=d9 rfl rfl rfl (by decide +kernel) (by kernel_rfl) (sE rfl λ_ _ _ _ _ _ _ _ _ _=>rfl)
theorem J1:cM (bC L) (top 31) "breaks" lC:=d9 rfl rfl rfl (by decide +kernel) (by kernel_rfl) (lE rfl λ_ _ _ _ _ _ _ _=>rfl)
theorem wR:cM (bC L) (top 32) "first_break" gR:=d9 rfl rfl rfl (by decide +kernel) (by kernel_rfl) (lE rfl λ_ _ _ _ _ _ _ _=>rfl)
theorem BN:cM (bC L) (top 33) "is_let_by" iR:=d9 rfl rfl rfl (by decide +kernel) (by kernel_rfl) (lE rfl λ_ _ _ _ _ _ _ _=>rfl)
theorem MB:cM (bC L) (top 35) "_law_pen" nQ:=d9 rfl rfl rfl (by decide +kernel) (by kernel_rfl) (lE rfl λ_ _ _ _ _ _ _ _=>rfl)
theorem KN:cM (bC L) (top 36) "_law_draw" lF:=d9 rfl rfl rfl (by decide +kernel) (by kernel_rfl) (lE rfl λ_ _ _ _ _ _ _ _=>rfl)
theorem JY:cM (bC L) (top 37) "_law_rule" lM:=d9 rfl rfl rfl (by decide +kernel) (by kernel_rfl) (bn5 rfl λ_ _ _ _ _ _ _ _ _ _ _=>rfl)
theorem GX:cM (bC L) (top 38) "_law_house" j5:=d9 rfl rfl rfl (by decide +kernel) (by kernel_rfl) (IW rfl λ_ _ _ _ _ _ _=>rfl)
theorem HW:cM (bC L) (top 39) "_law_line" lO:=d9 rfl rfl rfl (by decide +kernel) (by kernel_rfl) (yC rfl λ_ _ _ _ _ _ _ _ _=>rfl)
theorem HA:cM (bC L) (top 40) "_law_order" jU:=d9 rfl rfl rfl (by decide +kernel) (by kernel_rfl) (lE rfl λ_ _ _ _ _ _ _ _=>rfl)
theorem LQ:cM (bC L) (top 41) "_law_with" lR:=d9 rfl rfl rfl (by decide +kernel) (by kernel_rfl) (lE rfl λ_ _ _ _ _ _ _ _=>rfl)
theorem E9:cM (bC L) (top 42) "_law_named" jY:=d9 rfl rfl rfl (by decide +kernel) (by kernel_rfl) (lE rfl λ_ _ _ _ _ _ _ _=>rfl)
theorem JE:cM (bC L) (top 43) "law" qR:=d9 rfl rfl rfl (by decide +kernel) (by kernel_rfl) (IW rfl λ_ _ _ _ _ _ _=>rfl)
end Tx
namespace Mx
open CI Tx
local macro_rules|`(~~~$x)=>`(CI.Sl.ow (.lst (($x).map CI.D.int)) true false)
set_option compiler.extract_closed false
set_option genSizeOf false
local macro_rules | `(tactic| walk_at $s:str) => do if !s.getString.startsWith "!" then Lean.Macro.throwUnsupported else `(tactic| simp only[$[$((("aCk aCL jX RD SS LV aEE aEw aDK aD6 XG UC OI aDr aDX XY UR aAC aCt aEJ aEL aEz aDs aDS aDE aCW aBr aAL YB T6 VS V4 P0 OF PD PZ aBQ aAQ TV TN V5 U6 R8 V7 WA NP aAM XN N7 VZ OH JR aBc XH aA6 YH YA aBB aCe YX YY aBf aCI Y2 aBx aCn aB5 K4 aAj S4 VN aCC aCS ZJ aAU ZL aBH aCi aB9 aCl WK aEx aEC aEH aDL aB2 aCH aCF aC0 aC3 aCP aBF aEt aAz aBP XW aCG aCv aCZ aCD Z0 YE MS aD9 aDM aEh aCf aBR aBD VX XR T5 VU SM aBi XT VR aBk aCr aCR aDR WX aB3 aBa RZ ZK TF aA5 aEF aCs aAI SA YJ XQ aBm aA9 Z5 aEq SX Z4 aAJ aCu WW WB aAR aAe aCj YW aAO aCc MR aCX Z9 KL TQ VD SD bD UN W7 aAY uZ rP uY r6 FA aA4 aAv XO Y9 XD U4 V2 WC aBV V1 ZY Z2 Z3 WZ WV ZF aBS UA X1 UG aCp YO aB8 aBI aAa VJ eO TZ R4 D9 S9 J5 K8 MN MW PL SO PF aBz ZR SH VH U3 RY YI aA3 aBX U5 R9 aBN zg0 zg1 zs0 zs1 zb zm zi zc zn zr0 zr1 zl0 zl1 znt znf zko zks zkn V0 W0 aBp aAE aAs aBw aAN aEj VM aAx aDQ aBO ZN TJ ZT WL L4 YD aAi VB tR J4 wY wD LW FY DM O7 zI DJ V9 OJ NG J9 L8 IS NY HN if_true if_false Bool.false_eq_true decide_true decide_false Bool.true_eq_false not_true_eq_false not_false_eq_true and_self and_true true_and or_true true_or Za reduceIte Int.reduceLT Int.reduceLE Int.reduceGT Int.reduceNeg Nat.reduceAdd Nat.reduceLT Nat.reduceLeDiff Int.reduceEq Int.reduceNe Nat.reduceBEq Zs List.map_nil Zj List.all_nil Bool.and_true Bool.true_and Bool.false_and Bool.and_false List.length_nil Zk beq_self_eq_true HP X8 aBy".splitOn " ")++(((s.getString.drop 1).toString.replace "%" "List.length_map").replace "&" "Bool.or_false Bool.false_or Bool.or_true Bool.true_or" |>.splitOn " ")).filter (· ≠ "") |>.toArray.map λx => Lean.mkIdent x.toName):term],*, *])
theorem hV:type_of% (And.intro @uZ (And.intro @KL (And.intro @List.getElem?_cons_zero.{0} (And.intro @List.getElem?_cons_succ.{0} (And.intro @List.set_cons_zero.{0} (And.intro @List.set_cons_succ.{0} (And.intro @rP (And.intro @r6 (And.intro @uY @FA))))))))):=(And.intro @uZ (And.intro @KL (And.intro @List.getElem?_cons_zero.{0} (And.intro @List.getElem?_cons_succ.{0} (And.intro @List.set_cons_zero.{0} (And.intro @List.set_cons_succ.{0} (And.intro @rP (And.intro @r6 (And.intro @uY @FA)))))))))
def aG(k s m:Int):Int:=if k=0 then s / m else(s*69621+7) % 2147483629
noncomputable def aT(k s m:Int):Int:=if k=0 then s % m else((((s*69621+7) % 2147483629) % 65521*40503+((s*69621+7) % 2147483629) / 65521+1)*16807 % 2147483647) / 13 % m
theorem bM{W n:Nat}{k s m:Int}(h1:0<m)(h2:m<nofun):run T W (n+1) "L_draw" [.ow (.lst [.int k,.int s]) true false,.sh (.int m)]=some (.ok (.sh (.int (aT k s m))),[.ow (.lst [.int k,.int (aG k s m)]) true false,.sh (.int m)]):=by
 rw[bY CJ rfl rfl];unfold lF;by_cases hk:k=0
 ·subst hk;unfold aG aT
  walk_at "!"
 ·unfold aG aT
  walk_at "!"
theorem aZ{k s m:Int}(h:0<m):0<=aT k s m:=by unfold aT;split<;>exact Int.emod_nonneg _ (by omega)
theorem a9{k s m:Int}(h:0<m):aT k s m<m:=by unfold aT;split<;>exact Int.emod_lt_of_pos _ h
mutual
theorem tQ:∀(n:Nat) (d:D),bA n d=true->d5 d d=true
 |_,.non,_=>by simp[d5]
 |_,.bl _,_=>by simp[d5]
 |_,.int _,_=>by simp[d5]
 |_,.str _,_=>by simp[d5]
 | 0,.tup _,h=>by simp[bA] at h
 | 0,.lst _,h=>by simp[bA] at h
 |n+1,.tup ds,h=>by simp only[bA] at h;simp only[d5];exact qI n ds h
 |n+1,.lst ds,h=>by simp only[bA] at h;simp only[d5];exact qI n ds h
 |_,.ins _ _ _,h=>by simp[bA] at h
 |_,.dct _,h=>by simp[bA] at h
 |_,.exn _,h=>by simp[bA] at h
 |_,.dcs _,h=>by simp[bA] at h
theorem qI:∀(n:Nat) (ds:List D),ds.all (bA n)=true->kU ds ds=true
 |_,[],_=>by simp[kU]
 |n,d::ds,h=>by(simp only[Zj,ZB] at h;simp only[kU,tQ n d h.1,qI n ds h.2,Bool.and_self])
end
theorem AH{d:D}(h:bA 20 d=true):bX .NotEq d d=some false:=by rw[OK h h,tQ 20 d h];rfl
theorem RQ{d:D}(h:bA 20 d=true):bX .Eq d d=some true:=by rw[aEG h h,tQ 20 d h]
def aH(tss:List (List Int)):List D:=tss.map λis=>.tup (is.map D.int)
noncomputable def dH(ns:List Int)(k:Nat):Int×Int :=
 if k<ns.length/\ns.headD 0 % 2=0 then(0,ns.getD k 0)
 else(1,((if 0<ns.length then ns.getD (k % ns.length) 0 % 2147483587+48611*((k / ns.length:Nat):Int)+3*(k:Int) else 30011*(k:Int)+7)*48271+11*(k:Int)+1) % 2147483647)
theorem u0{ns:List Int}{k:Nat}(h:k<ns.length):L2.cG (ns.map D.int) (k:Int)=some (.int (ns.getD k 0)):=by
 apply L2.mZ
 rw[Zh,Zb h];simp[h]
theorem oA{W n:Nat}{ns:List Int}{k:Nat}(hn:ns.length<=63)(hk:k<=100000):run T W (n+1) "L_pen" [.sh (.lst (ns.map .int)),.sh (.int (k:Int))]=some (.ok (.ow (.lst [.int (dH ns k).1,.int (dH ns k).2])),[.sh (.lst (ns.map .int)),.sh (.int (k:Int))]):=by
 rw[bY E7 rfl rfl];unfold nQ;by_cases h0:ns=[]
 ·subst h0;have hb:decide ((k:Int)<((0:Nat):Int))=false:=Zm (by omega);have hb':decide (((0:Nat):Int) > 0)=false:=rfl;have hb2:decide (0<((0:Nat):Int))=false:=rfl;have hb3:decide ((k:Int)<0)=false:=Zm (by omega)
  have ev:dH [] k=(1,((30011*(k:Int)+7)*48271+11*(k:Int)+1) % 2147483647):=by(unfold dH;rw[Zp (by simp),Zp (by simp)])
  walk_at "!%"
 ·have hpos:0<ns.length:=List.length_pos_iff.mpr h0;have hb2:decide (0<(ns.length:Int))=true:=Zn (by omega)
  have e0:(ns.map D.int)[0]?=some (.int (ns.headD 0)):=by cases ns with | nil=>exact absurd rfl h0 | cons a r=>rfl
  have e1:(0:Int)<(ns.length:Int):=by omega
  have e2:(ns.length:Int)<nofun:=by omega
  have e3:(k:Int) / (ns.length:Int)=((k / ns.length:Nat):Int):=by rw[Int.natCast_ediv]
  have e4:(k:Int) % (ns.length:Int)=((k % ns.length:Nat):Int):=by rw[Int.natCast_emod]
  have e5:=u0 (ns:=ns) (k:=k % ns.length) (Nat.mod_lt _ hpos);by_cases hk2:k<ns.length
  ·have hb:decide ((k:Int)<(ns.length:Int))=true:=Zn (by omega);have e6:=u0 hk2;by_cases hm:ns.headD 0 % 2=0
   ·have ev:dH ns k=(0,ns.getD k 0):=by unfold dH;rw[Zo ⟨hk2,hm⟩]
    clear hk2
    walk_at "!%"
   ·have hm':decide (ns.headD 0 % 2=0)=false:=Zm hm
    have ev:dH ns k=(1,((ns.getD (k % ns.length) 0 % 2147483587+48611*((k / ns.length:Nat):Int)+3*(k:Int))*48271+11*(k:Int)+1) % 2147483647):=by(unfold dH;rw[Zp (λz=>hm z.2),Zo hpos])
    clear hk2 hm
    walk_at "!%"
  ·have hb:decide ((k:Int)<(ns.length:Int))=false:=Zm (by omega)
   have ev:dH ns k=(1,((ns.getD (k % ns.length) 0 % 2147483587+48611*((k / ns.length:Nat):Int)+3*(k:Int))*48271+11*(k:Int)+1) % 2147483647):=by(unfold dH;rw[Zp (λz=>hk2 z.1),Zo hpos])
   clear hk2
   walk_at "!%"
theorem qX:((Str.ofString "span")==(Str.ofString "leap"))=false:=by decide +kernel
theorem qW:((Str.ofString "span")==(Str.ofString "back"))=false:=by decide +kernel
theorem oS:((Str.ofString "span")==(Str.ofString "again"))=false:=by decide +kernel
theorem o8:((Str.ofString "span")==(Str.ofString "range"))=false:=by decide +kernel
theorem pL:((Str.ofString "span")==(Str.ofString "above"))=false:=by decide +kernel
theorem pA:((Str.ofString "span")==(Str.ofString "never"))=false:=by decide +kernel
theorem wC:bX .In (.str (Str.ofString "span")) (.tup [.str (Str.ofString "leap"),.str (Str.ofString "back"),.str (Str.ofString "again")])=some false:=(rfl)
theorem qA:((Str.ofString "leap")==(Str.ofString "span"))=false:=by decide +kernel
theorem qM:((Str.ofString "leap")==(Str.ofString "back"))=false:=by decide +kernel
theorem pP:((Str.ofString "leap")==(Str.ofString "again"))=false:=by decide +kernel
theorem pC:((Str.ofString "leap")==(Str.ofString "range"))=false:=by decide +kernel
theorem pI:((Str.ofString "leap")==(Str.ofString "above"))=false:=by decide +kernel
theorem pH:((Str.ofString "leap")==(Str.ofString "never"))=false:=by decide +kernel
theorem uN:bX .In (.str (Str.ofString "leap")) (.tup [.str (Str.ofString "leap"),.str (Str.ofString "back"),.str (Str.ofString "again")])=some true:=(rfl)
theorem qQ:((Str.ofString "back")==(Str.ofString "span"))=false:=by decide +kernel
theorem qV:((Str.ofString "back")==(Str.ofString "leap"))=false:=by decide +kernel
theorem pF:((Str.ofString "back")==(Str.ofString "again"))=false:=by decide +kernel
theorem o3:((Str.ofString "back")==(Str.ofString "range"))=false:=by decide +kernel
theorem pG:((Str.ofString "back")==(Str.ofString "above"))=false:=by decide +kernel
theorem oM:((Str.ofString "back")==(Str.ofString "never"))=false:=by decide +kernel
theorem uW:bX .In (.str (Str.ofString "back")) (.tup [.str (Str.ofString "leap"),.str (Str.ofString "back"),.str (Str.ofString "again")])=some true:=(rfl)
theorem pJ:((Str.ofString "again")==(Str.ofString "span"))=false:=by decide +kernel
theorem oX:((Str.ofString "again")==(Str.ofString "leap"))=false:=by decide +kernel
theorem oY:((Str.ofString "again")==(Str.ofString "back"))=false:=by decide +kernel
theorem mI:((Str.ofString "again")==(Str.ofString "range"))=false:=by decide +kernel
theorem mU:((Str.ofString "again")==(Str.ofString "above"))=false:=by decide +kernel
theorem nA:((Str.ofString "again")==(Str.ofString "never"))=false:=by decide +kernel
theorem sG:bX .In (.str (Str.ofString "again")) (.tup [.str (Str.ofString "leap"),.str (Str.ofString "back"),.str (Str.ofString "again")])=some true:=(rfl)
theorem pM:((Str.ofString "range")==(Str.ofString "span"))=false:=by decide +kernel
theorem o5:((Str.ofString "range")==(Str.ofString "leap"))=false:=by decide +kernel
theorem pB:((Str.ofString "range")==(Str.ofString "back"))=false:=by decide +kernel
theorem nG:((Str.ofString "range")==(Str.ofString "again"))=false:=by decide +kernel
theorem m8:((Str.ofString "range")==(Str.ofString "above"))=false:=by decide +kernel
theorem mG:((Str.ofString "range")==(Str.ofString "never"))=false:=by decide +kernel
theorem sO:bX .In (.str (Str.ofString "range")) (.tup [.str (Str.ofString "leap"),.str (Str.ofString "back"),.str (Str.ofString "again")])=some false:=(rfl)
theorem oQ:((Str.ofString "above")==(Str.ofString "span"))=false:=by decide +kernel
theorem oZ:((Str.ofString "above")==(Str.ofString "leap"))=false:=by decide +kernel
theorem pE:((Str.ofString "above")==(Str.ofString "back"))=false:=by decide +kernel
theorem mQ:((Str.ofString "above")==(Str.ofString "again"))=false:=by decide +kernel
theorem mW:((Str.ofString "above")==(Str.ofString "range"))=false:=by decide +kernel
theorem mX:((Str.ofString "above")==(Str.ofString "never"))=false:=by decide +kernel
theorem sZ:bX .In (.str (Str.ofString "above")) (.tup [.str (Str.ofString "leap"),.str (Str.ofString "back"),.str (Str.ofString "again")])=some false:=(rfl)
theorem oR:((Str.ofString "never")==(Str.ofString "span"))=false:=by decide +kernel
theorem o7:((Str.ofString "never")==(Str.ofString "leap"))=false:=by decide +kernel
theorem o4:((Str.ofString "never")==(Str.ofString "back"))=false:=by decide +kernel
theorem mV:((Str.ofString "never")==(Str.ofString "again"))=false:=by decide +kernel
theorem mY:((Str.ofString "never")==(Str.ofString "range"))=false:=by decide +kernel
theorem mC:((Str.ofString "never")==(Str.ofString "above"))=false:=by decide +kernel
theorem sI:bX .In (.str (Str.ofString "never")) (.tup [.str (Str.ofString "leap"),.str (Str.ofString "back"),.str (Str.ofString "again")])=some false:=(rfl)
theorem kI:type_of% (And.intro @qX (And.intro @qW (And.intro @oS (And.intro @o8 (And.intro @pL (And.intro @pA (And.intro @wC (And.intro @qA (And.intro @qM (And.intro @pP (And.intro @pC (And.intro @pI (And.intro @pH (And.intro @uN (And.intro @qQ (And.intro @qV (And.intro @pF (And.intro @o3 (And.intro @pG (And.intro @oM (And.intro @uW (And.intro @pJ (And.intro @oX (And.intro @oY (And.intro @mI (And.intro @mU (And.intro @nA (And.intro @sG (And.intro @pM (And.intro @o5 (And.intro @pB (And.intro @nG (And.intro @m8 (And.intro @mG (And.intro @sO (And.intro @oQ (And.intro @oZ (And.intro @pE (And.intro @mQ (And.intro @mW (And.intro @mX (And.intro @sZ (And.intro @oR (And.intro @o7 (And.intro @o4 (And.intro @mV (And.intro @mY (And.intro @mC @sI)))))))))))))))))))))))))))))))))))))))))))))))):=(And.intro @qX (And.intro @qW (And.intro @oS (And.intro @o8 (And.intro @pL (And.intro @pA (And.intro @wC (And.intro @qA (And.intro @qM (And.intro @pP (And.intro @pC (And.intro @pI (And.intro @pH (And.intro @uN (And.intro @qQ (And.intro @qV (And.intro @pF (And.intro @o3 (And.intro @pG (And.intro @oM (And.intro @uW (And.intro @pJ (And.intro @oX (And.intro @oY (And.intro @mI (And.intro @mU (And.intro @nA (And.intro @sG (And.intro @pM (And.intro @o5 (And.intro @pB (And.intro @nG (And.intro @m8 (And.intro @mG (And.intro @sO (And.intro @oQ (And.intro @oZ (And.intro @pE (And.intro @mQ (And.intro @mW (And.intro @mX (And.intro @sZ (And.intro @oR (And.intro @o7 (And.intro @o4 (And.intro @mV (And.intro @mY (And.intro @mC @sI))))))))))))))))))))))))))))))))))))))))))))))))
theorem pw{j:Int}(h1:0<=j)(h2:j<=12):(0:Int)<2 ^ j.toNat/\(2:Int) ^ j.toNat<nofun:=by
 have h:j.toNat<=12:=by omega
 generalize j.toNat=q at h;have h3:2 ^ q<=2 ^ 12:=Nat.pow_le_pow_right (by decide) h;have h4:(2:Int) ^ q<=4096:=by exact_mod_cast h3
 exact⟨Int.pow_pos (by decide),Int.lt_of_le_of_lt h4 (by decide)⟩
inductive RuleD(no ba oc ma:Int):D->Prop
 |span (a b:Int) (h1:0<=a) (h2:a<ba) (h3:0<=b) (h4:b<2 ^ oc.toNat):RuleD no ba oc ma (.tup [.str "span",.int a,.int b])
 |leap (a:Int) (h1:0<=a) (h2:a<=12):RuleD no ba oc ma (.tup [.str "leap",.int a])
 |back (a b:Int) (h1:1<=a) (h2:a<=12) (h3:1<=b) (h4:b<=12):RuleD no ba oc ma (.tup [.str "back",.int a,.int b])
 |again (a:Int) (h1:1<=a) (h2:a<=3):RuleD no ba oc ma (.tup [.str "again",.int a])
 |range (a b:Int) (h1:-60<=a) (h2:a<=b) (h3:b<=60):RuleD no ba oc ma (.tup [.str "range",.int a,.int b])
 |above (v w:Nat) (h1:(v:Int)<=ma) (h2:(w:Int)<=ma) (h3:v≠w):RuleD no ba oc ma (.tup [.str "above",.int (v:Int),.int (w:Int)])
 |never (a b:Int) (x:PySem.Str) (h1:0<=a) (h2:a<oc) (h3:0<=b) (h4:b<oc) (h5:x="like"\/x="against"\/x="aside"\/x="any"):RuleD no ba oc ma (.tup [.str "never",.int a,.int b,.str x])
section
variable{P:aJ}{C:Calls}{W:Nat}{k s no ba oc ma w:Int}{u6 u7 u8:Sl}
noncomputable def eW(k s no ba oc ma w:Int)(u6 u7 u8:Sl):Env:=[.ow (.lst [.int k,.int s]) true false,.sh (.int no),.sh (.int ba),.sh (.int oc),.sh (.int ma),.sh (.int w),u6,u7,u8]
theorem pK{a:List S}{i:Int}:ex P C W (.ifs (.cmp .Eq (.var 5) (.con (.int i))) a []) (eW k s no ba oc ma w u6 u7 u8)=if w=i then exs P C W a (eW k s no ba oc ma w u6 u7 u8) else some (.nx,eW k s no ba oc ma w u6 u7 u8):=by
 unfold eW;by_cases h:w=i
 ·have h':decide (w=i)=true:=Zn h;rw[Zo h];clear h
  walk_at "!"
 ·have h':decide (w=i)=false:=Zm h;rw[Zp h];clear h
  walk_at "!"
end
theorem at2{a b:Int}{c:Int}(h1:0<=c)(h2:c<2):L2.cG [D.int a,D.int b] c=some (.int (if c=0 then a else b)):=by
 have:c=0\/c=1:=by omega
 rcases this with rfl | rfl<;>rfl
theorem atW{c:Int}(h1:0<=c)(h2:c<4):∃x:PySem.Str,L2.cG [D.str "like",D.str "against",D.str "aside",D.str "any"] c=some (.str x)/\(x="like"\/x="against"\/x="aside"\/x="any"):=by
 have:c=0\/c=1\/c=2\/c=3:=by omega
 rcases this with rfl | rfl | rfl | rfl
 ·exact⟨_,rfl,.inl rfl⟩
 ·exact⟨_,rfl,.inr (.inl rfl)⟩
 ·exact⟨_,rfl,.inr (.inr (.inl rfl))⟩
 ·exact⟨_,rfl,.inr (.inr (.inr rfl))⟩
theorem J7{W n:Nat}{k s0 no ba oc ma:Int}(n1:1<=no)(n2:no<=7)(b1:1<=ba)(b2:ba<=4)(o1:1<=oc)(o2:oc<=12)(m1:1<=ma)(m2:ma<=3) :
  ∃s' d,run T W (n+2) "L_rule" [.ow (.lst [.int k,.int s0]) true false,.sh (.int no),.sh (.int ba),.sh (.int oc),.sh (.int ma)]=some (.ok (.sh d),[.ow (.lst [.int k,.int s']) true false,.sh (.int no),.sh (.int ba),.sh (.int oc),.sh (.int ma)])/\RuleD no ba oc ma d:=by
 rw[bY A0 rfl rfl];unfold lM;have g1:0<ba:=by omega
 have g2:ba<nofun:=by omega
 have g3:0<oc:=by omega
 have g4:oc<nofun:=by omega
 have g5:0<=oc:=by omega
 have g6:oc<=1000:=by omega
 obtain⟨g7,g8⟩:=pw g5 o2;have g9:0<ma:=by omega
 have g10:ma<nofun:=by omega
 have g11:0<ma+1:=by omega
 have g12:ma+1<nofun:=by omega
 have v1:=aZ (k:=k) (s:=s0) (m:=9) (by decide);have v2:=a9 (k:=k) (s:=s0) (m:=9) (by decide)
 have e0:ex T.pins (run T W (n+1)) W lW ([.ow (.lst [.int k,.int s0]) true false,.sh (.int no),.sh (.int ba),.sh (.int oc),.sh (.int ma)]++List.replicate 4 .un)=some (.nx,eW k (aG k s0 9) no ba oc ma (aT k s0 9) .un .un .un):=by
  unfold eW;rw[zE];clear g1 g2 g3 g4 g5 g6 g7 g8 g9 g10 g11 g12 v1 v2 n1 n2 b1 b2 o1 o2 m1 m2
  walk_at "!bM"
 generalize aT k s0 9=w at *
 generalize aG k s0 9=s at *
 rw[eO,e0,jX,eO];clear e0
 -- a return of a statement ends the def
 have fin:∀{st:S} {r:List S} {s':Int} {d:D} {u6 u7 u8:Sl},ex T.pins (run T W (n+1)) W st (eW k s no ba oc ma w .un .un .un)=some (.rt (.sh d),eW k s' no ba oc ma w u6 u7 u8)->RuleD no ba oc ma d ->
   ∃s'' d,OY [.ow (.lst [.int k,.int s0]) true false,.sh (.int no),.sh (.int ba),.sh (.int oc),.sh (.int ma)] ((ex T.pins (run T W (n+1)) W st (eW k s no ba oc ma w .un .un .un)).next (exs T.pins (run T W (n+1)) W r))=some (.ok (.sh d),[.ow (.lst [.int k,.int s'']) true false,.sh (.int no),.sh (.int ba),.sh (.int oc),.sh (.int ma)])/\RuleD no ba oc ma d:=λh hd=>by
  rw[h,RD,D9];exact⟨_,_,rfl,hd⟩
 by_cases c0:w<2
 ·refine fin (s':=aG k (aG k s ba) (2 ^ oc.toNat)) (d:=.tup [.str "span",.int (aT k s ba),.int (aT k (aG k s ba) (2 ^ oc.toNat))]) (u6:=.un) (u7:=.un) (u8:=.un) ?_ (.span _ _ (aZ g1) (a9 g1) (aZ g7) (a9 g7));have c0':decide (w<2)=true:=Zn c0;rw[o9];unfold eW;clear n1 n2 b1 b2 o1 o2 m1 m2 v1 v2 c0 fin
  walk_at "!bM"
 have e1:ex T.pins (run T W (n+1)) W l3 (eW k s no ba oc ma w .un .un .un)=some (.nx,eW k s no ba oc ma w .un .un .un):=by
  have c0':decide (w<2)=false:=Zm c0;rw[o9];unfold eW;clear n1 n2 b1 b2 o1 o2 m1 m2 v1 v2 c0 fin
  walk_at "!bM"
 rw[e1,jX,eO];clear e1;by_cases c2:w=2
 ·have x1:=aZ (k:=k) (s:=aG k s ba) (m:=oc) g3;have x2:=a9 (k:=k) (s:=aG k s ba) (m:=oc) g3;have x3:aT k (aG k s ba) oc<=1000:=by omega
  have h4:(2:Int) ^ (aT k (aG k s ba) oc).toNat<=2 ^ oc.toNat-1:=by
   have h1:(aT k (aG k s ba) oc).toNat+1<=oc.toNat:=by omega
   have h2:(2:Int) ^ ((aT k (aG k s ba) oc).toNat+1)<=2 ^ oc.toNat:=by
    have h3:2 ^ ((aT k (aG k s ba) oc).toNat+1)<=2 ^ oc.toNat:=Nat.pow_le_pow_right (by decide) h1
    exact_mod_cast h3
   have h4:(2:Int) ^ ((aT k (aG k s ba) oc).toNat+1)=2 ^ (aT k (aG k s ba) oc).toNat*2:=Int.pow_succ _ _;have h5:(0:Int)<2 ^ (aT k (aG k s ba) oc).toNat:=Int.pow_pos (by decide);omega
  have h5:(0:Int)<2 ^ (aT k (aG k s ba) oc).toNat:=Int.pow_pos (by decide);refine fin (s':=aG k (aG k s ba) oc) (d:=.tup [.str "span",.int (aT k s ba),.int (2 ^ oc.toNat-1-2 ^ (aT k (aG k s ba) oc).toNat)]) (u6:=.un) (u7:=.un) (u8:=.un) ?_ (.span _ _ (aZ g1) (a9 g1) (by omega) (by omega));rw[pR,pK,Zo c2];unfold eW;clear n1 n2 b1 b2 o1 o2 m1 m2 v1 v2 c0 fin h4 h5 x2
  walk_at "!bM"
 rw[pR,pK,Zp c2,jX,eO];by_cases c3:w=3
 ·have x1:=aZ (k:=k) (s:=s) (m:=2) (by decide);have x2:=a9 (k:=k) (s:=s) (m:=2) (by decide);have hat:=at2 (a:=13) (b:=no+1) x1 x2;obtain⟨q,hq⟩:∃q,q=(if aT k s 2=0 then 13 else no+1):=⟨_,rfl⟩
  rw[<- hq] at hat;have q1:0<q:=by rw[hq];split<;>omega
  have q2:q<=13:=by rw[hq];split<;>omega
  have q3:q<nofun:=by omega
  refine fin (s':=aG k (aG k s 2) q) (d:=.tup [.str "leap",.int (aT k (aG k s 2) q)]) (u6:=.un) (u7:=.un) (u8:=.un) ?_ (.leap _ (aZ q1) (by have:=a9 (k:=k) (s:=aG k s 2) q1;omega));rw[pN,pK,Zo c3];unfold eW;clear n1 n2 b1 b2 o1 o2 m1 m2 v1 v2 c0 fin q2 hq x1 x2
  walk_at "!bM"
 rw[pN,pK,Zp c3,jX,eO];by_cases c4:w=4
 ·have x1:=aZ (k:=k) (s:=s) (m:=12) (by decide);have x2:=a9 (k:=k) (s:=s) (m:=12) (by decide);have x3:=aZ (k:=k) (s:=aG k s 12) (m:=12) (by decide);have x4:=a9 (k:=k) (s:=aG k s 12) (m:=12) (by decide);refine fin (s':=aG k (aG k s 12) 12) (d:=.tup [.str "back",.int (1+aT k s 12),.int (1+aT k (aG k s 12) 12)]) (u6:=.un) (u7:=.un) (u8:=.un) ?_ (.back _ _ (by omega) (by omega) (by omega) (by omega));rw[oU,pK,Zo c4];unfold eW;clear n1 n2 b1 b2 o1 o2 m1 m2 v1 v2 c0 fin x1 x2 x3 x4
  walk_at "!bM"
 rw[oU,pK,Zp c4,jX,eO];by_cases c5:w=5
 ·have x1:=aZ (k:=k) (s:=s) (m:=3) (by decide);have x2:=a9 (k:=k) (s:=s) (m:=3) (by decide);refine fin (s':=aG k s 3) (d:=.tup [.str "again",.int (1+aT k s 3)]) (u6:=.un) (u7:=.un) (u8:=.un) ?_ (.again _ (by omega) (by omega));rw[pQ,pK,Zo c5];unfold eW;clear n1 n2 b1 b2 o1 o2 m1 m2 v1 v2 c0 fin x1 x2
  walk_at "!bM"
 rw[pQ,pK,Zp c5,jX,eO];by_cases c6:w=6
 ·have u1:=aZ (k:=k) (s:=s) (m:=121) (by decide);have u2:=a9 (k:=k) (s:=s) (m:=121) (by decide);have u3:=aZ (k:=k) (s:=aG k s 121) (m:=20) (by decide);have u4:=a9 (k:=k) (s:=aG k s 121) (m:=20) (by decide);have u5:=aZ (k:=k) (s:=aG k (aG k s 121) 20) (m:=2) (by decide);have u6:=a9 (k:=k) (s:=aG k (aG k s 121) 20) (m:=2) (by decide);have hat:=at2 (a:=aT k s 121-60) (b:=aT k (aG k s 121) 20-12) u5 u6;obtain⟨lo,hlo⟩:∃lo,lo=(if aT k (aG k (aG k s 121) 20) 2=0 then aT k s 121-60 else aT k (aG k s 121) 20-12):=⟨_,rfl⟩
  rw[<- hlo] at hat;have q1:lo<=60:=by rw[hlo];split<;>omega
  have q2:-60<=lo:=by rw[hlo];split<;>omega
  have y1:0<61-lo:=by omega
  have y2:61-lo<nofun:=by omega
  obtain⟨s1,hs1⟩:∃s1,s1=aG k (aG k (aG k s 121) 20) 2:=⟨_,rfl⟩
  have z1:=aZ (k:=k) (s:=s1) y1;have z2:=a9 (k:=k) (s:=s1) y1;refine fin (s':=aG k s1 (61-lo)) (d:=.tup [.str "range",.int lo,.int (lo+aT k s1 (61-lo))]) (u6:=.sh (.int lo)) (u7:=.un) (u8:=.un) ?_ (.range _ _ q2 (by omega) (by omega));rw[pS,pK,Zo c6];have hs1':=hs1.symm;unfold eW;clear n1 n2 b1 b2 o1 o2 m1 m2 v1 v2 c0 fin u1 u2 u3 u4 u5 u6 q1 q2 z1 z2 hlo hs1
  walk_at "!bM"
 rw[pS,pK,Zp c6,jX,eO];by_cases c7:w=7
 ·have x1:=aZ (k:=k) (s:=s) g11;have x2:=a9 (k:=k) (s:=s) g11;have x3:=aZ (k:=k) (s:=aG k s (ma+1)) g9;have x4:=a9 (k:=k) (s:=aG k s (ma+1)) g9;obtain⟨a,ha⟩:∃a:Nat,aT k s (ma+1)=(a:Int):=⟨_,(Int.toNat_of_nonneg x1).symm⟩
  have y1:=Int.emod_nonneg ((a:Int)+1+aT k (aG k s (ma+1)) ma) (b:=ma+1) (by omega);have y2:=Int.emod_lt_of_pos ((a:Int)+1+aT k (aG k s (ma+1)) ma) (b:=ma+1) (by omega);obtain⟨b,hb⟩:∃b:Nat,((a:Int)+1+aT k (aG k s (ma+1)) ma) % (ma+1)=(b:Int):=⟨_,(Int.toNat_of_nonneg y1).symm⟩
  have hne:a≠b:=λz=>by
   subst z;rcases Int.lt_or_le ((a:Int)+1+aT k (aG k s (ma+1)) ma) (ma+1) with h | h
   ·rw[Int.emod_eq_of_lt (by omega) h] at hb;omega
   ·have h2:((a:Int)+1+aT k (aG k s (ma+1)) ma) % (ma+1)=((a:Int)+1+aT k (aG k s (ma+1)) ma-(ma+1)):=by
     rw[<- Int.sub_emod_right,Int.emod_eq_of_lt (by omega) (by omega)]
    omega
  refine fin (s':=aG k (aG k s (ma+1)) ma) (d:=.tup [.str "above",.int (a:Int),.int (b:Int)]) (u6:=.un) (u7:=.sh (.int (a:Int))) (u8:=.un) ?_ (.above _ _ (by omega) (by omega) hne);rw[oW,pK,Zo c7];unfold eW;clear n1 n2 b1 b2 o1 o2 m1 m2 v1 v2 c0 fin x1 x2 x3 x4 y1 y2 hne
  walk_at "!bM"
 rw[oW,pK,Zp c7,jX,eO,zO];have x1:=aZ (k:=k) (s:=aG k (aG k s oc) oc) (m:=4) (by decide);have x2:=a9 (k:=k) (s:=aG k (aG k s oc) oc) (m:=4) (by decide);obtain⟨x,hat,hx⟩:=atW x1 x2;refine⟨aG k (aG k (aG k s oc) oc) 4,.tup [.str "never",.int (aT k s oc),.int (aT k (aG k s oc) oc),.str x], ?_,.never _ _ _ (aZ g3) (a9 g3) (aZ g3) (a9 g3) hx⟩;unfold eW;clear n1 n2 b1 b2 o1 o2 m1 m2 v1 v2 c0 fin x1 x2 hx
 walk_at "!zK bM"
def iW(f:Int×Int×Bool):D:=.tup [.int f.1,.int f.2.1,.bl f.2.2]
theorem OR{g:Bool}{a b:Int}:L2.cG [D.int a,D.int b] (if g=true then 1 else 0)=some (.int (if g=true then b else a)):=by cases g<;>rfl
theorem Q0{g:Bool}{a b:Int}(ha:0<a)(hb:0<b):0<(if g=true then b else a):=by cases g<;>simpa
theorem QA{g:Bool}{a b c:Int}(ha:a<c)(hb:b<c):(if g=true then b else a)<c:=by cases g<;>simpa
structure HouseOk(no ba oc:Int)(fs:List (Int×Int×Bool)):Prop where
 n1:1<=no
 n2:no<=7
 b1:1<=ba
 b2:ba<=4
 o1:1<=oc
 o2:oc<=12
 l1:1<=fs.length
 l2:fs.length<=3
 f:∀f∈fs,0<=f.1/\f.1<=4/\-12<=f.2.1/\f.2.1<=12
theorem FD{W n:Nat}{k s:Int}:∃s' no ba oc fs rs,run T W (n+3) "L_house" [.ow (.lst [.int k,.int s]) true false]=some (.ok (.sh (.tup [.int no,.int ba,.int oc,.tup (fs.map iW),.tup rs])),[.ow (.lst [.int k,.int s']) true false])/\HouseOk no ba oc fs/\rs.length<=8/\∀d∈rs,RuleD no ba oc (fs.length:Int) d:=by
 rw[bY xY rfl rfl];unfold j5;generalize hg:decide (aT k s 2=0)=g;have p1:=Q0 (g:=g) (a:=4) (b:=7) (by decide) (by decide);have p2:=QA (g:=g) (a:=4) (b:=7) (c:=nofun) (by decide) (by decide);have p3:=Q0 (g:=g) (a:=2) (b:=4) (by decide) (by decide);have p4:=QA (g:=g) (a:=2) (b:=4) (c:=nofun) (by decide) (by decide);have p5:=Q0 (g:=g) (a:=2) (b:=3) (by decide) (by decide);have p6:=QA (g:=g) (a:=2) (b:=3) (c:=nofun) (by decide) (by decide);have p7:=Q0 (g:=g) (a:=2) (b:=5) (by decide) (by decide);have p8:=QA (g:=g) (a:=2) (b:=5) (c:=nofun) (by decide) (by decide);obtain⟨s1,hs1⟩:∃s1,s1=aG k s 2:=⟨_,rfl⟩
 obtain⟨no,hno⟩:∃no,no=1+aT k s1 (if g=true then 7 else 4):=⟨_,rfl⟩
 obtain⟨s2,hs2⟩:∃s2,s2=aG k s1 (if g=true then 7 else 4):=⟨_,rfl⟩
 obtain⟨ba,hba⟩:∃ba,ba=1+aT k s2 (if g=true then 4 else 2):=⟨_,rfl⟩
 obtain⟨s3,hs3⟩:∃s3,s3=aG k s2 (if g=true then 4 else 2):=⟨_,rfl⟩
 obtain⟨oc,hoc⟩:∃oc,oc=1+aT k s3 12:=⟨_,rfl⟩
 obtain⟨s4,hs4⟩:∃s4,s4=aG k s3 12:=⟨_,rfl⟩
 obtain⟨ma,hma⟩:∃ma,ma=1+aT k s4 (if g=true then 3 else 2):=⟨_,rfl⟩
 obtain⟨s5,hs5⟩:∃s5,s5=aG k s4 (if g=true then 3 else 2):=⟨_,rfl⟩
 have n1:1<=no:=by have:=aZ (k:=k) (s:=s1) p1;omega
 have n2:no<=7:=by
  have:=a9 (k:=k) (s:=s1) p1
  have:(if g=true then(7:Int) else 4)<=7:=by cases g<;>decide
  omega
 have b1:1<=ba:=by have:=aZ (k:=k) (s:=s2) p3;omega
 have b2:ba<=4:=by
  have:=a9 (k:=k) (s:=s2) p3
  have:(if g=true then(4:Int) else 2)<=4:=by cases g<;>decide
  omega
 have o1:1<=oc:=by have:=aZ (k:=k) (s:=s3) (m:=12) (by decide);omega
 have o2:oc<=12:=by have:=a9 (k:=k) (s:=s3) (m:=12) (by decide);omega
 have m1:1<=ma:=by have:=aZ (k:=k) (s:=s4) p5;omega
 have m2:ma<=3:=by
  have:=a9 (k:=k) (s:=s4) p5
  have:(if g=true then(3:Int) else 2)<=3:=by cases g<;>decide
  omega
 have yN:aE .rng [.slot 5] [.ow (.lst [.int k,.int s5]) true false,.sh (.bl g),.sh (.int no),.sh (.int ba),.sh (.int oc),.sh (.int ma),.ow (.lst []) false false,.un,.un,.un]=some ((List.range ma.toNat).map λ(j:Nat)=>.int (j:Int),none):=nR rfl (by omega) (by omega)
 have key1:=dA (bind:=aY true [7]) (body:=exs T.pins (run T W (n+2)) W kX)
  (λpre ρ=>∃s6 fs t7 t8,ρ=[.ow (.lst [.int k,.int s6]) true false,.sh (.bl g),.sh (.int no),.sh (.int ba),.sh (.int oc),.sh (.int ma),.ow (.lst (fs.map iW)) false false,t7,t8,.un]/\bR t7=true/\bR t8=true/\fs.length=pre.length/\∀f∈fs,0<=f.1/\f.1<=4/\-12<=f.2.1/\f.2.1<=12)
  (ds:=(List.range ma.toNat).map λ(j:Nat)=>.int (j:Int)) (λpre d post hds ρ hρ=>by
   obtain⟨s6,fs,t7,t8,rfl,h7,h8,hl,hf⟩:=hρ
   have hlen:pre.length<ma.toNat:=by
    have:=congrArg List.length hds
    simp at this;omega
   refine⟨_,by simp only[hV,bD h7]<;>rfl, ?_⟩;have hsm:aP ((fs.map iW).length+1)=true:=bQ (by simp;omega);have la:=aZ (k:=k) (s:=s6) p7;have lb:=a9 (k:=k) (s:=s6) p7;have lc:(if g=true then(5:Int) else 2)<=5:=by cases g<;>decide
   have sa:=aZ (k:=k) (s:=aG k s6 (if g=true then 5 else 2)) (m:=25) (by decide);have sb:=a9 (k:=k) (s:=aG k s6 (if g=true then 5 else 2)) (m:=25) (by decide);refine⟨[.ow (.lst [.int k,.int (aG k (aG k (aG k s6 (if g=true then 5 else 2)) 25) 4)]) true false,.sh (.bl g),.sh (.int no),.sh (.int ba),.sh (.int oc),.sh (.int ma),.ow (.lst ((fs++[(aT k s6 (if g=true then 5 else 2),aT k (aG k s6 (if g=true then 5 else 2)) 25-12,decide (aT k (aG k (aG k s6 (if g=true then 5 else 2)) 25) 4=0))]).map iW)) false false,.sh d,.sh (.int (aT k s6 (if g=true then 5 else 2))),.un], ?_,_,_,_,_,rfl,rfl,rfl,by simp[hl],λf hm=>?_⟩
   ·unfold kX;clear hf hds la lb lc sa sb hg hno hs2 hba hs3 hoc hs4 hma hs5 n1 n2 b1 b2 o1 o2 m1 m2 hlen hl yN hs1
    walk_at "!OR bM"
    simp only[zd,Zs,List.map_nil,iW]
   ·rcases zp.mp hm with hm | hm
    ·exact hf f hm
    ·rw[ze.mp hm]
     refine⟨la, ?_, ?_, ?_⟩<;>simp only<;>omega)
  (ρ:=[.ow (.lst [.int k,.int s5]) true false,.sh (.bl g),.sh (.int no),.sh (.int ba),.sh (.int oc),.sh (.int ma),.ow (.lst []) false false,.un,.un,.un]) ⟨_,[],_,_,rfl,rfl,rfl,rfl,λf h=>nomatch h⟩
 obtain⟨ρ1,el1,s6,fs,t7,t8,rfl,h7,h8,hl,hf⟩:=key1;have hl:fs.length=ma.toNat:=by rw[hl];simp
 have hr1:=aZ (k:=k) (s:=s6) (m:=9) (by decide);have hr2:=a9 (k:=k) (s:=s6) (m:=9) (by decide);have gZ:aE .rng [.val (.sh (.int (aT k s6 9)))] [.ow (.lst [.int k,.int (aG k s6 9)]) true false,.sh (.bl g),.sh (.int no),.sh (.int ba),.sh (.int oc),.sh (.int ma),.ow (.lst (fs.map iW)) false false,t7,t8,.ow (.lst []) false false]=some ((List.range (aT k s6 9).toNat).map λ(j:Nat)=>.int (j:Int),none):=nR rfl (by omega) (by omega)
 have key2:=dA (bind:=aY true [7]) (body:=exs T.pins (run T W (n+2)) W kG)
  (λpre ρ=>∃s7 rs t7,ρ=[.ow (.lst [.int k,.int s7]) true false,.sh (.bl g),.sh (.int no),.sh (.int ba),.sh (.int oc),.sh (.int ma),.ow (.lst (fs.map iW)) false false,t7,t8,.ow (.lst rs) false false]/\bR t7=true/\rs.length=pre.length/\∀d∈rs,RuleD no ba oc ma d)
  (ds:=(List.range (aT k s6 9).toNat).map λ(j:Nat)=>.int (j:Int)) (λpre d post hds ρ hρ=>by
   obtain⟨s7,rs,t7,rfl,h7,hl,hR⟩:=hρ
   have hlen:pre.length<(aT k s6 9).toNat:=by
    have:=congrArg List.length hds
    simp at this;omega
   refine⟨_,by simp only[hV,bD h7]<;>rfl, ?_⟩;have hsm:aP (rs.length+1)=true:=bQ (by omega);obtain⟨s8,dr,er,hrd⟩:=J7 (W:=W) (n:=n) (k:=k) (s0:=s7) n1 n2 b1 b2 o1 o2 m1 m2;refine⟨[.ow (.lst [.int k,.int s8]) true false,.sh (.bl g),.sh (.int no),.sh (.int ba),.sh (.int oc),.sh (.int ma),.ow (.lst (fs.map iW)) false false,.sh d,t8,.ow (.lst (rs++[dr])) false false], ?_,_,_,_,rfl,rfl,by simp[hl],λd hd=>(zp.mp hd).elim (hR d) λq=>by rw[ze.mp q];exact hrd⟩;unfold kG;clear hR hrd hf hds hg hno hs2 hba hs3 hoc hs4 hma hs5 n1 n2 b1 b2 o1 o2 m1 m2 hlen hl yN hs1 el1 gZ hr1 hr2
   walk_at "!bM OR")
  (ρ:=[.ow (.lst [.int k,.int (aG k s6 9)]) true false,.sh (.bl g),.sh (.int no),.sh (.int ba),.sh (.int oc),.sh (.int ma),.ow (.lst (fs.map iW)) false false,t7,t8,.ow (.lst []) false false]) ⟨_,[],_,rfl,h7,rfl,λ_ z=>nomatch z⟩
 obtain⟨ρ2,el2,s7,rs,t7',rfl,h7',hlr,hR⟩:=key2;have hlr2:rs.length<=8:=by rw[hlr];simp;omega
 have hlm:(fs.length:Int)=ma:=by omega
 refine⟨s7,no,ba,oc,fs,rs, ?_,⟨n1,n2,b1,b2,o1,o2,by omega,by omega,hf⟩,hlr2,by rw[hlm];exact hR⟩;clear hf n1 n2 b1 b2 o1 o2 m1 m2 hl hlr hr1 hr2 hR hlr2 hlm;have e1:=hno.symm;have e2:=hs2.symm;have e3:=hba.symm;have e4:=hs3.symm;have e5:=hoc.symm;have e6:=hs4.symm;have e7:=hma.symm;have e8:=hs5.symm;have e9:=hs1.symm;clear hno hs2 hba hs3 hoc hs4 hma hs5 hs1
 walk_at "!OR bM"
theorem IF{W n:Nat}{k s no mo:Int}(h1:0<no)(h2:no<nofun)(h3:0<=mo)(h4:mo<=1000):∃(s':Int) (xs:List Int),run T W (n+2) "L_line" [.ow (.lst [.int k,.int s]) true false,.sh (.int no),.sh (.int mo)]=some (.ok (.ow (.lst (xs.map D.int))),[.ow (.lst [.int k,.int s']) true false,.sh (.int no),.sh (.int mo)])/\(xs.length:Int)<=mo/\∀x∈xs,0<=x/\x<no:=by
 rw[bY A3 rfl rfl];unfold lO;have g1:0<mo+1:=by omega
 have g2:mo+1<nofun:=by omega
 have v1:=aZ (k:=k) (s:=s) g1;have v2:=a9 (k:=k) (s:=s) g1;have hi:aE .rng [.slot 3] [.ow (.lst [.int k,.int (aG k s (mo+1))]) true false,.sh (.int no),.sh (.int mo),.sh (.int (aT k s (mo+1)))]=some ((List.range (aT k s (mo+1)).toNat).map λ(j:Nat)=>.int (j:Int),none):=nR rfl (by omega) (by omega)
 obtain⟨acc,ρi,e,⟨s6,xs,t3,rfl,h3',rfl,hl,hx⟩,hz⟩:=gE (tests:=cI T.pins (run T W (n+1)) []) (elt:=ev T.pins (run T W (n+1)) false lX) (bind:=aY true [3]) (ds:=(List.range (aT k s (mo+1)).toNat).map λ(j:Nat)=>.int (j:Int))
  (λj acc ρ=>∃(s6:Int) (xs:List Int) (t3:Sl),ρ=[.sh (.int no),.ow (.lst [.int k,.int s6]) true false,.un,t3]/\bR t3=true/\acc=xs.map D.int/\xs.length=j/\∀x∈xs,0<=x/\x<no)
  (λj d hd acc ρ hρ=>by
   obtain⟨s6,xs,t3,rfl,h3',rfl,hl,hx⟩:=hρ;refine⟨_,true,_,by simp only[uZ,KL,zt,zr,bD h3',List.set_cons_zero,List.set_cons_succ]<;>rfl,iG,λ_=>?_,λz=>nomatch z⟩;refine⟨.sh (.int (aT k s6 no)),[.sh (.int no),.ow (.lst [.int k,.int (aG k s6 no)]) true false,.un,.sh d], ?_,_,xs++[aT k s6 no],_,rfl,rfl,by simp[RV.d],by simp[hl],λx hm=>?_⟩
   ·unfold lX;clear hx hd hl v1 v2 g1 g2 hi
    walk_at "!bM"
   ·rcases zp.mp hm with hm | hm
    ·exact hx x hm
    ·rw[ze.mp hm];exact⟨aZ h1,a9 h1⟩)
  [] [.sh (.int no),.ow (.lst [.int k,.int (aG k s (mo+1))]) true false,.un,.un] ⟨_,[],_,rfl,rfl,rfl,rfl,λx h=>nomatch h⟩
 have hl:xs.length=(aT k s (mo+1)).toNat:=by rw[hl];simp
 refine⟨s6,xs, ?_,by omega,hx⟩;have hsm:aP (xs.map D.int).length=true:=bQ (by simp;omega);clear hx hz hl v1 v2
 walk_at "!bM"
 rw[i5 hi]
 walk_at "!bM"
theorem nN{W n:Nat}{late shift note:Int}{turned:Bool}:run T W (n+1) "pitch" [.sh (.tup [.int late,.int shift,.bl turned]),.sh (.int note)]=some (.ok (.sh (.int (if turned then shift-note else shift+note))),[.sh (.tup [.int late,.int shift,.bl turned]),.sh (.int note)]):=by
 rw[bY ED rfl rfl];unfold n4;cases turned<;>walk_at "!"
noncomputable def aB(no ba oc:Int)(fs:List (Int×Int×Bool))(rs:List D):D:=.tup [.int no,.int ba,.int oc,.tup (fs.map iW),.tup rs]
noncomputable def dE(xs:List Int)(b:Int)(f:Int×Int×Bool):D :=
 if 0<=b-f.1/\b-f.1<xs.length then .int (if f.2.2=true then f.2.1-xs.getD (b-f.1).toNat 0 else f.2.1+xs.getD (b-f.1).toNat 0) else .non
abbrev cL(fs:List (Int×Int×Bool)):List (Int×Int×Bool):=(0,0,false)::fs
theorem jE{W n:Nat}{no ba oc:Int}{fs:List (Int×Int×Bool)}{rs:List D}{v:Nat}{f:Int×Int×Bool}(h:(cL fs)[v]?=some f) :
  run T W (n+1) "singer" [.sh (aB no ba oc fs rs),.sh (.int (v:Int))]=some (.ok (.sh (iW f)),[.sh (aB no ba oc fs rs),.sh (.int (v:Int))]):=by
 rw[bY A1 rfl rfl];unfold lL
 cases v with
 |zero =>
  simp only[zt,Option.some.injEq] at h;subst h;have e:decide (((0:Nat):Int)=0)=true:=rfl
  walk_at "!"
  all_goals (try simp only[e])
  all_goals (try walk_at "!")
  all_goals rfl
 |succ v =>
  have h:fs[v]?=some f:=by simpa using h
  have e:decide (((v+1:Nat):Int)=0)=false:=Zm (by omega);have e2:((v+1:Nat):Int)-1=(v:Int):=by omega
  have e3:L2.cG (fs.map iW) (v:Int)=some (iW f):=L2.mZ (by rw[Zh,h];rfl);unfold aB
  walk_at "!"
theorem VA{xs:List Int}{i:Int}(h1:0<=i)(h2:i<xs.length):L2.cG (xs.map D.int) i=some (.int (xs.getD i.toNat 0)):=by
 have:=u0 (ns:=xs) (k:=i.toNat) (by omega)
 have e:((i.toNat:Nat):Int)=i:=by omega
 rwa[e] at this
theorem qS{W n:Nat}{no ba oc:Int}{fs:List (Int×Int×Bool)}{rs:List D}{xs:List Int}{v:Nat}{b:Int}{p:Bool}{f:Int×Int×Bool}(h:(cL fs)[v]?=some f) :
  run T W (n+2) "sung" [.sh (aB no ba oc fs rs),~~~xs,.sh (.int (v:Int)),.sh (.int b)]=some (.ok (.sh (dE xs b f)),[.sh (aB no ba oc fs rs),~~~xs,.sh (.int (v:Int)),.sh (.int b)]):=by
 rw[bY JF rfl rfl];unfold rX;have hs:=jE (W:=W) (n:=n) (no:=no) (ba:=ba) (oc:=oc) (rs:=rs) h;obtain⟨late,shift,turned⟩:=f;simp only[iW] at hs;by_cases c:0<=b-late/\b-late<xs.length
 ·have e1:=VA c.1 c.2;have ev:dE xs b (late,shift,turned)=.int (if turned=true then shift-xs.getD (b-late).toNat 0 else shift+xs.getD (b-late).toNat 0):=Zo c;obtain⟨c1,c2⟩:=c;clear h
  walk_at "!jE nN %"
 ·have ev:dE xs b (late,shift,turned)=.non:=Zp c;by_cases c1:0<=b-late
  ·have c2:¬b-late<xs.length:=λz=>c ⟨c1,z⟩
   have c2':decide (b-late<(xs.length:Int))=false:=Zm c2;clear h c c2
   walk_at "!jE nN %"
  ·have c1':decide (0<=b-late)=false:=Zm c1;clear h c c1
   walk_at "!jE nN %"
theorem lG{xs:List Int}{b:Int}{f:Int×Int×Bool}:dE xs b f=.non\/∃i,dE xs b f=.int i:=by
 unfold dE;split
 ·exact .inr ⟨_,rfl⟩
 ·exact .inl rfl
theorem C6{tests elt:Env->aM RV}{bind:D->Env->Option Env}{ds:List D}(sel:Nat->Bool)(val:Nat->D)(J:Env->Prop)
  (step:∀(j:Nat) (d:D),ds[j]?=some d->∀ρ,J ρ->∃ρ1 ρ2,bind d ρ=some ρ1/\tests ρ1=some (.ok (.sh (.bl (sel j))),ρ2)/\(sel j=true->∃v ρ3,elt ρ2=some (.ok v,ρ3)/\v.d=val j/\J ρ3)/\(sel j=false->J ρ2)) :
  ∀ρ,J ρ->∃ρ',c8 tests elt bind ds [] ρ=some (.ok (((List.range ds.length).filter sel).map val),ρ')/\J ρ':=by
 intro ρ hρ
 obtain⟨acc,ρ',e,⟨rfl,hJ⟩,_⟩:=gE (tests:=tests) (elt:=elt) (bind:=bind) (ds:=ds) (λj acc ρ=>acc=((List.range j).filter sel).map val/\J ρ)
  (λj d hd acc ρ ⟨ha,hJ⟩=>by
   subst ha;obtain⟨ρ1,ρ2,h1,h2,h3,h4⟩:=step j d hd ρ hJ;refine⟨ρ1,sel j,ρ2,h1,h2,λhc=>?_,λhc=>?_⟩
   ·obtain⟨v,ρ3,h5,h6,h7⟩:=h3 hc;refine⟨v,ρ3,h5, ?_,h7⟩;rw[List.range_succ,List.filter_append,zd,h6];simp[hc]
   ·refine⟨?_,h4 hc⟩;rw[List.range_succ,List.filter_append,zd]
    simp[hc]) [] ρ ⟨rfl,hρ⟩
 exact⟨ρ',e,hJ⟩
theorem jZ{W n:Nat}{no ba oc:Int}{fs:List (Int×Int×Bool)}{rs:List D}{xs:List Int}{b:Int}(hl:fs.length<=1000) :
  run T W (n+3) "chord" [.sh (aB no ba oc fs rs),~~~xs,.sh (.int b)]=some (.ok (.ow (.lst ((cL fs).map (dE xs b)))),[.sh (aB no ba oc fs rs),~~~xs,.sh (.int b)]):=by
 rw[bY D7 rfl rfl];unfold oG
 have hi:aE .rng [.val (.sh (.int ((fs.length:Int)+1)))] [.sh (aB no ba oc fs rs),~~~xs,.sh (.int b)]=some ((List.range (fs.length+1)).map λ(j:Nat)=>.int (j:Int),none):=by(refine Eq.trans (nR (n:=(fs.length:Int)+1) rfl (by omega) (by omega)) ?_;rw[show((fs.length:Int)+1).toNat=fs.length+1 from by omega])
 have hix:iU (some (aB no ba oc fs rs)) (.int 3)=some (.sh (.tup (fs.map iW))):=rfl
 obtain⟨acc,ρi,e,⟨t4,rfl,ht4,rfl⟩,hz⟩:=gE (tests:=cI T.pins (run T W (n+2)) []) (elt:=ev T.pins (run T W (n+2)) false nO) (bind:=aY true [4]) (ds:=(List.range (fs.length+1)).map λ(j:Nat)=>.int (j:Int))
  (λj acc ρ=>∃(t4:Sl),ρ=[.sh (.int b),.sh (aB no ba oc fs rs),~~~xs,.un,t4]/\bR t4=true/\acc=((cL fs).take j).map (dE xs b))
  (λj d hd acc ρ hρ=>by
   obtain⟨t4,rfl,ht4,rfl⟩:=hρ
   have hj:j<fs.length+1:=by
    have:=(Zc.mp hd).1
    simpa using this
   have hd':d=.int (j:Int):=by(rw[Zh,List.getElem?_range hj] at hd;exact(Option.some.inj hd).symm)
   subst hd';obtain⟨f,hf⟩:∃f,(cL fs)[j]?=some f:=⟨_,Zb (by simp;omega)⟩
   have hs:=qS (W:=W) (n:=n) (no:=no) (ba:=ba) (oc:=oc) (rs:=rs) (xs:=xs) (b:=b) (p:=true) hf;refine⟨_,true,_,by simp only[hV,bD ht4]<;>rfl,iG,λ_=>?_,λz=>nomatch z⟩;refine⟨.sh (dE xs b f),[.sh (.int b),.sh (aB no ba oc fs rs),~~~xs,.un,.sh (.int (j:Int))], ?_,_,rfl,rfl, ?_⟩
   ·unfold nO;clear hd hj hf hi ht4 hix
    walk_at "!%"
   ·rw[List.take_succ,hf,zd]
    rfl)
  [] [.sh (.int b),.sh (aB no ba oc fs rs),~~~xs,.un,.un] ⟨_,rfl,rfl,rfl⟩
 have ht:(cL fs).take (((List.range (fs.length+1)).map λ(j:Nat)=>D.int (j:Int)).length)=cL fs:=by(rw[zf];simp)
 rw[ht] at e;have hsm:aP ((cL fs).map (dE xs b)).length=true:=bQ (by simp;omega);have hsm2:aP (fs.length+1)=true:=bQ (by omega);clear hz ht4 ht hl
 walk_at "!%"
 rw[i5 hi]
 walk_at "!%"
def k7(lo hi:Int):D->Bool
 |.int i=>!(decide (lo<=i)&&decide (i<=hi))
 |_=>false
def nT(n:Nat)(sel:Nat->Bool):List (List Int):=((List.range n).filter sel).map λ(j:Nat)=>[(j:Int)]
theorem SR{n:Nat}{sel:Nat->Bool}{is:List Int}(h:is∈nT n sel):is.length<=1000:=by
 obtain⟨j,_,rfl⟩:=List.mem_map.mp h;simp
theorem CO{n:Nat}{sel:Nat->Bool}(hn:n<=1000):(nT n sel).length<=1000:=by
 unfold nT;rw[List.length_map]
 have:=List.length_filter_le sel (List.range n)
 simp at this;omega
theorem WY{n:Nat}{sel:Nat->Bool}:((List.range n).filter sel).map (λ(j:Nat)=>D.tup [.int (j:Int)])=aH (nT n sel):=by
 unfold aH nT;rw[List.map_map];rfl
theorem zM{W n:Nat}{lo hi:Int}{d:D}(hd:d=.non\/∃i,d=.int i):run T W (n+1) "Range.forbids" [.sh (.ins "Range" ["low","high"] [.int lo,.int hi]),.sh d]=some (.ok (.sh (.bl (k7 lo hi d))),[.sh (.ins "Range" ["low","high"] [.int lo,.int hi]),.sh d]):=by
 rw[bY lD rfl rfl];unfold fG;rcases hd with rfl | ⟨i,rfl⟩
 ·have e:k7 lo hi .non=false:=rfl
  walk_at "!jK iZ"
 ·have e:k7 lo hi (.int i)=!(decide (lo<=i)&&decide (i<=hi)):=rfl;by_cases c:lo<=i
  ·have c':decide (lo<=i)=true:=Zn c;rw[e,c',Bool.true_and];clear e c
   walk_at "!jK iZ"
  ·have c':decide (lo<=i)=false:=Zm c;rw[e,c',Bool.false_and];clear e c
   walk_at "!jK iZ"
def aU(fs:List (Int×Int×Bool))(xs:List Int)(b:Int):List D:=(cL fs).map (dE xs b)
theorem F9{fs:List (Int×Int×Bool)}{xs:List Int}{b:Int}{j:Nat}{d:D}(h:(aU fs xs b)[j]?=some d):d=.non\/∃i,d=.int i:=by
 unfold aU at h;rw[Zh] at h
 cases q:(cL fs)[j]? with
 |none=>rw[q] at h;cases h
 |some f =>
  rw[q] at h;cases h;exact lG
theorem iI{fs:List (Int×Int×Bool)}{xs:List Int}{b:Int}:(aU fs xs b).length=fs.length+1:=by unfold aU;simp
theorem NA{fs:List (Int×Int×Bool)}{xs:List Int}{b:Int}{v:Nat}{f:Int×Int×Bool}(h:(cL fs)[v]?=some f):(aU fs xs b)[v]?=some (dE xs b f):=by
 unfold aU;rw[Zh,h];rfl
theorem oB{fs:List (Int×Int×Bool)}{xs:List Int}{b:Int}{v:Nat}{f:Int×Int×Bool}(h:(cL fs)[v]?=some f):(aU fs xs b).getD v .non=dE xs b f:=by
 rw[List.getD_eq_getElem?_getD,NA h];rfl
theorem aCh{ρ:Env}{v:RV}{ds:List D}(h:v.d=.lst ds):aE (.enum 0) [.val v] ρ=some (cW 0 ds,none):=by simp only[aE,h]
noncomputable def lB(lo hi:Int)(fs:List (Int×Int×Bool))(xs:List Int)(b:Int):List (List Int):=nT (fs.length+1) λj=>k7 lo hi ((aU fs xs b).getD j .non)
theorem BZ{W n:Nat}{lo hi no ba oc:Int}{fs:List (Int×Int×Bool)}{rs:List D}{xs:List Int}{b:Int}(hl:fs.length<=900) :
  run T W (n+4) "Range.broken" [.sh (.ins "Range" ["low","high"] [.int lo,.int hi]),.sh (aB no ba oc fs rs),~~~xs,.sh (.int b)]=some (.ok (.ow (.lst (aH (lB lo hi fs xs b)))),[.sh (.ins "Range" ["low","high"] [.int lo,.int hi]),.sh (aB no ba oc fs rs),~~~xs,.sh (.int b)]):=by
 rw[bY m9 rfl rfl];unfold fY;have hc:run T W (n+3) "chord" _=some (.ok (.ow (.lst (aU fs xs b))),_):=jZ (W:=W) (n:=n) (no:=no) (ba:=ba) (oc:=oc) (fs:=fs) (rs:=rs) (xs:=xs) (b:=b) (by omega);have gZ:aE (.enum 0) [.val (.ow (.lst (aU fs xs b)))] [.sh (.ins "Range" ["low","high"] [.int lo,.int hi]),.sh (aB no ba oc fs rs),~~~xs,.sh (.int b)]=some (cW 0 (aU fs xs b),none):=aCh rfl
 obtain⟨ρi,e,t2,t3,rfl,ht2,ht3⟩:=C6 (tests:=cI T.pins (run T W (n+3)) [.meth 0 "forbids" eK [.var 3]]) (elt:=ev T.pins (run T W (n+3)) false gX) (bind:=aY false [2,3]) (ds:=cW 0 (aU fs xs b))
  (λj=>k7 lo hi ((aU fs xs b).getD j .non)) (λ(j:Nat)=>.tup [.int (j:Int)])
  (λρ=>∃(t2 t3:Sl),ρ=[.sh (.ins "Range" ["low","high"] [.int lo,.int hi]),.un,t2,t3]/\bR t2=true/\bR t3=true)
  (λj d hd ρ hρ=>by
   obtain⟨t2,t3,rfl,ht2,ht3⟩:=hρ
   have hj:j<(aU fs xs b).length:=by
    have:=(Zc.mp hd).1
    rwa[fB] at this
   have hg:=Zb hj;rw[lI hg,Int.zero_add] at hd;cases hd;generalize (aU fs xs b)[j]=x at hg;have hgd:(aU fs xs b).getD j .non=x:=by rw[List.getD_eq_getElem?_getD,hg];rfl
   have hk:=F9 hg;have hf:=zM (W:=W) (n:=n+2) (lo:=lo) (hi:=hi) hk;refine⟨_,[.sh (.ins "Range" ["low","high"] [.int lo,.int hi]),.un,.sh (.int (j:Int)),.sh x],by simp only[hV,bD ht2,bD ht3]<;>rfl, ?_,λ_=>?_,λ_=>?_⟩
   ·simp only[hgd];clear hj hg hgd hk hc gZ ht2 ht3
    walk_at "!fI"
   ·refine⟨.sh (.tup [.int (j:Int)]),[.sh (.ins "Range" ["low","high"] [.int lo,.int hi]),.un,.sh (.int (j:Int)),.sh x], ?_,rfl,_,_,rfl,rfl,rfl⟩;unfold gX;clear hj hg hgd hk hc gZ ht2 ht3 hf
    walk_at "!fI"
   ·exact⟨_,_,rfl,rfl,rfl⟩)
  [.sh (.ins "Range" ["low","high"] [.int lo,.int hi]),.un,.un,.un] ⟨_,_,rfl,rfl,rfl⟩
 rw[fB,iI,WY] at e;have hB:nT (fs.length+1) (λj=>k7 lo hi ((aU fs xs b).getD j .non))=lB lo hi fs xs b:=rfl;rw[hB] at e
 have hsm:aP (aH (lB lo hi fs xs b)).length=true:=bQ (by
  have:=CO (n:=fs.length+1) (sel:=λj=>k7 lo hi ((aU fs xs b).getD j .non)) (by omega)
  unfold aH lB;simp only[List.length_map]
  omega)
 clear hl ht2 ht3 hB
 walk_at "!fI"
 rw[i5 gZ]
 walk_at "!fI"
noncomputable def eL(m v:Nat)(P:Nat->Nat->Bool):List (List Int):=((List.range m).filter λj=>P v (v+1+j)).map λ(j:Nat)=>[(v:Int),((v+1+j:Nat):Int)]
def cY(n:Nat)(P:Nat->Nat->Bool):List (List Int):=(List.range n).flatMap λv=>eL (n-(v+1)) v P
theorem JH{m v:Nat}{P:Nat->Nat->Bool}:eL (m+1) v P=eL m v P++(if P v (v+1+m)=true then [[(v:Int),((v+1+m:Nat):Int)]] else []):=by
 unfold eL;rw[List.range_succ,List.filter_append,zd];congr 1;by_cases h:P v (v+1+m)=true
 ·simp[h]
 ·simp[h]
theorem S1{m v:Nat}{P:Nat->Nat->Bool}{is:List Int}(h:is∈eL m v P):is.length<=1000:=by
 obtain⟨j,_,rfl⟩:=List.mem_map.mp h;simp
theorem x8{n:Nat}{P:Nat->Nat->Bool}{is:List Int}(h:is∈cY n P):is.length<=1000:=by
 obtain⟨v,_,h⟩:=List.mem_flatMap.mp h;exact S1 h
theorem CB{m v:Nat}{P:Nat->Nat->Bool}:(eL m v P).length<=m:=by
 unfold eL;rw[List.length_map]
 have:=List.length_filter_le (λj=>P v (v+1+j)) (List.range m)
 simpa using this
theorem sN{n m:Nat}{P:Nat->Nat->Bool}:(List.range (m+1)).flatMap (λv=>eL (n-(v+1)) v P)=(List.range m).flatMap (λv=>eL (n-(v+1)) v P)++eL (n-(m+1)) m P:=by
 rw[List.range_succ,List.flatMap_append];simp
theorem tJ{n:Nat}{P:Nat->Nat->Bool}:∀(m:Nat),((List.range m).flatMap (λv=>eL (n-(v+1)) v P)).length<=m*n
 | 0=>by simp
 |m+1=>by(rw[sN,Za];have h1:=tJ (n:=n) (P:=P) m;have h2:=CB (m:=n-(m+1)) (v:=m) (P:=P);rw[Nat.succ_mul];omega)
theorem j0{n:Nat}{P:Nat->Nat->Bool}(hn:n<=30):(cY n P).length<=1000:=by
 have h1:=tJ (n:=n) (P:=P) n;have h2:n*n<=30*30:=Nat.mul_le_mul hn hn;unfold cY;omega
theorem zC{a b:List (List Int)}:aH (a++b)=aH a++aH b:=by unfold aH;rw[zd]
theorem gJ{a:List (List Int)}:(aH a).length=a.length:=by unfold aH;rw[List.length_map]
theorem MF{body:Env->bS}{iw:Nat}(E:List D->Sl->Sl->Env)(P:Nat->Nat->Bool)(n v:Nat)(acc:List (List Int))(ha:acc.length<=10000)(hn:n<=1000)
  (hb:∀(a:List D) (t:Sl) (d:D),bR t=true->aY true [iw] d (E a (.sh (.int (v:Int))) t)=some (E a (.sh (.int (v:Int))) (.sh d)))
  (hs:∀(a:List (List Int)) (w:Nat),v<w->w<n->a.length<=20000->body (E (aH a) (.sh (.int (v:Int))) (.sh (.int (w:Int))))=some (.nx,E (aH (a++(if P v w=true then [[(v:Int),(w:Int)]] else []))) (.sh (.int (v:Int))) (.sh (.int (w:Int))))) (t:Sl) (ht:bR t=true) :
  ∃t',cF (aY true [iw]) body ((List.range (n-(v+1))).map λ(j:Nat)=>.int ((v:Int)+1+(j:Int))) (E (aH acc) (.sh (.int (v:Int))) t)=some (.nx,E (aH (acc++eL (n-(v+1)) v P)) (.sh (.int (v:Int))) t')/\bR t'=true:=by
 obtain⟨ρ',e,t',rfl,ht'⟩:=dA (bind:=aY true [iw]) (body:=body) (λpre ρ=>∃t',ρ=E (aH (acc++eL pre.length v P)) (.sh (.int (v:Int))) t'/\bR t'=true)
  (ds:=(List.range (n-(v+1))).map λ(j:Nat)=>.int ((v:Int)+1+(j:Int))) (λpre d post hds ρ hρ=>by
   obtain⟨t',rfl,ht'⟩:=hρ
   have hlen:pre.length<n-(v+1):=by
    have:=congrArg List.length hds
    simp at this;omega
   have hd:d=.int (((v+1+pre.length:Nat)):Int):=by
    have h1:((List.range (n-(v+1))).map λ(j:Nat)=>D.int ((v:Int)+1+(j:Int)))[pre.length]?=some d:=by rw[hds];simp
    rw[Zh,List.getElem?_range hlen] at h1;simp only[Option.map_some,Option.some.injEq] at h1;rw[<- h1];congr 1
   subst hd;refine⟨_,hb _ _ _ ht',_,hs _ (v+1+pre.length) (by omega) (by omega) ?_,.sh (.int ((v+1+pre.length:Nat):Int)), ?_,rfl⟩
   ·have:=CB (m:=pre.length) (v:=v) (P:=P)
    rw[Za];omega
   ·rw[Za,Zk,List.length_nil,JH,List.append_assoc])
  (ρ:=E (aH acc) (.sh (.int (v:Int))) t) ⟨t,by simp[eL],ht⟩
 refine⟨t', ?_,ht'⟩;rw[e];simp
theorem G9{body:Env->bS}{iv:Nat}(E:List D->Sl->Sl->Env)(P:Nat->Nat->Bool)(n:Nat)(hn:n<=30)
  (hb:∀(a:List D) (t t2:Sl) (d:D),bR t=true->aY true [iv] d (E a t t2)=some (E a (.sh d) t2))
  (hs:∀(acc:List (List Int)) (v:Nat) (t:Sl),v<n->acc.length<=10000->bR t=true->∃t',body (E (aH acc) (.sh (.int (v:Int))) t)=some (.nx,E (aH (acc++eL (n-(v+1)) v P)) (.sh (.int (v:Int))) t')/\bR t'=true) (t t2:Sl) (ht:bR t=true) (ht2:bR t2=true) :
  ∃t' t2',cF (aY true [iv]) body ((List.range n).map λ(j:Nat)=>.int (j:Int)) (E [] t t2)=some (.nx,E (aH (cY n P)) t' t2')/\bR t'=true/\bR t2'=true:=by
 obtain⟨ρ',e,t',t2',rfl,ht',ht2'⟩:=dA (bind:=aY true [iv]) (body:=body) (λpre ρ=>∃t' t2',ρ=E (aH ((List.range pre.length).flatMap λv=>eL (n-(v+1)) v P)) t' t2'/\bR t'=true/\bR t2'=true)
  (ds:=(List.range n).map λ(j:Nat)=>.int (j:Int)) (λpre d post hds ρ hρ=>by
   obtain⟨t',t2',rfl,ht',ht2'⟩:=hρ
   have hlen:pre.length<n:=by
    have:=congrArg List.length hds
    simp at this;omega
   have hd:d=.int ((pre.length:Nat):Int):=by
    have h1:((List.range n).map λ(j:Nat)=>D.int (j:Int))[pre.length]?=some d:=by rw[hds];simp
    rw[Zh,List.getElem?_range hlen] at h1;simp only[Option.map_some,Option.some.injEq] at h1;exact h1.symm
   subst hd
   obtain⟨t3,h3,h4⟩:=hs ((List.range pre.length).flatMap λv=>eL (n-(v+1)) v P) pre.length t2' hlen (by
    have h1:=tJ (n:=n) (P:=P) pre.length;have h2:pre.length*n<=30*30:=Nat.mul_le_mul (by omega) hn
    omega) ht2'
   refine⟨_,hb _ _ _ _ ht',_,h3,.sh (.int ((pre.length:Nat):Int)),_, ?_,rfl,h4⟩
   rw[Za,Zk,List.length_nil,sN])
  (ρ:=E [] t t2) ⟨t,t2,by simp[aH],ht,ht2⟩
 refine⟨t',t2', ?_,ht',ht2'⟩;rw[e];unfold cY;simp
def zB:D->Bool
 |.non=>true
 |_=>false
def d7(hs:List D)(v w:Nat):Bool:=!zB (hs.getD v .non) && !zB (hs.getD w .non)
def LH(hs:List D):Prop:=∀d∈hs,d=.non\/∃i,d=.int i
theorem pX{fs:List (Int×Int×Bool)}{xs:List Int}{b:Int}:LH (aU fs xs b):=λd hd=>by
 obtain⟨f,_,rfl⟩:=List.mem_map.mp hd;exact lG
theorem iJ{hs:List D}(h:LH hs){v:Nat}(hv:v<hs.length):∃d,L2.cG hs (v:Int)=some d/\hs.getD v .non=d/\(d=.non\/∃i,d=.int i):=by
 refine⟨hs[v],L2.mZ (Zb hv), ?_,h _ (List.getElem_mem hv)⟩;rw[List.getD_eq_getElem?_getD,Zb hv];rfl
theorem oK{W n:Nat}{hs:List D}(hh:LH hs)(hl:hs.length<=30) :
  run T W (n+1) "sounding_pairs" [.ow (.lst hs) true false]=some (.ok (.ow (.lst (aH (cY hs.length (d7 hs))))),[.ow (.lst hs) true false]):=by
 rw[bY kY rfl rfl];unfold eT
 have hi:aE .rng [.val (.sh (.int (hs.length:Int)))] [.ow (.lst hs) true false,.ow (.lst []) false false,.un,.un]=some ((List.range hs.length).map λ(j:Nat)=>.int (j:Int),none):=by(refine Eq.trans (nR (n:=(hs.length:Int)) rfl (by omega) (by omega)) ?_;rw[Int.toNat_natCast])
 obtain⟨t',t2',e,ht',ht2'⟩:=G9 (iv:=2) (body:=exs T.pins (run T W n) W fU) (λa t t2=>[.ow (.lst hs) true false,.ow (.lst a) false false,t,t2]) (d7 hs) hs.length hl
  (λa t t2 d ht=>by simp only[hV,bD ht])
  (λacc v t hv hac ht=>by
   have gZ:aE .rng [.val (.sh (.int ((v:Int)+1))),.val (.sh (.int (hs.length:Int)))] [.ow (.lst hs) true false,.ow (.lst (aH acc)) false false,.sh (.int (v:Int)),t]=some ((List.range (hs.length-(v+1))).map λ(j:Nat)=>.int ((v:Int)+1+(j:Int)),none):=by(refine Eq.trans (aCA (m:=(v:Int)+1) (n:=(hs.length:Int)) rfl rfl (by omega) (by omega)) ?_;rw[show((hs.length:Int)-((v:Int)+1)).toNat=hs.length-(v+1) from by omega])
   obtain⟨t3,e3,h3⟩:=MF (iw:=3) (body:=exs T.pins (run T W n) W fQ) (λa t t2=>[.ow (.lst hs) true false,.ow (.lst a) false false,t,t2]) (d7 hs) hs.length v acc hac (by omega)
    (λa t d ht=>by simp only[hV,bD ht])
    (λa w hvw hw hal=>by
     obtain⟨d1,a1,g1,k1⟩:=iJ hh hv;obtain⟨d2,a2,g2,k2⟩:=iJ hh hw;have hsm:aP ((aH a).length+1)=true:=bQ (by rw[gJ];omega);unfold fQ d7;rw[g1,g2];clear hi gZ hh hl hv hw hvw hal hac ht g1 g2;rcases k1 with rfl | ⟨i1,rfl⟩
     ·have e:zB .non=true:=rfl
      walk_at "!%"
      all_goals (try simp only[List.append_nil])
     ·have e1:zB (.int i1)=false:=rfl;rcases k2 with rfl | ⟨i2,rfl⟩
      ·have e:zB .non=true:=rfl
       walk_at "!%"
       all_goals (try simp only[List.append_nil])
      ·have e:zB (.int i2)=false:=rfl;have et:aH (a++[[(v:Int),(w:Int)]])=aH a++[.tup [.int (v:Int),.int (w:Int)]]:=by rw[zC];rfl
       walk_at "!%") t ht
   refine⟨t3, ?_,h3⟩;unfold fU;clear hi hh hl hv hac ht h3
   walk_at "!%") .un .un rfl rfl
 clear hl hh ht' ht2'
 walk_at "!%"
def gI(i:Int):Int:=if i<0 then -i else i
theorem iP{i:Int}:(if i<0 then -i else i)=gI i:=rfl
def gx(xs:List Int)(i:Nat):Int:=xs.getD i 0
theorem rG{xs:List Int}{k:Nat}(h:k<xs.length):L2.cG (xs.map D.int) (k:Int)=some (.int (gx xs k)):=u0 h
theorem uQ{xs:List Int}{k:Nat}(h:k<xs.length):gx xs k∈xs:=by
 unfold gx;rw[List.getD_eq_getElem?_getD,Zb h];simp
def dF(c:Bool):List (List Int):=if c=true then [[]] else []
theorem xW{c:Bool}{is:List Int}(h:is∈dF c):is.length<=1000:=by
 cases c
 ·cases h
 ·rw[ze.mp h];decide
theorem tZ{c:Bool}:(dF c).length<=1000:=by cases c<;>decide
def lH(mo:Int)(xs:List Int):Nat->Bool
 | 0=>false
 |b+1=>decide (mo<gI (gx xs (b+1)-gx xs b))
theorem C8{W n:Nat}{mo:Int}{h:D}{xs:List Int}{b:Nat}(hb:b<xs.length) :
  run T W (n+1) "Leap.broken" [.sh (.ins "Leap" ["most"] [.int mo]),.sh h,~~~xs,.sh (.int (b:Int))]=some (.ok (.ow (.lst (aH (dF (lH mo xs b))))),[.sh (.ins "Leap" ["most"] [.int mo]),.sh h,~~~xs,.sh (.int (b:Int))]):=by
 rw[bY oN rfl rfl];unfold gP
 match b,hb with
 | 0,hb =>
  have e:aH (dF (lH mo xs 0))=[]:=rfl;have c:decide (0<((0:Nat):Int))=false:=rfl;clear hb
  walk_at "!jM % iP"
 |b+1,hb =>
  have c:decide (0<((b+1:Nat):Int))=true:=Zn (by omega);have i1:((b+1:Nat):Int)-1=((b:Nat):Int):=by omega
  have a0:=rG (xs:=xs) (k:=b) (by omega);have a1:=rG (xs:=xs) (k:=b+1) (by omega);have ev:lH mo xs (b+1)=decide (mo<gI (gx xs (b+1)-gx xs b)):=rfl;clear hb;cases c1:decide (mo<gI (gx xs (b+1)-gx xs b))
  ·have e:aH (dF (lH mo xs (b+1)))=[]:=by rw[ev,c1];rfl
   clear ev
   walk_at "!jM % iP"
  ·have e:aH (dF (lH mo xs (b+1)))=[.tup []]:=by rw[ev,c1];rfl
   clear ev
   walk_at "!jM % iP"
def nW(m:Nat)(xs:List Int)(b:Nat):List Int:=(xs.drop (b-m)).take m
noncomputable def fN(m:Nat)(xs:List Int)(b:Nat):Bool:=decide ((m:Int)<=(b:Int))&&(nW m xs b).all λz=>decide (z=gx xs b)
theorem RS{xs:List Int}{m b e:Nat}(h:m<=b)(hb:b<=e)(he:e<=xs.length):AZ (some (.lst (xs.map D.int))) (some (.int ((b:Int)-(m:Int)))) (some (.int (e:Int)))=some (.ow (.lst (((xs.drop (b-m)).take (m+(e-b))).map D.int))):=by
 have e1:(b:Int)-(m:Int)=((b-m:Nat):Int):=by omega
 show some (RV.ow (.lst (rC (xs.map D.int) (some ((b:Int)-(m:Int))) (some (e:Int)))))=_;rw[e1];unfold rC;rw[HT.wJ,HT.wJ,List.length_map,Nat.min_eq_left (by omega),Nat.min_eq_left (by omega),<- List.map_drop,<- List.map_take,show e-(b-m)=m+(e-b) from by omega]
theorem mT{Z:List Int}{p:Int->Bool}:lK .all [.lst (Z.map λz=>.bl (p z))]=some (.sh (.bl (Z.all p))):=by
 have h:eH (Z.map λz=>.bl (p z))=some (Z.map p):=by
  induction Z with
  |nil=>rfl
  |cons z Z ih=>simp[eH,ih]
 show(eH _).map _=_;rw[h];simp[List.all_map]
theorem BJ{W n:Nat}{m:Nat}{h:D}{xs:List Int}{b:Nat}(hb:b<xs.length)(hm:m<=3) :
  run T W (n+1) "Again.broken" [.sh (.ins "Again" ["most"] [.int (m:Int)]),.sh h,~~~xs,.sh (.int (b:Int))]=some (.ok (.ow (.lst (aH (dF (fN m xs b))))),[.sh (.ins "Again" ["most"] [.int (m:Int)]),.sh h,~~~xs,.sh (.int (b:Int))]):=by
 rw[bY nF rfl rfl];unfold fW;by_cases c:(b:Int)<(m:Int)
 ·have c':decide ((b:Int)<(m:Int))=true:=Zn c
  have e:aH (dF (fN m xs b))=[]:=by(unfold fN;rw[Zm (by omega)];rfl)
  clear c hb hm
  walk_at "!dZ mT %"
 ·have c':decide ((b:Int)<(m:Int))=false:=Zm c;have hs:=RS (xs:=xs) (m:=m) (b:=b) (e:=b) (by omega) (Zq _) (by omega);rw[Nat.sub_self,Nat.add_zero] at hs;have hZ:((xs.drop (b-m)).take m)=nW m xs b:=rfl;rw[hZ] at hs
  have hv:fN m xs b=(nW m xs b).all λz=>decide (z=gx xs b):=by(unfold fN;rw[Zn (by omega),Bool.true_and])
  have hzl:(nW m xs b).length<=3:=by unfold nW;rw[List.length_take];omega
  have a0:=rG (xs:=xs) (k:=b) hb
  generalize nW m xs b=Z at *
  have hi:aE .of [.val (.ow (.lst (Z.map D.int)))] [.sh (.ins "Again" ["most"] [.int (m:Int)]),.sh h,~~~xs,.sh (.int (b:Int))]=some (Z.map D.int,none):=zZ rfl
  obtain⟨acc,ρi,e,⟨t4,rfl,ht4,rfl⟩,hz⟩:=gE (tests:=cI T.pins (run T W n) []) (elt:=ev T.pins (run T W n) false gS) (bind:=aY true [3]) (ds:=Z.map D.int)
   (λj acc ρ=>∃(t4:Sl),ρ=[.sh (.int (b:Int)),~~~xs,.un,t4]/\bR t4=true/\acc=(Z.take j).map λz=>.bl (decide (z=gx xs b)))
   (λj d hd acc ρ hρ=>by
    obtain⟨t4,rfl,ht4,rfl⟩:=hρ;obtain⟨z,hz,rfl⟩:∃z,Z[j]?=some z/\D.int z=d:=by simpa using hd
    refine⟨_,true,_,by simp only[hV,bD ht4]<;>rfl,iG,λ_=>?_,λz=>nomatch z⟩;refine⟨.sh (.bl (decide (z=gx xs b))),[.sh (.int (b:Int)),~~~xs,.un,.sh (.int z)], ?_,_,rfl,rfl, ?_⟩
    ·unfold gS;clear hd hz hi ht4 hs hv hzl c c' hb hm hZ
     walk_at "!dZ mT %"
    ·rw[List.take_succ,hz,zd]
     rfl)
   [] [.sh (.int (b:Int)),~~~xs,.un,.un] ⟨_,rfl,rfl,rfl⟩
  have ht:Z.take (Z.map D.int).length=Z:=by(rw[zf];simp)
  rw[ht] at e;have hsm:aP (Z.map λz=>D.bl (decide (z=gx xs b))).length=true:=bQ (by simp;omega);have hsm2:aP Z.length=true:=bQ (by omega);clear hz ht4 ht c hb hm hzl hZ;cases c1:Z.all λz=>decide (z=gx xs b)
  ·have e2:aH (dF (fN m xs b))=[]:=by rw[hv,c1];rfl
   clear hv
   walk_at "!dZ mT %"
   rw[i5 hi]
   walk_at "!dZ mT %"
  ·have e2:aH (dF (fN m xs b))=[.tup []]:=by rw[hv,c1];rfl
   clear hv
   walk_at "!dZ mT %"
   rw[i5 hi]
   walk_at "!dZ mT %"
theorem BU{W n:Nat}{a:D}:run T W (n+1) "rule_of" [.sh (.tup [.str "leap",a])]=some (.ok (.sh (.ins "Leap" ["most"] [a])),[.sh (.tup [.str "leap",a])]):=by
 rw[bY fA rfl rfl];unfold dB
 walk_at "!kI"
theorem zP{W n:Nat}{a:D}:run T W (n+1) "rule_of" [.sh (.tup [.str "again",a])]=some (.ok (.sh (.ins "Again" ["most"] [a])),[.sh (.tup [.str "again",a])]):=by
 rw[bY fA rfl rfl];unfold dB
 walk_at "!kI"
noncomputable def iN(lp mo:Int)(xs:List Int):Nat->Bool
 | 0=>false
 | 1=>false
 |b+2=>decide (lp<=gI (gx xs (b+1)-gx xs b)) && !(decide ((gx xs (b+1)-gx xs b)*(gx xs (b+2)-gx xs (b+1))<0)&&decide (gI (gx xs (b+2)-gx xs (b+1))<=mo))
theorem DR{W n:Nat}{lp mo:Int}{h:D}{xs:List Int}{b:Nat}(hb:b<xs.length)(hx:∀x∈xs,0<=x/\x<100) :
  run T W (n+1) "Back.broken" [.sh (.ins "Back" ["leap","most"] [.int lp,.int mo]),.sh h,~~~xs,.sh (.int (b:Int))]=some (.ok (.ow (.lst (aH (dF (iN lp mo xs b))))),[.sh (.ins "Back" ["leap","most"] [.int lp,.int mo]),.sh h,~~~xs,.sh (.int (b:Int))]):=by
 rw[bY o6 rfl rfl];unfold gK
 match b,hb with
 | 0,hb =>
  have e:aH (dF (iN lp mo xs 0))=[]:=rfl;have c:decide (((0:Nat):Int)<2)=true:=rfl;clear hx hb
  walk_at "!eD eE % iP"
 | 1,hb =>
  have e:aH (dF (iN lp mo xs 1))=[]:=rfl;have c:decide (((1:Nat):Int)<2)=true:=rfl;clear hx hb
  walk_at "!eD eE % iP"
 |b+2,hb =>
  have c:decide (((b+2:Nat):Int)<2)=false:=Zm (by omega);have i1:((b+2:Nat):Int)-1=((b+1:Nat):Int):=by omega
  have i2:((b+2:Nat):Int)-2=((b:Nat):Int):=by omega
  have a0:=rG (xs:=xs) (k:=b) (by omega);have a1:=rG (xs:=xs) (k:=b+1) (by omega);have a2:=rG (xs:=xs) (k:=b+2) (by omega);have x0:=hx _ (uQ (xs:=xs) (k:=b) (by omega));have x1:=hx _ (uQ (xs:=xs) (k:=b+1) (by omega));have x2:=hx _ (uQ (xs:=xs) (k:=b+2) (by omega));have ev:iN lp mo xs (b+2)=(decide (lp<=gI (gx xs (b+1)-gx xs b)) && !(decide ((gx xs (b+1)-gx xs b)*(gx xs (b+2)-gx xs (b+1))<0)&&decide (gI (gx xs (b+2)-gx xs (b+1))<=mo))):=rfl
  generalize gx xs b=p0 at *
  generalize gx xs (b+1)=p1 at *
  generalize gx xs (b+2)=p2 at *
  have m1:-18446744073709551616<p1-p0:=by omega
  have m2:p1-p0<18446744073709551616:=by omega
  clear hx hb x0 x1 x2;by_cases c1:gI (p1-p0)<lp
  ·have c1':decide (gI (p1-p0)<lp)=true:=Zn c1;have c1'':decide (lp<=gI (p1-p0))=false:=Zm (by omega);have e:aH (dF (iN lp mo xs (b+2)))=[]:=by rw[ev,c1''];rfl
   clear ev c1
   walk_at "!eD eE % iP"
  ·have c1':decide (gI (p1-p0)<lp)=false:=Zm c1;have c1'':decide (lp<=gI (p1-p0))=true:=Zn (by omega);by_cases c2:(p1-p0)*(p2-p1)<0
   ·have c2':decide ((p1-p0)*(p2-p1)<0)=true:=Zn c2;by_cases c3:gI (p2-p1)<=mo
    ·have c3':decide (gI (p2-p1)<=mo)=true:=Zn c3;have e:aH (dF (iN lp mo xs (b+2)))=[]:=by rw[ev,c1'',c2',c3'];rfl
     clear ev c1 c2 c3
     walk_at "!eD eE % iP"
    ·have c3':decide (gI (p2-p1)<=mo)=false:=Zm c3;have e:aH (dF (iN lp mo xs (b+2)))=[.tup []]:=by rw[ev,c1'',c2',c3'];rfl
     clear ev c1 c2 c3
     walk_at "!eD eE % iP"
   ·have c2':decide ((p1-p0)*(p2-p1)<0)=false:=Zm c2;have e:aH (dF (iN lp mo xs (b+2)))=[.tup []]:=by rw[ev,c1'',c2'];rfl
    clear ev c1 c2
    walk_at "!eD eE % iP"
theorem B4{W n:Nat}{a b:D}:run T W (n+1) "rule_of" [.sh (.tup [.str "back",a,b])]=some (.ok (.sh (.ins "Back" ["leap","most"] [a,b])),[.sh (.tup [.str "back",a,b])]):=by
 rw[bY fA rfl rfl];unfold dB
 walk_at "!kI"
theorem zG{W n:Nat}{a b:D}:run T W (n+1) "rule_of" [.sh (.tup [.str "range",a,b])]=some (.ok (.sh (.ins "Range" ["low","high"] [a,b])),[.sh (.tup [.str "range",a,b])]):=by
 rw[bY fA rfl rfl];unfold dB
 walk_at "!kI"
def k8:D->D->Bool
 |.int i,.int j=>decide (i<j)
 |_,_=>false
def twoD(c:Bool)(a b:Int):List (List Int):=if c=true then [[a,b]] else []
theorem twoD_in{c:Bool}{a b:Int}{is:List Int}(h:is∈twoD c a b):is.length<=1000:=by
 cases c
 ·cases h
 ·rw[ze.mp h];simp
theorem twoD_len{c:Bool}{a b:Int}:(twoD c a b).length<=1000:=by cases c<;>simp[twoD]
noncomputable def qJ(fs:List (Int×Int×Bool))(xs:List Int)(b:Int)(v w:Nat):List (List Int):=twoD (k8 ((aU fs xs b).getD v .non) ((aU fs xs b).getD w .non)) (v:Int) (w:Int)
theorem CV{W n:Nat}{no ba oc:Int}{fs:List (Int×Int×Bool)}{rs:List D}{xs:List Int}{b:Int}{v w:Nat}(hv:v<fs.length+1)(hw:w<fs.length+1) :
  run T W (n+3) "Above.broken" [.sh (.ins "Above" ["one","other"] [.int (v:Int),.int (w:Int)]),.sh (aB no ba oc fs rs),~~~xs,.sh (.int b)]=some (.ok (.ow (.lst (aH (qJ fs xs b v w)))),[.sh (.ins "Above" ["one","other"] [.int (v:Int),.int (w:Int)]),.sh (aB no ba oc fs rs),~~~xs,.sh (.int b)]):=by
 rw[bY mJ rfl rfl];unfold f9;obtain⟨f,hf⟩:∃f,(cL fs)[v]?=some f:=⟨_,Zb (by simp;omega)⟩
 obtain⟨g,hg⟩:∃g,(cL fs)[w]?=some g:=⟨_,Zb (by simp;omega)⟩
 have h1:=qS (W:=W) (n:=n) (no:=no) (ba:=ba) (oc:=oc) (rs:=rs) (xs:=xs) (b:=b) (p:=true) hf;have h2:=qS (W:=W) (n:=n) (no:=no) (ba:=ba) (oc:=oc) (rs:=rs) (xs:=xs) (b:=b) (p:=true) hg;unfold qJ;rw[oB hf,oB hg];have k1:=lG (xs:=xs) (b:=b) (f:=f);have k2:=lG (xs:=xs) (b:=b) (f:=g)
 generalize dE xs b f=d1 at *
 generalize dE xs b g=d2 at *
 clear hf hg hv hw;rcases k1 with rfl | ⟨i,rfl⟩
 ·have e:aH (twoD (k8 .non d2) (v:Int) (w:Int))=[]:=rfl
  walk_at "!iA gA"
 ·rcases k2 with rfl | ⟨j,rfl⟩
  ·have e:aH (twoD (k8 (.int i) .non) (v:Int) (w:Int))=[]:=rfl
   walk_at "!iA gA"
  ·by_cases c:i<j
   ·have c':decide (j<=i)=false:=Zm (by omega)
    have e:aH (twoD (k8 (.int i) (.int j)) (v:Int) (w:Int))=[.tup [.int (v:Int),.int (w:Int)]]:=by(unfold k8;simp only;rw[Zn c];rfl)
    clear c
    walk_at "!iA gA"
   ·have c':decide (j<=i)=true:=Zn (by omega)
    have e:aH (twoD (k8 (.int i) (.int j)) (v:Int) (w:Int))=[]:=by(unfold k8;simp only;rw[Zm c];rfl)
    clear c
    walk_at "!iA gA"
theorem zL{W n:Nat}{a b:D}:run T W (n+1) "rule_of" [.sh (.tup [.str "above",a,b])]=some (.ok (.sh (.ins "Above" ["one","other"] [a,b])),[.sh (.tup [.str "above",a,b])]):=by
 rw[bY fA rfl rfl];unfold dB
 walk_at "!kI"
theorem K3{α β:Type}(L:List α)(d:α)(f:α->Bool)(g:α->β):((List.range L.length).filter λj=>f (L.getD j d)).map (λj=>g (L.getD j d))=(L.filter f).map g:=by
 have h:L=(List.range L.length).map λj=>L.getD j d:=by
  apply List.ext_getElem?
  intro i;rw[Zh];by_cases hi:i<L.length
  ·rw[List.getElem?_range hi,Zb hi];simp[hi]
  ·rw[List.getElem?_eq_none (by omega),List.getElem?_eq_none (by simp;omega)];rfl
 have h2:(L.filter f).map g=(((List.range L.length).map λj=>L.getD j d).filter f).map g:=congrArg (λl=>(l.filter f).map g) h;rw[h2,List.filter_map,List.map_map];rfl
theorem ON{n m v:Nat}{P Q:Nat->Nat->Bool}{R:List Int->Bool}(hR:∀w:Nat,R [(v:Int),(w:Int)]=Q v w):(eL m v P).filter R=eL m v λv w=>P v w&&Q v w:=by
 unfold eL;rw[List.filter_map,List.filter_filter];congr 1
 apply List.filter_congr
 intro j _;simp only[Function.comp,hR,Bool.and_comm]
theorem vS{n:Nat}{P Q:Nat->Nat->Bool}{R:List Int->Bool}(hR:∀v w:Nat,R [(v:Int),(w:Int)]=Q v w):(cY n P).filter R=cY n λv w=>P v w&&Q v w:=by
 unfold cY;rw[List.filter_flatMap];congr 1
 funext v
 exact ON (n:=n) (hR v)
def jP:D->Int
 |.int i=>i
 |_=>0
def eR(oc a b:Int):Int:=gI (a-b) % oc
theorem dQ{W n:Nat}{oc a b:Int}(ho:0<oc):run T W (n+1) "span" [.sh (.int oc),.sh (.int a),.sh (.int b)]=some (.ok (.sh (.int (eR oc a b))),[.sh (.int oc),.sh (.int a),.sh (.int b)]):=by
 rw[bY HS rfl rfl];unfold rQ eR
 walk_at "!iP"
def rM(sp s:Int):Bool:=decide (sp / 2 ^ s.toNat % 2=0)
theorem U9{sp s:Int}(h:0<=sp):decide (PySem.Builtin.bitAnd (sp / 2 ^ s.toNat) 1=0)=rM sp s:=by
 have hq:0<=sp / 2 ^ s.toNat:=Int.ediv_nonneg h (by exact Int.le_of_lt (Int.pow_pos (by decide)));unfold rM;rw[PyProof.Rows.bitAnd_pp hq (by decide)];have e1:(1:Int).toNat=1:=rfl;rw[e1,Nat.and_one_is_mod];have e2:(((sp / 2 ^ s.toNat).toNat % 2:Nat):Int)=sp / 2 ^ s.toNat % 2:=by omega
 rw[e2]
theorem CG{W n:Nat}{be sp s:Int}(h:0<=sp)(hs:0<=s):run T W (n+1) "Span.forbids" [.sh (.ins "Span" ["beat","spans"] [.int be,.int sp]),.sh (.int s)]=some (.ok (.sh (.bl (rM sp s))),[.sh (.ins "Span" ["beat","spans"] [.int be,.int sp]),.sh (.int s)]):=by
 rw[bY mS rfl rfl];unfold fX;have e:=U9 (s:=s) h
 walk_at "!eF dU iP"
noncomputable def E6(oc sp:Int)(hs:List D)(v w:Nat):Bool:=rM sp (eR oc (jP (hs.getD v .non)) (jP (hs.getD w .non)))
noncomputable def iE(oc sp:Int)(hs:List D):List Int->Bool
 |[v,w]=>rM sp (eR oc (jP (hs.getD v.toNat .non)) (jP (hs.getD w.toNat .non)))
 |_=>false
noncomputable def fE(be sp ba oc:Int)(fs:List (Int×Int×Bool))(xs:List Int)(b:Int):List (List Int):=if b % ba=be then cY (fs.length+1) (λv w=>d7 (aU fs xs b) v w&&E6 oc sp (aU fs xs b) v w) else []
theorem zA{n:Nat}{P:Nat->Nat->Bool}{is:List Int}(h:is∈cY n P):∃v w:Nat,is=[(v:Int),(w:Int)]/\v<n/\w<n/\v<w/\P v w=true:=by
 obtain⟨v,hv,h⟩:=List.mem_flatMap.mp h;have hv:=List.mem_range.mp hv;obtain⟨j,hj,rfl⟩:=List.mem_map.mp h;obtain⟨hj,hp⟩:=List.mem_filter.mp hj;have hj:=List.mem_range.mp hj;exact⟨v,v+1+j,rfl,hv,by omega,by omega,hp⟩
theorem DB{W n:Nat}{be sp no ba oc:Int}{fs:List (Int×Int×Bool)}{rs:List D}{xs:List Int}{b:Int}(hl:fs.length<=20)(hsp:0<=sp)(hba:0<ba)(hoc:0<oc) :
  run T W (n+4) "Span.broken" [.sh (.ins "Span" ["beat","spans"] [.int be,.int sp]),.sh (aB no ba oc fs rs),~~~xs,.sh (.int b)]=some (.ok (.ow (.lst (aH (fE be sp ba oc fs xs b)))),[.sh (.ins "Span" ["beat","spans"] [.int be,.int sp]),.sh (aB no ba oc fs rs),~~~xs,.sh (.int b)]):=by
 rw[bY oO rfl rfl];unfold gQ;have hx1:iU (some (aB no ba oc fs rs)) (.int 1)=some (.sh (.int ba)):=rfl;have hx2:iU (some (aB no ba oc fs rs)) (.int 2)=some (.sh (.int oc)):=rfl;by_cases c:b % ba=be
 ·have c':decide (b % ba=be)=true:=Zn c;have hc:run T W (n+3) "chord" _=some (.ok (.ow (.lst (aU fs xs b))),_):=jZ (W:=W) (n:=n) (no:=no) (ba:=ba) (oc:=oc) (fs:=fs) (rs:=rs) (xs:=xs) (b:=b) (by omega);have hhr:=pX (fs:=fs) (xs:=xs) (b:=b);have hln:=iI (fs:=fs) (xs:=xs) (b:=b);have hso:=oK (W:=W) (n:=n+2) hhr (by omega);rw[hln] at hso
  have hB:fE be sp ba oc fs xs b=(cY (fs.length+1) (d7 (aU fs xs b))).filter (iE oc sp (aU fs xs b)):=by(unfold fE;rw[Zo c,vS (Q:=E6 oc sp (aU fs xs b))];intro v w;rfl)
  generalize aU fs xs b=hs at *
  obtain⟨L,hL⟩:∃L,L=cY (fs.length+1) (d7 hs):=⟨_,rfl⟩
  have hLm:∀is∈L,∃v w:Nat,is=[(v:Int),(w:Int)]/\v<hs.length/\w<hs.length/\d7 hs v w=true:=λis his=>by(rw[hL] at his;obtain⟨v,w,h1,h2,h3,_,h4⟩:=zA his;exact⟨v,w,h1,by omega,by omega,h4⟩)
  have hLl:L.length<=1000:=by rw[hL];exact j0 (by omega)
  rw[<- hL] at hso hB;have gZ:aE .of [.val (.ow (.lst (aH L)))] [.sh (.ins "Span" ["beat","spans"] [.int be,.int sp]),.sh (aB no ba oc fs rs),~~~xs,.sh (.int b),.sh (.int oc),.ow (.lst hs) false false]=some (aH L,none):=zZ rfl
  obtain⟨ρi,e,t4,t5,rfl,ht4,ht5⟩:=C6 (tests:=cI T.pins (run T W (n+3)) [.meth 2 "forbids" eK [.call "span" [.var 1,.ix (.var 0) (.var 4),.ix (.var 0) (.var 5)]]]) (elt:=ev T.pins (run T W (n+3)) false iB) (bind:=aY false [4,5]) (ds:=aH L)
   (λj=>iE oc sp hs (L.getD j [])) (λj=>.tup ((L.getD j []).map D.int))
   (λρ=>∃(t4 t5:Sl),ρ=[.ow (.lst hs) true false,.sh (.int oc),.sh (.ins "Span" ["beat","spans"] [.int be,.int sp]),.un,t4,t5]/\bR t4=true/\bR t5=true)
   (λj d hd ρ hρ=>by
    obtain⟨t4,t5,rfl,ht4,ht5⟩:=hρ
    have hj:j<L.length:=by
     have:=(Zc.mp hd).1
     rwa[gJ] at this
    have hg:=Zb hj
    have hd2:d=.tup (L[j].map D.int):=by(unfold aH at hd;rw[Zh,hg] at hd;exact(Option.some.inj hd).symm)
    have hgd:L.getD j []=L[j]:=by rw[List.getD_eq_getElem?_getD,hg];rfl
    obtain⟨v,w,h1,hv,hw,hso⟩:=hLm L[j] (List.getElem_mem hj);rw[h1] at hd2 hgd;subst hd2;obtain⟨d1,a1,g1,k1⟩:=iJ hhr hv;obtain⟨d2,a2,g2,k2⟩:=iJ hhr hw;unfold d7 at hso;rw[g1,g2,ZB] at hso
    obtain⟨i1,rfl⟩:∃i,d1=.int i:=by
     rcases k1 with rfl | k1
     ·exact absurd hso.1 (by decide)
     ·exact k1
    obtain⟨i2,rfl⟩:∃i,d2=.int i:=by
     rcases k2 with rfl | k2
     ·exact absurd hso.2 (by decide)
     ·exact k2
    have hs0:0<=eR oc i1 i2:=Int.emod_nonneg _ (by omega);have hfb:=CG (W:=W) (n:=n+2) (be:=be) hsp hs0
    have hbad:iE oc sp hs [(v:Int),(w:Int)]=rM sp (eR oc i1 i2):=by(unfold iE;simp only[Int.toNat_natCast,g1,g2];rfl)
    refine⟨_,[.ow (.lst hs) true false,.sh (.int oc),.sh (.ins "Span" ["beat","spans"] [.int be,.int sp]),.un,.sh (.int (v:Int)),.sh (.int (w:Int))],by simp only[Zs,List.map_nil,hV,bD ht4,bD ht5]<;>rfl, ?_,λ_=>?_,λ_=>?_⟩
    ·simp only[hgd,hbad];clear hd hj hg hgd hbad h1 hv hw hso hLm hLl gZ hB hL hc hhr hln k1 k2 g1 g2 ht4 ht5 hl hsp hba c hs0
     walk_at "!eJ dQ eF dU"
    ·refine⟨.sh (.tup [.int (v:Int),.int (w:Int)]),[.ow (.lst hs) true false,.sh (.int oc),.sh (.ins "Span" ["beat","spans"] [.int be,.int sp]),.un,.sh (.int (v:Int)),.sh (.int (w:Int))], ?_,by rw[hgd];rfl,_,_,rfl,rfl,rfl⟩;unfold iB;clear hd hj hg hgd hbad h1 hv hw hso hLm hLl gZ hB hL hc hhr hln k1 k2 g1 g2 ht4 ht5 hl hsp hba c hs0 hfb a1 a2
     walk_at "!eJ dQ eF dU"
    ·exact⟨_,_,rfl,rfl,rfl⟩)
   [.ow (.lst hs) true false,.sh (.int oc),.sh (.ins "Span" ["beat","spans"] [.int be,.int sp]),.un,.un,.un] ⟨_,_,rfl,rfl,rfl⟩
  rw[gJ,K3 L [] (iE oc sp hs) (λis=>D.tup (is.map D.int))] at e;have hB2:(L.filter (iE oc sp hs)).map (λis=>D.tup (is.map D.int))=aH (fE be sp ba oc fs xs b):=by rw[hB];rfl
  rw[hB2] at e
  have hsm:aP (aH (fE be sp ba oc fs xs b)).length=true:=bQ (by
   rw[gJ,hB]
   have:=List.length_filter_le (iE oc sp hs) L
   omega)
  clear hl ht4 ht5 hB hB2 hLm hLl hL hhr hln hsp c
  walk_at "!eJ dQ eF dU"
  rw[i5 gZ]
  walk_at "!eJ dQ eF dU"
 ·have c':decide (b % ba=be)=false:=Zm c;have e:fE be sp ba oc fs xs b=[]:=Zp c;have e2:aH []=[]:=rfl;clear c hl
  walk_at "!eJ dQ eF dU"
theorem BW{W n:Nat}{a b:D}:run T W (n+1) "rule_of" [.sh (.tup [.str "span",a,b])]=some (.ok (.sh (.ins "Span" ["beat","spans"] [a,b])),[.sh (.tup [.str "span",a,b])]):=by
 rw[bY fA rfl rfl];unfold dB
 walk_at "!kI"
theorem OM{be sp ba oc:Int}{fs:List (Int×Int×Bool)}{xs:List Int}{b:Int}{is:List Int}(h:is∈fE be sp ba oc fs xs b):is.length<=1000:=by
 unfold fE at h;split at h
 ·exact x8 h
 ·cases h
theorem KG{be sp ba oc:Int}{fs:List (Int×Int×Bool)}{xs:List Int}{b:Int}(hl:fs.length<=20):(fE be sp ba oc fs xs b).length<=1000:=by
 unfold fE;split
 ·exact j0 (by omega)
 ·simp
theorem IB{body:Env->bS}{iv iw:Nat}(E:List D->Sl->Sl->Env)(R:List Int->Bool)(L:List (List Int))(hL:L.length<=1000)
  (hb:∀(a:List D) (t t2 d d2:_),bR t=true->bR t2=true->aY false [iv,iw] (.tup [d,d2]) (E a t t2)=some (E a (.sh d) (.sh d2)))
  (hp:∀is∈L,∃v w:Nat,is=[(v:Int),(w:Int)])
  (hs:∀(a:List (List Int)) (v w:Nat),[(v:Int),(w:Int)]∈L->a.length<=2000->body (E (aH a) (.sh (.int (v:Int))) (.sh (.int (w:Int))))=some (.nx,E (aH (a++(if R [(v:Int),(w:Int)]=true then [[(v:Int),(w:Int)]] else []))) (.sh (.int (v:Int))) (.sh (.int (w:Int))))) (t t2:Sl) (ht:bR t=true) (ht2:bR t2=true) :
  ∃t' t2',cF (aY false [iv,iw]) body (aH L) (E [] t t2)=some (.nx,E (aH (L.filter R)) t' t2')/\bR t'=true/\bR t2'=true:=by
 have key:∀(M:List (List Int)) (acc:List (List Int)) (t t2:Sl),(∀is∈M,is∈L)->acc.length+M.length<=2000->bR t=true->bR t2=true->∃t' t2',cF (aY false [iv,iw]) body (aH M) (E (aH acc) t t2)=some (.nx,E (aH (acc++M.filter R)) t' t2')/\bR t'=true/\bR t2'=true:=by
  intro M
  induction M with
  |nil=>intro acc t t2 _ _ h1 h2;exact⟨t,t2,by simp[aH,cF],h1,h2⟩
  |cons is M ih =>
   intro acc t t2 hM hl h1 h2;obtain⟨v,w,rfl⟩:=hp is (hM is (by simp));have e1:aH ([(v:Int),(w:Int)]::M)=.tup [.int (v:Int),.int (w:Int)]::aH M:=rfl;have hl':acc.length+M.length+1<=2000:=by simpa[Nat.add_assoc] using hl
   rw[e1];simp only[cF,hb _ _ _ _ _ h1 h2,hs acc v w (hM _ (by simp)) (by omega)]
   obtain⟨t',t2',e,h3,h4⟩:=ih (acc++(if R [(v:Int),(w:Int)]=true then [[(v:Int),(w:Int)]] else [])) (.sh (.int (v:Int))) (.sh (.int (w:Int))) (λis h=>hM is (Ze _ h)) (by
    rw[Za];split
    ·simp only[Zk,List.length_nil];omega
    ·simp only[List.length_nil];omega) rfl rfl
   refine⟨t',t2', ?_,h3,h4⟩;rw[e,List.filter_cons];by_cases q:R [(v:Int),(w:Int)]=true
   ·simp[q]
   ·simp[q]
 obtain⟨t',t2',e,h⟩:=key L [] t t2 (λ_ h=>h) (by simp;omega) ht ht2;exact⟨t',t2',by simpa[aH] using e,h⟩
def QI(x:PySem.Str):Prop:=x="like"\/x="against"\/x="aside"\/x="any"
noncomputable def uM(x:PySem.Str)(a b:Int):Bool:=if x==("like":PySem.Str) then decide (0<a*b) else if x==("against":PySem.Str) then decide (a*b<0) else if x==("aside":PySem.Str) then !(decide (a=0)==decide (b=0)) else true
theorem HB:((Str.ofString "against")==(Str.ofString "like"))=false:=by decide +kernel
theorem G8:((Str.ofString "aside")==(Str.ofString "like"))=false:=by decide +kernel
theorem HG:((Str.ofString "any")==(Str.ofString "like"))=false:=by decide +kernel
theorem GD:((Str.ofString "aside")==(Str.ofString "against"))=false:=by decide +kernel
theorem FT:((Str.ofString "any")==(Str.ofString "against"))=false:=by decide +kernel
theorem HH:((Str.ofString "any")==(Str.ofString "aside"))=false:=by decide +kernel
theorem FP:((Str.ofString "like")==(Str.ofString "any"))=false:=by decide +kernel
theorem GJ:((Str.ofString "like")==(Str.ofString "aside"))=false:=by decide +kernel
theorem GC:((Str.ofString "against")==(Str.ofString "any"))=false:=by decide +kernel
theorem z7:((Str.ofString "against")==(Str.ofString "aside"))=false:=by decide +kernel
theorem z0:((Str.ofString "aside")==(Str.ofString "any"))=false:=by decide +kernel
theorem JD{W n:Nat}{x:PySem.Str}{a b:Int}(hx:QI x)(h1:-18446744073709551616<a)(h2:a<18446744073709551616):run T W (n+1) "move_so" [.sh (.str x),.sh (.int a),.sh (.int b)]=some (.ok (.sh (.bl (uM x a b))),[.sh (.str x),.sh (.int a),.sh (.int b)]):=by
 rw[bY yZ rfl rfl];unfold jT uM;rcases hx with rfl | rfl | rfl | rfl
 ·walk_at "!HB G8 HG GD FT HH FP GJ GC z7 z0 &"
 ·walk_at "!HB G8 HG GD FT HH FP GJ GC z7 z0 &"
 ·walk_at "!HB G8 HG GD FT HH FP GJ GC z7 z0 &"
 ·walk_at "!HB G8 HG GD FT HH FP GJ GC z7 z0 &"
noncomputable def vB(one other oc:Int)(x:PySem.Str)(ah hs:List D)(v w:Nat):Bool :=
 decide (eR oc (jP (ah.getD v .non)) (jP (ah.getD w .non))=one)&&decide (eR oc (jP (hs.getD v .non)) (jP (hs.getD w .non))=other)&&uM x (jP (hs.getD v .non)-jP (ah.getD v .non)) (jP (hs.getD w .non)-jP (ah.getD w .non))
noncomputable def wA(one other oc:Int)(x:PySem.Str)(ah hs:List D):List Int->Bool
 |[v,w]=>vB one other oc x ah hs v.toNat w.toNat
 |_=>false
noncomputable def nC(one other oc:Int)(x:PySem.Str)(fs:List (Int×Int×Bool))(xs:List Int)(b:Int):List (List Int):=cY (fs.length+1) (λv w=>d7 (aU fs xs (b-1)) v w&&vB one other oc x (aU fs xs (b-1)) (aU fs xs b) v w)
structure HrOk(hs ah:List D):Prop where
 h1:LH hs
 h2:LH ah
 len:ah.length=hs.length
 bd:∀v i,hs.getD v .non=.int i->-100<=i/\i<=100
 bd2:∀v i,ah.getD v .non=.int i->-100<=i/\i<=100
 on:∀v,zB (ah.getD v .non)=false->zB (hs.getD v .non)=false
theorem vL{fs:List (Int×Int×Bool)}{xs:List Int}{b:Int}{v:Nat}:(∃f∈cL fs,∀b:Int,(aU fs xs b).getD v .non=dE xs b f)\/∀b:Int,(aU fs xs b).getD v .non=.non:=by
 cases h:(cL fs)[v]? with
 |some f=>exact .inl ⟨f,zj h,λb=>oB h⟩
 |none =>
  refine .inr λb=>?_
  unfold aU;rw[List.getD_eq_getElem?_getD,Zh,h];rfl
theorem aC2{no ba oc:Int}{fs:List (Int×Int×Bool)}{xs:List Int}{b:Nat}(ho:HouseOk no ba oc fs)(hxs:∀x∈xs,0<=x/\x<no)(hb:b<xs.length):HrOk (aU fs xs (b:Int)) (aU fs xs ((b:Int)-1)):=by
 have n2:=ho.n2
 have hv:∀f∈cL fs,0<=f.1/\-12<=f.2.1/\f.2.1<=12:=λf hf=>by
  rcases List.mem_cons.mp hf with rfl | hf
  ·decide
  ·have:=ho.f f hf
   omega
 have bd:∀(c:Int) v i,(aU fs xs c).getD v .non=.int i->-100<=i/\i<=100:=λc v i h=>by
  rcases vL (fs:=fs) (xs:=xs) (b:=c) (v:=v) with ⟨f,hf,e⟩ | e
  ·rw[e c] at h;unfold dE at h;split at h
   ·rename_i hc;have h:=D.int.inj h
    have hx:xs.getD (c-f.1).toNat 0∈xs:=by
     have hlt:(c-f.1).toNat<xs.length:=by omega
     exact uQ (k:=(c-f.1).toNat) hlt
    have:=hxs _ hx
    have:=hv f hf
    split at h<;>omega
   ·cases h
  ·rw[e c] at h;cases h
 refine⟨pX,pX,by rw[iI,iI],bd _,bd _,λv h=>?_⟩;rcases vL (fs:=fs) (xs:=xs) (b:=(b:Int)) (v:=v) with ⟨f,hf,e⟩ | e
 ·rw[e] at h ⊢;unfold dE at h ⊢;split at h
  ·rename_i hc
   have:=hv f hf
   rw[Zo (by omega)];rfl
  ·cases h
 ·rw[e] at h;cases h
theorem SE{hs ah:List D}(H:HrOk hs ah){v w:Nat}(hv:v<hs.length)(hw:w<hs.length)(h:d7 ah v w=true):∃i1 i2 j1 j2:Int,L2.cG ah (v:Int)=some (.int i1)/\L2.cG ah (w:Int)=some (.int i2)/\L2.cG hs (v:Int)=some (.int j1)/\L2.cG hs (w:Int)=some (.int j2)/\ah.getD v .non=.int i1/\ah.getD w .non=.int i2/\hs.getD v .non=.int j1/\hs.getD w .non=.int j2/\(-100<=i1/\i1<=100)/\(-100<=j1/\j1<=100):=by
 unfold d7 at h;rw[ZB] at h;obtain⟨d1,a1,g1,k1⟩:=iJ H.h2 (v:=v) (by rw[H.len];exact hv);obtain⟨d2,a2,g2,k2⟩:=iJ H.h2 (v:=w) (by rw[H.len];exact hw);obtain⟨d3,a3,g3,k3⟩:=iJ H.h1 hv;obtain⟨d4,a4,g4,k4⟩:=iJ H.h1 hw;have o1:=H.on v (by simpa using h.1);have o2:=H.on w (by simpa using h.2);rw[g1,g2] at h;rw[g3] at o1;rw[g4] at o2;rcases k1 with rfl | ⟨i1,rfl⟩
 ·exact absurd h.1 (by decide)
 rcases k2 with rfl | ⟨i2,rfl⟩
 ·exact absurd h.2 (by decide)
 rcases k3 with rfl | ⟨j1,rfl⟩
 ·exact absurd o1 (by decide)
 rcases k4 with rfl | ⟨j2,rfl⟩
 ·exact absurd o2 (by decide)
 exact⟨i1,i2,j1,j2,a1,a2,a3,a4,g1,g2,g3,g4,H.bd2 v i1 g1,H.bd v j1 g3⟩
theorem B8{W n:Nat}{one other no ba oc:Int}{x:PySem.Str}{fs:List (Int×Int×Bool)}{rs:List D}{xs:List Int}{b:Int}(hl:fs.length<=20)(hoc:0<oc)(hx:QI x)(H:HrOk (aU fs xs b) (aU fs xs (b-1))) :
  run T W (n+4) "Never.broken" [.sh (.ins "Never" ["one","other","way"] [.int one,.int other,.str x]),.sh (aB no ba oc fs rs),~~~xs,.sh (.int b)]=some (.ok (.ow (.lst (aH (nC one other oc x fs xs b)))),[.sh (.ins "Never" ["one","other","way"] [.int one,.int other,.str x]),.sh (aB no ba oc fs rs),~~~xs,.sh (.int b)]):=by
 rw[bY mO rfl rfl];unfold f7;have hx2:iU (some (aB no ba oc fs rs)) (.int 2)=some (.sh (.int oc)):=rfl;have hc1:run T W (n+3) "chord" _=some (.ok (.ow (.lst (aU fs xs (b-1)))),_):=jZ (W:=W) (n:=n) (no:=no) (ba:=ba) (oc:=oc) (fs:=fs) (rs:=rs) (xs:=xs) (b:=b-1) (by omega);have hc2:run T W (n+3) "chord" _=some (.ok (.ow (.lst (aU fs xs b))),_):=jZ (W:=W) (n:=n) (no:=no) (ba:=ba) (oc:=oc) (fs:=fs) (rs:=rs) (xs:=xs) (b:=b) (by omega);have hln:=iI (fs:=fs) (xs:=xs) (b:=b-1);have hln2:=iI (fs:=fs) (xs:=xs) (b:=b);have hso:=oK (W:=W) (n:=n+2) H.h2 (by omega);rw[hln] at hso
 have hB:nC one other oc x fs xs b=(cY (fs.length+1) (d7 (aU fs xs (b-1)))).filter (wA one other oc x (aU fs xs (b-1)) (aU fs xs b)):=by(unfold nC;rw[vS (Q:=vB one other oc x (aU fs xs (b-1)) (aU fs xs b))];intro v w;rfl)
 generalize aU fs xs b=hs at *
 generalize aU fs xs (b-1)=ah at *
 obtain⟨L,hL⟩:∃L,L=cY (fs.length+1) (d7 ah):=⟨_,rfl⟩
 have hLm:∀is∈L,∃v w:Nat,is=[(v:Int),(w:Int)]/\v<hs.length/\w<hs.length/\d7 ah v w=true:=λis his=>by(rw[hL] at his;obtain⟨v,w,h1,h2,h3,_,h4⟩:=zA his;exact⟨v,w,h1,by omega,by omega,h4⟩)
 have hLl:L.length<=1000:=by rw[hL];exact j0 (by omega)
 rw[<- hL] at hso hB;have gZ:aE .of [.val (.ow (.lst (aH L)))] [.sh (.ins "Never" ["one","other","way"] [.int one,.int other,.str x]),.sh (aB no ba oc fs rs),~~~xs,.sh (.int b),.sh (.int oc),.ow (.lst ah) false false,.ow (.lst hs) false false,.ow (.lst []) false false,.un,.un]=some (aH L,none):=zZ rfl
 obtain⟨t8,t9,e,h8,h9⟩:=IB (iv:=8) (iw:=9) (body:=exs T.pins (run T W (n+3)) W gU) (λa t t2=>[.sh (.ins "Never" ["one","other","way"] [.int one,.int other,.str x]),.sh (aB no ba oc fs rs),~~~xs,.sh (.int b),.sh (.int oc),.ow (.lst ah) false false,.ow (.lst hs) false false,.ow (.lst a) false false,t,t2]) (wA one other oc x ah hs) L hLl
  (λa t t2 d d2 ht ht2=>by simp only[hV,bD ht,bD ht2])
  (λis his=>by obtain⟨v,w,h,_⟩:=hLm is his;exact⟨v,w,h⟩)
  (λa v w hm hal=>by
   obtain⟨v',w',h1,hv,hw,hso2⟩:=hLm _ hm;have hvv:v'=v:=by have:=(List.cons.inj h1).1;omega
   have hww:w'=w:=by have:=(List.cons.inj (List.cons.inj h1).2).1;omega
   subst hvv hww;obtain⟨i1,i2,j1,j2,a1,a2,a3,a4,g1,g2,g3,g4,q1,q2⟩:=SE H hv hw hso2;have hsm:aP ((aH a).length+1)=true:=bQ (by rw[gJ];omega);have et:aH (a++[[(v':Int),(w':Int)]])=aH a++[.tup [.int (v':Int),.int (w':Int)]]:=by rw[zC];rfl
   have en:wA one other oc x ah hs [(v':Int),(w':Int)]=(decide (eR oc i1 i2=one)&&decide (eR oc j1 j2=other)&&uM x (j1-i1) (j2-i2)):=by(unfold wA vB;simp only[Int.toNat_natCast,g1,g2,g3,g4];rfl)
   have hmv:=JD (W:=W) (n:=n+2) (a:=j1-i1) (b:=j2-i2) hx (by omega) (by omega);rw[en];unfold gU;clear h1 hv hw hso2 hm hal hLm hLl gZ hB hL hso hc1 hc2 hln hln2 H g1 g2 g3 g4 q1 q2 hl en hx;by_cases c1:eR oc i1 i2=one
   ·have c1':decide (eR oc i1 i2=one)=true:=Zn c1;by_cases c2:eR oc j1 j2=other
    ·have c2':decide (eR oc j1 j2=other)=true:=Zn c2;rw[c1',c2',Bool.true_and,Bool.true_and]
     generalize uM x (j1-i1) (j2-i2)=q at *
     clear c1 c2;cases q
     ·walk_at "!fO eG fP dQ"
      all_goals (try simp only[List.append_nil])
     ·walk_at "!fO eG fP dQ"
    ·have c2':decide (eR oc j1 j2=other)=false:=Zm c2;rw[c1',c2',Bool.true_and,Bool.false_and];clear c1 c2
     walk_at "!fO eG fP dQ"
     all_goals (try simp only[List.append_nil])
   ·have c1':decide (eR oc i1 i2=one)=false:=Zm c1;rw[c1',Bool.false_and,Bool.false_and];clear c1
    walk_at "!fO eG fP dQ"
    all_goals (try simp only[List.append_nil])) .un .un rfl rfl
 rw[hB];clear hl h8 h9 hB hLm hLl hL hln hln2 H hx
 walk_at "!fO eG fP dQ"
theorem zQ{W n:Nat}{a b c:D}:run T W (n+1) "rule_of" [.sh (.tup [.str "never",a,b,c])]=some (.ok (.sh (.ins "Never" ["one","other","way"] [a,b,c])),[.sh (.tup [.str "never",a,b,c])]):=by
 rw[bY fA rfl rfl];unfold dB
 walk_at "!kI"
def yT(br:List Int->Nat->List (List Int)):Prop:=∀(xs ys:List Int) (b:Nat),b<xs.length->br (xs++ys) b=br xs b
theorem k5{xs ys:List Int}{i:Nat}(h:i<xs.length):gx (xs++ys) i=gx xs i:=by
 unfold gx;rw[List.getD_eq_getElem?_getD,List.getD_eq_getElem?_getD,List.getElem?_append_left h]
theorem O0{xs ys:List Int}{b:Int}{f:Int×Int×Bool}(hf:0<=f.1)(hb:b<xs.length):dE (xs++ys) b f=dE xs b f:=by
 unfold dE;by_cases h:0<=b-f.1/\b-f.1<(xs.length:Int)
 ·rw[Zo ⟨h.1,by rw[Za];omega⟩,Zo h]
  have:=k5 (xs:=xs) (ys:=ys) (i:=(b-f.1).toNat) (by omega)
  unfold gx at this;rw[this]
 ·rw[Zp (λz=>h ⟨z.1,by omega⟩),Zp h]
theorem jI{xs ys:List Int}{b:Int}{fs:List (Int×Int×Bool)}(hf:∀f∈cL fs,0<=f.1)(hb:b<xs.length):aU fs (xs++ys) b=aU fs xs b:=by
 unfold aU;exact List.map_congr_left λf hm=>O0 (hf f hm) hb
section
variable{fs:List (Int×Int×Bool)}(hf:∀f∈cL fs,0<=f.1)
include hf
theorem NH{be sp ba oc:Int}:yT λxs b=>fE be sp ba oc fs xs (b:Int):=λxs ys b hb=>by
 simp only[fE,jI hf (Int.ofNat_lt.mpr hb)]
theorem LU{lo hi:Int}:yT λxs b=>lB lo hi fs xs (b:Int):=λxs ys b hb=>by
 simp only[lB,jI hf (Int.ofNat_lt.mpr hb)]
theorem JV{v w:Nat}:yT λxs b=>qJ fs xs (b:Int) v w:=λxs ys b hb=>by
 simp only[qJ,jI hf (Int.ofNat_lt.mpr hb)]
theorem KC{one other oc:Int}{x:PySem.Str}:yT λxs b=>nC one other oc x fs xs (b:Int):=λxs ys b hb=>by
 simp only[nC,jI hf (Int.ofNat_lt.mpr hb),jI hf (show(b:Int)-1<xs.length by omega)]
end
theorem N5{mo:Int}:yT λxs b=>dF (lH mo xs b):=λxs ys b hb=>by
 cases b with
 |zero=>rfl
 |succ b=>simp only[lH,k5 hb,k5 (show b<xs.length by omega)]
theorem ND{lp mo:Int}:yT λxs b=>dF (iN lp mo xs b):=λxs ys b hb=>by
 match b,hb with
 | 0,_=>rfl
 | 1,_=>rfl
 |b+2,hb=>simp only[iN,k5 hb,k5 (show b+1<xs.length by omega),k5 (show b<xs.length by omega)]
theorem IL{k:Nat}:yT λxs b=>dF (fN k xs b):=λxs ys b hb=>by
 have e:k<=b->nW k (xs++ys) b=nW k xs b:=λh=>by(unfold nW;rw[List.drop_append_of_le_length (by omega),List.take_append_of_le_length (by rw[List.length_drop];omega)])
 have e2:fN k (xs++ys) b=fN k xs b:=by
  unfold fN;rw[k5 hb];by_cases h:k<=b
  ·rw[e h]
  ·rw[Zm (by omega),Bool.false_and,Bool.false_and]
 show dF _=dF _;rw[e2]
abbrev uU(a c:List Int):Prop:=HT.bT c a=false
theorem fK{x y:Int}{a c:List Int}(h:x<y\/x=y/\uU a c):uU (x::a) (y::c):=by
 show HT.bT (y::c) (x::a)=false;rw[HT.dO];rcases h with h | ⟨rfl,h⟩
 ·rw[Zp (by omega)];exact Zm (by omega)
 ·rw[Zo rfl];exact h
theorem tI{c:Bool}:(dF c).Pairwise uU:=by
 cases c
 ·exact .nil
 ·exact List.pairwise_singleton _ _
theorem M0{c:Bool}{a b:Int}:(twoD c a b).Pairwise uU:=by
 cases c
 ·exact .nil
 ·exact List.pairwise_singleton _ _
theorem NF{n:Nat}{sel:Nat->Bool}:(nT n sel).Pairwise uU:=by
 unfold nT;refine List.pairwise_map.mpr ((List.pairwise_lt_range.filter sel).imp λ{a b} h=>fK (.inl (by omega)))
theorem vF{n:Nat}{P:Nat->Nat->Bool}:(cY n P).Pairwise uU:=by
 unfold cY;refine List.pairwise_flatMap.mpr ⟨λv _=>?_,List.pairwise_lt_range.imp λ{a b} h x hx y hy=>?_⟩
 ·unfold eL;exact List.pairwise_map.mpr ((List.pairwise_lt_range.filter _).imp λ{a b} h=>fK (.inr ⟨rfl,fK (.inl (by omega))⟩))
 ·obtain⟨j,_,rfl⟩:=List.mem_map.mp hx;obtain⟨k,_,rfl⟩:=List.mem_map.mp hy;exact fK (.inl (by omega))
theorem KW{be sp ba oc:Int}{fs:List (Int×Int×Bool)}{xs:List Int}{b:Int}:(fE be sp ba oc fs xs b).Pairwise uU:=by
 unfold fE;split
 ·exact vF
 ·exact .nil
abbrev Br:=List Int->Nat->List (List Int)
abbrev RP:=D×D×Br
noncomputable def GF(o h:D)(xs:List Int)(b:Nat):List Sl:=[.sh o,.sh h,~~~xs,.sh (.int (b:Int))]
structure RX(no ba oc:Int)(fs:List (Int×Int×Bool))(rs:List D)(m:Nat)(p:RP):Prop where
 ob:∃c ns ds f q,p.2.1=.ins c ns ds/\eQ c ns "broken" dI=some f/\T.pins f=[true,true,true,q] /\
  ∀(W n:Nat) (xs:List Int) (b:Nat),b<xs.length->(∀x∈xs,0<=x/\x<no)->run T W (n+4) f (GF (.ins c ns ds) (aB no ba oc fs rs) xs b)=some (.ok (.ow (.lst (aH (p.2.2 xs b)))),GF (.ins c ns ds) (aB no ba oc fs rs) xs b)
 ru:∀(W n:Nat),run T W (n+1) "rule_of" [.sh p.1]=some (.ok (.sh p.2.1),[.sh p.1])
 inn:∀xs b is,is∈p.2.2 xs b->is.length<=1000
 len:∀xs b,(p.2.2 xs b).length<=1000
 pre:yT p.2.2
 srt:∀xs b,(p.2.2 xs b).Pairwise uU
theorem aBG{no ba oc:Int}{fs:List (Int×Int×Bool)}{d:D}(ho:HouseOk no ba oc fs)(h:RuleD no ba oc (fs.length:Int) d):∃o br,∀(rs:List D) (m:Nat),RX no ba oc fs rs m (d,o,br):=by
 have l2:=ho.l2;have o1:=ho.o1;have o2:=ho.o2;have b1:=ho.b1;have n2:=ho.n2
 have h0:∀f∈cL fs,0<=f.1:=λf hf=>by
  rcases List.mem_cons.mp hf with rfl | hf
  ·decide
  ·exact(ho.f f hf).1
 have l20:fs.length<=20:=by omega
 have l9:fs.length<=900:=by omega
 cases h with
 |span a b h1 h2 h3' h4 =>
  exact⟨_,λxs b'=>fE a b ba oc fs xs (b':Int),λrs m=>⟨⟨_,_,_,_,true,rfl,wK,zH,λW n xs b' _ _=>DB l20 h3' (by omega) (by omega)⟩,λW n=>BW,λxs b is h=>OM h,λxs b'=>KG l20,NH h0,λxs b=>KW⟩⟩
 |leap a h1 h2 =>
  exact⟨_,λxs b'=>dF (lH a xs b'),λrs m=>⟨⟨_,_,_,_,false,rfl,xQ,zR,λW n xs b' hb _=>C8 (n:=n+3) hb⟩,λW n=>BU,λxs b is h=>xW h,λxs b'=>tZ,N5,λxs b=>tI⟩⟩
 |back a b h1 h2 h3' h4 =>
  exact⟨_,λxs b'=>dF (iN a b xs b'),λrs m=>⟨⟨_,_,_,_,false,rfl,wW,zF,λW n xs b' hb hx=>DR (n:=n+3) hb λx hm'=>⟨(hx x hm').1,by have:=(hx x hm').2;omega⟩⟩,λW n=>B4,λxs b is h=>xW h,λxs b'=>tZ,ND,λxs b=>tI⟩⟩
 |again a h1 h2 =>
  obtain⟨k,rfl⟩:∃k:Nat,a=(k:Int):=⟨a.toNat,by omega⟩
  exact⟨_,λxs b'=>dF (fN k xs b'),λrs m=>⟨⟨_,_,_,_,false,rfl,vJ,wQ,λW n xs b' hb _=>BJ (n:=n+3) hb (by omega)⟩,λW n=>zP,λxs b is h=>xW h,λxs b'=>tZ,IL,λxs b=>tI⟩⟩
 |range a b h1 h2 h3' =>
  exact⟨_,λxs b'=>lB a b fs xs (b':Int),λrs m=>⟨⟨_,_,_,_,true,rfl,vY,xP,λW n xs b' _ _=>BZ l9⟩,λW n=>zG,λxs b is h=>SR h,λxs b'=>CO (by omega),LU h0,λxs b=>NF⟩⟩
 |above v w h1 h2 h3' =>
  exact⟨_,λxs b'=>qJ fs xs (b':Int) v w,λrs m=>⟨⟨_,_,_,_,true,rfl,v9,wO,λW n xs b' _ _=>CV (n:=n+1) (by omega) (by omega)⟩,λW n=>zL,λxs b is h=>twoD_in h,λxs b'=>twoD_len,JV h0,λxs b=>M0⟩⟩
 |never a b x h1 h2 h3' h4 h5 =>
  exact⟨_,λxs b'=>nC a b oc x fs xs (b':Int),λrs m=>⟨⟨_,_,_,_,true,rfl,uL,wX,λW n xs b' hb hx=>B8 l20 (by omega) h5 (aC2 ho hx hb)⟩,λW n=>zQ,λxs b is h=>x8 h,λxs b'=>j0 (by omega),KC h0,λxs b=>vF⟩⟩
theorem IJ{no ba oc:Int}{fs:List (Int×Int×Bool)}(ho:HouseOk no ba oc fs):∀ds:List D,(∀d∈ds,RuleD no ba oc (fs.length:Int) d)->∃ps:List RP,ps.map (·.1)=ds/\∀(rs:List D) (m:Nat),∀p∈ps,RX no ba oc fs rs m p
 |[],_=>⟨[],rfl,λ_ _ _ z=>nomatch z⟩
 |d::ds,h=>by
  obtain⟨ps,h1,h2⟩:=IJ ho ds λd' hd=>h d' (Ze _ hd)
  obtain⟨o,br,hx⟩:=aBG ho (h d zh);refine⟨(d,o,br)::ps,by rw[Zs,h1],λrs m p hp=>?_⟩;rcases List.mem_cons.mp hp with rfl | hp
  ·exact hx rs m
  ·exact h2 rs m p hp
theorem aBh{ρ:Env}{i:Nat}{lo:Int}{ds:List D}{p l:Bool}(h:ρ[i]?=some (.ow (.lst ds) p l)):aE (.enum lo) [.slot i] ρ=some (cW lo ds,some i):=by simp only[aE,h]
section
variable{no ba oc:Int}{fs:List (Int×Int×Bool)}{rs:List D}{m:Nat}{ps:List RP}
theorem uE{W n:Nat}(hrs:ps.map (·.1)=rs)(hp:∀p∈ps,RX no ba oc fs rs m p)(hl:rs.length<=8):run T W (n+2) "rules_of" [.sh (aB no ba oc fs rs)]=some (.ok (.ow (.lst (ps.map (·.2.1)))),[.sh (aB no ba oc fs rs)]):=by
 rw[bY vO rfl rfl];unfold jB;have hl':ps.length<=8:=by rw[<- hrs,List.length_map] at hl;exact hl
 have hi:aE .of [.val (.sh (.tup rs))] [.sh (aB no ba oc fs rs)]=some (rs,none):=aCY rfl;have hix:iU (some (aB no ba oc fs rs)) (.int 4)=some (.sh (.tup rs)):=rfl
 obtain⟨acc,ρi,e,⟨t1,rfl,ht1,rfl⟩,_⟩:=gE (tests:=cI T.pins (run T W (n+1)) []) (elt:=ev T.pins (run T W (n+1)) false jL) (bind:=aY true [1]) (ds:=rs)
  (λj acc ρ=>∃(t1:Sl),ρ=[.un,t1]/\bR t1=true/\acc=(ps.take j).map (·.2.1))
  (λj d hd acc ρ hρ=>by
   obtain⟨t1,rfl,ht1,rfl⟩:=hρ
   obtain⟨p,hpj,rfl⟩:∃p,ps[j]?=some p/\p.1=d:=by
    rw[<- hrs,Zh] at hd
    cases q:ps[j]? with
    |none=>rw[q] at hd;cases hd
    |some p=>rw[q] at hd;exact⟨p,rfl,Option.some.inj hd⟩
   have hw:=(hp p (zj hpj)).ru W n;refine⟨_,true,_,by simp only[hV,bD ht1]<;>rfl,iG,λ_=>?_,λz=>nomatch z⟩;refine⟨.sh p.2.1,[.un,.sh p.1], ?_,_,rfl,rfl,by rw[List.take_succ,hpj,zd];rfl⟩;unfold jL;clear hd hpj hp hi hix ht1 hrs hl hl'
   walk_at "!")
  [] [.un,.un] ⟨_,rfl,rfl,rfl⟩
 rw[show rs.length=ps.length by rw[<- hrs,List.length_map],List.take_length] at e;have hsm:aP (ps.map (·.2.1)).length=true:=bQ (by simp;omega);clear hp hrs hl hl' ht1
 walk_at "!"
 rw[i5 hi]
 walk_at "!"
 all_goals (rw[HP rfl];walk_at "!")
def HU(ps:List RP)(xs:List Int)(b:Nat):Nat:=(ps.map λp=>(p.2.2 xs b).length).sum
theorem BS{xs:List Int}{b:Nat}:∀(ps:List RP),(∀p∈ps,(p.2.2 xs b).length<=1000)->HU ps xs b<=1000*ps.length
 |[],_=>by simp[HU]
 |p::ps,h=>by
  have h1:=h p zh;have h2:=BS ps λq hq=>h q (Ze _ hq)
  unfold HU at h2 ⊢;rw[Zs,List.sum_cons,Zk];omega
noncomputable def kS(xs:List Int)(b:Nat)(i:Nat)(p:RP):List D:=(aH (p.2.2 xs b)).map λd=>.tup [.int (b:Int),.int (i:Int),d]
noncomputable def cR(xs:List Int)(b:Nat):Nat->List RP->List D
 |_,[]=>[]
 |i,p::ps=>kS xs b i p++cR xs b (i+1) ps
theorem EO{xs:List Int}{b:Nat}{q:RP}:∀(ps:List RP) (i:Nat),cR xs b i (ps++[q])=cR xs b i ps++kS xs b (i+ps.length) q
 |[],i=>by simp[cR]
 |p::ps,i=>by(rw[List.cons_append,cR,EO ps (i+1),cR,List.append_assoc,Zk,show i+1+ps.length=i+(ps.length+1) by omega])
theorem xE{xs:List Int}{b:Nat}:∀(ps:List RP) (i:Nat),(cR xs b i ps).length=HU ps xs b
 |[],i=>rfl
 |p::ps,i=>by(rw[cR,Za,xE ps];unfold HU kS;rw[List.length_map,gJ,Zs,List.sum_cons])
theorem sP{W n:Nat}{xs:List Int}{b:Nat}(hp:∀p∈ps,RX no ba oc fs rs m p)(hl:ps.length<=8)(hb:b<xs.length)(hx:∀x∈xs,0<=x/\x<no) :
  run T W (n+5) "breaks_at" [.sh (aB no ba oc fs rs),.ow (.lst (ps.map (·.2.1))) true false,~~~xs,.sh (.int (b:Int))]=some (.ok (.ow (.lst (cR xs b 0 ps))),[.sh (aB no ba oc fs rs),.ow (.lst (ps.map (·.2.1))) true false,~~~xs,.sh (.int (b:Int))]):=by
 rw[bY sU rfl rfl];unfold iM;have hi:aE (.enum 0) [.slot 1] [.sh (aB no ba oc fs rs),.ow (.lst (ps.map (·.2.1))) true false,~~~xs,.sh (.int (b:Int)),.ow (.lst []) false false,.un,.un,.un]=some (cW 0 (ps.map (·.2.1)),some 1):=aBh rfl
 obtain⟨ρ1,e1,t5,t6,t7,rfl,h5,h6,h7⟩:=dA (bind:=aY false [5,6]) (body:=exs T.pins (run T W (n+4)) W iX)
  (λpre ρ=>∃(t5 t6 t7:Sl),ρ=[.sh (aB no ba oc fs rs),.un,~~~xs,.sh (.int (b:Int)),.ow (.lst (cR xs b 0 (ps.take pre.length))) false false,t5,t6,t7]/\bR t5=true/\bR t6=true/\bR t7=true)
  (ds:=cW 0 (ps.map (·.2.1))) (λpre d post hds ρ hρ=>by
   obtain⟨t5,t6,t7,rfl,h5,h6,h7⟩:=hρ
   have hlen:pre.length<ps.length:=by
    have:=congrArg List.length hds
    rw[fB,List.length_map,Za,Zk] at this;omega
   obtain⟨p,hpj⟩:∃p,ps[pre.length]?=some p:=⟨_,Zb hlen⟩
   have hd:d=.tup [.int (pre.length:Int),p.2.1]:=by(have q:=lI (lo:=0) (ds:=ps.map (·.2.1)) (i:=pre.length) (d:=p.2.1) (by rw[Zh,hpj];rfl);rw[hds,List.getElem?_append_right (Zq _),Nat.sub_self,Int.zero_add] at q;exact Option.some.inj q)
   subst hd;refine⟨_,by simp only[hV,bD h5,bD h6]<;>rfl, ?_⟩;have hrx:=hp p (zj hpj);have hlen1:=hrx.len xs b;have hbr:=BS (xs:=xs) (b:=b) (ps.take pre.length) λq hq=>(hp q (List.mem_of_mem_take hq)).len xs b
   rw[<- xE _ 0,List.length_take] at hbr
   have hN:cR xs b 0 (ps.take (pre++[D.tup [D.int (pre.length:Int),p.2.1]]).length)=cR xs b 0 (ps.take pre.length)++(aH (p.2.2 xs b)).map λd=>.tup [.int (b:Int),.int (pre.length:Int),d]:=by
    rw[Za,Zk,List.length_nil,List.take_succ,hpj]
    have:=EO (xs:=xs) (b:=b) (q:=p) (ps.take pre.length) 0
    rw[List.length_take,Nat.min_eq_left (Nat.le_of_lt hlen),Nat.zero_add] at this;exact this
   rw[hN];obtain⟨c,ns,ds,f,q,ho,hmt,hpi,hrun⟩:=hrx.ob;have hr:=hrun W n xs b hb hx;unfold GF at hr;rw[ho]
   generalize p.2.2 xs b=Z at *
   generalize cR xs b 0 (ps.take pre.length)=L at *
   generalize (pre.length:Int)=pl at *
   have gZ:aE .of [.val (.ow (.lst (aH Z)))] [.sh (aB no ba oc fs rs),.un,~~~xs,.sh (.int (b:Int)),.ow (.lst L) false false,.sh (.int pl),.sh (.ins c ns ds),t7]=some (aH Z,none):=zZ rfl
   obtain⟨ρ2,e2,t7',rfl,h7'⟩:=dA (bind:=aY true [7]) (body:=exs T.pins (run T W (n+4)) W i6)
    (λpr ρ=>∃(t7:Sl),ρ=[.sh (aB no ba oc fs rs),.un,~~~xs,.sh (.int (b:Int)),.ow (.lst (L++pr.map λd=>D.tup [.int (b:Int),.int pl,d])) false false,.sh (.int pl),.sh (.ins c ns ds),t7]/\bR t7=true)
    (ds:=aH Z) (λpr d po hd' ρ hρ=>by
     obtain⟨t7,rfl,h7⟩:=hρ;refine⟨_,by simp only[hV,bD h7]<;>rfl, ?_⟩
     have hz:pr.length<=1000:=by
      have:=congrArg List.length hd'
      rw[gJ,Za] at this;omega
     rw[zd,<- List.append_assoc];have hsm:aP ((L++pr.map λd=>D.tup [.int (b:Int),.int pl,d]).length+1)=true:=bQ (by rw[Za,List.length_map];omega)
     generalize (L++pr.map λd=>D.tup [.int (b:Int),.int pl,d])=L2 at *
     refine⟨[.sh (aB no ba oc fs rs),.un,~~~xs,.sh (.int (b:Int)),.ow (.lst (L2++[.tup [.int (b:Int),.int pl,d]])) false false,.sh (.int pl),.sh (.ins c ns ds),.sh d], ?_,_,rfl,rfl⟩;unfold i6;clear hp hl hb hx hi hlen hpj hrx hlen1 hbr hN ho hmt hpi hrun hr gZ hd' hz h5 h6 h7 hds
     walk_at "!")
    (ρ:=[.sh (aB no ba oc fs rs),.un,~~~xs,.sh (.int (b:Int)),.ow (.lst L) false false,.sh (.int pl),.sh (.ins c ns ds),t7]) ⟨_,by simp,h7⟩
   refine⟨[.sh (aB no ba oc fs rs),.un,~~~xs,.sh (.int (b:Int)),.ow (.lst (L++(aH Z).map λd=>D.tup [.int (b:Int),.int pl,d])) false false,.sh (.int pl),.sh (.ins c ns ds),t7'], ?_,_,_,_,rfl,rfl,rfl,h7'⟩;unfold iX
   generalize (L++(aH Z).map λd=>D.tup [.int (b:Int),.int pl,d])=L3 at *
   clear hp hl hb hx hi hlen hpj hrx hlen1 hbr hN ho hrun h5 h6 h7 hds h7'
   cases q<;>walk_at "!")
  (ρ:=[.sh (aB no ba oc fs rs),.un,~~~xs,.sh (.int (b:Int)),.ow (.lst []) false false,.un,.un,.un]) ⟨_,_,_,rfl,rfl,rfl,rfl⟩
 rw[fB,List.length_map,List.take_length] at e1
 generalize cR xs b 0 ps=L at *
 clear hp hl hb hx h5 h6 h7
 walk_at "!"
 simp only[aL,List.set_cons_zero,List.set_cons_succ,e1,bS.restore,cC,zt,zr,Option.map_some]
 walk_at "!"
end
theorem FU{ρ:Env}{k:Nat}(h:k<=1000):aE .rng [.val (.sh (.int (k:Int)))] ρ=some ((List.range k).map λ(j:Nat)=>.int (j:Int),none):=by
 refine Eq.trans (nR (n:=(k:Int)) rfl (by omega) (by omega)) ?_;rw[Int.toNat_natCast]
theorem NT{elt:Env->aM RV}{bind:D->Env->Option Env}{ds:List D}{P:aJ}{C:Calls}(val:D->D)(J:Env->Prop)
  (step:∀d∈ds,∀ρ,J ρ->∃ρ1 v ρ2,bind d ρ=some ρ1/\elt ρ1=some (.ok v,ρ2)/\v.d=val d/\J ρ2) {ρ:Env} (h:J ρ) :
  ∃ρ',c8 (cI P C []) elt bind ds [] ρ=some (.ok (ds.map val),ρ')/\J ρ':=by
 obtain⟨acc,ρ',e,⟨rfl,hJ⟩,_⟩:=gE (tests:=cI P C []) (elt:=elt) (bind:=bind) (ds:=ds) (λj acc ρ=>acc=(ds.take j).map val/\J ρ)
  (λj d hd acc ρ ⟨ha,hJ⟩=>by
   obtain⟨ρ1,v,ρ2,h1,h2,h3,h4⟩:=step d (zj hd) ρ hJ;refine⟨ρ1,true,ρ1,h1,iG,λ_=>⟨v,ρ2,h2, ?_,h4⟩,λz=>nomatch z⟩;rw[ha,h3,List.take_add_one,hd]
   simp) [] ρ ⟨by simp,h⟩
 refine⟨ρ', ?_,hJ⟩;rw[e,List.take_length]
section
variable{no ba oc:Int}{fs:List (Int×Int×Bool)}{rs:List D}{m:Nat}{ps:List RP}
def aR(ps:List RP)(xs:List Int)(n:Nat):List D:=(List.range n).flatMap λb=>cR xs b 0 ps
theorem rE{xs:List Int}{n:Nat}:aR ps xs (n+1)=aR ps xs n++cR xs n 0 ps:=by
 unfold aR;rw[List.range_succ,List.flatMap_append];simp
theorem IK{xs:List Int}{b:Nat}(hp:∀p∈ps,RX no ba oc fs rs m p)(hl:ps.length<=8):(cR xs b 0 ps).length<=8000:=by
 rw[xE]
 have:=BS (xs:=xs) (b:=b) ps λq hq=>(hp q hq).len xs b
 omega
theorem kC{xs:List Int}(hp:∀p∈ps,RX no ba oc fs rs m p)(hl:ps.length<=8):∀n:Nat,(aR ps xs n).length<=8000*n
 | 0=>by simp[aR]
 |n+1=>by(rw[rE,Za];have h1:=kC (xs:=xs) hp hl n;have h2:=IK (xs:=xs) (b:=n) hp hl;omega)
def cN(b i:Nat)(is:List Int):D:=.tup [.int (b:Int),.int (i:Int),.tup (is.map D.int)]
theorem DU{xs:List Int}{b:Nat}{d:D}:∀(qs:List RP) (i:Nat),(∀p∈qs,RX no ba oc fs rs m p)->d∈cR xs b i qs->∃j is,d=cN b j is/\is.length<=1000
 |q::qs,i,hp,h=>by
  rw[cR] at h;rcases zp.mp h with h | h
  ·obtain⟨d',h1,rfl⟩:=List.mem_map.mp h;obtain⟨is,h2,rfl⟩:=List.mem_map.mp h1;exact⟨i,is,rfl,(hp q zh).inn xs b is h2⟩
  ·exact DU qs _ (λp hp'=>hp p (Ze _ hp')) h
theorem AV{xs:List Int}{n:Nat}{d:D}(hp:∀p∈ps,RX no ba oc fs rs m p)(h:d∈aR ps xs n):∃b j is,d=cN b j is/\is.length<=1000:=by
 obtain⟨b,_,h⟩:=List.mem_flatMap.mp h;exact⟨b,DU ps 0 hp h⟩
theorem E8{b j:Nat}{is:List Int}:bA 19 (cN b j is)=true:=by simp[bA,cN]
theorem E5{xs:List Int}{n:Nat}(hp:∀p∈ps,RX no ba oc fs rs m p):bA 20 (.lst (aR ps xs n))=true:=by
 show(aR ps xs n).all (bA 19)=true;rw[List.all_eq_true];intro d hd;obtain⟨b,j,is,rfl,_⟩:=AV hp hd;exact E8
theorem uT{n:Nat}{pre post:List D}{d:D}(h:((List.range n).map λ(j:Nat)=>D.int (j:Int))=pre++d::post):d=.int (pre.length:Int)/\pre.length<n:=by
 have hl:=congrArg List.length h;rw[List.length_map,List.length_range,Za,Zk] at hl;have h2:((List.range n).map λ(j:Nat)=>D.int (j:Int))[pre.length]?=some d:=by rw[h,List.getElem?_append_right (Zq _),Nat.sub_self];rfl
 rw[Zh,List.getElem?_range (by omega)] at h2;exact⟨(Option.some.inj h2).symm,by omega⟩
theorem aCb{k:Nat}{p:RP}(hrs:ps.map (·.1)=rs)(h:ps[k]?=some p):iU (some (.tup rs)) (.int (k:Int))=some (.sh p.1):=aCE (by rw[show L2.cG rs (k:Int)=rs[k]? from qH,<- hrs,Zh,h];rfl)
theorem oI{W n:Nat}{xs:List Int}(hrs:ps.map (·.1)=rs)(hp:∀p∈ps,RX no ba oc fs rs m p)(hl:rs.length<=8)(hx:∀x∈xs,0<=x/\x<no)(lx:xs.length<=80) :
  run T W (n+6) "breaks" [.sh (aB no ba oc fs rs),~~~xs]=some (.ok (.ow (.lst (aR ps xs xs.length))),[.sh (aB no ba oc fs rs),~~~xs]):=by
 have hl':ps.length<=8:=by rw[<- hrs,List.length_map] at hl;exact hl
 rw[bY A6 rfl rfl];unfold lC;have h1:=uE (W:=W) (n:=n+3) hrs hp hl;have hi:aE .rng [.val (.sh (.int (xs.length:Int)))] [.sh (aB no ba oc fs rs),~~~xs,.ow (.lst (ps.map (·.2.1))) false false,.ow (.lst []) false false,.un]=some ((List.range xs.length).map λ(j:Nat)=>.int (j:Int),none):=FU (by omega)
 obtain⟨ρ',e,t4,rfl,_⟩:=dA (bind:=aY true [4]) (body:=exs T.pins (run T W (n+5)) W lV)
  (λpre ρ=>∃t4,ρ=[.sh (aB no ba oc fs rs),~~~xs,.ow (.lst (ps.map (·.2.1))) false false,.ow (.lst (aR ps xs pre.length)) false false,t4]/\bR t4=true)
  (ds:=(List.range xs.length).map λ(j:Nat)=>.int (j:Int)) (λpre d post hds ρ hρ=>by
   obtain⟨t4,rfl,h4⟩:=hρ;obtain⟨rfl,hb⟩:=uT hds;refine⟨_,by simp only[hV,bD h4]<;>rfl, ?_⟩;have hbk:=sP (W:=W) (n:=n) hp hl' hb hx;have z1:=kC (xs:=xs) hp hl' pre.length;have z2:=IK (xs:=xs) (b:=pre.length) hp hl';have hsm:aP ((aR ps xs pre.length).length+(cR xs pre.length 0 ps).length)=true:=bQ (by omega);refine⟨[.sh (aB no ba oc fs rs),~~~xs,.ow (.lst (ps.map (·.2.1))) false false,.ow (.lst (aR ps xs pre.length++cR xs pre.length 0 ps)) false false,.sh (.int (pre.length:Int))], ?_,_,by rw[Za,List.length_singleton,rE],rfl⟩;unfold lV;clear hp hl hl' hx hrs h1 hi hds hb z1 z2 h4 lx
   generalize aR ps xs pre.length=A at *
   generalize cR xs pre.length 0 ps=B at *
   walk_at "!%")
  (ρ:=[.sh (aB no ba oc fs rs),~~~xs,.ow (.lst (ps.map (·.2.1))) false false,.ow (.lst []) false false,.un]) ⟨_,rfl,rfl⟩
 rw[List.length_map,List.length_range] at e
 generalize aR ps xs xs.length=A at *
 clear hp hl hl' hx hrs lx
 walk_at "!%"
end
def l8:List D->D
 |[]=>.non
 |d::_=>d
theorem DI{bind:D->Env->Option Env}{body:Env->bS}(f:D->List D)(I:Env->Prop){ds:List D}(h:∀d∈ds,∀ρ,I ρ->∃ρ1,bind d ρ=some ρ1/\∃ρ2,(f d=[]/\body ρ1=some (.nx,ρ2)\/∃x r,f d=x::r/\body ρ1=some (.rt (.sh x),ρ2))/\I ρ2) :
  ∀{ρ:Env},I ρ->∃ρ',(ds.flatMap f=[]/\cF bind body ds ρ=some (.nx,ρ')\/∃x r,ds.flatMap f=x::r/\cF bind body ds ρ=some (.rt (.sh x),ρ'))/\I ρ':=by
 induction ds with
 |nil=>exact λhρ=>⟨_,.inl ⟨rfl,rfl⟩,hρ⟩
 |cons d ds ih =>
  intro ρ hρ;obtain⟨ρ1,e1,ρ2,e2,h2⟩:=h d (by simp) ρ hρ;rcases e2 with ⟨c,e2⟩ | ⟨x,r,c,e2⟩
  ·obtain⟨ρ',e3,h3⟩:=ih (λd' hd'=>h d' (by simp[hd'])) h2;refine⟨ρ', ?_,h3⟩;rcases e3 with ⟨c3,e3⟩ | ⟨x,r,c3,e3⟩
   ·exact .inl ⟨by rw[List.flatMap_cons,c,c3];rfl,by simp only[cF,e1,e2,e3]⟩
   ·exact .inr ⟨x,r,by rw[List.flatMap_cons,c,c3];rfl,by simp only[cF,e1,e2,e3]⟩
  ·exact⟨ρ2,.inr ⟨x,r++ds.flatMap f,by rw[List.flatMap_cons,c];rfl,by simp only[cF,e1,e2]⟩,h2⟩
section
variable{no ba oc:Int}{fs:List (Int×Int×Bool)}{rs:List D}{m:Nat}{ps:List RP}
theorem uV{W n:Nat}{xs:List Int}(hrs:ps.map (·.1)=rs)(hp:∀p∈ps,RX no ba oc fs rs m p)(hl:rs.length<=8)(hx:∀x∈xs,0<=x/\x<no)(lx:xs.length<=80) :
  run T W (n+6) "first_break" [.sh (aB no ba oc fs rs),~~~xs]=some (.ok (.sh (l8 (aR ps xs xs.length))),[.sh (aB no ba oc fs rs),~~~xs]):=by
 have hl':ps.length<=8:=by rw[<- hrs,List.length_map] at hl;exact hl
 rw[bY oV rfl rfl];unfold gR;have h1:=uE (W:=W) (n:=n+3) hrs hp hl;have hi:aE .rng [.val (.sh (.int (xs.length:Int)))] [.sh (aB no ba oc fs rs),~~~xs,.ow (.lst (ps.map (·.2.1))) false false,.un,.un]=some ((List.range xs.length).map λ(j:Nat)=>.int (j:Int),none):=FU (by omega)
 obtain⟨ρ',e,t3,t4,rfl,_,_⟩:=DI (bind:=aY true [3]) (body:=exs T.pins (run T W (n+5)) W iD) (λd=>match d with | .int b=>cR xs b.toNat 0 ps | _=>[])
  (λρ=>∃t3 t4,ρ=[.sh (aB no ba oc fs rs),~~~xs,.ow (.lst (ps.map (·.2.1))) false false,t3,t4]/\bR t3=true/\bR t4=true)
  (ds:=(List.range xs.length).map λ(j:Nat)=>.int (j:Int)) (λd hd ρ hρ=>by
   obtain⟨t3,t4,rfl,h3,h4⟩:=hρ;obtain⟨b,hb,rfl⟩:=List.mem_map.mp hd;have hb:=List.mem_range.mp hb;refine⟨_,by simp only[hV,bD h3]<;>rfl, ?_⟩;have hbk:=sP (W:=W) (n:=n) hp hl' hb hx;show ∃ρ2,(cR xs b 0 ps=[]/\_\/∃x r,cR xs b 0 ps=x::r/\_)/\_
   generalize cR xs b 0 ps=L at *
   unfold iD;clear hi h1 hp hl hl' hx hd hb h3 hrs lx
   cases L with
   |nil =>
    refine⟨[.sh (aB no ba oc fs rs),~~~xs,.ow (.lst (ps.map (·.2.1))) false false,.sh (.int (b:Int)),.ow (.lst []) false false],.inl ⟨rfl, ?_⟩,_,_,rfl,rfl,rfl⟩;have c:decide ((0:Int)<((0:Nat):Int))=false:=rfl
    walk_at "!%"
   |cons x L =>
    refine⟨[.sh (aB no ba oc fs rs),~~~xs,.ow (.lst (ps.map (·.2.1))) false false,.sh (.int (b:Int)),.ow (.lst (x::L)) false false],.inr ⟨x,L,rfl, ?_⟩,_,_,rfl,rfl,rfl⟩;have c:decide ((((x::L).length:Nat):Int) > 0)=true:=Zn (by rw[Zk];omega);have hat:L2.cG (x::L) 0=some x:=by rw[MS];rfl
    generalize x::L=LL at *
    walk_at "!%")
  (ρ:=[.sh (aB no ba oc fs rs),~~~xs,.ow (.lst (ps.map (·.2.1))) false false,.un,.un]) ⟨_,_,rfl,rfl,rfl⟩
 have hal:((List.range xs.length).map λ(j:Nat)=>D.int (j:Int)).flatMap (λd=>match d with | .int b=>cR xs b.toNat 0 ps | _=>[])=aR ps xs xs.length:=by(rw[List.flatMap_map];rfl)
 rw[hal] at e;clear hal hp hl hl' hx hrs lx;rcases e with ⟨c,e⟩ | ⟨x,r,c,e⟩
 ·rw[c];show _=some (Out.ok (RV.sh D.non),_);clear c
  walk_at "!%"
 ·rw[c];show _=some (Out.ok (RV.sh x),_);clear c
  walk_at "!%"
theorem aC1{L:List D}(h:∀d∈L,∃es,d=.tup es):bX .Is (l8 L) .non=some L.isEmpty:=by
 cases L with
 |nil=>rfl
 |cons d L =>
  obtain⟨es,rfl⟩:=h d zh;rfl
theorem AR{W n:Nat}{xs:List Int}(hrs:ps.map (·.1)=rs)(hp:∀p∈ps,RX no ba oc fs rs m p)(hl:rs.length<=8)(hx:∀x∈xs,0<=x/\x<no)(lx:xs.length<=80) :
  run T W (n+7) "is_let_by" [.sh (aB no ba oc fs rs),~~~xs]=some (.ok (.sh (.bl (aR ps xs xs.length).isEmpty)),[.sh (aB no ba oc fs rs),~~~xs]):=by
 have h1:=uV (W:=W) (n:=n) hrs hp hl hx lx
 have h2:=aC1 (L:=aR ps xs xs.length) λd hd=>by(obtain⟨b,j,is,rfl,_⟩:=AV hp hd;exact⟨_,rfl⟩)
 rw[bY sL rfl rfl];unfold iR;clear hrs hp hl hx lx
 generalize l8 (aR ps xs xs.length)=hh at *
 generalize (aR ps xs xs.length).isEmpty=bb at *
 walk_at "!%"
end
section
variable{no ba oc:Int}{fs:List (Int×Int×Bool)}{rs:List D}{m:Nat}{ps:List RP}{xs:List Int}{b n:Nat}{ks:List Nat}
def pk(ps:List RP)(k:Nat):RP:=ps.getD k (.non,.non,λ_ _=>[])
def jA(ps:List RP)(xs:List Int)(b:Nat)(ks:List Nat):List D:=ks.flatMap λk=>kS xs b k (pk ps k)
noncomputable def eN(ps:List RP)(xs:List Int)(n:Nat)(ks:List Nat):List D:=(List.range n).flatMap λb=>jA ps xs b ks
noncomputable def l4(ks:List Nat):D->D
 |.tup [.int b,.int i,v]=>.tup [.int b,.int ((ks.getD i.toNat 0:Nat):Int),v]
 |d=>d
theorem kB{k:Nat}{p:RP}:kS xs b k p=(p.2.2 xs b).map (cN b k):=by
 unfold kS aH;rw[List.map_map];rfl
theorem VL{i:Nat}{q:RP}{qs:List RP}(h:ps.drop i=q::qs):pk ps i=q/\ps.drop (i+1)=qs:=by
 have h1:ps[i]?=some q:=List.head?_drop.symm.trans (congrArg List.head? h);refine⟨?_, ?_⟩
 ·unfold pk;rw[List.getD_eq_getElem?_getD,h1];rfl
 ·rw[<- List.tail_drop,h];rfl
theorem AW:∀(qs:List RP) (i:Nat),ps.drop i=qs->cR xs b i qs=jA ps xs b (List.range' i qs.length)
 |[],_,_=>rfl
 |q::qs,i,h=>by(obtain⟨h1,h2⟩:=VL h;rw[cR,AW qs (i+1) h2,Zk,List.range'_succ];unfold jA;rw[List.flatMap_cons,h1])
theorem AO:aR ps xs n=eN ps xs n (List.range ps.length):=by
 unfold aR eN;congr 1
 funext b
 rw[AW ps 0 rfl,List.range_eq_range']
theorem MZ{i k:Nat}{p:RP}(h:ks.getD i 0=k):(kS xs b i p).map (l4 ks)=kS xs b k p:=by
 rw[kB,kB,List.map_map];refine List.map_congr_left λis _=>?_
 show D.tup [.int (b:Int),.int ((ks.getD (i:Int).toNat 0:Nat):Int),_]=_;rw[Int.toNat_natCast,h];rfl
theorem E3:∀(ls:List Nat) (i:Nat),ks.drop i=ls->(cR xs b i (ls.map (pk ps))).map (l4 ks)=jA ps xs b ls
 |[],_,_=>rfl
 |k::ls,i,h=>by
  have h1:ks[i]?=some k:=List.head?_drop.symm.trans (congrArg List.head? h);have h2:ks.drop (i+1)=ls:=by rw[<- List.tail_drop,h];rfl
  rw[Zs,cR,zd,E3 ls (i+1) h2,MZ (k:=k) (by rw[List.getD_eq_getElem?_getD,h1];rfl)];unfold jA;rw[List.flatMap_cons]
theorem tM:(aR (ks.map (pk ps)) xs n).map (l4 ks)=eN ps xs n ks:=by
 unfold aR eN;rw[List.map_flatMap];congr 1
 funext b
 exact E3 ks 0 rfl
theorem qK{f:D->Bool}{S:Nat->Bool}(hf:∀k p,∀d∈kS xs b k p,f d=S k):∀ks:List Nat,(jA ps xs b ks).filter f=jA ps xs b (ks.filter S)
 |[]=>rfl
 |k::ks=>by
  have ih:=qK hf ks;unfold jA at ih ⊢;rw[List.flatMap_cons,List.filter_append,ih]
  cases q:S k with
  |true =>
   rw[List.filter_cons_of_pos q,List.flatMap_cons];congr 1;exact List.filter_eq_self.mpr λd hd=>(hf k _ d hd).trans q
  |false =>
   rw[List.filter_cons_of_neg (by rw[q];decide)];rw[List.filter_eq_nil_iff.mpr λd hd=>by rw[hf k _ d hd,q];decide];rfl
theorem DG{f:D->Bool}{S:Nat->Bool}(hf:∀b k p,∀d∈kS xs b k p,f d=S k):(eN ps xs n ks).filter f=eN ps xs n (ks.filter S):=by
 unfold eN;rw[List.filter_flatMap];congr 1
 funext b
 exact qK (hf b) ks
theorem gG{k:Nat}{p:RP}{d:D}(h:d∈kS xs b k p):∃is,is∈p.2.2 xs b/\d=cN b k is:=by
 rw[kB] at h;obtain⟨is,h1,rfl⟩:=List.mem_map.mp h;exact⟨is,h1,rfl⟩
theorem rZ{d:D}:∀(qs:List RP) (i:Nat),d∈cR xs b i qs->∃j is,d=cN b j is
 |q::qs,i,h=>by
  rw[cR] at h;rcases zp.mp h with h | h
  ·obtain⟨is,_,rfl⟩:=gG h;exact⟨i,is,rfl⟩
  ·exact rZ qs _ h
theorem HX{f:D->Bool}{c:Nat}(hf:∀b j is,f (cN b j is)=decide (b<c)):∀n:Nat,c<=n->(aR ps xs n).filter f=aR ps xs c:=by
 have g:∀n,n<=c->(aR ps xs n).filter f=aR ps xs n:=λn hn=>List.filter_eq_self.mpr λd hd=>by(obtain⟨b,hb,h⟩:=List.mem_flatMap.mp hd;obtain⟨j,is,rfl⟩:=rZ ps 0 h;rw[hf];exact Zn (by have:=List.mem_range.mp hb;omega))
 intro n
 induction n with
 |zero=>exact λhc=>by rw[g 0 (Nat.zero_le _),show c=0 by omega]
 |succ n ih =>
  intro hc;by_cases e:c=n+1
  ·subst e;exact g _ (Zq _)
  ·rw[rE,List.filter_append,ih (by omega)]
   rw[List.filter_eq_nil_iff.mpr λd hd=>by
    obtain⟨j,is,rfl⟩:=rZ ps 0 hd;rw[hf,Zm (by omega)]
    decide]
   exact List.append_nil _
theorem D8{ys:List Int}(hp:∀p∈ps,RX no ba oc fs rs m p)(hb:b<xs.length):∀(qs:List RP) (i:Nat),(∀q∈qs,q∈ps)->cR (xs++ys) b i qs=cR xs b i qs
 |[],_,_=>rfl
 |q::qs,i,h=>by(rw[cR,cR,D8 hp hb qs _ λx hx=>h x (Ze _ hx)];congr 1;rw[kB,kB,(hp q (h q zh)).pre xs ys b hb])
theorem JL{c:Nat}(hp:∀p∈ps,RX no ba oc fs rs m p)(hc:c<=xs.length):aR ps (xs.take c) c=aR ps xs c:=by
 unfold aR;rw[List.flatMap_def,List.flatMap_def];refine congrArg List.flatten (List.map_congr_left λb hb=>?_);have hb:=List.mem_range.mp hb
 have:=D8 (xs:=xs.take c) (ys:=xs.drop c) (b:=b) hp (by rw[List.length_take];omega) ps 0 λ_ h=>h
 rw[List.take_append_drop] at this;exact this.symm
theorem J0{k:Nat}{is:List Int}:kD (cN b k is)=(b:Int)::(k:Int)::is:=by
 show((fF (is.map D.int)).map λns=>(b:Int)::(k:Int)::ns).getD []=_;rw[n8];rfl
theorem VG{k:Nat}{is:List Int}:(gH (cN b k is)).isSome=true:=by
 show((fF (is.map D.int)).map λns=>(b:Int)::(k:Int)::ns).isSome=true;rw[n8];rfl
theorem xM{c k l:Nat}{is js:List Int}(h:uU ((b:Int)::(k:Int)::is) ((c:Int)::(l:Int)::js)):mF (cN b k is) (cN c l js):=by
 show HT.bT (kD _) (kD _)=false;rw[J0,J0];exact h
theorem LZ{k:Nat}(h:k<ps.length):pk ps k∈ps:=by
 unfold pk;rw[List.getD_eq_getElem?_getD,Zb h];exact List.getElem_mem h
theorem uC{d:D}(h:d∈eN ps xs n ks):∃b k is,b<n/\k∈ks/\is∈(pk ps k).2.2 xs b/\d=cN b k is:=by
 obtain⟨b,hb,h⟩:=List.mem_flatMap.mp h;obtain⟨k,hk,h⟩:=List.mem_flatMap.mp h;obtain⟨is,h1,rfl⟩:=gG h;exact⟨b,k,is,List.mem_range.mp hb,hk,h1,rfl⟩
theorem VT(hp:∀p∈ps,RX no ba oc fs rs m p)(hk:∀k∈ks,k<ps.length)(hs:ks.Pairwise (·<·)):(eN ps xs n ks).Pairwise mF:=by
 unfold eN;refine List.pairwise_flatMap.mpr ⟨λb _=>?_,List.pairwise_lt_range.imp λ{a c} h x hx y hy=>?_⟩
 ·unfold jA;refine List.pairwise_flatMap.mpr ⟨λk hk'=>?_,hs.imp λ{a c} h x hx y hy=>?_⟩
  ·rw[kB];exact List.pairwise_map.mpr (((hp _ (LZ (hk k hk'))).srt xs b).imp λ{a c} h=>xM (fK (.inr ⟨rfl,fK (.inr ⟨rfl,h⟩)⟩)))
  ·obtain⟨is,_,rfl⟩:=gG hx;obtain⟨js,_,rfl⟩:=gG hy;exact xM (fK (.inr ⟨rfl,fK (.inl (by omega))⟩))
 ·obtain⟨k,_,hx⟩:=List.mem_flatMap.mp hx;obtain⟨l,_,hy⟩:=List.mem_flatMap.mp hy;obtain⟨is,_,rfl⟩:=gG hx;obtain⟨js,_,rfl⟩:=gG hy;exact xM (fK (.inl (by omega)))
theorem BB:((eN ps xs n ks).all λd=>(gH d).isSome)=true:=by
 rw[List.all_eq_true];intro d hd;obtain⟨b,k,is,_,_,_,rfl⟩:=uC hd;exact VG
theorem KA{ls:List Nat}(h:ks.Perm ls):(eN ps xs n ks).Perm (eN ps xs n ls):=by
 unfold eN
 induction List.range n with
 |nil=>exact .refl _
 |cons b l ih =>
  rw[List.flatMap_cons,List.flatMap_cons];exact List.Perm.append (h.flatMap_right _) ih
theorem NC(hp:∀p∈ps,RX no ba oc fs rs m p)(hn:ks.Nodup)(hk:∀k∈ks,k<ps.length):jD (eN ps xs n ks)=eN ps xs n ((List.range ps.length).filter λk=>ks.contains k):=by
 have hm:∀k,k∈(List.range ps.length).filter (λk=>ks.contains k)↔k∈ks:=λk=>by(rw[List.mem_filter,List.mem_range,List.contains_iff_mem];exact⟨λh=>h.2,λh=>⟨hk k h,h⟩⟩)
 have hq:((List.range ps.length).filter λk=>ks.contains k).Perm ks:=(List.perm_ext_iff_of_nodup (List.nodup_range.filter _) hn).mpr hm;exact(B6 BB (KA hq) (VT hp (λk hk'=>hk k ((hm k).mp hk')) (List.pairwise_lt_range.filter _))).symm
theorem N2:eN ps xs n ks=[]↔∀k∈ks,eN ps xs n [k]=[]:=by
 unfold eN jA;simp only[List.flatMap_eq_nil_iff,ze,forall_eq];exact⟨λh k hk b hb=>h b hb k hk,λh b hb k hk=>h k hk b hb⟩
end
theorem BC{α:Type}{tests elt:Env->aM RV}{bind:D->Env->Option Env}{xs:List α}(f:α->D)(keep:α->Bool)(g:α->D)(J:Env->Prop)
  (step:∀x∈xs,∀ρ,J ρ->∃ρ1 ρ2,bind (f x) ρ=some ρ1/\tests ρ1=some (.ok (.sh (.bl (keep x))),ρ2)/\(keep x=true->∃v ρ3,elt ρ2=some (.ok v,ρ3)/\v.d=g x/\J ρ3)/\(keep x=false->J ρ2)) {ρ:Env} (h:J ρ) :
  ∃ρ',c8 tests elt bind (xs.map f) [] ρ=some (.ok ((xs.filter keep).map g),ρ')/\J ρ':=by
 obtain⟨acc,ρ',e,⟨rfl,hJ⟩,_⟩:=gE (tests:=tests) (elt:=elt) (bind:=bind) (ds:=xs.map f) (λj acc ρ=>acc=((xs.take j).filter keep).map g/\J ρ)
  (λj d hd acc ρ ⟨ha,hJ⟩=>by
   rw[Zh] at hd
   cases hq:xs[j]? with
   |none=>rw[hq] at hd;cases hd
   |some x =>
    rw[hq] at hd;cases hd;obtain⟨ρ1,ρ2,h1,h2,h3,h4⟩:=step x (zj hq) ρ hJ;refine⟨ρ1,keep x,ρ2,h1,h2,λhk=>?_,λhk=>⟨?_,h4 hk⟩⟩
    ·obtain⟨v,ρ3,h5,h6,h7⟩:=h3 hk;refine⟨v,ρ3,h5, ?_,h7⟩;rw[ha,h6,List.take_add_one,hq];simp[List.filter_append,hk]
    ·rw[ha,List.take_add_one,hq]
     simp[List.filter_append,hk]) [] ρ ⟨by simp,h⟩
 refine⟨ρ', ?_,hJ⟩;rw[e,List.length_map,List.take_length]
theorem WD{α:Type}{P:aJ}{C:Calls}{elt:Env->aM RV}{bind:D->Env->Option Env}{xs:List α}(f g:α->D)(J:Env->Prop)
  (step:∀x∈xs,∀ρ,J ρ->∃ρ1 v ρ3,bind (f x) ρ=some ρ1/\elt ρ1=some (.ok v,ρ3)/\v.d=g x/\J ρ3) {ρ:Env} (h:J ρ) :
  ∃ρ',c8 (cI P C []) elt bind (xs.map f) [] ρ=some (.ok (xs.map g),ρ')/\J ρ':=by
 obtain⟨ρ',e,hJ⟩:=BC (tests:=cI P C []) (elt:=elt) (bind:=bind) (xs:=xs) f (λ_=>true) g J (λx hx ρ hρ=>by
  obtain⟨ρ1,v,ρ3,h1,h2,h3,h4⟩:=step x hx ρ hρ
  exact⟨ρ1,ρ1,h1,iG,λ_=>⟨v,ρ3,h2,h3,h4⟩,λz=>nomatch z⟩) h
 refine⟨ρ', ?_,hJ⟩;rw[e,List.filter_eq_self.mpr λ_ _=>rfl]
def nD(ks:List Nat):List D:=ks.map λ(k:Nat)=>.int (k:Int)
section
variable{no ba oc:Int}{fs:List (Int×Int×Bool)}{rs:List D}{m:Nat}{ps:List RP}{ks:List Nat}
theorem JB{W n:Nat}(hrs:ps.map (·.1)=rs)(hk:∀k∈ks,k<ps.length)(hl:ks.length<=8) :
  run T W (n+1) "L_with" [.sh (aB no ba oc fs rs),.ow (.lst (nD ks)) true false]=some (.ok (.sh (aB no ba oc fs ((ks.map (pk ps)).map (·.1)))),[.sh (aB no ba oc fs rs),.ow (.lst (nD ks)) true false]):=by
 rw[bY AX rfl rfl];unfold lR;have hi:aE .of [.slot 1] [.sh (aB no ba oc fs rs),.ow (.lst (nD ks)) true false]=some (nD ks,some 1):=vT rfl;have hix:iU (some (aB no ba oc fs rs)) (.int 4)=some (.sh (.tup rs)):=rfl;have hsl:AZ (some (aB no ba oc fs rs)) none (some (.int 4))=some (.sh (.tup [.int no,.int ba,.int oc,.tup (fs.map iW)])):=rfl;have hsm0:aP (3+1+[D.tup ((ks.map (pk ps)).map (·.1))].length)=true:=bQ (by simp);have hadd:fC .Add (.tup [.int no,.int ba,.int oc,.tup (fs.map iW)]) (.tup [.tup ((ks.map (pk ps)).map (·.1))])=some (.sh (aB no ba oc fs ((ks.map (pk ps)).map (·.1)))):=K4 (x:=.int no) (xs:=[.int ba,.int oc,.tup (fs.map iW)]) (ys:=[.tup ((ks.map (pk ps)).map (·.1))]) hsm0
 obtain⟨ρi,e,t1,rfl,_⟩:=WD (P:=T.pins) (C:=run T W n) (elt:=ev T.pins (run T W n) false lT) (bind:=aY true [2]) (xs:=ks) (λ(k:Nat)=>D.int (k:Int)) (λk=>(pk ps k).1)
  (λρ=>∃t1,ρ=[.sh (aB no ba oc fs rs),.un,t1]/\bR t1=true)
  (λk hk' ρ hρ=>by
   obtain⟨t1,rfl,h1⟩:=hρ
   have hx:iU (some (.tup rs)) (.int (k:Int))=some (.sh (pk ps k).1):=aCb hrs (by
    unfold pk;rw[List.getD_eq_getElem?_getD,Zb (hk k hk')]
    rfl)
   refine⟨[.sh (aB no ba oc fs rs),.un,.sh (.int (k:Int))],.sh (pk ps k).1,[.sh (aB no ba oc fs rs),.un,.sh (.int (k:Int))],by simp only[hV,bD h1]<;>rfl, ?_,rfl,_,rfl,rfl⟩;unfold lT;clear hi hsl hadd hk' hk h1 hrs hsm0 hl
   walk_at "!%") (ρ:=[.sh (aB no ba oc fs rs),.un,.un]) ⟨_,rfl,rfl⟩
 have hmm:ks.map (λk=>(pk ps k).1)=(ks.map (pk ps)).map (·.1):=by rw[List.map_map];rfl
 have hsm:aP ((ks.map (pk ps)).map (·.1)).length=true:=bQ (by simp;omega);rw[hmm,show ks.map (λ(k:Nat)=>D.int (k:Int))=nD ks from rfl] at e;clear hmm hk hrs hl hsm0
 generalize (ks.map (pk ps)).map (·.1)=R at *
 walk_at "!%"
 rw[kA hi];simp only[aL,List.set_cons_zero,List.set_cons_succ]
 walk_at "!%"
 simp only[dW,cC,zt,zr,List.set_cons_zero,List.set_cons_succ,Option.map_some]
 walk_at "!%"
theorem HK{W n:Nat}{A:List D}(hA:∀d∈A,∃b j is,d=cN b j is/\j<ks.length)(hz:A.length<=900000)(ht:((A.map (l4 ks)).all λd=>(gH d).isSome)=true) :
  run T W (n+1) "L_named" [.ow (.lst A) true false,.ow (.lst (nD ks)) true false]=some (.ok (.ow (.lst (jD (A.map (l4 ks))))),[.ow (.lst A) true false,.ow (.lst (nD ks)) true false]):=by
 rw[bY yI rfl rfl];unfold jY;have hi:aE .of [.slot 0] [.ow (.lst A) true false,.ow (.lst (nD ks)) true false]=some (A,some 0):=vT rfl
 obtain⟨ρi,e,t2,t3,t4,rfl,_⟩:=NT (P:=T.pins) (C:=run T W n) (elt:=ev T.pins (run T W n) false lA) (bind:=aY false [2,3,4]) (ds:=A) (l4 ks)
  (λρ=>∃t2 t3 t4,ρ=[.ow (.lst (nD ks)) true false,.un,t2,t3,t4]/\bR t2=true/\bR t3=true/\bR t4=true)
  (λd hd ρ hρ=>by
   obtain⟨t2,t3,t4,rfl,h2,h3,h4⟩:=hρ;obtain⟨b,j,is,rfl,hj⟩:=hA d hd
   have hx:L2.cG (nD ks) (j:Int)=some (.int ((ks.getD j 0:Nat):Int)):=L2.mZ (by
    unfold nD;rw[Zh,Zb hj,List.getD_eq_getElem?_getD,Zb hj]
    rfl)
   refine⟨[.ow (.lst (nD ks)) true false,.un,.sh (.int (b:Int)),.sh (.int (j:Int)),.sh (.tup (is.map D.int))],.sh (l4 ks (cN b j is)),[.ow (.lst (nD ks)) true false,.un,.sh (.int (b:Int)),.sh (.int (j:Int)),.sh (.tup (is.map D.int))],by simp only[cN,rP,r6,uY,FA,KL,zt,zr,bD h2,bD h3,bD h4,List.set_cons_zero,List.set_cons_succ]<;>rfl, ?_,rfl,_,_,_,rfl,rfl,rfl,rfl⟩
   have hr:l4 ks (cN b j is)=.tup [.int (b:Int),.int ((ks.getD j 0:Nat):Int),.tup (is.map D.int)]:=by(show D.tup [.int (b:Int),.int ((ks.getD (j:Int).toNat 0:Nat):Int),_]=_;rw[Int.toNat_natCast])
   unfold lA;clear hi hd hA hz ht h2 h3 h4 hj
   walk_at "!%") (ρ:=[.ow (.lst (nD ks)) true false,.un,.un,.un,.un]) ⟨_,_,_,rfl,rfl,rfl,rfl⟩
 have hs:=LY ht;have hsm:aP (A.map (l4 ks)).length=true:=bQ (by simp;omega);clear hA hz ht
 generalize A.map (l4 ks)=B at *
 generalize jD B=S at *
 walk_at "!%"
 rw[kA hi];simp only[aL,List.set_cons_zero,List.set_cons_succ]
 walk_at "!%"
 simp only[dW,cC,zt,zr,List.set_cons_zero,List.set_cons_succ,Option.map_some]
 walk_at "!%"
end
theorem Z1{ks ls:List Nat}:nD (ks++ls)=nD ks++nD ls:=zd
theorem BF{ks:List Nat}:(nD ks).length=ks.length:=List.length_map _
theorem GW{W n N:Nat}{k s:Int}(hN:N<=8):∃s' ks,run T W (n+2) "L_order" [.ow (.lst [.int k,.int s]) true false,.sh (.int (N:Int))]=some (.ok (.ow (.lst (nD ks))),[.ow (.lst [.int k,.int s']) true false,.sh (.int (N:Int))])/\ks.Perm (List.range N):=by
 rw[bY yB rfl rfl];unfold jU
 have hlr:rY [.int (N:Int)]=some (.ow (.lst (nD (List.range N)))):=by(rw[lr1 (by omega),List.map_map];rfl)
 have hi:aE .rng [.slot 1] [.ow (.lst [.int k,.int s]) true false,.sh (.int (N:Int)),.ow (.lst (nD (List.range N))) false false,.ow (.lst []) false false,.un]=some ((List.range N).map λ(j:Nat)=>.int (j:Int),none):=by(refine Eq.trans (nR (n:=(N:Int)) rfl (by omega) (by omega)) ?_;rw[Int.toNat_natCast])
 obtain⟨ρ',e,s6,ft,lf,t4,rfl,_,hpm,hfl⟩:=dA (bind:=aY true [4]) (body:=exs T.pins (run T W (n+1)) W kZ)
  (λpre ρ=>∃s6 ft lf t4,ρ=[.ow (.lst [.int k,.int s6]) true false,.sh (.int (N:Int)),.ow (.lst (nD lf)) false false,.ow (.lst (nD ft)) false false,t4]/\bR t4=true/\(ft++lf).Perm (List.range N)/\ft.length=pre.length)
  (ds:=(List.range N).map λ(j:Nat)=>.int (j:Int)) (λpre d post hds ρ hρ=>by
   obtain⟨s6,ft,lf,t4,rfl,h4,hpm,hfl⟩:=hρ;obtain⟨rfl,hb⟩:=uT hds;have hlen:=hpm.length_eq;rw[Za,List.length_range] at hlen;have g1:(0:Int)<(lf.length:Int):=by omega
   have g2:(lf.length:Int)<nofun:=by omega
   have v1:=aZ (k:=k) (s:=s6) g1;have v2:=a9 (k:=k) (s:=s6) g1;obtain⟨q,hq⟩:∃q:Nat,aT k s6 (lf.length:Int)=(q:Int):=⟨_,(Int.toNat_of_nonneg v1).symm⟩
   have hql:q<lf.length:=by omega
   have hpop:∀ρ:Env,GU 2 (.sh (.int (q:Int))) ρ (some (.ow (.lst (nD lf)) false false))=some (.ok (.sh (.int ((lf[q]:Nat):Int))),ρ.set 2 (.ow (.lst (nD (lf.eraseIdx q))) false false)):=λρ=>by
    have h9:(nD lf)[(q:Int).toNat]?=some (.int ((lf[q]:Nat):Int)):=by(unfold nD;rw[Int.toNat_natCast,Zh,Zb hql];rfl)
    have h8:(nD lf).eraseIdx (q:Int).toNat=nD (lf.eraseIdx q):=by(unfold nD;rw[Int.toNat_natCast,List.eraseIdx_eq_take_drop_succ,List.eraseIdx_eq_take_drop_succ,zd,List.map_take,List.map_drop])
    rw[aBJ (by omega) (by omega) h9,h8]
   refine⟨_,by simp only[hV,bD h4]<;>rfl, ?_⟩;refine⟨[.ow (.lst [.int k,.int (aG k s6 (lf.length:Int))]) true false,.sh (.int (N:Int)),.ow (.lst (nD (lf.eraseIdx q))) false false,.ow (.lst (nD (ft++[lf[q]]))) false false,.sh (.int (pre.length:Int))], ?_,_,_,_,_,rfl,rfl, ?_,by simp[hfl]⟩
   ·have hap:nD (ft++[lf[q]])=nD ft++[.int ((lf[q]:Nat):Int)]:=Z1;have hsm:aP ((nD ft).length+1)=true:=bQ (by rw[BF];omega);have hll:(nD lf).length=lf.length:=BF;rw[hap];unfold kZ;clear hds hpm hfl hb hlen v1 v2 hi hlr h4 hap
    generalize ((lf[q]:Nat):Int)=y at *
    clear hql
    generalize nD (lf.eraseIdx q)=L2 at *
    generalize nD lf=L1 at *
    generalize nD ft=L3 at *
    walk_at "!bM"
   ·rw[List.append_assoc];refine(List.Perm.append_left ft ?_).trans hpm;rw[List.eraseIdx_eq_take_drop_succ];have pm:(lf.take q++lf[q]::lf.drop (q+1)).Perm (lf[q]::(lf.take q++lf.drop (q+1))):=List.perm_middle;rw[<- List.drop_eq_getElem_cons hql,List.take_append_drop] at pm
    exact pm.symm)
  (ρ:=[.ow (.lst [.int k,.int s]) true false,.sh (.int (N:Int)),.ow (.lst (nD (List.range N))) false false,.ow (.lst []) false false,.un]) ⟨_,[],_,_,rfl,rfl,.refl _,rfl⟩
 rw[List.length_map,List.length_range] at hfl
 have:lf=[]:=by
  have:=hpm.length_eq
  rw[Za,List.length_range] at this;exact List.eq_nil_of_length_eq_zero (by omega)
 subst this;rw[List.append_nil] at hpm;refine⟨s6,ft, ?_,hpm⟩;clear hpm hfl
 walk_at "!bM"
theorem qE{tests elt:Env->aM RV}{bind:D->Env->Option Env}{ds:List D}(keep:D->Bool)(J:Env->Prop)
  (step:∀d∈ds,∀ρ,J ρ->∃ρ1 ρ2 ρ3,bind d ρ=some ρ1/\tests ρ1=some (.ok (.sh (.bl (keep d))),ρ2)/\elt ρ2=some (.ok (.sh d),ρ3)/\J ρ2/\J ρ3) {ρ:Env} (h:J ρ) :
  ∃ρ',c8 tests elt bind ds [] ρ=some (.ok (ds.filter keep),ρ')/\J ρ':=by
 have:=BC (tests:=tests) (elt:=elt) (bind:=bind) (xs:=ds) (λd=>d) keep (λd=>d) J (λd hd ρ hρ=>by
  obtain⟨ρ1,ρ2,ρ3,h1,h2,h3,h4,h5⟩:=step d hd ρ hρ
  exact⟨ρ1,ρ2,h1,h2,λ_=>⟨_,ρ3,h3,rfl,h5⟩,λ_=>h4⟩) h
 rw[List.map_id',List.map_id'] at this;exact this
theorem aCa{j:Nat}:∀{ks:List Nat},bX .In (.int (j:Int)) (.lst (nD ks))=some (ks.contains j):=by
 intro ks
 have h:∀ks:List Nat,BK (.int (j:Int)) (nD ks)=ks.contains j/\(nD ks).all cV=true:=by
  intro ks
  induction ks with
  |nil=>exact⟨rfl,rfl⟩
  |cons k ks ih =>
   refine⟨?_, ?_⟩
   ·show(((k:Int)==(j:Int))||BK (.int (j:Int)) (nD ks))=_;rw[ih.1,List.contains_cons];congr 1;by_cases e:k=j
    ·subst e;simp
    ·have h1:((k:Int)==(j:Int))=false:=beq_eq_false_iff_ne.mpr (by omega);have h2:(j==k)=false:=by simpa using λz=>e z.symm
     rw[h1,h2]
   ·show(true&&(nD ks).all cV)=true;rw[ih.2];rfl
 show(if(cV (.int (j:Int))&&(nD ks).all cV)=true then some (BK (.int (j:Int)) (nD ks)) else none)=_;rw[(h ks).1,(h ks).2];rfl
def F5(c:Int):D->Bool
 |.tup [.int b,_,_]=>decide (b<c)
 |_=>false
def uH(S:Int->Bool):D->Bool
 |.tup [_,.int i,_]=>S i
 |_=>false
section
variable{no ba oc:Int}{fs:List (Int×Int×Bool)}{rs:List D}{m:Nat}{ps:List RP}{xs:List Int}{ks:List Nat}
noncomputable def FK(ps:List RP)(xs:List Int)(ks:List Nat):List D:=eN ps xs xs.length ((List.range ps.length).filter λk=>ks.contains k)
theorem oH{S:Int->Bool}(hS:∀k:Nat,S (k:Int)=ks.contains k):(aR ps xs xs.length).filter (uH S)=FK ps xs ks:=by
 rw[AO]
 exact DG (S:=λk=>ks.contains k) λb k p d hd=>by(obtain⟨is,_,rfl⟩:=gG hd;exact hS k)
theorem NK{c:Nat}(hc:c<=xs.length):(aR ps xs xs.length).filter (F5 (c:Int))=aR ps xs c:=by
 refine HX (λb j is=>?_) _ hc;show decide ((b:Int)<(c:Int))=_;by_cases h:b<c
 ·rw[Zn h,Zn (by omega)]
 ·rw[Zm h,Zm (by omega)]
theorem QE{L:List D}(h:∀d∈L,∃b j is,d=cN b j is):bA 20 (.lst L)=true:=by
 show L.all (bA 19)=true;rw[List.all_eq_true];intro d hd;obtain⟨b,j,is,rfl⟩:=h d hd;exact E8
theorem nZ{n:Nat}{d:D}(h:d∈aR ps xs n):∃b j is,d=cN b j is:=by
 obtain⟨b,_,h⟩:=List.mem_flatMap.mp h;obtain⟨j,is,rfl⟩:=rZ ps 0 h;exact⟨b,j,is,rfl⟩
theorem IE{b:Nat}{d:D}:∀(qs:List RP) (i:Nat),d∈cR xs b i qs->∃j is,d=cN b j is/\j<i+qs.length
 |q::qs,i,h=>by
  rw[cR] at h;rcases zp.mp h with h | h
  ·obtain⟨is,_,rfl⟩:=gG h;exact⟨i,is,rfl,by simp⟩
  ·obtain⟨j,is,rfl,hj⟩:=IE qs _ h;exact⟨j,is,rfl,by simp;omega⟩
theorem qO{W:Nat}(ha:∀(rs:List D) (m:Nat),∀p∈ps,RX no ba oc fs rs m p)(hrs:ps.map (·.1)=rs)(hn:ks.Nodup)(hk:∀k∈ks,k<ps.length)(hl:ks.length<=8)(hx:∀x∈xs,0<=x/\x<no)(lx:xs.length<=80) :
  run T W 29 "L_with" [.sh (aB no ba oc fs rs),.ow (.lst (nD ks)) true false]=some (.ok (.sh (aB no ba oc fs ((ks.map (pk ps)).map (·.1)))),[.sh (aB no ba oc fs rs),.ow (.lst (nD ks)) true false]) /\
  run T W 29 "breaks" [.sh (aB no ba oc fs ((ks.map (pk ps)).map (·.1))),~~~xs]=some (.ok (.ow (.lst (aR (ks.map (pk ps)) xs xs.length))),[.sh (aB no ba oc fs ((ks.map (pk ps)).map (·.1))),~~~xs]) /\
  run T W 29 "L_named" [.ow (.lst (aR (ks.map (pk ps)) xs xs.length)) true false,.ow (.lst (nD ks)) true false]=some (.ok (.ow (.lst (FK ps xs ks))),[.ow (.lst (aR (ks.map (pk ps)) xs xs.length)) true false,.ow (.lst (nD ks)) true false]) /\
  run T W 29 "is_let_by" [.sh (aB no ba oc fs ((ks.map (pk ps)).map (·.1))),~~~xs]=some (.ok (.sh (.bl (aR (ks.map (pk ps)) xs xs.length).isEmpty)),[.sh (aB no ba oc fs ((ks.map (pk ps)).map (·.1))),~~~xs]):=by
 have hq:∀p∈ks.map (pk ps),RX no ba oc fs ((ks.map (pk ps)).map (·.1)) 0 p:=λp hp=>by(obtain⟨k,h1,rfl⟩:=List.mem_map.mp hp;exact ha _ _ _ (LZ (hk k h1)))
 have hl2:((ks.map (pk ps)).map (·.1)).length<=8:=by simpa using hl
 have hz:=kC (xs:=xs) hq (by simpa using hl) xs.length;refine⟨JB (n:=28) hrs hk hl,oI (n:=23) rfl hq hl2 hx lx, ?_,AR (n:=22) rfl hq hl2 hx lx⟩
 have h1:=HK (W:=W) (n:=28) (ks:=ks) (A:=aR (ks.map (pk ps)) xs xs.length) (λd hd=>by
  obtain⟨b,_,h⟩:=List.mem_flatMap.mp hd;obtain⟨j,is,rfl,hj⟩:=IE _ 0 h
  exact⟨b,j,is,rfl,by simpa using hj⟩) (by have:8000*xs.length<=8000*80:=Nat.mul_le_mul_left _ lx;omega) (by rw[tM];exact BB)
 rw[tM,NC (ha rs 0) hn hk] at h1;exact h1
theorem JM{L:List D}{c:Nat}:AZ (some (.lst L)) none (some (.int (c:Int)))=some (.ow (.lst (L.take c))):=by
 show some (RV.ow (.lst (rC L none (some (c:Int)))))=_;unfold rC;rw[HT.MD,HT.wJ,List.drop_zero,Nat.sub_zero];rcases Nat.le_total c L.length with h | h
 ·rw[Nat.min_eq_left h]
 ·rw[Nat.min_eq_right h,zf (Zq _),zf h]
theorem JX{C:Calls}{c:Nat}(hc:c<=xs.length):∃t,c8 (cI T.pins C [(.cmp .Lt (.ix (.var 2) (.con (.int 0))) (.var 0))]) (ev T.pins C false oJ) (aY true [2]) (aR ps xs xs.length) [] [.sh (.int (c:Int)),.un,.un]=some (.ok (aR ps xs c),[.sh (.int (c:Int)),.un,t]):=by
 obtain⟨ρ',e,t,rfl,_⟩:=qE (tests:=cI T.pins C [(.cmp .Lt (.ix (.var 2) (.con (.int 0))) (.var 0))]) (elt:=ev T.pins C false oJ) (bind:=aY true [2]) (ds:=aR ps xs xs.length) (F5 (c:Int))
  (λρ=>∃t,ρ=[.sh (.int (c:Int)),.un,t]/\bR t=true)
  (λd hd ρ hρ=>by
   obtain⟨t,rfl,ht⟩:=hρ;obtain⟨b,j,is,rfl⟩:=nZ hd;have hx:iU (some (cN b j is)) (.int 0)=some (.sh (.int (b:Int))):=rfl;have hb:F5 (c:Int) (cN b j is)=decide ((b:Int)<(c:Int)):=rfl;rw[hb]
   generalize cN b j is=z at *
   refine⟨[.sh (.int (c:Int)),.un,.sh z],[.sh (.int (c:Int)),.un,.sh z],[.sh (.int (c:Int)),.un,.sh z],by simp only[hV,bD ht]<;>rfl, ?_, ?_,⟨_,rfl,rfl⟩,⟨_,rfl,rfl⟩⟩
   ·clear hd ht hc hb
    walk_at "!%"
   ·unfold oJ;clear hd ht hc hb hx
    walk_at "!%") (ρ:=[.sh (.int (c:Int)),.un,.un]) ⟨_,rfl,rfl⟩
 rw[NK hc] at e;exact⟨t,e⟩
theorem MT{C:Calls}{k:Nat}:∃t,c8 (cI T.pins C [(.cmp .Eq (.ix (.var 2) (.con (.int 1))) (.var 0))]) (ev T.pins C false n0) (aY true [2]) (aR ps xs xs.length) [] [.sh (.int (k:Int)),.un,.un]=some (.ok (FK ps xs [k]),[.sh (.int (k:Int)),.un,t]):=by
 obtain⟨ρ',e,t,rfl,_⟩:=qE (tests:=cI T.pins C [(.cmp .Eq (.ix (.var 2) (.con (.int 1))) (.var 0))]) (elt:=ev T.pins C false n0) (bind:=aY true [2]) (ds:=aR ps xs xs.length) (uH λi=>decide (i=(k:Int)))
  (λρ=>∃t,ρ=[.sh (.int (k:Int)),.un,t]/\bR t=true)
  (λd hd ρ hρ=>by
   obtain⟨t,rfl,ht⟩:=hρ;obtain⟨b,j,is,rfl⟩:=nZ hd;have hx:iU (some (cN b j is)) (.int 1)=some (.sh (.int (j:Int))):=rfl;have hb:uH (λi=>decide (i=(k:Int))) (cN b j is)=decide ((j:Int)=(k:Int)):=rfl;rw[hb]
   generalize cN b j is=z at *
   refine⟨[.sh (.int (k:Int)),.un,.sh z],[.sh (.int (k:Int)),.un,.sh z],[.sh (.int (k:Int)),.un,.sh z],by simp only[hV,bD ht]<;>rfl, ?_, ?_,⟨_,rfl,rfl⟩,⟨_,rfl,rfl⟩⟩
   ·clear hd ht hb
    walk_at "!%"
   ·unfold n0;clear hd ht hb hx
    walk_at "!%") (ρ:=[.sh (.int (k:Int)),.un,.un]) ⟨_,rfl,rfl⟩
 rw[oH (ks:=[k]) (λj=>by
  by_cases h:j=k
  ·subst h;simp
  ·rw[Zm (by omega)]
   symm
   simpa using h)] at e
 exact⟨t,e⟩
theorem LD{C:Calls}:∃t,c8 (cI T.pins C [(.cmp .In (.ix (.var 2) (.con (.int 1))) (.var 0))]) (ev T.pins C false nS) (aY true [2]) (aR ps xs xs.length) [] [.ow (.lst (nD ks)) true false,.un,.un]=some (.ok (FK ps xs ks),[.ow (.lst (nD ks)) true false,.un,t]):=by
 obtain⟨ρ',e,t,rfl,_⟩:=qE (tests:=cI T.pins C [(.cmp .In (.ix (.var 2) (.con (.int 1))) (.var 0))]) (elt:=ev T.pins C false nS) (bind:=aY true [2]) (ds:=aR ps xs xs.length) (uH λi=>ks.contains i.toNat)
  (λρ=>∃t,ρ=[.ow (.lst (nD ks)) true false,.un,t]/\bR t=true)
  (λd hd ρ hρ=>by
   obtain⟨t,rfl,ht⟩:=hρ;obtain⟨b,j,is,rfl⟩:=nZ hd;have hx:iU (some (cN b j is)) (.int 1)=some (.sh (.int (j:Int))):=rfl;have hin:=aCa (j:=j) (ks:=ks)
   have hb:uH (λi=>ks.contains i.toNat) (cN b j is)=ks.contains j:=by(show ks.contains (j:Int).toNat=_;rw[Int.toNat_natCast])
   rw[hb]
   generalize cN b j is=z at *
   generalize ks.contains j=v at *
   refine⟨[.ow (.lst (nD ks)) true false,.un,.sh z],[.ow (.lst (nD ks)) true false,.un,.sh z],[.ow (.lst (nD ks)) true false,.un,.sh z],by simp only[hV,bD ht]<;>rfl, ?_, ?_,⟨_,rfl,rfl⟩,⟨_,rfl,rfl⟩⟩
   ·clear hd ht hb
    walk_at "!%"
   ·unfold nS;clear hd ht hb hx hin
    walk_at "!%") (ρ:=[.ow (.lst (nD ks)) true false,.un,.un]) ⟨_,rfl,rfl⟩
 rw[oH (ks:=ks) (λj=>by rw[Int.toNat_natCast])] at e;exact⟨t,e⟩
end
section
variable{no ba oc:Int}{fs:List (Int×Int×Bool)}{rs:List D}{ps:List RP}{xs:List Int}{ks:List Nat}
def CP(ps:List RP)(xs:List Int)(k:Nat):Bool:=(aR [pk ps k] xs xs.length).isEmpty
def eZ(ps:List RP)(xs:List Int)(k:Nat):List D:=(List.range k).map λj=>.bl (CP ps xs j)
theorem GI{W c:Nat}{scr:D}{t5 t6 t7 t8 t9 t10:Sl}(ha:∀(rs:List D) (m:Nat),∀p∈ps,RX no ba oc fs rs m p)(hrs:ps.map (·.1)=rs)(h8:rs.length<=8)(hx:∀x∈xs,0<=x/\x<no)(lx:xs.length<=80)(hc:c<xs.length) :
  exs T.pins (run T W 29) W oE [.sh scr,.sh (aB no ba oc fs rs),.ow (.lst (xs.map D.int)) false false,.ow (.lst (aR ps xs xs.length)) false false,.sh (.int (c:Int)),t5,t6,t7,t8,t9,t10]=some (.nx,[.sh scr,.sh (aB no ba oc fs rs),.ow (.lst (xs.map D.int)) false false,.ow (.lst (aR ps xs xs.length)) false false,.sh (.int (c:Int)),t5,t6,t7,t8,t9,t10]):=by
 have hb:=oI (W:=W) (n:=23) (xs:=xs.take c) hrs (ha rs 0) h8 (λx h=>hx x (List.mem_of_mem_take h)) (by rw[List.length_take];omega);have hlt:(xs.take c).length=c:=by rw[List.length_take];omega
 rw[hlt,JL (ha rs 0) (by omega)] at hb;replace hb:run T W 29 "breaks" [.sh (aB no ba oc fs rs),.ow (.lst ((xs.take c).map D.int)) true false]=some (.ok (.ow (.lst (aR ps xs c))),[.sh (aB no ba oc fs rs),.ow (.lst ((xs.take c).map D.int)) true false]):=hb;have hsl:AZ (some (.lst (xs.map D.int))) none (some (.int (c:Int)))=some (.ow (.lst ((xs.take c).map D.int))):=by rw[JM,List.map_take]
 have hne:=AH (E5 (xs:=xs) (n:=c) (ha rs 0));have hz:=kC (xs:=xs) (ha rs 0) (by rw[<- hrs,List.length_map] at h8;exact h8) c;have hsm:aP (aR ps xs c).length=true:=bQ (by omega);obtain⟨t,e⟩:=JX (C:=run T W 29) (ps:=ps) (xs:=xs) (c:=c) (by omega)
 generalize hA:aR ps xs xs.length=A at *
 have hi:aE .of [.slot 3] [.sh scr,.sh (aB no ba oc fs rs),.ow (.lst (xs.map D.int)) false false,.ow (.lst A) false false,.sh (.int (c:Int)),t5,t6,t7,t8,t9,t10]=some (A,some 3):=vT rfl;unfold oE
 generalize aR ps xs c=B at *
 generalize (xs.take c).map D.int=Y at *
 clear hA ha hrs h8 hx lx hc hlt hz
 walk_at "!%"
 rw[kA hi];simp only[aL,List.set_cons_zero,List.set_cons_succ]
 walk_at "!%"
 simp only[dW,cC,zt,zr,List.set_cons_zero,List.set_cons_succ,Option.map_some]
 walk_at "!%"
theorem GO{W k:Nat}{scr:D}{t4 t7 t8 t9 t10:Sl}(ha:∀(rs:List D) (m:Nat),∀p∈ps,RX no ba oc fs rs m p)(hrs:ps.map (·.1)=rs)(h8:rs.length<=8)(hx:∀x∈xs,0<=x/\x<no)(lx:xs.length<=80)(hk:k<ps.length)(h7:bR t7=true) :
  exs T.pins (run T W 29) W nL [.sh scr,.sh (aB no ba oc fs rs),.ow (.lst (xs.map D.int)) false false,.ow (.lst (aR ps xs xs.length)) false false,t4,.ow (.lst (eZ ps xs k)) false false,.sh (.int (k:Int)),t7,t8,t9,t10]=some (.nx,[.sh scr,.sh (aB no ba oc fs rs),.ow (.lst (xs.map D.int)) false false,.ow (.lst (aR ps xs xs.length)) false false,t4,.ow (.lst (eZ ps xs (k+1))) false false,.sh (.int (k:Int)),.ow (.lst (FK ps xs [k])) false false,t8,t9,t10]):=by
 have hl8:ps.length<=8:=by rw[<- hrs,List.length_map] at h8;exact h8
 obtain⟨a1,a2,a3,a4⟩:=qO (W:=W) (ks:=[k]) (xs:=xs) ha hrs (by simp) (λj hj=>by rw[ze.mp hj];exact hk) (by simp) hx lx;rw[show nD [k]=[.int (k:Int)] from rfl] at a1 a3;have hle:(aR ([k].map (pk ps)) xs xs.length).isEmpty=CP ps xs k:=rfl;rw[hle] at a4
 have hal:eZ ps xs (k+1)=eZ ps xs k++[.bl (CP ps xs k)]:=by(unfold eZ;rw[List.range_succ,zd];rfl)
 have hsm:aP ((eZ ps xs k).length+1)=true:=bQ (by unfold eZ;simp;omega);have hsm1:aP xs.length=true:=bQ (by omega)
 have hne:=AH (QE (L:=FK ps xs [k]) λd hd=>by
  obtain⟨b,j,is,_,_,_,rfl⟩:=uC hd
  exact⟨b,j,is,rfl⟩)
 have hz:(FK ps xs [k]).length<=8000*80:=by(have h1:=kC (xs:=xs) (ha rs 0) hl8 xs.length;rw[<- oH (S:=λi=>[k].contains i.toNat) (ks:=[k]) (λj=>by rw[Int.toNat_natCast])];refine Zr (List.length_filter_le _ _) (Zr h1 (Nat.mul_le_mul_left _ lx)))
 have hsm2:aP (FK ps xs [k]).length=true:=bQ (by omega);obtain⟨t,e⟩:=MT (C:=run T W 29) (ps:=ps) (xs:=xs) (k:=k);rw[hal];have hi:aE .of [.slot 3] [.sh scr,.sh (aB no ba oc fs rs),.ow (.lst (xs.map D.int)) false false,.ow (.lst (aR ps xs xs.length)) false false,t4,.ow (.lst (eZ ps xs k)) false false,.sh (.int (k:Int)),.ow (.lst (FK ps xs [k])) false false,t8,t9,t10]=some (aR ps xs xs.length,some 3):=vT rfl;unfold nL;clear hal ha hrs h8 hx lx hk hl8 hz hle
 generalize aR ps xs xs.length=A at *
 generalize aR ([k].map (pk ps)) xs xs.length=B at *
 generalize ([k].map (pk ps)).map (·.1)=R at *
 generalize FK ps xs [k]=F at *
 generalize eZ ps xs k=L at *
 generalize CP ps xs k=v at *
 walk_at "!%"
 rw[kA hi];simp only[aL,List.set_cons_zero,List.set_cons_succ]
 walk_at "!%"
 simp only[dW,cC,zt,zr,List.set_cons_zero,List.set_cons_succ,Option.map_some]
 walk_at "!%"
end
theorem XM{p:Nat->Bool}(n:Nat):lK .all [.lst ((List.range n).map λj=>.bl (p j))]=some (.sh (.bl ((List.range n).all p))):=by
 have h:∀l:List Nat,eH (l.map λj=>.bl (p j))=some (l.map p):=λl=>by
  induction l with
  |nil=>rfl
  |cons a l ih=>rw[Zs,eH,ih];rfl
 show(eH ((List.range n).map λj=>.bl (p j))).map _=_;rw[h];show some (RV.sh (.bl (((List.range n).map p).all id)))=_;rw[List.all_map];rfl
theorem T4{ps:List RP}{xs:List Int}:(List.range ps.length).all (CP ps xs)=(aR ps xs xs.length).isEmpty:=by
 have h1:∀k,CP ps xs k=true↔eN ps xs xs.length [k]=[]:=λk=>by
  unfold CP
  have:=tM (ps:=ps) (ks:=[k]) (xs:=xs) (n:=xs.length)
  rw[<- this,List.map_eq_nil_iff,List.isEmpty_iff];rfl
 rw[Bool.eq_iff_iff,List.all_eq_true,List.isEmpty_iff,AO,N2];exact⟨λh k hk=>(h1 k).mp (h k hk),λh k hk=>(h1 k).mpr (h k hk)⟩
theorem WQ{ps:List RP}{xs:List Int}{ks:List Nat}(h:ks.Perm (List.range ps.length)):FK ps xs ks=aR ps xs xs.length:=by
 rw[AO];unfold FK;rw[List.filter_eq_self.mpr λk hk=>List.contains_iff_mem.mpr (h.mem_iff.mpr hk)]
theorem law_spec(W:Nat)(ns:List Int)(hn:ns.length<=63):∃as',run T W 30 "law" [.sh (.lst (ns.map .int))]=some (.ok (.sh (.bl true)),as'):=by
 rw[bY GH rfl rfl];unfold qR;have hp1:=oA (W:=W) (n:=28) (ns:=ns) (k:=1) hn (by omega);have hp2:=oA (W:=W) (n:=28) (ns:=ns) (k:=2) hn (by omega);have hp3:=oA (W:=W) (n:=28) (ns:=ns) (k:=3) hn (by omega);have hp4:=oA (W:=W) (n:=28) (ns:=ns) (k:=4) hn (by omega);replace hp1:run T W 29 "L_pen" [.sh (.lst (ns.map .int)),.sh (.int 1)]=some (.ok (.ow (.lst [.int (dH ns 1).1,.int (dH ns 1).2])),[.sh (.lst (ns.map .int)),.sh (.int 1)]):=hp1;replace hp2:run T W 29 "L_pen" [.sh (.lst (ns.map .int)),.sh (.int 2)]=some (.ok (.ow (.lst [.int (dH ns 2).1,.int (dH ns 2).2])),[.sh (.lst (ns.map .int)),.sh (.int 2)]):=hp2;replace hp3:run T W 29 "L_pen" [.sh (.lst (ns.map .int)),.sh (.int 3)]=some (.ok (.ow (.lst [.int (dH ns 3).1,.int (dH ns 3).2])),[.sh (.lst (ns.map .int)),.sh (.int 3)]):=hp3;replace hp4:run T W 29 "L_pen" [.sh (.lst (ns.map .int)),.sh (.int 4)]=some (.ok (.ow (.lst [.int (dH ns 4).1,.int (dH ns 4).2])),[.sh (.lst (ns.map .int)),.sh (.int 4)]):=hp4
 generalize (dH ns 1).1=p1 at *
 generalize (dH ns 1).2=p2 at *
 generalize (dH ns 2).1=p3 at *
 generalize (dH ns 2).2=p4 at *
 generalize (dH ns 3).1=p5 at *
 generalize (dH ns 3).2=p6 at *
 generalize (dH ns 4).1=p7 at *
 generalize (dH ns 4).2=p8 at *
 obtain⟨sh,no,ba,oc,fs,rs,eh,ho,h8,hR⟩:=FD (W:=W) (n:=26) (k:=p1) (s:=p2);replace eh:run T W 29 "L_house" [.ow (.lst [.int p1,.int p2]) true false]=some (.ok (.sh (aB no ba oc fs rs)),[.ow (.lst [.int p1,.int sh]) true false]):=eh;obtain⟨sl,xs,el,hxl,hxs⟩:=IF (W:=W) (n:=27) (k:=p3) (s:=p4) (no:=no) (mo:=40) (by have:=ho.n1;omega) (by have:=ho.n2;omega) (by decide) (by decide);replace el:run T W 29 "L_line" [.ow (.lst [.int p3,.int p4]) true false,.sh (.int no),.sh (.int 40)]=some (.ok (.ow (.lst (xs.map D.int))),[.ow (.lst [.int p3,.int sl]) true false,.sh (.int no),.sh (.int 40)]):=el;have lx:xs.length<=80:=by omega
 obtain⟨ps,hps,ha⟩:=IJ ho rs hR;have hrl:rs.length=ps.length:=by rw[<- hps,List.length_map]
 have hl8:ps.length<=8:=by omega
 have i0:iU (some (aB no ba oc fs rs)) (.int 0)=some (.sh (.int no)):=rfl;have i4:iU (some (aB no ba oc fs rs)) (.int 4)=some (.sh (.tup rs)):=rfl;have hb:=oI (W:=W) (n:=23) (xs:=xs) hps (ha rs 0) h8 hxs lx;have hf:=uV (W:=W) (n:=23) (xs:=xs) hps (ha rs 0) h8 hxs lx;have hlb:=AR (W:=W) (n:=22) (xs:=xs) hps (ha rs 0) h8 hxs lx;replace hb:run T W 29 "breaks" [.sh (aB no ba oc fs rs),~~~xs]=some (.ok (.ow (.lst (aR ps xs xs.length))),[.sh (aB no ba oc fs rs),~~~xs]):=hb;replace hf:run T W 29 "first_break" [.sh (aB no ba oc fs rs),~~~xs]=some (.ok (.sh (l8 (aR ps xs xs.length))),[.sh (aB no ba oc fs rs),~~~xs]):=hf;replace hlb:run T W 29 "is_let_by" [.sh (aB no ba oc fs rs),~~~xs]=some (.ok (.sh (.bl (aR ps xs xs.length).isEmpty)),[.sh (aB no ba oc fs rs),~~~xs]):=hlb;obtain⟨so,ks,eo,hko⟩:=GW (W:=W) (n:=27) (N:=ps.length) (k:=p5) (s:=p6) hl8;replace eo:run T W 29 "L_order" [.ow (.lst [.int p5,.int p6]) true false,.sh (.int (ps.length:Int))]=some (.ok (.ow (.lst (nD ks))),[.ow (.lst [.int p5,.int so]) true false,.sh (.int (ps.length:Int))]):=eo;have hkl:ks.length=ps.length:=by rw[hko.length_eq,List.length_range]
 have hkn:ks.Nodup:=hko.nodup_iff.mpr List.nodup_range;have hkk:∀k∈ks,k<ps.length:=λk hk=>List.mem_range.mp (hko.mem_iff.mp hk)
 obtain⟨a1,a2,a3,_⟩:=qO (W:=W) (xs:=xs) ha hps hkn hkk (by omega) hxs lx;rw[WQ hko] at a3;have g1:(0:Int)<(ks.length:Int)+1:=by omega
 have g2:(ks.length:Int)+1<nofun:=by omega
 have hd:=bM (W:=W) (n:=28) (k:=p7) (s:=p8) g1 g2;have v1:=aZ (k:=p7) (s:=p8) g1;obtain⟨c,hc⟩:∃c:Nat,aT p7 p8 ((ks.length:Int)+1)=(c:Int):=⟨_,(Int.toNat_of_nonneg v1).symm⟩
 rw[hc] at hd;replace hd:run T W 29 "L_draw" [.ow (.lst [.int p7,.int p8]) true false,.sh (.int ((ks.length:Int)+1))]=some (.ok (.sh (.int (c:Int))),[.ow (.lst [.int p7,.int (aG p7 p8 ((ks.length:Int)+1))]) true false,.sh (.int ((ks.length:Int)+1))]):=hd
 have hsl:AZ (some (.lst (nD ks))) none (some (.int (c:Int)))=some (.ow (.lst (nD (ks.take c)))):=by(rw[JM];unfold nD;rw[List.map_take])
 obtain⟨b1,b2,b3,_⟩:=qO (W:=W) (xs:=xs) (ks:=ks.take c) ha hps (hkn.sublist (List.take_sublist _ _)) (λk hk=>hkk k (List.mem_of_mem_take hk)) (by rw[List.length_take];omega) hxs lx;obtain⟨tc,ec⟩:=LD (C:=run T W 29) (ps:=ps) (xs:=xs) (ks:=ks.take c);have okA:=E5 (xs:=xs) (n:=xs.length) (ha rs 0);have hneA:=AH okA
 have hneF:=AH (QE (L:=FK ps xs (ks.take c)) λd hd=>by
  obtain⟨b,j,is,_,_,_,rfl⟩:=uC hd
  exact⟨b,j,is,rfl⟩)
 have hzA:=kC (xs:=xs) (ha rs 0) hl8 xs.length
 have hzF:(FK ps xs (ks.take c)).length<=8000*80:=by(rw[<- oH (S:=λi=>(ks.take c).contains i.toNat) (ks:=ks.take c) (λj=>by rw[Int.toNat_natCast])];exact Zr (List.length_filter_le _ _) (Zr hzA (Nat.mul_le_mul_left _ lx)))
 have hsmF:aP (FK ps xs (ks.take c)).length=true:=bQ (by omega);have hsmx:aP xs.length=true:=bQ (by omega)
 have hall:lK .all [.lst (eZ ps xs ps.length)]=some (.sh (.bl (aR ps xs xs.length).isEmpty)):=by(rw[<- T4];exact XM ps.length)
 have heB:=RQ (d:=.bl (aR ps xs xs.length).isEmpty) rfl
 have heH:bX .Eq (l8 (aR ps xs xs.length)) (l8 (aR ps xs xs.length))=some true:=by
  refine RQ ?_
  cases q:aR ps xs xs.length with
  |nil=>rfl
  |cons d L =>
   obtain⟨b,j,is,rfl⟩:=nZ (ps:=ps) (xs:=xs) (n:=xs.length) (d:=d) (by rw[q];exact zh);exact(by simp[bA,cN,l8])
 have yN:∀{ρ:Env},aE .rng [.val (.sh (.int (xs.length:Int)))] ρ=some ((List.range xs.length).map λ(j:Nat)=>.int (j:Int),none):=FU (by omega)
 have gZ:∀{ρ:Env},aE .rng [.val (.sh (.int (ps.length:Int)))] ρ=some ((List.range ps.length).map λ(j:Nat)=>.int (j:Int),none):=FU (by omega)
 obtain⟨ρ1,e1,t4,rfl,h4⟩:=dA (bind:=aY true [4]) (body:=exs T.pins (run T W 29) W oE)
  (λ_ ρ=>∃t4,ρ=[.sh (.lst (ns.map .int)),.sh (aB no ba oc fs rs),.ow (.lst (xs.map D.int)) false false,.ow (.lst (aR ps xs xs.length)) false false,t4,.un,.un,.un,.un,.un,.un]/\bR t4=true)
  (ds:=(List.range xs.length).map λ(j:Nat)=>.int (j:Int)) (λpre d post hds ρ hρ=>by
   obtain⟨t4,rfl,h4⟩:=hρ;obtain⟨rfl,hb⟩:=uT hds;refine⟨_,by simp only[hV,bD h4]<;>rfl, ?_⟩
   exact⟨_,GI ha hps h8 hxs lx hb,_,rfl,rfl⟩)
  (ρ:=[.sh (.lst (ns.map .int)),.sh (aB no ba oc fs rs),.ow (.lst (xs.map D.int)) false false,.ow (.lst (aR ps xs xs.length)) false false,.un,.un,.un,.un,.un,.un,.un]) ⟨_,rfl,rfl⟩
 obtain⟨ρ2,e2,t6,t7,rfl,h6,h7⟩:=dA (bind:=aY true [6]) (body:=exs T.pins (run T W 29) W nL)
  (λpre ρ=>∃t6 t7,ρ=[.sh (.lst (ns.map .int)),.sh (aB no ba oc fs rs),.ow (.lst (xs.map D.int)) false false,.ow (.lst (aR ps xs xs.length)) false false,t4,.ow (.lst (eZ ps xs pre.length)) false false,t6,t7,.un,.un,.un]/\bR t6=true/\bR t7=true)
  (ds:=(List.range ps.length).map λ(j:Nat)=>.int (j:Int)) (λpre d post hds ρ hρ=>by
   obtain⟨t6,t7,rfl,h6,h7⟩:=hρ;obtain⟨rfl,hb⟩:=uT hds;refine⟨_,by simp only[hV,bD h6]<;>rfl, ?_⟩;rw[Za,List.length_singleton]
   exact⟨_,GO ha hps h8 hxs lx hb h7,_,_,rfl,rfl,rfl⟩)
  (ρ:=[.sh (.lst (ns.map .int)),.sh (aB no ba oc fs rs),.ow (.lst (xs.map D.int)) false false,.ow (.lst (aR ps xs xs.length)) false false,t4,.ow (.lst []) false false,.un,.un,.un,.un,.un]) ⟨_,_,rfl,rfl,rfl⟩
 rw[List.length_map,List.length_range] at e2;have C2:aE .of [.slot 3] [.sh (.lst (ns.map .int)),.sh (aB no ba oc fs rs),.ow (.lst (xs.map D.int)) false false,.ow (.lst (aR ps xs xs.length)) false false,t4,.ow (.lst (eZ ps xs ps.length)) false false,t6,t7,.ow (.lst (nD ks)) false false,.ow (.lst (nD (ks.take c))) false false,.un]=some (aR ps xs xs.length,some 3):=vT rfl;have hnl:(nD ks).length=ks.length:=BF;have hfst:∃v:D,l8 (aR ps xs xs.length)=v:=⟨_,rfl⟩
 have hA2:(∃d L,aR ps xs xs.length=d::L)\/aR ps xs xs.length=[]:=by
  cases aR ps xs xs.length with
  |nil=>exact .inr rfl
  |cons d L=>exact .inl ⟨d,L,rfl⟩
 clear hkk hkn hko v1 hc hzA hzF ha hps hR ho hxs hxl lx h8 hl8 hn h4 h6 h7 g1 g2 hfst hkl
 generalize eZ ps xs ps.length=AL at *
 generalize FK ps xs (ks.take c)=F at *
 generalize aR ((ks.take c).map (pk ps)) xs xs.length=B2 at *
 generalize aR (ks.map (pk ps)) xs xs.length=B1 at *
 generalize ((ks.take c).map (pk ps)).map (·.1)=R2 at *
 generalize (ks.map (pk ps)).map (·.1)=R1 at *
 generalize nD (ks.take c)=K2 at *
 generalize nD ks=K1 at *
 generalize aR ps xs xs.length=A at *
 rcases hA2 with ⟨d,L,hA⟩ | hA
 ·have hn0:bX .NotEq (.lst A) (.lst [])=some true:=by
   rw[OK okA rfl,hA];rfl
  have hat:L2.cG A 0=some (l8 A):=by rw[MS,hA];rfl
  clear hA okA
  generalize l8 A=v at *
  generalize A.isEmpty=w at *
  walk_at "!%"
  rw[kA C2];simp only[aL,List.set_cons_zero,List.set_cons_succ]
  walk_at "!%"
  simp only[dW,cC,zt,zr,List.set_cons_zero,List.set_cons_succ,Option.map_some]
  walk_at "!%"
  exact⟨_,rfl⟩
 ·have hn0:bX .NotEq (.lst A) (.lst [])=some false:=by
   rw[OK okA rfl,hA];rfl
  have hh:l8 A=.non:=by rw[hA];rfl
  rw[hh] at hf heH;clear hA okA hh
  generalize A.isEmpty=w at *
  walk_at "!%"
  rw[kA C2];simp only[aL,List.set_cons_zero,List.set_cons_succ]
  walk_at "!%"
  simp only[dW,cC,zt,zr,List.set_cons_zero,List.set_cons_succ,Option.map_some]
  walk_at "!%"
  exact⟨_,rfl⟩
end Mx
namespace PySem.W.Fast
def tw10071517401846541971:=True
def tw10083826360482325611:=True
def tw10108170966491222023:=True
def tw10145656185591960714:=True
def tw10206050311667523673:=True
def tw10346893659928560661:=True
def tw10378668192671249077:=True
def tw10527768692587905141:=True
def tw10635017045681537400:=True
def tw10823294616087409591:=True
def tw11004914798795691394:=True
def tw11139915313443294842:=True
def tw11250833206652289964:=True
def tw11335773213856721146:=True
def tw11345401036532196135:=True
def tw11355616206652692111:=True
def tw11784968578524811211:=True
def tw11820182334980635860:=True
def tw11836666250386675909:=True
def tw11844192880663547270:=True
def tw11855598946316282559:=True
def tw11910662951600726087:=True
def tw11930146276230274802:=True
def tw12268668000550371650:=True
def tw12323910993522560744:=True
def tw1236811527655890938:=True
def tw12453156915059883402:=True
def tw12613883271547959278:=True
def tw12698168712989984533:=True
def tw12819502693598588519:=True
def tw12835775408509444420:=True
def tw12934819083202960148:=True
def tw13017080811508289514:=True
def tw13135595396402377322:=True
def tw13235369535776725017:=True
def tw13272518472131917584:=True
def tw13522276817590388173:=True
def tw13537416224858655580:=True
def tw13646677046560172709:=True
def tw13881666141321372781:=True
def tw13910085319885237209:=True
def tw14014144607143994818:=True
def tw14037628577855922263:=True
def tw14105321851854541215:=True
def tw14276339884553046557:=True
def tw14505670689483018464:=True
def tw14511840982297614807:=True
def tw14644576463711529774:=True
def tw14834267019105697645:=True
def tw14875966181031533861:=True
def tw14884919388688391201:=True
def tw14894411335208077606:=True
def tw14897481388014305373:=True
def tw14921459033555756735:=True
def tw14967389132814723548:=True
def tw1499878893424145351:=True
def tw15079501624559422870:=True
def tw15082725489620335049:=True
def tw15119045800214155827:=True
def tw15182351519442761512:=True
def tw15188074714104269321:=True
def tw15289507326595673276:=True
def tw15296519649019674676:=True
def tw15322196514134769109:=True
def tw15331919143409701998:=True
def tw15347324212314391931:=True
def tw1537140101146661907:=True
def tw15383591717264242696:=True
def tw15402812248182912870:=True
def tw15429105083638294117:=True
def tw15452987355583667726:=True
def tw15468771942803405047:=True
def tw15784217856337167295:=True
def tw1580504033389590867:=True
def tw15844157305874097154:=True
def tw15949120434887484574:=True
def tw16085725838374409913:=True
def tw16159684295009112914:=True
def tw16179139932946599218:=True
def tw16228329929143424021:=True
def tw16402186958482123641:=True
def tw16447330909921554938:=True
def tw16460355545866501418:=True
def tw16548781880210745129:=True
def tw16579978775787432308:=True
def tw16738678765105670163:=True
def tw16895862536414355267:=True
def tw17013924795640520647:=True
def tw17198639716469420038:=True
def tw17265589087409358276:=True
def tw17372508969119649305:=True
def tw17401566329305466759:=True
def tw17767198595403328065:=True
def tw17959759971424253730:=True
def tw17981988657056942065:=True
def tw17985724665513707011:=True
def tw18008021131020789677:=True
def tw18102360467918186169:=True
def tw18179520965463031322:=True
def tw18183093263949031301:=True
def tw18211850660208588136:=True
def tw18214061903071213304:=True
def tw18250318085451950288:=True
def tw18272072962762025953:=True
def tw18354858266740738052:=True
def tw18368036584667221958:=True
def tw18415338743975822393:=True
def tw1974078784680929552:=True
def tw2198368871858967799:=True
def tw2257215000077534821:=True
def tw2313244722382299811:=True
def tw2443410369788430584:=True
def tw2449016065063767123:=True
def tw2502574607883432821:=True
def tw2631853182882511643:=True
def tw2657860693566208955:=True
def tw2680093350483175203:=True
def tw2707453337267478020:=True
def tw2723484056736411525:=True
def tw2741629093353705820:=True
def tw2774740923723640511:=True
def tw2883405785496423005:=True
def tw294178509527322987:=True
def tw2957945518828691311:=True
def tw3035196150767780802:=True
def tw3166069849232994292:=True
def tw3318665681379260330:=True
def tw3375957222990852635:=True
def tw3427481785936089341:=True
def tw3467473595275771821:=True
def tw3505272450503868638:=True
def tw3508864989982475456:=True
def tw3518807403994723582:=True
def tw3543756473707142348:=True
def tw3689274024770741870:=True
def tw3711266890990386590:=True
def tw371649494029445345:=True
def tw3862065211760213066:=True
def tw3976836475870681741:=True
def tw4001347541980844308:=True
def tw4008460054693621360:=True
def tw4050887606476108432:=True
def tw4124918705503299084:=True
def tw4154528341211471694:=True
def tw4210196000085012230:=True
def tw4243235015367570911:=True
def tw4249529863384672723:=True
def tw4277358147449201691:=True
def tw4313397991906029608:=True
def tw4328448350302427150:=True
def tw4359836848432627473:=True
def tw4433745903065891550:=True
def tw4467163145212250295:=True
def tw452477339078913632:=True
def tw4610689010616619527:=True
def tw466544686940703438:=True
def tw4783524900474133444:=True
def tw478834532263313602:=True
def tw4831826157404585640:=True
def tw486003662507975153:=True
def tw4942764659213789842:=True
def tw512395124675920310:=True
def tw5171790608955062569:=True
def tw5260043959290137648:=True
def tw5360030568855407410:=True
def tw5464579390875924393:=True
def tw5532035377141836861:=True
def tw5532873096050820157:=True
def tw5563655211515703492:=True
def tw5612369762362655486:=True
def tw5626747534971723880:=True
def tw5741074834484111616:=True
def tw5765884618531291022:=True
def tw584617974731063865:=True
def tw5940846755724550082:=True
def tw5967657823024860673:=True
def tw5973336154694870133:=True
def tw6274938700058495450:=True
def tw6318797957539813168:=True
def tw6376708000104481930:=True
def tw6619124537392886847:=True
def tw6742716970187716163:=True
def tw6763604734988184924:=True
def tw6797709012980461999:=True
def tw6826777308022215615:=True
def tw6881186864731620822:=True
def tw6938792997447659740:=True
def tw6966750122730721792:=True
def tw702461726482682828:=True
def tw7048080904198521555:=True
def tw7095504705530140999:=True
def tw717865220371215115:=True
def tw7212141963492664345:=True
def tw7295969275600877867:=True
def tw7351984164892058290:=True
def tw7382432772721641305:=True
def tw7399998133423361402:=True
def tw7403251202263815953:=True
def tw7459384594934506357:=True
def tw757101040433341100:=True
def tw7665660405604122586:=True
def tw7736333346005451133:=True
def tw7764075549164161622:=True
def tw7772231817768325539:=True
def tw7932096662718303164:=True
def tw8059197304118061526:=True
def tw8160051163787315459:=True
def tw824120421193866536:=True
def tw8291504730390146064:=True
def tw8411680856037665981:=True
def tw8475974364365207723:=True
def tw8600692694381597524:=True
def tw863755827349393526:=True
def tw8711508747764564915:=True
def tw8727329974644099282:=True
def tw8740098771261059685:=True
def tw8765971821778753202:=True
def tw8804748883080114725:=True
def tw8827381566946801628:=True
def tw8862691529752440440:=True
def tw8876809003350165677:=True
def tw8994716372541651641:=True
def tw9030182543751709600:=True
def tw9124577699694325068:=True
def tw9192298414466457757:=True
def tw9197505744359292472:=True
def tw9223777804503770306:=True
def tw923661392882062417:=True
def tw9242784592128777278:=True
def tw9251294815127628980:=True
def tw928866527711433313:=True
def tw9324411496613906624:=True
def tw9357074188249014510:=True
def tw940376381048383763:=True
def tw9522931231139395994:=True
def tw9612264327593053256:=True
def tw9652605758876669054:=True
def tw9705238914601517916:=True
def tw9728278277926920792:=True
def tw9729899050990763321:=True
def tw9742536694601019868:=True
def tw9757061486856420388:=True
def tw985254404776644714:=True
def tw9855377134715184219:=True
def tw9895801251054158578:=True
def tw9920043049272538728:=True
def tw9930252421177285697:=True
end PySem.W.Fast
open PySem PySem.W PyProof.Rows
set_option maxRecDepth 100000 in
set_option maxHeartbeats 0 in
theorem PySem.Challenge.cw_canonwright_k21_whole_beginnings_and_rul_holds : PySem.Challenge.rw_canonwright_k21_whole_beginnings_and_rul.Holds := by
 w_on;o_law;k_head;(case hw=>w_witness2)
 k_fill
 refine CI.MQ (l:=PySem.Challenge.rw_canonwright_k21_whole_beginnings_and_rul) (T:=Tx.T) (L:=Tx.L) (st:=Tx.top 43) (fn:=Tx.qR) (W:=1000000) (n:=30) (x:="law") (p:="_law_script") (f:="law") rfl rfl ⟨rfl,by decide,by decide,rfl⟩ rfl Tx.GH Tx.JE (by decide +kernel) (λw h Y=>PySem.W.kIn_of Y) ?factF ?mathM
 case mathM=>exact Mx.law_spec _
 case factF =>
  intro w mg h KX G
  have K_Span:CI.ClsAt (L2.aD KX) "Span":=by
   refine' CI.kM ?a ?pg ?hd ?po ?sa ?mk ?kp
   (case a | pg | hd | po | sa | mk | kp=>dsimp only[L2.aD];k_is)
  have I_Span:CI.MthAt (L2.aD KX) "Span" "__init__" "Span.__init__" (Tx.dS 20 0):=by
   refine' CI.dM ?a ?b ?i ?l ?c ?k
   (case a | b | i | l | c | k=>dsimp only[L2.aD];k_is)
  have N_Span_beat:CI.iC (L2.aD KX) "Span" "beat":=by
   refine' CI.gN ?a ?b
   (case a | b=>dsimp only[L2.aD];k_is)
  have N_Span_spans:CI.iC (L2.aD KX) "Span" "spans":=by
   refine' CI.gN ?a ?b
   (case a | b=>dsimp only[L2.aD];k_is)
  have K_Leap:CI.ClsAt (L2.aD KX) "Leap":=by
   refine' CI.kM ?a ?pg ?hd ?po ?sa ?mk ?kp
   (case a | pg | hd | po | sa | mk | kp=>dsimp only[L2.aD];k_is)
  have I_Leap:CI.MthAt (L2.aD KX) "Leap" "__init__" "Leap.__init__" (Tx.dS 21 0):=by
   refine' CI.dM ?a ?b ?i ?l ?c ?k
   (case a | b | i | l | c | k=>dsimp only[L2.aD];k_is)
  have N_Leap_most:CI.iC (L2.aD KX) "Leap" "most":=by
   refine' CI.gN ?a ?b
   (case a | b=>dsimp only[L2.aD];k_is)
  have K_Back:CI.ClsAt (L2.aD KX) "Back":=by
   refine' CI.kM ?a ?pg ?hd ?po ?sa ?mk ?kp
   (case a | pg | hd | po | sa | mk | kp=>dsimp only[L2.aD];k_is)
  have I_Back:CI.MthAt (L2.aD KX) "Back" "__init__" "Back.__init__" (Tx.dS 22 0):=by
   refine' CI.dM ?a ?b ?i ?l ?c ?k
   (case a | b | i | l | c | k=>dsimp only[L2.aD];k_is)
  have N_Back_leap:CI.iC (L2.aD KX) "Back" "leap":=by
   refine' CI.gN ?a ?b
   (case a | b=>dsimp only[L2.aD];k_is)
  have N_Back_most:CI.iC (L2.aD KX) "Back" "most":=by
   refine' CI.gN ?a ?b
   (case a | b=>dsimp only[L2.aD];k_is)
  have K_Again:CI.ClsAt (L2.aD KX) "Again":=by
   refine' CI.kM ?a ?pg ?hd ?po ?sa ?mk ?kp
   (case a | pg | hd | po | sa | mk | kp=>dsimp only[L2.aD];k_is)
  have I_Again:CI.MthAt (L2.aD KX) "Again" "__init__" "Again.__init__" (Tx.dS 23 0):=by
   refine' CI.dM ?a ?b ?i ?l ?c ?k
   (case a | b | i | l | c | k=>dsimp only[L2.aD];k_is)
  have N_Again_most:CI.iC (L2.aD KX) "Again" "most":=by
   refine' CI.gN ?a ?b
   (case a | b=>dsimp only[L2.aD];k_is)
  have K_Range:CI.ClsAt (L2.aD KX) "Range":=by
   refine' CI.kM ?a ?pg ?hd ?po ?sa ?mk ?kp
   (case a | pg | hd | po | sa | mk | kp=>dsimp only[L2.aD];k_is)
  have I_Range:CI.MthAt (L2.aD KX) "Range" "__init__" "Range.__init__" (Tx.dS 24 0):=by
   refine' CI.dM ?a ?b ?i ?l ?c ?k
   (case a | b | i | l | c | k=>dsimp only[L2.aD];k_is)
  have N_Range_low:CI.iC (L2.aD KX) "Range" "low":=by
   refine' CI.gN ?a ?b
   (case a | b=>dsimp only[L2.aD];k_is)
  have N_Range_high:CI.iC (L2.aD KX) "Range" "high":=by
   refine' CI.gN ?a ?b
   (case a | b=>dsimp only[L2.aD];k_is)
  have K_Above:CI.ClsAt (L2.aD KX) "Above":=by
   refine' CI.kM ?a ?pg ?hd ?po ?sa ?mk ?kp
   (case a | pg | hd | po | sa | mk | kp=>dsimp only[L2.aD];k_is)
  have I_Above:CI.MthAt (L2.aD KX) "Above" "__init__" "Above.__init__" (Tx.dS 25 0):=by
   refine' CI.dM ?a ?b ?i ?l ?c ?k
   (case a | b | i | l | c | k=>dsimp only[L2.aD];k_is)
  have N_Above_one:CI.iC (L2.aD KX) "Above" "one":=by
   refine' CI.gN ?a ?b
   (case a | b=>dsimp only[L2.aD];k_is)
  have N_Above_other:CI.iC (L2.aD KX) "Above" "other":=by
   refine' CI.gN ?a ?b
   (case a | b=>dsimp only[L2.aD];k_is)
  have K_Never:CI.ClsAt (L2.aD KX) "Never":=by
   refine' CI.kM ?a ?pg ?hd ?po ?sa ?mk ?kp
   (case a | pg | hd | po | sa | mk | kp=>dsimp only[L2.aD];k_is)
  have I_Never:CI.MthAt (L2.aD KX) "Never" "__init__" "Never.__init__" (Tx.dS 26 0):=by
   refine' CI.dM ?a ?b ?i ?l ?c ?k
   (case a | b | i | l | c | k=>dsimp only[L2.aD];k_is)
  have N_Never_one:CI.iC (L2.aD KX) "Never" "one":=by
   refine' CI.gN ?a ?b
   (case a | b=>dsimp only[L2.aD];k_is)
  have N_Never_other:CI.iC (L2.aD KX) "Never" "other":=by
   refine' CI.gN ?a ?b
   (case a | b=>dsimp only[L2.aD];k_is)
  have N_Never_way:CI.iC (L2.aD KX) "Never" "way":=by
   refine' CI.gN ?a ?b
   (case a | b=>dsimp only[L2.aD];k_is)
  have D_Span_broken:CI.MthAt (L2.aD KX) "Span" "broken" "Span.broken" (Tx.dS 20 1):=by
   refine' CI.dM ?a ?b ?i ?l ?c ?k
   (case a | b | i | l | c | k=>dsimp only[L2.aD];k_is)
  have D_Span_forbids:CI.MthAt (L2.aD KX) "Span" "forbids" "Span.forbids" (Tx.dS 20 2):=by
   refine' CI.dM ?a ?b ?i ?l ?c ?k
   (case a | b | i | l | c | k=>dsimp only[L2.aD];k_is)
  have D_Leap_broken:CI.MthAt (L2.aD KX) "Leap" "broken" "Leap.broken" (Tx.dS 21 1):=by
   refine' CI.dM ?a ?b ?i ?l ?c ?k
   (case a | b | i | l | c | k=>dsimp only[L2.aD];k_is)
  have D_Back_broken:CI.MthAt (L2.aD KX) "Back" "broken" "Back.broken" (Tx.dS 22 1):=by
   refine' CI.dM ?a ?b ?i ?l ?c ?k
   (case a | b | i | l | c | k=>dsimp only[L2.aD];k_is)
  have D_Again_broken:CI.MthAt (L2.aD KX) "Again" "broken" "Again.broken" (Tx.dS 23 1):=by
   refine' CI.dM ?a ?b ?i ?l ?c ?k
   (case a | b | i | l | c | k=>dsimp only[L2.aD];k_is)
  have D_Range_broken:CI.MthAt (L2.aD KX) "Range" "broken" "Range.broken" (Tx.dS 24 1):=by
   refine' CI.dM ?a ?b ?i ?l ?c ?k
   (case a | b | i | l | c | k=>dsimp only[L2.aD];k_is)
  have D_Range_forbids:CI.MthAt (L2.aD KX) "Range" "forbids" "Range.forbids" (Tx.dS 24 2):=by
   refine' CI.dM ?a ?b ?i ?l ?c ?k
   (case a | b | i | l | c | k=>dsimp only[L2.aD];k_is)
  have D_Above_broken:CI.MthAt (L2.aD KX) "Above" "broken" "Above.broken" (Tx.dS 25 1):=by
   refine' CI.dM ?a ?b ?i ?l ?c ?k
   (case a | b | i | l | c | k=>dsimp only[L2.aD];k_is)
  have D_Never_broken:CI.MthAt (L2.aD KX) "Never" "broken" "Never.broken" (Tx.dS 26 1):=by
   refine' CI.dM ?a ?b ?i ?l ?c ?k
   (case a | b | i | l | c | k=>dsimp only[L2.aD];k_is)
  have D_pitch:CI.DefAt (L2.aD KX) "pitch" (Tx.top 10):=by
   refine' CI.cB ?a ?l ?c ?k
   (case a | l | c | k=>dsimp only[L2.aD];k_is)
  have D_singer:CI.DefAt (L2.aD KX) "singer" (Tx.top 11):=by
   refine' CI.cB ?a ?l ?c ?k
   (case a | l | c | k=>dsimp only[L2.aD];k_is)
  have D_sung:CI.DefAt (L2.aD KX) "sung" (Tx.top 12):=by
   refine' CI.cB ?a ?l ?c ?k
   (case a | l | c | k=>dsimp only[L2.aD];k_is)
  have D_span:CI.DefAt (L2.aD KX) "span" (Tx.top 13):=by
   refine' CI.cB ?a ?l ?c ?k
   (case a | l | c | k=>dsimp only[L2.aD];k_is)
  have D_chord:CI.DefAt (L2.aD KX) "chord" (Tx.top 14):=by
   refine' CI.cB ?a ?l ?c ?k
   (case a | l | c | k=>dsimp only[L2.aD];k_is)
  have D_sounding_pairs:CI.DefAt (L2.aD KX) "sounding_pairs" (Tx.top 17):=by
   refine' CI.cB ?a ?l ?c ?k
   (case a | l | c | k=>dsimp only[L2.aD];k_is)
  have D_move_so:CI.DefAt (L2.aD KX) "move_so" (Tx.top 18):=by
   refine' CI.cB ?a ?l ?c ?k
   (case a | l | c | k=>dsimp only[L2.aD];k_is)
  have D_rule_of:CI.DefAt (L2.aD KX) "rule_of" (Tx.top 27):=by
   refine' CI.cB ?a ?l ?c ?k
   (case a | l | c | k=>dsimp only[L2.aD];k_is)
  have D_rules_of:CI.DefAt (L2.aD KX) "rules_of" (Tx.top 29):=by
   refine' CI.cB ?a ?l ?c ?k
   (case a | l | c | k=>dsimp only[L2.aD];k_is)
  have D_breaks_at:CI.DefAt (L2.aD KX) "breaks_at" (Tx.top 30):=by
   refine' CI.cB ?a ?l ?c ?k
   (case a | l | c | k=>dsimp only[L2.aD];k_is)
  have D_breaks:CI.DefAt (L2.aD KX) "breaks" (Tx.top 31):=by
   refine' CI.cB ?a ?l ?c ?k
   (case a | l | c | k=>dsimp only[L2.aD];k_is)
  have D_first_break:CI.DefAt (L2.aD KX) "first_break" (Tx.top 32):=by
   refine' CI.cB ?a ?l ?c ?k
   (case a | l | c | k=>dsimp only[L2.aD];k_is)
  have D_is_let_by:CI.DefAt (L2.aD KX) "is_let_by" (Tx.top 33):=by
   refine' CI.cB ?a ?l ?c ?k
   (case a | l | c | k=>dsimp only[L2.aD];k_is)
  have D_L_pen:CI.DefAt (L2.aD KX) "_law_pen" (Tx.top 35):=by
   refine' CI.cB ?a ?l ?c ?k
   (case a | l | c | k=>dsimp only[L2.aD];k_is)
  have D_L_draw:CI.DefAt (L2.aD KX) "_law_draw" (Tx.top 36):=by
   refine' CI.cB ?a ?l ?c ?k
   (case a | l | c | k=>dsimp only[L2.aD];k_is)
  have D_L_rule:CI.DefAt (L2.aD KX) "_law_rule" (Tx.top 37):=by
   refine' CI.cB ?a ?l ?c ?k
   (case a | l | c | k=>dsimp only[L2.aD];k_is)
  have D_L_house:CI.DefAt (L2.aD KX) "_law_house" (Tx.top 38):=by
   refine' CI.cB ?a ?l ?c ?k
   (case a | l | c | k=>dsimp only[L2.aD];k_is)
  have D_L_line:CI.DefAt (L2.aD KX) "_law_line" (Tx.top 39):=by
   refine' CI.cB ?a ?l ?c ?k
   (case a | l | c | k=>dsimp only[L2.aD];k_is)
  have D_L_order:CI.DefAt (L2.aD KX) "_law_order" (Tx.top 40):=by
   refine' CI.cB ?a ?l ?c ?k
   (case a | l | c | k=>dsimp only[L2.aD];k_is)
  have D_L_with:CI.DefAt (L2.aD KX) "_law_with" (Tx.top 41):=by
   refine' CI.cB ?a ?l ?c ?k
   (case a | l | c | k=>dsimp only[L2.aD];k_is)
  have D_L_named:CI.DefAt (L2.aD KX) "_law_named" (Tx.top 42):=by
   refine' CI.cB ?a ?l ?c ?k
   (case a | l | c | k=>dsimp only[L2.aD];k_is)
  have D_law:CI.DefAt (L2.aD KX) "law" (Tx.top 43):=by
   refine' CI.cB ?a ?l ?c ?k
   (case a | l | c | k=>dsimp only[L2.aD];k_is)
  have C_BAR:CI.d8 (L2.aD KX) mg Tx.T (CI.bC Tx.L) ("BAR",.con (.int 1)):=by
   refine' CI.i3 KX G ?a
   (case a=>dsimp only[L2.aD];k_is)
  have C_OCTAVE:CI.d8 (L2.aD KX) mg Tx.T (CI.bC Tx.L) ("OCTAVE",.con (.int 2)):=by
   refine' CI.i3 KX G ?a
   (case a=>dsimp only[L2.aD];k_is)
  have C_VOICES:CI.d8 (L2.aD KX) mg Tx.T (CI.bC Tx.L) ("VOICES",.con (.int 3)):=by
   refine' CI.i3 KX G ?a
   (case a=>dsimp only[L2.aD];k_is)
  have C_RULES:CI.d8 (L2.aD KX) mg Tx.T (CI.bC Tx.L) ("RULES",.con (.int 4)):=by
   refine' CI.i3 KX G ?a
   (case a=>dsimp only[L2.aD];k_is)
  have C_LATE:CI.d8 (L2.aD KX) mg Tx.T (CI.bC Tx.L) ("LATE",.con (.int 0)):=by
   refine' CI.i3 KX G ?a
   (case a=>dsimp only[L2.aD];k_is)
  have C_SHIFT:CI.d8 (L2.aD KX) mg Tx.T (CI.bC Tx.L) ("SHIFT",.con (.int 1)):=by
   refine' CI.i3 KX G ?a
   (case a=>dsimp only[L2.aD];k_is)
  have C_TURNED:CI.d8 (L2.aD KX) mg Tx.T (CI.bC Tx.L) ("TURNED",.con (.int 2)):=by
   refine' CI.i3 KX G ?a
   (case a=>dsimp only[L2.aD];k_is)
  have C_LEADER:CI.d8 (L2.aD KX) mg Tx.T (CI.bC Tx.L) ("LEADER",.con (.tup [(.int 0),(.int 0),(.bl false)])):=by
   refine' CI.E2 KX G ?a ?l ?c ?z
   (case a | l=>dsimp only[L2.aD];k_is)
   (case c=>first | rfl | decide +kernel)
   (case z=>rfl)
  have C_BY_THE_LINE:CI.d8 (L2.aD KX) mg Tx.T (CI.bC Tx.L) ("BY_THE_LINE",.con (.tup [])):=by
   refine' CI.E2 KX G ?a ?l ?c ?z
   (case a | l=>dsimp only[L2.aD];k_is)
   (case c=>first | rfl | decide +kernel)
   (case z=>rfl)
  have B_abs:CI.d8 (L2.aD KX) mg Tx.T (CI.bC Tx.L) ("abs",.blt):=by
   refine' CI.iQ KX G ?a
   (case a=>dsimp only[L2.aD];k_is)
  have B_all:CI.d8 (L2.aD KX) mg Tx.T (CI.bC Tx.L) ("all",.blt):=by
   refine' CI.iQ KX G ?a
   (case a=>dsimp only[L2.aD];k_is)
  have B_enumerate:CI.d8 (L2.aD KX) mg Tx.T (CI.bC Tx.L) ("enumerate",.blt):=by
   refine' CI.iQ KX G ?a
   (case a=>dsimp only[L2.aD];k_is)
  have B_int:CI.d8 (L2.aD KX) mg Tx.T (CI.bC Tx.L) ("int",.blt):=by
   refine' CI.iQ KX G ?a
   (case a=>dsimp only[L2.aD];k_is)
  have B_len:CI.d8 (L2.aD KX) mg Tx.T (CI.bC Tx.L) ("len",.blt):=by
   refine' CI.iQ KX G ?a
   (case a=>dsimp only[L2.aD];k_is)
  have B_list:CI.d8 (L2.aD KX) mg Tx.T (CI.bC Tx.L) ("list",.blt):=by
   refine' CI.iQ KX G ?a
   (case a=>dsimp only[L2.aD];k_is)
  have B_range:CI.d8 (L2.aD KX) mg Tx.T (CI.bC Tx.L) ("range",.blt):=by
   refine' CI.iQ KX G ?a
   (case a=>dsimp only[L2.aD];k_is)
  have B_sorted:CI.d8 (L2.aD KX) mg Tx.T (CI.bC Tx.L) ("sorted",.blt):=by
   refine' CI.iQ KX G ?a
   (case a=>dsimp only[L2.aD];k_is)
  have B_tuple:CI.d8 (L2.aD KX) mg Tx.T (CI.bC Tx.L) ("tuple",.blt):=by
   refine' CI.iQ KX G ?a
   (case a=>dsimp only[L2.aD];k_is)
  refine⟨D_law, ?_⟩;unfold Tx.L;refine CI.fc (C_BAR) ?_;refine CI.fc (C_OCTAVE) ?_;refine CI.fc (C_VOICES) ?_;refine CI.fc (C_RULES) ?_;refine CI.fc (C_LATE) ?_;refine CI.fc (C_SHIFT) ?_;refine CI.fc (C_TURNED) ?_;refine CI.fc (C_LEADER) ?_;refine CI.fc (C_BY_THE_LINE) ?_;refine CI.fc (CI.bL KX G D_pitch Tx.NR Tx.ED) ?_;refine CI.fc (CI.bL KX G D_singer Tx.JJ Tx.A1) ?_;refine CI.fc (CI.bL KX G D_sung Tx.VF Tx.JF) ?_;refine CI.fc (CI.bL KX G D_span Tx.SJ Tx.HS) ?_;refine CI.fc (CI.bL KX G D_chord Tx.NJ Tx.D7) ?_;refine CI.fc (CI.bL KX G D_sounding_pairs Tx.sC Tx.kY) ?_;refine CI.fc (CI.bL KX G D_move_so Tx.F4 Tx.yZ) ?_;refine CI.fc (CI.bL KX G D_rule_of Tx.FV Tx.fA) ?_;refine CI.fc (CI.bL KX G D_rules_of Tx.DL Tx.vO) ?_;refine CI.fc (CI.bL KX G D_breaks_at Tx.CN Tx.sU) ?_;refine CI.fc (CI.bL KX G D_breaks Tx.J1 Tx.A6) ?_;refine CI.fc (CI.bL KX G D_first_break Tx.wR Tx.oV) ?_;refine CI.fc (CI.bL KX G D_is_let_by Tx.BN Tx.sL) ?_;refine CI.fc (CI.bL KX G D_L_pen Tx.MB Tx.E7) ?_;refine CI.fc (CI.bL KX G D_L_draw Tx.KN Tx.CJ) ?_;refine CI.fc (CI.bL KX G D_L_rule Tx.JY Tx.A0) ?_;refine CI.fc (CI.bL KX G D_L_house Tx.GX Tx.xY) ?_;refine CI.fc (CI.bL KX G D_L_line Tx.HW Tx.A3) ?_;refine CI.fc (CI.bL KX G D_L_order Tx.HA Tx.yB) ?_;refine CI.fc (CI.bL KX G D_L_with Tx.LQ Tx.AX) ?_;refine CI.fc (CI.bL KX G D_L_named Tx.E9 Tx.yI) ?_;refine CI.fc (CI.bL KX G D_law Tx.JE Tx.GH) ?_;refine CI.fc (CI.kT KX G K_Span I_Span Tx.O1 (CI.fc (N_Span_beat) (CI.fc (N_Span_spans) (λ_ h=>nomatch h)))) ?_;refine CI.fc (CI.kT KX G K_Leap I_Leap Tx.O2 (CI.fc (N_Leap_most) (λ_ h=>nomatch h))) ?_;refine CI.fc (CI.kT KX G K_Back I_Back Tx.MA (CI.fc (N_Back_leap) (CI.fc (N_Back_most) (λ_ h=>nomatch h)))) ?_;refine CI.fc (CI.kT KX G K_Again I_Again Tx.II (CI.fc (N_Again_most) (λ_ h=>nomatch h))) ?_;refine CI.fc (CI.kT KX G K_Range I_Range Tx.IZ (CI.fc (N_Range_low) (CI.fc (N_Range_high) (λ_ h=>nomatch h)))) ?_;refine CI.fc (CI.kT KX G K_Above I_Above Tx.JC (CI.fc (N_Above_one) (CI.fc (N_Above_other) (λ_ h=>nomatch h)))) ?_;refine CI.fc (CI.kT KX G K_Never I_Never Tx.HY (CI.fc (N_Never_one) (CI.fc (N_Never_other) (CI.fc (N_Never_way) (λ_ h=>nomatch h))))) ?_;refine List.forall_mem_cons.mpr ⟨⟨"broken",rfl,by unfold Tx.dI;exact CI.fc (CI.iT K_Span D_Span_broken Tx.wM Tx.oO) (CI.fc (CI.iT K_Leap D_Leap_broken Tx.wZ Tx.oN) (CI.fc (CI.iT K_Back D_Back_broken Tx.xG Tx.o6) (CI.fc (CI.iT K_Again D_Again_broken Tx.uS Tx.nF) (CI.fc (CI.iT K_Range D_Range_broken Tx.vW Tx.m9) (CI.fc (CI.iT K_Above D_Above_broken Tx.vE Tx.mJ) (CI.fc (CI.iT K_Never D_Never_broken Tx.uK Tx.mO) (λ_ h=>nomatch h)))))))⟩, ?_⟩;refine List.forall_mem_cons.mpr ⟨⟨"forbids",rfl,by unfold Tx.eK;exact CI.fc (CI.iT K_Span D_Span_forbids Tx.vG Tx.mS) (CI.fc (CI.iT K_Range D_Range_forbids Tx.tX Tx.lD) (λ_ h=>nomatch h))⟩, ?_⟩;refine CI.fc (B_abs) ?_;refine CI.fc (B_all) ?_;refine CI.fc (B_enumerate) ?_;refine CI.fc (B_int) ?_;refine CI.fc (B_len) ?_;refine CI.fc (B_list) ?_;refine CI.fc (B_range) ?_;refine CI.fc (B_sorted) ?_;refine CI.fc (B_tuple) ?_
  exact λ_ h=>nomatch h
