import PyProof.Rows.All
import Wide.All
import OpenK.AllK
import Wide.FinOn
import Lean
import PyProof.EqAt
import PyProof.EqKinds
import PyProof.TupleCall
import KE.KDictList
import KE.KDictOf
import PyProof.AttrMissHeap
import OpenK.KOwn
import PyProof.NsDelKeeps
import KE.KIsAll
import PyProof.ExcArgsOwn
import PyProof.ExcAttrAll.ValueError
import PyProof.ExcClass3
import PyProof.ExcInit
import KE.KIntText
import PyProof.NeData
import PySem.Challenge.RW_canonwright_k49_pairs_that_show
local macro_rules|`(nofun)=>`(100000000000000000000000000000000000000000000000000000000000000000000000000000000)
set_option Elab.async false
set_option linter.all false
set_option maxRecDepth 100000
theorem ZB:type_of% @Bool.and_eq_true:=@Bool.and_eq_true
theorem Za.{u}:type_of% @List.length_append.{u}:=@List.length_append.{u}
theorem Zb.{u}:type_of% @List.getElem?_eq_getElem.{u}:=@List.getElem?_eq_getElem.{u}
theorem Zc.{u}:type_of% @List.getElem?_eq_some_iff.{u}:=@List.getElem?_eq_some_iff.{u}
theorem Zd:type_of% @PySem.Heap.get?_push_of_some:=@PySem.Heap.get?_push_of_some
theorem Ze.{u}:type_of% @List.mem_cons_of_mem.{u}:=@List.mem_cons_of_mem.{u}
theorem Zf.{u}:type_of% @List.getElem?_set_ne.{u}:=@List.getElem?_set_ne.{u}
theorem Zg.{u}:type_of% @List.length_singleton.{u}:=@List.length_singleton.{u}
theorem Zh.{u,v}:type_of% @List.getElem?_map.{u,v}:=@List.getElem?_map.{u,v}
theorem Zi.{u}:type_of% @List.size_toArray.{u}:=@List.size_toArray.{u}
theorem Zj.{u}:type_of% @List.all_cons.{u}:=@List.all_cons.{u}
theorem Zk.{u}:type_of% @List.length_cons.{u}:=@List.length_cons.{u}
theorem Zl:type_of% @Nat.lt_of_lt_of_le:=@Nat.lt_of_lt_of_le
theorem Zm:type_of% @decide_eq_false:=@decide_eq_false
theorem Zn:type_of% @decide_eq_true:=@decide_eq_true
theorem Zo.{u}:type_of% @if_pos.{u}:=@if_pos.{u}
theorem Zp.{u}:type_of% @if_neg.{u}:=@if_neg.{u}
theorem Zq:type_of% @Nat.le_refl:=@Nat.le_refl
theorem Zr:type_of% @Nat.le_trans:=@Nat.le_trans
theorem Zs.{u,v}:type_of% @List.map_cons.{u,v}:=@List.map_cons.{u,v}
theorem Zt:type_of% @PySem.wpAny_bind:=@PySem.wpAny_bind
theorem Zu:type_of% @PySem.wpAny_pure:=@PySem.wpAny_pure
theorem Zv:type_of% @PySem.Heap.lt_size:=@PySem.Heap.lt_size
theorem Zw:type_of% @PySem.Heap.get?_push_size:=@PySem.Heap.get?_push_size
theorem Zy.{u}:type_of% @eq_of_beq.{u}:=@eq_of_beq.{u}
theorem Zz:type_of% @Nat.ne_of_lt:=@Nat.ne_of_lt
theorem zd.{u,v}:type_of% @List.map_append.{u,v}:=@List.map_append.{u,v}
theorem ze.{u}:type_of% @List.mem_singleton.{u}:=@List.mem_singleton.{u}
theorem zf.{u}:type_of% @List.take_of_length_le.{u}:=@List.take_of_length_le.{u}
theorem zg.{u}:type_of% @List.length_set.{u}:=@List.length_set.{u}
theorem zh.{u}:type_of% @List.mem_cons_self.{u}:=@List.mem_cons_self.{u}
theorem zj.{u}:type_of% @List.mem_of_getElem?.{u}:=@List.mem_of_getElem?.{u}
theorem zk.{u}:type_of% @List.getElem?_set_self.{u}:=@List.getElem?_set_self.{u}
theorem zl.{u,v}:type_of% @List.mem_map.{u,v}:=@List.mem_map.{u,v}
theorem zo.{u}:type_of% @List.mem_append.{u}:=@List.mem_append.{u}
theorem zr.{u}:type_of% @List.getElem?_cons_zero.{u}:=@List.getElem?_cons_zero.{u}
open PySem.W (Frag nsIn findIn)
open PySem (Str)
set_option compiler.extract_closed false
set_option genSizeOf false
set_option bootstrap.genMatcherCode false
noncomputable section
namespace L2
open PySem PySem.Spec PyProof.Rows
abbrev kT:=Sum Int Str
noncomputable def wA:kT->Value->Bool
 |.inl k,v=>Value.isInt k v
 |.inr x,v=>Value.isStrOf x v
noncomputable def aHw(w:World):kT->Int
 |.inl k=>hashInt k
 |.inr x=>hashStr w x
theorem eA:∀{k:kT} {v:Value},wA k v=true->(∃i t,k=Sum.inl i/\v=Value.int i t)\/(∃x t,k=Sum.inr x/\v=Value.str x t)
 |.inl i,v,h=>by
  obtain⟨t,e⟩:=Value.isInt_shape (k:=i) h;exact .inl ⟨i,t,rfl,e⟩
 |.inr x,v,h=>by(obtain⟨t,e⟩:=Value.isStrOf_shape h;exact .inr ⟨x,t,rfl,e⟩)
def QJ(i:Int)(t:Tok):wA (.inl i) (.int i t)=true:=by simp[wA,Value.isInt]
def O4(x:Str)(t:Tok):wA (.inr x) (.str x t)=true:=by simp[wA,Value.isStrOf]
def aBT(a b:Int):decide ((Sum.inl a:kT)=Sum.inl b)=(a==b):=by
 by_cases e:a=b
 ·subst e;simp
 ·have h:¬(Sum.inl a:kT)=Sum.inl b:=λq=>e (Sum.inl.inj q)
  rw[Zm h];exact(beq_eq_false_iff_ne.mpr e).symm
def aDH(a b:Str):decide ((Sum.inr a:kT)=Sum.inr b)=decide (a=b):=by
 by_cases e:a=b
 ·subst e;simp
 ·have h:¬(Sum.inr a:kT)=Sum.inr b:=λq=>e (Sum.inr.inj q)
  rw[Zm h,Zm e]
def aEz(a:Int)(b:Str):decide ((Sum.inl a:kT)=Sum.inr b)=false:=Zm (λq=>nomatch q)
def aEj(a:Str)(b:Int):decide ((Sum.inr a:kT)=Sum.inl b)=false:=Zm (λq=>nomatch q)
noncomputable def eL(prog:Program)(w:World):PySem.KeyKind prog w kT where
 is:=wA
 hash:=aHw w
 inj:=λv a b ha hb=>by
  rcases eA ha with ⟨i,t,rfl,rfl⟩ | ⟨x,t,rfl,rfl⟩
  ·rcases eA hb with ⟨j,u,rfl,e⟩ | ⟨y,u,rfl,e⟩
   ·injection e with e1 _;rw[e1]
   ·exact nomatch e
  ·rcases eA hb with ⟨j,u,rfl,e⟩ | ⟨y,u,rfl,e⟩
   ·exact nomatch e
   ·injection e with e1 _;rw[e1]
 byValue:=λk v h=>by
  rcases eA h with ⟨i,t,rfl,rfl⟩ | ⟨x,t,rfl,rfl⟩<;>rfl
 pyHash:=λhv h=>by
  rcases eA hv with ⟨i,t,rfl,rfl⟩ | ⟨x,t,rfl,rfl⟩
  ·exact wpAny_pyHash_int h
  ·exact wpAny_pyHash_str h
 eqBool:=λhu hv h=>by
  rcases eA hu with ⟨i,t,rfl,rfl⟩ | ⟨x,t,rfl,rfl⟩
  ·rcases eA hv with ⟨j,u,rfl,rfl⟩ | ⟨y,u,rfl,rfl⟩
   ·rw[aBT] at h;exact wpAny_eqBool_int h
   ·rw[aEz] at h;exact SeqAt.EqAt.int_str i t y u _ _ _ _ h
  ·rcases eA hv with ⟨j,u,rfl,rfl⟩ | ⟨y,u,rfl,rfl⟩
   ·rw[aEj] at h;exact SeqAt.EqAt.str_int x t j u _ _ _ _ h
   ·rw[aDH] at h;exact wpAny_eqBool_str h
 «strs»:=λk x t v h=>by
  rcases eA h with ⟨i,u,rfl,e⟩ | ⟨y,u,rfl,e⟩
  ·exact nomatch e
  ·injection e with e1 _
   subst e1;cases v<;>rfl
def HP(prog:Program)(w:World)(i:Int)(t:Tok):(eL prog w).is (.inl i) (.int i t)=true:=QJ i t
def IQ(prog:Program)(w:World)(x:Str)(t:Tok):(eL prog w).is (.inr x) (.str x t)=true:=O4 x t
inductive V where
 |non
 |bl (b:Bool)
 |int (i:Int)
 |str (x:Str)
 |ref (a:Addr)
 |ty (n:String)
instance (x:V):Decidable (x=.non):=by cases x<;>first | exact isTrue rfl | exact isFalse (λh=>nomatch h)
def a7:V->Value->Prop
 |.non,u=>u=Value.none
 |.bl b,u=>u=Value.bool b
 |.int i,u=>∃t,u=Value.int i t
 |.str x,u=>∃t,u=Value.str x t
 |.ref a,u=>u=Value.ref a
 |.ty n,u=>u=Value.type n
abbrev aO:List V->List Value->Prop:=Paired a7
theorem aO.length(r:aO xs us):xs.length=us.length:=Paired.length r
theorem aO.get:∀{xs:List V} {us:List Value} {i:Nat} {x:V},aO xs us->xs[i]?=some x->∃u,us[i]?=some u/\a7 x u
 |_,_,_,_,.nil,e=>by simp at e
 |_,_,0,_,.cons r _,e=>by simp at e;subst e;exact⟨_,rfl,r⟩
 |_,_,i+1,x,.cons _ t,e=>by(obtain⟨u,h1,h2⟩:=aO.get t (by simpa using e);exact⟨u,by simpa using h1,h2⟩)
theorem aO.set(r:a7 x u):∀{xs:List V} {us:List Value} (i:Nat),aO xs us->aO (xs.set i x) (us.set i u)
 |_,_,_,.nil=>.nil
 |_,_,0,.cons _ t=>.cons r t
 |_,_,i+1,.cons q t=>.cons q (aO.set r i t)
theorem aO.append:∀{xs ys:List V} {us ws:List Value},aO xs us->aO ys ws->aO (xs++ys) (us++ws)
 |_,_,_,_,.nil,s=>s
 |_,_,_,_,.cons r t,s=>.cons r (aO.append t s)
theorem aO.take:∀{xs:List V} {us:List Value} (n:Nat),aO xs us->aO (xs.take n) (us.take n)
 |_,_,0,_=>.nil
 |_,_,_+1,.nil=>.nil
 |_,_,n+1,.cons r t=>.cons r (aO.take n t)
theorem aO.drop:∀{xs:List V} {us:List Value} (n:Nat),aO xs us->aO (xs.drop n) (us.drop n)
 |_,_,0,r=>r
 |_,_,_+1,.nil=>.nil
 |_,_,n+1,.cons _ t=>aO.drop n t
def lQ:Option V->Option Value->Prop
 |some v,some u=>a7 v u
 |none,none=>True
 |_,_=>False
def KV:List (J×V)->List (J×Value)->Prop:=Paired λ(p:J×V) (q:J×Value)=>p.1=q.1/\a7 p.2 q.2
noncomputable def kV:kT->V
 |.inl i=>.int i
 |.inr x=>.str x
inductive HO where
 |lst (xs:List V)
 |tup (xs:List V)
 |dK (kvs:List (kT×V))
 |set (S:Int->Bool) (n:Nat)
 |ins (C dx:Addr) (fs:List (Str×V))
 |own (x:Addr)
 |met (f x:Addr)
 |rng (lo hi:Int)
 |frz (o:Obj) (u:HO)
 |tbl (ps:Array Value)
 |ext (φ:Heap->Prop)
abbrev Hp:=Addr->Option HO
noncomputable def aP(H:Hp)(a:Addr)(o:HO):Hp:=λb=>if b=a then some o else H b
def bA:aP H a o a=some o:=by unfold aP;rw[Zo rfl]
def aM(h:b≠a):aP H a o b=H b:=by unfold aP;rw[Zp h]
def BA:aP (aP H a o) a u=aP H a u:=by
 funext b;unfold aP;split<;>rfl
def bW{H:Hp}(h:H a=some o)(h':H b=none):a≠b:=by
 intro e;subst e;rw[h] at h';cases h'
section
variable(P:Program)(w:World)
def cT(H:Hp)(h:Heap)(a:Addr):HO->Prop
 |.lst xs=>xs.length<=sizeLine/\∃(its:List Value) (n:Nat),aO xs its/\h.get? a=some { cls:=.type "list",data:=.seq its.toArray n }
 |.tup xs=>xs.length<=sizeLine/\∃its:List Value,aO xs its/\IsTup h a its.toArray
 |.dK kvs=>kvs.length<=sizeLine/\(a==sysModules)=false/\∃vs,KV kvs vs/\h.DictOf (eL P w) a vs
 |.set S n=>h.SetOf (intKind P w) a S n
 |.ins C dx fs=>H dx=some (.own a)/\fs.length<=1000/\dx≠a/\h.get? a=some (PySem.W.instObj C dx) /\
   ∃mA,h.Ns1 dx mA/\(∀f,lQ (fs.lookup f) (mA f))/\PySem.Within mA (fs.map (·.1))
 |.own _=>∃o,h.get? a=some o
 |.rng lo hi=>∃t u v,h.get? a=some { cls:=.type "range",data:=.fields #[.int lo t,.int hi u,.int 1 v] }
 |.frz o u=>h.get? a=some o/\cT H h a u
 |.tbl ps=>h.get? a=some { cls:=.none,data:=.fields ps }
 |.met f x=>h.get? a=some (PySem.W.methodObj (.ref f) (.ref x))
 |.ext φ=>φ h/\(∃o,h.get? a=some o)/\∀h1 h2:Heap,φ h1->(∀o,h1.get? a=some o->h2.get? a=some o)->φ h2
def gE(H:Hp)(h:Heap):Prop:=∀a o,H a=some o->cT P w H h a o
end
section
variable{P:Program}{w:World}{H H':Hp}{h h':Heap}{a:Addr}{o:HO}
theorem cT.lt(x:cT P w H h a o):a<h.objs.size:=by
 cases o with
 |lst xs=>obtain⟨_,_,_,_,e⟩:=x;exact Zv e
 |tup xs=>obtain⟨_,_,_,p⟩:=x;exact p.lt
 |dK kvs=>obtain⟨_,_,_,_,o,_,_,e,_⟩:=x;exact Zv e
 |set S n=>obtain⟨o,_,_,_,e,_⟩:=x;exact Zv e
 |ins C dx fs=>obtain⟨_,_,_,e,_⟩:=x;exact Zv e
 |own y=>obtain⟨_,e⟩:=x;exact Zv e
 |rng lo hi=>obtain⟨_,_,_,e⟩:=x;exact Zv e
 |frz ob u=>obtain⟨e,_⟩:=x;exact Zv e
 |tbl ps=>exact Zv (show h.get? a=some _ from x)
 |met f y=>exact Zv (show h.get? a=some _ from x)
 |ext φ=>obtain⟨_,⟨_,e⟩,_⟩:=x;exact Zv e
def cT.stay(x:cT P w H h a o)(k:∀b u,(b=a\/H b=some (.own a))->h.get? b=some u->h'.get? b=some u)
  (ho:∀b,H b=some (.own a)->H' b=some (.own a)) (ht:∀b xs,H b=some (.tup xs)->H' b=some (.tup xs)):cT P w H' h' a o:=by
 induction o with
 |lst xs=>obtain⟨z,its,n,r,e⟩:=x;exact⟨z,its,n,r,k _ _ (.inl rfl) e⟩
 |tup xs=>obtain⟨z,its,r,ob,e,c⟩:=x;exact⟨z,its,r,ob,k _ _ (.inl rfl) e,c⟩
 |dK kvs=>obtain⟨z,y,vs,r,ob,es,ep,e,c⟩:=x;exact⟨z,y,vs,r,ob,es,ep,k _ _ (.inl rfl) e,c⟩
 |set S n=>obtain⟨ob,es,ep,t,e,c⟩:=x;exact⟨ob,es,ep,t,k _ _ (.inl rfl) e,c⟩
 |ins C dx fs =>
  obtain⟨d,z,ne,e,mA,⟨od,es,ep,e2,c⟩,r⟩:=x;exact⟨ho _ d,z,ne,k _ _ (.inl rfl) e,mA,⟨od,es,ep,k _ _ (.inr d) e2,c⟩,r⟩
 |own y=>obtain⟨ob,e⟩:=x;exact⟨ob,k _ _ (.inl rfl) e⟩
 |rng lo hi=>obtain⟨t,u,v,e⟩:=x;exact⟨t,u,v,k _ _ (.inl rfl) e⟩
 |frz ob u ih=>obtain⟨e,q⟩:=x;exact⟨k _ _ (.inl rfl) e,ih q⟩
 |tbl ps =>
  have e:h.get? a=some { cls:=.none,data:=.fields ps }:=x;show h'.get? a=some { cls:=.none,data:=.fields ps };exact k a _ (.inl rfl) e
 |met f y =>
  have e:h.get? a=some (PySem.W.methodObj (.ref f) (.ref y)):=x;show h'.get? a=some (PySem.W.methodObj (.ref f) (.ref y));exact k a _ (.inl rfl) e
 |ext φ=>obtain⟨p,⟨o,e⟩,st⟩:=x;exact⟨st _ _ p λo q=>k _ _ (.inl rfl) q,⟨o,k _ _ (.inl rfl) e⟩,st⟩
theorem gE.lt(x:gE P w H h)(e:H a=some o):a<h.objs.size:=(x a o e).lt
def gE.fresh(x:gE P w H h)(e:h.objs.size<=a):H a=none:=by
 cases q:H a with
 |none=>rfl
 |some u=>exact absurd (Zl (x.lt q) e) (Nat.lt_irrefl _)
def gE.kept(x:gE P w H h)(k:∀b u,h.get? b=some u->h'.get? b=some u):gE P w H h':=λa o e =>
 (x a o e).stay (λb u _ q=>k b u q) (λ_ q=>q) λ_ _ q=>q
def gE.laid(x:gE P w H h)(k:∀b u,h.get? b=some u->h'.get? b=some u)(hp:h.objs.size<=a)(new:cT P w (aP H a o) h' a o):gE P w (aP H a o) h':=λb u e=>by
 have hn:=x.fresh hp;by_cases hb:b=a
 ·subst hb;rw[bA] at e;cases e;exact new
 ·rw[aM hb] at e;exact(x b u e).stay (λc v _ q=>k c v q) (λc q=>by rw[aM (bW q hn)];exact q) λc xs q=>by rw[aM (bW q hn)];exact q
end
def Rd(H:Hp)(a:Addr)(u:HO):Prop:=H a=some u\/∃o,H a=some (.frz o u)
def Rd.ok(r:Rd H a u)(x:gE P w H h):cT P w H h a u:=by
 rcases r with r | ⟨o,r⟩
 ·exact x a u r
 ·obtain⟨_,q⟩:=x a _ r;exact q
def O9:Option HO->Prop
 |some (.lst _)=>True
 |some (.dK _)=>True
 |some (.set _ _)=>True
 |some (.ins _ _ _)=>True
 |some (.ext _)=>True
 |_=>False
section
variable{P:Program}{w:World}{H:Hp}{h h':Heap}{x e:Addr}{o':HO}
def gE.write(ok:gE P w H h)(mu:O9 (H x))(he:e=x\/H e=some (.own x))(k:∀b u,b≠e->h.get? b=some u->h'.get? b=some u)(heo:∃u,h'.get? e=some u)
  (new:cT P w (aP H x o') h' x o'):gE P w (aP H x o') h':=λb u q=>by
 have nown:∀c y,H c=some (.own y)->c≠x:=λc y r z=>by subst z;rw[r] at mu;exact mu
 have ntup:∀c xs,H c=some (.tup xs)->c≠x:=λc xs r z=>by subst z;rw[r] at mu;exact mu
 by_cases hb:b=x
 ·subst hb;rw[bA] at q;cases q;exact new
 ·rw[aM hb] at q;by_cases hbe:b=e
  ·have q':H b=some (.own x):=by
    rcases he with z | z
    ·exact absurd (hbe.trans z) hb
    ·rw[hbe];exact z
   rw[q] at q';cases q';obtain⟨v,hv⟩:=heo;exact⟨v,by rw[hbe];exact hv⟩
  ·refine(ok b u q).stay (λc v hc r=>k c v ?_ r) (λc r=>by rw[aM (nown c b r)];exact r) λc xs r=>by rw[aM (ntup c xs r)];exact r
   rcases hc with rfl | hc
   ·exact hbe
   ·rintro rfl
    rcases he with z | z
    ·exact nown c b hc z
    ·rw[hc] at z;cases z;exact hb rfl
end
structure Un(fs ex:List Addr)(H H':Hp)(h h':Heap):Prop where
 keep:∀b o,h.get? b=some o->H b=none->b ∉ fs->b ∉ ex->h'.get? b=some o
 slot:∀b o,h.get? b=some o->H b=none->b∈fs->b ∉ ex->∃sl,h'.get? b=some { o with slots:=sl }
 free:∀b o,h.get? b=some o->H b=none->b ∉ ex->H' b=none
 there:∀b o,h.get? b=some o->b ∉ ex->∃o',h'.get? b=some o'
 tups:∀b xs,H b=some (.tup xs)->H' b=some (.tup xs)
 frzs:∀b o u,H b=some (.frz o u)->H' b=some (.frz o u)
 tbls:∀b ps,H b=some (.tbl ps)->∃more,H' b=some (.tbl (ps++more))
section
variable{fs fs' ex ex':List Addr}{H H1 H2:Hp}{h h1 h2 h':Heap}{a x e:Addr}{o:HO}
def Un.any(u:Un fs ex H H1 h h1)(q:h.get? b=some ob)(n:H b=none)(hx:b ∉ ex):∃sl,h1.get? b=some { ob with slots:=sl }:=by
 by_cases hb:b∈fs
 ·exact u.slot b ob q n hb hx
 ·exact⟨ob.slots,u.keep b ob q n hb hx⟩
def Un.trans(a:Un fs ex H H1 h h1)(b:Un fs ex H1 H2 h1 h2):Un fs ex H H2 h h2 where
 keep:=λc ob q n hc hx=>b.keep c ob (a.keep c ob q n hc hx) (a.free c ob q n hx) hc hx
 slot:=λc ob q n hc hx=>by(obtain⟨sl,e1⟩:=a.slot c ob q n hc hx;obtain⟨sl',e2⟩:=b.slot c _ e1 (a.free c ob q n hx) hc hx;exact⟨sl',e2⟩)
 free:=λc ob q n hx=>by(obtain⟨o',e1⟩:=a.there c ob q hx;exact b.free c o' e1 (a.free c ob q n hx) hx)
 there:=λc ob q hx=>by(obtain⟨o',e1⟩:=a.there c ob q hx;exact b.there c o' e1 hx)
 tups:=λc xs q=>b.tups c xs (a.tups c xs q)
 frzs:=λc ob xs q=>b.frzs c ob xs (a.frzs c ob xs q)
 tbls:=λc ps q=>by(obtain⟨m1,e1⟩:=a.tbls c ps q;obtain⟨m2,e2⟩:=b.tbls c _ e1;exact⟨m1++m2,by rw[e2,Array.append_assoc]⟩)
def Un.kept(k:∀b u,h.get? b=some u->h'.get? b=some u):Un fs ex H H h h' :=
 ⟨λb ob q _ _ _=>k b ob q,λb ob q _ _ _=>⟨ob.slots,k b ob q⟩,λ_ _ _ n _=>n,λb ob q _=>⟨ob,k b ob q⟩,λ_ _ q=>q,λ_ _ _ q=>q,λ_ ps q=>⟨#[],by rw[q];simp⟩⟩
def Un.refl:Un fs ex H H h h:=Un.kept λ_ _ q=>q
def Un.laid(k:∀b u,h.get? b=some u->h'.get? b=some u)(hp:h.objs.size<=a)(hn:H a=none):Un fs ex H (aP H a o) h h' where
 keep:=λb u q _ _ _=>k b u q
 slot:=λb u q _ _ _=>⟨u.slots,k b u q⟩
 free:=λb u q n _=>by rw[aM (Zz (Zl (Zv q) hp))];exact n
 there:=λb u q _=>⟨u,k b u q⟩
 tups:=λb xs q=>by rw[aM (bW q hn)];exact q
 frzs:=λb u xs q=>by rw[aM (bW q hn)];exact q
 tbls:=λb ps q=>⟨#[],by rw[aM (bW q hn),q];simp⟩
def Un.write(mu:O9 (H x))(he:e=x\/H e=some (.own x))(k:∀b u,b≠e->h.get? b=some u->h'.get? b=some u)(heo:∃u,h'.get? e=some u):Un fs ex H (aP H x o) h h':=by
 have hx:∀b,H b=none->b≠x:=λb n z=>by subst z;rw[n] at mu;exact mu
 have hb:∀b,H b=none->b≠e:=λb n z=>by
  subst z;rcases he with r | r
  ·exact hx b n r
  ·rw[n] at r;cases r
 have hm:∀b u,H b=some u->¬O9 (some u)->b≠x:=λb u q nm z=>by subst z;rw[q] at mu;exact nm mu
 refine⟨λb u q n _ _=>k b u (hb b n) q,λb u q n _ _=>⟨u.slots,k b u (hb b n) q⟩,λb u q n _=>by rw[aM (hx b n)];exact n,λb u q _=>?_,
  λb xs q=>by rw[aM (hm b _ q λz=>z)];exact q,λb u xs q=>by rw[aM (hm b _ q λz=>z)];exact q,λb ps q=>⟨#[],by rw[aM (hm b _ q λz=>z),q];simp⟩⟩
 by_cases hbe:b=e
 ·subst hbe;exact heo
 ·exact⟨u,k b u hbe q⟩
end
noncomputable def WI(h:Heap)(H:Hp):List Addr:=(List.range h.objs.size).filter λa=>(H a).isSome
noncomputable def rH(h:Heap)(H:Hp):Heap:=PySem.W.hideAll h (WI h H)
def NJ(h:Heap)(H:Hp):(rH h H).objs.size=h.objs.size:=PySem.W.hideAll_size _ _
def SO(e:h.get? b=some o)(n:H b=none):(rH h H).get? b=some o :=
 PySem.W.hideAll_get _ e λhm=>by(have q:(H b).isSome=true:=(List.mem_filter.mp hm).2;rw[n] at q;simp at q)
def ZX(e:(rH h H).get? b=some o):h.get? b=some o/\H b=none:=by
 have e':h.get? b=some o:=PySem.W.of_hideAll (WI h H) e;refine⟨e', ?_⟩
 cases q:H b with
 |none=>rfl
 |some x =>
  have hm:b∈WI h H:=List.mem_filter.mpr ⟨List.mem_range.mpr (Zv e'),by simp[q]⟩;have z:(rH h H).get? b=none:=PySem.W.hideAll_none (WI h H) hm;rw[z] at e;cases e
noncomputable def aA6(g h:Heap)(L:Addr):List (Addr×Obj):=(List.range h.objs.size).filterMap λa=>if a=L\/(g.get? a).isSome=true then none else(h.get? a).map λo=>(a,o)
noncomputable def kD(g h:Heap)(L d:Addr):List (Addr×Obj):=(aA6 g h L).filter λp=>decide (p.1≠d)
structure Mod(K:Frag)(mg:Str->Option Value)(base:Heap):Prop where
 kin:K.In base
 glob:base.Ns mainGlobals mg
 blt:∃mb,base.Ns builtinsNs mb/\∀x:Str,x≠"__name__"->mb x=bootBuiltins x
 nolimit:base.NoLimit
structure Cx where
 prog:Program
 w:World
 K:Frag
 mg:Str->Option Value
 base:Heap
 A:Around
 N:List Str
 s₀:Shared
 H₀:Hp
 env:Env
 outer:List Env
 stack:List Env
 ex:List Addr
 fn:Str->Bool
 calm:Bool
 pn:List (Addr×Obj)
 xe:Value->Shared->Prop
def uU(l:List Env):List Addr:=l.filterMap (·.frame)
abbrev Cx.fs(X:Cx):List Addr:=uU X.outer
def N4(sc:Scope)(x:Str):Prop:=sc.names.lookup x=some .local\/sc.names.lookup x=some .cell\/sc.names.lookup x=some .free
def CS(sc:Scope)(x:Str):Prop:=sc.names.lookup x=some .local\/sc.names.lookup x=some .cell
def aHc(env:Env)(h:Heap)(m:Str->Option Value)(x:Str)(u:Value):Prop :=
 (env.kindOf x=some .local/\m x=some u)\/((env.kindOf x=some .cell\/env.kindOf x=some .free)/\∃c,env.cells.lookup x=some c/\h.IsCell c (some u))
structure Cx.Ok(X:Cx):Prop where
 mod:Mod X.K X.mg X.base
 kind:X.env.scope.kind=.function
 glob:X.env.globals=mainGlobals
 blt:X.env.builtins=builtinsNs
 above:X.s₀.heap.objs.size<=X.env.locals
 inj:∀x y c,X.env.cells.lookup x=some c->X.env.cells.lookup y=some c->x=y
 has:∀x,(X.env.kindOf x=some .cell\/X.env.kindOf x=some .free)->∃c,X.env.cells.lookup x=some c
 cab:∀x c,X.fn x=true->X.env.cells.lookup x=some c->X.s₀.heap.objs.size<=c
 hd:X.calm=true->X.A.handled=none
 frames:X.A.frames=some X.stack
 stk:X.stack=X.outer\/(X.stack=X.env::X.outer/\X.env.frame=some X.env.locals)
 exf:∀b∈X.ex,b≠X.env.locals/\∀x c,X.env.cells.lookup x=some c->c≠b
 bs:∀b o,X.base.get? b=some o->X.s₀.heap.get? b=some o/\X.H₀ b=none
 bsz:X.base.objs.size<=X.s₀.heap.objs.size
 noex:∀b o,X.base.get? b=some o->b ∉ X.ex
 exfs:∀b∈X.ex,b ∉ X.fs
 funs:X.s₀.heap.FunFrames X.base X.outer
 frf:∀b∈X.fs,X.H₀ b=none
structure Inv(X:Cx)(pins:List (Addr×Obj))(Y:List (Option V))(H:Hp)(s:Shared):Prop where
 ok:X.Ok
 os:s.os=X.s₀.os
 bare:AllBare s.gens
 base:Un X.fs X.ex X.H₀ H X.s₀.heap s.heap
 loc:∃m,s.heap.Ns X.env.locals m/\∀(i:Nat) (x:Str) (v:V),X.N[i]?=some x->Y[i]?=some (some v)->N4 X.env.scope x->∃u,a7 v u/\aHc X.env s.heap m x u
 cell:∀x c,X.env.cells.lookup x=some c->∃v,s.heap.IsCell c v
 free:H X.env.locals=none
 freeC:∀x c,X.env.cells.lookup x=some c->H c=none
 pin:∀p∈X.pn++pins,s.heap.get? p.1=some p.2/\H p.1=none/\p.1≠X.env.locals/\p.1 ∉ X.fs/\∀v,p.2.data≠.cell v
 hok:gE X.prog X.w H s.heap
 len:Y.length=X.N.length
section
variable{X:Cx}{pins:List (Addr×Obj)}{Y:List (Option V)}{H H':Hp}{s:Shared}{h':Heap}
def Cx.Ok.nofr(ok:X.Ok)(e:X.base.get? b=some o):b ∉ X.fs:=λhb=>by
 have:=(ok.funs.mem hb).1
 rw[e] at this;cases this
theorem Inv.bs(I:Inv X pins Y H s):∀b o,X.base.get? b=some o->s.heap.get? b=some o/\H b=none:=λb o e =>
 ⟨I.base.keep b o (I.ok.bs b o e).1 (I.ok.bs b o e).2 (I.ok.nofr e) (I.ok.noex b o e),I.base.free b o (I.ok.bs b o e).1 (I.ok.bs b o e).2 (I.ok.noex b o e)⟩
def Inv.bk(I:Inv X pins Y H s):∀b o,X.base.get? b=some o->s.heap.get? b=some o:=λb o e=>(I.bs b o e).1
theorem Inv.mod(I:Inv X pins Y H s):Mod X.K X.mg X.base:=I.ok.mod
def Inv.kIn(I:Inv X pins Y H s):X.K.In s.heap:=I.ok.mod.kin.keeps I.bk
theorem Inv.lt(I:Inv X pins Y H s):X.env.locals<s.heap.objs.size:=let ⟨_,hn,_⟩:=I.loc;hn.lt
def Inv.sz(I:Inv X pins Y H s):X.s₀.heap.objs.size<=s.heap.objs.size:=Zr I.ok.above (Nat.le_of_lt I.lt)
def Inv.nofs(I:Inv X pins Y H s)(h:s.heap.objs.size<=a):a ∉ X.fs:=λhb=>by
 obtain⟨_,o,ho,_⟩:=I.ok.funs.mem hb;exact absurd (Zl (Zv ho) (Zr I.sz h)) (Nat.lt_irrefl _)
def Inv.cne(I:Inv X pins Y H s):∀x c,X.env.cells.lookup x=some c->c≠X.env.locals:=λx c e z=>by
 obtain⟨v,o,ho,hd⟩:=I.cell x c e;obtain⟨m,⟨o',es,ep,ho',hd',_⟩,_⟩:=I.loc;rw[z,ho'] at ho;cases ho;rw[hd'] at hd;cases hd
theorem Inv.funs(I:Inv X pins Y H s):s.heap.FunFrames X.base X.outer:=by
 have all:∀(l:List Env),(∀b∈uU l,b∈X.fs)->X.s₀.heap.FunFrames X.base l->s.heap.FunFrames X.base l:=by
  intro l
  induction l with
  |nil=>intro _ _;trivial
  |cons env r ih =>
   intro hs hl;obtain⟨hk,⟨L,o,hf,hn,ho,hd⟩,hr⟩:=hl;have hL:L∈X.fs:=hs L (by unfold uU;rw[List.filterMap_cons,hf];exact zh);obtain⟨sl,e⟩:=I.base.slot L o ho (I.ok.frf L hL) hL λz=>I.ok.exfs L z hL
   exact⟨hk,⟨L,_,hf,hn,e,hd⟩,ih (λb hb=>hs b (by unfold uU;rw[List.filterMap_cons,hf];exact Ze _ hb)) hr⟩
 exact all X.outer (λ_ hb=>hb) I.ok.funs
theorem Inv.stack(I:Inv X pins Y H s):s.heap.FunFrames X.base X.stack:=by
 rcases I.ok.stk with e | ⟨e,hf⟩
 ·rw[e];exact I.funs
 ·rw[e];obtain⟨m,hn,_⟩:=I.loc;refine .cons (by rw[I.ok.kind];decide) hf hn ?_ I.funs;exact Heap.get?_none_of_le (Zr I.ok.bsz I.ok.above)
def Inv.stkSub(I:Inv X pins Y H s):∀b∈uU X.stack,b∈X.env.locals::X.fs:=λb hb=>by
 rcases I.ok.stk with e | ⟨e,hf⟩
 ·rw[e] at hb;exact Ze _ hb
 ·rw[e] at hb;unfold uU at hb;rw[List.filterMap_cons,hf] at hb;exact hb
def Inv.stkFree(I:Inv X pins Y H s):∀b∈uU X.stack,H b=none:=λb hb=>by
 rcases List.mem_cons.mp (I.stkSub b hb) with e | hb
 ·rw[e];exact I.free
 ·obtain⟨_,o,ho,_⟩:=I.ok.funs.mem hb;exact I.base.free b o ho (I.ok.frf b hb) λz=>I.ok.exfs b z hb
def Inv.step{ch:List Addr}(I:Inv X pins Y H s)
  (hch:∀b∈ch,(b∈X.ex\/X.s₀.heap.get? b=none)/\b≠X.env.locals/\(∀x c,X.env.cells.lookup x=some c->c≠b)/\∀p∈X.pn++pins,p.1≠b)
  (keep:∀b o,b≠X.env.locals->b ∉ X.fs->b ∉ ch->s.heap.get? b=some o->H b=none->h'.get? b=some o)
  (slot:∀b o,b≠X.env.locals->b∈X.fs->b ∉ ch->s.heap.get? b=some o->H b=none->∃sl,h'.get? b=some { o with slots:=sl }) (free:∀b o,b ∉ ch->s.heap.get? b=some o->H b=none->H' b=none)
  (there:∀b o,b ∉ ch->s.heap.get? b=some o->∃o',h'.get? b=some o')
  (tups:∀b xs,H b=some (.tup xs)->H' b=some (.tup xs)) (frzs:∀b o u,H b=some (.frz o u)->H' b=some (.frz o u)) (tbls:∀b ps,H b=some (.tbl ps)->∃more,H' b=some (.tbl (ps++more)))
  (ns:∀m,s.heap.Ns X.env.locals m->h'.Ns X.env.locals m) (hok:gE X.prog X.w H' h') (hg:AllBare g') :
  Inv X pins Y H' { s with heap:=h',gens:=g',drawn:=d',toks:=t' }:=by
 have neL:∀b o,X.s₀.heap.get? b=some o->b≠X.env.locals:=λb o e=>Zz (Zl (Zv e) I.ok.above)
 have neC:∀b o,X.s₀.heap.get? b=some o->b ∉ X.ex->b ∉ ch:=λb o e hx hb=>by
  rcases(hch b hb).1 with z | z
  ·exact hx z
  ·rw[z] at e;cases e
 have cellK:∀x c,X.env.cells.lookup x=some c->∀v,s.heap.IsCell c v->h'.IsCell c v:=λx c e v ⟨o,ho,hd⟩=>by
  have nch:c ∉ ch:=λz=>(hch c z).2.2.1 x c e rfl
  by_cases hc:c∈X.fs
  ·obtain⟨sl,q⟩:=slot c o (I.cne x c e) hc nch ho (I.freeC x c e);exact⟨_,q,hd⟩
  ·exact⟨o,keep c o (I.cne x c e) hc nch ho (I.freeC x c e),hd⟩
 refine⟨I.ok,I.os,hg,⟨λb o e n hb hx=>?_,λb o e n hb hx=>?_,λb o e n hx=>?_,λb o e hx=>?_,λb xs e=>tups b xs (I.base.tups b xs e),λb o xs e=>frzs b o xs (I.base.frzs b o xs e),λb ps e=>?_⟩, ?_,λx c e=>?_, ?_,λx c e=>?_,λp hp=>?_,hok,I.len⟩
 ·exact keep b o (neL b o e) hb (neC b o e hx) (I.base.keep b o e n hb hx) (I.base.free b o e n hx)
 ·obtain⟨sl,e1⟩:=I.base.slot b o e n hb hx;obtain⟨sl',e2⟩:=slot b _ (neL b o e) hb (neC b o e hx) e1 (I.base.free b o e n hx);exact⟨sl',e2⟩
 ·obtain⟨o',e1⟩:=I.base.there b o e hx;exact free b o' (neC b o e hx) e1 (I.base.free b o e n hx)
 ·obtain⟨o',e1⟩:=I.base.there b o e hx;exact there b o' (neC b o e hx) e1
 ·obtain⟨m1,e1⟩:=I.base.tbls b ps e;obtain⟨m2,e2⟩:=tbls b _ e1;exact⟨m1++m2,by rw[e2,Array.append_assoc]⟩
 ·obtain⟨m,hn,hl⟩:=I.loc;refine⟨m,ns m hn,λi x v e1 e2 e3=>?_⟩;obtain⟨u,r,l⟩:=hl i x v e1 e2 e3;refine⟨u,r, ?_⟩;rcases l with l | ⟨k,c,e,z⟩
  ·exact .inl l
  ·exact .inr ⟨k,c,e,cellK x c e _ z⟩
 ·obtain⟨v,z⟩:=I.cell x c e;exact⟨v,cellK x c e v z⟩
 ·obtain⟨m,⟨o,_,_,ho,_⟩,_⟩:=I.loc;exact free _ o (λz=>(hch _ z).2.1 rfl) ho I.free
 ·obtain⟨v,o,ho,hd⟩:=I.cell x c e;exact free c o (λz=>(hch c z).2.2.1 x c e rfl) ho (I.freeC x c e)
 ·obtain⟨e,n,ne,nf,d⟩:=I.pin p hp;have nch:p.1 ∉ ch:=λz=>(hch p.1 z).2.2.2 p hp rfl
  exact⟨keep p.1 p.2 ne nf nch e n,free p.1 p.2 nch e n,ne,nf,d⟩
def Inv.un{t':Nat}(I:Inv X pins Y H s)(u:Un X.fs [] H H' s.heap h')(hok:gE X.prog X.w H' h'):Inv X pins Y H' { s with heap:=h',toks:=t' }:=by
 obtain⟨m,⟨o,es,ep,ho,r⟩,_⟩:=id I.loc;obtain⟨sl,hL⟩:=u.any ho I.free (by simp)
 exact I.step (g':=s.gens) (d':=s.drawn) (ch:=[]) (λ_ z=>nomatch z) (λb o _ hb _ e n=>u.keep b o e n hb (by simp)) (λb o _ hb _ e n=>u.slot b o e n hb (by simp)) (λb o _ e n=>u.free b o e n (by simp)) (λb o _ e=>u.there b o e (by simp)) u.tups u.frzs u.tbls (λm' hm=>by
  obtain⟨o',es',ep',ho',r'⟩:=hm;rw[ho] at ho';cases ho'
  exact⟨_,es',ep',hL,r'⟩) hok I.bare
def Inv.call(I:Inv X pins Y H s)(u:Un (uU X.stack) ch H H' s.heap h')(hok:gE X.prog X.w H' h')(hg:AllBare g')
  (hch:∀b∈ch,(b∈X.ex\/X.s₀.heap.get? b=none)/\b≠X.env.locals/\(∀x c,X.env.cells.lookup x=some c->c≠b)/\∀p∈X.pn++pins,p.1≠b) :
  Inv X pins Y H' { s with heap:=h',gens:=g',drawn:=d',toks:=t' }:=by
 obtain⟨m,⟨o,es,ep,ho,r⟩,_⟩:=id I.loc;obtain⟨sl,hL⟩:=u.any ho I.free λz=>(hch _ z).2.1 rfl
 exact I.step hch (λb o hL hb hc e n=>u.keep b o e n (λz=>(List.mem_cons.mp (I.stkSub b z)).elim hL hb) hc) (λb o _ _ hc e n=>u.any e n hc) (λb o hc e n=>u.free b o e n hc) (λb o hc e=>u.there b o e hc) u.tups u.frzs u.tbls (λm' hm=>by
  obtain⟨o',es',ep',ho',r'⟩:=hm;rw[ho] at ho';cases ho'
  exact⟨_,es',ep',hL,r'⟩) hok hg
def Inv.turned{it:Addr}(I:Inv X pins Y H s)(k:∀b o,b≠it->s.heap.get? b=some o->h'.get? b=some o)(hn:H it=none)(hL:it≠X.env.locals)
  (h1:it∈X.ex\/X.s₀.heap.get? it=none) (h2:∀x c,X.env.cells.lookup x=some c->c≠it) (h3:∀p∈X.pn++pins,p.1≠it):Inv X pins Y H { s with heap:=h',toks:=t' }:=by
 have nit:∀b u,H b=some u->b≠it:=λb u e z=>by rw[z,hn] at e;cases e
 refine I.step (g':=s.gens) (d':=s.drawn) (ch:=[it]) (λb hb=>?_) (λb o _ _ hc e _=>k b o (λz=>hc (by simp[z])) e) (λb o _ _ hc e _=>⟨o.slots,k b o (λz=>hc (by simp[z])) e⟩) (λ_ _ _ _ n=>n)
  (λb o hc e=>⟨o,k b o (λz=>hc (by simp[z])) e⟩) (λ_ _ e=>e) (λ_ _ _ e=>e) (λb ps e=>⟨#[],by rw[e];simp⟩) (λm hm=>?_) (λb u e=>?_) I.bare
 ·have e:b=it:=by simpa using hb
  subst e;exact⟨h1,hL,h2,h3⟩
 ·obtain⟨o,es,ep,ho,r⟩:=hm;exact⟨o,es,ep,k _ o (Ne.symm hL) ho,r⟩
 ·refine(I.hok b u e).stay (λc v hc q=>k c v ?_ q) (λ_ q=>q) λ_ _ q=>q
  rcases hc with z | z
  ·rw[z];exact nit b u e
  ·exact nit c _ z
def Inv.tok(I:Inv X pins Y H s)(t:Nat):Inv X pins Y H { s with toks:=t }:=I.un (h':=s.heap) (t':=t) Un.refl I.hok
theorem Inv.kept(I:Inv X pins Y H s)(k:∀b u,s.heap.get? b=some u->h'.get? b=some u):Inv X pins Y H { s with heap:=h',toks:=t' }:=I.un (Un.kept k) (I.hok.kept k)
theorem Inv.laid(I:Inv X pins Y H s)(k:∀b u,s.heap.get? b=some u->h'.get? b=some u)(hp:s.heap.objs.size<=a)(new:cT X.prog X.w (aP H a o) h' a o) :
  Inv X pins Y (aP H a o) { s with heap:=h',toks:=t' }:=I.un (Un.laid k hp (I.hok.fresh hp)) (I.hok.laid k hp new)
theorem Inv.write(I:Inv X pins Y H s)(mu:O9 (H x))(he:e=x\/H e=some (.own x))(k:∀b u,b≠e->s.heap.get? b=some u->h'.get? b=some u)(heo:∃u,h'.get? e=some u)
  (new:cT X.prog X.w (aP H x o) h' x o):Inv X pins Y (aP H x o) { s with heap:=h',toks:=t' }:=I.un (Un.write mu he k heo) (I.hok.write mu he k heo new)
def Inv.pins_of(I:Inv X pins Y H s)(h:∀p∈pins',s.heap.get? p.1=some p.2/\H p.1=none/\p.1≠X.env.locals/\p.1 ∉ X.fs/\∀v,p.2.data≠.cell v):Inv X pins' Y H s :=
 ⟨I.ok,I.os,I.bare,I.base,I.loc,I.cell,I.free,I.freeC,λp hp=>(zo.mp hp).elim (λz=>I.pin p (List.mem_append_left _ z)) (h p),I.hok,I.len⟩
def GY{N:List Str}(hN:N.Nodup){i j:Nat}(a:N[i]?=some x)(b:N[j]?=some x):i=j:=by
 obtain⟨h1,e1⟩:=Zc.mp a;obtain⟨h2,e2⟩:=Zc.mp b;exact(List.getElem_inj hN).mp (e1.trans e2.symm)
def CM(I:Inv X pins Y H s)(hN:X.N.Nodup)(hi:X.N[i]?=some x)(hx:CS X.env.scope x)(r:a7 v u)
  (h:∀s',Inv X pins (Y.set i (some v)) H s'->(∃a,Heap.SameBut a s.heap s'.heap/\(a=X.env.locals\/X.env.cells.lookup x=some a))->Q () s') (hf:X.fn x=true\/X.env.scope.names.lookup x=some .local:=by first | exact .inl rfl | exact .inr rfl | assumption):wpAny M A (storeName X.env x u) Q E s:=by
 obtain⟨m,hn,hl⟩:=id I.loc;have hcls:(X.env.scope.kind==.class||(X.env.scope.kind==.module&&X.env.locals != X.env.globals))=false:=by rw[I.ok.kind];rfl
 have hiY:i<Y.length:=by rw[I.len];exact(Zc.mp hi).1
 have cne:=I.cne
 have tracked:∀{a:Addr} {h':Heap},(∃o,s.heap.get? a=some o/\H a=none)->Heap.SameBut a s.heap h'->gE X.prog X.w H h':=λ{a h'} ha hs b ob e=>by
  obtain⟨_,_,hfree⟩:=ha;refine(I.hok b ob e).stay (λc w' hc q=>(hs.2 c ?_).trans q) (λ_ q=>q) λ_ _ q=>q
  rintro rfl
  rcases hc with rfl | hc
  ·rw[hfree] at e;cases e
  ·rw[hfree] at hc;cases hc
 rcases hx with hk | hk
 ·refine wpAny_storeName_local hk hn (λh' hn' hs=>?_) hcls;obtain⟨oL,_,_,hoL,_⟩:=id hn;refine h _ ⟨I.ok,I.os,I.bare,⟨λb o e n hb hx=>?_,λb o e n hb hx=>?_,I.base.free,λb o e hx=>?_,I.base.tups,I.base.frzs,I.base.tbls⟩,⟨_,hn',λj y v' e1 e2 e3=>?_⟩,λy c e=>?_,I.free,I.freeC,λp hp=>?_,tracked ⟨oL,hoL,I.free⟩ hs,by simpa using I.len⟩ ⟨_,hs,.inl rfl⟩
  ·exact(hs.2 b (Zz (Zl (Zv e) I.ok.above))).trans (I.base.keep b o e n hb hx)
  ·obtain⟨sl,e1⟩:=I.base.slot b o e n hb hx;exact⟨sl,(hs.2 b (Zz (Zl (Zv e) I.ok.above))).trans e1⟩
  ·obtain⟨o',e1⟩:=I.base.there b o e hx;exact⟨o',(hs.2 b (Zz (Zl (Zv e) I.ok.above))).trans e1⟩
  ·by_cases hj:j=i
   ·subst hj;rw[hi] at e1;cases e1;rw[zk hiY] at e2;cases e2;exact⟨u,r,.inl ⟨hk,by simp⟩⟩
   ·rw[Zf (Ne.symm hj)] at e2;obtain⟨u',r',q⟩:=hl j y v' e1 e2 e3;refine⟨u',r', ?_⟩;rcases q with ⟨k,e⟩ | ⟨k,c,e,z⟩
    ·refine .inl ⟨k, ?_⟩
     have:y≠x:=λe=>hj (GY hN e1 (e ▸ hi))
     simp[this,e]
    ·exact .inr ⟨k,c,e,z.sameBut hs (cne y c e)⟩
  ·obtain⟨w',z⟩:=I.cell y c e;exact⟨w',z.sameBut hs (cne y c e)⟩
  ·obtain⟨e,n,ne,nf,d⟩:=I.pin p hp;exact⟨(hs.2 p.1 ne).trans e,n,ne,nf,d⟩
 ·have hfn:X.fn x=true:=by
   rcases hf with z | z
   ·exact z
   ·rw[z] at hk;cases hk
  obtain⟨c,hc⟩:=I.ok.has x (.inl hk);obtain⟨w',z⟩:=I.cell x c hc;refine wpAny_storeName_cell I.ok.kind hk hc z (λh' hc' hs=>?_);obtain⟨oc,hoc,hocd⟩:=id z;refine h { s with heap:=h' } ⟨I.ok,I.os,I.bare,⟨λb o e n hb hx=>?_,λb o e n hb hx=>?_,I.base.free,λb o e hx=>?_,I.base.tups,I.base.frzs,I.base.tbls⟩,⟨m,hn.sameBut hs (Ne.symm (cne x c hc)),λj y v' e1 e2 e3=>?_⟩,λy c' e=>?_,I.free,I.freeC,λp hp=>?_,tracked ⟨oc,hoc,I.freeC x c hc⟩ hs,by simpa using I.len⟩ ⟨c,hs,.inr hc⟩
  ·exact(hs.2 b (Zz (Zl (Zv e) (I.ok.cab x c hfn hc)))).trans (I.base.keep b o e n hb hx)
  ·obtain⟨sl,e1⟩:=I.base.slot b o e n hb hx;exact⟨sl,(hs.2 b (Zz (Zl (Zv e) (I.ok.cab x c hfn hc)))).trans e1⟩
  ·obtain⟨o',e1⟩:=I.base.there b o e hx;exact⟨o',(hs.2 b (Zz (Zl (Zv e) (I.ok.cab x c hfn hc)))).trans e1⟩
  ·by_cases hj:j=i
   ·subst hj;rw[hi] at e1;cases e1;rw[zk hiY] at e2;cases e2;exact⟨u,r,.inr ⟨.inl hk,c,hc,hc'⟩⟩
   ·rw[Zf (Ne.symm hj)] at e2;obtain⟨u',r',q⟩:=hl j y v' e1 e2 e3;refine⟨u',r', ?_⟩;rcases q with q | ⟨k,c',e,z'⟩
    ·exact .inl q
    ·refine .inr ⟨k,c',e,z'.sameBut hs ?_⟩
     rintro rfl
     exact hj (GY hN e1 (I.ok.inj _ _ _ e hc ▸ hi))
  ·by_cases hcc:c'=c
   ·subst hcc;exact⟨_,hc'⟩
   ·obtain⟨w2,z2⟩:=I.cell y c' e;exact⟨w2,z2.sameBut hs hcc⟩
  ·obtain⟨e,n,ne,nf,d⟩:=I.pin p hp;refine⟨(hs.2 p.1 ?_).trans e,n,ne,nf,d⟩;intro q;rw[q,hoc] at e;have q':oc=p.2:=Option.some.inj e;exact d w' (by rw[<- q'];exact hocd)
def UN(I:Inv X pins Y H s)(hN:X.N.Nodup)(hi:X.N[i]?=some x)(hx:CS X.env.scope x)(r:a7 v u)
  (h:∀s',Inv X pins (Y.set i (some v)) H s'->Q () s') (hf:X.fn x=true\/X.env.scope.names.lookup x=some .local:=by first | exact .inl rfl | exact .inr rfl | assumption):wpAny M A (storeName X.env x u) Q E s :=
 CM I hN hi hx r (λs' I' _=>h s' I') hf
def Inv.call'(I:Inv X pins Y H s)(ho:s'.os=s.os)(u:Un (uU X.stack) ch H H' s.heap s'.heap)(hok:gE X.prog X.w H' s'.heap)(hg:AllBare s'.gens)
  (hch:∀b∈ch,(b∈X.ex\/X.s₀.heap.get? b=none)/\b≠X.env.locals/\(∀x c,X.env.cells.lookup x=some c->c≠b)/\∀p∈X.pn++pins,p.1≠b):Inv X pins Y H' s':=by
 obtain⟨h',g',d',t',o'⟩:=s';have e:o'=s.os:=ho;subst e;exact I.call u hok hg hch
end
abbrev XK:=Value->Option Addr->Hp->Prop
abbrev St:=List (Option V)
abbrev VK:=V->Hp->Prop
abbrev TE:=St->Hp->VK->Prop
abbrev TT:=St->Hp->(Bool->Hp->Prop)->Prop
abbrev TA:=St->Hp->(List V->Hp->Prop)->Prop
structure Ends where
 nx:St->Hp->Prop
 rt:VK
 bk:St->Hp->Prop:=λ_ _=>False
 ct:St->Hp->Prop:=λ_ _=>False
abbrev TS:=Ends->St->Hp->Prop
def EP(X:Cx)(pins:List (Addr×Obj))(Y:St)(Q:VK)(u:Value)(s':Shared):Prop:=∃v H',Inv X pins Y H' s'/\a7 v u/\Q v H'
def TP(X:Cx)(pins:List (Addr×Obj))(Y:St)(Q:Bool->Hp->Prop)(b:Bool)(s':Shared):Prop:=∃H',Inv X pins Y H' s'/\Q b H'
def AP(X:Cx)(pins:List (Addr×Obj))(Y:St)(Q:List V->Hp->Prop)(us:List Value)(s':Shared):Prop:=∃vs H',Inv X pins Y H' s'/\aO vs us/\Q vs H'
def SP(X:Cx)(pins:List (Addr×Obj))(D:Ends)(f:Flow)(s':Shared):Prop :=
 match f with
 |.next=>∃Y' H',Inv X pins Y' H' s'/\D.nx Y' H'
 |.brk=>∃Y' H',Inv X pins Y' H' s'/\D.bk Y' H'
 |.cont=>∃Y' H',Inv X pins Y' H' s'/\D.ct Y' H'
 |.ret u=>∃v Y' H',Inv X pins Y' H' s'/\a7 v u/\D.rt v H'
def PE(X:Cx)(e:Expr)(t:TE):Prop :=
 ∀(pins:List (Addr×Obj)) (s:Shared) (Y:St) (H:Hp) (Q:VK),Inv X pins Y H s->t Y H Q->wpAny (model X.prog X.w) X.A (eval e X.env) (EP X pins Y Q) X.xe s
def PT(X:Cx)(e:Expr)(t:TT):Prop :=
 ∀(pins:List (Addr×Obj)) (s:Shared) (Y:St) (H:Hp) (Q:Bool->Hp->Prop),Inv X pins Y H s->t Y H Q->wpAny (model X.prog X.w) X.A (isTrue e X.env (eval e X.env)) (TP X pins Y Q) X.xe s
def PW(X:Cx)(e:Expr)(t:TT):Prop :=
 ∀(whole:Sem Value) (pins:List (Addr×Obj)) (s:Shared) (Y:St) (H:Hp) (Q:Bool->Hp->Prop),Inv X pins Y H s->t Y H Q->wpAny (model X.prog X.w) X.A (isTrue e X.env whole) (TP X pins Y Q) X.xe s
def PW.pt(h:PW X e t):PT X e t:=h _
def PA(X:Cx)(es:List Expr)(t:TA):Prop :=
 ∀(pos:Pos) (pins:List (Addr×Obj)) (s:Shared) (Y:St) (H:Hp) (Q:List V->Hp->Prop),Inv X pins Y H s->t Y H Q->wpAny (model X.prog X.w) X.A (spliced (backTo pos (starEach es X.env))) (AP X pins Y Q) X.xe s
def PS(X:Cx)(st:Stmt)(t:TS):Prop :=
 ∀(pins:List (Addr×Obj)) (s:Shared) (Y:St) (H:Hp) (D:Ends),Inv X pins Y H s->t D Y H->wpAny (model X.prog X.w) X.A (exec st X.env) (SP X pins D) X.xe s
def gH(X:Cx)(st:List Stmt)(t:TS):Prop :=
 ∀(pins:List (Addr×Obj)) (s:Shared) (Y:St) (H:Hp) (D:Ends),Inv X pins Y H s->t D Y H->wpAny (model X.prog X.w) X.A (execs st X.env) (SP X pins D) X.xe s
def bG(h:wpAny M A t Q E s)(hQ:∀a s,Q a s->Q' a s):wpAny M A t Q' E s:=wpAny_mono h hQ λ_ _ x=>x
section
variable{X:Cx}
def bin(ha:PE X a ta)(hb:PE X b tb){R:V->V->Hp->Prop}(I:Inv X pins Y H s)(h:ta Y H λx H1=>tb Y H1 λy H2=>R x y H2){f:Value->Value->Sem O}
  (hf:∀v u s2 x y H2,Inv X pins Y H2 s2->a7 x v->a7 y u->R x y H2->wpAny (model X.prog X.w) X.A (f v u) Q X.xe s2) :
  wpAny (model X.prog X.w) X.A (eval a X.env) (λv s₁=>wpAny (model X.prog X.w) X.A (eval b X.env) (λu s₂=>wpAny (model X.prog X.w) X.A (f v u) Q X.xe s₂) X.xe s₁) X.xe s:=by
 refine bG (ha pins s Y H _ I h) λv s1 ⟨x,H1,I1,r1,q1⟩=>?_
 refine bG (hb pins s1 Y H1 _ I1 q1) λu s2 ⟨y,H2,I2,r2,q2⟩=>?_
 exact hf v u s2 x y H2 I2 r1 r2 q2
noncomputable def xT(i:Nat):TE:=λY H Q=>∃v,Y[i]?=some (some v)/\Q v H
noncomputable def tC(v:V):TE:=λ_ H Q=>Q v H
def HB(hN:X.N[i]?=some x)(hv:N4 X.env.scope x)(hd:(x==("__debug__":Str))=false:=by decide)(hcd:(x==("__classdict__":Str))=false:=by decide):PE X (.Name x pos) (xT i):=by
 intro pins s Y H Q I h;obtain⟨v,e,h⟩:=h;obtain⟨m,hn,hl⟩:=I.loc;obtain⟨u,r,l⟩:=hl i x v hN e hv;have fin:EP X pins Y Q u s:=⟨v,H,I,r,h⟩
 rcases l with ⟨hk,hm⟩ | ⟨hk,c,hc,hcell⟩
 ·exact wpAny_Name (wpAny_loadName_local I.ok.kind hk hn hm fin) hd
 ·rcases hk with hk | hk
  ·exact wpAny_Name (wpAny_loadName_cell I.ok.kind hk hc hcell fin) hd
  ·exact wpAny_Name (wpAny_loadName_free I.ok.kind hk hc hcell fin hcd) hd
def aBP{i j pos}:PE X (.Constant (.int i) j pos) (tC (.int i)):=λ_ _ _ H _ I h=>wpAny_Constant_int ⟨.int i,H,I.tok _,⟨_,rfl⟩,h⟩
def aFt{b j pos}:PE X (.Constant (.bool b) j pos) (tC (.bl b)):=λ_ _ _ H _ I h=>Constant_bool ⟨.bl b,H,I,rfl,h⟩
def aBE{j pos}:PE X (.Constant .none j pos) (tC .non):=λ_ _ _ H _ I h=>Constant_none ⟨.non,H,I,rfl,h⟩
def aBV{x j pos}:PE X (.Constant (.str x) j pos) (tC (.str x)):=λ_ _ _ H _ I h=>Calls.Constant_str ⟨.str x,H,I.tok _,⟨_,rfl⟩,h⟩
def Gl(X:Cx)(x:Str):Prop:=X.env.kindOf x=some .globalImplicit
def BM(I:Inv X pins Y H s)(hg:Gl X x)(hm:X.mg x=some u)(h:Q u s)
  (hd:(x==("__debug__":Str))=false:=by decide):wpAny (model X.prog X.w) X.A (eval (.Name x pos) X.env) Q E s :=
 Calls.Name_function_global I.ok.kind hg (Calls.loadGlobal_global (by rw[I.ok.glob];exact I.mod.glob.keeps I.bk) hm h) hd
def qH(I:Inv X pins Y H s)(hg:Gl X x)(hm:X.mg x=none)(hv:bootBuiltins x=some u)(h:Q u s)
  (hn:x≠"__name__":=by decide) (hd:(x==("__debug__":Str))=false:=by decide):wpAny (model X.prog X.w) X.A (eval (.Name x pos) X.env) Q E s:=by
 obtain⟨mb,h1,h2⟩:=I.mod.blt;exact Calls.Name_function_global I.ok.kind hg (Calls.loadGlobal_builtin (by rw[I.ok.glob];exact I.mod.glob.keeps I.bk) hm (by rw[I.ok.blt];exact h1.keeps I.bk) ((h2 x hn).trans hv) h) hd
def YF(hg:Gl X x)(hm:X.mg x=some u)(r:a7 v u)(hd:(x==("__debug__":Str))=false:=by decide):PE X (.Name x pos) (tC v) :=
 λ_ _ _ H _ I h=>BM I hg hm ⟨v,H,I,r,h⟩ hd
def BG(hg:Gl X x)(hm:X.mg x=none)(hv:bootBuiltins x=some u)(r:a7 v u)(hn:x≠"__name__":=by decide)(hd:(x==("__debug__":Str))=false:=by decide):PE X (.Name x pos) (tC v) :=
 λ_ _ _ H _ I h=>qH I hg hm hv ⟨v,H,I,r,h⟩ hn hd
variable{a b:Expr}{ta tb:TE}{pos:Pos}
variable{tA tB':TT}{kD:List Expr}
noncomputable def aDa(t u:TT):TT:=λY H Q=>t Y H λc H1=>if c=true then u Y H1 Q else Q false H1
noncomputable def tOr(t u:TT):TT:=λY H Q=>t Y H λc H1=>if c=true then Q true H1 else u Y H1 Q
noncomputable def aH0(t:TT):TT:=λY H Q=>t Y H λc H1=>Q (!c) H1
def X7(ha:PT X a tA):PW X (.BoolOp .And [a] pos) tA:=by
 intro wh pins s Y H Q I h;refine isTrue_and (bG (ha pins s Y H Q I h) λc s1 e=>?_)
 cases c with
 |true=>exact isTrue_and_nil e
 |false=>exact e
def aEv(ha:PT X a tA):PW X (.BoolOp .Or [a] pos) tA:=by
 intro wh pins s Y H Q I h;refine isTrue_or (bG (ha pins s Y H Q I h) λc s1 e=>?_)
 cases c with
 |false=>exact isTrue_or_nil e
 |true=>exact e
def aBH(ha:PT X a tA)(hb:PW X (.BoolOp .And (b::kD) pos) tB'):PW X (.BoolOp .And (a::b::kD) pos) (aDa tA tB'):=by
 intro wh pins s Y H Q I h;refine isTrue_and (bG (ha pins s Y H _ I h) λc s1 ⟨H1,I1,q1⟩=>?_)
 cases c with
 |true=>exact hb wh pins s1 Y H1 Q I1 q1
 |false=>exact⟨H1,I1,q1⟩
def aE5(ha:PT X a tA)(hb:PW X (.BoolOp .Or (b::kD) pos) tB'):PW X (.BoolOp .Or (a::b::kD) pos) (tOr tA tB'):=by
 intro wh pins s Y H Q I h;refine isTrue_or (bG (ha pins s Y H _ I h) λc s1 ⟨H1,I1,q1⟩=>?_)
 cases c with
 |true=>exact⟨H1,I1,q1⟩
 |false=>exact hb wh pins s1 Y H1 Q I1 q1
def aB9(ha:PT X a tA):PT X (.UnaryOp .Not a pos) (aH0 tA):=by
 intro pins s Y H Q I h;exact isTrue_not (ha pins s Y H (λc H1=>Q (!c) H1) I h)
noncomputable def WH(ta tb:TE):TE:=λY H Q=>ta Y H λx H1=>∃c,x=.bl c/\if c=true then tb Y H1 Q else Q (.bl false) H1
noncomputable def aCv(ta tb:TE):TE:=λY H Q=>ta Y H λx H1=>∃c,x=.bl c/\if c=true then Q (.bl true) H1 else tb Y H1 Q
def QR{op}(h:PE X a t):PE X (.BoolOp op [a] pos) t:=λpins s Y H Q I hw=>BoolOp_one (h pins s Y H Q I hw)
def aBO(ha:PE X a ta)(hb:PE X (.BoolOp .And (b::kD) pos) tb):PE X (.BoolOp .And (a::b::kD) pos) (WH ta tb):=by
 intro pins s Y H Q I h;refine BoolOp_and (bG (ha pins s Y H _ I h) λv s1 ⟨x,H1,I1,r1,q1⟩=>?_);obtain⟨c,rfl,q1⟩:=q1;cases r1;refine wpAny_truthy_bool ?_
 cases c with
 |true=>exact hb pins s1 Y H1 Q I1 q1
 |false=>exact⟨.bl false,H1,I1,rfl,q1⟩
def W8(ha:PE X a ta)(hb:PE X (.BoolOp .Or (b::kD) pos) tb):PE X (.BoolOp .Or (a::b::kD) pos) (aCv ta tb):=by
 intro pins s Y H Q I h;refine BoolOp_or (bG (ha pins s Y H _ I h) λv s1 ⟨x,H1,I1,r1,q1⟩=>?_);obtain⟨c,rfl,q1⟩:=q1;cases r1;refine wpAny_truthy_bool ?_
 cases c with
 |false=>exact hb pins s1 Y H1 Q I1 q1
 |true=>exact⟨.bl true,H1,I1,rfl,q1⟩
noncomputable def tIf(t:TT)(ta tb:TE):TE:=λY H Q=>t Y H λc H1=>if c=true then ta Y H1 Q else tb Y H1 Q
def VJ(hc:PT X c tA)(ha:PE X a ta)(hb:PE X b tb):PE X (.IfExp c a b pos) (tIf tA ta tb):=by
 intro pins s Y H Q I h;refine wpAny_IfExp (bG (hc pins s Y H _ I h) λd s1 ⟨H1,I1,q1⟩=>?_)
 cases d with
 |true=>exact ha pins s1 Y H1 Q I1 q1
 |false=>exact hb pins s1 Y H1 Q I1 q1
end
def bU(K:Frag)(H:Hp)(a:Addr)(xs:List V):Prop :=
 Rd H a (.lst xs) \/
  ∃(o:Obj) (its:Array Value) (n:Nat),K.lookup a=some o/\o.cls=.type "list"/\o.dict=none/\o.data=.seq its n/\its.size<=sizeLine/\aO xs its.toList
def dE(K:Frag)(H:Hp)(a:Addr)(xs:List V):Prop :=
 Rd H a (.tup xs) \/
  ∃(o:Obj) (its:Array Value) (n:Nat),K.lookup a=some o/\o.cls=.type "tuple"/\o.data=.seq its n/\its.size<=sizeLine/\aO xs its.toList
noncomputable def aHt:Value->Option V
 |.none=>some .non
 |.bool b=>some (.bl b)
 |.int i _=>some (.int i)
 |.str x _=>some (.str x)
 |.ref a=>some (.ref a)
 |.type n=>some (.ty n)
 |_=>none
def a7.abs(r:a7 x u):aHt u=some x:=by
 cases x with
 |non=>cases r;rfl
 |bl _=>cases r;rfl
 |int _=>obtain⟨t,rfl⟩:=r;rfl
 |str _=>obtain⟨t,rfl⟩:=r;rfl
 |ref _=>cases r;rfl
 |ty _=>cases r;rfl
theorem a7.inj(r:a7 x u)(q:a7 y u):x=y:=Option.some.inj (r.abs.symm.trans q.abs)
theorem aO.inj:∀{xs ys:List V} {us:List Value},aO xs us->aO ys us->xs=ys
 |_,_,_,.nil,.nil=>rfl
 |_,_,_,.cons r t,.cons r' t'=>by rw[r.inj r',aO.inj t t']
section
variable{X:Cx}{pins:List (Addr×Obj)}{Y:St}{H:Hp}{s:Shared}{a:Addr}{xs ys:List V}
def bU.of{K:Frag}(h:H a=some (.lst xs)):bU K H a xs:=.inl (.inl h)
def dE.of{K:Frag}(h:H a=some (.tup xs)):dE K H a xs:=.inl (.inl h)
def Inv.list(I:Inv X pins Y H s)(h:bU X.K H a xs):∃its:List Value,aO xs its/\PlainL s.heap a its.toArray/\xs.length<=sizeLine:=by
 rcases h with h | ⟨o,its,n,hk,hc,hd,hs,hz,r⟩
 ·obtain⟨z,its,n,r,e⟩:=h.ok I.hok;exact⟨its,r,⟨_,n,e,rfl,rfl,rfl⟩,z⟩
 ·refine⟨its.toList,r,⟨o,n,I.kIn a o hk,hc,hd,by simpa using hs⟩, ?_⟩;have e:=r.length;simp only[Array.length_toList] at e;omega
def Inv.tuple(I:Inv X pins Y H s)(h:dE X.K H a xs):∃its:List Value,aO xs its/\IsTup s.heap a its.toArray/\xs.length<=sizeLine:=by
 rcases h with h | ⟨o,its,n,hk,hc,hs,hz,r⟩
 ·obtain⟨z,its,r,p⟩:=h.ok I.hok;exact⟨its,r,p,z⟩
 ·refine⟨its.toList,r,⟨o,I.kIn a o hk,hc,n,by simpa using hs⟩, ?_⟩;have e:=r.length;simp only[Array.length_toList] at e;omega
def Inv.list_inj(I:Inv X pins Y H s)(h:bU X.K H a xs)(h':bU X.K H a ys):xs=ys:=by
 obtain⟨its,r,⟨o,n,e,_,_,d⟩,_⟩:=I.list h;obtain⟨its',r',⟨o',n',e',_,_,d'⟩,_⟩:=I.list h';rw[e] at e';cases e';rw[d] at d'
 injection d' with d1 _
 have:its=its':=by simpa using congrArg Array.toList d1
 subst this;exact r.inj r'
def Inv.tuple_inj(I:Inv X pins Y H s)(h:dE X.K H a xs)(h':dE X.K H a ys):xs=ys:=by
 obtain⟨its,r,⟨o,e,_,n,d⟩,_⟩:=I.tuple h;obtain⟨its',r',⟨o',e',_,n',d'⟩,_⟩:=I.tuple h';rw[e] at e';cases e';rw[d] at d'
 injection d' with d1 _
 have:its=its':=by simpa using congrArg Array.toList d1
 subst this;exact r.inj r'
end
abbrev Cx.wish(X:Cx)(E:Value->Shared->Prop):Cx:={ X with xe:=E }
abbrev Cx.nox(X:Cx):Cx:=X.wish λ_ _=>False
theorem Cx.Ok.wish{X:Cx}(ok:X.Ok)(E:Value->Shared->Prop):(X.wish E).Ok :=
 ⟨ok.mod,ok.kind,ok.glob,ok.blt,ok.above,ok.inj,ok.has,ok.cab,ok.hd,ok.frames,ok.stk,ok.exf,ok.bs,ok.bsz,ok.noex,ok.exfs,ok.funs,ok.frf⟩
def Cx.Ok.unwish{X:Cx}(ok:(X.wish E).Ok):X.Ok :=
 ⟨ok.mod,ok.kind,ok.glob,ok.blt,ok.above,ok.inj,ok.has,ok.cab,ok.hd,ok.frames,ok.stk,ok.exf,ok.bs,ok.bsz,ok.noex,ok.exfs,ok.funs,ok.frf⟩
section
variable{X:Cx}{pins:List (Addr×Obj)}{Y:St}{H:Hp}{s:Shared}{E:Value->Shared->Prop}
theorem Inv.wish(I:Inv X pins Y H s)(E:Value->Shared->Prop):Inv (X.wish E) pins Y H s:=⟨I.ok.wish E,I.os,I.bare,I.base,I.loc,I.cell,I.free,I.freeC,I.pin,I.hok,I.len⟩
theorem Inv.unwish(I:Inv (X.wish E) pins Y H s):Inv X pins Y H s:=⟨I.ok.unwish,I.os,I.bare,I.base,I.loc,I.cell,I.free,I.freeC,I.pin,I.hok,I.len⟩
theorem SP.unwish(h:SP (X.wish E) pins D f s'):SP X pins D f s':=by
 cases f with
 |next=>obtain⟨Y',H',I,q⟩:=h;exact⟨Y',H',I.unwish,q⟩
 |brk=>obtain⟨Y',H',I,q⟩:=h;exact⟨Y',H',I.unwish,q⟩
 |cont=>obtain⟨Y',H',I,q⟩:=h;exact⟨Y',H',I.unwish,q⟩
 |ret u=>obtain⟨v,Y',H',I,r,q⟩:=h;exact⟨v,Y',H',I.unwish,r,q⟩
theorem gH.nox{st:List Stmt}(h:gH X.nox st t):gH X st t:=λpins s Y H D I hw =>
 wpAny_mono (h pins s Y H D (I.wish _) hw) (λ_ _ q=>q.unwish) λ_ _ z=>False.elim z
end
section
variable{X:Cx}{st:Stmt}{kD:List Stmt}{t u:TS}{e:Expr}{te:TE}{pos:Pos}
noncomputable def K6:TS:=λD Y H=>D.nx Y H
noncomputable def aIm(t u:TS):TS:=λD Y H=>t { D with nx:=u D } Y H
def KL:gH X [] K6:=λ_ _ Y H _ I h=>wpAny_execs_nil ⟨Y,H,I,h⟩
def GU(h1:PS X st t)(h2:gH X kD u):gH X (st::kD) (aIm t u):=by
 intro pins s Y H D I h;refine wpAny_execs_cons (bG (h1 pins s Y H { D with nx:=u D } I h) λf s1 q=>?_)
 cases f with
 |next =>
  obtain⟨Y',H',I',q⟩:=q;exact h2 pins s1 Y' H' D I' q
 |ret v=>exact q
 |brk=>exact q
 |cont=>exact q
noncomputable def aDA:TS:=λD Y H=>D.bk Y H
noncomputable def aFo:TS:=λD Y H=>D.ct Y H
def ZJ:PS X (.Pass pos) K6:=λ_ _ Y H _ I h=>wpAny_Pass ⟨Y,H,I,h⟩
def UE:PS X (.Break pos) aDA:=λ_ _ Y H _ I h=>wpAny_Break ⟨Y,H,I,h⟩
def IB:PS X (.Continue pos) aFo:=λ_ _ Y H _ I h=>wpAny_Continue ⟨Y,H,I,h⟩
def Inv.quiet(I:Inv X pins Y H s):interactive X.env=false:=by simp[interactive,I.ok.kind]
noncomputable def aFB(te:TE):TS:=λD Y H=>te Y H λ_ H1=>D.nx Y H1
def X9(he:PE X e te)(hs:swapsWith e none pos.line X.env=pure false:=by rfl):PS X (.Expr e pos) (aFB te):=by
 intro pins s Y H D I h;exact wpAny_Expr_any (bG (he pins s Y H _ I h) λv s1 ⟨x,H1,I1,r1,q1⟩=>⟨Y,H1,I1,q1⟩) I.quiet hs
noncomputable def aHF(te:TE):TS:=λD Y H=>te Y H D.rt
def QS(he:PE X e te):PS X (.Return (some e) pos) (aHF te):=by
 intro pins s Y H D I h;exact wpAny_Return_some (bG (he pins s Y H _ I h) λv s1 ⟨x,H1,I1,r1,q1⟩=>⟨x,Y,H1,I1,r1,q1⟩)
noncomputable def aEV:TS:=λD _ H=>D.rt .non H
def YT:PS X (.Return none pos) aEV:=λ_ _ Y H _ I h=>wpAny_Return_none ⟨.non,Y,H,I,rfl,h⟩
noncomputable def aIh(c:TT)(t u:TS):TS:=λD Y H=>c Y H λb H1=>if b=true then t D Y H1 else u D Y H1
def aGr(hc:PT X c tc)(ha:gH X a t)(hb:gH X b u):PS X (.If c a b pos) (aIh tc t u):=by
 intro pins s Y H D I h;refine wpAny_If (bG (hc pins s Y H _ I h) λd s1 ⟨H1,I1,q1⟩=>?_)
 cases d with
 |true=>exact ha pins s1 Y H1 D I1 q1
 |false=>exact hb pins s1 Y H1 D I1 q1
end
abbrev TG:=V->St->Hp->(St->Hp->Prop)->Prop
abbrev J8:=List V->St->Hp->(St->Hp->Prop)->Prop
def PG(X:Cx)(target:Expr)(t:TG):Prop :=
 ∀(pins:List (Addr×Obj)) (s:Shared) (Y:St) (H:Hp) (v:V) (u:Value) (Q:St->Hp->Prop),Inv X pins Y H s->a7 v u->t v Y H Q ->
  wpAny (model X.prog X.w) X.A (assign target X.env u) (λ_ s'=>∃Y' H',Inv X pins Y' H' s'/\Q Y' H') X.xe s
def zG(X:Cx)(ts:List Expr)(t:J8):Prop :=
 ∀(pins:List (Addr×Obj)) (s:Shared) (Y:St) (H:Hp) (vs:List V) (us:List Value) (Q:St->Hp->Prop),Inv X pins Y H s->aO vs us->t vs Y H Q ->
  wpAny (model X.prog X.w) X.A (assignInOrder ((assignEach ts X.env).map (·.2)) us) (λ_ s'=>∃Y' H',Inv X pins Y' H' s'/\Q Y' H') X.xe s
abbrev MH:=V->V->V->Hp->(Hp->Prop)->Prop
def T1(X:Cx)(t:MH):Prop :=
 ∀(pins:List (Addr×Obj)) (s:Shared) (Y:St) (H:Hp) (o i v:V) (ov iv u:Value) (Q:Hp->Prop),Inv X pins Y H s->a7 o ov->a7 i iv->a7 v u->t o i v H Q ->
  wpAny (model X.prog X.w) X.A (setItem ov iv u) (λ_ s'=>∃H',Inv X pins Y H' s'/\Q H') X.xe s
section
variable{X:Cx}{pos:Pos}
noncomputable def v7(i:Nat):TG:=λv Y H Q=>Q (Y.set i (some v)) H
def IW(hN:X.N.Nodup)(hi:X.N[i]?=some x)(hx:CS X.env.scope x)(hf:X.fn x=true\/X.env.scope.names.lookup x=some .local:=by first | exact .inl rfl | exact .inr rfl | assumption):PG X (.Name x pos) (v7 i):=by
 intro pins s Y H v u Q I r h;exact wpAny_assign_Name (UN I hN hi hx r (λs' I'=>⟨_,H,I',h⟩) hf)
noncomputable def aIe:J8:=λvs Y H Q=>vs=[]/\Q Y H
noncomputable def aFD(t:TG)(u:J8):J8:=λvs Y H Q=>∃v r,vs=v::r/\t v Y H λY' H'=>u r Y' H' Q
def XT:zG X [] aIe:=by
 intro pins s Y H vs us Q I r h;obtain⟨e,h⟩:=h;subst e;cases r;exact assignInOrder_nil ⟨Y,H,I,h⟩
def SK(h1:PG X e t)(h2:zG X es u)
  (hs:(assignEach (e::es) X.env).map (·.2)=assign e X.env::(assignEach es X.env).map (·.2):=by rfl):zG X (e::es) (aFD t u):=by
 intro pins s Y H vs us Q I r h;obtain⟨v,vr,e1,h⟩:=h;subst e1
 cases r with
 |cons r rr =>
  rw[hs];refine assignInOrder_cons (bG (h1 pins s Y H _ _ _ I r h) λ_ s1 ⟨Y1,H1,I1,q1⟩=>?_);exact h2 pins s1 Y1 H1 _ _ Q I1 rr q1
noncomputable def aHe(K:Frag)(n:Nat)(t:J8):TG:=λv Y H Q=>∃a xs,v=.ref a/\dE K H a xs/\xs.length=n/\t xs Y H Q
def aCA(hc:X.calm=true)(h:zG X es t)
  (hn:(assignEach es X.env).length=n:=by rfl) (hst:(assignEach es X.env).findIdx? (·.1)=none:=by rfl):PG X (.Tuple es k pos) (aHe X.K n t):=by
 intro pins s Y H v u Q I r hw;obtain⟨a,xs,e1,hq,hl,hw⟩:=hw;subst e1;cases r;obtain⟨its,rv,ht,hz⟩:=I.tuple hq;refine assign_Tuple_tuple (I.ok.hd hc) ht (by simp[hn,<- hl,rv.length]) hst λh' hx=>?_
 have I1:Inv X pins Y H { s with heap:=h' }:=I.kept (t':=s.toks) λb o e=>hx b o (Zz (Zv e)) e
 exact h pins _ Y H xs _ Q I1 (by simpa using rv) hw
noncomputable def aHP(to ti:TE)(t:MH):TG:=λv Y H Q=>to Y H λo H1=>ti Y H1 λi H2=>t o i v H2 λH3=>Q Y H3
def aDN(ho:PE X o to)(hi:PE X i ti)(hs:T1 X t)
  (ha:∀v,assign (.Subscript o i pos) X.env v=(do
   let ov <- holding [v] (eval o X.env)
   let iv <- holding [v,ov] (eval i X.env)
   standAt pos
   holding [v,ov,iv] (setItem ov iv v)
   release [v,ov,iv] []):=by intro _;rfl):PG X (.Subscript o i pos) (aHP to ti t):=by
 intro pins s Y H v u Q I r h;rw[ha];refine Zt (wpAny_holding (bG (ho pins s Y H _ I h) λov s1 ⟨x,H1,I1,r1,q1⟩=>?_));refine Zt (wpAny_holding (bG (hi pins s1 Y H1 _ I1 q1) λiv s2 ⟨y,H2,I2,r2,q2⟩=>?_));refine Zt (wpAny_standAt (Zt (wpAny_holding (bG (hs pins s2 Y H2 x y v ov iv u _ I2 r1 r2 r q2) λ_ s3 ⟨H3,I3,q3⟩=>?_))));exact wpAny_release ⟨Y,H3,I3,q3⟩
noncomputable def RQ(te:TE)(g:TG):TS:=λD Y H=>te Y H λx H1=>g x Y H1 D.nx
def yI(he:PE X e te)(hg:PG X tg g)(hs:swapsWithSole [tg] e pos.line X.env=pure false:=by rfl)(hw:swappedStores [tg] e X.env=pure none:=by rfl)
  (h1:(assignEach [tg] X.env).map (·.2)=[assign tg X.env]:=by rfl):PS X (.Assign [tg] e pos) (RQ te g):=by
 intro pins s Y H D I h;refine wpAny_Assign_stores (bG (he pins s Y H _ I h) λv s1 ⟨x,H1,I1,r1,q1⟩=>?_) hs hw;rw[h1];exact bG (hg pins s1 Y H1 x v _ I1 r1 q1) λ_ s2 q=>q
end
section
variable{X:Cx}{pos:Pos}
noncomputable def aDu(c:TT)(tb:TS):TS:=λD Y H=>∃W:Nat->St->Hp->Prop,(∃m,W m Y H)/\∀m Y H,W m Y H ->
 c Y H λb H1=>if b=true then ∃N:St->Hp->Prop,(∀Y' H',N Y' H'->∃m',m'<m/\W m' Y' H')/\tb { D with nx:=N,ct:=N,bk:=D.nx } Y H1 else D.nx Y H1
def VN(hp:PassesOwn (model X.prog X.w) X.A X.env X.xe)(hc:PT X c tc)(hb:gH X body tb):PS X (.While c body [] pos) (aDu tc tb):=by
 intro pins s Y H D I h;obtain⟨W,⟨m0,w0⟩,turn⟩:=h;refine wpAny_While (codeAny_whileLoop (λn s'=>∃Y' H',Inv X pins Y' H' s'/\W n Y' H') ?_ m0 ⟨Y,H,I,w0⟩)
 rintro n s1 ⟨Y1,H1,I1,w1⟩
 refine wpAny_passesOwn hp (bG (hc pins s1 Y1 H1 _ I1 (turn n Y1 H1 w1)) λb s2 ⟨H2,I2,q2⟩=>?_)
 cases b with
 |true =>
  obtain⟨N,hN,q2⟩:=q2;rw[Zo rfl];refine wpAny_passesOwn hp (bG (hb pins s2 Y1 H2 _ I2 q2) λf s3 q3=>?_)
  cases f with
  |next =>
   obtain⟨Y3,H3,I3,n3⟩:=q3;obtain⟨m',hm,w3⟩:=hN Y3 H3 n3;exact⟨m',hm,Y3,H3,I3,w3⟩
  |cont =>
   obtain⟨Y3,H3,I3,n3⟩:=q3;obtain⟨m',hm,w3⟩:=hN Y3 H3 n3;exact⟨m',hm,Y3,H3,I3,w3⟩
  |brk=>exact q3
  |ret v=>exact q3
 |false =>
  rw[Zp Bool.false_ne_true];exact wpAny_execs_nil ⟨Y1,H2,I2,q2⟩
end
structure It where
 go:Nat->Hp->Prop
 yld:Nat->Hp->V->Hp->Prop
 stop:Nat->Hp->Prop
def kC(X:Cx)(pins:List (Addr×Obj))(H:Hp)(b:Addr):Prop :=
 H b=none/\b≠X.env.locals/\b ∉ X.fs/\(b∈X.ex\/X.s₀.heap.get? b=none)/\(∀x c,X.env.cells.lookup x=some c->c≠b)/\∀p∈X.pn++pins,p.1≠b
def Inv.fpOk(I:Inv X pins Y H s)(hb:s.heap.objs.size<=b)(hn:H' b=none):kC X pins H' b:=by
 refine⟨hn,Nat.ne_of_gt (Zl I.lt hb),I.nofs hb,.inr (Heap.get?_none_of_le (Zr I.sz hb)),λx c e z=>?_,λp hp z=>?_⟩
 ·obtain⟨v,q⟩:=I.cell x c e;exact absurd (Zl q.lt (by rw[z];exact hb)) (Nat.lt_irrefl _)
 ·exact absurd (Zl (Zv (I.pin p hp).1) (by rw[z];exact hb)) (Nat.lt_irrefl _)
structure Turn(P:Program)(w:World)(K:Frag)(tg:Expr)(J:It)(fp:List Addr)(it:Addr)(tn:Nat->Heap->Prop):Prop where
 mem:it∈fp
 obj:∀i h,tn i h->∀b∈fp,∃o,h.get? b=some o/\∀v,o.data≠.cell v
 keep:∀i h h',tn i h->(∀b∈fp,∀o,h.get? b=some o->h'.get? b=some o)->tn i h'
 item:∀(X:Cx),X.prog=P->X.w=w->X.K=K->X.calm=true->∀(i:Nat) (pins:List (Addr×Obj)) (s:Shared) (Y:St) (H:Hp) (E:Value->Shared->Prop),Inv X pins Y H s->(∀b∈fp,kC X pins H b)->tn i s.heap->J.go i H ->
  wpAny (model P w) X.A (pyNext (.ref it)) (λr s1=>∃u,r=some u /\
   wpAny (model P w) X.A (letOwnedTupleGo tg (.ref it) u) (λ_ s2=>∃x H',Inv X pins Y H' s2/\a7 x u/\J.yld i H x H'/\tn (i+1) s2.heap/\∀b∈fp,H' b=none) E s1) E s
 done:∀(X:Cx),X.prog=P->X.w=w->X.K=K->X.calm=true->∀(i:Nat) (pins:List (Addr×Obj)) (s:Shared) (Y:St) (H:Hp) (E:Value->Shared->Prop),Inv X pins Y H s->(∀b∈fp,kC X pins H b)->tn i s.heap->J.stop i H ->
  wpAny (model P w) X.A (pyNext (.ref it)) (λr s1=>r=none/\Inv X pins Y H s1) E s
 self:∀(A:Around) (i:Nat) (s:Shared) (Q:Value->Shared->Prop) (E:Value->Shared->Prop),tn i s.heap->Q (.ref it) s->wpAny (model P w) A (pyIter (.ref it)) Q E s
abbrev TI:=St->Hp->(It->Hp->Prop)->Prop
def PIE(X:Cx)(pins:List (Addr×Obj))(Y:St)(tg:Expr)(R:It->Hp->Prop)(itv:Value)(s2:Shared):Prop :=
 ∃(it:Addr) (fp:List Addr) (tn:Nat->Heap->Prop) (J:It) (H':Hp),itv=.ref it/\Inv X pins Y H' s2/\Turn X.prog X.w X.K tg J fp it tn/\tn 0 s2.heap/\(∀b∈fp,kC X pins H' b)/\R J H'
def PI(X:Cx)(tg iter:Expr)(wi:TI):Prop :=
 ∀(pins:List (Addr×Obj)) (s:Shared) (Y:St) (H:Hp) (R:It->Hp->Prop),Inv X pins Y H s->wi Y H R ->
  wpAny (model X.prog X.w) X.A (eval iter X.env) (λv s1=>wpAny (model X.prog X.w) X.A (pyIter v) (PIE X pins Y tg R) X.xe s1) X.xe s
def DP(ho:s.heap.get? it=some o)(hc:o.cls=.type n)(hd:o.data=.fields vs)
  (hn:["enumerate","zip","dict_itemiterator","dict_reverseitemiterator","odict_iterator","itertools.zip_longest","itertools.pairwise"].contains n=false) (hQ:Q () s):wpAny M A (letOwnedTupleGo tg (.ref it) u) Q E s:=by
 unfold letOwnedTupleGo
 cases tg<;>first
  |exact Zu hQ
  | (cases u<;>first
    |exact Zu hQ
    | (refine Zt (wpAny_load ho ?_)
       rw[hc,hd];show wpAny M A (if(["enumerate","zip","dict_itemiterator","dict_reverseitemiterator","odict_iterator","itertools.zip_longest","itertools.pairwise"].contains n&&vs[0]? == some (rawInt _))=true then _ else _) Q E s;rw[Zp (by intro h;rw[hn,Bool.false_and] at h;cases h)]
       exact Zu hQ))
noncomputable def qA(K:Frag)(a:Addr):It :=
 ⟨λi H=>∃xs x,bU K H a xs/\xs[i]?=some x,λi H x H'=>H'=H/\∀xs,bU K H a xs->xs[i]?=some x,λi H=>∃xs,bU K H a xs/\xs.length<=i⟩
noncomputable def qG(K:Frag)(a:Addr):It :=
 ⟨λi H=>∃xs x,dE K H a xs/\xs[i]?=some x,λi H x H'=>H'=H/\∀xs,dE K H a xs->xs[i]?=some x,λi H=>∃xs,dE K H a xs/\xs.length<=i⟩
noncomputable def oH(lo:Int)(n:Nat):It:=⟨λi _=>i<n,λi H x H'=>H'=H/\x=.int (lo+i),λi _=>n<=i⟩
def OD{K:Frag}(a it:Addr):Turn P w K tg (qA K a) [it] it (λi h=>h.IsListIter it a i) where
 mem:=by simp
 obj:=λi h st b hb=>by
  have e:b=it:=by simpa using hb
  subst e;obtain⟨o,e,c,d⟩:=st;exact⟨o,e,λv z=>by rw[d] at z;cases z⟩
 keep:=λi h h' st k=>st.at λo e=>k it (by simp) o e
 item:=by
  intro X hP hw hK hc i pins s Y H E I hf st hg;subst hP hw hK;obtain⟨xs,x,hq,hx⟩:=hg;obtain⟨its,rv,p,hz⟩:=I.list hq;obtain⟨u,hu,ru⟩:=rv.get hx;obtain⟨f0,f1,f2,f3,f4,f5⟩:=hf it (by simp);refine wpAny_pyNext_list_item st p.isList (x:=u) (by simpa using hu) λh' st' sb=>?_
  have I1:Inv X pins Y H { s with heap:=h' }:=I.turned (t':=s.toks) (λb o hb e=>(sb.2 b hb).trans e) f0 f1 f3 f4 f5;obtain⟨o,e,c,d⟩:=id st';exact⟨u,rfl,DP (s:={ s with heap:=h' }) e c d (by decide) ⟨x,H,I1,ru,⟨rfl,λys hy=>by rw[I.list_inj hy hq];exact hx⟩,st',λb hb=>(hf b hb).1⟩⟩
 done:=by(intro X hP hw hK hc i pins s Y H E I hf st hg;subst hP hw hK;obtain⟨xs,hq,hx⟩:=hg;obtain⟨its,rv,p,hz⟩:=I.list hq;obtain⟨f0,f1,f2,f3,f4,f5⟩:=hf it (by simp);have hl:=rv.length;exact wpAny_pyNext_list_end (I.ok.hd hc) st p.isList (by simp;omega) λh' eb=>⟨rfl,I.turned (t':=s.toks) (λb o hb e=>eb b o hb e) f0 f1 f3 f4 f5⟩)
 self:=λ_ _ _ _ _ st h=>wpAny_pyIter_listiter st h
def KR{K:Frag}(a it:Addr):Turn P w K tg (qG K a) [it] it (λi h=>h.IsTupleIter it a i) where
 mem:=by simp
 obj:=λi h st b hb=>by
  have e:b=it:=by simpa using hb
  subst e;obtain⟨o,e,c,d⟩:=st;exact⟨o,e,λv z=>by rw[d] at z;cases z⟩
 keep:=λi h h' st k=>st.at λo e=>k it (by simp) o e
 item:=by
  intro X hP hw hK hc i pins s Y H E I hf st hg;subst hP hw hK;obtain⟨xs,x,hq,hx⟩:=hg;obtain⟨its,rv,p,hz⟩:=I.tuple hq;obtain⟨u,hu,ru⟩:=rv.get hx;obtain⟨f0,f1,f2,f3,f4,f5⟩:=hf it (by simp);refine wpAny_pyNext_tuple_item st (show s.heap.IsTuple a its.toArray from p) (x:=u) (by simpa using hu) λh' st' sb=>?_
  have I1:Inv X pins Y H { s with heap:=h' }:=I.turned (t':=s.toks) (λb o hb e=>(sb.2 b hb).trans e) f0 f1 f3 f4 f5;obtain⟨o,e,c,d⟩:=id st';exact⟨u,rfl,DP (s:={ s with heap:=h' }) e c d (by decide) ⟨x,H,I1,ru,⟨rfl,λys hy=>by rw[I.tuple_inj hy hq];exact hx⟩,st',λb hb=>(hf b hb).1⟩⟩
 done:=by(intro X hP hw hK hc i pins s Y H E I hf st hg;subst hP hw hK;obtain⟨xs,hq,hx⟩:=hg;obtain⟨its,rv,p,hz⟩:=I.tuple hq;obtain⟨f0,f1,f2,f3,f4,f5⟩:=hf it (by simp);have hl:=rv.length;exact wpAny_pyNext_tuple_end (I.ok.hd hc) st (show s.heap.IsTuple a its.toArray from p) (by simp;omega) λh' eb=>⟨rfl,I.turned (t':=s.toks) (λb o hb e=>eb b o hb e) f0 f1 f3 f4 f5⟩)
 self:=λ_ _ _ _ _ st h=>wpAny_pyIter_tupleiter st h
def LV{K:Frag}(it:Addr)(lo:Int)(n:Nat):Turn P w K tg (oH lo n) [it] it (λi h=>IsRangeIter h it (lo+(i:Nat)*1) ((n:Int)-(i:Nat)) 1) where
 mem:=by simp
 obj:=λi h st b hb=>by
  have e:b=it:=by simpa using hb
  subst e
  exact⟨_,st,λv z=>by
   have z':Data.fields _=Data.cell v:=z
   cases z'⟩
 keep:=λi h h' st k=>k it (by simp) _ st
 item:=by
  intro X hP hw hK hc i pins s Y H E I hf st hg;subst hP hw hK;obtain⟨f0,f1,f2,f3,f4,f5⟩:=hf it (by simp);have W:=Walks.range (prog:=X.prog) (w:=X.w) (I.ok.hd hc) it lo 1 n;refine W.item i s _ _ hg st λv h' tk hv st' kk=>?_
  obtain⟨t,rfl⟩:=hv;have I1:Inv X pins Y H { s with heap:=h',toks:=tk }:=I.turned (λb o hb e=>kk b o (by simpa using hb) e) f0 f1 f3 f4 f5;refine⟨_,rfl,DP (s:={ s with heap:=h',toks:=tk }) (n:="range_iterator") st' rfl rfl (by decide) ⟨.int (lo+i),H,I1,⟨t, ?_⟩,⟨rfl,rfl⟩,st',λb hb=>(hf b hb).1⟩⟩;rw[Int.mul_one]
 done:=by(intro X hP hw hK hc i pins s Y H E I hf st hg;subst hP hw hK;obtain⟨f0,f1,f2,f3,f4,f5⟩:=hf it (by simp);exact wpAny_pyNext_range_end (I.ok.hd hc) st (by have:n<=i:=hg;omega) λh' eb=>⟨rfl,I.turned (t':=s.toks) (λb o hb e=>eb b o hb e) f0 f1 f3 f4 f5⟩)
 self:=λ_ _ _ _ _ st h=>wpAny_pyIter_rangeiter st h
section
variable{X:Cx}{tg:Expr}
noncomputable def WU(K:Frag)(tl:TE):TI:=λY H R=>tl Y H λx H1=>∃a,x=.ref a/\(∃xs,bU K H1 a xs)/\R (qA K a) H1
noncomputable def aDF(K:Frag)(tl:TE):TI:=λY H R=>tl Y H λx H1=>∃a,x=.ref a/\(∃xs,dE K H1 a xs)/\R (qG K a) H1
def BD(hl:PE X l tl):PI X tg l (WU X.K tl):=by
 intro pins s Y H R I h;refine bG (hl pins s Y H _ I h) λv s1 ⟨x,H1,I1,r1,q1⟩=>?_
 obtain⟨a,e,⟨xs,hq⟩,q⟩:=q1;subst e;cases r1;obtain⟨its,rv,p,hz⟩:=I1.list hq;refine wpAny_pyIter_list p.isList ?_;refine⟨s1.heap.objs.size,[s1.heap.objs.size],_,_,H1,rfl,I1.kept (t':=s1.toks) λb o e=>Zd _ e,OD a _,⟨_,Zw _ rfl,rfl,rfl⟩,λb hb=>?_,q⟩;have e:b=s1.heap.objs.size:=by simpa using hb
 subst e;exact I1.fpOk (Zq _) (I1.hok.fresh (Zq _))
def EU(hl:PE X l tl):PI X tg l (aDF X.K tl):=by
 intro pins s Y H R I h;refine bG (hl pins s Y H _ I h) λv s1 ⟨x,H1,I1,r1,q1⟩=>?_
 obtain⟨a,e,⟨xs,hq⟩,q⟩:=q1;subst e;cases r1;obtain⟨its,rv,p,hz⟩:=I1.tuple hq;refine wpAny_pyIter_tuple (show s1.heap.IsTuple a its.toArray from p) ?_;refine⟨s1.heap.objs.size,[s1.heap.objs.size],_,_,H1,rfl,I1.kept (t':=s1.toks) λb o e=>Zd _ e,KR a _,⟨_,Zw _ rfl,rfl,rfl⟩,λb hb=>?_,q⟩;have e:b=s1.heap.objs.size:=by simpa using hb
 subst e;exact I1.fpOk (Zq _) (I1.hok.fresh (Zq _))
def E7{lo hi:Int}(I:Inv X pins Y H s)(h1:-(2 ^ 62)<=lo)(h2:lo<2 ^ 62)(h3:-(2 ^ 62)<=hi)(h4:hi<2 ^ 62)
  (q:R (oH lo (hi-lo).toNat) H):wpAny (model X.prog X.w) X.A (pyIter (.ref s.heap.objs.size)) (PIE X pins Y tg R) E { s with heap:=s.heap.push { cls:=.type "range",data:=.fields #[.int lo t,.int hi u,.int 1 v] },toks:=tk }:=by
 refine wpAny_pyIter_range (IsRange.new ..) (small_one h1 h2 h3 h4) ?_;have I1:Inv X pins Y H { s with heap:=s.heap.push { cls:=.type "range",data:=.fields #[.int lo t,.int hi u,.int 1 v] },toks:=tk }:=I.kept λb o e=>Zd _ e
 refine⟨(s.heap.push { cls:=.type "range",data:=.fields #[.int lo t,.int hi u,.int 1 v] }).objs.size,[(s.heap.push { cls:=.type "range",data:=.fields #[.int lo t,.int hi u,.int 1 v] }).objs.size],_,_,H,rfl,
  I1.kept (t':=tk) λb o e=>Zd _ e,LV _ lo (hi-lo).toNat, ?_,λb hb=>?_,q⟩
 ·have e1:lo+((0:Nat):Int)*1=lo:=by simp
  have e2:(((hi-lo).toNat:Nat):Int)-((0:Nat):Int)=Builtin.Range.rangeSize lo hi 1:=by rw[rangeSize_one];split<;>omega
  show IsRangeIter _ _ (lo+((0:Nat):Int)*1) ((((hi-lo).toNat:Nat):Int)-((0:Nat):Int)) 1;rw[e1,e2];exact Zw _ rfl
 ·have e:b=(s.heap.push { cls:=.type "range",data:=.fields #[.int lo t,.int hi u,.int 1 v] }).objs.size:=by simpa using hb
  subst e;exact I1.fpOk (Zq _) (I1.hok.fresh (Zq _))
noncomputable def XH(ta:TA):TI:=λY H R=>ta Y H λvs H1=>∃j:Int,vs=[.int j]/\-(2 ^ 62)<=j/\j<2 ^ 62/\R (oH 0 j.toNat) H1
noncomputable def XG(ta:TA):TI:=λY H R=>ta Y H λvs H1=>∃i j:Int,vs=[.int i,.int j]/\(-(2 ^ 62)<=i/\i<2 ^ 62/\-(2 ^ 62)<=j/\j<2 ^ 62)/\R (oH i (j-i).toNat) H1
def CP{p pos:Pos}(hg:Gl X "range")(hm:X.mg "range"=none)(ha:PA X [a] ta)(hs:starEach [a] X.env=[(false,eval a X.env)]:=by rfl):PI X tg (.Call (.Name "range" p) [a] [] pos) (XH ta):=by
 intro pins s Y H R I h;refine Call_ (qH I hg hm boot_range (PyProof.Rows.callWith_type1 (bG (ha pos pins s Y H _ I h) λus s1 ⟨vs,H1,I1,r1,q1⟩=>?_) hs rfl));obtain⟨j,e,q1,q2,q⟩:=q1;subst e
 cases r1 with
 |cons r rr =>
  cases rr;obtain⟨t,rfl⟩:=r;exact call_range_1 (E7 I1 (by omega) (by omega) q1 q2 (by simpa using q))
def BY(hg:Gl X "range")(hm:X.mg "range"=none)(ha:PA X [a,b] ta)(hs:starEach [a,b] X.env=[(false,eval a X.env),(false,eval b X.env)]:=by rfl)(hs2:starEach [b] X.env=[(false,eval b X.env)]:=by rfl) :
  PI X tg (.Call (.Name "range" p) [a,b] [] pos) (XG ta):=by
 intro pins s Y H R I h;refine Call_ (qH I hg hm boot_range (PyProof.Rows.callWith_type1 (bG (ha pos pins s Y H _ I h) λus s1 ⟨vs,H1,I1,r1,q1⟩=>?_) (by rw[hs,hs2]) (by rw[hs2];rfl)));obtain⟨i,j,e,⟨q1,q2,q3,q4⟩,q⟩:=q1;subst e
 cases r1 with
 |cons r rr =>
  cases rr with
  |cons r' rr =>
   cases rr;obtain⟨t,rfl⟩:=r;obtain⟨t',rfl⟩:=r';exact call_range_2 (E7 I1 q1 q2 q3 q4 q)
noncomputable def aHC(wi:TI)(g:TG)(tb:TS):TS:=λD Y H=>wi Y H λJ H1=>∃W:Nat->Nat->St->Hp->Prop,(∃m,W 0 m Y H1)/\∀i m Y H,W i m Y H ->
 (J.stop i H/\D.nx Y H)\/(J.go i H/\∃N:St->Hp->Prop,(∀Y' H',N Y' H'->∃m',m'<m/\W (i+1) m' Y' H')/\∀x H',J.yld i H x H'->g x Y H' λY2 H2=>tb { D with nx:=N,ct:=N,bk:=D.nx } Y2 H2)
noncomputable def uL(fp:List Addr)(h:Heap):List (Addr×Obj):=fp.filterMap λb=>(h.get? b).map λo=>(b,o)
def nC(hb:b∈fp)(e:h.get? b=some o):(b,o)∈uL fp h:=List.mem_filterMap.mpr ⟨b,hb,by rw[e];rfl⟩
def OG(hp:p∈uL fp h):p.1∈fp/\h.get? p.1=some p.2:=by
 obtain⟨b,hb,e⟩:=List.mem_filterMap.mp hp
 cases q:h.get? b with
 |none=>rw[q] at e;cases e
 |some o =>
  rw[q] at e;have e':(b,o)=p:=Option.some.inj e;subst e';exact⟨hb,q⟩
def Inv.pinned(I:Inv X pins Y H s)(hf:∀b∈fp,kC X pins H b)(ho:∀b∈fp,∃o,s.heap.get? b=some o/\∀v,o.data≠.cell v):Inv X (pins++uL fp s.heap) Y H s :=
 I.pins_of λp hp=>(zo.mp hp).elim (λz=>I.pin p (List.mem_append_right _ z)) λz=>by(obtain⟨hb,e⟩:=OG z;obtain⟨f0,f1,f2,_⟩:=hf p.1 hb;obtain⟨o,e',d⟩:=ho p.1 hb;rw[e] at e';cases e';exact⟨e,f0,f1,f2,d⟩)
def Inv.unpinned(I:Inv X (pins++pl) Y H s):Inv X pins Y H s:=I.pins_of λp hp=>I.pin p (List.mem_append_right _ (List.mem_append_left _ hp))
def aER(hp:PassesOwn (model X.prog X.w) X.A X.env X.xe)(hc:X.calm=true)(hi:PI X tg iter wi)(hg:PG X tg g)(hb:gH X body tb)
  (hs:∀x,foldedSetIterable iter X.env x=pure x:=by intro _;rfl):PS X (.For tg iter body [] pos) (aHC wi g tb):=by
 intro pins s Y H D I h;refine wpAny_For (bG (hi pins s Y H _ I h) λv s1 h1=>bG h1 λitv s2 h2=>?_) hs;obtain⟨it,fp,tn,J,H2,e,I2,T,st2,f2,W,⟨m0,w0⟩,turn⟩:=h2;subst e
 -- what stays true of the iterator's objects through the loop
 have stat:∀{H':Hp},(∀b∈fp,H' b=none)->∀b∈fp,kC X pins H' b:=λhn b hb=>⟨hn b hb,(f2 b hb).2⟩
 refine codeAny_forLoop_any (λn s'=>∃i Y' H',Inv X pins Y' H' s'/\tn i s'.heap/\(∀b∈fp,H' b=none)/\W i n Y' H') ?_ m0 ⟨0,Y,H2,I2,st2,λb hb=>(f2 b hb).1,w0⟩
 rintro n s3 ⟨i,Y3,H3,I3,st3,fr3,w3⟩
 rcases turn i n Y3 H3 w3 with ⟨stop,qn⟩ | ⟨go,N,hN,step⟩
 ·refine wpAny_passesOwn hp (bG (T.done X rfl rfl rfl hc i pins s3 Y3 H3 X.xe I3 (stat fr3) st3 stop) λr s4 ⟨hr,I4⟩=>?_);subst hr;exact wpAny_execs_nil ⟨Y3,H3,I4,qn⟩
 ·refine wpAny_passesOwn hp (bG (T.item X rfl rfl rfl hc i pins s3 Y3 H3 X.xe I3 (stat fr3) st3 go) λr s4 ⟨u,hr,h4⟩=>?_);subst hr;refine wpAny_passesOwn hp (bG h4 λ_ s5 ⟨x,H5,I5,r5,y5,st5,fr5⟩=>?_);have I5':=I5.pinned (stat fr5) (T.obj _ _ st5);refine wpAny_passesOwn hp (bG (hg _ s5 Y3 H5 x u _ I5' r5 (step x H5 y5)) λ_ s6 ⟨Y6,H6,I6,q6⟩=>?_);refine wpAny_passesOwn hp (bG (hb _ s6 Y6 H6 _ I6 q6) λf s7 q7=>?_)
  have again:∀{Y7:St} {H7:Hp},Inv X (pins++uL fp s5.heap) Y7 H7 s7->N Y7 H7->∃m,m<n/\∃i Y' H',Inv X pins Y' H' s7/\tn i s7.heap/\(∀b∈fp,H' b=none)/\W i m Y' H':=λ{Y7 H7} I7 n7=>by(obtain⟨m',hm,w7⟩:=hN Y7 H7 n7;refine⟨m',hm,i+1,Y7,H7,I7.unpinned,T.keep _ _ _ st5 λb hb o e=>(I7.pin (b,o) (List.mem_append_right _ (List.mem_append_right _ (nC hb e)))).1,λb hb=>?_,w7⟩;obtain⟨o,e,d⟩:=T.obj _ _ st5 b hb;exact(I7.pin (b,o) (List.mem_append_right _ (List.mem_append_right _ (nC hb e)))).2.1)
  cases f with
  |next=>obtain⟨Y7,H7,I7,n7⟩:=q7;exact again I7 n7
  |cont=>obtain⟨Y7,H7,I7,n7⟩:=q7;exact again I7 n7
  |brk=>obtain⟨Y7,H7,I7,q7⟩:=q7;exact⟨Y7,H7,I7.unpinned,q7⟩
  |ret v=>obtain⟨x7,Y7,H7,I7,r7,q7⟩:=q7;exact⟨x7,Y7,H7,I7.unpinned,r7,q7⟩
end
def VP{K:Frag}{g:TG}{tb:TS}{D:Ends}(Pv:Nat->St->Hp->Prop)(h0:Pv 0 Y H)(hl:∀i Y H,i<=xs.length->Pv i Y H->bU K H a xs)
  (hs:∀i x Y H,xs[i]?=some x->Pv i Y H->g x Y H λY2 H2=>tb { D with nx:=Pv (i+1),ct:=Pv (i+1),bk:=D.nx } Y2 H2) (hd:∀Y H,Pv xs.length Y H->D.nx Y H) :
  ∃W:Nat->Nat->St->Hp->Prop,(∃m,W 0 m Y H)/\∀i m Y H,W i m Y H ->
   ((qA K a).stop i H/\D.nx Y H)\/((qA K a).go i H/\∃N:St->Hp->Prop,(∀Y' H',N Y' H'->∃m',m'<m/\W (i+1) m' Y' H')/\∀x H',(qA K a).yld i H x H'->g x Y H' λY2 H2=>tb { D with nx:=N,ct:=N,bk:=D.nx } Y2 H2):=by
 refine⟨λi m Y H=>m=xs.length-i/\i<=xs.length/\Pv i Y H,⟨xs.length,by simp,Nat.zero_le _,h0⟩, ?_⟩
 rintro i m Y H ⟨rfl,hi,p⟩
 have q:=hl i Y H hi p;by_cases hlt:i<xs.length
 ·refine .inr ⟨⟨xs,xs[i],q,by simp[hlt]⟩,Pv (i+1),λY' H' p'=>⟨xs.length-(i+1),by omega,rfl,hlt,p'⟩,λx H' y=>?_⟩;obtain⟨e,y⟩:=y;subst e;exact hs i x Y _ (y xs q) p
 ·have e:i=xs.length:=by omega
  subst e;exact .inl ⟨⟨xs,q,Zq _⟩,hd Y H p⟩
def aAN{K:Frag}{g:TG}{tb:TS}{D:Ends}(Pv:Nat->St->Hp->Prop)(h0:Pv 0 Y H)(hl:∀i Y H,i<=xs.length->Pv i Y H->dE K H a xs)
  (hs:∀i x Y H,xs[i]?=some x->Pv i Y H->g x Y H λY2 H2=>tb { D with nx:=Pv (i+1),ct:=Pv (i+1),bk:=D.nx } Y2 H2) (hd:∀Y H,Pv xs.length Y H->D.nx Y H) :
  ∃W:Nat->Nat->St->Hp->Prop,(∃m,W 0 m Y H)/\∀i m Y H,W i m Y H ->
   ((qG K a).stop i H/\D.nx Y H)\/((qG K a).go i H/\∃N:St->Hp->Prop,(∀Y' H',N Y' H'->∃m',m'<m/\W (i+1) m' Y' H')/\∀x H',(qG K a).yld i H x H'->g x Y H' λY2 H2=>tb { D with nx:=N,ct:=N,bk:=D.nx } Y2 H2):=by
 refine⟨λi m Y H=>m=xs.length-i/\i<=xs.length/\Pv i Y H,⟨xs.length,by simp,Nat.zero_le _,h0⟩, ?_⟩
 rintro i m Y H ⟨rfl,hi,p⟩
 have q:=hl i Y H hi p;by_cases hlt:i<xs.length
 ·refine .inr ⟨⟨xs,xs[i],q,by simp[hlt]⟩,Pv (i+1),λY' H' p'=>⟨xs.length-(i+1),by omega,rfl,hlt,p'⟩,λx H' y=>?_⟩;obtain⟨e,y⟩:=y;subst e;exact hs i x Y _ (y xs q) p
 ·have e:i=xs.length:=by omega
  subst e;exact .inl ⟨⟨xs,q,Zq _⟩,hd Y H p⟩
def PZ{lo:Int}{g:TG}{tb:TS}{D:Ends}(Pv:Nat->St->Hp->Prop)(h0:Pv 0 Y H)
  (hs:∀i Y H,i<n->Pv i Y H->g (.int (lo+i)) Y H λY2 H2=>tb { D with nx:=Pv (i+1),ct:=Pv (i+1),bk:=D.nx } Y2 H2) (hd:∀Y H,Pv n Y H->D.nx Y H) :
  ∃W:Nat->Nat->St->Hp->Prop,(∃m,W 0 m Y H)/\∀i m Y H,W i m Y H ->
   ((oH lo n).stop i H/\D.nx Y H)\/((oH lo n).go i H/\∃N:St->Hp->Prop,(∀Y' H',N Y' H'->∃m',m'<m/\W (i+1) m' Y' H')/\∀x H',(oH lo n).yld i H x H'->g x Y H' λY2 H2=>tb { D with nx:=N,ct:=N,bk:=D.nx } Y2 H2):=by
 refine⟨λi m Y H=>m=n-i/\i<=n/\Pv i Y H,⟨n,by simp,Nat.zero_le _,h0⟩, ?_⟩
 rintro i m Y H ⟨rfl,hi,p⟩
 by_cases hlt:i<n
 ·refine .inr ⟨hlt,Pv (i+1),λY' H' p'=>⟨n-(i+1),by omega,rfl,hlt,p'⟩,λx H' y=>?_⟩;obtain⟨e,y⟩:=y;subst e y;exact hs i Y _ hlt p
 ·have e:i=n:=by omega
  subst e;exact .inl ⟨Zq _,hd Y H p⟩
abbrev R2:=V->V->Hp->VK->Prop
def eW(X:Cx)(f:Value->Value->Sem Value)(r:R2):Prop :=
 ∀(pins:List (Addr×Obj)) (s:Shared) (Y:St) (H:Hp) (x y:V) (v u:Value) (Q:VK),Inv X pins Y H s->a7 x v->a7 y u->r x y H Q ->
  wpAny (model X.prog X.w) X.A (f v u) (EP X pins Y Q) X.xe s
def UnR(X:Cx)(f:Value->Sem Value)(r:V->Hp->VK->Prop):Prop :=
 ∀(pins:List (Addr×Obj)) (s:Shared) (Y:St) (H:Hp) (x:V) (v:Value) (Q:VK),Inv X pins Y H s->a7 x v->r x H Q ->
  wpAny (model X.prog X.w) X.A (f v) (EP X pins Y Q) X.xe s
def fP(X:Cx)(f:Value)(r:List V->Hp->VK->Prop):Prop :=
 ∀(pins:List (Addr×Obj)) (s:Shared) (Y:St) (H:Hp) (xs:List V) (us:List Value) (Q:VK),Inv X pins Y H s->aO xs us->r xs H Q ->
  wpAny (model X.prog X.w) X.A (call f us) (EP X pins Y Q) X.xe s
def aHm(X:Cx)(r:V->Hp->(Bool->Hp->Prop)->Prop):Prop :=
 ∀(pins:List (Addr×Obj)) (s:Shared) (Y:St) (H:Hp) (x:V) (v:Value) (Q:Bool->Hp->Prop),Inv X pins Y H s->a7 x v->r x H Q ->
  wpAny (model X.prog X.w) X.A (truthy v) (TP X pins Y Q) X.xe s
noncomputable def PF(r:R2)(ta tb:TE):TE:=λY H Q=>ta Y H λx H1=>tb Y H1 λy H2=>r x y H2 Q
noncomputable def tUn(r:V->Hp->VK->Prop)(ta:TE):TE:=λY H Q=>ta Y H λx H1=>r x H1 Q
noncomputable def rI(C:Int->Int->Prop)(g:Int->Int->V):R2:=λx y H Q=>∃i j,x=.int i/\y=.int j/\C i j/\Q (g i j) H
noncomputable def zE(g:Int->Int->V):R2:=λx y H Q=>∃i j,x=.int i/\y=.int j/\Q (g i j) H
def rU(g:Int->V):V->Hp->VK->Prop:=λx H Q=>∃i,x=.int i/\Q (g i) H
section
variable{X:Cx}{a b c:Expr}{ta tb tc:TE}{pos:Pos}
def S9(ha:PE X a ta)(hb:PE X b tb){R:V->V->Hp->Prop}(I:Inv X pins Y H s)
  (h:ta Y H λx H1=>tb Y H1 λy H2=>R x y H2) {f:Value->Value->Sem Value}
  (hf:∀v u s2 x y H2,Inv X pins Y H2 s2->a7 x v->a7 y u->R x y H2->wpAny (model X.prog X.w) X.A (f v u) Q X.xe s2) :
  wpAny (model X.prog X.w) X.A (eval a X.env) (λv s₁=>wpAny (model X.prog X.w) X.A (eval b X.env) (λu s₂=>wpAny (model X.prog X.w) X.A (f v u) Q X.xe s₂) X.xe s₁) X.xe s:=by
 refine bG (ha pins s Y H _ I h) λv s1 ⟨x,H1,I1,r1,q1⟩=>?_
 refine bG (hb pins s1 Y H1 _ I1 q1) λu s2 ⟨y,H2,I2,r2,q2⟩=>?_
 exact hf v u s2 x y H2 I2 r1 r2 q2
def aGz(ho:eW X (binaryOp op) r)(ha:PE X a ta)(hb:PE X b tb):PE X (.BinOp a op b pos) (PF r ta tb):=by
 intro pins s Y H Q I h;exact wpAny_BinOp (S9 ha hb I h λv u s2 x y H2 I2 rx ry q=>ho pins s2 Y H2 x y v u Q I2 rx ry q)
def aF6(ho:UnR X (unaryOp op) r)(ha:PE X a ta):PE X (.UnaryOp op a pos) (tUn r ta):=by
 intro pins s Y H Q I h;exact UnaryOp_ (bG (ha pins s Y H _ I h) λv s1 ⟨x,H1,I1,r1,q1⟩=>ho pins s1 Y H1 x v Q I1 r1 q1)
def NS{g:Int->Int->Int}
  (rule:∀(i j:Int) (t u:Tok) (s:Shared) (Q:Value->Shared->Prop) (E:Value->Shared->Prop),C i j->Q (.int (g i j) s.toks) { s with toks:=s.toks+1 }->wpAny (model X.prog X.w) X.A (f (.int i t) (.int j u)) Q E s) :
  eW X f (rI C λi j=>.int (g i j)):=by
 intro pins s Y H x y v u Q I rx ry h;obtain⟨i,j,rfl,rfl,hc,q⟩:=h;obtain⟨t,rfl⟩:=rx;obtain⟨t',rfl⟩:=ry;exact rule i j t t' s _ _ hc ⟨.int (g i j),H,I.tok _,⟨_,rfl⟩,q⟩
def VG{g:Int->Int->Int}
  (rule:∀(i j:Int) (t u:Tok) (s:Shared) (Q:Value->Shared->Prop) (E:Value->Shared->Prop),Q (.int (g i j) s.toks) { s with toks:=s.toks+1 }->wpAny (model X.prog X.w) X.A (f (.int i t) (.int j u)) Q E s) :
  eW X f (zE λi j=>.int (g i j)):=by
 intro pins s Y H x y v u Q I rx ry h;obtain⟨i,j,rfl,rfl,q⟩:=h;obtain⟨t,rfl⟩:=rx;obtain⟨t',rfl⟩:=ry;exact rule i j t t' s _ _ ⟨.int (g i j),H,I.tok _,⟨_,rfl⟩,q⟩
def K7{g:Int->Int->Bool}
  (rule:∀(i j:Int) (t u:Tok) (s:Shared) (Q:Value->Shared->Prop) (E:Value->Shared->Prop),Q (.bool (g i j)) s->wpAny (model X.prog X.w) X.A (f (.int i t) (.int j u)) Q E s) :
  eW X f (zE λi j=>.bl (g i j)):=by
 intro pins s Y H x y v u Q I rx ry h;obtain⟨i,j,rfl,rfl,q⟩:=h;obtain⟨t,rfl⟩:=rx;obtain⟨t',rfl⟩:=ry;exact rule i j t t' s _ _ ⟨.bl (g i j),H,I,rfl,q⟩
def aHx(i j:Int):Prop:=0<=j/\j<=1000000/\i.natAbs<2 ^ 64
def TZ(i j:Int):Prop:=(-(2 ^ 64)<i/\i<2 ^ 64)\/(-(2 ^ 64)<j/\j<2 ^ 64)
def TZ.ok(h:TZ i j):IntMulOk i j:=by
 rcases h with ⟨h1,h2⟩ | ⟨h1,h2⟩
 ·exact .of_left (intBits_le_64 h1 h2)
 ·exact .of_right (intBits_le_64 h1 h2)
def two_pow_nn(k:Nat):(0:Int)<=2 ^ k:=by
 rw[two_pow_cast];exact Int.natCast_nonneg _
def aCS:eW X (binaryOp .Add) (zE λi j=>.int (i+j)):=VG λ_ _ _ _ _ _ _ q=>add_int q
def aCc:eW X (binaryOp .Sub) (zE λi j=>.int (i-j)):=VG λ_ _ _ _ _ _ _ q=>sub_int q
def aBt:eW X (binaryOp .Mult) (rI TZ λi j=>.int (i*j)):=NS λ_ _ _ _ _ _ _ hc q=>mul_int q hc.ok
def aD2:eW X (binaryOp .Mod) (rI (λ_ j=>0<j) λi j=>.int (i % j)):=NS λi j _ _ _ _ _ hc q=>by
 have h1:(0:Int)<j:=hc;exact mod_int' (by omega) (by rw[Int.fmod_eq_emod_of_nonneg i (by omega)];exact q)
def aD7:eW X (binaryOp .LShift) (rI aHx λi j=>.int (i*2 ^ j.toNat)):=NS λ_ _ _ _ _ _ _ hc q=>lshift_int_small hc.1 hc.2.1 hc.2.2 q
def aEc:eW X (binaryOp .RShift) (rI (λ_ j=>0<=j) λi j=>.int (i / 2 ^ j.toNat)):=NS λi j _ _ _ _ _ hc q =>
 rshift_int hc (by rw[Int.fdiv_eq_ediv_of_nonneg i (two_pow_nn _)];exact q)
def aDj:eW X (binaryOp .BitAnd) (zE λi j=>.int (Builtin.bitAnd i j)):=VG λ_ _ _ _ _ _ _ q=>and_int q
def unI{g:Int->Int}
  (rule:∀(i:Int) (t:Tok) (s:Shared) (Q:Value->Shared->Prop) (E:Value->Shared->Prop),Q (.int (g i) s.toks) { s with toks:=s.toks+1 }->wpAny (model X.prog X.w) X.A (f (.int i t)) Q E s) :
  UnR X f (rU λi=>.int (g i)):=by
 intro pins s Y H x v Q I rx h;obtain⟨i,rfl,q⟩:=h;obtain⟨t,rfl⟩:=rx;exact rule i t s _ _ ⟨.int (g i),H,I.tok _,⟨_,rfl⟩,q⟩
def aCW:UnR X (unaryOp .USub) (rU λi=>.int (-i)):=unI λ_ _ _ _ _ q=>neg_int q
end
section
variable{X:Cx}{a b c:Expr}{ta tb tc:TE}{pos:Pos}
def O0(I:Inv X pins Y H s)(q:Q (.bl k) H)(e:k=k'):EP X pins Y Q (.bool k') s:=by
 subst e;exact⟨.bl k,H,I,rfl,q⟩
def aGg:eW X (compareOp .Lt) (zE λi j=>.bl (decide (i<j))):=K7 λ_ _ _ _ _ _ _ q=>lt_int q
def aFg:eW X (compareOp .LtE) (zE λi j=>.bl (decide (i<=j))):=K7 λ_ _ _ _ _ _ _ q=>le_int q
def aGk:eW X (compareOp .Gt) (zE λi j=>.bl (decide (j<i))):=K7 λ_ _ _ _ _ _ _ q=>gt_int q
def aFp:eW X (compareOp .GtE) (zE λi j=>.bl (decide (j<=i))):=K7 λ_ _ _ _ _ _ _ q=>ge_int q
def aDU:eW X (compareOp .Is) (λx y H Q=>y=.non/\Q (.bl (decide (x=.non))) H):=by
 intro pins s Y H x y v u Q I rx ry h;obtain⟨rfl,q⟩:=h;cases ry;refine is_none_gen (O0 I q ?_)
 cases x<;>first
  | (cases rx;rfl)
  | (obtain⟨t,rfl⟩:=rx;rfl)
def aAl:eW X (compareOp .IsNot) (λx y H Q=>y=.non/\Q (.bl (!decide (x=.non))) H):=by
 intro pins s Y H x y v u Q I rx ry h;obtain⟨rfl,q⟩:=h;cases ry;refine isnot_none_gen (O0 I q ?_)
 cases x<;>first
  | (cases rx;rfl)
  | (obtain⟨t,rfl⟩:=rx;rfl)
def aAn(ho:eW X (compareOp op) r)(ha:PE X a ta)(hb:PE X b tb)(hm:behindInMarks op b=false):PE X (.Compare a [op] [b] pos) (PF r ta tb):=by
 intro pins s Y H Q I h;exact wpAny_Compare1 (S9 ha hb I h λv u s2 x y H2 I2 rx ry q=>ho pins s2 Y H2 x y v u Q I2 rx ry q) hm
noncomputable def WL(t:TE):TT:=λY H Q=>t Y H λx H'=>∃k,x=.bl k/\Q k H'
def YW(ho:eW X (compareOp op) r)(ha:PE X a ta)(hb:PE X b tb)(hm:behindInMarks op b=false):PT X (.Compare a [op] [b] pos) (WL (PF r ta tb)):=by
 intro pins s Y H Q I h
 refine wpAny_isTrue_Compare1 (bG (ha pins s Y H _ I h) λv s1 ⟨x,H1,I1,r1,q1⟩=>bG (hb pins s1 Y H1 _ I1 q1) λu s2 ⟨y,H2,I2,r2,q2⟩ =>
  bG (ho pins s2 Y H2 x y v u _ I2 r1 r2 q2) λc s3 ⟨z,H3,I3,r3,k,e,q3⟩=>?_) hm
 subst e;cases r3;exact wpAny_truthy_bool ⟨H3,I3,q3⟩
noncomputable def EJ(r r':R2)(ta tb tc:TE):TE:=λY H Q=>ta Y H λx H1=>tb Y H1 λy H2=>r x y H2 λz H3=>∃k,z=.bl k /\
 (if k=true then tc Y H3 λw' H4=>r' y w' H4 Q else Q (.bl false) H3)
def SI(ho:eW X (compareOp op) r)(ho':eW X (compareOp op') r')(ha:PE X a ta)(hb:PE X b tb)(hc:PE X c tc)
  (hm:lastMarks [op,op'] [b,c]=false:=by with_unfolding_all rfl):PE X (.Compare a [op,op'] [b,c] pos) (EJ r r' ta tb tc):=by
 intro pins s Y H Q I h
 refine Compare_chain (bG (ha pins s Y H _ I h) λv s1 ⟨x,H1,I1,r1,q1⟩=>chain_link (bG (hb pins s1 Y H1 _ I1 q1) λu s2 ⟨y,H2,I2,r2,q2⟩ =>
  bG (ho pins s2 Y H2 x y v u _ I2 r1 r2 q2) λd s3 ⟨z,H3,I3,r3,k,e,q3⟩=>?_)) hm
 subst e;cases r3;refine wpAny_truthy_bool ?_
 cases k with
 |false=>exact ite_ff ⟨.bl false,H3,I3,rfl,q3⟩
 |true=>exact ite_tt (chain_last (bG (hc pins s3 Y H3 _ I3 q3) λw' s4 ⟨z',H4,I4,r4,q4⟩=>ho' pins s4 Y H4 y z' u w' Q I4 r2 r4 q4))
def RH(ho:eW X (compareOp op) r)(ho':eW X (compareOp op') r')(ha:PE X a ta)(hb:PE X b tb)(hc:PE X c tc)
  (hm:lastMarks [op,op'] [b,c]=false:=by with_unfolding_all rfl):PT X (.Compare a [op,op'] [b,c] pos) (WL (EJ r r' ta tb tc)):=by
 intro pins s Y H Q I h
 refine isTrue_chain (bG (ha pins s Y H _ I h) λv s1 ⟨x,H1,I1,r1,q1⟩=>test_link (bG (hb pins s1 Y H1 _ I1 q1) λu s2 ⟨y,H2,I2,r2,q2⟩ =>
  bG (ho pins s2 Y H2 x y v u _ I2 r1 r2 q2) λd s3 ⟨z,H3,I3,r3,k,e,q3⟩=>?_)) hm
 subst e;cases r3;refine wpAny_truthy_bool ?_
 cases k with
 |false =>
  obtain⟨k',e',q'⟩:=q3;cases e';exact ite_ff ⟨H3,I3,q'⟩
 |true =>
  refine ite_tt (test_last (bG (hc pins s3 Y H3 _ I3 q3) λw' s4 ⟨z',H4,I4,r4,q4⟩=>bG (ho' pins s4 Y H4 y z' u w' _ I4 r2 r4 q4) λd' s5 ⟨z2,H5,I5,r5,k2,e2,q5⟩=>?_));subst e2;cases r5;exact wpAny_truthy_bool ⟨H5,I5,q5⟩
def LB(K:Frag)(x:V)(H:Hp)(k:Bool):Prop :=
 match x with
 |.non=>k=false
 |.bl b=>k=b
 |.int i=>k=(i != 0)
 |.str y=>y.length<=sizeLine/\k=((y.length:Int) != 0)
 |.ref p=>(∃xs,bU K H p xs/\k=!xs.isEmpty)\/(∃xs,dE K H p xs/\k=!xs.isEmpty)\/∃kvs,H p=some (.dK kvs)/\k=!kvs.isEmpty
 |_=>False
def K4(r:KV kvs vs):(!vs.isEmpty)=!kvs.isEmpty:=by
 cases r<;>rfl
def y9(r:aO xs its):(!its.toArray.isEmpty)=!xs.isEmpty:=by
 cases r<;>simp
def oR:(sizeLine:Nat)<2 ^ 63:=by rw[sizeLine_eq];decide
def QV:aHm X (λx H Q=>∃k,LB X.K x H k/\Q k H):=by
 intro pins s Y H x v Q I rx h;obtain⟨k,e,q⟩:=h;have hl:=oR;have hs:sizeLine=16777216:=sizeLine_eq
 cases x with
 |non =>
  cases rx;have e':k=false:=e;subst e';exact truthy_none ⟨H,I,q⟩
 |bl b =>
  cases rx;have e':k=b:=e;subst e';exact wpAny_truthy_bool ⟨H,I,q⟩
 |int i =>
  obtain⟨t,rfl⟩:=rx;have e':k=(i != 0):=e;subst e';exact PySem.P.truthy_int ⟨H,I,q⟩
 |str y =>
  obtain⟨t,rfl⟩:=rx;obtain⟨hy,e'⟩:y.length<=sizeLine/\k=((y.length:Int) != 0):=e;subst e';exact PySem.P.truthy_str (by omega) ⟨H,I.tok _,q⟩
 |ref p =>
  cases rx;have e':(∃xs,bU X.K H p xs/\k=!xs.isEmpty)\/(∃xs,dE X.K H p xs/\k=!xs.isEmpty)\/∃kvs,H p=some (.dK kvs)/\k=!kvs.isEmpty:=e
  rcases e' with ⟨xs,hx,e'⟩ | ⟨xs,hx,e'⟩ | ⟨kvs,hx,e'⟩
  ·subst e';obtain⟨its,r,pl,hz⟩:=I.list hx;have hlen:=r.length;exact wpAny_truthy_list pl.isList (by simp only[Zi];omega) ⟨H,I.tok _,by rw[y9 r];exact q⟩
  ·subst e';obtain⟨its,r,pl,hz⟩:=I.tuple hx;have hlen:=r.length;exact truthy_tuple pl (by simp only[Zi];omega) ⟨H,I.tok _,by rw[y9 r];exact q⟩
  ·subst e';obtain⟨hz,hS,vs,r,m⟩:kvs.length<=sizeLine/\(p==sysModules)=false/\∃vs,KV kvs vs/\s.heap.DictOf (eL X.prog X.w) p vs:=I.hok p _ hx
   have hlen:kvs.length=vs.length:=Paired.length r;exact wpAny_truthy_dict hS m (by omega) ⟨H,I.tok _,by rw[K4 r];exact q⟩
 |_=>exact(show False from e).elim
def EW(ha:PE X a ta)(he:∀whole,isTrue a X.env whole=(do let v <- whole;standAt a.pos;holding [v] (truthy v))) :
  PT X a (λY H Q=>ta Y H λx H'=>∃k,LB X.K x H' k/\Q k H'):=by
 intro pins s Y H Q I h;exact isTrue_plain (bG (ha pins s Y H _ I h) λv s1 ⟨x,H1,I1,r1,q1⟩=>QV pins s1 Y H1 x v Q I1 r1 q1) (he _)
def iJ(r:aO [x] us):∃u,us=[u]/\a7 x u:=by
 cases r with
 |cons r1 r2=>cases r2;exact⟨_,rfl,r1⟩
def wC(r:aO [x,y] us):∃u w',us=[u,w']/\a7 x u/\a7 y w':=by
 cases r with
 |cons r1 r2 =>
  cases r2 with
  |cons r3 r4=>cases r4;exact⟨_,_,rfl,r1,r3⟩
def R8:fP X (.builtin "abs") (λxs H Q=>∃i,xs=[.int i]/\Q (.int (if i<0 then -i else i)) H):=by
 intro pins s Y H xs us Q I r h;obtain⟨i,rfl,q⟩:=h;obtain⟨u,rfl,t,rfl⟩:=iJ r;exact call_abs_int λu tk=>⟨.int (if i<0 then -i else i),H,I.tok _,⟨_,rfl⟩,q⟩
def OC(hc:X.calm=true):fP X (.builtin "max") (λxs H Q=>∃i j,xs=[.int i,.int j]/\Q (.int (if j > i then j else i)) H):=by
 intro pins s Y H xs us Q I r h;obtain⟨i,j,rfl,q⟩:=h;obtain⟨u,w',rfl,⟨t,rfl⟩,⟨t',rfl⟩⟩:=wC r;refine max_two_ints (I.ok.hd hc) λh' tk k=>⟨_,H,I.kept k, ?_,q⟩
 by_cases hj:j > i
 ·rw[Zo hj,Zo hj];exact⟨_,rfl⟩
 ·rw[Zp hj,Zp hj];exact⟨_,rfl⟩
def NW(hc:X.calm=true):fP X (.builtin "min") (λxs H Q=>∃i j,xs=[.int i,.int j]/\Q (.int (if j<i then j else i)) H):=by
 intro pins s Y H xs us Q I r h;obtain⟨i,j,rfl,q⟩:=h;obtain⟨u,w',rfl,⟨t,rfl⟩,⟨t',rfl⟩⟩:=wC r;refine min_two_ints (I.ok.hd hc) λh' tk k=>⟨_,H,I.kept k, ?_,q⟩
 by_cases hj:j<i
 ·rw[Zo hj,Zo hj];exact⟨_,rfl⟩
 ·rw[Zp hj,Zp hj];exact⟨_,rfl⟩
def B7:fP X (.type "int") (λxs H Q=>(∃i,xs=[.int i]/\Q (.int i) H)\/∃k,xs=[.bl k]/\Q (.int (if k then 1 else 0)) H):=by
 intro pins s Y H xs us Q I r h;rcases h with ⟨i,rfl,q⟩ | ⟨k,rfl,q⟩
 ·obtain⟨u,rfl,t,rfl⟩:=iJ r;exact call_int_int ⟨.int i,H,I,⟨_,rfl⟩,q⟩
 ·obtain⟨u,rfl,r1⟩:=iJ r;cases r1;exact call_int_bool ⟨.int (if k then 1 else 0),H,I.tok _,⟨_,rfl⟩,q⟩
end
structure ObjM(h:Heap)(x dx C:Addr)(mA:Str->Option Value):Prop where
 obj:h.get? x=some (PySem.W.instObj C dx)
 ns:h.Ns1 dx mA
 ne:dx≠x
def OB{h:Heap}(n:h.Ns1 dx mA):∃od,h.get? dx=some od/\∀name,PySem.W.lookIn name od=some (mA name):=by
 obtain⟨o,es,ep,ho,hd,hk,_,hm⟩:=n;refine⟨o,ho,λname=>?_⟩;have e:=hm name;unfold nsFind findBy at e;rw[<- Array.find?_toList] at e;unfold PySem.W.lookIn;rw[hd];dsimp only;split
 ·rename_i y q;rw[q] at e;exact congrArg some e
 ·rename_i q;rw[q] at e
  have a:es.toList.any (·.refKey)=false:=by(rw[List.any_eq_false];intro y hy;obtain⟨z,t,hkey⟩:=hk y (Array.mem_toList_iff.mp hy);simp[DictEntry.refKey,hkey])
  have a':¬es.toList.any (·.refKey)=true:=by rw[a];exact Bool.false_ne_true
  rw[Zp a'];exact congrArg some e
def ObjM.look(I:ObjM h x dx C mA):∃od,PySem.W.InstAt h x (PySem.W.instObj C dx) C (some od)/\∀name,PySem.W.lookIn name od=some (mA name) :=
 let ⟨od,ho,hl⟩:=OB I.ns
 ⟨od,⟨I.obj,rfl,rfl,ho⟩,hl⟩
section
variable{prog:Program}{w:World}{A:Around}{E:Value->Shared->Prop}{s:Shared}{K:Frag}{x dx C f:Addr}{mA:Str->Option Value}{name:Str}{v:Value}
def aA2(X:K.In s.heap)(I:ObjM s.heap x dx C mA)(hg:PySem.W.plainGet K C name=true)(hh:PySem.W.hasDictIn K C=true)
  (ha:findIn K (.ref C) name=some none) (hv:mA name=some v) (hv':PySem.W.handedIn v=true) (h:Q v { s with toks:=s.toks+1 }) :
  wpAny (model prog w) A (getAttr (.ref x) name expr) Q E s:=by
 obtain⟨od,J,hl⟩:=I.look;exact PySem.W.get_value X J (PySem.W.plainGet_of hg).1 (PySem.W.findObj_own hh ha rfl (by rw[hl,hv])) hv' h
def VT(X:K.In s.heap)(I:ObjM s.heap x dx C mA)(hg:PySem.W.plainGet K C name=true)
  (hf:findIn K (.ref C) name=some (some (.ref f))) (ht:PySem.W.isFn K (.ref f)=true) (hv:mA name=none) (h:Q (.ref f,[.ref x]) s) :
  wpAny (model prog w) A (getMethod (.ref x) name pl) Q E s:=by
 obtain⟨od,J,hl⟩:=I.look;exact PySem.W.method_fn X J (PySem.W.plainGet_of hg).1 (PySem.W.plainGet_of hg).2 hf (beq_iff_eq.mp ht) (by show(PySem.W.lookIn name od).map (·.isSome)=some false;rw[hl,hv];rfl) h
def YR(X:K.In s.heap)(I:ObjM s.heap x dx C mA)
  (hs:findIn K (.ref C) "__setattr__"=some (some (.builtin "object.__setattr__"))) (hp:PySem.W.plainOver K C=true) (ht:PySem.W.takerIn K C name=some none) (hh:PySem.W.hasDictIn K C=true)
  (hw:PySem.Within mA ns) (hsz:ns.length<=sizeLine)
  (h:∀h',ObjM h' x dx C (λy=>if y=name then some v else mA y)->Heap.SameBut dx s.heap h'->Q () { s with heap:=h',toks:=s.toks+2 }) :
  wpAny (model prog w) A (setAttr (.ref x) name v) Q E s:=by
 obtain⟨od,J,hl⟩:=I.look;refine PySem.W.set_plain X J hs (PySem.W.osa_open (s:={ s with toks:=s.toks+1 }) (r:=none) X J hp ht λb=>?_);obtain⟨cd,hc,hd'⟩:=PySem.W.any_some hh;have hx:s.heap.get? x=some ⟨.ref C,some dx,.plain,#[]⟩:=I.obj;refine Zt (Zu (Zt (Zt (wpAny_loadPart hx (Zt (PySem.W.Looks.here (s:={ s with toks:=s.toks+1 }) (PySem.W.looks_clsIn X hc) ?_))))));rw[hd'];refine Zu (a:=some dx) (Zt (Zu (Zt ?_)));refine wpAny_nsSet1 (s:={ s with toks:=s.toks+1 }) I.ns λh' hn2 hs2=>?_
 obtain⟨oD,esD,epD,hoD,hdD,hcD⟩:=hn2.count (PySem.Within.cons name v hw);refine Zt (wpAny_lookBehind hoD (by rw[hdD];exact pastItsLine_dict (Zr hcD (by rw[Zk];omega))) ?_);exact Zu (h _ ⟨(hs2.2 _ (Ne.symm I.ne)).trans I.obj,hn2,I.ne⟩ hs2)
def TJ(X:K.In s.heap)(hm:PySem.W.makesIn K C=true)
  (hi:findIn K (.ref C) "__init__"=some (some (.ref f))) (hf:PySem.W.typeIn K (.ref f)=some (.type "function"))
  (h:codeAny (model prog w) (A.under (.builtin "type.__call__" ⟨.ref C::vs,kw⟩)) (.call (.ref f) ⟨.ref (s.heap.objs.size+1)::vs,kw⟩) (PySem.W.InitBack (s.heap.objs.size+1) R)
   { s with heap:=(s.heap.push PySem.W.emptyDict).push (PySem.W.instObj C s.heap.objs.size) }) :
  codeAny (model prog w) A (.call (.ref C) ⟨vs,kw⟩) R s:=by
 obtain⟨hh,g,d,t,os⟩:=s;exact PySem.W.make_core (PySem.W.makes_of X hm) (PySem.W.looks_findIn X hi) (λself=>PySem.W.bind_fn X self hf) (.inl rfl) h
end
noncomputable def iF(f:Str)(v:V):List (Str×V)->List (Str×V)
 |[]=>[(f,v)]
 | (g,x)::r=>if g=f then(g,v)::r else(g,x)::iF f v r
theorem xF(f g:Str)(v:V):∀fs:List (Str×V),(iF f v fs).lookup g=if g=f then some v else fs.lookup g
 |[]=>by
  show List.lookup g [(f,v)]=_;by_cases h:g=f
  ·have hb:(g==f)=true:=beq_iff_eq.mpr h;simp only[List.lookup,hb,Zo h]
  ·have hb:(g==f)=false:=beq_eq_false_iff_ne.mpr h;simp only[List.lookup,hb,Zp h]
 | (k,x)::r=>by
  have ih:=xF f g v r;rw[show iF f v ((k,x)::r)=(if k=f then(k,v)::r else(k,x)::iF f v r) from rfl];by_cases hk:k=f
  ·rw[Zo hk];by_cases h:g=k
   ·have hb:(g==k)=true:=beq_iff_eq.mpr h;simp only[List.lookup,hb,Zo (h.trans hk)]
   ·have hb:(g==k)=false:=beq_eq_false_iff_ne.mpr h;simp only[List.lookup,hb,Zp (λe:g=f=>h (e.trans hk.symm))]
  ·rw[Zp hk];by_cases h:g=k
   ·have hb:(g==k)=true:=beq_iff_eq.mpr h;simp only[List.lookup,hb,Zp (λe:g=f=>hk (h.symm.trans e))]
   ·have hb:(g==k)=false:=beq_eq_false_iff_ne.mpr h;simp only[List.lookup,hb];exact ih
theorem uN(f:Str)(v:V):∀fs:List (Str×V),f∈(iF f v fs).map (·.1)/\∀g,g∈fs.map (·.1)->g∈(iF f v fs).map (·.1)
 |[]=>⟨by simp[iF],λg h=>by simp at h⟩
 | (k,x)::r=>by
  obtain⟨i1,i2⟩:=uN f v r;rw[show iF f v ((k,x)::r)=(if k=f then(k,v)::r else(k,x)::iF f v r) from rfl];by_cases hk:k=f
  ·rw[Zo hk];subst hk;exact⟨by simp,λg h=>by simpa using h⟩
  ·rw[Zp hk];refine⟨?_,λg h=>?_⟩
   ·rw[Zs];exact Ze _ i1
   ·rw[Zs] at h ⊢;rcases List.mem_cons.mp h with e | e
    ·exact List.mem_cons.mpr (.inl e)
    ·exact Ze _ (i2 g e)
theorem wY(f:Str)(v:V):∀fs:List (Str×V),(iF f v fs).length<=fs.length+1
 |[]=>by simp[iF]
 | (k,x)::r=>by
  have ih:=wY f v r;rw[show iF f v ((k,x)::r)=(if k=f then(k,v)::r else(k,x)::iF f v r) from rfl];by_cases hk:k=f
  ·rw[Zo hk,Zk,Zk];omega
  ·rw[Zp hk,Zk,Zk];omega
def lQ.some_of(r:lQ (some v) o):∃u,o=some u/\a7 v u:=by
 cases o with
 |none=>exact(show False from r).elim
 |some u=>exact⟨u,rfl,r⟩
def lQ.none_of(r:lQ none o):o=none:=by
 cases o with
 |none=>rfl
 |some u=>exact(show False from r).elim
def N7(r:a7 v u):PySem.W.handedIn u=true:=by
 cases v with
 |non=>cases (show u=Value.none from r);rfl
 |bl b=>cases (show u=Value.bool b from r);rfl
 |int i=>obtain⟨t,e⟩:=(show ∃t,u=Value.int i t from r);cases e;rfl
 |str x=>obtain⟨t,e⟩:=(show ∃t,u=Value.str x t from r);cases e;rfl
 |ref a=>cases (show u=Value.ref a from r);rfl
 |ty n=>cases (show u=Value.type n from r);rfl
section
variable{P:Program}{w:World}{H H':Hp}{h h':Heap}{a C dx:Addr}{fs fs':List (Str×V)}
def AK(hok:gE P w H h)(e:H a=some (.ins C dx fs)):∃mA,ObjM h a dx C mA/\(∀f,lQ (fs.lookup f) (mA f))/\PySem.Within mA (fs.map (·.1))/\fs.length<=1000/\H dx=some (.own a):=by
 obtain⟨d,z,ne,ob,mA,n,r,q⟩:=(show cT P w H h a (.ins C dx fs) from hok a _ e)
 exact⟨mA,⟨ob,n,ne⟩,r,q,z,d⟩
end
structure Cls(K:Frag)(C:Addr):Prop where
 pg:PySem.W.plainGet K C Str.empty=true
 hd:PySem.W.hasDictIn K C=true
 po:PySem.W.plainOver K C=true
 sa:findIn K (.ref C) "__setattr__"=some (some (.builtin "object.__setattr__"))
def Cls.get{K:Frag}(c:Cls K C)(f:Str):PySem.W.plainGet K C f=true:=c.pg
def mQ(K:Frag)(C:Addr)(f:Str):Prop:=findIn K (.ref C) f=some none
def mQ.taker{K:Frag}(n:mQ K C f):PySem.W.takerIn K C f=some none:=by
 unfold PySem.W.takerIn;rw[show findIn K (.ref C) f=some none from n];rfl
structure Meth(K:Frag)(C:Addr)(m:Str)(f:Addr):Prop where
 at_:findIn K (.ref C) m=some (some (.ref f))
 fn:PySem.W.isFn K (.ref f)=true
 kp:PySem.W.keepIn K (.ref f)=true
section
variable{X:Cx}{pins:List (Addr×Obj)}{Y:St}{H:Hp}{s:Shared}{a C dx:Addr}{fs:List (Str×V)}{f:Str}{v:V}{A:Around}{E:Value->Shared->Prop}
def MM(I:Inv X pins Y H s)(e:H a=some (.ins C dx fs))(c:Cls X.K C)(n:mQ X.K C f)(l:fs.lookup f=some v)
  (h:∀u s',Inv X pins Y H s'->a7 v u->Q u s'):wpAny (model X.prog X.w) A (getAttr (.ref a) f b) Q E s:=by
 obtain⟨mA,O,r,_,_,_⟩:=AK I.hok e;obtain⟨u,hu,ru⟩:=lQ.some_of (o:=mA f) (by rw[<- l];exact r f);exact aA2 I.kIn O (c.get f) c.hd n hu (N7 ru) (h u _ (I.tok _) ru)
def zS(I:Inv X pins Y H s)(e:H a=some (.ins C dx fs))(c:Cls X.K C)(k:Meth X.K C m g)(l:fs.lookup m=none)
  (h:Q (.ref g,[.ref a]) s):wpAny (model X.prog X.w) A (getMethod (.ref a) m pl) Q E s:=by
 obtain⟨mA,O,r,_,_,_⟩:=AK I.hok e;have hn:mA m=none:=lQ.none_of (by rw[<- l];exact r m);exact VT I.kIn O (c.get m) k.at_ k.fn hn h
def K8(I:Inv X pins Y H s)(e:H a=some (.ins C dx fs))(c:Cls X.K C)(n:mQ X.K C f)(hl:fs.length<1000)(ry:a7 y u)
  (h:∀s',Inv X pins Y (aP H a (.ins C dx (iF f y fs))) s'->Q () s'):wpAny (model X.prog X.w) A (setAttr (.ref a) f u) Q E s:=by
 obtain⟨mA,O,r,wi,_,ho⟩:=AK I.hok e;have hz:(fs.map (·.1)).length<=sizeLine:=by rw[List.length_map,sizeLine_eq];omega
 refine YR I.kIn O c.sa c.po n.taker c.hd wi hz λh' O' sb=>h _ ?_
 have hd:∃o,h'.get? dx=some o:=let ⟨o,_,_,e',_⟩:=O'.ns;⟨o,e'⟩
 refine I.write (x:=a) (e:=dx) (by rw[e];exact True.intro) (.inr ho) (λb q hb z=>(sb.2 b hb).trans z) hd ?_;refine⟨by rw[aM O.ne];exact ho, ?_,O.ne,O'.obj,_,O'.ns,λg=>?_,λg hg=>?_⟩
 ·have:=wY f y fs;omega
 ·show lQ ((iF f y fs).lookup g) (if g=f then some u else mA g);rw[xF];by_cases q:g=f
  ·rw[Zo q,Zo q];exact ry
  ·rw[Zp q,Zp q];exact r g
 ·by_cases q:g=f
  ·rw[q];exact(uN f y fs).1
  ·refine(uN f y fs).2 g (wi g λz=>hg ?_);show(if g=f then some u else mA g)=none;rw[Zp q];exact z
def Inv.made(I:Inv X pins Y H s):Inv X pins Y (aP (aP H s.heap.objs.size (.own (s.heap.objs.size+1))) (s.heap.objs.size+1) (.ins C s.heap.objs.size []))
  { s with heap:=(s.heap.push PySem.W.emptyDict).push (PySem.W.instObj C s.heap.objs.size) }:=by
 have e1:(s.heap.push PySem.W.emptyDict).get? s.heap.objs.size=some PySem.W.emptyDict:=Zw s.heap rfl
 have e2:((s.heap.push PySem.W.emptyDict).push (PySem.W.instObj C s.heap.objs.size)).get? (s.heap.objs.size+1)=some (PySem.W.instObj C s.heap.objs.size):=by
  have:=Zw (s.heap.push PySem.W.emptyDict) (o:=PySem.W.instObj C s.heap.objs.size) rfl
  rwa[Heap.size_push] at this
 have e3:(s.heap.push PySem.W.emptyDict).Ns s.heap.objs.size (λ_=>none):=⟨PySem.W.emptyDict,#[],_,e1,rfl,(λe he=>absurd he (by simp)),λ_=>rfl⟩
 have I1:=I.laid (a:=s.heap.objs.size) (o:=.own (s.heap.objs.size+1)) (h':=s.heap.push PySem.W.emptyDict) (t':=s.toks) (λb u q=>Zd _ q) (Zq _) ⟨_,e1⟩;refine I1.laid (a:=s.heap.objs.size+1) (o:=.ins C s.heap.objs.size []) (t':=s.toks) (λb u q=>Zd _ q) (Nat.le_of_eq (Heap.size_push _ _)) ?_;have ne:s.heap.objs.size≠s.heap.objs.size+1:=Zz (Nat.lt_succ_self _);refine⟨by rw[aM ne,bA],Nat.zero_le _,ne,e2,λ_=>none,(Heap.Ns1.of_empty e3).at λo q=>Zd _ q,λ_=>True.intro,λy hy=>absurd rfl hy⟩
def aAQ(hb:attributeBase e f env (eval e env)=eval e env)
  (h:wpAny (model prog w) A (eval e env) (λo s₁=>wpAny (model prog w) A (getAttr o f true) Q E s₁) E s):wpAny (model prog w) A (eval (.Attribute e f pos) env) Q E s :=
 Attribute_any_ h (by rw[arm_eval_Attribute,hb])
end
noncomputable def aHa(K:Frag)(ta:TE)(f:Str):TE:=λY H Q=>ta Y H λx H1=>∃a C dx fs v,x=.ref a/\H1 a=some (.ins C dx fs)/\Cls K C/\mQ K C f/\fs.lookup f=some v/\Q v H1
noncomputable def aIv(K:Frag)(ta tv:TE)(f:Str):TS:=λD Y H=>tv Y H λy H1=>ta Y H1 λx H2=>∃a C dx fs,x=.ref a/\H2 a=some (.ins C dx fs)/\Cls K C/\mQ K C f/\fs.length<1000 /\
 D.nx Y (aP H2 a (.ins C dx (iF f y fs)))
section
variable{X:Cx}{o e value:Expr}{f:Str}{pos pos' tpos:Pos}{ta tv:TE}
def aCe(he:PE X e ta)(hb:attributeBase e f X.env (eval e X.env)=eval e X.env):PE X (.Attribute e f pos) (aHa X.K ta f):=by
 intro pins s Y H Q I h;refine aAQ hb (bG (he pins s Y H _ I h) λu s1 ⟨x,H1,I1,rx,a,C,dx,fs,v,ex,ea,c,n,l,q⟩=>?_);subst ex;obtain rfl:u=Value.ref a:=rx;exact MM I1 ea c n l λu' s2 I2 ru=>⟨v,H1,I2,ru,q⟩
def aEB(ha:PE X o ta)(hv:PE X value tv)(hs:swapsWith value (some (.Attribute o f pos')) pos.line X.env=pure false):PS X (.Assign [.Attribute o f pos'] value pos) (aIv X.K ta tv f):=by
 intro pins s Y H D I h;refine plainObj_wpAny_Assign_Attribute (bG (hv pins s Y H _ I h) λu s1 ⟨y,H1,I1,ry,q⟩=>bG (ha pins s1 Y H1 _ I1 q) λov s2 ⟨x,H2,I2,rx,a,C,dx,fs,ex,ea,c,n,l,q2⟩=>?_) hs;subst ex;obtain rfl:ov=Value.ref a:=rx;exact K8 I2 ea c n l ry λs3 I3=>⟨Y,_,I3,q2⟩
end
structure Room(k:Nat)(A:Around):Prop where
 hd:A.handled=none
 dp:A.depth+3*k+5<recursionLimit
 un:A.units+16*k+200<cLine
 gs:A.guards=some []
def Room.mono(r:Room k A)(h:j<=k):Room j A:=⟨r.hd,by have:=r.dp;omega,by have:=r.un;omega,by first | exact r.gs | simpa[Around.deeper,Around.under,Code.guards,Code.isGuard,pushGuards,guardIds] using r.gs⟩
theorem Room.deeper(r:Room (k+1) A)(env:Env):Room k (A.deeper env) :=
 ⟨r.hd,by have:=r.dp;show A.depth+1+3*k+5<_;omega,by have:=r.un;show A.units+3+16*k+200<_;omega,by first | exact r.gs | simpa[Around.deeper,Around.under,Code.guards,Code.isGuard,pushGuards,guardIds] using r.gs⟩
def LN{A:Around}:(A.under (.builtin "type.__call__" ⟨.ref C::us,kw⟩)).depth=A.depth+1:=by
 first | rfl | simp[Around.under,Code.weight,Code.isCreation,Code.isGuard,Code.isCaller,Code.frames,Code.isFrame,guardIds]
def M8{A:Around}:(A.under (.builtin "type.__call__" ⟨.ref C::us,kw⟩)).units=A.units+1:=by
 first | rfl | simp[Around.under,Code.cUnits,Code.frames,Code.isFrame]
def Room.make(r:Room (k+1) A)(C:Addr)(us:List Value)(kw:List (Str×Value)):Room k (A.under (.builtin "type.__call__" ⟨.ref C::us,kw⟩)) :=
 ⟨r.hd,by have:=r.dp;rw[LN];omega,by have:=r.un;rw[M8];omega,by first | exact r.gs | simpa[Around.deeper,Around.under,Code.guards,Code.isGuard,pushGuards,guardIds] using r.gs⟩
theorem Room.depth(r:Room k A):A.depth<recursionLimit:=by have:=r.dp;omega
theorem Room.units(r:Room k A):A.units+64<cLine:=by have:=r.un;omega
noncomputable def GA:TA:=λ_ H Q=>Q [] H
noncomputable def yQ(ta:TE)(tr:TA):TA:=λY H Q=>ta Y H λx H1=>tr Y H1 λxs H2=>Q (x::xs) H2
section
variable{X:Cx}{e:Expr}{es:List Expr}{te:TE}{t:TA}{pos:Pos}
def qM:PA X [] GA:=λ_ _ _ _ H Q I h=>Calls.spliced_nil ⟨[],H,I,.nil,h⟩
def lW(ha:PE X e te)(hr:PA X es t)(hs:starEach (e::es) X.env=(false,eval e X.env)::starEach es X.env:=by rfl):PA X (e::es) (yQ te t):=by
 intro pos pins s Y H Q I h;rw[hs];show wpAny _ _ (spliced ((false,eval e X.env)::backTo pos (starEach es X.env))) _ _ s;refine Calls.spliced_cons (bG (ha pins s Y H _ I h) λu s1 ⟨x,H1,I1,r1,q1⟩=>?_);exact bG (hr pos pins s1 Y H1 _ I1 q1) λus s2 ⟨xs,H2,I2,r2,q2⟩=>⟨x::xs,H2,I2,.cons r1 r2,q2⟩
noncomputable def aHL(t:TA):TE:=λY H Q=>t Y H λxs H1=>xs.length<=sizeLine/\∀p,H1 p=none->Q (.ref p) (aP H1 p (.tup xs))
noncomputable def aHz(t:TA):TE:=λY H Q=>t Y H λxs H1=>xs.length<=sizeLine/\∀p,H1 p=none->Q (.ref p) (aP H1 p (.lst xs))
def aEp{x1}(h:PA X es t):PE X (.Tuple es x1 pos) (aHL t):=by
 intro pins s Y H Q I hq;refine wpAny_Tuple_spliced (bG (h pos pins s Y H _ I hq) λus s1 ⟨xs,H1,I1,r,z,q⟩=>⟨by rw[<- r.length];exact z, ?_⟩);have hf:H1 s1.heap.objs.size=none:=I1.hok.fresh (Zq _);refine⟨.ref s1.heap.objs.size,aP H1 s1.heap.objs.size (.tup xs),I1.laid (t':=s1.toks) (λb u e=>Zd _ e) (Zq _) ?_,rfl,q _ hf⟩;exact⟨z,us,r,⟨_,Zw _ rfl,rfl,_,rfl⟩⟩
def aDn(h:PA X es t):PE X (.List es pos) (aHz t):=by
 intro pins s Y H Q I hq;refine wpAny_List_spliced (bG (h pos pins s Y H _ I hq) λus s1 ⟨xs,H1,I1,r,z,q⟩=>⟨by rw[<- r.length];exact z, ?_⟩);have hf:H1 s1.heap.objs.size=none:=I1.hok.fresh (Zq _);refine⟨.ref s1.heap.objs.size,aP H1 s1.heap.objs.size (.lst xs),I1.laid (t':=s1.toks) (λb u e=>Zd _ e) (Zq _) ?_,rfl,q _ hf⟩;exact⟨z,us,0,r,Zw _ rfl⟩
end
abbrev Sp:=List V->Hp->VK->XK->Prop
abbrev ER:=List Env->Hp->Shared->XK->Value->Shared->Prop
structure Env0(P:Program)(w:World)(K:Frag)(mg:Str->Option Value)(base:Heap)(A:Around)(outer:List Env)(s:Shared)(H:Hp):Prop where
 frames:A.frames=some outer
 mod:Mod K mg base
 bs:∀b o,base.get? b=some o->s.heap.get? b=some o/\H b=none
 bsz:base.objs.size<=s.heap.objs.size
 funs:s.heap.FunFrames base outer
 frf:∀b∈uU outer,H b=none
 hok:gE P w H s.heap
 bare:AllBare s.gens
def CE(outer:List Env)(P:Program)(w:World)(H:Hp)(s:Shared)(Q:VK)(u:Value)(s':Shared):Prop :=
 ∃v H',s'.os=s.os/\AllBare s'.gens/\Un (uU outer) [] H H' s.heap s'.heap/\gE P w H' s'.heap/\a7 v u/\Q v H'
def CR(CX:ER)(outer:List Env)(P:Program)(w:World)(H:Hp)(s:Shared)(Q:VK)(E:XK)(r:Result)(s':Shared):Prop :=
 match r with
 |.ok (.ret u)=>CE outer P w H s Q u s'
 |.ok _=>False
 |.error e=>CX outer H s E e s'
structure FnOk(P:Program)(w:World)(K:Frag)(mg:Str->Option Value)(base:Heap)(CX:ER)(k:Nat)(f:Addr)(fd:FuncData)(ps:List Str)(sp:Sp):Prop where
 len:∀vs H Q E,sp vs H Q E->vs.length=ps.length
 run:∀(A:Around) (outer:List Env) (s:Shared) (H:Hp) (args:Args) (us:List Value) (vs:List V) (Q:VK) (E:XK),Room k A->Env0 P w K mg base A outer s H->BindsTo s fd args (ps.zip us)->aO vs us->sp vs H Q E ->
  codeAny (model P w) A (.call (.ref f) args) (CR CX outer P w H s Q E) s
def Env0.make{K:Frag}(e:Env0 P w K mg base A outer s H)(C:Addr)(us:List Value)(kw:List (Str×Value)) :
  Env0 P w K mg base (A.under (.builtin "type.__call__" ⟨.ref C::us,kw⟩)) outer s H:=⟨by first | exact e.frames | (simpa[Around.under,Code.envs,Code.isFrame,pushEnvs] using e.frames),e.mod,e.bs,e.bsz,e.funs,e.frf,e.hok,e.bare⟩
section
variable{X:Cx}{pins:List (Addr×Obj)}{Y:St}{H:Hp}{s s':Shared}
def Inv.env0(I:Inv X pins Y H s):Env0 X.prog X.w X.K X.mg X.base X.A X.stack s H :=
 ⟨I.ok.frames,I.ok.mod,I.bs,Zr I.ok.bsz I.sz,I.stack,I.stkFree,I.hok,I.bare⟩
def Inv.after(I:Inv X pins Y H s)(h:CE X.stack X.prog X.w H s Q u s'):EP X pins Y Q u s':=by
 obtain⟨v,H',os,bare,un,hok,r,q⟩:=h;obtain⟨hh,g,d,t,os'⟩:=s';obtain rfl:os'=s.os:=os;exact⟨v,H',I.call (h':=hh) (g':=g) (d':=d) (t':=t) (ch:=[]) un hok bare (λb z=>absurd z (by simp)),r,q⟩
end
noncomputable def aFr(sp:Sp)(dvs:List V)(E:XK)(t:TA):TE:=λY H Q=>t Y H λvs H1=>sp (vs++dvs) H1 Q E
noncomputable def KO(C:Addr)(m:Str)(sp:Sp)(dvs:List V)(E:XK)(ta:TE)(t:TA):TE:=λY H Q=>ta Y H λx H1=>∃a dx fs,x=.ref a/\H1 a=some (.ins C dx fs)/\fs.lookup m=none /\
 t Y H1 λvs H2=>sp (x::(vs++dvs)) H2 Q E
noncomputable def aGG(C:Addr)(sp:Sp)(dvs:List V)(E:XK)(t:TA):TE:=λY H Q=>t Y H λvs H1=>∀x dx,H1 x=none->H1 dx=none->dx≠x ->
 sp (.ref x::(vs++dvs)) (aP (aP H1 dx (.own x)) x (.ins C dx [])) (λv H2=>v=.non/\Q (.ref x) H2) E
def iN(K:Frag)(fd:FuncData)(ps:List Str)(ds:List Value):Prop :=
 ∀(s:Shared) (us:List Value),K.In s.heap->(us++ds).length=ps.length->BindsTo s fd ⟨us,[]⟩ (ps.zip (us++ds))
def iN.all{K:Frag}(h:∀us:List Value,us.length=ps.length->bindArgs fd ⟨us,[]⟩=pure (ps.zip us)):iN K fd ps []:=λs us _ hl=>by
 rw[List.append_nil] at hl ⊢;exact .of_eq (h us hl)
def n8(CX:ER)(X:Cx)(E:XK):Prop:=∀(pins:List (Addr×Obj)) (Y:St) (H:Hp) (s:Shared) (e:Value) (s':Shared),Inv X pins Y H s->CX X.stack H s E e s'->X.xe e s'
section
variable{X:Cx}{CX:ER}{k:Nat}{f C:Addr}{fd:FuncData}{ps:List Str}{sp:Sp}{dvs:List V}{ds:List Value}{E:XK}{x m:Str}{p pos apos:Pos}{e o:Expr}{es:List Expr}{ta:TE}{t:TA}
def E5(F:FnOk X.prog X.w X.K X.mg X.base CX k f fd ps sp)(hr:Room k X.A)(hb:iN X.K fd ps ds)(hd:aO dvs ds)(hx:n8 CX X E)
  (I:Inv X pins Y H s) (r:aO vs us) (h:sp (vs++dvs) H Q E):wpAny (model X.prog X.w) X.A (call (.ref f) us) (EP X pins Y Q) X.xe s:=by
 have r2:aO (vs++dvs) (us++ds):=r.append hd;have hl:(us++ds).length=ps.length:=by rw[<- r2.length];exact F.len _ _ _ _ h
 refine wpAny_call (codeAny_mono (F.run X.A X.stack s H ⟨us,[]⟩ (us++ds) (vs++dvs) Q E hr I.env0 (hb s us I.kIn hl) r2 h) λr s' hq=>?_)
 cases r with
 |error e=>exact hx pins Y H s e s' I hq
 |ok fl =>
  cases fl with
  |ret u=>exact I.after hq
  |next=>exact False.elim hq
  |brk=>exact False.elim hq
  |cont=>exact False.elim hq
def aAT(F:FnOk X.prog X.w X.K X.mg X.base CX k f fd ps sp)(hr:Room k X.A)(hg:Gl X x)(hm:X.mg x=some (.ref f))(hk:PySem.W.keepIn X.K (.ref f)=true)(hb:iN X.K fd ps ds)(hd:aO dvs ds)(hx:n8 CX X E)
  (ha:PA X (e::es) t) (hdb:(x==("__debug__":Str))=false:=by decide) (he:starEach (e::es) X.env=(false,eval e X.env)::starEach es X.env:=by rfl) (hpl:(backTo pos (starEach es X.env)).any (·.1)=false:=by rfl) :
  PE X (.Call (.Name x p) (e::es) [] pos) (aFr sp dvs E t):=by
 intro pins s Y H Q I h;refine wpAny_Call_Name_kw (BM I hg hm ?_ hdb);refine PySem.W.callWith_K (h₀:=X.base) I.ok.mod.kin hk (bG (ha pos pins s Y H _ I h) λus s1 ⟨vs,H1,I1,r,q⟩=>⟨I1.kIn, ?_⟩) he hpl;exact E5 F hr hb hd hx I1 r q
def aAY(he:PE X o ta)(c:Cls X.K C)(hm:Meth X.K C m f)(F:FnOk X.prog X.w X.K X.mg X.base CX k f fd ps sp)(hr:Room k X.A)(hb:iN X.K fd ps ds)(hd:aO dvs ds)(hx:n8 CX X E)(ha:PA X (e::es) t)
  (hst:starEach (e::es) X.env=(false,eval e X.env)::starEach es X.env:=by rfl) (hpl:(backTo pos (starEach es X.env)).any (·.1)=false:=by rfl)
  (ht:eval (.Call (.Attribute o m apos) (e::es) [] pos) X.env=(do
   let ov <- eval o X.env
   standAt apos.atName
   let (f,first) <- holding [ov] (getMethod ov m pl)
   callWith pos f first (backTo pos (starEach (e::es) X.env)) (backToKw pos (keywordEach [] X.env))):=by rfl) :
  PE X (.Call (.Attribute o m apos) (e::es) [] pos) (KO C m sp dvs E ta t):=by
 intro pins s Y H Q I h;refine PySem.W.methodCall_KW (bG (he pins s Y H _ I h) λu s1 ⟨x,H1,I1,rx,a,dx,fs,ex,ea,l,q⟩=>?_) ht;subst ex;obtain rfl:u=Value.ref a:=rx;refine zS I1 ea c hm l ?_;refine PySem.W.callWith_K (first:=[.ref a]) (h₀:=X.base) I.ok.mod.kin hm.kp (bG (ha pos pins s1 Y H1 _ I1 q) λus s2 ⟨vs,H2,I2,r,q2⟩=>⟨I2.kIn, ?_⟩) hst hpl;exact E5 (us:=.ref a::us) (vs:=.ref a::vs) F hr hb hd hx I2 (.cons rfl r) q2
def US(he:PE X o ta)(c:Cls X.K C)(hm:Meth X.K C m f)(F:FnOk X.prog X.w X.K X.mg X.base CX k f fd ps sp)(hr:Room k X.A)(hb:iN X.K fd ps ds)(hd:aO dvs ds)(hx:n8 CX X E)
  (ht:eval (.Call (.Attribute o m apos) [] [] pos) X.env=(do
   let ov <- eval o X.env
   standAt apos.atName
   let (f,first) <- holding [ov] (getMethod ov m pl)
   callWith pos f first (backTo pos (starEach [] X.env)) (backToKw pos (keywordEach [] X.env))):=by rfl) :
  PE X (.Call (.Attribute o m apos) [] [] pos) (KO C m sp dvs E ta GA):=by
 intro pins s Y H Q I h;refine PySem.W.methodCall_KW (bG (he pins s Y H _ I h) λu s1 ⟨x,H1,I1,rx,a,dx,fs,ex,ea,l,q⟩=>?_) ht;subst ex;obtain rfl:u=Value.ref a:=rx;refine zS I1 ea c hm l ?_;exact PySem.W.callWith_K0 (first:=[.ref a]) I1.kIn hm.kp (E5 (us:=[.ref a]) (vs:=[.ref a]) F hr hb hd hx I1 (.cons rfl .nil) q)
structure Mk(K:Frag)(C f:Addr):Prop where
 makes:PySem.W.makesIn K C=true
 init:findIn K (.ref C) "__init__"=some (some (.ref f))
 fn:PySem.W.isFn K (.ref f)=true
 kp:PySem.W.keepIn K (.ref C)=true
def UA(M:Mk X.K C f)(F:FnOk X.prog X.w X.K X.mg X.base CX k f fd ps sp)(hr:Room (k+1) X.A)(hb:iN X.K fd ps ds)(hd:aO dvs ds)
  (hx:n8 CX X E) (I:Inv X pins Y H s) (r:aO vs us)
  (h:∀x dx,H x=none->H dx=none->dx≠x->sp (.ref x::(vs++dvs)) (aP (aP H dx (.own x)) x (.ins C dx [])) (λv H2=>v=.non/\Q (.ref x) H2) E) :
  wpAny (model X.prog X.w) X.A (call (.ref C) us) (EP X pins Y Q) X.xe s:=by
 have hq:=h (s.heap.objs.size+1) s.heap.objs.size (I.hok.fresh (Nat.le_succ _)) (I.hok.fresh (Zq _)) (Zz (Nat.lt_succ_self _));have I2:=Inv.made (C:=C) I;have r2:aO (V.ref (s.heap.objs.size+1)::(vs++dvs)) (Value.ref (s.heap.objs.size+1)::(us++ds)):=.cons rfl (r.append hd)
 have hl:(Value.ref (s.heap.objs.size+1)::us++ds).length=ps.length:=by(have e:=r2.length;rw[F.len _ _ _ _ hq] at e;exact e.symm)
 refine wpAny_call (TJ I.kIn M.makes M.init (beq_iff_eq.mp M.fn) (codeAny_mono (F.run _ X.stack _ _ ⟨Value.ref (s.heap.objs.size+1)::us,[]⟩ (Value.ref (s.heap.objs.size+1)::(us++ds)) _ _ E (hr.make C us [])
  (I2.env0.make C us []) (hb _ (Value.ref (s.heap.objs.size+1)::us) I2.kIn hl) r2 hq) λr s' hq'=>?_))
 cases r with
 |error e=>exact hx pins Y _ _ e s' I2 hq'
 |ok fl =>
  cases fl with
  |ret u =>
   obtain⟨v,H',I3,rv,ev,q3⟩:=I2.after hq';subst ev;exact⟨rv,⟨V.ref (s.heap.objs.size+1),H',I3,rfl,q3⟩⟩
  |next=>exact False.elim hq'
  |brk=>exact False.elim hq'
  |cont=>exact False.elim hq'
def aAM(M:Mk X.K C f)(F:FnOk X.prog X.w X.K X.mg X.base CX k f fd ps sp)(hr:Room (k+1) X.A)(hg:Gl X x)(hm:X.mg x=some (.ref C))(hb:iN X.K fd ps ds)(hd:aO dvs ds)(hx:n8 CX X E)
  (ha:PA X (e::es) t) (hdb:(x==("__debug__":Str))=false:=by decide) (he:starEach (e::es) X.env=(false,eval e X.env)::starEach es X.env:=by rfl) (hpl:(backTo pos (starEach es X.env)).any (·.1)=false:=by rfl) :
  PE X (.Call (.Name x p) (e::es) [] pos) (aGG C sp dvs E t):=by
 intro pins s Y H Q I h;refine wpAny_Call_Name_kw (BM I hg hm ?_ hdb);refine PySem.W.callWith_K (h₀:=X.base) I.ok.mod.kin M.kp (bG (ha pos pins s Y H _ I h) λus s1 ⟨vs,H1,I1,r,q⟩=>⟨I1.kIn, ?_⟩) he hpl;exact UA M F hr hb hd hx I1 r q
end
def PK(X:Cx)(kws:List Keyword)(t:TA):Prop :=
 ∀(pos:Pos) (pins:List (Addr×Obj)) (s:Shared) (Y:St) (H:Hp) (Q:List V->Hp->Prop),Inv X pins Y H s->t Y H Q->wpAny (model X.prog X.w) X.A (evalAll ((backToKw pos (keywordEach kws X.env)).map (·.2))) (AP X pins Y Q) X.xe s
structure FnScope(N P:List Str)(sc:Scope):Prop where
 kind:sc.kind=.function
 co:sc.isCoroutine=false
 gen:sc.isGenerator=false
 nd:N.Nodup
 pre:N.take P.length=P
 par:∀x∈P,sc.names.lookup x=some .local\/sc.names.lookup x=some .cell
 nofree:∀y∈sc.names,y.2≠.free
theorem BN{kindOf:Str->Option NameKind}:∀{binds:List (Str×Value)} {m:Str->Option Value},(∀v,(x,v) ∉ binds)->bindL kindOf binds m x=m x
 |[],_,_=>rfl
 | (n,v)::r,m,h=>by
  unfold bindL;rw[BN λw hw=>h w (Ze _ hw)];split
  ·have:x≠n:=by rintro rfl;exact h v zh
   simp[this]
  ·rfl
theorem BS{kindOf:Str->Option NameKind}:∀{binds:List (Str×Value)} {m:Str->Option Value},(∀v,(x,v) ∉ binds)->bindC kindOf binds m x=m x
 |[],_,_=>rfl
 | (n,v)::r,m,h=>by
  unfold bindC;rw[BS λw hw=>h w (Ze _ hw)];split
  ·rfl
  ·have:x≠n:=by rintro rfl;exact h v zh
   simp[this]
theorem CG{kindOf:Str->Option NameKind}:∀{P:List Str} {vs:List Value} {i:Nat} {m:Str->Option Value},P.Nodup->P[i]?=some x->vs[i]?=some v->kindOf x=some .local ->
  bindL kindOf (P.zip vs) m x=some v
 |[],_,_,_,_,h,_,_=>by simp at h
 |_::_,[],_,_,_,_,h,_=>by simp at h
 |p::P,w::vs,0,m,nd,h1,h2,hk=>by
  simp at h1 h2;subst h1;subst h2;show bindL kindOf ((p,w)::P.zip vs) m p=_;unfold bindL;rw[BN λv hv=>(List.nodup_cons.mp nd).1 (List.of_mem_zip hv).1,Zo hk];simp
 |p::P,w::vs,i+1,m,nd,h1,h2,hk=>by(show bindL kindOf ((p,w)::P.zip vs) m x=_;unfold bindL;exact CG (List.nodup_cons.mp nd).2 (by simpa using h1) (by simpa using h2) hk)
theorem B3{kindOf:Str->Option NameKind}:∀{P:List Str} {vs:List Value} {i:Nat} {m:Str->Option Value},P.Nodup->P[i]?=some x->vs[i]?=some v->kindOf x≠some .local ->
  bindC kindOf (P.zip vs) m x=some v
 |[],_,_,_,_,h,_,_=>by simp at h
 |_::_,[],_,_,_,_,h,_=>by simp at h
 |p::P,w::vs,0,m,nd,h1,h2,hk=>by
  simp at h1 h2;subst h1;subst h2;show bindC kindOf ((p,w)::P.zip vs) m p=_;unfold bindC;rw[BS λv hv=>(List.nodup_cons.mp nd).1 (List.of_mem_zip hv).1,Zp hk];simp
 |p::P,w::vs,i+1,m,nd,h1,h2,hk=>by(show bindC kindOf ((p,w)::P.zip vs) m x=_;unfold bindC;exact B3 (List.nodup_cons.mp nd).2 (by simpa using h1) (by simpa using h2) hk)
noncomputable def cY(N:List Str)(vs:List V):St:=vs.map some++List.replicate (N.length-vs.length) none
noncomputable def vB(CX:ER)(P:Program)(w:World)(K:Frag)(mg:Str->Option Value)(base:Heap)(N:List Str)(qual:Str)(scope:Scope)(f:Addr)(cd:Value)(A:Around)(outer:List Env)(s:Shared)(H:Hp)(E:XK):Cx where
 prog:=P
 w:=w
 K:=K
 mg:=mg
 base:=base
 A:=A.deeper (envOfC qual scope s.heap.objs.size f cd)
 N:=N
 s₀:=s
 H₀:=H
 env:=envOfC qual scope s.heap.objs.size f cd
 outer:=outer
 stack:=envOfC qual scope s.heap.objs.size f cd::outer
 ex:=[]
 calm:=true
 fn:=λ_=>true
 pn:=[]
 xe:=λe s'=>wpAny (model P w) (A.deeper (envOfC qual scope s.heap.objs.size f cd)) (leaving (envOfC qual scope s.heap.objs.size f cd) e) (λ_ s''=>CX outer H s E e s'') (λe' s''=>CX outer H s E e' s'') s'
def F7{sc:Scope}(h:sc.names.lookup x=some .cell):∃c,(cellsFrom n sc.names []).lookup x=some c:=by
 have q:=PySem.W.cellsFrom_some sc.names n [] (.inl h);exact Option.isSome_iff_exists.mp q
def Q5{K:Frag}
  (S:FnScope N ps scope) (hd:A.handled=none) (e0:Env0 P w K mg base A outer s H) (hl:vs.length=ps.length) (r:aO vs us)
  (x:InCallC s s.heap.objs.size (bindL (envOfC qual scope s.heap.objs.size f cd).kindOf (ps.zip us) λ_=>none) (cellsFrom (s.heap.objs.size+1) scope.names []) (bindC (envOfC qual scope s.heap.objs.size f cd).kindOf (ps.zip us) λ_=>none) s1) :
  Inv (vB CX P w K mg base N qual scope f cd A outer s H E) [] (cY N vs) H s1:=by
 have hpl:ps.length<=N.length:=by have:=congrArg List.length S.pre;rw[List.length_take] at this;omega
 obtain⟨h1,tk,rfl,hk⟩:=x.done;have noA:∀b:Addr,b ∉ (vB CX P w K mg base N qual scope f cd A outer s H E).ex:=λb z=>absurd (show b∈([]:List Addr) from z) (by simp)
 refine⟨⟨e0.mod,S.kind,rfl,rfl,Zq _,λy z c h1 h2=>?_,λy hy=>?_,λy c _ h=>?_,λ_=>hd,Around.frames_deeper e0.frames,.inr ⟨rfl,rfl⟩,λb z=>absurd z (noA b),e0.bs,e0.bsz,λb _ _=>noA b,λb z=>absurd z (noA b),e0.funs,e0.frf⟩,
  rfl,e0.bare,Un.kept hk,⟨_,x.toInCall.ns,λi y v h1 h2 h3=>?_⟩,λy c h=>⟨_,x.cell y c h⟩,e0.hok.fresh (Zq _),λy c h=>?_,λp hp=>absurd (show p∈([]:List (Addr×Obj)) from hp) (by simp),e0.hok.kept hk, ?_⟩
 ·exact name_of_addr x.apart (PySem.mem_of_lookup h1) (PySem.mem_of_lookup h2)
 ·have hy:scope.names.lookup y=some .cell\/scope.names.lookup y=some .free:=hy;rcases hy with hy | hy
  ·exact F7 hy
  ·exact absurd rfl (S.nofree _ (PySem.mem_of_lookup hy))
 ·exact Nat.le_of_lt (x.above y c (PySem.mem_of_lookup h))
 ·have hi:i<vs.length:=by
   unfold cY at h2;by_cases hi:i<vs.length
   ·exact hi
   ·rw[List.getElem?_append_right (by simpa using hi)] at h2;rw[List.getElem?_replicate] at h2;split at h2<;>cases h2
  have ha:vs[i]?=some v:=by
   unfold cY at h2;rw[List.getElem?_append_left (by simpa using hi),Zh] at h2
   cases e:vs[i]? with
   |none=>rw[e] at h2;cases h2
   |some a=>rw[e] at h2;cases h2;rfl
  obtain⟨u,hu,rv⟩:=r.get ha
  have hp:ps[i]?=some y:=by(rw[<- S.pre,List.getElem?_take_of_lt (by omega)];exact h1)
  have ndP:ps.Nodup:=by rw[<- S.pre];exact S.nd.sublist (List.take_sublist _ _)
  refine⟨u,rv, ?_⟩;rcases S.par y (zj hp) with k | k
  ·exact .inl ⟨k,CG ndP hp hu k⟩
  ·obtain⟨c,e⟩:=F7 (n:=s.heap.objs.size+1) k;refine .inr ⟨.inl k,c,e, ?_⟩;have q:=x.cell y c e;rw[B3 ndP hp hu (by show scope.names.lookup y≠_;rw[k];decide)] at q;exact q
 ·exact e0.hok.fresh (Nat.le_of_lt (x.above y c (PySem.mem_of_lookup h)))
 ·unfold cY;show _=N.length;rw[Za,List.length_map,List.length_replicate];omega
def aET{K:Frag}{dV kV doc pm cdv ct oc:Value}{an od:Option Addr}(lk:K.lookup f=some ⟨oc,od,.func (PySem.W.fnOf name qual params body scope dV kV doc pm an cdv ct),osl⟩)(hcd:PySem.W.codeIn K cdv qual=true)(S:FnScope N ps scope)
  (len:∀vs H Q E,sp vs H Q E->vs.length=ps.length)
  (hbody:∀(A:Around) (outer:List Env) (s:Shared) (H:Hp) (vs:List V) (Q:VK) (E:XK),Room k (A.deeper (envOfC qual scope s.heap.objs.size f cdv))->sp vs H Q E ->
   ∃t,gH (vB CX P w K mg base N qual scope f cdv A outer s H E) body t/\t { nx:=λ_ H'=>Q .non H',rt:=Q } (cY N vs) H) :
  FnOk P w K mg base CX (k+1) f (PySem.W.fnOf name qual params body scope dV kV doc pm an cdv ct) ps sp:=by
 refine⟨len,λA outer s H args us vs Q E hr e0 hb r hsp=>?_⟩;have hl:=len _ _ _ _ hsp;have KX:K.In s.heap:=e0.mod.kin.keeps λb o e=>(e0.bs b o e).1
 have lim:s.heap.NoLimit:=e0.mod.nolimit.keeps λb o e=>(e0.bs b o e).1
 have hkind:∀y∈ps.zip us,scope.names.lookup y.1=some .local\/(scope.names.lookup y.1=some .cell/\((cellsFrom (s.heap.objs.size+1) scope.names []).lookup y.1).isSome=true):=λ⟨n,v⟩ hy=>by
  rcases S.par n (List.of_mem_zip hy).1 with q | q
  ·exact .inl q
  ·exact .inr ⟨q,PySem.W.cellsFrom_some _ _ _ (.inl q)⟩
 refine codeAny_call_function hr.depth (KX _ _ lk) rfl S.co S.gen rfl (PySem.W.codeRec_of KX hcd) (hb _ _ _ _ ?_);refine wpAny_newFunctionEnv_cells S.kind hkind λenv he s1 x=>?_
 subst he;refine⟨lim.keeps x.toInCall.keep,codeAny_func ?_⟩;obtain⟨t,ht,hq⟩:=hbody A outer s H vs Q E (hr.deeper _) hsp;have I:Inv (vB CX P w K mg base N qual scope f cdv A outer s H E) [] (cY N vs) H s1:=Q5 S hr.hd e0 hl r x;refine wpAny_mono (ht [] s1 (cY N vs) H _ I hq) (λfl s' hs=>?_) λe s' hs=>hs
 have fin:∀{Y':St} {H':Hp} {v:V} {u:Value},Inv (vB CX P w K mg base N qual scope f cdv A outer s H E) [] Y' H' s'->a7 v u->Q v H'->CE outer P w H s Q u s' :=
  λ{Y' H' v u} J rv q=>⟨v,H',J.os,J.bare,J.base,J.hok,rv,q⟩
 cases fl with
 |ret u =>
  obtain⟨v,Y',H',J,rv,q⟩:=hs;exact fin J rv q
 |next =>
  obtain⟨Y',H',J,q⟩:=hs;exact fin (v:=V.non) (u:=Value.none) J rfl q
 |brk =>
  obtain⟨_,_,_,q⟩:=hs;exact False.elim q
 |cont =>
  obtain⟨_,_,_,q⟩:=hs;exact False.elim q
section
variable{X:Cx}{x:Str}{p pos:Pos}{e:Expr}{es:List Expr}{t:TA}{id T:String}{r:List V->Hp->VK->Prop}
noncomputable def tCB(r:List V->Hp->VK->Prop)(t:TA):TE:=λY H Q=>t Y H λvs H1=>r vs H1 Q
def xY(hc:fP X (.builtin id) r)(hg:Gl X x)(hm:X.mg x=none)(hv:bootBuiltins x=some (.builtin id))(ha:PA X (e::es) t)(hn:x≠"__name__":=by decide)(hdb:(x==("__debug__":Str))=false:=by decide)
  (he:starEach (e::es) X.env=(false,eval e X.env)::starEach es X.env:=by rfl) (hpl:(backTo pos (starEach es X.env)).any (·.1)=false:=by rfl):PE X (.Call (.Name x p) (e::es) [] pos) (tCB r t):=by
 intro pins s Y H Q I h;refine wpAny_Call_Name_kw (qH I hg hm hv ?_ hn hdb);exact PyProof.Rows.callWith_builtin1 (bG (ha pos pins s Y H _ I h) λus s1 ⟨vs,H1,I1,r1,q1⟩=>hc pins s1 Y H1 vs us Q I1 r1 q1) he hpl
def BP(hc:fP X (.type T) r)(hg:Gl X x)(hm:X.mg x=none)(hv:bootBuiltins x=some (.type T))(ha:PA X (e::es) t)(hn:x≠"__name__":=by decide)(hdb:(x==("__debug__":Str))=false:=by decide)
  (he:starEach (e::es) X.env=(false,eval e X.env)::starEach es X.env:=by rfl) (hpl:(backTo pos (starEach es X.env)).any (·.1)=false:=by rfl):PE X (.Call (.Name x p) (e::es) [] pos) (tCB r t):=by
 intro pins s Y H Q I h;refine wpAny_Call_Name_kw (qH I hg hm hv ?_ hn hdb);exact PyProof.Rows.callWith_type1 (bG (ha pos pins s Y H _ I h) λus s1 ⟨vs,H1,I1,r1,q1⟩=>hc pins s1 Y H1 vs us Q I1 r1 q1) he hpl
end
end L2
namespace HT
open PySem PyProof.Rows
section
variable{prog:Program}{w:World}{A:Around}{E:Value->Shared->Prop}{s:Shared}
def aBh(ht:IsTup s.heap t vs.toArray)(hb:IsTup s.heap b ws.toArray)(hv:vs≠[])
  (h1:ws=[]->Q (.ref t) s) (h2:ws≠[]->Q (.ref s.heap.objs.size) { s with heap:=s.heap.push { cls:=.type "tuple",data:=.seq (vs++ws).toArray } })
  (hsz:vs.length+ws.length<=sizeLine):wpAny (model prog w) A (binaryOp .Add (.ref t) (.ref b)) Q E s:=by
 obtain⟨⟨cls,dd,data,sl⟩,ho,hc,n,hd⟩:=id ht;obtain⟨⟨cls2,dd2,data2,sl2⟩,ho2,hc2,n2,hd2⟩:=id hb;simp only at hc hd hc2 hd2;subst hc hd hc2 hd2;have e:vs.toArray++ws.toArray=(vs++ws).toArray:=by simp
 by_cases hw:ws=[]
 ·exact concat_meets ⟨_,ho,rfl⟩ ⟨_,ho2,rfl⟩ noFill_tuple_add seq_tuple_add PySem.F.slot_tuple_add PySem.F.entry_tuple_add (PySem.F.args_tuple_add_2 _ _)
   (tuple_addW1 t b vs.toArray ws.toArray n n2 dd dd2 sl sl2 (by simpa using hv) (by simp[hw])) ⟨ho,ho2,h1 hw⟩
 ·refine concat_meets ⟨_,ho,rfl⟩ ⟨_,ho2,rfl⟩ noFill_tuple_add seq_tuple_add PySem.F.slot_tuple_add PySem.F.entry_tuple_add (PySem.F.args_tuple_add_2 _ _)
   (tuple_addW2 t b vs.toArray ws.toArray n n2 dd dd2 sl sl2 (by simpa using hv) (by simpa using hw) (by rw[Zi,Zi];exact hsz)) ⟨ho,ho2, ?_⟩
  rw[e];exact h2 hw
noncomputable def bQ(n d:Nat):Option Int->Nat
 |none=>d
 |some v=>if v<0 then(v+(n:Int)).toNat else min v.toNat n
theorem l4(n d:Nat):bQ n d none=d:=rfl
def jF(n d k:Nat):bQ n d (some (k:Int))=min k n:=by
 show(if(k:Int)<0 then((k:Int)+(n:Int)).toNat else min (k:Int).toNat n)=min k n;rw[Zp (by omega),Int.toNat_natCast]
def aEN(n d:Nat)(hd:d<=n)(o:Option Int):bQ n d o<=n:=by
 cases o with
 |none=>exact hd
 |some v =>
  show(if v<0 then(v+(n:Int)).toNat else min v.toNat n)<=n;by_cases hv:v<0
  ·rw[Zo hv];omega
  ·rw[Zp hv];exact Nat.min_le_right _ _
def KN(v:Int)(n d:Nat):(if v<0 then max (v+(n:Int)) 0 else min v (n:Int))=((bQ n d (some v):Nat):Int):=by
 show(if v<0 then max (v+(n:Int)) 0 else min v (n:Int))=(((if v<0 then(v+(n:Int)).toNat else min v.toNat n):Nat):Int);by_cases hv:v<0
 ·simp only[Zo hv];omega
 ·simp only[Zp hv];omega
def L5(lo hi:Option Int)(n:Nat):Builtin.Slice.sliceAdjust lo hi 1 (n:Int)=(((bQ n 0 lo:Nat):Int),((bQ n n hi:Nat):Int)):=by
 have h1:¬((1:Int)<0):=by omega
 unfold Builtin.Slice.sliceAdjust;simp only[h1,if_false];refine Prod.ext ?_ ?_
 ·cases lo with
  |none=>rfl
  |some v=>exact KN v n 0
 ·cases hi with
  |none=>rfl
  |some v=>exact KN v n n
def KW(i j:Nat):Builtin.Slice.slicePlaces (i:Int) (j:Int) 1=j-i:=by
 unfold Builtin.Slice.slicePlaces;have h1:(1:Int) > 0:=by omega
 simp only[h1,if_true,Int.ediv_one]
 split<;>omega
def rC(p:IsPart v o)(h:Q o s):wpAny (model prog w) A (Builtin.Slice.slicePartIndex v) Q E s:=by
 cases p with
 |none=>exact slicePart_none h
 |int i t=>exact slicePart_int h
def xM{lo hi:Option Int}{Q:Int×Int×Nat->Shared->Prop}(hs:s.heap.IsSliceOf sl vl vu .none)(pl:IsPart vl lo)(pu:IsPart vu hi)
  (h:Q (((bQ n 0 lo:Nat):Int),1,bQ n n hi-bQ n 0 lo) s):wpAny (model prog w) A (Builtin.Slice.sliceApplied (.ref sl) (pure (n:Int))) Q E s:=by
 obtain⟨os,hos,hcs,hds⟩:=id hs;unfold Builtin.Slice.sliceApplied Builtin.Slice.sliceFields;refine Zt (Zt (wpAny_field hos hds (x:=vl) rfl (Zt (wpAny_field hos hds (x:=vu) rfl (Zt (wpAny_field hos hds (x:=.none) rfl (Zu ?_)))))));refine Zt (slicePart_none ?_);show wpAny _ _ (if((1:Int)==0)=true then _ else _) _ _ s;rw[Zp (by decide)];refine Zt (rC pl (Zt (rC pu (Zt (Zu ?_)))));show wpAny _ _ (match Builtin.Slice.sliceAdjust lo hi 1 (n:Int) with | (lo,hi)=>pure (lo,(1:Int),Builtin.Slice.slicePlaces lo hi 1)) _ _ s;rw[L5 lo hi n];show wpAny _ _ (pure (((bQ n 0 lo:Nat):Int),(1:Int),Builtin.Slice.slicePlaces ((bQ n 0 lo:Nat):Int) ((bQ n n hi:Nat):Int) 1)) _ _ s;rw[KW];exact Zu h
def UO(xs:Array Value)(i k:Nat):((List.range k).filterMap λ(m:Nat)=>xs[((i:Int)+(m:Int)*1).toNat]?).toArray=((xs.toList.drop i).take k).toArray:=by
 have e:(λ(m:Nat)=>xs[((i:Int)+(m:Int)*1).toNat]?)=λm=>xs[i+m]?:=by
  funext m
  have:((i:Int)+(m:Int)*1).toNat=i+m:=by omega
  rw[this]
 rw[e]
 have:=pick_run xs i k
 rw[List.filterMap_map] at this;have e2:((λx=>xs[x]?) ∘ λx=>i+x)=λm=>xs[i+m]?:=rfl
 rw[e2] at this;rw[this]
def wH{lo hi:Option Int}(ht:IsTup s.heap t items)(hs:s.heap.IsSliceOf sl vl vu .none)(pl:IsPart vl lo)(pu:IsPart vu hi)
  (hw:¬(bQ items.size 0 lo=0/\bQ items.size items.size hi=items.size))
  (h:Q (.ref s.heap.objs.size) { s with heap:=s.heap.push { cls:=.type "tuple",data:=.seq ((items.toList.drop (bQ items.size 0 lo)).take (bQ items.size items.size hi-bQ items.size 0 lo)).toArray } })
  (hsz:items.size<=sizeLine):wpAny (model prog w) A (getItem (.ref t) (.ref sl)) Q E s:=by
 have htake:sizeOk (.seq ((items.toList.drop (bQ items.size 0 lo)).take (bQ items.size items.size hi-bQ items.size 0 lo)).toArray):=by(show((items.toList.drop (bQ items.size 0 lo)).take (bQ items.size items.size hi-bQ items.size 0 lo)).toArray.size<=sizeLine;rw[Zi,List.length_take,List.length_drop,Array.length_toList];omega)
 have hj:bQ items.size items.size hi<=items.size:=aEN _ _ (Zq _) hi;obtain⟨os,hos,hcs,hds⟩:=id hs;have hTs:s.TypeIs (.ref sl) "slice":=⟨os,hos,hcs⟩
 unfold getItem
 try with_reducible refine wpAny_holding ?_
 first | refine Zt (Zu ?_) | skip
 refine Zt (wpAny_sequenceKey ht.typeIs (by decide) ?_)
 refine Zt (wpAny_callSpecial?_slot (name:=Str.ofString "__getitem__") ht.typeIs PyProof.Rows.slot_tuple_getitem
  (wpAny_call_entry PyProof.Rows.slot_tuple_getitem ht.typeIs entry_tuple_getitem ?_ (args_tuple_getitem _ _)))
 show wpAny _ _ (Builtin.Tuple.tupleItemsOf (.ref t)>>=_) _ _ s;refine Zt (tupleItemsOf_ ht ?_);refine Zt (wpAny_typeOf hTs ?_);rw[Zo (by decide)];refine Zt (xM hs pl pu ?_)
 have hno:¬((((bQ items.size 0 lo:Nat):Int)==0&&(1:Int)==1&&(bQ items.size items.size hi-bQ items.size 0 lo)==items.size)=true):=by(intro q;rw[ZB,ZB] at q;have q1:((bQ items.size 0 lo:Nat):Int)=0:=Zy q.1.1;have q2:bQ items.size items.size hi-bQ items.size 0 lo=items.size:=Zy q.2;exact hw ⟨by omega,by omega⟩)
 show wpAny _ _ (if(((bQ items.size 0 lo:Nat):Int)==0&&(1:Int)==1&&(bQ items.size items.size hi-bQ items.size 0 lo)==items.size)=true then _ else _) _ _ s;rw[Zp hno,UO]
 first
  |exact Zt (m:=Builtin.Tuple.tupleExact _) (wpAny_newObj_type (Zu ⟨_,rfl,Zu h⟩) htake)
  |exact Zt (m:=Builtin.Tuple.tupleExact _) (wpAny_newObj_type (Zt (Zu (Zu ⟨_,rfl,Zu h⟩))) htake)
  |exact Zt (Zt (m:=Builtin.Tuple.tupleExact _) (wpAny_newObj_type (Zu (Zu ⟨_,rfl,Zu h⟩)) htake))
  |exact Zt (Zt (m:=Builtin.Tuple.tupleExact _) (wpAny_newObj_type (Zu ⟨_,rfl,Zu h⟩) htake))
end
end HT
namespace L2
open PySem PySem.Spec PyProof.Rows
abbrev TO:=St->Hp->(Option Int->Hp->Prop)->Prop
def PO(X:Cx)(e:Option Expr)(t:TO):Prop :=
 ∀(pins:List (Addr×Obj)) (s:Shared) (Y:St) (H:Hp) (Q:Option Int->Hp->Prop),Inv X pins Y H s->t Y H Q ->
  wpAny (model X.prog X.w) X.A (evalPart e X.env) (λu s'=>∃o H',Inv X pins Y H' s'/\IsPart u o/\Q o H') X.xe s
noncomputable def aAP:TO:=λ_ H Q=>Q none H
noncomputable def aFN(t:TE):TO:=λY H Q=>t Y H λx H1=>∃i,x=.int i/\Q (some i) H1
section
variable{X:Cx}{e:Expr}{te:TE}{lo hi:Option Expr}{tl th:TO}{pos p2:Pos}
def Z3:PO X none aAP:=by
 intro pins s Y H Q I h;rw[evalPart_none];exact Zu ⟨none,H,I,.none,h⟩
def aAH(h:PE X e te):PO X (some e) (aFN te):=by
 intro pins s Y H Q I hw;rw[evalPart_some];refine bG (h pins s Y H _ I hw) λu s1 ⟨x,H1,I1,r1,q1⟩=>?_
 obtain⟨i,rfl,q⟩:=q1;obtain⟨t,rfl⟩:=r1;exact⟨some i,H1,I1,.int i t,q⟩
def zW(X:Cx)(r:V->Option Int->Option Int->Hp->VK->Prop):Prop :=
 ∀(pins:List (Addr×Obj)) (s:Shared) (Y:St) (H:Hp) (x:V) (v vl vu:Value) (lo hi:Option Int) (sl:Addr) (Q:VK),Inv X pins Y H s->a7 x v->s.heap.IsSliceOf sl vl vu .none->IsPart vl lo->IsPart vu hi->r x lo hi H Q ->
  ∃T id,typeLookup (.type T) "__getitem__"=pure (some (.builtin id))/\s.TypeIs v T/\wpAny (model X.prog X.w) X.A (getItem v (.ref sl)) (EP X pins Y Q) X.xe s
def zW.or(h:zW X r)(h':zW X r'):zW X (λx lo hi H Q=>r x lo hi H Q\/r' x lo hi H Q):=by
 intro pins s Y H x v vl vu lo hi sl Q I rx hs pl pu q;rcases q with q | q
 ·exact h pins s Y H x v vl vu lo hi sl Q I rx hs pl pu q
 ·exact h' pins s Y H x v vl vu lo hi sl Q I rx hs pl pu q
noncomputable def tSl(r:V->Option Int->Option Int->Hp->VK->Prop)(te:TE)(tl th:TO):TE:=λY H Q=>te Y H λx H1=>tl Y H1 λl H2=>th Y H2 λu H3=>r x l u H3 Q
def UQ(hr:zW X r)(he:PE X e te)(hl:PO X lo tl)(hu:PO X hi th):PE X (.Subscript e (.Slice lo hi none p2) pos) (tSl r te tl th):=by
 intro pins s Y H Q I h;refine Subscript_ (bG (he pins s Y H _ I h) λv s1 ⟨x,H1,I1,r1,q1⟩=>?_);refine wpAny_Slice (bG (hl pins s1 Y H1 _ I1 q1) λvl s2 ⟨l,H2,I2,pl,q2⟩=>bG (hu pins s2 Y H2 _ I2 q2) λvu s3 ⟨u,H3,I3,pu,q3⟩=>?_);rw[evalPart_none];refine Zu ?_;have I4:Inv X pins Y H3 { s3 with heap:=s3.heap.push { cls:=.type "slice",data:=.fields #[vl,vu,.none] } }:=I3.kept (t':=s3.toks) λb ob q=>Zd _ q
 obtain⟨T,id,hT,ht,hg⟩:=hr pins { s3 with heap:=s3.heap.push { cls:=.type "slice",data:=.fields #[vl,vu,.none] } } Y H3 x v vl vu l u s3.heap.objs.size Q I4 r1 (Heap.IsSliceOf.new ..) pl pu q3;show wpAny (model X.prog X.w) X.A (subscriptTail e (.Slice lo hi none p2) v (.ref s3.heap.objs.size)) (EP X pins Y Q) X.xe { s3 with heap:=s3.heap.push { cls:=.type "slice",data:=.fields #[vl,vu,.none] } };exact tail_any (ops:=[.ref s3.heap.objs.size,v]) ht hT hg (by with_unfolding_all rfl)
noncomputable def vR(xs:List V)(lo hi:Option Int):List V:=(xs.drop (HT.bQ xs.length 0 lo)).take (HT.bQ xs.length xs.length hi-HT.bQ xs.length 0 lo)
def wK(xs:List V)(lo hi:Option Int):(vR xs lo hi).length<=xs.length:=by
 unfold vR;rw[List.length_take,List.length_drop];omega
def aHd(K:Frag):V->Option Int->Option Int->Hp->VK->Prop:=λx lo hi H Q=>∃a xs,x=.ref a/\dE K H a xs /\
 ¬(HT.bQ xs.length 0 lo=0/\HT.bQ xs.length xs.length hi=xs.length)/\∀p,H p=none->Q (.ref p) (aP H p (.tup (vR xs lo hi)))
def aCR:zW X (aHd X.K):=by
 intro pins s Y H x v vl vu lo hi sl Q I rx hs pl pu h;obtain⟨a,xs,rfl,hx,hw,q⟩:=h;cases rx;obtain⟨its,r,ht,hz⟩:=I.tuple hx;have hlen:its.toArray.size=xs.length:=by rw[Zi];exact r.length.symm
 refine⟨"tuple",_,PyProof.Rows.slot_tuple_getitem.lookup,ht.typeIs, ?_⟩;refine HT.wH ht hs pl pu (by rw[hlen];exact hw) ?_ (by rw[hlen];exact hz);rw[hlen];refine⟨.ref s.heap.objs.size,_,I.laid (t':=s.toks) (o:=.tup (vR xs lo hi)) (λb ob q=>Zd _ q) (Zq _) ?_,rfl,q _ (I.hok.fresh (Zq _))⟩;exact⟨Zr (wK xs lo hi) hz,_,(r.drop (HT.bQ xs.length 0 lo)).take (HT.bQ xs.length xs.length hi-HT.bQ xs.length 0 lo),IsTup.new _ _⟩
noncomputable def aFv(K:Frag):R2:=λx y H Q=>∃a b xs ys,x=.ref a/\y=.ref b/\dE K H a xs/\dE K H b ys/\xs≠[]/\xs.length+ys.length<=sizeLine /\
 (ys=[]->Q (.ref a) H)/\(ys≠[]->∀p,H p=none->Q (.ref p) (aP H p (.tup (xs++ys))))
def aO.nil_iff(r:aO xs us):us=[]↔xs=[]:=by
 cases r with
 |nil=>simp
 |cons _ _=>simp
def XQ:eW X (binaryOp .Add) (aFv X.K):=by
 intro pins s Y H x y v u Q I rx ry h;obtain⟨a,b,xs,ys,rfl,rfl,ha,hb,hx,hz,q1,q2⟩:=h;cases rx;cases ry;obtain⟨its,r1,p1,_⟩:=I.tuple ha;obtain⟨its2,r2,p2,_⟩:=I.tuple hb;refine HT.aBh p1 p2 (λz=>hx (r1.nil_iff.mp z)) (λz=>⟨.ref a,H,I,rfl,q1 (r2.nil_iff.mp z)⟩) (λz=>?_) (by rw[<- r1.length,<- r2.length];exact hz);refine⟨.ref s.heap.objs.size,_,I.laid (t':=s.toks) (o:=.tup (xs++ys)) (λb ob q=>Zd _ q) (Zq _) ?_,rfl,q2 (λw=>z (r2.nil_iff.mpr w)) _ (I.hok.fresh (Zq _))⟩;exact⟨by rw[Za];exact hz,_,r1.append r2,IsTup.new _ _⟩
end
noncomputable def mX(n:Nat)(i:Int):Option Nat:=if 0<=i then(if i<n then some i.toNat else none) else if -(n:Int)<=i then some (i+n).toNat else none
noncomputable def cV(xs:List O)(i:Int):Option O:=(mX xs.length i).bind λj=>xs[j]?
def J3(h:mX n i=some j):seqIndex? i n=some j/\j<n/\-(n:Int)<=i/\i<n:=by
 unfold mX at h;by_cases h0:0<=i
 ·rw[Zo h0] at h;by_cases h1:i<n
  ·rw[Zo h1] at h;have e:i.toNat=j:=Option.some.inj h;exact⟨by rw[seqIndex_of h0 h1,e],by omega,by omega,h1⟩
  ·rw[Zp h1] at h;cases h
 ·rw[Zp h0] at h;by_cases h1:-(n:Int)<=i
  ·rw[Zo h1] at h;have e:(i+n).toNat=j:=Option.some.inj h;exact⟨by rw[seqIndex_neg (by omega) h1,e],by omega,h1,by omega⟩
  ·rw[Zp h1] at h;cases h
def AI(h:cV xs i=some v):∃j,seqIndex? i xs.length=some j/\xs[j]?=some v/\j<xs.length/\-(xs.length:Int)<=i/\i<xs.length:=by
 unfold cV at h
 cases e:mX xs.length i with
 |none=>rw[e] at h;cases h
 |some j =>
  rw[e] at h;obtain⟨h1,h2,h3,h4⟩:=J3 e;exact⟨j,h1,h,h2,h3,h4⟩
def lV{j:Nat}(h:xs[j]?=some v):cV xs (j:Int)=some v:=by
 have hj:j<xs.length:=(Zc.mp h).1
 have e:mX xs.length (j:Int)=some j:=by(unfold mX;rw[Zo (by omega),Zo (by omega)];simp)
 unfold cV;rw[e];exact h
def BE(b:Expr):Prop:=∀o i,subscripted b false o i=operate [o,i] (getItem o i)
def mY(X:Cx)(r:R2):Prop :=
 ∀(value slice:Expr) (pins:List (Addr×Obj)) (s:Shared) (Y:St) (H:Hp) (x y:V) (v u:Value) (Q:VK),Inv X pins Y H s->a7 x v->a7 y u->r x y H Q ->
  subscripted slice false v u=operate [v,u] (getItem v u)->wpAny (model X.prog X.w) X.A (subscriptTail value slice v u) (EP X pins Y Q) X.xe s
def MtR(X:Cx)(id:String)(r:V->List V->Hp->VK->Prop):Prop :=
 ∀(pins:List (Addr×Obj)) (s:Shared) (Y:St) (H:Hp) (x:V) (xs:List V) (v:Value) (us:List Value) (Q:VK),Inv X pins Y H s->a7 x v->aO xs us->r x xs H Q ->
  wpAny (model X.prog X.w) X.A (call (.builtin id) (v::us)) (EP X pins Y Q) X.xe s
section
variable{X:Cx}{a b:Expr}{ta tb:TE}{pos:Pos}
def mY.or(h:mY X r)(h':mY X r'):mY X (λx y H Q=>r x y H Q\/r' x y H Q):=by
 intro value slice pins s Y H x y v u Q I rx ry q hs;rcases q with q | q
 ·exact h value slice pins s Y H x y v u Q I rx ry q hs
 ·exact h' value slice pins s Y H x y v u Q I rx ry q hs
def aFh(hr:mY X r)(ha:PE X a ta)(hb:PE X b tb)(hs:BE b):PE X (.Subscript a b pos) (PF r ta tb):=by
 intro pins s Y H Q I h;exact Subscript_ (S9 ha hb I h λv u s2 x y H2 I2 rx ry q=>hr a b pins s2 Y H2 x y v u Q I2 rx ry q (hs _ _))
noncomputable def aDb(K:Frag):R2:=λx y H Q=>∃p xs i v,x=.ref p/\y=.int i/\bU K H p xs/\cV xs i=some v/\Q v H
noncomputable def aDi(K:Frag):R2:=λx y H Q=>∃p xs i v,x=.ref p/\y=.int i/\dE K H p xs/\cV xs i=some v/\Q v H
noncomputable def K5:R2:=λx y H Q=>∃z i c,x=.str z/\y=.int i/\z.length<=sizeLine/\cV z.cps.toList i=some c/\Q (.str ⟨#[c]⟩) H
def aAp:mY X (aDb X.K):=by
 intro value slice pins s Y H x y v u Q I rx ry h hs;obtain⟨p,xs,i,z,rfl,rfl,hq,he,q⟩:=h;cases rx;obtain⟨t,rfl⟩:=ry;obtain⟨its,r,pl,hz⟩:=I.list hq;obtain⟨j,h1,h2,h3,h4,h5⟩:=AI he;obtain⟨w,ew,rw'⟩:=r.get h2;have hl:=r.length;have hn:=oR;have fin:EP X pins Y Q w s:=⟨z,H,I,rw',q⟩
 by_cases h0:0<=i
 ·have hj:i.toNat=j:=by
   rw[seqIndex_of h0 h5] at h1;exact Option.some.inj h1
  exact item_listR pl.isList h0 (by omega) (by rw[hj];simpa using ew) fin hs
 ·have hj:(i+(its.toArray.size:Int)).toNat=j:=by
   rw[seqIndex_neg (by omega) h4] at h1;rw[Zi,<- hl];exact Option.some.inj h1
  exact subscriptTail_builtinR (x:=w) pl.isList.typeIs slot_list_getitem.lookup
   (wpAny_getItem_list_neg (Q:=λr s'=>r=w/\EP X pins Y Q r s') pl.isList (by omega) (by rw[Zi]<;>omega) (by omega) (by rw[hj];simpa using ew) ⟨rfl,fin⟩) hs
def aCV:mY X (aDi X.K):=by
 intro value slice pins s Y H x y v u Q I rx ry h hs;obtain⟨p,xs,i,z,rfl,rfl,hq,he,q⟩:=h;cases rx;obtain⟨t,rfl⟩:=ry;obtain⟨its,r,pl,hz⟩:=I.tuple hq;obtain⟨j,h1,h2,h3,h4,h5⟩:=AI he;obtain⟨w,ew,rw'⟩:=r.get h2;have hl:=r.length;have hn:=oR;have fin:EP X pins Y Q w s:=⟨z,H,I,rw',q⟩
 exact subscriptTail_builtinR (x:=w) pl.typeIs slot_tuple_getitem.lookup
  (getItem_tuple (Q:=λr s'=>r=w/\EP X pins Y Q r s') pl (by omega) (by omega) (by rw[Zi,<- hl];exact h1) (by simpa using ew) ⟨rfl,fin⟩) hs
def aBq:mY X K5:=by
 intro value slice pins s Y H x y v u Q I rx ry h hs;obtain⟨z,i,c,rfl,rfl,hz,he,q⟩:=h;obtain⟨t,rfl⟩:=rx;obtain⟨t',rfl⟩:=ry;obtain⟨j,h1,h2,h3,h4,h5⟩:=AI he;have hl:z.cps.toList.length=z.length:=by simp[Str.length]
 rw[hl] at h1 h4 h5;have hn:=oR
 exact tail_any (typeIs_str s z t) slot_str_getitem.lookup (getItem_str (by
  have e1:decide (i < -(2 ^ 63:Int))=false:=Zm (by omega);have e2:decide (i >= 2 ^ 63)=false:=Zm (by omega)
  rw[e1,e2,Bool.or_false]) (by rw[h1];simpa using h2) ⟨.str ⟨#[c]⟩,H,I.tok _,⟨_,rfl⟩,q⟩) hs
noncomputable def rIx(K:Frag):R2:=λx y H Q=>aDb K x y H Q\/aDi K x y H Q\/K5 x y H Q
def aEf:mY X (rIx X.K):=aAp.or (aCV.or aBq)
def LW(its:List Value)(n j:Nat)(u:Value):Obj.mapSeq (·.setIfInBounds j u) { cls:=.type "list",data:=.seq its.toArray n }={ cls:=.type "list",data:=.seq (its.set j u).toArray n }:=by
 simp[Obj.mapSeq]
theorem Inv.lst{pins:List (Addr×Obj)}{Y:St}{H:Hp}{s:Shared}{p:Addr}{xs:List V}(I:Inv X pins Y H s)(h:H p=some (.lst xs)) :
  ∃(its:List Value) (n:Nat),aO xs its/\s.heap.get? p=some { cls:=.type "list",data:=.seq its.toArray n }/\xs.length<=sizeLine:=by
 obtain⟨z,its,n,r,e⟩:=I.hok p _ h;exact⟨its,n,r,e,z⟩
def Inv.lstUpd{its its':List Value}(I:Inv X pins Y H s)(h:H p=some (.lst xs))
  (ho:s.heap.get? p=some { cls:=.type "list",data:=.seq its.toArray n }) (hf:f { cls:=.type "list",data:=.seq its.toArray n }={ cls:=.type "list",data:=.seq its'.toArray n' }) (r:aO ys its') (hz:ys.length<=sizeLine) (t:Nat) :
  Inv X pins Y (aP H p (.lst ys)) { s with heap:=s.heap.update p f,toks:=t }:=by
 have e:(s.heap.update p f).get? p=some { cls:=.type "list",data:=.seq its'.toArray n' }:=by(rw[Heap.get?_update_self f ho (by rw[hf]<;>rfl),hf])
 refine I.write (x:=p) (e:=p) (by rw[h];trivial) (.inl rfl) (λb u hb q=>(Heap.get?_update_other _ _ (Ne.symm hb)).trans q) ⟨_,e⟩ ?_;exact⟨hz,its',n',r,e⟩
def V4:V->V->V->Hp->(Hp->Prop)->Prop:=λo i v H Q=>∃p xs k j,o=.ref p/\i=.int k/\H p=some (.lst xs)/\mX xs.length k=some j/\Q (aP H p (.lst (xs.set j v)))
def UY:T1 X V4:=by
 intro pins s Y H o i v ov iv u Q I ro ri rv h;obtain⟨p,xs,k,j,rfl,rfl,hp,hj,q⟩:=h;cases ro;obtain⟨t,rfl⟩:=ri;obtain⟨its,n,r,ho,hz⟩:=I.lst hp;obtain⟨h1,h2,h3,h4⟩:=J3 hj;have hl:=r.length;have hn:=oR
 have I':Inv X pins Y (aP H p (.lst (xs.set j v))) { s with heap:=s.heap.update p (Obj.mapSeq (·.setIfInBounds j u)) } :=
  I.lstUpd hp ho (LW its n j u) (r.set rv j) (by rw[zg];exact hz) s.toks
 by_cases h0:0<=k
 ·have hk:k.toNat=j:=by
   rw[seqIndex_of h0 h4] at h1;exact Option.some.inj h1
  exact PySem.W.ki_setAt ho h0 (by omega) (by rw[Zi,<- hl];exact h4) (by rw[hk];exact⟨_,I',q⟩)
 ·have hk:(k+(its.toArray.size:Int)).toNat=j:=by
   rw[seqIndex_neg (by omega) h3] at h1;rw[Zi,<- hl];exact Option.some.inj h1
  exact PySem.W.ki_setBack ho (by omega) (by rw[Zi,<- hl];exact h3) (by omega) (by rw[hk];exact⟨_,I',q⟩)
def FR(lo hi:Option Int)(n:Nat):(sliceBounds lo hi none n).1=((HT.bQ n 0 lo:Nat):Int)/\(sliceBounds lo hi none n).2.1=((HT.bQ n n hi:Nat):Int)/\(sliceBounds lo hi none n).2.2=1:=by
 refine⟨?_, ?_,rfl⟩
 ·cases lo with
  |none=>simp[sliceBounds,HT.bQ]
  |some i =>
   simp only[sliceBounds,HT.bQ,Option.getD_none,show(1:Int) > 0 by decide,if_true];by_cases h:i<0
   ·simp only[h,if_true]<;>omega
   ·simp only[h,if_false]<;>omega
 ·cases hi with
  |none=>simp[sliceBounds,HT.bQ]
  |some i =>
   simp only[sliceBounds,HT.bQ,Option.getD_none,show(1:Int) > 0 by decide,if_true];by_cases h:i<0
   ·simp only[h,if_true]<;>omega
   ·simp only[h,if_false]<;>omega
def CZ(its:List Value)(lo hi:Option Int):slicePick its.toArray lo hi none=((its.drop (HT.bQ its.length 0 lo)).take (HT.bQ its.length its.length hi-HT.bQ its.length 0 lo)).toArray:=by
 obtain⟨h1,h2,h3⟩:=FR lo hi its.toArray.size;unfold slicePick;rw[h1,h2,h3];simp only[sliceRange_one,pick_run,Zi]<;>rfl
def aIl(K:Frag):V->Option Int->Option Int->Hp->VK->Prop:=λx lo hi H Q=>∃a xs,x=.ref a/\bU K H a xs/\∀p,H p=none->Q (.ref p) (aP H p (.lst (vR xs lo hi)))
def Z5:zW X (aIl X.K):=by
 intro pins s Y H x v vl vu lo hi sl Q I rx hs pl pu h;obtain⟨a,xs,rfl,hx,q⟩:=h;cases rx;obtain⟨its,r,ht,hz⟩:=I.list hx;have hlen:=r.length;refine⟨"list",_,slot_list_getitem.lookup,ht.isList.typeIs, ?_⟩;refine wpAny_getItem_list_slice ht.isList hs pl pu .none (by simp) ?_ (by rw[Zi]<;>omega);rw[CZ,<- hlen];refine⟨.ref s.heap.objs.size,_,I.laid (t':=s.toks) (o:=.lst (vR xs lo hi)) (λb ob q=>Zd _ q) (Zq _) ?_,rfl,q _ (I.hok.fresh (Zq _))⟩;exact⟨Zr (wK xs lo hi) hz,_,0,(r.drop (HT.bQ xs.length 0 lo)).take (HT.bQ xs.length xs.length hi-HT.bQ xs.length 0 lo),Zw _ rfl⟩
noncomputable def mF:V->Bool
 |.non=>true
 |.bl _=>true
 |.int _=>true
 |.str _=>true
 |_=>false
noncomputable def qX:V->V->Bool
 |.non,.non=>true
 |.bl a,.bl b=>a==b
 |.bl a,.int b=>(if a then 1 else 0)==b
 |.int a,.bl b=>a==(if b then 1 else 0)
 |.int a,.int b=>a==b
 |.str a,.str b=>a==b
 |_,_=>false
def aBI(ry:a7 y u)(rx:a7 x v)(fy:mF y=true)(fx:mF x=true):SeqAt.EqAt A s u v (qX y x):=by
 cases y with
 |non =>
  cases ry
  cases x with
  |non=>cases rx;exact SeqAt.EqAt.same _
  |bl b=>cases rx;exact SeqAt.EqAt.none_bool b
  |int b=>obtain⟨t,rfl⟩:=rx;exact SeqAt.EqAt.none_int b t
  |str b=>obtain⟨t,rfl⟩:=rx;exact SeqAt.EqAt.none_str b t
  |_=>exact absurd (show false=true from fx) Bool.false_ne_true
 |bl a =>
  cases ry
  cases x with
  |non=>cases rx;exact SeqAt.EqAt.bool_none a
  |bl b=>cases rx;exact SeqAt.EqAt.bool_bool a b
  |int b=>obtain⟨t,rfl⟩:=rx;exact SeqAt.EqAt.bool_int a b t
  |str b=>obtain⟨t,rfl⟩:=rx;exact SeqAt.EqAt.bool_str a b t
  |_=>exact absurd (show false=true from fx) Bool.false_ne_true
 |int a =>
  obtain⟨t',rfl⟩:=ry
  cases x with
  |non=>cases rx;exact SeqAt.EqAt.int_none a t'
  |bl b=>cases rx;exact SeqAt.EqAt.int_bool a t' b
  |int b=>obtain⟨t,rfl⟩:=rx;exact SeqAt.EqAt.int_int a t' b t
  |str b=>obtain⟨t,rfl⟩:=rx;exact SeqAt.EqAt.int_str a t' b t
  |_=>exact absurd (show false=true from fx) Bool.false_ne_true
 |str a =>
  obtain⟨t',rfl⟩:=ry
  cases x with
  |non=>cases rx;exact SeqAt.EqAt.str_none a t'
  |bl b=>cases rx;exact SeqAt.EqAt.str_bool a t' b
  |int b=>obtain⟨t,rfl⟩:=rx;exact SeqAt.EqAt.str_int a t' b t
  |str b=>obtain⟨t,rfl⟩:=rx;exact SeqAt.EqAt.str_str a t' b t
  |_=>exact absurd (show false=true from fx) Bool.false_ne_true
 |_=>exact absurd (show false=true from fy) Bool.false_ne_true
noncomputable def oA(x:V)(u:Value):Bool:=match u with
 |.none=>qX .non x
 |.bool b=>qX (.bl b) x
 |.int i _=>qX (.int i) x
 |.str z _=>qX (.str z) x
 |_=>false
def QC(r:a7 y u)(f:mF y=true):oA x u=qX y x:=by
 cases y with
 |non=>cases r;rfl
 |bl b=>cases r;rfl
 |int i=>obtain⟨t,rfl⟩:=r;rfl
 |str z=>obtain⟨t,rfl⟩:=r;rfl
 |_=>exact absurd (show false=true from f) Bool.false_ne_true
theorem qR:∀{xs:List V} {us:List Value},aO xs us->xs.all mF=true->us.any (oA x)=xs.any λy=>qX y x
 |_,_,.nil,_=>rfl
 |y::xs,u::us,.cons r t,f=>by(rw[Zj,ZB] at f;rw[List.any_cons,List.any_cons,QC r f.1,qR t f.2])
theorem oK(rx:a7 x v)(fx:mF x=true):∀{xs:List V} {us:List Value},aO xs us->xs.all mF=true->∀u∈us,SeqAt.EqAt A s u v (oA x u)
 |_,_,.nil,_=>λu hu=>by cases hu
 |y::xs,u::us,.cons r t,f=>λu' hu=>by
  rw[Zj,ZB] at f;rcases List.mem_cons.mp hu with rfl | hu
  ·rw[QC r f.1];exact aBI r rx f.1 fx
  ·exact oK rx fx t f.2 u' hu
noncomputable def WR(x:V)(xs:List V):Bool:=xs.any λy=>qX y x
noncomputable def rIn(K:Frag)(neg:Bool):R2:=λx y H Q=>∃p xs,y=.ref p/\(bU K H p xs\/dE K H p xs)/\mF x=true/\xs.all mF=true/\Q (.bl (if neg then !WR x xs else WR x xs)) H
def CT:eW X (compareOp .In) (rIn X.K false):=by
 intro pins s Y H x y v u Q I rx ry h;obtain⟨p,xs,rfl,hq,fx,fs,q⟩:=h;cases ry;rcases hq with hq | hq
 ·obtain⟨its,r,pl,hz⟩:=I.list hq;refine SeqAt.in_listAt (oA x) pl.isList (λw hw=>oK rx fx r fs w (by simpa using hw)) ⟨.bl _,H,I,rfl, ?_⟩;rw[show its.toArray.any (oA x)=its.any (oA x) by simp,qR r fs];exact q
 ·obtain⟨its,r,pl,hz⟩:=I.tuple hq;refine SeqAt.in_tupleAt (oA x) pl (λw hw=>oK rx fx r fs w (by simpa using hw)) ⟨.bl _,H,I,rfl, ?_⟩;rw[show its.toArray.any (oA x)=its.any (oA x) by simp,qR r fs];exact q
def vD:eW X (compareOp .NotIn) (rIn X.K true):=by
 intro pins s Y H x y v u Q I rx ry h;obtain⟨p,xs,rfl,hq,fx,fs,q⟩:=h;cases ry;rcases hq with hq | hq
 ·obtain⟨its,r,pl,hz⟩:=I.list hq;refine SeqAt.notIn_listAt (oA x) pl.isList (λw hw=>oK rx fx r fs w (by simpa using hw)) ⟨.bl _,H,I,rfl, ?_⟩;rw[show its.toArray.any (oA x)=its.any (oA x) by simp,qR r fs];exact q
 ·obtain⟨its,r,pl,hz⟩:=I.tuple hq;refine SeqAt.notIn_tupleAt (oA x) pl (λw hw=>oK rx fx r fs w (by simpa using hw)) ⟨.bl _,H,I,rfl, ?_⟩;rw[show its.toArray.any (oA x)=its.any (oA x) by simp,qR r fs];exact q
def vK:fP X (.builtin "len") (λxs H Q=>∃p ys,xs=[.ref p]/\(bU X.K H p ys\/dE X.K H p ys)/\Q (.int ys.length) H):=by
 intro pins s Y H xs us Q I r h;obtain⟨p,ys,rfl,hq,q⟩:=h;obtain⟨u,rfl,rx⟩:=iJ r;cases rx;have hn:=oR;rcases hq with hq | hq
 ·obtain⟨its,r',pl,hz⟩:=I.list hq;have hlen:=r'.length;exact Calls.call_len_list pl.isList (by simp only[Zi]<;>omega) ⟨.int ys.length,H,I.tok _,⟨s.toks+1,by rw[Zi,hlen]⟩,q⟩
 ·obtain⟨its,r',pl,hz⟩:=I.tuple hq;have hlen:=r'.length;exact len_tuple pl (by simp only[Zi]<;>omega) ⟨.int ys.length,H,I.tok _,⟨s.toks+1,by rw[Zi,hlen]⟩,q⟩
def EB:fP X (.builtin "len") (λxs H Q=>∃z,xs=[.str z]/\z.length<=sizeLine/\Q (.int z.length) H):=by
 intro pins s Y H xs us Q I r h;obtain⟨z,rfl,hz,q⟩:=h;obtain⟨u,rfl,t,rfl⟩:=iJ r;have hn:=oR;exact len_str (by omega) ⟨.int z.length,H,I.tok _,⟨_,rfl⟩,q⟩
def vO:fP X (.type "list") (λxs H Q=>∃p ys,xs=[.ref p]/\(bU X.K H p ys\/dE X.K H p ys)/\∀l,H l=none->Q (.ref l) (aP H l (.lst ys))):=by
 intro pins s Y H xs us Q I r h;obtain⟨p,ys,rfl,hq,q⟩:=h;obtain⟨u,rfl,rx⟩:=iJ r;cases rx
 have fin:∀(its:List Value),aO ys its->ys.length<=sizeLine->∀(h':Heap) (c':Nat),(∀b o',s.heap.get? b=some o'->h'.get? b=some o') ->
   h'.get? s.heap.objs.size=some { cls:=.type "list",dict:=none,data:=.seq its.toArray c',slots:=#[] }->EP X pins Y Q (.ref s.heap.objs.size) { s with heap:=h' }:=λits r' hz h' c' kp e =>
  ⟨.ref s.heap.objs.size,_,I.laid (t':=s.toks) kp (Zq _) (show cT X.prog X.w _ h' _ (.lst ys) from⟨hz,its,c',r',e⟩),rfl,q _ (I.hok.fresh (Zq _))⟩
 rcases hq with hq | hq
 ·obtain⟨its,r',pl,hz⟩:=I.list hq;have hlen:=r'.length;obtain⟨o,ho,hc,n,hd⟩:=pl.isList;exact call_list_seq p (.inl rfl) ho hc hd (λh' c' kp e=>fin its r' hz h' c' kp e) (by simp only[Zi]<;>omega)
 ·obtain⟨its,r',pl,hz⟩:=I.tuple hq;have hlen:=r'.length;obtain⟨o,ho,hc,n,hd⟩:=pl;exact call_list_seq p (.inr rfl) ho hc hd (λh' c' kp e=>fin its r' hz h' c' kp e) (by simp only[Zi]<;>omega)
def sO:fP X (.type "tuple") (λxs H Q=>∃p ys,xs=[.ref p]/\((bU X.K H p ys/\∀l,H l=none->Q (.ref l) (aP H l (.tup ys)))\/(dE X.K H p ys/\Q (.ref p) H))):=by
 intro pins s Y H xs us Q I r h;obtain⟨p,ys,rfl,h⟩:=h;obtain⟨u,rfl,rx⟩:=iJ r;cases rx;rcases h with ⟨hq,q⟩ | ⟨hq,q⟩
 ·obtain⟨its,r',pl,hz⟩:=I.list hq;have hlen:=r'.length;refine call_tuple_list pl.isList (λh' kp=>?_) (by simp only[Zi]<;>omega);have I1:Inv X pins Y H { s with heap:=h' }:=I.kept (t':=s.toks) kp
  have I2:Inv X pins Y (aP H h'.objs.size (.tup ys)) { s with heap:=h'.push { cls:=.type "tuple",data:=.seq its.toArray } } :=
   I1.laid (t':=s.toks) (λb o e=>Zd _ e) (Zq _) (show cT X.prog X.w _ _ _ (.tup ys) from⟨hz,its,r',IsTup.new _ _⟩)
  exact⟨.ref h'.objs.size,_,I2,rfl,q _ (I1.hok.fresh (Zq _))⟩
 ·obtain⟨its,r',pl,hz⟩:=I.tuple hq;exact call_tuple_same pl ⟨.ref p,H,I,rfl,q⟩
def tyV(K:Frag)(T:String)(x:V)(H:Hp):Prop:=match x with
 |.str _=>T="str"
 |.int _=>T="int"
 |.ref p=>(T="list"/\∃xs,bU K H p xs)\/(T="tuple"/\∃o,K.lookup p=some o/\o.cls=.type "tuple"/\o.dict=none) \/
   (T="dict"/\∃kvs,H p=some (.dK kvs))\/(T="set"/\∃S n,H p=some (.set S n))
 |_=>False
def aEh(I:Inv X pins Y H s)(r:a7 x v)(ty:tyV X.K T x H) :
  s.TypeIs v T/\∀a,v=.ref a->∃ob,s.heap.get? a=some ob/\ob.dict=none:=by
 cases x with
 |str z =>
  obtain⟨t,rfl⟩:=r;cases (show T="str" from ty);exact⟨typeIs_str s z t,λ_ e=>nomatch e⟩
 |int i =>
  obtain⟨t,rfl⟩:=r;cases (show T="int" from ty);exact⟨typeIs_int s i t,λ_ e=>nomatch e⟩
 |ref p =>
  cases r;rcases ty with ⟨rfl,xs,hq⟩ | ⟨rfl,o,hk,hc,hd⟩ | ⟨rfl,hk⟩ | ⟨rfl,S,n,hk⟩
  ·obtain⟨its,_,pl,_⟩:=I.list hq;refine⟨pl.isList.typeIs,λa e=>?_⟩;cases e;obtain⟨o,n,e,c,hd,_⟩:=pl;exact⟨o,e,hd⟩
  ·refine⟨⟨o,I.kIn p o hk,hc⟩,λa e=>?_⟩;cases e;exact⟨o,I.kIn _ o hk,hd⟩
  ·have z:∃o,s.heap.get? p=some o/\o.ExactDict:=by
    obtain⟨kvs,hk⟩:=hk;obtain⟨_,_,_,_,o,_,_,e,ex,_⟩:=I.hok p _ hk;exact⟨o,e,ex⟩
   obtain⟨o,e,ex⟩:=z;refine⟨⟨o,e,ex.1⟩,λa e2=>?_⟩;cases e2;exact⟨o,e,ex.2.1⟩
  ·obtain⟨o,_,_,_,e,ex,_⟩:=I.hok p _ hk;refine⟨⟨o,e,ex.1⟩,λa e2=>?_⟩;cases e2;exact⟨o,e,ex.2.1⟩
 |_=>exact False.elim ty
noncomputable def tBM(K:Frag)(T:String)(r:V->List V->Hp->VK->Prop)(to:TE)(t:TA):TE:=λY H Q=>to Y H λx H1=>tyV K T x H1/\t Y H1 λxs H2=>r x xs H2 Q
variable{o e:Expr}{es:List Expr}{to:TE}{t:TA}{name:Str}{apos cpos:Pos}{T id:String}{r:V->List V->Hp->VK->Prop}
def aE7(pa:PlainAttrs T)(slot:Slot T name id)(hty:typeOf (.builtin id)=pure (.type "method_descriptor"))(hm:MtR X id r)(ho:PE X o to)(ha:PA X (e::es) t)
  (hbase:attributeBase o name X.env (eval o X.env)=eval o X.env:=by rfl)
  (hfew:((backTo cpos (starEach (e::es) X.env)).all (λx=>!x.1)&&(backToKw cpos (keywordEach [] X.env)).all (λx=>x.1.isSome)
   && decide ((e::es).length+([]:List Keyword).length+(if([]:List Keyword).isEmpty then 0 else 1)<30))=true:=by rfl)
  (hline:(apos.endLine==cpos.line)=true:=by rfl) (hs:starEach (e::es) X.env=(false,eval e X.env)::starEach es X.env:=by rfl) (hplain:(backTo cpos (starEach es X.env)).any (·.1)=false:=by rfl) :
  PE X (.Call (.Attribute o name apos) (e::es) [] cpos) (tBM X.K T r to t):=by
 intro pins s Y H Q I h;refine wpAny_Call_method_late hbase hfew hline rfl (bG (ho pins s Y H _ I h) λv s1 ⟨x,H1,I1,r1,ty,q1⟩=>?_);obtain⟨h1,h2⟩:=aEh I1 r1 ty;refine⟨T,id,pa,slot,hty,h1,h2, ?_⟩;have hA:=ha cpos pins s1 Y H1 _ I1 q1;rw[hs] at hA ⊢;refine Calls.callWith_builtin (by show(false||(backTo cpos (starEach es X.env)).any (·.1))=false;rw[hplain]<;>rfl) (Calls.evalArgs_plain ?_);exact bG hA λus s2 ⟨vs,H2,I2,r2,q2⟩=>hm pins s2 Y H2 x vs v us Q I2 r1 r2 q2
end
def MtM(X:Cx)(id:String)(r:V->List V->Hp->VK->Prop):Prop :=
 ∀(pins:List (Addr×Obj)) (s:Shared) (Y:St) (H:Hp) (x:V) (xs:List V) (v:Value) (us:List Value) (Q:VK),Inv X pins Y H s->a7 x v->aO xs us->r x xs H Q ->
  wpAny (model X.prog X.w) X.A (call (.builtin id) (v::us)) (EP X pins Y Q) X.xe s
theorem aO.one:∀{x:V} {us:List Value},aO [x] us->∃u,us=[u]/\a7 x u
 |_,_,.cons r .nil=>⟨_,rfl,r⟩
theorem aO.rep(h:aO xs us):∀k:Nat,aO (List.replicate k xs).flatten (List.replicate k us).flatten
 | 0=>.nil
 |k+1=>by(rw[List.replicate_succ,List.replicate_succ,List.flatten_cons,List.flatten_cons];exact aO.append h (aO.rep h k))
theorem B8(its:List Value):∀(k:Nat) (acc:List Value),
  List.foldl (λx1 x2=>x1++x2) acc.toArray (List.replicate k its.toArray)=(acc++(List.replicate k its).flatten).toArray
 | 0,acc=>by simp
 |k+1,acc=>by
  have e:acc.toArray++its.toArray=(acc++its).toArray:=by simp
  have e2:(acc++its)++(List.replicate k its).flatten=acc++(List.replicate (k+1) its).flatten:=by(rw[List.replicate_succ,List.flatten_cons,List.append_assoc])
  rw[<- e2,<- B8 its k (acc++its),<- e,List.replicate_succ,List.foldl_cons]
section
variable{X:Cx}{pins:List (Addr×Obj)}{Y:St}{H:Hp}{s:Shared}{l b:Addr}{xs ys zs:List V}
def Inv.lset{its its':List Value}(I:Inv X pins Y H s)(hH:H l=some (.lst xs))
  (e:s.heap.get? l=some { cls:=.type "list",data:=.seq its.toArray n }) (hf:f its.toArray=its'.toArray) (hv:aO ys its') (hz:ys.length<=sizeLine) :
  Inv X pins Y (aP H l (.lst ys)) { s with heap:=s.heap.update l (Obj.mapSeq f),toks:=t' }:=by
 have q:=PySem.IsL.update e f;rw[hf] at q;refine I.write (x:=l) (e:=l) (by rw[hH];exact trivial) (.inl rfl) (λb' u hb hu=>(Heap.get?_update_other s.heap (Obj.mapSeq f) (Ne.symm hb)).trans hu) ⟨_,q⟩ ?_;exact⟨hz,its',_,hv,q⟩
def Inv.lnew(I:Inv X pins Y H s)(hv:aO ys its)(hz:ys.length<=sizeLine) :
  Inv X pins Y (aP H s.heap.objs.size (.lst ys)) { s with heap:=s.heap.push { cls:=.type "list",data:=.seq its.toArray },toks:=t' } :=
 I.laid (λ_ _ q=>Zd _ q) (Zq _) ⟨hz,its,0,hv,Zw _ rfl⟩
theorem Inv.fresh(I:Inv X pins Y H s):H s.heap.objs.size=none:=I.hok.fresh (Zq _)
def Inv.lstM(I:Inv X pins Y H s)(hH:H l=some (.lst xs)):xs.length<=sizeLine/\∃(its:List Value) (n:Nat),aO xs its/\xs.length=its.length/\s.heap.get? l=some { cls:=.type "list",data:=.seq its.toArray n }:=by
 obtain⟨z,its,n,r,e⟩:=I.hok l _ hH;exact⟨z,its,n,r,r.length,e⟩
def S8(h:n<=sizeLine):Builtin.List.listTooLong n=false:=by
 unfold Builtin.List.listTooLong;exact Zm (by omega)
end
section
variable{X:Cx}
def Y4:V->List V->Hp->VK->Prop:=λx vs H Q=>∃l xs y,x=.ref l/\vs=[y]/\H l=some (.lst xs)/\xs.length<sizeLine/\Q .non (aP H l (.lst (xs++[y])))
def BO:MtM X "list.append" Y4:=by
 intro pins s Y H x vs v us Q I rx rv h;obtain⟨l,xs,y,rfl,rfl,hH,hz,q⟩:=h;cases rx;obtain⟨u,rfl,ru⟩:=rv.one;obtain⟨z,its,n,r,hl,e⟩:=I.lstM hH;refine call_meets F.slot_list_append ⟨_,e,rfl⟩ F.entry_list_append (F.args_list_append_2 _ _) (PySem.list_append l its.toArray n u (by rw[Zi];omega)) ⟨e, ?_⟩;refine⟨.non,_,I.lset (its':=its++[u]) hH e (by simp) (r.append (.cons ru .nil)) ?_,rfl,q⟩;rw[Za,Zg];omega
noncomputable def aIj:R2:=λx y H Q=>∃l k xs,x=.ref l/\y=.int k/\H l=some (.lst xs)/\-(2 ^ 63)<=k/\k<2 ^ 63/\xs.length*k.toNat<=sizeLine /\
 ∀p,H p=none->Q (.ref p) (aP H p (.lst (List.replicate k.toNat xs).flatten))
def ZM(xs:List O)(k:Nat):(List.replicate k xs).flatten.length=k*xs.length:=by
 induction k with
 |zero=>simp
 |succ k ih=>rw[List.replicate_succ,List.flatten_cons,Za,ih,Nat.succ_mul,Nat.add_comm]
def aCC:eW X (binaryOp .Mult) aIj:=by
 intro pins s Y H x y v u Q I rx ry h;obtain⟨l,k,xs,rfl,rfl,hH,h1,h2,hz,q⟩:=h;cases rx;obtain⟨t,rfl⟩:=ry;obtain⟨z,its,n,r,hl,e⟩:=I.lstM hH;have hlen:its.toArray.size*k.toNat<=sizeLine:=by rw[Zi,<- hl];exact hz
 have hcap:¬its.toArray.size*k.toNat > (2 ^ 63-1) / 8:=by
  have:(sizeLine:Nat)<=(2 ^ 63-1) / 8:=by decide
  omega
 have hfit:¬(!Builtin.List.listFitsIndex k)=true:=by(rw[fitsIndex_both h1 h2];exact Bool.false_ne_true)
 have hlong:¬Builtin.List.listTooLong (its.toArray.size*k.toNat)=true:=by(rw[S8 hlen];exact Bool.false_ne_true)
 have hnew:List.foldl (λx1 x2=>x1++x2) #[] (List.replicate (if its.toArray.isEmpty=true then 0 else k.toNat) its.toArray)=(List.replicate k.toNat its).flatten.toArray:=by
  have f0:∀m:Nat,List.foldl (λx1 x2=>x1++x2) #[] (List.replicate m its.toArray)=(List.replicate m its).flatten.toArray:=λm=>by
   have:=B8 its m []
   rw[List.nil_append] at this;exact this
  rw[f0]
  cases its with
  |nil=>simp
  |cons a r'=>rw[Zp (by simp)]
 refine wpAny_binaryOp_repeat_ref (T:="list") (U:="int") (by decide) ⟨_,e,rfl⟩ (λs'=>typeIs_int s' k t) noFill_list_mul F.fills_int_mul F.slot_int_rmul repeat_list F.slot_int_index.lookup
  (call_meets F.slot_int_rmul (typeIs_int s k t) F.entry_int_rmul (F.args_int_rmul_2 _ _) (int___rmul___int_list k t l its.toArray n)
   ⟨e,rfl,⟨_,e,rfl⟩,call_meets F.slot_list_mul ⟨_,e,rfl⟩ F.entry_list_mul (F.args_list_mul_2 _ _) (AutoListH.list___mul___list_int_3 l its.toArray n k t hfit hcap hlong) ⟨e, ?_⟩⟩)
 rw[hnew];exact⟨.ref _,_,I.lnew (t':=s.toks) (r.rep k.toNat) (by rw[ZM,Nat.mul_comm];exact hz),rfl,q _ I.fresh⟩
end
end L2
namespace Att
open PySem PySem.W PySem.Calls PyProof.Rows
def y3:∀(ns:List Int) (vs:List Value),WellAll P h vs (ns.map WData.int)->IntsAre vs ns:=by
 intro ns
 induction ns with
 |nil =>
  intro vs w;rw[List.map_nil] at w;cases w;exact .nil
 |cons n ns ih =>
  intro vs w;rw[Zs] at w
  cases w with
  |cons a b =>
   cases a;exact .cons _ _ (ih _ b)
def Q8{l:OpenLaw}(hn:l.most=some n)
  (hpre:l.row.toRowW.claim.pre args=true) (hwl:WellAll P h vals args) :
  ∃a vs ns,vals=[Value.ref a]/\args=[WData.list (ns.map WData.int)]/\h.get? a=some { cls:=.type "list",data:=.seq vs.toArray }/\IntsAre vs ns/\ns.length<=n:=by
 have hsh:WShape.hasAll [] args [.list .int]=true:=(pre_splitW hpre).1;have hc:l.pre.holds [] { args:=args }=true:=(pre_splitW hpre).2;obtain⟨d,r,rfl,h1,h2⟩:=hasAllW_cons hsh;obtain rfl:=hasAllW_nil h2;obtain⟨xs,rfl,h3⟩:=hasW_list h1;obtain⟨ns,rfl⟩:=items_int h3
 have hlen:ns.length<=n:=by
  unfold OpenLaw.pre at hc
  have h4:(WTm.not (.lt (.lit (.int (n:Int))) (.len (.arg 0)))).holds [] { args:=[.list (ns.map .int)] }=true:=by(have h4:=(holds_andW hc).1;rw[hn] at h4;exact h4)
  have h5:=condW_of h4 (w_not (w_lt w_lit (w_len_list (w_arg rfl))));rw[List.length_map] at h5;refine Nat.le_of_not_lt λq=>?_
  have q':(n:Int)<((ns.length:Nat):Int):=by omega
  first
   | (rw[Zn q'] at h5;exact absurd h5 (by decide))
   | (simp at h5;omega)
 cases hwl with
 |cons w1 w2 =>
  cases w2
  cases w1 with
  |list ho hall=>exact⟨_,_,ns,rfl,rfl,ho,y3 ns _ hall,hlen⟩
def NX(l:OpenLaw)(args:List WData):l.row.toRowW.claim.post args (.bool true) args=true :=
 postW_of (r:=l.row.toRowW) (X:=(true==true))
  (show WShape.has [] (.bool true) .bool=true by first | rfl | decide | simp[WShape.has,WShape.arms,WShape.armsAll])
  (show(WTm.eq .res (.lit (.bool true))).value [] { args:=args,res:=some (.bool true),after:=args }=some (.bool (true==true)) from w_eq_bool (w_res rfl) w_lit) rfl
def HI{l:OpenLaw}
  (hn:l.most=some n) (hdf:d.params.defaults=[])
  (call:∀(w:World) (s₀ s₁:Shared) (mg mb:Str->Option Value) (fa:Addr) (o:Obj) (pm cd doc:Value) (a:Addr) (vs:List Value) (ns:List Int),
   Ground q loose [] XP w s₀ mg mb s₁.heap->YP w s₁.heap ->
   s₁.heap.get? fa=some o->o.data=.func (docDef d.name d.params d.body d.scope pm cd doc)->s₁.heap.CodeRec cd d.name->mg d.name=some (.ref fa) ->
   s₁.heap.get? a=some { cls:=.type "list",data:=.seq vs.toArray }->IntsAre vs ns->ns.length<=n->s₁.gens=#[] ->
   codeAny (model l.prog w) callerA (.call (.ref fa) ⟨[.ref a],[]⟩) (λr s'=>r=.ok (.ret (.bool true))/\OldK s₁.heap s'.heap/\s'.os=s₁.os/\AllBare s'.gens) s₁) :
  WalkO q loose XP YP l.row.toRowW d [] (λf vs=>PySem.call f vs):=by
 intro w s₀ s₁ mg mb G Y fa o pm cd doc dV kV ho hd hcd hD hmg hg args vals as hpre hlay hrd hwl hlo;obtain rfl:dV=.none:=Dflts.none hD hdf;obtain rfl:kV=.none:=Dflts.noKw hD;obtain⟨a,vs,ns,rfl,rfl,hobj,hints,hlen⟩:=Q8 hn hpre hwl;refine enter_call (codeAny_mono (call w s₀ s₁ mg mb fa o pm cd doc a vs ns G Y ho (fd_plain hd) hcd hmg hobj hints hlen hg) λr s' hq=>?_);obtain⟨rfl,h2,h3,h4⟩:=hq;exact⟨.inl ⟨.bool true,.bool true,[],rfl,λ_=>rfl,.bool true,NX l _,λ_=>⟨List.Pairwise.nil,λ_ hm=>(nomatch hm)⟩⟩,h2,h3,h4⟩
end Att
namespace L2
open PySem PySem.Spec PyProof.Rows
theorem CJ:∀{vs:List Value} {ns:List Int},IntsAre vs ns->aO (ns.map V.int) vs
 |_,_,.nil=>.nil
 |_,_,.cons n t h=>.cons ⟨t,rfl⟩ (CJ h)
def R9(H:Hp):Prop:=∀b,H b=none\/∃o xs,H b=some (.frz o (.lst xs))
def TV{K:Frag}
  (KX:K.In s₁.heap) (hns:s₁.heap.Ns mainGlobals mg) (hb:s₁.heap.Ns builtinsNs mb) (hbb:∀x:Str,x≠"__name__"->mb x=bootBuiltins x) (hlim:s₁.heap.NoLimit) (hg:s₁.gens=#[])
  (ha:s₁.heap.get? a=some { cls:=.type "list",data:=.seq vs.toArray }) (hi:IntsAre vs ns) (hl:ns.length<=sizeLine) (hr:Room k callerA)
  (F:∀base:Heap,K.In base->base.Ns mainGlobals mg->FnOk P w K mg base CX k fa fd [x] sp) (hbind:∀(s:Shared) (u:Value),BindsTo s fd ⟨[u],[]⟩ [(x,u)])
  (hsp:∀H:Hp,R9 H->bU K H a (ns.map V.int)->sp [.ref a] H (λv _=>v=.bl true) λ_ _ _=>False)
  (hCX:∀H e s',CX [] H s₁ (λ_ _ _=>False) e s'->False) :
  codeAny (model P w) callerA (.call (.ref fa) ⟨[.ref a],[]⟩) (λr s'=>r=.ok (.ret (.bool true))/\OldK s₁.heap s'.heap/\s'.os=s₁.os/\AllBare s'.gens) s₁:=by
 have rv:=CJ hi;have lenV:=hi.length
 -- from an abstract heap in which nothing but the script may be tracked
 have core:∀H:Hp,R9 H->bU K H a (ns.map V.int)->gE P w H s₁.heap->(∀b,H b≠none->b=a)->(H a≠none->K.lookup a=none) ->
   codeAny (model P w) callerA (.call (.ref fa) ⟨[.ref a],[]⟩) (λr s'=>r=.ok (.ret (.bool true))/\OldK s₁.heap s'.heap/\s'.os=s₁.os/\AllBare s'.gens) s₁:=by
  intro H hO hS hok hA hK;have base_of:∀{b:Addr} {o:Obj},s₁.heap.get? b=some o->H b=none->(rH s₁.heap H).get? b=some o:=λe n=>SO e n
  have noA:∀{b:Addr} {o:Obj} {es:Array DictEntry} {ep:Nat},s₁.heap.get? b=some o->o.data=.dict es ep->H b=none:=λ{b o es ep} e d=>by
   cases q:H b with
   |none=>rfl
   |some u =>
    have e':b=a:=hA b (by rw[q];simp);subst e';rw[ha] at e;cases e;have d':Data.seq vs.toArray _=Data.dict es ep:=d;cases d'
  have nsK:∀{b:Addr} {m:Str->Option Value},s₁.heap.Ns b m->(rH s₁.heap H).Ns b m:=λ{b m} ⟨o,es,ep,e,d,r⟩=>⟨o,es,ep,base_of e (noA e d),d,r⟩
  have hKb:K.In (rH s₁.heap H):=λb o e=>base_of (KX b o e) (by
   cases q:H b with
   |none=>rfl
   |some u =>
    have e':b=a:=hA b (by rw[q];simp);subst e'
    rw[hK (by rw[q];simp)] at e;cases e)
  have hM:Mod K mg (rH s₁.heap H):=⟨hKb,nsK hns,⟨mb,nsK hb,hbb⟩,let ⟨mc,h1,h2⟩:=hlim;⟨mc,nsK h1,h2⟩⟩
  have e0:Env0 P w K mg (rH s₁.heap H) callerA [] s₁ H:=⟨rfl,hM,λb o e=>ZX e,Nat.le_of_eq (NJ _ _),trivial,λb hb=>absurd (show b∈([]:List Addr) from hb) (by simp),hok,.of_eq hg⟩
  refine codeAny_mono ((F _ hKb (nsK hns)).run callerA [] s₁ H ⟨[.ref a],[]⟩ [.ref a] [.ref a] _ _ hr e0 (hbind s₁ (.ref a)) (.cons rfl .nil) (hsp H hO hS)) λr s' h=>?_
  cases r with
  |error e=>exact(hCX H e s' h).elim
  |ok fl =>
   cases fl with
   |next=>exact False.elim h
   |brk=>exact False.elim h
   |cont=>exact False.elim h
   |ret u =>
    obtain⟨v,H',os,bare,un,hok',r',q⟩:=h;have q':v=.bl true:=q;subst q';obtain rfl:u=Value.bool true:=r';refine⟨rfl,OldK.of_keep λb o e=>?_,os,bare⟩
    cases q:H b with
    |none=>exact un.keep b o e q (by intro z;exact absurd (show b∈([]:List Addr) from z) (by simp)) (by simp)
    |some u =>
     rcases hO b with z | ⟨ob,xs,z⟩
     ·rw[q] at z;cases z
     ·have z2:=un.frzs b ob _ z;obtain⟨e1,_⟩:=hok b _ z;obtain⟨e2,_⟩:=hok' b _ z2;rw[e] at e1;cases e1;exact e2
 cases hk:K.lookup a with
 |some o =>
  -- the script is one of the module's own objects
  have e:=KX a o hk;rw[ha] at e;cases e;refine core (λ_=>none) (λ_=>.inl rfl) (.inr ⟨_,vs.toArray,_,hk,rfl,rfl,rfl,by rw[Zi,lenV];exact hl,by simpa using rv⟩) (λb u z=>by have z':(none:Option HO)=some u:=z;cases z') (λb z=>absurd rfl z) λz=>absurd rfl z
 |none =>
  refine core (λb=>if b=a then some (.frz { cls:=.type "list",data:=.seq vs.toArray } (.lst (ns.map V.int))) else none) (λb=>?_) (.inl (.inr ⟨{ cls:=.type "list",data:=.seq vs.toArray },Zo rfl⟩)) (λb u z=>?_) (λb z=>?_) λ_=>hk
  ·by_cases hb:b=a
   ·exact .inr ⟨_,_,Zo hb⟩
   ·exact .inl (Zp hb)
  ·by_cases hb:b=a
   ·have z':=(Zo hb).symm.trans z;cases z';subst hb;exact⟨ha,by rw[List.length_map];exact hl,vs,_,rv,ha⟩
   ·have z':=(Zp hb).symm.trans z;cases z'
  ·by_cases hb:b=a
   ·exact hb
   ·exact absurd (Zp hb) z
abbrev cP{K:Frag}{h:Heap}(_:K.In h):Frag:=K
def aA8{l:PySem.W.OpenLaw}{K:Params->Frag}{CX:World->ER}{sp:World->Sp}{x:Str}
  (hn:l.most=some n) (hn2:n<=sizeLine) (hdf:d.params.defaults=[]) (hr:Room k callerA)
  (hY:∀(w:World) (h:Heap),YP w h->(K w.params).In h)
  (F:∀(w:World) (mg:Str->Option Value) (fa:Addr) (h:Heap),(K w.params).In h->h.Ns mainGlobals mg->mg d.name=some (.ref fa) ->
   ∃fd:FuncData,(∀(s:Shared) (u:Value),BindsTo s fd ⟨[u],[]⟩ [(x,u)]) /\
    ∀base:Heap,(K w.params).In base->base.Ns mainGlobals mg->FnOk l.prog w (K w.params) mg base (CX w) k fa fd [x] (sp w))
  (hsp:∀(w:World) (H:Hp) (a:Addr) (ns:List Int),ns.length<=n->R9 H->bU (K w.params) H a (ns.map V.int)->sp w [.ref a] H (λv _=>v=.bl true) λ_ _ _=>False)
  (hCX:∀(w:World) (H:Hp) (s:Shared) (e:Value) (s':Shared),CX w [] H s (λ_ _ _=>False) e s'->False) :
  PySem.W.WalkO q loose XP YP l.row.toRowW d [] (λf vs=>PySem.call f vs):=by
 refine Att.HI hn hdf λw s₀ s₁ mg mb fa o pm cd doc a vs ns G Y ho hd hcd hmg hobj hints hlen hg=>?_
 have KX:=hY w _ Y;obtain⟨fd,hb,hF⟩:=F w mg fa _ KX G.T.g hmg;exact TV KX G.T.g G.T.b G.T.builtins G.T.nolimit hg hobj hints (Zr hlen hn2) hr hF hb (λH hO hS=>hsp w H a ns hlen hO hS) λH e s'=>hCX w H s₁ e s'
noncomputable def eY(s:Stmt):Arguments:=match s with
 |.FunctionDef _ a _ _ _ _ _ _ _ _=>a
 |_=>{ posonlyargs:=[],args:=[],vararg:=none,kwonlyargs:=[],kw_defaults:=[],kwarg:=none,defaults:=[] }
noncomputable def cK(s:Stmt):List Stmt:=match s with
 |.FunctionDef _ _ b _ _ _ _ _ _ _=>b
 |_=>[]
noncomputable def a6(s:Stmt):Scope:=match s with
 |.FunctionDef _ _ _ _ _ _ sc _ _ _=>sc
 |_=>{ kind:=.function,names:=[],isGenerator:=false,isCoroutine:=false }
abbrev uW:ER:=λ_ _ _ _ _ _=>False
abbrev E0:XK:=λ_ _ _=>False
def D2:n8 uW X E0:=λ_ _ _ _ _ _ _ h=>h.elim
structure Fun(K:Frag)(x qual:Str)(st:Stmt)(f:Addr)(fd:FuncData):Prop where
 ex:∃(oc:Value) (od:Option Addr) (kV doc pm:Value) (an:Option Addr) (cdv ct:Value) (osl:Array (Option Value)),
  fd=PySem.W.fnOf x qual (eY st) (cK st) (a6 st) .none kV doc pm an cdv ct/\K.lookup f=some ⟨oc,od,.func fd,osl⟩/\PySem.W.codeIn K cdv qual=true
 kp:PySem.W.keepIn K (.ref f)=true
section
variable{P:Program}{w:World}{K:Frag}{mg:Str->Option Value}{base:Heap}
def Fun.ok{st:Stmt}(F:Fun K x qual st f fd)(S:FnScope N ps (a6 st))(len:∀vs H Q E,sp vs H Q E->vs.length=ps.length)
  (hbody:∀(cdv:Value) (A:Around) (outer:List Env) (s:Shared) (H:Hp) (vs:List V) (Q:VK) (E:XK),Room k (A.deeper (envOfC qual (a6 st) s.heap.objs.size f cdv))->sp vs H Q E ->
   ∃t,gH (vB uW P w K mg base N qual (a6 st) f cdv A outer s H E).nox (cK st) t/\t { nx:=λ_ H'=>Q .non H',rt:=Q } (cY N vs) H):FnOk P w K mg base uW (k+1) f fd ps sp:=by
 obtain⟨oc,od,kV,doc,pm,an,cdv,ct,osl,rfl,lk,hcd⟩:=F.ex;refine aET lk hcd S len λA outer s H vs Q E hr hsp=>?_
 obtain⟨t,h,q⟩:=hbody cdv A outer s H vs Q E hr hsp;exact⟨t,h.nox,q⟩
def Fun.binds{st:Stmt}(F:Fun K x qual st f fd)
  (h:∀(kV doc pm:Value) (an:Option Addr) (cdv ct:Value) (us:List Value),us.length=ps.length->bindArgs (PySem.W.fnOf x qual (eY st) (cK st) (a6 st) .none kV doc pm an cdv ct) ⟨us,[]⟩=pure (ps.zip us)):iN K fd ps []:=by
 obtain⟨oc,od,kV,doc,pm,an,cdv,ct,osl,rfl,lk,hcd⟩:=F.ex;exact .all (h kV doc pm an cdv ct)
def yF{st:Stmt}{kV doc pm cdv ct:Value}(l:K.lookup f=some ⟨oc,od,.func (PySem.W.fnOf x qual (eY st) (cK st) (a6 st) .none kV doc pm an cdv ct),osl⟩)
  (c:PySem.W.codeIn K cdv qual=true) (k:PySem.W.keepIn K (.ref f)=true):Fun K x qual st f (PySem.W.fnOf x qual (eY st) (cK st) (a6 st) .none kV doc pm an cdv ct):=⟨⟨oc,od,kV,doc,pm,an,cdv,ct,osl,rfl,l,c⟩,k⟩
end
def vI{A B:Prop}(h:B):if false=true then A else B:=by
 rw[Zp Bool.false_ne_true];exact h
def uK{A B:Prop}(h:A):if true=true then A else B:=by
 rw[Zo rfl];exact h
def aV(H H':Hp):Prop:=∀b o,H b=some o->H' b=some o
def aV.refl(H:Hp):aV H H:=λ_ _ h=>h
def aV.trans(a:aV H H1)(b:aV H1 H2):aV H H2:=λc o h=>b c o (a c o h)
def aV.free(e:aV H H')(h:H' l=Option.none):H l=Option.none:=by
 cases q:H l with
 |none=>rfl
 |some o =>
  rw[e l o q] at h;cases h
def aV.seq{K:Frag}(e:aV H H')(h:bU K H a xs):bU K H' a xs:=by
 rcases h with (h | ⟨o,h⟩) | h
 ·exact .inl (.inl (e _ _ h))
 ·exact .inl (.inr ⟨o,e _ _ h⟩)
 ·exact .inr h
end L2
set_option maxHeartbeats 4000000
namespace L2
open PySem PySem.Spec PyProof.Rows
section
variable[DecidableEq J]
noncomputable def l3(kvs:List (J×V))(k:J):Option V:=(kvs.find? λkv=>decide (kv.1=k)).map (·.2)
noncomputable def MN(kvs:List (J×V))(k:J)(v:V):List (J×V) :=
 if(kvs.any λkv=>decide (kv.1=k))=true then kvs.map (λkv=>if kv.1=k then(kv.1,v) else kv) else kvs++[(k,v)]
def E6{k:J}(e:p.1=k):l3 (p::r) k=some p.2:=by simp[l3,List.find?_cons,e]
def ET{k:J}(e:¬p.1=k):l3 (p::r) k=l3 r k:=by simp[l3,List.find?_cons,e]
def lQ.isSome_eq(r:lQ o u):o.isSome=u.isSome:=by
 cases o with
 |none=>cases u with
  |none=>rfl
  |some _=>exact(show False from r).elim
 |some _=>cases u with
  |none=>exact(show False from r).elim
  |some _=>rfl
def KV.val(r:KV kvs vs)(k:J):lQ (l3 kvs k) (valueAt vs k):=by
 unfold KV at r
 induction r with
 |nil=>exact True.intro
 | @cons p q ps qs h t ih =>
  obtain⟨h1,h2⟩:=h;by_cases e:p.1=k
  ·have e':q.1=k:=h1.symm.trans e;have b:valueAt (q::qs) k=some q.2:=by simp[valueAt,List.find?_cons,e']
   rw[E6 e,b];exact h2
  ·have e':¬q.1=k:=λz=>e (h1.trans z)
   have b:valueAt (q::qs) k=valueAt qs k:=by simp[valueAt,List.find?_cons,e']
   rw[ET e,b];exact ih
theorem KV.any(r:KV kvs vs)(k:J):(kvs.any λkv=>decide (kv.1=k))=vs.any λkv=>decide (kv.1=k):=by
 unfold KV at r
 induction r with
 |nil=>rfl
 |cons h t ih=>rw[List.any_cons,List.any_cons,ih,h.1]
def KV.repl(r:KV kvs vs)(k:J)(ry:a7 y u) :
  KV (kvs.map λkv=>if kv.1=k then(kv.1,y) else kv) (vs.map λkv=>if kv.1=k then(kv.1,u) else kv):=by
 unfold KV at r ⊢
 induction r with
 |nil=>exact .nil
 | @cons p q ps qs h t ih =>
  rw[Zs,Zs];refine .cons ?_ ih;obtain⟨h1,h2⟩:=h;by_cases e:p.1=k
  ·rw[Zo e,Zo (h1.symm.trans e)];exact⟨h1,ry⟩
  ·rw[Zp e,Zp (λz=>e (h1.trans z))];exact⟨h1,h2⟩
def KV.put(r:KV kvs vs)(k:J)(ry:a7 y u):KV (MN kvs k y) (stored vs k u):=by
 unfold MN stored;rw[r.any k];by_cases e:(vs.any λkv=>decide (kv.1=k))=true
 ·rw[Zo e,Zo e];exact r.repl k ry
 ·rw[Zp e,Zp e];exact Paired.snoc r ⟨rfl,ry⟩
theorem KV.length(r:KV kvs vs):kvs.length=vs.length:=Paired.length r
end
def LK(r:a7 (kV k) u):(eL P w).is k u=true:=by
 cases k with
 |inl i=>obtain⟨t,e⟩:=(show ∃t,u=Value.int i t from r);subst e;exact HP P w i t
 |inr x=>obtain⟨t,e⟩:=(show ∃t,u=Value.str x t from r);subst e;exact IQ P w x t
section
variable{a:Addr}
def aFY(ok:gE P w H h)(e:Rd H a u):cT P w H h a u:=e.ok ok
def MX(ok:gE P w H h)(e:Rd H a (.dK kvs)):kvs.length<=sizeLine/\(a==sysModules)=false/\∃vs,KV kvs vs/\h.DictOf (eL P w) a vs :=
 show cT P w H h a (.dK kvs) from aFY ok e
end
def uC(H:Hp)(a:Addr)(y:V)(r:Option V):Prop :=
 (∃kvs k,Rd H a (.dK kvs)/\y=kV k/\r=l3 kvs k)\/False
def aB4(H:Hp)(a:Addr)(y v:V)(H':Hp):Prop :=
 (∃kvs k,H a=some (.dK kvs)/\y=kV k/\kvs.length<sizeLine/\H'=aP H a (.dK (MN kvs k v)))\/False
theorem uC.k{k:kT}(e:H a=some (.dK kvs)):uC H a (kV k) (l3 kvs k):=.inl ⟨kvs,k,.inl e,rfl,rfl⟩
theorem aB4.k{k:kT}(e:H a=some (.dK kvs))(hl:kvs.length<sizeLine):aB4 H a (kV k) v (aP H a (.dK (MN kvs k v))):=.inl ⟨kvs,k,e,rfl,hl,rfl⟩
section
variable{E:Value->Shared->Prop}
def Inv.big(I:Inv X pins Y H s):sysModules<s.heap.objs.size:=by
 have h:mainGlobals<s.heap.objs.size:=(I.mod.glob.keeps I.bk).lt;exact Nat.lt_trans (by decide) h
def NB(hu:A.units+1<cLine)(I:Inv X pins Y H s)(g:uC H a y (some v))(ry:a7 y u)(h:∀w' s',Inv X pins Y H s'->a7 v w'->Q w' s') :
  wpAny (model X.prog X.w) A (getItem (.ref a) u) Q E s:=by
 rcases g with ⟨kvs,k,e,ey,l⟩ | g
 ·subst ey;obtain⟨z,hd,vs,rel,dd⟩:=MX I.hok e;obtain⟨w',hw,rw'⟩:=lQ.some_of (v:=v) (o:=valueAt vs k) (by rw[l];exact rel.val k);exact wpAny_getItem_of (LK ry) dd.mapOf hw (h w' _ (I.tok _) rw')
 ·exact g.elim
def aHn(hu:A.units+1<cLine)(I:Inv X pins Y H s)(g:uC H a y o)(ry:a7 y u)(h:∀s',Inv X pins Y H s'->Q (.bool o.isSome) s') :
  wpAny (model X.prog X.w) A (compareOp .In u (.ref a)) Q E s:=by
 rcases g with ⟨kvs,k,e,ey,l⟩ | g
 ·subst ey;obtain⟨z,hd,vs,rel,dd⟩:=MX I.hok e;refine wpAny_in_of (LK ry) hd dd.mapOf ?_;rw[<- (rel.val k).isSome_eq,<- l];exact h _ (I.tok _)
 ·exact g.elim
def JZ(I:Inv X pins Y H s)(mu:O9 (H a))(hs:Heap.SameBut a s.heap h')(he:∃q,h'.get? a=some q)(new:cT X.prog X.w (aP H a ob) h' a ob) :
  Inv X pins Y (aP H a ob) { s with heap:=h',toks:=t' } :=
 I.write (x:=a) (e:=a) mu (.inl rfl) (λb q hb z=>(hs.2 b hb).trans z) he new
def aBz(z:kvs.length<=sizeLine)(hd:(a==sysModules)=false)(rel:KV kvs vs)(dd:h'.DictOf (eL P w) a vs) :
  cT P w H' h' a (.dK kvs):=⟨z,hd,vs,rel,dd⟩
end
def IE(I:Inv X pins Y H s)(g:uC H a y o):s.TypeIs (.ref a) "dict":=by
 rcases g with ⟨kvs,k,e,_,_⟩ | g
 ·obtain⟨_,_,vs,_,dd⟩:=MX I.hok e;exact dd.typeIs
 ·exact g.elim
abbrev dX:=Int×List Int
section
variable{h:Heap}
def eC(P:Program)(w:World)(h:Heap)(k:dX)(a:Addr):Prop:=∃(t:Tok) (b:Addr),IsTup h a #[.int k.1 t,.ref b]/\IsTupleKey (intKind P w) h k.2 b
noncomputable def uD(P:Program)(w:World)(k:dX):Int:=reduceHash (Builtin.Tuple.tupleHashOf [hashInt k.1,tupleKeyHash (intKind P w) k.2])
theorem eC.inj(hx:eC P w h x a)(hy:eC P w h y a):x=y:=by
 obtain⟨t,b,⟨o,e,_,n,d⟩,kx⟩:=hx;obtain⟨t',b',⟨o',e',_,n',d'⟩,ky⟩:=hy;rw[e] at e';cases e';rw[d] at d';have z:=(Data.seq.inj d').1;have z1:Value.int x.1 t=Value.int y.1 t':=congrArg (λ(q:Array Value)=>q.getD 0 .none) z;have z2:Value.ref b=Value.ref b':=congrArg (λ(q:Array Value)=>q.getD 1 .none) z;cases z2;exact Prod.ext (Value.int.inj z1).1 ((tupleKind (intKind P w)).inj kx ky)
theorem eC.keeps(hk:eC P w h k a)(e:h.get? d=some o)(ed:o.data=.dict es ep)(sb:Heap.SameBut d h h'):eC P w h' k a:=by
 obtain⟨t,b,⟨o',e',c,n,d'⟩,kb⟩:=hk
 have ne:a≠d:=λz=>by(subst z;rw[e'] at e;cases e;rw[d'] at ed;cases ed)
 exact⟨t,b,⟨o',(sb.2 a ne).trans e',c,n,d'⟩,(tupleKind (intKind P w)).keeps kb e ed sb⟩
noncomputable def mO(k:dX):PyData:=.tuple [.int k.1,.tuple (k.2.map .int)]
theorem wN:∀{ns:List Int} {us:List Value},PySem.ItemsAre (intKind P w) ns us->∃as,ReadsAll h us (ns.map .int) as
 |_,_,.nil=>⟨_,.nil⟩
 |_,_,.cons hk t=>by(obtain⟨as,r⟩:=wN t;obtain⟨tk,rfl⟩:=Value.isInt_shape hk;exact⟨_,.cons (.int _ _) r⟩)
def eC.reads(hk:eC P w h k a):∃as,Reads h (.ref a) (mO k) as:=by
 obtain⟨t,b,⟨o,e,c,n,d⟩,o2,its,n2,e2,c2,d2,i2⟩:=hk;obtain⟨as,r⟩:=wN i2;exact⟨_,.tuple e c d (.cons (.int _ _) (.cons (.tuple e2 c2 d2 r) .nil))⟩
def aDR{ns:List Int}:PyData.canLayAll0 (ns.map .int)=true:=by
 induction ns with
 |nil=>simp[PyData.canLayAll0]
 |cons n ns ih=>simp[PyData.canLayAll0,PyData.canLay0,ih]
def JQ{k:dX}:(mO k).canLay0=true:=by simp[mO,PyData.canLay0,PyData.canLayAll0,aDR]
def SG{ns:List Int}:PyData.depthAll (ns.map .int)<=1:=by
 induction ns with
 |nil=>simp[PyData.depthAll]
 |cons n ns ih=>simp[PyData.depthAll,PyData.depth];omega
def uO{k:dX}:(mO k).depth<=5:=by
 have:=SG (ns:=k.2)
 simp[mO,PyData.depth,PyData.depthAll];omega
theorem O8:∀{ns ms:List Int},PyData.eqvAll (ns.map .int) (ms.map .int)=decide (ns=ms)
 |[],[]=>by simp[PyData.eqvAll]
 |[],_::_=>by simp[PyData.eqvAll]
 |_::_,[]=>by simp[PyData.eqvAll]
 |n::ns,m::ms=>by(rw[Zs,Zs,PyData.eqvAll,O8];simp only[PyData.eqv,List.cons.injEq,Bool.decide_and];congr 1)
def AB:(mO x).eqv (mO y)=decide (x=y):=by
 obtain⟨a,as⟩:=x;obtain⟨b,bs⟩:=y;simp only[mO,PyData.eqv,PyData.eqvAll,O8,Bool.and_true,Prod.mk.injEq,Bool.decide_and];congr 1
def aBi(hs:a=b->c=true)(r:SeqAt.RcAt A s (.ref a) (.ref b) c)(q:Q c s):wpAny (model P w) A (eqBool (.ref a) (.ref b)) Q E s:=by
 unfold eqBool;refine wpAny_holding ?_;by_cases e:a=b
 ·subst e;rw[Zo (by simp)];rw[hs rfl] at q;exact Zt (wpAny_rule (Zu q))
 ·rw[Zp (by simpa using e)];exact Zt (r P w E _ (wpAny_truthy_bool q))
theorem eC.pyHash(hu:A.units+8<cLine)(hk:eC P w s.heap k a)(q:Q (uD P w k) { s with toks:=s.toks+(k.2.length+3) }):wpAny (model P w) A (pyHash (.ref a)) Q E s:=by
 obtain⟨t,b,ht,kb⟩:=hk;show wpAny _ _ (pyHashByItsType (.ref a)) _ _ s;refine W.pyHash_slot ht.typeIs F.slot_tuple_hash F.entry_tuple_hash (F.args_tuple_hash_1 _) rfl (.inr (by omega)) ?_;unfold Builtin.«tuple.__hash__»;show wpAny _ _ (Builtin.Tuple.tupleItemsOf (.ref a)>>=_) _ _ s;refine Zt (tupleItemsOf_ ht ?_);rw[<- Array.forIn_toList];simp only[List.forIn_cons,List.forIn_nil,bind_assoc,pure_bind];refine Zt (wpAny_pyHash_int ?_);refine Zt (wpAny_pyHash_tuple (knd:=intKind P w) (by show A.units+1<cLine;omega) kb ?_);refine Zt (wpAny_mkInt (Zu ⟨_,_,rfl, ?_⟩));have e:s.toks+1+(k.2.length+1)+1=s.toks+(k.2.length+3):=by omega
 show Q (uD P w k) { s with toks:=s.toks+1+(k.2.length+1)+1 };rw[e];exact q
def vC(ht:IsTup s.heap a its)(hi:∀v∈its.toList,∀(R:Bool->Shared->Prop),R true s->wpAny (model P w) A (eqIsQuiet d v) R E s)(q:Q true s):wpAny (model P w) A (eqIsQuiet (d+1) (.ref a)) Q E s:=by
 unfold eqIsQuiet;refine Zt (wpAny_specialOf ht.typeIs (PyProof.Rows.slot_tuple_eq.lookup) ?_);obtain⟨o,e,c,n,dd⟩:=id ht;show wpAny _ _ (isInstance (.ref a) (.type "tuple")>>=_) _ _ s;refine Zt (wpAny_isInstance ht.typeIs (by with_unfolding_all rfl) ?_);show wpAny _ _ (seqItems? (.ref a)>>=_) _ _ s;refine Zt (wpAny_seqItems e dd ?_)
 have key:∀{k:Option Bool×Unit->Sem Bool},wpAny (model P w) A (k (none,())) Q E s->∀xs:List Value,(∀v∈xs,v∈its.toList)->wpAny (model P w) A (forIn xs ((none:Option Bool),()) (λy _=>do
    let v <- eqIsQuiet d y
    if(!v)=true then pure (ForInStep.done (some false,())) else pure (ForInStep.yield (none,())))>>=k) Q E s:=by
  intro k hk xs
  induction xs with
  |nil=>intro _;exact Zt (Zu hk)
  |cons x xs ih =>
   intro hm;have ih:=ih λv hv=>hm v (Ze _ hv)
   simp only[List.forIn_cons,bind_assoc] at ih ⊢;refine Zt (hi x (hm x zh) _ ?_);simp only[Bool.not_true,Bool.false_eq_true,if_false,pure_bind];exact ih
 show wpAny _ _ (forIn its _ _>>=_) _ _ s;rw[<- Array.forIn_toList];exact key (Zu q) its.toList λ_ h=>h
def BX(q:Q true s):wpAny (model P w) A (eqIsQuiet d (.int i t)) Q E s:=by
 unfold eqIsQuiet;exact Zu q
theorem JT:∀{ns:List Int} {us:List Value},PySem.ItemsAre (intKind P w) ns us->∀v∈us,∃i t,v=.int i t
 |_,_,.nil=>λ_ h=>nomatch h
 |_,_,.cons hk r=>λv hv=>by
  rcases List.mem_cons.mp hv with rfl | hv
  ·obtain⟨t,e⟩:=Value.isInt_shape hk;exact⟨_,t,e⟩
  ·exact JT r v hv
def eC.quiet(hk:eC P w s.heap k a)(q:Q true s):wpAny (model P w) A (eqIsQuiet (d+2) (.ref a)) Q E s:=by
 obtain⟨t,b,ht,o2,its,n2,e2,c2,d2,i2⟩:=hk;refine vC (d:=d+1) ht (λv hv R hR=>?_) q;rcases List.mem_cons.mp (show v∈[Value.int k.1 t,Value.ref b] from hv) with rfl | hv
 ·exact BX hR
 ·rw[ze.mp hv];refine vC ⟨o2,e2,c2,n2,d2⟩ (λv hv R hR=>?_) hR;obtain⟨i,t,rfl⟩:=JT i2 v hv;exact BX hR
abbrev bO:=dX ⊕ dX×dX
def EA(P:Program)(w:World)(h:Heap)(k:dX×dX)(a:Addr):Prop:=∃b c,IsTup h a #[.ref b,.ref c]/\eC P w h k.1 b/\eC P w h k.2 c
def fK(P:Program)(w:World)(h:Heap):bO->Addr->Prop:=Sum.elim (eC P w h) (EA P w h)
noncomputable def GL(P:Program)(w:World)(k:dX×dX):Int:=reduceHash (Builtin.Tuple.tupleHashOf [uD P w k.1,uD P w k.2])
noncomputable def F2(P:Program)(w:World):bO->Int:=Sum.elim (uD P w) (GL P w)
def EY(hx:IsTup h a x)(hy:IsTup h a y):x=y:=by
 obtain⟨o,e,_,n,d⟩:=hx;obtain⟨o',e',_,n',d'⟩:=hy;rw[e] at e';cases e';rw[d] at d';exact(Data.seq.inj d').1
def W0(hx:EA P w h x a)(hy:eC P w h y a):False:=by
 obtain⟨b,c,e,_⟩:=hx;obtain⟨t,b',e',_⟩:=hy
 exact nomatch (show Value.ref b=Value.int y.1 t from congrArg (λ(q:Array Value)=>q.getD 0 .none) (EY e e'))
theorem fK.inj:∀{x y:bO},fK P w h x a->fK P w h y a->x=y
 |.inl _,.inl _,hx,hy=>congrArg Sum.inl (eC.inj hx hy)
 |.inl _,.inr _,hx,hy=>(W0 hy hx).elim
 |.inr _,.inl _,hx,hy=>(W0 hx hy).elim
 |.inr x,.inr y,hx,hy=>by(obtain⟨b,c,e,h1,h2⟩:=hx;obtain⟨b',c',e',h1',h2'⟩:=hy;have z:=EY e e';cases (show Value.ref b=Value.ref b' from congrArg (λ(q:Array Value)=>q.getD 0 .none) z);cases (show Value.ref c=Value.ref c' from congrArg (λ(q:Array Value)=>q.getD 1 .none) z);exact congrArg Sum.inr (Prod.ext (h1.inj h1') (h2.inj h2')))
theorem fK.keeps:∀{k:bO},fK P w h k a->h.get? d=some o->o.data=.dict es ep->Heap.SameBut d h h'->fK P w h' k a
 |.inl _,hk,e,ed,sb=>eC.keeps hk e ed sb
 |.inr k,hk,e,ed,sb=>by
  obtain⟨b,c,⟨o',e',cl,n,d'⟩,h1,h2⟩:=hk
  have ne:a≠d:=λz=>by(subst z;rw[e'] at e;cases e;rw[d'] at ed;cases ed)
  exact⟨b,c,⟨o',(sb.2 a ne).trans e',cl,n,d'⟩,h1.keeps e ed sb,h2.keeps e ed sb⟩
noncomputable def vG:bO->PyData:=Sum.elim mO λk=>.tuple [mO k.1,mO k.2]
theorem fK.reads:∀{k:bO},fK P w h k a->∃as,Reads h (.ref a) (vG k) as
 |.inl _,hk=>eC.reads hk
 |.inr k,hk=>by(obtain⟨b,c,⟨o,e,cl,n,d⟩,h1,h2⟩:=hk;obtain⟨as,r1⟩:=h1.reads;obtain⟨bs,r2⟩:=h2.reads;exact⟨_,.tuple e cl d (.cons r1 (.cons r2 .nil))⟩)
theorem I0:∀{k:bO},(vG k).canLay0=true
 |.inl _=>JQ
 |.inr _=>by simp[vG,PyData.canLay0,PyData.canLayAll0,JQ]
theorem P6:∀{k:bO},(vG k).depth<=6
 |.inl k=>Zr (uO) (by decide)
 |.inr k=>by(have h1:=uO (k:=k.1);have h2:=uO (k:=k.2);simp only[vG,Sum.elim_inr,PyData.depth,PyData.depthAll];omega)
theorem Z8:∀{x y:bO},(vG x).eqv (vG y)=decide (x=y)
 |.inl x,.inl y=>by rw[show(vG (.inl x)).eqv (vG (.inl y))=decide (x=y) from AB];simp
 |.inl x,.inr y=>by simp[vG,mO,PyData.eqv,PyData.eqvAll]
 |.inr x,.inl y=>by simp[vG,mO,PyData.eqv,PyData.eqvAll]
 |.inr (x,x'),.inr (y,y')=>by(show(PyData.tuple [mO x,mO x']).eqv (.tuple [mO y,mO y'])=_;rw[PyData.eqv,PyData.eqvAll,PyData.eqvAll,PyData.eqvAll,AB,AB];simp)
theorem fK.eqBool(hu:A.units+10<cLine)(hx:fK P w s.heap x a)(hy:fK P w s.heap y b)(q:Q (decide (x=y)) s):wpAny (model P w) A (eqBool (.ref a) (.ref b)) Q E s:=by
 obtain⟨as,r1⟩:=hx.reads;obtain⟨bs,r2⟩:=hy.reads;have d1:=P6 (k:=x);refine aBi (λe=>Zn (by subst e;exact hx.inj hy)) ?_ q;rw[<- Z8];exact SeqAt.rcAt_reads r1 r2 I0 I0 (by omega)
noncomputable def drG:bO->Nat:=Sum.elim (λk=>k.2.length+3) λk=>k.1.2.length+3+(k.2.2.length+3)+1
theorem EA.pyHash(hu:A.units+10<cLine)(hk:EA P w s.heap k a)(q:Q (GL P w k) { s with toks:=s.toks+(k.1.2.length+3+(k.2.2.length+3)+1) }):wpAny (model P w) A (pyHash (.ref a)) Q E s:=by
 obtain⟨b,c,ht,h1,h2⟩:=hk;show wpAny _ _ (pyHashByItsType (.ref a)) _ _ s;refine W.pyHash_slot ht.typeIs F.slot_tuple_hash F.entry_tuple_hash (F.args_tuple_hash_1 _) rfl (.inr (by omega)) ?_;unfold Builtin.«tuple.__hash__»;show wpAny _ _ (Builtin.Tuple.tupleItemsOf (.ref a)>>=_) _ _ s;refine Zt (tupleItemsOf_ ht ?_);rw[<- Array.forIn_toList];simp only[List.forIn_cons,List.forIn_nil,bind_assoc,pure_bind];refine Zt (eC.pyHash (k:=k.1) (by show A.units+1+8<cLine;omega) h1 ?_);refine Zt (eC.pyHash (k:=k.2) (by show A.units+1+8<cLine;omega) h2 ?_);refine Zt (wpAny_mkInt (Zu ⟨_,_,rfl, ?_⟩));have e:s.toks+(k.1.2.length+3)+(k.2.2.length+3)+1=s.toks+(k.1.2.length+3+(k.2.2.length+3)+1):=by omega
 show Q (GL P w k) { s with toks:=s.toks+(k.1.2.length+3)+(k.2.2.length+3)+1 };rw[e];exact q
theorem fK.pyHash(hu:A.units+10<cLine)(hk:fK P w s.heap k a)(q:Q (F2 P w k) { s with toks:=s.toks+drG k }):wpAny (model P w) A (pyHash (.ref a)) Q E s:=by
 unfold fK at hk;unfold F2 drG at q
 cases k with
 |inl k =>
  rw[Sum.elim_inl] at hk q;rw[Sum.elim_inl] at q;exact eC.pyHash (by omega) hk q
 |inr k =>
  rw[Sum.elim_inr] at hk q;rw[Sum.elim_inr] at q;exact EA.pyHash hu hk q
theorem fK.quiet:∀{k:bO},fK P w s.heap k a->Q true s->wpAny (model P w) A (eqIsQuiet 8 (.ref a)) Q E s
 |.inl _,hk,q=>eC.quiet (d:=6) hk q
 |.inr k,hk,q=>by
  obtain⟨b,c,ht,h1,h2⟩:=hk;refine vC (d:=7) ht (λv hv R hR=>?_) q;rcases List.mem_cons.mp (show v∈[Value.ref b,Value.ref c] from hv) with rfl | hv
  ·exact eC.quiet (d:=5) h1 hR
  ·rw[ze.mp hv];exact eC.quiet (d:=5) h2 hR
end
noncomputable def kQ(P:Program)(w:World):HeapKind P w bO where
 is:=fK P w
 hash:=F2 P w
 draws:=drG
 room:=λA=>A.units+10<cLine
 inj:=fK.inj
 keeps:=fK.keeps
 pyHash:=λhu hk q=>fK.pyHash hu hk q
 eqBool:=λhu hx hy q=>fK.eqBool hu hx hy q
 quiet:=λhk q=>fK.quiet hk q
abbrev sX:=List (bO×Addr×Value)
noncomputable def hS1(k:dX):Int:=reduceHash (Builtin.Tuple.tupleHashOf [hashInt k.1,reduceHash (Builtin.Tuple.tupleHashOf (k.2.map hashInt))])
noncomputable def hS:bO->Int:=Sum.elim hS1 λk=>reduceHash (Builtin.Tuple.tupleHashOf [hS1 k.1,hS1 k.2])
noncomputable def aEy(x:bO×Addr×Value):DictEntry:={ hash:=hS x.1,key:=.ref x.2.1,val:=x.2.2 }
def cJ(a:Addr)(xs:sX)(ep:Nat)(h:Heap):Prop:=∃o es,h.get? a=some o/\o.ExactDict/\o.data=.dict es ep/\es.toList=xs.map aEy
def W3(H:Hp)(a:Addr)(xs:sX):Prop:=∃ep,H a=some (.ext (cJ a xs ep))
def lC(K:Frag)(H:Hp)(k:dX)(b:Addr):Prop:=∃c,dE K H b [.int k.1,.ref c]/\dE K H c (k.2.map V.int)
def aHr(K:Frag)(H:Hp)(k:dX×dX)(b:Addr):Prop:=∃c d,dE K H b [.ref c,.ref d]/\lC K H k.1 c/\lC K H k.2 d
def bR(K:Frag)(H:Hp):bO->Addr->Prop:=Sum.elim (lC K H) (aHr K H)
structure DS(K:Frag)(H:Hp)(a:Addr)(xs:sX):Prop where
 at_:W3 H a xs
 nd:(xs.map (·.1)).Nodup
 len:xs.length<=sizeLine
 sm:(a==sysModules)=false
 keys:∀x∈xs,bR K H x.1 x.2.1
section
variable{k:bO}
def lC.is{k:dX}(I:Inv X pins Y H s)(e:lC X.K H k b):eC X.prog X.w s.heap k b:=by
 obtain⟨c,e1,e2⟩:=e;obtain⟨its,r,ht,_⟩:=I.tuple e1;obtain⟨its2,r2,⟨o,h1,h2,n,h3⟩,_⟩:=I.tuple e2;obtain⟨u,v,rfl,ru,rv⟩:=wC r;obtain⟨t,rfl⟩:=ru;cases rv;refine⟨t,c,ht,o,its2.toArray,n,h1,h2,h3, ?_⟩
 have key:∀{ns:List Int} {us:List Value},aO (ns.map V.int) us->PySem.ItemsAre (intKind X.prog X.w) ns us:=by
  intro ns
  induction ns with
  |nil=>intro us q;cases q;exact .nil
  |cons n ns ih =>
   intro us q;rw[Zs] at q
   cases q with
   |cons q1 q2 =>
    obtain⟨t,rfl⟩:=q1;exact .cons (by show Value.isInt n (.int n t)=true;simp[Value.isInt]) (ih q2)
 simpa using key r2
theorem bR.is(I:Inv X pins Y H s):∀{k:bO},bR X.K H k b->(kQ X.prog X.w).is s.heap k b
 |.inl _,e=>lC.is I e
 |.inr k,e=>by(obtain⟨c,d,e1,e2,e3⟩:=e;obtain⟨its,r,ht,_⟩:=I.tuple e1;obtain⟨u,v,rfl,ru,rv⟩:=wC r;cases ru;cases rv;exact⟨c,d,ht,e2.is I,e3.is I⟩)
theorem OL:entryOfKey (kQ P w)=aEy:=rfl
def DS.dict(I:Inv X pins Y H s)(d:DS X.K H a xs):s.heap.DictOfH (kQ X.prog X.w) a xs:=by
 obtain⟨ep,e⟩:=d.at_;obtain⟨⟨o,es,h1,h2,h3,h4⟩,_⟩:=(show cT X.prog X.w H s.heap a (.ext (cJ a xs ep)) from I.hok a _ e)
 exact⟨o,es,ep,h1,h2,h3,by rw[OL];exact h4,λx hx=>(d.keys x hx).is I,d.nd⟩
def cJ.stay(r:cJ a xs ep h1)(k:∀o,h1.get? a=some o->h2.get? a=some o):cJ a xs ep h2:=by
 obtain⟨o,es,e,r⟩:=r;exact⟨o,es,k o e,r⟩
def cJ.ok(d:h.DictOfH (kQ P w) a xs):∃ep,∀H:Hp,cT P w H h a (.ext (cJ a xs ep)):=by
 obtain⟨o,es,ep,h1,h2,h3,h4,_⟩:=d;exact⟨ep,λ_=>⟨⟨o,es,h1,h2,h3,by rw[<- OL];exact h4⟩,⟨o,h1⟩,λ_ _ r k=>r.stay k⟩⟩
def HV:(storedH xs k b v).length<=xs.length+1:=by unfold storedH;split<;>simp
def GI{K:Frag}(h:∀x∈xs,bR K H x.1 x.2.1)(hk:bR K H k b):∀x∈storedH xs k b v,bR K H x.1 x.2.1:=by
 unfold storedH;split
 ·intro x hx;obtain⟨y,hy,rfl⟩:=zl.mp hx;unfold putAt;split
  ·exact h y hy
  ·exact h y hy
 ·intro x hx;rcases zo.mp hx with hx | hx
  ·exact h x hx
  ·rw[ze.mp hx];exact hk
def Q9(hu:A.units+11<cLine)(I:Inv X pins Y H s)(d:DS X.K H a xs)(hk:bR X.K H k b)(e:atKey xs k=some p)(h:∀s',Inv X pins Y H s'->Q p.2 s'):wpAny (model X.prog X.w) A (getItem (.ref a) (.ref b)) Q E s :=
 wpAny_getItem_heap (show A.units+1+10<cLine by omega) (hk.is I) (d.dict I) e (h _ (I.tok _))
def aHA(hu:A.units+11<cLine)(I:Inv X pins Y H s)(d:DS X.K H a xs)(hk:bR X.K H k b)(h:∀s',Inv X pins Y H s'->Q (.bool (atKey xs k).isSome) s'):wpAny (model X.prog X.w) A (compareOp .In (.ref b) (.ref a)) Q E s :=
 wpAny_in_heap (show A.units+1+10<cLine by omega) (hk.is I) d.sm (d.dict I) (h _ (I.tok _))
def aA9(hu:A.units+11<cLine)(I:Inv X pins Y H s)(d:DS X.K H a xs)(hk:bR X.K H k b)(h:∀s',Inv X pins Y H s'->Q (.bool !(atKey xs k).isSome) s'):wpAny (model X.prog X.w) A (compareOp .NotIn (.ref b) (.ref a)) Q E s :=
 wpAny_notIn_heap (show A.units+1+10<cLine by omega) (hk.is I) d.sm (d.dict I) (h _ (I.tok _))
def aFa{h:Heap}(d:h.DictOfH (kQ P w) a xs):(xs.map (·.1)).Nodup:=by
 obtain⟨_,_,_,_,_,_,_,_,nd⟩:=d;exact nd
def M9(hu:A.units+11<cLine)(I:Inv X pins Y H s)(d:DS X.K H a xs)(hk:bR X.K H k b)(hl:xs.length<sizeLine)
  (h:∀ep s',Inv X pins Y (aP H a (.ext (cJ a (storedH xs k b v) ep))) s'->((storedH xs k b v).map (·.1)).Nodup->Q () s'):wpAny (model X.prog X.w) A (setItem (.ref a) (.ref b) v) Q E s :=
 wpAny_setItem_heap (show A.units+1+10<cLine by omega) (hk.is I) (d.dict I) (λh' dd hs=>let ⟨_,e⟩:=d.at_;let ⟨_,w⟩:=cJ.ok dd;h _ _ (JZ I (by rw[e];exact True.intro) hs (let ⟨o,_,_,e,_⟩:=dd;⟨o,e⟩) (w _)) (aFa dd)) (Nat.le_of_lt hl)
def KA(h:Heap):cT P w H (h.push { cls:=.type "dict",data:=.dict #[] }) h.objs.size (.ext (cJ h.objs.size [] 0)) :=
 ⟨⟨_,#[],Zw _ rfl,⟨rfl,rfl,rfl⟩,rfl,rfl⟩,⟨_,Zw _ rfl⟩,λ_ _ r k=>r.stay k⟩
def RS:PE X (.Dict [] [] pos) (λ_ H Q=>∀p,H p=none->(p==sysModules)=false->Q (.ref p) (aP H p (.ext (cJ p [] 0)))):=λpins s Y H Q I q =>
 wpAny_Dict_empty ⟨.ref s.heap.objs.size,_,I.laid (a:=s.heap.objs.size) (o:=.ext (cJ s.heap.objs.size [] 0)) (t':=s.toks) (λ_ _ q=>Zd _ q) (Zq _) (KA s.heap),rfl,q _ (I.hok.fresh (Zq _)) (beq_eq_false_iff_ne.mpr (Ne.symm (Zz I.big)))⟩
noncomputable def aCG(K:Frag)(tk tv:TE):TE:=λY H Q=>∀p,H p=none->(p==sysModules)=false->tk Y (aP H p (.ext (cJ p [] 0))) λx H1=>tv Y H1 λy H2=>H2 p=some (.ext (cJ p [] 0))/\∃k b,x=.ref b/\bR K H2 k b/\∀v,a7 y v->∀ep,Q (.ref p) (aP H2 p (.ext (cJ p [(k,b,v)] ep)))
def RA(hu:X.A.units+11<cLine)(hk:PE X ke tk)(hv:PE X ve tv):PE X (.Dict [some ke] [ve] pos) (aCG X.K tk tv):=by
 intro pins s Y H Q I q;have hn:=I.hok.fresh (Zq s.heap.objs.size);have sm:(s.heap.objs.size==sysModules)=false:=beq_eq_false_iff_ne.mpr (Ne.symm (Zz I.big));have I1:=I.laid (a:=s.heap.objs.size) (o:=.ext (cJ s.heap.objs.size [] 0)) (h':=s.heap.push { cls:=.type "dict",data:=.dict #[] }) (t':=s.toks) (λ_ _ q=>Zd _ q) (Zq _) (KA s.heap);refine wpAny_Dict_any rfl rfl (by simp) (by simp) (pairTrees_cons_walk (bG (hk pins _ Y _ _ I1 (q _ hn sm)) λu s1 ⟨x,H1,I2,rx,q1⟩=>bG (hv pins s1 Y H1 _ I2 q1) λw2 s2 ⟨y,H2,I3,ry,q2⟩=>pairTrees_nil_walk ?_));obtain⟨e,k,b,rfl,kk,q3⟩:=q2;cases rx;have d:DS X.K H2 s.heap.objs.size []:=⟨⟨_,e⟩,by simp,by simp,sm,λx hx=>nomatch hx⟩
 unfold storeAll;simp only[List.forIn_cons,List.forIn_nil,bind_assoc,pure_bind];refine Zt (wpAny_dictSet_heap (knd:=kQ X.prog X.w) (show X.A.units+10<cLine by omega) (kk.is I3) (d.dict I3) (λh' dd hs=>let ⟨_,w⟩:=cJ.ok dd;Zu ⟨.ref s.heap.objs.size,_,JZ I3 (by rw[e];exact True.intro) hs (let ⟨o,_,_,e,_⟩:=dd;⟨o,e⟩) (w _),rfl,q3 _ ry _⟩) (by simp))
end
section
variable{s:Shared}
def cJ.typeIs(h:cJ a xs ep s.heap):s.TypeIs (.ref a) "dict":=let ⟨o,_,h1,h2,_⟩:=h;⟨o,h1,h2.1⟩
def CN(hd:(a==sysModules)=false)(hm:cJ a xs ep s.heap)(hQ:Q (.ref s.heap.objs.size) { s with heap:=s.heap.push { cls:=.type "dict_keyiterator",data:=.fields #[.ref a,.int 0 0,.int xs.length 0,.int ep 0] } }):wpAny (model prog w) A (pyIter (.ref a)) Q E s:=by
 obtain⟨o,es,ho,hc,hdat,hp⟩:=id hm;have hT:s.TypeIs (.ref a) "dict":=hm.typeIs;refine wpAny_pyIter_slot hT F.slot_dict_iter (wpAny_call_entry F.slot_dict_iter hT F.entry_dict_iter ?_ (F.args_dict_iter_1 _));unfold Builtin.«dict.__iter__»;refine Zt ?_;unfold Builtin.Dict.dictSlotNone;refine Zt (wpAny_notOrdered_dict hT ?_);show wpAny _ _ (pure (Value.ref a)) _ _ s;refine Zu ?_;show wpAny _ _ (Builtin.Dict.showsAll a>>=_) _ _ s;unfold Builtin.Dict.showsAll;rw[Zp (by rw[hd];exact Bool.false_ne_true)];refine Zt (Zu (Zt (wpAny_dictEntries ho hdat (Zt (wpAny_dictEpoch ho hdat ?_)))));have hsz:es.size=xs.length:=by rw[<- Array.length_toList,hp,List.length_map]
 refine Zt (wpAny_newObj_type (Zu ⟨_,rfl,"dict_keyiterator",_,⟨_,Zw _ rfl,rfl⟩,F.slot_dict_keyiterator_next.lookup, ?_⟩));simpa[rawInt,hsz] using hQ
def rB(hh:A.handled=none)(hit:s.heap.IsKeyIter it a i xs.length ep)(hm:cJ a xs ep s.heap)
  (h1:∀x h',xs[i]?=some x->h'.IsKeyIter it a (i+1) xs.length ep->Heap.SameBut it s.heap h'->Q (some (.ref x.2.1)) { s with heap:=h' })
  (h2:∀h',xs.length<=i->Heap.ExtBut it s.heap h'->Q none { s with heap:=h' }):wpAny (model prog w) A (pyNext (.ref it)) Q E s:=by
 obtain⟨o,ho,hc,hd⟩:=id hit;obtain⟨od,es,hod,hcd,hdd,hp⟩:=id hm;have hsz:es.size=xs.length:=by rw[<- Array.length_toList,hp,List.length_map]
 unfold pyNext
 refine Zt (wpAny_attempt (wpAny_callSpecial?_slot (name:=Str.ofString "__next__") hit.typeIs F.slot_dict_keyiterator_next
  (wpAny_call_entry F.slot_dict_keyiterator_next hit.typeIs F.entry_dict_keyiterator_next ?_ (F.args_dict_keyiterator_next_1 _))))
 refine Zt (Zu (Zt (Zt ?_)))
 first | refine Zt (wpAny_typeNameOfWhole_keyiter hit.typeIs (Zu ?_)) | refine Zt (wpAny_typeNameOf_keyiter hit.typeIs (Zu ?_))
 refine Zt (wpAny_fieldsOf ho hd ?_);have hown:Builtin.Dict_items.ownsTuple "dict_keyiterator"=false:=by decide
 simp only[hown,Bool.false_eq_true,if_false];show wpAny _ _ (if(Value.ref a==Value.none)=true then _ else _) _ _ s;rw[Zp (show ¬((Value.ref a==Value.none)=true) from Bool.false_ne_true)];refine Zt (Zu (Zt (wpAny_dictEntries hod hdd ?_)));rw[Zp (by rw[hsz];simp)];refine Zt (Zu (Zt (wpAny_dictEpoch hod hdd ?_)));rw[Zp (by simp)];refine Zu ?_;rcases Nat.lt_or_ge i es.size with hlt | hge
 ·have hx:∃x,xs[i]?=some x/\es[i].key=.ref x.2.1:=by
   have e:es.toList[i]?=some es[i]:=by simp[hlt]
   rw[hp,Zh] at e
   cases q:xs[i]? with
   |none=>rw[q] at e;cases e
   |some x=>rw[q] at e;exact⟨x,rfl,congrArg DictEntry.key (Option.some.inj e).symm⟩
  obtain⟨x,hx,hk⟩:=hx;simp only[show ¬((i:Int)<0) from by omega,if_false,Int.toNat_natCast,Array.getElem?_eq_getElem hlt];refine Zt ?_
  first | refine Zt (wpAny_typeNameOfWhole_keyiter hit.typeIs (Zu ?_)) | refine Zt (wpAny_typeNameOf_keyiter hit.typeIs (Zu ?_))
  refine Zt (wpAny_isOneOf_keyiter hit.typeIs ?_);show wpAny _ _ (setField (.ref it) 1 (rawInt ((i:Int)+1))>>=_) _ _ s;refine Zt (wpAny_setField ho hd (by simp) ?_)
  have hit':(s.heap.update it (Obj.mapFields (·.setIfInBounds 1 (rawInt ((i:Int)+1))))).IsKeyIter it a (i+1) xs.length ep :=
   ⟨_,Heap.get?_update_self _ ho (Obj.isFreed_of_fields (Obj.data_mapFields hd _)),(Obj.cls_mapFields ..).trans hc,by rw[Obj.data_mapFields hd];simp[rawInt]⟩
  refine Zt (wpAny_holding ?_);refine Zt (wpAny_isOneOf_keyiter (s:={ s with heap:=s.heap.update it (Obj.mapFields (·.setIfInBounds 1 (rawInt ((i:Int)+1)))) }) hit'.typeIs ?_);show wpAny _ _ (pure es[i].key) _ _ _;rw[hk];exact Zu (Zu ⟨_,rfl,Zu (h1 x _ hx hit' (Heap.SameBut.update ..))⟩)
 ·simp only[show ¬((i:Int)<0) from by omega,if_false,Int.toNat_natCast,Array.getElem?_eq_none hge];refine Zt ?_
  first | refine Zt (wpAny_typeNameOfWhole_keyiter hit.typeIs (Zu ?_)) | refine Zt (wpAny_typeNameOf_keyiter hit.typeIs (Zu ?_))
  show wpAny _ _ (setField (.ref it) 0 .none>>=_) _ _ s;refine Zt (wpAny_setField ho hd (by simp) ?_);show wpAny _ _ (newExc (.type "StopIteration") []>>=_) _ _ _;refine Zt ?_;simp only[newExc,newTuple];refine Zt (wpAny_newObj_type ?_ (by size_fits));refine Zt (m:=firstArgMember _ _) (wpAny_of_eq (a:=Value.none) (by first | rfl | (simp only[firstArgMember];rfl)) ?_);refine wpAny_newObj_type ?_ (by size_fits);simp only[raiseNew];refine Zt (wpAny_handled ?_);rw[show A.in1.handled=none from hh];refine Zt (Zu (wpAny_throw ?_));refine Zt (wpAny_isInstance (T:="StopIteration") (b:=true) ⟨_,Zw _ rfl,rfl⟩ isSubtype_stop ?_);exact Zu (h2 _ (hsz ▸ hge) (((Heap.SameBut.update ..).extBut.push _).push _))
end
noncomputable def Itd(a:Addr)(xs:sX)(ep:Nat):It:=⟨λi H=>H a=some (.ext (cJ a xs ep))/\i<xs.length,λi H v H'=>H'=H/\∃x,xs[i]?=some x/\v=.ref x.2.1,λi H=>H a=some (.ext (cJ a xs ep))/\xs.length<=i⟩
def P4{K:Frag}(a it:Addr)(xs:sX)(ep:Nat):Turn P w K tg (Itd a xs ep) [it] it (λi h=>h.IsKeyIter it a i xs.length ep) where
 mem:=ze.mpr rfl
 obj:=λi h st b hb=>by(obtain rfl:=ze.mp hb;obtain⟨o,e,c,d⟩:=st;exact⟨o,e,λv z=>by rw[d] at z;cases z⟩)
 keep:=λi h h' st k=>let ⟨o,ho,r⟩:=st;⟨o,k it (ze.mpr rfl) o ho,r⟩
 item:=by
  intro X hP hw hK hc i pins s Y H E I hf st hg;subst hP hw hK;obtain⟨f0,f1,f2,f3,f4,f5⟩:=hf it (ze.mpr rfl);obtain⟨g1,g2⟩:=hg;refine rB (I.ok.hd hc) st (show cT X.prog X.w H s.heap a (.ext (cJ a xs ep)) from I.hok a _ g1).1 (λx h' hx st' sb=>?_) λ_ z=>absurd g2 (Nat.not_lt.mpr z)
  have I1:Inv X pins Y H { s with heap:=h' }:=I.turned (t':=s.toks) (λb o hb e=>(sb.2 b hb).trans e) f0 f1 f3 f4 f5;obtain⟨o,e,c,d⟩:=id st';exact⟨_,rfl,DP (s:={ s with heap:=h' }) e c d (by decide) ⟨.ref x.2.1,H,I1,rfl,⟨rfl,_,hx,rfl⟩,st',λb hb=>(hf b hb).1⟩⟩
 done:=by(intro X hP hw hK hc i pins s Y H E I hf st hg;subst hP hw hK;obtain⟨f0,f1,f2,f3,f4,f5⟩:=hf it (ze.mpr rfl);obtain⟨g1,g2⟩:=hg;exact rB (I.ok.hd hc) st (show cT X.prog X.w H s.heap a (.ext (cJ a xs ep)) from I.hok a _ g1).1 (λx h' hx=>by rw[List.getElem?_eq_none g2] at hx;cases hx) λh' _ eb=>⟨rfl,I.turned (t':=s.toks) (λb o hb e=>eb b o hb e) f0 f1 f3 f4 f5⟩)
 self:=λ_ _ _ _ _ st h=>wpAny_pyIter_keyiter st h
section
variable{tg:Expr}
noncomputable def V5(tl:TE):TI:=λY H R=>tl Y H λv H1=>∃a xs ep,v=.ref a/\(a==sysModules)=false/\H1 a=some (.ext (cJ a xs ep))/\R (Itd a xs ep) H1
def Z1{tl:TE}(hl:PE X l tl):PI X tg l (V5 tl):=by
 intro pins s Y H R I h;refine bG (hl pins s Y H _ I h) λv s1 ⟨y,H1,I1,r1,q1⟩=>?_
 obtain⟨a,xs,ep,rfl,sm,hx,q⟩:=q1;cases r1;refine CN sm (show cT X.prog X.w H1 s1.heap a (.ext (cJ a xs ep)) from I1.hok a _ hx).1 ?_;refine⟨s1.heap.objs.size,[s1.heap.objs.size],_,_,H1,rfl,I1.kept (t':=s1.toks) λb o e=>Zd _ e,P4 a _ xs ep,⟨_,Zw _ rfl,rfl,rfl⟩,λb hb=>?_,q⟩;obtain rfl:=ze.mp hb;exact I1.fpOk (Zq _) (I1.hok.fresh (Zq _))
def T9(sm:(a==sysModules)=false):PySem.W.KdlSrc P w "dict" a a xs.length (λi v=>∃x,xs[i]?=some x/\v=.ref x.2.1) (cJ a xs ep) where
 type:=λ_ hm=>hm.typeIs
 there:=λ_ hm=>let ⟨_,_,h,_⟩:=hm;⟨Zv h,Zv h⟩
 keep:=λ_ _ hm hk=>hm.stay λo e=>hk a (.inl rfl) o e
 notList:=by decide
 notTuple:=by decide
 hint:=λ_ _ _ _ hm hq=>PySem.W.kdl_hint_dict hm.typeIs hq
 iter:=λ_ s hh hm=>⟨_,λi h=>h.IsKeyIter s.heap.objs.size a i xs.length ep/\cJ a xs ep h,(λ_ _ hq=>CN sm hm hq),{
  sub:=λb hb=>by simp at hb;simp[hb]
  frame:=λ_ _ _ st hk=>⟨st.1.at λo e=>hk _ (by simp) o e,st.2.stay λo e=>hk a (by simp) o e⟩
  item:=λi s1 Q E hi st hQ=>rB hh st.1 st.2 (λx h' hx st' sb=>hQ _ h' s1.toks ⟨x,hx,rfl⟩ ⟨st',st.2.stay λo e=>sb.extBut a o (let ⟨_,_,h,_⟩:=hm;Zz (Zv h)) e⟩ λb o hb e=>sb.extBut b o (λh=>hb (by simp[h])) e) λ_ z=>absurd hi (Nat.not_lt.mpr z)
  done:=λs1 Q E st hQ=>rB hh st.1 st.2 (λx h' hx=>by simp at hx) λh' _ he=>hQ h' s1.toks λb o hb e=>he b o (λh=>hb (by simp[h])) e
  self:=λ_ _ _ _ st hQ=>wpAny_pyIter_keyiter st.1 hQ },⟨⟨_,Zw _ rfl,rfl,rfl⟩,hm.stay λo e=>Zd _ e⟩⟩
end
section
variable{its:List Value}
def FL:typeLookup (.type "list") "keys"=pure none:=by rw[typeLookup_type,builtinLookup_eq_fast];kernel_rfl
def aAZ(hx:s.heap.get? a=some { cls:=.type "list",dict:=none,data:=.seq xs k,slots:=sl })(hA:A.handled=none)
  (h:∀h' tk,(∀b o,s.heap.get? b=some o->h'.get? b=some o)->Q none { s with heap:=h',toks:=tk }):wpAny (model prog w) A (getAttr? (.ref a) "keys") Q E s:=by
 obtain⟨hp,g,d,tk,os⟩:=s;have hT:∀tk',(⟨hp,g,d,tk',os⟩:Shared).TypeIs (.ref a) "list":=λ_=>⟨_,hx,rfl⟩
 have f1:=sub_AttributeError;have f3:=F.slot_list_getattribute.lookup;have f4:=F.slot_list_getattribute.bind (.ref a);have f5:=am_list_getattr_none;unfold getAttr? getAttrBy? getAttrBy
 repeat (any_goals (first | assumption | exact hT _ | ((with_reducible show wpAny _ _ (call (Value.builtin "list.__getattribute__") _ _) _ _ _);refine call_meets F.slot_list_getattribute (hT _) am_entry_list_getattribute (F.args_list_getattribute_2 _ _) (meets_getattribute_miss_list a xs k sl _ _ FL (by decide) (by size_fits)) ⟨hx,hA,λh' tk' e hx'=>?_⟩) | wp_step))
 obtain⟨t',u',he⟩:=hx'.there;show wpAny _ _ (getattributeRaised _ _ _ _ _ _ _) _ _ _;unfold getattributeRaised
 repeat (any_goals (first | assumption | wp_step))
 exact h _ _ hx'.keeps
def CD:entryFor table "dict.update.loop"=some Builtin.«dict.update.loop»:=entryFor_of_tree (by kernel_rfl)
def pF:plainId "dict.update.loop"=true:=by decide +kernel
abbrev n4(P:Program)(w:World)(h:Heap):List Value->List (kT×Value)->Prop:=Paired λu q=>∃b k,u=.ref b/\IsTup h b #[k,q.2]/\(eL P w).is q.1 k=true
def n4.get(r:n4 P w h us qs):∀{i:Nat} {q:kT×Value},qs[i]?=some q->∃b k,us[i]?=some (.ref b)/\IsTup h b #[k,q.2]/\(eL P w).is q.1 k=true:=by
 unfold n4 at r
 induction r with
 |nil=>intro i q e;simp at e
 | @cons u p us ps hp t ih =>
  intro i q e
  cases i with
  |zero =>
   rw[zr] at e;cases e;obtain⟨b,k,rfl,h2,h3⟩:=hp;exact⟨b,k,rfl,h2,h3⟩
  |succ i=>exact ih e
def RE(hh:A.handled=none)(hl:h0.IsList l its.toArray)(hp:n4 prog w h0 its qs)(nd:h0.get? d=none)(ni:h0.get? it=none)(nn:d≠it)(hz:qs.length<=sizeLine) :
  ∀(k i:Nat) (s:Shared) (kvs:List (kT×Value)),qs.length-i=k->i<=qs.length->s.heap.IsListIter it l i->(∀b o,h0.get? b=some o->s.heap.get? b=some o)->s.heap.DictOf (eL prog w) d kvs->kvs.length<=i ->
  (∀h' tk,(∀b o,h0.get? b=some o->h'.get? b=some o)->h'.DictOf (eL prog w) d ((qs.drop i).foldl (λa q=>stored a q.1 q.2) kvs)->R (.ok (.ret .none)) { s with heap:=h',toks:=tk }) ->
  codeAny (model prog w) A (.builtin "dict.update.loop" ⟨[.ref d,.ref it,rawInt i,.none],[]⟩) R s:=by
 have ne:∀{b:Addr} {o:Obj},h0.get? b=some o->b≠d/\b≠it:=λe=>⟨λz=>(by rw[z,nd] at e;cases e),λz=>(by rw[z,ni] at e;cases e)⟩
 intro k
 induction k with
 |zero =>
  intro i s kvs hk hi hit keep hd hle hR;refine codeAny_builtin CD ?_;rw[Around.under_plainId pF _];show wpAny _ A.in1 (pyNext (.ref it)>>=_) _ _ s
  have hx:its.toArray[i]?=none:=by(rw[List.getElem?_toArray,List.getElem?_eq_none];rw[hp.length];omega)
  obtain⟨ol,e1,e2⟩:=hl;refine Zt (wpAny_pyNext_list_end hh hit ⟨ol,keep _ _ e1,e2⟩ hx λh' eb=>?_);show wpAny _ _ (Builtin.Dict.addKeywords d []>>=_) _ _ _;refine Zt (Zu (Zu (hR h' s.toks (λb o e=>eb b o (ne e).2 (keep b o e)) ?_)));rw[List.drop_eq_nil_of_le (by omega)];obtain⟨o,es,ep,ho,r⟩:=hd;exact⟨o,es,ep,eb d o nn ho,r⟩
 |succ k ih =>
  intro i s kvs hk hi hit keep hd hle hR;have hlt:i<qs.length:=by omega
  obtain⟨b,key,hu,hb,hkey⟩:=hp.get (Zb hlt);refine codeAny_builtin CD ?_;rw[Around.under_plainId pF _];show wpAny _ A.in1 (pyNext (.ref it)>>=_) _ _ s;obtain⟨ol,e1,e2⟩:=id hl;refine Zt (wpAny_pyNext_list_item hit ⟨ol,keep _ _ e1,e2⟩ (x:=.ref b) (by rw[List.getElem?_toArray];exact hu) λh' hit' sb=>?_);have keep':∀b o,h0.get? b=some o->h'.get? b=some o:=λb o e=>(sb.2 b (ne e).2).trans (keep b o e)
  obtain⟨ob,b1,b2,n,b3⟩:=hb;have hb':=keep' _ _ b1
  have hd':h'.DictOf (eL prog w) d kvs:=by(obtain⟨o,es,ep,ho,r⟩:=hd;exact⟨o,es,ep,(sb.2 d nn).trans ho,r⟩)
  refine Zt (wpAny_holding (Zt (wpAny_tryCatch ?_)));unfold Builtin.Dict.pairItems;refine Zt (wpAny_typeOf (T:="tuple") ⟨ob,hb',b2⟩ ?_);rw[Zo (by decide)];refine Zt (wpAny_seqItems hb' b3 (Zu ?_));show wpAny _ _ (holding [key,qs[i].2] (dictSet d key qs[i].2)) _ _ _;refine wpAny_holding (wpAny_dictSet_pairs (hsz:=by omega) hkey hd' λh2 dd sb2=>?_);refine Zu ⟨plainId_quiet pF _, ?_⟩;refine ih (i+1) _ (stored kvs qs[i].1 qs[i].2) (by omega) hlt ?_ (λb o e=>(sb2.2 b (ne e).1).trans (keep' b o e)) dd ?_ λh3 tk k3 d3=>?_
  ·obtain⟨o,e,r⟩:=hit';exact⟨o,(sb2.2 it (Ne.symm nn)).trans e,r⟩
  ·unfold stored;split
   ·rw[List.length_map];omega
   ·rw[Za];simp;omega
  ·refine hR h3 tk k3 ?_;rw[List.drop_eq_getElem_cons hlt];exact d3
def GK(hx:s.heap.get? l=some { cls:=.type "list",dict:=none,data:=.seq its.toArray n,slots:=sl })(hp:n4 prog w s.heap its qs)(hh:A.handled=none)(hz:qs.length<=sizeLine)
  (h:∀h' tk,(∀b o,s.heap.get? b=some o->h'.get? b=some o)->h'.DictOf (eL prog w) s.heap.objs.size (qs.foldl (λa q=>stored a q.1 q.2) [])->Q (.ref s.heap.objs.size) { s with heap:=h',toks:=tk }):wpAny (model prog w) A (call (.type "dict") [.ref l]) Q E s:=by
 refine callType_codes (Q₁:=λobj s₁=>obj=.ref s.heap.objs.size/\s₁={ s with heap:=s.heap.push { cls:=.type "dict",data:=.dict #[] } }) F.kt_called_dict (F.kt_typeCall_dict_1 _) F.entry_dict_init (kt_code_dict_new _ ⟨rfl,rfl⟩) ?_
 rintro obj s₁ ⟨rfl,rfl⟩
 have hnew:(s.heap.push { cls:=.type "dict",data:=.dict #[] }).DictOf (eL prog w) s.heap.objs.size []:=Heap.DictOf.new s.heap;have hx1:=Zd { cls:=.type "dict",data:=.dict #[] } hx;refine⟨hnew.typeIs,F.args_dict_init_2 _ _, ?_⟩;unfold Builtin.«dict.__init__»;refine Zt ?_;unfold Builtin.Dict.selfAndRest;refine Zt (wpAny_notOrdered_dict hnew.typeIs ?_);show wpAny _ _ (pure (s.heap.objs.size,[Value.ref l])) _ _ _;refine Zu ?_;show wpAny _ _ (Builtin.Dict.updateFrom "dict.__init__" s.heap.objs.size (.ref l) [] .none) _ _ _;unfold Builtin.Dict.updateFrom;refine Zt (wpAny_typeOf (T:="list") ⟨_,hx1,rfl⟩ ?_);rw[Zo (by decide)];refine Zt (aAZ hx1 hh λh2 tk keep=>?_);rw[Zo (show(none:Option Value).isNone=true from rfl)];refine Zt (wpAny_rule ?_);refine Zt (wpAny_pyIter_list ⟨_,keep _ _ hx1,rfl,n,rfl⟩ ?_);have d1:(s.heap.push { cls:=.type "dict",data:=.dict #[] }).get? s.heap.objs.size=some { cls:=.type "dict",data:=.dict #[] }:=Zw _ rfl;have nn:s.heap.objs.size≠h2.objs.size:=Zz (Zv (keep _ _ d1));have kp:∀b o,s.heap.get? b=some o->(h2.push { cls:=.type "list_iterator",data:=.fields #[.ref l,.int 0 0] }).get? b=some o:=λb o e=>Zd _ (keep b o (Zd _ e))
 refine Zu ⟨plainId_quiet pF _,RE (A:=A.in1) (h0:=s.heap) hh ⟨_,hx,rfl,n,rfl⟩ hp ?_ ?_ nn hz qs.length 0 _ [] rfl (Nat.zero_le _) ⟨_,Zw _ rfl,rfl,rfl⟩ kp ?_ (Zq _) λh' tk k d=>⟨rfl,h h' tk k d⟩⟩
 ·cases e:s.heap.get? s.heap.objs.size with
  |none=>rfl
  |some o=>exact absurd (Zv e) (Nat.lt_irrefl _)
 ·cases e:s.heap.get? h2.objs.size with
  |none=>rfl
  |some o=>exact absurd (Zv (keep _ _ (Zd _ e))) (Nat.lt_irrefl _)
 ·obtain⟨o,es,ep,ho,r⟩:=hnew;exact⟨o,es,ep,Zd _ (keep _ _ ho),r⟩
end
end L2
namespace HT
open PySem PySem.Spec PyProof.Rows
section
variable{s:Shared}
def LZ(n:Nat):Builtin.Slice.slicePlaces ((n:Int)-1) (-1) (-1)=n:=by
 unfold Builtin.Slice.slicePlaces;rw[Zp (by decide)];by_cases h:n=0
 ·subst h;rfl
 ·rw[Zo (by omega),show((n:Int)-1 - -1-1)=(n:Int)-1 by omega,show -(-1:Int)=1 by decide,Int.ediv_one];omega
def xH{n:Nat}(hs:s.heap.IsSliceOf sl .none .none vs)(p:IsPart vs (some (-1)))(h:Q ((n:Int)-1,-1,n) s):wpAny (model prog w) A (Builtin.Slice.sliceApplied (.ref sl) (pure (n:Int))) Q E s:=by
 obtain⟨os,hos,hcs,hds⟩:=id hs;unfold Builtin.Slice.sliceApplied Builtin.Slice.sliceFields;refine Zt (Zt (wpAny_field hos hds (x:=.none) rfl (Zt (wpAny_field hos hds (x:=.none) rfl (Zt (wpAny_field hos hds (x:=vs) rfl (Zu ?_)))))));refine Zt (rC p ?_);show wpAny _ _ (if((-1:Int)==0)=true then _ else _) _ _ s;rw[Zp (by decide)];refine Zt (slicePart_none (Zt (slicePart_none (Zt (Zu ?_)))));show wpAny _ _ (pure ((n:Int)-1,(-1:Int),Builtin.Slice.slicePlaces ((n:Int)-1) (-1) (-1))) _ _ s;rw[LZ];exact Zu h
theorem JE:∀(l:List O),(∀a∈l,f a=some (g a))->l.filterMap f=l.map g
 |[],_=>rfl
 |a::l,h=>by(rw[List.filterMap_cons,h a (zh ..)];show g a::l.filterMap f=g a::l.map g;rw[JE l λb hb=>h b (Ze _ hb)])
def EG(xs:Array Value):((List.range xs.size).filterMap λ(m:Nat)=>xs[((xs.size:Int)-1+(m:Int)*-1).toNat]?).toArray=xs.toList.reverse.toArray:=by
 congr 1
 apply List.ext_getElem?
 intro i
 have e:((List.range xs.size).filterMap λ(m:Nat)=>xs[((xs.size:Int)-1+(m:Int)*-1).toNat]?)=(List.range xs.size).map λm=>(xs.toList.reverse).getD m .none:=by
  refine JE _ λm hm=>?_
  have hm:=List.mem_range.mp hm
  have:((xs.size:Int)-1+(m:Int)*-1).toNat=xs.size-1-m:=by omega
  rw[this];rw[List.getD_eq_getElem?_getD,List.getElem?_reverse (by simpa using hm),Array.length_toList,Array.getElem?_toList,Array.getElem?_eq_getElem (by omega)];rfl
 rw[e];by_cases hi:i<xs.size
 ·rw[Zh,List.getElem?_range hi];show some (xs.toList.reverse.getD i .none)=_;rw[List.getD_eq_getElem?_getD,Zb (by simpa using hi)];rfl
 ·rw[List.getElem?_eq_none (by simpa using hi),List.getElem?_eq_none (by simpa using hi)]
def wI(ht:IsTup s.heap t items)(hs:s.heap.IsSliceOf sl .none .none vs)(p:IsPart vs (some (-1)))
  (h:Q (.ref s.heap.objs.size) { s with heap:=s.heap.push { cls:=.type "tuple",data:=.seq items.toList.reverse.toArray } })
  (hsz:items.size<=sizeLine):wpAny (model prog w) A (getItem (.ref t) (.ref sl)) Q E s:=by
 have htake:sizeOk (.seq items.toList.reverse.toArray):=by(show items.toList.reverse.toArray.size<=sizeLine;rw[Zi,List.length_reverse,Array.length_toList];exact hsz)
 obtain⟨os,hos,hcs,hds⟩:=id hs;have hTs:s.TypeIs (.ref sl) "slice":=⟨os,hos,hcs⟩
 unfold getItem
 try with_reducible refine wpAny_holding ?_
 first | refine Zt (Zu ?_) | skip
 refine Zt (wpAny_sequenceKey ht.typeIs (by decide) ?_)
 refine Zt (wpAny_callSpecial?_slot (name:=Str.ofString "__getitem__") ht.typeIs PyProof.Rows.slot_tuple_getitem
  (wpAny_call_entry PyProof.Rows.slot_tuple_getitem ht.typeIs entry_tuple_getitem ?_ (args_tuple_getitem _ _)))
 show wpAny _ _ (Builtin.Tuple.tupleItemsOf (.ref t)>>=_) _ _ s;refine Zt (tupleItemsOf_ ht ?_);refine Zt (wpAny_typeOf hTs ?_);rw[Zo (by decide)];refine Zt (xH hs p ?_)
 have hno:¬((((items.size:Int)-1)==0&&(-1:Int)==1&&items.size==items.size)=true):=by(intro q;rw[ZB,ZB] at q;exact absurd q.1.2 (by decide))
 show wpAny _ _ (if(((items.size:Int)-1)==0&&(-1:Int)==1&&items.size==items.size)=true then _ else _) _ _ s;rw[Zp hno,EG]
 first
  |exact Zt (m:=Builtin.Tuple.tupleExact _) (wpAny_newObj_type (Zu ⟨_,rfl,Zu h⟩) htake)
  |exact Zt (m:=Builtin.Tuple.tupleExact _) (wpAny_newObj_type (Zt (Zu (Zu ⟨_,rfl,Zu h⟩))) htake)
  |exact Zt (Zt (m:=Builtin.Tuple.tupleExact _) (wpAny_newObj_type (Zu (Zu ⟨_,rfl,Zu h⟩)) htake))
  |exact Zt (Zt (m:=Builtin.Tuple.tupleExact _) (wpAny_newObj_type (Zu ⟨_,rfl,Zu h⟩) htake))
end
end HT
namespace L2
open PySem PySem.Spec PyProof.Rows
section
variable{e st:Expr}
def aO.rev(r:aO xs us):aO xs.reverse us.reverse:=by
 induction r with
 |nil=>exact .nil
 |cons r1 r2 ih =>
  rw[List.reverse_cons,List.reverse_cons];exact ih.append (.cons r1 .nil)
noncomputable def aHO(K:Frag)(te tst:TE):TE:=λY H Q=>te Y H λx H1=>tst Y H1 λy H2=>y=.int (-1)/\∃a xs,x=.ref a/\((dE K H2 a xs/\∀p,H2 p=none->Q (.ref p) (aP H2 p (.tup xs.reverse)))\/(bU K H2 a xs/\∀p,H2 p=none->Q (.ref p) (aP H2 p (.lst xs.reverse))))
def P8(xs:Array Value):slicePick xs none none (some (-1))=xs.toList.reverse.toArray:=by
 rw[<- HT.EG];unfold slicePick;congr 1
 have e:sliceRange (sliceBounds none none (some (-1)) xs.size).1 (sliceBounds none none (some (-1)) xs.size).2.1 (sliceBounds none none (some (-1)) xs.size).2.2=(List.range xs.size).map λ(k:Nat)=>((xs.size:Int)-1+(k:Int)*-1).toNat:=by
  show sliceRange ((xs.size:Int)-1) (-1) (-1)=_;unfold sliceRange
  have hn:(if((xs.size:Int)-1) > -1 then(((xs.size:Int)-1) - -1 - -1-1) / (- -1) else 0).toNat=xs.size:=by
   by_cases h:xs.size=0
   ·rw[h];rfl
   ·rw[Zo (by omega),show((xs.size:Int)-1) - -1 - -1-1=xs.size by omega,show(- -1:Int)=1 by decide,Int.ediv_one];rfl
  show(List.range (if((xs.size:Int)-1) > -1 then(((xs.size:Int)-1) - -1 - -1-1) / (- -1) else 0).toNat).map (λ(k:Nat)=>((xs.size:Int)-1+-1*(k:Int)).toNat)=_;rw[hn];refine List.map_congr_left λk _=>?_
  rw[Int.mul_comm]
 rw[e,List.filterMap_map];rfl
def aCY(he:PE X e te)(hu:PE X st tst):PE X (.Subscript e (.Slice none none (some st) p2) pos) (aHO X.K te tst):=by
 intro pins s Y H Q I h;refine Subscript_ (bG (he pins s Y H _ I h) λv s1 ⟨x,H1,I1,r1,q1⟩=>?_);refine wpAny_Slice ?_;rw[evalPart_none];refine Zu (Zu ?_);rw[evalPart_some];refine bG (hu pins s1 Y H1 _ I1 q1) λvs s3 ⟨y,H3,I3,ry,q2⟩=>?_
 obtain⟨rfl,a,xs,rfl,q⟩:=q2;obtain⟨tk,rfl⟩:=ry;cases r1;have I4:Inv X pins Y H3 { s3 with heap:=s3.heap.push { cls:=.type "slice",data:=.fields #[.none,.none,.int (-1) tk] } }:=I3.kept (t':=s3.toks) λb ob q=>Zd _ q
 show wpAny (model X.prog X.w) X.A (subscriptTail e (.Slice none none (some st) p2) (.ref a) (.ref s3.heap.objs.size)) (EP X pins Y Q) X.xe { s3 with heap:=s3.heap.push { cls:=.type "slice",data:=.fields #[.none,.none,.int (-1) tk] } };rcases q with ⟨hx,q⟩ | ⟨hx,q⟩
 ·obtain⟨its,r,ht,hz⟩:=I4.tuple hx;have hlen:its.toArray.size=xs.length:=by rw[Zi];exact r.length.symm
  refine tail_any (ops:=[.ref a,.ref s3.heap.objs.size]) ht.typeIs PyProof.Rows.slot_tuple_getitem.lookup ?_ (by with_unfolding_all rfl);refine HT.wI ht (Heap.IsSliceOf.new ..) (.int (-1) tk) ?_ (by rw[hlen];exact hz);refine⟨.ref _,_,I4.laid (t':=s3.toks) (o:=.tup xs.reverse) (λb ob q=>Zd _ q) (Zq _) ?_,rfl,q _ (I4.hok.fresh (Zq _))⟩;exact⟨by rw[List.length_reverse];exact hz,_,r.rev,IsTup.new _ _⟩
 ·obtain⟨its,r,ht,hz⟩:=I4.list hx;have hlen:=r.length;refine tail_any (ops:=[.ref a,.ref s3.heap.objs.size]) ht.isList.typeIs slot_list_getitem.lookup ?_ (by with_unfolding_all rfl);refine wpAny_getItem_list_slice ht.isList (Heap.IsSliceOf.new ..) .none .none (.int (-1) tk) (by simp) ?_ (by rw[Zi]<;>omega);rw[P8];refine⟨.ref _,_,I4.laid (t':=s3.toks) (o:=.lst xs.reverse) (λb ob q=>Zd _ q) (Zq _) ?_,rfl,q _ (I4.hok.fresh (Zq _))⟩;exact⟨by rw[List.length_reverse];exact hz,_,0,r.rev,Zw _ rfl⟩
end
end L2
namespace CI
open PySem PySem.Spec PyProof.Rows L2
section
variable{h':Heap}
def TrO(X:Cx)(pins:List (Addr×Obj))(H:Hp)(h:Heap)(a C:Addr)(p:Option Addr)(fl:Value):Prop :=
 ∃oe vs a0 T oT ts,h.get? a=some oe/\(oe.cls=.ref C/\oe.dict=p)/\oe.data=.fields vs/\vs[0]?=some a0/\kC X pins H T/\vs[1]?=some (.ref T)/\T≠a/\h.get? T=some oT/\oT.data=.fields ts/\ts[3]?=some fl
def MdO(h:Heap)(a C:Addr)(p:Option Addr):Prop:=∃oe vs a0,h.get? a=some oe/\(oe.cls=.ref C/\oe.dict=p)/\oe.data=.fields vs/\vs[0]?=some a0/\vs[1]?=some .none
def aHl(X:Cx)(pins:List (Addr×Obj))(H:Hp)(h:Heap)(a C:Addr)(p:Option Addr):Prop:=kC X pins H a/\(MdO h a C p\/∃fl,TrO X pins H h a C p fl)
variable{M:Model}{A:Around}{E:Value->Shared->Prop}{Q:Unit->Shared->Prop}
end
abbrev bmV:List Value:=[.type "ValueError",.type "Exception",.type "BaseException",.type "object"]
def VX(K:Frag)(C:Addr)(i:Option Value):Prop:=∃(tl:List Value) (N:Addr),(∀v,PySem.W.mroIn K C v=some ((Value.ref C::tl).contains v)) /\
  ∀{h:Heap},K.In h->∃(nm qn:Str) (bs:List Value) (hd:Bool) (sn:List Str) (sub:List Value) (ab:Bool) (uB:Option Bool) (dd:Option Addr) (k0 k1 k2 k3 k5:Option Value),
   h.get? C=some (excClassObj nm qn C N bs tl hd sn sub ab uB dd k0 k1 k2 k3 k5 "ValueError.__new__")/\h.Ns N (h.nsMap N)/\h.nsMap N "__init__"=i/\OwnTail h bmV tl
end CI
namespace CI
open PySem PySem.Spec PySem.Calls PyProof.Rows L2 PySem.W PySem.Builtin PySem.Builtin.ObjectAttr PySem.Builtin.Getset_descriptor
def aC2(a C:Addr)(p:Option Addr)(h:Heap):Prop:=∃oe vs,h.get? a=some oe/\(oe.cls=.ref C/\oe.dict=p)/\oe.data=.fields vs
def aC2.ty(x:aC2 a C p h):Looks M h (typeOf (.ref a)) (.ref C):=by
 obtain⟨oe,vs,e,c,_⟩:=x;rw[<- c.1];exact(Looks.ld e).andThen .now
structure ExcG(K:Frag)(C:Addr):Prop where
 q:∃i,VX K C i
 ga:findIn K (.ref C) "__getattribute__"=some (some (.builtin "BaseException.__getattribute__"))
 no:findIn K (.ref C) "__getattr__"=some none
 cl:findIn K (.ref C) "__class__"=some (some (.builtin "object.__class__"))
 gt:specialIn K (.builtin "object.__class__") "__get__"=some (some (.builtin "getset_descriptor.__get__"))
 tk:takesIn K (.builtin "object.__class__")=some true
 mo:mroIn K C (.type "object")=some true
 mb:mroIn K C (.type "BaseException")=some true
 mv:mroIn K C (.type "ValueError")=some true
end CI
namespace CI
open PySem PySem.Spec PyProof.Rows L2
section
open PySem.W PySem.Builtin PySem.Builtin.ObjectAttr
variable{prog:Program}{w:World}{A:Around}{E:Value->Shared->Prop}{s:Shared}{K:Frag}{x C:Addr}
noncomputable def aFF:List Value->Bool
 |.ref _::r=>aFF r
 |l=>l==bmV
end
end CI
namespace L2
open PySem PySem.Spec PyProof.Rows
noncomputable def Its(x:Str):It:=⟨λi _=>i<x.cps.size,λi H v H'=>H'=H/\∃c,x.cps[i]?=some c/\v=.str ⟨#[c]⟩,λi _=>x.cps.size<=i⟩
end L2
namespace CI
open PySem
inductive D where
 |non
 |bl (b:Bool)
 |int (i:Int)
 |str (x:Str)
 |tup (ds:List D)
 |lst (ds:List D)
 |ins (c:Str) (ns:List Str) (ds:List D)
 |dcs (ks:List L2.bO) (ds:List D)
 |dci (ks:List Int) (ds:List D)
 deriving Inhabited
inductive RV where
 |sh (d:D) | ow (d:D) | od (d:D)
noncomputable def RV.d:RV->D
 |.sh d=>d
 |.ow d=>d
 |.od d=>d
noncomputable def RV.low:RV->RV
 |.od d=>.ow d
 |v=>v
inductive Sl where
 |un | mv | sh (d:D) | ow (d:D) (pin lk:Bool)
noncomputable def Sl.get:Sl->Option D
 |.un=>none
 |.mv=>none
 |.sh d=>some d
 |.ow d _ _=>some d
structure Exc where
 cls:Str
 num:Option Int
inductive Out(O:Type) where
 |ok (a:O) | ex (e:Exc)
abbrev Env:=List Sl
abbrev aR(O:Type):=Option (Out O×Env)
noncomputable def aR.bind(r:aR O)(f:O->Env->aR N):aR N :=
 match r with
 |none=>none
 |some (.ex e,U)=>some (.ex e,U)
 |some (.ok a,U)=>f a U
inductive Hd where
 |slot (i:Nat) | val (v:RV)
noncomputable def Hd.get(h:Hd)(U:Env):Option D :=
 match h with
 |.slot i=>(U[i]?).bind Sl.get
 |.val v=>some v.d
noncomputable def getAll:List Hd->Env->Option (List D)
 |[],_=>some []
 |h::r,U=>(h.get U).bind λd=>(getAll r U).map (d :: ·)
inductive Ty where
 |int
 |bool
 |tuple
inductive BI where
 |len
 |abs
 |int
 |list
 |tuple
 |min
 |max
 |all
 |dict
 deriving DecidableEq
inductive ItK where
 |rng | of | enum (lo:Int) | sig | key
 deriving DecidableEq
set_option genSizeOf false
set_option genInjectivity false
inductive E where
 |bad
 |omt
 |var (i:Nat)
 |con (d:D)
 |tup (es:List E)
 |lst (es:List E)
 |bin (op:Operator) (a b:E)
 |neg (a:E)
 |not (a:E)
 |cmp (op:CmpOp) (a b:E)
 |cmp2 (op op':CmpOp) (a b c:E)
 |and (a b:E)
 |or (a b:E)
 |ite (c a b:E)
 |ix (a i:E)
 |sl (a lo hi:E)
 |rev (a:E)
 |call (f:String) (args:List E)
 |bif (f:BI) (args:List E)
 |isi (a:E) (ts:List Ty)
 |app (i:Nat) (a:E)
 |dict1 (k v:E)
 |dict0
 |frz (i:Nat)
 |mkset (a:E)
 |nset (a:E)
 |fld (a:E) (f:Str)
 |make (c:Str) (ns:List Str) (args:List E)
 |meth (i:Nat) (m:Str) (tb:List (Str×String)) (args:List E)
 |comp (elt:E) (tg:List Nat) (k:ItK) (its:List E) (cond:List E) (imp:List Nat) (nl:Nat)
inductive S where
 |bad
 |pass
 |brk
 |cnt
 |asg (i:Nat) (e:E)
 |asgT (is:List Nat) (e:E)
 |set (i:Nat) (k e:E)
 |expr (e:E)
 |ret (e:E)
 |retN
 |ifs (c:E) (a b:List S)
 |for (tg:List Nat) (one:Bool) (k:ItK) (its:List E) (body:List S)
 |whl (c:E) (body:List S)
 |rse (c:Str) (args:List E)
 |rsi (c:Str) (args:List E)
 |scr (i j:Nat) (e c:E)
set_option genInjectivity true
noncomputable def bF:Nat->D->Bool
 |_,.non=>true
 |_,.bl _=>true
 |_,.int _=>true
 |_,.str _=>true
 |n+1,.tup ds=>ds.all (bF n)
 |n+1,.lst ds=>ds.all (bF n)
 |_,_=>false
mutual
noncomputable def dH:D->D->Bool
 |.non,.non=>true
 |.bl a,.bl b=>a==b
 |.bl a,.int b=>(if a then 1 else 0)==b
 |.int a,.bl b=>a==(if b then 1 else 0)
 |.int a,.int b=>a==b
 |.str a,.str b=>a==b
 |.tup a,.tup b=>iD a b
 |.lst a,.lst b=>iD a b
 |_,_=>false
noncomputable def iD:List D->List D->Bool
 |[],[]=>true
 |a::as,b::bs=>dH a b&&iD as bs
 |_,_=>false
end
noncomputable def cl(p:Prop):Decidable p:=Classical.propDecidable p
noncomputable section
noncomputable def iY:D->Option Bool
 |.non=>some false
 |.bl b=>some b
 |.int i=>some (i != 0)
 |.str x=>@ite _ (x.length<=1000000) (cl _) (some ((x.length:Int) != 0)) none
 |.tup ds=>some (!ds.isEmpty)
 |.lst ds=>some (!ds.isEmpty)
 |_=>none
noncomputable def aJ(n:Nat):Bool:=@decide (n<=1000000) (cl _)
noncomputable def bX:Operator->D->D->Option RV
 |.Add,.int i,.int j=>some (.sh (.int (i+j)))
 |.Sub,.int i,.int j=>some (.sh (.int (i-j)))
 |.Mult,.int i,.int j=>@ite _ ((-(2 ^ 64)<i/\i<2 ^ 64)\/(-(2 ^ 64)<j/\j<2 ^ 64)) (cl _) (some (.sh (.int (i*j)))) none
 |.FloorDiv,.int i,.int j=>@ite _ (0<j/\j<nofun) (cl _) (some (.sh (.int (i / j)))) none
 |.Mod,.int i,.int j=>@ite _ (0<j) (cl _) (some (.sh (.int (i % j)))) none
 |.LShift,.int i,.int j=>@ite _ (0<=j/\j<=1000/\i.natAbs<2 ^ 64) (cl _) (some (.sh (.int (i*2 ^ j.toNat)))) none
 |.RShift,.int i,.int j=>@ite _ (0<=j) (cl _) (some (.sh (.int (i / 2 ^ j.toNat)))) none
 |.BitAnd,.int i,.int j=>some (.sh (.int (Builtin.bitAnd i j)))
 |.Add,.lst xs,.lst ys=>if aJ (xs.length+ys.length) then some (.ow (.lst (xs++ys))) else none
 |.Add,.tup [],.tup ys=>some (.sh (.tup ys))
 |.Add,.tup (x::xs),.tup ys=>if aJ (xs.length+1+ys.length) then some (.sh (.tup (x::xs++ys))) else none
 |.Mult,.lst xs,.int k=>@ite _ (-(2 ^ 31)<=k/\k<=1000/\aJ (xs.length*k.toNat)) (cl _) (some (.ow (.lst (List.replicate k.toNat xs).flatten))) none
 |_,_,_=>none
noncomputable def cL:D->Bool
 |.non=>true | .bl _=>true | .int _=>true | .str _=>true
 |_=>false
noncomputable def lK(x:D)(ds:List D):Bool:=ds.any λy=>dH y x
noncomputable def d7:List D->Option (List Int)
 |[]=>some []
 |.int i::r=>(d7 r).map (i :: ·)
 |_=>none
noncomputable def wU:D->Option L2.dX
 |.tup [.int t,.tup ds]=>(d7 ds).map λns=>(t,ns)
 |_=>none
noncomputable def dD:D->Option L2.bO
 |.tup [.tup a,.tup b]=>(wU (.tup a)).bind λx=>(wU (.tup b)).map λy=>.inr (x,y)
 |d=>(wU d).map .inl
noncomputable def b9(k:L2.dX):D:=.tup [.int k.1,.tup (k.2.map D.int)]
noncomputable def m9:L2.bO->D:=Sum.elim b9 λk=>.tup [b9 k.1,b9 k.2]
noncomputable def mI(ks:List L2.bO)(ds:List D)(k:L2.bO):Option D:=((ks.zip ds).find? λp=>decide (p.1=k)).map (·.2)
noncomputable def eH(ks:List L2.bO)(k:L2.bO):Bool:=ks.any λx=>decide (x=k)
noncomputable def l7(ks:List L2.bO)(k:L2.bO):List L2.bO:=if eH ks k then ks else ks++[k]
noncomputable def nJ(ks:List L2.bO)(ds:List O)(k:L2.bO)(d:O):List O:=if eH ks k then(ks.zip ds).map (λp=>if p.1=k then d else p.2) else ds++[d]
noncomputable def BF(x:D)(ks:List L2.bO):Option Bool:=(dD x).map λk=>eH ks k
noncomputable def iU(ks:List Int)(ds:List D)(k:Int):Option D:=((ks.zip ds).find? λp=>decide (p.1=k)).map (·.2)
noncomputable def inZ(x:D)(ks:List Int)(ds:List D):Option Bool:=match x with
 |.int i=>some (iU ks ds i).isSome
 |_=>none
noncomputable def zO:D->Option (Int×D)
 |.tup [.int k,d]=>some (k,d)
 |_=>none
noncomputable def jW:List D->Option (List (Int×D))
 |[]=>some []
 |d::r=>(zO d).bind λp=>(jW r).map (p :: ·)
noncomputable def bL:CmpOp->D->D->Option Bool
 |.Eq,x,y=>if bF 20 x&&bF 20 y then some (dH x y) else none
 |.NotEq,x,y=>if bF 20 x&&bF 20 y then some (!dH x y) else none
 |.Lt,.int i,.int j=>some (decide (i<j))
 |.LtE,.int i,.int j=>some (decide (i<=j))
 |.Gt,.int i,.int j=>some (decide (j<i))
 |.GtE,.int i,.int j=>some (decide (j<=i))
 |.Is,.bl a,.bl b=>some (a==b)
 |.Is,.non,.non=>some true
 |.Is,_,.non=>some false
 |.IsNot,.non,.non=>some false
 |.IsNot,_,.non=>some true
 |.In,x,.tup ds=>if cL x&&ds.all cL then some (lK x ds) else none
 |.In,x,.lst ds=>if cL x&&ds.all cL then some (lK x ds) else if bF 19 x&&ds.all (bF 19) then some (lK x ds) else none
 |.In,x,.dcs ks _=>BF x ks
 |.In,x,.dci ks ds=>inZ x ks ds
 |.NotIn,x,.tup ds=>if cL x&&ds.all cL then some (!lK x ds) else none
 |.NotIn,x,.lst ds=>if cL x&&ds.all cL then some (!lK x ds) else if bF 19 x&&ds.all (bF 19) then some (!lK x ds) else none
 |.NotIn,x,.dcs ks _=>(BF x ks).map (!·)
 |_,_,_=>none
noncomputable def atD(ds:List D)(i:Int):Option D:=L2.cV ds i
noncomputable def OR:D->D->Option D
 |.tup ds,.int i=>atD ds i
 |.lst ds,.int i=>atD ds i
 |.dcs ks ds,x=>(dD x).bind (mI ks ds)
 |.dci ks ds,.int i=>iU ks ds i
 |.str x,.int i=>@ite _ (x.length<=1000000) (cl _) ((L2.cV x.cps.toList i).map λc=>.str ⟨#[c]⟩) none
 |_,_=>none
noncomputable def iC(ds:List D)(lo hi:Option Int):List D:=(ds.drop (HT.bQ ds.length 0 lo)).take (HT.bQ ds.length ds.length hi-HT.bQ ds.length 0 lo)
noncomputable def oU:Option D->Option (Option Int)
 |none=>some none
 |some (.int i)=>some (some i)
 |_=>none
noncomputable def W6:D->Option Int->Option Int->Option RV
 |.lst ds,lo,hi=>some (.ow (.lst (iC ds lo hi)))
 |.tup ds,lo,hi=>if HT.bQ ds.length 0 lo=0/\HT.bQ ds.length ds.length hi=ds.length then none else some (.sh (.tup (iC ds lo hi)))
 |_,_,_=>none
noncomputable def aEm:D->Option RV
 |.tup ds=>some (.sh (.tup ds.reverse))
 |.lst ds=>some (.ow (.lst ds.reverse))
 |_=>none
noncomputable def eD:List D->Option (List Bool)
 |[]=>some []
 |.bl b::r=>(eD r).map (b :: ·)
 |_=>none
mutual
noncomputable def dW:D->PyData
 |.non=>.none
 |.bl b=>.bool b
 |.int i=>.int i
 |.str x=>.str x
 |.tup ds=>.tuple (jQ ds)
 |.lst ds=>.list (jQ ds)
 |.ins _ _ _=>.none
 |.dcs _ _=>.none
 |.dci _ _=>.none
noncomputable def jQ:List D->List PyData
 |[]=>[]
 |d::ds=>dW d::jQ ds
end
noncomputable def zY(ds:List D):Option RV:=(jW ds).bind λps=>if decide (ps.map (·.1)).Nodup then some (.sh (.dci (ps.map (·.1)) (ps.map (·.2)))) else none
noncomputable def gG:BI->List D->Option RV
 |.len,[.lst ds]=>some (.sh (.int ds.length))
 |.len,[.tup ds]=>some (.sh (.int ds.length))
 |.len,[.dcs ks _]=>some (.sh (.int ks.length))
 |.len,[.str x]=>@ite _ (x.length<=1000000) (cl _) (some (.sh (.int x.length))) none
 |.abs,[.int i]=>some (.sh (.int (if i<0 then -i else i)))
 |.int,[.int i]=>some (.sh (.int i))
 |.int,[.bl b]=>some (.sh (.int (if b then 1 else 0)))
 |.list,[.lst ds]=>some (.ow (.lst ds))
 |.list,[.tup ds]=>some (.ow (.lst ds))
 |.list,[.dcs ks _]=>some (.ow (.lst (ks.map m9)))
 |.dict,[.lst ds]=>zY ds
 |.tuple,[.lst ds]=>some (.sh (.tup ds))
 |.tuple,[.tup ds]=>some (.sh (.tup ds))
 |.min,[.int i,.int j]=>some (.sh (.int (if j<i then j else i)))
 |.max,[.int i,.int j]=>some (.sh (.int (if j > i then j else i)))
 |.max,[.lst ds]=>match d7 ds with
  |some (i::r)=>some (.sh (.int (r.foldl (λm y=>if y > m then y else m) i)))
  |_=>none
 |.all,[.lst ds]=>(eD ds).map λbs=>.sh (.bl (bs.all id))
 |_,_=>none
noncomputable def LC:Ty->D->Option Bool
 |.int,d=>match d with
  |.int _=>some true | .bl _=>some true | .non=>some false | .str _=>some false | .tup _=>some false | .lst _=>some false
  |_=>none
 |.bool,d=>match d with
  |.bl _=>some true | .int _=>some false | .non=>some false | .str _=>some false | .tup _=>some false | .lst _=>some false
  |_=>none
 |.tuple,d=>match d with
  |.tup _=>some true | .bl _=>some false | .int _=>some false | .non=>some false | .lst _=>some false | .str _=>some false
  |_=>none
noncomputable def zH:List Ty->D->Option Bool
 |[],_=>some false
 |t::r,d=>(LC t d).bind λb=>(zH r d).map λc=>b||c
noncomputable def y4:D->Option RV
 |.lst ds=>match d7 ds with
  |some is=>@ite _ (is.length<=1000) (cl _) (some (.sh (.int (PyProof.Rows.firstMet (λi=>is.getD i 0) is.length).length))) none
  |none=>none
 |_=>none
noncomputable def SW:D->Str->Option D
 |.ins _ ns ds,f=>(ns.zip ds).lookup f
 |_,_=>none
noncomputable def gR(c:Str)(ns:List Str)(m:Str)(tb:List (Str×String)):Option String:=if ns.contains m then none else tb.lookup c
noncomputable def bP(t:Bool)(r:aR RV):aR RV :=
 match t with
 |false=>r
 |true=>r.bind λv U=>(iY v.d).map λb=>(.ok (.sh (.bl b)),U)
noncomputable def hd(e:E)(r:aR RV)(U:Env):aR Hd :=
 match e with
 |.var i=>if((U[i]?).bind Sl.get).isSome then some (.ok (.slot i),U) else none
 |_=>r.bind λv U'=>some (.ok (.val v.low),U')
noncomputable def FI:E->Bool
 |.omt=>true
 |_=>false
noncomputable def AR(e:E)(r:aR RV)(U:Env):aR (Option D) :=
 if FI e then some (.ok none,U) else r.bind λv U'=>some (.ok (some v.d),U')
noncomputable def rL(op:Operator)(x:Hd)(d:D):Bool :=
 match op,d with
 |.Mult,.lst _=>match x with
  |.val (.ow _)=>true
  |_=>false
 |_,_=>true
noncomputable def rK(U:Env)(i:Nat):Bool :=
 match U[i]? with
 |some (.ow (.lst _) _ _)=>true
 |_=>false
noncomputable def AH(U:Env)(i:Nat):Bool :=
 match U[i]? with
 |some (.ow (.dcs _ _) _ _)=>true
 |_=>false
noncomputable def aHk(U:Env)(i:Nat):Bool :=
 match U[i]? with
 |_=>false
noncomputable def zV(i:Nat)(U:Env):aR RV :=
 match U[i]? with
 |some (.sh d)=>some (.ok (.sh d),U)
 |some (.ow d false false)=>some (.ok (.sh d),U.set i (.sh d))
 |_=>none
noncomputable def done(o:Option RV)(U:Env):aR RV:=o.map λv=>(.ok v,U)
noncomputable def store(i:Nat)(v:RV)(U:Env):Option Env :=
 match U[i]? with
 |none=>none
 |some (.ow _ true _)=>none
 |some (.ow _ _ true)=>none
 |some _=>match v with
  |.sh d=>some (U.set i (.sh d))
  |.ow d=>some (U.set i (.ow d false false))
  |.od _=>none
noncomputable def eQ:List Nat->List D->Env->Option Env
 |[],[],U=>some U
 |i::is,d::ds,U=>(store i (.sh d) U).bind (eQ is ds)
 |_,_,_=>none
noncomputable def aU(one:Bool)(tg:List Nat)(d:D)(U:Env):Option Env :=
 match one,tg,d with
 |true,[i],d=>store i (.sh d) U
 |false,is,.tup ds=>eQ is ds U
 |_,_,_=>none
abbrev Calls:=String->List Sl->aR RV
noncomputable def bV(pins:List Bool)(hs:List Hd)(U:Env):Option (List Sl×Env) :=
 match pins,hs with
 |[],[]=>some ([],U)
 |p::ps,.val (.sh d)::r=>(bV ps r U).map λ(as,U')=>(.sh d::as,U')
 |p::ps,.val (.ow d)::r=>(bV ps r U).map λ(as,U')=>((if p then .ow d true false else .sh d)::as,U')
 |p::ps,.slot i::r =>
  match U[i]? with
  |some (.sh d)=>(bV ps r U).map λ(as,U')=>(.sh d::as,U')
  |some (.ow d pin lk) =>
   match p with
   |true=>(bV ps r (U.set i .un)).map λ(as,U')=>(.ow d true lk::as,U')
   |false=>if pin||lk then none else(bV ps r (U.set i (.sh d))).map λ(as,U')=>(.sh d::as,U')
  |_=>none
 |_,_=>none
noncomputable def bN(pins:List Bool)(hs:List Hd)(as:List Sl)(U0 U:Env):Option Env :=
 match pins,hs,as with
 |[],[],[]=>some U
 |true::ps,.slot i::r,a::as =>
  match U0[i]?,a with
  |some (.ow _ pin lk),.ow d _ _=>bN ps r as U0 (U.set i (.ow d pin lk))
  |some (.ow _ _ _),_=>none
  |_,_=>bN ps r as U0 U
 |_::ps,_::r,_::as=>bN ps r as U0 U
 |_,_,_=>none
noncomputable def fF(pins:List Bool)(f:List Sl->aR RV)(hs:List Hd)(U:Env):aR RV :=
 match bV pins hs U with
 |none=>none
 |some (as,U1) =>
  match f as with
  |none=>none
  |some (o,as')=>(bN pins hs as' U U1).map λU'=>(o,U')
noncomputable def dY(lo:Int)(ds:List D):List D:=(List.range ds.length).map λ(j:Nat)=>.tup [.int (lo+(j:Int)),ds.getD j .non]
noncomputable def DR(x:Str):List D:=x.cps.toList.map λc=>.str ⟨#[c]⟩
noncomputable def GN:RV->Option (List D×Option Nat)
 |.sh (.dcs ks _)=>some (ks.map m9,none)
 |_=>none
noncomputable def aD(k:ItK)(hs:List Hd)(U:Env):Option (List D×Option Nat) :=
 match k,hs with
 |.rng,[a]=>match a.get U with
  |some (.int n)=>@ite _ (-1000000<=n/\n<=1000000) (cl _) (some ((List.range n.toNat).map λ(j:Nat)=>.int (j:Int),none)) none
  |_=>none
 |.rng,[a,b]=>match a.get U,b.get U with
  |some (.int m),some (.int n)=>@ite _ ((-1000000<=m/\m<=1000000)/\(-1000000<=n/\n<=1000000)) (cl _) (some ((List.range (n-m).toNat).map λ(j:Nat)=>.int (m+(j:Int)),none)) none
  |_,_=>none
 |.enum lo,[.slot i]=>match U[i]? with
  |some (.ow (.lst ds) _ _)=>some (dY lo ds,some i)
  |some (.sh (.lst ds))=>some (dY lo ds,none)
  |_=>none
 |.enum lo,[.val v]=>match v.d with
  |.lst ds=>some (dY lo ds,none)
  |_=>none
 |.of,[.slot i]=>match U[i]? with
  |some (.ow (.lst ds) _ _)=>some (ds,some i)
  |some (.sh (.lst ds))=>some (ds,none)
  |some (.sh (.tup ds))=>some (ds,none)
  |_=>none
 |.of,[.val v]=>match v.d with
  |.lst ds=>some (ds,none)
  |.tup ds=>some (ds,none)
  |_=>none
 |.key,[.val v]=>GN v
 |_,_=>none
noncomputable def aQ(o:Option Nat)(U:Env):Env :=
 match o with
 |none=>U
 |some i=>U.set i .un
noncomputable def fB(o:Option Nat)(U0 U:Env):Option Env :=
 match o with
 |none=>some U
 |some i=>match U[i]?,U0[i]? with
  |some .un,some sl=>some (U.set i sl)
  |_,_=>none
noncomputable def fH(tests:Env->aR RV)(elt:Env->aR RV)(bind:D->Env->Option Env):List D->List D->Env->aR (List D)
 |[],acc,U=>some (.ok acc,U)
 |d::ds,acc,U=>match bind d U with
  |none=>none
  |some U1=>(tests U1).bind λc U2=>match c with
   |.sh (.bl true)=>(elt U2).bind λv U3=>fH tests elt bind ds (acc++[v.d]) U3
   |.sh (.bl false)=>fH tests elt bind ds acc U2
   |_=>none
noncomputable def back:List Sl->Env->List Sl
 |.ow _ _ _::as,b::bs=>b::back as bs
 |a::as,_::bs=>a::back as bs
 |_,_=>[]
noncomputable def nK:Sl->Bool
 |.ow _ p _=>p
 |.sh _=>true
 |_=>false
noncomputable def oW(tests:Env->aR RV)(elt:Env->aR RV)(bind:D->Env->Option Env)(ds:List D)(nl:Nat)(as:List Sl):aR RV :=
 if as.all nK=true then(fH tests elt bind ds [] (as++List.replicate nl .un)).bind λacc Ui =>
  if aJ acc.length then some (.ok (.ow (.lst acc)),back as Ui) else none
 else none
noncomputable def kP(o:Option Nat)(U1:Env)(v:RV)(U2:Env):aR RV:=(fB o U1 U2).map λU'=>(.ok v,U')
structure Fn where
 pins:List Bool
 nl:Nat
 body:List S
 rs:Bool
abbrev aW:=String->List Bool
noncomputable def NQ(k:Option L2.bO)(u:RV)(U:Env):aR RV :=
 match k with
 |some k=>some (.ok (.ow (.dcs [k] [u.d])),U)
 |none=>none
mutual
noncomputable def ev(P:aW)(C:Calls)(t:Bool):E->Env->aR RV
 |.bad,_=>none
 |.omt,_=>none
 |.var i,U=>match t with
  |true=>bP true (((U[i]?).bind Sl.get).map λd=>(.ok (.sh d),U))
  |false=>zV i U
 |.con d,U=>bP t (some (.ok (.sh d),U))
 |.tup es,U=>bP t ((oS P C es U).bind λds U'=>if aJ ds.length then some (.ok (.sh (.tup ds)),U') else none)
 |.lst es,U=>bP t ((oS P C es U).bind λds U'=>if aJ ds.length then some (.ok (.ow (.lst ds)),U') else none)
 |.bin op a b,U=>bP t ((hd a (ev P C false a U) U).bind λx U1=>(hd b (ev P C false b U1) U1).bind λy U2 =>
   done ((x.get U2).bind λd=>(y.get U2).bind λe=>if rL op x d then bX op d e else none) U2)
 |.neg a,U=>bP t ((ev P C false a U).bind λv U1=>match v.d with
  |.int i=>some (.ok (.sh (.int (-i))),U1)
  |_=>none)
 |.not a,U=>match t with
  |true=>(ev P C true a U).bind λv U1=>match v with
   |.sh (.bl b)=>some (.ok (.sh (.bl (!b))),U1)
   |_=>none
  |false=>(hd a (ev P C false a U) U).bind λx U1=>done ((x.get U1).bind λd=>(iY d).map λb=>.sh (.bl (!b))) U1
 |.cmp op a b,U=>(hd a (ev P C false a U) U).bind λx U1=>(hd b (ev P C false b U1) U1).bind λy U2 =>
   done ((x.get U2).bind λd=>(y.get U2).bind λe=>(bL op d e).map λb=>.sh (.bl b)) U2
 |.cmp2 op op' a b c,U=>(hd a (ev P C false a U) U).bind λx U1=>(hd b (ev P C false b U1) U1).bind λy U2 =>
   match (x.get U2).bind λd=>(y.get U2).bind λe=>bL op d e with
   |none=>none
   |some false=>some (.ok (.sh (.bl false)),U2)
   |some true=>(hd c (ev P C false c U2) U2).bind λz U3 =>
    done ((y.get U3).bind λd=>(z.get U3).bind λe=>(bL op' d e).map λb=>.sh (.bl b)) U3
 |.and a b,U=>(ev P C t a U).bind λv U1=>match v with
  |.sh (.bl true)=>ev P C t b U1
  |.sh (.bl false)=>some (.ok (.sh (.bl false)),U1)
  |_=>none
 |.or a b,U=>(ev P C t a U).bind λv U1=>match v with
  |.sh (.bl true)=>some (.ok (.sh (.bl true)),U1)
  |.sh (.bl false)=>ev P C t b U1
  |_=>none
 |.ite c a b,U=>(ev P C true c U).bind λv U1=>match v with
  |.sh (.bl true)=>ev P C t a U1
  |.sh (.bl false)=>ev P C t b U1
  |_=>none
 |.ix a i,U=>bP t ((hd a (ev P C false a U) U).bind λx U1=>(ev P C false i U1).bind λk U2 =>
   done ((x.get U2).bind λd=>(OR d k.d).map .sh) U2)
 |.sl a lo hi,U=>bP t ((hd a (ev P C false a U) U).bind λx U1 =>
   (AR lo (ev P C false lo U1) U1).bind λl U2=>(AR hi (ev P C false hi U2) U2).bind λh U3 =>
   done ((x.get U3).bind λd=>(oU l).bind λl=>(oU h).bind λh=>W6 d l h) U3)
 |.rev a,U=>bP t ((hd a (ev P C false a U) U).bind λx U1=>done ((x.get U1).bind aEm) U1)
 |.call f es,U=>bP t ((cU P C es U).bind λhs U1=>fF (P f) (C f) hs U1)
 |.bif f es,U=>bP t ((cU P C es U).bind λhs U1=>done ((getAll hs U1).bind (gG f)) U1)
 |.isi a ts,U=>bP t ((hd a (ev P C false a U) U).bind λx U1 =>
   done ((x.get U1).bind λd=>(zH ts d).map λb=>.sh (.bl b)) U1)
 |.app i a,U=>bP t (if rK U i then(ev P C false a U).bind λv U1=>match U1[i]? with
  |some (.ow (.lst ds) p false)=>if aJ (ds.length+1) then some (.ok (.sh .non),U1.set i (.ow (.lst (ds++[v.d])) p false)) else none
  |_=>none
  else none)
 |.dict0,U=>bP t (some (.ok (.ow (.dcs [] [])),U))
 |.dict1 a b,U=>bP t ((ev P C false a U).bind λv U1=>(ev P C false b U1).bind λu U2=>NQ (dD v.d) u U2)
 |.frz i,U=>bP t (zV i U)
 |.mkset _,_=>none
 |.nset a,U=>bP t ((hd a (ev P C false a U) U).bind λx U1=>done ((x.get U1).bind y4) U1)
 |.fld a f,U=>bP t ((hd a (ev P C false a U) U).bind λx U1=>done ((x.get U1).bind λd=>(SW d f).map .sh) U1)
 |.make c ns es,U=>bP t ((oS P C es U).bind λds U1=>if ds.length=ns.length then some (.ok (.sh (.ins c ns ds)),U1) else none)
 |.meth i m tb es,U=>bP t (match U[i]? with
  |some (.sh (.ins c ns ds))=>(match gR c ns m tb with
   |some f=>(cU P C es U).bind λhs U1=>fF (P f) (C f) (.val (.sh (.ins c ns ds))::hs) U1
   |none=>none)
  |_=>none)
 |.comp elt tg k its cond imp nl,U=>bP t ((cU P C its U).bind λhs U1 =>
   match aD k hs U1 with
   |none=>none
   |some (ds,o)=>(fF (imp.map λ_=>true) (oW (dI P C cond) (ev P C false elt) (aU (tg.length==1) tg) ds nl) (imp.map Hd.slot) (aQ o U1)).bind (kP o U1))
noncomputable def oS(P:aW)(C:Calls):List E->Env->aR (List D)
 |[],U=>some (.ok [],U)
 |e::es,U=>(ev P C false e U).bind λv U1=>(oS P C es U1).bind λds U2=>some (.ok (v.d::ds),U2)
noncomputable def cU(P:aW)(C:Calls):List E->Env->aR (List Hd)
 |[],U=>some (.ok [],U)
 |e::es,U=>(hd e (ev P C false e U) U).bind λv U1=>(cU P C es U1).bind λds U2=>some (.ok (v::ds),U2)
noncomputable def dI(P:aW)(C:Calls):List E->Env->aR RV
 |[],U=>some (.ok (.sh (.bl true)),U)
 |e::es,U=>(ev P C true e U).bind λv U1=>match v with
  |.sh (.bl true)=>dI P C es U1
  |.sh (.bl false)=>some (.ok (.sh (.bl false)),U1)
  |_=>none
end
mutual
noncomputable def V3(P:aW)(C:Calls):E->Env->Option (Exc×Env)
 |.call f es,U=>match cU P C es U with
  |some (.ok hs,U1)=>match fF (P f) (C f) hs U1 with
   |some (.ex x,U')=>some (x,U')
   |_=>none
  |_=>aEw P C es U
 |_,_=>none
noncomputable def aEw(P:aW)(C:Calls):List E->Env->Option (Exc×Env)
 |[],_=>none
 |e::es,U=>match hd e (ev P C false e U) U with
  |some (.ok _,U1)=>aEw P C es U1
  |_=>V3 P C e U
end
inductive Fl where
 |nx | bk | ct | rt (v:RV) | ex (e:Exc)
abbrev dB:=Option (Fl×Env)
noncomputable def aR.flow(r:aR O)(f:O->Env->dB):dB :=
 match r with
 |none=>none
 |some (.ex e,U)=>some (.ex e,U)
 |some (.ok a,U)=>f a U
noncomputable def dB.next(r:dB)(f:Env->dB):dB :=
 match r with
 |some (.nx,U)=>f U
 |r=>r
noncomputable def dB.restore(r:dB)(o:Option Nat)(U0:Env):dB :=
 match r with
 |none=>none
 |some (fl,U)=>(fB o U0 U).map λU'=>(fl,U')
noncomputable def kW(o:Option Env):dB:=o.map λU=>(.nx,U)
noncomputable def bZ(bind:D->Env->Option Env)(body:Env->dB):List D->Env->dB
 |[],U=>some (.nx,U)
 |d::ds,U=>match bind d U with
  |none=>none
  |some U1=>match body U1 with
   |some (.nx,U2)=>bZ bind body ds U2
   |some (.ct,U2)=>bZ bind body ds U2
   |some (.bk,U2)=>some (.nx,U2)
   |r=>r
noncomputable def lF(test:Env->aR RV)(body:Env->dB):Nat->Env->dB
 | 0,_=>none
 |n+1,U=>(test U).flow λv U1=>match v with
  |.sh (.bl true)=>match body U1 with
   |some (.nx,U2)=>lF test body n U2
   |some (.ct,U2)=>lF test body n U2
   |some (.bk,U2)=>some (.nx,U2)
   |r=>r
  |.sh (.bl false)=>some (.nx,U1)
  |_=>none
noncomputable def AS(i:Nat)(U:Env)(o:Option Sl)(k:Option L2.bO)(v:RV):dB :=
 match o,k with
 |some (.ow (.dcs ks ds) p false),some k=>if aJ (ks.length+1) then some (.nx,U.set i (.ow (.dcs (l7 ks k) (nJ ks ds k v.d)) p false)) else none
 |_,_=>none
noncomputable def W9(r:aR RV):aR RV :=
 match r with
 |some (.ok (.ow (.lst ds)),U)=>if ds.length<=1000 then some (.ok (.ow (.lst ds)),U) else none
 |_=>none
noncomputable def evG(P:aW)(C:Calls)(elt:Env->aR RV)(tg:List Nat)(k:ItK)(its cond:List E)(imp:List Nat)(nl:Nat)(U:Env):aR RV :=
 (cU P C its U).bind λhs U1 =>
   match aD k hs U1 with
   |none=>none
   |some (ds,o)=>(fF (imp.map λ_=>true) (oW (dI P C cond) elt (aU (tg.length==1) tg) ds nl) (imp.map Hd.slot) (aQ o U1)).bind (kP o U1)
noncomputable def evD(P:aW)(C:Calls)(elt:E)(tg:List Nat)(k:ItK)(its:List E)(imp:List Nat)(nl:Nat)(U:Env):aR RV :=
 evG P C (λU=>W9 (ev P C false elt U)) tg k its [] imp nl U
noncomputable def aH5(U:Env):Bool:=U.all λs=>match s with | .ow _ _ _=>false | _=>true
noncomputable def fz1(n:Nat)(U:Env):Env :=
 match U[n]? with
 |some (.ow d false false)=>U.set n (.sh d)
 |_=>U
noncomputable def frz:Nat->Env->Env
 | 0,U=>U
 |n+1,U=>fz1 n (frz n U)
noncomputable def aH7(i j:Nat)(U:Env)(e c:Env->aR RV):dB :=
 match e (frz U.length U) with
 |some (.ok (.od (.lst ds)),U1)=>@ite _ (U1=frz U.length U/\aH5 U1=true/\ds.length<=1000/\i<U1.length/\j<U1.length/\c (U1.set i (.sh (.lst ds)))=some (.ok (.sh (.bl false)),U1.set i (.sh (.lst ds)))) (cl _) (some (.nx,(U1.set i .mv).set j .mv)) none
 |_=>none
mutual
noncomputable def ex(P:aW)(C:Calls)(W:Nat):S->Env->dB
 |.bad,_=>none
 |.pass,U=>some (.nx,U)
 |.brk,U=>some (.bk,U)
 |.cnt,U=>some (.ct,U)
 |.asg i e,U=>(ev P C false e U).flow λv U1=>kW (store i v U1)
 |.asgT is e,U=>(ev P C false e U).flow λv U1=>kW (aU false is v.d U1)
 |.set i k e,U=>(ev P C false e U).flow λv U1=>if rK U1 i then(ev P C false k U1).flow λj U2=>match U2[i]?,j.d with
  |some (.ow (.lst ds) p false),.int n=>kW ((L2.mX ds.length n).map λm=>U2.set i (.ow (.lst (ds.set m v.d)) p false))
  |_,_=>none
  else if AH U1 i then(ev P C false k U1).flow λj U2=>AS i U2 U2[i]? (dD j.d) v
  else none
 |.expr e,U=>(ev P C false e U).flow λ_ U1=>some (.nx,U1)
 |.ret e,U=>match e with
  |.var i=>match U[i]? with
   |some (.ow d false _)=>some (.rt (.ow d),U.set i .mv)
   |some (.sh d)=>some (.rt (.sh d),U)
   |_=>none
  |e=>(ev P C false e U).flow λv U1=>some (.rt v,U1)
 |.retN,U=>some (.rt (.sh .non),U)
 |.ifs c a b,U=>(ev P C true c U).flow λv U1=>match v with
  |.sh (.bl true)=>exs P C W a U1
  |.sh (.bl false)=>exs P C W b U1
  |_=>none
 |.for tg one k its body,U=>(cU P C its U).flow λhs U1 =>
  match aD k hs U1 with
  |none=>none
  |some (ds,o)=>(bZ (aU one tg) (exs P C W body) ds (aQ o U1)).restore o U1
 |.whl c body,U=>lF (ev P C true c) (exs P C W body) W U
 |.rse _ _,_=>none
 |.rsi _ _,_=>none
 |.scr i j e c,U=>aH7 i j U (ev P C false e) (ev P C true c)
noncomputable def exs(P:aW)(C:Calls)(W:Nat):List S->Env->dB
 |[],U=>some (.nx,U)
 |s::r,U=>(ex P C W s U).next (exs P C W r)
noncomputable def exX(P:aW)(C:Calls)(W:Nat):S->Env->Option (Exc×Env)
 |.asg _ e,U=>V3 P C e U
 |.expr e,U=>V3 P C e U
 |.ret e,U=>V3 P C e U
 |.rse c es,U=>match oS P C es U with
  |some (.ok _,U1)=>some (⟨c,none⟩,U1)
  |_=>none
 |.ifs c a b,U=>match ev P C true c U with
  |some (.ok (.sh (.bl true)),U1)=>LD P C W a U1
  |some (.ok (.sh (.bl false)),U1)=>LD P C W b U1
  |_=>none
 |_,_=>none
noncomputable def LD(P:aW)(C:Calls)(W:Nat):List S->Env->Option (Exc×Env)
 |[],_=>none
 |s::r,U=>match ex P C W s U with
  |some (.nx,U1)=>LD P C W r U1
  |_=>exX P C W s U
end
abbrev tX:=String->Option Fn
noncomputable def tX.pins(T:tX):aW:=λf=>match T f with
 |some fn=>fn.pins
 |none=>[]
noncomputable def run(T:tX)(W:Nat):Nat->Calls
 | 0=>λ_ _=>none
 |n+1=>λf as=>match T f with
  |none=>none
  |some fn=>if as.length=fn.pins.length/\as.all nK=true then
    match exs T.pins (run T W n) W fn.body (as++List.replicate fn.nl .un) with
    |some (.nx,U)=>some (.ok (.sh .non),back as U)
    |some (.rt v,U)=>some (.ok v,back as U)
    |_=>if fn.rs then match LD T.pins (run T W n) W fn.body (as++List.replicate fn.nl .un) with
     |some (x,U)=>some (.ex x,back as U)
     |none=>none
     else none
   else none
end
end CI
namespace CI
open PySem PySem.Spec PyProof.Rows L2
abbrev St:=L2.St
abbrev Sm(G G':Hp):Prop:=aV G G'
def Sm.of(s:aV G G'):Sm G G':=s
theorem Sm.refl(G:Hp):Sm G G:=aV.refl G
theorem Sm.trans(a:Sm G G1)(b:Sm G1 G2):Sm G G2:=aV.trans a b
theorem Sm.seq{K:Frag}(e:Sm G G')(h:bU K G a xs):bU K G' a xs:=aV.seq e h
def Sm.app(s:Sm G G')(n:∀x,o≠.own x)(h:G b=some o):G' b=some o:=s b o h
structure ClsF(K:Frag)(C:Addr)(ns:List Str):Prop where
 cl:Cls K C
 no:∀f∈ns,mQ K C f
noncomputable def pW(ks:List Int)(vs:List V):List (kT×V):=(ks.zip vs).map λp=>(Sum.inl p.1,p.2)
def FW(K:Frag)(G:Hp)(a:Addr)(ks:List bO)(vs:List V)(xs:sX):Prop:=(xs.map (·.1)).Nodup/\xs.length<=sizeLine/\(a==sysModules)=false/\(∀x∈xs,bR K G x.1 x.2.1)/\xs.map (·.1)=ks/\aO vs (xs.map (·.2.2))
def XD(K:Frag)(G:Hp)(C:Addr)(p:Option Addr)(n:Option Int):Prop:=True
def XD.mono{K:Frag}(s:Sm G G'){n:Option Int}(h:XD K G C p n):XD K G' C p n:=trivial
mutual
def aC(K:Frag)(G:Hp):D->V->Prop
 |.non,v=>v=.non
 |.bl b,v=>v=.bl b
 |.int i,v=>v=.int i
 |.str x,v=>v=.str x/\PyData.strOk x=true
 |.tup ds,v=>∃a vs,v=.ref a/\dE K G a vs/\aB K G ds vs
 |.lst ds,v=>∃a vs,v=.ref a/\bU K G a vs/\aB K G ds vs
 |.ins c ns ds,v=>∃a C dx vs,v=.ref a/\nsIn K mainGlobals c=some (some (.ref C))/\G a=some (.ins C dx (ns.zip vs))/\aB K G ds vs/\ClsF K C ns/\ns.length=vs.length
 |.dcs ks ds,v=>∃a xs vs,v=.ref a/\W3 G a xs/\FW K G a ks vs xs/\aB K G ds vs
 |.dci ks ds,v=>∃a vs,v=.ref a/\G a=some (.dK (pW ks vs))/\aB K G ds vs/\ks.length=ds.length
def aB(K:Frag)(G:Hp):List D->List V->Prop
 |[],vs=>vs=[]
 |d::ds,vs=>∃v r,vs=v::r/\aC K G d v/\aB K G ds r
end
def dJ{K:Frag}(s:Sm G G')(h:dE K G a vs):dE K G' a vs:=by
 rcases h with (h | ⟨o,h⟩) | h
 ·exact .inl (.inl (s.app (λ_ z=>nomatch z) h))
 ·exact .inl (.inr ⟨o,s.app (λ_ z=>nomatch z) h⟩)
 ·exact .inr h
def lC.mono{K:Frag}(s:Sm G G')(h:lC K G k b):lC K G' k b:=let ⟨c,h1,h2⟩:=h;⟨c,dJ s h1,dJ s h2⟩
theorem bR.mono{K:Frag}(s:Sm G G'):∀{k:bO} {b:Addr},bR K G k b->bR K G' k b
 |.inl _,_,h=>lC.mono s h
 |.inr _,_,h=>let ⟨c,d,h1,h2,h3⟩:=h;⟨c,d,dJ s h1,lC.mono s h2,lC.mono s h3⟩
theorem FW.mono{K:Frag}(s:Sm G G')(h:FW K G a ks vs xs):FW K G' a ks vs xs:=⟨h.1,h.2.1,h.2.2.1,λx hx=>bR.mono s (h.2.2.2.1 x hx),h.2.2.2.2⟩
mutual
theorem aC.mono{K:Frag}(s:Sm G G'):∀(d:D) {v:V},aC K G d v->aC K G' d v
 |.non,_,h=>by simpa[aC] using h
 |.bl _,_,h=>by simpa[aC] using h
 |.int _,_,h=>by simpa[aC] using h
 |.str _,_,h=>by simpa[aC] using h
 |.tup ds,_,h=>by
  simp only[aC] at h ⊢;obtain⟨a,vs,e,h1,h2⟩:=h;exact⟨a,vs,e,dJ s h1,aB.mono s ds h2⟩
 |.lst ds,_,h=>by
  simp only[aC] at h ⊢;obtain⟨a,vs,e,h1,h2⟩:=h;exact⟨a,vs,e,s.seq h1,aB.mono s ds h2⟩
 |.ins c ns ds,_,h=>by
  simp only[aC] at h ⊢;obtain⟨a,C,dx,vs,e,h1,h2,h3,h4,h5⟩:=h;exact⟨a,C,dx,vs,e,h1,s.app (λ_ z=>nomatch z) h2,aB.mono s ds h3,h4,h5⟩
 |.dcs ks ds,_,h=>by
  simp only[aC] at h ⊢;obtain⟨a,xs,vs,e,⟨ep,h1⟩,h2,h3⟩:=h;exact⟨a,xs,vs,e,⟨ep,s.app (λ_ z=>nomatch z) h1⟩,h2.mono s,aB.mono s ds h3⟩
 |.dci ks ds,_,h=>by(simp only[aC] at h ⊢;obtain⟨a,vs,e,h1,h2,h3⟩:=h;exact⟨a,vs,e,s.app (λ_ z=>nomatch z) h1,aB.mono s ds h2,h3⟩)
theorem aB.mono{K:Frag}(s:Sm G G'):∀(ds:List D) {vs:List V},aB K G ds vs->aB K G' ds vs
 |[],_,h=>by simpa[aB] using h
 |d::ds,_,h=>by(simp only[aB] at h ⊢;obtain⟨v,r,e,h1,h2⟩:=h;exact⟨v,r,e,aC.mono s d h1,aB.mono s ds h2⟩)
end
theorem aB.len{K:Frag}:∀{ds:List D} {vs:List V},aB K G ds vs->vs.length=ds.length
 |[],_,h=>by simp only[aB] at h;subst h;rfl
 |d::ds,_,h=>by(simp only[aB] at h;obtain⟨v,r,rfl,_,h2⟩:=h;simp[aB.len h2])
def aB.nil{K:Frag}:aB K G [] []:=by simp[aB]
def aB.cons{K:Frag}{G:Hp}{d:D}{ds:List D}{v:V}{vs:List V}(h:aC K G d v)(t:aB K G ds vs):aB K G (d::ds) (v::vs):=by
 simp only[aB];exact⟨v,vs,rfl,h,t⟩
theorem aB.app{K:Frag}:∀{ds es:List D} {vs ws:List V},aB K G ds vs->aB K G es ws->aB K G (ds++es) (vs++ws)
 |[],_,_,_,h,h'=>by simp only[aB] at h;subst h;exact h'
 |d::ds,_,_,_,h,h'=>by(simp only[aB] at h;obtain⟨v,r,rfl,h1,h2⟩:=h;exact aB.cons h1 (aB.app h2 h'))
theorem aB.rev{K:Frag}:∀{ds:List D} {vs:List V},aB K G ds vs->aB K G ds.reverse vs.reverse
 |[],vs,h=>by
  cases (show vs=[] from h);exact(show aB K G [] [] from rfl)
 |d::ds,vs,h=>by
  obtain⟨v,r,rfl,h1,h2⟩:=(show ∃v r,vs=v::r/\aC K G d v/\aB K G ds r from h)
  rw[List.reverse_cons,List.reverse_cons];exact h2.rev.app (show aB K G [d] [v] from⟨v,[],rfl,h1,rfl⟩)
theorem aB.get{K:Frag}:∀{ds:List D} {vs:List V} {i:Nat} {d:D},aB K G ds vs->ds[i]?=some d->∃v,vs[i]?=some v/\aC K G d v
 |[],_,_,_,_,e=>by simp at e
 |d::ds,_,0,_,h,e=>by
  simp only[aB] at h;obtain⟨v,r,rfl,h1,h2⟩:=h;simp at e;subst e;exact⟨v,rfl,h1⟩
 |d::ds,_,i+1,_,h,e=>by
  simp only[aB] at h;obtain⟨v,r,rfl,h1,h2⟩:=h
  have:=aB.get h2 (by simpa using e)
  simpa using this
theorem aB.set{K:Frag}(hv:aC K G d v):∀{ds:List D} {vs:List V} (i:Nat),aB K G ds vs->aB K G (ds.set i d) (vs.set i v)
 |[],_,_,h=>by simp only[aB] at h;subst h;simp[aB]
 |e::ds,_,0,h=>by
  simp only[aB] at h;obtain⟨u,r,rfl,h1,h2⟩:=h;exact aB.cons hv h2
 |e::ds,_,i+1,h=>by(simp only[aB] at h;obtain⟨u,r,rfl,h1,h2⟩:=h;exact aB.cons h1 (aB.set hv i h2))
theorem aB.take{K:Frag}:∀{ds:List D} {vs:List V} (n:Nat),aB K G ds vs->aB K G (ds.take n) (vs.take n)
 |_,_,0,_=>by simp[aB]
 |[],_,_+1,h=>by simp only[aB] at h;subst h;simp[aB]
 |e::ds,_,n+1,h=>by(simp only[aB] at h;obtain⟨u,r,rfl,h1,h2⟩:=h;exact aB.cons h1 (aB.take n h2))
theorem aB.drop{K:Frag}:∀{ds:List D} {vs:List V} (n:Nat),aB K G ds vs->aB K G (ds.drop n) (vs.drop n)
 |_,_,0,h=>h
 |[],_,_+1,h=>by simp only[aB] at h;subst h;simp[aB]
 |e::ds,_,n+1,h=>by(simp only[aB] at h;obtain⟨u,r,rfl,h1,h2⟩:=h;exact aB.drop n h2)
theorem aB.rep{K:Frag}(h:aB K G ds vs):∀n,aB K G (List.replicate n ds).flatten (List.replicate n vs).flatten
 | 0=>aB.nil
 |n+1=>by(rw[List.replicate_succ,List.replicate_succ,List.flatten_cons,List.flatten_cons];exact aB.app h (aB.rep h n))
def gL(K:Frag)(H G:Hp)(a:Addr):D->Prop
 |.lst ds=>∃vs,H a=some (.lst vs)/\aB K G ds vs
 |.dcs ks ds=>∃xs vs,W3 H a xs/\FW K G a ks vs xs/\aB K G ds vs
 |_=>False
def aL(U:Env)(Y:St)(a:Addr):Prop:=∃(i:Nat) (d:D) (p l:Bool),U[i]?=some (.ow d p l)/\Y[i]?=some (some (.ref a))
structure Rel(K:Frag)(U:Env)(Y:St)(H G:Hp):Prop where
 len:U.length=Y.length
 sub:aV G H
 sh:∀(i:Nat) (d:D),U[i]?=some (.sh d)->∃v,Y[i]?=some (some v)/\aC K G d v
 ow:∀(i:Nat) (d:D) (p l:Bool),U[i]?=some (.ow d p l)->∃a,Y[i]?=some (some (.ref a))/\G a=none/\gL K H G a d
 inj:∀(i j:Nat) (d:D) (p l:Bool) (d':D) (p' l':Bool) (a:Addr),U[i]?=some (.ow d p l)->U[j]?=some (.ow d' p' l')->Y[i]?=some (some (.ref a))->Y[j]?=some (some (.ref a))->i=j
structure Ext(own:Addr->Prop)(H G H' G':Hp):Prop where
 gg:Sm G G'
 hh:∀a o,H a=some o->¬own a->H' a=some o
 hx:∀a,H' a=none->H a=none
 gn:∀a,H a≠none->G a=none->¬own a->G' a=none
theorem Ext.refl:Ext own H G H G:=⟨Sm.refl _,λ_ _ h _=>h,λ_ h=>h,λ_ _ h _=>h⟩
theorem Ext.trans(a:Ext own H G H1 G1)(w:∀x,own1 x->own x\/H x=none)(b:Ext own1 H1 G1 H2 G2):Ext own H G H2 G2:=by
 refine⟨a.gg.trans b.gg,λx o h n=>?_,λx h=>a.hx x (b.hx x h),λx h g n=>?_⟩
 ·refine b.hh x o (a.hh x o h n) λz=>?_
  rcases w x z with z | z
  ·exact n z
  ·rw[h] at z;cases z
 ·have h1:H1 x≠none:=λz=>h (a.hx x z)
  refine b.gn x h1 (a.gn x h g n) λz=>?_
  rcases w x z with z | z
  ·exact n z
  ·exact h z
def Ext.weaken(a:Ext own H G H1 G1)(w:∀x,own x->own' x):Ext own' H G H1 G1 :=
 ⟨a.gg,λx o h n=>a.hh x o h λz=>n (w x z),a.hx,λx h g n=>a.gn x h g λz=>n (w x z)⟩
def nF(H:Hp)(own new:Addr->Prop)(vs:List V):Prop:=∀x∈vs,∃b ws,x=.ref b/\H b=some (.lst ws)/\ws.length<=1000/\¬own b/\new b
def Rows(H:Hp)(own new:Addr->Prop)(a:Addr):Prop:=∃vs,H a=some (.lst vs)/\nF H own (λb=>new b/\b≠a) vs
def nF.step(h:nF H own new vs)(e:∀b o,H b=some o->¬own b->H' b=some o)(w:∀b,own' b->own b\/H b=none):nF H' own' new vs:=λx hx=>by
 obtain⟨b,ws,h1,h2,h3,h4,h5⟩:=h x hx;refine⟨b,ws,h1,e b _ h2 h4,h3,λz=>?_,h5⟩;rcases w b z with z | z
 ·exact h4 z
 ·rw[h2] at z;cases z
theorem nF.new{own new new':Addr->Prop}(h:nF H own new vs)(w:∀b,new b->new' b):nF H own new' vs:=λx hx=>let ⟨b,ws,h1,h2,h3,h4,h5⟩:=h x hx;⟨b,ws,h1,h2,h3,h4,w b h5⟩
def cR(K:Frag)(H G:Hp)(own:Addr->Prop)(new:Addr->Prop):RV->V->Prop
 |.sh d,v=>aC K G d v
 |.ow d,v=>∃a,v=.ref a/\G a=none/\gL K H G a d/\¬own a/\new a
 |.od d,v=>∃a,v=.ref a/\G a=none/\gL K H G a d/\¬own a/\new a/\Rows H own new a
def cF(K:Frag)(H G:Hp)(d:D)(v:V):Prop:=aC K G d v\/∃a,v=.ref a/\gL K H G a d
def iB(K:Frag)(H G:Hp)(own:Addr->Prop)(new:Addr->Prop)(Y:St):Hd->V->Prop
 |.slot i,v=>Y[i]?=some (some v)
 |.val (.od _),_=>False
 |.val r,v=>cR K H G own new r v
section
variable{K:Frag}{own own' new new':Addr->Prop}
theorem gL.mono(h:gL K H G a d)(s:Sm G G')(e:∀o,H a=some o->H' a=some o):gL K H' G' a d:=by
 cases d with
 |lst ds =>
  obtain⟨vs,h1,h2⟩:=h;exact⟨vs,e _ h1,aB.mono s _ h2⟩
 |dcs ks ds=>obtain⟨xs,vs,⟨ep,h1⟩,h2,h3⟩:=h;exact⟨xs,vs,⟨ep,e _ h1⟩,h2.mono s,aB.mono s ds h3⟩
 |_=>exact h
def gL.put(h:gL K H G a d):∃o,H a=some o/\∀G',Sm G G'->G' a=some o->aC K G' d (.ref a):=by
 cases d with
 |lst ds =>
  obtain⟨vs,h1,h2⟩:=h;exact⟨_,h1,λG' s e=>by simp only[aC];exact⟨a,vs,rfl,bU.of e,aB.mono s ds h2⟩⟩
 |dcs ks ds=>obtain⟨xs,vs,⟨ep,h1⟩,h2,h3⟩:=h;exact⟨_,h1,λG' s e=>by simp only[aC];exact⟨a,xs,vs,rfl,⟨ep,e⟩,h2.mono s,aB.mono s ds h3⟩⟩
 |_=>exact h.elim
def gL.there(h:gL K H G a d):∃o,H a=some o:=let ⟨o,h,_⟩:=h.put;⟨o,h⟩
def Rel.owned(r:Rel K U Y H G)(o:aL U Y a):H a≠none/\G a=none:=by
 obtain⟨i,d,p,l,h1,h2⟩:=o;obtain⟨b,e,g,h⟩:=r.ow i d p l h1;rw[h2] at e;cases e;obtain⟨vs,h⟩:=h.there;exact⟨by rw[h];simp,g⟩
def cR.wait(h:cR K H G own new v x)(e:Ext own H G H' G')(w:∀a,own' a->own a\/H a=none):cR K H' G' own' new v x:=by
 cases v with
 |sh d=>exact aC.mono e.gg d h
 |ow d =>
  obtain⟨a,rfl,g,o,n,m⟩:=h;obtain⟨vs,hv⟩:=o.there;have ne:H a≠none:=by rw[hv];simp
  refine⟨a,rfl,e.gn a ne g n,o.mono e.gg λo' h'=>e.hh a o' h' n,λz=>?_,m⟩;rcases w a z with z | z
  ·exact n z
  ·exact ne z
 |od d =>
  obtain⟨a,rfl,g,o,n,m,vs,hv,hr⟩:=h;have ne:H a≠none:=by rw[hv];simp
  refine⟨a,rfl,e.gn a ne g n,o.mono e.gg λo' h'=>e.hh a o' h' n,λz=>?_,m,vs,e.hh a _ hv n,hr.step e.hh w⟩;rcases w a z with z | z
  ·exact n z
  ·exact ne z
theorem iB.wait(h:iB K H G own new Y v x)(e:Ext own H G H' G')(w:∀a,own' a->own a\/H a=none):iB K H' G' own' new Y v x:=by
 cases v with
 |slot i=>exact h
 |val r=>cases r with
  |od d=>exact h.elim
  |sh d=>exact aC.mono e.gg d h
  |ow d=>exact cR.wait (v:=.ow d) h e w
def cR.new_mono(h:cR K H G own new v x)(w:∀a,new a->new' a):cR K H G own new' v x:=by
 cases v with
 |sh d=>exact h
 |ow d =>
  obtain⟨a,rfl,g,o,n,m⟩:=h;exact⟨a,rfl,g,o,n,w a m⟩
 |od d =>
  obtain⟨a,rfl,g,o,n,m,vs,hv,hr⟩:=h;exact⟨a,rfl,g,o,n,w a m,vs,hv,hr.new λb z=>⟨w b z.1,z.2⟩⟩
theorem cR.low(h:cR K H G own new v x):cR K H G own new v.low x:=by
 cases v with
 |sh d=>exact h
 |ow d=>exact h
 |od d =>
  obtain⟨a,rfl,g,o,n,m,_⟩:=h;exact⟨a,rfl,g,o,n,m⟩
def iB.of(h:cR K H G own new v x):iB K H G own new Y (.val v.low) x:=by
 have:=h.low
 cases v<;>exact this
theorem iB.new_mono(h:iB K H G own new Y v x)(w:∀a,new a->new' a):iB K H G own new' Y v x:=by
 cases v with
 |slot i=>exact h
 |val r=>cases r with
  |od d=>exact h.elim
  |sh d=>exact h
  |ow d=>exact cR.new_mono (v:=.ow d) h w
def cR.readR(h:cR K H G own new v x):cF K H G v.d x:=by
 cases v with
 |sh d=>exact .inl h
 |ow d =>
  obtain⟨a,rfl,g,o,n,m⟩:=h;exact .inr ⟨a,rfl,o⟩
 |od d =>
  obtain⟨a,rfl,g,o,n,m,_⟩:=h;exact .inr ⟨a,rfl,o⟩
theorem Rel.get(r:Rel K U Y H G){i:Nat}(h:(U[i]?).bind Sl.get=some d)(hx:Y[i]?=some (some x)):cF K H G d x:=by
 cases e:U[i]? with
 |none=>rw[e] at h;cases h
 |some sl =>
  rw[e] at h
  cases sl with
  |un=>cases h
  |mv=>cases h
  |sh d' =>
   cases h;obtain⟨v,h1,h2⟩:=r.sh i _ e;rw[hx] at h1;cases h1;exact .inl h2
  |ow d' p l =>
   cases h;obtain⟨a,h1,_,h2⟩:=r.ow i _ p l e;rw[hx] at h1;cases h1;exact .inr ⟨a,rfl,h2⟩
def iB.read(h:iB K H G own new Y v x)(r:Rel K U Y H G)(e:v.get U=some d):cF K H G d x:=by
 cases v with
 |slot i=>exact r.get e h
 |val u =>
  simp only[Hd.get,Option.some.injEq] at e;subst e
  cases u with
  |od d=>exact h.elim
  |sh d=>exact .inl h
  |ow d=>exact cR.readR (v:=.ow d) h
def Rel.bound(r:Rel K U Y H G){i:Nat}(h:((U[i]?).bind Sl.get).isSome=true):∃v,Y[i]?=some (some v):=by
 cases e:U[i]? with
 |none=>rw[e] at h;cases h
 |some sl =>
  rw[e] at h
  cases sl with
  |un=>cases h
  |mv=>cases h
  |sh d' =>
   obtain⟨v,h1,h2⟩:=r.sh i _ e;exact⟨v,h1⟩
  |ow d' p l =>
   obtain⟨a,h1,_,h2⟩:=r.ow i _ p l e;exact⟨_,h1⟩
theorem cF.lst{ds:List D}{x:V}(s:aV G H)(h:cF K H G (.lst ds) x):∃a vs,x=.ref a/\bU K H a vs/\aB K G ds vs:=by
 rcases h with h | ⟨a,rfl,h⟩
 ·simp only[aC] at h;obtain⟨a,vs,e,h1,h2⟩:=h;exact⟨a,vs,e,s.seq h1,h2⟩
 ·obtain⟨vs,h1,h2⟩:=h;exact⟨a,vs,rfl,bU.of h1,h2⟩
theorem cF.tup{ds:List D}{x:V}(s:aV G H)(h:cF K H G (.tup ds) x):∃a vs,x=.ref a/\dE K H a vs/\aB K G ds vs:=by
 rcases h with h | ⟨a,rfl,h⟩
 ·simp only[aC] at h;obtain⟨a,vs,e,h1,h2⟩:=h;exact⟨a,vs,e,dJ s h1,h2⟩
 ·exact h.elim
theorem cF.int(h:cF K H G (.int i) x):x=.int i:=by
 rcases h with h | ⟨a,rfl,h⟩
 ·simpa[aC] using h
 ·exact h.elim
theorem cF.bl(h:cF K H G (.bl i) x):x=.bl i:=by
 rcases h with h | ⟨a,rfl,h⟩
 ·simpa[aC] using h
 ·exact h.elim
theorem cF.str(h:cF K H G (.str i) x):x=.str i/\PyData.strOk i=true:=by
 rcases h with h | ⟨a,rfl,h⟩
 ·simpa[aC] using h
 ·exact h.elim
theorem cF.non(h:cF K H G .non x):x=.non:=by
 rcases h with h | ⟨a,rfl,h⟩
 ·simpa[aC] using h
 ·exact h.elim
def u9(h:aC K G (.bl i) x):x=.bl i:=by simpa[aC] using h
def aV.laid(h:H a=none):aV H (aP H a o):=λb u e=>by rw[aM (bW e h)];exact e
theorem Sm.laid(h:H a=none):Sm H (aP H a o):=Sm.of (aV.laid h)
def Sm.put(h:H a=none):Sm H (aP H a o):=Sm.laid h
def Rel.layG(r:Rel K U Y H G)(h:H a=none):Rel K U Y (aP H a o) (aP G a o):=by
 have hg:G a=none:=aV.free r.sub h;refine⟨r.len,λb u e=>?_,λi d e=>?_,λi d p l e=>?_,r.inj⟩
 ·by_cases hb:b=a
  ·subst hb;rw[bA] at e ⊢;exact e
  ·rw[aM hb] at e ⊢;exact r.sub b u e
 ·obtain⟨v,h1,h2⟩:=r.sh i d e;exact⟨v,h1,aC.mono (Sm.laid hg) d h2⟩
 ·obtain⟨b,h1,h2,h3⟩:=r.ow i d p l e;obtain⟨vs,hv⟩:=h3.there;have hb:b≠a:=bW hv h;refine⟨b,h1,by rw[aM hb];exact h2,h3.mono (Sm.laid hg) λo' h'=>by rw[aM hb];exact h'⟩
def Ext.layG(s:aV G H)(h:H a=none):Ext own H G (aP H a o) (aP G a o):=by
 have hg:G a=none:=aV.free s h;refine⟨Sm.laid hg,λb u e _=>aV.laid h b u e,λb e=>?_,λb e g _=>?_⟩
 ·by_cases hb:b=a
  ·subst hb;exact h
  ·rwa[aM hb] at e
 ·by_cases hb:b=a
  ·subst hb;exact absurd h e
  ·rw[aM hb];exact g
def Rel.layH(r:Rel K U Y H G)(h:H a=none):Rel K U Y (aP H a o) G:=by
 refine⟨r.len,r.sub.trans (aV.laid h),r.sh,λi d p l e=>?_,r.inj⟩;obtain⟨b,h1,h2,h3⟩:=r.ow i d p l e;obtain⟨vs,hv⟩:=h3.there;have hb:b≠a:=bW hv h;exact⟨b,h1,h2,h3.mono (Sm.refl _) λo' h'=>by rw[aM hb];exact h'⟩
def Ext.layH(h:H a=none):Ext own H G (aP H a o) G:=by
 refine⟨Sm.refl _,λb u e _=>aV.laid h b u e,λb e=>?_,λb e g _=>g⟩;by_cases hb:b=a
 ·subst hb;exact h
 ·rwa[aM hb] at e
def Rel.notOwn(r:Rel K U Y H G)(h:H a=none):¬aL U Y a:=λo=>(r.owned o).1 h
def aV.put(h:G a=none):aV G (aP G a o):=aV.laid h
def cR.share(h:cR K H G (aL U Y) new v x)(r:Rel K U Y H G)(hn:∀a,new a->own a\/new' a) :
  ∃G',Rel K U Y H G'/\aV G G'/\(∀a,G' a≠none->G a≠none\/new a)/\aC K G' v.d x:=by
 have main:∀d,cR K H G (aL U Y) new (.ow d) x->∃G',Rel K U Y H G'/\aV G G'/\(∀a,G' a≠none->G a≠none\/new a)/\aC K G' d x:=by
  intro d h;obtain⟨a,rfl,g,o,n,m⟩:=h;obtain⟨ob,hv,hr⟩:=o.put;refine⟨aP G a ob,⟨r.len,λb u e=>?_,λi d e=>?_,λi d p l e=>?_,r.inj⟩,aV.put g,λb z=>?_, ?_⟩
  ·by_cases hb:b=a
   ·subst hb;rw[bA] at e;rw[hv];exact e
   ·rw[aM hb] at e;exact r.sub b u e
  ·obtain⟨v,h1,h2⟩:=r.sh i d e;exact⟨v,h1,aC.mono (Sm.put g) d h2⟩
  ·obtain⟨b,h1,h2,h3⟩:=r.ow i d p l e;have hb:b≠a:=λz=>by subst z;exact n ⟨i,d,p,l,e,h1⟩
   exact⟨b,h1,by rw[aM hb];exact h2,h3.mono (Sm.put g) λ_ z=>z⟩
  ·by_cases hb:b=a
   ·subst hb;exact .inr m
   ·rw[aM hb] at z;exact .inl z
  ·exact hr _ (Sm.put g) bA
 cases v with
 |sh d=>exact⟨G,r,aV.refl _,λa z=>.inl z,h⟩
 |ow d=>exact main d h
 |od d=>exact main d h.low
end
def eF:Option Sl->Option Sl->Prop
 |some (.ow _ p l),some (.ow _ p' l')=>p=p'/\l=l'
 |some (.ow _ p _),some (.sh _)=>p=false
 |some .un,some .un=>True
 |some .mv,some .mv=>True
 |some (.sh _),some (.sh _)=>True
 |none,none=>True
 |_,_=>False
def eF.refl(a:Option Sl):eF a a:=by
 cases a with
 |none=>trivial
 |some s=>cases s<;>first | trivial | exact⟨rfl,rfl⟩
theorem eF.trans(h:eF a b)(h':eF b c):eF a c:=by
 cases a with
 |none =>
  cases b with
  |none=>exact h'
  |some t=>cases t<;>exact h.elim
 |some s =>
  cases b with
  |none=>cases s<;>exact h.elim
  |some t =>
   cases c with
   |none=>cases t<;>exact h'.elim
   |some u=>cases s<;>cases t<;>first | exact h.elim | (cases u<;>first | exact h'.elim | trivial | exact⟨h.1.trans h'.1,h.2.trans h'.2⟩ | exact h.1.trans h' | exact h)
def eF.ow_of(h:eF a (some (.ow d p l))):∃d',a=some (.ow d' p l):=by
 cases a with
 |none=>exact h.elim
 |some s=>cases s<;>first | exact h.elim | (obtain⟨rfl,rfl⟩:=h;exact⟨_,rfl⟩)
def jU(U U':Env):Prop:=∀i:Nat,eF U[i]? U'[i]?
theorem jU.refl(U:Env):jU U U:=λ_=>eF.refl _
theorem jU.trans(h:jU a b)(h':jU b c):jU a c:=λi=>(h i).trans (h' i)
def jU.own(h:jU U U')(a:Addr)(o:aL U' Y a):aL U Y a:=by
 obtain⟨i,d,p,l,h1,h2⟩:=o
 have:=h i
 rw[h1] at this;obtain⟨d',e⟩:=this.ow_of;exact⟨i,d',p,l,e,h2⟩
theorem jU.set(h:eF U[i]? (some s)):jU U (U.set i s):=λj=>by
 by_cases hij:j=i
 ·subst hij;by_cases hl:j<U.length
  ·rw[zk hl];exact h
  ·rw[List.getElem?_eq_none (by omega)] at h;cases s<;>exact h.elim
 ·rw[Zf (λz=>hij z.symm)];exact eF.refl _
structure Aft(K:Frag)(U:Env)(Y:St)(H G:Hp)(U':Env)(H' G':Hp):Prop where
 rel:Rel K U' Y H' G'
 ext:Ext (aL U Y) H G H' G'
 evo:jU U U'
section
variable{K:Frag}
theorem Aft.own(a:Aft K U Y H G U' H' G'):∀a,aL U' Y a->aL U Y a:=λx h=>a.evo.own x h
theorem Aft.refl(r:Rel K U Y H G):Aft K U Y H G U H G:=⟨r,Ext.refl,jU.refl _⟩
theorem Aft.trans(a:Aft K U Y H G U1 H1 G1)(b:Aft K U1 Y H1 G1 U2 H2 G2):Aft K U Y H G U2 H2 G2 :=
 ⟨b.rel,a.ext.trans (λx h=>.inl (a.own x h)) b.ext,a.evo.trans b.evo⟩
abbrev dR(H:Hp):Addr->Prop:=λa=>H a=none
def Aft.fresh(a:Aft K U Y H G U1 H1 G1)(h:H1 x=none):H x=none:=a.ext.hx x h
def Aft.shareS(a:Aft K U Y H G U' H' G')(h:cR K H' G' (aL U' Y) (dR H) v x):∃G2,Aft K U Y H G U' H' G2/\aC K G2 v.d x/\aV G' G2:=by
 obtain⟨G2,r2,s2,n2,h2⟩:=h.share (own:=λ_=>False) (new':=dR H) a.rel (λ_ z=>.inr z);refine⟨G2,⟨r2,⟨a.ext.gg.trans s2,a.ext.hh,a.ext.hx,λb hb gb nb=>?_⟩,a.evo⟩,h2,s2⟩
 cases e:G2 b with
 |none=>rfl
 |some o =>
  rcases n2 b (by rw[e];simp) with z | z
  ·exact absurd (a.ext.gn b hb gb nb) z
  ·exact absurd z hb
def Aft.share(a:Aft K U Y H G U' H' G')(h:cR K H' G' (aL U' Y) (dR H) v x):∃G2,Aft K U Y H G U' H' G2/\aC K G2 v.d x:=let ⟨G2,h1,h2,_⟩:=a.shareS h;⟨G2,h1,h2⟩
theorem Aft.layG(a:Aft K U Y H G U' H' G')(h:H' p=none):Aft K U Y H G U' (aP H' p o) (aP G' p o) :=
 a.trans ⟨a.rel.layG h,Ext.layG a.rel.sub h,jU.refl _⟩
theorem Aft.layH(a:Aft K U Y H G U' H' G')(h:H' p=none):Aft K U Y H G U' (aP H' p o) G' :=
 a.trans ⟨a.rel.layH h,Ext.layH h,jU.refl _⟩
def Aft.own_new(a:Aft K U Y H G U' H' G')(h:H' p=none)(r:aB K G' ds vs) :
  Aft K U Y H G U' (aP H' p (.lst vs)) G'/\cR K (aP H' p (.lst vs)) G' (aL U' Y) (dR H) (.ow (.lst ds)) (.ref p) :=
 ⟨a.layH h,p,rfl,aV.free a.rel.sub h,⟨vs,bA,r⟩,a.rel.notOwn h,a.fresh h⟩
def Aft.dcs_new(a:Aft K U Y H G U' H' G')(h:H' p=none)(r:FW K G' p ks vs xs)(q:aB K G' ds vs) :
  Aft K U Y H G U' (aP H' p (.ext (cJ p xs ep))) G'/\cR K (aP H' p (.ext (cJ p xs ep))) G' (aL U' Y) (dR H) (.ow (.dcs ks ds)) (.ref p) :=
 ⟨a.layH h,p,rfl,aV.free a.rel.sub h,⟨xs,vs,⟨_,bA⟩,r,q⟩,a.rel.notOwn h,a.fresh h⟩
def Aft.tup_new(a:Aft K U Y H G U' H' G')(h:H' p=none)(r:aB K G' ds vs) :
  Aft K U Y H G U' (aP H' p (.tup vs)) (aP G' p (.tup vs))/\cR K (aP H' p (.tup vs)) (aP G' p (.tup vs)) (aL U' Y) (dR H) (.sh (.tup ds)) (.ref p):=by
 refine⟨a.layG h, ?_⟩;show aC K _ (.tup ds) _;simp only[aC];exact⟨p,vs,rfl,dE.of bA,aB.mono (Sm.laid (aV.free a.rel.sub h)) ds r⟩
end
def oE:List Hd->List V->Addr->Prop
 |.val (.ow _)::hs,x::xs,a=>x=.ref a\/oE hs xs a
 |_::hs,_::xs,a=>oE hs xs a
 |_,_,_=>False
def dZ(K:Frag)(H G:Hp)(own new:Addr->Prop)(Y:St):List Hd->List V->Prop
 |[],xs=>xs=[]
 |h::hs,xs=>∃x r,xs=x::r/\iB K H G own new Y h x/\dZ K H G own new Y hs r/\∀d a,h=.val (.ow d)->x=.ref a->¬oE hs r a
section
variable(K:Frag)(P:aW)(C:Calls)
noncomputable def tE(c:E):TE:=λY H Q=>∃(U:Env) (G:Hp) (v:RV) (U':Env),Rel K U Y H G/\ev P C false c U=some (.ok v,U') /\
 ∀x H' G',Aft K U Y H G U' H' G'->cR K H' G' (aL U' Y) (dR H) v x->Q x H'
noncomputable def tT(c:E):TT:=λY H Q=>∃(U:Env) (G:Hp) (b:Bool) (U':Env),Rel K U Y H G/\ev P C true c U=some (.ok (.sh (.bl b)),U') /\
 ∀H' G',Aft K U Y H G U' H' G'->Q b H'
noncomputable def tH(c:E):TE:=λY H Q=>∃(U:Env) (G:Hp) (h:Hd) (U':Env),Rel K U Y H G/\hd c (ev P C false c U) U=some (.ok h,U') /\
 ∀x H' G',Aft K U Y H G U' H' G'->iB K H' G' (aL U' Y) (dR H) Y h x->Q x H'
noncomputable def F5(cs:List E):TA:=λY H Q=>∃(U:Env) (G:Hp) (ds:List D) (U':Env),Rel K U Y H G/\oS P C cs U=some (.ok ds,U') /\
 ∀xs H' G',Aft K U Y H G U' H' G'->aB K G' ds xs->Q xs H'
noncomputable def pK(cs:List E):TA:=λY H Q=>∃(U:Env) (G:Hp) (hs:List Hd) (U':Env),Rel K U Y H G/\cU P C cs U=some (.ok hs,U') /\
 ∀xs H' G',Aft K U Y H G U' H' G'->dZ K H' G' (aL U' Y) (dR H) Y hs xs->Q xs H'
end
def TE.imp_pe(h:PE X e t)(w:∀Y H Q,u Y H Q->t Y H Q):PE X e u:=λpins s Y H Q I q=>h pins s Y H Q I (w Y H Q q)
def TT.imp_pt(h:PT X e t)(w:∀Y H Q,u Y H Q->t Y H Q):PT X e u:=λpins s Y H Q I q=>h pins s Y H Q I (w Y H Q q)
def TA.imp_pa(h:PA X e t)(w:∀Y H Q,u Y H Q->t Y H Q):PA X e u:=λpos pins s Y H Q I q=>h pos pins s Y H Q I (w Y H Q q)
def aK{r:aR O}(h:r.bind f=some (.ok b,U)):∃a U1,r=some (.ok a,U1)/\f a U1=some (.ok b,U):=by
 unfold aR.bind at h;split at h
 ·cases h
 ·cases h
 ·exact⟨_,_,rfl,h⟩
def eX(h:done o U=some (.ok v,U')):o=some v/\U'=U:=by
 unfold done at h
 cases o with
 |none=>cases h
 |some u=>simp only[Option.map_some,Option.some.injEq,Prod.mk.injEq,Out.ok.injEq] at h;exact⟨by rw[h.1],h.2.symm⟩
def JI{r:aR RV}{U':Env}(h:bP true r=some (.ok v,U')):∃u b,r=some (.ok u,U')/\iY u.d=some b/\v=.sh (.bl b):=by
 obtain⟨u,U1,h1,h2⟩:=aK h
 cases e:iY u.d with
 |none=>rw[e] at h2;cases h2
 |some b =>
  rw[e] at h2;simp only[Option.map_some,Option.some.injEq,Prod.mk.injEq,Out.ok.injEq] at h2;obtain⟨h3,h4⟩:=h2;subst h4;exact⟨u,b,h1,e,h3.symm⟩
section
variable{K:Frag}{P:aW}{C:Calls}{Y:St}{H:Hp}
def rS{X:Cx}{c:E}(h:PE X e (tE K P C c))(n:∀i,c≠.var i):PE X e (tH K P C c):=by
 refine TE.imp_pe h λY H Q q=>?_
 obtain⟨U,G,hd',U',r,e1,k⟩:=q
 have:hd c (ev P C false c U) U=(ev P C false c U).bind λv U'=>some (.ok (.val v.low),U'):=by
  cases c<;>first | rfl | exact absurd rfl (n _)
 rw[this] at e1;obtain⟨v,U1,e2,e3⟩:=aK e1;cases e3;exact⟨U,G,v,_,r,e2,λx H' G' a hv=>k x H' G' a (iB.of hv)⟩
def JW(h:PE X e (xT i)):PE X e (tE K P C (.var i)):=by
 refine TE.imp_pe h λY H Q q=>?_
 obtain⟨U,G,v,U',r,e1,k⟩:=q;replace e1:zV i U=_:=e1;unfold zV at e1;split at e1
 ·rename_i d hd;cases e1;obtain⟨x,h1,h2⟩:=r.sh i d hd;exact⟨x,h1,k x H G (Aft.refl r) h2⟩
 ·rename_i d hd;cases e1;obtain⟨a,h1,g,o⟩:=r.ow i d _ _ hd;refine⟨.ref a,h1, ?_⟩;obtain⟨ob,hv,hr⟩:=o.put;have li:i<U.length:=(Zc.mp hd).1
  have oth:∀(j:Nat) (sl:Sl),(U.set i (.sh d))[j]?=some sl->(j=i/\sl=.sh d)\/(j≠i/\U[j]?=some sl):=λj sl hj=>by
   by_cases hij:j=i
   ·subst hij;rw[zk li] at hj;exact .inl ⟨rfl,(Option.some.inj hj).symm⟩
   ·rw[Zf (λz=>hij z.symm)] at hj;exact .inr ⟨hij,hj⟩
  have own':∀b,aL (U.set i (.sh d)) Y b->aL U Y b:=λb ⟨j,d',p,l,h3,h4⟩=>by
   rcases oth j _ h3 with ⟨_,z⟩ | ⟨_,z⟩
   ·cases z
   ·exact⟨j,d',p,l,z,h4⟩
  refine k (.ref a) H (aP G a ob) ⟨⟨?_,λb u z=>?_,λj d' hj=>?_,λj d' p l hj=>?_,λj k' d1 p1 l1 d2 p2 l2 b h3 h4 h5 h6=>?_⟩,⟨Sm.put g,λ_ _ z _=>z,λ_ z=>z,λb h3 h4 h5=>?_⟩,jU.set (by rw[hd];rfl)⟩ ?_
  ·rw[zg];exact r.len
  ·by_cases hb:b=a
   ·subst hb;rw[bA] at z;rw[hv];exact z
   ·rw[aM hb] at z;exact r.sub b u z
  ·rcases oth j _ hj with ⟨rfl,z⟩ | ⟨_,z⟩
   ·cases z;exact⟨_,h1,hr _ (Sm.put g) bA⟩
   ·obtain⟨x,h3,h4⟩:=r.sh j d' z;exact⟨x,h3,aC.mono (Sm.put g) d' h4⟩
  ·rcases oth j _ hj with ⟨_,z⟩ | ⟨ne,z⟩
   ·cases z
   ·obtain⟨b,h3,h4,h5⟩:=r.ow j d' p l z;have hb:b≠a:=λe=>by subst e;exact ne (r.inj _ _ _ _ _ _ _ _ _ z hd h3 h1)
    exact⟨b,h3,by rw[aM hb];exact h4,h5.mono (Sm.put g) λ_ z=>z⟩
  ·rcases oth j _ h3 with ⟨_,z⟩ | ⟨_,z⟩
   ·cases z
   ·rcases oth k' _ h4 with ⟨_,z'⟩ | ⟨_,z'⟩
    ·cases z'
    ·exact r.inj _ _ _ _ _ _ _ _ _ z z' h5 h6
  ·by_cases hb:b=a
   ·subst hb;exact absurd ⟨i,_,_,_,hd,h1⟩ h5
   ·rw[aM hb];exact h4
  ·exact hr _ (Sm.put g) bA
 ·cases e1
def Z6(h:PE X e (xT i)):PE X e (tH K P C (.var i)):=by
 refine TE.imp_pe h λY H Q q=>?_
 obtain⟨U,G,hd',U',r,e1,k⟩:=q;simp only[hd] at e1;split at e1
 ·rename_i hb;cases e1;obtain⟨x,hx⟩:=r.bound hb;exact⟨x,hx,k x H G (Aft.refl r) hx⟩
 ·cases e1
def x6(s:aV G H)(h:cF K H G d x)(e:iY d=some b):LB K x H b:=by
 cases d<;>simp only[iY,Option.some.injEq,reduceCtorEq] at e
 ·have:=h.non;subst this;exact e.symm
 ·have:=h.bl;subst this;exact e.symm
 ·have:=h.int;subst this;exact e.symm
 ·split at e
  ·rename_i hz;obtain⟨rfl,_⟩:=h.str;exact⟨Zr hz (by decide),(Option.some.inj e).symm⟩
  ·cases e
 ·obtain⟨a,vs,rfl,h1,h2⟩:=h.tup s;refine .inr (.inl ⟨vs,h1, ?_⟩);rw[<- e]
  have:=h2.len
  cases vs<;>cases ‹List D›<;>simp_all
 ·obtain⟨a,vs,rfl,h1,h2⟩:=h.lst s;refine .inl ⟨vs,h1, ?_⟩;rw[<- e]
  have:=h2.len
  cases vs<;>cases ‹List D›<;>simp_all
def aE8(hK:X.K=K)(h:PE X e (tE K P C c))(hw:∀U,ev P C true c U=bP true (ev P C false c U))
  (he:∀whole,isTrue e X.env whole=(do let v <- whole;standAt e.pos;holding [v] (truthy v))):PT X e (tT K P C c):=by
 refine TT.imp_pt (EW h he) λY H Q q=>?_
 obtain⟨U,G,b,U',r,e1,k⟩:=q;rw[hw] at e1;obtain⟨u,b',e2,e3,e4⟩:=JI e1;cases e4;refine⟨U,G,u,U',r,e2,λx H' G' a hv=>⟨b, ?_,k H' G' a⟩⟩;rw[hK];exact x6 a.rel.sub hv.readR e3
end
mutual
theorem A2:∀(n:Nat) (d e:D),bF n d=true->bF n e=true->PyData.eqv (dW d) (dW e)=dH d e
 |n,.non,e,_,h=>by cases e<;>first | (cases n<;>simp[bF] at h;done) | simp[dW,PyData.eqv,dH]
 |n,.bl b,e,_,h=>by cases e<;>first | (cases n<;>simp[bF] at h;done) | simp[dW,PyData.eqv,dH]
 |n,.int b,e,_,h=>by cases e<;>first | (cases n<;>simp[bF] at h;done) | simp[dW,PyData.eqv,dH]
 |n,.str b,e,_,h=>by cases e<;>first | (cases n<;>simp[bF] at h;done) | simp[dW,PyData.eqv,dH]
 |n+1,.tup ds,e,h,h'=>by
  cases e with
  |tup es =>
   simp only[dW,PyData.eqv,dH];exact xI n ds es (by simpa[bF] using h) (by simpa[bF] using h')
  |ins=>simp[bF] at h'
  |dcs=>simp[bF] at h'
  |dci=>simp[bF] at h'
  |_=>simp[dW,PyData.eqv,dH]
 |n+1,.lst ds,e,h,h'=>by
  cases e with
  |lst es =>
   simp only[dW,PyData.eqv,dH];exact xI n ds es (by simpa[bF] using h) (by simpa[bF] using h')
  |ins=>simp[bF] at h'
  |dcs=>simp[bF] at h'
  |dci=>simp[bF] at h'
  |_=>simp[dW,PyData.eqv,dH]
 | 0,.tup ds,e,h,_=>by simp[bF] at h
 | 0,.lst ds,e,h,_=>by simp[bF] at h
 |n,.ins _ _ _,_,h,_=>by cases n<;>simp[bF] at h
 |n,.dcs _ _,_,h,_=>by cases n<;>simp[bF] at h
 |n,.dci _ _,_,h,_=>by cases n<;>simp[bF] at h
theorem xI:∀(n:Nat) (ds es:List D),(∀d∈ds,bF n d=true)->(∀d∈es,bF n d=true)->PyData.eqvAll (jQ ds) (jQ es)=iD ds es
 |n,[],[],_,_=>by simp[jQ,PyData.eqvAll,iD]
 |n,[],_::_,_,_=>by simp[jQ,PyData.eqvAll,iD]
 |n,_::_,[],_,_=>by simp[jQ,PyData.eqvAll,iD]
 |n,d::ds,e::es,h,h'=>by(simp only[jQ,PyData.eqvAll,iD];rw[A2 n d e (h d (by simp)) (h' e (by simp)),xI n ds es (λx hx=>h x (by simp[hx])) (λx hx=>h' x (by simp[hx]))])
end
section
variable{K:Frag}
mutual
theorem uJ(I:Inv X pins Y H s)(hK:X.K=K)(sub:aV G H):∀(n:Nat) (d:D) (x:V) (u:Value),bF n d=true->aC K G d x->a7 x u->∃as,Reads s.heap u (dW d) as/\PyData.canLay0 (dW d)=true/\PyData.depth (dW d)<=n
 |n,.non,x,u,_,h,r=>by
  simp only[aC] at h;subst h;cases r;exact⟨_,Reads.none,by simp[dW,PyData.canLay0],by simp[dW,PyData.depth]⟩
 |n,.bl b,x,u,_,h,r=>by
  simp only[aC] at h;subst h;cases r;exact⟨_,Reads.bool b,by simp[dW,PyData.canLay0],by simp[dW,PyData.depth]⟩
 |n,.int b,x,u,_,h,r=>by
  simp only[aC] at h;subst h;obtain⟨t,rfl⟩:=r;exact⟨_,Reads.int b t,by simp[dW,PyData.canLay0],by simp[dW,PyData.depth]⟩
 |n,.str b,x,u,_,h,r=>by
  simp only[aC] at h;obtain⟨rfl,hs⟩:=h;obtain⟨t,rfl⟩:=r;exact⟨_,Reads.str b t,by simpa[dW,PyData.canLay0] using hs,by simp[dW,PyData.depth]⟩
 |n+1,.tup ds,x,u,ok,h,r=>by
  simp only[aC] at h;obtain⟨a,vs,rfl,h1,h2⟩:=h;cases r;obtain⟨its,rv,⟨o,ho,hc,m,hd⟩,hz⟩:=I.tuple (show dE X.K H a vs from hK ▸ dJ sub h1);obtain⟨as,r1,r2,r3⟩:=nH I hK sub n ds vs its (by simpa[bF] using ok) h2 rv;exact⟨_,Reads.tuple ho hc hd (by simpa using r1),by simpa[dW,PyData.canLay0] using r2,by simp[dW,PyData.depth];omega⟩
 |n+1,.lst ds,x,u,ok,h,r=>by
  simp only[aC] at h;obtain⟨a,vs,rfl,h1,h2⟩:=h;cases r;obtain⟨its,rv,⟨o,m,ho,hc,hn,hd⟩,hz⟩:=I.list (show bU X.K H a vs from hK ▸ sub.seq h1);obtain⟨as,r1,r2,r3⟩:=nH I hK sub n ds vs its (by simpa[bF] using ok) h2 rv;exact⟨_,Reads.list ho hc hd (by simpa using r1),by simpa[dW,PyData.canLay0] using r2,by simp[dW,PyData.depth];omega⟩
 | 0,.tup ds,_,_,h,_,_=>by simp[bF] at h
 | 0,.lst ds,_,_,h,_,_=>by simp[bF] at h
 |n,.ins _ _ _,_,_,h,_,_=>by cases n<;>simp[bF] at h
 |n,.dcs _ _,_,_,h,_,_=>by cases n<;>simp[bF] at h
 |n,.dci _ _,_,_,h,_,_=>by cases n<;>simp[bF] at h
theorem nH(I:Inv X pins Y H s)(hK:X.K=K)(sub:aV G H):∀(n:Nat) (ds:List D) (xs:List V) (us:List Value),(∀d∈ds,bF n d=true)->aB K G ds xs->aO xs us->∃as,ReadsAll s.heap us (jQ ds) as/\PyData.canLayAll0 (jQ ds)=true/\PyData.depthAll (jQ ds)<=n
 |n,[],xs,us,_,h,r=>by
  simp only[aB] at h;subst h;cases r;exact⟨_,ReadsAll.nil,by simp[jQ,PyData.canLayAll0],by simp[jQ,PyData.depthAll]⟩
 |n,d::ds,xs,us,ok,h,r=>by
  simp only[aB] at h;obtain⟨v,r',rfl,h1,h2⟩:=h
  cases r with
  |cons ra rb =>
   obtain⟨as,a1,a2,a3⟩:=uJ I hK sub n d v _ (ok d (by simp)) h1 ra;obtain⟨bs,b1,b2,b3⟩:=nH I hK sub n ds r' _ (λx hx=>ok x (by simp[hx])) h2 rb;exact⟨_,ReadsAll.cons a1 b1,by simp[jQ,PyData.canLayAll0,a2,b2],by simp[jQ,PyData.depthAll];omega⟩
end
def rJ(I:Inv X pins Y H s)(hK:X.K=K)(sub:aV G H)(n:Nat)(d:D)(x:V)(u:Value)(ok:bF n d=true)(h:cF K H G d x)(r:a7 x u):∃as,Reads s.heap u (dW d) as/\PyData.canLay0 (dW d)=true/\PyData.depth (dW d)<=n:=by
 rcases h with h | ⟨a,rfl,h⟩
 ·exact uJ I hK sub n d x u ok h r
 ·cases r
  cases d<;>first | exact h.elim | skip
  case dcs=>cases n<;>simp[bF] at ok
  rename_i ds;obtain⟨vs,h1,h2⟩:=h
  cases n with
  |zero=>simp[bF] at ok
  |succ n =>
   obtain⟨its,rv,⟨o,m,ho,hc,hn,hd⟩,hz⟩:=I.list (bU.of h1);obtain⟨as,r1,r2,r3⟩:=nH I hK sub n ds vs its (by simpa[bF] using ok) h2 rv;exact⟨_,Reads.list ho hc hd (by simpa using r1),by simpa[dW,PyData.canLay0] using r2,by simp[dW,PyData.depth];omega⟩
def xV(K:Frag)(H G:Hp)(v:RV)(x:V)(H':Hp):Prop :=
 (∃d,v=.sh d/\aC K G d x/\H'=H) \/
 (∃ds vs p,v=.ow (.lst ds)/\H p=none/\aB K G ds vs/\x=.ref p/\H'=aP H p (.lst vs)) \/
 (∃ds vs p,v=.sh (.tup ds)/\H p=none/\aB K G ds vs/\x=.ref p/\H'=aP H p (.tup vs)) \/
 (∃ks ds vs p,v=.sh (.dci ks ds)/\H p=none/\aB K G ds vs/\ks.length=ds.length/\x=.ref p/\H'=aP H p (.dK (pW ks vs)))
def DU(h:∃ds vs p,v=.sh (.tup ds)/\H p=none/\aB K G ds vs/\x=.ref p/\H'=aP H p (.tup vs)):xV K H G v x H' :=
 .inr (.inr (.inl h))
def Aft.made(a:Aft K U Y H0 G0 U' H G)(m:xV K H G v x H2) :
  ∃G2,Aft K U Y H0 G0 U' H2 G2/\cR K H2 G2 (aL U' Y) (dR H0) v x:=by
 rcases m with ⟨d,rfl,h,rfl⟩ | ⟨ds,vs,p,rfl,h,r,rfl,rfl⟩ | ⟨ds,vs,p,rfl,h,r,rfl,rfl⟩ | ⟨ks,ds,vs,p,rfl,h,r,hl,rfl,rfl⟩
 ·exact⟨G,a,h⟩
 ·exact⟨_,a.own_new h r⟩
 ·exact⟨_,a.tup_new h r⟩
 ·refine⟨_,a.layG h, ?_⟩;show aC K _ (.dci ks ds) _;simp only[aC];exact⟨p,vs,rfl,bA,aB.mono (Sm.laid (aV.free a.rel.sub h)) ds r,hl⟩
noncomputable def aH9(K:Frag)(op:Operator):R2:=λx y H Q=>∃G d e v,aV G H/\cF K H G d x/\cF K H G e y/\(op=.Mult->∀ds,d=.lst ds->∃a vs,x=.ref a/\H a=some (.lst vs)/\aB K G ds vs)/\bX op d e=some v/\∀z H',xV K H G v z H'->Q z H'
def cQ:xV K H G (.sh (.int i)) (.int i) H:=.inl ⟨_,rfl,by simp[aC],rfl⟩
def aAv:xV K H G (.sh (.bl i)) (.bl i) H:=.inl ⟨_,rfl,by simp[aC],rfl⟩
def gI(h:aJ n=true):n<=sizeLine:=Zr (@of_decide_eq_true _ (cl _) h) (by decide)
def qB(I:Inv X pins Y H s)(h:bU X.K H a vs):∃(its:List Value),aO vs its/\s.heap.IsList a its.toArray/\vs.length<=sizeLine:=by
 obtain⟨its,r,p,z⟩:=I.list h;exact⟨its,r,p.isList,z⟩
noncomputable def aGH(K:Frag):R2:=λx y H Q=>∃l b xs zs,x=.ref l/\y=.ref b/\bU K H l xs/\bU K H b zs/\xs.length+zs.length<=sizeLine/\∀p,H p=none->Q (.ref p) (aP H p (.lst (xs++zs)))
def ZP:eW X (binaryOp .Add) (aGH X.K):=by
 intro pins s Y H x y v u Q I rx ry h;obtain⟨l,b,xs,zs,rfl,rfl,hH,hB,hz,q⟩:=h;cases rx;cases ry;obtain⟨its,r,hl,z⟩:=qB I hH;obtain⟨its2,r2,hl2,z2⟩:=qB I hB;have e1:=r.length;have e2:=r2.length;obtain⟨⟨cls,dd,data,sl⟩,ho,hc,n,hd⟩:=id hl;obtain⟨⟨cls2,dd2,data2,sl2⟩,ho2,hc2,n2,hd2⟩:=id hl2;simp only at hc hd hc2 hd2;subst hc hd hc2 hd2;refine concat_meets ⟨_,ho,rfl⟩ ⟨_,ho2,rfl⟩ noFill_list_add seq_list_add PySem.F.slot_list_add PySem.F.entry_list_add (PySem.F.args_list_add_2 _ _) (list_addW l b its.toArray its2.toArray n n2 dd dd2 sl sl2 (by simp;omega)) ⟨ho,ho2, ?_⟩;have ea:its.toArray++its2.toArray=(its++its2).toArray:=by simp
 rw[ea];exact⟨.ref _,_,I.lnew (t':=s.toks) (r.append r2) (by rw[Za];omega),rfl,q _ I.fresh⟩
def VW:eW X (binaryOp .FloorDiv) (rI (λ_ j=>0<j/\j<nofun) λi j=>.int (i / j)):=NS λi j _ _ _ _ _ hc q=>by
 have h1:(0:Int)<j:=hc.1;have h2:j<nofun:=hc.2;have h3:j.natAbs<2 ^ 300:=Zl (by omega:j.natAbs<nofun) (by decide);have h4:j.natAbs.log2<300:=(Nat.log2_lt (by omega)).mpr h3;exact PyProof.Rows.floordiv_int (by omega) (by rw[Int.fdiv_eq_ediv_of_nonneg i (by omega)];exact q) (.inl (PyProof.noPylong_of_log2 (by omega)))
def aG(e:none=some v):False:=nomatch e
def aBg:eW X (binaryOp .Add) (λx y H Q=>∃a b ys,x=.ref a/\y=.ref b/\dE X.K H a []/\dE X.K H b ys/\Q (.ref b) H):=by
 intro pins s Y H x y v u Q I rx ry h;obtain⟨a,b,ys,rfl,rfl,ha,hb,q⟩:=h;cases rx;cases ry;obtain⟨its,r1,p1,_⟩:=I.tuple ha;obtain⟨its2,r2,p2,_⟩:=I.tuple hb;have e0:its=[]:=r1.nil_iff.mpr rfl;subst e0;obtain⟨⟨cls,dd,data,sl⟩,ho,hc,n,hd⟩:=id p1;obtain⟨⟨cls2,dd2,data2,sl2⟩,ho2,hc2,n2,hd2⟩:=id p2;simp only at hc hd hc2 hd2;subst hc hd hc2 hd2
 exact concat_meets ⟨_,ho,rfl⟩ ⟨_,ho2,rfl⟩ noFill_tuple_add seq_tuple_add PySem.F.slot_tuple_add PySem.F.entry_tuple_add (PySem.F.args_tuple_add_2 _ _)
  (tuple_addW0 a b [].toArray its2.toArray n n2 dd dd2 sl sl2 rfl) ⟨ho,ho2,⟨.ref b,H,I,rfl,q⟩⟩
def aEe(hK:X.K=K)(op:Operator):eW X (binaryOp op) (aH9 K op):=by
 intro pins s Y H x y v u Q I rx ry h;obtain⟨G,d,e,w,sub,hx,hy,hm,eb,k⟩:=h;subst hK
 cases op with
 |Add =>
  cases d with
  |int =>
   cases e with
   |int =>
    cases hx.int;cases hy.int;change some _=_ at eb;cases eb;exact aCS pins s Y H _ _ _ _ Q I rx ry ⟨_,_,rfl,rfl,k _ _ cQ⟩
   |_=>exact(aG eb).elim
  |lst xs =>
   cases e with
   |lst ys =>
    change (if aJ (xs.length+ys.length) then some _ else none)=_ at eb;split at eb
    ·rename_i hz;cases eb;obtain⟨a,vs,rfl,h1,h2⟩:=hx.lst sub;obtain⟨b,ws,rfl,h3,h4⟩:=hy.lst sub;refine ZP pins s Y H _ _ _ _ Q I rx ry ⟨a,b,vs,ws,rfl,rfl,h1,h3, ?_,λp hp=>k _ _ (.inr (.inl ⟨_,_,p,rfl,hp,h2.app h4,rfl,rfl⟩))⟩;rw[h2.len,h4.len];exact gI hz
    ·cases eb
   |_=>exact(aG eb).elim
  |tup xs =>
   cases xs with
   |nil =>
    cases e with
    |tup ys0 =>
     change some _=_ at eb;cases eb;have hy':=hy;obtain⟨a,vs,rfl,h1,h2⟩:=hx.tup sub;obtain⟨b,ws,rfl,h3,h4⟩:=hy.tup sub;have e1:vs=[]:=List.length_eq_zero_iff.mp h2.len;subst e1;refine aBg pins s Y H _ _ _ _ Q I rx ry ⟨a,b,ws,rfl,rfl,h1,h3, ?_⟩;rcases hy' with hy' | ⟨_,_,hy'⟩
     ·exact k _ _ (.inl ⟨_,rfl,hy',rfl⟩)
     ·exact hy'.elim
    |_=>exact(aG eb).elim
   |cons x0 xs0 =>
    cases e with
    |tup ys0 =>
     change (if aJ (xs0.length+1+ys0.length) then some _ else none)=_ at eb;split at eb
     ·rename_i hz;cases eb;have hx':=hx;obtain⟨a,vs,rfl,h1,h2⟩:=hx.tup sub;obtain⟨b,ws,rfl,h3,h4⟩:=hy.tup sub;have e1:=h2.len;have e2:=h4.len;refine XQ pins s Y H _ _ _ _ Q I rx ry ⟨a,b,vs,ws,rfl,rfl,h1,h3, ?_, ?_,λhw=>?_,λhw p hp=>?_⟩
      ·intro z;subst z;simp at e1
      ·rw[e1,e2];exact gI hz
      ·subst hw;have e3:ys0=[]:=List.length_eq_zero_iff.mp e2.symm;subst e3;rcases hx' with hx' | ⟨_,_,hx'⟩
       ·exact k _ _ (.inl ⟨_,rfl,by simpa using hx',rfl⟩)
       ·exact hx'.elim
      ·exact k _ _ (DU ⟨_,_,p,rfl,hp,h2.app h4,rfl,rfl⟩)
     ·cases eb
    |_=>exact(aG eb).elim
  |_=>exact(aG eb).elim
 |Sub =>
  cases d with
  |int =>
   cases e with
   |int =>
    cases hx.int;cases hy.int;change some _=_ at eb;cases eb;exact aCc pins s Y H _ _ _ _ Q I rx ry ⟨_,_,rfl,rfl,k _ _ cQ⟩
   |_=>exact(aG eb).elim
  |_=>exact(aG eb).elim
 |Mult =>
  cases d with
  |int =>
   cases e with
   |int =>
    cases hx.int;cases hy.int;change @ite _ _ (cl _) _ none=_ at eb;split at eb
    ·cases eb;exact aBt pins s Y H _ _ _ _ Q I rx ry ⟨_,_,rfl,rfl,‹_›,k _ _ cQ⟩
    ·cases eb
   |_=>exact(aG eb).elim
  |lst xs =>
   cases e with
   |int kk =>
    change @ite _ (-(2 ^ 31)<=kk/\kk<=1000/\aJ (xs.length*kk.toNat)) (cl _) _ none=_ at eb;split at eb
    ·rename_i hc;cases eb;cases hy.int;obtain⟨a,vs,rfl,h1,h2⟩:=hm rfl _ rfl;refine aCC pins s Y H _ _ _ _ Q I rx ry ⟨a,_,vs,rfl,rfl,h1,by omega,by omega, ?_,λp hp=>k _ _ (.inr (.inl ⟨_,_,p,rfl,hp,h2.rep _,rfl,rfl⟩))⟩;rw[h2.len];exact gI hc.2.2
    ·cases eb
   |_=>exact(aG eb).elim
  |_=>exact(aG eb).elim
 |FloorDiv =>
  cases d with
  |int =>
   cases e with
   |int =>
    cases hx.int;cases hy.int;change @ite _ _ (cl _) _ none=_ at eb;split at eb
    ·cases eb;exact VW pins s Y H _ _ _ _ Q I rx ry ⟨_,_,rfl,rfl,‹_›,k _ _ cQ⟩
    ·cases eb
   |_=>exact(aG eb).elim
  |_=>exact(aG eb).elim
 |Mod =>
  cases d with
  |int =>
   cases e with
   |int =>
    cases hx.int;cases hy.int;change @ite _ _ (cl _) _ none=_ at eb;split at eb
    ·cases eb;exact aD2 pins s Y H _ _ _ _ Q I rx ry ⟨_,_,rfl,rfl,‹_›,k _ _ cQ⟩
    ·cases eb
   |_=>exact(aG eb).elim
  |_=>exact(aG eb).elim
 |Pow=>exact(aG eb).elim
 |LShift =>
  cases d with
  |int =>
   cases e with
   |int =>
    cases hx.int;cases hy.int;change @ite _ _ (cl _) _ none=_ at eb;split at eb
    ·rename_i hc;cases eb;exact aD7 pins s Y H _ _ _ _ Q I rx ry ⟨_,_,rfl,rfl,⟨hc.1,by omega,hc.2.2⟩,k _ _ cQ⟩
    ·cases eb
   |_=>exact(aG eb).elim
  |_=>exact(aG eb).elim
 |RShift =>
  cases d with
  |int =>
   cases e with
   |int =>
    cases hx.int;cases hy.int;change @ite _ _ (cl _) _ none=_ at eb;split at eb
    ·cases eb;exact aEc pins s Y H _ _ _ _ Q I rx ry ⟨_,_,rfl,rfl,‹_›,k _ _ cQ⟩
    ·cases eb
   |_=>exact(aG eb).elim
  |_=>exact(aG eb).elim
 |BitAnd =>
  cases d with
  |int =>
   cases e with
   |int =>
    cases hx.int;cases hy.int;change some _=_ at eb;cases eb;exact aDj pins s Y H _ _ _ _ Q I rx ry ⟨_,_,rfl,rfl,k _ _ cQ⟩
   |_=>exact(aG eb).elim
  |_=>exact(aG eb).elim
 |BitOr=>exact(aG eb).elim
 |_=>exact(aG eb).elim
noncomputable def G6(K:Frag)(op:CmpOp):R2:=λx y H Q=>∃G d e b,aV G H/\cF K H G d x/\cF K H G e y/\bL op d e=some b/\Q (.bl b) H
def nZ(h:aC K G d x)(f:cL d=true):mF x=true/\∀(e:D) (y:V),aC K G e y->cL e=true->qX y x=dH e d:=by
 cases d<;>simp only[cL,Bool.false_eq_true] at f<;>simp only[aC] at h
 ·subst h;refine⟨rfl,λe y hy fe=>?_⟩;cases e<;>simp only[cL,Bool.false_eq_true] at fe<;>simp only[aC] at hy<;>(first | subst hy | (obtain⟨rfl,_⟩:=hy))<;>simp[qX,dH]
 ·subst h;refine⟨rfl,λe y hy fe=>?_⟩;cases e<;>simp only[cL,Bool.false_eq_true] at fe<;>simp only[aC] at hy<;>(first | subst hy | (obtain⟨rfl,_⟩:=hy))<;>simp[qX,dH]
 ·subst h;refine⟨rfl,λe y hy fe=>?_⟩;cases e<;>simp only[cL,Bool.false_eq_true] at fe<;>simp only[aC] at hy<;>(first | subst hy | (obtain⟨rfl,_⟩:=hy))<;>simp[qX,dH]
 ·obtain⟨rfl,_⟩:=h;refine⟨rfl,λe y hy fe=>?_⟩;cases e<;>simp only[cL,Bool.false_eq_true] at fe<;>simp only[aC] at hy<;>(first | subst hy | (obtain⟨rfl,_⟩:=hy))<;>simp[qX,dH]
def cF.flat(h:cF K H G d x)(f:cL d=true):aC K G d x:=by
 rcases h with h | ⟨a,rfl,h⟩
 ·exact h
 ·cases d<;>first | exact h.elim | cases f
theorem uT(h:aC K G d x)(f:cL d=true):∀{ds:List D} {vs:List V},aB K G ds vs->ds.all cL=true->vs.all mF=true/\WR x vs=lK d ds
 |[],vs,h2,_=>by simp only[aB] at h2;subst h2;exact⟨rfl,rfl⟩
 |e::ds,vs,h2,fs=>by
  simp only[aB] at h2;obtain⟨y,r,rfl,h3,h4⟩:=h2;rw[Zj,ZB] at fs;obtain⟨a1,a2⟩:=uT h f h4 fs.2;obtain⟨b1,_⟩:=nZ h3 fs.1;have b2:=(nZ h f).2 e y h3 fs.1;refine⟨by rw[Zj,b1,a1];rfl, ?_⟩
  unfold WR lK at *
  rw[List.any_cons,List.any_cons,a2,b2]
def PL(I:Inv X pins Y H s)(hK:X.K=K)(sub:aV G H)(hu:A.units+20<cLine)(od:bF 20 d=true)(oe:bF 20 e=true)(hx:cF K H G d x)(hy:cF K H G e y)(rx:a7 x v)(ry:a7 y u) :
  SeqAt.RcAt A s v u (dH d e)/\SeqAt.RcNeAt A s v u (!dH d e):=by
 obtain⟨as,a1,a2,a3⟩:=rJ I hK sub 20 d x v od hx rx;obtain⟨bs,b1,b2,b3⟩:=rJ I hK sub 20 e y u oe hy ry;rw[<- A2 20 d e od oe];exact⟨SeqAt.rcAt_reads a1 b1 a2 b2 (by omega),SeqAt.rcNeAt_reads a1 b1 a2 b2 (by omega)⟩
theorem FC(I:Inv X pins Y H s)(hK:X.K=K)(sub:aV G H)(he:∀y da as,Reads s.heap y da as->da.canLay0=true->e y=PyData.eqv da (dW d))(od:bF 19 d=true) :
  ∀{ds:List D} {vs:List V} {its:List Value},aB K G ds vs->aO vs its->ds.all (bF 19)=true->its.any e=lK d ds/\∀y∈its,∃dj as,bF 19 dj=true/\Reads s.heap y (dW dj) as/\(dW dj).canLay0=true/\(dW dj).depth<=19
 |[],_,_,h,r,_=>by
  cases (show _=[] from h);cases r;exact⟨rfl,λy hy=>nomatch hy⟩
 |dj::ds,_,_,h,r,o=>by
  obtain⟨x,vs',rfl,h1,h2⟩:=h;rw[Zj,ZB] at o
  cases r with
  |cons ra rb =>
   rename_i u us;obtain⟨as,a1,a2,a3⟩:=uJ I hK sub 19 dj x u o.1 h1 ra;obtain⟨k1,k2⟩:=FC I hK sub he od h2 rb o.2;refine⟨?_,λy hy=>?_⟩
   ·unfold lK at k1 ⊢;rw[List.any_cons,List.any_cons,k1,he u _ _ a1 a2,A2 19 dj d o.1 od]
   ·rcases List.mem_cons.mp hy with rfl | hy
    ·exact⟨dj,as,o.1,a1,a2,a3⟩
    ·exact k2 y hy
def KD(I:Inv X pins Y H s)(hK:X.K=K)(sub:aV G H)(hu:X.A.units+40<cLine)(od:bF 19 d=true)(os:ds.all (bF 19)=true)(hx:cF K H G d x)(rx:a7 x v)(hl:bU K H a vs)(hr:aB K G ds vs){E:Value->Shared->Prop} :
  (Q (.bool (lK d ds)) s->wpAny (model X.prog X.w) X.A (compareOp .In v (.ref a)) Q E s)/\(Q (.bool (!lK d ds)) s->wpAny (model X.prog X.w) X.A (compareOp .NotIn v (.ref a)) Q E s):=by
 obtain⟨its,r,pl,hz⟩:=I.list (show bU X.K H a vs from hK ▸ hl);obtain⟨as,a1,a2,a3⟩:=rJ I hK sub 19 d x v od hx rx
 have he:∃e:Value->Bool,∀y da bs,Reads s.heap y da bs->da.canLay0=true->e y=PyData.eqv da (dW d):=by
  refine⟨λy=>@ite _ (∃da bs,Reads s.heap y da bs/\da.canLay0=true/\PyData.eqv da (dW d)=true) (cl _) true false,λy da bs h1 h2=>?_⟩
  cases q:PyData.eqv da (dW d) with
  |true=>exact Zo ⟨da,bs,h1,h2,q⟩
  |false =>
   refine Zp λ⟨da',bs',h3,h4,h5⟩=>?_
   rw[SeqAt.Reads.unique da da' y bs bs' h2 h1 h3,h5] at q;cases q
 obtain⟨e,he⟩:=he;obtain⟨k1,k2⟩:=FC I hK sub he od hr r os
 have hat:∀y,y∈its.toArray->SeqAt.EqAt X.A.in1 s y v (e y):=λy hy=>by(obtain⟨dj,bs,oj,b1,b2,b3⟩:=k2 y (by simpa using hy);rw[he y _ _ b1 b2];have hun:X.A.in1.units=X.A.units+1:=rfl;exact SeqAt.eqAt_reads _ _ _ _ _ _ _ _ b1 a1 b2 a2 (by omega))
 have ha:its.toArray.any e=lK d ds:=by rw[show its.toArray.any e=its.any e by simp,k1]
 exact⟨λk=>SeqAt.in_listAt e pl.isList hat (by rw[ha];exact k),λk=>SeqAt.notIn_listAt e pl.isList hat (by rw[ha];exact k)⟩
theorem ED:∀{ds:List D} {ns:List Int},d7 ds=some ns->ds=ns.map D.int
 |[],ns,h=>by cases h;rfl
 |.int i::r,ns,h=>by
  replace h:(d7 r).map (i :: ·)=some ns:=h
  cases q:d7 r with
  |none=>rw[q] at h;cases h
  |some ms =>
   rw[q] at h;cases h;rw[Zs,<- ED q]
 |.non::_,_,h | .bl _::_,_,h | .str _::_,_,h | .tup _::_,_,h | .lst _::_,_,h | .ins _ _ _::_,_,h | .dcs _ _::_,_,h=>nomatch h
theorem aB.ints:∀{ns:List Int} {vs:List V},aB K G (ns.map D.int) vs->vs=ns.map V.int
 |[],vs,h=>by simp only[List.map_nil,aB] at h;exact h
 |n::ns,vs,h=>by(simp only[Zs,aB] at h;obtain⟨v,r,rfl,h1,h2⟩:=h;simp only[aC] at h1;rw[h1,aB.ints h2];rfl)
def D8(h:wU d=some k):d=b9 k:=by
 unfold wU at h;split at h
 ·rename_i t ds
  cases q:d7 ds with
  |none=>rw[q] at h;cases h
  |some ns =>
   rw[q] at h;cases h;rw[ED q];rfl
 ·cases h
def aAe(h:dD d=some k):d=m9 k:=by
 have one:∀{d:D},(wU d).map Sum.inl=some k->d=m9 k:=λ{d} h=>by(obtain⟨x,h1,rfl⟩:=Option.map_eq_some_iff.mp h;exact D8 h1)
 unfold dD at h;split at h
 ·rename_i a b
  cases q:wU (.tup a) with
  |none=>rw[q] at h;cases h
  |some x =>
   rw[q] at h;obtain⟨y,h1,rfl⟩:=Option.map_eq_some_iff.mp h;rw[D8 q,D8 h1];rfl
 ·exact one h
def GF(h:aC K G (b9 k) x):∃b,x=.ref b/\lC K G k b:=by
 simp only[b9,aC,aB] at h;obtain⟨a,vs,rfl,h1,v1,r1,rfl,rfl,v2,r2,rfl,⟨c,ws,rfl,h2,h3⟩,rfl⟩:=h;rw[aB.ints h3] at h2;exact⟨a,rfl,c,h1,h2⟩
def qW(hk:dD d=some k)(h:cF K H G d x):∃b,x=.ref b/\bR K G k b:=by
 rw[aAe hk] at h
 cases k with
 |inl k =>
  rcases h with h | ⟨_,_,h⟩
  ·exact GF h
  ·exact h.elim
 |inr k =>
  rcases h with h | ⟨_,_,h⟩
  ·replace h:aC K G (.tup [b9 k.1,b9 k.2]) x:=h;simp only[aC,aB] at h;obtain⟨a,vs,rfl,h1,v1,r1,rfl,h2,v2,r2,rfl,h3,rfl⟩:=h;obtain⟨b,rfl,g2⟩:=GF h2;obtain⟨c,rfl,g3⟩:=GF h3;exact⟨a,rfl,b,c,h1,g2,g3⟩
  ·exact h.elim
theorem JY:∀(ns:List Int),aB K G (ns.map D.int) (ns.map V.int)
 |[]=>aB.nil
 |n::ns=>aB.cons (by simp only[aC]) (JY ns)
def EE(h:lC K G k b):aC K G (b9 k) (.ref b):=by
 obtain⟨c,h1,h2⟩:=h;simp only[b9,aC];exact⟨b,_,rfl,h1,aB.cons (by simp only[aC]) (aB.cons (by simp only[aC];exact⟨c,_,rfl,h2,JY _⟩) aB.nil)⟩
theorem JD:∀{k:bO} {b:Addr},bR K G k b->aC K G (m9 k) (.ref b)
 |.inl k,b,h=>EE h
 |.inr k,b,h=>by(obtain⟨c,d,h1,h2,h3⟩:=h;show aC K G (.tup [b9 k.1,b9 k.2]) _;simp only[aC];exact⟨b,_,rfl,h1,aB.cons (EE h2) (aB.cons (EE h3) aB.nil)⟩)
theorem CQ:∀{xs:sX},(∀x∈xs,bR K G x.1 x.2.1)->aB K G ((xs.map (·.1)).map m9) (xs.map λx=>.ref x.2.1)
 |[],_=>aB.nil
 |x::xs,h=>aB.cons (JD (h x (.head _))) (CQ λy hy=>h y (.tail _ hy))
theorem cF.dci(h:cF K H G (.dci ks ds) x)(sub:aV G H):∃a vs,x=.ref a/\H a=some (.dK (pW ks vs))/\aB K G ds vs/\ks.length=ds.length:=by
 rcases h with h | ⟨_,_,h⟩
 ·simp only[aC] at h;obtain⟨a,vs,rfl,h1,h2⟩:=h;exact⟨a,vs,rfl,sub _ _ h1,h2⟩
 ·exact h.elim
theorem xG(k:Int):∀{ks:List Int} {ds:List D} {vs:List V},aB K G ds vs->ks.length=ds.length->(l3 (pW ks vs) (.inl k)=none/\iU ks ds k=none)\/∃d v,l3 (pW ks vs) (.inl k)=some v/\iU ks ds k=some d/\aC K G d v
 |[],_,_,_,_=>.inl ⟨rfl,rfl⟩
 |a::ks,[],_,_,z=>by cases z
 |a::ks,d::ds,_,h,z=>by
  simp only[aB] at h;obtain⟨v,r,rfl,h1,h2⟩:=h;have ih:=xG k h2 (Nat.succ.inj z);by_cases e:a=k
  ·exact .inr ⟨d,v,E6 (p:=(Sum.inl a,v)) (r:=pW ks r) (congrArg Sum.inl e),by simp[iU,e],h1⟩
  ·have e1:l3 (pW (a::ks) (v::r)) (.inl k)=l3 (pW ks r) (.inl k):=ET (p:=(Sum.inl a,v)) (r:=pW ks r) (λz=>e (Sum.inl.inj z));have e2:iU (a::ks) (d::ds) k=iU ks ds k:=by simp[iU,e]
   rw[e1,e2];exact ih
def LR(h:aB K G ds vs)(z:ks.length=ds.length):(l3 (pW ks vs) (.inl k)).isSome=(iU ks ds k).isSome:=by
 rcases xG k h z with ⟨h1,h2⟩ | ⟨d,v,h1,h2,_⟩<;>rw[h1,h2]<;>rfl
abbrev J9(K:Frag)(G:Hp)(ks:List bO)(ds:List D)(xs:sX):Prop:=xs.map (·.1)=ks/\∃vs,aO vs (xs.map (·.2.2))/\aB K G ds vs
theorem cF.dcs(h:cF K H G (.dcs ks ds) x)(sub:aV G H):∃a xs,x=.ref a/\DS K H a xs/\J9 K G ks ds xs/\∀x∈xs,bR K G x.1 x.2.1:=by
 have go:∀{a xs vs},W3 H a xs->FW K G a ks vs xs->aB K G ds vs->DS K H a xs/\J9 K G ks ds xs/\∀x∈xs,bR K G x.1 x.2.1:=λh1 h2 h3=>⟨⟨h1,h2.1,h2.2.1,h2.2.2.1,λx hx=>bR.mono sub (h2.2.2.2.1 x hx)⟩,⟨h2.2.2.2.2.1,_,h2.2.2.2.2.2,h3⟩,h2.2.2.2.1⟩
 rcases h with h | ⟨a,rfl,xs,vs,h1,h2,h3⟩
 ·simp only[aC] at h;obtain⟨a,xs,vs,rfl,⟨ep,h1⟩,h2,h3⟩:=h;exact⟨a,xs,rfl,go ⟨ep,sub _ _ h1⟩ h2 h3⟩
 ·exact⟨a,xs,rfl,go h1 h2 h3⟩
theorem JA:∀{xs:sX} {ks:List bO} {ds:List D},J9 K G ks ds xs->(atKey xs k=none/\mI ks ds k=none)\/∃p d v,atKey xs k=some p/\mI ks ds k=some d/\a7 v p.2/\aC K G d v
 |[],_,_,⟨rfl,_⟩=>.inl ⟨rfl,rfl⟩
 |q::xs,_,ds,⟨rfl,vs,h1,h2⟩=>by
  cases h1 with
  | @cons v u vs us h1 t1 =>
   obtain _ | ⟨d,ds⟩:=ds
   ·simp only[aB] at h2;cases h2
   ·simp only[aB] at h2;obtain⟨v',r,e,h3,h4⟩:=h2;cases e;have ih:=JA (k:=k) (ks:=xs.map (·.1)) ⟨rfl,_,t1,h4⟩;unfold atKey mI at ih ⊢;rw[Zs,List.zip_cons_cons,List.find?_cons,List.find?_cons];by_cases e:q.1=k
    ·rw[Zn e];exact .inr ⟨_,_,_,rfl,rfl,h1,h3⟩
    ·rw[Zm e];exact ih
theorem EX:∀(xs:sX),(atKey xs k).isSome=eH (xs.map (·.1)) k
 |[]=>rfl
 |q::xs=>by
  have ih:=EX (k:=k) xs;unfold atKey eH at ih ⊢;rw[Zs,List.find?_cons,List.any_cons];by_cases e:q.1=k
  ·rw[Zn e];rfl
  ·rw[Zm e];exact ih
def mM(r:J9 K G ks ds xs)(k:bO):(atKey xs k).isSome=eH ks k:=by rw[<- r.1];exact EX xs
theorem IY(hv:a7 v u)(hd:aC K G d v):∀{xs:sX} {ds:List D} {vs:List V},aO vs (xs.map (·.2.2))->aB K G ds vs ->
  (xs.map (putAt k u)).map (·.1)=xs.map (·.1)/\∃ws,aO ws ((xs.map (putAt k u)).map (·.2.2))/\aB K G (((xs.map (·.1)).zip ds).map λp=>if p.1=k then d else p.2) ws
 |[],ds,vs,h1,h2=>⟨rfl,[],.nil,by simp[aB]⟩
 |q::xs,ds,vs,h1,h2=>by
  cases h1 with
  | @cons v0 u0 vs us h1 t1 =>
   obtain _ | ⟨d0,ds⟩:=ds
   ·simp only[aB] at h2;cases h2
   ·simp only[aB] at h2;obtain⟨v',r,e,h3,h4⟩:=h2;cases e;obtain⟨g1,ws,g2,g3⟩:=IY hv hd t1 h4;rw[Zs,Zs,Zs,Zs,List.zip_cons_cons,Zs,g1];unfold putAt;by_cases e:q.1=k
    ·rw[Zo e];exact⟨rfl,v::ws,.cons hv g2,aB.cons (by rw[Zo e];exact hd) g3⟩
    ·rw[Zp e];exact⟨rfl,_::ws,.cons h1 g2,aB.cons (by rw[Zp e];exact h3) g3⟩
def aO.snoc(h:aO vs us)(hv:a7 v u):aO (vs++[v]) (us++[u]):=h.append (.cons hv .nil)
def aDg(r:J9 K G ks ds xs)(hv:a7 v u)(hd:aC K G d v):J9 K G (l7 ks k) (nJ ks ds k d) (storedH xs k b u):=by
 obtain⟨rfl,vs,h1,h2⟩:=r;unfold l7 nJ storedH;rw[<- EX xs];split
 ·exact IY hv hd h1 h2
 ·refine⟨by rw[zd];rfl,_, ?_,aB.app h2 (aB.cons hd aB.nil)⟩;rw[zd];exact aO.snoc h1 hv
def qO(hK:X.K=K)(hu:X.A.units+64<cLine)(op:CmpOp):eW X (compareOp op) (G6 K op):=by
 intro pins s Y H x y v u Q I rx ry h;obtain⟨G,d,e,b,sub,hx,hy,eb,k⟩:=h
 cases op with
 |Eq =>
  change (if bF 20 d&&bF 20 e then some _ else none)=_ at eb;split at eb
  ·rename_i hc;cases eb;rw[ZB] at hc;exact(PL I hK sub (by omega) hc.1 hc.2 hx hy rx ry).1 _ _ _ _ ⟨.bl _,H,I,rfl,k⟩
  ·cases eb
 |NotEq =>
  change (if bF 20 d&&bF 20 e then some _ else none)=_ at eb;split at eb
  ·rename_i hc;cases eb;rw[ZB] at hc;exact(PL I hK sub (by omega) hc.1 hc.2 hx hy rx ry).2 _ _ _ _ ⟨.bl _,H,I,rfl,k⟩
  ·cases eb
 |Lt =>
  cases d with
  |int =>
   cases e with
   |int =>
    cases hx.int;cases hy.int;change some _=_ at eb;cases eb;exact aGg pins s Y H _ _ _ _ Q I rx ry ⟨_,_,rfl,rfl,k⟩
   |_=>exact(aG eb).elim
  |_=>exact(aG eb).elim
 |LtE =>
  cases d with
  |int =>
   cases e with
   |int =>
    cases hx.int;cases hy.int;change some _=_ at eb;cases eb;exact aFg pins s Y H _ _ _ _ Q I rx ry ⟨_,_,rfl,rfl,k⟩
   |_=>exact(aG eb).elim
  |_=>exact(aG eb).elim
 |Gt =>
  cases d with
  |int =>
   cases e with
   |int =>
    cases hx.int;cases hy.int;change some _=_ at eb;cases eb;exact aGk pins s Y H _ _ _ _ Q I rx ry ⟨_,_,rfl,rfl,k⟩
   |_=>exact(aG eb).elim
  |_=>exact(aG eb).elim
 |GtE =>
  cases d with
  |int =>
   cases e with
   |int =>
    cases hx.int;cases hy.int;change some _=_ at eb;cases eb;exact aFp pins s Y H _ _ _ _ Q I rx ry ⟨_,_,rfl,rfl,k⟩
   |_=>exact(aG eb).elim
  |_=>exact(aG eb).elim
 |Is =>
  cases e with
  |non =>
   cases hy.non;refine aDU pins s Y H _ _ _ _ Q I rx ry ⟨rfl, ?_⟩;by_cases hd:d=.non
   ·subst hd;cases hx.non;change some _=_ at eb;cases eb;simpa using k
   ·have:¬x=.non:=λz=>by
     subst z;rcases hx with hx | ⟨_,z,_⟩
     ·cases d<;>first | exact hd rfl | simp[aC] at hx
     ·cases z
    cases d with
    |non=>exact absurd rfl hd
    |_ =>
     change some _=_ at eb;cases eb;simpa[this] using k
  |bl =>
   cases d with
   |bl =>
    cases hx.bl;cases hy.bl;change some _=_ at eb;cases eb;cases rx;cases ry;exact is_bool ⟨.bl _,H,I,rfl,k⟩
   |_=>exact(aG eb).elim
  |_=>cases d<;>exact(aG eb).elim
 |IsNot =>
  cases e with
  |non =>
   cases hy.non;refine aAl pins s Y H _ _ _ _ Q I rx ry ⟨rfl, ?_⟩;by_cases hd:d=.non
   ·subst hd;cases hx.non;change some _=_ at eb;cases eb;simpa using k
   ·have:¬x=.non:=λz=>by
     subst z;rcases hx with hx | ⟨_,z,_⟩
     ·cases d<;>first | exact hd rfl | simp[aC] at hx
     ·cases z
    cases d with
    |non=>exact absurd rfl hd
    |_ =>
     change some _=_ at eb;cases eb;simpa[this] using k
  |_=>cases d<;>exact(aG eb).elim
 |In =>
  cases e with
  |tup ds =>
   change (if cL d&&ds.all cL then some _ else none)=_ at eb;split at eb
   ·rename_i hc;cases eb;rw[ZB] at hc;obtain⟨a,vs,rfl,h1,h2⟩:=hy.tup sub;obtain⟨i1,i2⟩:=uT (hx.flat hc.1) hc.1 h2 hc.2;refine CT pins s Y H _ _ _ _ Q I rx ry ⟨a,vs,rfl,.inr (hK ▸ h1),(nZ (hx.flat hc.1) hc.1).1,i1, ?_⟩;simpa[i2] using k
   ·cases eb
  |lst ds =>
   change (if cL d&&ds.all cL then some _ else if bF 19 d&&ds.all (bF 19) then some _ else none)=_ at eb;split at eb
   ·rename_i hc;cases eb;rw[ZB] at hc;obtain⟨a,vs,rfl,h1,h2⟩:=hy.lst sub;obtain⟨i1,i2⟩:=uT (hx.flat hc.1) hc.1 h2 hc.2;refine CT pins s Y H _ _ _ _ Q I rx ry ⟨a,vs,rfl,.inl (hK ▸ h1),(nZ (hx.flat hc.1) hc.1).1,i1, ?_⟩;simpa[i2] using k
   ·split at eb
    ·rename_i hc;cases eb;rw[ZB] at hc;obtain⟨a,vs,rfl,h1,h2⟩:=hy.lst sub;cases ry;exact(KD I hK sub (by omega) hc.1 hc.2 hx rx h1 h2).1 ⟨.bl _,H,I,rfl,k⟩
    ·cases eb
  |dci ks es =>
   change inZ d ks es=_ at eb
   cases d with
   |int i =>
    change some _=_ at eb;cases eb;obtain⟨a,vs,rfl,h1,h2,h3⟩:=hy.dci sub;cases hx.int;cases ry;refine aHn (by omega) I (uC.k (k:=Sum.inl i) h1) rx λs3 I3=>⟨.bl _,H,I3,rfl, ?_⟩
    rw[LR h2 h3];exact k
   |_=>exact(aG eb).elim
  |dcs ks es =>
   change BF d ks=_ at eb;unfold BF at eb
   cases hs:dD d with
   |none=>rw[hs] at eb;cases eb
   |some k0 =>
    rw[hs] at eb;cases eb;subst hK;obtain⟨b0,rfl,kk⟩:=qW hs hx;obtain⟨a,xs,rfl,ds,pr,_⟩:=hy.dcs sub;cases rx;cases ry;refine aHA (by omega) I ds (bR.mono sub kk) λs3 I3=>⟨.bl _,H,I3,rfl, ?_⟩
    rw[mM pr];exact k
  |_=>exact(aG eb).elim
 |NotIn =>
  cases e with
  |tup ds =>
   change (if cL d&&ds.all cL then some _ else none)=_ at eb;split at eb
   ·rename_i hc;cases eb;rw[ZB] at hc;obtain⟨a,vs,rfl,h1,h2⟩:=hy.tup sub;obtain⟨i1,i2⟩:=uT (hx.flat hc.1) hc.1 h2 hc.2;refine vD pins s Y H _ _ _ _ Q I rx ry ⟨a,vs,rfl,.inr (hK ▸ h1),(nZ (hx.flat hc.1) hc.1).1,i1, ?_⟩;simpa[i2] using k
   ·cases eb
  |lst ds =>
   change (if cL d&&ds.all cL then some _ else if bF 19 d&&ds.all (bF 19) then some _ else none)=_ at eb;split at eb
   ·rename_i hc;cases eb;rw[ZB] at hc;obtain⟨a,vs,rfl,h1,h2⟩:=hy.lst sub;obtain⟨i1,i2⟩:=uT (hx.flat hc.1) hc.1 h2 hc.2;refine vD pins s Y H _ _ _ _ Q I rx ry ⟨a,vs,rfl,.inl (hK ▸ h1),(nZ (hx.flat hc.1) hc.1).1,i1, ?_⟩;simpa[i2] using k
   ·split at eb
    ·rename_i hc;cases eb;rw[ZB] at hc;obtain⟨a,vs,rfl,h1,h2⟩:=hy.lst sub;cases ry;exact(KD I hK sub (by omega) hc.1 hc.2 hx rx h1 h2).2 ⟨.bl _,H,I,rfl,k⟩
    ·cases eb
  |dcs ks es =>
   change (BF d ks).map (!·)=_ at eb;unfold BF at eb
   cases hs:dD d with
   |none=>rw[hs] at eb;cases eb
   |some k0 =>
    rw[hs] at eb;cases eb;subst hK;obtain⟨b0,rfl,kk⟩:=qW hs hx;obtain⟨a,xs,rfl,ds,pr,_⟩:=hy.dcs sub;cases rx;cases ry;refine aA9 (by omega) I ds (bR.mono sub kk) λs3 I3=>⟨.bl _,H,I3,rfl, ?_⟩
    rw[mM pr];exact k
  |_=>exact(aG eb).elim
end
section
variable{X:Cx}{K:Frag}{pins:List (Addr×Obj)}{Y:St}{H G:Hp}{s:Shared}
def V6(h:aB K G ds vs)(e:cV ds i=some d):∃v,cV vs i=some v/\aC K G d v:=by
 unfold cV at e ⊢;rw[h.len]
 cases q:mX ds.length i with
 |none=>rw[q] at e;cases e
 |some j =>
  rw[q] at e;exact h.get e
noncomputable def aHG(K:Frag):R2:=λx y H Q=>∃G d e r,aV G H/\cF K H G d x/\cF K H G e y/\OR d e=some r/\∀z,aC K G r z->Q z H
def mY.imp(h:mY X r)(w:∀x y H Q,r' x y H Q->r x y H Q):mY X r':=λva sl pins s Y H x y v u Q I rx ry q hs=>h va sl pins s Y H x y v u Q I rx ry (w x y H Q q) hs
def QY(h:PyData.strOk x=true)(e:cV x.cps.toList i=some c):PyData.strOk ⟨#[c]⟩=true:=by
 unfold PyData.strOk at *
 have hm:c∈x.cps.toList:=by
  unfold cV at e
  cases q:mX x.cps.toList.length i with
  |none=>rw[q] at e;cases e
  |some j=>rw[q] at e;exact zj e
 have:=Array.all_eq_true'.mp h c (by simpa using hm)
 simpa using this
noncomputable def aHS:R2:=λx y H Q=>∃a v,x=.ref a/\uC H a y (some v)/\Q v H
def aA4(hu:X.A.units+1<cLine):mY X aHS:=by
 intro value slice pins s Y H x y v u Q I rx ry h hs;obtain⟨a,z,rfl,g,q⟩:=h;cases rx;have hT:=IE I g;unfold subscriptTail;refine Zt ?_;rw[getitemInPython_of_ne hT.not_modules];refine Zt (wpAny_specialOf hT PySem.F.slot_dict_getitem.lookup ?_)
 have fin:wpAny (model X.prog X.w) X.A (subscripted slice false (.ref a) u) (λr s₃=>wpAny (model X.prog X.w) X.A (letTemporaryGo value (.ref a) r>>=λ_=>pure r) (EP X pins Y Q) X.xe s₃) X.xe s:=by(rw[hs];exact wpAny_operating (NB hu I g ry λw' s3 I3 rw'=>Zt (wpAny_letTemporaryGo (Zu ⟨z,H,I3,rw',q⟩))))
 first
  |exact Zu (Zt fin)
  |exact Zt (Zu (Zt fin))
  |exact Zt fin
noncomputable def K5(K:Frag):R2:=λx y H Q=>∃a b xs k p v,x=.ref a/\y=.ref b/\DS K H a xs/\bR K H k b/\atKey xs k=some p/\a7 v p.2/\Q v H
def DS.typeIs(I:Inv X pins Y H s)(d:DS X.K H a xs):s.TypeIs (.ref a) "dict":=by
 obtain⟨o,es,ep,h1,h2,_⟩:=d.dict I;exact⟨o,h1,h2.1⟩
def VI(hu:X.A.units+11<cLine):mY X (K5 X.K):=by
 intro value slice pins s Y H x y v u Q I rx ry h hs;obtain⟨a,b,xs,k,p,z,rfl,rfl,ds,kk,e,en,q⟩:=h;cases rx;cases ry;have hT:=DS.typeIs I ds;unfold subscriptTail;refine Zt ?_;rw[getitemInPython_of_ne hT.not_modules];refine Zt (wpAny_specialOf hT PySem.F.slot_dict_getitem.lookup ?_)
 have fin:wpAny (model X.prog X.w) X.A (subscripted slice false (.ref a) (.ref b)) (λr s₃=>wpAny (model X.prog X.w) X.A (letTemporaryGo value (.ref a) r>>=λ_=>pure r) (EP X pins Y Q) X.xe s₃) X.xe s:=by(rw[hs];exact wpAny_operating (Q9 hu I ds kk e λs3 I3=>Zt (wpAny_letTemporaryGo (Zu ⟨z,H,I3,en,q⟩))))
 first
  |exact Zu (Zt fin)
  |exact Zt (Zu (Zt fin))
  |exact Zt fin
def aE6(hK:X.K=K)(hu:X.A.units+11<cLine):mY X (aHG K):=by
 refine mY.imp ((aEf.or (aA4 (by omega))).or (VI hu)) λx y H Q h=>?_
 obtain⟨G,d,e,r,sub,hx,hy,er,k⟩:=h;subst hK;unfold OR at er;split at er
 ·cases hy.int;obtain⟨a,vs,rfl,h1,h2⟩:=hx.tup sub;obtain⟨v,h3,h4⟩:=V6 h2 er;exact .inl (.inl (.inr (.inl ⟨a,vs,_,v,rfl,rfl,h1,h3,k v h4⟩)))
 ·cases hy.int;obtain⟨a,vs,rfl,h1,h2⟩:=hx.lst sub;obtain⟨v,h3,h4⟩:=V6 h2 er;exact .inl (.inl (.inl ⟨a,vs,_,v,rfl,rfl,h1,h3,k v h4⟩))
 ·rename_i ks es
  cases hs:dD e with
  |none=>rw[hs] at er;cases er
  |some k0 =>
   rw[hs] at er;simp only[Option.bind_some] at er;obtain⟨b0,rfl,kk⟩:=qW hs hy;obtain⟨a,xs,rfl,ds,pr,_⟩:=hx.dcs sub;rcases JA (k:=k0) pr with ⟨_,h2⟩ | ⟨p,n,v,h1,h2,h3,h4⟩
   ·rw[h2] at er;cases er
   ·rw[h2] at er;cases er;exact .inr ⟨a,b0,xs,k0,p,v,rfl,rfl,ds,bR.mono sub kk,h1,h3,k _ h4⟩
 ·rename_i ks es i;cases hy.int;obtain⟨a,vs,rfl,h1,h2,h3⟩:=hx.dci sub;rcases xG i h2 h3 with ⟨_,q⟩ | ⟨d,v,q1,q2,q3⟩
  ·rw[q] at er;cases er
  ·rw[q2] at er;cases er;refine .inl (.inr ⟨a,v,rfl, ?_,k _ q3⟩);have g:=uC.k (k:=Sum.inl i) h1;rw[q1] at g;exact g
 ·split at er
  ·rename_i hz;cases hy.int;obtain⟨rfl,ok⟩:=hx.str
   cases q:cV ‹Str›.cps.toList ‹Int› with
   |none=>rw[q] at er;cases er
   |some c =>
    rw[q] at er;cases er;exact .inl (.inl (.inr (.inr ⟨_,_,c,rfl,rfl,Zr hz (by decide),q,k _ (show aC X.K G (.str _) _ by unfold aC;exact⟨rfl,QY ok q⟩)⟩)))
  ·cases er
 ·cases er
def OP{lo hi:Option Int}(h:aB K G ds vs):aB K G (iC ds lo hi) (vR vs lo hi):=by
 unfold iC vR;rw[h.len];exact(h.drop _).take _
def aHp(K:Frag):V->Option Int->Option Int->Hp->VK->Prop:=λx lo hi H Q=>∃G d v,aV G H/\cF K H G d x/\W6 d lo hi=some v/\∀z H',xV K H G v z H'->Q z H'
def aGb(hK:X.K=K):zW X (aHp K):=by
 intro pins s Y H x v vl vu lo hi sl Q I rx hs pl pu h;obtain⟨G,d,r,sub,hx,er,k⟩:=h;subst hK;refine zW.or Z5 aCR pins s Y H x v vl vu lo hi sl Q I rx hs pl pu ?_;unfold W6 at er;split at er
 ·cases er;obtain⟨a,vs,rfl,h1,h2⟩:=hx.lst sub;exact .inl ⟨a,vs,rfl,h1,λp hp=>k _ _ (.inr (.inl ⟨_,_,p,rfl,hp,OP h2,rfl,rfl⟩))⟩
 ·split at er
  ·cases er
  ·rename_i hw;cases er;obtain⟨a,vs,rfl,h1,h2⟩:=hx.tup sub;exact .inr ⟨a,vs,rfl,h1,by rw[h2.len];exact hw,λp hp=>k _ _ (DU ⟨_,_,p,rfl,hp,OP h2,rfl,rfl⟩)⟩
 ·cases er
def yW(K:Frag)(H G:Hp):List D->List V->Prop
 |[],xs=>xs=[]
 |d::ds,xs=>∃x r,xs=x::r/\cF K H G d x/\yW K H G ds r
def eR(h:yW K H G [d] xs):∃x,xs=[x]/\cF K H G d x:=by
 obtain⟨x,r,rfl,h1,h2⟩:=h;cases (show r=[] from h2);exact⟨x,rfl,h1⟩
def NY(h:yW K H G [d,e] xs):∃x y,xs=[x,y]/\cF K H G d x/\cF K H G e y:=by
 obtain⟨x,r,rfl,h1,h2⟩:=h;obtain⟨y,rfl,h3⟩:=eR h2;exact⟨x,y,rfl,h1,h3⟩
def rBi(K:Frag)(f:BI):List V->Hp->VK->Prop:=λxs H Q=>∃G ds v,aV G H/\yW K H G ds xs/\gG f ds=some v/\∀z H',xV K H G v z H'->Q z H'
noncomputable def biV:BI->Value
 |.len=>.builtin "len"
 |.abs=>.builtin "abs"
 |.int=>.type "int"
 |.list=>.type "list"
 |.tuple=>.type "tuple"
 |.min=>.builtin "min"
 |.max=>.builtin "max"
 |.all=>.builtin "all"
 |.dict=>.type "dict"
theorem F3:∀{ds:List D} {vs:List V} {us:List Value} {bs:List Bool},aB K G ds vs->aO vs us->eD ds=some bs->LSm.BoolsAre us bs
 |[],_,_,_,h,r,e=>by
  simp only[aB] at h;subst h;cases r;cases e;exact .nil
 |d::ds,_,_,_,h,r,e=>by
  simp only[aB] at h;obtain⟨v,r',rfl,h1,h2⟩:=h
  cases r with
  |cons ra rb =>
   cases d<;>simp only[eD,reduceCtorEq] at e;rename_i b
   cases q:eD ds with
   |none=>rw[q] at e;cases e
   |some bs' =>
    rw[q] at e;cases e;simp only[aC] at h1;subst h1;cases ra;exact .cons b (F3 h2 rb q)
def RN(hc:X.A.handled=none):fP X (.builtin "all") (λxs H Q=>∃a vs ds bs G,xs=[.ref a]/\bU X.K H a vs/\aB X.K G ds vs/\eD ds=some bs/\Q (.bl (bs.all id)) H):=by
 intro pins s Y H xs us Q I r h;obtain⟨a,vs,ds,bs,G,rfl,h1,h2,h3,q⟩:=h;obtain⟨u,rfl,rx⟩:=iJ r;cases rx;obtain⟨its,rv,hl,z⟩:=qB I h1;have hb:=F3 h2 rv h3;have hlt:a<s.heap.objs.size:=by obtain⟨_,e,_⟩:=hl;exact Zv e
 refine call_all_walk (wpAny_pyIter_list hl ?_)
 refine⟨s.heap.objs.size,[s.heap.objs.size,a],[s.heap.objs.size],its.toArray.size,_,_,λi=>(bs[i]?).getD true,rfl,Walks.list (A:=X.A.in1) hc _ a (Zz hlt) its.toArray,
  ⟨⟨_,Zw _ rfl,rfl,rfl⟩,hl.push _⟩,λi v s' Q' E' hP hQ=>?_,λh' tk hk=>?_⟩
 ·obtain⟨b,e,rfl⟩:=hb.get i v (by simpa using hP);simp only[e,Option.getD_some] at hQ;exact wpAny_truthy_bool hQ
 ·have e:((List.range its.toArray.size).all λi=>(bs[i]?).getD true)=bs.all id:=by
   rw[Zi,hb.length];exact LSm.range_all bs
  rw[e];exact⟨.bl _,H,I.kept (t':=tk) (LSm.kept_iter hk),rfl,q⟩
theorem BB:∀{ds:List D} {vs:List V} {us:List Value} {is:List Int},aB K G ds vs->aO vs us->d7 ds=some is->IntsAre us is
 |[],_,_,_,h,r,e=>by
  simp only[aB] at h;subst h;cases r;cases e;exact .nil
 |d::ds,_,_,_,h,r,e=>by
  simp only[aB] at h;obtain⟨v,r',rfl,h1,h2⟩:=h
  cases r with
  |cons ra rb =>
   cases d<;>simp only[d7,reduceCtorEq] at e;rename_i b
   cases q:d7 ds with
   |none=>rw[q] at e;cases e
   |some bs' =>
    rw[q] at e;cases e;simp only[aC] at h1;subst h1;obtain⟨t,rfl⟩:=ra;exact .cons _ _ (BB h2 rb q)
def aIs(i:Int):∀(r:List Int),(r.foldl (λm y=>if y > m then y else m) i)∈i::r/\∀a∈i::r,a<=r.foldl (λm y=>if y > m then y else m) i:=by
 intro r
 induction r generalizing i with
 |nil=>exact⟨by simp,λa ha=>by simp at ha;simp;omega⟩
 |cons y r ih =>
  simp only[List.foldl_cons];obtain⟨h1,h2⟩:=ih (if y > i then y else i);refine⟨?_,λa ha=>?_⟩
  ·rcases List.mem_cons.mp h1 with h | h
   ·rw[h];split
    ·simp
    ·simp
   ·exact Ze _ (Ze _ h)
  ·have h3:=h2 (if y > i then y else i) (by simp);have h4:i<=(if y > i then y else i):=by split<;>omega
   have h5:y<=(if y > i then y else i):=by split<;>omega
   rcases List.mem_cons.mp ha with h | h
   ·rw[h];exact Int.le_trans h4 h3
   ·rcases List.mem_cons.mp h with h | h
    ·rw[h];exact Int.le_trans h5 h3
    ·exact h2 a (Ze _ h)
def QX(hc:X.calm=true):fP X (.builtin "max") (λxs H Q=>∃a vs ds i r G,xs=[.ref a]/\bU X.K H a vs/\aB X.K G ds vs/\d7 ds=some (i::r)/\Q (.int (r.foldl (λm y=>if y > m then y else m) i)) H):=by
 intro pins s Y H xs us Q I r h;obtain⟨a,vs,ds,i,ns,G,rfl,h1,h2,h3,q⟩:=h;obtain⟨u,rfl,rx⟩:=iJ r;cases rx;obtain⟨its,rv,hl,z⟩:=qB I h1;have hi:=BB h2 rv h3;obtain⟨xs,e⟩:=hi.allInts.items
 have hns:i::ns=xs.toList.map (·.1):=by(rw[<- hi.numsOf,<- nums_intItems,<- e])
 have hsz:0<xs.size:=by
  have h3:0<(i::ns).length:=by simp
  rw[hns,List.length_map,Array.length_toList] at h3;exact h3
 rw[e] at hl;refine max_intList (I.ok.hd hc) hl hsz λv h' tk hv hk=>?_
 obtain⟨t,rfl⟩:=intItems_at hv;obtain⟨k1,k2⟩:=argBest_gt (numAt xs) (xs.size-1)
 have m1:numAt xs (argBest (λi j=>decide (numAt xs i > numAt xs j)) (xs.size-1))∈i::ns:=by(rw[hns,numAt_eq];exact getD_mem (by rw[List.length_map,Array.length_toList];omega))
 have m2:∀b∈i::ns,b<=numAt xs (argBest (λi j=>decide (numAt xs i > numAt xs j)) (xs.size-1)):=λb ha=>by(rw[hns] at ha;obtain⟨j,hj,rfl⟩:=mem_getD ha;rw[List.length_map,Array.length_toList] at hj;rw[<- numAt_eq];exact k2 j (by omega))
 obtain⟨m3,m4⟩:=aIs i ns;have e2:numAt xs (argBest (λi j=>decide (numAt xs i > numAt xs j)) (xs.size-1))=ns.foldl (λm y=>if y > m then y else m) i:=Int.le_antisymm (m4 _ m1) (m2 _ m3);refine⟨.int _,H,I.kept hk,⟨t,rfl⟩, ?_⟩;rw[e2];exact q
def MV(d:Addr)(hd:(d==sysModules)=false):MeetsIn P w (Builtin.«dict.__len__» ⟨[.ref d],[]⟩) (λ_ R s=>∃xs ep,cJ d xs ep s.heap/\R (.ok (.ret (.int xs.length s.toks))) { s with toks:=s.toks+1 }):=by
 refine .of_wp λA R s ⟨xs,ep,⟨o,es,ho,hc,hdat,hk⟩,h⟩=>?_
 have e:es.size=xs.length:=by rw[<- Array.length_toList,hk,List.length_map]
 show wpAny _ _ ((dictEntries d>>=_)>>=_) _ _ s;refine Zt (Zt (wpAny_dictEntries ho hdat ?_));refine Zu (Zt (wpAny_pendingCount_other hd (wpAny_ret_mkInt ?_)));rw[Nat.add_zero,e];exact h
def aFP(I:Inv X pins Y H s)(d:DS X.K H a xs)(h:∀t s',Inv X pins Y H s'->Q (.int xs.length t) s'):wpAny (model X.prog X.w) X.A (call (.builtin "len") [.ref a]) Q X.xe s:=by
 have hT:=DS.typeIs I d;have z:=d.len;rw[sizeLine_eq] at z;obtain⟨ep,e⟩:=d.at_;have hr:cJ a xs ep s.heap:=(show cT X.prog X.w H s.heap a (.ext (cJ a xs ep)) from I.hok a _ e).1;refine Calls.call_function_entry kind_len plain_len entry_len (args_len1 _) ?_;unfold Builtin.«len»
 refine Zt (m:=oneArg "len" _) (Zu (Zt (m:=callSpecial? (.ref a) (Str.ofString "__len__")) (wpAny_callSpecial?_slot (name:=Str.ofString "__len__") hT PySem.F.slot_dict_len
  (call_meetsIn PySem.F.slot_dict_len hT PySem.F.entry_dict_len (PySem.F.args_dict_len_1 _) (MV a d.sm) ⟨xs,ep,hr, ?_⟩))))
 refine Zt (wpAny_holding (Zu (Zt (wpAny_letGo ?_))));have h1:¬((xs.length:Nat):Int)<0:=by omega
 have h2:¬((xs.length:Nat):Int) >= 2 ^ 63:=by omega
 show wpAny _ _ (if((xs.length:Nat):Int)<0 then _ else _) _ _ _;rw[Zp h1];show wpAny _ _ (if((xs.length:Nat):Int) >= 2 ^ 63 then _ else _) _ _ _;rw[Zp h2];exact Zt (wpAny_mkInt (Zu ⟨_,rfl,h _ _ ((I.tok _).tok _)⟩))
theorem CO:∀{xs:sX} {us:List Value},us.length=xs.length->(∀(j:Nat) v,us[j]?=some v->∃x,xs[j]?=some x/\v=.ref x.2.1)->aO (xs.map λx=>V.ref x.2.1) us
 |[],[],_,_=>.nil
 |x::xs,u::us,h,k=>by(obtain⟨_,e,q⟩:=k 0 u rfl;cases e;exact .cons q (CO (Nat.succ.inj h) λj v e=>k (j+1) v e))
def aCD(hh:X.A.handled=none)(I:Inv X pins Y H s)(d:DS X.K H a xs)(h:∀p s',H p=none->Inv X pins Y (aP H p (.lst (xs.map λx=>V.ref x.2.1))) s'->Q (.ref p) s'):wpAny (model X.prog X.w) X.A (call (.type "list") [.ref a]) Q X.xe s:=by
 obtain⟨ep,e⟩:=d.at_;refine PySem.W.kdl_call (T9 d.sm) hh (show cT X.prog X.w H s.heap a (.ext (cJ a xs ep)) from I.hok a _ e).1 d.len λh' tk acc' c' hk hS hacc=>?_
 refine h _ _ (I.hok.fresh (Zq _)) (I.laid (o:=.lst (xs.map λx=>V.ref x.2.1)) (t':=tk) hk (Zq _) ⟨?_,acc'.toList,c',CO (by rw[Array.length_toList];exact hacc.1) λj v e=>hacc.2 j v (by rw[<- Array.getElem?_toList];exact e), ?_⟩)
 ·rw[List.length_map];exact d.len
 ·rw[hS]
theorem yT:∀(qs acc:List (kT×Value)),((acc++qs).map (·.1)).Nodup->qs.foldl (λa q=>stored a q.1 q.2) acc=acc++qs
 |[],acc,_=>(List.append_nil acc).symm
 |q::qs,acc,h=>by
  rw[List.foldl_cons]
  have e:stored acc q.1 q.2=acc++[q]:=by
   unfold stored;refine Zp λz=>?_
   obtain⟨x,hx,e⟩:=List.any_eq_true.mp z;rw[zd,List.nodup_append] at h;exact h.2.2 x.1 (zl.mpr ⟨x,hx,rfl⟩) q.1 (by simp) (of_decide_eq_true e)
  rw[e,yT qs _ (by rw[List.append_assoc];exact h),List.append_assoc];rfl
def SA(h:zO d=some p):d=.tup [.int p.1,p.2]:=by
 unfold zO at h;split at h
 ·cases h;rfl
 ·cases h
theorem E3(I:Inv X pins Y H s)(sub:aV G H):∀{ds:List D} {vs:List V} {us:List Value} {ps:List (Int×D)},aB X.K G ds vs->aO vs us->jW ds=some ps->∃(ws:List V) (qs:List (kT×Value)),n4 X.prog X.w s.heap us qs/\aB X.K G (ps.map (·.2)) ws/\KV (pW (ps.map (·.1)) ws) qs/\qs.map (·.1)=(ps.map (·.1)).map Sum.inl
 |[],_,_,_,h,r,e=>by
  simp only[aB] at h;subst h;cases r;cases e;exact⟨[],[],.nil,aB.nil,.nil,rfl⟩
 |d::ds,_,_,_,h,r,e=>by
  simp only[aB] at h;obtain⟨v,vs,rfl,h1,h2⟩:=h
  cases r with
  | @cons _ u _ us r1 r2 =>
   unfold jW at e
   cases q:zO d with
   |none=>rw[q] at e;cases e
   |some p =>
    cases q2:jW ds with
    |none=>rw[q,q2] at e;cases e
    |some ps =>
     rw[q,q2] at e;cases e;obtain⟨ws,qs,i1,i2,i3,i4⟩:=E3 I sub h2 r2 q2;rw[SA q] at h1;simp only[aC,aB] at h1;obtain⟨b,zs,rfl,g1,v1,y1,rfl,rfl,v2,y2,rfl,g2,rfl⟩:=h1;obtain⟨its,rr,ht,_⟩:=I.tuple (dJ (Sm.of sub) g1);obtain⟨u1,u2,rfl,ra,rb⟩:=wC rr;exact⟨v2::ws,(Sum.inl p.1,u2)::qs,.cons ⟨b,u1,r1,ht,LK (k:=Sum.inl p.1) ra⟩ i1,aB.cons g2 i2,.cons ⟨rfl,rb⟩ i3,by simp only[Zs,i4]⟩
def aCQ(hh:X.A.handled=none)(I:Inv X pins Y H s)(sub:aV G H)(hl:bU X.K H a vs)(hr:aB X.K G ds vs)(hps:jW ds=some ps)(nd:(ps.map (·.1)).Nodup)
  (h:∀p ws s',H p=none->aB X.K G (ps.map (·.2)) ws->Inv X pins Y (aP H p (.dK (pW (ps.map (·.1)) ws))) s'->Q (.ref p) s'):wpAny (model X.prog X.w) X.A (call (.type "dict") [.ref a]) Q X.xe s:=by
 obtain⟨its,rv,⟨o,n,e1,e2,e3,e4⟩,z⟩:=I.list hl;obtain⟨ws,qs,i1,i2,i3,i4⟩:=E3 I sub hr rv hps;obtain⟨c,dct,dat,sl⟩:=o;simp only at e2 e3 e4;subst e2 e3 e4;have hq:qs.length<=sizeLine:=by rw[<- Paired.length i1,<- rv.length];exact z
 refine GK e1 i1 hh hq λh' tk k d=>?_
 rw[yT qs [] (by rw[List.nil_append,i4];exact List.Pairwise.map _ (λ_ _ h z=>h (Sum.inl.inj z)) nd)] at d;refine h _ ws _ (I.hok.fresh (Zq _)) i2 (I.laid (o:=.dK (pW (ps.map (·.1)) ws)) (t':=tk) k (Zq _) (aBz (by rw[i3.length];exact hq) (beq_eq_false_iff_ne.mpr (Ne.symm (Zz I.big))) i3 d))
def aFU(hK:X.K=K)(hc:X.calm=true)(hh:X.A.handled=none)(rm:Room 2 X.A)(f:BI):fP X (biV f) (rBi K f):=by
 intro pins s Y H xs us Q I r h;obtain⟨G,ds,v,sub,hx,e,k⟩:=h;subst hK
 cases f with
 |len =>
  obtain _ | ⟨d,_ | ⟨_,_⟩⟩:=ds
  ·exact(aG e).elim
  ·cases d with
   |lst =>
    change some _=_ at e;cases e;obtain⟨x,rfl,h1⟩:=eR hx;obtain⟨a,vs,rfl,h2,h3⟩:=h1.lst sub;exact vK pins s Y H _ us Q I r ⟨a,vs,rfl,.inl h2,by rw[h3.len];exact k _ _ cQ⟩
   |tup =>
    change some _=_ at e;cases e;obtain⟨x,rfl,h1⟩:=eR hx;obtain⟨a,vs,rfl,h2,h3⟩:=h1.tup sub;exact vK pins s Y H _ us Q I r ⟨a,vs,rfl,.inr h2,by rw[h3.len];exact k _ _ cQ⟩
   |dcs =>
    change some _=_ at e;cases e;obtain⟨x,rfl,h1⟩:=eR hx;obtain⟨a,zs,rfl,h2,⟨h3,_⟩,_⟩:=h1.dcs sub;obtain⟨u,rfl,ru⟩:=iJ r;cases ru;refine aFP I h2 λt s' I'=>⟨.int (zs.length:Int),H,I',⟨t,rfl⟩, ?_⟩
    rw[show zs.length=_ from(List.length_map _).symm.trans (congrArg List.length h3)];exact k _ _ cQ
   |str x =>
    change @ite _ (x.length<=1000000) (cl _) _ none=_ at e;split at e
    ·rename_i hz;cases e;obtain⟨x,rfl,h1⟩:=eR hx;obtain⟨rfl,_⟩:=h1.str;exact EB pins s Y H _ us Q I r ⟨_,rfl,Zr hz (by decide),k _ _ cQ⟩
    ·cases e
   |_=>exact(aG e).elim
  ·cases d<;>exact(aG e).elim
 |abs =>
  obtain _ | ⟨d,_ | ⟨_,_⟩⟩:=ds
  ·exact(aG e).elim
  ·cases d with
   |int =>
    change some _=_ at e;cases e;obtain⟨x,rfl,h1⟩:=eR hx;cases h1.int;exact R8 pins s Y H _ us Q I r ⟨_,rfl,k _ _ cQ⟩
   |_=>exact(aG e).elim
  ·cases d<;>exact(aG e).elim
 |int =>
  obtain _ | ⟨d,_ | ⟨_,_⟩⟩:=ds
  ·exact(aG e).elim
  ·cases d with
   |int =>
    change some _=_ at e;cases e;obtain⟨x,rfl,h1⟩:=eR hx;cases h1.int;exact B7 pins s Y H _ us Q I r (.inl ⟨_,rfl,k _ _ cQ⟩)
   |bl =>
    change some _=_ at e;cases e;obtain⟨x,rfl,h1⟩:=eR hx;cases h1.bl;exact B7 pins s Y H _ us Q I r (.inr ⟨_,rfl,k _ _ cQ⟩)
   |_=>exact(aG e).elim
  ·cases d<;>exact(aG e).elim
 |list =>
  obtain _ | ⟨d,_ | ⟨_,_⟩⟩:=ds
  ·exact(aG e).elim
  ·cases d with
   |lst =>
    change some _=_ at e;cases e;obtain⟨x,rfl,h1⟩:=eR hx;obtain⟨a,vs,rfl,h2,h3⟩:=h1.lst sub;exact vO pins s Y H _ us Q I r ⟨a,vs,rfl,.inl h2,λp hp=>k _ _ (.inr (.inl ⟨_,_,p,rfl,hp,h3,rfl,rfl⟩))⟩
   |tup =>
    change some _=_ at e;cases e;obtain⟨x,rfl,h1⟩:=eR hx;obtain⟨a,vs,rfl,h2,h3⟩:=h1.tup sub;exact vO pins s Y H _ us Q I r ⟨a,vs,rfl,.inr h2,λp hp=>k _ _ (.inr (.inl ⟨_,_,p,rfl,hp,h3,rfl,rfl⟩))⟩
   |dcs =>
    change some _=_ at e;cases e;obtain⟨x,rfl,h1⟩:=eR hx;obtain⟨a,zs,rfl,h2,⟨h3,_⟩,h4⟩:=h1.dcs sub;obtain⟨u,rfl,ru⟩:=iJ r;cases ru;exact aCD hh I h2 λp s' hp I'=>⟨.ref p,_,I',rfl,k _ _ (.inr (.inl ⟨_,_,p,rfl,hp,h3 ▸ CQ h4,rfl,rfl⟩))⟩
   |_=>exact(aG e).elim
  ·cases d<;>exact(aG e).elim
 |dict =>
  obtain _ | ⟨d,_ | ⟨_,_⟩⟩:=ds
  ·exact(aG e).elim
  ·cases d with
   |lst ds =>
    change zY ds=_ at e;unfold zY at e
    cases hps:jW ds with
    |none=>rw[hps] at e;cases e
    |some ps =>
     rw[hps] at e;simp only[Option.bind_some] at e;split at e
     ·rename_i hn;cases e;obtain⟨x,rfl,h1⟩:=eR hx;obtain⟨a,vs,rfl,h2,h3⟩:=h1.lst sub;obtain⟨u,rfl,ru⟩:=iJ r;cases ru;exact aCQ hh I sub h2 h3 hps (of_decide_eq_true hn) λp ws s' hp hw I'=>⟨.ref p,_,I',rfl,k _ _ (.inr (.inr (.inr ⟨_,_,ws,p,rfl,hp,hw,by rw[List.length_map,List.length_map],rfl,rfl⟩)))⟩
     ·cases e
   |_=>exact(aG e).elim
  ·cases d<;>exact(aG e).elim
 |tuple =>
  obtain _ | ⟨d,_ | ⟨_,_⟩⟩:=ds
  ·exact(aG e).elim
  ·cases d with
   |lst =>
    change some _=_ at e;cases e;obtain⟨x,rfl,h1⟩:=eR hx;obtain⟨a,vs,rfl,h2,h3⟩:=h1.lst sub;exact sO pins s Y H _ us Q I r ⟨a,vs,rfl,.inl ⟨h2,λp hp=>k _ _ (DU ⟨_,_,p,rfl,hp,h3,rfl,rfl⟩)⟩⟩
   |tup =>
    change some _=_ at e;cases e;obtain⟨x,rfl,h1⟩:=eR hx;have h1':=h1;obtain⟨a,vs,rfl,h2,h3⟩:=h1.tup sub;refine sO pins s Y H _ us Q I r ⟨a,vs,rfl,.inr ⟨h2, ?_⟩⟩;rcases h1' with h1' | ⟨_,_,h1'⟩
    ·exact k _ _ (.inl ⟨_,rfl,h1',rfl⟩)
    ·exact h1'.elim
   |_=>exact(aG e).elim
  ·cases d<;>exact(aG e).elim
 |min =>
  obtain _ | ⟨d,_ | ⟨d2,_ | ⟨_,_⟩⟩⟩:=ds
  ·exact(aG e).elim
  ·cases d<;>exact(aG e).elim
  ·cases d with
   |int =>
    cases d2 with
    |int =>
     change some _=_ at e;cases e;obtain⟨x,y,rfl,h1,h2⟩:=NY hx;cases h1.int;cases h2.int;exact NW hc pins s Y H _ us Q I r ⟨_,_,rfl,k _ _ cQ⟩
    |_=>exact(aG e).elim
   |_=>exact(aG e).elim
  ·cases d with
   |int=>cases d2<;>exact(aG e).elim
   |_=>exact(aG e).elim
 |max =>
  obtain _ | ⟨d,_ | ⟨d2,_ | ⟨_,_⟩⟩⟩:=ds
  ·exact(aG e).elim
  ·cases d with
   |lst ds =>
    change (match d7 ds with | some (i::r)=>some (RV.sh (.int (r.foldl (λm y=>if y > m then y else m) i))) | _=>none)=_ at e;split at e
    ·rename_i i r' q;cases e;obtain⟨x,rfl,h1⟩:=eR hx;obtain⟨a,vs,rfl,h2,h3⟩:=h1.lst sub;exact QX hc pins s Y H _ us Q I r ⟨a,vs,ds,i,r',G,rfl,h2,h3,q,k _ _ cQ⟩
    ·cases e
   |_=>exact(aG e).elim
  ·cases d with
   |int =>
    cases d2 with
    |int =>
     change some _=_ at e;cases e;obtain⟨x,y,rfl,h1,h2⟩:=NY hx;cases h1.int;cases h2.int;exact OC hc pins s Y H _ us Q I r ⟨_,_,rfl,k _ _ cQ⟩
    |_=>exact(aG e).elim
   |_=>exact(aG e).elim
  ·cases d with
   |int=>cases d2<;>exact(aG e).elim
   |_=>exact(aG e).elim
 |all =>
  obtain _ | ⟨d,_ | ⟨_,_⟩⟩:=ds
  ·exact(aG e).elim
  ·cases d with
   |lst ds =>
    change (eD ds).map _=_ at e
    cases q:eD ds with
    |none=>rw[q] at e;cases e
    |some bs =>
     rw[q] at e;cases e;obtain⟨x,rfl,h1⟩:=eR hx;obtain⟨a,vs,rfl,h2,h3⟩:=h1.lst sub;exact RN hh pins s Y H _ us Q I r ⟨a,vs,ds,bs,G,rfl,h2,h3,q,k _ _ aAv⟩
   |_=>exact(aG e).elim
  ·cases d<;>exact(aG e).elim
def O7(hc:X.calm=true):fP X (.type "set") (λxs H Q=>∃a vs ds is G,xs=[.ref a]/\bU X.K H a vs/\aB X.K G ds vs/\d7 ds=some is/\is.length<=1000/\∀p S,H p=none->Q (.ref p) (aP H p (.set S (firstMet (λi=>is.getD i 0) is.length).length))):=by
 intro pins s Y H xs us Q I r h;obtain⟨a,vs,ds,is,G,rfl,h1,h2,h3,hz,q⟩:=h;obtain⟨u,rfl,rx⟩:=iJ r;cases rx;obtain⟨its,rv,hl,z⟩:=qB I h1;have hi:=BB h2 rv h3;have hsz:its.toArray.size=is.length:=by rw[Zi];exact hi.length
 refine call_set_list (I.ok.hd hc) hl hi (by rw[hsz];exact Nat.lt_of_le_of_lt (Nat.add_le_add_right hz 1) (by decide)) λh' tk hS hk=>?_
 rw[hsz] at hS;exact⟨.ref s.heap.objs.size,_,I.laid (o:=.set (λk'=>(firstMet (λi=>is.getD i 0) is.length).any (· == k')) (firstMet (λi=>is.getD i 0) is.length).length) (t':=tk) (λb o e=>hk b o (Zv e) e) (Zq _) hS,rfl,q _ _ (I.hok.fresh (Zq _))⟩
def QA:fP X (.builtin "len") (λxs H Q=>∃p S n,xs=[.ref p]/\H p=some (.set S n)/\Q (.int n) H):=by
 intro pins s Y H xs us Q I r h;obtain⟨p,S,n,rfl,hp,q⟩:=h;obtain⟨u,rfl,rx⟩:=iJ r;cases rx;obtain⟨o,es,ep,t,ho,hex,hd,_,_,hb,hf,rfl⟩:=I.hok p _ hp;refine call_len_set ho hex hd hf (by have:es.size<4096:=hb;omega) ⟨.int es.size,H,I.tok _,⟨_,rfl⟩,q⟩
noncomputable def TK:Ty->V
 |.int=>.ty "int"
 |.bool=>.ty "bool"
 |.tuple=>.ty "tuple"
def aBM(hK:X.K=K)(t:Ty):fP X (.builtin "isinstance") (λxs H Q=>∃G d x b,aV G H/\xs=[x,TK t]/\cF K H G d x/\LC t d=some b/\Q (.bl b) H):=by
 intro pins s Y H xs us Q I r h;obtain⟨G,d,x,b,sub,rfl,hx,e,q⟩:=h;subst hK;obtain⟨u,w,rfl,rx,rw'⟩:=wC r;have fin:∀tk,EP X pins Y Q (.bool b) { s with toks:=tk }:=λtk=>⟨.bl b,H,I.tok tk,rfl,q⟩
 have key:∀T:String,w=.type T->∀c:String,(∀S:Value->Option Bool,True)->True:=λ_ _ _ _=>trivial
 cases t<;>simp only[LC,reduceCtorEq] at e<;>(try (cases (show w=_ from rw')))
 all_goals
  cases d<;>simp only[Option.some.injEq,reduceCtorEq] at e<;>subst e
  all_goals first
   | (cases hx.non;cases (show u=Value.none from rx);exact PySem.W.kia_one PySem.W.kitx_none I.kIn True.intro (by rfl) (λz=>nomatch z) fin)
   | (cases hx.bl;cases (show u=Value.bool _ from rx);exact PySem.W.kia_one PySem.W.kitx_bool I.kIn True.intro (by rfl) (λz=>nomatch z) fin)
   | (cases hx.int;obtain⟨t,q'⟩:=(show ∃t,u=Value.int _ t from rx);cases q';exact PySem.W.kia_one PySem.W.kitx_int I.kIn True.intro (by rfl) (λz=>nomatch z) fin)
   | (obtain⟨rfl,_⟩:=hx.str;obtain⟨t,q'⟩:=(show ∃t,u=Value.str _ t from rx);cases q';exact PySem.W.kia_one PySem.W.kitx_str I.kIn True.intro (by rfl) (λz=>nomatch z) fin)
   | (obtain⟨a,vs,rfl,h2,h3⟩:=hx.lst sub;cases (show u=Value.ref a from rx);obtain⟨its,_,⟨o,n,h4,h5,_⟩,_⟩:=I.list h2;exact PySem.W.kia_one PySem.W.kitx_list I.kIn ⟨o,h4,h5⟩ (by rfl) (λz=>nomatch z) fin)
   | (exfalso;rcases hx with hx | ⟨_,_,hx⟩<;>first | exact hx.elim | (simp only[aC] at hx;done))
   | (obtain⟨a,vs,rfl,h2,h3⟩:=hx.tup sub;cases (show u=Value.ref a from rx);obtain⟨its,_,⟨o,h4,h5,_⟩,_⟩:=I.tuple h2;exact PySem.W.kia_one PySem.W.kitx_tuple I.kIn ⟨o,h4,h5⟩ (by rfl) (λz=>nomatch z) fin)
end
section
variable{X:Cx}{pins:List (Addr×Obj)}{Y:L2.St}{H:Hp}{s:Shared}{h':Heap}
def O1(I:Inv X pins Y H s)(k:∀b u,b≠e->b≠it->s.heap.get? b=some u->h'.get? b=some u)(fe:kC X pins H e)(fi:kC X pins H it)(hp:s.heap.objs.size<=p)
  (new:cT X.prog X.w (aP H p o) h' p o):Inv X pins Y (aP H p o) { s with heap:=h',toks:=t' }:=by
 have hn:H p=none:=I.hok.fresh hp;have ne:∀{b:Addr} {u:HO},H b=some u->b≠e/\b≠it:=λq=>⟨bW q fe.1,bW q fi.1⟩
 have nc:∀{b:Addr},b ∉ [e,it]->b≠e/\b≠it:=λhc=>⟨λz=>hc (by simp[z]),λz=>hc (by simp[z])⟩
 refine I.step (g':=s.gens) (d':=s.drawn) (ch:=[e,it]) (λb hb=>?_) (λb o _ _ hc q _=>k b o (nc hc).1 (nc hc).2 q) (λb o _ _ hc q _=>⟨o.slots,k b o (nc hc).1 (nc hc).2 q⟩)
  (λb o _ q n=>by rw[aM (Zz (Zl (Zv q) hp))];exact n)
  (λb o hc q=>⟨o,k b o (nc hc).1 (nc hc).2 q⟩) (λb xs q=>by rw[aM (bW q hn)];exact q) (λb o u q=>by rw[aM (bW q hn)];exact q) (λb ps q=>⟨#[],by rw[aM (bW q hn),q];simp⟩) (λm hm=>?_) (λb u q=>?_) I.bare
 ·have hb:b=e\/b=it:=by simpa using hb
  rcases hb with rfl | rfl
  ·exact⟨fe.2.2.2.1,fe.2.1,fe.2.2.2.2.1,fe.2.2.2.2.2⟩
  ·exact⟨fi.2.2.2.1,fi.2.1,fi.2.2.2.2.1,fi.2.2.2.2.2⟩
 ·obtain⟨o,es,ep,ho,r⟩:=hm;exact⟨o,es,ep,k _ o (Ne.symm fe.2.1) (Ne.symm fi.2.1) ho,r⟩
 ·by_cases hb:b=p
  ·subst hb;rw[bA] at q;cases q;exact new
  ·rw[aM hb] at q;refine(I.hok b u q).stay (λc v hc z=>?_) (λc q=>by rw[aM (bW q hn)];exact q) λc xs q=>by rw[aM (bW q hn)];exact q
   have hc':c≠e/\c≠it:=by
    rcases hc with w | w
    ·rw[w];exact ne q
    ·exact ne w
   exact k c v hc'.1 hc'.2 z
def HS(I:Inv X pins Y H s)(k:∀b u,b≠e->b≠it->s.heap.get? b=some u->h'.get? b=some u)(fe:kC X pins H e)(fi:kC X pins H it):Inv X pins Y H { s with heap:=h',toks:=t' }:=by
 have ne:∀{b:Addr} {u:HO},H b=some u->b≠e/\b≠it:=λq=>⟨bW q fe.1,bW q fi.1⟩
 have nc:∀{b:Addr},b ∉ [e,it]->b≠e/\b≠it:=λhc=>⟨λz=>hc (by simp[z]),λz=>hc (by simp[z])⟩
 refine I.step (g':=s.gens) (d':=s.drawn) (ch:=[e,it]) (λb hb=>?_) (λb o _ _ hc q _=>k b o (nc hc).1 (nc hc).2 q) (λb o _ _ hc q _=>⟨o.slots,k b o (nc hc).1 (nc hc).2 q⟩)
  (λ_ _ _ _ n=>n) (λb o hc q=>⟨o,k b o (nc hc).1 (nc hc).2 q⟩) (λ_ _ q=>q) (λ_ _ _ q=>q) (λb ps q=>⟨#[],by rw[q];simp⟩) (λm hm=>?_) (λb u q=>?_) I.bare
 ·have hb:b=e\/b=it:=by simpa using hb
  rcases hb with rfl | rfl
  ·exact⟨fe.2.2.2.1,fe.2.1,fe.2.2.2.2.1,fe.2.2.2.2.2⟩
  ·exact⟨fi.2.2.2.1,fi.2.1,fi.2.2.2.2.1,fi.2.2.2.2.2⟩
 ·obtain⟨o,es,ep,ho,r⟩:=hm;exact⟨o,es,ep,k _ o (Ne.symm fe.2.1) (Ne.symm fi.2.1) ho,r⟩
 ·refine(I.hok b u q).stay (λc v hc z=>?_) (λ_ q=>q) λ_ _ q=>q
  have hc':c≠e/\c≠it:=by
   rcases hc with w | w
   ·rw[w];exact ne q
   ·exact ne w
  exact k c v hc'.1 hc'.2 z
end
section
variable{prog:Program}{w:World}{A:Around}{E:Value->Shared->Prop}{s:Shared}
def YK{Q:Value->Shared->Prop}(q1:IsEnum s.heap e it c old)(q2:s.heap.IsListIter it l i)(q3:s.heap.IsList l us)(q4:us[i]?=some u)(ne:e≠it)
  (k:∀g,IsEnumOut g e it (c+1) u s.heap.objs.size->g.IsListIter it l (i+1)->g.get? s.heap.objs.size=some { cls:=.type "tuple",data:=.seq #[.int c s.toks,u] }->(∀b o,b≠e->b≠it->s.heap.get? b=some o->g.get? b=some o)->Q (.ref s.heap.objs.size) { s with heap:=g,toks:=s.toks+1 }) :
  wpAny (model prog w) A (Builtin.«enumerate.__next__» ⟨[.ref e],[]⟩) (λfin s'=>∃v,fin=.done (.ret v)/\Q v s') E s:=by
 obtain⟨m0,ge,dr,tk,os⟩:=s;refine Zt (m:=field (.ref e) 2) (wpAny_field q1 rfl (x:=.ref it) rfl (Zt (wpAny_nextOf_list_item q2 q3 q4 λm1 t1 b1=>?_)));have b1:Heap.SameBut it m0 m1:=b1;have e1:IsEnum m1 e it c old:=(b1.2 e ne).trans q1;refine Zt (m:=field (.ref e) 3) (wpAny_field e1 rfl (x:=rawInt c) rfl (Zt (m:=field (.ref e) 4) (wpAny_field e1 rfl (x:=.none) rfl (Zt (m:=mkInt c) (wpAny_mkInt ?_)))));refine Zt (m:=setField (.ref e) 3 (rawInt (c+1))) (wpAny_setField_rec e1 (by simp) λm2 e2 b2=>?_);have b2:Heap.SameBut e m1 m2:=b2;have e2:IsEnum m2 e it (c+1) old:=e2;refine Zt (m:=setField (.ref e) 4 .none) (wpAny_setField_rec e2 (by simp) λm3 e3 b3=>?_);have b3:Heap.SameBut e m2 m3:=b3;have e3:IsEnum m3 e it (c+1) old:=e3;refine Zt (m:=newTuple [.int c tk,u]) (wpAny_newTuple ?_);have n3:m3.objs.size=m0.objs.size:=by rw[b3.1,b2.1,b1.1]
 have lt:e<m0.objs.size:=Zv q1;obtain⟨m4,z4⟩:∃m4,m3.push { cls:=.type "tuple",data:=.seq #[.int c tk,u] }=m4:=⟨_,rfl⟩
 have e4:IsEnum m4 e it (c+1) old:=z4 ▸ Zd _ e3;have p4:m4.get? m0.objs.size=some { cls:=.type "tuple",data:=.seq #[.int c tk,u] }:=z4 ▸ n3 ▸ Zw _ rfl;have k4:∀b o,b≠e->b≠it->m0.get? b=some o->m4.get? b=some o:=λb o x y q=>z4 ▸ Zd _ (b3.extBut b o x (b2.extBut b o x (b1.extBut b o y q)))
 have t4:m4.IsListIter it l (i+1):=by(obtain⟨o,ho,r⟩:=(t1.extBut b2.extBut ne.symm).extBut b3.extBut ne.symm;exact⟨o,z4 ▸ Zd _ ho,r⟩)
 rw[n3,z4];refine Zt (m:=Builtin.SmallTypes.ownedTupleIsFree (.ref e)) ?_;unfold Builtin.SmallTypes.ownedTupleIsFree;refine Zt (wpAny_field e4 rfl (x:=.none) rfl (Zu ?_));simp only[if_true];refine Zt (wpAny_rule (Zt (wpAny_field e4 rfl (x:=old) rfl (Zt (wpAny_setField_rec e4 (by simp) λm5 e5 b5=>?_)))));have b5:Heap.SameBut e m4 m5:=b5;have e5:IsEnum m5 e it (c+1) u:=e5;refine Zt (m:=Builtin.SmallTypes.ownedTupleHandOut (.ref e) (.ref m0.objs.size)) ?_;unfold Builtin.SmallTypes.ownedTupleHandOut;refine Zt (wpAny_setField_rec e5 (by simp) λm6 e6 b6=>?_);have b6:Heap.SameBut e m5 m6:=b6;have e6:IsEnumOut m6 e it (c+1) u m0.objs.size:=e6;refine wpAny_setField_rec e6 (by simp) λm7 e7 b7=>?_
 have b7:Heap.SameBut e m6 m7:=b7;have st:∀b o,b≠e->m4.get? b=some o->m7.get? b=some o:=λb o x q=>b7.extBut b o x (b6.extBut b o x (b5.extBut b o x q))
 refine Zt (wpAny_letGo (Zu ⟨_,rfl,k m7 e7 ?_ (st _ _ (Nat.ne_of_gt lt) p4) λb o x y q=>st b o x (k4 b o x y q)⟩));exact((t4.extBut b5.extBut ne.symm).extBut b6.extBut ne.symm).extBut b7.extBut ne.symm
def QH(q1:IsEnum s.heap e it c old)(q2:s.heap.IsListIter it l i)(q3:s.heap.IsList l us)(q4:us[i]?=some u)(ne:e≠it)
  (k:∀g,IsEnumOut g e it (c+1) u s.heap.objs.size->g.IsListIter it l (i+1)->g.get? s.heap.objs.size=some { cls:=.type "tuple",data:=.seq #[.int c s.toks,u] }->(∀b o,b≠e->b≠it->s.heap.get? b=some o->g.get? b=some o)->Q (some (.ref s.heap.objs.size)) { s with heap:=g,toks:=s.toks+1 }) :
  wpAny (model prog w) A (pyNext (.ref e)) Q E s :=
 have ty:s.TypeIs (.ref e) "enumerate":=⟨_,q1,rfl⟩
 Zt (wpAny_attempt (wpAny_callSpecial?_slot (name:=Str.ofString "__next__") ty F.slot_enumerate_next (wpAny_call_entry F.slot_enumerate_next ty F.entry_enumerate_next (YK q1 q2 q3 q4 ne λg a b c d=>Zu (k g a b c d)) (F.args_enumerate_next_1 _))))
def aBl(hh:A.handled=none)(q1:IsEnum s.heap e it c old)(q2:s.heap.IsListIter it l i)(q3:s.heap.IsList l us)(q4:us[i]?=none)
  (k:∀g,Heap.ExtBut it s.heap g->Q none { s with heap:=g }):wpAny (model prog w) A (pyNext (.ref e)) Q E s:=by
 have ty:s.TypeIs (.ref e) "enumerate":=⟨_,q1,rfl⟩
 refine Zt (wpAny_attempt (wpAny_callSpecial?_slot (name:=Str.ofString "__next__") ty F.slot_enumerate_next (wpAny_call_entry F.slot_enumerate_next ty F.entry_enumerate_next ?_ (F.args_enumerate_next_1 _))));refine Zt (m:=field (.ref e) 2) (wpAny_field q1 rfl (x:=.ref it) rfl (Zt (wpAny_nextOf_list_end hh q2 q3 q4 λg x ex px=>?_)));obtain⟨o,ho,hc⟩:=px;exact Zt (wpAny_isInstance (T:="StopIteration") (b:=true) ⟨o,ho,hc⟩ isSubtype_stop (Zu (k _ ex)))
end
noncomputable def qC(K:Frag)(a:Addr)(lo:Int):It :=
 ⟨λi H=>∃xs x,bU K H a xs/\xs[i]?=some x,λi H x H'=>∃p y,H p=none/\x=.ref p/\H'=aP H p (.tup [.int (lo+(i:Int)),y])/\∀xs,bU K H a xs->xs[i]?=some y,λi H=>∃xs,bU K H a xs/\xs.length<=i⟩
def N9{K:Frag}(a e it:Addr)(lo:Int)(hei:e≠it):Turn P w K (.Tuple elts k0 pos) (qC K a lo) [e,it] e (λi h=>(∃old,IsEnum h e it (lo+(i:Int)) old)/\h.IsListIter it a i) where
 mem:=by simp
 obj:=λi h st b hb=>by
  obtain⟨⟨old,h1⟩,o,h2,c,d⟩:=st;have hb:b=e\/b=it:=by simpa using hb
  rcases hb with rfl | rfl
  ·exact⟨_,h1,λv z=>by
    have z':Data.fields _=Data.cell v:=z
    cases z'⟩
  ·exact⟨o,h2,λv z=>by rw[d] at z;cases z⟩
 keep:=λi h h' st k=>by(obtain⟨⟨old,h1⟩,h2⟩:=st;exact⟨⟨old,k e (by simp) _ h1⟩,h2.at λo q=>k it (by simp) o q⟩)
 item:=by
  intro X hP hw hK hc i pins s Y H E I hf st hg;subst hP hw hK;obtain⟨xs,x,hq,hx⟩:=hg;obtain⟨its,rv,p,hz⟩:=I.list hq;obtain⟨u,hu,ru⟩:=rv.get hx;obtain⟨⟨old,he⟩,hit⟩:=st;have fe:=hf e (by simp);have fi:=hf it (by simp);refine QH he hit p.isList (by simpa using hu) hei λh' ho hit' hT hk=>?_
  refine⟨_,rfl,wpAny_letOwnedTupleGo_enum ho λh2 he2 hs2=>?_⟩;have helt:e<s.heap.objs.size:=Zv he;have hilt:it<s.heap.objs.size:=by obtain⟨_,q,_⟩:=hit;exact Zv q
  have ke:∀b u,b≠e->b≠it->s.heap.get? b=some u->h2.get? b=some u:=λb u n1 n2 q=>(hs2.2 b n1).trans (hk b u n1 n2 q)
  have hT2:h2.get? s.heap.objs.size=some { cls:=.type "tuple",data:=.seq #[.int (lo+(i:Int)) s.toks,u] }:=(hs2.2 _ (Nat.ne_of_gt helt)).trans hT;have hfr:H s.heap.objs.size=none:=I.hok.fresh (Zq _);have I2:Inv X pins Y (aP H s.heap.objs.size (.tup [.int (lo+(i:Int)),x])) { s with heap:=h2,toks:=s.toks+1 }:=O1 I ke fe fi (Zq _) ⟨by rw[sizeLine_eq];simp,[.int (lo+(i:Int)) s.toks,u],.cons ⟨_,rfl⟩ (.cons ru .nil),⟨_,hT2,rfl,_,rfl⟩⟩;refine⟨.ref s.heap.objs.size,aP H s.heap.objs.size (.tup [.int (lo+(i:Int)),x]),I2,rfl,⟨s.heap.objs.size,x,hfr,rfl,rfl,λys hy=>by rw[I.list_inj hy hq];exact hx⟩,⟨⟨_,by rw[Int.natCast_add,Int.natCast_one,<- Int.add_assoc];exact he2⟩,hit'.at λo q=>(hs2.2 it hei.symm).trans q⟩,λb hb=>?_⟩
  ·have hb:b=e\/b=it:=by simpa using hb
   rcases hb with rfl | rfl
   ·rw[aM (Zz helt)];exact fe.1
   ·rw[aM (Zz hilt)];exact fi.1
 done:=by(intro X hP hw hK hc i pins s Y H E I hf st hg;subst hP hw hK;obtain⟨xs,hq,hx⟩:=hg;obtain⟨its,rv,p,hz⟩:=I.list hq;obtain⟨⟨old,he⟩,hit⟩:=st;have hl:=rv.length;exact aBl (I.ok.hd hc) he hit p.isList (by simp;omega) λh' eb=>⟨rfl,HS (t':=s.toks) I (λb o _ n2 q=>eb b o n2 q) (hf e (by simp)) (hf it (by simp))⟩)
 self:=λ_ _ _ _ _ st h=>by(obtain⟨⟨old,he⟩,_⟩:=st;exact wpAny_pyIter_enum he h)
section
variable{X:Cx}
noncomputable def W7(K:Frag)(lo:Int)(ta:TA):TI:=λY H R=>ta Y H λvs H1=>∃a,vs=[.ref a]/\(∃xs,bU K H1 a xs)/\R (qC K a lo) H1
def N8:bootBuiltins "enumerate"=some (.type "enumerate"):=by decide +kernel
def JS{ta:TA}(hg:Gl X "enumerate")(hm:X.mg "enumerate"=none)(ha:PA X [a] ta)(hs:starEach [a] X.env=[(false,eval a X.env)]:=by rfl):PI X (.Tuple elts k0 tpos) (.Call (.Name "enumerate" p) [a] [] pos) (W7 X.K 0 ta):=by
 intro pins s Y H R I h;refine Call_ (qH I hg hm N8 (PyProof.Rows.callWith_type1 (bG (ha pos pins s Y H _ I h) λus s1 ⟨vs,H1,I1,r1,q1⟩=>?_) hs rfl));obtain⟨l,e,⟨xs,hq⟩,q⟩:=q1;subst e
 cases r1 with
 |cons r rr =>
  cases rr;cases r;obtain⟨its,rv,p,hz⟩:=I1.list hq;refine call_enumerate_list p.isList λh' he hit hsz hk=>?_
  have I2:Inv X pins Y H1 { s1 with heap:=h' }:=I1.kept (t':=s1.toks) hk;refine wpAny_pyIter_enum he ?_;refine⟨s1.heap.objs.size+1,[s1.heap.objs.size+1,s1.heap.objs.size],_,_,H1,rfl,I2,N9 l _ _ 0 (Nat.succ_ne_self _),⟨⟨_,by simpa using he⟩,hit⟩,λb hb=>?_,q⟩;have hb:b=s1.heap.objs.size+1\/b=s1.heap.objs.size:=by simpa using hb
  rcases hb with rfl | rfl
  ·exact I1.fpOk (Nat.le_succ _) (I1.hok.fresh (Nat.le_succ _))
  ·exact I1.fpOk (Zq _) (I1.hok.fresh (Zq _))
end
section
variable{K:Frag}{U U1:Env}
def dN{l:List O}(h:(l.set i a)[j]?=some b):(j=i/\b=a/\i<l.length)\/(j≠i/\l[j]?=some b):=by
 by_cases hij:j=i
 ·subst hij;by_cases hl:j<l.length
  ·rw[zk hl] at h;exact .inl ⟨rfl,(Option.some.inj h).symm,hl⟩
  ·rw[List.getElem?_eq_none (by rw[zg];omega)] at h;cases h
 ·rw[Zf (λz=>hij z.symm)] at h;exact .inr ⟨hij,h⟩
def Rel.unset(r:Rel K U Y H G)(i:Nat):Rel K (U.set i .un) Y H G:=by
 refine⟨by rw[zg];exact r.len,r.sub,λj d h=>?_,λj d p l h=>?_,λj k d p l d' p' l' a h1 h2 h3 h4=>?_⟩
 ·rcases dN h with ⟨_,z,_⟩ | ⟨_,z⟩
  ·cases z
  ·exact r.sh j d z
 ·rcases dN h with ⟨_,z,_⟩ | ⟨_,z⟩
  ·cases z
  ·exact r.ow j d p l z
 ·rcases dN h1 with ⟨_,z,_⟩ | ⟨_,z⟩
  ·cases z
  ·rcases dN h2 with ⟨_,z',_⟩ | ⟨_,z'⟩
   ·cases z'
   ·exact r.inj _ _ _ _ _ _ _ _ _ z z' h3 h4
def aL.unset{i:Nat}{a:Addr}(h:aL (U.set i .un) Y a):aL U Y a:=by
 obtain⟨j,d,p,l,h1,h2⟩:=h;rcases dN h1 with ⟨_,z,_⟩ | ⟨_,z⟩
 ·cases z
 ·exact⟨j,d,p,l,z,h2⟩
def Rel.unset_not(r:Rel K U Y H G){d:D}(h:U[i]?=some (.ow d p l))(hx:Y[i]?=some (some (.ref a))):¬aL (U.set i .un) Y a:=by
 rintro⟨j,d',p',l',h1,h2⟩
 rcases dN h1 with ⟨_,z,_⟩ | ⟨ne,z⟩
 ·cases z
 ·exact ne (r.inj _ _ _ _ _ _ _ _ _ z h h2 hx)
def Rel.grow(r:Rel K U Y H G)(hv:H a=some ob)(g:G a=none)(no:¬aL U Y a):Rel K U Y H (aP G a ob):=by
 refine⟨r.len,λb u e=>?_,λi d e=>?_,λi d p l e=>?_,r.inj⟩
 ·by_cases hb:b=a
  ·subst hb;rw[bA] at e;rw[hv];exact e
  ·rw[aM hb] at e;exact r.sub b u e
 ·obtain⟨v,h1,h2⟩:=r.sh i d e;exact⟨v,h1,aC.mono (Sm.put g) d h2⟩
 ·obtain⟨b,h1,h2,h3⟩:=r.ow i d p l e;have hb:b≠a:=λz=>by subst z;exact no ⟨i,d,p,l,e,h1⟩
  exact⟨b,h1,by rw[aM hb];exact h2,h3.mono (Sm.put g) λ_ z=>z⟩
def Rel.put_sh(r:Rel K (U.set i .un) Y H G){d:D}{v:V}(hx:Y[i]?=some (some v))(hr:aC K G d v):Rel K (U.set i (.sh d)) Y H G:=by
 have key:∀(j:Nat) (sl:Sl),(U.set i (.sh d))[j]?=some sl->(j=i/\sl=.sh d)\/(U.set i .un)[j]?=some sl:=λj sl h=>by
  rcases dN h with ⟨e,z,_⟩ | ⟨ne,z⟩
  ·exact .inl ⟨e,z⟩
  ·exact .inr (by rw[Zf (λq=>ne q.symm)];exact z)
 refine⟨by have:=r.len;rw[zg] at this ⊢;exact this,r.sub,λj d' h=>?_,λj d' p l h=>?_,λj k d1 p l d2 p' l' a h1 h2 h3 h4=>?_⟩
 ·rcases key j _ h with ⟨rfl,z⟩ | z
  ·cases z;exact⟨v,hx,hr⟩
  ·exact r.sh j d' z
 ·rcases key j _ h with ⟨rfl,z⟩ | z
  ·cases z
  ·exact r.ow j d' p l z
 ·rcases key j _ h1 with ⟨rfl,z⟩ | z
  ·cases z
  ·rcases key k _ h2 with ⟨rfl,z'⟩ | z'
   ·cases z'
   ·exact r.inj _ _ _ _ _ _ _ _ _ z z' h3 h4
def Rel.put_ow(r:Rel K (U.set i .un) Y H G){d:D}{a:Addr}(hx:Y[i]?=some (some (.ref a)))(g:G a=none)(ho:gL K H G a d)(no:¬aL (U.set i .un) Y a):Rel K (U.set i (.ow d p l)) Y H G:=by
 have key:∀(j:Nat) (sl:Sl),(U.set i (.ow d p l))[j]?=some sl->(j=i/\sl=.ow d p l)\/(U.set i .un)[j]?=some sl:=λj sl h=>by
  rcases dN h with ⟨e,z,_⟩ | ⟨ne,z⟩
  ·exact .inl ⟨e,z⟩
  ·exact .inr (by rw[Zf (λq=>ne q.symm)];exact z)
 refine⟨by have:=r.len;rw[zg] at this ⊢;exact this,r.sub,λj d' h=>?_,λj d' p' l' h=>?_,λj k d1 p1 l1 d2 p2 l2 b h1 h2 h3 h4=>?_⟩
 ·rcases key j _ h with ⟨rfl,z⟩ | z
  ·cases z
  ·exact r.sh j d' z
 ·rcases key j _ h with ⟨rfl,z⟩ | z
  ·cases z;exact⟨a,hx,g,ho⟩
  ·exact r.ow j d' p' l' z
 ·rcases key j _ h1 with ⟨rfl,z⟩ | z
  ·rcases key k _ h2 with ⟨rfl,z'⟩ | z'
   ·rfl
   ·rw[hx] at h3;cases h3;exact absurd ⟨k,_,_,_,z',h4⟩ no
  ·rcases key k _ h2 with ⟨rfl,z'⟩ | z'
   ·rw[hx] at h4;cases h4;exact absurd ⟨j,_,_,_,z,h3⟩ no
   ·exact r.inj _ _ _ _ _ _ _ _ _ z z' h3 h4
def aL.put_sh{i:Nat}{a:Addr}(h:aL (U.set i (.sh d)) Y a):aL (U.set i .un) Y a:=by
 obtain⟨j,d',p,l,h1,h2⟩:=h;rcases dN h1 with ⟨_,z,_⟩ | ⟨ne,z⟩
 ·cases z
 ·exact⟨j,d',p,l,by rw[Zf (λq=>ne q.symm)];exact z,h2⟩
def aL.put_ow{d:D}(hx:Y[i]?=some (some (.ref b)))(h:aL (U.set i (.ow d p l)) Y a):a=b\/aL (U.set i .un) Y a:=by
 obtain⟨j,d',p',l',h1,h2⟩:=h;rcases dN h1 with ⟨rfl,z,_⟩ | ⟨ne,z⟩
 ·rw[hx] at h2;cases h2;exact .inl rfl
 ·exact .inr ⟨j,d',p',l',by rw[Zf (λq=>ne q.symm)];exact z,h2⟩
def iB.grow(r:iB K H G own new Y h x)(s:aV G G2)(k:∀a d,h=.val (.ow d)->x=.ref a->G2 a=none)(w:∀a,own' a->own a):iB K H G2 own' new Y h x:=by
 cases h with
 |slot i=>exact r
 |val v =>
  cases v with
  |sh d=>exact aC.mono s d r
  |ow d =>
   obtain⟨a,rfl,g,o,n,m⟩:=r;exact⟨a,rfl,k a d rfl rfl,o.mono s λ_ z=>z,λz=>n (w a z),m⟩
  |od d=>exact r.elim
theorem dZ.tmp_own:∀{hs:List Hd} {xs:List V} {a:Addr},dZ K H G own new Y hs xs->oE hs xs a->¬own a/\new a/\H a≠none/\G a=none
 |[],_,_,h,t=>by cases (show _=[] from h);exact t.elim
 |h::hs,_,a,r,t=>by
  obtain⟨x,r',rfl,h1,h2,h3⟩:=r;have tl:oE hs r' a->¬own a/\new a/\H a≠none/\G a=none:=λt=>dZ.tmp_own h2 t
  cases h with
  |slot i=>exact tl t
  |val v =>
   cases v with
   |sh d=>exact tl t
   |ow d =>
    rcases t with rfl | t
    ·obtain⟨b,e,g,o,n,m⟩:=h1;cases e;obtain⟨vs,hv⟩:=o.there;exact⟨n,m,by rw[hv];simp,g⟩
    ·exact tl t
   |od d=>exact h1.elim
theorem dZ.grow:∀{hs:List Hd} {xs:List V},dZ K H G own new Y hs xs->∀{G2:Hp},aV G G2->(∀a,oE hs xs a->G2 a=none)->(∀a,own' a->own a)->dZ K H G2 own' new Y hs xs
 |[],_,h,_,_,_,_=>h
 |h::hs,_,r,G2,s,k,w=>by
  obtain⟨x,r',rfl,h1,h2,h3⟩:=r;refine⟨x,r',rfl,h1.grow s (λa d e1 e2=>k a (by subst e1;exact .inl e2)) w,dZ.grow h2 s (λa t=>k a ?_) w,h3⟩
  cases h with
  |slot i=>exact t
  |val v =>
   cases v with
   |sh d=>exact t
   |ow d=>exact .inr t
   |od d=>exact h1.elim
def Rel.nil(s:aV G H):Rel K [] [] H G:=⟨rfl,s,λi d h=>by simp at h,λi d p l h=>by simp at h,λi j d p l d' p' l' a h=>by simp at h⟩
def Rel.cons_sh(r:Rel K as τ H G)(h:aC K G d x):Rel K (.sh d::as) (some x :: τ) H G:=by
 refine⟨by simp[r.len],r.sub,λi d' e=>?_,λi d' p l e=>?_,λi j d1 p l d2 p' l' a h1 h2 h3 h4=>?_⟩
 ·cases i with
  |zero=>simp at e;subst e;exact⟨x,rfl,h⟩
  |succ i=>simpa using r.sh i d' (by simpa using e)
 ·cases i with
  |zero=>simp at e
  |succ i=>simpa using r.ow i d' p l (by simpa using e)
 ·cases i with
  |zero=>simp at h1
  |succ i =>
   cases j with
   |zero=>simp at h2
   |succ j=>exact congrArg (·+1) (r.inj i j d1 p l d2 p' l' a (by simpa using h1) (by simpa using h2) (by simpa using h3) (by simpa using h4))
def Rel.cons_ow(r:Rel K as τ H G)(g:G a=none)(o:gL K H G a d)(n:¬aL as τ a):Rel K (.ow d p l::as) (some (.ref a) :: τ) H G:=by
 refine⟨by simp[r.len],r.sub,λi d' e=>?_,λi d' p l e=>?_,λi j d1 p1 l1 d2 p' l' b h1 h2 h3 h4=>?_⟩
 ·cases i with
  |zero=>simp at e
  |succ i=>simpa using r.sh i d' (by simpa using e)
 ·cases i with
  |zero =>
   simp only[zr,Option.some.injEq,Sl.ow.injEq] at e;obtain⟨rfl,_,_⟩:=e;exact⟨a,rfl,g,o⟩
  |succ i=>simpa using r.ow i d' p l (by simpa using e)
 ·cases i with
  |zero =>
   simp only[zr,Option.some.injEq,V.ref.injEq] at h3;subst h3
   cases j with
   |zero=>rfl
   |succ j=>exact absurd ⟨j,d2,p',l',by simpa using h2,by simpa using h4⟩ n
  |succ i =>
   cases j with
   |zero =>
    simp only[zr,Option.some.injEq,V.ref.injEq] at h4;subst h4;exact absurd ⟨i,d1,p1,l1,by simpa using h1,by simpa using h3⟩ n
   |succ j=>exact congrArg (·+1) (r.inj i j d1 p1 l1 d2 p' l' b (by simpa using h1) (by simpa using h2) (by simpa using h3) (by simpa using h4))
def aL.cons{as:List Sl}{τ:St}{sl:Sl}{v:Option V}{a:Addr}(h:aL (sl::as) (v :: τ) a):(∃d p l,sl=.ow d p l/\v=some (.ref a))\/aL as τ a:=by
 obtain⟨i,d,p,l,h1,h2⟩:=h
 cases i with
 |zero=>exact .inl ⟨d,p,l,by simpa using h1,by simpa using h2⟩
 |succ i=>exact .inr ⟨i,d,p,l,by simpa using h1,by simpa using h2⟩
structure Lent(K:Frag)(U:Env)(Y:St)(H G:Hp)(hs:List Hd)(xs:List V)(as:List Sl)(U1:Env)(G2:Hp):Prop where
 gg:aV G G2
 gn:∀a,G2 a≠none->G a≠none\/aL U Y a\/oE hs xs a
 ra:Rel K as (xs.map some) H G2
 rc:Rel K U1 Y H G2
 ao:∀a,aL as (xs.map some) a->aL U Y a\/oE hs xs a
 an:∀a,aL as (xs.map some) a->¬aL U1 Y a
 ro:∀a,aL U1 Y a->aL U Y a
theorem lT:∀(hs:List Hd) (pins:List Bool) (U:Env) (G:Hp) (xs:List V) (as:List Sl) (U1:Env),Rel K U Y H G->dZ K H G (aL U Y) new Y hs xs->bV pins hs U=some (as,U1) ->
  ∃G2,Lent K U Y H G hs xs as U1 G2
 |[],pins,U,G,xs,as,U1,r,h,e=>by
  cases (show xs=[] from h)
  cases pins with
  |cons p ps=>cases e
  |nil =>
   simp only[bV,Option.some.injEq,Prod.mk.injEq] at e;obtain⟨rfl,rfl⟩:=e;exact⟨G,aV.refl _,λa z=>.inl z,Rel.nil r.sub,r,λa ⟨i,d,p,l,z,_⟩=>by simp at z,λa ⟨i,d,p,l,z,_⟩=>by simp at z,λ_ z=>z⟩
 |.val (.sh d)::hs,pins,U,G,xs,as,U1,r,h,e=>by
  obtain⟨x,r',rfl,h1,h2,h3⟩:=h
  cases pins with
  |nil=>cases e
  |cons p ps =>
   simp only[bV] at e
   cases q:bV ps hs U with
   |none=>rw[q] at e;cases e
   |some y =>
    obtain⟨as',U'⟩:=y;rw[q] at e;simp only[Option.map_some,Option.some.injEq,Prod.mk.injEq] at e;obtain⟨rfl,rfl⟩:=e;obtain⟨G2,L⟩:=lT hs ps U G r' as' U' r h2 q;refine⟨G2,L.gg,L.gn,L.ra.cons_sh (aC.mono L.gg d h1),L.rc,λa z=>?_,λa z=>?_,L.ro⟩
    ·rcases z.cons with ⟨_,_,_,z,_⟩ | z
     ·cases z
     ·exact L.ao a z
    ·rcases z.cons with ⟨_,_,_,z,_⟩ | z
     ·cases z
     ·exact L.an a z
 |.val (.ow d)::hs,pins,U,G,xs,as,U1,r,h,e=>by
  obtain⟨x,r',rfl,h1,h2,h3⟩:=h;obtain⟨b,rfl,g,o,n,m⟩:=h1;have nt:¬oE hs r' b:=h3 d b rfl rfl
  cases pins with
  |nil=>cases e
  |cons p ps =>
   simp only[bV] at e
   cases q:bV ps hs U with
   |none=>rw[q] at e;cases e
   |some y =>
    obtain⟨as',U'⟩:=y;rw[q] at e;simp only[Option.map_some,Option.some.injEq,Prod.mk.injEq] at e;obtain⟨rfl,rfl⟩:=e
    cases p with
    |true =>
     obtain⟨G2,L⟩:=lT hs ps U G r' as' U' r h2 q
     have g2:G2 b=none:=by
      cases w:G2 b with
      |none=>rfl
      |some o' =>
       rcases L.gn b (by rw[w];simp) with z | z | z
       ·exact absurd g z
       ·exact absurd z n
       ·exact absurd z nt
     have nb:¬aL as' (r'.map some) b:=λz=>by
      rcases L.ao b z with z | z
      ·exact n z
      ·exact nt z
     refine⟨G2,L.gg,λa z=>?_,L.ra.cons_ow g2 (o.mono L.gg λ_ z=>z) nb,L.rc,λa z=>?_,λa z=>?_,L.ro⟩
     ·rcases L.gn a z with z | z | z
      ·exact .inl z
      ·exact .inr (.inl z)
      ·exact .inr (.inr (.inr z))
     ·rcases z.cons with ⟨_,_,_,_,z⟩ | z
      ·cases z;exact .inr (.inl rfl)
      ·rcases L.ao a z with z | z
       ·exact .inl z
       ·exact .inr (.inr z)
     ·rcases z.cons with ⟨_,_,_,_,z⟩ | z
      ·cases z;exact λw=>n (L.ro _ w)
      ·exact L.an a z
    |false =>
     obtain⟨ob,hv,hr⟩:=o.put
     have tb:∀a,oE hs r' a->(aP G b ob) a=none:=λa z=>by
      have hb:a≠b:=λw=>by subst w;exact nt z
      rw[aM hb];exact(h2.tmp_own z).2.2.2
     obtain⟨G2,L⟩:=lT hs ps U (aP G b ob) r' as' U' (r.grow hv g n) (h2.grow (aV.put g) tb λ_ z=>z) q;refine⟨G2,(aV.put g).trans L.gg,λa z=>?_,L.ra.cons_sh ?_,L.rc,λa z=>?_,λa z=>?_,L.ro⟩
     ·by_cases hb:a=b
      ·subst hb;exact .inr (.inr (.inl rfl))
      ·rcases L.gn a z with z | z | z
       ·rw[aM hb] at z;exact .inl z
       ·exact .inr (.inl z)
       ·exact .inr (.inr (.inr z))
     ·exact hr _ (Sm.of ((aV.put g).trans L.gg)) (L.gg _ _ bA)
     ·rcases z.cons with ⟨_,_,_,z,_⟩ | z
      ·simp at z
      ·rcases L.ao a z with z | z
       ·exact .inl z
       ·exact .inr (.inr z)
     ·rcases z.cons with ⟨_,_,_,z,_⟩ | z
      ·simp at z
      ·exact L.an a z
 |.slot i::hs,pins,U,G,xs,as,U1,r,h,e=>by
  obtain⟨x,r',rfl,h1,h2,h3⟩:=h;have h1:Y[i]?=some (some x):=h1
  cases pins with
  |nil=>cases e
  |cons p ps =>
   simp only[bV] at e;split at e
   ·rename_i d hd
    cases q:bV ps hs U with
    |none=>rw[q] at e;cases e
    |some y =>
     obtain⟨as',U'⟩:=y;rw[q] at e;simp only[Option.map_some,Option.some.injEq,Prod.mk.injEq] at e;obtain⟨rfl,rfl⟩:=e;obtain⟨G2,L⟩:=lT hs ps U G r' as' U' r h2 q;obtain⟨v,h4,h5⟩:=r.sh i d hd;rw[h1] at h4;cases h4;refine⟨G2,L.gg,L.gn,L.ra.cons_sh (aC.mono L.gg d h5),L.rc,λa z=>?_,λa z=>?_,L.ro⟩
     ·rcases z.cons with ⟨_,_,_,z,_⟩ | z
      ·cases z
      ·exact L.ao a z
     ·rcases z.cons with ⟨_,_,_,z,_⟩ | z
      ·cases z
      ·exact L.an a z
   ·rename_i d pin lk hd;obtain⟨b,h4,g,o⟩:=r.ow i d pin lk hd;rw[h1] at h4;cases h4;have hown:aL U Y b:=⟨i,d,pin,lk,hd,h1⟩
    have nt:¬oE hs r' b:=λz=>(h2.tmp_own z).1 hown
    have nu:¬aL (U.set i .un) Y b:=r.unset_not hd h1
    cases p with
    |true =>
     simp only at e
     cases q:bV ps hs (U.set i .un) with
     |none=>rw[q] at e;cases e
     |some y =>
      obtain⟨as',U'⟩:=y;rw[q] at e;simp only[Option.map_some,Option.some.injEq,Prod.mk.injEq] at e;obtain⟨rfl,rfl⟩:=e;obtain⟨G2,L⟩:=lT hs ps (U.set i .un) G r' as' U' (r.unset i) (h2.grow (aV.refl _) (λa z=>(h2.tmp_own z).2.2.2) λa z=>z.unset) q
      have g2:G2 b=none:=by
       cases w:G2 b with
       |none=>rfl
       |some o' =>
        rcases L.gn b (by rw[w];simp) with z | z | z
        ·exact absurd g z
        ·exact absurd z nu
        ·exact absurd z nt
      have nb:¬aL as' (r'.map some) b:=λz=>by
       rcases L.ao b z with z | z
       ·exact nu z
       ·exact nt z
      refine⟨G2,L.gg,λa z=>?_,L.ra.cons_ow g2 (o.mono L.gg λ_ z=>z) nb,L.rc,λa z=>?_,λa z=>?_,λa z=>(L.ro a z).unset⟩
      ·rcases L.gn a z with z | z | z
       ·exact .inl z
       ·exact .inr (.inl z.unset)
       ·exact .inr (.inr z)
      ·rcases z.cons with ⟨_,_,_,_,z⟩ | z
       ·cases z;exact .inl hown
       ·rcases L.ao a z with z | z
        ·exact .inl z.unset
        ·exact .inr z
      ·rcases z.cons with ⟨_,_,_,_,z⟩ | z
       ·cases z;exact λw=>nu (L.ro _ w)
       ·exact L.an a z
    |false =>
     simp only at e;split at e
     ·cases e
     ·cases q:bV ps hs (U.set i (.sh d)) with
      |none=>rw[q] at e;cases e
      |some y =>
       obtain⟨as',U'⟩:=y;rw[q] at e;simp only[Option.map_some,Option.some.injEq,Prod.mk.injEq] at e;obtain⟨rfl,rfl⟩:=e;obtain⟨ob,hv,hr⟩:=o.put
       have tb:∀a,oE hs r' a->(aP G b ob) a=none:=λa z=>by
        have hb:a≠b:=λw=>by subst w;exact nt z
        rw[aM hb];exact(h2.tmp_own z).2.2.2
       have rb:∀G2,aV (aP G b ob) G2->aC K G2 d (.ref b):=λG2 s2=>hr _ (Sm.of ((aV.put g).trans s2)) (s2 _ _ bA)
       obtain⟨G2,L⟩:=lT hs ps (U.set i (.sh d)) (aP G b ob) r' as' U' (((r.unset i).grow hv g nu).put_sh h1 (rb _ (aV.refl _)))
        (h2.grow (aV.put g) tb λa z=>z.put_sh.unset) q
       refine⟨G2,(aV.put g).trans L.gg,λa z=>?_,L.ra.cons_sh (rb G2 L.gg),L.rc,λa z=>?_,λa z=>?_,λa z=>(L.ro a z).put_sh.unset⟩
       ·by_cases hb:a=b
        ·subst hb;exact .inr (.inl hown)
        ·rcases L.gn a z with z | z | z
         ·rw[aM hb] at z;exact .inl z
         ·exact .inr (.inl z.put_sh.unset)
         ·exact .inr (.inr z)
       ·rcases z.cons with ⟨_,_,_,z,_⟩ | z
        ·cases z
        ·rcases L.ao a z with z | z
         ·exact .inl z.put_sh.unset
         ·exact .inr z
       ·rcases z.cons with ⟨_,_,_,z,_⟩ | z
        ·cases z
        ·exact L.an a z
   ·cases e
end
section
variable{K:Frag}
def Rel.keep(r:Rel K U Y H G)(e:Ext own H G H' G')(n:∀a,aL U Y a->¬own a)(s:aV G' H'):Rel K U Y H' G':=by
 refine⟨r.len,s,λi d h=>?_,λi d p l h=>?_,r.inj⟩
 ·obtain⟨v,h1,h2⟩:=r.sh i d h;exact⟨v,h1,aC.mono e.gg d h2⟩
 ·obtain⟨a,h1,g,o⟩:=r.ow i d p l h;have na:=n a ⟨i,d,p,l,h,h1⟩;obtain⟨vs,hv⟩:=o.there;exact⟨a,h1,e.gn a (by rw[hv];simp) g na,o.mono e.gg λo' h'=>e.hh a o' h' na⟩
def Rel.tail(r:Rel K (a::as) (v :: τ) H G):Rel K as τ H G:=by
 refine⟨by have:=r.len;simpa using this,r.sub,λi d h=>?_,λi d p l h=>?_,λi j d p l d' p' l' b h1 h2 h3 h4=>?_⟩
 ·simpa using r.sh (i+1) d (by simpa using h)
 ·simpa using r.ow (i+1) d p l (by simpa using h)
 ·have:=r.inj (i+1) (j+1) d p l d' p' l' b (by simpa using h1) (by simpa using h2) (by simpa using h3) (by simpa using h4)
  omega
def aL.tail(h:aL as τ b):aL (a::as) (v :: τ) b:=by
 obtain⟨i,d,p,l,h1,h2⟩:=h;exact⟨i+1,d,p,l,by simpa using h1,by simpa using h2⟩
theorem pR:∀(hs:List Hd) (pins:List Bool) (as:List Sl) (xs:List V) (U U':Env),Rel K as (xs.map some) H G->Rel K U Y H G->(∀a,aL as (xs.map some) a->¬aL U Y a)->dZ K H0 G0 own new Y hs xs ->
  bN pins hs as U0 U=some U'->Rel K U' Y H G/\∀a,aL U' Y a->aL U Y a\/aL U0 Y a
 |[],pins,as,xs,U,U',ra,r,n,h,e=>by
  cases pins with
  |nil =>
   cases as with
   |nil =>
    cases e;exact⟨r,λ_ z=>.inl z⟩
   |cons a as=>cases e
  |cons p ps=>cases p<;>cases as<;>cases e
 |h::hs,pins,as,xs,U,U',ra,r,n,hh,e=>by
  obtain⟨x,r',rfl,h1,h2,h3⟩:=hh
  cases pins with
  |nil=>cases e
  |cons p ps =>
   cases as with
   |nil=>cases p<;>cases h<;>cases e
   |cons a as' =>
    have skip:bN ps hs as' U0 U=some U'->Rel K U' Y H G/\∀a,aL U' Y a->aL U Y a\/aL U0 Y a:=λe' =>
     pR hs ps as' r' U U' ra.tail r (λb z=>n b z.tail) h2 e'
    cases p with
    |false=>cases h<;>exact skip e
    |true =>
     cases h with
     |val v=>exact skip e
     |slot i =>
      have h1:Y[i]?=some (some x):=h1;simp only[bN] at e;split at e
      ·rename_i _ pin lk d p' l' hi;obtain⟨b,hb,g,o⟩:=ra.ow 0 d p' l' rfl;simp only[Zs,zr,Option.some.injEq] at hb;subst hb;have nb:¬aL U Y b:=n b ⟨0,d,p',l',rfl,rfl⟩;have r2:Rel K (U.set i (.ow d pin lk)) Y H G:=(r.unset i).put_ow h1 g o λz=>nb z.unset
       obtain⟨r3,r4⟩:=pR hs ps as' r' (U.set i (.ow d pin lk)) U' ra.tail r2 (λc z w=>by
        rcases w.put_ow h1 with rfl | w
        ·obtain⟨j,d2,p2,l2,z1,z2⟩:=z
         have:=ra.inj 0 (j+1) d p' l' d2 p2 l2 c rfl (by simpa using z1) rfl (by simpa using z2)
         omega
        ·exact n c z.tail w.unset) h2 e
       refine⟨r3,λc z=>?_⟩;rcases r4 c z with z | z
       ·rcases z.put_ow h1 with rfl | z
        ·exact .inr ⟨i,_,pin,lk,hi,h1⟩
        ·exact .inl z.unset
       ·exact .inr z
      ·cases e
      ·exact skip e
def mE(pins:List Bool)(hs:List Hd)(i:Nat):Prop:=∃j:Nat,pins[j]?=some true/\hs[j]?=some (.slot i)
def mE.cons{p:Bool}{ps:List Bool}{h:Hd}{hs:List Hd}{i:Nat}(l:mE ps hs i):mE (p::ps) (h::hs) i:=by
 obtain⟨j,h1,h2⟩:=l;exact⟨j+1,by simpa using h1,by simpa using h2⟩
theorem ES:∀(hs:List Hd) (pins:List Bool) (U:Env) (as:List Sl) (U1:Env),bV pins hs U=some (as,U1)->∀i:Nat,eF U[i]? U1[i]?\/(mE pins hs i/\∃d p l,U[i]?=some (.ow d p l))
 |[],pins,U,as,U1,e,i=>by
  cases pins<;>cases e;exact .inl (eF.refl _)
 |h::hs,pins,U,as,U1,e,i=>by
  cases pins with
  |nil=>cases h with
   |slot i=>cases e
   |val v=>cases v<;>cases e
  |cons p ps =>
   have fin:∀{U':Env} {g:Sl},(bV ps hs U').map (λ(as,U')=>(g::as,U'))=some (as,U1)->eF U'[i]? U1[i]?\/(mE ps hs i/\∃d p l,U'[i]?=some (.ow d p l)):=by
    intro U' g e
    cases q:bV ps hs U' with
    |none=>rw[q] at e;cases e
    |some y =>
     obtain⟨as',U2⟩:=y;rw[q] at e;simp only[Option.map_some,Option.some.injEq,Prod.mk.injEq] at e;obtain⟨_,rfl⟩:=e;exact ES hs ps U' as' U2 q i
   have same:∀{g:Sl},(bV ps hs U).map (λ(as,U')=>(g::as,U'))=some (as,U1)->eF U[i]? U1[i]?\/(mE (p::ps) (h::hs) i/\∃d p l,U[i]?=some (.ow d p l)):=by
    intro g e;rcases fin e with z | ⟨z,w⟩
    ·exact .inl z
    ·exact .inr ⟨z.cons,w⟩
   cases h with
   |val v=>cases v<;>first | exact same e | cases e
   |slot i0 =>
    simp only[bV] at e;split at e
    ·exact same e
    ·rename_i d pin lk hd
     cases p with
     |true =>
      simp only at e;by_cases hi:i=i0
      ·subst hi;exact .inr ⟨⟨0,rfl,rfl⟩,d,pin,lk,hd⟩
      ·have:=fin e
       rw[Zf (λz=>hi z.symm)] at this;rcases this with z | ⟨z,w⟩
       ·exact .inl z
       ·exact .inr ⟨z.cons,w⟩
     |false =>
      simp only at e;split at e
      ·cases e
      ·rename_i hp;simp only[Bool.or_eq_true,not_or,Bool.not_eq_true] at hp;have ev0:jU U (U.set i0 (.sh d)):=jU.set (by rw[hd];exact hp.1);rcases fin e with z | ⟨z,d',p',l',w⟩
       ·exact .inl ((ev0 i).trans z)
       ·have:=ev0 i
        rw[w] at this;obtain⟨d2,e2⟩:=this.ow_of;exact .inr ⟨z.cons,d2,p',l',e2⟩
    ·cases e
theorem oF:∀(hs:List Hd) (pins:List Bool) (as:List Sl) (U U':Env),bN pins hs as U0 U=some U'->∀i:Nat,(U'[i]?=U[i]?\/∃d d' p l,U0[i]?=some (.ow d p l)/\U'[i]?=some (.ow d' p l)) /\
  (mE pins hs i->(∃d p l,U0[i]?=some (.ow d p l))->i<U.length->∃d d' p l,U0[i]?=some (.ow d p l)/\U'[i]?=some (.ow d' p l))
 |[],pins,as,U,U',e,i=>by
  cases pins with
  |nil =>
   cases as with
   |nil =>
    cases e;exact⟨.inl rfl,λ⟨j,h,_⟩=>by simp at h⟩
   |cons a as=>cases e
  |cons p ps=>cases p<;>cases as<;>cases e
 |h::hs,pins,as,U,U',e,i=>by
  cases pins with
  |nil=>cases e
  |cons p ps =>
   cases as with
   |nil=>cases p<;>cases h<;>cases e
   |cons a as' =>
    have uncons:¬(p=true/\h=.slot i)->mE (p::ps) (h::hs) i->mE ps hs i:=λn ⟨j,h1,h2⟩=>by
     cases j with
     |zero =>
      simp only[zr,Option.some.injEq] at h1 h2;exact absurd ⟨h1,h2⟩ n
     |succ j=>exact⟨j,by simpa using h1,by simpa using h2⟩
    have skip:¬(p=true/\h=.slot i)\/¬(∃d p l,U0[i]?=some (.ow d p l))->bN ps hs as' U0 U=some U'->(U'[i]?=U[i]?\/∃d d' p l,U0[i]?=some (.ow d p l)/\U'[i]?=some (.ow d' p l)) /\
      (mE (p::ps) (h::hs) i->(∃d p l,U0[i]?=some (.ow d p l))->i<U.length->∃d d' p l,U0[i]?=some (.ow d p l)/\U'[i]?=some (.ow d' p l)):=λn e'=>by
     obtain⟨h1,h2⟩:=oF hs ps as' U U' e' i;refine⟨h1,λl o=>?_⟩;rcases n with n | n
     ·exact h2 (uncons n l) o
     ·exact absurd o n
    cases p with
    |false=>cases h<;>exact skip (.inl (by simp)) e
    |true =>
     cases h with
     |val v=>exact skip (.inl (by simp)) e
     |slot i0 =>
      simp only[bN] at e;split at e
      ·rename_i d0 pin lk d p' l' hi;obtain⟨h1,h2⟩:=oF hs ps as' _ U' e i;by_cases hii:i=i0
       ·subst hii;refine⟨?_,λl o hl=>?_⟩
        ·rcases h1 with h1 | h1
         ·by_cases hl:i<U.length
          ·rw[zk hl] at h1;exact .inr ⟨_,_,_,_,hi,h1⟩
          ·exact .inl (by rw[h1,List.getElem?_eq_none (by rw[zg];omega),List.getElem?_eq_none (by omega)])
         ·exact .inr h1
        ·rcases h1 with h1 | h1
         ·rw[zk hl] at h1;exact⟨_,_,_,_,hi,h1⟩
         ·exact h1
       ·rw[Zf (λz=>hii z.symm)] at h1;refine⟨h1,λl o hl=>h2 (uncons (λz=>hii (by have:=z.2;simp at this;exact this.symm)) l) o (by rw[zg];exact hl)⟩
      ·cases e
      ·rename_i hn1 hn2;refine skip ?_ e;by_cases hii:i=i0
       ·subst hii;refine .inr λ⟨d,p,l,z⟩=>?_
        exact hn1 d p l z
       ·exact .inl λz=>hii (by have:=z.2;simp at this;exact this.symm)
def uH(a:Aft K U0 Y H0 G0 U H G)(h:dZ K H G (aL U Y) (dR H0) Y hs xs)(e:fF pins f hs U=some (.ok v,U')) :
  ∃as G2 as',Rel K as (xs.map some) H G2/\as.length=pins.length/\f as=some (.ok v,as')/\(aV G G2/\∀c,aL as (xs.map some) c->aL U Y c\/oE hs xs c)/\∀x H' G',Aft K as (xs.map some) H G2 as' H' G'->cR K H' G' (aL as' (xs.map some)) (dR H) v x ->
   Aft K U0 Y H0 G0 U' H' G'/\cR K H' G' (aL U' Y) (dR H0) v x:=by
 unfold fF at e
 cases q:bV pins hs U with
 |none=>rw[q] at e;cases e
 |some y =>
  obtain⟨as,U1⟩:=y;rw[q] at e;simp only at e
  cases q2:f as with
  |none=>rw[q2] at e;cases e
  |some y =>
   obtain⟨o,as'⟩:=y;rw[q2] at e;simp only at e
   cases q3:bN pins hs as' U U1 with
   |none=>rw[q3] at e;cases e
   |some U2 =>
    rw[q3] at e;simp only[Option.map_some,Option.some.injEq,Prod.mk.injEq] at e;obtain⟨rfl,rfl⟩:=e;obtain⟨G2,L⟩:=lT hs pins U G xs as U1 a.rel h q;refine⟨as,G2,as',L.ra, ?_,q2,⟨L.gg,L.ao⟩,λx H' G' b hv=>?_⟩
    ·have:∀(hs:List Hd) (pins:List Bool) (U:Env) (as:List Sl) (U1:Env),bV pins hs U=some (as,U1)->as.length=pins.length:=by
      intro hs
      induction hs with
      |nil =>
       intro pins U as U1 e;cases pins<;>cases e;rfl
      |cons h hs ih =>
       intro pins U as U1 e
       cases pins with
       |nil=>cases h with
        |slot i=>cases e
        |val v=>cases v<;>cases e
       |cons p ps =>
        have fin:∀{o:Option (List Sl×Env)} {g:Sl},(o.map λ(as,U')=>(g::as,U'))=some (as,U1)->(∀as' U',o=some (as',U')->as'.length=ps.length)->as.length=(p::ps).length:=by
         intro o g e k
         cases o with
         |none=>cases e
         |some y =>
          obtain⟨as',U'⟩:=y;simp only[Option.map_some,Option.some.injEq,Prod.mk.injEq] at e;rw[<- e.1,Zk,Zk,k as' U' rfl]
        cases h with
        |slot i =>
         simp only[bV] at e;split at e
         ·exact fin e λas' U' z=>ih _ _ _ _ z
         ·split at e
          ·exact fin e λas' U' z=>ih _ _ _ _ z
          ·split at e
           ·cases e
           ·exact fin e λas' U' z=>ih _ _ _ _ z
         ·cases e
        |val v =>
         cases v with
         |sh d=>exact fin e λas' U' z=>ih _ _ _ _ z
         |ow d=>exact fin e λas' U' z=>ih _ _ _ _ z
         |od d=>cases e
     exact this hs pins U as U1 q
    ·have own_there:∀c,aL as (xs.map some) c->H c≠none:=λc z=>(L.ra.owned z).1
     have rc:Rel K U1 Y H' G':=L.rc.keep b.ext (λc z w=>L.an c w z) b.rel.sub;obtain⟨r3,r4⟩:=pR hs pins as' xs U1 U2 b.rel rc (λc z w=>L.an c (b.own c z) w) h q3
     have own2:∀c,aL U2 Y c->aL U Y c:=λc z=>by
      rcases r4 c z with z | z
      ·exact L.ro c z
      ·exact z
     have hown:∀c,aL as (xs.map some) c->aL U0 Y c\/H0 c=none:=λc z=>by
      rcases L.ao c z with z | z
      ·exact .inl (a.own c z)
      ·exact .inr (h.tmp_own z).2.1
     have evo2:jU U U2:=λi=>by
      obtain⟨g1,g2⟩:=oF hs pins as' U1 U2 q3 i;rcases ES hs pins U as U1 q i with z | ⟨z,o⟩
      ·rcases g1 with g1 | ⟨d,d',p,l,w1,w2⟩
       ·rw[g1];exact z
       ·rw[w1,w2];exact⟨rfl,rfl⟩
      ·have hl:i<U1.length:=by
        obtain⟨d,p,l,o⟩:=o;rw[L.rc.len,<- a.rel.len];exact(Zc.mp o).1
       obtain⟨d,d',p,l,w1,w2⟩:=g2 z o hl;rw[w1,w2];exact⟨rfl,rfl⟩
     refine⟨⟨r3,⟨a.ext.gg.trans ((Sm.of L.gg).trans b.ext.gg),λc o hc nc=>?_,λc z=>a.ext.hx c (b.ext.hx c z),λc hc gc nc=>?_⟩,a.evo.trans evo2⟩, ?_⟩
     ·refine b.ext.hh c o (a.ext.hh c o hc nc) λz=>?_
      rcases hown c z with z | z
      ·exact nc z
      ·rw[hc] at z;cases z
     ·have hc':H c≠none:=λz=>hc (a.ext.hx c z)
      have g1:G c=none:=a.ext.gn c hc gc nc
      have g2:G2 c=none:=by
       cases w:G2 c with
       |none=>rfl
       |some o =>
        rcases L.gn c (by rw[w];simp) with z | z | z
        ·exact absurd g1 z
        ·exact absurd (a.own c z) nc
        ·exact absurd (h.tmp_own z).2.1 hc
      refine b.ext.gn c hc' g2 λz=>?_
      rcases hown c z with z | z
      ·exact nc z
      ·exact hc z
     ·cases v with
      |sh d=>exact hv
      |ow d =>
       obtain⟨c,rfl,g,o,n,m⟩:=hv;exact⟨c,rfl,g,o,λz=>(a.rel.owned (own2 c z)).1 m,a.ext.hx c m⟩
      |od d =>
       obtain⟨c,rfl,g,o,n,m,vs,hv,hr⟩:=hv;exact⟨c,rfl,g,o,λz=>(a.rel.owned (own2 c z)).1 m,a.ext.hx c m,vs,hv,λx hx=>let ⟨b,ws,h1,h2,h3,h4,h5,h6⟩:=hr x hx;⟨b,ws,h1,h2,h3,λz=>(a.rel.owned (own2 b z)).1 h5,a.ext.hx b h5,h6⟩⟩
end
inductive GV where
 |no | con (d:D) | fn (f:String) | blt | cls (ns:List Str) | mth (tb:List (Str×String)) | sub (s n:List Str) | subx (s n:List Str) | exc | exi | exs (cs:List Str)
structure CC where
 N:List Str
 names:List (Str×NameKind)
 gl:Str->GV
 top:Bool
noncomputable def CC.isGl(Z:CC)(x:Str):Bool:=Z.names.lookup x==some .globalImplicit
noncomputable def CC.isVis(Z:CC)(x:Str):Bool:=Z.names.lookup x==some .local||Z.names.lookup x==some .cell||Z.names.lookup x==some .free
noncomputable def kR(x:Str):Bool:=x==("__debug__":Str)||x==("__classdict__":Str)||x==("__name__":Str)
noncomputable def CC.slot(Z:CC)(x:Str):Option Nat:=if kR x then none else if Z.isVis x then Z.N.idxOf? x else none
noncomputable def CC.glob(Z:CC)(x:Str):GV:=if kR x then .no else if Z.isGl x then Z.gl x else .no
noncomputable def zK(Z:CC)(x:Str):E :=
 match Z.slot x with
 |some i=>.var i
 |none=>match Z.glob x with
  |.con d=>.con d
  |_=>.bad
noncomputable def GR:Const->E
 |.none=>.con .non
 |.bool b=>.con (.bl b)
 |.int i=>.con (.int i)
 |.str s=>if PyData.strOk s then .con (.str s) else .bad
 |_=>.bad
noncomputable def L7(f:Str):Option BI :=
 if f=("len":Str) then some .len else if f=("abs":Str) then some .abs else if f=("int":Str) then some .int else if f=("list":Str) then some .list
 else if f=("tuple":Str) then some .tuple else if f=("min":Str) then some .min else if f=("max":Str) then some .max else if f=("all":Str) then some .all else if f=("dict":Str) then some .dict else none
noncomputable def LY(Z:CC):Expr->Option Ty
 |.Name x _=>match Z.glob x with
  |.blt=>if x=("int":Str) then some .int else if x=("bool":Str) then some .bool else if x=("tuple":Str) then some .tuple else none
  |_=>none
 |_=>none
def B6{p:Prop}(h:false=true):p:=nomatch h
noncomputable def yC:Expr->Option Str
 |.Name x _=>some x
 |_=>none
noncomputable def uF:E->E
 |.omt=>.bad
 |c=>c
noncomputable def bC:Expr->Bool
 |.Starred _ _=>false
 |_=>true
noncomputable def uB(x:Str):Str:=⟨#[58]++x.cps⟩
noncomputable def CC.globS(Z:CC)(x:Str):GV:=if kR x then .no else if Z.isGl x then Z.gl (uB x) else .no
noncomputable def WM(Z:CC):List Expr->Option (List (List Str×List Str))
 |[]=>some []
 |.Name x _::es=>(match Z.globS x with
  |.subx s n=>(WM Z es).map ((s,n) :: ·)
  |_=>none)
 |_=>none
noncomputable def o6(x:Str):Str:=⟨#[94]++x.cps⟩
noncomputable def aCP(Z:CC)(t:Expr)(a:E):E:=match t with
 |.Name x _=>(match Z.globS x with
  |.sub s n=>.bad
  |.subx s n=>.bad
  |_=>.bad)
 |.Tuple es _ _=>(match WM Z es with
  |some sn=>if es.length<=100 then .bad else .bad
  |none=>.bad)
 |_=>.bad
noncomputable def MY(Z:CC)(args:List Expr)(cs:List E):E :=
 match args,cs with
 |[_,t],[a,_]=>(match LY Z t with | some ty=>.isi a [ty] | none=>aCP Z t a)
 |_,_=>.bad
noncomputable def LL:List (Option Expr)->List Expr->List E->List E->E
 |[some _],[_],[c],[e]=>.dict1 c e
 |_,_,_,_=>.bad
noncomputable def aIa(Z:CC):Bool:=match Z.gl ("{}":Str) with
 |.blt=>true
 |_=>false
noncomputable def dzC(z:Bool)(ks:List (Option Expr))(vs:List Expr)(c:E):E:=match z,ks,vs with
 |true,[],[]=>.dict0
 |_,_,_=>c
noncomputable def vU(m:Str):Str:=⟨#[46]++m.cps⟩
noncomputable def aHu(Z:CC)(x m:Str)(apos cpos:Pos)(a:Expr):E:=.bad
noncomputable def TH(Z:CC)(x m:Str)(apos cpos:Pos)(args:List Expr)(cs:List E):E :=
 match Z.gl (vU m) with
 |.mth tb=>if args.all bC&&(apos.endLine==cpos.line)&&decide (args.length<29) then(match Z.slot x with | some i=>.meth i m tb cs | none=>.bad) else .bad
 |_=>match args,cs with
  |[a],[c]=>if bC a&&(apos.endLine==cpos.line)&&(m==("append":Str)) then(match Z.slot x with | some i=>.app i c | none=>.bad) else if bC a&&(apos.endLine==cpos.line)&&(m==("extend":Str)) then .bad else if bC a&&(apos.endLine==cpos.line)&&(m==("pop":Str)) then .bad else aHu Z x m apos cpos a
  |[],[]=>if(apos.endLine==cpos.line)&&(m==("bit_length":Str)) then .bad else .bad
  |[a,b],[c,c']=>if bC a&&bC b&&(apos.endLine==cpos.line)&&(m==("insert":Str)) then(match Z.slot x with | some i=>.bad | none=>.bad) else .bad
  |_,_=>.bad
noncomputable def LI(Z:CC)(m:Str)(apos cpos:Pos)(args:List Expr)(a:E)(cs:List E):E :=
 match Z.gl (vU m) with
 |.mth tb=>if args.all bC&&(apos.endLine==cpos.line)&&decide (args.length<29) then .bad else .bad
 |_=>.bad
noncomputable def E8:Expr->Bool
 |.Call (.Name f _) [_] [] _=>f==("set":Str)
 |_=>false
noncomputable def aC0(args:List Expr)(cs:List E):E :=
 match args,cs with
 |[a],[.mkset c]=>if E8 a then .nset c else .bif .len cs
 |_,_=>.bif .len cs
noncomputable def SV(cs:List E):E :=
 match cs with
 |[c]=>.mkset c
 |_=>.bad
noncomputable def aFj(args:List Expr)(cs:List E):E:=.bif .list cs
noncomputable def GQ(f:Str)(args:List Expr)(cs:List E):E :=
 if f=("len":Str) then aC0 args cs else if f=("set":Str) then SV cs else if f=("range":Str) then .bad else if f=("list":Str) then aFj args cs else(match L7 f with | some b=>.bif b cs | none=>.bad)
noncomputable def KS:Expr->Bool
 |.ListComp _ _ _ _=>true
 |_=>false
noncomputable def dU:Expr->Bool
 |.ListComp _ _ _ _=>false
 |.SetComp _ _ _ _=>false
 |.DictComp _ _ _ _ _=>false
 |_=>true
noncomputable def F6:Expr->Bool
 |.Slice _ _ _ _=>false
 |_=>true
noncomputable def qJ:Expr->Bool
 |.Set _ _ _=>false
 |_=>true
noncomputable def yE:Expr->Bool
 |.Tuple _ _ _=>false
 |_=>true
noncomputable def CC.isLoc(Z:CC)(x:Str):Bool:=Z.names.lookup x==some .local||(Z.top&&Z.names.lookup x==some .cell)
noncomputable def CC.slotL(Z:CC)(x:Str):Option Nat:=if Z.isLoc x then Z.slot x else none
noncomputable def F0(Z:CC):Expr->Option Nat
 |.Name x _=>Z.slotL x
 |_=>none
noncomputable def jH(Z:CC):List Expr->Option (List Nat)
 |[]=>some []
 |e::es=>(F0 Z e).bind λi=>(jH Z es).map (i :: ·)
noncomputable def mW(Z:CC):Expr->Option (Bool×List Nat)
 |.Name x _=>(Z.slotL x).map λi=>(true,[i])
 |.Tuple es _ _=>(jH Z es).map λis=>(false,is)
 |_=>none
noncomputable def r8(Z:CC):Expr->Option (ItK×List Expr)
 |.Call (.Name f p) args [] pos=>if(f==("range":Str)) then
   (match Z.glob f with
   |.blt=>if args.all bC&&(args.length==1||args.length==2) then some (.rng,args) else none
   |_=>none)
  else if(f==("enumerate":Str)) then
   (match Z.glob f with
   |.blt=>if args.all bC&&(args.length==1) then some (.enum 0,args) else none
   |_=>none)
  else some (.of,[.Call (.Name f p) args [] pos])
 |e=>if qJ e then some (.of,[e]) else none
noncomputable def LQ:Expr->Bool
 |.Slice none none (some (.UnaryOp .USub (.Constant (.int i) _ _) _)) _=>i==1
 |_=>false
noncomputable def fW(scope:Scope):List Str:=(scope.names.filter λp=>p.2==NameKind.free).map (·.1)
noncomputable def fJ(scope:Scope):List Str:=(scope.names.filter λp=>p.2==NameKind.local).map (·.1)
noncomputable def CC.inner(Z:CC)(scope:Scope):CC :=
 ⟨fW scope++fJ scope,scope.names.map λ(n,k)=>if(k==NameKind.free&&Z.names.lookup n==some .cell) then(n,NameKind.cell) else(n,k),Z.gl,false⟩
noncomputable def CC.imps(Z:CC):List Str->Option (List Nat)
 |[]=>some []
 |x::xs=>(Z.N.idxOf? x).bind λi=>(Z.imps xs).map (i :: ·)
noncomputable def CC.scOk(Z:CC)(scope:Scope):Bool:=(scope.kind==ScopeKind.function)&&(scope.names.all λp=>p.2 != NameKind.cell)&&(scope.names.all λp=>p.2 != NameKind.local||scope.names.lookup p.1==some NameKind.local) &&
 (scope.names.all λp=>p.2 != NameKind.free||(scope.names.lookup p.1==some NameKind.free&&(Z.names.lookup p.1==some NameKind.cell||Z.names.lookup p.1==some NameKind.free)))&&decide (fW scope++fJ scope).Nodup
noncomputable def aC3(k:ItK)(ci:E)(cargs:List E):List E:=match k with
 |.of=>[ci]
 |_=>cargs
noncomputable def pI(k:ItK)(one:Bool):Bool:=match k with
 |.enum _=>!one
 |_=>true
noncomputable def aHV(iter:Expr):Bool:=false
noncomputable def UB(Z:CC):Expr->Option Nat
 |.Name x _=>if x==("listed":Str) then Z.slot x else none
 |_=>none
noncomputable def rR(Z:CC)(scope:Scope)(tg iter:Expr)(ci:E)(cargs cond:List E)(ce:E):E :=
 if Z.scOk scope then
  match Z.imps (fW scope),mW (Z.inner scope) tg,r8 Z iter with
  |some imp,some (one,is),some (k,_)=>if aHV iter then(if one==(is.length==1) then .comp ce is .sig [ci] cond imp (fJ scope).length else .bad) else match UB Z iter with | some i=>(if one==(is.length==1) then .comp ce is .key [.frz i] cond imp (fJ scope).length else .bad) | none=>if one==(is.length==1)&&pI k one&&k != .enum 1 then .comp ce is k (aC3 k ci cargs) cond imp (fJ scope).length else .bad
  |_,_,_=>.bad
 else .bad
mutual
noncomputable def cE(Z:CC):Expr->E
 |.Name x _=>zK Z x
 |.Constant c _ _=>GR c
 |.Tuple es _ _=>if es.all bC then .tup (dA Z es) else .bad
 |.List es _=>if es.all bC then .lst (dA Z es) else .bad
 |.Dict ks vs _=>dzC (aIa Z) ks vs (LL ks vs (cOs Z ks) (dA Z vs))
 |.BinOp a op b _=>.bin op (cE Z a) (cE Z b)
 |.UnaryOp .Not a _=>.not (cE Z a)
 |.UnaryOp .USub a _=>.neg (cE Z a)
 |.Compare a [op] [b] _=>if behindInMarks op b then .bad else .cmp op (cE Z a) (cE Z b)
 |.Compare a [op,op'] [b,c] _=>if behindInMarks op' c then .bad else .cmp2 op op' (cE Z a) (cE Z b) (cE Z c)
 |.BoolOp .And (a::b::r) _=>.and (cE Z a) (RF Z (b::r))
 |.BoolOp .Or (a::b::r) _=>.or (cE Z a) (cOr Z (b::r))
 |.IfExp c a b _=>.ite (cE Z c) (cE Z a) (cE Z b)
 |.Subscript a (.Slice lo hi none _) _=>.sl (cE Z a) (cO Z lo) (cO Z hi)
 |.Subscript a i _=>if LQ i then .rev (cE Z a) else .ix (cE Z a) (cE Z i)
 |.Call (.Name f _) args [] _=>if args.all bC&&decide (args≠[]) then
   match Z.glob f with
   |.fn g=>.call g (dA Z args)
   |.cls ns=>.make f ns (dA Z args)
   |.blt=>if f=("isinstance":Str) then MY Z args (dA Z args)
     else GQ f args (dA Z args)
   |_=>.bad
  else .bad
 |.Call (.Attribute (.Name x _) m apos) args [] cpos=>TH Z x m apos cpos args (dA Z args)
 |.Call (.Attribute (.Call g (a0::as0) kw p) m apos) args [] cpos=>LI Z m apos cpos args (cE Z (.Call g (a0::as0) kw p)) (dA Z args)
 |.Attribute (.Name x _) f _=>.fld (zK Z x) f
 |.ListComp elt [⟨tg,iter,[],0⟩] scope _=>rR Z scope tg iter (cE Z iter) (D4 Z iter) [] (cE (Z.inner scope) elt)
 |.ListComp elt [⟨tg,iter,[c],0⟩] scope _=>rR Z scope tg iter (cE Z iter) (D4 Z iter) [cE (Z.inner scope) c] (cE (Z.inner scope) elt)
 |_=>.bad
noncomputable def D4(Z:CC):Expr->List E
 |.Call _ args _ _=>dA Z args
 |_=>[]
noncomputable def dA(Z:CC):List Expr->List E
 |[]=>[]
 |e::es=>cE Z e::dA Z es
noncomputable def cOs(Z:CC):List (Option Expr)->List E
 |[]=>[]
 |o::os=>cO Z o::cOs Z os
noncomputable def RF(Z:CC):List Expr->E
 |[]=>.bad
 |[a]=>cE Z a
 |a::b::r=>.and (cE Z a) (RF Z (b::r))
noncomputable def cOr(Z:CC):List Expr->E
 |[]=>.bad
 |[a]=>cE Z a
 |a::b::r=>.or (cE Z a) (cOr Z (b::r))
noncomputable def cO(Z:CC):Option Expr->E
 |none=>.omt
 |some e=>uF (cE Z e)
end
noncomputable def PJ(K:Frag)(n:Nat)(run:List Sl->aR RV):Sp:=λvs H Q _=>vs.length=n/\∃(as:List Sl) (G:Hp) (v:RV) (as':List Sl),Rel K as (vs.map some) H G/\as.length=n/\run as=some (.ok v,as') /\
 ∀x H' G',Aft K as (vs.map some) H G as' H' G'->cR K H' G' (aL as' (vs.map some)) (dR H) v x->Q x H'
structure FnAt(X:Cx)(K:Frag)(x:Str)(n:Nat)(run:List Sl->aR RV):Prop where
 ex:∃(fa:Addr) (fd:FuncData) (ps:List Str) (k:Nat),FnOk X.prog X.w X.K X.mg X.base uW k fa fd ps (PJ K n run)/\Room k X.A/\X.mg x=some (.ref fa)/\PySem.W.keepIn X.K (.ref fa)=true/\iN X.K fd ps []
noncomputable def Q2(K:Frag)(ns:List Str):Sp:=λvs H Q _=>∃a C dx xs,vs=.ref a::xs/\xs.length=ns.length/\H a=some (.ins C dx [])/\ClsF K C ns/\Q .non (aP H a (.ins C dx (ns.zip xs)))
structure MkAt(X:Cx)(K:Frag)(x:Str)(ns:List Str):Prop where
 ex:∃(Ca fa:Addr) (fd:FuncData) (ps:List Str),nsIn K mainGlobals x=some (some (.ref Ca))/\X.mg x=some (.ref Ca)/\Mk X.K Ca fa/\ClsF K Ca ns/\FnOk X.prog X.w X.K X.mg X.base uW 1 fa fd ps (Q2 K ns)/\iN X.K fd ps []
structure MethAt(X:Cx)(K:Frag)(c m:Str)(n:Nat)(run:List Sl->aR RV):Prop where
 ex:∃(Ca fa:Addr) (fd:FuncData) (ps:List Str) (k:Nat),nsIn K mainGlobals c=some (some (.ref Ca))/\Meth X.K Ca m fa/\FnOk X.prog X.w X.K X.mg X.base uW k fa fd ps (PJ K n run)/\Room k X.A/\iN X.K fd ps []/\Cls K Ca
structure NotC(K:Frag)(D C:Addr):Prop where
 a:PySem.W.kin_not K D C=true
 b:PySem.W.plainGet K D "__class__"=true
 c:PySem.W.hasDictIn K D=true
 d:findIn K (.ref D) "__class__"=some (some (.builtin "object.__class__"))
 e:PySem.W.specialIn K (.builtin "object.__class__") "__get__"=some (some (.builtin "getset_descriptor.__get__"))
 f:PySem.W.takesIn K (.builtin "object.__class__")=some true
 g:PySem.W.mroIn K D (.type "object")=some true
structure SubAt(K:Frag)(mg:Str->Option Value)(x:Str)(s n:List Str):Prop where
 ex:∃C,mg x=some (.ref C)/\(∀c∈s,∀Ca,nsIn K mainGlobals c=some (some (.ref Ca))->PySem.W.isIn K (.ref Ca) C=true)/\∀c∈n,∀Ca,nsIn K mainGlobals c=some (some (.ref Ca))->NotC K Ca C
structure FnAtX(X:Cx)(K:Frag)(x:Str)(n:Nat)(run:List Sl->aR RV):Prop where
 ex:True
structure ExcAt(K:Frag)(mg:Str->Option Value)(x:Str):Prop where
 ex:∃C,nsIn K mainGlobals x=some (some (.ref C))/\mg x=some (.ref C)/\ExcG K C/\VX K C none
structure ExiAt(X:Cx)(K:Frag)(x:Str):Prop where
 ex:True
structure ExsAt(K:Frag)(mg:Str->Option Value)(x:Str)(cs:List Str):Prop where
 ex:∃D,mg x=some (.ref D)/\(∃i,VX K D i)/\∀c∈cs,∀C,nsIn K mainGlobals c=some (some (.ref C))->PySem.W.mroIn K C (.ref D)=some true
structure SubX(K:Frag)(mg:Str->Option Value)(x:Str)(s n:List Str):Prop where
 ex:∃D,mg x=some (.ref D)/\(∀c∈s,∀C,nsIn K mainGlobals c=some (some (.ref C))->PySem.W.isIn K (.ref C) D=true)/\∀c∈n,∀C,nsIn K mainGlobals c=some (some (.ref C))->PySem.W.kin_not K C D=true
structure XOkB(q:Bool)(X:Cx)(K:Frag)(P:aW)(C:Calls)(Z:CC):Prop where
 keq:X.K=K
 neq:X.N=Z.N
 nm:X.env.scope.names=Z.names
 nd:Z.N.Nodup
 con:∀x d,Z.gl x=.con d->∃u v,X.mg x=some u/\a7 v u/\∀G,aC K G d v
 blt:∀x,Z.gl x=.blt->X.mg x=none
 sub:∀x s n,Z.gl (uB x)=.sub s n->SubAt K X.mg x s n
 subx:∀x s n,Z.gl (uB x)=.subx s n->SubX K X.mg x s n
 cond:q=true->X.calm=true/\X.A.handled=none/\X.A.units+64<cLine/\(∀x f,Z.gl x=.fn f->FnAt X K x (P f).length (C f))/\(∀x ns,Z.gl x=.cls ns->MkAt X K x ns) /\
  (∀m tb c f,Z.gl (vU m)=.mth tb->tb.lookup c=some f->MethAt X K c m (P f).length (C f))/\Room 2 X.A/\((∀x,Z.gl x=.exc->ExcAt K X.mg x)/\∀x,Z.gl x=.exi->ExiAt X K x)/\(∀x cs,Z.gl (o6 x)=.exs cs->ExsAt K X.mg x cs)/\(∀x f,Z.gl x=.fn f->FnAtX X K x (P f).length (C f))/\∃env0 outer0 L,X.stack=env0::outer0/\env0.frame=some L/\X.env.frame=some L
abbrev bM(X:Cx)(K:Frag)(P:aW)(C:Calls)(Z:CC):Prop:=XOkB true X K P C Z
section
variable{X:Cx}{K:Frag}{P:aW}{C:Calls}{Z:CC}
theorem XOkB.calm(o:XOkB true X K P C Z):X.calm=true:=(o.cond rfl).1
theorem XOkB.hh(o:XOkB true X K P C Z):X.A.handled=none:=(o.cond rfl).2.1
def XOkB.hu(o:XOkB true X K P C Z):X.A.units+64<cLine:=(o.cond rfl).2.2.1
theorem XOkB.fn(o:XOkB true X K P C Z):∀x f,Z.gl x=.fn f->FnAt X K x (P f).length (C f):=(o.cond rfl).2.2.2.1
theorem XOkB.cls(o:XOkB true X K P C Z):∀x ns,Z.gl x=.cls ns->MkAt X K x ns:=(o.cond rfl).2.2.2.2.1
theorem XOkB.mth(o:XOkB true X K P C Z):∀m tb c f,Z.gl (vU m)=.mth tb->tb.lookup c=some f->MethAt X K c m (P f).length (C f):=(o.cond rfl).2.2.2.2.2.1
def XOkB.rm(o:XOkB true X K P C Z):Room 2 X.A:=(o.cond rfl).2.2.2.2.2.2.1
theorem XOkB.exc(o:XOkB true X K P C Z):∀x,Z.gl x=.exc->ExcAt K X.mg x:=(o.cond rfl).2.2.2.2.2.2.2.1.1
theorem XOkB.exi(o:XOkB true X K P C Z):∀x,Z.gl x=.exi->ExiAt X K x:=(o.cond rfl).2.2.2.2.2.2.2.1.2
theorem XOkB.exs(o:XOkB true X K P C Z):∀x cs,Z.gl (o6 x)=.exs cs->ExsAt K X.mg x cs:=(o.cond rfl).2.2.2.2.2.2.2.2.1
def XOkB.fnX(o:XOkB true X K P C Z):∀x f,Z.gl x=.fn f->FnAtX X K x (P f).length (C f):=(o.cond rfl).2.2.2.2.2.2.2.2.2.1
def XOkB.tp(o:XOkB true X K P C Z):∃env0 outer0 L,X.stack=env0::outer0/\env0.frame=some L/\X.env.frame=some L:=(o.cond rfl).2.2.2.2.2.2.2.2.2.2
def bM.of(keq:X.K=K)(neq:X.N=Z.N)(nm:X.env.scope.names=Z.names)(nd:Z.N.Nodup)(calm:X.calm=true)(hh:X.A.handled=none)(hu:X.A.units+64<cLine)
  (con:∀x d,Z.gl x=.con d->∃u v,X.mg x=some u/\a7 v u/\∀G,aC K G d v) (blt:∀x,Z.gl x=.blt->X.mg x=none) (fn:∀x f,Z.gl x=.fn f->FnAt X K x (P f).length (C f)) (cls:∀x ns,Z.gl x=.cls ns->MkAt X K x ns)
  (mth:∀m tb c f,Z.gl (vU m)=.mth tb->tb.lookup c=some f->MethAt X K c m (P f).length (C f)) (rm:Room 2 X.A) (sub:∀x s n,Z.gl (uB x)=.sub s n->SubAt K X.mg x s n) (subx:∀x s n,Z.gl (uB x)=.subx s n->SubX K X.mg x s n)
  (exc:(∀x,Z.gl x=.exc->ExcAt K X.mg x)/\∀x,Z.gl x=.exi->ExiAt X K x) (exs:∀x cs,Z.gl (o6 x)=.exs cs->ExsAt K X.mg x cs) (fnX:∀x f,Z.gl x=.fn f->FnAtX X K x (P f).length (C f)) (tp:∃env0 outer0 L,X.stack=env0::outer0/\env0.frame=some L/\X.env.frame=some L):bM X K P C Z :=
 ⟨keq,neq,nm,nd,con,blt,sub,subx,λ_=>⟨calm,hh,hu,fn,cls,mth,rm,exc,exs,fnX,tp⟩⟩
end
structure Ok3(X:Cx)(K:Frag)(P:aW)(C:Calls)(e:Expr)(c:E):Prop where
 v:PE X e (tE K P C c)
 t:PT X e (tT K P C c)
 h:PE X e (tH K P C c)
section
variable{K:Frag}
def WO(h:∀t U,ev P C t c U=none)(n:∀i,c≠.var i):Ok3 X K P C e c:=by
 have v:PE X e (tE K P C c):=λpins s Y H Q I ⟨U,G,w,U',r,z,k⟩=>by rw[h] at z;cases z
 exact⟨v,(λpins s Y H Q I ⟨U,G,w,U',r,z,k⟩=>by rw[h] at z;cases z),rS v n⟩
def aT:Ok3 X K P C e .bad:=WO (λt U=>rfl) λi z=>nomatch z
def kN(xo:XOkB q X K P C Z)(h:PE X e (tE K P C c))(n:∀i,c≠.var i)(hw:∀U,ev P C true c U=bP true (ev P C false c U))
  (he:∀whole,isTrue e X.env whole=(do let v <- whole;standAt e.pos;holding [v] (truthy v))):Ok3 X K P C e c:=⟨h,aE8 xo.keq h hw he,rS h n⟩
def o3[BEq O][LawfulBEq O]{l:List O}(h:l.idxOf? x=some i):l[i]?=some x:=by
 rw[List.idxOf?,List.findIdx?_eq_some_iff_getElem] at h;obtain⟨h1,h2,_⟩:=h;rw[Zb h1];exact congrArg some (Zy h2)
def CC.slot_ok(xo:XOkB q X K P C Z)(h:Z.slot x=some i):PE X (.Name x pos) (xT i):=by
 unfold CC.slot at h;split at h
 ·cases h
 ·rename_i hb;split at h
  ·rename_i hv;simp only[kR,Bool.or_eq_true,not_or,Bool.not_eq_true] at hb;refine HB (by rw[xo.neq];exact o3 h) ?_ hb.1.1 hb.1.2;unfold CC.isVis at hv;simp only[Bool.or_eq_true,beq_iff_eq] at hv;unfold N4;rw[xo.nm];rcases hv with (h | h) | h
   ·exact .inl h
   ·exact .inr (.inl h)
   ·exact .inr (.inr h)
  ·cases h
def CC.glob_ok(xo:XOkB q X K P C Z)(h:Z.glob x=g)(hg:g≠.no):Gl X x/\Z.gl x=g/\(x==("__debug__":Str))=false/\x≠"__name__":=by
 unfold CC.glob at h;split at h
 ·exact absurd h.symm hg
 ·rename_i hb;split at h
  ·rename_i hv;simp only[kR,Bool.or_eq_true,not_or,Bool.not_eq_true] at hb;refine⟨?_,h,hb.1.1,λz=>?_⟩
   ·unfold Gl Env.kindOf;rw[xo.nm];unfold CC.isGl at hv;simpa using hv
   ·have:=hb.2
    rw[z] at this;simp at this
  ·exact absurd h.symm hg
def vJ(xo:XOkB q X K P C Z)(h:PE X e (tC v))(r:∀G,aC K G d v)(he:∀whole,isTrue e X.env whole=(do let v <- whole;standAt e.pos;holding [v] (truthy v))):Ok3 X K P C e (.con d):=by
 refine kN xo (TE.imp_pe h λY H Q q=>?_) (λi z=>nomatch z) (λU=>rfl) he;obtain⟨U,G,w,U',r',z,k⟩:=q;cases z;exact k v H G (Aft.refl r') (r G)
def J1(xo:XOkB q X K P C Z)(x:Str)(pos:Pos):Ok3 X K P C (.Name x pos) (zK Z x):=by
 unfold zK;split
 ·rename_i i hi;have hp:=CC.slot_ok xo hi (pos:=pos);refine⟨JW hp, ?_,Z6 hp⟩
  -- a test of a local: looked at
  refine TT.imp_pt (EW hp λ_=>rfl) λY H Q q=>?_
  obtain⟨U,G,b,U',r,e1,k⟩:=q;obtain⟨u,b',e2,e3,e4⟩:=JI e1;cases e4
  cases w:(U[i]?).bind Sl.get with
  |none=>rw[w] at e2;cases e2
  |some d =>
   rw[w] at e2;simp only[Option.map_some,Option.some.injEq,Prod.mk.injEq,Out.ok.injEq] at e2;obtain⟨rfl,rfl⟩:=e2;obtain⟨x,hx⟩:=r.bound (by rw[w];rfl);exact⟨x,hx,b,by rw[xo.keq];exact x6 r.sub (r.get w hx) e3,k H G (Aft.refl r)⟩
 ·split
  ·rename_i d hd;obtain⟨h1,h2,h3,h4⟩:=CC.glob_ok xo hd (λz=>nomatch z);obtain⟨u,v,hm,hr,hrep⟩:=xo.con x d h2;exact vJ xo (YF h1 hm hr h3) hrep λ_=>rfl
  ·exact aT
def FX(xo:XOkB q X K P C Z)(c:Const)(k:Nat)(pos:Pos):Ok3 X K P C (.Constant c k pos) (GR c):=by
 cases c with
 |none=>exact vJ xo aBE (λG=>by simp[aC]) λ_=>rfl
 |bool b=>exact vJ xo aFt (λG=>by simp[aC]) λ_=>rfl
 |int i=>exact vJ xo aBP (λG=>by simp[aC]) λ_=>rfl
 |str s =>
  simp only[GR];split
  ·rename_i h;exact vJ xo aBV (λG=>by simp only[aC];exact⟨trivial,h⟩) λ_=>rfl
  ·exact aT
 |_=>exact aT
def bS(h:bC e=true)(es:List Expr)(env:PySem.Env):starEach (e::es) env=(false,eval e env)::starEach es env:=by
 cases e<;>first | rfl | cases h
def aAr:PA X [] (F5 K P C []):=by
 refine TA.imp_pa qM λY H Q q=>?_
 obtain⟨U,G,ds,U',r,e,k⟩:=q;simp only[oS,Option.some.injEq,Prod.mk.injEq,Out.ok.injEq] at e;obtain⟨rfl,rfl⟩:=e;exact k [] H G (Aft.refl r) aB.nil
def S7(h:Ok3 X K P C e c)(t:PA X es (F5 K P C cs))(ns:bC e=true):PA X (e::es) (F5 K P C (c::cs)):=by
 refine TA.imp_pa (lW h.v t (bS ns _ _)) λY H Q q=>?_
 obtain⟨U,G,ds,U',r,e,k⟩:=q;rw[oS] at e;obtain⟨v,U1,e1,e2⟩:=aK e;obtain⟨ds',U2,e3,e4⟩:=aK e2;cases e4;refine⟨U,G,v,U1,r,e1,λx H1 G1 a1 hx=>?_⟩;obtain⟨G1',a1',rx⟩:=a1.share hx;refine⟨U1,G1',ds',_,a1'.rel,e3,λxs H2 G2 a2 hxs=>?_⟩;exact k (x::xs) H2 G2 (a1'.trans a2) (aB.cons (aC.mono a2.ext.gg _ rx) hxs)
def XU:PA X [] (pK K P C []):=by
 refine TA.imp_pa qM λY H Q q=>?_
 obtain⟨U,G,ds,U',r,e,k⟩:=q;simp only[cU,Option.some.injEq,Prod.mk.injEq,Out.ok.injEq] at e;obtain⟨rfl,rfl⟩:=e;exact k [] H G (Aft.refl r) rfl
theorem dZ.new_mono(w:∀a,new a->new' a):∀{hs:List Hd} {xs:List V},dZ K H G own new Y hs xs->dZ K H G own new' Y hs xs
 |[],_,h=>h
 |h::hs,_,r=>by(obtain⟨x,r',rfl,h1,h2,h3⟩:=r;exact⟨x,r',rfl,h1.new_mono w,dZ.new_mono w h2,h3⟩)
def U6(h:Ok3 X K P C e c)(t:PA X es (pK K P C cs))(ns:bC e=true):PA X (e::es) (pK K P C (c::cs)):=by
 refine TA.imp_pa (lW h.h t (bS ns _ _)) λY H Q q=>?_
 obtain⟨U,G,ds,U',r,e,k⟩:=q;rw[cU] at e;obtain⟨v,U1,e1,e2⟩:=aK e;obtain⟨ds',U2,e3,e4⟩:=aK e2;cases e4;refine⟨U,G,v,U1,r,e1,λx H1 G1 a1 hx=>⟨U1,G1,ds',_,a1.rel,e3,λxs H2 G2 a2 hxs=>?_⟩⟩;refine k (x::xs) H2 G2 (a1.trans a2) ⟨x,xs,rfl,hx.wait a2.ext λa z=>.inl (a2.own a z),hxs.new_mono λa z=>a1.ext.hx a z,λd a hd ha ht=>?_⟩;subst hd;obtain⟨b,e5,g,o,n,m⟩:=hx;rw[ha] at e5;cases e5;obtain⟨vs,hv⟩:=o.there
 have:=(hxs.tmp_own ht).2.1
 rw[show H1 a=none from this] at hv;cases hv
theorem dZ.getAll(r:Rel K U Y H G):∀{hs:List Hd} {xs:List V} {ds:List D},dZ K H G own new Y hs xs->getAll hs U=some ds->yW K H G ds xs
 |[],_,_,h,e=>by cases (show _=[] from h);cases e;rfl
 |h::hs,_,ds,hh,e=>by
  obtain⟨x,r',rfl,h1,h2,h3⟩:=hh;simp only[CI.getAll] at e
  cases q:h.get U with
  |none=>rw[q] at e;cases e
  |some d =>
   rw[q] at e
   cases q2:CI.getAll hs U with
   |none=>rw[q2] at e;cases e
   |some ds' =>
    rw[q2] at e;cases e;exact⟨x,r',rfl,h1.read r q,dZ.getAll r h2 q2⟩
def aED(xo:bM X K P C Z)(ha:Ok3 X K P C a ca)(hb:Ok3 X K P C b cb):Ok3 X K P C (.BinOp a op b pos) (.bin op ca cb):=by
 refine kN xo (TE.imp_pe (aGz (aEe xo.keq op) ha.h hb.h) λY H Q q=>?_) (λi z=>nomatch z) (λU=>rfl) λ_=>rfl
 obtain⟨U,G,v,U',r,e,k⟩:=q;obtain⟨hx,U1,e1,e⟩:=aK e;obtain⟨hy,U2,e2,e⟩:=aK e;obtain⟨e3,rfl⟩:=eX e;refine⟨U,G,hx,U1,r,e1,λx H1 G1 a1 rx=>⟨U1,G1,hy,U',a1.rel,e2,λy H2 G2 a2 ry=>?_⟩⟩
 cases q1:hx.get U' with
 |none=>rw[q1] at e3;cases e3
 |some d =>
  cases q2:hy.get U' with
  |none=>rw[q1,q2] at e3;cases e3
  |some d2 =>
   rw[q1,q2] at e3;simp only[Option.bind_some] at e3;split at e3
   ·rename_i hm;have rx':=rx.wait a2.ext λa z=>.inl (a2.own a z)
    refine⟨G2,d,d2,v,a2.rel.sub,rx'.read a2.rel q1,ry.read a2.rel q2,λho ds hd=>?_,e3,λz H3 hm3=>?_⟩
    ·subst ho;subst hd
     cases hx with
     |slot i=>simp[rL] at hm
     |val w =>
      cases w with
      |sh _=>simp[rL] at hm
      |od _=>simp[rL] at hm
      |ow w =>
       simp only[Hd.get,RV.d,Option.some.injEq] at q1;subst q1;obtain⟨c,e5,g,⟨vs,o1,o2⟩,n,m⟩:=rx';exact⟨c,vs,e5,o1,o2⟩
    ·obtain⟨G3,a3,v3⟩:=(a1.trans a2).made hm3;exact k z H3 G3 a3 v3
   ·cases e3
def OU(xo:bM X K P C Z)(ha:Ok3 X K P C a ca):Ok3 X K P C (.UnaryOp .USub a pos) (.neg ca):=by
 refine kN xo (TE.imp_pe (aF6 aCW ha.v) λY H Q q=>?_) (λi z=>nomatch z) (λU=>rfl) λ_=>rfl
 obtain⟨U,G,v,U',r,e,k⟩:=q;obtain⟨w,U1,e1,e⟩:=aK e;split at e
 ·rename_i i hi;cases e;refine⟨U,G,w,_,r,e1,λx H1 G1 a1 rx=>?_⟩
  have:=rx.readR
  rw[hi] at this;cases this.int;exact⟨i,rfl,k _ H1 G1 a1 (by show aC K G1 (.int (-i)) _;simp[aC])⟩
 ·cases e
def aAw(ha:PE X a ta):PE X (.UnaryOp .Not a pos) (λY H Q=>ta Y H λx H'=>∃k,LB X.K x H' k/\Q (.bl (!k)) H'):=by
 intro pins s Y H Q I h;refine UnaryOp_ (bG (ha pins s Y H _ I h) λv s1 ⟨x,H1,I1,r1,q1⟩=>?_);exact not_of (bG (QV pins s1 Y H1 x v (λk H'=>Q (.bl (!k)) H') I1 r1 q1) λb s2 ⟨H2,I2,q2⟩=>⟨.bl (!b),H2,I2,rfl,q2⟩)
def aDe(xo:bM X K P C Z)(ha:Ok3 X K P C a ca):Ok3 X K P C (.UnaryOp .Not a pos) (.not ca):=by
 have v:PE X (.UnaryOp .Not a pos) (tE K P C (.not ca)):=by
  refine TE.imp_pe (aAw ha.h) λY H Q q=>?_
  obtain⟨U,G,v,U',r,e,k⟩:=q;obtain⟨w,U1,e1,e⟩:=aK e;obtain⟨e2,rfl⟩:=eX e;refine⟨U,G,w,U',r,e1,λx H1 G1 a1 rx=>?_⟩
  cases q:w.get U' with
  |none=>rw[q] at e2;cases e2
  |some d =>
   rw[q] at e2;simp only[Option.bind_some] at e2
   cases q2:iY d with
   |none=>rw[q2] at e2;cases e2
   |some b =>
    rw[q2] at e2;cases e2;refine⟨b, ?_,k _ H1 G1 a1 (by show aC K G1 (.bl _) _;simp[aC])⟩;rw[xo.keq];exact x6 a1.rel.sub (rx.read a1.rel q) q2
 refine⟨v, ?_,rS v λi z=>nomatch z⟩;refine TT.imp_pt (aB9 ha.t) λY H Q q=>?_
 obtain⟨U,G,b,U',r,e,k⟩:=q;obtain⟨w,U1,e1,e⟩:=aK e;split at e
 ·rename_i b';cases e;exact⟨U,G,b',_,r,e1,λH1 G1 a1=>k H1 G1 a1⟩
 ·cases e
def rA(a1:Aft K U Y H G U1 H1 G1)(rx:iB K H1 G1 (aL U1 Y) (dR H) Y hx x)(a2:Aft K U1 Y H1 G1 U2 H2 G2)(ry:iB K H2 G2 (aL U2 Y) (dR H1) Y hy y)
  (e:((hx.get U2).bind λd=>(hy.get U2).bind λe=>bL op d e)=some b) (Q:VK) (q:Q (.bl b) H2):G6 K op x y H2 Q:=by
 cases q1:hx.get U2 with
 |none=>rw[q1] at e;cases e
 |some d =>
  cases q2:hy.get U2 with
  |none=>rw[q1,q2] at e;cases e
  |some d2 =>
   rw[q1,q2] at e;exact⟨G2,d,d2,b,a2.rel.sub,(rx.wait a2.ext λa z=>.inl (a2.own a z)).read a2.rel q1,ry.read a2.rel q2,e,q⟩
def aEA(e:(o.map λb=>RV.sh (.bl b))=some v):∃b,o=some b/\v=.sh (.bl b):=by
 cases o with
 |none=>cases e
 |some b=>cases e;exact⟨b,rfl,rfl⟩
def rE{x y:Option D}{f:D->D->Option Bool}(e:(x.bind λd=>y.bind λe=>(f d e).map λb=>RV.sh (.bl b))=some v):∃b,(x.bind λd=>y.bind λe=>f d e)=some b/\v=.sh (.bl b):=by
 cases x with
 |none=>cases e
 |some d =>
  cases y with
  |none=>cases e
  |some d2=>exact aEA e
def aEG(xo:bM X K P C Z)(ha:Ok3 X K P C a ca)(hb:Ok3 X K P C b cb)(hm:behindInMarks op b=false):Ok3 X K P C (.Compare a [op] [b] pos) (.cmp op ca cb):=by
 have core:∀Y H (Q:VK),(∃(U:Env) (G:Hp) (b:Bool) (U':Env),Rel K U Y H G/\ev P C false (.cmp op ca cb) U=some (.ok (.sh (.bl b)),U')/\∀H' G',Aft K U Y H G U' H' G'->Q (.bl b) H') ->
   PF (G6 K op) (tH K P C ca) (tH K P C cb) Y H Q:=λY H Q q=>by
  obtain⟨U,G,b,U',r,e,k⟩:=q;obtain⟨hx,U1,e1,e⟩:=aK e;obtain⟨hy,U2,e2,e⟩:=aK e;obtain⟨e3,rfl⟩:=eX e;obtain⟨b',e4,e5⟩:=rE e3;cases e5;exact⟨U,G,hx,U1,r,e1,λx H1 G1 a1 rx=>⟨U1,G1,hy,U',a1.rel,e2,λy H2 G2 a2 ry=>rA a1 rx a2 ry e4 Q (k H2 G2 (a1.trans a2))⟩⟩
 have v:PE X (.Compare a [op] [b] pos) (tE K P C (.cmp op ca cb)):=by
  refine TE.imp_pe (aAn (qO xo.keq xo.hu op) ha.h hb.h hm) λY H Q q=>core Y H Q ?_
  obtain⟨U,G,v,U',r,e,k⟩:=q;have e0:=e;obtain⟨hx,U1,e1,e⟩:=aK e;obtain⟨hy,U2,e2,e⟩:=aK e;obtain⟨e3,rfl⟩:=eX e;obtain⟨b',e4,rfl⟩:=rE e3;exact⟨U,G,b',U',r,e0,λH' G' a=>k _ H' G' a (by show aC K G' (.bl _) _;simp[aC])⟩
 refine⟨v, ?_,rS v λi z=>nomatch z⟩;refine TT.imp_pt (YW (qO xo.keq xo.hu op) ha.h hb.h hm) λY H Q q=>core Y H _ ?_
 obtain⟨U,G,b',U',r,e,k⟩:=q;exact⟨U,G,b',U',r,e,λH' G' a=>⟨b',rfl,k H' G' a⟩⟩
def XY(xo:bM X K P C Z)(ha:Ok3 X K P C a ca)(hb:Ok3 X K P C b cb)(hc:Ok3 X K P C c cc)(hm:behindInMarks op' c=false):Ok3 X K P C (.Compare a [op,op'] [b,c] pos) (.cmp2 op op' ca cb cc):=by
 have core:∀Y H (Q:VK),(∃(U:Env) (G:Hp) (b:Bool) (U':Env),Rel K U Y H G/\ev P C false (.cmp2 op op' ca cb cc) U=some (.ok (.sh (.bl b)),U')/\∀H' G',Aft K U Y H G U' H' G'->Q (.bl b) H') ->
   EJ (G6 K op) (G6 K op') (tH K P C ca) (tH K P C cb) (tH K P C cc) Y H Q:=λY H Q q=>by
  obtain⟨U,G,b,U',r,e,k⟩:=q;obtain⟨hx,U1,e1,e⟩:=aK e;obtain⟨hy,U2,e2,e⟩:=aK e;refine⟨U,G,hx,U1,r,e1,λx H1 G1 a1 rx=>⟨U1,G1,hy,U2,a1.rel,e2,λy H2 G2 a2 ry=>?_⟩⟩;split at e
  ·cases e
  ·rename_i e4;cases e;refine rA a1 rx a2 ry e4 _ ⟨false,rfl, ?_⟩;rw[Zp Bool.false_ne_true];exact k H2 G2 (a1.trans a2)
  ·rename_i e4;obtain⟨hz,U3,e5,e⟩:=aK e;obtain⟨e6,rfl⟩:=eX e;obtain⟨b',e7,e8⟩:=rE e6;cases e8;refine rA a1 rx a2 ry e4 _ ⟨true,rfl, ?_⟩;rw[Zo rfl];exact⟨U2,G2,hz,U',a2.rel,e5,λz H3 G3 a3 rz=>rA (a1.trans a2) (ry.new_mono λa z=>a1.ext.hx a z) a3 rz e7 Q (k H3 G3 ((a1.trans a2).trans a3))⟩
 have hl:lastMarks [op,op'] [b,c]=false:=hm
 have v:PE X (.Compare a [op,op'] [b,c] pos) (tE K P C (.cmp2 op op' ca cb cc)):=by
  refine TE.imp_pe (SI (qO xo.keq xo.hu op) (qO xo.keq xo.hu op') ha.h hb.h hc.h hl) λY H Q q=>core Y H Q ?_
  obtain⟨U,G,v,U',r,e,k⟩:=q;have e0:=e
  have:∃b,v=.sh (.bl b):=by
   obtain⟨hx,U1,e1,e⟩:=aK e;obtain⟨hy,U2,e2,e⟩:=aK e;split at e
   ·cases e
   ·cases e;exact⟨_,rfl⟩
   ·obtain⟨hz,U3,e5,e⟩:=aK e;obtain⟨e6,rfl⟩:=eX e;obtain⟨b',e7,e8⟩:=rE e6;exact⟨b',e8⟩
  obtain⟨b',rfl⟩:=this;exact⟨U,G,b',U',r,e0,λH' G' a=>k _ H' G' a (by show aC K G' (.bl _) _;simp[aC])⟩
 refine⟨v, ?_,rS v λi z=>nomatch z⟩;refine TT.imp_pt (RH (qO xo.keq xo.hu op) (qO xo.keq xo.hu op') ha.h hb.h hc.h hl) λY H Q q=>core Y H _ ?_
 obtain⟨U,G,b',U',r,e,k⟩:=q;exact⟨U,G,b',U',r,e,λH' G' a=>⟨b',rfl,k H' G' a⟩⟩
end
section
variable{K:Frag}
def PW.imp(h:PW X e t)(w:∀Y H Q,u Y H Q->t Y H Q):PW X e u:=λwh pins s Y H Q I q=>h wh pins s Y H Q I (w Y H Q q)
def aGc(q:tE K P C (.and ca cb) Y H Q):WH (tE K P C ca) (tE K P C cb) Y H Q:=by
 obtain⟨U,G,v,U',r,e,k⟩:=q;obtain⟨w,U1,e1,e⟩:=aK e;refine⟨U,G,w,U1,r,e1,λx H1 G1 a1 rx=>?_⟩;split at e
 ·refine⟨true,u9 (K:=K) (G:=G1) rx, ?_⟩;refine uK ?_;exact⟨U1,G1,v,U',a1.rel,e,λy H2 G2 a2 ry=>k y H2 G2 (a1.trans a2) (ry.new_mono λa z=>a1.ext.hx a z)⟩
 ·refine⟨false,u9 (K:=K) (G:=G1) rx, ?_⟩;refine vI ?_;cases e;exact k _ H1 G1 a1 (by show aC K G1 (.bl _) _;simp[aC])
 ·cases e
def aEU(q:tT K P C (.and ca cb) Y H Q):aDa (tT K P C ca) (tT K P C cb) Y H Q:=by
 obtain⟨U,G,b,U',r,e,k⟩:=q;obtain⟨w,U1,e1,e⟩:=aK e;split at e
 ·refine⟨U,G,true,U1,r,e1,λH1 G1 a1=>?_⟩;refine uK ?_;exact⟨U1,G1,b,U',a1.rel,e,λH2 G2 a2=>k H2 G2 (a1.trans a2)⟩
 ·refine⟨U,G,false,U1,r,e1,λH1 G1 a1=>?_⟩;refine vI ?_;cases e;exact k H1 G1 a1
 ·cases e
def aHo(q:tE K P C (.or ca cb) Y H Q):aCv (tE K P C ca) (tE K P C cb) Y H Q:=by
 obtain⟨U,G,v,U',r,e,k⟩:=q;obtain⟨w,U1,e1,e⟩:=aK e;refine⟨U,G,w,U1,r,e1,λx H1 G1 a1 rx=>?_⟩;split at e
 ·refine⟨true,u9 (K:=K) (G:=G1) rx, ?_⟩;refine uK ?_;cases e;exact k _ H1 G1 a1 (by show aC K G1 (.bl _) _;simp[aC])
 ·refine⟨false,u9 (K:=K) (G:=G1) rx, ?_⟩;refine vI ?_;exact⟨U1,G1,v,U',a1.rel,e,λy H2 G2 a2 ry=>k y H2 G2 (a1.trans a2) (ry.new_mono λa z=>a1.ext.hx a z)⟩
 ·cases e
def aHD(q:tT K P C (.or ca cb) Y H Q):tOr (tT K P C ca) (tT K P C cb) Y H Q:=by
 obtain⟨U,G,b,U',r,e,k⟩:=q;obtain⟨w,U1,e1,e⟩:=aK e;split at e
 ·refine⟨U,G,true,U1,r,e1,λH1 G1 a1=>?_⟩;refine uK ?_;cases e;exact k H1 G1 a1
 ·refine⟨U,G,false,U1,r,e1,λH1 G1 a1=>?_⟩;refine vI ?_;exact⟨U1,G1,b,U',a1.rel,e,λH2 G2 a2=>k H2 G2 (a1.trans a2)⟩
 ·cases e
structure Ok2(X:Cx)(K:Frag)(P:aW)(C:Calls)(op:BoolOp)(vs:List Expr)(c:E):Prop where
 v:∀pos,PE X (.BoolOp op vs pos) (tE K P C c)
 w:∀pos,PW X (.BoolOp op vs pos) (tT K P C c)
def VQ(h:Ok3 X K P C a c):Ok2 X K P C .And [a] c:=⟨λ_=>QR h.v,λ_=>X7 h.t⟩
def XR(h:Ok3 X K P C a c):Ok2 X K P C .Or [a] c:=⟨λ_=>QR h.v,λ_=>aEv h.t⟩
def JM(h:Ok3 X K P C a ca)(t:Ok2 X K P C .And (b::r) cb):Ok2 X K P C .And (a::b::r) (.and ca cb) :=
 ⟨λpos=>TE.imp_pe (aBO h.v (t.v pos)) λ_ _ _ q=>aGc q,λpos=>PW.imp (aBH h.t (t.w pos)) λ_ _ _ q=>aEU q⟩
def O2(h:Ok3 X K P C a ca)(t:Ok2 X K P C .Or (b::r) cb):Ok2 X K P C .Or (a::b::r) (.or ca cb) :=
 ⟨λpos=>TE.imp_pe (W8 h.v (t.v pos)) λ_ _ _ q=>aHo q,λpos=>PW.imp (aE5 h.t (t.w pos)) λ_ _ _ q=>aHD q⟩
def Ok2.ok3(h:Ok2 X K P C op vs c)(n:∀i,c≠.var i):Ok3 X K P C (.BoolOp op vs pos) c:=⟨h.v pos,(h.w pos).pt,rS (h.v pos) n⟩
def TB(hc:PT X c tc)(ha:PT X a ta)(hb:PT X b tb):PT X (.IfExp c a b pos) (λY H Q=>tc Y H λk H1=>if k=true then ta Y H1 Q else tb Y H1 Q):=by
 intro pins s Y H Q I h;show wpAny _ _ (do if <- isTrue c X.env (eval c X.env) then isTrue a X.env (eval a X.env) else isTrue b X.env (eval b X.env)) _ _ s;refine Zt (bG (hc pins s Y H _ I h) λk s1 ⟨H1,I1,q1⟩=>?_)
 cases k with
 |true =>
  simp only[if_true] at q1 ⊢;exact ha pins s1 Y H1 Q I1 q1
 |false =>
  simp only[Bool.false_eq_true,if_false] at q1 ⊢;exact hb pins s1 Y H1 Q I1 q1
def aD1(hc:Ok3 X K P C c cc)(ha:Ok3 X K P C a ca)(hb:Ok3 X K P C b cb):Ok3 X K P C (.IfExp c a b pos) (.ite cc ca cb):=by
 have v:PE X (.IfExp c a b pos) (tE K P C (.ite cc ca cb)):=by
  refine TE.imp_pe (VJ hc.t ha.v hb.v) λY H Q q=>?_
  obtain⟨U,G,v,U',r,e,k⟩:=q;obtain⟨w,U1,e1,e⟩:=aK e;split at e
  ·refine⟨U,G,true,U1,r,e1,λH1 G1 a1=>?_⟩;refine uK ?_;exact⟨U1,G1,v,U',a1.rel,e,λy H2 G2 a2 ry=>k y H2 G2 (a1.trans a2) (ry.new_mono λa z=>a1.ext.hx a z)⟩
  ·refine⟨U,G,false,U1,r,e1,λH1 G1 a1=>?_⟩;refine vI ?_;exact⟨U1,G1,v,U',a1.rel,e,λy H2 G2 a2 ry=>k y H2 G2 (a1.trans a2) (ry.new_mono λa z=>a1.ext.hx a z)⟩
  ·cases e
 refine⟨v, ?_,rS v λi z=>nomatch z⟩;refine TT.imp_pt (TB hc.t ha.t hb.t) λY H Q q=>?_
 obtain⟨U,G,b,U',r,e,k⟩:=q;obtain⟨w,U1,e1,e⟩:=aK e;split at e
 ·refine⟨U,G,true,U1,r,e1,λH1 G1 a1=>?_⟩;refine uK ?_;exact⟨U1,G1,b,U',a1.rel,e,λH2 G2 a2=>k H2 G2 (a1.trans a2)⟩
 ·refine⟨U,G,false,U1,r,e1,λH1 G1 a1=>?_⟩;refine vI ?_;exact⟨U1,G1,b,U',a1.rel,e,λH2 G2 a2=>k H2 G2 (a1.trans a2)⟩
 ·cases e
def aDo(xo:bM X K P C Z)(h:PA X es (F5 K P C cs)):Ok3 X K P C (.Tuple es k0 pos) (.tup cs):=by
 refine kN xo (TE.imp_pe (aEp h) λY H Q q=>?_) (λi z=>nomatch z) (λU=>rfl) λ_=>rfl
 obtain⟨U,G,v,U',r,e,k⟩:=q;obtain⟨ds,U1,e1,e⟩:=aK e;split at e
 ·rename_i hz;cases e;refine⟨U,G,ds,_,r,e1,λxs H1 G1 a1 rx=>⟨by rw[rx.len];exact gI hz,λp hp=>?_⟩⟩;obtain⟨a2,v2⟩:=a1.tup_new hp rx;exact k _ _ _ a2 v2
 ·cases e
def aDf(xo:XOkB q X K P C Z)(h:PA X es (F5 K P C cs)):Ok3 X K P C (.List es pos) (.lst cs):=by
 refine kN xo (TE.imp_pe (aDn h) λY H Q q=>?_) (λi z=>nomatch z) (λU=>rfl) λ_=>rfl
 obtain⟨U,G,v,U',r,e,k⟩:=q;obtain⟨ds,U1,e1,e⟩:=aK e;split at e
 ·rename_i hz;cases e;refine⟨U,G,ds,_,r,e1,λxs H1 G1 a1 rx=>⟨by rw[rx.len];exact gI hz,λp hp=>?_⟩⟩;obtain⟨a2,v2⟩:=a1.own_new hp rx;exact k _ _ _ a2 v2
 ·cases e
def aFX(xo:bM X K P C Z)(ha:Ok3 X K P C a ca)(hb:Ok3 X K P C b cb)(hs:BE b):Ok3 X K P C (.Subscript a b pos) (.ix ca cb):=by
 refine kN xo (TE.imp_pe (aFh (aE6 xo.keq (by have:=xo.hu;omega)) ha.h hb.v hs) λY H Q q=>?_) (λi z=>nomatch z) (λU=>rfl) λ_=>rfl
 obtain⟨U,G,v,U',r,e,k⟩:=q;obtain⟨hx,U1,e1,e⟩:=aK e;obtain⟨w,U2,e2,e⟩:=aK e;obtain⟨e3,rfl⟩:=eX e;refine⟨U,G,hx,U1,r,e1,λx H1 G1 a1 rx=>⟨U1,G1,w,U',a1.rel,e2,λy H2 G2 a2 ry=>?_⟩⟩
 cases q1:hx.get U' with
 |none=>rw[q1] at e3;cases e3
 |some d =>
  rw[q1] at e3;simp only[Option.bind_some] at e3
  cases q2:OR d w.d with
  |none=>rw[q2] at e3;cases e3
  |some d2 =>
   rw[q2] at e3;cases e3;exact⟨G2,d,w.d,d2,a2.rel.sub,(rx.wait a2.ext λa z=>.inl (a2.own a z)).read a2.rel q1,ry.readR,q2,λz hz=>k z H2 G2 (a1.trans a2) hz⟩
noncomputable def tO(K:Frag)(P:aW)(C:Calls)(c:E):TO:=λY H Q=>∃(U:Env) (G:Hp) (o:Option D) (U':Env),Rel K U Y H G/\AR c (ev P C false c U) U=some (.ok o,U')/\∃i,oU o=some i/\∀H' G',Aft K U Y H G U' H' G'->Q i H'
def UC:PO X none (tO K P C .omt):=λpins s Y H Q I ⟨U,G,o,U',r,e,i,e2,k⟩=>by
 simp only[AR,FI,if_true,Option.some.injEq,Prod.mk.injEq,Out.ok.injEq] at e;obtain⟨rfl,rfl⟩:=e;cases e2;exact Z3 pins s Y H Q I (k H G (Aft.refl r))
def S2(h:Ok3 X K P C e c):PO X (some e) (tO K P C (uF c)):=λpins s Y H Q I ⟨U,G,o,U',r,e1,i,e2,k⟩=>by
 have key:∀c',uF c=c'->FI c'=false->(∀U,ev P C false c' U=ev P C false c U\/ev P C false c' U=none)->wpAny (model X.prog X.w) X.A (evalPart (some e) X.env) (λu s'=>∃o H',Inv X pins Y H' s'/\IsPart u o/\Q o H') X.xe s:=λc' e0 hno he=>by
  rw[e0] at e1;simp only[AR,hno,Bool.false_eq_true,if_false] at e1;obtain⟨w,U1,e3,e4⟩:=aK e1;cases e4;rcases he U with he | he
  ·rw[he] at e3;refine aAH h.v pins s Y H Q I ⟨U,G,w,_,r,e3,λx H1 G1 a1 rx=>?_⟩;cases q:w.d<;>rw[q] at e2<;>simp only[oU,reduceCtorEq,Option.some.injEq] at e2;subst e2
   have:=rx.readR
   rw[q] at this;exact⟨_,this.int,k H1 G1 a1⟩
  ·rw[he] at e3;cases e3
 cases c with
 |omt=>exact key .bad rfl rfl λU=>.inr (rfl)
 |_=>exact key _ rfl rfl λU=>.inl rfl
def aFk(xo:bM X K P C Z){lo hi:Option Expr}{ca cl ch:E}(ha:Ok3 X K P C a ca)(hl:PO X lo (tO K P C cl))(hh:PO X hi (tO K P C ch)):Ok3 X K P C (.Subscript a (.Slice lo hi none p2) pos) (.sl ca cl ch):=by
 refine kN xo (TE.imp_pe (UQ (aGb xo.keq) ha.h hl hh) λY H Q q=>?_) (λi z=>nomatch z) (λU=>rfl) λ_=>rfl
 obtain⟨U,G,v,U',r,e,k⟩:=q;obtain⟨hx,U1,e1,e⟩:=aK e;obtain⟨l,U2,e2,e⟩:=aK e;obtain⟨h,U3,e3,e⟩:=aK e;obtain⟨e4,rfl⟩:=eX e
 cases q1:hx.get U' with
 |none=>rw[q1] at e4;cases e4
 |some d =>
  cases q2:oU l with
  |none=>rw[q1,q2] at e4;cases e4
  |some l' =>
   cases q3:oU h with
   |none=>rw[q1,q2,q3] at e4;cases e4
   |some h' =>
    rw[q1,q2,q3] at e4;simp only[Option.bind_some] at e4;refine⟨U,G,hx,U1,r,e1,λx H1 G1 a1 rx=>⟨U1,G1,l,U2,a1.rel,e2,l',q2,λH2 G2 a2=>⟨U2,G2,h,U',a2.rel,e3,h',q3,λH3 G3 a3=>?_⟩⟩⟩;have a23:=a2.trans a3;refine⟨G3,d,v,a3.rel.sub,(rx.wait a23.ext λa z=>.inl (a23.own a z)).read a3.rel q1,e4,λz H4 hm=>?_⟩;obtain⟨G4,a4,v4⟩:=(a1.trans a23).made hm;exact k z H4 G4 a4 v4
def aCg(xo:bM X K P C Z)(ha:Ok3 X K P C a ca):Ok3 X K P C (.Subscript a (.Slice none none (some (.UnaryOp .USub (.Constant (.int 1) k1 p1) p2)) p3) pos) (.rev ca):=by
 have hm:PE X (.UnaryOp .USub (.Constant (.int 1) k1 p1) p2) (tE K P C (.neg (.con (.int 1)))):=(OU xo (FX xo _ _ _)).v;refine kN xo (TE.imp_pe (aCY ha.h hm) λY H Q q=>?_) (λi z=>nomatch z) (λU=>rfl) λ_=>rfl
 obtain⟨U,G,v,U',r,e,k⟩:=q;obtain⟨hx,U1,e1,e⟩:=aK e;obtain⟨e2,rfl⟩:=eX e
 cases q1:hx.get U' with
 |none=>rw[q1] at e2;cases e2
 |some d =>
  rw[q1] at e2
  cases d with
  |tup ds =>
   cases e2;refine⟨U,G,hx,U',r,e1,λx H1 G1 a1 rx=>⟨U',G1,.sh (.int (-1)),U',a1.rel,rfl,λy H2 G2 a2 ry=>⟨ry, ?_⟩⟩⟩;have rr:=(rx.wait a2.ext λa z=>.inl (a2.own a z)).read a2.rel q1;obtain⟨b,vs,rfl,h1,h2⟩:=rr.tup a2.rel.sub;refine⟨b,vs,rfl,.inl ⟨by rw[xo.keq];exact h1,λp hp=>?_⟩⟩;obtain⟨G4,a4,v4⟩:=(a1.trans a2).made (v:=.sh (.tup ds.reverse)) (DU ⟨_,_,p,rfl,hp,h2.rev,rfl,rfl⟩);exact k _ _ G4 a4 v4
  |lst ds =>
   cases e2;refine⟨U,G,hx,U',r,e1,λx H1 G1 a1 rx=>⟨U',G1,.sh (.int (-1)),U',a1.rel,rfl,λy H2 G2 a2 ry=>⟨ry, ?_⟩⟩⟩;have rr:=(rx.wait a2.ext λa z=>.inl (a2.own a z)).read a2.rel q1;obtain⟨b,vs,rfl,h1,h2⟩:=rr.lst a2.rel.sub;refine⟨b,vs,rfl,.inr ⟨by rw[xo.keq];exact h1,λp hp=>?_⟩⟩;obtain⟨G4,a4,v4⟩:=(a1.trans a2).made (v:=.ow (.lst ds.reverse)) (.inr (.inl ⟨_,_,p,rfl,hp,h2.rev,rfl,rfl⟩));exact k _ _ G4 a4 v4
  |_=>cases e2
def iV(h:es.all bC=true)(env:PySem.Env)(pos:Pos):(backTo pos (starEach es env)).any (·.1)=false/\(backTo pos (starEach es env)).all (λx=>!x.1)=true:=by
 induction es with
 |nil=>exact⟨rfl,rfl⟩
 |cons e es ih =>
  rw[Zj,ZB] at h;rw[bS h.1];obtain⟨i1,i2⟩:=ih h.2
  unfold backTo at *
  refine⟨?_, ?_⟩
  ·rw[Zs,List.any_cons,i1];rfl
  ·rw[Zs,Zj,i2];rfl
def ZY(xo:bM X K P C Z)(hf:Z.glob f=.fn g)(ns:(e::es).all bC=true)(ha:PA X (e::es) (pK K P C cs)):Ok3 X K P C (.Call (.Name f p) (e::es) [] pos) (.call g cs):=by
 obtain⟨h1,h2,h3,h4⟩:=CC.glob_ok xo hf (λz=>nomatch z);obtain⟨fa,fd,ps,k0,F,hr,hm,hk,hb⟩:=(xo.fn f g h2).ex;rw[Zj,ZB] at ns;refine kN xo (TE.imp_pe (aAT F hr h1 hm hk hb .nil D2 ha h3 (bS ns.1 _ _) (iV ns.2 _ _).1) λY H Q q=>?_) (λi z=>nomatch z) (λU=>rfl) λ_=>rfl
 obtain⟨U,G,v,U',r,e,k⟩:=q;obtain⟨hs,U1,e1,e⟩:=aK e;refine⟨U,G,hs,U1,r,e1,λxs H1 G1 a1 rx=>?_⟩;obtain⟨as,G2,as',d1,d2,d3,_,d4⟩:=uH a1 rx e;rw[List.append_nil];refine⟨?_,as,G2,v,as',d1,d2,d3,λx H' G' a hv=>?_⟩
 ·have:=d1.len
  rw[List.length_map] at this;omega
 ·obtain⟨a5,v5⟩:=d4 x H' G' a hv;exact k x H' G' a5 v5
def aAm(h:L7 f=some b):bootBuiltins f=some (biV b):=by
 unfold L7 at h
 repeat (split at h;· (rename_i hf;cases h;subst hf;first | exact PySem.boot_len | decide +kernel | rfl))
 cases h
def yR(xo:bM X K P C Z)(hf:Z.glob f=.blt)(hb:L7 f=some b)(ns:(e::es).all bC=true)(ha:PA X (e::es) (pK K P C cs)):Ok3 X K P C (.Call (.Name f p) (e::es) [] pos) (.bif b cs):=by
 obtain⟨h1,h2,h3,h4⟩:=CC.glob_ok xo hf (λz=>nomatch z);have hm:=xo.blt f h2;have hv:=aAm hb;rw[Zj,ZB] at ns
 have hp:PE X (.Call (.Name f p) (e::es) [] pos) (tCB (rBi K b) (pK K P C cs)):=by
  have hc:=aFU xo.keq xo.calm xo.hh xo.rm b
  cases b<;>first
   |exact xY hc h1 hm hv ha h4 h3 (bS ns.1 _ _) (iV ns.2 _ _).1
   |exact BP hc h1 hm hv ha h4 h3 (bS ns.1 _ _) (iV ns.2 _ _).1
 refine kN xo (TE.imp_pe hp λY H Q q=>?_) (λi z=>nomatch z) (λU=>rfl) λ_=>rfl
 obtain⟨U,G,v,U',r,e,k⟩:=q;obtain⟨hs,U1,e1,e⟩:=aK e;obtain⟨e2,rfl⟩:=eX e;refine⟨U,G,hs,U',r,e1,λxs H1 G1 a1 rx=>?_⟩
 cases q1:getAll hs U' with
 |none=>rw[q1] at e2;cases e2
 |some ds =>
  rw[q1] at e2;refine⟨G1,ds,v,a1.rel.sub,rx.getAll a1.rel q1,e2,λz H' hm=>?_⟩;obtain⟨G2,a2,v2⟩:=a1.made hm;exact k z H' G2 a2 v2
end
section
variable{K:Frag}
def KG(h:rK U i=true):∃ds p l,U[i]?=some (.ow (.lst ds) p l):=by
 unfold rK at h;split at h
 ·rename_i d p l e;exact⟨d,p,l,e⟩
 ·cases h
def Rel.writeO(r:Rel K U Y H G)(h:U[i]?=some (.ow d p l))(hx:Y[i]?=some (some (.ref a)))(hr:gL K (aP H a ob) G a d') :
  Aft K U Y H G (U.set i (.ow d' p l)) (aP H a ob) G:=by
 obtain⟨b,h1,g,o⟩:=r.ow i d p l h;rw[hx] at h1;cases h1;have hn:H a≠none:=(r.owned ⟨i,d,p,l,h,hx⟩).1
 have r0:Rel K (U.set i .un) Y (aP H a ob) G:=by
  have ru:=r.unset i;have nu:=r.unset_not h hx;refine⟨ru.len,λb u e=>?_,ru.sh,λj d' p' l' hj=>?_,ru.inj⟩
  ·have:b≠a:=λz=>by subst z;rw[g] at e;cases e
   rw[aM this];exact ru.sub b u e
  ·obtain⟨b,h3,h4,h5⟩:=ru.ow j d' p' l' hj;have hb:b≠a:=λz=>by subst z;exact nu ⟨j,d',p',l',hj,h3⟩
   exact⟨b,h3,h4,h5.mono (Sm.refl _) λ_ z=>by rw[aM hb];exact z⟩
 refine⟨r0.put_ow hx g hr (r.unset_not h hx),⟨Sm.refl _,λb u e nb=>?_,λb e=>?_,λb e g' _=>g'⟩,jU.set (by rw[h];exact⟨rfl,rfl⟩)⟩
 ·have:b≠a:=λz=>by subst z;exact nb ⟨i,d,p,l,h,hx⟩
  rw[aM this];exact e
 ·by_cases hb:b=a
  ·subst hb;rw[bA] at e;cases e
  ·rwa[aM hb] at e
def Rel.write(r:Rel K U Y H G)(h:U[i]?=some (.ow d p l))(hx:Y[i]?=some (some (.ref a)))(hr:aB K G ds vs) :
  Aft K U Y H G (U.set i (.ow (.lst ds) p l)) (aP H a (.lst vs)) G:=r.writeO h hx ⟨vs,bA,hr⟩
def aBW(xo:bM X K P C Z)(hi:Z.slot x=some i)(hl:(apos.endLine==cpos.line)=true)(ns:bC a=true)(ha:Ok3 X K P C a ca) :
  Ok3 X K P C (.Call (.Attribute (.Name x p) ("append":Str) apos) [a] [] cpos) (.app i ca):=by
 have hp:PE X (.Name x p) (xT i):=CC.slot_ok xo hi;have hpa:PA X [a] (yQ (tE K P C ca) GA):=lW ha.v qM (bS ns _ _);have hall:[a].all bC=true:=by rw[Zj,ns];rfl
 refine kN xo (TE.imp_pe (aE7 PySem.F.plainAttrs_list PySem.F.slot_list_append PySem.F.type_list_append BO hp hpa rfl (by
   rw[ZB,ZB];exact⟨⟨(iV hall _ _).2,rfl⟩,rfl⟩) hl (bS ns _ _) rfl) λY H Q q=>?_) (λi z=>nomatch z) (λU=>rfl) λ_=>rfl
 obtain⟨U,G,v,U',r,e,k⟩:=q;replace e:(if rK U i then _ else none)=_:=e;split at e
 ·rename_i ho;obtain⟨d0,p0,l0,h0⟩:=KG ho;obtain⟨b,hb,g0,o0⟩:=r.ow i _ p0 l0 h0;obtain⟨w,U1,e1,e⟩:=aK e;refine⟨.ref b,hb,.inl ⟨rfl, ?_⟩,U,G,w,U1,r,e1,λy H1 G1 a1 ry=>?_⟩
  ·obtain⟨vs,hv,_⟩:=o0;exact⟨vs,bU.of hv⟩
  ·split at e
   ·rename_i ds p1 h1;split at e
    ·rename_i hz;cases e;obtain⟨G2,a2,r2⟩:=a1.share ry;obtain⟨b',hb',g1,vs,hv,hr⟩:=a2.rel.ow i _ _ _ h1;rw[hb] at hb';cases hb'
     have:=hr.len
     refine⟨b,vs,y,rfl,rfl,hv, ?_, ?_⟩
     ·have:=gI hz
      omega
     ·have a3:=a2.rel.write h1 hb (hr.app (aB.cons r2 aB.nil));exact k _ _ _ (a2.trans a3) (by show aC K G2 .non _;simp[aC])
    ·cases e
   ·cases e
 ·cases e
def BA:aP (aP H p a) p b=aP H p b:=by
 funext q
 by_cases h:q=p
 ·subst h;rw[bA,bA]
 ·rw[aM h,aM h,aM h]
def Rel.poke(r:Rel K U Y H G)(g:G a=none)(n:¬aL U Y a):Rel K U Y (aP H a o) G:=by
 refine⟨r.len,λb u e=>?_,r.sh,λj d' p' l' hj=>?_,r.inj⟩
 ·have:b≠a:=λz=>by subst z;rw[g] at e;cases e
  rw[aM this];exact r.sub b u e
 ·obtain⟨b,h3,h4,h5⟩:=r.ow j d' p' l' hj;have hb:b≠a:=λz=>by subst z;exact n ⟨j,d',p',l',hj,h3⟩
  exact⟨b,h3,h4,h5.mono (Sm.refl _) λ_ z=>by rw[aM hb];exact z⟩
theorem Aft.poke(b:Aft K U Y H G U' H' G')(h:H a=none)(g:G' a=none)(n:¬aL U' Y a):Aft K U Y H G U' (aP H' a o) G':=by
 refine⟨b.rel.poke g n,⟨b.ext.gg,λc u e nc=>?_,λc e=>?_,b.ext.gn⟩,b.evo⟩
 ·have:c≠a:=λz=>by subst z;rw[h] at e;cases e
  rw[aM this];exact b.ext.hh c u e nc
 ·by_cases hc:c=a
  ·subst hc;rw[bA] at e;cases e
  ·rw[aM hc] at e;exact b.ext.hx c e
def TN(xo:bM X K P C Z)(hk:Ok3 X K P C ke ck)(hv:Ok3 X K P C ve cv):Ok3 X K P C (.Dict [some ke] [ve] pos) (.dict1 ck cv):=by
 refine kN xo (TE.imp_pe (RA (by have:=xo.hu;omega) hk.v hv.v) λY H Q q=>?_) (λi z=>nomatch z) (λU=>rfl) λ_=>rfl
 obtain⟨U,G,v,U',r,e,k⟩:=q;obtain⟨w,U1,e1,e⟩:=aK e;obtain⟨w2,U2,e2,e3⟩:=aK e;unfold NQ at e3;split at e3
 ·rename_i k0 hs;cases e3;intro p hp sm;have nO:=r.notOwn hp;have gO:=aV.free r.sub hp;refine⟨U,G,w,U1,((Aft.refl r).layH hp).rel,e1,λx H1 G1 a1 rx=>?_⟩;have hH:H1 p=some (.ext (cJ p [] 0)):=a1.ext.hh p _ bA nO;have hG:G1 p=none:=a1.ext.gn p (by rw[bA];simp) gO nO;have hN:¬aL U1 Y p:=λz=>nO (a1.own p z)
  obtain⟨b,rfl,kk⟩:=qW hs rx.readR;refine⟨U1,G1,w2,U',a1.rel,e2,λy H2 G2 a2 ry=>?_⟩;have a0:Aft K U Y H G U' H2 G2:=((Aft.refl r).layH hp).trans (a1.trans a2);have hH2:H2 p=some (.ext (cJ p [] 0)):=a2.ext.hh p _ hH hN;have hG2:G2 p=none:=a2.ext.gn p (by rw[hH];simp) hG hN;have hN2:¬aL U' Y p:=λz=>hN (a2.own p z)
  obtain⟨G3,a3,r3,s3⟩:=a2.shareS ry;have kk3:bR K G3 k0 b:=bR.mono (a2.ext.gg.trans s3) kk;have a4:Aft K U Y H G U' H2 G3:=((Aft.refl r).layH hp).trans (a1.trans a3);have hG3:G3 p=none:=a3.ext.gn p (by rw[hH];simp) hG hN;refine⟨hH2,k0,b,rfl,by rw[xo.keq];exact bR.mono a3.rel.sub kk3,λu ru ep=>?_⟩;refine k _ _ G3 (a4.poke hp hG3 hN2) ⟨p,rfl,hG3,⟨_,[y],⟨_,bA⟩, ?_,aB.cons r3 aB.nil⟩,hN2,hp⟩;exact⟨by simp,by rw[sizeLine_eq];simp,sm,λx hx=>by rw[ze.mp hx];exact kk3,rfl,.cons ru .nil⟩
 ·cases e3
def UH(xo:bM X K P C Z):Ok3 X K P C (.Dict [] [] pos) .dict0:=by
 refine kN xo (TE.imp_pe RS λY H Q q=>?_) (λi z=>nomatch z) (λU=>rfl) λ_=>rfl
 obtain⟨U,G,v,U',r,e,k⟩:=q;cases e;intro p hp sm;obtain⟨a1,v1⟩:=(Aft.refl r).dcs_new (ks:=[]) (ds:=[]) (vs:=[]) (xs:=[]) hp ⟨List.nodup_nil,Nat.zero_le _,sm,(λx hx=>nomatch hx),rfl,.nil⟩ aB.nil;exact k _ _ _ a1 v1
def VD(xo:bM X K P C Z)(hk:∀k c,ks=[some k]->cs=[c]->Ok3 X K P C k c)(hv:∀v c,vs=[v]->es=[c]->Ok3 X K P C v c):Ok3 X K P C (.Dict ks vs pos) (LL ks vs cs es):=by
 unfold LL;split
 ·exact TN xo (hk _ _ rfl rfl) (hv _ _ rfl rfl)
 ·exact aT
def YZ(xo:XOkB q X K P C Z)(h:LY Z t=some ty):PE X t (tC (TK ty))/\bC t=true:=by
 cases t<;>simp only[LY,reduceCtorEq] at h;rename_i x pos;split at h
 ·rename_i hg;obtain⟨h1,h2,h3,h4⟩:=CC.glob_ok xo hg (λz=>nomatch z);have hm:=xo.blt x h2;refine⟨?_,rfl⟩;split at h
  ·rename_i hx;cases h;subst hx;exact BG h1 hm (u:=.type "int") (by decide +kernel) rfl
  ·split at h
   ·rename_i hx;cases h;subst hx;exact BG h1 hm (u:=.type "bool") (by decide +kernel) rfl
   ·split at h
    ·rename_i hx;cases h;subst hx;exact BG h1 hm (u:=.type "tuple") (by decide +kernel) rfl
    ·cases h
 ·cases h
def aDd(xo:XOkB q X K P C Z)(hf:Z.glob ("isinstance":Str)=.blt)(ht:LY Z t=some ty)(ns:bC a=true)(ha:Ok3 X K P C a ca) :
  Ok3 X K P C (.Call (.Name ("isinstance":Str) p) [a,t] [] pos) (.isi ca [ty]):=by
 obtain⟨h1,h2,h3,h4⟩:=CC.glob_ok xo hf (λz=>nomatch z);have hm:=xo.blt _ h2;obtain⟨pt,nt⟩:=YZ xo ht;have hpa:PA X [a,t] (yQ (tH K P C ca) (yQ (tC (TK ty)) GA)):=lW ha.h (lW pt qM (bS nt _ _)) (bS ns _ _);have hall:[t].all bC=true:=by rw[Zj,nt];rfl
 have hp:=xY (p:=p) (pos:=pos) (aBM xo.keq ty) h1 hm (by decide +kernel) hpa h4 h3 (bS ns _ _) (iV hall _ _).1;refine kN xo (TE.imp_pe hp λY H Q q=>?_) (λi z=>nomatch z) (λU=>rfl) λ_=>rfl
 obtain⟨U,G,v,U',r,e,k⟩:=q;obtain⟨hx,U1,e1,e⟩:=aK e;obtain⟨e2,rfl⟩:=eX e;refine⟨U,G,hx,U',r,e1,λx H1 G1 a1 rx=>?_⟩
 cases q1:hx.get U' with
 |none=>rw[q1] at e2;cases e2
 |some d =>
  rw[q1] at e2;simp only[Option.bind_some,zH] at e2
  cases q2:LC ty d with
  |none=>rw[q2] at e2;cases e2
  |some b =>
   rw[q2] at e2;simp only[Option.bind_some,Option.map_some,Bool.or_false,Option.some.injEq] at e2;subst e2;exact⟨G1,d,x,b,a1.rel.sub,rfl,rx.read a1.rel q1,q2,k _ H1 G1 a1 (by show aC K G1 (.bl _) _;simp[aC])⟩
def KP(h:∀lo hi p,b≠.Slice lo hi none p):BE b:=λo i=>by
 cases b<;>first
  |rfl
  | (rename_i lo hi st p;cases st with
    |none=>exact absurd rfl (h lo hi p)
    |some s=>rfl)
end
section
variable{K:Frag}
def NR(xo:bM X K P C Z)(hi:Z.slot x=some i)(pos:Pos):Ok3 X K P C (.Name x pos) (.frz i):=by
 have hp:=CC.slot_ok xo hi (pos:=pos);refine kN xo (TE.imp_pe (JW (K:=K) (P:=P) (C:=C) hp) λY H Q q=>?_) (λi z=>nomatch z) (λU=>rfl) λ_=>rfl
 obtain⟨U,G,v,U',r,e,k⟩:=q;exact⟨U,G,v,U',r,e,k⟩
def RD:Ok3 X K P C e (.mkset c):=WO (λt U=>rfl) λi z=>nomatch z
def aA3(xo:bM X K P C Z)(h1:Z.glob "len"=.blt)(h2:Z.glob "set"=.blt)(ns:bC e=true)(ha:Ok3 X K P C e c) :
  Ok3 X K P C (.Call (.Name "len" p) [.Call (.Name "set" p2) [e] [] pos2] [] pos) (.nset c):=by
 obtain⟨a1,a2,a3,a4⟩:=CC.glob_ok xo h1 (λz=>nomatch z);obtain⟨b1,b2,b3,b4⟩:=CC.glob_ok xo h2 (λz=>nomatch z);have hp:PA X [e] (yQ (tH K P C c) GA):=lW ha.h qM (bS ns _ _);have hset:=BP (O7 xo.calm) b1 (xo.blt _ b2) (by decide +kernel:bootBuiltins "set"=some (.type "set")) hp (pos:=pos2) (p:=p2) b4 b3 (bS ns _ _) rfl;have hlen:=xY QA a1 (xo.blt _ a2) PySem.boot_len (lW hset qM rfl) (pos:=pos) (p:=p) a4 a3 rfl rfl;refine kN xo (TE.imp_pe hlen λY H Q q=>?_) (λi z=>nomatch z) (λU=>rfl) λ_=>rfl
 obtain⟨U,G,v,U',r,e,k⟩:=q;obtain⟨hx,U1,e1,e⟩:=aK e;obtain⟨e3,rfl⟩:=eX e;refine⟨U,G,hx,U',r,e1,λx H1 G1 a1 rx=>?_⟩
 cases q1:hx.get U' with
 |none=>rw[q1] at e3;cases e3
 |some d =>
  rw[q1] at e3;simp only[Option.bind_some] at e3;cases d<;>simp only[y4,reduceCtorEq] at e3;rename_i ds
  cases q2:d7 ds with
  |none=>rw[q2] at e3;cases e3
  |some is =>
   rw[q2] at e3;simp only at e3;split at e3
   ·rename_i hz;cases e3;obtain⟨b,vs,rfl,h3,h4⟩:=(rx.read a1.rel q1).lst a1.rel.sub;have hK:=xo.keq;refine⟨b,vs,ds,is,G1,rfl,by rw[hK];exact h3,by rw[hK];exact h4,q2,hz,λp S hn=>?_⟩;refine⟨p,S,_,rfl,bA, ?_⟩;exact k _ _ G1 (a1.layH hn) (by show aC K G1 (.int _) _;simp[aC])
   ·cases e3
theorem zZ:∀{ns:List Str} {ds:List D} {vs:List V} {d:D},aB K G ds vs->(ns.zip ds).lookup f=some d->f∈ns/\∃v,(ns.zip vs).lookup f=some v/\aC K G d v
 |[],_,_,_,_,h=>by simp at h
 |n::ns,[],_,_,_,h=>by simp at h
 |n::ns,d0::ds,vs,d,r,h=>by
  simp only[aB] at r;obtain⟨v,r',rfl,h1,h2⟩:=r;rw[List.zip_cons_cons,List.lookup_cons] at h ⊢
  cases q:(f==n) with
  |true =>
   rw[q] at h;cases h;exact⟨by rw[Zy q];simp,v,rfl,h1⟩
  |false =>
   rw[q] at h;obtain⟨z1,v',z2,z3⟩:=zZ h2 h;exact⟨Ze _ z1,v',z2,z3⟩
theorem cF.ins{H G:Hp}{c:Str}{ns:List Str}{ds:List D}{x:V}(h:cF K H G (.ins c ns ds) x):aC K G (.ins c ns ds) x:=by
 rcases h with h | ⟨a,rfl,h⟩
 ·exact h
 ·exact h.elim
def aCt(xo:bM X K P C Z):Ok3 X K P C (.Attribute (.Name x p) f pos) (.fld (zK Z x) f):=by
 have ha:=J1 xo x p;refine kN xo (TE.imp_pe (aCe ha.h rfl) λY H Q q=>?_) (λi z=>nomatch z) (λU=>rfl) λ_=>rfl
 obtain⟨U,G,v,U',r,e,k⟩:=q;obtain⟨hx,U1,e1,e⟩:=aK e;obtain⟨e3,rfl⟩:=eX e;refine⟨U,G,hx,U',r,e1,λx H1 G1 a1 rx=>?_⟩
 cases q1:hx.get U' with
 |none=>rw[q1] at e3;cases e3
 |some d =>
  rw[q1] at e3;simp only[Option.bind_some] at e3;have hK:=xo.keq;cases d<;>simp only[SW,reduceCtorEq,Option.map_none] at e3
  case ins c ns ds =>
   cases q2:(ns.zip ds).lookup f with
   |none=>rw[q2] at e3;cases e3
   |some d' =>
    rw[q2] at e3;cases e3;have rr:=(rx.read a1.rel q1).ins;simp only[aC] at rr;obtain⟨a,Ca,dx,vs,rfl,h1,h2,h3,h4,h5⟩:=rr;obtain⟨z1,v',z2,z3⟩:=zZ h3 q2;exact⟨a,Ca,dx,_,v',rfl,a1.rel.sub _ _ h2,by rw[hK];exact h4.cl,by rw[hK];exact h4.no f z1,z2,k v' H1 G1 a1 z3⟩
def ZF(xo:bM X K P C Z)(hf:Z.glob f=.cls ns)(st:(e::es).all bC=true)(ha:PA X (e::es) (F5 K P C cs)):Ok3 X K P C (.Call (.Name f p) (e::es) [] pos) (.make f ns cs):=by
 obtain⟨h1,h2,h3,h4⟩:=CC.glob_ok xo hf (λz=>nomatch z);obtain⟨Ca,fa,fd,ps,hn,hm,M,cf,F,hb⟩:=(xo.cls f ns h2).ex;rw[Zj,ZB] at st;refine kN xo (TE.imp_pe (aAM M F xo.rm h1 hm hb .nil D2 ha h3 (bS st.1 _ _) (iV st.2 _ _).1) λY H Q q=>?_) (λi z=>nomatch z) (λU=>rfl) λ_=>rfl
 obtain⟨U,G,v,U',r,e,k⟩:=q;obtain⟨ds,U1,e1,e⟩:=aK e;split at e
 ·rename_i hl;cases e;refine⟨U,G,ds,_,r,e1,λxs H1 G1 a1 rx x dx nx ndx ne=>?_⟩;have el:xs.length=ns.length:=rx.len.trans hl;rw[List.append_nil];refine⟨x,Ca,dx,xs,rfl,el,bA,cf,rfl, ?_⟩;rw[BA];have nx':(aP H1 dx (.own x)) x=none:=by rw[aM (Ne.symm ne)];exact nx
  have a2:=(a1.layH (o:=.own x) ndx).layG (o:=.ins Ca dx (ns.zip xs)) nx';refine k (.ref x) _ _ a2 ?_;show aC K _ (.ins f ns ds) _;simp only[aC];exact⟨x,Ca,dx,xs,rfl,hn,bA,aB.mono (Sm.laid (aV.free a1.rel.sub nx)) ds rx,cf,el.symm⟩
 ·cases e
theorem pB:∀{ns:List Str} {vs:List O},ns.contains f=false->(ns.zip vs).lookup f=none
 |[],_,_=>by simp
 |n::ns,[],_=>by simp
 |n::ns,v::vs,h=>by(rw[List.contains_cons,Bool.or_eq_false_iff] at h;rw[List.zip_cons_cons,List.lookup_cons,h.1];exact pB h.2)
def JC(st:es.all bC=true)(hln:(apos.endLine==pos.line)=true)(hfw:es.length<29)(env:PySem.Env)(hb:attributeBase o m env (eval o env)=eval o env:=by rfl):eval (.Call (.Attribute o m apos) es [] pos) env=(do
   let ov <- eval o env
   standAt apos.atName
   let (f,first) <- holding [ov] (getMethod ov m (do return (<- importBound o env).getD true))
   callWith pos f first (backTo pos (starEach es env)) (backToKw pos (keywordEach [] env))):=by
 rw[arm_eval_Call]
 have hform:methodCallForm (es.length+([]:List Keyword).length) (backTo pos (starEach es env)) (backToKw pos (keywordEach [] env))=true:=by
  unfold methodCallForm;rw[(iV st env pos).2];simp only[Bool.true_and]
  have:(backToKw pos (keywordEach [] env))=[]:=rfl
  rw[this];simp;omega
 have hpos:methodCallPos true o env apos pos=pure pos:=by unfold methodCallPos;simp[hln]
 unfold methodCall;rw[hform];unfold calleeOf;simp only[if_true,hpos,hb];rfl
def aAh(xo:bM X K P C Z)(hi:Z.slot x=some i)(hm:Z.gl (vU m)=.mth tb)(st:es.all bC=true)(hln:(apos.endLine==pos.line)=true)(hfw:es.length<29)(ha:PA X es (pK K P C cs))(hz:es=[]->cs=[]):Ok3 X K P C (.Call (.Attribute (.Name x p) m apos) es [] pos) (.meth i m tb cs):=by
 have hp:=CC.slot_ok xo hi (pos:=p);refine kN xo (λpins s Y H Q I q=>?_) (λi z=>nomatch z) (λU=>rfl) λ_=>rfl
 obtain⟨U,G,v,U',r,e,k⟩:=q;replace e:(match U[i]? with | some (.sh (.ins c ns ds))=>(match gR c ns m tb with | some f=>(cU P C cs U).bind λhs U1=>fF (P f) (C f) (.val (.sh (.ins c ns ds))::hs) U1 | none=>none) | _=>none)=some (.ok v,U'):=e;split at e
 ·rename_i c ns ds hs;split at e
  ·rename_i f hmf;unfold gR at hmf;split at hmf
   ·cases hmf
   ·rename_i hns;obtain⟨Ca,fa,fd,ps,k0,hn,M,F,hr,hb,hcl⟩:=(xo.mth m tb c f hm hmf).ex;obtain⟨x0,hx0,rx0⟩:=r.sh i _ hs;have rx1:=rx0;simp only[aC] at rx0;obtain⟨a,Cb,dx,vs,rfl,h1,h2,h3,h4,h5⟩:=rx0;rw[hn] at h1;cases h1;obtain⟨hd0,U1,e1,e⟩:=aK e;have hK:=xo.keq;have clX:Cls X.K Ca:=by rw[hK];exact h4.cl
    have main:∀t:TA,(∀Y H Q,pK K P C cs Y H Q->t Y H Q)->KO Ca m (PJ K (P f).length (C f)) [] (λ_ _ _=>False) (xT i) t Y H Q:=λt ht=>by
     refine⟨.ref a,hx0,a,dx,_,rfl,r.sub _ _ h2,pB (by simpa using hns),ht _ _ _ ⟨U,G,hd0,U1,r,e1,λxs H1 G1 a1 rx=>?_⟩⟩;have rx':dZ K H1 G1 (aL U1 Y) (dR H) Y (.val (.sh (.ins c ns ds))::hd0) (.ref a::xs):=⟨.ref a,xs,rfl,aC.mono a1.ext.gg _ rx1,rx,λd b z=>by cases z⟩
     obtain⟨as,G2,as',d1,d2,d3,_,d4⟩:=uH a1 rx' e;dsimp only;rw[List.append_nil];refine⟨?_,as,G2,v,as',d1,d2,d3,λx H' G' a hv=>?_⟩
     ·have:=d1.len
      rw[List.length_map] at this;omega
     ·obtain⟨a5,v5⟩:=d4 x H' G' a hv;exact k x H' G' a5 v5
    cases es with
    |nil =>
     cases hz rfl;refine US hp clX M F hr hb .nil D2 (JC st hln hfw _) pins s Y H Q I (main _ λY' H' Q' z=>?_);obtain⟨U2,G2,hs2,U3,r2,e2,k2⟩:=z;rw[cU] at e2;cases e2;exact k2 [] H' G2 (Aft.refl r2) rfl
    |cons e0 es0 =>
     have st0:=st;rw[Zj,ZB] at st;exact aAY hp clX M F hr hb .nil D2 ha (bS st.1 _ _) (iV st.2 _ _).1 (JC st0 hln hfw _) pins s Y H Q I (main _ λ_ _ _ z=>z)
  ·cases e
 ·cases e
end
structure AftS(K:Frag)(U:Env)(Y:St)(H G:Hp)(U':Env)(Y':St)(H' G':Hp):Prop where
 rel:Rel K U' Y' H' G'
 ext:Ext (aL U Y) H G H' G'
 own:∀a,aL U' Y' a->aL U Y a\/H a=none
 un:∀i:Nat,U'[i]?=some .un->U[i]?=some .un/\Y'[i]?=Y[i]?
 pin:∀(i:Nat) d l,U[i]?=some (.ow d true l)->Y'[i]?=Y[i]?/\∃d',U'[i]?=some (.ow d' true l)
 len:U'.length=U.length
section
variable{K:Frag}
theorem AftS.refl(r:Rel K U Y H G):AftS K U Y H G U Y H G:=⟨r,Ext.refl,λ_ h=>.inl h,λ_ h=>⟨h,rfl⟩,λ_ d _ h=>⟨rfl,d,h⟩,rfl⟩
theorem Aft.s(r:Rel K U Y H G)(a:Aft K U Y H G U' H' G'):AftS K U Y H G U' Y H' G':=by
 refine⟨a.rel,a.ext,λx h=>.inl (a.own x h),λi h=>⟨?_,rfl⟩,λi d l h=>⟨rfl, ?_⟩, ?_⟩
 ·have:=a.evo i
  rw[h] at this
  cases e:U[i]? with
  |none=>rw[e] at this;exact this.elim
  |some s=>rw[e] at this;cases s<;>first | rfl | exact this.elim
 ·have:=a.evo i
  rw[h] at this
  cases e:U'[i]? with
  |none=>rw[e] at this;exact this.elim
  |some s =>
   rw[e] at this
   cases s with
   |ow d' p' l'=>obtain⟨rfl,rfl⟩:=this;exact⟨d',rfl⟩
   |sh d'=>exact absurd (show true=false from this) (by simp)
   |_=>exact this.elim
 ·rw[a.rel.len,r.len]
theorem AftS.trans(a:AftS K U Y H G U1 Y1 H1 G1)(b:AftS K U1 Y1 H1 G1 U2 Y2 H2 G2):AftS K U Y H G U2 Y2 H2 G2:=by
 refine⟨b.rel,a.ext.trans a.own b.ext,λx h=>?_,λi h=>?_,λi d l h=>?_,b.len.trans a.len⟩
 ·rcases b.own x h with z | z
  ·exact a.own x z
  ·exact .inr (a.ext.hx x z)
 ·obtain⟨h1,h2⟩:=b.un i h;obtain⟨h3,h4⟩:=a.un i h1;exact⟨h3,h2.trans h4⟩
 ·obtain⟨h1,d',h2⟩:=a.pin i d l h;obtain⟨h3,h4⟩:=b.pin i d' l h2;exact⟨h3.trans h1,h4⟩
def gK(K:Frag)(U:Env)(Y:St)(H G:Hp)(U':Env)(D:Ends):Fl->Prop
 |.nx=>∀Y' H' G',AftS K U Y H G U' Y' H' G'->D.nx Y' H'
 |.bk=>∀Y' H' G',AftS K U Y H G U' Y' H' G'->D.bk Y' H'
 |.ct=>∀Y' H' G',AftS K U Y H G U' Y' H' G'->D.ct Y' H'
 |.rt v=>∀x Y' H' G',AftS K U Y H G U' Y' H' G'->cR K H' G' (aL U' Y') (λa=>aL U Y a\/H a=none) v x->D.rt x H'
 |.ex _=>False
def gK.pre{D:Ends}(a:AftS K U Y H G U1 Y1 H1 G1)(h:gK K U Y H G U' D fl):gK K U1 Y1 H1 G1 U' D fl:=by
 cases fl with
 |nx=>exact λY' H' G' b=>h Y' H' G' (a.trans b)
 |bk=>exact λY' H' G' b=>h Y' H' G' (a.trans b)
 |ct=>exact λY' H' G' b=>h Y' H' G' (a.trans b)
 |rt v=>exact λx Y' H' G' b hv=>h x Y' H' G' (a.trans b) (hv.new_mono λc z=>by
   rcases z with z | z
   ·exact a.own c z
   ·exact .inr (a.ext.hx c z))
 |ex e=>exact h
end
noncomputable def tS(K:Frag)(P:aW)(C:Calls)(W:Nat)(c:S):TS:=λD Y H=>∃(U:Env) (G:Hp) (fl:Fl) (U':Env),Rel K U Y H G/\ex P C W c U=some (fl,U')/\gK K U Y H G U' D fl
noncomputable def qS(K:Frag)(P:aW)(C:Calls)(W:Nat)(c:List S):TS:=λD Y H=>∃(U:Env) (G:Hp) (fl:Fl) (U':Env),Rel K U Y H G/\exs P C W c U=some (fl,U')/\gK K U Y H G U' D fl
def TS.imp_ps(h:PS X e t)(w:∀D Y H,u D Y H->t D Y H):PS X e u:=λpins s Y H D I q=>h pins s Y H D I (w D Y H q)
def TS.imp_pss(h:gH X e t)(w:∀D Y H,u D Y H->t D Y H):gH X e u:=λpins s Y H D I q=>h pins s Y H D I (w D Y H q)
section
variable{X:Cx}{K:Frag}
def f7{r:aR O}(h:r.flow f=some (fl,U))(n:∀e,fl≠.ex e):∃a U1,r=some (.ok a,U1)/\f a U1=some (fl,U):=by
 unfold aR.flow at h;split at h
 ·cases h
 ·cases h;exact absurd rfl (n _)
 ·exact⟨_,_,rfl,h⟩
def gK.ne{D:Ends}(h:gK K U Y H G U' D fl):∀e,fl≠.ex e:=λe z=>by subst z;exact h
def RU:gH X [] (qS K P C W []):=TS.imp_pss KL λD Y H ⟨U,G,fl,U',r,e,k⟩=>by
 simp only[exs,Option.some.injEq,Prod.mk.injEq] at e;obtain⟨rfl,rfl⟩:=e;exact k Y H G (AftS.refl r)
def OH{st:Stmt}{kD:List Stmt}(h1:PS X st (tS K P C W c))(h2:gH X kD (qS K P C W cs)):gH X (st::kD) (qS K P C W (c::cs)):=by
 refine TS.imp_pss (GU h1 h2) λD Y H ⟨U,G,fl,U',r,e,k⟩=>?_
 rw[exs] at e
 cases q:ex P C W c U with
 |none=>rw[q] at e;cases e
 |some y =>
  obtain⟨fl1,U1⟩:=y;rw[q] at e;refine⟨U,G,fl1,U1,r,q, ?_⟩
  cases fl1 with
  |nx=>exact λY1 H1 G1 a1=>⟨U1,G1,fl,U',a1.rel,e,k.pre a1⟩
  |bk=>cases e;exact k
  |ct=>cases e;exact k
  |rt v=>cases e;exact k
  |ex x=>cases e;exact k
def Rel.storeR(r:Rel K U Y H G)(e:store i v U=some U')(h:cR K H G (aL U Y) new v x) :
  Rel K U' (Y.set i (some x)) H G/\(∀a,aL U' (Y.set i (some x)) a->aL U Y a\/new a)/\(∀j:Nat,U'[j]?=some .un->U[j]?=some .un/\(Y.set i (some x))[j]?=Y[j]?) /\
  (∀(j:Nat) d l,U[j]?=some (.ow d true l)->(Y.set i (some x))[j]?=Y[j]?/\∃d',U'[j]?=some (.ow d' true l))/\U'.length=U.length:=by
 have key:∃sl,i<U.length/\U'=U.set i sl/\(∀d l,U[i]?≠some (.ow d true l))/\((∃d,v=.sh d/\sl=.sh d)\/∃d,v=.ow d/\sl=.ow d false false):=by
  unfold store at e;split at e
  ·cases e
  ·cases e
  ·cases e
  ·rename_i s h1 h2 h3;have hnp:∀d l,U[i]?≠some (.ow d true l):=λd l z=>by rw[h3] at z;cases z;exact h1 _ _ rfl
   have hlt:=(Zc.mp h3).1
   cases v with
   |sh d=>cases e;exact⟨_,hlt,rfl,hnp,.inl ⟨d,rfl,rfl⟩⟩
   |ow d=>cases e;exact⟨_,hlt,rfl,hnp,.inr ⟨d,rfl,rfl⟩⟩
   |od d=>cases e
 obtain⟨sl,hi,rfl,np,hs⟩:=key;have his:i<Y.length:=by rw[<- r.len];exact hi
 have hx:(Y.set i (some x))[i]?=some (some x):=zk his;have ne:∀j:Nat,j≠i->(Y.set i (some x))[j]?=Y[j]?:=λj h=>Zf (λz=>h z.symm)
 have oth:∀(j:Nat) s,(U.set i sl)[j]?=some s->(j=i/\s=sl)\/(j≠i/\U[j]?=some s):=λj s h=>by
  rcases dN h with ⟨h1,h2,_⟩ | h
  ·exact .inl ⟨h1,h2⟩
  ·exact .inr h
 refine⟨⟨by rw[zg,zg];exact r.len,r.sub,λj d h1=>?_,λj d p l h1=>?_,λj k d p l d' p' l' a h1 h2 h3 h4=>?_⟩,λa ⟨j,d,p,l,h1,h2⟩=>?_,λj h1=>?_,λj d l h1=>?_,by rw[zg]⟩
 ·rcases oth j _ h1 with ⟨rfl,z⟩ | ⟨nj,z⟩
  ·rcases hs with ⟨d0,rfl,rfl⟩ | ⟨d0,rfl,rfl⟩
   ·cases z;exact⟨x,hx,h⟩
   ·cases z
  ·rw[ne j nj];exact r.sh j d z
 ·rcases oth j _ h1 with ⟨rfl,z⟩ | ⟨nj,z⟩
  ·rcases hs with ⟨d0,rfl,rfl⟩ | ⟨d0,rfl,rfl⟩
   ·cases z
   ·cases z;obtain⟨a,rfl,g,o,_,_⟩:=h;exact⟨a,hx,g,o⟩
  ·rw[ne j nj];exact r.ow j d p l z
 ·rcases oth j _ h1 with ⟨rfl,z⟩ | ⟨nj,z⟩
  ·rcases oth k _ h2 with ⟨rfl,z'⟩ | ⟨nk,z'⟩
   ·rfl
   ·rcases hs with ⟨d0,rfl,rfl⟩ | ⟨d0,rfl,rfl⟩
    ·cases z
    ·obtain⟨b,rfl,g,o,no,_⟩:=h;rw[hx] at h3;cases h3;rw[ne k nk] at h4;exact absurd ⟨k,_,_,_,z',h4⟩ no
  ·rcases oth k _ h2 with ⟨rfl,z'⟩ | ⟨nk,z'⟩
   ·rcases hs with ⟨d0,rfl,rfl⟩ | ⟨d0,rfl,rfl⟩
    ·cases z'
    ·obtain⟨b,rfl,g,o,no,_⟩:=h;rw[hx] at h4;cases h4;rw[ne j nj] at h3;exact absurd ⟨j,_,_,_,z,h3⟩ no
   ·rw[ne j nj] at h3;rw[ne k nk] at h4;exact r.inj _ _ _ _ _ _ _ _ _ z z' h3 h4
 ·rcases oth j _ h1 with ⟨rfl,z⟩ | ⟨nj,z⟩
  ·rcases hs with ⟨d0,rfl,rfl⟩ | ⟨d0,rfl,rfl⟩
   ·cases z
   ·obtain⟨b,rfl,g,o,no,m⟩:=h;rw[hx] at h2;cases h2;exact .inr m
  ·rw[ne j nj] at h2;exact .inl ⟨j,d,p,l,z,h2⟩
 ·rcases oth j _ h1 with ⟨rfl,z⟩ | ⟨nj,z⟩
  ·rcases hs with ⟨d0,rfl,rfl⟩ | ⟨d0,rfl,rfl⟩<;>cases z
  ·exact⟨z,ne j nj⟩
 ·by_cases hj:j=i
  ·subst hj;exact absurd h1 (np d l)
  ·exact⟨ne j hj,d,by rw[Zf (λz=>hj z.symm)];exact h1⟩
theorem Aft.store(r:Rel K U Y H G)(a:Aft K U Y H G U1 H1 G1)(e:store i v U1=some U')(h:cR K H1 G1 (aL U1 Y) (dR H) v x):AftS K U Y H G U' (Y.set i (some x)) H1 G1:=by
 obtain⟨h1,h2,h3,h4,h5⟩:=a.rel.storeR e h;have s:=Aft.s r a;refine⟨h1,a.ext,λb z=>?_,λj z=>?_,λj d l z=>?_,h5.trans s.len⟩
 ·rcases h2 b z with z | z
  ·exact s.own b z
  ·exact .inr z
 ·obtain⟨z1,z2⟩:=h3 j z;obtain⟨z3,z4⟩:=s.un j z1;exact⟨z3,z2⟩
 ·obtain⟨_,d',z2⟩:=s.pin j d l z;exact h4 j d' l z2
def Rel.store1(r:Rel K U Y H G)(e:store i (.sh d) U=some U')(h:aC K G d x):AftS K U Y H G U' (Y.set i (some x)) H G :=
 Aft.store r (Aft.refl r) e h
noncomputable def gB(K:Frag)(one:Bool)(is:List Nat):TG:=λv Y H Q=>∃(U:Env) (G:Hp) (d:D) (U':Env),Rel K U Y H G/\aC K G d v/\aU one is d U=some U'/\∀Y',AftS K U Y H G U' Y' H G->Q Y' H
noncomputable def PH(K:Frag)(is:List Nat):J8:=λvs Y H Q=>∃(U:Env) (G:Hp) (ds:List D) (U':Env),Rel K U Y H G/\aB K G ds vs/\eQ is ds U=some U'/\∀Y',AftS K U Y H G U' Y' H G->Q Y' H
def aEu(h:PG X tg (v7 i)):PG X tg (gB K true [i]):=λpins s Y H v u Q I rv ⟨U,G,d,U',r,hd,e,k⟩ =>
 h pins s Y H v u Q I rv (k _ (r.store1 (by simpa only[aU] using e) hd))
def UU:zG X [] (PH K []):=λpins s Y H vs us Q I rv ⟨U,G,ds,U',r,hd,e,k⟩=>by
 cases ds with
 |nil =>
  simp only[eQ,Option.some.injEq] at e;subst e;simp only[aB] at hd;subst hd;exact XT pins s Y H [] us Q I rv ⟨rfl,k Y (AftS.refl r)⟩
 |cons d ds=>simp[eQ] at e
def NN(h:PG X e (v7 i))(t:zG X es (PH K is))(hs:(assignEach (e::es) X.env).map (·.2)=assign e X.env::(assignEach es X.env).map (·.2)):zG X (e::es) (PH K (i::is)) :=
 λpins s Y H vs us Q I rv ⟨U,G,ds,U',r,hd,e,k⟩=>by
  cases ds with
  |nil=>simp[eQ] at e
  |cons d ds =>
   simp only[eQ] at e
   cases q:store i (.sh d) U with
   |none=>rw[q] at e;cases e
   |some U1 =>
    rw[q] at e;simp only[aB] at hd;obtain⟨v,r',rfl,h1,h2⟩:=hd;have a1:=r.store1 q h1;exact SK h t hs pins s Y H (v::r') us Q I rv ⟨v,r',rfl,U1,G,ds,U',a1.rel,h2,e,λY' a2=>k Y' (a1.trans a2)⟩
theorem yX:∀{is:List Nat} {ds:List D} {U U':Env},eQ is ds U=some U'->ds.length=is.length
 |[],[],_,_,_=>rfl
 |[],_::_,_,_,e=>by simp[eQ] at e
 |_::_,[],_,_,e=>by simp[eQ] at e
 |i::is,d::ds,U,U',e=>by
  simp only[eQ] at e
  cases q:store i (.sh d) U with
  |none=>rw[q] at e;cases e
  |some U1=>rw[q] at e;simp[yX e]
def J5(xo:bM X K P C Z)(t:zG X es (PH K is))(hn:(assignEach es X.env).length=is.length)(hst:(assignEach es X.env).findIdx? (·.1)=none):PG X (.Tuple es k0 pos) (gB K false is) :=
 λpins s Y H v u Q I rv ⟨U,G,d,U',r,hd,e,k⟩=>by
  cases d with
  |tup ds =>
   simp only[aU] at e;simp only[aC] at hd;obtain⟨a,vs,rfl,h1,h2⟩:=hd;refine aCA xo.calm t hn hst pins s Y H (.ref a) u Q I rv ⟨a,vs,rfl, ?_, ?_,U,G,ds,U',r,h2,e,k⟩
   ·rw[xo.keq];exact dJ r.sub h1
   ·rw[h2.len];exact yX e
  |_=>simp only[aU,reduceCtorEq] at e
end
mutual
noncomputable def aBQ(x:Str):Stmt->Bool
 |.For _ it body _ _=>(yC it==some x)||qD x body
 |.If _ a b _=>qD x a||qD x b
 |_=>false
noncomputable def qD(x:Str):List Stmt->Bool
 |[]=>false
 |s::r=>aBQ x s||qD x r
end
noncomputable def NP(Z:CC)(it:Expr)(body:List Stmt)(cs:List E):List E :=
 match yC it with
 |some x=>(match Z.slot x with | some i=>if qD x body then [.frz i] else cs | none=>cs)
 |none=>cs
noncomputable def U8(Z:CC):Expr->S
 |.Call (.Name x _) args [] _=>if args.all bC&&(decide (args≠[])&&decide (args.length<=100)) then(match Z.glob x with | .exc=>.rse x (dA Z args) | .exi=>.rsi x (dA Z args) | _=>.bad) else .bad
 |_=>.bad
noncomputable def Q7:List ExceptHandler->Option (Str×Str×List Stmt)
 |[.ExceptHandler (some c) (some n) body _]=>(yC c).map λx=>(x,n,body)
 |_=>none
noncomputable def WX(cb:List S)(hs:List ExceptHandler)(o f:List Stmt):S:=.bad
noncomputable def aHq(Z:CC)(cb:List S)(hs:List ExceptHandler)(o f:List Stmt):S:=WX cb hs o f
noncomputable def aHT(e:Expr)(c:E):S:=.ret c
noncomputable def aGp(Z:CC)(s:Stmt)(r:List Stmt):Option (Nat×Nat×E×E):=none
noncomputable def aHi(o:Option (Nat×Nat×E×E))(c:S)(cs:List S):List S :=
 match o with
 |none=>c::cs
 |some (i,j,ce,cc)=>.scr i j ce cc::cs.drop 3
mutual
noncomputable def cS(Z:CC):Stmt->S
 |.Pass _=>.pass
 |.Break _=>.brk
 |.Continue _=>.cnt
 |.Return (some e) _=>aHT e (cE Z e)
 |.Return none _=>.retN
 |.Expr e _=>if dU e then .expr (cE Z e) else .bad
 |.If c a b _=>.ifs (cE Z c) (oI Z a) (oI Z b)
 |.While c body [] _=>.whl (cE Z c) (oI Z body)
 |.For tg it body [] _=>match mW Z tg,r8 Z it with
  |some (one,is),some (k,its)=>if pI k one then .for is one k (NP Z it body (dA Z its)) (oI Z body) else .bad
  |_,_=>.bad
 |.Assign [.Name x _] e _=>match Z.slotL x with
  |some i=>if dU e||KS e then .asg i (cE Z e) else .bad
  |none=>.bad
 |.Assign [.Tuple ts _ _] e _=>match jH Z ts with
  |some is=>if dU e&&yE e then .asgT is (cE Z e) else .bad
  |none=>.bad
 |.Assign [.Subscript (.Name x _) k _] e _=>match Z.slot x with
  |some i=>if dU e&&F6 k then .set i (cE Z k) (cE Z e) else .bad
  |none=>.bad
 |.AugAssign (.Name x _) .Add e _=>(match Z.slotL x with
  |some i=>if dU e then .bad else .bad
  |none=>.bad)
 |.Raise (some e) none _=>U8 Z e
 |.Try body hs o f _=>aHq Z (oI Z body) hs o f
 |_=>.bad
noncomputable def oI(Z:CC):List Stmt->List S
 |[]=>[]
 |s::r=>aHi (aGp Z s r) (cS Z s) (oI Z r)
end
section
variable{K:Frag}
def E2(h:dU e=true)(t:Option Expr)(line:Nat)(env:PySem.Env):swapsWith e t line env=pure false:=by
 cases e<;>first | rfl | cases h
def oN(h:dU e=true)(t:Expr)(line:Nat)(env:PySem.Env):swapsWithSole [t] e line env=pure false:=E2 h _ _ _
def AV{st:Stmt}(h:∀U,ex P C W c U=none):PS X st (tS K P C W c):=λpins s Y H D I ⟨U,G,fl,U',r,e,k⟩=>by rw[h] at e;cases e
def bT{st:Stmt}:PS X st (tS K P C W .bad):=AV λU=>rfl
def UX:PS X (.Pass pos) (tS K P C W .pass):=TS.imp_ps ZJ λD Y H ⟨U,G,fl,U',r,e,k⟩=>by
 cases e;exact k Y H G (AftS.refl r)
def ZV:PS X (.Break pos) (tS K P C W .brk):=TS.imp_ps UE λD Y H ⟨U,G,fl,U',r,e,k⟩=>by
 cases e;exact k Y H G (AftS.refl r)
def ZZ:PS X (.Continue pos) (tS K P C W .cnt):=TS.imp_ps IB λD Y H ⟨U,G,fl,U',r,e,k⟩=>by
 cases e;exact k Y H G (AftS.refl r)
def TU(h:Ok3 X K P C e c)(n:dU e=true):PS X (.Expr e pos) (tS K P C W (.expr c)):=by
 refine TS.imp_ps (X9 h.v (E2 n _ _ _)) λD Y H ⟨U,G,fl,U',r,e,k⟩=>?_
 obtain⟨v,U1,e1,e2⟩:=f7 e k.ne;cases e2;exact⟨U,G,v,_,r,e1,λx H' G' a hv=>k Y H' G' (Aft.s r a)⟩
def R6:PS X (.Return none pos) (tS K P C W .retN):=TS.imp_ps YT λD Y H ⟨U,G,fl,U',r,e,k⟩=>by
 cases e;exact k .non Y H G (AftS.refl r) (by show aC K G .non _;simp[aC])
def Rel.give(r:Rel K U Y H G)(h:U[i]?=some (.ow d false l))(hx:Y[i]?=some (some (.ref a))) :
  AftS K U Y H G (U.set i .mv) Y H G/\cR K H G (aL (U.set i .mv) Y) (λa=>aL U Y a\/H a=none) (.ow d) (.ref a):=by
 have key:∀(j:Nat) (sl:Sl),(U.set i .mv)[j]?=some sl->(j=i/\sl=.mv)\/(j≠i/\U[j]?=some sl):=λj sl z=>by
  rcases dN z with ⟨e,z,_⟩ | z
  ·exact .inl ⟨e,z⟩
  ·exact .inr z
 obtain⟨b,h1,g,o⟩:=r.ow i d false l h;rw[hx] at h1;cases h1
 have own':∀c,aL (U.set i .mv) Y c->aL U Y c/\c≠a:=λc ⟨j,d',p',l',z,w⟩=>by
  rcases key j _ z with ⟨_,q⟩ | ⟨nj,q⟩
  ·cases q
  ·refine⟨⟨j,d',p',l',q,w⟩,λz=>?_⟩;subst z;exact nj (r.inj _ _ _ _ _ _ _ _ _ q h w hx)
 refine⟨⟨⟨by rw[zg];exact r.len,r.sub,λj d' z=>?_,λj d' p' l' z=>?_,λj k d1 p1 l1 d2 p2 l2 c z1 z2 z3 z4=>?_⟩,Ext.refl,λc z=>.inl (own' c z).1,λj z=>?_,λj d' l' z=>⟨rfl,d', ?_⟩,by rw[zg]⟩,a,rfl,g,o,λz=>(own' a z).2 rfl,.inl ⟨i,d,false,l,h,hx⟩⟩
 ·rcases key j _ z with ⟨_,q⟩ | ⟨nj,q⟩
  ·cases q
  ·exact r.sh j d' q
 ·rcases key j _ z with ⟨_,q⟩ | ⟨nj,q⟩
  ·cases q
  ·exact r.ow j d' p' l' q
 ·rcases key j _ z1 with ⟨_,q⟩ | ⟨nj,q⟩
  ·cases q
  ·rcases key k _ z2 with ⟨_,q'⟩ | ⟨nk,q'⟩
   ·cases q'
   ·exact r.inj _ _ _ _ _ _ _ _ _ q q' z3 z4
 ·rcases key j _ z with ⟨_,q⟩ | ⟨nj,q⟩
  ·cases q
  ·exact⟨q,rfl⟩
 ·have nj:j≠i:=λw=>by subst w;rw[h] at z;cases z
  rw[Zf (λw=>nj w.symm)];exact z
def aAW(h:Ok3 X K P C e c):PS X (.Return (some e) pos) (tS K P C W (.ret c)):=by
 by_cases hv:∃i,c=.var i
 ·obtain⟨i,rfl⟩:=hv;refine TS.imp_ps (QS h.h) λD Y H ⟨U,G,fl,U',r,e,k⟩=>?_
  replace e:(match U[i]? with | some (.ow d false _)=>some (.rt (.ow d),U.set i .mv) | some (.sh d)=>some (.rt (.sh d),U) | _=>none)=some (fl,U'):=e;split at e
  ·rename_i d l hd;cases e;obtain⟨a,h1,g,o⟩:=r.ow i d false l hd;refine⟨U,G,.slot i,U,r,by simp[hd,hd,Sl.get,CI.hd],λx H' G' a1 hx=>?_⟩;obtain⟨a',h1',g',o'⟩:=a1.rel.ow i d false l hd;have hx:Y[i]?=some (some x):=hx;rw[hx] at h1';cases h1';obtain⟨s1,v1⟩:=a1.rel.give hd hx;exact(k.pre (Aft.s r a1)) _ Y H' G' s1 v1
  ·rename_i d hd;cases e;obtain⟨v,h1,h2⟩:=r.sh i d hd;refine⟨U,G,.slot i,U,r,by simp[hd,Sl.get,CI.hd],λx H' G' a1 hx=>?_⟩;obtain⟨v',h1',h2'⟩:=a1.rel.sh i d hd;have hx:Y[i]?=some (some x):=hx;rw[hx] at h1';cases h1';exact k x Y H' G' (Aft.s r a1) h2'
  ·cases e
 ·refine TS.imp_ps (QS h.v) λD Y H ⟨U,G,fl,U',r,e,k⟩=>?_
  have e':(ev P C false c U).flow (λv U1=>some (.rt v,U1))=some (fl,U'):=by
   cases c<;>first | exact absurd ⟨_,rfl⟩ hv | exact e
  obtain⟨v,U1,e1,e2⟩:=f7 e' k.ne;cases e2;exact⟨U,G,v,_,r,e1,λx H' G' a hv=>k x Y H' G' (Aft.s r a) (hv.new_mono λa z=>.inr z)⟩
def aDx(hc:Ok3 X K P C c cc)(ha:gH X a (qS K P C W ca))(hb:gH X b (qS K P C W cb)):PS X (.If c a b pos) (tS K P C W (.ifs cc ca cb)):=by
 refine TS.imp_ps (aGr hc.t ha hb) λD Y H ⟨U,G,fl,U',r,e,k⟩=>?_
 obtain⟨v,U1,e1,e2⟩:=f7 e k.ne;split at e2
 ·refine⟨U,G,true,U1,r,e1,λH1 G1 a1=>?_⟩;refine uK ?_;exact⟨U1,G1,fl,U',a1.rel,e2,k.pre (Aft.s r a1)⟩
 ·refine⟨U,G,false,U1,r,e1,λH1 G1 a1=>?_⟩;refine vI ?_;exact⟨U1,G1,fl,U',a1.rel,e2,k.pre (Aft.s r a1)⟩
 ·cases e2
def xU(xo:XOkB qq X K P C Z)(hfn:∀x,Z.isLoc x=true->X.fn x=true\/X.env.scope.names.lookup x=some .local)(h:Z.slotL x=some i):PG X (.Name x pos) (v7 i):=by
 unfold CC.slotL at h;split at h
 ·rename_i hl
  have hN:X.N[i]?=some x:=by
   unfold CC.slot at h;split at h
   ·cases h
   ·split at h
    ·rw[xo.neq];exact o3 h
    ·cases h
  refine IW (by rw[xo.neq];exact xo.nd) hN ?_ (hfn x hl);unfold L2.CS;rw[xo.nm];unfold CC.isLoc at hl;rw[Bool.or_eq_true,ZB] at hl;rcases hl with hl | hl
  ·exact .inl (Zy hl)
  ·exact .inr (Zy hl.2)
 ·cases h
def XX(xo:XOkB qq X K P C Z)(hfn:∀x,Z.isLoc x=true->X.fn x=true\/X.env.scope.names.lookup x=some .local)(hi:Z.slotL x=some i)(h:Ok3 X K P C e c)(n:dU e=true):PS X (.Assign [.Name x p] e pos) (tS K P C W (.asg i c)):=by
 refine TS.imp_ps (yI h.v (xU xo hfn hi) (oN n _ _ _)) λD Y H ⟨U,G,fl,U',r,e,k⟩=>?_
 obtain⟨v,U1,e1,e2⟩:=f7 e k.ne;unfold kW at e2
 cases q:store i v U1 with
 |none=>rw[q] at e2;cases e2
 |some U2 =>
  rw[q] at e2;cases e2;exact⟨U,G,v,U1,r,e1,λx H' G' a hv=>k _ H' G' (Aft.store r a q hv)⟩
theorem rT(xo:bM X K P C Z)(hfn:∀x,Z.isLoc x=true->X.fn x=true\/X.env.scope.names.lookup x=some .local):∀{ts:List Expr} {is:List Nat},jH Z ts=some is->zG X ts (PH K is)/\(assignEach ts X.env).length=is.length/\(assignEach ts X.env).findIdx? (·.1)=none/\ts.length=is.length
 |[],is,h=>by cases h;exact⟨UU,rfl,rfl,rfl⟩
 |e::es,is,h=>by
  simp only[jH] at h
  cases q:F0 Z e with
  |none=>rw[q] at h;cases h
  |some i =>
   rw[q] at h;simp only[Option.bind_some] at h
   cases q2:jH Z es with
   |none=>rw[q2] at h;cases h
   |some is' =>
    rw[q2] at h;cases h;obtain⟨h1,h2,h3,h4⟩:=rT xo hfn q2;cases e<;>simp only[F0,reduceCtorEq] at q;refine⟨NN (xU xo hfn q) h1 rfl, ?_, ?_,by simp[h4]⟩
    ·show(assignEach es X.env).length+1=is'.length+1;rw[h2]
    ·show((false,_)::assignEach es X.env).findIdx? (·.1)=none;rw[List.findIdx?_cons,h3];rfl
def FT(h:yE e=true)(env:PySem.Env):swappedStores [.Tuple ts k0 p] e env=pure none:=by
 cases e<;>first | rfl | cases h
def VC(xo:bM X K P C Z)(hfn:∀x,Z.isLoc x=true->X.fn x=true\/X.env.scope.names.lookup x=some .local)(hi:jH Z ts=some is)(h:Ok3 X K P C e c)(n:dU e=true)(n2:yE e=true):PS X (.Assign [.Tuple ts k0 p] e pos) (tS K P C W (.asgT is c)):=by
 obtain⟨h1,h2,h3,h4⟩:=rT xo hfn hi;refine TS.imp_ps (yI h.v (J5 xo h1 h2 h3) (oN n _ _ _) (FT n2 _)) λD Y H ⟨U,G,fl,U',r,e,k⟩=>?_
 obtain⟨v,U1,e1,e2⟩:=f7 e k.ne;unfold kW at e2
 cases q:aU false is v.d U1 with
 |none=>rw[q] at e2;cases e2
 |some U2 =>
  rw[q] at e2;cases e2;refine⟨U,G,v,U1,r,e1,λx H' G' a hv=>?_⟩;obtain⟨G2,a2,r2⟩:=a.share hv;exact⟨U1,G2,v.d,_,a2.rel,r2,q,λY' b=>k Y' H' G2 ((Aft.s r a2).trans b)⟩
def aAt(h:AH U i=true):∃ks ds p l,U[i]?=some (.ow (.dcs ks ds) p l):=by
 unfold AH at h;split at h
 ·rename_i d e p l q;exact⟨d,e,p,l,q⟩
 ·cases h
noncomputable def aGu(K:Frag):MH:=λo i v H Q=>∃a xs k b,o=.ref a/\i=.ref b/\DS K H a xs/\bR K H k b/\xs.length<sizeLine/\∀u,a7 v u->((storedH xs k b u).map (·.1)).Nodup->∀ep,Q (aP H a (.ext (cJ a (storedH xs k b u) ep)))
noncomputable def aFI:MH:=λ_ _ _ _ _=>False
def T6(hu:X.A.units+11<cLine):T1 X (λo i v H Q=>V4 o i v H Q\/aFI o i v H Q\/aGu X.K o i v H Q):=by
 intro pins s Y H o i v ov iv u Q I ro ri rv h;rcases h with h | h | ⟨a,xs,k,b,rfl,rfl,d,kk,hl,q⟩
 ·exact UY pins s Y H o i v ov iv u Q I ro ri rv h
 ·exact h.elim
 ·cases ro;cases ri;exact M9 hu I d kk hl λep s' I' nd=>⟨_,I',q _ rv nd ep⟩
def ZG(xo:bM X K P C Z)(hi:Z.slot x=some i)(h:Ok3 X K P C e c)(hj:Ok3 X K P C j cj)(n:dU e=true)
  (ha:∀v,assign (.Subscript (.Name x p) j p2) X.env v=(do
   let ov <- holding [v] (eval (.Name x p) X.env)
   let iv <- holding [v,ov] (eval j X.env)
   standAt p2
   holding [v,ov,iv] (setItem ov iv v)
   release [v,ov,iv] [])):PS X (.Assign [.Subscript (.Name x p) j p2] e pos) (tS K P C W (.set i cj c)):=by
 have hp:PE X (.Name x p) (xT i):=CC.slot_ok xo hi;refine TS.imp_ps (yI h.v (aDN hp hj.v (xo.keq ▸ T6 (by have:=xo.hu;omega)) ha) (oN n _ _ _)) λD Y H ⟨U,G,fl,U',r,e,k⟩=>?_
 obtain⟨v,U1,e1,e2⟩:=f7 e k.ne;split at e2
 ·rename_i ho;obtain⟨w,U2,e3,e4⟩:=f7 e2 k.ne;split at e4
  ·rename_i ds p1 nn hs hw;unfold kW at e4
   cases q:mX ds.length nn with
   |none=>rw[q] at e4;cases e4
   |some m =>
    rw[q] at e4;cases e4;refine⟨U,G,v,U1,r,e1,λy H1 G1 a1 hv=>?_⟩;obtain⟨d0,p0,l0,h0⟩:=KG ho;obtain⟨b,hb,g0,o0⟩:=a1.rel.ow i _ p0 l0 h0;refine⟨.ref b,hb,U1,G1,w,U2,a1.rel,e3,λz H2 G2 a2 hz=>?_⟩;have hv2:=hv.wait a2.ext λa z=>.inl (a2.own a z)
    obtain⟨G3,a3,r3⟩:=(a1.trans a2).share hv2;obtain⟨b',hb',g1,vs,hvs,hr⟩:=a3.rel.ow i _ _ _ hs;rw[hb] at hb';cases hb';have hzi:=hz.readR;rw[hw] at hzi;cases hzi.int;have a4:=a3.rel.write hs hb (hr.set r3 m);exact .inl ⟨b,vs,nn,m,rfl,rfl,hvs,by rw[hr.len];exact q,k Y _ _ (Aft.s r (a3.trans a4))⟩
  ·cases e4
 ·split at e2
  ·rename_i ho;obtain⟨w,U2,e3,e4⟩:=f7 e2 k.ne;unfold AS at e4;split at e4
   ·rename_i ks ds p1 k0 hs hk;split at e4
    ·rename_i hz;cases e4;refine⟨U,G,_,U1,r,e1,λy H1 G1 a1 hv=>?_⟩;obtain⟨d0,c0,p0,l0,h0⟩:=aAt ho;obtain⟨b,hb,g0,o0⟩:=a1.rel.ow i _ p0 l0 h0;refine⟨.ref b,hb,U1,G1,w,U2,a1.rel,e3,λz H2 G2 a2 hz2=>?_⟩;have hv2:=hv.wait a2.ext λa z=>.inl (a2.own a z)
     obtain⟨G3,a3,r3,s3⟩:=(a1.trans a2).shareS hv2;obtain⟨b0,rfl,kk⟩:=qW hk hz2.readR;replace kk:=bR.mono (Sm.of s3) kk;obtain⟨b',hb',g1,xs,vs,hx,⟨nd,hl,sm,hks,pr⟩,hr⟩:=a3.rel.ow i _ _ _ hs;rw[hb] at hb';cases hb'
     have hsm:xs.length<sizeLine:=by(have h1:=gI hz;have h2:=(List.length_map _).symm.trans (congrArg List.length pr.1);omega)
     refine .inr (.inr ⟨b,xs,k0,b0,rfl,rfl,⟨hx,nd,hl,sm,λx hx=>bR.mono a3.rel.sub (hks x hx)⟩,bR.mono a3.rel.sub kk,hsm,λu ru nd2 ep=>?_⟩);obtain⟨g2,ws,g3,g4⟩:=aDg (k:=k0) (b:=b0) ⟨pr.1,vs,pr.2,hr⟩ ru r3;have a4:=a3.rel.writeO (ob:=.ext (cJ b (storedH xs k0 b0 u) ep)) (d':=.dcs (l7 ks k0) (nJ ks ds k0 v.d)) hs hb ⟨_,ws,⟨_,bA⟩,⟨nd2,Zr HV hsm,sm,GI hks kk,g2,g3⟩,g4⟩;exact k Y _ _ (Aft.s r (a3.trans a4))
    ·cases e4
   ·cases e4
  ·cases e2
def aCp(po:PassesOwn (model X.prog X.w) X.A X.env X.xe)(hc:Ok3 X K P C c cc)(hb:gH X body (qS K P C W cb)):PS X (.While c body [] pos) (tS K P C W (.whl cc cb)):=by
 refine TS.imp_ps (VN po hc.t hb) λD Y H ⟨U,G,fl,U',r,e,k⟩=>?_
 refine⟨λm Y1 H1=>∃U1 G1,AftS K U Y H G U1 Y1 H1 G1/\lF (ev P C true cc) (exs P C W cb) m U1=some (fl,U'),⟨W,U,G,AftS.refl r,e⟩,λm Y1 H1 ⟨U1,G1,a1,e1⟩=>?_⟩
 cases m with
 |zero=>simp[lF] at e1
 |succ m =>
  simp only[lF] at e1;obtain⟨v,U2,e2,e3⟩:=f7 e1 k.ne;split at e3
  ·refine⟨U1,G1,true,U2,a1.rel,e2,λH2 G2 a2=>?_⟩;refine uK ?_;have a12:=a1.trans (Aft.s a1.rel a2);refine⟨λY3 H3=>∃U3 G3,AftS K U Y H G U3 Y3 H3 G3/\lF (ev P C true cc) (exs P C W cb) m U3=some (fl,U'),λY3 H3 ⟨U3,G3,a3,e4⟩=>⟨m,Nat.lt_succ_self m,U3,G3,a3,e4⟩, ?_⟩
   cases q:exs P C W cb U2 with
   |none=>rw[q] at e3;cases e3
   |some y =>
    obtain⟨fl1,U3⟩:=y;rw[q] at e3;refine⟨U2,G2,fl1,U3,a2.rel,q, ?_⟩
    cases fl1 with
    |nx=>exact λY3 H3 G3 a3=>⟨U3,G3,a12.trans a3,e3⟩
    |ct=>exact λY3 H3 G3 a3=>⟨U3,G3,a12.trans a3,e3⟩
    |bk=>cases e3;exact λY3 H3 G3 a3=>k Y3 H3 G3 (a12.trans a3)
    |rt v=>cases e3;exact k.pre a12
    |ex x=>cases e3;exact k
  ·refine⟨U1,G1,false,U2,a1.rel,e2,λH2 G2 a2=>?_⟩;refine vI ?_;cases e3;exact k Y1 H2 G2 (a1.trans (Aft.s a1.rel a2))
  ·cases e3
end
section
variable{X:Cx}{K:Frag}{P:aW}{C:Calls}{W:Nat}{Z:CC}
def l6(r:Rel K U Y H G):Rel K (aQ o U) Y H G/\∀a,aL (aQ o U) Y a->aL U Y a:=by
 cases o with
 |none=>exact⟨r,λ_ z=>z⟩
 |some i=>exact⟨r.unset i,λ_ z=>z.unset⟩
def jV(r:Rel K U1 Y H1 G1)(ho:∀i,o=some i->∃d p l,U1[i]?=some (.ow d p l))(e:fB o U1 Uf=some U')(a:AftS K (aQ o U1) Y H1 G1 Uf Yf Hf Gf) :
  AftS K U1 Y H1 G1 U' Yf Hf Gf/\∀c,aL U' Yf c->aL Uf Yf c\/(aL U1 Y c/\¬aL (aQ o U1) Y c):=by
 cases o with
 |none =>
  simp only[fB,Option.some.injEq] at e;subst e;exact⟨a,λ_ z=>.inl z⟩
 |some i =>
  obtain⟨d,p,l,hi⟩:=ho i rfl;obtain⟨b,hb,g,ob⟩:=r.ow i d p l hi;have hob:aL U1 Y b:=⟨i,d,p,l,hi,hb⟩
  have nob:¬aL (U1.set i .un) Y b:=r.unset_not hi hb;have hne:H1 b≠none:=(r.owned hob).1;simp only[fB] at e;split at e
  ·rename_i sl hf hs;rw[hi] at hs;cases hs;cases e;obtain⟨hu1,hu2⟩:=a.un i hf;have hx:Yf[i]?=some (some (.ref b)):=hu2.trans hb;have gb:Gf b=none:=a.ext.gn b hne g nob;have of:gL K Hf Gf b d:=ob.mono a.ext.gg λo' h'=>a.ext.hh b o' h' nob
   have nf:¬aL Uf Yf b:=λz=>by
    rcases a.own b z with z | z
    ·exact nob z
    ·exact hne z
   have rf:Rel K (Uf.set i (.ow d p l)) Yf Hf Gf:=(a.rel.unset i).put_ow hx gb of λz=>nf z.unset
   have own':∀c,aL (Uf.set i (.ow d p l)) Yf c->c=b\/aL Uf Yf c:=λc z=>by
    rcases z.put_ow hx with z | z
    ·exact .inl z
    ·exact .inr z.unset
   refine⟨⟨rf,a.ext.weaken λc z=>z.unset,λc z=>?_,λj z=>?_,λj d' l' z=>?_,by rw[zg,a.len];exact zg⟩,λc z=>?_⟩
   ·rcases own' c z with rfl | z
    ·exact .inl hob
    ·rcases a.own c z with z | z
     ·exact .inl z.unset
     ·exact .inr z
   ·rcases dN z with ⟨_,w,_⟩ | ⟨nj,w⟩
    ·cases w
    ·obtain⟨w1,w2⟩:=a.un j w;have w1':(U1.set i .un)[j]?=some .un:=w1;rw[Zf (λq=>nj q.symm)] at w1';exact⟨w1',w2⟩
   ·by_cases hj:j=i
    ·subst hj;rw[hi] at z;cases z;refine⟨hu2,d, ?_⟩;rw[zk (Zc.mp hf).1]
    ·have z':(aQ (some i) U1)[j]?=some (.ow d' true l'):=by
      show(U1.set i .un)[j]?=_;rw[Zf (λq=>hj q.symm)];exact z
     obtain⟨w1,d2,w2⟩:=a.pin j d' l' z';exact⟨w1,d2,by rw[Zf (λq=>hj q.symm)];exact w2⟩
   ·rcases own' c z with rfl | z
    ·exact .inr ⟨hob,nob⟩
    ·exact .inl z
  ·cases e
def gK.restore{D:Ends}(r:Rel K U1 Y H1 G1)(ho:∀i,o=some i->∃d p l,U1[i]?=some (.ow d p l))(e:fB o U1 Uf=some U')(k:gK K U1 Y H1 G1 U' D fl) :
  gK K (aQ o U1) Y H1 G1 Uf D fl:=by
 cases fl with
 |nx=>exact λY' H' G' b=>k Y' H' G' (jV r ho e b).1
 |bk=>exact λY' H' G' b=>k Y' H' G' (jV r ho e b).1
 |ct=>exact λY' H' G' b=>k Y' H' G' (jV r ho e b).1
 |rt v =>
  refine λx Y' H' G' b hv=>?_
  obtain⟨b1,b2⟩:=jV r ho e b;refine k x Y' H' G' b1 ?_
  cases v with
  |sh d=>exact hv
  |ow d =>
   obtain⟨c,rfl,g,oo,n,m⟩:=hv;refine⟨c,rfl,g,oo,λz=>?_, ?_⟩
   ·rcases b2 c z with z | ⟨z1,z2⟩
    ·exact n z
    ·rcases m with m | m
     ·exact z2 m
     ·exact(r.owned z1).1 m
   ·rcases m with m | m
    ·exact .inl ((l6 r).2 c m)
    ·exact .inr m
  |od d =>
   obtain⟨c,rfl,g,oo,n,m,vs,hvs,hr⟩:=hv
   have key:∀c,¬aL Uf Y' c->(aL (aQ o U1) Y c\/H1 c=none)->¬aL U' Y' c/\(aL U1 Y c\/H1 c=none):=λc n m=>by
    refine⟨λz=>?_, ?_⟩
    ·rcases b2 c z with z | ⟨z1,z2⟩
     ·exact n z
     ·rcases m with m | m
      ·exact z2 m
      ·exact(r.owned z1).1 m
    ·rcases m with m | m
     ·exact .inl ((l6 r).2 c m)
     ·exact .inr m
   exact⟨c,rfl,g,oo,(key c n m).1,(key c n m).2,vs,hvs,λx hx=>let ⟨b,ws,h1,h2,h3,h4,h5,h6⟩:=hr x hx;⟨b,ws,h1,h2,h3,(key b h4 h5).1,(key b h4 h5).2,h6⟩⟩
 |ex x=>exact k
def kX(K:Frag)(P:aW)(C:Calls)(W:Nat)(one:Bool)(tg:List Nat)(cb:List S)(U0:Env)(Y0:St)(H0 G0:Hp)(fl:Fl)(Uf:Env)(ds:List D)(i:Nat):St->Hp->Prop:=λY H =>
 ∃U G,AftS K U0 Y0 H0 G0 U Y H G/\bZ (aU one tg) (exs P C W cb) (ds.drop i) U=some (fl,Uf)
def vF(hk:gK K U0 Y0 H0 G0 Uf D0 fl)(hd:ds[i]?=some d)(hx:aC K G0 d x)
  (h:kX K P C W one tg cb U0 Y0 H0 G0 fl Uf ds i Y H) :
  gB K one tg x Y H λY2 H2=>qS K P C W cb { D0 with nx:=kX K P C W one tg cb U0 Y0 H0 G0 fl Uf ds (i+1),ct:=kX K P C W one tg cb U0 Y0 H0 G0 fl Uf ds (i+1),bk:=D0.nx } Y2 H2:=by
 obtain⟨U,G,a,e⟩:=h;have hl:i<ds.length:=(Zc.mp hd).1
 have ed:ds.drop i=d::ds.drop (i+1):=by(rw[List.drop_eq_getElem_cons hl];congr 1;rw[Zb hl] at hd;exact Option.some.inj hd)
 rw[ed] at e;simp only[bZ] at e
 cases q:aU one tg d U with
 |none=>rw[q] at e;cases e
 |some U1 =>
  rw[q] at e;simp only at e;refine⟨U,G,d,U1,a.rel,aC.mono a.ext.gg d hx,q,λY1 a1=>?_⟩;have a01:=a.trans a1
  cases q2:exs P C W cb U1 with
  |none=>rw[q2] at e;cases e
  |some y =>
   obtain⟨fl1,U2⟩:=y;rw[q2] at e;refine⟨U1,G,fl1,U2,a1.rel,q2, ?_⟩
   cases fl1 with
   |nx=>exact λY2 H2 G2 a2=>⟨U2,G2,a01.trans a2,e⟩
   |ct=>exact λY2 H2 G2 a2=>⟨U2,G2,a01.trans a2,e⟩
   |bk=>cases e;exact λY2 H2 G2 a2=>hk Y2 H2 G2 (a01.trans a2)
   |rt v=>cases e;exact hk.pre a01
   |ex x=>cases e;exact hk
def L3(hk:gK K U0 Y0 H0 G0 Uf D0 fl)(hd:ds[i]?=some d)
  (h:∃U G,AftS K U0 Y0 H0 G0 U Y H G/\aC K G d x/\bZ (aU one tg) (exs P C W cb) (ds.drop i) U=some (fl,Uf)) :
  gB K one tg x Y H λY2 H2=>qS K P C W cb { D0 with nx:=kX K P C W one tg cb U0 Y0 H0 G0 fl Uf ds (i+1),ct:=kX K P C W one tg cb U0 Y0 H0 G0 fl Uf ds (i+1),bk:=D0.nx } Y2 H2:=by
 obtain⟨U,G,a,hx,e⟩:=h;have hl:i<ds.length:=(Zc.mp hd).1
 have ed:ds.drop i=d::ds.drop (i+1):=by(rw[List.drop_eq_getElem_cons hl];congr 1;rw[Zb hl] at hd;exact Option.some.inj hd)
 rw[ed] at e;simp only[bZ] at e
 cases q:aU one tg d U with
 |none=>rw[q] at e;cases e
 |some U1 =>
  rw[q] at e;simp only at e;refine⟨U,G,d,U1,a.rel,hx,q,λY1 a1=>?_⟩;have a01:=a.trans a1
  cases q2:exs P C W cb U1 with
  |none=>rw[q2] at e;cases e
  |some y =>
   obtain⟨fl1,U2⟩:=y;rw[q2] at e;refine⟨U1,G,fl1,U2,a1.rel,q2, ?_⟩
   cases fl1 with
   |nx=>exact λY2 H2 G2 a2=>⟨U2,G2,a01.trans a2,e⟩
   |ct=>exact λY2 H2 G2 a2=>⟨U2,G2,a01.trans a2,e⟩
   |bk=>cases e;exact λY2 H2 G2 a2=>hk Y2 H2 G2 (a01.trans a2)
   |rt v=>cases e;exact hk.pre a01
   |ex x=>cases e;exact hk
def RB{lo:Int}{g:TG}{tb:TS}{D:Ends}(Pv:Nat->St->Hp->Prop)(h0:Pv 0 Y H)(hl:∀i Y H,i<=xs.length->Pv i Y H->bU K H a xs)
  (hs:∀i y p Y H,xs[i]?=some y->H p=none->Pv i Y H->g (.ref p) Y (aP H p (.tup [.int (lo+(i:Int)),y])) λY2 H2=>tb { D with nx:=Pv (i+1),ct:=Pv (i+1),bk:=D.nx } Y2 H2) (hd:∀Y H,Pv xs.length Y H->D.nx Y H) :
  ∃W:Nat->Nat->St->Hp->Prop,(∃m,W 0 m Y H)/\∀i m Y H,W i m Y H ->
   ((qC K a lo).stop i H/\D.nx Y H)\/((qC K a lo).go i H/\∃N:St->Hp->Prop,(∀Y' H',N Y' H'->∃m',m'<m/\W (i+1) m' Y' H')/\∀x H',(qC K a lo).yld i H x H'->g x Y H' λY2 H2=>tb { D with nx:=N,ct:=N,bk:=D.nx } Y2 H2):=by
 refine⟨λi m Y H=>m=xs.length-i/\i<=xs.length/\Pv i Y H,⟨xs.length,by simp,Nat.zero_le _,h0⟩, ?_⟩
 rintro i m Y H ⟨rfl,hi,p⟩
 have q:=hl i Y H hi p;by_cases hlt:i<xs.length
 ·refine .inr ⟨⟨xs,xs[i],q,by simp[hlt]⟩,Pv (i+1),λY' H' p'=>⟨xs.length-(i+1),by omega,rfl,hlt,p'⟩,λx H' y=>?_⟩;obtain⟨p0,y0,hn,rfl,rfl,hy⟩:=y;exact hs i y0 p0 Y H (hy xs q) hn p
 ·have e:i=xs.length:=by omega
  subst e;exact .inl ⟨⟨xs,q,Zq _⟩,hd Y H p⟩
def gF{lo:Int}:(dY lo ds).length=ds.length:=by unfold dY;simp
def oX{lo:Int}{i:Nat}(h:ds[i]?=some d):(dY lo ds)[i]?=some (.tup [.int (lo+(i:Int)),d]):=by
 have hl:i<ds.length:=(Zc.mp h).1;unfold dY;rw[Zh,List.getElem?_range hl,Option.map_some,List.getD_eq_getElem?_getD,h];rfl
def FU(hg:G p=none)(h:aC K G d y):aC K (aP G p (.tup [.int i,y])) (.tup [.int i,d]) (.ref p):=by
 simp only[aC];exact⟨p,_,rfl,dE.of bA,aB.cons (by simp[aC]) (aB.cons (aC.mono (Sm.laid hg) d h) aB.nil)⟩
def rY(hk:gK K U0 Y0 H0 G0 Uf D0 fl)(h:kX K P C W one tg cb U0 Y0 H0 G0 fl Uf ds ds.length Y H):D0.nx Y H:=by
 obtain⟨U,G,a,e⟩:=h;rw[List.drop_length] at e;simp only[bZ,Option.some.injEq,Prod.mk.injEq] at e;obtain⟨rfl,rfl⟩:=e;exact hk Y H G a
def lP(K:Frag)(U:Env)(Y:St)(H G:Hp)(a:Addr)(vs:List V):Prop:=bU K G a vs\/(H a=some (.lst vs)/\G a=none/\¬aL U Y a)
def lP.now(h:lP K U Y H G a vs)(b:AftS K U Y H G U' Y' H' G'):bU K H' a vs:=by
 rcases h with h | ⟨h1,h2,h3⟩
 ·exact b.rel.sub.seq (b.ext.gg.seq h)
 ·exact bU.of (b.ext.hh a _ h1 h3)
def FHw(K:Frag)(P:aW)(C:Calls)(k0:ItK)(its:List E)(Y:St)(H:Hp)(R:It->Hp->Prop):Prop:=∃(U:Env) (G:Hp) (hs:List Hd) (U1:Env) (ds:List D) (o:Option Nat),Rel K U Y H G/\cU P C its U=some (.ok hs,U1)/\aD k0 hs U1=some (ds,o) /\
   ∀H1 G1,Aft K U Y H G U1 H1 G1->(∀i,o=some i->∃d p l,U1[i]?=some (.ow d p l)) ->
    (∀a vs,lP K (aQ o U1) Y H1 G1 a vs->aB K G1 ds vs->R (qA K a) H1)/\(∀a vs,dE K G1 a vs->aB K G1 ds vs->R (qG K a) H1)/\(∀(lo:Int) (n:Nat),ds=(List.range n).map (λ(j:Nat)=>D.int (lo+(j:Int)))->R (oH lo n) H1)/\(∀a vs ds0 lo,ds=dY lo ds0->lP K (aQ o U1) Y H1 G1 a vs->aB K G1 ds0 vs->R (qC K a lo) H1)
def aBL(po:PassesOwn (model X.prog X.w) X.A X.env X.xe)(xo:bM X K P C Z)(hg:PG X tg (gB K one is))(hb:gH X body (qS K P C W cb))
  (hs:∀x,foldedSetIterable it X.env x=pure x) (hi:PI X tg it wi)
  (hw:∀Y H (R:It->Hp->Prop),FHw K P C k0 its Y H R->wi Y H R) :
  PS X (.For tg it body [] pos) (tS K P C W (.for is one k0 its cb)):=by
 refine TS.imp_ps (aER po xo.calm hi hg hb hs) λD Y H ⟨U,G,fl,U',r,e,k⟩=>?_
 obtain⟨hs,U1,e1,e2⟩:=f7 e k.ne
 cases q:aD k0 hs U1 with
 |none=>rw[q] at e2;cases e2
 |some y =>
  obtain⟨ds,o⟩:=y;rw[q] at e2;simp only at e2
  cases q2:bZ (aU one is) (exs P C W cb) ds (aQ o U1) with
  |none=>rw[q2] at e2;cases e2
  |some y =>
   obtain⟨fl1,Uf⟩:=y;rw[q2] at e2;simp only[dB.restore] at e2
   cases q3:fB o U1 Uf with
   |none=>rw[q3] at e2;cases e2
   |some U2 =>
    rw[q3] at e2;cases e2;refine hw Y H _ ⟨U,G,hs,U1,ds,o,r,e1,q,λH1 G1 a1 ho=>?_⟩;have k1:gK K (aQ o U1) Y H1 G1 Uf D fl:=gK.restore a1.rel ho q3 (k.pre (Aft.s r a1));have p0:kX K P C W one is cb (aQ o U1) Y H1 G1 fl Uf ds 0 Y H1:=⟨aQ o U1,G1,AftS.refl (l6 a1.rel).1,q2⟩
    refine⟨λa vs hsrc hr=>?_,λa vs ht hr=>?_,λlo n hds=>?_,λa vs ds0 lo hds hsrc hr=>?_⟩
    ·refine VP (xs:=vs) (kX K P C W one is cb (aQ o U1) Y H1 G1 fl Uf ds) p0 (λi Y2 H2 _ ⟨U2,G2,b,_⟩=>hsrc.now b) (λi x Y2 H2 hx hp=>?_) (λY2 H2 hp=>?_)
     ·have hl:i<ds.length:=by rw[<- hr.len];exact(Zc.mp hx).1
      obtain⟨x',h1,h2⟩:=hr.get (Zb hl);rw[hx] at h1;cases h1;exact vF k1 (Zb hl) h2 hp
     ·rw[hr.len] at hp;exact rY k1 hp
    ·refine aAN (xs:=vs) (kX K P C W one is cb (aQ o U1) Y H1 G1 fl Uf ds) p0 (λi Y2 H2 _ ⟨U2,G2,b,_⟩=>dJ b.rel.sub (dJ b.ext.gg ht)) (λi x Y2 H2 hx hp=>?_) (λY2 H2 hp=>?_)
     ·have hl:i<ds.length:=by rw[<- hr.len];exact(Zc.mp hx).1
      obtain⟨x',h1,h2⟩:=hr.get (Zb hl);rw[hx] at h1;cases h1;exact vF k1 (Zb hl) h2 hp
     ·rw[hr.len] at hp;exact rY k1 hp
    ·have hlen:ds.length=n:=by rw[hds];simp
     refine PZ (kX K P C W one is cb (aQ o U1) Y H1 G1 fl Uf ds) p0 (λi Y2 H2 hi hp=>?_) (λY2 H2 hp=>?_)
     ·have hd:ds[i]?=some (.int (lo+(i:Int))):=by rw[hds];simp[hi]
      exact vF k1 hd (by simp[aC]) hp
     ·rw[<- hlen] at hp;exact rY k1 hp
    ·subst hds;refine RB (xs:=vs) (kX K P C W one is cb (aQ o U1) Y H1 G1 fl Uf (dY lo ds0)) p0 (λi Y2 H2 _ ⟨U2,G2,b,_⟩=>hsrc.now b) (λi y p Y2 H2 hx hn hp=>?_) (λY2 H2 hp=>?_)
     ·have hl:i<ds0.length:=by rw[<- hr.len];exact(Zc.mp hx).1
      obtain⟨x',h1,h2⟩:=hr.get (Zb hl);rw[hx] at h1;cases h1;obtain⟨U2,G2,b,e2⟩:=hp;have b2:=b.trans (Aft.s b.rel ((Aft.refl b.rel).layG (o:=.tup [.int (lo+(i:Int)),y]) hn));exact L3 k1 (oX (Zb hl)) ⟨U2,_,b2,FU (aV.free b.rel.sub hn) (aC.mono b.ext.gg _ h2),e2⟩
     ·rw[hr.len,<- gF] at hp;exact rY k1 hp
end
section
variable{X:Cx}{K:Frag}
def PI.or(h:PI X tg it w)(h':PI X tg it w'):PI X tg it (λY H R=>w Y H R\/w' Y H R):=λpins s Y H R I q=>by
 rcases q with q | q
 ·exact h pins s Y H R I q
 ·exact h' pins s Y H R I q
def D6(e:cU P C [c] U=some (.ok hs,U1)):∃h,hs=[h]/\hd c (ev P C false c U) U=some (.ok h,U1):=by
 rw[cU] at e;obtain⟨h,U2,e1,e2⟩:=aK e;rw[cU] at e2;simp only[aR.bind] at e2;cases e2;exact⟨h,rfl,e1⟩
def LO(hK:X.K=K)(Y:St)(H:Hp)(R:It->Hp->Prop) (q:∃(U:Env) (G:Hp) (hs:List Hd) (U1:Env) (ds:List D) (o:Option Nat),Rel K U Y H G/\cU P C [c] U=some (.ok hs,U1)/\aD .of hs U1=some (ds,o) /\
   ∀H1 G1,Aft K U Y H G U1 H1 G1->(∀i,o=some i->∃d p l,U1[i]?=some (.ow d p l)) ->
    (∀a vs,lP K (aQ o U1) Y H1 G1 a vs->aB K G1 ds vs->R (qA K a) H1)/\(∀a vs,dE K G1 a vs->aB K G1 ds vs->R (qG K a) H1)/\(∀(lo:Int) (n:Nat),ds=(List.range n).map (λ(j:Nat)=>D.int (lo+(j:Int)))->R (oH lo n) H1)/\(∀a vs ds0 lo,ds=dY lo ds0->lP K (aQ o U1) Y H1 G1 a vs->aB K G1 ds0 vs->R (qC K a lo) H1)) :
  WU X.K (tH K P C c) Y H R\/aDF X.K (tH K P C c) Y H R:=by
 obtain⟨U,G,hs,U1,ds,o,r,e,ei,k⟩:=q;obtain⟨h,rfl,e1⟩:=D6 e;rw[hK]
 cases h with
 |slot i =>
  (unfold aD at ei;dsimp only at ei)
  split at ei
  ·rename_i ds' p l hi;cases ei;refine .inl ⟨U,G,.slot i,U1,r,e1,λx H1 G1 a1 hx=>?_⟩;have hx:Y[i]?=some (some x):=hx;obtain⟨b,h1,g,vs,hv,hr⟩:=a1.rel.ow i _ _ _ hi;rw[hx] at h1;cases h1;exact⟨b,rfl,⟨vs,bU.of hv⟩,(k H1 G1 a1 λj z=>by cases z;exact⟨_,_,_,hi⟩).1 b vs (.inr ⟨hv,g,a1.rel.unset_not hi hx⟩) hr⟩
  ·rename_i ds' hi;cases ei;refine .inl ⟨U,G,.slot i,U1,r,e1,λx H1 G1 a1 hx=>?_⟩;have hx:Y[i]?=some (some x):=hx;obtain⟨v,h1,h2⟩:=a1.rel.sh i _ hi;rw[hx] at h1;cases h1;simp only[aC] at h2;obtain⟨b,vs,rfl,h3,h4⟩:=h2;exact⟨b,rfl,⟨vs,a1.rel.sub.seq h3⟩,(k H1 G1 a1 λj z=>by cases z).1 b vs (.inl h3) h4⟩
  ·rename_i ds' hi;cases ei;refine .inr ⟨U,G,.slot i,U1,r,e1,λx H1 G1 a1 hx=>?_⟩;have hx:Y[i]?=some (some x):=hx;obtain⟨v,h1,h2⟩:=a1.rel.sh i _ hi;rw[hx] at h1;cases h1;simp only[aC] at h2;obtain⟨b,vs,rfl,h3,h4⟩:=h2;exact⟨b,rfl,⟨vs,dJ a1.rel.sub h3⟩,(k H1 G1 a1 λj z=>by cases z).2.1 b vs h3 h4⟩
  ·cases ei
 |val v =>
  (unfold aD at ei;dsimp only at ei)
  split at ei
  ·rename_i ds' hd;cases ei;refine .inl ⟨U,G,.val v,U1,r,e1,λx H1 G1 a1 hx=>?_⟩
   cases v with
   |sh d =>
    simp only[RV.d] at hd;subst hd;have hx:aC K G1 (.lst ds) x:=hx;simp only[aC] at hx;obtain⟨b,vs,rfl,h3,h4⟩:=hx;exact⟨b,rfl,⟨vs,a1.rel.sub.seq h3⟩,(k H1 G1 a1 λj z=>by cases z).1 b vs (.inl h3) h4⟩
   |ow d =>
    simp only[RV.d] at hd;subst hd;obtain⟨b,rfl,g,⟨vs,hv,hr⟩,n,m⟩:=hx;exact⟨b,rfl,⟨vs,bU.of hv⟩,(k H1 G1 a1 λj z=>by cases z).1 b vs (.inr ⟨hv,g,n⟩) hr⟩
   |od d=>exact hx.elim
  ·rename_i ds' hd;cases ei;refine .inr ⟨U,G,.val v,U1,r,e1,λx H1 G1 a1 hx=>?_⟩
   cases v with
   |sh d =>
    simp only[RV.d] at hd;subst hd;have hx:aC K G1 (.tup ds) x:=hx;simp only[aC] at hx;obtain⟨b,vs,rfl,h3,h4⟩:=hx;exact⟨b,rfl,⟨vs,dJ a1.rel.sub h3⟩,(k H1 G1 a1 λj z=>by cases z).2.1 b vs h3 h4⟩
   |ow d =>
    simp only[RV.d] at hd;subst hd;obtain⟨b,rfl,g,o,n,m⟩:=hx;exact o.elim
   |od d=>exact hx.elim
  ·cases ei
def JJ(Y:St)(H:Hp)(R:It->Hp->Prop) (q:∃(U:Env) (G:Hp) (hs:List Hd) (U1:Env) (ds:List D) (o:Option Nat),Rel K U Y H G/\cU P C [c] U=some (.ok hs,U1)/\aD .rng hs U1=some (ds,o) /\
   ∀H1 G1,Aft K U Y H G U1 H1 G1->(∀i,o=some i->∃d p l,U1[i]?=some (.ow d p l)) ->
    (∀a vs,lP K (aQ o U1) Y H1 G1 a vs->aB K G1 ds vs->R (qA K a) H1)/\(∀a vs,dE K G1 a vs->aB K G1 ds vs->R (qG K a) H1)/\(∀(lo:Int) (n:Nat),ds=(List.range n).map (λ(j:Nat)=>D.int (lo+(j:Int)))->R (oH lo n) H1)/\(∀a vs ds0 lo,ds=dY lo ds0->lP K (aQ o U1) Y H1 G1 a vs->aB K G1 ds0 vs->R (qC K a lo) H1)) :
  XH (pK K P C [c]) Y H R:=by
 obtain⟨U,G,hs,U1,ds,o,r,e,ei,k⟩:=q;refine⟨U,G,hs,U1,r,e,λxs H1 G1 a1 hx=>?_⟩;obtain⟨h,rfl,e1⟩:=D6 e;obtain⟨x,r',rfl,h1,h2,_⟩:=hx;cases (show r'=[] from h2)
 (unfold aD at ei;dsimp only at ei)
 split at ei
 ·rename_i n hn;split at ei
  ·rename_i hb;cases ei;cases (h1.read a1.rel hn).int;refine⟨n,rfl,by omega,by omega,(k H1 G1 a1 λj z=>by cases z).2.2.1 0 n.toNat ?_⟩;congr 1
   funext j
   rw[Int.zero_add]
  ·cases ei
 ·cases ei
def J0(Y:St)(H:Hp)(R:It->Hp->Prop) (q:∃(U:Env) (G:Hp) (hs:List Hd) (U1:Env) (ds:List D) (o:Option Nat),Rel K U Y H G/\cU P C [c,c2] U=some (.ok hs,U1)/\aD .rng hs U1=some (ds,o) /\
   ∀H1 G1,Aft K U Y H G U1 H1 G1->(∀i,o=some i->∃d p l,U1[i]?=some (.ow d p l)) ->
    (∀a vs,lP K (aQ o U1) Y H1 G1 a vs->aB K G1 ds vs->R (qA K a) H1)/\(∀a vs,dE K G1 a vs->aB K G1 ds vs->R (qG K a) H1)/\(∀(lo:Int) (n:Nat),ds=(List.range n).map (λ(j:Nat)=>D.int (lo+(j:Int)))->R (oH lo n) H1)/\(∀a vs ds0 lo,ds=dY lo ds0->lP K (aQ o U1) Y H1 G1 a vs->aB K G1 ds0 vs->R (qC K a lo) H1)) :
  XG (pK K P C [c,c2]) Y H R:=by
 obtain⟨U,G,hs,U1,ds,o,r,e,ei,k⟩:=q;refine⟨U,G,hs,U1,r,e,λxs H1 G1 a1 hx=>?_⟩;rw[cU] at e;obtain⟨h,U2,e1,e2⟩:=aK e;obtain⟨hs',U3,e3,e4⟩:=aK e2;obtain⟨h',rfl,e5⟩:=D6 e3;cases e4;obtain⟨x,r',rfl,h1,h2,_⟩:=hx;obtain⟨y,r'',rfl,h3,h4,_⟩:=h2;cases (show r''=[] from h4)
 (unfold aD at ei;dsimp only at ei)
 split at ei
 ·rename_i m n hm hn;split at ei
  ·rename_i hb;cases ei;cases (h1.read a1.rel hm).int;cases (h3.read a1.rel hn).int;exact⟨m,n,rfl,by omega,(k H1 G1 a1 λj z=>by cases z).2.2.1 m (n-m).toNat rfl⟩
  ·cases ei
 ·cases ei
def JR(hK:X.K=K){lo:Int}(Y:St)(H:Hp)(R:It->Hp->Prop) (q:∃(U:Env) (G:Hp) (hs:List Hd) (U1:Env) (ds:List D) (o:Option Nat),Rel K U Y H G/\cU P C [c] U=some (.ok hs,U1)/\aD (.enum lo) hs U1=some (ds,o) /\
   ∀H1 G1,Aft K U Y H G U1 H1 G1->(∀i,o=some i->∃d p l,U1[i]?=some (.ow d p l)) ->
    (∀a vs,lP K (aQ o U1) Y H1 G1 a vs->aB K G1 ds vs->R (qA K a) H1)/\(∀a vs,dE K G1 a vs->aB K G1 ds vs->R (qG K a) H1)/\(∀(lo:Int) (n:Nat),ds=(List.range n).map (λ(j:Nat)=>D.int (lo+(j:Int)))->R (oH lo n) H1)/\(∀a vs ds0 lo,ds=dY lo ds0->lP K (aQ o U1) Y H1 G1 a vs->aB K G1 ds0 vs->R (qC K a lo) H1)) :
  W7 X.K lo (pK K P C [c]) Y H R:=by
 obtain⟨U,G,hs,U1,ds,o,r,e,ei,k⟩:=q;rw[hK];refine⟨U,G,hs,U1,r,e,λxs H1 G1 a1 hxs=>?_⟩;obtain⟨h,rfl,e1⟩:=D6 e;obtain⟨x,r',rfl,hx,h2,_⟩:=hxs;cases (show r'=[] from h2)
 cases h with
 |slot i =>
  (unfold aD at ei;dsimp only at ei)
  have hx:Y[i]?=some (some x):=hx;split at ei
  ·rename_i ds' p l hi;cases ei;obtain⟨b,h1,g,vs,hv,hr⟩:=a1.rel.ow i _ _ _ hi;rw[hx] at h1;cases h1;exact⟨b,rfl,⟨vs,bU.of hv⟩,(k H1 G1 a1 λj z=>by cases z;exact⟨_,_,_,hi⟩).2.2.2 b vs _ lo rfl (.inr ⟨hv,g,a1.rel.unset_not hi hx⟩) hr⟩
  ·rename_i ds' hi;cases ei;obtain⟨v,h1,h2⟩:=a1.rel.sh i _ hi;rw[hx] at h1;cases h1;simp only[aC] at h2;obtain⟨b,vs,rfl,h3,h4⟩:=h2;exact⟨b,rfl,⟨vs,a1.rel.sub.seq h3⟩,(k H1 G1 a1 λj z=>by cases z).2.2.2 b vs _ lo rfl (.inl h3) h4⟩
  ·cases ei
 |val v =>
  (unfold aD at ei;dsimp only at ei)
  split at ei
  ·rename_i ds' hd;cases ei
   cases v with
   |sh d =>
    simp only[RV.d] at hd;subst hd;have hx:aC K G1 (.lst ds') x:=hx;simp only[aC] at hx;obtain⟨b,vs,rfl,h3,h4⟩:=hx;exact⟨b,rfl,⟨vs,a1.rel.sub.seq h3⟩,(k H1 G1 a1 λj z=>by cases z).2.2.2 b vs _ lo rfl (.inl h3) h4⟩
   |ow d =>
    simp only[RV.d] at hd;subst hd;obtain⟨b,rfl,g,⟨vs,hv,hr⟩,n,m⟩:=hx;exact⟨b,rfl,⟨vs,bU.of hv⟩,(k H1 G1 a1 λj z=>by cases z).2.2.2 b vs _ lo rfl (.inr ⟨hv,g,n⟩) hr⟩
   |od d=>exact hx.elim
  ·cases ei
def vS(h:qJ e=true)(env:PySem.Env):∀x,foldedSetIterable e env x=pure x:=λx=>by
 cases e<;>first | rfl | cases h
def JG(xo:bM X K P C Z)(hfn:∀x,Z.isLoc x=true->X.fn x=true\/X.env.scope.names.lookup x=some .local)(h:mW Z tg=some (one,is)):PG X tg (gB K one is):=by
 cases tg<;>simp only[mW,reduceCtorEq] at h
 ·rename_i x pos
  cases q:Z.slotL x with
  |none=>rw[q] at h;cases h
  |some i=>rw[q] at h;cases h;exact aEu (xU xo hfn q)
 ·rename_i es k0 pos
  cases q:jH Z es with
  |none=>rw[q] at h;cases h
  |some is' =>
   rw[q] at h;cases h;obtain⟨h1,h2,h3,h4⟩:=rT xo hfn q;exact J5 xo h1 h2 h3
end
section
variable{K:Frag}{Y Y':St}{H G H' G':Hp}
def qZ(h:(as++List.replicate n Sl.un)[i]?=some s):(as[i]?=some s)\/(as.length<=i/\s=.un):=by
 by_cases hl:i<as.length
 ·rw[List.getElem?_append_left hl] at h;exact .inl h
 ·rw[List.getElem?_append_right (by omega),List.getElem?_replicate] at h;split at h
  ·cases h;exact .inr ⟨by omega,rfl⟩
  ·cases h
def vQ(h:i<vs.length):(L2.cY N vs)[i]?=(vs.map some)[i]?:=by
 unfold L2.cY;rw[List.getElem?_append_left (by rw[List.length_map];exact h)]
def Rel.pad(r:Rel K as (vs.map some) H G)(hn:N.length=as.length+n):Rel K (as++List.replicate n .un) (L2.cY N vs) H G/\∀a,aL (as++List.replicate n .un) (L2.cY N vs) a->aL as (vs.map some) a:=by
 have hl:as.length=vs.length:=by have:=r.len;rwa[List.length_map] at this
 have st:∀i:Nat,i<as.length->(L2.cY N vs)[i]?=(vs.map some)[i]?:=λi h=>vQ (by omega)
 have lt:∀{i:Nat} {s:Sl},as[i]?=some s->i<as.length:=λh=>(Zc.mp h).1
 refine⟨⟨by unfold L2.cY;simp;omega,r.sub,λi d h=>?_,λi d p l h=>?_,λi j d p l d' p' l' a h1 h2 h3 h4=>?_⟩,λa ⟨i,d,p,l,h1,h2⟩=>?_⟩
 ·rcases qZ h with h | ⟨_,h⟩
  ·rw[st i (lt h)];exact r.sh i d h
  ·cases h
 ·rcases qZ h with h | ⟨_,h⟩
  ·rw[st i (lt h)];exact r.ow i d p l h
  ·cases h
 ·rcases qZ h1 with h1 | ⟨_,h1⟩
  ·rcases qZ h2 with h2 | ⟨_,h2⟩
   ·rw[st i (lt h1)] at h3;rw[st j (lt h2)] at h4;exact r.inj _ _ _ _ _ _ _ _ _ h1 h2 h3 h4
   ·cases h2
  ·cases h1
 ·rcases qZ h1 with h1 | ⟨_,h1⟩
  ·rw[st i (lt h1)] at h2;exact⟨i,d,p,l,h1,h2⟩
  ·cases h1
theorem oO:∀{as:List Sl} {U:Env} (i:Nat),as.length<=U.length->(back as U)[i]?=(as[i]?).bind λa=>match a with | .ow _ _ _=>U[i]? | a=>some a
 |[],U,i,_=>by cases U<;>simp[back]
 |a::as,[],i,h=>by simp at h
 |a::as,b::U,i,h=>by
  have ih:=λj=>oO (U:=U) j (by simpa using h)
  cases i with
  |zero=>cases a<;>simp[back]
  |succ i=>cases a<;>simp[back,ih i]
def xS(r:Rel K as (vs.map some) H G)(hp:as.all nK=true)(hn:N.length=as.length+n)
  (a:AftS K (as++List.replicate n .un) (L2.cY N vs) H G U' Y' H' G'):Aft K as (vs.map some) H G (back as U') H' G'/\∀c,aL (back as U') (vs.map some) c->aL U' Y' c:=by
 have hl:as.length=vs.length:=by have:=r.len;rwa[List.length_map] at this
 have lt:∀{i:Nat} {s:Sl},as[i]?=some s->i<as.length:=λh=>(Zc.mp h).1
 have st:∀i:Nat,i<as.length->(L2.cY N vs)[i]?=(vs.map some)[i]?:=λi h=>vQ (by omega)
 have hlen:as.length<=U'.length:=by rw[a.len,Za];omega
 have at0:∀{i:Nat} {s:Sl},as[i]?=some s->(as++List.replicate n .un)[i]?=some s:=λh=>by rw[List.getElem?_append_left (lt h)];exact h
 have pin:∀(i:Nat) d p l,as[i]?=some (.ow d p l)->p=true/\Y'[i]?=(vs.map some)[i]?/\∃d',U'[i]?=some (.ow d' true l):=λi d p l h=>by(have h1:=List.all_eq_true.mp hp _ (zj h);simp only[nK] at h1;subst h1;obtain⟨h2,d',h3⟩:=a.pin i d l (at0 h);exact⟨rfl,h2.trans (st i (lt h)),d',h3⟩)
 have oth:∀{i:Nat} {s:Sl},(back as U')[i]?=some s->(∃d d' l,as[i]?=some (.ow d true l)/\s=.ow d' true l/\U'[i]?=some s/\Y'[i]?=(vs.map some)[i]?)\/(as[i]?=some s/\∀d p l,s≠.ow d p l):=λ{i s} h=>by
  rw[oO i hlen] at h
  cases e:as[i]? with
  |none=>rw[e] at h;cases h
  |some b =>
   rw[e] at h
   cases b with
   |ow d p l =>
    obtain⟨rfl,h1,d',h2⟩:=pin i d p l e;simp only[Option.bind_some] at h;rw[h2] at h;cases h;exact .inl ⟨d,d',l,rfl,rfl,h2,h1⟩
   |un=>cases h;exact .inr ⟨rfl,λd p l z=>nomatch z⟩
   |mv=>cases h;exact .inr ⟨rfl,λd p l z=>nomatch z⟩
   |sh d=>cases h;exact .inr ⟨rfl,λd p l z=>nomatch z⟩
 have blen:(back as U').length=as.length:=by
  apply Nat.le_antisymm
  ·refine Nat.le_of_not_lt λz=>?_
   have:=oO (U:=U') as.length hlen
   rw[Zb z,List.getElem?_eq_none (Zq _)] at this;cases this
  ·refine Nat.le_of_not_lt λz=>?_
   have h1:=oO (U:=U') (back as U').length hlen;rw[List.getElem?_eq_none (Zq _),Zb z] at h1
   cases e:as[(back as U').length] with
   |ow d p l =>
    have e':as[(back as U').length]?=some (.ow d p l):=by rw[Zb z,e]
    obtain⟨_,_,d',h2⟩:=pin _ d p l e';rw[e] at h1;simp only[Option.bind_some] at h1;rw[h2] at h1;cases h1
   |un=>rw[e] at h1;cases h1
   |mv=>rw[e] at h1;cases h1
   |sh d=>rw[e] at h1;cases h1
 refine⟨⟨⟨by rw[blen];exact r.len,a.rel.sub,λi d h=>?_,λi d p l h=>?_,λi j d p l d' p' l' c h1 h2 h3 h4=>?_⟩,a.ext.weaken λc z=>(r.pad hn).2 c z,λi=>?_⟩,λc ⟨i,d,p,l,h1,h2⟩=>?_⟩
 ·rcases oth h with ⟨_,_,_,_,z,_,_⟩ | ⟨z,_⟩
  ·cases z
  ·obtain⟨v,h1,h2⟩:=r.sh i d z;exact⟨v,h1,aC.mono a.ext.gg d h2⟩
 ·rcases oth h with ⟨d0,d',l',h1,h2,h3,h4⟩ | ⟨_,z⟩
  ·rw[<- h4];exact a.rel.ow i d p l h3
  ·exact absurd rfl (z d p l)
 ·rcases oth h1 with ⟨_,_,_,_,_,z3,z4⟩ | ⟨_,z⟩
  ·rcases oth h2 with ⟨_,_,_,_,_,w3,w4⟩ | ⟨_,w⟩
   ·rw[<- z4] at h3;rw[<- w4] at h4;exact a.rel.inj _ _ _ _ _ _ _ _ _ z3 w3 h3 h4
   ·exact absurd rfl (w _ _ _)
  ·exact absurd rfl (z _ _ _)
 ·rw[oO i hlen]
  cases e:as[i]? with
  |none=>trivial
  |some b =>
   cases b with
   |ow d p l =>
    obtain⟨rfl,_,d',h2⟩:=pin i d p l e;simp only[Option.bind_some];rw[h2];exact⟨rfl,rfl⟩
   |un=>trivial
   |mv=>trivial
   |sh d=>trivial
 ·rcases oth h1 with ⟨_,_,_,_,_,z3,z4⟩ | ⟨_,z⟩
  ·rw[<- z4] at h2;exact⟨i,d,p,l,z3,h2⟩
  ·exact absurd rfl (z _ _ _)
end
end CI
namespace L2
open PySem PySem.Spec PyProof.Rows
theorem eT[BEq O][LawfulBEq O]:∀{l:List (O×N)} {x:O} {k:N},l.lookup x=some k->(x,k)∈l
 |[],x,k,h=>by simp at h
 | (y,k')::r,x,k,h=>by
  rw[List.lookup_cons] at h;split at h
  ·rename_i e;have e:=Zy e;subst e;cases h;exact zh
  ·exact Ze _ (eT h)
def aAx(h:∀p∈scope.names,p.2=.free->∃c,env.cells.lookup p.1=some c) :
  ∃cl,closureFor scope env=pure cl/\(∀x c,cl.lookup x=some c->env.cells.lookup x=some c)/\∀p∈scope.names,p.2=.free->∃c,cl.lookup p.1=some c:=by
 have key:∀(names:List (Str×NameKind)) (acc:List (Str×Addr)),(∀p∈names,p.2=.free->∃c,env.cells.lookup p.1=some c)->(∀x c,acc.lookup x=some c->env.cells.lookup x=some c) ->
   ∃cl,(forIn names acc λ(p:Str×NameKind) (cs:List (Str×Addr))=>(if(p.2==NameKind.free)=true then do let a <- cellOf env p.1;pure (ForInStep.yield ((p.1,a)::cs)) else pure (ForInStep.yield cs):Sem _))=pure cl /\
    (∀x c,cl.lookup x=some c->env.cells.lookup x=some c)/\(∀p∈names,p.2=.free->∃c,cl.lookup p.1=some c)/\∀x c,acc.lookup x=some c->∃c',cl.lookup x=some c':=by
  intro names
  induction names with
  |nil=>intro acc _ h2;exact⟨acc,by simp,h2,λp hp=>(nomatch hp),λx c e=>⟨c,e⟩⟩
  |cons p r ih =>
   intro acc h1 h2;by_cases hp:p.2=.free
   ·obtain⟨c,hc⟩:=h1 p zh hp;have e:cellOf env p.1=pure c:=by unfold cellOf;rw[hc]
    obtain⟨cl,q1,q2,q3,q4⟩:=ih ((p.1,c)::acc) (λq hq=>h1 q (Ze _ hq)) (λx c' z=>by
     rw[List.lookup_cons] at z;split at z
     ·rename_i w;rw[Zy w,hc];exact z
     ·exact h2 x c' z)
    refine⟨cl, ?_,q2,λq hq hf=>?_,λx c' z=>?_⟩
    ·rw[List.forIn_cons];have hb:(p.2==NameKind.free)=true:=by rw[hp];rfl
     rw[Zo hb,e];simp only[pure_bind];exact q1
    ·rcases List.mem_cons.mp hq with w | w
     ·subst w;exact q4 q.1 c (by rw[List.lookup_cons];simp)
     ·exact q3 q w hf
    ·by_cases w:x=p.1
     ·subst w;exact q4 p.1 c (by rw[List.lookup_cons];simp)
     ·refine q4 x c' ?_;rw[List.lookup_cons]
      have:(x==p.1)=false:=beq_eq_false_iff_ne.mpr w
      rw[this];exact z
   ·obtain⟨cl,q1,q2,q3,q4⟩:=ih acc (λq hq=>h1 q (Ze _ hq)) h2;refine⟨cl, ?_,q2,λq hq hf=>?_,q4⟩
    ·rw[List.forIn_cons];have hb:¬(p.2==NameKind.free)=true:=by simpa using hp
     rw[Zp hb];simp only[pure_bind];exact q1
    ·rcases List.mem_cons.mp hq with w | w
     ·subst w;exact absurd hf hp
     ·exact q3 q w hf
 obtain⟨cl,q1,q2,q3,_⟩:=key scope.names [] h (λx c e=>by simp at e);refine⟨cl, ?_,q2,q3⟩;unfold closureFor
 have:(forIn scope.names ([]:List (Str×Addr)) λ(x:Str×NameKind) (r:List (Str×Addr))=>(match x with | (name,kind)=>if(kind==NameKind.free)=true then do let a <- cellOf env name;pure (ForInStep.yield ((name,a)::r)) else pure (ForInStep.yield r):Sem _))=pure cl:=q1
 simp only[this,pure_bind,bind_pure]
 first | rfl | (rw[this];rfl) | skip
theorem pQ{env:PySem.Env}:∀{names:List (Str×NameKind)} {x:Str} {k':NameKind},
  (names.map λ(n,k)=>if(k==NameKind.free&&env.scope.kind==.function&&env.kindOf n==some .cell) then(n,NameKind.cell) else(n,k)).lookup x=some k'->∃k,names.lookup x=some k/\(k'=k\/(k=.free/\k'=.cell))
 |[],x,k',h=>by simp at h
 | (n,k)::r,x,k',h=>by
  have ih:=@pQ env r x k';have h':List.lookup x ((if(k==NameKind.free&&env.scope.kind==.function&&env.kindOf n==some .cell)=true then(n,NameKind.cell) else(n,k))::(r.map λ(n,k)=>if(k==NameKind.free&&env.scope.kind==.function&&env.kindOf n==some .cell) then(n,NameKind.cell) else(n,k)))=some k':=h;by_cases hc:(k==NameKind.free&&env.scope.kind==.function&&env.kindOf n==some .cell)=true
  ·rw[Zo hc] at h';rw[List.lookup_cons] at h' ⊢
   cases hx:x==n with
   |true=>rw[hx] at h';cases h';simp only[ZB,beq_iff_eq] at hc;exact⟨k,rfl,.inr ⟨hc.1.1,rfl⟩⟩
   |false=>rw[hx] at h';exact ih h'
  ·rw[Zp hc] at h';rw[List.lookup_cons] at h' ⊢
   cases hx:x==n with
   |true=>rw[hx] at h';cases h';exact⟨k,rfl,.inl rfl⟩
   |false=>rw[hx] at h';exact ih h'
theorem uZ{env:PySem.Env}:∀{names:List (Str×NameKind)} {x:Str},names.lookup x=some .free ->
  (names.map λ(n,k)=>if(k==NameKind.free&&env.scope.kind==.function&&env.kindOf n==some .cell) then(n,NameKind.cell) else(n,k)).lookup x=some .cell \/
  (names.map λ(n,k)=>if(k==NameKind.free&&env.scope.kind==.function&&env.kindOf n==some .cell) then(n,NameKind.cell) else(n,k)).lookup x=some .free
 |[],x,h=>by simp at h
 | (n,k)::r,x,h=>by
  have ih:=@uZ env r x;show List.lookup x ((if(k==NameKind.free&&env.scope.kind==.function&&env.kindOf n==some .cell)=true then(n,NameKind.cell) else(n,k))::_)=_\/List.lookup x ((if(k==NameKind.free&&env.scope.kind==.function&&env.kindOf n==some .cell)=true then(n,NameKind.cell) else(n,k))::_)=_;rw[List.lookup_cons] at h;by_cases hc:(k==NameKind.free&&env.scope.kind==.function&&env.kindOf n==some .cell)=true
  ·rw[Zo hc,List.lookup_cons]
   cases hx:x==n with
   |true=>exact .inl rfl
   |false=>rw[hx] at h;exact ih h
  ·rw[Zp hc,List.lookup_cons]
   cases hx:x==n with
   |true=>rw[hx] at h;exact .inr h
   |false=>rw[hx] at h;exact ih h
theorem FE(I:Nat->Shared->Prop)
  (turn:∀n s,I n s->wpAny (model prog w) A (pyNext it) (λr s₁=>match r with
   |none=>R (.ok .next) s₁
   |some v=>wpAny (model prog w) A (letOwnedTupleGo target it v) (λ_ s₁=>wpAny (model prog w) A (assign target env v) (λ_ s₂ =>
     wpAny (model prog w) A (forIn ifs true λc r=>if r=true then do let ok <- isTrue c env (eval c env);pure (ForInStep.yield ok) else pure (ForInStep.yield r)) (λok s₃ =>
      if ok=true then wpAny (model prog w) A (eval elt env) (λx s₄ =>
       wpAny (model prog w) A (call (.builtin "list.append") [acc,x]) (λ_ s₅=>∃m,m<n/\I m s₅) (notedBy (model prog w) A env λe s'=>R (.error e) s') s₄) (notedBy (model prog w) A env λe s'=>R (.error e) s') s₃
      else ∃m,m<n/\I m s₃) (notedBy (model prog w) A env λe s'=>R (.error e) s') s₂) (notedBy (model prog w) A env λe s'=>R (.error e) s') s₁) (notedBy (model prog w) A env λe s'=>R (.error e) s') s₁) (notedBy (model prog w) A env λe s'=>R (.error e) s') s)
  (n:Nat) (h:I n s):codeAny (model prog w) A (.compLoop (.ListComp elt [⟨target,iter,ifs,0⟩] scope pos) 0 it acc env) R s:=by
 refine codeAny_loop rfl I (λn s hI=>?_) n h;show wpAny _ A ((compTurn (.ListComp elt [⟨target,iter,ifs,0⟩] scope pos) 0 it acc env).onRaise (λx=>do noteFrame x env;theTreesLotGoes x)) _ _ s;refine wpAny_noted ?_;rw[compTurn_list];refine Zt (wpAny_standAt (Zt (wpAny_mono (turn n s hI) (λr s₁ h₁=>?_) λ_ _ h'=>h')))
 cases r with
 |none=>exact Zu h₁
 |some v =>
  refine Zt (wpAny_mono h₁ (λ_ s₁' h₁'=>?_) λ_ _ h'=>h');refine Zt (wpAny_mono h₁' (λ_ s₂ h₂=>Zt (wpAny_mono h₂ (λok s₃ h₃=>?_) λ_ _ h'=>h')) λ_ _ h'=>h')
  cases ok with
  |false=>exact Zu ⟨rfl,h₃⟩
  |true =>
   exact Zt (Zt (wpAny_mono h₃ (λx s₄ h₄=>Zt (wpAny_mono h₄ (λ_ s₅ h₅=>Zu (Zu ⟨rfl,h₅⟩)) λ_ _ h'=>h')) λ_ _ h'=>h'))
noncomputable def WZ(X:Cx)(scope:Scope)(cl:List (Str×Addr))(C:Addr)(N':List Str)(s₃:Shared)(H₃:Hp)(fp:List Addr)(xe:Value->Shared->Prop):Cx :=
 { X with N:=N',s₀:=s₃,H₀:=H₃,env:=compEnvC scope cl C X.env,outer:=X.stack,stack:=X.stack,ex:=fp,fn:=λ_=>false,pn:=[],xe:=xe }
def mZ(X:Cx)(scope:Scope)(N':List Str)(X':Cx):Prop:=∃cl C s₃ H₃ fp xe,X'=WZ X scope cl C N' s₃ H₃ fp xe
section
variable{s:Shared}
def VF{i:Nat}(h:(cY N vs)[i]?=some (some v)):vs[i]?=some v:=by
 unfold cY at h;by_cases hl:i<vs.length
 ·rw[List.getElem?_append_left (by rw[List.length_map];exact hl),Zh,Zb hl] at h;rw[Zb hl];simpa using h
 ·rw[List.getElem?_append_right (by rw[List.length_map];omega),List.getElem?_replicate] at h;split at h
  ·cases h
  ·cases h
def Inv.block(I:Inv X pins Y H s)
  (hkind:scope.kind=.function) (hcell:∀y∈scope.names,y.2≠.cell) (sub:∀x c,cl.lookup x=some c->X.env.cells.lookup x=some c) (hasF:∀p∈scope.names,p.2=.free->∃c,cl.lookup p.1=some c)
  (hfk:∀p∈scope.names,p.2=.free->X.env.kindOf p.1=some .cell\/X.env.kindOf p.1=some .free)
  (hf:∀b∈fp,kC X pins H b) (hfo:∀b∈fp,b<s.heap.objs.size) (hvl:vs.length<=N'.length)
  (himp:∀(i:Nat) x v,N'[i]?=some x->vs[i]?=some v->∃j:Nat,X.N[j]?=some x/\Y[j]?=some (some v)/\scope.names.lookup x=some .free)
  (m:Str->Option Value) (hns:h₄.Ns s.heap.objs.size m) (hsb:Heap.SameBut s.heap.objs.size (s.heap.push ob) h₄) :
  Inv (WZ X scope cl s.heap.objs.size N' s H fp xe) [] (cY N' vs) H { s with heap:=h₄,toks:=tk }:=by
 have old:∀b o,s.heap.get? b=some o->h₄.get? b=some o:=λb o e=>(hsb.2 b (Zz (Zv e))).trans (Zd _ e)
 have freeOf:∀x,(relabel scope X.env).names.lookup x=some .cell\/(relabel scope X.env).names.lookup x=some .free->scope.names.lookup x=some .free:=λx hx=>by
  rcases hx with hx | hx
  ·obtain⟨k,h1,h2⟩:=pQ (env:=X.env) hx;rcases h2 with h2 | ⟨h2,_⟩
   ·subst h2;exact absurd rfl (hcell _ (eT h1))
   ·subst h2;exact h1
  ·obtain⟨k,h1,h2⟩:=pQ (env:=X.env) hx;rcases h2 with h2 | ⟨_,h2⟩
   ·subst h2;exact h1
   ·cases h2
 have ok:(WZ X scope cl s.heap.objs.size N' s H fp xe).Ok:=by
  refine⟨I.ok.mod,hkind,I.ok.glob,I.ok.blt,Zq _,λx y c h1 h2=>I.ok.inj x y c (sub x c h1) (sub y c h2),λx hx=>?_,λx c h=>(nomatch h),I.ok.hd,I.ok.frames,.inl rfl,λb hb=>⟨Zz (hfo b hb),λx c e=>(hf b hb).2.2.2.2.1 x c (sub x c e)⟩,λb o e=>I.bs b o e,Zr I.ok.bsz I.sz,λb o e hb=>?_,λb hb z=>?_,I.stack,I.stkFree⟩
  ·exact hasF (x,.free) (eT (freeOf x hx)) rfl
  ·rcases(hf b hb).2.2.2.1 with z | z
   ·exact I.ok.noex b o e z
   ·rw[(I.ok.bs b o e).1] at z;cases z
  ·rcases List.mem_cons.mp (I.stkSub b z) with z | z
   ·exact(hf b hb).2.1 z
   ·exact(hf b hb).2.2.1 z
 refine⟨ok,rfl,I.bare,Un.kept old,⟨m,hns,λi x v e1 e2 e3=>?_⟩,λx c e=>?_,I.hok.fresh (Zq _),λx c e=>I.freeC x c (sub x c e),λp hp=>(nomatch hp),I.hok.kept old, ?_⟩
 ·obtain⟨j,h1,h2,h3⟩:=himp i x v e1 (VF e2);have hk:=hfk (x,.free) (eT h3) rfl;obtain⟨m0,hn0,hl⟩:=I.loc;obtain⟨u,r,lk⟩:=hl j x v h1 h2 (.inr hk);refine⟨u,r, ?_⟩;rcases lk with ⟨k,_⟩ | ⟨k,c,e,z⟩
  ·rcases hk with hk | hk
   ·rw[hk] at k;cases k
   ·rw[hk] at k;cases k
  ·obtain⟨c',hc'⟩:=hasF (x,.free) (eT h3) rfl;have ec:=sub x c' hc';rw[e] at ec;cases ec;obtain⟨o,ho,hd⟩:=z;exact .inr ⟨uZ (env:=X.env) h3,c,hc',o,old c o ho,hd⟩
 ·obtain⟨v,o,ho,hd⟩:=I.cell x c (sub x c e);exact⟨v,o,old c o ho,hd⟩
 ·show(cY N' vs).length=N'.length;unfold cY;simp;omega
def wQ(X:Cx)(ifs:List Expr)(t:TT):Prop:=∀(pins:List (Addr×Obj)) (s:Shared) (Y:St) (H:Hp) (Q:Bool->Hp->Prop),Inv X pins Y H s->t Y H Q ->
 wpAny (model X.prog X.w) X.A (forIn ifs true λc r=>if r=true then do let ok <- isTrue c X.env (eval c X.env);pure (ForInStep.yield ok) else pure (ForInStep.yield r)) (TP X pins Y Q) X.xe s
def aAB:wQ X [] (λY H Q=>Q true H):=λpins s Y H Q I h=>wpAny_tests_nil ⟨H,I,h⟩
def aBc(h:PT X c t):wQ X [c] t:=λpins s Y H Q I q=>wpAny_tests_one (h pins s Y H Q I q)
def QN(N:List Str)(scope:Scope)(N':List Str)(g:TG)(tt:TT)(te:TE)(Y:St)(Q:VK)(J:It)(H1:Hp):Prop:=∃vs:List V,vs.length<=N'.length /\
 (∀(i:Nat) x v,N'[i]?=some x->vs[i]?=some v->∃j:Nat,N[j]?=some x/\Y[j]?=some (some v)/\scope.names.lookup x=some .free) /\
 ∀D,H1 D=none->∃(n:Nat) (LP:Nat->St->Hp->Prop),LP 0 (cY N' vs) (aP H1 D (.lst []))/\∀i Y' H',LP i Y' H' ->
  (J.stop i H'/\Q (.ref D) H')\/(i<n/\J.go i H'/\∀x H2,J.yld i H' x H2->g x Y' H2 λY2 H3=>tt Y2 H3 λb H4 =>
   if b=true then te Y2 H4 λy H5=>∃ys,H5 D=some (.lst ys)/\ys.length<sizeLine/\LP (i+1) Y2 (aP H5 D (.lst (ys++[y]))) else LP (i+1) Y2 H4)
noncomputable def rV(N:List Str)(scope:Scope)(N':List Str)(wi:TI)(g:TG)(tt:TT)(te:TE):TE:=λY H Q=>wi Y H (QN N scope N' g tt te Y Q)
def BU(hc:X.calm=true)(hi:PI X tg iter wi)(hs:∀x,foldedSetIterable iter X.env x=pure x)
  (hkind:scope.kind=.function) (hcell:∀y∈scope.names,y.2≠.cell) (hnames:∀x∈scope.names,x.2=.local->scope.names.lookup x.1=some .local)
  (hfk:∀p∈scope.names,p.2=.free->X.env.kindOf p.1=some .cell\/X.env.kindOf p.1=some .free)
  (hg:∀X',mZ X scope N' X'->PG X' tg g) (ht:∀X',mZ X scope N' X'->wQ X' ifs tt) (he:∀X',mZ X scope N' X'->PE X' elt te) (I:Inv X pins Y H s) (h:rV X.N scope N' wi g tt te Y H Q)
  (fin:∀(D C:Addr) (H':Hp) (s':Shared),Inv X pins Y H' s'->Q (.ref D) H'->H' C=none->X.s₀.heap.objs.size<=C->C≠X.env.locals->(∀x c,X.env.cells.lookup x=some c->c≠C)->(∀p∈X.pn++pins,p.1≠C)->(∃m,s'.heap.Ns C m) ->
   compPost (model X.prog X.w) X.A X.xe use QF (.ref D) C (.ok .next) s') :
  wpAny (model X.prog X.w) X.A (comprehension (.ListComp elt [⟨tg,iter,ifs,0⟩] scope pos) scope X.env ps (newList []) false (eval iter X.env) use) QF X.xe s:=by
 obtain⟨cl,hclos,sub,hasF⟩:=aAx (env:=X.env) λp hp hf=>I.ok.has p.1 (hfk p hp hf)
 refine wpAny_comprehension_free rfl hs hclos hkind hnames (bG (hi pins s Y H _ I h) λv s1 h1=>bG h1 λitv s2 h2=>?_);obtain⟨it,fp,tn,J,H2,e,I2,T,st2,f2,vs,hvl,himp,hD⟩:=h2;subst e
 have fpl:∀b∈fp,b<s2.heap.objs.size:=λb hb=>by(obtain⟨o,e,_⟩:=T.obj _ _ st2 b hb;exact Zv e)
 refine wpAny_newObj_type (wpAny_newFunctionEnv hcell (by intro y hy;simp at hy) (λh₁ hns₁ hsb₁=>?_) hkind);dsimp only at hns₁ hsb₁ ⊢;have I3:Inv X pins Y (aP H2 s2.heap.objs.size (.lst [])) { s2 with heap:=s2.heap.push { cls:=.type "list",dict:=none,data:=.seq ([]:List Value).toArray } }:=I2.lnew (its:=[]) (t':=s2.toks) .nil (Nat.zero_le _);obtain⟨n,LP,l0,turn⟩:=hD s2.heap.objs.size I2.fresh;generalize hs3:({ s2 with heap:=s2.heap.push { cls:=.type "list",dict:=none,data:=.seq ([]:List Value).toArray } }:Shared)=s3 at I3;have hh3:s3.heap=s2.heap.push { cls:=.type "list",dict:=none,data:=.seq ([]:List Value).toArray }:=by rw[<- hs3]
 rw[<- hh3] at hns₁ hsb₁ ⊢;have f3:∀b∈fp,kC X pins (aP H2 s2.heap.objs.size (.lst [])) b:=λb hb=>⟨by rw[aM (Zz (fpl b hb))];exact(f2 b hb).1,(f2 b hb).2⟩
 have fpl3:∀b∈fp,b<s3.heap.objs.size:=λb hb=>by rw[hh3,Heap.size_push];exact Nat.lt_succ_of_lt (fpl b hb)
 let R:Result->Shared->Prop:=compPost (model X.prog X.w) X.A X.xe use QF (.ref s2.heap.objs.size) s3.heap.objs.size
 let X':Cx:=WZ X scope cl s3.heap.objs.size N' s3 (aP H2 s2.heap.objs.size (.lst [])) fp (notedBy (model X.prog X.w) X.A (compEnvC scope cl s3.heap.objs.size X.env) λe s'=>R (.error e) s')
 have hX':mZ X scope N' X':=⟨_,_,_,_,_,_,rfl⟩
 have I4:∀tk,Inv X' [] (cY N' vs) (aP H2 s2.heap.objs.size (.lst [])) { s3 with heap:=h₁,toks:=tk }:=λtk=>I3.block hkind hcell sub hasF hfk f3 fpl3 hvl himp _ hns₁ hsb₁
 have old:∀b o,s3.heap.get? b=some o->h₁.get? b=some o:=λb o e=>(hsb₁.2 b (Zz (Zv e))).trans (Zd _ e)
 have st4:tn 0 h₁:=T.keep _ _ _ st2 λb hb o e=>old b o (by rw[hh3];exact Zd _ e)
 have stat:∀{H':Hp},(∀b∈fp,H' b=none)->∀b∈fp,kC X' [] H' b:=λhn b hb=>⟨hn b hb,Zz (fpl3 b hb),λz=>by
  rcases List.mem_cons.mp (I3.stkSub b z) with z | z
  ·exact(f2 b hb).2.1 z
  ·exact(f2 b hb).2.2.1 z,.inl hb,λx c e=>(f2 b hb).2.2.2.2.1 x c (sub x c e),λp hp=>(nomatch hp)⟩
 have loop:∀tk,codeAny (model X.prog X.w) X.A (.compLoop (.ListComp elt [⟨tg,iter,ifs,0⟩] scope pos) 0 (.ref it) (.ref s2.heap.objs.size) (compEnvC scope cl s3.heap.objs.size X.env)) R { s3 with heap:=h₁,toks:=tk }:=by
  intro tk;refine FE (λm s'=>∃i Y' H',m=n-i/\Inv X' [] Y' H' s'/\tn i s'.heap/\(∀b∈fp,H' b=none)/\LP i Y' H') ?_ n ⟨0,_,_,by simp,I4 tk,st4,λb hb=>(f3 b hb).1,l0⟩
  rintro m s5 ⟨i,Y5,H5,rfl,I5,st5,fr5,w5⟩
  rcases turn i Y5 H5 w5 with ⟨stop,qn⟩ | ⟨hin,go,step⟩
  ·refine bG (T.done X' rfl rfl rfl hc i [] s5 Y5 H5 _ I5 (stat fr5) st5 stop) λr s6 ⟨hr,I6⟩=>?_
   subst hr;obtain⟨m6,hn6,_⟩:=I6.loc;have IX:Inv X pins Y H5 s6:=I3.call' (s':=s6) (ch:=fp) I6.os I6.base I6.hok I6.bare λb hb=>⟨(f2 b hb).2.2.2.1,(f2 b hb).2.1,(f2 b hb).2.2.2.2.1,(f2 b hb).2.2.2.2.2⟩
   refine fin _ _ H5 s6 IX qn I6.free I3.sz (λz=>Nat.lt_irrefl _ (Zl I3.lt (Nat.le_of_eq z))) (λx c e z=>?_) (λp hp z=>?_) ⟨m6,hn6⟩
   ·obtain⟨v,o,ho,hd⟩:=I3.cell x c e;rw[z] at ho;exact Nat.lt_irrefl _ (Zv ho)
   ·have:=(I3.pin p hp).1
    rw[z] at this;exact Nat.lt_irrefl _ (Zv this)
  ·refine bG (T.item X' rfl rfl rfl hc i [] s5 Y5 H5 _ I5 (stat fr5) st5 go) λr s6 ⟨u,hr,h6⟩=>?_
   subst hr;refine bG h6 λ_ s7 ⟨x,H7,I7,r7,y7,st7,fr7⟩=>?_
   have I7':=I7.pinned (stat fr7) (T.obj _ _ st7)
   have again:∀{Y8:St} {H8:Hp} {s8:Shared},Inv X' ([]++uL fp s7.heap) Y8 H8 s8->LP (i+1) Y8 H8->∃m,m<n-i/\∃i Y' H',m=n-i/\Inv X' [] Y' H' s8/\tn i s8.heap/\(∀b∈fp,H' b=none)/\LP i Y' H':=λ{Y8 H8 s8} I8 w8=>by(refine⟨n-(i+1),by omega,i+1,Y8,H8,rfl,I8.unpinned,T.keep _ _ _ st7 λb hb o e=>(I8.pin (b,o) (List.mem_append_right _ (List.mem_append_right _ (nC hb e)))).1,λb hb=>?_,w8⟩;obtain⟨o,e,d⟩:=T.obj _ _ st7 b hb;exact(I8.pin (b,o) (List.mem_append_right _ (List.mem_append_right _ (nC hb e)))).2.1)
   refine bG (hg X' hX' _ s7 Y5 H7 x u _ I7' r7 (step x H7 y7)) λ_ s8 ⟨Y8,H8,I8,q8⟩=>?_
   refine bG (ht X' hX' _ s8 Y8 H8 _ I8 q8) λb s9 ⟨H9,I9,q9⟩=>?_
   cases b with
   |false=>exact again I9 q9
   |true =>
    refine bG (he X' hX' _ s9 Y8 H9 _ I9 q9) λy s10 ⟨yv,H10,I10,r10,ys,hy,hz,q10⟩=>?_
    refine bG (BO (X:=X') _ s10 Y8 H10 (.ref s2.heap.objs.size) [yv] (.ref s2.heap.objs.size) [y] (λ_ H'=>LP (i+1) Y8 H') I10 rfl (.cons r10 .nil) ⟨_,ys,yv,rfl,rfl,hy,hz,q10⟩) λ_ s11 ⟨_,H11,I11,_,q11⟩=>?_
    exact again I11 q11
 subst hs3;exact codeAny_compStart_list (loop _) (T.self _ 0 _ _ _ st4 (loop _))
def KC(hc:X.calm=true)(hi:PI X tg iter wi)(hs:∀x,foldedSetIterable iter X.env x=pure x)
  (hkind:scope.kind=.function) (hcell:∀y∈scope.names,y.2≠.cell) (hnames:∀x∈scope.names,x.2=.local->scope.names.lookup x.1=some .local)
  (hfk:∀p∈scope.names,p.2=.free->X.env.kindOf p.1=some .cell\/X.env.kindOf p.1=some .free)
  (hg:∀X',mZ X scope N' X'->PG X' tg g) (ht:∀X',mZ X scope N' X'->wQ X' ifs tt) (he:∀X',mZ X scope N' X'->PE X' elt te) :
  PE X (.ListComp elt [⟨tg,iter,ifs,0⟩] scope pos) (rV X.N scope N' wi g tt te):=by
 intro pins s Y H Q I h;rw[eval_ListComp];refine BU (use:=none) (QF:=EP X pins Y Q) hc hi hs hkind hcell hnames hfk hg ht he I h λD C H' s' I' q hC hz hL hcl hp hm=>?_
 obtain⟨m,hm⟩:=hm;refine⟨m,hm,λh' sb=>⟨.ref D,H',I'.turned (t':=s'.toks) (λb o hb e=>(sb.2 b hb).trans e) hC hL (.inr (Heap.get?_none_of_le hz)) hcl hp,rfl,q⟩⟩
def D9(hsw:swapsWith (.ListComp elt [⟨tg,iter,ifs,0⟩] scope pos) (some (.Name y py)) spos.line X.env=pure true)
  (hN:X.N.Nodup) (hy:X.N[i]?=some y) (hx:CS X.env.scope y) (hf:X.fn y=true\/X.env.scope.names.lookup y=some .local) (hc:X.calm=true) (hi:PI X tg iter wi) (hs:∀x,foldedSetIterable iter X.env x=pure x)
  (hkind:scope.kind=.function) (hcell:∀y∈scope.names,y.2≠.cell) (hnames:∀x∈scope.names,x.2=.local->scope.names.lookup x.1=some .local)
  (hfk:∀p∈scope.names,p.2=.free->X.env.kindOf p.1=some .cell\/X.env.kindOf p.1=some .free)
  (hg:∀X',mZ X scope N' X'->PG X' tg g) (ht:∀X',mZ X scope N' X'->wQ X' ifs tt) (he:∀X',mZ X scope N' X'->PE X' elt te) :
  PS X (.Assign [.Name y py] (.ListComp elt [⟨tg,iter,ifs,0⟩] scope pos) spos) (RQ (rV X.N scope N' wi g tt te) (v7 i)):=by
 intro pins s Y H D0 I h;rw[exec_Assign_Name_used _ _ _ _ hsw];refine Zt (wpAny_standAt (Zt ?_));show wpAny _ X.A (do let _ <- comprehension (.ListComp elt [⟨tg,iter,ifs,0⟩] scope pos) scope X.env _ (newList []) false (eval iter X.env) (some (assign (.Name y py) X.env))) _ _ s;refine Zt (wpAny_mono (BU (use:=some (assign (.Name y py) X.env)) (QF:=λ_ s'=>SP X pins D0 .next s') hc hi hs hkind hcell hnames hfk hg ht he I h λD C H' s' I' q hC hz hL hcl hp hm=>?_) (λ_ s' hq=>Zu (Zu hq)) λ_ _ e=>e);obtain⟨m,hm⟩:=hm;refine wpAny_assign_Name (CM I' hN hy hx (v:=.ref D) rfl (λs2 I2 ⟨a,sb,ha⟩=>?_) hf)
 have hne:a≠C:=by
  rcases ha with rfl | ha
  ·exact Ne.symm hL
  ·exact hcl _ _ ha
 refine⟨m,hm.sameBut sb (Ne.symm hne),λh' sb2=>⟨_,H',I2.turned (t':=s2.toks) (λb o hb e=>(sb2.2 b hb).trans e) hC hL (.inr (Heap.get?_none_of_le hz)) hcl hp,q⟩⟩
end
end L2
namespace CI
open PySem PySem.Spec PyProof.Rows L2
section
variable{X:Cx}{K:Frag}{P:aW}{C:Calls}{Z:CC}
theorem bM.inner(xo:bM X K P C Z)(hk:X.env.scope.kind=.function)(nd:(fW scope++fJ scope).Nodup)(b:mZ X scope (Z.inner scope).N X'):bM X' K P C (Z.inner scope):=by
 obtain⟨cl,C0,s₃,H₃,fp,xe,rfl⟩:=b;refine bM.of xo.keq rfl ?_ nd xo.calm xo.hh xo.hu xo.con xo.blt (λx f h=>?_) (λx ns h=>?_) (λm tb c f h1 h2=>?_) xo.rm xo.sub xo.subx ⟨xo.exc,λx h=>?_⟩ xo.exs (λx f h=>?_) xo.tp
 ·show(relabel scope X.env).names=(Z.inner scope).names;unfold relabel CC.inner;simp only;congr 1
  funext p
  obtain⟨n,k⟩:=p;have e:X.env.kindOf n=Z.names.lookup n:=by unfold PySem.Env.kindOf;rw[xo.nm]
  simp only[hk,e];simp
 ·obtain⟨fa,fd,ps,k,h1,h2,h3,h4,h5⟩:=(xo.fn x f h).ex;exact⟨⟨fa,fd,ps,k,h1,h2,h3,h4,h5⟩⟩
 ·obtain⟨Ca,fa,fd,ps,h1,h2,h3,h4,h5,h6⟩:=(xo.cls x ns h).ex;exact⟨⟨Ca,fa,fd,ps,h1,h2,h3,h4,h5,h6⟩⟩
 ·obtain⟨Ca,fa,fd,ps,k,z1,z2,z3,z4,z5,z6⟩:=(xo.mth m tb c f h1 h2).ex;exact⟨⟨Ca,fa,fd,ps,k,z1,z2,z3,z4,z5,z6⟩⟩
 ·exact⟨trivial⟩
 ·exact⟨trivial⟩
noncomputable def yN(K:Frag)(P:aW)(C:Calls)(cs:List E):TT:=λY H Q=>∃(U:Env) (G:Hp) (b:Bool) (U':Env),Rel K U Y H G/\dI P C cs U=some (.ok (.sh (.bl b)),U') /\
 ∀H' G',Aft K U Y H G U' H' G'->Q b H'
def FY:wQ X [] (yN K P C []):=λpins s Y H Q I ⟨U,G,b,U',r,e,k⟩=>by
 rw[dI] at e;cases e;exact aAB pins s Y H Q I (k H G (Aft.refl r))
def GD(h:Ok3 X K P C c cc):wQ X [c] (yN K P C [cc]):=λpins s Y H Q I ⟨U,G,b,U',r,e,k⟩=>by
 refine aBc h.t pins s Y H Q I ?_;rw[dI] at e;obtain⟨v,U1,e1,e2⟩:=aK e;split at e2
 ·rw[dI] at e2;cases e2;exact⟨U,G,true,_,r,e1,k⟩
 ·cases e2;exact⟨U,G,false,_,r,e1,k⟩
 ·cases e2
theorem AftS.poke(b:AftS K U Y H G U' Y' H' G')(h:H a=none)(g:G' a=none)(n:¬aL U' Y' a):AftS K U Y H G U' Y' (aP H' a o) G':=by
 refine⟨b.rel.poke g n,⟨b.ext.gg,λc u e nc=>?_,λc e=>?_,b.ext.gn⟩,b.own,b.un,b.pin,b.len⟩
 ·have:c≠a:=λz=>by subst z;rw[h] at e;cases e
  rw[aM this];exact b.ext.hh c u e nc
 ·by_cases hc:c=a
  ·subst hc;rw[bA] at e;cases e
  ·rw[aM hc] at e;exact b.ext.hx c e
theorem vA{bind:D->Env->Option Env}:∀{ds acc acc':List D} {U U':Env},fH tests elt bind ds acc U=some (.ok acc',U')->acc.length<=acc'.length
 |[],acc,acc',U,U',e=>by simp only[fH,Option.some.injEq,Prod.mk.injEq,Out.ok.injEq] at e;rw[e.1];exact Zq _
 |d::ds,acc,acc',U,U',e=>by
  simp only[fH] at e;split at e
  ·cases e
  ·obtain⟨c,U2,e1,e2⟩:=aK e;split at e2
   ·obtain⟨v,U3,e3,e4⟩:=aK e2
    have:=vA e4
    simp at this;omega
   ·exact vA e2
   ·cases e2
theorem yK:∀(imp:List Nat) (U:Env) (as:List Sl) (U1:Env),Rel K U Y H G->bV (imp.map λ_=>true) (imp.map Hd.slot) U=some (as,U1) ->
  ∃xs,dZ K H G own new Y (imp.map Hd.slot) xs/\xs.length=imp.length/\(∀a,¬oE (imp.map Hd.slot) xs a)/\∀(j:Nat) v,xs[j]?=some v->∃i:Nat,imp[j]?=some i/\Y[i]?=some (some v)
 |[],U,as,U1,r,e=>⟨[],rfl,rfl,λa z=>z,λj v h=>by simp at h⟩
 |i::imp,U,as,U1,r,e=>by
  have go:∀(U2:Env) (as2:List Sl) (U3:Env),Rel K U2 Y H G->bV (imp.map λ_=>true) (imp.map Hd.slot) U2=some (as2,U3)->(∃v,Y[i]?=some (some v)) ->
    ∃xs,dZ K H G own new Y ((i::imp).map Hd.slot) xs/\xs.length=(i::imp).length/\(∀a,¬oE ((i::imp).map Hd.slot) xs a)/\∀(j:Nat) v,xs[j]?=some v->∃i':Nat,(i::imp)[j]?=some i'/\Y[i']?=some (some v):=by
   intro U2 as2 U3 r2 e2 ⟨v,hv⟩;obtain⟨xs,h1,h2,h3,h4⟩:=yK imp U2 as2 U3 r2 e2;refine⟨v::xs,⟨v,xs,rfl,hv,h1,λd a z=>(nomatch z)⟩,by simp[h2],λa z=>h3 a z,λj w hw=>?_⟩
   cases j with
   |zero=>simp only[zr,Option.some.injEq] at hw;subst hw;exact⟨i,rfl,hv⟩
   |succ j=>exact h4 j w (by simpa using hw)
  simp only[Zs,bV] at e;split at e
  ·rename_i d hi
   cases q:bV (imp.map λ_=>true) (imp.map Hd.slot) U with
   |none=>rw[q] at e;cases e
   |some y=>exact go U y.1 y.2 r q (r.bound (by rw[hi];rfl))
  ·rename_i d p l hi
   cases q:bV (imp.map λ_=>true) (imp.map Hd.slot) (U.set i .un) with
   |none=>rw[q] at e;cases e
   |some y=>exact go _ y.1 y.2 (r.unset i) q (r.bound (by rw[hi];rfl))
  ·cases e
def IG(ho:∀i,o=some i->∃d p l,U1[i]?=some (.ow d p l))(e:fB o U1 U2=some U')(h:jU (aQ o U1) U2):jU U1 U':=by
 cases o with
 |none=>simp only[fB,Option.some.injEq] at e;subst e;exact h
 |some i =>
  obtain⟨d,p,l,hi⟩:=ho i rfl;simp only[fB] at e;split at e
  ·rename_i sl hf hs;rw[hi] at hs;cases hs;cases e;intro j;by_cases hj:j=i
   ·subst hj;rw[hi,zk (Zc.mp hf).1];exact eF.refl _
   ·have:=h j
    rw[Zf (λz=>hj z.symm)]
    have e2:(aQ (some i) U1)[j]?=U1[j]?:=by(show(U1.set i .un)[j]?=_;rw[Zf (λz=>hj z.symm)])
    rw[e2] at this;exact this
  ·cases e
theorem J6{Z:CC}:∀{xs:List Str} {imp:List Nat},Z.imps xs=some imp->imp.length=xs.length/\∀(j:Nat) x i,xs[j]?=some x->imp[j]?=some i->Z.N[i]?=some x
 |[],imp,h=>by simp only[CC.imps,Option.some.injEq] at h;subst h;exact⟨rfl,λj x i z=>by simp at z⟩
 |x::xs,imp,h=>by
  simp only[CC.imps] at h
  cases q:Z.N.idxOf? x with
  |none=>rw[q] at h;cases h
  |some i =>
   rw[q] at h;simp only[Option.bind_some] at h
   cases q2:Z.imps xs with
   |none=>rw[q2] at h;cases h
   |some r =>
    rw[q2] at h;simp only[Option.map_some,Option.some.injEq] at h;subst h;obtain⟨h1,h2⟩:=J6 q2;refine⟨by simp[h1],λj y k hy hk=>?_⟩
    cases j with
    |zero =>
     simp only[zr,Option.some.injEq] at hy hk;subst hy hk;exact o3 q
    |succ j=>exact h2 j y k (by simpa using hy) (by simpa using hk)
structure ScOk(Z:CC)(scope:Scope):Prop where
 kind:scope.kind=.function
 cell:∀y∈scope.names,y.2≠.cell
 names:∀x∈scope.names,x.2=.local->scope.names.lookup x.1=some .local
 free:∀x∈scope.names,x.2=.free->scope.names.lookup x.1=some .free
 out:∀p∈scope.names,p.2=.free->Z.names.lookup p.1=some .cell\/Z.names.lookup p.1=some .free
 nd:(fW scope++fJ scope).Nodup
def X4(h:Z.scOk scope=true):ScOk Z scope:=by
 unfold CC.scOk at h;simp only[ZB,List.all_eq_true,decide_eq_true_eq,beq_iff_eq,bne_iff_ne,Bool.or_eq_true,ne_eq] at h;obtain⟨⟨⟨⟨h1,h2⟩,h3⟩,h4⟩,h5⟩:=h;refine⟨h1,h2,λx hx hl=>?_,λx hx hf=>?_,λx hx hf=>?_,h5⟩
 ·rcases h3 x hx with z | z
  ·exact absurd hl z
  ·exact z
 ·rcases h4 x hx with z | z
  ·exact absurd hf z
  ·exact z.1
 ·rcases h4 x hx with z | z
  ·exact absurd hf z
  ·exact z.2
def MK(sc:ScOk Z scope)(h:x∈fW scope):scope.names.lookup x=some .free:=by
 unfold fW at h;obtain⟨p,hp,rfl⟩:=zl.mp h;obtain⟨h1,h2⟩:=List.mem_filter.mp hp;exact sc.free p h1 (Zy h2)
def B2(K:Frag)(U0:Env)(Y0:St)(H1 G2:Hp)(ds:List D)(J:It):Prop:=∀i H' Uc Y' Gc,AftS K U0 Y0 H1 G2 Uc Y' H' Gc->(i=ds.length->J.stop i H')/\(i<ds.length->J.go i H')/\∀d x H2,ds[i]?=some d->J.yld i H' x H2->∃Gd,Aft K Uc Y' H' Gc Uc H2 Gd/\aC K Gd d x
def wB(K:Frag)(G:Hp)(ds:List D)(R:It->Prop):Prop:=∀a xs ep,ds=(xs.map (·.1)).map m9->G a=some (.ext (cJ a xs ep))->(∀x∈xs,bR K G x.1 x.2.1)->R (Itd a xs ep)
def wB.imp(h:wB K G ds R)(k:∀J,R J->R' J):wB K G ds R':=λa xs ep h1 h2 h3=>k _ (h a xs ep h1 h2 h3)
def aCu(gg2:aV G1 G2):wB K G1 ds (B2 K U0 Y0 H1 G2 ds):=by
 intro a xs ep hds h1 h2 i H' Uc Y' Gc af;have hG:Gc a=some (.ext (cJ a xs ep)):=af.ext.gg.app (λ_ z=>nomatch z) (gg2 _ _ h1);have hnow:=af.rel.sub _ _ hG;have hl:ds.length=xs.length:=by rw[hds,List.length_map,List.length_map]
 refine⟨λhi=>⟨hnow,by omega⟩,λhi=>⟨hnow,by omega⟩,λd v H2 hd hy=>?_⟩;obtain⟨rfl,x,hx,rfl⟩:=hy;rw[hds,Zh,Zh,hx] at hd;cases hd;exact⟨_,Aft.refl af.rel,JD (bR.mono af.ext.gg (bR.mono (Sm.of gg2) (h2 x (zj hx))))⟩
def aC9(gg2:aV G1 G2)(own:∀c,aL U0 Y0 c->aL (aQ o U1) Y c) :
  (∀a vs,lP K (aQ o U1) Y H1 G1 a vs->aB K G1 ds vs->B2 K U0 Y0 H1 G2 ds (qA K a))/\(∀a vs,dE K G1 a vs->aB K G1 ds vs->B2 K U0 Y0 H1 G2 ds (qG K a))/\(∀(lo:Int) (n:Nat),ds=(List.range n).map (λ(j:Nat)=>D.int (lo+(j:Int)))->B2 K U0 Y0 H1 G2 ds (oH lo n))/\(∀a vs ds0 lo,ds=dY lo ds0->lP K (aQ o U1) Y H1 G1 a vs->aB K G1 ds0 vs->B2 K U0 Y0 H1 G2 ds (qC K a lo))/\(∀x,ds=DR x->PyData.strOk x=true->B2 K U0 Y0 H1 G2 ds (Its x))/\wB K G1 ds (B2 K U0 Y0 H1 G2 ds):=by
 refine⟨λa vs hsrc hr=>?_,λa vs ht hr=>?_,λlo n hds=>?_,λa vs ds0 lo hds hsrc hr=>?_,λx hds hok=>?_,aCu gg2⟩
 ·intro i H' Uc Y' Gc af
  have hnow:bU K H' a vs:=by
   rcases hsrc with h | ⟨h1,h2,h3⟩
   ·exact af.rel.sub.seq (af.ext.gg.seq (gg2.seq h))
   ·exact bU.of (af.ext.hh a _ h1 λz=>h3 (own a z))
  refine⟨λhi=>⟨vs,hnow,by rw[hr.len];omega⟩,λhi=>?_,λd x H2 hd hy=>?_⟩
  ·obtain⟨x',h1,h2⟩:=hr.get (Zb hi);exact⟨vs,x',hnow,h1⟩
  ·obtain⟨rfl,hy⟩:=hy;obtain⟨x',h1,h2⟩:=hr.get hd
   have:=hy vs hnow
   rw[h1] at this;cases this;exact⟨_,Aft.refl af.rel,aC.mono af.ext.gg d (aC.mono gg2 d h2)⟩
 ·intro i H' Uc Y' Gc af;have hnow:dE K H' a vs:=dJ af.rel.sub (dJ af.ext.gg (dJ gg2 ht));refine⟨λhi=>⟨vs,hnow,by rw[hr.len];omega⟩,λhi=>?_,λd x H2 hd hy=>?_⟩
  ·obtain⟨x',h1,h2⟩:=hr.get (Zb hi);exact⟨vs,x',hnow,h1⟩
  ·obtain⟨rfl,hy⟩:=hy;obtain⟨x',h1,h2⟩:=hr.get hd
   have:=hy vs hnow
   rw[h1] at this;cases this;exact⟨_,Aft.refl af.rel,aC.mono af.ext.gg d (aC.mono gg2 d h2)⟩
 ·intro i H' Uc Y' Gc af;have hlen:ds.length=n:=by rw[hds];simp
  refine⟨λhi=>by show n<=i;omega,λhi=>by show i<n;omega,λd x H2 hd hy=>?_⟩;obtain⟨rfl,hy⟩:=hy;have hi:i<n:=by rw[<- hlen];exact(Zc.mp hd).1
  have hd':ds[i]?=some (.int (lo+(i:Int))):=by rw[hds];simp[hi]
  rw[hd'] at hd;cases hd;subst hy;exact⟨_,Aft.refl af.rel,by simp[aC]⟩
 ·intro i H' Uc Y' Gc af;subst hds
  have hnow:bU K H' a vs:=by
   rcases hsrc with h | ⟨h1,h2,h3⟩
   ·exact af.rel.sub.seq (af.ext.gg.seq (gg2.seq h))
   ·exact bU.of (af.ext.hh a _ h1 λz=>h3 (own a z))
  refine⟨λhi=>⟨vs,hnow,by rw[hr.len,<- gF (lo:=lo)];omega⟩,λhi=>?_,λd x H2 hd hy=>?_⟩
  ·obtain⟨x',h1,h2⟩:=hr.get (Zb (by rw[gF] at hi;exact hi));exact⟨vs,x',hnow,h1⟩
  ·obtain⟨p0,y0,hn,rfl,rfl,hy⟩:=hy;have hl:i<ds0.length:=by rw[<- gF];exact(Zc.mp hd).1
   obtain⟨x',h1,h2⟩:=hr.get (Zb hl);have hy:=hy vs hnow;rw[h1] at hy;cases hy;rw[oX (Zb hl)] at hd;cases hd;exact⟨_,(Aft.refl af.rel).layG hn,FU (aV.free af.rel.sub hn) (aC.mono af.ext.gg _ (aC.mono gg2 _ h2))⟩
 ·intro i H' Uc Y' Gc af;have hlen:ds.length=x.cps.size:=by rw[hds];simp[DR]
  refine⟨λhi=>by show x.cps.size<=i;omega,λhi=>by show i<x.cps.size;omega,λd v H2 hd hy=>?_⟩;obtain⟨rfl,c,hc,rfl⟩:=hy;rw[hds] at hd;unfold DR at hd;rw[Zh,Array.getElem?_toList,hc] at hd;cases hd;refine⟨_,Aft.refl af.rel, ?_⟩;unfold aC;refine⟨rfl, ?_⟩;unfold PyData.strOk at hok ⊢
  have:=Array.all_eq_true.mp hok i (Array.getElem?_eq_some_iff.mp hc).1
  rw[(Array.getElem?_eq_some_iff.mp hc).2] at this;simpa using this
abbrev EC(K:Frag)(P:aW)(C:Calls)(k0:ItK)(its:List E)(Y:St)(H:Hp)(R:It->Hp->Prop):Prop:=∃(U:Env) (G:Hp) (hs:List Hd) (U1:Env) (ds:List D) (o:Option Nat),Rel K U Y H G/\cU P C its U=some (.ok hs,U1)/\aD k0 hs U1=some (ds,o) /\
   ∀H1 G1,Aft K U Y H G U1 H1 G1->(∀i,o=some i->∃d p l,U1[i]?=some (.ow d p l)) ->
    (∀a vs,lP K (aQ o U1) Y H1 G1 a vs->aB K G1 ds vs->R (qA K a) H1)/\(∀a vs,dE K G1 a vs->aB K G1 ds vs->R (qG K a) H1)/\(∀(lo:Int) (n:Nat),ds=(List.range n).map (λ(j:Nat)=>D.int (lo+(j:Int)))->R (oH lo n) H1)/\(∀a vs ds0 lo,ds=dY lo ds0->lP K (aQ o U1) Y H1 G1 a vs->aB K G1 ds0 vs->R (qC K a lo) H1)/\(∀x,ds=DR x->PyData.strOk x=true->R (Its x) H1)/\wB K G1 ds λJ=>R J H1
abbrev Hw4(K:Frag)(P:aW)(C:Calls)(k0:ItK)(its:List E)(Y:St)(H:Hp)(R:It->Hp->Prop):Prop:=∃(U:Env) (G:Hp) (hs:List Hd) (U1:Env) (ds:List D) (o:Option Nat),Rel K U Y H G/\cU P C its U=some (.ok hs,U1)/\aD k0 hs U1=some (ds,o) /\
   ∀H1 G1,Aft K U Y H G U1 H1 G1->(∀i,o=some i->∃d p l,U1[i]?=some (.ow d p l)) ->
    (∀a vs,lP K (aQ o U1) Y H1 G1 a vs->aB K G1 ds vs->R (qA K a) H1)/\(∀a vs,dE K G1 a vs->aB K G1 ds vs->R (qG K a) H1)/\(∀(lo:Int) (n:Nat),ds=(List.range n).map (λ(j:Nat)=>D.int (lo+(j:Int)))->R (oH lo n) H1)/\(∀a vs ds0 lo,ds=dY lo ds0->lP K (aQ o U1) Y H1 G1 a vs->aB K G1 ds0 vs->R (qC K a lo) H1)
def WB(q:EC K P C k0 its Y H R):Hw4 K P C k0 its Y H R:=by
 obtain⟨U,G,hs,U1,ds,o,r,e,ei,k⟩:=q;refine⟨U,G,hs,U1,ds,o,r,e,ei,λH1 G1 a ho=>?_⟩;obtain⟨k1,k2,k3,k4,_⟩:=k H1 G1 a ho;exact⟨k1,k2,k3,k4⟩
def aDW(Y:St)(H:Hp)(R:It->Hp->Prop)(q:EC K P C .key [c] Y H R):V5 (tH K P C c) Y H R:=by
 obtain⟨U,G,hs,U1,ds,o,r,e,ei,k⟩:=q;simp only[cU] at e;obtain⟨h,U2,e1,e2⟩:=aK e;simp only[aR.bind,Option.some.injEq,Prod.mk.injEq,Out.ok.injEq] at e2;obtain⟨rfl,rfl⟩:=e2;refine⟨U,G,h,_,r,e1,λv H1 G1 a1 hv=>?_⟩;obtain _ | w:=h
 ·cases ei
 ·change GN w=_ at ei;unfold GN at ei;split at ei
  ·cases ei;replace hv:aC K G1 _ v:=hv;simp only[aC] at hv;obtain⟨a,xs,vs,rfl,⟨ep,h1⟩,h2,h3⟩:=hv;exact⟨a,xs,ep,rfl,h2.2.2.1,a1.rel.sub _ _ h1,(k H1 G1 a1 λi z=>nomatch z).2.2.2.2.2 a xs ep (by rw[h2.2.2.2.2.1]) h1 h2.2.2.2.1⟩
  ·cases ei
def F4(xo:bM X K P C Z){its cond:List E}(helt:∀U v U',elt U=some (.ok v,U')->ev P C false ce U=some (.ok v,U'))(sc:ScOk Z scope)(himp:Z.imps (fW scope)=some imp)
  (hw:∀Y H (R:It->Hp->Prop),EC K P C k0 its Y H R->wi Y H R) (h:∃(U:Env) (G:Hp) (v:RV) (U':Env),Rel K U Y H G/\evG P C elt is k0 its cond imp (fJ scope).length U=some (.ok v,U')/\∀x H' G',Aft K U Y H G U' H' G'->cR K H' G' (aL U' Y) (dR H) v x->((∀U v U',elt U=some (.ok v,U')->∃ds,v=.ow (.lst ds)/\ds.length<=1000)->∀a,x=.ref a->Rows H' (aL U' Y) (dR H) a)->Q x H'):rV X.N scope (Z.inner scope).N wi (gB K (is.length==1) is) (yN K P C cond) (tE K P C ce) Y H Q:=by
 obtain⟨U,G,v,U',r,e,k⟩:=h;unfold evG at e;obtain⟨hs',U1,e1,e2⟩:=aK e
 cases q:aD k0 hs' U1 with
 |none=>rw[q] at e2;cases e2
 |some y =>
  obtain⟨ds,o⟩:=y;rw[q] at e2;obtain⟨v',U2,e3,e4⟩:=aK e2;unfold kP at e4
  cases q3:fB o U1 U2 with
  |none=>rw[q3] at e4;cases e4
  |some U3 =>
   rw[q3] at e4;simp only[Option.map_some,Option.some.injEq,Prod.mk.injEq,Out.ok.injEq] at e4;obtain⟨rfl,rfl⟩:=e4;unfold rV;refine hw Y H _ ⟨U,G,hs',U1,ds,o,r,e1,q,λH1 G1 a1 ho=>?_⟩;have R0:=(l6 (o:=o) a1.rel).1
   have hld:∃as U4,bV (imp.map λ_=>true) (imp.map Hd.slot) (aQ o U1)=some (as,U4):=by
    unfold fF at e3
    cases q4:bV (imp.map λ_=>true) (imp.map Hd.slot) (aQ o U1) with
    |none=>rw[q4] at e3;cases e3
    |some y=>exact⟨y.1,y.2,rfl⟩
   obtain⟨as0,U4,hld⟩:=hld;obtain⟨xs,hx1,hx2,hx3,hx4⟩:=yK (own:=aL (aQ o U1) Y) (new:=dR H1) imp _ _ _ R0 hld;obtain⟨as,G2,as',ra,hal,ef,⟨gg2,ao2⟩,kk⟩:=uH (Aft.refl R0) hx1 e3;unfold oW at ef;split at ef
   ·rename_i hp;obtain⟨acc,Ui,e5,e6⟩:=aK ef;split at e6
    ·rename_i hz;simp only[Option.some.injEq,Prod.mk.injEq,Out.ok.injEq] at e6;obtain⟨rfl,rfl⟩:=e6;obtain⟨il,ig⟩:=J6 himp
     have hNl:(Z.inner scope).N.length=as.length+(fJ scope).length:=by(show(fW scope++fJ scope).length=_;rw[Za,hal,List.length_map,il])
     obtain⟨rp,op⟩:=ra.pad hNl;have hsz:=gI hz
     -- the block's turns
     have turns:∀(J:It),B2 K (as++List.replicate (fJ scope).length .un) (cY (Z.inner scope).N xs) H1 G2 ds J->QN X.N scope (Z.inner scope).N (gB K (is.length==1) is) (yN K P C cond) (tE K P C ce) Y Q J H1:=by
      intro J hJ;refine Exists.intro xs ⟨by rw[hNl,hx2,hal,List.length_map];omega,λi x v hN hv=>?_,λD hD=>?_⟩
      ·obtain⟨j,hj,hY⟩:=hx4 i v hv
       have hlt:i<(fW scope).length:=by(rw[<- il];exact(Zc.mp hj).1)
       have hfx:(fW scope)[i]?=some x:=by
        have:(fW scope++fJ scope)[i]?=some x:=hN
        rwa[List.getElem?_append_left hlt] at this
       exact⟨j,by rw[xo.neq];exact ig i x j hfx hj,hY,MK sc (zj hfx)⟩
      ·have fin:∀Y' H' Gc ys,AftS K (as++List.replicate (fJ scope).length .un) (cY (Z.inner scope).N xs) H1 G2 Ui Y' H' Gc->H' D=some (.lst ys)->Gc D=none->¬aL Ui Y' D->aB K Gc acc ys->((∀U v U',elt U=some (.ok v,U')->∃ds,v=.ow (.lst ds)/\ds.length<=1000)->nF H' (aL Ui Y') (λb=>H1 b=none/\b≠D) ys)->Q (.ref D) H':=by
        intro Y' H' Gc ys a hHD hGD hnD hr hR;obtain⟨b1,b2⟩:=xS ra hp hNl a;obtain⟨c1,c2⟩:=kk (.ref D) H' Gc b1 ⟨D,rfl,hGD,⟨ys,hHD,hr⟩,λz=>hnD (b2 D z),hD⟩;obtain⟨d1,d2⟩:=jV a1.rel ho q3 (Aft.s R0 c1);have a2:Aft K U1 Y H1 G1 U3 H' Gc:=⟨d1.rel,d1.ext,IG ho q3 c1.evo⟩
        obtain⟨D',e',g',o',n',f'⟩:=c2;cases e';refine k _ _ _ (a1.trans a2) ⟨D,rfl,g',o',λz=>?_,a1.fresh hD⟩ λhF c hc=>?_
        ·rcases d2 D z with z | ⟨z,_⟩
         ·exact n' z
         ·exact(a1.rel.owned z).1 hD
        ·cases hc;refine⟨ys,hHD,λx hx=>?_⟩;obtain⟨b,ws,z1,z2,z3,_,z5,z6⟩:=hR hF x hx;exact⟨b,ws,z1,z2,z3,λz=>(a1.rel.owned (a2.own b z)).1 z5,a1.fresh z5,z6⟩
       refine⟨ds.length,λi Y' H'=>i<=ds.length/\∃Uc Gc ac ys,AftS K (as++List.replicate (fJ scope).length .un) (cY (Z.inner scope).N xs) H1 G2 Uc Y' H' Gc/\H' D=some (.lst ys)/\Gc D=none/\¬aL Uc Y' D/\aB K Gc ac ys/\fH (dI P C cond) elt (aU (is.length==1) is) (ds.drop i) ac Uc=some (.ok acc,Ui)/\((∀U v U',elt U=some (.ok v,U')->∃ds,v=.ow (.lst ds)/\ds.length<=1000)->nF H' (aL Uc Y') (λb=>H1 b=none/\b≠D) ys), ?_, ?_⟩
       ·have g2:G2 D=none:=by
         cases z:G2 D with
         |none=>rfl
         |some u=>have:=rp.sub D u z;rw[hD] at this;cases this
        exact⟨Nat.zero_le _,_,G2,[],[],Aft.s rp ((Aft.refl rp).layH hD),bA,g2,rp.notOwn hD,aB.nil,e5,λ_ x hx=>nomatch hx⟩
       ·rintro i Y' H' ⟨hil,Uc,Gc,ac,ys,a,hHD,hGD,hnD,hr,ec,hR⟩
        obtain⟨j1,j2,j3⟩:=hJ i H' Uc Y' Gc a;by_cases hlt:i<ds.length
        ·refine .inr ⟨hlt,j2 hlt,λx H2 hy=>?_⟩;have hd:ds[i]?=some ds[i]:=Zb hlt;obtain⟨Gd,afd,hrep⟩:=j3 _ x H2 hd hy;have hGD:=afd.ext.gn D (by rw[hHD];simp) hGD hnD;have hR:=λz=>(hR z).step afd.ext.hh λb w=>.inl (afd.own b w)
         have hHD:=afd.ext.hh D _ hHD hnD;have hr:=aB.mono afd.ext.gg _ hr;have a:=a.trans (Aft.s a.rel afd);rw[List.drop_eq_getElem_cons hlt] at ec;simp only[fH] at ec;split at ec
         ·cases ec
         ·rename_i Ub hb;obtain⟨c,Ut,et,ec⟩:=aK ec;refine⟨Uc,Gd,ds[i],Ub,a.rel,hrep,hb,λY1 ab=>?_⟩;have a01:=a.trans ab;have hR:=λz=>(hR z).step (λb o w _=>w) ab.own
          have nb:¬aL Ub Y1 D:=λz=>by
           rcases ab.own D z with z | z
           ·exact hnD z
           ·rw[hHD] at z;cases z
          split at ec
          ·obtain⟨w,Ue,ee,ec⟩:=aK ec;refine⟨Ub,Gd,true,Ut,ab.rel,et,λH3 G3 at3=>?_⟩;have h3:H3 D=some (.lst ys):=at3.ext.hh D _ hHD nb;have g3:G3 D=none:=at3.ext.gn D (by rw[hHD];simp) hGD nb;have n3:¬aL Ut Y1 D:=λz=>nb (at3.own D z)
           dsimp only;rw[Zo rfl];refine⟨Ut,G3,w,Ue,at3.rel,helt _ _ _ ee,λy H4 G4 a4 ry=>?_⟩;obtain⟨G5,a5,ry5⟩:=a4.share ry;have h4:H4 D=some (.lst ys):=a5.ext.hh D _ h3 n3;have g5:G5 D=none:=a5.ext.gn D (by rw[h3];simp) g3 n3;have n5:¬aL Ue Y1 D:=λz=>n3 (a5.own D z)
           have hlen:=vA ec;have hyl:=hr.len;rw[Za] at hlen;simp only[Zk,List.length_nil] at hlen;have a05:=(a01.trans (Aft.s ab.rel at3)).trans (Aft.s at3.rel a5);refine⟨ys,h4,by omega,hlt,Ue,G5,ac++[w.d],ys++[y],a05.poke hD g5 n5,bA,g5,n5, ?_,ec,λhF x hx=>?_⟩
           ·exact(aB.mono a5.ext.gg _ (aB.mono at3.ext.gg _ hr)).app (aB.cons ry5 aB.nil)
           ·rcases zo.mp hx with hx | hx
            ·obtain⟨b,ws,z1,z2,z3,z4,z5,z6⟩:=((hR hF).step at3.ext.hh λb w=>.inl (at3.own b w)).step a5.ext.hh (λb w=>.inl (a5.own b w)) x hx;exact⟨b,ws,z1,by rw[aM z6];exact z2,z3,z4,z5,z6⟩
            ·rw[ze.mp hx];obtain⟨dw,rfl,hdw⟩:=hF _ _ _ ee;obtain⟨b,rfl,_,⟨ws,z1,z2⟩,z3,z4⟩:=ry;have hbD:b≠D:=λz=>by subst z;have:H3 b=none:=z4;rw[h3] at this;cases this
             exact⟨b,ws,rfl,by rw[aM hbD];exact z1,by rw[z2.len];exact hdw,z3,(a01.trans (Aft.s ab.rel at3)).ext.hx b z4,hbD⟩
          ·refine⟨Ub,Gd,false,Ut,ab.rel,et,λH3 G3 at3=>?_⟩;have h3:H3 D=some (.lst ys):=at3.ext.hh D _ hHD nb;have g3:G3 D=none:=at3.ext.gn D (by rw[hHD];simp) hGD nb;have n3:¬aL Ut Y1 D:=λz=>nb (at3.own D z)
           dsimp only;rw[Zp (by decide)];exact⟨hlt,Ut,G3,ac,ys,a01.trans (Aft.s ab.rel at3),h3,g3,n3,aB.mono at3.ext.gg _ hr,ec,λhF=>(hR hF).step at3.ext.hh λb w=>.inl (at3.own b w)⟩
          ·cases ec
        ·have hie:i=ds.length:=by omega
         refine .inl ⟨j1 hie, ?_⟩;subst hie;rw[List.drop_length] at ec;simp only[fH,Option.some.injEq,Prod.mk.injEq,Out.ok.injEq] at ec;obtain⟨rfl,rfl⟩:=ec;exact fin _ _ _ _ a hHD hGD hnD hr hR
     have noTmp:∀c,aL as (xs.map some) c->aL (aQ o U1) Y c:=λc z=>by
      rcases ao2 c z with z | z
      ·exact z
      ·exact absurd z (hx3 c)
     obtain⟨w1,w2,w3,w4,w5,w6⟩:=aC9 (K:=K) (U1:=U1) (Y:=Y) gg2 λc z=>noTmp c (op c z)
     exact⟨λa vs h1 h2=>turns _ (w1 a vs h1 h2),λa vs h1 h2=>turns _ (w2 a vs h1 h2),λlo n h1=>turns _ (w3 lo n h1),λa vs ds0 lo h1 h2 h3=>turns _ (w4 a vs ds0 lo h1 h2 h3),λx h1 h2=>turns _ (w5 x h1 h2),w6.imp turns⟩
    ·cases e6
   ·cases ef
def FH(xo:bM X K P C Z){its cond:List E}(sc:ScOk Z scope)(himp:Z.imps (fW scope)=some imp)
  (hw:∀Y H (R:It->Hp->Prop),EC K P C k0 its Y H R->wi Y H R) (h:tE K P C (.comp ce is k0 its cond imp (fJ scope).length) Y H Q):rV X.N scope (Z.inner scope).N wi (gB K (is.length==1) is) (yN K P C cond) (tE K P C ce) Y H Q:=by
 obtain⟨U,G,v,U',r,e,k⟩:=h;exact F4 xo (elt:=ev P C false ce) (λ_ _ _ z=>z) sc himp hw ⟨U,G,v,U',r,e,λx H' G' a hv _=>k x H' G' a hv⟩
def N3(xo:bM X K P C Z)(sc:ScOk Z scope)(himp:Z.imps (fW scope)=some imp)
  (hw:∀Y H (R:It->Hp->Prop),EC K P C k0 its Y H R->wi Y H R) (h:∃(U:Env) (G:Hp) (d:D) (U':Env),Rel K U Y H G/\evD P C ce is k0 its imp (fJ scope).length U=some (.ok (.ow d),U')/\∀x H' G',Aft K U Y H G U' H' G'->cR K H' G' (aL U' Y) (dR H) (.od d) x->Q x H'):rV X.N scope (Z.inner scope).N wi (gB K (is.length==1) is) (yN K P C []) (tE K P C ce) Y H Q:=by
 obtain⟨U,G,d,U',r,e,k⟩:=h
 have hO:∀U v U',W9 (ev P C false ce U)=some (.ok v,U')->ev P C false ce U=some (.ok v,U')/\∃ds,v=.ow (.lst ds)/\ds.length<=1000:=λU v U' z=>by
  unfold W9 at z;split at z
  ·rename_i q;split at z
   ·rename_i hl;cases z;exact⟨q,_,rfl,hl⟩
   ·cases z
  ·cases z
 refine F4 xo (elt:=λU=>W9 (ev P C false ce U)) (λU v U' z=>(hO U v U' z).1) sc himp hw ⟨U,G,.ow d,U',r,e,λx H' G' a hv hR=>k x H' G' a ?_⟩;obtain⟨c,rfl,g,o,n,m⟩:=hv;exact⟨c,rfl,g,o,n,m,hR (λU v U' z=>(hO U v U' z).2) c rfl⟩
noncomputable def tDE(K:Frag)(P:aW)(C:Calls)(c:E):TE:=λY H Q=>match c with
 |.comp ce is k0 its [] imp nl=>∃(U:Env) (G:Hp) (d:D) (U':Env),Rel K U Y H G/\evD P C ce is k0 its imp nl U=some (.ok (.ow d),U')/\∀x H' G',Aft K U Y H G U' H' G'->cR K H' G' (aL U' Y) (dR H) (.od d) x->Q x H'
 |_=>False
def JH(X:Cx)(K:Frag)(P:aW)(C:Calls)(e:Expr)(c:E):Prop:=∀(x:Str) (i:Nat) (p pos:Pos),X.N.Nodup->X.N[i]?=some x->CS X.env.scope x->(X.fn x=true\/X.env.scope.names.lookup x=some .local) ->
 PS X (.Assign [.Name x p] e pos) (RQ (tE K P C c) (v7 i))
def n0:JH X K P C e .bad:=λx i p pos _ _ _ _ pins s Y H D I h=>by
 obtain⟨U,G,v,U',r,e,k⟩:=h;cases e
def ZA(xo:bM X K P C Z){its cond:List E}(sc:ScOk Z scope)(himp:Z.imps (fW scope)=some imp)(htg:mW (Z.inner scope) tg=some (is.length==1,is))
  (hi:PI X tg iter wi) (hs:∀x,foldedSetIterable iter X.env x=pure x)
  (hw:∀Y H (R:It->Hp->Prop),EC K P C k0 its Y H R->wi Y H R)
  (he:∀X',bM X' K P C (Z.inner scope)->Ok3 X' K P C elt ce) (ht:∀X',bM X' K P C (Z.inner scope)->wQ X' ifs (yN K P C cond)) :
  Ok3 X K P C (.ListComp elt [⟨tg,iter,ifs,0⟩] scope pos) (.comp ce is k0 its cond imp (fJ scope).length)/\JH X K P C (.ListComp elt [⟨tg,iter,ifs,0⟩] scope pos) (.comp ce is k0 its cond imp (fJ scope).length)/\PE X (.ListComp elt [⟨tg,iter,ifs,0⟩] scope pos) (tDE K P C (.comp ce is k0 its cond imp (fJ scope).length)):=by
 have all:X.env.scope.kind=.function->(∀X',mZ X scope (Z.inner scope).N X'->PG X' tg (gB K (is.length==1) is))/\(∀X',mZ X scope (Z.inner scope).N X'->wQ X' ifs (yN K P C cond))/\∀X',mZ X scope (Z.inner scope).N X'->PE X' elt (tE K P C ce):=by
  intro hk;have xi:∀X',mZ X scope (Z.inner scope).N X'->bM X' K P C (Z.inner scope):=λX' b=>xo.inner hk sc.nd b
  have hfn:∀X',mZ X scope (Z.inner scope).N X'->∀x,(Z.inner scope).isLoc x=true->X'.fn x=true\/X'.env.scope.names.lookup x=some .local:=λX' b x hx=>by
   rw[(xi X' b).nm];unfold CC.isLoc at hx;rw[Bool.or_eq_true,ZB] at hx;rcases hx with hx | hx
   ·exact .inr (Zy hx)
   ·exact absurd hx.1 (by simp[CC.inner])
  exact⟨λX' b=>JG (xi X' b) (hfn X' b) htg,λX' b=>ht X' (xi X' b),λX' b=>(he X' (xi X' b)).v⟩
 have hfk:∀p∈scope.names,p.2=.free->X.env.kindOf p.1=some .cell\/X.env.kindOf p.1=some .free:=λp hp hf=>by unfold PySem.Env.kindOf;rw[xo.nm];exact sc.out p hp hf
 have hPE:PE X (.ListComp elt [⟨tg,iter,ifs,0⟩] scope pos) (tE K P C (.comp ce is k0 its cond imp (fJ scope).length)):=λpins s Y H Q I h=>by(obtain⟨h1,h2,h3⟩:=all I.ok.kind;exact KC (N':=(Z.inner scope).N) xo.calm hi hs sc.kind sc.cell sc.names hfk h1 h2 h3 pins s Y H Q I (FH xo sc himp hw h))
 refine⟨kN xo hPE (λi z=>nomatch z) (λU=>rfl) λ_=>rfl,λx i p spos hN hx hl hf=>?_,λpins s Y H Q I h=>?_⟩
 case refine_2 =>
  obtain⟨h1,h2,h3⟩:=all I.ok.kind
  cases cond with
  |nil=>exact KC (N':=(Z.inner scope).N) xo.calm hi hs sc.kind sc.cell sc.names hfk h1 h2 h3 pins s Y H Q I (N3 xo sc himp hw h)
  |cons _ _=>exact h.elim
 obtain⟨b,hb⟩:∃b:Bool,swapsWith (.ListComp elt [⟨tg,iter,ifs,0⟩] scope pos) (some (.Name x p)) spos.line X.env=pure b:=⟨_,rfl⟩
 cases b with
 |false=>exact yI hPE (IW hN hx hl hf) hb
 |true =>
  intro pins s Y H D I h;obtain⟨h1,h2,h3⟩:=all I.ok.kind;exact D9 hb hN hx hl hf xo.calm hi hs sc.kind sc.cell sc.names hfk h1 h2 h3 pins s Y H D I (FH xo sc himp hw h)
end
structure ArgsOk(X:Cx)(K:Frag)(P:aW)(C:Calls)(e:Expr)(cs:List E):Prop where
 h:∀(f:Str) (p:Pos) (args:List Expr) (kw:List _) (pos:Pos),e=.Call (.Name f p) args kw pos->args.all bC=true->PA X args (pK K P C cs)/\cs.length=args.length
theorem JN:∀(es:List Expr),(dA Z es).length=es.length
 |[]=>by rw[dA];rfl
 |e::es=>by rw[dA,Zk,Zk,JN es]
section
variable{K:Frag}
def CA(h:mW Z tg=some (one,is))(n:one=false):∃elts k p,tg=.Tuple elts k p:=by
 cases tg<;>simp only[mW,reduceCtorEq] at h
 ·rename_i x pos
  cases q:Z.slotL x with
  |none=>rw[q] at h;cases h
  |some i=>rw[q] at h;cases h;cases n
 ·exact⟨_,_,_,rfl⟩
def XO(xo:bM X K P C Z)(h:UB Z e=some i):qJ e=true/\Ok3 X K P C e (.frz i):=by
 unfold UB at h;split at h
 ·split at h
  ·exact⟨rfl,NR xo h _⟩
  ·cases h
 ·cases h
def OW(xo:bM X K P C Z){cargs cond:List E}(hci:Ok3 X K P C iter ci)(hca:ArgsOk X K P C iter cargs){Φ:E->Prop}(bad:Φ .bad)
  (good:∀{k0:ItK} {its:List E} {imp is:List Nat} {wi:TI},ScOk Z scope->Z.imps (fW scope)=some imp->mW (Z.inner scope) tg=some (is.length==1,is)->PI X tg iter wi->(∀x,foldedSetIterable iter X.env x=pure x) ->
   (∀Y H (R:It->Hp->Prop),EC K P C k0 its Y H R->wi Y H R)->Φ (.comp ce is k0 its cond imp (fJ scope).length)) :
  Φ (rR Z scope tg iter ci cargs cond ce):=by
 unfold rR;split
 ·rename_i hsc;have sc:=X4 hsc;split
  ·rename_i imp one is k0 its0 q1 q2 q3;split
   ·rename_i hsg;exact(Bool.false_ne_true hsg).elim
   split
   ·rename_i i hk;split
    ·rename_i hone;have hone:=Zy hone;subst hone;obtain⟨hn,h3⟩:=XO xo hk;exact good sc q1 q2 (Z1 h3.h) (vS hn _) (λY H R q=>aDW Y H R q)
    ·exact bad
   split
   ·rename_i hone;rw[ZB,ZB] at hone;obtain⟨⟨hone,hfit⟩,hns⟩:=hone;have hone:=Zy hone;subst hone
    have gen:∀e:Expr,iter=e->qJ e=true->some (ItK.of,[e])=some (k0,its0)->Φ (.comp ce is k0 (aC3 k0 ci cargs) cond imp (fJ scope).length):=λe he' hn hq=>by(subst he';cases hq;exact good sc q1 q2 (PI.or (BD hci.h) (EU hci.h)) (vS hn _) (λY H R q=>LO xo.keq Y H R (WB q)))
    unfold r8 at q3;split at q3
    ·rename_i f p args pos';split at q3
     ·rename_i hf;have hf:=Zy hf;subst hf;split at q3
      ·rename_i hgl;split at q3
       ·rename_i hc;cases q3;rw[ZB] at hc;obtain⟨h1,h2,h3,h4⟩:=CC.glob_ok xo hgl (λz=>nomatch z);have hm:=xo.blt _ h2;obtain⟨hpa,hcl⟩:=hca.h _ _ _ _ _ rfl hc.1
        match its0,cargs,hc,hpa,hcl with
        |[a],[c1],hc,hpa,_ =>
         have ns:=hc.1;rw[Zj,ZB] at ns;exact good sc q1 q2 (CP h1 hm hpa (by rw[bS ns.1];rfl)) (λ_=>rfl) (λY H R q=>JJ Y H R (WB q))
        |[a,b],[c1,c2],hc,hpa,_ =>
         have ns:=hc.1;rw[Zj,ZB,Zj,ZB] at ns;exact good sc q1 q2 (BY h1 hm hpa (by rw[bS ns.1,bS ns.2.1];rfl) (by rw[bS ns.2.1];rfl)) (λ_=>rfl) (λY H R q=>J0 Y H R (WB q))
        |[],_,hc,_,_=>simp at hc
        |_::_::_::_,_,hc,_,_=>simp at hc
       ·cases q3
      ·cases q3
     ·split at q3
      ·rename_i hf;have hf:=Zy hf;subst hf;split at q3
       ·rename_i hgl;split at q3
        ·rename_i hc;cases q3;rw[ZB] at hc;obtain⟨h1,h2,h3,h4⟩:=CC.glob_ok xo hgl (λz=>nomatch z);have hm:=xo.blt _ h2;obtain⟨hpa,hcl⟩:=hca.h _ _ _ _ _ rfl hc.1
         match its0,cargs,hc,hpa,hcl with
         |[a],[c1],hc,hpa,_ =>
          have ns:=hc.1;rw[Zj,ZB] at ns;obtain⟨elts,kk,tp,rfl⟩:=CA q2 (by simpa[pI] using hfit);exact good sc q1 q2 (JS h1 hm hpa (by rw[bS ns.1];rfl)) (λ_=>rfl) (λY H R q=>JR xo.keq Y H R (WB q))
         |[],_,hc,_,_=>simp at hc
         |_::_::_,_,hc,_,_=>simp at hc
        ·cases q3
       ·cases q3
      ·exact gen _ rfl rfl q3
    ·split at q3
     ·exact gen _ rfl ‹_› q3
     ·cases q3
   ·exact bad
  ·exact bad
 ·exact bad
def pE(xo:bM X K P C Z){cargs cond:List E}(hci:Ok3 X K P C iter ci)(hca:ArgsOk X K P C iter cargs)
  (he:∀X',bM X' K P C (Z.inner scope)->Ok3 X' K P C elt ce) (ht:∀X',bM X' K P C (Z.inner scope)->wQ X' ifs (yN K P C cond)) :
  Ok3 X K P C (.ListComp elt [⟨tg,iter,ifs,0⟩] scope pos) (rR Z scope tg iter ci cargs cond ce)/\JH X K P C (.ListComp elt [⟨tg,iter,ifs,0⟩] scope pos) (rR Z scope tg iter ci cargs cond ce)/\PE X (.ListComp elt [⟨tg,iter,ifs,0⟩] scope pos) (tDE K P C (rR Z scope tg iter ci cargs cond ce)) :=
 OW xo hci hca (Φ:=λc=>Ok3 X K P C (.ListComp elt [⟨tg,iter,ifs,0⟩] scope pos) c/\JH X K P C (.ListComp elt [⟨tg,iter,ifs,0⟩] scope pos) c/\PE X (.ListComp elt [⟨tg,iter,ifs,0⟩] scope pos) (tDE K P C c)) ⟨aT,n0,λpins s Y H Q I h=>h.elim⟩ λsc q1 q2 hi hs hw=>ZA xo sc q1 q2 hi hs hw he ht
end
def PY(hs:E8 a=true)(h:cE Z a=.mkset c):∃p e pos,a=.Call (.Name ("set":Str) p) [e] [] pos/\Z.glob ("set":Str)=.blt/\bC e=true/\c=cE Z e:=by
 unfold E8 at hs;split at hs
 ·rename_i f p e pos;have hf:=Zy hs;subst hf;replace h:(if [e].all bC&&decide ([e]≠[]) then(match Z.glob ("set":Str) with | .fn g=>.call g (dA Z [e]) | .cls ns=>.make ("set":Str) ns (dA Z [e]) | .blt=>if("set":Str)=("isinstance":Str) then MY Z [e] (dA Z [e]) else GQ ("set":Str) [e] (dA Z [e]) | _=>E.bad) else E.bad)=.mkset c:=h;split at h
  ·rename_i hc;split at h
   ·cases h
   ·cases h
   ·rename_i hg;rw[Zp (by decide)] at h;unfold GQ SV at h;rw[Zp (by decide),Zo rfl] at h;simp only[dA] at h;cases h;rw[ZB,Zj,ZB] at hc;exact⟨p,e,pos,rfl,hg,hc.1.1,rfl⟩
   ·cases h
  ·cases h
 ·cases hs
def aIi(i:Expr):Prop:=∃k p1 p2 p3,i=.Slice none none (some (.UnaryOp .USub (.Constant (.int 1) k p1) p2)) p3
def PD(h:LQ i=true):aIi i:=by
 cases i with
 |Slice lo hi st q =>
  obtain _ | _:=lo
  ·obtain _ | _:=hi
   ·obtain _ | st:=st
    ·exact B6 h
    ·cases st with
     |UnaryOp op a p =>
      cases op with
      |USub =>
       cases a with
       |Constant c k p1 =>
        cases c with
        |int n =>
         have h:=Zy (show(n==1)=true from h);subst h;exact Exists.intro _ ⟨_,_,_,rfl⟩
        |_=>exact B6 h
       |_=>exact B6 h
      |_=>exact B6 h
     |_=>exact B6 h
   ·exact B6 h
  ·exact B6 h
 |_=>exact B6 h
def aF5(Z:CC)(a i:Expr)(p:Pos):(∃lo hi q,i=.Slice lo hi none q)\/((∀lo hi q,i≠.Slice lo hi none q)/\cE Z (.Subscript a i p)=if LQ i then .rev (cE Z a) else .ix (cE Z a) (cE Z i)):=by
 cases i with
 |Slice lo hi st q =>
  cases st with
  |none=>exact .inl ⟨_,_,_,rfl⟩
  |some _=>exact .inr ⟨(λ_ _ _ z=>nomatch z),rfl⟩
 |_=>exact .inr ⟨(λ_ _ _ z=>nomatch z),rfl⟩
def BR(K:Frag)(P:aW)(C:Calls)(n:Nat):Prop:=∀(X:Cx) (Z:CC),bM X K P C Z->∀e:Expr,sizeOf e<n->Ok3 X K P C e (cE Z e)
def bI(h:a<b)(k:b<n+1):a<n:=Zl h (Nat.le_of_lt_succ k)
section
variable{K:Frag}
def vY{r:List Expr}(h:sizeOf (e::r)<n):sizeOf e<n:=Nat.lt_trans (by simp;omega) h
def DW{r:List Expr}(h:sizeOf (e::r)<n):sizeOf r<n:=Nat.lt_trans (by simp;omega) h
theorem DT(ih:BR K P C n)(xo:bM X K P C Z):∀es:List Expr,sizeOf es<n->es.all bC=true->PA X es (F5 K P C (dA Z es))
 |[],_,_=>aAr
 |e::r,hs,h=>by(rw[Zj,ZB] at h;exact S7 (ih _ _ xo e (vY hs)) (DT ih xo r (DW hs) h.2) h.1)
theorem nL(ih:BR K P C n)(xo:bM X K P C Z):∀es:List Expr,sizeOf es<n->es.all bC=true->PA X es (pK K P C (dA Z es))
 |[],_,_=>XU
 |e::r,hs,h=>by(rw[Zj,ZB] at h;exact U6 (ih _ _ xo e (vY hs)) (nL ih xo r (DW hs) h.2) h.1)
theorem WA(ih:BR K P C n)(xo:bM X K P C Z):∀vs:List Expr,sizeOf vs<n->vs≠[]->Ok2 X K P C .And vs (RF Z vs)
 |[],_,h=>absurd rfl h
 |[a],hs,_=>VQ (ih _ _ xo a (vY hs))
 |a::b::r,hs,_=>JM (ih _ _ xo a (vY hs)) (WA ih xo (b::r) (DW hs) (λz=>nomatch z))
theorem aCL(ih:BR K P C n)(xo:bM X K P C Z):∀vs:List Expr,sizeOf vs<n->vs≠[]->Ok2 X K P C .Or vs (cOr Z vs)
 |[],_,h=>absurd rfl h
 |[a],hs,_=>XR (ih _ _ xo a (vY hs))
 |a::b::r,hs,_=>O2 (ih _ _ xo a (vY hs)) (aCL ih xo (b::r) (DW hs) (λz=>nomatch z))
theorem o_n(ih:BR K P C n)(xo:bM X K P C Z):∀o:Option Expr,sizeOf o<n->PO X o (tO K P C (cO Z o))
 |none,_=>UC
 |some e,hs=>S2 (ih _ _ xo e (Nat.lt_trans (by simp) hs))
def G8(ih:BR K P C n)(xo:bM X K P C Z)(e:Expr)(hs:sizeOf e<n):ArgsOk X K P C e (D4 Z e):=by
 cases e<;>first
  | (rename_i f args kw pos;exact⟨λf' p' args' kw' pos' z ns=>by cases z;exact⟨nL ih xo args (Nat.lt_trans (by simp;omega) hs) ns,JN args⟩⟩)
  |exact⟨λf' p' args' kw' pos' z ns=>by cases z⟩
end
def N2{K:Frag}(h:Ok3 X K P C e c):Ok3 X K P C e (uF c):=by
 unfold uF;split
 ·exact aT
 ·exact h
def aAb{K:Frag}(ih:BR K P C n)(xo:bM X K P C Z)(e:Expr)(hsz:sizeOf e<n+1):Ok3 X K P C e (cE Z e):=by
 cases e with
 |Name x p =>
  exact J1 xo _ _
 |Constant c k p =>
  exact FX xo _ _ _
 |Tuple es k p =>
  show Ok3 X K P C _ (if es.all bC then .tup (dA Z es) else .bad);split
  ·exact aDo xo (DT ih xo _ (bI (by simp;omega) hsz) ‹_›)
  ·exact aT
 |List es p =>
  show Ok3 X K P C _ (if es.all bC then .lst (dA Z es) else .bad);split
  ·exact aDf xo (DT ih xo _ (bI (by simp;omega) hsz) ‹_›)
  ·exact aT
 |Dict ks vs p =>
  show Ok3 X K P C _ (dzC _ _ _ _);unfold dzC;split
  ·exact UH xo
  refine VD xo (λk c h1 h2=>?_) λv c h1 h2=>?_
  ·subst h1;cases h2;exact N2 (ih _ _ xo k (bI (by simp;omega) hsz))
  ·subst h1;cases h2;exact ih _ _ xo v (bI (by simp;omega) hsz)
 |BinOp a op b p =>
  exact aED xo (ih _ _ xo _ (bI (by simp;omega) hsz)) (ih _ _ xo _ (bI (by simp;omega) hsz))
 |UnaryOp op a p =>
  cases op with
  |Not =>
   exact aDe xo (ih _ _ xo _ (bI (by simp;omega) hsz))
  |USub =>
   exact OU xo (ih _ _ xo _ (bI (by simp;omega) hsz))
  |_=>exact aT
 |Compare a ops cs p =>
  obtain _ | ⟨op,_ | ⟨op',_ | ⟨_,_⟩⟩⟩:=ops
  ·exact aT
  ·obtain _ | ⟨b,_ | ⟨_,_⟩⟩:=cs
   ·exact aT
   ·show Ok3 X K P C _ (if behindInMarks op b then .bad else .cmp op (cE Z a) (cE Z b));split
    ·exact aT
    ·exact aEG xo (ih _ _ xo _ (bI (by simp;omega) hsz)) (ih _ _ xo _ (bI (by simp;omega) hsz)) (by rename_i h;simpa using h)
   ·exact aT
  ·obtain _ | ⟨b,_ | ⟨c,_ | ⟨_,_⟩⟩⟩:=cs
   ·exact aT
   ·exact aT
   ·show Ok3 X K P C _ (if behindInMarks op' c then .bad else .cmp2 op op' (cE Z a) (cE Z b) (cE Z c));split
    ·exact aT
    ·exact XY xo (ih _ _ xo _ (bI (by simp;omega) hsz)) (ih _ _ xo _ (bI (by simp;omega) hsz)) (ih _ _ xo _ (bI (by simp;omega) hsz)) (by rename_i h;simpa using h)
   ·exact aT
  ·exact aT
 |BoolOp op vs p =>
  obtain _ | ⟨a,_ | ⟨b,r⟩⟩:=vs
  ·cases op<;>exact aT
  ·cases op<;>exact aT
  ·cases op with
   |And =>
    exact(JM (ih _ _ xo _ (bI (by simp;omega) hsz)) (WA ih xo _ (bI (by simp;omega) hsz) (by simp))).ok3 λi z=>nomatch z
   |Or =>
    exact(O2 (ih _ _ xo _ (bI (by simp;omega) hsz)) (aCL ih xo _ (bI (by simp;omega) hsz) (by simp))).ok3 λi z=>nomatch z
 |IfExp c a b p =>
  exact aD1 (ih _ _ xo _ (bI (by simp;omega) hsz)) (ih _ _ xo _ (bI (by simp;omega) hsz)) (ih _ _ xo _ (bI (by simp;omega) hsz))
 |Subscript a i p =>
  rcases aF5 Z a i p with ⟨lo,hi,q,rfl⟩ | ⟨hn,e⟩
  ·exact aFk xo (ih _ _ xo _ (bI (by simp;omega) hsz)) (o_n ih xo _ (bI (by simp;omega) hsz)) (o_n ih xo _ (bI (by simp;omega) hsz))
  ·rw[e];split
   ·rename_i hr;obtain⟨k,p1,p2,p3,rfl⟩:=PD hr;exact aCg xo (ih _ _ xo _ (bI (by simp;omega) hsz))
   ·exact aFX xo (ih _ _ xo _ (bI (by simp;omega) hsz)) (ih _ _ xo _ (bI (by simp;omega) hsz)) (KP hn)
 |Call fn args kw pos =>
  cases fn with
  |Name f p =>
   cases kw with
   |nil =>
    show Ok3 X K P C _ (if args.all bC&&decide (args≠[]) then(match Z.glob f with | .fn g=>.call g (dA Z args) | .cls ns=>.make f ns (dA Z args) | .blt=>if f=("isinstance":Str) then MY Z args (dA Z args) else GQ f args (dA Z args) | _=>.bad) else .bad);split
    ·rename_i hc;rw[ZB] at hc;obtain⟨ns,ne⟩:=hc
     cases args with
     |nil=>simp at ne
     |cons a r =>
      split
      ·rename_i g hg;exact ZY xo hg ns (nL ih xo _ (bI (by simp;omega) hsz) ns)
      ·rename_i g hg;exact ZF xo hg ns (DT ih xo _ (bI (by simp;omega) hsz) ns)
      ·rename_i hg;split
       ·rename_i hf;subst hf;unfold MY;split
        ·rename_i t a' _ e1 e2;split
         ·rename_i ty hty;simp only[dA,List.cons.injEq] at e1 e2;obtain⟨rfl,rfl⟩:=e1;obtain⟨rfl,_⟩:=e2;rw[Zj,ZB] at ns;exact aDd xo hg hty ns.1 (ih _ _ xo _ (bI (by simp;omega) hsz))
         ·simp only[dA,List.cons.injEq] at e1 e2;obtain⟨rfl,rfl⟩:=e1;obtain⟨rfl,_⟩:=e2;rw[Zj,ZB] at ns
          (unfold aCP;repeat' split)<;>exact aT
        ·exact aT
       ·unfold GQ;split
        ·rename_i hf2;subst hf2;unfold aC0;split
         ·rename_i a' c e1 hcs;cases e1;simp only[dA,List.cons.injEq,and_true] at hcs;split
          ·rename_i his;obtain⟨p2,e2,pos2,rfl,hg2,ns2,rfl⟩:=PY his hcs;exact aA3 xo hg hg2 ns2 (ih _ _ xo e2 (bI (by simp;omega) hsz))
          ·exact yR xo hg (b:=.len) rfl ns (nL ih xo _ (bI (by simp;omega) hsz) ns)
         ·exact yR xo hg (b:=.len) rfl ns (nL ih xo _ (bI (by simp;omega) hsz) ns)
        ·split
         ·unfold SV;split
          ·exact RD
          ·exact aT
         ·split
          ·exact aT
          ·split
           ·rename_i hf2;subst hf2;exact yR xo hg (b:=.list) rfl ns (nL ih xo _ (bI (by simp;omega) hsz) ns)
           ·split
            ·rename_i b hb;exact yR xo hg hb ns (nL ih xo _ (bI (by simp;omega) hsz) ns)
            ·exact aT
      ·exact aT
    ·exact aT
   |cons _ _=>exact aT
  |Attribute o m apos =>
   cases o with
   |Name x p =>
    cases kw with
    |nil =>
     show Ok3 X K P C _ (TH Z x m apos pos args (dA Z args));unfold TH;split
     ·rename_i tb hm;split
      ·rename_i hc;rw[ZB,ZB] at hc;obtain⟨⟨ns,hl⟩,hf⟩:=hc;split
       ·exact aAh xo ‹_› hm ns hl (of_decide_eq_true hf) (nL ih xo _ (bI (by simp;omega) hsz) ns) λz=>by rw[z,dA]
       ·exact aT
      ·exact aT
     ·split
      ·rename_i a c hcs;split
       ·rename_i hc;rw[ZB,ZB] at hc;obtain⟨⟨ns,hl⟩,hm⟩:=hc;have hm:=Zy hm;subst hm;split
        ·simp only[dA,List.cons.injEq] at hcs;obtain⟨rfl,_⟩:=hcs;exact aBW xo ‹_› hl ns (ih _ _ xo _ (bI (by simp;omega) hsz))
        ·exact aT
       ·split
        ·rename_i hc;rw[ZB,ZB] at hc;obtain⟨⟨ns,hl⟩,hm⟩:=hc;have hm:=Zy hm;subst hm;exact aT
        ·split
         ·rename_i hc;rw[ZB,ZB] at hc;obtain⟨⟨ns,hl⟩,hm⟩:=hc;have hm:=Zy hm;subst hm;exact aT
         ·exact aT
      ·split
       ·rename_i hc;rw[ZB] at hc;obtain⟨hl,hm⟩:=hc;have hm:=Zy hm;subst hm;exact aT
       ·exact aT
      ·rename_i a b c c' hcs;split
       ·rename_i hc;rw[ZB,ZB,ZB] at hc;obtain⟨⟨⟨ns,ns2⟩,hl⟩,hm⟩:=hc;have hm:=Zy hm;subst hm;split
        ·simp only[dA,List.cons.injEq] at hcs;obtain⟨rfl,rfl,_⟩:=hcs;exact aT
        ·exact aT
       ·exact aT
      ·exact aT
    |cons _ _=>exact aT
   |Call g as kw2 p2 =>
    cases as with
    |nil=>exact aT
    |cons a0 as0 =>
     cases kw with
     |nil =>
      show Ok3 X K P C _ (LI Z m apos pos args (cE Z (.Call g (a0::as0) kw2 p2)) (dA Z args));unfold LI;split
      ·rename_i tb hm;split
       ·rename_i hc;rw[ZB,ZB] at hc;exact aT
       ·exact aT
      ·exact aT
     |cons _ _=>exact aT
   |_=>exact aT
  |_=>exact aT
 |Attribute o f p =>
  cases o with
  |Name x q =>
   exact aCt xo
  |_=>exact aT
 |ListComp elt gs scope pos =>
  obtain _ | ⟨⟨tg,iter,ifs,m⟩,_ | ⟨_,_⟩⟩:=gs
  ·exact aT
  ·obtain _ | ⟨c,_ | ⟨_,_⟩⟩:=ifs<;>obtain(_ | _) | _:=m
   ·exact(pE xo (ih _ _ xo _ (bI (by simp;omega) hsz)) (G8 ih xo _ (bI (by simp;omega) hsz)) (λX' xo'=>ih _ _ xo' _ (bI (by simp;omega) hsz)) (λX' xo'=>FY)).1
   ·exact aT
   ·exact aT
   ·exact(pE xo (ih _ _ xo _ (bI (by simp;omega) hsz)) (G8 ih xo _ (bI (by simp;omega) hsz)) (λX' xo'=>ih _ _ xo' _ (bI (by simp;omega) hsz)) (λX' xo'=>GD (ih _ _ xo' _ (bI (by simp;omega) hsz)))).1
   all_goals exact aT
  ·obtain _ | ⟨c,_ | ⟨_,_⟩⟩:=ifs<;>obtain(_ | _) | _:=m<;>exact aT
 |_=>exact aT
theorem v8{K:Frag}:∀n:Nat,BR K P C n
 | 0=>λ_ _ _ _ h=>absurd h (Nat.not_lt_zero _)
 |n+1=>λ_ _ xo e h=>aAb (v8 n) xo e h
section
variable{K:Frag}
def gQ(xo:bM X K P C Z)(e:Expr):Ok3 X K P C e (cE Z e):=v8 _ _ _ xo e (Nat.lt_succ_self _)
def F1(xo:bM X K P C Z)(e:Expr):ArgsOk X K P C e (D4 Z e):=G8 (v8 _) xo e (Nat.lt_succ_self _)
def AZ(xo:bM X K P C Z)(es:List Expr)(h:es.all bC=true):PA X es (pK K P C (dA Z es)):=nL (v8 _) xo es (Nat.lt_succ_self _) h
end
def aC4{K:Frag}(xo:bM X K P C Z)(e:Expr)(h:KS e=true):JH X K P C e (cE Z e):=by
 cases e<;>simp only[KS,Bool.false_eq_true] at h;rename_i elt gs scope pos;obtain _ | ⟨⟨tg,iter,ifs,n⟩,_ | ⟨_,_⟩⟩:=gs
 ·exact n0
 ·obtain _ | ⟨c,_ | ⟨_,_⟩⟩:=ifs<;>obtain(_ | _) | _:=n
  ·exact(pE xo (gQ xo iter) (F1 xo iter) (λX' xo'=>gQ xo' elt) (λX' xo'=>FY)).2.1
  ·exact n0
  ·exact n0
  ·exact(pE xo (gQ xo iter) (F1 xo iter) (λX' xo'=>gQ xo' elt) (λX' xo'=>GD (gQ xo' c))).2.1
  all_goals exact n0
 ·obtain _ | ⟨c,_ | ⟨_,_⟩⟩:=ifs<;>obtain(_ | _) | _:=n<;>exact n0
section
variable{X:Cx}{K:Frag}{P:aW}{C:Calls}{W:Nat}{Z:CC}
def XFl(X:Cx)(K:Frag)(U:Env)(Y:St)(H G:Hp)(U':Env)(x:Exc):Prop:=∀pins Y' H' G' s' a Ca p,AftS K U Y H G U' Y' H' G'->Inv X pins Y' H' s'->aHl X pins H' s'.heap a Ca p->nsIn K mainGlobals x.cls=some (some (.ref Ca))->ExcG K Ca->XD K G' Ca p x.num->X.xe (.ref a) s'
def XFl.pre(a:AftS K U Y H G U1 Y1 H1 G1)(h:XFl X K U Y H G U' x):XFl X K U1 Y1 H1 G1 U' x:=λpins Y' H' G' s' b Ca p q=>h pins Y' H' G' s' b Ca p (a.trans q)
def W8(h1:PE X e t)(h2:PE X e u):PE X e (λY H Q=>t Y H Q\/u Y H Q):=λpins s Y H Q I q=>q.elim (h1 pins s Y H Q I) (h2 pins s Y H Q I)
end
section
variable{X:Cx}{K:Frag}{P:aW}{C:Calls}{W:Nat}{Z:CC}
def fP(Z:CC)(e:Expr):Prop:=(∃f p a r pos g,e=.Call (.Name f p) (a::r) [] pos/\Z.glob f=.fn g/\(a::r).all bC=true/\cE Z e=.call g (dA Z (a::r)))\/∃elt tg iter ifs sc pos,e=.ListComp elt [⟨tg,iter,ifs,0⟩] sc pos/\(ifs=[]\/∃c1,ifs=[c1])
end
section
variable{X:Cx}{K:Frag}{P:aW}{C:Calls}{W:Nat}{Z:CC}{pins pins':List (Addr×Obj)}{Y:St}{H G:Hp}{s:Shared}
abbrev Cx.re(X:Cx)(E:Value->Shared->Prop)(pn:List (Addr×Obj)):Cx:={ X with xe:=E,pn:=pn }
abbrev Cx.ma(X:Cx)(v:Value):Cx:={ X with A:=X.A.mark (some v),calm:=false,xe:=λ_ _=>False }
theorem bM.re{E:Value->Shared->Prop}(xo:bM X K P C Z):bM (Cx.re X E pn) K P C Z :=
 bM.of xo.keq xo.neq xo.nm xo.nd xo.calm xo.hh xo.hu xo.con xo.blt (λx f h=>⟨(xo.fn x f h).ex⟩) (λx ns h=>⟨(xo.cls x ns h).ex⟩) (λm tb c f h1 h2=>⟨(xo.mth m tb c f h1 h2).ex⟩) xo.rm xo.sub xo.subx ⟨xo.exc,λx h=>⟨(xo.exi x h).ex⟩⟩ xo.exs (λx f h=>⟨(xo.fnX x f h).ex⟩) xo.tp
def VO
  (hb:∀E pn,PassesOwn (model X.prog X.w) X.A X.env E->gH (Cx.re X E pn) body (qS K P C W cb)):PS X (.Try body hs o f pos) (tS K P C W (WX cb hs o f)):=bT
theorem bM.ma{E:Value->Shared->Prop}(xo:bM X K P C Z):XOkB false (Cx.ma (Cx.re X E pn) v) K P C Z:=⟨xo.keq,xo.neq,xo.nm,xo.nd,xo.con,xo.blt,xo.sub,xo.subx,λz=>nomatch z⟩
end
section
variable{K:Frag}
def RI(xo:bM X K P C Z)(h:Z.slotL x=some i):X.N[i]?=some x/\L2.CS X.env.scope x/\Z.isLoc x=true:=by
 unfold CC.slotL at h;split at h
 ·rename_i hl
  have hN:X.N[i]?=some x:=by
   unfold CC.slot at h;split at h
   ·cases h
   ·split at h
    ·rw[xo.neq];exact o3 h
    ·cases h
  refine⟨hN, ?_,hl⟩;unfold L2.CS;rw[xo.nm];unfold CC.isLoc at hl;rw[Bool.or_eq_true,ZB] at hl;rcases hl with hl | hl
  ·exact .inl (Zy hl)
  ·exact .inr (Zy hl.2)
 ·cases h
def ZD(xo:bM X K P C Z)(hfn:∀x,Z.isLoc x=true->X.fn x=true\/X.env.scope.names.lookup x=some .local)(hi:Z.slotL x=some i)(h:JH X K P C e c):PS X (.Assign [.Name x p] e pos) (tS K P C W (.asg i c)):=by
 obtain⟨h1,h2,h3⟩:=RI xo hi;refine TS.imp_ps (h x i p pos (by rw[xo.neq];exact xo.nd) h1 h2 (hfn x h3)) λD Y H ⟨U,G,fl,U',r,e,k⟩=>?_
 obtain⟨v,U1,e1,e2⟩:=f7 e k.ne;unfold kW at e2
 cases q:store i v U1 with
 |none=>rw[q] at e2;cases e2
 |some U2 =>
  rw[q] at e2;cases e2;exact⟨U,G,v,U1,r,e1,λx H' G' a hv=>k _ H' G' (Aft.store r a q hv)⟩
def AE(xo:bM X K P C Z)(hfn:∀x,Z.isLoc x=true->X.fn x=true\/X.env.scope.names.lookup x=some .local){Φ:List E->Prop}
  (ht:mW Z tg=some (one,is)) (hi:r8 Z it=some (k0,its)) (hfit:pI k0 one=true) (fin:∀{wi:TI} {its':List E},(∀x,foldedSetIterable it X.env x=pure x)->PI X tg it wi->(∀Y H (R:It->Hp->Prop),FHw K P C k0 its' Y H R->wi Y H R)->Φ its'):Φ (dA Z its):=by
 have gen:∀e:Expr,it=e->qJ e=true->some (ItK.of,[e])=some (k0,its)->Φ (dA Z its):=λe he hn hq=>by(subst he;cases hq;exact fin (vS hn _) (PI.or (BD (gQ xo it).h) (EU (gQ xo it).h)) λY H R q=>LO xo.keq Y H R q)
 unfold r8 at hi;split at hi
 ·rename_i f p args pos';split at hi
  ·rename_i hf;have hf:=Zy hf;subst hf;split at hi
   ·rename_i hgl;split at hi
    ·rename_i hc;cases hi;rw[ZB] at hc;obtain⟨h1,h2,h3,h4⟩:=CC.glob_ok xo hgl (λz=>nomatch z);have hm:=xo.blt _ h2
     match its,hc with
     |[a],hc =>
      have ns:=hc.1;rw[Zj,ZB] at ns;exact fin (λ_=>rfl) (CP h1 hm (AZ xo [a] hc.1) (by rw[bS ns.1];rfl)) λY H R q=>JJ Y H R q
     |[a,b],hc =>
      have ns:=hc.1;rw[Zj,ZB,Zj,ZB] at ns;exact fin (λ_=>rfl) (BY h1 hm (AZ xo [a,b] hc.1) (by rw[bS ns.1,bS ns.2.1];rfl) (by rw[bS ns.2.1];rfl)) λY H R q=>J0 Y H R q
     |[],hc=>simp at hc
     |_::_::_::_,hc=>simp at hc
    ·cases hi
   ·cases hi
  ·split at hi
   ·rename_i hf;have hf:=Zy hf;subst hf;split at hi
    ·rename_i hgl;split at hi
     ·rename_i hc;cases hi;rw[ZB] at hc;obtain⟨h1,h2,h3,h4⟩:=CC.glob_ok xo hgl (λz=>nomatch z);have hm:=xo.blt _ h2
      match its,hc with
      |[a],hc =>
       have ns:=hc.1;rw[Zj,ZB] at ns;obtain⟨elts,kk,tp,rfl⟩:=CA ht (by simpa[pI] using hfit);exact fin (λ_=>rfl) (JS h1 hm (AZ xo [a] hc.1) (by rw[bS ns.1];rfl)) λY H R q=>JR xo.keq Y H R q
      |[],hc=>simp at hc
      |_::_::_,hc=>simp at hc
     ·cases hi
    ·cases hi
   ·exact gen _ rfl rfl hi
 ·split at hi
  ·exact gen _ rfl ‹_› hi
  ·cases hi
def aAK(xo:bM X K P C Z)(hfn:∀x,Z.isLoc x=true->X.fn x=true\/X.env.scope.names.lookup x=some .local){Φ:List E->Prop}
  (ht:mW Z tg=some (one,is)) (hi:r8 Z it=some (k0,its)) (hfit:pI k0 one=true) (fin:∀{wi:TI} {its':List E},(∀x,foldedSetIterable it X.env x=pure x)->PI X tg it wi->(∀Y H (R:It->Hp->Prop),FHw K P C k0 its' Y H R->wi Y H R)->Φ its'):Φ (NP Z it body (dA Z its)):=by
 unfold NP;split
 ·rename_i x hx;split
  ·rename_i i hs;split
   ·cases it<;>simp only[yC,reduceCtorEq] at hx;cases hx
    have:k0=.of:=by(simp only[r8,qJ,if_true] at hi;cases hi;rfl)
    subst this;have h:=(NR xo hs ‹Pos›).h;exact fin (λ_=>rfl) (PI.or (BD h) (EU h)) λY H R q=>LO xo.keq Y H R q
   ·exact AE xo hfn ht hi hfit fin
  ·exact AE xo hfn ht hi hfit fin
 ·exact AE xo hfn ht hi hfit fin
structure SCx(X:Cx)(K:Frag)(P:aW)(C:Calls)(Z:CC):Prop where
 po:PassesOwn (model X.prog X.w) X.A X.env X.xe
 xo:bM X K P C Z
 hfn:∀x,Z.isLoc x=true->X.fn x=true\/X.env.scope.names.lookup x=some .local
 sk:Z.top=true->X.stack=X.env::X.outer/\X.env.frame=some X.env.locals
def IhS(K:Frag)(P:aW)(C:Calls)(W:Nat)(Z:CC)(n:Nat):Prop:=∀X:Cx,SCx X K P C Z->∀sts:List Stmt,sizeOf sts<n ->
 gH X sts (qS K P C W (oI Z sts))/\True
theorem SCx.re{E:Value->Shared->Prop}(c:SCx X K P C Z)(po:PassesOwn (model X.prog X.w) X.A X.env E):SCx (Cx.re X E pn) K P C Z:=⟨po,c.xo.re,c.hfn,c.sk⟩
def aGt(ih:IhS K P C W Z n)(cx:SCx X K P C Z)(st:Stmt)(hZ:sizeOf st<n+1):PS X st (tS K P C W (cS Z st)):=by
 obtain⟨po,xo,hfn,sk⟩:=id cx
 cases st with
 |Pass _=>exact UX
 |Break _=>exact ZV
 |Continue _=>exact ZZ
 |Return e _ =>
  cases e with
  |some e=>exact aAW (gQ xo e)
  |none=>exact R6
 |Expr e _ =>
  show PS X _ (tS K P C W (if dU e then .expr (cE Z e) else .bad));split
  ·exact TU (gQ xo _) ‹_›
  ·exact bT
 |If c a b _=>exact aDx (gQ xo _) (ih _ cx a (bI (by simp;omega) hZ)).1 (ih _ cx b (bI (by simp;omega) hZ)).1
 |While c b o _ =>
  cases o with
  |nil=>exact aCp po (gQ xo _) (ih _ cx b (bI (by simp;omega) hZ)).1
  |cons _ _=>exact bT
 |For tg it b o _ =>
  cases o with
  |nil =>
   show PS X _ (tS K P C W (match mW Z tg,r8 Z it with
    |some (one,is),some (k,its)=>if pI k one then .for is one k (NP Z it b (dA Z its)) (oI Z b) else .bad
    |_,_=>.bad))
   cases h1:mW Z tg with
   |none=>exact bT
   |some t =>
    cases h2:r8 Z it with
    |none=>exact bT
    |some u =>
     show PS X _ (tS K P C W (if pI u.1 t.1 then .for t.2 t.1 u.1 (NP Z it b (dA Z u.2)) (oI Z b) else .bad));split
     ·exact aAK xo hfn h1 h2 ‹_› (Φ:=λits'=>PS X (.For tg it b [] _) (tS K P C W (.for t.2 t.1 u.1 its' (oI Z b)))) λhs hi hw=>aBL po xo (JG xo hfn h1) (ih _ cx b (bI (by simp;omega) hZ)).1 hs hi hw
     ·exact bT
  |cons _ _=>exact bT
 |Assign ts e _ =>
  obtain _ | ⟨t,_ | ⟨_,_⟩⟩:=ts
  ·exact bT
  ·cases t with
   |Name x p =>
    show PS X _ (tS K P C W (match Z.slotL x with | some i=>if dU e||KS e then .asg i (cE Z e) else .bad | none=>.bad));split
    ·split
     ·rename_i hc;rw[Bool.or_eq_true] at hc;rcases hc with hc | hc
      ·exact XX xo hfn ‹_› (gQ xo _) hc
      ·exact ZD xo hfn ‹_› (aC4 xo _ hc)
     ·exact bT
    ·exact bT
   |Tuple ts _ _ =>
    show PS X _ (tS K P C W (match jH Z ts with | some is=>if dU e&&yE e then .asgT is (cE Z e) else .bad | none=>.bad));split
    ·split
     ·rename_i h;rw[ZB] at h;exact VC xo hfn ‹_› (gQ xo _) h.1 h.2
     ·exact bT
    ·exact bT
   |Subscript a k _ =>
    cases a with
    |Name x p =>
     show PS X _ (tS K P C W (match Z.slot x with | some i=>if dU e&&F6 k then .set i (cE Z k) (cE Z e) else .bad | none=>.bad));split
     ·split
      ·rename_i h;rw[ZB] at h;refine ZG xo ‹_› (gQ xo _) (gQ xo _) h.1 λv=>?_
       have h2:=h.2
       cases k<;>first | rfl | cases h2
      ·exact bT
     ·exact bT
    |_=>exact bT
   |_=>exact bT
  ·cases t with
   |Subscript a _ _=>cases a<;>exact bT
   |_=>exact bT
 |AugAssign t op e _ =>
  cases t with
  |Name x p =>
   cases op with
   |Add =>
    show PS X _ (tS K P C W (match Z.slotL x with | some i=>if dU e then .bad else .bad | none=>.bad));split
    ·split
     ·exact bT
     ·exact bT
    ·exact bT
   |_=>exact bT
  |_=>exact bT
 |Raise e c _ =>
  cases e with
  |none=>exact bT
  |some e =>
   cases c with
   |none =>
    show PS X _ (tS K P C W (U8 Z e));unfold U8;split
    ·split
     ·split
      ·exact AV λU=>rfl
      ·exact AV λU=>rfl
      ·exact bT
     ·exact bT
    ·exact bT
   |some _=>exact bT
 |Try body hs o f _=>exact VO λE pn po'=>(ih _ (cx.re po') body (bI (by simp;omega) hZ)).1
 |_=>exact bT
def aB6(ih:IhS K P C W Z n)(cx:SCx X K P C Z)(sts:List Stmt)(hZ:sizeOf sts<n+1):gH X sts (qS K P C W (oI Z sts)):=by
 obtain⟨po,xo,hfn,sk⟩:=id cx
 cases sts with
 |nil=>exact RU
 |cons s r=>exact OH (aGt ih cx s (Nat.lt_trans (by simp;omega) hZ)) (ih _ cx r (bI (by simp;omega) hZ)).1
theorem ihS:∀n:Nat,IhS K P C W Z n
 | 0,_,_,_,h=>absurd h (Nat.not_lt_zero _)
 |n+1,_,c,sts,h=>⟨aB6 (ihS n) c sts h,trivial⟩
def aCl(po:PassesOwn (model X.prog X.w) X.A X.env X.xe)(xo:bM X K P C Z)(hfn:∀x,Z.isLoc x=true->X.fn x=true\/X.env.scope.names.lookup x=some .local)(sk:Z.top=true->X.stack=X.env::X.outer/\X.env.frame=some X.env.locals)(sts:List Stmt):gH X sts (qS K P C W (oI Z sts)):=(ihS _ X ⟨po,xo,hfn,sk⟩ sts (Nat.lt_succ_self _)).1
end
noncomputable def nB(ps:List Str):Nat->List Stmt->Option (List Str)
 |j,[]=>if j=ps.length then some [] else none
 |j,.Assign [.Attribute (.Name s _) f _] (.Name q _) _::r=>if ps[0]?=some s/\ps[j]?=some q/\kR s=false/\kR q=false then(nB ps (j+1) r).map (f :: ·) else none
 |_,_=>none
theorem HC:∀{fs:List (Str×V)},f ∉ fs.map (·.1)->iF f y fs=fs++[(f,y)]
 |[],_=>rfl
 | (g,x)::r,h=>by(rw[Zs,List.mem_cons,not_or] at h;rw[iF,Zp (λz=>h.1 z.symm),HC h.2];rfl)
def aBw(h:H a=some o):aP H a o=H:=by
 funext b
 unfold aP;split
 ·rename_i z;rw[z,h]
 ·rfl
theorem B4{K:Frag}(hK:X.K=K)(hN:∀(i:Nat) x,ps[i]?=some x->X.N[i]?=some x/\N4 X.env.scope x)(hl:xs.length+1=ps.length)(cl:Cls K Ca):∀(r:List Stmt) (j:Nat) (ns:List Str),nB ps j r=some ns->1<=j ->
  ∃t,gH X r t/\∀(D:Ends) (Y:L2.St) (H:Hp) (fs:List (Str×V)),(∀(i:Nat) v,(V.ref a::xs)[i]?=some v->Y[i]?=some (some v))->H a=some (.ins Ca dx fs)->(∀f∈ns,mQ K Ca f)->(fs.map (·.1)++ns).Nodup->fs.length+ns.length<1000 ->
   D.nx Y (aP H a (.ins Ca dx (fs++ns.zip (xs.drop (j-1)))))->t D Y H
 |[],j,ns,h,hj=>by
  unfold nB at h;split at h
  ·rename_i hje;cases h;refine⟨K6,KL,λD Y H fs _ ha _ _ _ q=>?_⟩;simp only[List.zip_nil_left,List.append_nil] at q;rw[aBw ha] at q;exact q
  ·cases h
 |st::r,j,ns,h,hj=>by
  unfold nB at h;split at h
  ·rename_i heq;cases heq
  ·rename_i j _ _ s p1 f p2 q p3 p4 r' heq;cases heq;split at h
   ·rename_i hc;obtain⟨c1,c2,c3,c4⟩:=hc
    cases q1:nB ps (j+1) r with
    |none=>rw[q1] at h;cases h
    |some ns' =>
     rw[q1] at h;cases h;obtain⟨t,ht,k⟩:=B4 hK hN hl cl r (j+1) ns' q1 (by omega);simp only[kR,Bool.or_eq_false_iff] at c3 c4;have v0:=HB (pos:=p1) (hN 0 s c1).1 (hN 0 s c1).2 c3.1.1 c3.1.2;have v1:=HB (pos:=p3) (hN j q c2).1 (hN j q c2).2 c4.1.1 c4.1.2;refine⟨_,GU (aEB v0 v1 rfl) ht,λD Y H fs hY ha hn Q7 hlt qq=>?_⟩;have hj2:j<ps.length:=(Zc.mp c2).1;obtain⟨j',rfl⟩:∃j',j=j'+1:=⟨j-1,by omega⟩
     have hxl:j'<xs.length:=by omega
     have hx:(V.ref a::xs)[j'+1]?=some xs[j']:=by simp[hxl]
     have hnf:f ∉ fs.map (·.1):=λz=>by
      have:=(List.nodup_append.mp Q7).2.2 f z f (by simp)
      exact this rfl
     refine⟨_,hY _ _ hx,.ref a,hY 0 _ rfl,a,Ca,dx,fs,rfl,ha,by rw[hK];exact cl,by rw[hK];exact hn f (by simp),by simp at hlt;omega, ?_⟩;rw[HC hnf];refine k D Y _ _ hY bA (λg hg=>hn g (Ze _ hg)) ?_ ?_ ?_
     ·simpa using Q7
     ·simp at hlt ⊢;omega
     ·rw[BA]
      have e:fs++(f::ns').zip (xs.drop (j'+1-1))=fs++[(f,xs[j'])]++ns'.zip (xs.drop (j'+1+1-1)):=by(rw[show j'+1-1=j' from rfl,show j'+1+1-1=j'+1 from rfl,List.drop_eq_getElem_cons hxl,List.zip_cons_cons,List.append_assoc];rfl)
      rw[<- e];exact qq
   ·cases h
  ·cases h
def aBb{K:Frag}{mg:Str->Option Value}{st:Stmt}{fa:Addr}(F:Fun K y qual st fa fd)(S:FnScope N ps (a6 st))(hb:nB ps 1 (cK st)=some ns)(hp:ps.length=ns.length+1)(Q7:ns.Nodup)(hlt:ns.length<1000) :
  FnOk Pr w K mg base uW 1 fa fd ps (Q2 K ns):=by
 refine F.ok S (λvs H Q E h=>?_) λcdv A outer s H vs Q E hr h=>?_
 ·obtain⟨a,Ca,dx,xs,rfl,h1,_⟩:=h;rw[Zk,h1,hp]
 ·obtain⟨a,Ca,dx,xs,rfl,h1,h2,h3,q⟩:=h
  have hNN:∀(i:Nat) x,ps[i]?=some x->N[i]?=some x/\N4 (a6 st) x:=λi x hx=>by
   have hm:x∈ps:=zj hx;refine⟨?_, ?_⟩
   ·have:=S.pre
    rw[<- this,List.getElem?_take] at hx;split at hx
    ·exact hx
    ·cases hx
   ·rcases S.par x hm with z | z
    ·exact .inl z
    ·exact .inr (.inl z)
  obtain⟨t,ht,k⟩:=B4 (X:=(vB uW Pr w K mg base N qual (a6 st) fa cdv A outer s H E).nox) (xs:=xs) (a:=a) rfl hNN (by omega) h3.cl (cK st) 1 ns hb (Zq _)
  ·refine⟨t,ht,k _ _ H [] (λi v hv=>?_) h2 h3.no (by simpa using Q7) (by simpa using hlt) ?_⟩
   ·have hl:i<(V.ref a::xs).length:=(Zc.mp hv).1;rw[vQ hl,Zh,hv];rfl
   ·simpa using q
structure ExiE(K:Frag)(mg:Str->Option Value)(x:Str):Prop where
 ex:True
def ExiE.at{K:Frag}(hK:X.K=K)(e:ExiE K X.mg x):ExiAt X K x:=⟨trivial⟩
structure EntB(K:Frag)(T:tX)(gl:Str->GV)(f:String)(fa:Addr)(fd:FuncData)(ps:List Str):Prop where
 bd:iN K fd ps []
 ex:∃(y qual:Str) (st:Stmt) (N:List Str) (fn:Fn),Fun K y qual st fa fd/\FnScope N ps (a6 st)/\N.Nodup/\T f=some fn/\fn.body=oI ⟨N,(a6 st).names,gl,true⟩ (cK st)/\N.length=fn.pins.length+fn.nl/\ps.length=fn.pins.length
structure Entry(K:Frag)(mg:Str->Option Value)(T:tX)(gl:Str->GV)(x:Str)(f:String)(fa:Addr)(fd:FuncData)(ps:List Str):Prop where
 mgx:mg x=some (.ref fa)
 kp:PySem.W.keepIn K (.ref fa)=true
 b:EntB K T gl f fa fd ps
structure ClsE(K:Frag)(mg:Str->Option Value)(x:Str)(ns:List Str):Prop where
 ex:∃(Ca fa:Addr) (fd:FuncData) (ps:List Str) (y qual:Str) (st:Stmt) (N:List Str),nsIn K mainGlobals x=some (some (.ref Ca))/\mg x=some (.ref Ca)/\Mk K Ca fa/\ClsF K Ca ns /\
  Fun K y qual st fa fd/\FnScope N ps (a6 st)/\nB ps 1 (cK st)=some ns/\ps.length=ns.length+1/\ns.Nodup/\ns.length<1000/\iN K fd ps []
structure MthE(K:Frag)(T:tX)(gl:Str->GV)(c m:Str)(f:String):Prop where
 ex:∃(Ca fa:Addr) (fd:FuncData) (ps:List Str),nsIn K mainGlobals c=some (some (.ref Ca))/\Meth K Ca m fa/\EntB K T gl f fa fd ps/\Cls K Ca
structure Globs(K:Frag)(mg:Str->Option Value)(T:tX)(gl:Str->GV):Prop where
 con:∀x d,gl x=.con d->∃u v,mg x=some u/\a7 v u/\∀G,aC K G d v
 blt:∀x,gl x=.blt->mg x=none
 fn:∀x f,gl x=.fn f->∃fa fd ps,Entry K mg T gl x f fa fd ps
 cls:∀x ns,gl x=.cls ns->ClsE K mg x ns
 mth:∀m tb c f,gl (vU m)=.mth tb->tb.lookup c=some f->MthE K T gl c m f
 sub:∀x s n,gl (uB x)=.sub s n->SubAt K mg x s n
 subx:∀x s n,gl (uB x)=.subx s n->SubX K mg x s n
 exc:∀x,gl x=.exc->ExcAt K mg x
 exi:∀x,gl x=.exi->ExiE K mg x
 exs:∀x cs,gl (o6 x)=.exs cs->ExsAt K mg x cs
def D5{b:Bool}{o:Option (Exc×Env)}{as as':List Sl}{v:RV}(h:(if b=true then(match o with | some (x,U)=>(some (Out.ex x,back as U):aR RV) | none=>none) else none)=some (.ok v,as')):False:=by
 split at h
 ·split at h<;>cases h
 ·cases h
theorem G9{Pr:Program}{w:World}{K:Frag}{mg:Str->Option Value}{base:Heap}{T:tX}{gl:Str->GV}(W:Nat)(g:Globs K mg T gl):∀(d:Nat) (f:String) (fa:Addr) (fd:FuncData) (ps:List Str),
  EntB K T gl f fa fd ps->FnOk Pr w K mg base uW (d+2) fa fd ps (PJ K (T.pins f).length (run T W d f))/\True
 | 0,f,fa,fd,ps,e=>⟨⟨λvs H Q E h=>by obtain⟨_,as,G,v,as',_,_,z,_⟩:=h;simp[run] at z,λA outer s H args us vs Q E _ _ _ _ h=>by obtain⟨_,as,G,v,as',_,_,z,_⟩:=h;simp[run] at z⟩,trivial⟩
 |d+1,f,fa,fd,ps,e=>by
  obtain⟨y,qual,st,N,fn,F,S,nd,hT,hb,hN,hps⟩:=e.ex;have hpin:T.pins f=fn.pins:=by unfold tX.pins;rw[hT]
  refine⟨F.ok S (λvs H Q E h=>by rw[h.1,hpin,hps]) λcdv A outer s H vs Q E hr h=>?_, ?_⟩
  ·obtain⟨hl,as,G,v,as',rel,hal,er,k⟩:=h
   let X:Cx:=(vB uW Pr w K mg base N qual (a6 st) fa cdv A outer s H E).nox
   let Z:CC:=⟨N,(a6 st).names,gl,true⟩
   have xo:bM X K T.pins (run T W d) Z:=by
    refine bM.of rfl rfl rfl nd rfl hr.hd hr.units g.con g.blt (λx' f' hx=>?_) (λx' ns hx=>?_) (λm tb c f' h1 h2=>?_) (hr.mono (by omega)) g.sub g.subx ⟨g.exc,λx hx=>(g.exi x hx).at rfl⟩ g.exs (λx' f' hx=>?_) ⟨_,_,_,rfl,rfl,rfl⟩
    ·obtain⟨fa',fd',ps',e'⟩:=g.fn x' f' hx;exact⟨fa',fd',ps',d+2,(G9 W g d f' fa' fd' ps' e'.b).1,hr,e'.mgx,e'.kp,e'.b.bd⟩
    ·obtain⟨Ca,fa',fd',ps',y',qual',st',N',h1,h2,h3,h4,h5,h6,h7,h8,h9,h10,h11⟩:=(g.cls x' ns hx).ex;exact⟨Ca,fa',fd',ps',h1,h2,h3,h4,aBb h5 h6 h7 h8 h9 h10,h11⟩
    ·obtain⟨Ca,fa',fd',ps',h3,h4,e',hcl⟩:=(g.mth m tb c f' h1 h2).ex;exact⟨Ca,fa',fd',ps',d+2,h3,h4,(G9 W g d f' fa' fd' ps' e').1,hr,e'.bd,hcl⟩
    ·exact⟨trivial⟩
   refine⟨_,aCl (W:=W) (X:=X) (Z:=Z) PassesOwn.never xo (λ_ _=>.inl rfl) (λ_=>⟨rfl,rfl⟩) (cK st), ?_⟩;simp only[run,hT] at er;split at er
   ·rename_i hc;rw[hb] at er;have hNa:N.length=as.length+fn.nl:=by rw[hN,hc.1]
    have hpad:=rel.pad hNa
    cases q:exs T.pins (run T W d) W (oI ⟨N,(a6 st).names,gl,true⟩ (cK st)) (as++List.replicate fn.nl .un) with
    |none=>rw[q] at er;exact(D5 er).elim
    |some y =>
     obtain⟨fl,U'⟩:=y;rw[q] at er;refine⟨as++List.replicate fn.nl .un,G,fl,U',hpad.1,q, ?_⟩
     cases fl with
     |nx =>
      cases er;intro Y' H' G' a;obtain⟨b1,b2⟩:=xS rel hc.2 hNa a;exact k .non H' G' b1 (by show aC K G' .non _;simp[aC])
     |rt v' =>
      cases er;intro x' Y' H' G' a hv;obtain⟨b1,b2⟩:=xS rel hc.2 hNa a;refine k x' H' G' b1 ?_
      have key:∀c,¬aL U' Y' c->(aL (as++List.replicate fn.nl .un) (cY N vs) c\/H c=none)->H c=none:=λc nc mc=>by
       rcases mc with mc | mc
       ·have:=hpad.2 c mc
        obtain⟨i,d1,p1,l1,h1,h2⟩:=this;refine absurd ?_ nc
        apply b2 c
        have hp:=List.all_eq_true.mp hc.2 _ (zj h1);simp only[nK] at hp;subst hp
        have:=b1.evo i
        rw[h1] at this
        cases q3:(back as U')[i]? with
        |none=>rw[q3] at this;exact this.elim
        |some s =>
         rw[q3] at this
         cases s with
         |ow d2 p2 l2=>exact⟨i,d2,p2,l2,q3,h2⟩
         |sh d2=>exact absurd (show true=false from this) (by simp)
         |un=>exact this.elim
         |mv=>exact this.elim
       ·exact mc
      cases v with
      |sh d0=>exact hv
      |ow d0 =>
       obtain⟨c,rfl,gc,oc,nc,mc⟩:=hv;exact⟨c,rfl,gc,oc,λz=>nc (b2 c z),key c nc mc⟩
      |od d0 =>
       obtain⟨c,rfl,gc,oc,nc,mc,ys,hy,hr⟩:=hv;exact⟨c,rfl,gc,oc,λz=>nc (b2 c z),key c nc mc,ys,hy,λx hx=>let ⟨b,ws,h1,h2,h3,h4,h5,h6⟩:=hr x hx;⟨b,ws,h1,h2,h3,λz=>h4 (b2 b z),key b h4 h5,h6⟩⟩
     |bk=>exact(D5 er).elim
     |ct=>exact(D5 er).elim
     |ex x'=>exact(D5 er).elim
   ·cases er
  ·trivial
noncomputable def dG(st:Stmt):List Str:=(eY st).args.map (·.arg)
noncomputable def yO(st:Stmt):List Str:=dG st++(((a6 st).names.filter λy=>(y.2==.local||y.2==.cell) && !(dG st).contains y.1).map (·.1))
noncomputable def NC(gl:Str->GV)(st:Stmt):List S:=oI ⟨yO st,(a6 st).names,gl,true⟩ (cK st)
structure MthAt(K:Frag)(x m qual:Str)(st:Stmt):Prop where
 ex:∃(Ca f:Addr) (oc:Value) (od an:Option Addr) (kV doc pm cdv ct:Value) (osl:Array (Option Value)),nsIn K mainGlobals x=some (some (.ref Ca))/\findIn K (.ref Ca) m=some (some (.ref f))/\PySem.W.isFn K (.ref f)=true /\
  K.lookup f=some ⟨oc,od,.func (PySem.W.fnOf m qual (eY st) (cK st) (a6 st) .none kV doc pm an cdv ct),osl⟩/\PySem.W.codeIn K cdv qual=true/\PySem.W.keepIn K (.ref f)=true
def eS{K:Frag}{st:Stmt}{kV doc pm cdv ct:Value}(a:nsIn K mainGlobals x=some (some (.ref Ca)))(b:findIn K (.ref Ca) m=some (some (.ref f)))(i:PySem.W.isFn K (.ref f)=true)
  (l:K.lookup f=some ⟨oc,od,.func (PySem.W.fnOf m qual (eY st) (cK st) (a6 st) .none kV doc pm an cdv ct),osl⟩) (c:PySem.W.codeIn K cdv qual=true) (k:PySem.W.keepIn K (.ref f)=true):MthAt K x m qual st :=
 ⟨Ca,f,oc,od,an,kV,doc,pm,cdv,ct,osl,a,b,i,l,c,k⟩
structure ClsAt(K:Frag)(x:Str):Prop where
 ex:∃Ca:Addr,nsIn K mainGlobals x=some (some (.ref Ca))/\Cls K Ca/\PySem.W.makesIn K Ca=true/\PySem.W.keepIn K (.ref Ca)=true
def n6{K:Frag}(a:nsIn K mainGlobals x=some (some (.ref Ca)))(pg:PySem.W.plainGet K Ca Str.empty=true)(hd:PySem.W.hasDictIn K Ca=true)(po:PySem.W.plainOver K Ca=true)
  (sa:findIn K (.ref Ca) "__setattr__"=some (some (.builtin "object.__setattr__"))) (mk:PySem.W.makesIn K Ca=true) (kp:PySem.W.keepIn K (.ref Ca)=true):ClsAt K x:=⟨Ca,a,⟨pg,hd,po,sa⟩,mk,kp⟩
def aCq(K:Frag)(x f:Str):Prop:=∃Ca:Addr,nsIn K mainGlobals x=some (some (.ref Ca))/\findIn K (.ref Ca) f=some none
def rZ{K:Frag}(a:nsIn K mainGlobals x=some (some (.ref Ca)))(b:findIn K (.ref Ca) f=some none):aCq K x f:=⟨Ca,a,b⟩
structure DefAt(K:Frag)(x:Str)(st:Stmt):Prop where
 ex:∃(f:Addr) (oc:Value) (od an:Option Addr) (kV doc pm cdv ct:Value) (osl:Array (Option Value)),nsIn K mainGlobals x=some (some (.ref f)) /\
  K.lookup f=some ⟨oc,od,.func (PySem.W.fnOf x x (eY st) (cK st) (a6 st) .none kV doc pm an cdv ct),osl⟩/\PySem.W.codeIn K cdv x=true/\PySem.W.keepIn K (.ref f)=true
def a9{K:Frag}{st:Stmt}{kV doc pm cdv ct:Value}(a:nsIn K mainGlobals x=some (some (.ref f)))
  (l:K.lookup f=some ⟨oc,od,.func (PySem.W.fnOf x x (eY st) (cK st) (a6 st) .none kV doc pm an cdv ct),osl⟩) (c:PySem.W.codeIn K cdv x=true) (k:PySem.W.keepIn K (.ref f)=true):DefAt K x st :=
 ⟨f,oc,od,an,kV,doc,pm,cdv,ct,osl,a,l,c,k⟩
structure DefOkQ(gl:Str->GV)(st:Stmt)(x qual:Str)(fn:Fn):Prop where
 sc:FnScope (yO st) (dG st) (a6 st)
 body:fn.body=NC gl st
 len:(yO st).length=fn.pins.length+fn.nl
 pl:(dG st).length=fn.pins.length
 bind:∀(kV doc pm:Value) (an:Option Addr) (cdv ct:Value) (us:List Value),us.length=(dG st).length->bindArgs (PySem.W.fnOf x qual (eY st) (cK st) (a6 st) .none kV doc pm an cdv ct) ⟨us,[]⟩=pure ((dG st).zip us)
abbrev bK(gl:Str->GV)(st:Stmt)(x:Str)(fn:Fn):Prop:=DefOkQ gl st x x fn
def A6{K:Frag}{st:Stmt}(F:Fun K x qual st fa fd)(O:DefOkQ gl st x qual fn)(hT:T f=some fn):EntB K T gl f fa fd (dG st) :=
 ⟨F.binds O.bind,x,qual,st,yO st,fn,F,O.sc,O.sc.nd,hT,O.body,O.len,O.pl⟩
def lJ{K:Frag}{st:Stmt}(A:ClsAt K x)(D:MthAt K x m qual st)(O:DefOkQ gl st m qual fn)(hT:T f=some fn):MthE K T gl x m f:=by
 obtain⟨Ca,fa,oc,od,an,kV,doc,pm,cdv,ct,osl,a,b,i,l,c,k⟩:=D.ex;obtain⟨Cb,a',cl,_,_⟩:=A.ex;rw[a] at a';cases a';exact⟨Ca,fa,_,dG st,a,⟨b,i,k⟩,A6 (yF l c k) O hT,cl⟩
structure IniOk(st:Stmt)(qual:Str)(ns:List Str):Prop where
 sc:FnScope (yO st) (dG st) (a6 st)
 body:nB (dG st) 1 (cK st)=some ns
 pl:(dG st).length=ns.length+1
 nd:ns.Nodup
 lt:ns.length<1000
 bind:∀(kV doc pm:Value) (an:Option Addr) (cdv ct:Value) (us:List Value),us.length=(dG st).length->bindArgs (PySem.W.fnOf "__init__" qual (eY st) (cK st) (a6 st) .none kV doc pm an cdv ct) ⟨us,[]⟩=pure ((dG st).zip us)
def oP{K:Frag}{st:Stmt}(X:K.In h)(G:h.Ns mainGlobals mg)(A:ClsAt K x)(D:MthAt K x "__init__" qual st)(O:IniOk st qual ns)(N:∀f∈ns,aCq K x f):ClsE K mg x ns:=by
 obtain⟨Ca,a,cl,mk,kp⟩:=A.ex;obtain⟨Cb,fa,oc,od,an,kV,doc,pm,cdv,ct,osl,a',b,i,l,c,k⟩:=D.ex;rw[a] at a';cases a';have F:=yF l c k;refine⟨Ca,fa,_,dG st,"__init__",qual,st,yO st,a,PySem.W.mg_of X G a,⟨mk,b,i,kp⟩,⟨cl,λf hf=>?_⟩,F,O.sc,O.body,O.pl,O.nd,O.lt,F.binds O.bind⟩;obtain⟨Cc,a2,b2⟩:=N f hf;rw[a] at a2;cases a2;exact b2
def aN{K:Frag}{st:Stmt}(X:K.In h)(G:h.Ns mainGlobals mg)(D:DefAt K x st)(O:bK gl st x fn)(hT:T f=some fn):∃fa fd ps,Entry K mg T gl x f fa fd ps:=by
 obtain⟨fa,oc,od,an,kV,doc,pm,cdv,ct,osl,a,l,c,k⟩:=D.ex;have F:=yF l c k;exact⟨fa,_,dG st,PySem.W.mg_of X G a,k,A6 F O hT⟩
noncomputable def bE(L:List (Str×GV))(x:Str):GV:=(L.lookup x).getD .no
theorem eT[BEq O][LawfulBEq O]:∀{L:List (O×N)} {x:O} {v:N},L.lookup x=some v->(x,v)∈L
 |[],_,_,h=>by simp at h
 | (y,w)::L,x,v,h=>by
  rw[List.lookup_cons] at h;split at h
  ·rename_i hb;cases h;rw[Zy hb];exact zh
  ·exact Ze _ (eT h)
def fU(h:bE L x=v)(n:v≠.no):(x,v)∈L:=by
 unfold bE at h
 cases q:L.lookup x with
 |none=>rw[q] at h;exact absurd h.symm n
 |some w =>
  rw[q] at h;cases h;exact eT q
def rO(K:Frag)(mg:Str->Option Value)(T:tX)(gl:Str->GV):Str×GV->Prop
 | (x,.cls ns)=>ClsE K mg x ns
 | (x,.mth tb)=>∃m,x=vU m/\∀p∈tb,MthE K T gl p.1 m p.2
 | (x,.con d)=>∃u v,mg x=some u/\a7 v u/\∀G,aC K G d v
 | (x,.blt)=>mg x=none
 | (x,.fn f)=>∃fa fd ps,Entry K mg T gl x f fa fd ps
 | (x,.sub s n)=>∃m,x=uB m/\SubAt K mg m s n
 | (x,.subx s n)=>∃m,x=uB m/\SubX K mg m s n
 | (x,.exc)=>ExcAt K mg x
 | (x,.exi)=>ExiE K mg x
 | (x,.exs cs)=>∃m,x=o6 m/\ExsAt K mg m cs
 | (_,.no)=>True
def JB{x y:Str}(h:(⟨p++x.cps⟩:Str)=⟨p++y.cps⟩):x=y:=by
 have e6:=congrArg Array.toList (congrArg Str.cps h);simp only[Array.toList_append] at e6;have e5:=Array.toList_inj.mp (List.append_cancel_left e6);cases x;cases y;simp only at e5;rw[e5]
def RZ{K:Frag}(h:∀p∈L,rO K mg T (bE L) p):Globs K mg T (bE L) :=
 ⟨λx d e=>h _ (fU e (λz=>nomatch z)),λx e=>h _ (fU e (λz=>nomatch z)),λx f e=>h _ (fU e (λz=>nomatch z)),λx ns e=>h _ (fU e (λz=>nomatch z)),λm tb c f e e2=>by
  obtain⟨m',e3,k⟩:=h _ (fU e (λz=>nomatch z))
  have:m'=m:=by
   unfold vU at e3;have e4:(#[46]++m.cps:Array Nat)=#[46]++m'.cps:=congrArg Str.cps e3
   have e5:m.cps=m'.cps:=by(have e6:=congrArg Array.toList e4;rw[Array.toList_append,Array.toList_append] at e6;exact Array.toList_inj.mp (List.append_cancel_left e6))
   cases m;cases m';simp only at e5;rw[e5]
  subst this;exact k _ (eT e2),λx s n e=>by
  obtain⟨m',e3,k⟩:=h _ (fU e (λz=>nomatch z))
  have:m'=x:=by
   unfold uB at e3
   have e5:x.cps=m'.cps:=by(have e6:=congrArg Array.toList (congrArg Str.cps e3);simp only[Array.toList_append] at e6;exact Array.toList_inj.mp (List.append_cancel_left e6))
   cases x;cases m';simp only at e5;rw[e5]
  subst this;exact k,λx s n e=>by
  obtain⟨m',e3,k⟩:=h _ (fU e (λz=>nomatch z));rw[JB e3];exact k,λx e=>h _ (fU e (λz=>nomatch z)),λx e=>h _ (fU e (λz=>nomatch z)),λx cs e=>by
  obtain⟨m',e3,k⟩:=h _ (fU e (λz=>nomatch z));rw[JB e3]
  exact k⟩
def JP{K:Frag}(X:K.In h)(G:h.Ns mainGlobals mg)(a:nsIn K mainGlobals x=some (some (.int i t))):rO K mg T gl (x,.con (.int i)) :=
 ⟨_,.int i,PySem.W.mg_of X G a,⟨t,rfl⟩,λG=>by simp[aC]⟩
def aBr{K:Frag}(X:K.In h)(G:h.Ns mainGlobals mg)(a:nsIn K mainGlobals x=some none):rO K mg T gl (x,.blt):=PySem.W.mg_none_of X G a
def R4{l:PySem.W.OpenLaw}{K:Params->Frag}{st:Stmt}
  (hn:l.most=some 63) (hdf:d.params.defaults=[]) (hr:Room (n+2) callerA) (hx:d.name=x) (hT:T f=some fn) (O:bK (bE L) st x fn) (hp:dG st=[p])
  (hY:∀(w:World) (h:Heap),YP w h->(K w.params).In h)
  (F:∀(w:World) (mg:Str->Option Value) (h:Heap),(K w.params).In h->h.Ns mainGlobals mg->DefAt (K w.params) x st/\∀p∈L,rO (K w.params) mg T (bE L) p)
  (M:∀ns:List Int,ns.length<=63->∃as',run T W n f [.sh (.lst (ns.map .int))]=some (.ok (.sh (.bl true)),as')) :
  PySem.W.WalkO q loose XP YP l.row.toRowW d [] (λf vs=>PySem.call f vs):=by
 refine L2.aA8 (n:=63) (k:=n+2) (x:=p) (CX:=λ_=>uW) (sp:=λw=>PJ (K w.params) 1 (run T W n f)) hn (by decide) hdf hr hY (λw mg fa h KX G hmg=>?_) (λw H a ns hl hO hS=>?_) λ_ _ _ _ _ z=>z
 ·obtain⟨D,hG⟩:=F w mg h KX G;have g:=RZ hG;obtain⟨fa',oc,od,an,kV,doc,pm,cdv,ct,osl,a,lk,c,k⟩:=D.ex;have hm:=PySem.W.mg_of KX G a;rw[hx,hm] at hmg;cases hmg;have Fu:=yF lk c k;have E:Entry (K w.params) mg T (bE L) x f fa _ (dG st):=⟨hm,k,A6 Fu O hT⟩
  have hpins:(T.pins f).length=1:=by(unfold tX.pins;rw[hT];show fn.pins.length=1;rw[<- O.pl,hp];rfl)
  refine⟨PySem.W.fnOf x x (eY st) (cK st) (a6 st) .none kV doc pm an cdv ct,λs u=>?_,λbase kb nb=>?_⟩
  rotate_left
  ·have:=(G9 (Pr:=l.prog) (w:=w) (base:=base) W g n f fa _ (dG st) E.b).1
   rw[hpins] at this;rw[hp] at this;exact this
  ·have:=O.bind kV doc pm an cdv ct [u] (by rw[hp];rfl)
   rw[hp] at this;exact .of_eq this
 ·obtain⟨as',e⟩:=M ns hl
  have hr1:aB (K w.params) H (ns.map .int) (ns.map V.int):=by
   induction ns with
   |nil=>exact aB.nil
   |cons i r ih=>exact aB.cons (by simp[aC]) (by
     clear e hS hl ih
     induction r with
     |nil=>exact aB.nil
     |cons i r ih=>exact aB.cons (by simp[aC]) ih)
  refine⟨rfl,[.sh (.lst (ns.map .int))],H,.sh (.bl true),as',Rel.cons_sh (Rel.nil (aV.refl _)) ?_,rfl,e,λx H' G' _ hv=>u9 (K:=K w.params) (G:=G') hv⟩;simp only[aC];exact⟨a,_,rfl,hS,hr1⟩
end CI
namespace CI
open PySem (Operator CmpOp)
noncomputable section
variable{U U1 U2:Env}
theorem aGj:aR.bind (some (.ok a,U)) f=f a U:=rfl
theorem aEX:aR.flow (some (.ok a,U)) f=f a U:=rfl
theorem mJ:dB.next (some (.nx,U)) f=f U:=rfl
theorem WS:dB.next (some (.rt v,U)) f=some (.rt v,U):=rfl
theorem aAF:kW (some U)=some (.nx,U):=rfl
theorem QD:done (some v) U=some (.ok v,U):=rfl
theorem aHs:(RV.sh d).d=d:=rfl
theorem aHU:(RV.ow d).d=d:=rfl
theorem aIb:(Sl.sh d).get=some d:=rfl
theorem aHI:(Sl.ow d p l).get=some d:=rfl
theorem aB3:(Hd.val v).get U=some v.d:=rfl
theorem aAA:(Hd.slot i).get U=(U[i]?).bind Sl.get:=rfl
noncomputable def kTr(U:Env)(o:Option Bool):aR RV:=o.map λb=>(.ok (.sh (.bl b)),U)
theorem UI:kTr U (some b)=some (.ok (.sh (.bl b)),U):=rfl
theorem aHf:bP false r=r:=rfl
theorem aHb:bP true (some (.ok v,U))=kTr U (iY v.d):=rfl
noncomputable def WQ(i:Nat)(U:Env):Option Sl->aR RV
 |some (.sh d)=>some (.ok (.sh d),U)
 |some (.ow d false false)=>some (.ok (.sh d),U.set i (.sh d))
 |_=>none
theorem aEo:WQ i U (some (.sh d))=some (.ok (.sh d),U):=rfl
theorem aEx:WQ i U (some (.ow d false false))=some (.ok (.sh d),U.set i (.sh d)):=rfl
noncomputable def kPk(U:Env)(o:Option D):aR RV:=bP true (o.map λd=>(.ok (.sh d),U))
theorem RM:kPk U (some d)=kTr U (iY d):=rfl
theorem aA0:ev P C false (.var i) U=WQ i U U[i]?:=rfl
theorem YB:ev P C true (.var i) U=kPk U ((U[i]?).bind Sl.get):=rfl
theorem aDs:ev P C t (.con d) U=bP t (some (.ok (.sh d),U)):=rfl
noncomputable def J7(b:Bool)(v:RV)(U:Env):aR RV:=if b then some (.ok v,U) else none
theorem aFi:J7 true v U=some (.ok v,U):=rfl
def cZ(h:n<=1000000):aJ n=true:=@decide_eq_true _ (cl _) h
theorem aHE:aJ 0=true:=cZ (by decide)
theorem aHy:aJ 1=true:=cZ (by decide)
theorem aIp:aJ 2=true:=cZ (by decide)
theorem aIu:aJ 3=true:=cZ (by decide)
theorem aH1:aJ 4=true:=cZ (by decide)
theorem aHj:aJ 5=true:=cZ (by decide)
noncomputable def aEn(ds:List D)(U:Env):aR RV:=J7 (aJ ds.length) (.sh (.tup ds)) U
noncomputable def aBG(ds:List D)(U:Env):aR RV:=J7 (aJ ds.length) (.ow (.lst ds)) U
theorem aE2:aEn ds U=J7 (aJ ds.length) (.sh (.tup ds)) U:=rfl
theorem aGD:aBG ds U=J7 (aJ ds.length) (.ow (.lst ds)) U:=rfl
theorem aCb:ev P C t (.tup es) U=bP t ((oS P C es U).bind aEn):=rfl
theorem aEi:ev P C t (.lst es) U=bP t ((oS P C es U).bind aBG):=rfl
theorem ZU:oS P C [] U=some (.ok [],U):=rfl
noncomputable def EV(v:RV)(ds:List D)(U:Env):aR (List D):=some (.ok (v.d::ds),U)
noncomputable def QL(P:aW)(C:Calls)(es:List E)(v:RV)(U:Env):aR (List D):=(oS P C es U).bind (EV v)
theorem aBk:EV v ds U=some (.ok (v.d::ds),U):=rfl
theorem ZH:QL P C es v U=(oS P C es U).bind (EV v):=rfl
theorem RJ:oS P C (e::es) U=(ev P C false e U).bind (QL P C es):=rfl
theorem TM:cU P C [] U=some (.ok [],U):=rfl
noncomputable def AF(v:Hd)(ds:List Hd)(U:Env):aR (List Hd):=some (.ok (v::ds),U)
noncomputable def J2(P:aW)(C:Calls)(es:List E)(v:Hd)(U:Env):aR (List Hd):=(cU P C es U).bind (AF v)
theorem T4:AF v ds U=some (.ok (v::ds),U):=rfl
theorem TX:J2 P C es v U=(cU P C es U).bind (AF v):=rfl
noncomputable def dP(P:aW)(C:Calls)(e:E)(U:Env):aR Hd:=hd e (ev P C false e U) U
noncomputable def gU(v:RV)(U:Env):aR Hd:=some (.ok (.val v.low),U)
theorem aFM:gU (.sh d) U=some (.ok (.val (.sh d)),U):=rfl
theorem aDG:gU (.ow d) U=some (.ok (.val (.ow d)),U):=rfl
noncomputable def XA(i:Nat)(U:Env)(b:Bool):aR Hd:=if b then some (.ok (.slot i),U) else none
theorem YV:XA i U true=some (.ok (.slot i),U):=rfl
theorem aA5:dP P C (.var i) U=XA i U ((U[i]?).bind Sl.get).isSome:=rfl
theorem Z9:dP P C (.con d) U=some (.ok (.val (.sh d)),U):=rfl
theorem ZE:dP P C (.tup es) U=(ev P C false (.tup es) U).bind gU:=rfl
theorem YA:dP P C (.lst es) U=(ev P C false (.lst es) U).bind gU:=rfl
theorem aAy:dP P C (.bin op a b) U=(ev P C false (.bin op a b) U).bind gU:=rfl
theorem aAd:dP P C (.neg a) U=(ev P C false (.neg a) U).bind gU:=rfl
theorem aAu:dP P C (.cmp op a b) U=(ev P C false (.cmp op a b) U).bind gU:=rfl
theorem SQ:dP P C (.cmp2 op op' a b c) U=(ev P C false (.cmp2 op op' a b c) U).bind gU:=rfl
theorem XZ:dP P C (.and a b) U=(ev P C false (.and a b) U).bind gU:=rfl
theorem aCj:dP P C (.ix a b) U=(ev P C false (.ix a b) U).bind gU:=rfl
theorem aDp:dP P C (.sl a b c) U=(ev P C false (.sl a b c) U).bind gU:=rfl
theorem TC:dP P C (.call f es) U=(ev P C false (.call f es) U).bind gU:=rfl
theorem Y9:dP P C (.bif f es) U=(ev P C false (.bif f es) U).bind gU:=rfl
theorem YL:dP P C (.isi a ts) U=(ev P C false (.isi a ts) U).bind gU:=rfl
theorem TQ{its cond:List E}:dP P C (.comp elt tg k its cond imp nl) U=(ev P C false (.comp elt tg k its cond imp nl) U).bind gU:=rfl
theorem NM:cU P C (e::es) U=(dP P C e U).bind (J2 P C es):=rfl
noncomputable def vE(op:Operator)(x:Hd)(a b:Option D):Option RV:=a.bind λd=>b.bind λe=>if rL op x d then bX op d e else none
noncomputable def MC(op:Operator)(x y:Hd)(U:Env):aR RV:=done (vE op x (x.get U) (y.get U)) U
noncomputable def WK(P:aW)(C:Calls)(op:Operator)(b:E)(x:Hd)(U:Env):aR RV:=(dP P C b U).bind (MC op x)
theorem aDk:MC op x y U=done (vE op x (x.get U) (y.get U)) U:=rfl
theorem aCo:WK P C op b x U=(dP P C b U).bind (MC op x):=rfl
theorem aCd:ev P C t (.bin op a b) U=bP t ((dP P C a U).bind (WK P C op b)):=rfl
theorem aDP:vE op x (some (.int i)) (some e)=bX op (.int i) e:=by
 unfold vE rL;cases op<;>rfl
theorem aDM:vE op x (some (.tup ds)) (some e)=bX op (.tup ds) e:=by
 unfold vE rL;cases op<;>rfl
theorem aBF:vE .Add x (some (.lst ds)) (some e)=bX .Add (.lst ds) e:=rfl
theorem aCm:vE .Mult (.val (.ow d)) (some (.lst ds)) (some e)=bX .Mult (.lst ds) e:=rfl
theorem aGi:bX .Add (.int i) (.int j)=some (.sh (.int (i+j))):=rfl
theorem aGK:bX .Sub (.int i) (.int j)=some (.sh (.int (i-j))):=rfl
def XC(h:(-(2 ^ 64)<i/\i<2 ^ 64)\/(-(2 ^ 64)<j/\j<2 ^ 64)):bX .Mult (.int i) (.int j)=some (.sh (.int (i*j))):=Zo h
theorem aD4(h1:-18446744073709551616<j)(h2:j<18446744073709551616):bX .Mult (.int i) (.int j)=some (.sh (.int (i*j))):=XC (.inr ⟨h1,h2⟩)
theorem aD0(h1:-18446744073709551616<i)(h2:i<18446744073709551616):bX .Mult (.int i) (.int j)=some (.sh (.int (i*j))):=XC (.inl ⟨h1,h2⟩)
theorem aE9(h:0<j/\j<nofun):bX .FloorDiv (.int i) (.int j)=some (.sh (.int (i / j))):=Zo h
theorem aGs(h:0<j):bX .Mod (.int i) (.int j)=some (.sh (.int (i % j))):=Zo h
theorem aB0(h:0<=j)(h2:j<=1000):bX .LShift (.int 1) (.int j)=some (.sh (.int (2 ^ j.toNat))):=by
 show @ite _ _ (cl _) _ _=_;rw[Zo ⟨h,h2,by decide⟩,Int.one_mul]
theorem aF0(h:0<=j):bX .RShift (.int i) (.int j)=some (.sh (.int (i / 2 ^ j.toNat))):=Zo h
theorem aE3:bX .BitAnd (.int i) (.int j)=some (.sh (.int (PySem.Builtin.bitAnd i j))):=rfl
theorem oZ(h:aJ (xs.length+ys.length)=true):bX .Add (.lst xs) (.lst ys)=some (.ow (.lst (xs++ys))):=Zo h
def zD(h1:-(2 ^ 31)<=k)(h2:k<=1000)(h3:aJ (xs.length*k.toNat)=true):bX .Mult (.lst xs) (.int k)=some (.ow (.lst (List.replicate k.toNat xs).flatten)):=Zo ⟨h1,h2,h3⟩
theorem QI:bX .Add (.tup []) (.tup ys)=some (.sh (.tup ys)):=rfl
theorem oQ(h:aJ (xs.length+1+ys.length)=true):bX .Add (.tup (x::xs)) (.tup ys)=some (.sh (.tup (x::xs++ys))):=Zo h
noncomputable def aEd(v:RV)(U:Env):aR RV:=match v.d with
 |.int i=>some (.ok (.sh (.int (-i))),U)
 |_=>none
theorem aFO:aEd (.sh (.int i)) U=some (.ok (.sh (.int (-i))),U):=rfl
theorem aCO:ev P C t (.neg a) U=bP t ((ev P C false a U).bind aEd):=rfl
noncomputable def WD(v:RV)(U:Env):aR RV:=match v with
 |.sh (.bl b)=>some (.ok (.sh (.bl (!b))),U)
 |_=>none
theorem aBZ:WD (.sh (.bl b)) U=some (.ok (.sh (.bl (!b))),U):=rfl
theorem ZL:ev P C true (.not a) U=(ev P C true a U).bind WD:=rfl
noncomputable def UZ(o:Option D):Option RV:=o.bind λd=>(iY d).map λb=>.sh (.bl (!b))
noncomputable def WC(x:Hd)(U:Env):aR RV:=done (UZ (x.get U)) U
theorem aCa:WC x U=done (UZ (x.get U)) U:=rfl
theorem YQ:UZ (some (.bl b))=some (.sh (.bl (!b))):=rfl
theorem X2:ev P C false (.not a) U=(dP P C a U).bind WC:=rfl
noncomputable def FJ(op:CmpOp)(a b:Option D):Option RV:=a.bind λd=>b.bind λe=>(bL op d e).map λb=>.sh (.bl b)
theorem aFT:FJ op (some d) (some e)=(bL op d e).map λb=>.sh (.bl b):=rfl
noncomputable def V0(op:CmpOp)(a b:Option D):Option Bool:=a.bind λd=>b.bind λe=>bL op d e
theorem aGm:V0 op (some d) (some e)=bL op d e:=rfl
noncomputable def LJ(op:CmpOp)(x y:Hd)(U:Env):aR RV:=done (FJ op (x.get U) (y.get U)) U
noncomputable def WG(P:aW)(C:Calls)(op:CmpOp)(b:E)(x:Hd)(U:Env):aR RV:=(dP P C b U).bind (LJ op x)
theorem aCB:LJ op x y U=done (FJ op (x.get U) (y.get U)) U:=rfl
theorem aD5:WG P C op b x U=(dP P C b U).bind (LJ op x):=rfl
theorem aEa:ev P C t (.cmp op a b) U=(dP P C a U).bind (WG P C op b):=rfl
noncomputable def UK(op:CmpOp)(y z:Hd)(U:Env):aR RV:=done (FJ op (y.get U) (z.get U)) U
theorem aFG:UK op x y U=done (FJ op (x.get U) (y.get U)) U:=rfl
noncomputable def kCh(P:aW)(C:Calls)(op':CmpOp)(y:Hd)(c:E)(U:Env):Option Bool->aR RV
 |none=>none
 |some false=>some (.ok (.sh (.bl false)),U)
 |some true=>(dP P C c U).bind (UK op' y)
theorem aGv:kCh P C op' y c U (some b)=if b=true then(dP P C c U).bind (UK op' y) else some (.ok (.sh (.bl false)),U):=by cases b<;>rfl
noncomputable def VA(P:aW)(C:Calls)(op op':CmpOp)(c:E)(x y:Hd)(U:Env):aR RV:=kCh P C op' y c U (V0 op (x.get U) (y.get U))
noncomputable def aCf(P:aW)(C:Calls)(op op':CmpOp)(b c:E)(x:Hd)(U:Env):aR RV:=(dP P C b U).bind (VA P C op op' c x)
theorem aFf:VA P C op op' c x y U=kCh P C op' y c U (V0 op (x.get U) (y.get U)):=rfl
theorem aF4:aCf P C op op' b c x U=(dP P C b U).bind (VA P C op op' c x):=rfl
theorem YU:ev P C t (.cmp2 op op' a b c) U=(dP P C a U).bind (aCf P C op op' b c):=rfl
theorem aHW:bL .Lt (.int i) (.int j)=some (decide (i<j)):=rfl
theorem aHX:bL .LtE (.int i) (.int j)=some (decide (i<=j)):=rfl
theorem aIq:bL .Gt (.int i) (.int j)=some (decide (j<i)):=rfl
theorem aIn:bL .GtE (.int i) (.int j)=some (decide (j<=i)):=rfl
theorem aFL:bL .Eq (.int i) (.int j)=some (decide (i=j)):=rfl
theorem aFw:bL .NotEq (.int i) (.int j)=some (!decide (i=j)):=rfl
def UW(h1:bF 20 d=true)(h2:bF 20 e=true):bL .NotEq d e=some (!dH d e):=by
 show(if(bF 20 d&&bF 20 e)=true then some (!dH d e) else none)=_;rw[h1,h2];rfl
theorem aFW:bL .Eq (.str a) (.str b)=some (a==b):=rfl
theorem aGw:bL .Is .non .non=some true:=rfl
theorem aGl:bL .Is (.int i) .non=some false:=rfl
theorem aFc:bL .IsNot .non .non=some false:=rfl
theorem aF9:bL .IsNot (.int i) .non=some true:=rfl
theorem aHM:iY (.bl b)=some b:=rfl
noncomputable def aD8(P:aW)(C:Calls)(t:Bool)(b:E)(v:RV)(U:Env):aR RV:=match v with
 |.sh (.bl true)=>ev P C t b U
 |.sh (.bl false)=>some (.ok (.sh (.bl false)),U)
 |_=>none
noncomputable def kOr(P:aW)(C:Calls)(t:Bool)(b:E)(v:RV)(U:Env):aR RV:=match v with
 |.sh (.bl true)=>some (.ok (.sh (.bl true)),U)
 |.sh (.bl false)=>ev P C t b U
 |_=>none
noncomputable def aBR(P:aW)(C:Calls)(t:Bool)(a b:E)(v:RV)(U:Env):aR RV:=match v with
 |.sh (.bl true)=>ev P C t a U
 |.sh (.bl false)=>ev P C t b U
 |_=>none
theorem aC5:ev P C t (.and a b) U=(ev P C t a U).bind (aD8 P C t b):=rfl
theorem aFq:ev P C t (.or a b) U=(ev P C t a U).bind (kOr P C t b):=rfl
theorem aDJ:ev P C t (.ite c a b) U=(ev P C true c U).bind (aBR P C t a b):=rfl
theorem aEs:aD8 P C t b (.sh (.bl x)) U=if x=true then ev P C t b U else some (.ok (.sh (.bl false)),U):=by cases x<;>rfl
theorem aF1:kOr P C t b (.sh (.bl x)) U=if x=true then some (.ok (.sh (.bl true)),U) else ev P C t b U:=by cases x<;>rfl
theorem aEb:aBR P C t a b (.sh (.bl x)) U=if x=true then ev P C t a U else ev P C t b U:=by cases x<;>rfl
noncomputable def d6(a:Option D)(k:D):Option RV:=a.bind λd=>(OR d k).map .sh
noncomputable def UD(x:Hd)(k:RV)(U:Env):aR RV:=done (d6 (x.get U) k.d) U
noncomputable def aDl(P:aW)(C:Calls)(i:E)(x:Hd)(U:Env):aR RV:=(ev P C false i U).bind (UD x)
theorem aFV:UD x k U=done (d6 (x.get U) k.d) U:=rfl
theorem aGF:aDl P C i x U=(ev P C false i U).bind (UD x):=rfl
theorem aF3:ev P C t (.ix a i) U=bP t ((dP P C a U).bind (aDl P C i)):=rfl
def V9(h:L2.cV ds i=some d):d6 (some (.tup ds)) (.int i)=some (.sh d):=by
 show(L2.cV ds i).map RV.sh=_;rw[h];rfl
def LU(h:L2.cV ds i=some d):d6 (some (.lst ds)) (.int i)=some (.sh d):=by
 show(L2.cV ds i).map RV.sh=_;rw[h];rfl
theorem aEg:d6 (some (.tup ds)) (.int i)=(L2.cV ds i).map RV.sh:=rfl
theorem aEF:d6 (some (.lst ds)) (.int i)=(L2.cV ds i).map RV.sh:=rfl
def lM:L2.cV xs (OfNat.ofNat n)=xs[n]?:=by
 show L2.cV xs ((n:Nat):Int)=_
 cases h:xs[n]? with
 |some v=>exact L2.lV h
 |none =>
  unfold L2.cV L2.mX
  have:=List.getElem?_eq_none_iff.mp h
  rw[Zo (by omega),Zp (by omega)];rfl
theorem aHJ:L2.cV xs 0=xs[0]?:=lM (n:=0)
theorem aHN:L2.cV xs 1=xs[1]?:=lM (n:=1)
theorem aIt:L2.cV xs 2=xs[2]?:=lM (n:=2)
theorem aHZ:L2.cV xs 3=xs[3]?:=lM (n:=3)
noncomputable def kY(a l h:Option D):Option RV:=a.bind λd=>(oU l).bind λl=>(oU h).bind λh=>W6 d l h
noncomputable def VR(x:Hd)(l h:Option D)(U:Env):aR RV:=done (kY (x.get U) l h) U
noncomputable def wM(P:aW)(C:Calls)(e:E)(U:Env):aR (Option D):=AR e (ev P C false e U) U
noncomputable def UP(P:aW)(C:Calls)(hi:E)(x:Hd)(l:Option D)(U:Env):aR RV:=(wM P C hi U).bind (VR x l)
noncomputable def aDm(P:aW)(C:Calls)(lo hi:E)(x:Hd)(U:Env):aR RV:=(wM P C lo U).bind (UP P C hi x)
theorem aFZ:VR x l h U=done (kY (x.get U) l h) U:=rfl
theorem aGE:UP P C hi x l U=(wM P C hi U).bind (VR x l):=rfl
theorem aGJ:aDm P C lo hi x U=(wM P C lo U).bind (UP P C hi x):=rfl
theorem aAk:wM P C .omt U=some (.ok none,U):=rfl
noncomputable def yV(v:RV)(U:Env):aR (Option D):=some (.ok (some v.d),U)
theorem aEJ:yV v U=some (.ok (some v.d),U):=rfl
theorem aA7:wM P C (.con d) U=some (.ok (some d),U):=rfl
theorem aBe:wM P C (.var i) U=(ev P C false (.var i) U).bind yV:=rfl
theorem YS:wM P C (.bin op a b) U=(ev P C false (.bin op a b) U).bind yV:=rfl
theorem Z4:wM P C (.bif f es) U=(ev P C false (.bif f es) U).bind yV:=rfl
theorem aGI:ev P C t (.sl a lo hi) U=bP t ((dP P C a U).bind (aDm P C lo hi)):=rfl
noncomputable def DO(P:aW)(C:Calls)(f:String)(hs:List Hd)(U:Env):aR RV:=fF (P f) (C f) hs U
theorem aDq:DO P C f hs U=fF (P f) (C f) hs U:=rfl
theorem YJ:ev P C t (.call f es) U=bP t ((cU P C es U).bind (DO P C f)):=rfl
noncomputable def SU(pins:List Bool)(hs:List Hd)(U U1:Env):aR RV->aR RV
 |none=>none
 |some (o,as')=>(bN pins hs as' U U1).map λU'=>(o,U')
noncomputable def aD9(pins:List Bool)(f:List Sl->aR RV)(hs:List Hd)(U:Env):Option (List Sl×Env)->aR RV
 |none=>none
 |some (as,U1)=>SU pins hs U U1 (f as)
theorem aAV:fF pins f hs U=aD9 pins f hs U (bV pins hs U):=rfl
theorem aE1:aD9 pins f hs U (some (as,U1))=SU pins hs U U1 (f as):=rfl
noncomputable def aEL(o:Out RV)(x:Option Env):aR RV:=x.map λU'=>(o,U')
theorem aGB:aEL o (some U)=some (o,U):=rfl
theorem aF7:SU pins hs U U1 (some (o,as'))=aEL o (bN pins hs as' U U1):=rfl
noncomputable def yY(a:Sl)(o:Option (List Sl×Env)):Option (List Sl×Env):=o.map λ(as,U')=>(a::as,U')
theorem aH6:yY a (some (as,U))=some (a::as,U):=rfl
theorem aDQ:bV [] [] U=some ([],U):=rfl
theorem aFQ:bV (p::ps) (.val (.sh d)::r) U=yY (.sh d) (bV ps r U):=rfl
theorem aDE:bV (true::ps) (.val (.ow d)::r) U=yY (.ow d true false) (bV ps r U):=rfl
noncomputable def WW(p:Bool)(ps:List Bool)(i:Nat)(r:List Hd)(U:Env):Option Sl->Option (List Sl×Env)
 |some (.sh d)=>yY (.sh d) (bV ps r U)
 |some (.ow d pin lk)=>match p with
  |true=>yY (.ow d true lk) (bV ps r (U.set i .un))
  |false=>if pin||lk then none else yY (.sh d) (bV ps r (U.set i (.sh d)))
 |_=>none
theorem YY:bV (p::ps) (.slot i::r) U=WW p ps i r U U[i]?:=rfl
theorem aDT:WW p ps i r U (some (.sh d))=yY (.sh d) (bV ps r U):=rfl
theorem XN:WW true ps i r U (some (.ow d pin lk))=yY (.ow d true lk) (bV ps r (U.set i .un)):=rfl
theorem aAs:WW false ps i r U (some (.ow d false false))=yY (.sh d) (bV ps r (U.set i (.sh d))):=rfl
theorem aEP:bN [] [] [] U0 U=some U:=rfl
theorem aHB:bN (false::ps) (.slot i::hs) (a::as) U0 U=bN ps hs as U0 U:=rfl
theorem aGa:bN (false::ps) (.val v::hs) (a::as) U0 U=bN ps hs as U0 U:=rfl
theorem aBD:bN (true::ps) (.val v::hs) (a::as) U0 U=bN ps hs as U0 U:=rfl
noncomputable def kGb(ps:List Bool)(i:Nat)(hs:List Hd)(a:Sl)(as:List Sl)(U0 U:Env)(o:Option Sl):Option Env :=
  match o,a with
  |some (.ow _ pin lk),.ow d _ _=>bN ps hs as U0 (U.set i (.ow d pin lk))
  |some (.ow _ _ _),_=>none
  |_,_=>bN ps hs as U0 U
theorem aAa:bN (true::ps) (.slot i::hs) (a::as) U0 U=kGb ps i hs a as U0 U U0[i]?:=rfl
theorem aDI:kGb ps i hs (.ow d p l) as U0 U (some (.ow d' p' l'))=bN ps hs as U0 (U.set i (.ow d p' l')):=rfl
theorem aB1:kGb ps i hs a as U0 U (some (.sh d))=bN ps hs as U0 U:=rfl
noncomputable def aBp(f:BI)(hs:List Hd)(U:Env):aR RV:=done ((getAll hs U).bind (gG f)) U
theorem aFJ:aBp f hs U=done ((getAll hs U).bind (gG f)) U:=rfl
theorem aBY:ev P C t (.bif f es) U=bP t ((cU P C es U).bind (aBp f)):=rfl
theorem aCZ:getAll [] U=some []:=rfl
noncomputable def gaC(a:Option D)(b:Option (List D)):Option (List D):=a.bind λd=>b.map (d :: ·)
theorem aIk:gaC (some d) (some ds)=some (d::ds):=rfl
theorem YI:getAll (h::r) U=gaC (h.get U) (getAll r U):=rfl
theorem aCH:gG .len [.lst ds]=some (.sh (.int ds.length)):=rfl
theorem aBs:gG .len [.tup ds]=some (.sh (.int ds.length)):=rfl
theorem aGy:gG .abs [.int i]=some (.sh (.int (if i<0 then -i else i))):=rfl
theorem aDB:gG .int [.bl b]=some (.sh (.int (if b then 1 else 0))):=rfl
theorem YE:gG .list [.lst ds]=some (.ow (.lst ds)):=rfl
theorem aBf:gG .list [.tup ds]=some (.ow (.lst ds)):=rfl
theorem JU{ks:List L2.bO}{ds:List D}:gG .list [.dcs ks ds]=some (.ow (.lst (ks.map m9))):=rfl
theorem aEq:gG .tuple [.lst ds]=some (.sh (.tup ds)):=rfl
theorem aF2:gG .min [.int i,.int j]=some (.sh (.int (if j<i then j else i))):=rfl
theorem aGd:gG .max [.int i,.int j]=some (.sh (.int (if j > i then j else i))):=rfl
noncomputable def x5(ts:List Ty):Option D->Option RV
 |some d=>(zH ts d).map λb=>.sh (.bl b)
 |none=>none
noncomputable def U9(ts:List Ty)(x:Hd)(U:Env):aR RV:=done (x5 ts (x.get U)) U
theorem aFu:U9 ts x U=done (x5 ts (x.get U)) U:=rfl
theorem aEQ:ev P C t (.isi a ts) U=bP t ((dP P C a U).bind (U9 ts)):=by
 show bP t ((dP P C a U).bind λx U1=>done ((x.get U1).bind λd=>(zH ts d).map λb=>.sh (.bl b)) U1)=_
 congr 2
 funext x U1
 unfold U9;cases x.get U1<;>rfl
theorem MG:x5 [.int] (some (.int i))=some (.sh (.bl true)):=rfl
theorem LS:x5 [.bool] (some (.bl b))=some (.sh (.bl true)):=rfl
theorem HJ:x5 [.bool] (some (.int i))=some (.sh (.bl false)):=rfl
theorem FP:x5 [.tuple] (some (.tup ds))=some (.sh (.bl true)):=rfl
noncomputable def T3(i:Nat)(d:D)(U:Env)(o:Option Sl):aR RV:=match o with
 |some (.ow (.lst ds) p false)=>if aJ (ds.length+1) then some (.ok (.sh .non),U.set i (.ow (.lst (ds++[d])) p false)) else none
 |_=>none
noncomputable def WV(i:Nat)(v:RV)(U:Env):aR RV:=T3 i v.d U U[i]?
theorem aC1:WV i v U=T3 i v.d U U[i]?:=rfl
theorem aGo:T3 i d U (some (.ow (.lst ds) p false))=J7 (aJ (ds.length+1)) (.sh .non) (U.set i (.ow (.lst (ds++[d])) p false)):=rfl
noncomputable def aCs(r:aR RV)(b:Bool):aR RV:=if b then r else none
theorem aEt:aCs r true=r:=rfl
theorem aBn:ev P C t (.app i a) U=bP t (aCs ((ev P C false a U).bind (WV i)) (rK U i)):=rfl
noncomputable def KQ:Option Sl->Bool
 |some (.ow (.lst _) _ _)=>true
 |_=>false
theorem aFd:rK U i=KQ U[i]?:=rfl
theorem RY:KQ (some (.ow (.lst ds) p l))=true:=rfl
noncomputable def aCk(i:Nat)(v:RV)(U:Env):dB:=kW (store i v U)
theorem aFm:aCk i v U=kW (store i v U):=rfl
theorem aBJ:ex P C W (.asg i e) U=(ev P C false e U).flow (aCk i):=rfl
noncomputable def J4(i:Nat)(v:RV)(U:Env)(o:Option Sl):Option Env:=match o with
 |none=>none
 |some (.ow _ true _)=>none
 |some (.ow _ _ true)=>none
 |some _=>match v with
  |.sh d=>some (U.set i (.sh d))
  |.ow d=>some (U.set i (.ow d false false))
  |.od _=>none
theorem W5{i:Nat}{v:RV}:store i v U=J4 i v U U[i]?:=rfl
theorem aAU:J4 i (.sh d) U (some .un)=some (U.set i (.sh d)):=rfl
theorem YC:J4 i (.ow d) U (some .un)=some (U.set i (.ow d false false)):=rfl
theorem X5:J4 i (.sh d) U (some (.sh d'))=some (U.set i (.sh d)):=rfl
noncomputable def bB:Sl->Bool
 |.un=>true
 |.mv=>true
 |.sh _=>true
 |.ow _ false false=>true
 |_=>false
theorem aZ(h:bB s=true):J4 i (.sh d) U (some s)=some (U.set i (.sh d)):=by
 cases s with
 |ow d p l=>cases p<;>cases l<;>first | rfl | cases h
 |_=>rfl
theorem aAz(h:bB s=true):J4 i (.ow d) U (some s)=some (U.set i (.ow d false false)):=by
 cases s with
 |ow d p l=>cases p<;>cases l<;>first | rfl | cases h
 |_=>rfl
theorem aDS:bB .un=true:=rfl
theorem aCU:bB (.sh d)=true:=rfl
noncomputable def XJ(is:List Nat)(v:RV)(U:Env):dB:=kW (aU false is v.d U)
theorem aDK:XJ is v U=kW (aU false is v.d U):=rfl
theorem Z0:ex P C W (.asgT is e) U=(ev P C false e U).flow (XJ is):=rfl
theorem zT{i:Nat}{d:D}:aU true [i] d U=store i (.sh d) U:=rfl
theorem BH{i:Nat}{is:List Nat}{ds:List D}:aU false (i::is) (.tup ds) U=eQ (i::is) ds U:=rfl
theorem F8:eQ [] [] U=some U:=rfl
noncomputable def kSs(is:List Nat)(ds:List D)(o:Option Env):Option Env:=o.bind (eQ is ds)
theorem BL{i:Nat}{is:List Nat}{d:D}{ds:List D}:eQ (i::is) (d::ds) U=kSs is ds (store i (.sh d) U):=rfl
theorem VB{is:List Nat}{ds:List D}:kSs is ds (some U)=eQ is ds U:=rfl
noncomputable def UL(i:Nat)(v:D)(U:Env):Option Sl->D->dB
 |some (.ow (.lst ds) p false),.int n=>kW ((L2.mX ds.length n).map λm=>U.set i (.ow (.lst (ds.set m v)) p false))
 |_,_=>none
noncomputable def M7(i:Nat)(v:RV)(j:RV)(U:Env):dB:=UL i v.d U U[i]? j.d
noncomputable def UR(r:dB)(b:Bool):dB:=if b then r else none
theorem aDY:UR r true=r:=rfl
noncomputable def aDw(i:Nat)(v j:RV)(U:Env):Option Sl->dB
 |o=>match o,j,v with
  |_,_,_=>none
noncomputable def aFE(i:Nat)(v:RV)(j:RV)(U:Env):dB:=aDw i v j U U[i]?
theorem aBy:aFE i v j U=aDw i v j U U[i]?:=rfl
noncomputable def WY:Option Sl->Bool
 |_=>false
theorem aGn:aHk U i=WY U[i]?:=rfl
noncomputable def M3(r r':dB)(b:Bool):dB:=if b then r else r'
theorem aEI:M3 r r' true=r:=rfl
theorem aB5:M3 r r' false=r':=rfl
noncomputable def kPS(i:Nat)(v:RV)(j:RV)(U:Env):dB:=AS i U U[i]? (dD j.d) v
theorem aIg:kPS i v j U=AS i U U[i]? (dD j.d) v:=rfl
def fY{i:Nat}{ks:List L2.bO}{ds:List D}{p:Bool}{k:L2.bO}{v:RV}(h:aJ (ks.length+1)=true):AS i U (some (.ow (.dcs ks ds) p false)) (some k) v=some (.nx,U.set i (.ow (.dcs (l7 ks k) (nJ ks ds k v.d)) p false)):=Zo h
noncomputable def XF:Option Sl->Bool
 |some (.ow (.dcs _ _) _ _)=>true
 |_=>false
theorem aFH:AH U i=XF U[i]?:=rfl
theorem RW:XF (some (.ow (.dcs ks ds) p l))=true:=rfl
theorem RO:WY (some (.ow (.dcs ks ds) p l))=false:=rfl
theorem VE:KQ (some (.ow (.dcs ks ds) p l))=false:=rfl
noncomputable def KZ(P:aW)(C:Calls)(i:Nat)(k:E)(v:RV)(U:Env):dB:=UR ((ev P C false k U).flow (kPS i v)) (AH U i)
theorem aBA:KZ P C i k v U=UR ((ev P C false k U).flow (kPS i v)) (AH U i):=rfl
noncomputable def W4(P:aW)(C:Calls)(i:Nat)(k:E)(v:RV)(U:Env):dB:=M3 ((ev P C false k U).flow (M7 i v)) (KZ P C i k v U) (rK U i)
theorem aD3:M7 i v j U=UL i v.d U U[i]? j.d:=rfl
theorem aDV:W4 P C i k v U=M3 ((ev P C false k U).flow (M7 i v)) (KZ P C i k v U) (rK U i):=rfl
theorem aC6:ex P C W (.set i k e) U=(ev P C false e U).flow (W4 P C i k):=rfl
def aFS:L2.mX (n+2) 1=some 1:=by unfold L2.mX;rw[Zo (by omega),Zo (by omega)];rfl
theorem aEH:UL i v U (some (.ow (.lst (a::b::ds)) p false)) (.int 1)=some (.nx,U.set i (.ow (.lst (a::v::ds)) p false)):=by
 show kW ((L2.mX (ds.length+2) 1).map _)=_;rw[aFS];rfl
noncomputable def XI(v:RV)(U:Env):dB:=some (.nx,U)
theorem aCI:XI v U=some (.nx,U):=rfl
theorem aAG:ex P C W (.expr e) U=(ev P C false e U).flow XI:=rfl
noncomputable def S1(i:Nat)(U:Env):Option Sl->dB
 |some (.ow d false _)=>some (.rt (.ow d),U.set i .mv)
 |some (.sh d)=>some (.rt (.sh d),U)
 |_=>none
theorem Z7:S1 i U (some (.ow d false l))=some (.rt (.ow d),U.set i .mv):=rfl
theorem ZR:S1 i U (some (.sh d))=some (.rt (.sh d),U):=rfl
noncomputable def lB(v:RV)(U:Env):dB:=some (.rt v,U)
theorem aFs:lB v U=some (.rt v,U):=rfl
theorem aAf:ex P C W (.ret (.var i)) U=S1 i U U[i]?:=rfl
theorem aDZ:ex P C W (.ret (.con d)) U=(ev P C false (.con d) U).flow lB:=rfl
theorem aDX:ex P C W (.ret (.tup es)) U=(ev P C false (.tup es) U).flow lB:=rfl
theorem aBU:ex P C W (.ret (.lst es)) U=(ev P C false (.lst es) U).flow lB:=rfl
theorem aES:ex P C W (.ret (.bin op a b)) U=(ev P C false (.bin op a b) U).flow lB:=rfl
theorem aEr:ex P C W (.ret (.cmp op a b)) U=(ev P C false (.cmp op a b) U).flow lB:=rfl
theorem aDc:ex P C W (.ret (.and a b)) U=(ev P C false (.and a b) U).flow lB:=rfl
theorem aEY:ex P C W (.ret (.or a b)) U=(ev P C false (.or a b) U).flow lB:=rfl
theorem aFz:ex P C W (.ret (.ix a b)) U=(ev P C false (.ix a b) U).flow lB:=rfl
theorem aAj:ex P C W (.ret (.call f es)) U=(ev P C false (.call f es) U).flow lB:=rfl
theorem aBx:ex P C W (.ret (.bif f es)) U=(ev P C false (.bif f es) U).flow lB:=rfl
theorem aAc{its cond:List E}:ex P C W (.ret (.comp elt tg k its cond imp nl)) U=(ev P C false (.comp elt tg k its cond imp nl) U).flow lB:=rfl
noncomputable def kIf(P:aW)(C:Calls)(W:Nat)(a b:List S)(v:RV)(U:Env):dB:=match v with
 |.sh (.bl true)=>exs P C W a U
 |.sh (.bl false)=>exs P C W b U
 |_=>none
theorem aE0:kIf P C W a b (.sh (.bl x)) U=if x=true then exs P C W a U else exs P C W b U:=by cases x<;>rfl
theorem aDD:ex P C W (.ifs c a b) U=(ev P C true c U).flow (kIf P C W a b):=rfl
noncomputable def SX(P:aW)(C:Calls)(W:Nat)(tg:List Nat)(one:Bool)(body:List S)(U:Env):Option (List D×Option Nat)->dB
 |none=>none
 |some (ds,o)=>(bZ (aU one tg) (exs P C W body) ds (aQ o U)).restore o U
theorem aFb:SX P C W tg one body U (some (ds,o))=(bZ (aU one tg) (exs P C W body) ds (aQ o U)).restore o U:=rfl
noncomputable def aCn(P:aW)(C:Calls)(W:Nat)(tg:List Nat)(one:Bool)(k:ItK)(body:List S)(hs:List Hd)(U:Env):dB:=SX P C W tg one body U (aD k hs U)
theorem aFC:aCn P C W tg one k body hs U=SX P C W tg one body U (aD k hs U):=rfl
theorem aCy:ex P C W (.for tg one k its body) U=(cU P C its U).flow (aCn P C W tg one k body):=rfl
theorem aCN:ex P C W (.whl c body) U=lF (ev P C true c) (exs P C W body) W U:=rfl
theorem YX:exs P C W [] U=some (.nx,U):=rfl
theorem fE:exs P C W (s::r) U=(ex P C W s U).next (exs P C W r):=rfl
theorem X6{r:dB}:r.restore none U0=r:=by cases r with | none=>rfl | some y=>obtain⟨fl,U⟩:=y;rfl
theorem ZC:aQ none U=U:=rfl
def nG(h:a.get U=some (.int n))(h1:-1000000<=n)(h2:n<=1000000):aD .rng [a] U=some ((List.range n.toNat).map λ(j:Nat)=>.int (j:Int),none):=by
 (unfold aD;simp only[h]);exact Zo ⟨h1,h2⟩
def ML(h:a.get U=some (.int m))(h':b.get U=some (.int n))(h1:-1000000<=m/\m<=1000000)(h2:-1000000<=n/\n<=1000000):aD .rng [a,b] U=some ((List.range (n-m).toNat).map λ(j:Nat)=>.int (m+(j:Int)),none):=by
 (unfold aD;simp only[h,h']);exact Zo ⟨h1,h2⟩
def D3(h:v.d=.lst ds):aD .of [.val v] U=some (ds,none):=by(unfold aD;simp only[h])
def zC(h:v.d=.tup ds):aD .of [.val v] U=some (ds,none):=by(unfold aD;simp only[h])
def aFx(h:U[i]?=some (.sh (.lst ds))):aD .of [.slot i] U=some (ds,none):=by(unfold aD;simp only[h])
def aGC(h:U[i]?=some (.sh (.tup ds))):aD .of [.slot i] U=some (ds,none):=by(unfold aD;simp only[h])
def LH(h:U[i]?=some (.ow (.lst ds) p l)):aD .of [.slot i] U=some (ds,some i):=by(unfold aD;simp only[h])
def QP{bind:D->Env->Option Env}(I:Env->Prop)(h:∀d∈ds,∀U,I U->∃U1,bind d U=some U1/\∃U2,body U1=some (.nx,U2)/\I U2):∀{U:Env},I U->∃U',bZ bind body ds U=some (.nx,U')/\I U':=by
 induction ds with
 |nil=>exact λhU=>⟨_,rfl,hU⟩
 |cons d ds ih =>
  intro U hU;obtain⟨U1,e1,U2,e2,h2⟩:=h d (by simp) U hU;obtain⟨U',e3,h3⟩:=ih (λd' hd'=>h d' (by simp[hd'])) h2;exact⟨U',by simp only[bZ,e1,e2,e3],h3⟩
def d8{bind:D->Env->Option Env}(I:List D->Env->Prop)(h:∀pre d post,ds=pre++d::post->∀U,I pre U->∃U1,bind d U=some U1/\∃U2,body U1=some (.nx,U2)/\I (pre++[d]) U2)(h0:I [] U):∃U',bZ bind body ds U=some (.nx,U')/\I ds U':=by
 have key:∀(post pre:List D) (U:Env),ds=pre++post->I pre U->∃U',bZ bind body post U=some (.nx,U')/\I ds U':=by
  intro post
  induction post with
  |nil=>intro pre U e hp;rw[List.append_nil] at e;subst e;exact⟨U,rfl,hp⟩
  |cons d post ih =>
   intro pre U e hp;obtain⟨U1,e1,U2,e2,h2⟩:=h pre d post e U hp;obtain⟨U',e3,h3⟩:=ih (pre++[d]) U2 (by rw[e];simp) h2;exact⟨U',by simp only[bZ,e1,e2,e3],h3⟩
 exact key ds [] U rfl h0
noncomputable def GW(as:List Sl):dB->aR RV
 |some (.nx,U)=>some (.ok (.sh .non),back as U)
 |some (.rt v,U)=>some (.ok v,back as U)
 |_=>none
theorem wF:GW as (some (.rt v,U))=some (.ok v,back as U):=rfl
def a8(hT:T f=some fn)(h1:as.length=fn.pins.length)(h2:as.all nK=true)(h3:fn.rs=false:=by rfl):run T W (n+1) f as=GW as (exs T.pins (run T W n) W fn.body (as++List.replicate fn.nl .un)):=by
 simp only[run,hT];rw[Zo ⟨h1,h2⟩,h3];generalize exs T.pins (run T W n) W fn.body (as++List.replicate fn.nl .un)=r;obtain _ | ⟨fl,U⟩:=r
 ·rfl
 ·cases fl<;>rfl
end
end CI
namespace CI
open PySem PySem.Spec PyProof.Rows L2
noncomputable def D1:D->Value->Bool
 |.non,.none=>true
 |.bl a,.bool b=>a==b
 |.int i,.int j _=>i==j
 |.str x,.str y _=>x==y&&PyData.strOk x
 |_,_=>false
noncomputable def qP:List D->List Value->Bool
 |[],[]=>true
 |d::ds,v::vs=>D1 d v&&qP ds vs
 |_,_=>false
def FK{K:Frag}(h:D1 d u=true):∃v,a7 v u/\∀G,aC K G d v:=by
 cases d<;>cases u<;>simp only[D1,Bool.false_eq_true] at h
 ·exact⟨.non,rfl,λG=>by simp[aC]⟩
 ·exact⟨.bl _,rfl,λG=>by simp[aC,Zy h]⟩
 ·rename_i i j t;exact⟨.int i,⟨t,by rw[Zy h]⟩,λG=>by simp[aC]⟩
 ·rename_i x y t;rw[ZB] at h;exact⟨.str x,⟨t,by rw[Zy h.1]⟩,λG=>by simp[aC,h.2]⟩
theorem CL{K:Frag}:∀{ds:List D} {us:List Value},qP ds us=true->∃vs,aO vs us/\∀G,aB K G ds vs
 |[],[],_=>⟨[],.nil,λG=>aB.nil⟩
 |d::ds,u::us,h=>by
  simp only[qP,ZB] at h;obtain⟨v,h1,h2⟩:=FK h.1;obtain⟨vs,h3,h4⟩:=CL h.2;exact⟨v::vs,.cons h1 h3,λG=>aB.cons (h2 G) (h4 G)⟩
 |[],_::_,h=>by simp[qP] at h
 |_::_,[],h=>by simp[qP] at h
def DZ(K:Frag)(d:D)(u:Value):Prop:=∃v,a7 v u/\∀G,aC K G d v
def yU(K:Frag)(ds:List D)(us:List Value):Prop:=∃vs,aO vs us/\∀G,aB K G ds vs
def aDO{K:Frag}(h:D1 d u=true):DZ K d u:=FK h
def uE{K:Frag}:yU K [] []:=⟨[],.nil,λ_=>aB.nil⟩
def nY{K:Frag}(h:DZ K d u)(t:yU K ds us):yU K (d::ds) (u::us):=let ⟨v,h1,h2⟩:=h;let ⟨vs,h3,h4⟩:=t;⟨v::vs,.cons h1 h3,λG=>aB.cons (h2 G) (h4 G)⟩
def uP{K:Frag}{sl}(hl:K.lookup a=some ⟨.type "tuple",dd,.seq its n,sl⟩)(hc:yU K ds its.toList)(hz:decide (its.size<=1000)=true):DZ K (.tup ds) (.ref a):=by
 obtain⟨vs,h1,h2⟩:=hc;refine⟨.ref a,rfl,λG=>?_⟩;simp only[aC];exact⟨a,vs,rfl,.inr ⟨_,its,n,hl,rfl,rfl,Zr (of_decide_eq_true hz) (by decide),h1⟩,h2 G⟩
def aAJ{K:Frag}(X:K.In h)(G:h.Ns mainGlobals mg)(ha:nsIn K mainGlobals x=some (some (.ref a)))(c:DZ K d (.ref a)):rO K mg T gl (x,.con d):=by
 obtain⟨v,h1,h2⟩:=c;exact⟨_,v,PySem.W.mg_of X G ha,h1,h2⟩
def IZ{K:Frag}{sl}(X:K.In h)(G:h.Ns mainGlobals mg)
  (ha:nsIn K mainGlobals x=some (some (.ref a))) (hl:K.lookup a=some ⟨.type "tuple",dd,.seq its n,sl⟩) (hc:qP ds its.toList=true) (hz:decide (its.size<=1000)=true):rO K mg T gl (x,.con (.tup ds)):=by
 obtain⟨vs,h1,h2⟩:=CL hc;refine⟨_,.ref a,PySem.W.mg_of X G ha,rfl,λG=>?_⟩;simp only[aC];exact⟨a,vs,rfl,.inr ⟨_,its,n,hl,rfl,rfl,Zr (of_decide_eq_true hz) (by decide),h1⟩,h2 G⟩
noncomputable section
variable{U U1:Env}
noncomputable def yJ(P:aW)(C:Calls)(elt:E)(tg:List Nat)(k:ItK)(cond:List E)(imp:List Nat)(nl:Nat)(hs:List Hd)(U1:Env):aR RV :=
 match aD k hs U1 with
 |none=>none
 |some (ds,o)=>(fF (imp.map λ_=>true) (oW (dI P C cond) (ev P C false elt) (aU (tg.length==1) tg) ds nl) (imp.map Hd.slot) (aQ o U1)).bind (kP o U1)
theorem YD{its cond:List E}:ev P C t (.comp elt tg k its cond imp nl) U=bP t ((cU P C its U).bind (yJ P C elt tg k cond imp nl)):=rfl
def eP{cond:List E}(h:aD k hs U1=some (ds,none)) :
  yJ P C elt tg k cond imp nl hs U1=(fF (imp.map λ_=>true) (oW (dI P C cond) (ev P C false elt) (aU (tg.length==1) tg) ds nl) (imp.map Hd.slot) U1).bind (kP none U1):=by
 unfold yJ;rw[h];rfl
theorem OZ:kP none U1 v U2=some (.ok v,U2):=rfl
def qN{cond:List E}(h:aD k hs U1=some (ds,some i)) :
  yJ P C elt tg k cond imp nl hs U1=(fF (imp.map λ_=>true) (oW (dI P C cond) (ev P C false elt) (aU (tg.length==1) tg) ds nl) (imp.map Hd.slot) (aQ (some i) U1)).bind (kP (some i) U1):=by
 unfold yJ;rw[h]
noncomputable def MA(as:List Sl)(acc:List D)(Ui:Env):aR RV:=if aJ acc.length then some (.ok (.ow (.lst acc)),back as Ui) else none
theorem i7{bind:D->Env->Option Env}(h:as.all nK=true):oW tests elt bind ds nl as=(fH tests elt bind ds [] (as++List.replicate nl .un)).bind (MA as):=by
 unfold oW;rw[Zo h];rfl
theorem aBS(h:aJ acc.length=true):MA as acc Ui=some (.ok (.ow (.lst acc)),back as Ui):=by unfold MA;rw[Zo h]
theorem gS:dI P C [] U=some (.ok (.sh (.bl true)),U):=rfl
noncomputable def kTs(P:aW)(C:Calls)(es:List E)(v:RV)(U1:Env):aR RV:=match v with
 |.sh (.bl true)=>dI P C es U1
 |.sh (.bl false)=>some (.ok (.sh (.bl false)),U1)
 |_=>none
theorem OJ:dI P C (e::es) U=(ev P C true e U).bind (kTs P C es):=rfl
theorem aEW:kTs P C [] (.sh (.bl b)) U1=some (.ok (.sh (.bl b)),U1):=by
 cases b
 ·rfl
 ·show dI P C [] U1=_;exact gS
theorem RT:nK (.ow d true l)=true:=rfl
theorem T8:nK (.sh d)=true:=rfl
def fQ{bind:D->Env->Option Env}(I:Nat->List D->Env->Prop)
  (step:∀(j:Nat) (d:D),ds[j]?=some d->∀acc U,I j acc U->∃U1 c U2,bind d U=some U1/\tests U1=some (.ok (.sh (.bl c)),U2)/\(c=true->∃v U3,elt U2=some (.ok v,U3)/\I (j+1) (acc++[v.d]) U3)/\(c=false->I (j+1) acc U2)) :
  ∀acc U,I 0 acc U->∃acc' U',fH tests elt bind ds acc U=some (.ok acc',U')/\I ds.length acc' U'/\acc'.length<=acc.length+ds.length:=by
 have key:∀(es:List D) (j:Nat),ds.drop j=es->∀acc U,I j acc U->∃acc' U',fH tests elt bind es acc U=some (.ok acc',U')/\I (j+es.length) acc' U'/\acc'.length<=acc.length+es.length:=by
  intro es
  induction es with
  |nil=>intro j _ acc U h;exact⟨acc,U,rfl,h,by simp⟩
  |cons d es ih =>
   intro j hj acc U h
   have hd:ds[j]?=some d:=by
    have:(ds.drop j)[0]?=some d:=by rw[hj];rfl
    simpa using this
   have hj':ds.drop (j+1)=es:=by
    have:(ds.drop j).drop 1=es:=by rw[hj];rfl
    rw[List.drop_drop] at this;exact this
   obtain⟨U1,c,U2,h1,h2,h3,h4⟩:=step j d hd acc U h;simp only[fH,h1,h2,aR.bind]
   cases c with
   |false =>
    obtain⟨acc',U',e1,e2,e3⟩:=ih (j+1) hj' acc U2 (h4 rfl);refine⟨acc',U',e1, ?_,by simp only[Zk];omega⟩
    have:j+(d::es).length=j+1+es.length:=by simp only[Zk];omega
    rw[this];exact e2
   |true =>
    obtain⟨v,U3,h5,h6⟩:=h3 rfl;obtain⟨acc',U',e1,e2,e3⟩:=ih (j+1) hj' (acc++[v.d]) U3 h6;simp only[h5];refine⟨acc',U',e1, ?_,by simp only[Za,Zk,List.length_nil] at e3 ⊢;omega⟩
    have:j+(d::es).length=j+1+es.length:=by simp only[Zk];omega
    rw[this];exact e2
 intro acc U h
 have:=key ds 0 rfl acc U h
 simpa using this
def bD(h:n<=1000000):aJ n=true:=cZ h
end
end CI
namespace CI
open PySem (Operator CmpOp Str)
noncomputable section
variable{U U1 U2:Env}
theorem aBj:dP P C (.frz i) U=(ev P C false (.frz i) U).bind gU:=rfl
theorem lZ:∀ns:List Int,d7 (ns.map D.int)=some ns
 |[]=>rfl
 |n::r=>by(show(d7 (r.map D.int)).map (n :: ·)=_;rw[lZ r];rfl)
theorem ZT:dP P C (.fld a f) U=(ev P C false (.fld a f) U).bind gU:=rfl
theorem SJ:dP P C (.meth i m tb es) U=(ev P C false (.meth i m tb es) U).bind gU:=rfl
theorem S5:dP P C (.nset a) U=(ev P C false (.nset a) U).bind gU:=rfl
noncomputable def nsO(o:Option D):Option RV:=o.bind y4
noncomputable def kNs(x:Hd)(U:Env):aR RV:=done (nsO (x.get U)) U
theorem aH4:kNs x U=done (nsO (x.get U)) U:=rfl
theorem YH:ev P C t (.nset a) U=bP t ((dP P C a U).bind kNs):=rfl
theorem X3:wM P C (.neg a) U=(ev P C false (.neg a) U).bind yV:=rfl
theorem aCi:ev P C t (.frz i) U=bP t (WQ i U U[i]?):=rfl
noncomputable def kA(o:Option D)(f:Str):Option RV:=o.bind λd=>(SW d f).map .sh
noncomputable def aCh(f:Str)(x:Hd)(U:Env):aR RV:=done (kA (x.get U) f) U
theorem aFn:aCh f x U=done (kA (x.get U) f) U:=rfl
theorem aBv:ev P C t (.fld a f) U=bP t ((dP P C a U).bind (aCh f)):=rfl
noncomputable def DY(c:Str)(ns:List Str)(ds:List D)(U:Env):aR RV:=if ds.length=ns.length then some (.ok (.sh (.ins c ns ds)),U) else none
theorem aBa:ev P C t (.make c ns es) U=bP t ((oS P C es U).bind (DY c ns)):=rfl
theorem aAo:DY c [f] [a] U=some (.ok (.sh (.ins c [f] [a])),U):=rfl
theorem X8:DY c [f,g] [a,b] U=some (.ok (.sh (.ins c [f,g] [a,b])),U):=rfl
theorem aAL:DY c [f,g,h] [a,b,d] U=some (.ok (.sh (.ins c [f,g,h] [a,b,d])),U):=rfl
noncomputable def MD(P:aW)(C:Calls)(f:String)(d:D)(hs:List Hd)(U:Env):aR RV:=DO P C f (.val (.sh d)::hs) U
theorem aEK:MD P C f d hs U=DO P C f (.val (.sh d)::hs) U:=rfl
noncomputable def MI(P:aW)(C:Calls)(d:D)(es:List E)(U:Env):Option String->aR RV
 |some f=>(cU P C es U).bind (MD P C f d)
 |none=>none
theorem aCx:MI P C d es U (some f)=(cU P C es U).bind (MD P C f d):=rfl
noncomputable def aCK(P:aW)(C:Calls)(m:Str)(tb:List (Str×String))(es:List E)(U:Env):Option Sl->aR RV
 |some (.sh (.ins c ns ds))=>MI P C (.ins c ns ds) es U (gR c ns m tb)
 |_=>none
theorem aFR:aCK P C m tb es U (some (.sh (.ins c ns ds)))=MI P C (.ins c ns ds) es U (gR c ns m tb):=rfl
theorem X1:ev P C t (.meth i m tb es) U=bP t (aCK P C m tb es U U[i]?):=rfl
theorem kZ{ks:List L2.bO}{ds:List D}:aD .key [.val (.sh (.dcs ks ds))] U=some (ks.map m9,none):=rfl
theorem aAS:ex P C W (.ret (.make c ns es)) U=(ev P C false (.make c ns es) U).flow lB:=rfl
theorem aEZ:bL .Is (.bl a) (.bl b)=some (a==b):=rfl
theorem aGA:bL .NotEq (.bl a) (.bl b)=some (!(a==b)):=rfl
theorem zg0:(a::l)[0]?=some a:=rfl
theorem zg1:(a::l)[n+1]?=l[n]?:=rfl
theorem zs0:(a::l).set 0 b=b::l:=rfl
theorem zs1:(a::l).set (n+1) b=a::l.set n b:=rfl
theorem zb:(some a).bind f=f a:=rfl
theorem zm:(some a).map f=some (f a):=rfl
theorem zi:(some a).isSome=true:=rfl
theorem zc:(a::l)++m=a::(l++m):=rfl
theorem zn:[]++l=l:=rfl
theorem zr0:List.replicate 0 a=[]:=rfl
theorem zr1:List.replicate (n+1) a=a::List.replicate n a:=rfl
theorem zl0:([]:List O).length=0:=rfl
theorem zl1:(a::l).length=l.length+1:=rfl
theorem znt:(!true)=false:=rfl
theorem znf:(!false)=true:=rfl
theorem zko:back (.ow d p l::as) (b::bs)=b::back as bs:=rfl
theorem zks:back (.sh d::as) (b::bs)=.sh d::back as bs:=rfl
theorem zkn:back [] bs=[]:=rfl
end
def aHR{Q:List O->Prop}(h:∀a0,Q [a0])(us:List O)(hl:us.length=1):Q us:=by
 obtain _ | ⟨a0,r0⟩:=us
 ·simp at hl
 obtain _ | ⟨x,y⟩:=r0
 ·exact h a0
 ·simp at hl
def aH8{Q:List O->Prop}(h:∀a0 a1,Q [a0,a1])(us:List O)(hl:us.length=2):Q us:=by
 obtain _ | ⟨a0,r0⟩:=us
 ·simp at hl
 obtain _ | ⟨a1,r1⟩:=r0
 ·simp at hl
 obtain _ | ⟨x,y⟩:=r1
 ·exact h a0 a1
 ·simp at hl
def aHH{Q:List O->Prop}(h:∀a0 a1 a2,Q [a0,a1,a2])(us:List O)(hl:us.length=3):Q us:=by
 obtain _ | ⟨a0,r0⟩:=us
 ·simp at hl
 obtain _ | ⟨a1,r1⟩:=r0
 ·simp at hl
 obtain _ | ⟨a2,r2⟩:=r1
 ·simp at hl
 obtain _ | ⟨x,y⟩:=r2
 ·exact h a0 a1 a2
 ·simp at hl
def aHg{Q:List O->Prop}(h:∀a0 a1 a2 a3,Q [a0,a1,a2,a3])(us:List O)(hl:us.length=4):Q us:=by
 obtain _ | ⟨a0,r0⟩:=us
 ·simp at hl
 obtain _ | ⟨a1,r1⟩:=r0
 ·simp at hl
 obtain _ | ⟨a2,r2⟩:=r1
 ·simp at hl
 obtain _ | ⟨a3,r3⟩:=r2
 ·simp at hl
 obtain _ | ⟨x,y⟩:=r3
 ·exact h a0 a1 a2 a3
 ·simp at hl
def aIo{Q:List O->Prop}(h:∀a0 a1 a2 a3 a4,Q [a0,a1,a2,a3,a4])(us:List O)(hl:us.length=5):Q us:=by
 obtain _ | ⟨a0,r0⟩:=us
 ·simp at hl
 obtain _ | ⟨a1,r1⟩:=r0
 ·simp at hl
 obtain _ | ⟨a2,r2⟩:=r1
 ·simp at hl
 obtain _ | ⟨a3,r3⟩:=r2
 ·simp at hl
 obtain _ | ⟨a4,r4⟩:=r3
 ·simp at hl
 obtain _ | ⟨x,y⟩:=r4
 ·exact h a0 a1 a2 a3 a4
 ·simp at hl
def aHv{Q:List O->Prop}(h:∀a0 a1 a2 a3 a4 a5,Q [a0,a1,a2,a3,a4,a5])(us:List O)(hl:us.length=6):Q us:=by
 obtain _ | ⟨a0,r0⟩:=us
 ·simp at hl
 obtain _ | ⟨a1,r1⟩:=r0
 ·simp at hl
 obtain _ | ⟨a2,r2⟩:=r1
 ·simp at hl
 obtain _ | ⟨a3,r3⟩:=r2
 ·simp at hl
 obtain _ | ⟨a4,r4⟩:=r3
 ·simp at hl
 obtain _ | ⟨a5,r5⟩:=r4
 ·simp at hl
 obtain _ | ⟨x,y⟩:=r5
 ·exact h a0 a1 a2 a3 a4 a5
 ·simp at hl
open PySem PySem.Spec PyProof.Rows L2 in
def BQ(x qual:PySem.Str)(st:PySem.Stmt)(kV doc pm:PySem.Value)(an:Option PySem.Addr)(cdv ct:PySem.Value)(us:List PySem.Value):Prop:=PySem.bindArgs (PySem.W.fnOf x qual (eY st) (cK st) (a6 st) .none kV doc pm an cdv ct) ⟨us,[]⟩=pure ((dG st).zip us)
def fc{P:O->Prop}(h:P a)(t:∀x∈l,P x):∀x∈a::l,P x:=List.forall_mem_cons.mpr ⟨h,t⟩
section
open PySem PySem.Spec PyProof.Rows L2
abbrev Sc4(st:Stmt):Prop:=(yO st).Nodup/\(yO st).take (dG st).length=dG st/\(∀x∈dG st,(a6 st).names.lookup x=some .local\/(a6 st).names.lookup x=some .cell)/\∀y∈(a6 st).names,y.2≠.free
abbrev B0(x qual:PySem.Str)(st:PySem.Stmt):Prop:=∀(kV doc pm:PySem.Value) (an:Option PySem.Addr) (cdv ct:PySem.Value) (us:List PySem.Value),us.length=(dG st).length->BQ x qual st kV doc pm an cdv ct us
def cH{st:Stmt}(h1:(a6 st).kind=.function)(h2:(a6 st).isCoroutine=false)(h3:(a6 st).isGenerator=false)(h:Sc4 st/\(yO st).length=fn.pins.length+fn.nl/\(dG st).length=fn.pins.length)(b:fn.body=NC gl st)(q:B0 x qual st):DefOkQ gl st x qual fn :=
 ⟨⟨h1,h2,h3,h.1.1,h.1.2.1,h.1.2.2.1,h.1.2.2.2⟩,b,h.2.1,h.2.2,q⟩
def GP{st:Stmt}(h1:(a6 st).kind=.function)(h2:(a6 st).isCoroutine=false)(h3:(a6 st).isGenerator=false)(h:Sc4 st/\(dG st).length=ns.length+1/\ns.Nodup/\ns.length<1000)(b:nB (dG st) 1 (cK st)=some ns)(q:B0 "__init__" qual st):IniOk st qual ns :=
 ⟨⟨h1,h2,h3,h.1.1,h.1.2.1,h.1.2.2.1,h.1.2.2.2⟩,b,h.2.1,h.2.2.1,h.2.2.2,q⟩
variable{st:Stmt}
def uQ(hn:(dG st).length=1)(h:∀kV doc pm an cdv ct a0,BQ x qual st kV doc pm an cdv ct [a0]):B0 x qual st:=λkV doc pm an cdv ct us hl=>aHR (h kV doc pm an cdv ct) us (hl.trans hn)
def lN(hn:(dG st).length=2)(h:∀kV doc pm an cdv ct a0 a1,BQ x qual st kV doc pm an cdv ct [a0,a1]):B0 x qual st:=λkV doc pm an cdv ct us hl=>aH8 (h kV doc pm an cdv ct) us (hl.trans hn)
def mN(hn:(dG st).length=3)(h:∀kV doc pm an cdv ct a0 a1 a2,BQ x qual st kV doc pm an cdv ct [a0,a1,a2]):B0 x qual st:=λkV doc pm an cdv ct us hl=>aHH (h kV doc pm an cdv ct) us (hl.trans hn)
def pL(hn:(dG st).length=4)(h:∀kV doc pm an cdv ct a0 a1 a2 a3,BQ x qual st kV doc pm an cdv ct [a0,a1,a2,a3]):B0 x qual st:=λkV doc pm an cdv ct us hl=>aHg (h kV doc pm an cdv ct) us (hl.trans hn)
def bn5(hn:(dG st).length=5)(h:∀kV doc pm an cdv ct a0 a1 a2 a3 a4,BQ x qual st kV doc pm an cdv ct [a0,a1,a2,a3,a4]):B0 x qual st:=λkV doc pm an cdv ct us hl=>aIo (h kV doc pm an cdv ct) us (hl.trans hn)
def bn6(hn:(dG st).length=6)(h:∀kV doc pm an cdv ct a0 a1 a2 a3 a4 a5,BQ x qual st kV doc pm an cdv ct [a0,a1,a2,a3,a4,a5]):B0 x qual st:=λkV doc pm an cdv ct us hl=>aHv (h kV doc pm an cdv ct) us (hl.trans hn)
end
noncomputable def kD2(v u:RV)(U:Env):aR RV:=NQ (dD v.d) u U
noncomputable def kD1(P:aW)(C:Calls)(b:E)(v:RV)(U:Env):aR RV:=(ev P C false b U).bind (kD2 v)
theorem aHK:NQ (some k) u U=some (.ok (.ow (.dcs [k] [u.d])),U):=rfl
theorem aHh:kD2 v u U=NQ (dD v.d) u U:=rfl
theorem aHQ:kD1 P C b v U=(ev P C false b U).bind (kD2 v):=rfl
theorem SR:ev P C t (.dict1 a b) U=bP t ((ev P C false a U).bind (kD1 P C b)):=rfl
def XB:wU (.tup [.int t,.tup (ns.map D.int)])=some (t,ns):=by
 show(d7 (ns.map D.int)).map _=_;rw[lZ];rfl
def aCM:dD (.tup [.tup [.int t,.tup (ns.map D.int)],.tup [.int u,.tup (ms.map D.int)]])=some (.inr ((t,ns),(u,ms))):=by
 show(wU _).bind _=_;rw[XB];show(wU _).map _=_;rw[XB];rfl
def aFl(h:iU ks ds i=some d):d6 (some (.dci ks ds)) (.int i)=some (.sh d):=by
 show(iU ks ds i).map _=_;rw[h];rfl
theorem aGq:bL .In (.int i) (.dci ks ds)=some (iU ks ds i).isSome:=rfl
def aDz(h:jW ds=some ps)(n:(ps.map (·.1)).Nodup):gG .dict [.lst ds]=some (.sh (.dci (ps.map (·.1)) (ps.map (·.2)))):=by
 show zY ds=_;unfold zY;rw[h];exact Zo (Zn n)
def aGe(hk:dD e=some k)(h:mI ks ds k=some d):d6 (some (.dcs ks ds)) e=some (.sh d):=by
 show(((dD e).bind (mI ks ds)).map RV.sh)=_;rw[hk];show((mI ks ds k).map RV.sh)=_;rw[h];rfl
def V7(hk:dD e=some k):bL .In e (.dcs ks ds)=some (eH ks k):=by
 show(dD e).map _=_;rw[hk];rfl
def aFA(hk:dD e=some k):bL .NotIn e (.dcs ks ds)=some !eH ks k:=by
 show((dD e).map _).map _=_;rw[hk];rfl
theorem aAX:gG .len [.dcs ks ds]=some (.sh (.int ks.length)):=rfl
noncomputable def MS(o:Option D):Option RV:=o.bind aEm
noncomputable def aCT(x:Hd)(U:Env):aR RV:=done (MS (x.get U)) U
theorem aFK:aCT x U=done (MS (x.get U)) U:=rfl
theorem aDL:MS (some (.tup ds))=some (.sh (.tup ds.reverse)):=rfl
theorem aDv:MS (some (.lst ds))=some (.ow (.lst ds.reverse)):=rfl
theorem aBo:ev P C t (.rev a) U=bP t ((dP P C a U).bind aCT):=rfl
end CI
namespace Tx
open PySem PySem.Spec PyProof.Rows L2 CI
noncomputable def top(i:Nat):Stmt:=PySem.Challenge.pw_canonwright_k49_pairs_that_show.main.body.getD i (.Pass ⟨0,0,0,0⟩)
noncomputable def eJ:List (Str×String):=[("Span","Span.broken"),("Leap","Leap.broken"),("Back","Back.broken"),("Again","Again.broken"),("Range","Range.broken"),("Above","Above.broken"),("Never","Never.broken")]
noncomputable def fO:List (Str×String):=[("Span","Span.forbids"),("Range","Range.forbids")]
noncomputable def L:List (Str×GV):=("NOTES",.con (.int 0))::("BAR",.con (.int 1))::("OCTAVE",.con (.int 2))::("VOICES",.con (.int 3))::("RULES",.con (.int 4))::("LATE",.con (.int 0))::("SHIFT",.con (.int 1))::("TURNED",.con (.int 2))::("LEADER",.con (.tup [(.int 0),(.int 0),(.bl false)]))::("BY_THE_LINE",.con (.tup []))::("TURN",.con (.int 0))::("TAIL",.con (.int 1))::("LEAST_MEMORY",.con (.int 3))::("START",.con (.tup [(.tup [(.int 0),(.tup [])]),(.tup [(.int 0),(.tup [])])]))::("is_whole",.fn "is_whole")::("is_within",.fn "is_within")::("pitch",.fn "pitch")::("singer",.fn "singer")::("sung",.fn "sung")::("span",.fn "span")::("chord",.fn "chord")::("sounding_pairs",.fn "sounding_pairs")::("move_so",.fn "move_so")::("rule_of",.fn "rule_of")::("rules_of",.fn "rules_of")::("breaks_at",.fn "breaks_at")::("memory",.fn "memory")::("turn_of",.fn "turn_of")::("stand_of",.fn "stand_of")::("is_tail",.fn "is_tail")::("is_stand",.fn "is_stand")::("line_to",.fn "line_to")::("nexts",.fn "nexts")::("behind",.fn "behind")::("pair_behind",.fn "pair_behind")::("first_apart",.fn "first_apart")::("is_pair",.fn "is_pair")::("leads_into",.fn "leads_into")::("shows_alike",.fn "shows_alike")::("_law_pen",.fn "L_pen")::("_law_draw",.fn "L_draw")::("_law_rule",.fn "L_rule")::("_law_house",.fn "L_house")::("_law_heard",.fn "L_heard")::("_law_by_line",.fn "L_by_line")::("_law_moved_so",.fn "L_moved_so")::("_law_bad_pair",.fn "L_bad_pair")::("_law_broken",.fn "L_broken")::("_law_memory",.fn "L_memory")::("_law_stand",.fn "L_stand")::("_law_as_line",.fn "L_as_line")::("_law_free",.fn "L_free")::("_law_ways",.fn "L_ways")::("_law_moved_voice",.fn "L_moved_voice")::("_law_beside",.fn "L_beside")::("_law_pairs",.fn "L_pairs")::("_law_any_stand",.fn "L_any_stand")::("_law_bent",.fn "L_bent")::("_law_due",.fn "L_due")::("law",.fn "law")::("Span",.cls ["beat","spans"])::("Leap",.cls ["most"])::("Back",.cls ["leap","most"])::("Again",.cls ["most"])::("Range",.cls ["low","high"])::("Above",.cls ["one","other"])::("Never",.cls ["one","other","way"])::(vU "broken",.mth eJ)::(vU "forbids",.mth fO)::("abs",.blt)::("all",.blt)::("bool",.blt)::("dict",.blt)::("enumerate",.blt)::("int",.blt)::("isinstance",.blt)::("len",.blt)::("list",.blt)::("max",.blt)::("min",.blt)::("range",.blt)::("set",.blt)::("tuple",.blt)::("{}",.blt)::[]
noncomputable def XW:Stmt->List Stmt
 |.ClassDef _ _ _ body _ _ _ _ _ _ _=>body
 |_=>[]
noncomputable def m8(i j:Nat):Stmt:=(XW (top i)).getD j (.Pass ⟨0,0,0,0⟩)
noncomputable def rF:E:=(.call "sung" [(.var 1),(.var 2),(.var 4),(.var 0)])
noncomputable def kF:E:=(.tup [(.var 4),(.var 5)])
noncomputable def jK:E:=(.cmp .Eq (.var 3) (.ix (.var 1) (.var 0)))
noncomputable def jR:E:=(.tup [(.var 2)])
noncomputable def mT:E:=(.call "rule_of" [(.var 1)])
noncomputable def pT:E:=(.ix (.var 1) (.con (.int 0)))
noncomputable def n9:E:=(.call "is_within" [(.var 2),(.con (.int 0)),(.bin .Sub (.ix (.var 0) (.con (.int 0))) (.con (.int 1)))])
noncomputable def rX:E:=(.var 4)
noncomputable def lG:E:=(.cmp .In (.call "pair_behind" [(.var 1),(.var 2),(.var 3),(.var 5)]) (.var 0))
noncomputable def kE:E:=(.call "is_pair" [(.var 0),(.var 1),(.var 3)])
noncomputable def kH:E:=(.call "leads_into" [(.var 1),(.var 2),(.var 4),(.var 0)])
noncomputable def mR:E:=(.tup [(.var 3)])
noncomputable def mS:E:=(.bin .Add (.con (.int 1)) (.ix (.var 1) (.con (.int 0))))
noncomputable def kG:E:=(.call "L_draw" [(.var 1),(.ix (.var 0) (.con (.int 0)))])
noncomputable def nU:E:=(.ix (.var 1) (.con (.int 0)))
noncomputable def zU:E:=(.ix (.var 1) (.con (.int 0)))
noncomputable def iI:List S:=[(.ifs (.and (.cmp .IsNot (.ix (.var 0) (.var 2)) (.con .non)) (.cmp .IsNot (.ix (.var 0) (.var 3)) (.con .non))) [(.expr (.app 1 (.tup [(.var 2),(.var 3)])))] [])]
noncomputable def iG:List S:=[(.for [3] true .rng [(.bin .Add (.var 2) (.con (.int 1))),(.bif .len [(.var 0)])] iI)]
noncomputable def jT:List S:=[(.ifs (.and (.cmp .Eq (.call "span" [(.var 4),(.ix (.var 5) (.var 8)),(.ix (.var 5) (.var 9))]) (.fld (.var 0) "one")) (.cmp .Eq (.call "span" [(.var 4),(.ix (.var 6) (.var 8)),(.ix (.var 6) (.var 9))]) (.fld (.var 0) "other"))) [(.ifs (.call "move_so" [(.fld (.var 0) "way"),(.bin .Sub (.ix (.var 6) (.var 8)) (.ix (.var 5) (.var 8))),(.bin .Sub (.ix (.var 6) (.var 9)) (.ix (.var 5) (.var 9)))]) [(.expr (.app 7 (.tup [(.var 8),(.var 9)])))] [])] [])]
noncomputable def lY:List S:=[(.expr (.app 4 (.tup [(.var 3),(.var 5),(.var 7)])))]
noncomputable def lX:List S:=[(.for [7] true .of [(.meth 6 "broken" eJ [(.var 0),(.var 2),(.var 3)])] lY)]
noncomputable def gV:List S:=[(.ifs (.cmp .NotEq (.cmp .In (.var 5) (.var 3)) (.cmp .In (.var 5) (.var 4))) [(.ret (.tup [(.var 5),(.ite (.cmp .In (.var 5) (.var 3)) (.con (.int 1)) (.con (.int 2)))]))] [])]
noncomputable def kL:List S:=[(.set 3 (.var 4) (.con (.bl true)))]
noncomputable def oM:List S:=[(.asg 8 (.call "L_draw" [(.var 0),(.ix (.lst [(.con (.int 2)),(.con (.int 5))]) (.bif .int [(.var 1)]))])),(.expr (.app 6 (.tup [(.var 8),(.bin .Sub (.call "L_draw" [(.var 0),(.con (.int 25))]) (.con (.int 12))),(.cmp .Eq (.call "L_draw" [(.var 0),(.con (.int 4))]) (.con (.int 0)))])))]
noncomputable def oC:List S:=[(.expr (.app 9 (.call "L_rule" [(.var 0),(.var 2),(.var 3),(.var 4),(.var 5)])))]
noncomputable def oB:List S:=[(.asg 7 (.con .non)),(.ifs (.cmp2 .LtE .Lt (.con (.int 0)) (.bin .Sub (.var 2) (.var 4)) (.bif .len [(.var 1)])) [(.asg 7 (.bin .Add (.var 5) (.ix (.var 1) (.bin .Sub (.var 2) (.var 4))))),(.ifs (.var 6) [(.asg 7 (.bin .Sub (.var 5) (.ix (.var 1) (.bin .Sub (.var 2) (.var 4)))))] [])] []),(.expr (.app 3 (.var 7)))]
noncomputable def gZ:List S:=[(.ifs (.call "L_bad_pair" [(.var 0),(.var 1),(.var 8),(.var 4),(.var 5),(.var 10)]) [(.expr (.app 9 (.tup [(.var 5),(.var 10)])))] [])]
noncomputable def gY:List S:=[(.for [10] true .rng [(.bin .Add (.var 5) (.con (.int 1))),(.bif .len [(.var 4)])] gZ)]
noncomputable def pS:List S:=[(.ifs (.cmp .NotEq (.call "L_broken" [(.var 0),(.var 2),(.var 1),(.bin .Sub (.bif .len [(.var 1)]) (.con (.int 1)))]) (.lst [])) [(.ret (.con (.bl false)))] [])]
noncomputable def pO:List S:=[(.asg 4 (.bin .Add (.call "L_as_line" [(.var 1)]) (.lst [(.var 3)]))),(.ifs (.call "L_free" [(.var 0),(.var 4)]) [(.expr (.app 2 (.tup [(.var 3),(.call "L_stand" [(.var 0),(.var 4)])])))] [])]
noncomputable def iW:List S:=[(.asg 11 (.bin .Add (.ix (.var 3) (.var 7)) (.lst [(.var 10)]))),(.ifs (.and (.cmp .In (.var 10) (.var 8)) (.cmp .In (.var 10) (.var 9))) [(.ifs (.cmp .NotIn (.tup [(.ix (.var 8) (.var 10)),(.ix (.var 9) (.var 10))]) (.var 3)) [(.set 3 (.tup [(.ix (.var 8) (.var 10)),(.ix (.var 9) (.var 10))]) (.var 11)),(.expr (.app 4 (.tup [(.ix (.var 8) (.var 10)),(.ix (.var 9) (.var 10))])))] [])] [(.ifs (.and (.cmp .Is (.var 5) (.con .non)) (.or (.cmp .In (.var 10) (.var 8)) (.cmp .In (.var 10) (.var 9)))) [(.asg 5 (.tup [(.con (.str ("apart":Str))),(.var 11),(.bin .Add (.con (.int 1)) (.bif .int [(.cmp .In (.var 10) (.var 9))]))]))] [])])]
noncomputable def oJ:List S:=[(.asg 7 (.ix (.var 4) (.var 6))),(.asg 8 (.bif .dict [(.call "L_ways" [(.var 0),(.ix (.var 7) (.con (.int 0)))])])),(.asg 9 (.bif .dict [(.call "L_ways" [(.var 1),(.ix (.var 7) (.con (.int 1)))])])),(.for [10] true .rng [(.ix (.var 0) (.con (.int 0)))] iW),(.asg 6 (.bin .Add (.var 6) (.con (.int 1))))]
noncomputable def nD:List S:=[(.ifs (.cmp .NotIn (.tup [(.ix (.ix (.var 5) (.var 7)) (.con (.int 1))),(.ix (.ix (.var 6) (.var 7)) (.con (.int 1)))]) (.var 2)) [(.ret (.con (.bl false)))] [])]
noncomputable def nW:List S:=[(.asg 5 (.call "L_ways" [(.var 0),(.var 3)])),(.asg 6 (.call "L_ways" [(.var 1),(.var 4)])),(.ifs (.cmp .NotEq (.comp nU [1] .of [(.var 5)] [] [] 2) (.comp zU [1] .of [(.var 6)] [] [] 2)) [(.ret (.con (.bl false)))] []),(.for [7] true .rng [(.bif .len [(.var 5)])] nD)]
noncomputable def yA:List S:=[(.asg 6 (.call "L_bent" [(.call "L_pen" [(.var 0),(.bin .Add (.con (.int 2)) (.var 5))]),(.var 1),(.var 3),(.var 4)])),(.asg 7 (.bif .list [(.var 6)])),(.asg 8 (.call "shows_alike" [(.var 1),(.var 3),(.var 6)])),(.ifs (.or (.not (.isi (.var 8) [.bool])) (.or (.cmp .NotEq (.var 8) (.call "L_due" [(.var 1),(.var 3),(.var 7)])) (.cmp .NotEq (.var 6) (.var 7)))) [(.ret (.con (.bl false)))] [])]
noncomputable def pU:S:=(.asg 5 (.call "L_draw" [(.var 0),(.con (.int 9))]))
def DG{P:aW}{C:Calls}{W:Nat}{U:CI.Env}:ex P C W pU U=ex P C W (.asg 5 (.call "L_draw" [(.var 0),(.con (.int 9))])) U:=(rfl)
noncomputable def pP:S:=(.ifs (.cmp .Lt (.var 5) (.con (.int 2))) [(.ret (.tup [(.con (.str ("span":Str))),(.call "L_draw" [(.var 0),(.var 2)]),(.call "L_draw" [(.var 0),(.bin .LShift (.con (.int 1)) (.var 3))])]))] [])
def sG{P:aW}{C:Calls}{W:Nat}{U:CI.Env}:ex P C W pP U=ex P C W (.ifs (.cmp .Lt (.var 5) (.con (.int 2))) [(.ret (.tup [(.con (.str ("span":Str))),(.call "L_draw" [(.var 0),(.var 2)]),(.call "L_draw" [(.var 0),(.bin .LShift (.con (.int 1)) (.var 3))])]))] []) U:=(rfl)
noncomputable def wV:S:=(.ifs (.cmp .Eq (.var 5) (.con (.int 2))) [(.ret (.tup [(.con (.str ("span":Str))),(.call "L_draw" [(.var 0),(.var 2)]),(.bin .Sub (.bin .Sub (.bin .LShift (.con (.int 1)) (.var 3)) (.con (.int 1))) (.bin .LShift (.con (.int 1)) (.call "L_draw" [(.var 0),(.var 3)])))]))] [])
def tM{P:aW}{C:Calls}{W:Nat}{U:CI.Env}:ex P C W wV U=ex P C W (.ifs (.cmp .Eq (.var 5) (.con (.int 2))) [(.ret (.tup [(.con (.str ("span":Str))),(.call "L_draw" [(.var 0),(.var 2)]),(.bin .Sub (.bin .Sub (.bin .LShift (.con (.int 1)) (.var 3)) (.con (.int 1))) (.bin .LShift (.con (.int 1)) (.call "L_draw" [(.var 0),(.var 3)])))]))] []) U:=(rfl)
noncomputable def wL:S:=(.ifs (.cmp .Eq (.var 5) (.con (.int 3))) [(.ret (.tup [(.con (.str ("leap":Str))),(.call "L_draw" [(.var 0),(.ix (.lst [(.con (.int 13)),(.bin .Add (.var 1) (.con (.int 1)))]) (.call "L_draw" [(.var 0),(.con (.int 2))]))])]))] [])
def tD{P:aW}{C:Calls}{W:Nat}{U:CI.Env}:ex P C W wL U=ex P C W (.ifs (.cmp .Eq (.var 5) (.con (.int 3))) [(.ret (.tup [(.con (.str ("leap":Str))),(.call "L_draw" [(.var 0),(.ix (.lst [(.con (.int 13)),(.bin .Add (.var 1) (.con (.int 1)))]) (.call "L_draw" [(.var 0),(.con (.int 2))]))])]))] []) U:=(rfl)
noncomputable def xE:S:=(.ifs (.cmp .Eq (.var 5) (.con (.int 4))) [(.ret (.tup [(.con (.str ("back":Str))),(.bin .Add (.con (.int 1)) (.call "L_draw" [(.var 0),(.con (.int 12))])),(.bin .Add (.con (.int 1)) (.call "L_draw" [(.var 0),(.con (.int 12))]))]))] [])
def tF{P:aW}{C:Calls}{W:Nat}{U:CI.Env}:ex P C W xE U=ex P C W (.ifs (.cmp .Eq (.var 5) (.con (.int 4))) [(.ret (.tup [(.con (.str ("back":Str))),(.bin .Add (.con (.int 1)) (.call "L_draw" [(.var 0),(.con (.int 12))])),(.bin .Add (.con (.int 1)) (.call "L_draw" [(.var 0),(.con (.int 12))]))]))] []) U:=(rfl)
noncomputable def wJ:S:=(.ifs (.cmp .Eq (.var 5) (.con (.int 5))) [(.ret (.tup [(.con (.str ("again":Str))),(.bin .Add (.con (.int 1)) (.call "L_draw" [(.var 0),(.con (.int 3))]))]))] [])
def sM{P:aW}{C:Calls}{W:Nat}{U:CI.Env}:ex P C W wJ U=ex P C W (.ifs (.cmp .Eq (.var 5) (.con (.int 5))) [(.ret (.tup [(.con (.str ("again":Str))),(.bin .Add (.con (.int 1)) (.call "L_draw" [(.var 0),(.con (.int 3))]))]))] []) U:=(rfl)
noncomputable def wX:S:=(.ifs (.cmp .Eq (.var 5) (.con (.int 6))) [(.asg 6 (.ix (.lst [(.bin .Sub (.call "L_draw" [(.var 0),(.con (.int 121))]) (.con (.int 60))),(.bin .Sub (.call "L_draw" [(.var 0),(.con (.int 20))]) (.con (.int 12)))]) (.call "L_draw" [(.var 0),(.con (.int 2))]))),(.ret (.tup [(.con (.str ("range":Str))),(.var 6),(.bin .Add (.var 6) (.call "L_draw" [(.var 0),(.bin .Sub (.con (.int 61)) (.var 6))]))]))] [])
def sS{P:aW}{C:Calls}{W:Nat}{U:CI.Env}:ex P C W wX U=ex P C W (.ifs (.cmp .Eq (.var 5) (.con (.int 6))) [(.asg 6 (.ix (.lst [(.bin .Sub (.call "L_draw" [(.var 0),(.con (.int 121))]) (.con (.int 60))),(.bin .Sub (.call "L_draw" [(.var 0),(.con (.int 20))]) (.con (.int 12)))]) (.call "L_draw" [(.var 0),(.con (.int 2))]))),(.ret (.tup [(.con (.str ("range":Str))),(.var 6),(.bin .Add (.var 6) (.call "L_draw" [(.var 0),(.bin .Sub (.con (.int 61)) (.var 6))]))]))] []) U:=(rfl)
noncomputable def xD:S:=(.ifs (.cmp .Eq (.var 5) (.con (.int 7))) [(.asg 7 (.call "L_draw" [(.var 0),(.bin .Add (.var 4) (.con (.int 1)))])),(.ret (.tup [(.con (.str ("above":Str))),(.var 7),(.bin .Mod (.bin .Add (.bin .Add (.var 7) (.con (.int 1))) (.call "L_draw" [(.var 0),(.var 4)])) (.bin .Add (.var 4) (.con (.int 1))))]))] [])
def sN{P:aW}{C:Calls}{W:Nat}{U:CI.Env}:ex P C W xD U=ex P C W (.ifs (.cmp .Eq (.var 5) (.con (.int 7))) [(.asg 7 (.call "L_draw" [(.var 0),(.bin .Add (.var 4) (.con (.int 1)))])),(.ret (.tup [(.con (.str ("above":Str))),(.var 7),(.bin .Mod (.bin .Add (.bin .Add (.var 7) (.con (.int 1))) (.call "L_draw" [(.var 0),(.var 4)])) (.bin .Add (.var 4) (.con (.int 1))))]))] []) U:=(rfl)
noncomputable def wO:S:=(.asg 8 (.tup [(.con (.str ("like":Str))),(.con (.str ("against":Str))),(.con (.str ("aside":Str))),(.con (.str ("any":Str)))]))
def C9{P:aW}{C:Calls}{W:Nat}{U:CI.Env}:ex P C W wO U=ex P C W (.asg 8 (.tup [(.con (.str ("like":Str))),(.con (.str ("against":Str))),(.con (.str ("aside":Str))),(.con (.str ("any":Str)))])) U:=(rfl)
noncomputable def xB:S:=(.ret (.tup [(.con (.str ("never":Str))),(.call "L_draw" [(.var 0),(.var 3)]),(.call "L_draw" [(.var 0),(.var 3)]),(.ix (.var 8) (.call "L_draw" [(.var 0),(.con (.int 4))]))]))
def DM{P:aW}{C:Calls}{W:Nat}{U:CI.Env}:ex P C W xB U=ex P C W (.ret (.tup [(.con (.str ("never":Str))),(.call "L_draw" [(.var 0),(.var 3)]),(.call "L_draw" [(.var 0),(.var 3)]),(.ix (.var 8) (.call "L_draw" [(.var 0),(.con (.int 4))]))])) U:=(rfl)
noncomputable def mD:Fn:=⟨[true],0,[(.ret (.and (.isi (.var 0) [.int]) (.not (.isi (.var 0) [.bool]))))],false⟩
noncomputable def lA:Fn:=⟨[true,true,true],0,[(.ret (.and (.call "is_whole" [(.var 0)]) (.cmp2 .LtE .LtE (.var 1) (.var 0) (.var 2))))],false⟩
noncomputable def r9:Fn:=⟨[true,true],0,[(.ifs (.ix (.var 0) (.con (.int 2))) [(.ret (.bin .Sub (.ix (.var 0) (.con (.int 1))) (.var 1)))] []),(.ret (.bin .Add (.ix (.var 0) (.con (.int 1))) (.var 1)))],false⟩
noncomputable def oV:Fn:=⟨[true,true],0,[(.ifs (.cmp .Eq (.var 1) (.con (.int 0))) [(.ret (.con (.tup [(.int 0),(.int 0),(.bl false)])))] []),(.ret (.ix (.ix (.var 0) (.con (.int 3))) (.bin .Sub (.var 1) (.con (.int 1)))))],false⟩
noncomputable def vZ:Fn:=⟨[true,true,true,true],2,[(.asg 4 (.call "singer" [(.var 0),(.var 2)])),(.asg 5 (.bin .Sub (.var 3) (.ix (.var 4) (.con (.int 0))))),(.ifs (.cmp2 .LtE .Lt (.con (.int 0)) (.var 5) (.bif .len [(.var 1)])) [(.ret (.call "pitch" [(.var 4),(.ix (.var 1) (.var 5))]))] []),(.ret (.con .non))],false⟩
noncomputable def vW:Fn:=⟨[true,true,true],0,[(.ret (.bin .Mod (.bif .abs [(.bin .Sub (.var 1) (.var 2))]) (.var 0)))],false⟩
noncomputable def sE:Fn:=⟨[true,true,true],0,[(.ret (.comp rF [4] .rng [(.bin .Add (.bif .len [(.ix (.var 0) (.con (.int 3)))]) (.con (.int 1)))] [] [2,0,1] 2))],false⟩
noncomputable def fZ:Fn:=⟨[true],3,[(.asg 1 (.lst [])),(.for [2] true .rng [(.bif .len [(.var 0)])] iG),(.ret (.var 1))],false⟩
noncomputable def nR:Fn:=⟨[true,true,true],0,[(.ifs (.cmp .Eq (.var 0) (.con (.str ("like":Str)))) [(.ret (.cmp .Gt (.bin .Mult (.var 1) (.var 2)) (.con (.int 0))))] []),(.ifs (.cmp .Eq (.var 0) (.con (.str ("against":Str)))) [(.ret (.cmp .Lt (.bin .Mult (.var 1) (.var 2)) (.con (.int 0))))] []),(.ifs (.cmp .Eq (.var 0) (.con (.str ("aside":Str)))) [(.ret (.cmp .NotEq (.cmp .Eq (.var 1) (.con (.int 0))) (.cmp .Eq (.var 2) (.con (.int 0)))))] []),(.ret (.con (.bl true)))],false⟩
noncomputable def jD:Fn:=⟨[true,true,true,true],2,[(.ifs (.cmp .NotEq (.bin .Mod (.var 3) (.ix (.var 1) (.con (.int 1)))) (.fld (.var 0) "beat")) [(.ret (.lst []))] []),(.asg 4 (.ix (.var 1) (.con (.int 2)))),(.asg 5 (.call "chord" [(.var 1),(.var 2),(.var 3)])),(.ret (.comp kF [4,5] .of [(.call "sounding_pairs" [(.var 5)])] [(.meth 2 "forbids" fO [(.call "span" [(.var 1),(.ix (.var 0) (.var 4)),(.ix (.var 0) (.var 5))])])] [5,4,0] 3))],false⟩
noncomputable def iT:Fn:=⟨[true,true],0,[(.ret (.cmp .Eq (.bin .BitAnd (.bin .RShift (.fld (.var 0) "spans") (.var 1)) (.con (.int 1))) (.con (.int 0))))],false⟩
noncomputable def jI:Fn:=⟨[true,true,true,false],0,[(.ifs (.and (.cmp .Gt (.var 3) (.con (.int 0))) (.cmp .Gt (.bif .abs [(.bin .Sub (.ix (.var 2) (.var 3)) (.ix (.var 2) (.bin .Sub (.var 3) (.con (.int 1)))))]) (.fld (.var 0) "most"))) [(.ret (.lst [(.con (.tup []))]))] []),(.ret (.lst []))],false⟩
noncomputable def jG:Fn:=⟨[true,true,true,false],2,[(.ifs (.cmp .Lt (.var 3) (.con (.int 2))) [(.ret (.lst []))] []),(.asg 4 (.bin .Sub (.ix (.var 2) (.bin .Sub (.var 3) (.con (.int 1)))) (.ix (.var 2) (.bin .Sub (.var 3) (.con (.int 2)))))),(.asg 5 (.bin .Sub (.ix (.var 2) (.var 3)) (.ix (.var 2) (.bin .Sub (.var 3) (.con (.int 1)))))),(.ifs (.cmp .Lt (.bif .abs [(.var 4)]) (.fld (.var 0) "leap")) [(.ret (.lst []))] []),(.ifs (.and (.cmp .Lt (.bin .Mult (.var 4) (.var 5)) (.con (.int 0))) (.cmp .LtE (.bif .abs [(.var 5)]) (.fld (.var 0) "most"))) [(.ret (.lst []))] []),(.ret (.lst [(.con (.tup []))]))],false⟩
noncomputable def iQ:Fn:=⟨[true,true,true,false],0,[(.ifs (.cmp .Lt (.var 3) (.fld (.var 0) "most")) [(.ret (.lst []))] []),(.ifs (.bif .all [(.comp jK [3] .of [(.sl (.var 2) (.bin .Sub (.var 3) (.fld (.var 0) "most")) (.var 3))] [] [3,2] 2)]) [(.ret (.lst [(.con (.tup []))]))] []),(.ret (.lst []))],false⟩
noncomputable def iL:Fn:=⟨[true,true,true,true],0,[(.ret (.comp jR [2,3] (.enum 0) [(.call "chord" [(.var 1),(.var 2),(.var 3)])] [(.meth 0 "forbids" fO [(.var 3)])] [0] 3))],false⟩
noncomputable def gP:Fn:=⟨[true,true],0,[(.ret (.and (.cmp .IsNot (.var 1) (.con .non)) (.not (.cmp2 .LtE .LtE (.fld (.var 0) "low") (.var 1) (.fld (.var 0) "high")))))],false⟩
noncomputable def iK:Fn:=⟨[true,true,true,true],2,[(.asg 4 (.call "sung" [(.var 1),(.var 2),(.fld (.var 0) "one"),(.var 3)])),(.asg 5 (.call "sung" [(.var 1),(.var 2),(.fld (.var 0) "other"),(.var 3)])),(.ifs (.or (.cmp .Is (.var 4) (.con .non)) (.or (.cmp .Is (.var 5) (.con .non)) (.cmp .GtE (.var 4) (.var 5)))) [(.ret (.lst []))] []),(.ret (.lst [(.tup [(.fld (.var 0) "one"),(.fld (.var 0) "other")])]))],false⟩
noncomputable def iR:Fn:=⟨[true,true,true,true],6,[(.asg 4 (.ix (.var 1) (.con (.int 2)))),(.asg 5 (.call "chord" [(.var 1),(.var 2),(.bin .Sub (.var 3) (.con (.int 1)))])),(.asg 6 (.call "chord" [(.var 1),(.var 2),(.var 3)])),(.asg 7 (.lst [])),(.for [8,9] false .of [(.call "sounding_pairs" [(.var 5)])] jT),(.ret (.var 7))],false⟩
noncomputable def d9:Fn:=⟨[true],1,[(.asg 1 (.ix (.var 0) (.con (.int 0)))),(.ifs (.cmp .Eq (.var 1) (.con (.str ("span":Str)))) [(.ret (.make "Span" ["beat","spans"] [(.ix (.var 0) (.con (.int 1))),(.ix (.var 0) (.con (.int 2)))]))] []),(.ifs (.cmp .Eq (.var 1) (.con (.str ("leap":Str)))) [(.ret (.make "Leap" ["most"] [(.ix (.var 0) (.con (.int 1)))]))] []),(.ifs (.cmp .Eq (.var 1) (.con (.str ("back":Str)))) [(.ret (.make "Back" ["leap","most"] [(.ix (.var 0) (.con (.int 1))),(.ix (.var 0) (.con (.int 2)))]))] []),(.ifs (.cmp .Eq (.var 1) (.con (.str ("again":Str)))) [(.ret (.make "Again" ["most"] [(.ix (.var 0) (.con (.int 1)))]))] []),(.ifs (.cmp .Eq (.var 1) (.con (.str ("range":Str)))) [(.ret (.make "Range" ["low","high"] [(.ix (.var 0) (.con (.int 1))),(.ix (.var 0) (.con (.int 2)))]))] []),(.ifs (.cmp .Eq (.var 1) (.con (.str ("above":Str)))) [(.ret (.make "Above" ["one","other"] [(.ix (.var 0) (.con (.int 1))),(.ix (.var 0) (.con (.int 2)))]))] []),(.ret (.make "Never" ["one","other","way"] [(.ix (.var 0) (.con (.int 1))),(.ix (.var 0) (.con (.int 2))),(.ix (.var 0) (.con (.int 3)))]))],false⟩
noncomputable def mK:Fn:=⟨[true],0,[(.ret (.comp mT [1] .of [(.ix (.var 0) (.con (.int 4)))] [] [] 2))],false⟩
noncomputable def k8:Fn:=⟨[true,true,true,false],4,[(.asg 4 (.lst [])),(.for [5,6] false (.enum 0) [(.var 1)] lX),(.ret (.var 4))],false⟩
noncomputable def pM:Fn:=⟨[true],0,[(.ret (.bif .max [(.con (.int 3)),(.bin .Add (.con (.int 1)) (.bif .max [(.comp pT [1] .of [(.ix (.var 0) (.con (.int 3)))] [] [] 2)]))]))],false⟩
noncomputable def nT:Fn:=⟨[true,false],1,[(.asg 2 (.call "memory" [(.var 0)])),(.ifs (.cmp .LtE (.var 1) (.var 2)) [(.ret (.var 1))] []),(.ret (.bin .Add (.var 2) (.bin .Mod (.bin .Sub (.var 1) (.var 2)) (.ix (.var 0) (.con (.int 1))))))],false⟩
noncomputable def mC:Fn:=⟨[true,true],0,[(.ret (.tup [(.call "turn_of" [(.var 0),(.bif .len [(.var 1)])]),(.bif .tuple [(.sl (.var 1) (.neg (.call "memory" [(.var 0)])) .omt)])]))],false⟩
noncomputable def nQ:Fn:=⟨[true,true,true],0,[(.ifs (.or (.not (.isi (.var 2) [.tuple])) (.cmp .NotEq (.bif .len [(.var 2)]) (.bif .min [(.var 1),(.call "memory" [(.var 0)])]))) [(.ret (.con (.bl false)))] []),(.ret (.bif .all [(.comp n9 [2] .of [(.var 2)] [] [0] 2)]))],false⟩
noncomputable def mL:Fn:=⟨[true,true],0,[(.ifs (.or (.not (.isi (.var 1) [.tuple])) (.cmp .NotEq (.bif .len [(.var 1)]) (.con (.int 2)))) [(.ret (.con (.bl false)))] []),(.ifs (.not (.call "is_within" [(.ix (.var 1) (.con (.int 0))),(.con (.int 0)),(.bin .Sub (.bin .Add (.call "memory" [(.var 0)]) (.ix (.var 0) (.con (.int 1)))) (.con (.int 1)))])) [(.ret (.con (.bl false)))] []),(.ret (.call "is_tail" [(.var 0),(.ix (.var 1) (.con (.int 0))),(.ix (.var 1) (.con (.int 1)))]))],false⟩
noncomputable def nN:Fn:=⟨[true],0,[(.ret (.bin .Add (.bin .Mult (.lst [(.con (.int 0))]) (.bin .Sub (.ix (.var 0) (.con (.int 0))) (.bif .len [(.ix (.var 0) (.con (.int 1)))]))) (.bif .list [(.ix (.var 0) (.con (.int 1)))])))],false⟩
noncomputable def sD:Fn:=⟨[true,true],2,[(.asg 2 (.call "rules_of" [(.var 0)])),(.asg 3 (.call "line_to" [(.var 1)])),(.ret (.comp rX [4] .rng [(.ix (.var 0) (.con (.int 0)))] [(.cmp .Eq (.bif .len [(.call "breaks_at" [(.var 0),(.var 2),(.bin .Add (.var 1) (.lst [(.var 4)])),(.bif .len [(.var 1)])])]) (.con (.int 0)))] [0,3,2] 2))],false⟩
noncomputable def pA:Fn:=⟨[true,true,false],0,[(.ret (.call "stand_of" [(.var 0),(.bin .Add (.call "line_to" [(.var 1)]) (.lst [(.var 2)]))]))],false⟩
noncomputable def jA:Fn:=⟨[true,true,true,false],0,[(.ret (.tup [(.call "behind" [(.var 0),(.ix (.var 2) (.con (.int 0))),(.var 3)]),(.call "behind" [(.var 1),(.ix (.var 2) (.con (.int 1))),(.var 3)])]))],false⟩
noncomputable def jC:Fn:=⟨[true,true,true],3,[(.asg 3 (.call "nexts" [(.var 0),(.ix (.var 2) (.con (.int 0)))])),(.asg 4 (.call "nexts" [(.var 1),(.ix (.var 2) (.con (.int 1)))])),(.for [5] true .rng [(.ix (.var 0) (.con (.int 0)))] gV),(.ret (.con .non))],false⟩
noncomputable def nM:Fn:=⟨[true,true,true],0,[(.ifs (.or (.not (.isi (.var 2) [.tuple])) (.cmp .NotEq (.bif .len [(.var 2)]) (.con (.int 2)))) [(.ret (.con (.bl false)))] []),(.ret (.and (.call "is_stand" [(.var 0),(.ix (.var 2) (.con (.int 0)))]) (.call "is_stand" [(.var 1),(.ix (.var 2) (.con (.int 1)))])))],false⟩
noncomputable def j8:Fn:=⟨[true,true,true,true],0,[(.ifs (.cmp .IsNot (.call "first_apart" [(.var 0),(.var 1),(.var 2)]) (.con .non)) [(.ret (.con (.bl false)))] []),(.ret (.bif .all [(.comp lG [5] .of [(.call "nexts" [(.var 0),(.ix (.var 2) (.con (.int 0)))])] [] [3,0,1,2] 2)]))],false⟩
noncomputable def jJ:Fn:=⟨[true,true,true],2,[(.ifs (.or (.cmp .NotEq (.ix (.var 0) (.con (.int 0))) (.ix (.var 1) (.con (.int 0)))) (.not (.bif .all [(.comp kE [3] .of [(.var 2)] [] [0,1] 2)]))) [(.ret (.con (.bl false)))] []),(.asg 3 .dict0),(.for [4] true .of [(.var 2)] kL),(.ret (.and (.cmp .In (.con (.tup [(.tup [(.int 0),(.tup [])]),(.tup [(.int 0),(.tup [])])])) (.var 3)) (.bif .all [(.comp kH [4] .key [(.frz 3)] [] [3,0,1] 2)])))],false⟩
noncomputable def sC:Fn:=⟨[true,false],2,[(.ifs (.and (.cmp .Lt (.var 1) (.bif .len [(.var 0)])) (.cmp .Eq (.bin .Mod (.ix (.var 0) (.con (.int 0))) (.con (.int 2))) (.con (.int 0)))) [(.ret (.lst [(.con (.int 0)),(.ix (.var 0) (.var 1))]))] []),(.asg 2 (.bin .Add (.bin .Mult (.con (.int 30011)) (.var 1)) (.con (.int 7)))),(.ifs (.cmp .Gt (.bif .len [(.var 0)]) (.con (.int 0))) [(.asg 3 (.bin .FloorDiv (.var 1) (.bif .len [(.var 0)]))),(.asg 2 (.bin .Add (.bin .Add (.bin .Mod (.ix (.var 0) (.bin .Mod (.var 1) (.bif .len [(.var 0)]))) (.con (.int 2147483587))) (.bin .Mult (.con (.int 48611)) (.var 3))) (.bin .Mult (.con (.int 3)) (.var 1))))] []),(.ret (.lst [(.con (.int 1)),(.bin .Mod (.bin .Add (.bin .Add (.bin .Mult (.var 2) (.con (.int 48271))) (.bin .Mult (.con (.int 11)) (.var 1))) (.con (.int 1))) (.con (.int 2147483647)))]))],false⟩
noncomputable def pC:Fn:=⟨[true,true],2,[(.ifs (.cmp .Eq (.ix (.var 0) (.con (.int 0))) (.con (.int 0))) [(.asg 2 (.bin .Mod (.ix (.var 0) (.con (.int 1))) (.var 1))),(.set 0 (.con (.int 1)) (.bin .FloorDiv (.ix (.var 0) (.con (.int 1))) (.var 1))),(.ret (.var 2))] []),(.set 0 (.con (.int 1)) (.bin .Mod (.bin .Add (.bin .Mult (.ix (.var 0) (.con (.int 1))) (.con (.int 69621))) (.con (.int 7))) (.con (.int 2147483629)))),(.asg 3 (.bin .Mod (.bin .Mult (.bin .Add (.bin .Add (.bin .Mult (.bin .Mod (.ix (.var 0) (.con (.int 1))) (.con (.int 65521))) (.con (.int 40503))) (.bin .FloorDiv (.ix (.var 0) (.con (.int 1))) (.con (.int 65521)))) (.con (.int 1))) (.con (.int 16807))) (.con (.int 2147483647)))),(.ret (.bin .Mod (.bin .FloorDiv (.var 3) (.con (.int 13))) (.var 1)))],false⟩
noncomputable def pH:Fn:=⟨[true,true,true,true,true],4,[pU,pP,wV,wL,xE,wJ,wX,xD,wO,xB],false⟩
noncomputable def nV:Fn:=⟨[true],9,[(.asg 1 (.cmp .Eq (.call "L_draw" [(.var 0),(.con (.int 2))]) (.con (.int 0)))),(.asg 2 (.bin .Add (.con (.int 1)) (.call "L_draw" [(.var 0),(.ix (.lst [(.con (.int 4)),(.con (.int 7))]) (.bif .int [(.var 1)]))]))),(.asg 3 (.bin .Add (.con (.int 1)) (.call "L_draw" [(.var 0),(.ix (.lst [(.con (.int 2)),(.con (.int 4))]) (.bif .int [(.var 1)]))]))),(.asg 4 (.bin .Add (.con (.int 1)) (.call "L_draw" [(.var 0),(.con (.int 12))]))),(.asg 5 (.bin .Add (.con (.int 1)) (.call "L_draw" [(.var 0),(.ix (.lst [(.con (.int 2)),(.con (.int 3))]) (.bif .int [(.var 1)]))]))),(.asg 6 (.lst [])),(.for [7] true .rng [(.var 5)] oM),(.asg 9 (.lst [])),(.for [7] true .rng [(.call "L_draw" [(.var 0),(.con (.int 9))])] oC),(.ret (.tup [(.var 2),(.var 3),(.var 4),(.bif .tuple [(.var 6)]),(.bif .tuple [(.var 9)])]))],false⟩
noncomputable def nP:Fn:=⟨[true,true,true],5,[(.asg 3 (.lst [])),(.for [4,5,6] false .of [(.bin .Add (.tup [(.tup [(.con (.int 0)),(.con (.int 0)),(.con (.bl false))])]) (.ix (.var 0) (.con (.int 3))))] oB),(.ret (.var 3))],false⟩
noncomputable def f6:Fn:=⟨[true,true,false],2,[(.ifs (.cmp .Eq (.ix (.var 0) (.con (.int 0))) (.con (.str ("leap":Str)))) [(.ret (.and (.cmp .Gt (.var 2) (.con (.int 0))) (.cmp .Gt (.bif .abs [(.bin .Sub (.ix (.var 1) (.var 2)) (.ix (.var 1) (.bin .Sub (.var 2) (.con (.int 1)))))]) (.ix (.var 0) (.con (.int 1))))))] []),(.ifs (.cmp .Eq (.ix (.var 0) (.con (.int 0))) (.con (.str ("again":Str)))) [(.ret (.and (.cmp .GtE (.var 2) (.ix (.var 0) (.con (.int 1)))) (.cmp .Eq (.nset (.sl (.var 1) (.bin .Sub (.var 2) (.ix (.var 0) (.con (.int 1)))) (.bin .Add (.var 2) (.con (.int 1))))) (.con (.int 1)))))] []),(.ifs (.cmp .Lt (.var 2) (.con (.int 2))) [(.ret (.con (.bl false)))] []),(.asg 3 (.bin .Sub (.ix (.var 1) (.bin .Sub (.var 2) (.con (.int 1)))) (.ix (.var 1) (.bin .Sub (.var 2) (.con (.int 2)))))),(.asg 4 (.bin .Sub (.ix (.var 1) (.bin .Sub (.var 2) (.con (.int 1)))) (.ix (.var 1) (.var 2)))),(.ifs (.cmp .Lt (.var 3) (.con (.int 0))) [(.asg 4 (.bin .Sub (.con (.int 0)) (.var 4)))] []),(.ret (.and (.cmp .GtE (.bif .abs [(.var 3)]) (.ix (.var 0) (.con (.int 1)))) (.not (.cmp2 .Lt .LtE (.con (.int 0)) (.var 4) (.ix (.var 0) (.con (.int 2)))))))],false⟩
noncomputable def j4:Fn:=⟨[true,false,false],0,[(.ifs (.cmp .Eq (.var 0) (.con (.str ("any":Str)))) [(.ret (.con (.bl true)))] []),(.ifs (.cmp .Eq (.var 0) (.con (.str ("aside":Str)))) [(.ret (.and (.cmp .In (.con (.int 0)) (.tup [(.var 1),(.var 2)])) (.cmp .NotEq (.var 1) (.var 2))))] []),(.ifs (.cmp .Eq (.var 0) (.con (.str ("like":Str)))) [(.ret (.or (.and (.cmp .Gt (.var 1) (.con (.int 0))) (.cmp .Gt (.var 2) (.con (.int 0)))) (.and (.cmp .Lt (.var 1) (.con (.int 0))) (.cmp .Lt (.var 2) (.con (.int 0))))))] []),(.ret (.or (.and (.cmp .Gt (.var 1) (.con (.int 0))) (.cmp .Lt (.var 2) (.con (.int 0)))) (.and (.cmp .Lt (.var 1) (.con (.int 0))) (.cmp .Gt (.var 2) (.con (.int 0))))))],false⟩
noncomputable def iA:Fn:=⟨[true,true,true,true,false,false],1,[(.ifs (.or (.cmp .Is (.ix (.var 3) (.var 4)) (.con .non)) (.cmp .Is (.ix (.var 3) (.var 5)) (.con .non))) [(.ret (.con (.bl false)))] []),(.asg 6 (.bin .Mod (.bif .abs [(.bin .Sub (.ix (.var 3) (.var 4)) (.ix (.var 3) (.var 5)))]) (.ix (.var 0) (.con (.int 2))))),(.ifs (.cmp .Eq (.ix (.var 1) (.con (.int 0))) (.con (.str ("span":Str)))) [(.ret (.cmp .Eq (.bin .Mod (.bin .FloorDiv (.ix (.var 1) (.con (.int 2))) (.bin .LShift (.con (.int 1)) (.var 6))) (.con (.int 2))) (.con (.int 0))))] []),(.ifs (.or (.cmp .Is (.ix (.var 2) (.var 4)) (.con .non)) (.or (.cmp .Is (.ix (.var 2) (.var 5)) (.con .non)) (.cmp .NotEq (.var 6) (.ix (.var 1) (.con (.int 2)))))) [(.ret (.con (.bl false)))] []),(.ifs (.cmp .NotEq (.bin .Mod (.bif .abs [(.bin .Sub (.ix (.var 2) (.var 4)) (.ix (.var 2) (.var 5)))]) (.ix (.var 0) (.con (.int 2)))) (.ix (.var 1) (.con (.int 1)))) [(.ret (.con (.bl false)))] []),(.ret (.call "L_moved_so" [(.ix (.var 1) (.con (.int 3))),(.bin .Sub (.ix (.var 3) (.var 4)) (.ix (.var 2) (.var 4))),(.bin .Sub (.ix (.var 3) (.var 5)) (.ix (.var 2) (.var 5)))]))],false⟩
noncomputable def dO:Fn:=⟨[true,true,true,false],7,[(.asg 4 (.call "L_heard" [(.var 0),(.var 2),(.var 3)])),(.ifs (.cmp .Eq (.ix (.var 1) (.con (.int 0))) (.con (.str ("range":Str)))) [(.ret (.comp mR [3] .rng [(.bif .len [(.var 4)])] [(.and (.cmp .IsNot (.ix (.var 0) (.var 3)) (.con .non)) (.not (.cmp2 .LtE .LtE (.ix (.var 1) (.con (.int 1))) (.ix (.var 0) (.var 3)) (.ix (.var 1) (.con (.int 2))))))] [4,1] 2))] []),(.ifs (.cmp .Eq (.ix (.var 1) (.con (.int 0))) (.con (.str ("above":Str)))) [(.asg 6 (.ix (.var 4) (.ix (.var 1) (.con (.int 1))))),(.asg 7 (.ix (.var 4) (.ix (.var 1) (.con (.int 2))))),(.ret (.bin .Mult (.lst [(.tup [(.ix (.var 1) (.con (.int 1))),(.ix (.var 1) (.con (.int 2)))])]) (.bif .int [(.and (.cmp .IsNot (.var 6) (.con .non)) (.and (.cmp .IsNot (.var 7) (.con .non)) (.cmp .Lt (.var 6) (.var 7))))])))] []),(.ifs (.cmp .In (.ix (.var 1) (.con (.int 0))) (.tup [(.con (.str ("leap":Str))),(.con (.str ("back":Str))),(.con (.str ("again":Str)))])) [(.ret (.bin .Mult (.lst [(.tup [])]) (.bif .int [(.call "L_by_line" [(.var 1),(.var 2),(.var 3)])])))] []),(.ifs (.or (.and (.cmp .Eq (.ix (.var 1) (.con (.int 0))) (.con (.str ("span":Str)))) (.cmp .NotEq (.bin .Mod (.var 3) (.ix (.var 0) (.con (.int 1)))) (.ix (.var 1) (.con (.int 1))))) (.and (.cmp .Eq (.ix (.var 1) (.con (.int 0))) (.con (.str ("never":Str)))) (.cmp .Eq (.var 3) (.con (.int 0))))) [(.ret (.lst []))] []),(.asg 8 (.call "L_heard" [(.var 0),(.var 2),(.bin .Sub (.var 3) (.con (.int 1)))])),(.asg 9 (.lst [])),(.for [5] true .rng [(.bif .len [(.var 4)])] gY),(.ret (.var 9))],false⟩
noncomputable def mH:Fn:=⟨[true],0,[(.ret (.bif .max [(.bin .Add (.lst [(.con (.int 3))]) (.comp mS [1] .of [(.ix (.var 0) (.con (.int 3)))] [] [] 2))]))],false⟩
noncomputable def nA:Fn:=⟨[true,true],2,[(.asg 2 (.call "L_memory" [(.var 0)])),(.asg 3 (.bif .len [(.var 1)])),(.ifs (.cmp .Gt (.var 3) (.var 2)) [(.asg 3 (.bin .Add (.var 2) (.bin .Mod (.bin .Sub (.var 3) (.var 2)) (.ix (.var 0) (.con (.int 1))))))] []),(.ret (.tup [(.var 3),(.bif .tuple [(.sl (.var 1) (.bif .max [(.con (.int 0)),(.bin .Sub (.bif .len [(.var 1)]) (.var 2))]) .omt)])]))],false⟩
noncomputable def k9:Fn:=⟨[true],0,[(.ret (.bin .Add (.bin .Mult (.lst [(.con (.int 0))]) (.bin .Sub (.ix (.var 0) (.con (.int 0))) (.bif .len [(.ix (.var 0) (.con (.int 1)))]))) (.bif .list [(.ix (.var 0) (.con (.int 1)))])))],false⟩
noncomputable def pG:Fn:=⟨[true,true],1,[(.for [2] true .of [(.ix (.var 0) (.con (.int 4)))] pS),(.ret (.con (.bl true)))],false⟩
noncomputable def o5:Fn:=⟨[true,true],3,[(.asg 2 (.lst [])),(.for [3] true .rng [(.ix (.var 0) (.con (.int 0)))] pO),(.ret (.var 2))],false⟩
noncomputable def gT:Fn:=⟨[true],3,[(.asgT [1,2,3] (.ix (.ix (.var 0) (.con (.int 3))) (.con (.int 0)))),(.ifs (.cmp .LtE (.bin .Add (.var 2) (.ix (.var 0) (.con (.int 2)))) (.con (.int 12))) [(.asg 2 (.bin .Add (.var 2) (.ix (.var 0) (.con (.int 2)))))] [(.ifs (.cmp .GtE (.bin .Sub (.var 2) (.ix (.var 0) (.con (.int 2)))) (.neg (.con (.int 12)))) [(.asg 2 (.bin .Sub (.var 2) (.ix (.var 0) (.con (.int 2)))))] [])]),(.ret (.bin .Add (.bin .Add (.sl (.var 0) .omt (.con (.int 3))) (.tup [(.bin .Add (.tup [(.tup [(.var 1),(.var 2),(.var 3)])]) (.sl (.ix (.var 0) (.con (.int 3))) (.con (.int 1)) .omt))])) (.sl (.var 0) (.con (.int 4)) .omt)))],false⟩
noncomputable def l5:Fn:=⟨[true,false],4,[(.asg 2 (.call "L_draw" [(.var 0),(.con (.int 7))])),(.asg 3 (.ix (.var 1) (.con (.int 4)))),(.ifs (.cmp .Eq (.var 2) (.con (.int 0))) [(.ret (.bin .Add (.sl (.var 1) .omt (.con (.int 4))) (.tup [(.rev (.var 3))])))] []),(.ifs (.and (.cmp .Eq (.var 2) (.con (.int 1))) (.cmp2 .Lt .Lt (.con (.int 0)) (.bif .len [(.var 3)]) (.con (.int 8)))) [(.ret (.bin .Add (.sl (.var 1) .omt (.con (.int 4))) (.tup [(.bin .Add (.var 3) (.tup [(.ix (.var 3) (.call "L_draw" [(.var 0),(.bif .len [(.var 3)])]))]))])))] []),(.ifs (.and (.cmp .Eq (.var 2) (.con (.int 2))) (.cmp .Gt (.bif .len [(.var 3)]) (.con (.int 0)))) [(.asg 4 (.call "L_draw" [(.var 0),(.bif .len [(.var 3)])])),(.ret (.bin .Add (.sl (.var 1) .omt (.con (.int 4))) (.tup [(.bin .Add (.sl (.var 3) .omt (.var 4)) (.sl (.var 3) (.bin .Add (.var 4) (.con (.int 1))) .omt))])))] []),(.ifs (.and (.cmp .Eq (.var 2) (.con (.int 3))) (.cmp .Gt (.bif .len [(.var 3)]) (.con (.int 0)))) [(.asg 4 (.call "L_draw" [(.var 0),(.bif .len [(.var 3)])])),(.asg 5 (.call "L_rule" [(.var 0),(.ix (.var 1) (.con (.int 0))),(.ix (.var 1) (.con (.int 1))),(.ix (.var 1) (.con (.int 2))),(.bif .len [(.ix (.var 1) (.con (.int 3)))])])),(.ret (.bin .Add (.sl (.var 1) .omt (.con (.int 4))) (.tup [(.bin .Add (.bin .Add (.sl (.var 3) .omt (.var 4)) (.tup [(.var 5)])) (.sl (.var 3) (.bin .Add (.var 4) (.con (.int 1))) .omt))])))] []),(.ifs (.cmp .Eq (.var 2) (.con (.int 4))) [(.ret (.bin .Add (.tup [(.ix (.var 1) (.con (.int 0)))]) (.sl (.call "L_house" [(.var 0)]) (.con (.int 1)) .omt)))] []),(.ifs (.cmp .Eq (.var 2) (.con (.int 5))) [(.ret (.call "L_moved_voice" [(.var 1)]))] []),(.ret (.var 1))],false⟩
noncomputable def nE:Fn:=⟨[true,true],10,[(.asg 2 (.tup [(.tup [(.con (.int 0)),(.tup [])]),(.tup [(.con (.int 0)),(.tup [])])])),(.asg 3 (.dict1 (.var 2) (.lst []))),(.asg 4 (.lst [(.var 2)])),(.asg 5 (.con .non)),(.asg 6 (.con (.int 0))),(.whl (.and (.cmp .Lt (.var 6) (.bif .len [(.var 4)])) (.cmp .LtE (.bif .len [(.var 3)]) (.con (.int 150)))) oJ),(.ret (.tup [(.var 3),(.var 5)]))],false⟩
noncomputable def jB:Fn:=⟨[true,true],2,[(.asg 2 (.call "L_memory" [(.var 1)])),(.asg 3 (.call "L_draw" [(.var 0),(.bin .Add (.var 2) (.ix (.var 1) (.con (.int 1))))])),(.ret (.tup [(.var 3),(.bif .tuple [(.comp kG [3] .rng [(.bif .min [(.var 3),(.var 2)])] [] [1,0] 2)])]))],false⟩
noncomputable def o4:Fn:=⟨[true,true,true,false],2,[(.asg 4 (.call "L_draw" [(.var 0),(.con (.int 8))])),(.asg 5 (.call "L_draw" [(.var 0),(.bif .len [(.var 3)])])),(.ifs (.cmp .Eq (.var 4) (.con (.int 0))) [(.ret (.bin .Add (.sl (.var 3) .omt (.var 5)) (.sl (.var 3) (.bin .Add (.var 5) (.con (.int 1))) .omt)))] []),(.ifs (.cmp .Eq (.var 4) (.con (.int 1))) [(.ret (.bin .Add (.var 3) (.lst [(.ix (.var 3) (.var 5))])))] []),(.ifs (.cmp .Eq (.var 4) (.con (.int 2))) [(.ret (.bin .Add (.var 3) (.lst [(.tup [(.call "L_any_stand" [(.var 0),(.var 1)]),(.call "L_any_stand" [(.var 0),(.var 2)])])])))] []),(.ifs (.cmp .Eq (.var 4) (.con (.int 3))) [(.ret (.bin .Add (.bin .Add (.sl (.var 3) .omt (.var 5)) (.lst [(.tup [(.call "L_any_stand" [(.var 0),(.var 1)]),(.ix (.ix (.var 3) (.var 5)) (.con (.int 1)))])])) (.sl (.var 3) (.bin .Add (.var 5) (.con (.int 1))) .omt)))] []),(.ifs (.cmp .Eq (.var 4) (.con (.int 4))) [(.ret (.bin .Add (.bin .Add (.sl (.var 3) .omt (.var 5)) (.lst [(.tup [(.ix (.ix (.var 3) (.var 5)) (.con (.int 0))),(.call "L_any_stand" [(.var 0),(.var 2)])])])) (.sl (.var 3) (.bin .Add (.var 5) (.con (.int 1))) .omt)))] []),(.ifs (.cmp .Eq (.var 4) (.con (.int 5))) [(.ret (.rev (.var 3)))] []),(.ret (.bif .list [(.var 3)]))],false⟩
noncomputable def rM:Fn:=⟨[true,true,false],5,[(.ifs (.cmp .NotIn (.tup [(.tup [(.con (.int 0)),(.tup [])]),(.tup [(.con (.int 0)),(.tup [])])]) (.var 2)) [(.ret (.con (.bl false)))] []),(.for [3,4] false .of [(.var 2)] nW),(.ret (.con (.bl true)))],false⟩
noncomputable def uV:Fn:=⟨[true],8,[(.asg 1 (.call "L_house" [(.call "L_pen" [(.var 0),(.con (.int 0))])])),(.asg 2 (.call "L_pen" [(.var 0),(.con (.int 1))])),(.asg 3 (.call "L_beside" [(.var 2),(.var 1)])),(.asg 4 (.sl (.bif .list [(.ix (.call "L_pairs" [(.var 1),(.var 3)]) (.con (.int 0)))]) .omt (.con (.int 40)))),(.for [5] true .rng [(.con (.int 3))] yA),(.ret (.cmp .Is (.call "shows_alike" [(.var 1),(.var 3),(.lst [])]) (.con (.bl false))))],false⟩
noncomputable def TL:List (String×Fn):=[("is_whole",mD),("is_within",lA),("pitch",r9),("singer",oV),("sung",vZ),("span",vW),("chord",sE),("sounding_pairs",fZ),("move_so",nR),("Span.broken",jD),("Span.forbids",iT),("Leap.broken",jI),("Back.broken",jG),("Again.broken",iQ),("Range.broken",iL),("Range.forbids",gP),("Above.broken",iK),("Never.broken",iR),("rule_of",d9),("rules_of",mK),("breaks_at",k8),("memory",pM),("turn_of",nT),("stand_of",mC),("is_tail",nQ),("is_stand",mL),("line_to",nN),("nexts",sD),("behind",pA),("pair_behind",jA),("first_apart",jC),("is_pair",nM),("leads_into",j8),("shows_alike",jJ),("L_pen",sC),("L_draw",pC),("L_rule",pH),("L_house",nV),("L_heard",nP),("L_by_line",f6),("L_moved_so",j4),("L_bad_pair",iA),("L_broken",dO),("L_memory",mH),("L_stand",nA),("L_as_line",k9),("L_free",pG),("L_ways",o5),("L_moved_voice",gT),("L_beside",l5),("L_pairs",nE),("L_any_stand",jB),("L_bent",o4),("L_due",rM),("law",uV)]
noncomputable def T:tX:=λf=>TL.lookup f
theorem LF:T "is_whole"=some mD:=rfl
theorem MQ:T.pins "is_whole"=[true]:=rfl
theorem IT:T "is_within"=some lA:=rfl
theorem IJ:T.pins "is_within"=[true,true,true]:=rfl
theorem aAq:T "pitch"=some r9:=rfl
theorem aBd:T.pins "pitch"=[true,true]:=rfl
theorem VZ:T "singer"=some oV:=rfl
theorem RR:T.pins "singer"=[true,true]:=rfl
theorem aCr:T "sung"=some vZ:=rfl
theorem aCz:T.pins "sung"=[true,true,true,true]:=rfl
theorem aBX:T "span"=some vW:=rfl
theorem aEE:T.pins "span"=[true,true,true]:=rfl
theorem ZW:T "chord"=some sE:=rfl
theorem ZS:T.pins "chord"=[true,true,true]:=rfl
theorem xN:T "sounding_pairs"=some fZ:=rfl
theorem xX:T.pins "sounding_pairs"=[true]:=rfl
theorem Q6:T "move_so"=some nR:=rfl
theorem NH:T.pins "move_so"=[true,true,true]:=rfl
theorem DE:T "Span.broken"=some jD:=rfl
theorem C8:T.pins "Span.broken"=[true,true,true,true]:=rfl
theorem A8:T "Span.forbids"=some iT:=rfl
theorem AO:T.pins "Span.forbids"=[true,true]:=rfl
theorem DN:T "Leap.broken"=some jI:=rfl
theorem DJ:T.pins "Leap.broken"=[true,true,true,false]:=rfl
theorem C5:T "Back.broken"=some jG:=rfl
theorem CY:T.pins "Back.broken"=[true,true,true,false]:=rfl
theorem BJ:T "Again.broken"=some iQ:=rfl
theorem A3:T.pins "Again.broken"=[true,true,true,false]:=rfl
theorem A4:T "Range.broken"=some iL:=rfl
theorem BK:T.pins "Range.broken"=[true,true,true,true]:=rfl
theorem y8:T "Range.forbids"=some gP:=rfl
theorem zX:T.pins "Range.forbids"=[true,true]:=rfl
theorem AG:T "Above.broken"=some iK:=rfl
theorem AU:T.pins "Above.broken"=[true,true,true,true]:=rfl
theorem AD:T "Never.broken"=some iR:=rfl
theorem A1:T.pins "Never.broken"=[true,true,true,true]:=rfl
theorem iX:T "rule_of"=some d9:=rfl
theorem OQ:T.pins "rule_of"=[true]:=rfl
theorem LA:T "rules_of"=some mK:=rfl
theorem LM:T.pins "rules_of"=[true]:=rfl
theorem II:T "breaks_at"=some k8:=rfl
theorem IU:T.pins "breaks_at"=[true,true,true,false]:=rfl
theorem UG:T "memory"=some pM:=rfl
theorem TF:T.pins "memory"=[true]:=rfl
theorem OT:T "turn_of"=some nT:=rfl
theorem PV:T.pins "turn_of"=[true,false]:=rfl
theorem MB:T "stand_of"=some mC:=rfl
theorem MW:T.pins "stand_of"=[true,true]:=rfl
theorem P2:T "is_tail"=some nQ:=rfl
theorem NF:T.pins "is_tail"=[true,true,true]:=rfl
theorem K3:T "is_stand"=some mL:=rfl
theorem LX:T.pins "is_stand"=[true,true]:=rfl
theorem O3:T "line_to"=some nN:=rfl
theorem P5:T.pins "line_to"=[true]:=rfl
theorem aA1:T "nexts"=some sD:=rfl
theorem YM:T.pins "nexts"=[true,true]:=rfl
theorem RG:T "behind"=some pA:=rfl
theorem VS:T.pins "behind"=[true,true,false]:=rfl
theorem DF:T "pair_behind"=some jA:=rfl
theorem DI:T.pins "pair_behind"=[true,true,true,false]:=rfl
theorem DB:T "first_apart"=some jC:=rfl
theorem C4:T.pins "first_apart"=[true,true,true]:=rfl
theorem Q4:T "is_pair"=some nM:=rfl
theorem PB:T.pins "is_pair"=[true,true,true]:=rfl
theorem EZ:T "leads_into"=some j8:=rfl
theorem EF:T.pins "leads_into"=[true,true,true,true]:=rfl
theorem DL:T "shows_alike"=some jJ:=rfl
theorem C7:T.pins "shows_alike"=[true,true,true]:=rfl
theorem aAI:T "L_pen"=some sC:=rfl
theorem aAO:T.pins "L_pen"=[true,false]:=rfl
theorem VY:T "L_draw"=some pC:=rfl
theorem S4:T.pins "L_draw"=[true,true]:=rfl
theorem RK:T "L_rule"=some pH:=rfl
theorem SE:T.pins "L_rule"=[true,true,true,true,true]:=rfl
theorem PM:T "L_house"=some nV:=rfl
theorem N6:T.pins "L_house"=[true]:=rfl
theorem NV:T "L_heard"=some nP:=rfl
theorem QZ:T.pins "L_heard"=[true,true,true]:=rfl
theorem pN:T "L_by_line"=some f6:=rfl
theorem HN:T.pins "L_by_line"=[true,true,false]:=rfl
theorem E4:T "L_moved_so"=some j4:=rfl
theorem FV:T.pins "L_moved_so"=[true,false,false]:=rfl
theorem uX:T "L_bad_pair"=some iA:=rfl
theorem FO:T.pins "L_bad_pair"=[true,true,true,true,false,false]:=rfl
theorem gW:T "L_broken"=some dO:=rfl
theorem M5:T.pins "L_broken"=[true,true,true,false]:=rfl
theorem LG:T "L_memory"=some mH:=rfl
theorem M4:T.pins "L_memory"=[true]:=rfl
theorem Q3:T "L_stand"=some nA:=rfl
theorem ON:T.pins "L_stand"=[true,true]:=rfl
theorem HL:T "L_as_line"=some k9:=rfl
theorem HU:T.pins "L_as_line"=[true]:=rfl
theorem SD:T "L_free"=some pG:=rfl
theorem RC:T.pins "L_free"=[true,true]:=rfl
theorem T7:T "L_ways"=some o5:=rfl
theorem RL:T.pins "L_ways"=[true,true]:=rfl
theorem yM:T "L_moved_voice"=some gT:=rfl
theorem zM:T.pins "L_moved_voice"=[true]:=rfl
theorem K1:T "L_beside"=some l5:=rfl
theorem MR:T.pins "L_beside"=[true,false]:=rfl
theorem OY:T "L_pairs"=some nE:=rfl
theorem NG:T.pins "L_pairs"=[true,true]:=rfl
theorem C1:T "L_any_stand"=some jB:=rfl
theorem C6:T.pins "L_any_stand"=[true,true]:=rfl
theorem VU:T "L_bent"=some o4:=rfl
theorem UJ:T.pins "L_bent"=[true,true,true,false]:=rfl
theorem aAi:T "L_due"=some rM:=rfl
theorem aAD:T.pins "L_due"=[true,true,false]:=rfl
theorem XM:T "law"=some uV:=rfl
def VM:IniOk (m8 24 0) "Span.__init__" ["beat","spans"]:=GP rfl rfl rfl (by decide +kernel) (by kernel_rfl) (mN rfl λ_ _ _ _ _ _ _ _ _=>rfl)
def fN{d0 d1:D}:kA (some (.ins "Span" ["beat","spans"] [d0,d1])) "beat"=some (.sh d0):=(rfl)
def eZ{d0 d1:D}:kA (some (.ins "Span" ["beat","spans"] [d0,d1])) "spans"=some (.sh d1):=(rfl)
def R7:IniOk (m8 25 0) "Leap.__init__" ["most"]:=GP rfl rfl rfl (by decide +kernel) (by kernel_rfl) (lN rfl λ_ _ _ _ _ _ _ _=>rfl)
def mU{d0:D}:kA (some (.ins "Leap" ["most"] [d0])) "most"=some (.sh d0):=(rfl)
def SN:IniOk (m8 26 0) "Back.__init__" ["leap","most"]:=GP rfl rfl rfl (by decide +kernel) (by kernel_rfl) (mN rfl λ_ _ _ _ _ _ _ _ _=>rfl)
def fL{d0 d1:D}:kA (some (.ins "Back" ["leap","most"] [d0,d1])) "leap"=some (.sh d0):=(rfl)
def fM{d0 d1:D}:kA (some (.ins "Back" ["leap","most"] [d0,d1])) "most"=some (.sh d1):=(rfl)
def OM:IniOk (m8 27 0) "Again.__init__" ["most"]:=GP rfl rfl rfl (by decide +kernel) (by kernel_rfl) (lN rfl λ_ _ _ _ _ _ _ _=>rfl)
def fA{d0:D}:kA (some (.ins "Again" ["most"] [d0])) "most"=some (.sh d0):=(rfl)
def PX:IniOk (m8 28 0) "Range.__init__" ["low","high"]:=GP rfl rfl rfl (by decide +kernel) (by kernel_rfl) (mN rfl λ_ _ _ _ _ _ _ _ _=>rfl)
def mV{d0 d1:D}:kA (some (.ins "Range" ["low","high"] [d0,d1])) "low"=some (.sh d0):=(rfl)
def lU{d0 d1:D}:kA (some (.ins "Range" ["low","high"] [d0,d1])) "high"=some (.sh d1):=(rfl)
def QU:IniOk (m8 29 0) "Above.__init__" ["one","other"]:=GP rfl rfl rfl (by decide +kernel) (by kernel_rfl) (mN rfl λ_ _ _ _ _ _ _ _ _=>rfl)
def j7{d0 d1:D}:kA (some (.ins "Above" ["one","other"] [d0,d1])) "one"=some (.sh d0):=(rfl)
def iS{d0 d1:D}:kA (some (.ins "Above" ["one","other"] [d0,d1])) "other"=some (.sh d1):=(rfl)
def OK:IniOk (m8 30 0) "Never.__init__" ["one","other","way"]:=GP rfl rfl rfl (by decide +kernel) (by kernel_rfl) (pL rfl λ_ _ _ _ _ _ _ _ _ _=>rfl)
def gX{d0 d1 d2:D}:kA (some (.ins "Never" ["one","other","way"] [d0,d1,d2])) "one"=some (.sh d0):=(rfl)
def fR{d0 d1 d2:D}:kA (some (.ins "Never" ["one","other","way"] [d0,d1,d2])) "other"=some (.sh d1):=(rfl)
def hE{d0 d1 d2:D}:kA (some (.ins "Never" ["one","other","way"] [d0,d1,d2])) "way"=some (.sh d2):=(rfl)
def AJ:gR "Span" ["beat","spans"] "broken" eJ=some "Span.broken":=by decide +kernel
def A0:gR "Leap" ["most"] "broken" eJ=some "Leap.broken":=by decide +kernel
def AQ:gR "Back" ["leap","most"] "broken" eJ=some "Back.broken":=by decide +kernel
def yH:gR "Again" ["most"] "broken" eJ=some "Again.broken":=by decide +kernel
def z7:gR "Range" ["low","high"] "broken" eJ=some "Range.broken":=by decide +kernel
def z8:gR "Above" ["one","other"] "broken" eJ=some "Above.broken":=by decide +kernel
def zQ:gR "Never" ["one","other","way"] "broken" eJ=some "Never.broken":=by decide +kernel
def fT:gR "Span" ["beat","spans"] "forbids" fO=some "Span.forbids":=by decide +kernel
def gM:gR "Range" ["low","high"] "forbids" fO=some "Range.forbids":=by decide +kernel
def IK:bK (bE L) (top 11) "is_whole" mD:=cH rfl rfl rfl (by decide +kernel) (by kernel_rfl) (uQ rfl λ_ _ _ _ _ _ _=>rfl)
def GO:bK (bE L) (top 12) "is_within" lA:=cH rfl rfl rfl (by decide +kernel) (by kernel_rfl) (mN rfl λ_ _ _ _ _ _ _ _ _=>rfl)
def R5:bK (bE L) (top 14) "pitch" r9:=cH rfl rfl rfl (by decide +kernel) (by kernel_rfl) (lN rfl λ_ _ _ _ _ _ _ _=>rfl)
def QK:bK (bE L) (top 15) "singer" oV:=cH rfl rfl rfl (by decide +kernel) (by kernel_rfl) (lN rfl λ_ _ _ _ _ _ _ _=>rfl)
def ZO:bK (bE L) (top 16) "sung" vZ:=cH rfl rfl rfl (by decide +kernel) (by kernel_rfl) (pL rfl λ_ _ _ _ _ _ _ _ _ _=>rfl)
def aAC:bK (bE L) (top 17) "span" vW:=cH rfl rfl rfl (by decide +kernel) (by kernel_rfl) (mN rfl λ_ _ _ _ _ _ _ _ _=>rfl)
def VL:bK (bE L) (top 18) "chord" sE:=cH rfl rfl rfl (by decide +kernel) (by kernel_rfl) (mN rfl λ_ _ _ _ _ _ _ _ _=>rfl)
def wG:bK (bE L) (top 21) "sounding_pairs" fZ:=cH rfl rfl rfl (by decide +kernel) (by kernel_rfl) (uQ rfl λ_ _ _ _ _ _ _=>rfl)
def L9:bK (bE L) (top 22) "move_so" nR:=cH rfl rfl rfl (by decide +kernel) (by kernel_rfl) (mN rfl λ_ _ _ _ _ _ _ _ _=>rfl)
def AM:DefOkQ (bE L) (m8 24 1) "broken" "Span.broken" jD:=cH rfl rfl rfl (by decide +kernel) (by kernel_rfl) (pL rfl λ_ _ _ _ _ _ _ _ _ _=>rfl)
def yP:DefOkQ (bE L) (m8 24 2) "forbids" "Span.forbids" iT:=cH rfl rfl rfl (by decide +kernel) (by kernel_rfl) (lN rfl λ_ _ _ _ _ _ _ _=>rfl)
def AA:DefOkQ (bE L) (m8 25 1) "broken" "Leap.broken" jI:=cH rfl rfl rfl (by decide +kernel) (by kernel_rfl) (pL rfl λ_ _ _ _ _ _ _ _ _ _=>rfl)
def A5:DefOkQ (bE L) (m8 26 1) "broken" "Back.broken" jG:=cH rfl rfl rfl (by decide +kernel) (by kernel_rfl) (pL rfl λ_ _ _ _ _ _ _ _ _ _=>rfl)
def zB:DefOkQ (bE L) (m8 27 1) "broken" "Again.broken" iQ:=cH rfl rfl rfl (by decide +kernel) (by kernel_rfl) (pL rfl λ_ _ _ _ _ _ _ _ _ _=>rfl)
def zI:DefOkQ (bE L) (m8 28 1) "broken" "Range.broken" iL:=cH rfl rfl rfl (by decide +kernel) (by kernel_rfl) (pL rfl λ_ _ _ _ _ _ _ _ _ _=>rfl)
def x8:DefOkQ (bE L) (m8 28 2) "forbids" "Range.forbids" gP:=cH rfl rfl rfl (by decide +kernel) (by kernel_rfl) (lN rfl λ_ _ _ _ _ _ _ _=>rfl)
def yL:DefOkQ (bE L) (m8 29 1) "broken" "Above.broken" iK:=cH rfl rfl rfl (by decide +kernel) (by kernel_rfl) (pL rfl λ_ _ _ _ _ _ _ _ _ _=>rfl)
def zN:DefOkQ (bE L) (m8 30 1) "broken" "Never.broken" iR:=cH rfl rfl rfl (by decide +kernel) (by kernel_rfl) (pL rfl λ_ _ _ _ _ _ _ _ _ _=>rfl)
def KY:bK (bE L) (top 31) "rule_of" d9:=cH rfl rfl rfl (by decide +kernel) (by kernel_rfl) (uQ rfl λ_ _ _ _ _ _ _=>rfl)
def HW:bK (bE L) (top 33) "rules_of" mK:=cH rfl rfl rfl (by decide +kernel) (by kernel_rfl) (uQ rfl λ_ _ _ _ _ _ _=>rfl)
def EH:bK (bE L) (top 34) "breaks_at" k8:=cH rfl rfl rfl (by decide +kernel) (by kernel_rfl) (pL rfl λ_ _ _ _ _ _ _ _ _ _=>rfl)
def N5:bK (bE L) (top 39) "memory" pM:=cH rfl rfl rfl (by decide +kernel) (by kernel_rfl) (uQ rfl λ_ _ _ _ _ _ _=>rfl)
def MP:bK (bE L) (top 40) "turn_of" nT:=cH rfl rfl rfl (by decide +kernel) (by kernel_rfl) (lN rfl λ_ _ _ _ _ _ _ _=>rfl)
def HQ:bK (bE L) (top 41) "stand_of" mC:=cH rfl rfl rfl (by decide +kernel) (by kernel_rfl) (lN rfl λ_ _ _ _ _ _ _ _=>rfl)
def MF:bK (bE L) (top 42) "is_tail" nQ:=cH rfl rfl rfl (by decide +kernel) (by kernel_rfl) (mN rfl λ_ _ _ _ _ _ _ _ _=>rfl)
def IS:bK (bE L) (top 43) "is_stand" mL:=cH rfl rfl rfl (by decide +kernel) (by kernel_rfl) (lN rfl λ_ _ _ _ _ _ _ _=>rfl)
def MZ:bK (bE L) (top 44) "line_to" nN:=cH rfl rfl rfl (by decide +kernel) (by kernel_rfl) (uQ rfl λ_ _ _ _ _ _ _=>rfl)
def T5:bK (bE L) (top 45) "nexts" sD:=cH rfl rfl rfl (by decide +kernel) (by kernel_rfl) (lN rfl λ_ _ _ _ _ _ _ _=>rfl)
def O6:bK (bE L) (top 46) "behind" pA:=cH rfl rfl rfl (by decide +kernel) (by kernel_rfl) (mN rfl λ_ _ _ _ _ _ _ _ _=>rfl)
def AL:bK (bE L) (top 49) "pair_behind" jA:=cH rfl rfl rfl (by decide +kernel) (by kernel_rfl) (pL rfl λ_ _ _ _ _ _ _ _ _ _=>rfl)
def AW:bK (bE L) (top 50) "first_apart" jC:=cH rfl rfl rfl (by decide +kernel) (by kernel_rfl) (mN rfl λ_ _ _ _ _ _ _ _ _=>rfl)
def K0:bK (bE L) (top 51) "is_pair" nM:=cH rfl rfl rfl (by decide +kernel) (by kernel_rfl) (mN rfl λ_ _ _ _ _ _ _ _ _=>rfl)
def DC:bK (bE L) (top 52) "leads_into" j8:=cH rfl rfl rfl (by decide +kernel) (by kernel_rfl) (pL rfl λ_ _ _ _ _ _ _ _ _ _=>rfl)
def A9:bK (bE L) (top 53) "shows_alike" jJ:=cH rfl rfl rfl (by decide +kernel) (by kernel_rfl) (mN rfl λ_ _ _ _ _ _ _ _ _=>rfl)
def U5:bK (bE L) (top 55) "_law_pen" sC:=cH rfl rfl rfl (by decide +kernel) (by kernel_rfl) (lN rfl λ_ _ _ _ _ _ _ _=>rfl)
def NT:bK (bE L) (top 56) "_law_draw" pC:=cH rfl rfl rfl (by decide +kernel) (by kernel_rfl) (lN rfl λ_ _ _ _ _ _ _ _=>rfl)
def QQ:bK (bE L) (top 57) "_law_rule" pH:=cH rfl rfl rfl (by decide +kernel) (by kernel_rfl) (bn5 rfl λ_ _ _ _ _ _ _ _ _ _ _=>rfl)
def L4:bK (bE L) (top 58) "_law_house" nV:=cH rfl rfl rfl (by decide +kernel) (by kernel_rfl) (uQ rfl λ_ _ _ _ _ _ _=>rfl)
def L6:bK (bE L) (top 59) "_law_heard" nP:=cH rfl rfl rfl (by decide +kernel) (by kernel_rfl) (mN rfl λ_ _ _ _ _ _ _ _ _=>rfl)
def HE:bK (bE L) (top 60) "_law_by_line" f6:=cH rfl rfl rfl (by decide +kernel) (by kernel_rfl) (mN rfl λ_ _ _ _ _ _ _ _ _=>rfl)
def CW:bK (bE L) (top 61) "_law_moved_so" j4:=cH rfl rfl rfl (by decide +kernel) (by kernel_rfl) (mN rfl λ_ _ _ _ _ _ _ _ _=>rfl)
def DA:bK (bE L) (top 62) "_law_bad_pair" iA:=cH rfl rfl rfl (by decide +kernel) (by kernel_rfl) (bn6 rfl λ_ _ _ _ _ _ _ _ _ _ _ _=>rfl)
def IL:bK (bE L) (top 63) "_law_broken" dO:=cH rfl rfl rfl (by decide +kernel) (by kernel_rfl) (pL rfl λ_ _ _ _ _ _ _ _ _ _=>rfl)
def IF:bK (bE L) (top 64) "_law_memory" mH:=cH rfl rfl rfl (by decide +kernel) (by kernel_rfl) (uQ rfl λ_ _ _ _ _ _ _=>rfl)
def M0:bK (bE L) (top 65) "_law_stand" nA:=cH rfl rfl rfl (by decide +kernel) (by kernel_rfl) (lN rfl λ_ _ _ _ _ _ _ _=>rfl)
def FF:bK (bE L) (top 66) "_law_as_line" k9:=cH rfl rfl rfl (by decide +kernel) (by kernel_rfl) (uQ rfl λ_ _ _ _ _ _ _=>rfl)
def NU:bK (bE L) (top 67) "_law_free" pG:=cH rfl rfl rfl (by decide +kernel) (by kernel_rfl) (lN rfl λ_ _ _ _ _ _ _ _=>rfl)
def P7:bK (bE L) (top 68) "_law_ways" o5:=cH rfl rfl rfl (by decide +kernel) (by kernel_rfl) (lN rfl λ_ _ _ _ _ _ _ _=>rfl)
def x9:bK (bE L) (top 69) "_law_moved_voice" gT:=cH rfl rfl rfl (by decide +kernel) (by kernel_rfl) (uQ rfl λ_ _ _ _ _ _ _=>rfl)
def IV:bK (bE L) (top 70) "_law_beside" l5:=cH rfl rfl rfl (by decide +kernel) (by kernel_rfl) (lN rfl λ_ _ _ _ _ _ _ _=>rfl)
def KU:bK (bE L) (top 71) "_law_pairs" nE:=cH rfl rfl rfl (by decide +kernel) (by kernel_rfl) (lN rfl λ_ _ _ _ _ _ _ _=>rfl)
def AN:bK (bE L) (top 72) "_law_any_stand" jB:=cH rfl rfl rfl (by decide +kernel) (by kernel_rfl) (lN rfl λ_ _ _ _ _ _ _ _=>rfl)
def QT:bK (bE L) (top 73) "_law_bent" o4:=cH rfl rfl rfl (by decide +kernel) (by kernel_rfl) (pL rfl λ_ _ _ _ _ _ _ _ _ _=>rfl)
def U7:bK (bE L) (top 74) "_law_due" rM:=cH rfl rfl rfl (by decide +kernel) (by kernel_rfl) (mN rfl λ_ _ _ _ _ _ _ _ _=>rfl)
def QE:bK (bE L) (top 75) "law" uV:=cH rfl rfl rfl (by decide +kernel) (by kernel_rfl) (uQ rfl λ_ _ _ _ _ _ _=>rfl)
end Tx
namespace Mx
open CI Tx
noncomputable def cI(f:Int×Int×Bool):D:=.tup [.int f.1,.int f.2.1,.bl f.2.2]
noncomputable def aA(no ba oc:Int)(fs:List (Int×Int×Bool))(rs:List D):D:=.tup [.int no,.int ba,.int oc,.tup (fs.map cI),.tup rs]
theorem aIf:d6 (some (aA no ba oc fs rs)) (.int 0)=some (.sh (.int no)):=rfl
theorem aH3:d6 (some (aA no ba oc fs rs)) (.int 1)=some (.sh (.int ba)):=rfl
theorem aHY:d6 (some (aA no ba oc fs rs)) (.int 2)=some (.sh (.int oc)):=rfl
theorem aH2:d6 (some (aA no ba oc fs rs)) (.int 3)=some (.sh (.tup (fs.map cI))):=rfl
theorem aIr:d6 (some (aA no ba oc fs rs)) (.int 4)=some (.sh (.tup rs)):=rfl
abbrev rg(n:Nat):List D:=(List.range n).map λ(j:Nat)=>D.int (j:Int)
abbrev _root_.CI.Sl.o(d:D):Sl:=.ow d false false
abbrev _root_.CI.Sl.p(d:D):Sl:=.ow d true false
local macro_rules|`(~~~$x)=>`(CI.Sl.ow (.lst (($x).map CI.D.int)) true false)
set_option compiler.extract_closed false
local macro_rules | `(tactic| walk_at $s:str) => do if !s.getString.startsWith "!" then Lean.Macro.throwUnsupported else `(tactic| simp only[$[$((("aGj aEX mJ WS aAF QD aHs aHU aIb aHI aB3 aAA UI aHf aHb aEo aEx RM aA0 YB aDs aFi aHE aHy aIp aIu aH1 aHj aE2 aGD aCb aEi ZU aBk ZH RJ TM T4 TX aFM aDG YV aA5 Z9 ZE YA aAy aAd aAu SQ XZ aCj aDp TC Y9 YL TQ NM aDk aCo aCd aDP aDM aBF aCm aGi aGK aD4 aD0 aE9 aGs aB0 aF0 aE3 oZ oQ aFO aCO aBZ ZL aCa YQ X2 aFT aGm aCB aD5 aEa aFG aGv aFf aF4 YU aHW aHX aIq aIn aFL aFw aFW aGw aGl aFc aF9 aHM aC5 aFq aDJ aEs aF1 aEb aFV aGF aF3 aEg aEF aHJ aHN aIt aHZ aFZ aGE aGJ aAk aEJ aA7 aBe YS Z4 aGI aDq aAV aE1 aGB aF7 aH6 aDQ aFQ aDE YY aDT XN aAs aEP aHB aGa aBD aAa aDI aB1 aFJ aBY aCZ aIk YI aCH aBs aGy aDB YE aBf aEq aF2 aGd aFu aEQ MG LS HJ FP aC1 aGo aEt aBn aFd RY aFm aBJ W5 aAU YC X5 aZ aAz aDS aCU aDK Z0 zT BH F8 BL VB aDY aD3 aDV aC6 aEH aCI aAG Z7 ZR aFs aAf aDZ aDX aBU aES aEr aDc aEY aFz aAj aBx aAc aE0 aDD aFb aFC aCy aCN YX fE X6 ZC wF YD OZ OJ RT T8 aBj ZT SJ S5 aH4 YH X3 aCi aFn aBv aBa aAo X8 aAL aEK aCx aFR X1 aAS aEZ aGA zg0 zg1 zs0 zs1 zb zm zi zc zn zr0 zr1 zl0 zl1 znt znf zko zks zkn YJ aBy aGn aEI aB5 QI aFK aDL aDv aBo aIg aFH RW RO VE aBA aHQ aHK aHh aAX SR MQ IJ aBd RR aCz aEE ZS xX NH AO zX OQ LM IU TF PV MW NF LX P5 YM VS DI C4 PB EF C7 aAO S4 SE N6 QZ HN FV FO M5 M4 ON HU RC RL zM MR NG C6 UJ aAD if_true if_false Bool.false_eq_true decide_true decide_false Bool.true_eq_false not_true_eq_false not_false_eq_true and_self and_true true_and or_true true_or Za reduceIte Int.reduceLT Int.reduceLE Int.reduceGT Int.reduceNeg Nat.reduceAdd Nat.reduceLT Nat.reduceLeDiff Int.reduceEq Int.reduceNe Nat.reduceBEq Zs List.map_nil Zj List.all_nil Bool.and_true Bool.true_and Bool.false_and Bool.and_false List.length_nil Zk beq_self_eq_true i7 aBS aEW aIf aH3 aHY aH2 aIr".splitOn " ")++(((s.getString.drop 1).toString.replace "%" "List.length_map").replace "&" "Bool.or_false Bool.false_or Bool.or_true Bool.true_or" |>.splitOn " ")).filter (· ≠ "") |>.toArray.map λx => Lean.mkIdent x.toName):term],*, *])
theorem eM:type_of% (And.intro @zT (And.intro @W5 (And.intro @List.getElem?_cons_zero.{0} (And.intro @List.getElem?_cons_succ.{0} (And.intro @List.set_cons_zero.{0} (And.intro @List.set_cons_succ.{0} (And.intro @BH (And.intro @BL (And.intro @F8 @VB))))))))):=(And.intro @zT (And.intro @W5 (And.intro @List.getElem?_cons_zero.{0} (And.intro @List.getElem?_cons_succ.{0} (And.intro @List.set_cons_zero.{0} (And.intro @List.set_cons_succ.{0} (And.intro @BH (And.intro @BL (And.intro @F8 @VB)))))))))
noncomputable def aH(k s m:Int):Int:=if k=0 then s / m else(s*69621+7) % 2147483629
noncomputable def aS(k s m:Int):Int:=if k=0 then s % m else((((s*69621+7) % 2147483629) % 65521*40503+((s*69621+7) % 2147483629) / 65521+1)*16807 % 2147483647) / 13 % m
def aI{W n:Nat}{k s m:Int}(h1:0<m)(h2:m<nofun):run T W (n+1) "L_draw" [.p (.lst [.int k,.int s]),.sh (.int m)]=some (.ok (.sh (.int (aS k s m))),[.p (.lst [.int k,.int (aH k s m)]),.sh (.int m)]):=by
 rw[a8 VY rfl rfl];unfold pC;by_cases hk:k=0
 ·subst hk;unfold aH aS
  walk_at "!"
 ·unfold aH aS
  walk_at "!"
def bH(h:0<m):0<=aS k s m:=by unfold aS;split<;>exact Int.emod_nonneg _ (by omega)
def bJ(h:0<m):aS k s m<m:=by unfold aS;split<;>exact Int.emod_lt_of_pos _ h
def vL{n:Nat}:gG .all [.lst (List.replicate n (.bl true))]=some (.sh (.bl true)):=by
 have h:eD (List.replicate n (.bl true))=some (List.replicate n true):=by
  induction n with
  |zero=>rfl
  |succ n ih=>simp[List.replicate_succ,eD,ih]
 show(eD _).map _=_;rw[h];simp
mutual
theorem SS:∀(n:Nat) (d:D),bF n d=true->dH d d=true
 |_,.non,_=>by simp[dH]
 |_,.bl _,_=>by simp[dH]
 |_,.int _,_=>by simp[dH]
 |_,.str _,_=>by simp[dH]
 | 0,.tup _,h=>by simp[bF] at h
 | 0,.lst _,h=>by simp[bF] at h
 |n+1,.tup ds,h=>by simp only[bF] at h;simp only[dH];exact uS n ds h
 |n+1,.lst ds,h=>by simp only[bF] at h;simp only[dH];exact uS n ds h
 |_,.ins _ _ _,h=>by simp[bF] at h
 |_,.dcs _ _,h=>by simp[bF] at h
 |_,.dci _ _,h=>by simp[bF] at h
theorem uS:∀(n:Nat) (ds:List D),ds.all (bF n)=true->iD ds ds=true
 |_,[],_=>by simp[iD]
 |n,d::ds,h=>by(simp only[Zj,ZB] at h;simp only[iD,SS n d h.1,uS n ds h.2,Bool.and_self])
end
noncomputable def aE(tss:List (List Int)):List D:=tss.map λis=>.tup (is.map D.int)
def R3(tss:List (List Int)):bF (n+2) (.lst (aE tss))=true:=by
 simp[bF,aE]
noncomputable def gA(ns:List Int)(k:Nat):Int×Int :=
 if k<ns.length/\ns.headD 0 % 2=0 then(0,ns.getD k 0)
 else(1,((if 0<ns.length then ns.getD (k % ns.length) 0 % 2147483587+48611*((k / ns.length:Nat):Int)+3*(k:Int) else 30011*(k:Int)+7)*48271+11*(k:Int)+1) % 2147483647)
def zA{ns:List Int}(h:k<ns.length):L2.cV (ns.map D.int) (k:Int)=some (.int (ns.getD k 0)):=by
 apply L2.lV
 rw[Zh,Zb h];simp[h]
def yB{k:Nat}(hn:ns.length<=63)(hk:k<=100000):run T W (n+1) "L_pen" [.sh (.lst (ns.map .int)),.sh (.int k)]=some (.ok (.ow (.lst [.int (gA ns k).1,.int (gA ns k).2])),[.sh (.lst (ns.map .int)),.sh (.int k)]):=by
 rw[a8 aAI rfl rfl];unfold sC;by_cases h0:ns=[]
 ·subst h0;have hb:decide ((k:Int)<((0:Nat):Int))=false:=Zm (by omega);have hb':decide (((0:Nat):Int) > 0)=false:=rfl;have hb2:decide (0<((0:Nat):Int))=false:=rfl;have hb3:decide ((k:Int)<0)=false:=Zm (by omega)
  have ev:gA [] k=(1,((30011*(k:Int)+7)*48271+11*(k:Int)+1) % 2147483647):=by(unfold gA;rw[Zp (by simp),Zp (by simp)])
  walk_at "!%"
 ·have hpos:0<ns.length:=List.length_pos_iff.mpr h0;have hb2:decide (0<(ns.length:Int))=true:=Zn (by omega)
  have e0:(ns.map D.int)[0]?=some (.int (ns.headD 0)):=by cases ns with | nil=>exact absurd rfl h0 | cons a r=>rfl
  have e1:(0:Int)<(ns.length:Int):=by omega
  have e2:(ns.length:Int)<nofun:=by omega
  have e3:(k:Int) / (ns.length:Int)=((k / ns.length:Nat):Int):=by rw[Int.natCast_ediv]
  have e4:(k:Int) % (ns.length:Int)=((k % ns.length:Nat):Int):=by rw[Int.natCast_emod]
  have e5:=zA (k:=k % ns.length) (Nat.mod_lt _ hpos);by_cases hk2:k<ns.length
  ·have hb:decide ((k:Int)<(ns.length:Int))=true:=Zn (by omega);have e6:=zA hk2;by_cases hm:ns.headD 0 % 2=0
   ·have ev:gA ns k=(0,ns.getD k 0):=by unfold gA;rw[Zo ⟨hk2,hm⟩]
    walk_at "!%"
   ·have hm':decide (ns.headD 0 % 2=0)=false:=Zm hm
    have ev:gA ns k=(1,((ns.getD (k % ns.length) 0 % 2147483587+48611*((k / ns.length:Nat):Int)+3*(k:Int))*48271+11*(k:Int)+1) % 2147483647):=by(unfold gA;rw[Zp (λz=>hm z.2),Zo hpos])
    walk_at "!%"
  ·have hb:decide ((k:Int)<(ns.length:Int))=false:=Zm (by omega)
   have ev:gA ns k=(1,((ns.getD (k % ns.length) 0 % 2147483587+48611*((k / ns.length:Nat):Int)+3*(k:Int))*48271+11*(k:Int)+1) % 2147483647):=by(unfold gA;rw[Zp (λz=>hk2 z.1),Zo hpos])
   walk_at "!%"
def vM:((Str.ofString "span")==(Str.ofString "leap"))=false:=by decide +kernel
def vT:((Str.ofString "span")==(Str.ofString "back"))=false:=by decide +kernel
def tJ:((Str.ofString "span")==(Str.ofString "again"))=false:=by decide +kernel
def sZ:((Str.ofString "span")==(Str.ofString "range"))=false:=by decide +kernel
def tK:((Str.ofString "span")==(Str.ofString "above"))=false:=by decide +kernel
def tW:((Str.ofString "span")==(Str.ofString "never"))=false:=by decide +kernel
def zR:bL .In (.str (Str.ofString "span")) (.tup [.str (Str.ofString "leap"),.str (Str.ofString "back"),.str (Str.ofString "again")])=some false:=(rfl)
def vV:((Str.ofString "leap")==(Str.ofString "span"))=false:=by decide +kernel
def uG:((Str.ofString "leap")==(Str.ofString "back"))=false:=by decide +kernel
def tI:((Str.ofString "leap")==(Str.ofString "again"))=false:=by decide +kernel
def tL:((Str.ofString "leap")==(Str.ofString "range"))=false:=by decide +kernel
def tN:((Str.ofString "leap")==(Str.ofString "above"))=false:=by decide +kernel
def sP:((Str.ofString "leap")==(Str.ofString "never"))=false:=by decide +kernel
def yZ:bL .In (.str (Str.ofString "leap")) (.tup [.str (Str.ofString "leap"),.str (Str.ofString "back"),.str (Str.ofString "again")])=some true:=(rfl)
def uR:((Str.ofString "back")==(Str.ofString "span"))=false:=by decide +kernel
def vP:((Str.ofString "back")==(Str.ofString "leap"))=false:=by decide +kernel
def sT:((Str.ofString "back")==(Str.ofString "again"))=false:=by decide +kernel
def sV:((Str.ofString "back")==(Str.ofString "range"))=false:=by decide +kernel
def sY:((Str.ofString "back")==(Str.ofString "above"))=false:=by decide +kernel
def tZ:((Str.ofString "back")==(Str.ofString "never"))=false:=by decide +kernel
def yS:bL .In (.str (Str.ofString "back")) (.tup [.str (Str.ofString "leap"),.str (Str.ofString "back"),.str (Str.ofString "again")])=some true:=(rfl)
def sI:((Str.ofString "again")==(Str.ofString "span"))=false:=by decide +kernel
def tG:((Str.ofString "again")==(Str.ofString "leap"))=false:=by decide +kernel
def sL:((Str.ofString "again")==(Str.ofString "back"))=false:=by decide +kernel
def qT:((Str.ofString "again")==(Str.ofString "range"))=false:=by decide +kernel
def qL:((Str.ofString "again")==(Str.ofString "above"))=false:=by decide +kernel
def qK:((Str.ofString "again")==(Str.ofString "never"))=false:=by decide +kernel
def wW:bL .In (.str (Str.ofString "again")) (.tup [.str (Str.ofString "leap"),.str (Str.ofString "back"),.str (Str.ofString "again")])=some true:=(rfl)
def tU:((Str.ofString "range")==(Str.ofString "span"))=false:=by decide +kernel
def tY:((Str.ofString "range")==(Str.ofString "leap"))=false:=by decide +kernel
def sJ:((Str.ofString "range")==(Str.ofString "back"))=false:=by decide +kernel
def pZ:((Str.ofString "range")==(Str.ofString "again"))=false:=by decide +kernel
def pX:((Str.ofString "range")==(Str.ofString "above"))=false:=by decide +kernel
def qU:((Str.ofString "range")==(Str.ofString "never"))=false:=by decide +kernel
def wZ:bL .In (.str (Str.ofString "range")) (.tup [.str (Str.ofString "leap"),.str (Str.ofString "back"),.str (Str.ofString "again")])=some false:=(rfl)
def uA:((Str.ofString "above")==(Str.ofString "span"))=false:=by decide +kernel
def tV:((Str.ofString "above")==(Str.ofString "leap"))=false:=by decide +kernel
def sF:((Str.ofString "above")==(Str.ofString "back"))=false:=by decide +kernel
def qI:((Str.ofString "above")==(Str.ofString "again"))=false:=by decide +kernel
def qE:((Str.ofString "above")==(Str.ofString "range"))=false:=by decide +kernel
def qQ:((Str.ofString "above")==(Str.ofString "never"))=false:=by decide +kernel
def xC:bL .In (.str (Str.ofString "above")) (.tup [.str (Str.ofString "leap"),.str (Str.ofString "back"),.str (Str.ofString "again")])=some false:=(rfl)
def sW:((Str.ofString "never")==(Str.ofString "span"))=false:=by decide +kernel
def sH:((Str.ofString "never")==(Str.ofString "leap"))=false:=by decide +kernel
def tP:((Str.ofString "never")==(Str.ofString "back"))=false:=by decide +kernel
def pY:((Str.ofString "never")==(Str.ofString "again"))=false:=by decide +kernel
def p9:((Str.ofString "never")==(Str.ofString "range"))=false:=by decide +kernel
def qY:((Str.ofString "never")==(Str.ofString "above"))=false:=by decide +kernel
def xA:bL .In (.str (Str.ofString "never")) (.tup [.str (Str.ofString "leap"),.str (Str.ofString "back"),.str (Str.ofString "again")])=some false:=(rfl)
def aX:type_of% (And.intro @vM (And.intro @vT (And.intro @tJ (And.intro @sZ (And.intro @tK (And.intro @tW (And.intro @zR (And.intro @vV (And.intro @uG (And.intro @tI (And.intro @tL (And.intro @tN (And.intro @sP (And.intro @yZ (And.intro @uR (And.intro @vP (And.intro @sT (And.intro @sV (And.intro @sY (And.intro @tZ (And.intro @yS (And.intro @sI (And.intro @tG (And.intro @sL (And.intro @qT (And.intro @qL (And.intro @qK (And.intro @wW (And.intro @tU (And.intro @tY (And.intro @sJ (And.intro @pZ (And.intro @pX (And.intro @qU (And.intro @wZ (And.intro @uA (And.intro @tV (And.intro @sF (And.intro @qI (And.intro @qE (And.intro @qQ (And.intro @xC (And.intro @sW (And.intro @sH (And.intro @tP (And.intro @pY (And.intro @p9 (And.intro @qY @xA)))))))))))))))))))))))))))))))))))))))))))))))):=(And.intro @vM (And.intro @vT (And.intro @tJ (And.intro @sZ (And.intro @tK (And.intro @tW (And.intro @zR (And.intro @vV (And.intro @uG (And.intro @tI (And.intro @tL (And.intro @tN (And.intro @sP (And.intro @yZ (And.intro @uR (And.intro @vP (And.intro @sT (And.intro @sV (And.intro @sY (And.intro @tZ (And.intro @yS (And.intro @sI (And.intro @tG (And.intro @sL (And.intro @qT (And.intro @qL (And.intro @qK (And.intro @wW (And.intro @tU (And.intro @tY (And.intro @sJ (And.intro @pZ (And.intro @pX (And.intro @qU (And.intro @wZ (And.intro @uA (And.intro @tV (And.intro @sF (And.intro @qI (And.intro @qE (And.intro @qQ (And.intro @xC (And.intro @sW (And.intro @sH (And.intro @tP (And.intro @pY (And.intro @p9 (And.intro @qY @xA))))))))))))))))))))))))))))))))))))))))))))))))
def pw{j:Int}(h1:0<=j)(h2:j<=12):(0:Int)<2 ^ j.toNat/\(2:Int) ^ j.toNat<nofun:=by
 have h:j.toNat<=12:=by omega
 generalize j.toNat=q at h;have h3:2 ^ q<=2 ^ 12:=Nat.pow_le_pow_right (by decide) h;have h4:(2:Int) ^ q<=4096:=by exact_mod_cast h3
 exact⟨Int.pow_pos (by decide),Int.lt_of_le_of_lt h4 (by decide)⟩
inductive RuleD(no ba oc ma:Int):D->Prop
 |span (a b:Int) (h1:0<=a) (h2:a<ba) (h3:0<=b) (h4:b<2 ^ oc.toNat):RuleD no ba oc ma (.tup [.str "span",.int a,.int b])
 |leap (a:Int) (h1:0<=a) (h2:a<=12):RuleD no ba oc ma (.tup [.str "leap",.int a])
 |back (a b:Int) (h1:1<=a) (h2:a<=12) (h3:1<=b) (h4:b<=12):RuleD no ba oc ma (.tup [.str "back",.int a,.int b])
 |again (a:Int) (h1:1<=a) (h2:a<=3):RuleD no ba oc ma (.tup [.str "again",.int a])
 |range (a b:Int) (h1:-60<=a) (h2:a<=b) (h3:b<=60):RuleD no ba oc ma (.tup [.str "range",.int a,.int b])
 |above (v w:Nat) (h1:(v:Int)<=ma) (h2:(w:Int)<=ma) (h3:v≠w):RuleD no ba oc ma (.tup [.str "above",.int v,.int w])
 |never (a b:Int) (x:PySem.Str) (h1:0<=a) (h2:a<oc) (h3:0<=b) (h4:b<oc) (h5:x="like"\/x="against"\/x="aside"\/x="any"):RuleD no ba oc ma (.tup [.str "never",.int a,.int b,.str x])
section
variable{P:aW}{C:Calls}{W:Nat}{k s no ba oc ma w:Int}{u6 u7 u8:Sl}
noncomputable def gC(k s no ba oc ma w:Int)(u6 u7 u8:Sl):Env:=[.p (.lst [.int k,.int s]),.sh (.int no),.sh (.int ba),.sh (.int oc),.sh (.int ma),.sh (.int w),u6,u7,u8]
def tQ:ex P C W (.ifs (.cmp .Eq (.var 5) (.con (.int i))) a []) (gC k s no ba oc ma w u6 u7 u8)=if w=i then exs P C W a (gC k s no ba oc ma w u6 u7 u8) else some (.nx,gC k s no ba oc ma w u6 u7 u8):=by
 unfold gC;by_cases h:w=i
 ·have h':decide (w=i)=true:=Zn h;rw[Zo h]
  walk_at "!"
 ·have h':decide (w=i)=false:=Zm h;rw[Zp h]
  walk_at "!"
end
def at2(h1:0<=c)(h2:c<2):L2.cV [D.int a,D.int b] c=some (.int (if c=0 then a else b)):=by
 have:c=0\/c=1:=by omega
 rcases this with rfl | rfl<;>rfl
def atW(h1:0<=c)(h2:c<4):∃x:PySem.Str,L2.cV [D.str "like",D.str "against",D.str "aside",D.str "any"] c=some (.str x)/\(x="like"\/x="against"\/x="aside"\/x="any"):=by
 have:c=0\/c=1\/c=2\/c=3:=by omega
 rcases this with rfl | rfl | rfl | rfl
 ·exact⟨_,rfl,.inl rfl⟩
 ·exact⟨_,rfl,.inr (.inl rfl)⟩
 ·exact⟨_,rfl,.inr (.inr (.inl rfl))⟩
 ·exact⟨_,rfl,.inr (.inr (.inr rfl))⟩
def CF{W n:Nat}{k s0 no ba oc ma:Int}(n1:1<=no)(n2:no<=7)(b1:1<=ba)(b2:ba<=4)(o1:1<=oc)(o2:oc<=12)(m1:1<=ma)(m2:ma<=3) :
  ∃s' d,run T W (n+2) "L_rule" [.p (.lst [.int k,.int s0]),.sh (.int no),.sh (.int ba),.sh (.int oc),.sh (.int ma)]=some (.ok (.sh d),[.p (.lst [.int k,.int s']),.sh (.int no),.sh (.int ba),.sh (.int oc),.sh (.int ma)])/\RuleD no ba oc ma d:=by
 rw[a8 RK rfl rfl];unfold pH;have g1:0<ba:=b1;have g2:ba<nofun:=Int.lt_of_le_of_lt b2 (by decide);have g3:0<oc:=o1;have g4:oc<nofun:=Int.lt_of_le_of_lt o2 (by decide);have g5:0<=oc:=by omega
 have g6:oc<=1000:=by omega
 obtain⟨g7,g8⟩:=pw g5 o2;have g9:0<ma:=m1;have g10:ma<nofun:=Int.lt_of_le_of_lt m2 (by decide);have g11:0<ma+1:=by omega
 have g12:ma+1<nofun:=Int.lt_of_le_of_lt (Int.add_le_add_right m2 1) (by decide);have v1:=bH (k:=k) (s:=s0) (m:=9) (by decide);have v2:=bJ (k:=k) (s:=s0) (m:=9) (by decide)
 have e0:ex T.pins (run T W (n+1)) W pU ([.p (.lst [.int k,.int s0]),.sh (.int no),.sh (.int ba),.sh (.int oc),.sh (.int ma)]++List.replicate 4 .un)=some (.nx,gC k (aH k s0 9) no ba oc ma (aS k s0 9) .un .un .un):=by
  unfold gC;rw[DG];clear g1 g2 g3 g4 g5 g6 g7 g8 g9 g10 g11 g12 v1 v2 n1 n2 b1 b2 o1 o2 m1 m2
  walk_at "!aI"
 generalize aS k s0 9=w at *
 generalize aH k s0 9=s at *
 rw[fE,e0,mJ,fE];clear e0
 -- a return of a statement ends the def
 have fin:∀{st:S} {r:List S} {s':Int} {d:D} {u6 u7 u8:Sl},ex T.pins (run T W (n+1)) W st (gC k s no ba oc ma w .un .un .un)=some (.rt (.sh d),gC k s' no ba oc ma w u6 u7 u8)->RuleD no ba oc ma d ->
   ∃s'' d,GW [.p (.lst [.int k,.int s0]),.sh (.int no),.sh (.int ba),.sh (.int oc),.sh (.int ma)] ((ex T.pins (run T W (n+1)) W st (gC k s no ba oc ma w .un .un .un)).next (exs T.pins (run T W (n+1)) W r))=some (.ok (.sh d),[.p (.lst [.int k,.int s'']),.sh (.int no),.sh (.int ba),.sh (.int oc),.sh (.int ma)])/\RuleD no ba oc ma d:=λh hd=>by
  rw[h,WS,wF];exact⟨_,_,rfl,hd⟩
 by_cases c0:w<2
 ·refine fin (s':=aH k (aH k s ba) (2 ^ oc.toNat)) (d:=.tup [.str "span",.int (aS k s ba),.int (aS k (aH k s ba) (2 ^ oc.toNat))]) (u6:=.un) (u7:=.un) (u8:=.un) ?_ (.span _ _ (bH g1) (bJ g1) (bH g7) (bJ g7));have c0':decide (w<2)=true:=Zn c0;rw[sG];unfold gC;clear n1 n2 b1 b2 o1 o2 m1 m2 v1 v2 c0 fin
  walk_at "!aI"
 have e1:ex T.pins (run T W (n+1)) W pP (gC k s no ba oc ma w .un .un .un)=some (.nx,gC k s no ba oc ma w .un .un .un):=by
  have c0':decide (w<2)=false:=Zm c0;rw[sG];unfold gC;clear n1 n2 b1 b2 o1 o2 m1 m2 v1 v2 c0 fin
  walk_at "!aI"
 rw[e1,mJ,fE];clear e1;by_cases c2:w=2
 ·have x1:=bH (k:=k) (s:=aH k s ba) (m:=oc) g3;have x2:=bJ (k:=k) (s:=aH k s ba) (m:=oc) g3;have x3:aS k (aH k s ba) oc<=1000:=by omega
  have h4:(2:Int) ^ (aS k (aH k s ba) oc).toNat<=2 ^ oc.toNat-1:=by
   have h1:(aS k (aH k s ba) oc).toNat+1<=oc.toNat:=by omega
   have h2:(2:Int) ^ ((aS k (aH k s ba) oc).toNat+1)<=2 ^ oc.toNat:=by
    have h3:2 ^ ((aS k (aH k s ba) oc).toNat+1)<=2 ^ oc.toNat:=Nat.pow_le_pow_right (by decide) h1
    exact_mod_cast h3
   have h4:(2:Int) ^ ((aS k (aH k s ba) oc).toNat+1)=2 ^ (aS k (aH k s ba) oc).toNat*2:=Int.pow_succ _ _;have h5:(0:Int)<2 ^ (aS k (aH k s ba) oc).toNat:=Int.pow_pos (by decide);omega
  have h5:(0:Int)<2 ^ (aS k (aH k s ba) oc).toNat:=Int.pow_pos (by decide);refine fin (s':=aH k (aH k s ba) oc) (d:=.tup [.str "span",.int (aS k s ba),.int (2 ^ oc.toNat-1-2 ^ (aS k (aH k s ba) oc).toNat)]) (u6:=.un) (u7:=.un) (u8:=.un) ?_ (.span _ _ (bH g1) (bJ g1) (by omega) (by omega));rw[tM,tQ,Zo c2];unfold gC;clear n1 n2 b1 b2 o1 o2 m1 m2 v1 v2 c0 fin h4 h5 x2
  walk_at "!aI"
 rw[tM,tQ,Zp c2,mJ,fE];by_cases c3:w=3
 ·have x1:=bH (k:=k) (s:=s) (m:=2) (by decide);have x2:=bJ (k:=k) (s:=s) (m:=2) (by decide);have hat:=at2 (a:=13) (b:=no+1) x1 x2;obtain⟨q,hq⟩:∃q,q=(if aS k s 2=0 then 13 else no+1):=⟨_,rfl⟩
  rw[<- hq] at hat;have q1:0<q:=by rw[hq];split<;>omega
  have q2:q<=13:=by rw[hq];split<;>omega
  have q3:q<nofun:=Int.lt_of_le_of_lt q2 (by decide);refine fin (s':=aH k (aH k s 2) q) (d:=.tup [.str "leap",.int (aS k (aH k s 2) q)]) (u6:=.un) (u7:=.un) (u8:=.un) ?_ (.leap _ (bH q1) (by have:=bJ (k:=k) (s:=aH k s 2) q1;omega));rw[tD,tQ,Zo c3];unfold gC;clear n1 n2 b1 b2 o1 o2 m1 m2 v1 v2 c0 fin q2 hq x1 x2
  walk_at "!aI"
 rw[tD,tQ,Zp c3,mJ,fE];by_cases c4:w=4
 ·have x1:=bH (k:=k) (s:=s) (m:=12) (by decide);have x2:=bJ (k:=k) (s:=s) (m:=12) (by decide);have x3:=bH (k:=k) (s:=aH k s 12) (m:=12) (by decide);have x4:=bJ (k:=k) (s:=aH k s 12) (m:=12) (by decide);refine fin (s':=aH k (aH k s 12) 12) (d:=.tup [.str "back",.int (1+aS k s 12),.int (1+aS k (aH k s 12) 12)]) (u6:=.un) (u7:=.un) (u8:=.un) ?_ (.back _ _ (by omega) (by omega) (by omega) (by omega));rw[tF,tQ,Zo c4];unfold gC;clear n1 n2 b1 b2 o1 o2 m1 m2 v1 v2 c0 fin x1 x2 x3 x4
  walk_at "!aI"
 rw[tF,tQ,Zp c4,mJ,fE];by_cases c5:w=5
 ·have x1:=bH (k:=k) (s:=s) (m:=3) (by decide);have x2:=bJ (k:=k) (s:=s) (m:=3) (by decide);refine fin (s':=aH k s 3) (d:=.tup [.str "again",.int (1+aS k s 3)]) (u6:=.un) (u7:=.un) (u8:=.un) ?_ (.again _ (by omega) (by omega));rw[sM,tQ,Zo c5];unfold gC;clear n1 n2 b1 b2 o1 o2 m1 m2 v1 v2 c0 fin x1 x2
  walk_at "!aI"
 rw[sM,tQ,Zp c5,mJ,fE];by_cases c6:w=6
 ·have u1:=bH (k:=k) (s:=s) (m:=121) (by decide);have u2:=bJ (k:=k) (s:=s) (m:=121) (by decide);have u3:=bH (k:=k) (s:=aH k s 121) (m:=20) (by decide);have u4:=bJ (k:=k) (s:=aH k s 121) (m:=20) (by decide);have u5:=bH (k:=k) (s:=aH k (aH k s 121) 20) (m:=2) (by decide);have u6:=bJ (k:=k) (s:=aH k (aH k s 121) 20) (m:=2) (by decide);have hat:=at2 (a:=aS k s 121-60) (b:=aS k (aH k s 121) 20-12) u5 u6;obtain⟨lo,hlo⟩:∃lo,lo=(if aS k (aH k (aH k s 121) 20) 2=0 then aS k s 121-60 else aS k (aH k s 121) 20-12):=⟨_,rfl⟩
  rw[<- hlo] at hat;have q1:lo<=60:=by rw[hlo];split<;>omega
  have q2:-60<=lo:=by rw[hlo];split<;>omega
  have y1:0<61-lo:=by omega
  have y2:61-lo<nofun:=by omega
  obtain⟨s1,hs1⟩:∃s1,s1=aH k (aH k (aH k s 121) 20) 2:=⟨_,rfl⟩
  have z1:=bH (k:=k) (s:=s1) y1;have z2:=bJ (k:=k) (s:=s1) y1;refine fin (s':=aH k s1 (61-lo)) (d:=.tup [.str "range",.int lo,.int (lo+aS k s1 (61-lo))]) (u6:=.sh (.int lo)) (u7:=.un) (u8:=.un) ?_ (.range _ _ q2 (by omega) (by omega));rw[sS,tQ,Zo c6];have hs1':=hs1.symm;unfold gC;clear n1 n2 b1 b2 o1 o2 m1 m2 v1 v2 c0 fin u1 u2 u3 u4 u5 u6 q1 q2 z1 z2 hlo hs1
  walk_at "!aI"
 rw[sS,tQ,Zp c6,mJ,fE];by_cases c7:w=7
 ·have x1:=bH (k:=k) (s:=s) g11;have x2:=bJ (k:=k) (s:=s) g11;have x3:=bH (k:=k) (s:=aH k s (ma+1)) g9;have x4:=bJ (k:=k) (s:=aH k s (ma+1)) g9;obtain⟨a,ha⟩:∃a:Nat,aS k s (ma+1)=(a:Int):=⟨_,(Int.toNat_of_nonneg x1).symm⟩
  have y1:=Int.emod_nonneg ((a:Int)+1+aS k (aH k s (ma+1)) ma) (b:=ma+1) (by omega);have y2:=Int.emod_lt_of_pos ((a:Int)+1+aS k (aH k s (ma+1)) ma) (b:=ma+1) (by omega);obtain⟨b,hb⟩:∃b:Nat,((a:Int)+1+aS k (aH k s (ma+1)) ma) % (ma+1)=(b:Int):=⟨_,(Int.toNat_of_nonneg y1).symm⟩
  have hne:a≠b:=λz=>by
   subst z;rcases Int.lt_or_le ((a:Int)+1+aS k (aH k s (ma+1)) ma) (ma+1) with h | h
   ·rw[Int.emod_eq_of_lt (by omega) h] at hb;omega
   ·have h2:((a:Int)+1+aS k (aH k s (ma+1)) ma) % (ma+1)=((a:Int)+1+aS k (aH k s (ma+1)) ma-(ma+1)):=by
     rw[<- Int.sub_emod_right,Int.emod_eq_of_lt (by omega) (by omega)]
    omega
  refine fin (s':=aH k (aH k s (ma+1)) ma) (d:=.tup [.str "above",.int a,.int b]) (u6:=.un) (u7:=.sh (.int a)) (u8:=.un) ?_ (.above _ _ (by omega) (by omega) hne);rw[sN,tQ,Zo c7];unfold gC;clear n1 n2 b1 b2 o1 o2 m1 m2 v1 v2 c0 fin x1 x2 x3 x4 y1 y2 hne
  walk_at "!aI"
 rw[sN,tQ,Zp c7,mJ,fE,C9];have x1:=bH (k:=k) (s:=aH k (aH k s oc) oc) (m:=4) (by decide);have x2:=bJ (k:=k) (s:=aH k (aH k s oc) oc) (m:=4) (by decide);obtain⟨x,hat,hx⟩:=atW x1 x2;refine⟨aH k (aH k (aH k s oc) oc) 4,.tup [.str "never",.int (aS k s oc),.int (aS k (aH k s oc) oc),.str x], ?_,.never _ _ _ (bH g3) (bJ g3) (bH g3) (bJ g3) hx⟩;unfold gC;clear n1 n2 b1 b2 o1 o2 m1 m2 v1 v2 c0 fin x1 x2 hx
 walk_at "!DM aI"
def SH{g:Bool}{a b:Int}:L2.cV [D.int a,D.int b] (if g=true then 1 else 0)=some (.int (if g=true then b else a)):=by cases g<;>rfl
def WE{g:Bool}{a b:Int}(ha:0<a)(hb:0<b):0<(if g=true then b else a):=by cases g<;>simpa
def WJ{g:Bool}{a b c:Int}(ha:a<c)(hb:b<c):(if g=true then b else a)<c:=by cases g<;>simpa
structure HouseOk(no ba oc:Int)(fs:List (Int×Int×Bool)):Prop where
 n1:1<=no
 n2:no<=7
 b1:1<=ba
 b2:ba<=4
 o1:1<=oc
 o2:oc<=12
 l1:1<=fs.length
 l2:fs.length<=3
 f:∀f∈fs,0<=f.1/\f.1<=4/\-12<=f.2.1/\f.2.1<=12
def y6{W n:Nat}{k s:Int}:∃s' no ba oc fs rs,run T W (n+3) "L_house" [.p (.lst [.int k,.int s])]=some (.ok (.sh (.tup [.int no,.int ba,.int oc,.tup (fs.map cI),.tup rs])),[.p (.lst [.int k,.int s'])])/\HouseOk no ba oc fs/\rs.length<=8/\∀d∈rs,RuleD no ba oc (fs.length:Int) d:=by
 rw[a8 PM rfl rfl];unfold nV;generalize hg:decide (aS k s 2=0)=g;have p1:=WE (g:=g) (a:=4) (b:=7) (by decide) (by decide);have p2:=WJ (g:=g) (a:=4) (b:=7) (c:=nofun) (by decide) (by decide);have p3:=WE (g:=g) (a:=2) (b:=4) (by decide) (by decide);have p4:=WJ (g:=g) (a:=2) (b:=4) (c:=nofun) (by decide) (by decide);have p5:=WE (g:=g) (a:=2) (b:=3) (by decide) (by decide);have p6:=WJ (g:=g) (a:=2) (b:=3) (c:=nofun) (by decide) (by decide);have p7:=WE (g:=g) (a:=2) (b:=5) (by decide) (by decide);have p8:=WJ (g:=g) (a:=2) (b:=5) (c:=nofun) (by decide) (by decide);obtain⟨s1,hs1⟩:∃s1,s1=aH k s 2:=⟨_,rfl⟩
 obtain⟨no,hno⟩:∃no,no=1+aS k s1 (if g=true then 7 else 4):=⟨_,rfl⟩
 obtain⟨s2,hs2⟩:∃s2,s2=aH k s1 (if g=true then 7 else 4):=⟨_,rfl⟩
 obtain⟨ba,hba⟩:∃ba,ba=1+aS k s2 (if g=true then 4 else 2):=⟨_,rfl⟩
 obtain⟨s3,hs3⟩:∃s3,s3=aH k s2 (if g=true then 4 else 2):=⟨_,rfl⟩
 obtain⟨oc,hoc⟩:∃oc,oc=1+aS k s3 12:=⟨_,rfl⟩
 obtain⟨s4,hs4⟩:∃s4,s4=aH k s3 12:=⟨_,rfl⟩
 obtain⟨ma,hma⟩:∃ma,ma=1+aS k s4 (if g=true then 3 else 2):=⟨_,rfl⟩
 obtain⟨s5,hs5⟩:∃s5,s5=aH k s4 (if g=true then 3 else 2):=⟨_,rfl⟩
 have n1:1<=no:=by have:=bH (k:=k) (s:=s1) p1;omega
 have n2:no<=7:=by
  have:=bJ (k:=k) (s:=s1) p1
  have:(if g=true then(7:Int) else 4)<=7:=by cases g<;>decide
  omega
 have b1:1<=ba:=by have:=bH (k:=k) (s:=s2) p3;omega
 have b2:ba<=4:=by
  have:=bJ (k:=k) (s:=s2) p3
  have:(if g=true then(4:Int) else 2)<=4:=by cases g<;>decide
  omega
 have o1:1<=oc:=by have:=bH (k:=k) (s:=s3) (m:=12) (by decide);omega
 have o2:oc<=12:=by have:=bJ (k:=k) (s:=s3) (m:=12) (by decide);omega
 have m1:1<=ma:=by have:=bH (k:=k) (s:=s4) p5;omega
 have m2:ma<=3:=by
  have:=bJ (k:=k) (s:=s4) p5
  have:(if g=true then(3:Int) else 2)<=3:=by cases g<;>decide
  omega
 have hi1:aD .rng [.slot 5] [.p (.lst [.int k,.int s5]),.sh (.bl g),.sh (.int no),.sh (.int ba),.sh (.int oc),.sh (.int ma),.o (.lst []),.un,.un,.un]=some (rg ma.toNat,none):=nG rfl (by omega) (by omega)
 have key1:=d8 (bind:=aU true [7]) (body:=exs T.pins (run T W (n+2)) W oM)
  (λpre U=>∃s6 fs t7 t8,U=[.p (.lst [.int k,.int s6]),.sh (.bl g),.sh (.int no),.sh (.int ba),.sh (.int oc),.sh (.int ma),.o (.lst (fs.map cI)),t7,t8,.un]/\bB t7=true/\bB t8=true/\fs.length=pre.length/\∀f∈fs,0<=f.1/\f.1<=4/\-12<=f.2.1/\f.2.1<=12)
  (ds:=rg ma.toNat) (λpre d post hds U hU=>by
   obtain⟨s6,fs,t7,t8,rfl,h7,h8,hl,hf⟩:=hU
   have hlen:pre.length<ma.toNat:=by
    have:=congrArg List.length hds
    simp at this;omega
   refine⟨_,by simp only[eM,aZ h7]<;>rfl, ?_⟩;have hsm:aJ ((fs.map cI).length+1)=true:=bD (by simp;omega);have la:=bH (k:=k) (s:=s6) p7;have lb:=bJ (k:=k) (s:=s6) p7;have lc:(if g=true then(5:Int) else 2)<=5:=by cases g<;>decide
   have sa:=bH (k:=k) (s:=aH k s6 (if g=true then 5 else 2)) (m:=25) (by decide);have sb:=bJ (k:=k) (s:=aH k s6 (if g=true then 5 else 2)) (m:=25) (by decide);refine⟨[.p (.lst [.int k,.int (aH k (aH k (aH k s6 (if g=true then 5 else 2)) 25) 4)]),.sh (.bl g),.sh (.int no),.sh (.int ba),.sh (.int oc),.sh (.int ma),.o (.lst ((fs++[(aS k s6 (if g=true then 5 else 2),aS k (aH k s6 (if g=true then 5 else 2)) 25-12,decide (aS k (aH k (aH k s6 (if g=true then 5 else 2)) 25) 4=0))]).map cI)),.sh d,.sh (.int (aS k s6 (if g=true then 5 else 2))),.un], ?_,_,_,_,_,rfl,rfl,rfl,by simp[hl],λf hm=>?_⟩
   ·unfold oM;clear hf hds la lb lc sa sb hg hno hs2 hba hs3 hoc hs4 hma hs5 n1 n2 b1 b2 o1 o2 m1 m2 hlen hl hi1 hs1
    walk_at "!SH aI"
    simp only[zd,Zs,List.map_nil,cI]
   ·rcases zo.mp hm with hm | hm
    ·exact hf f hm
    ·rw[ze.mp hm]
     refine⟨la, ?_, ?_, ?_⟩<;>simp only<;>omega)
  (U:=[.p (.lst [.int k,.int s5]),.sh (.bl g),.sh (.int no),.sh (.int ba),.sh (.int oc),.sh (.int ma),.o (.lst []),.un,.un,.un]) ⟨_,[],_,_,rfl,rfl,rfl,rfl,λf h=>nomatch h⟩
 obtain⟨U1,el1,s6,fs,t7,t8,rfl,h7,h8,hl,hf⟩:=key1;have hl:fs.length=ma.toNat:=by rw[hl];simp
 have hr1:=bH (k:=k) (s:=s6) (m:=9) (by decide);have hr2:=bJ (k:=k) (s:=s6) (m:=9) (by decide);have hi2:aD .rng [.val (.sh (.int (aS k s6 9)))] [.p (.lst [.int k,.int (aH k s6 9)]),.sh (.bl g),.sh (.int no),.sh (.int ba),.sh (.int oc),.sh (.int ma),.o (.lst (fs.map cI)),t7,t8,.o (.lst [])]=some ((List.range (aS k s6 9).toNat).map λ(j:Nat)=>.int j,none):=nG rfl (by omega) (by omega)
 have key2:=d8 (bind:=aU true [7]) (body:=exs T.pins (run T W (n+2)) W oC)
  (λpre U=>∃s7 rs t7,U=[.p (.lst [.int k,.int s7]),.sh (.bl g),.sh (.int no),.sh (.int ba),.sh (.int oc),.sh (.int ma),.o (.lst (fs.map cI)),t7,t8,.o (.lst rs)]/\bB t7=true/\rs.length=pre.length/\∀d∈rs,RuleD no ba oc ma d)
  (ds:=(List.range (aS k s6 9).toNat).map λ(j:Nat)=>.int j) (λpre d post hds U hU=>by
   obtain⟨s7,rs,t7,rfl,h7,hl,hR⟩:=hU
   have hlen:pre.length<(aS k s6 9).toNat:=by
    have:=congrArg List.length hds
    simp at this;omega
   refine⟨_,by simp only[eM,aZ h7]<;>rfl, ?_⟩;have hsm:aJ (rs.length+1)=true:=bD (by omega);obtain⟨s8,dr,er,hrd⟩:=CF (W:=W) (n:=n) (k:=k) (s0:=s7) n1 n2 b1 b2 o1 o2 m1 m2;refine⟨[.p (.lst [.int k,.int s8]),.sh (.bl g),.sh (.int no),.sh (.int ba),.sh (.int oc),.sh (.int ma),.o (.lst (fs.map cI)),.sh d,t8,.o (.lst (rs++[dr]))], ?_,_,_,_,rfl,rfl,by simp[hl],λd hd=>(zo.mp hd).elim (hR d) λq=>by rw[ze.mp q];exact hrd⟩;unfold oC;clear hR hrd hf hds hg hno hs2 hba hs3 hoc hs4 hma hs5 n1 n2 b1 b2 o1 o2 m1 m2 hlen hl hi1 hs1 el1 hi2 hr1 hr2
   walk_at "!aI SH")
  (U:=[.p (.lst [.int k,.int (aH k s6 9)]),.sh (.bl g),.sh (.int no),.sh (.int ba),.sh (.int oc),.sh (.int ma),.o (.lst (fs.map cI)),t7,t8,.o (.lst [])]) ⟨_,[],_,rfl,h7,rfl,λ_ z=>nomatch z⟩
 obtain⟨U2,el2,s7,rs,t7',rfl,h7',hlr,hR⟩:=key2;have hlr2:rs.length<=8:=by rw[hlr];simp;omega
 have hlm:(fs.length:Int)=ma:=by omega
 refine⟨s7,no,ba,oc,fs,rs, ?_,⟨n1,n2,b1,b2,o1,o2,by omega,by omega,hf⟩,hlr2,by rw[hlm];exact hR⟩;clear hf n1 n2 b1 b2 o1 o2 m1 m2 hl hlr hr1 hr2 hR hlr2 hlm;have e1:=hno.symm;have e2:=hs2.symm;have e3:=hba.symm;have e4:=hs3.symm;have e5:=hoc.symm;have e6:=hs4.symm;have e7:=hma.symm;have e8:=hs5.symm;have e9:=hs1.symm;clear hno hs2 hba hs3 hoc hs4 hma hs5 hs1
 walk_at "!SH aI"
def sA{W n:Nat}{late shift note:Int}{turned:Bool}:run T W (n+1) "pitch" [.sh (.tup [.int late,.int shift,.bl turned]),.sh (.int note)]=some (.ok (.sh (.int (if turned then shift-note else shift+note))),[.sh (.tup [.int late,.int shift,.bl turned]),.sh (.int note)]):=by
 rw[a8 aAq rfl rfl];unfold r9;cases turned<;>walk_at "!"
noncomputable def cB(xs:List Int)(b:Int)(f:Int×Int×Bool):D :=
 if 0<=b-f.1/\b-f.1<xs.length then .int (if f.2.2=true then f.2.1-xs.getD (b-f.1).toNat 0 else f.2.1+xs.getD (b-f.1).toNat 0) else .non
abbrev cG(fs:List (Int×Int×Bool)):List (Int×Int×Bool):=(0,0,false)::fs
def mG{W n:Nat}{no ba oc:Int}{fs:List (Int×Int×Bool)}{rs:List D}{v:Nat}{f:Int×Int×Bool}(h:(cG fs)[v]?=some f) :
  run T W (n+1) "singer" [.sh (aA no ba oc fs rs),.sh (.int v)]=some (.ok (.sh (cI f)),[.sh (aA no ba oc fs rs),.sh (.int v)]):=by
 rw[a8 VZ rfl rfl];unfold oV
 cases v with
 |zero =>
  simp only[zr,Option.some.injEq] at h;subst h;have e:decide (((0:Nat):Int)=0)=true:=rfl
  walk_at "!"
  all_goals (try simp only[e])
  all_goals (try walk_at "!")
  all_goals rfl
 |succ v =>
  have h:fs[v]?=some f:=by simpa using h
  have e:decide (((v+1:Nat):Int)=0)=false:=Zm (by omega);have e2:((v+1:Nat):Int)-1=(v:Int):=by omega
  have e3:L2.cV (fs.map cI) (v:Int)=some (cI f):=L2.lV (by rw[Zh,h];rfl);unfold aA
  walk_at "!"
def JO{xs:List Int}{i:Int}(h1:0<=i)(h2:i<xs.length):L2.cV (xs.map D.int) i=some (.int (xs.getD i.toNat 0)):=by
 have:=zA (ns:=xs) (k:=i.toNat) (by omega)
 have e:((i.toNat:Nat):Int)=i:=by omega
 rwa[e] at this
def uY{W n:Nat}{no ba oc:Int}{fs:List (Int×Int×Bool)}{rs:List D}{xs:List Int}{v:Nat}{b:Int}{p:Bool}{f:Int×Int×Bool}(h:(cG fs)[v]?=some f) :
  run T W (n+2) "sung" [.sh (aA no ba oc fs rs),~~~xs,.sh (.int v),.sh (.int b)]=some (.ok (.sh (cB xs b f)),[.sh (aA no ba oc fs rs),~~~xs,.sh (.int v),.sh (.int b)]):=by
 rw[a8 aCr rfl rfl];unfold vZ;have hs:=mG (W:=W) (n:=n) (no:=no) (ba:=ba) (oc:=oc) (rs:=rs) h;obtain⟨late,shift,turned⟩:=f;simp only[cI] at hs;by_cases c:0<=b-late/\b-late<xs.length
 ·have e1:=JO c.1 c.2;have ev:cB xs b (late,shift,turned)=.int (if turned=true then shift-xs.getD (b-late).toNat 0 else shift+xs.getD (b-late).toNat 0):=Zo c;obtain⟨c1,c2⟩:=c;clear h
  walk_at "!mG sA %"
 ·have ev:cB xs b (late,shift,turned)=.non:=Zp c;by_cases c1:0<=b-late
  ·have c2:¬b-late<xs.length:=λz=>c ⟨c1,z⟩
   have c2':decide (b-late<(xs.length:Int))=false:=Zm c2;clear h c c2
   walk_at "!mG sA %"
  ·have c1':decide (0<=b-late)=false:=Zm c1;clear h c c1
   walk_at "!mG sA %"
def kO:cB xs b f=.non\/∃i,cB xs b f=.int i:=by
 unfold cB;split
 ·exact .inr ⟨_,rfl⟩
 ·exact .inl rfl
def eU{W n:Nat}{no ba oc:Int}{fs:List (Int×Int×Bool)}{rs:List D}{xs:List Int}{b:Int}(hl:fs.length<=1000) :
  run T W (n+1) "L_heard" [.sh (aA no ba oc fs rs),~~~xs,.sh (.int b)]=some (.ok (.ow (.lst ((cG fs).map (cB xs b)))),[.sh (aA no ba oc fs rs),~~~xs,.sh (.int b)]):=by
 rw[a8 NV rfl rfl];unfold nP;have hsm:aJ (([]:List D).length+1+(fs.map cI).length)=true:=bD (by simp;omega);have hsm2:aJ (0+1+fs.length)=true:=bD (by omega)
 have key:=d8 (bind:=aU false [4,5,6]) (body:=exs T.pins (run T W n) W oB)
  (λpre U=>∃(gs:List (Int×Int×Bool)) (t4 t5 t6 t7:Sl),pre=gs.map cI/\U=[.sh (aA no ba oc fs rs),~~~xs,.sh (.int b),.o (.lst (gs.map (cB xs b))),t4,t5,t6,t7]/\bB t4=true/\bB t5=true/\bB t6=true/\bB t7=true)
  (ds:=(cG fs).map cI) (λpre d post hds U hU=>by
   obtain⟨gs,t4,t5,t6,t7,rfl,rfl,h4,h5,h6,h7⟩:=hU;have hmem:d∈(cG fs).map cI:=by rw[hds];simp
   obtain⟨f,_,rfl⟩:=zl.mp hmem
   have hlen:gs.length<=1000:=by
    have:=congrArg List.length hds
    simp at this;omega
   obtain⟨late,shift,turned⟩:=f;have hsm3:aJ ((gs.map (cB xs b)).length+1)=true:=bD (by simp;omega);have hsm4:aJ (gs.length+1)=true:=bD (by omega);refine⟨[.sh (aA no ba oc fs rs),~~~xs,.sh (.int b),.o (.lst (gs.map (cB xs b))),.sh (.int late),.sh (.int shift),.sh (.bl turned),t7], ?_, ?_⟩
   ·unfold cI;simp only[eM,aZ h4,aZ h5,aZ h6]
   ·refine⟨[.sh (aA no ba oc fs rs),~~~xs,.sh (.int b),.o (.lst ((gs++[(late,shift,turned)]).map (cB xs b))),.sh (.int late),.sh (.int shift),.sh (.bl turned),.sh (cB xs b (late,shift,turned))], ?_,gs++[(late,shift,turned)],_,_,_,_,by simp,rfl,rfl,rfl,rfl,rfl⟩;unfold oB;rw[zd,Zs,List.map_nil];by_cases c:0<=b-late/\b-late<xs.length
    ·have e1:=JO c.1 c.2;have ev:cB xs b (late,shift,turned)=.int (if turned=true then shift-xs.getD (b-late).toNat 0 else shift+xs.getD (b-late).toNat 0):=Zo c;rw[ev];obtain⟨c1,c2⟩:=c;cases turned
     ·walk_at "!%"
     ·walk_at "!%"
    ·have ev:cB xs b (late,shift,turned)=.non:=Zp c;rw[ev];by_cases c1:0<=b-late
     ·have c2:¬b-late<xs.length:=λz=>c ⟨c1,z⟩
      have c2':decide (b-late<(xs.length:Int))=false:=Zm c2
      walk_at "!%"
     ·have c1':decide (0<=b-late)=false:=Zm c1
      walk_at "!%")
  (U:=[.sh (aA no ba oc fs rs),~~~xs,.sh (.int b),.o (.lst []),.un,.un,.un,.un]) ⟨[],_,_,_,_,rfl,rfl,rfl,rfl,rfl,rfl⟩
 obtain⟨U',e,gs,t4,t5,t6,t7,hg,rfl,_⟩:=key
 have inj:∀{f g:Int×Int×Bool},cI f=cI g->f=g:=λ{f g} h=>by(obtain⟨a,b,c⟩:=f;obtain⟨a',b',c'⟩:=g;simp only[cI,D.tup.injEq,List.cons.injEq,D.int.injEq,D.bl.injEq,and_true] at h;obtain⟨rfl,rfl,rfl⟩:=h;rfl)
 have hgs:gs=cG fs:=((List.map_inj_right (λa b h=>inj h)).mp hg).symm;subst hgs;have hi:aD .of [.val (.sh (.tup ((cG fs).map cI)))] [.sh (aA no ba oc fs rs),~~~xs,.sh (.int b),.o (.lst []),.un,.un,.un,.un]=some ((cG fs).map cI,none):=zC rfl;have hh:aA no ba oc fs rs=.tup [.int no,.int ba,.int oc,.tup (fs.map cI),.tup rs]:=rfl;rw[hh] at e hi ⊢;rw[Zs] at e hi;simp only[Zs,cI] at e hi ⊢
 walk_at "!%"
def rP{bind:D->Env->Option Env}(sel:Nat->Bool)(val:Nat->D)(J:Env->Prop)
  (step:∀(j:Nat) (d:D),ds[j]?=some d->∀U,J U->∃U1 U2,bind d U=some U1/\tests U1=some (.ok (.sh (.bl (sel j))),U2)/\(sel j=true->∃v U3,elt U2=some (.ok v,U3)/\v.d=val j/\J U3)/\(sel j=false->J U2)) :
  ∀U,J U->∃U',fH tests elt bind ds [] U=some (.ok (((List.range ds.length).filter sel).map val),U')/\J U':=by
 intro U hU
 obtain⟨acc,U',e,⟨rfl,hJ⟩,_⟩:=fQ (λj acc U=>acc=((List.range j).filter sel).map val/\J U)
  (λj d hd acc U ⟨ha,hJ⟩=>by
   subst ha;obtain⟨U1,U2,h1,h2,h3,h4⟩:=step j d hd U hJ;refine⟨U1,sel j,U2,h1,h2,λhc=>?_,λhc=>?_⟩
   ·obtain⟨v,U3,h5,h6,h7⟩:=h3 hc;refine⟨v,U3,h5, ?_,h7⟩;rw[List.range_succ,List.filter_append,zd,h6];simp[hc]
   ·refine⟨?_,h4 hc⟩;rw[List.range_succ,List.filter_append,zd]
    simp[hc]) [] U ⟨rfl,hU⟩
 exact⟨U',e,hJ⟩
def nI{xs:List Int}{b:Int}(hl:fs.length<=1000) :
  run T W (n+3) "chord" [.sh (aA no ba oc fs rs),~~~xs,.sh (.int b)]=some (.ok (.ow (.lst ((cG fs).map (cB xs b)))),[.sh (aA no ba oc fs rs),~~~xs,.sh (.int b)]):=by
 rw[a8 ZW rfl rfl];unfold sE
 have hi:aD .rng [.val (.sh (.int ((fs.length:Int)+1)))] [.sh (aA no ba oc fs rs),~~~xs,.sh (.int b)]=some (rg (fs.length+1),none):=by(refine Eq.trans (nG (n:=(fs.length:Int)+1) rfl (by omega) (by omega)) ?_;rw[show((fs.length:Int)+1).toNat=fs.length+1 from by omega])
 obtain⟨acc,Ui,e,⟨t4,rfl,ht4,rfl⟩,hz⟩:=fQ (tests:=dI T.pins (run T W (n+2)) []) (elt:=ev T.pins (run T W (n+2)) false rF) (bind:=aU true [4]) (ds:=rg (fs.length+1))
  (λj acc U=>∃(t4:Sl),U=[.sh (.int b),.sh (aA no ba oc fs rs),~~~xs,.un,t4]/\bB t4=true/\acc=((cG fs).take j).map (cB xs b))
  (λj d hd acc U hU=>by
   obtain⟨t4,rfl,ht4,rfl⟩:=hU
   have hj:j<fs.length+1:=by
    have:=(Zc.mp hd).1
    simpa using this
   have hd':d=.int j:=by(rw[Zh,List.getElem?_range hj] at hd;exact(Option.some.inj hd).symm)
   subst hd';obtain⟨f,hf⟩:∃f,(cG fs)[j]?=some f:=⟨_,Zb (by simp;omega)⟩
   have hs:=uY (W:=W) (n:=n) (no:=no) (ba:=ba) (oc:=oc) (rs:=rs) (xs:=xs) (b:=b) (p:=true) hf;refine⟨_,true,_,by simp only[eM,aZ ht4]<;>rfl,gS,λ_=>?_,λz=>nomatch z⟩;refine⟨.sh (cB xs b f),[.sh (.int b),.sh (aA no ba oc fs rs),~~~xs,.un,.sh (.int j)], ?_,_,rfl,rfl, ?_⟩
   ·unfold rF;clear hd hj hf hi ht4
    walk_at "!%"
   ·rw[List.take_succ,hf,zd]
    rfl)
  [] [.sh (.int b),.sh (aA no ba oc fs rs),~~~xs,.un,.un] ⟨_,rfl,rfl,rfl⟩
 have ht:(cG fs).take ((rg (fs.length+1)).length)=cG fs:=by(rw[zf];simp)
 rw[ht] at e;have hsm:aJ ((cG fs).map (cB xs b)).length=true:=bD (by simp;omega);have hsm2:aJ (fs.length+1)=true:=bD (by omega);clear hz ht4 ht hl
 walk_at "!%"
 rw[eP hi]
 walk_at "!%"
noncomputable def hV(lo hi:Int):D->Bool
 |.int i=>!(decide (lo<=i)&&decide (i<=hi))
 |_=>false
noncomputable def xW(n:Nat)(sel:Nat->Bool):List (List Int):=((List.range n).filter sel).map λ(j:Nat)=>[(j:Int)]
def xJ(hn:n<=1000):(xW n sel).length<=1000:=by
 unfold xW;rw[List.length_map]
 have:=List.length_filter_le sel (List.range n)
 simp at this;omega
def PN:((List.range n).filter sel).map (λ(j:Nat)=>D.tup [.int j])=aE (xW n sel):=by
 unfold aE xW;rw[List.map_map];rfl
def C2(hd:d=.non\/∃i,d=.int i):run T W (n+1) "Range.forbids" [.sh (.ins "Range" ["low","high"] [.int lo,.int hi]),.sh d]=some (.ok (.sh (.bl (hV lo hi d))),[.sh (.ins "Range" ["low","high"] [.int lo,.int hi]),.sh d]):=by
 rw[a8 y8 rfl rfl];unfold gP;rcases hd with rfl | ⟨i,rfl⟩
 ·have e:hV lo hi .non=false:=rfl
  walk_at "!mV lU"
 ·have e:hV lo hi (.int i)=!(decide (lo<=i)&&decide (i<=hi)):=rfl;by_cases c:lo<=i
  ·have c':decide (lo<=i)=true:=Zn c;rw[e,c',Bool.true_and]
   walk_at "!mV lU"
  ·have c':decide (lo<=i)=false:=Zm c;rw[e,c',Bool.false_and]
   walk_at "!mV lU"
noncomputable def aF(fs:List (Int×Int×Bool))(xs:List Int)(b:Int):List D:=(cG fs).map (cB xs b)
def zJ{j:Nat}(h:(aF fs xs b)[j]?=some d):d=.non\/∃i,d=.int i:=by
 unfold aF at h;rw[Zh] at h
 cases q:(cG fs)[j]? with
 |none=>rw[q] at h;cases h
 |some f =>
  rw[q] at h;cases h;exact kO
def eK:(aF fs xs b).length=fs.length+1:=by unfold aF;simp
def xK{v:Nat}(h:(cG fs)[v]?=some f):(aF fs xs b)[v]?=some (cB xs b f):=by
 unfold aF;rw[Zh,h];rfl
def lE{v:Nat}(h:(cG fs)[v]?=some f):(aF fs xs b).getD v .non=cB xs b f:=by
 rw[List.getD_eq_getElem?_getD,xK h];rfl
def aGx(h:v.d=.lst ds):aD (.enum 0) [.val v] U=some (dY 0 ds,none):=by simp only[aD,h]
noncomputable def i8(lo hi:Int)(fs:List (Int×Int×Bool))(xs:List Int)(b:Int):List (List Int):=xW (fs.length+1) λj=>hV lo hi ((aF fs xs b).getD j .non)
def HA(hl:fs.length<=900) :
  run T W (n+4) "Range.broken" [.sh (.ins "Range" ["low","high"] [.int lo,.int hi]),.sh (aA no ba oc fs rs),~~~xs,.sh (.int b)]=some (.ok (.ow (.lst (aE (i8 lo hi fs xs b)))),[.sh (.ins "Range" ["low","high"] [.int lo,.int hi]),.sh (aA no ba oc fs rs),~~~xs,.sh (.int b)]):=by
 rw[a8 A4 rfl rfl];unfold iL;have hc:run T W (n+3) "chord" _=some (.ok (.ow (.lst (aF fs xs b))),_):=nI (no:=no) (ba:=ba) (oc:=oc) (fs:=fs) (rs:=rs) (xs:=xs) (b:=b) (by omega);have hi2:aD (.enum 0) [.val (.ow (.lst (aF fs xs b)))] [.sh (.ins "Range" ["low","high"] [.int lo,.int hi]),.sh (aA no ba oc fs rs),~~~xs,.sh (.int b)]=some (dY 0 (aF fs xs b),none):=aGx rfl
 obtain⟨Ui,e,t2,t3,rfl,ht2,ht3⟩:=rP (tests:=dI T.pins (run T W (n+3)) [.meth 0 "forbids" fO [.var 3]]) (elt:=ev T.pins (run T W (n+3)) false jR) (bind:=aU false [2,3]) (ds:=dY 0 (aF fs xs b))
  (λj=>hV lo hi ((aF fs xs b).getD j .non)) (λ(j:Nat)=>.tup [.int j])
  (λU=>∃(t2 t3:Sl),U=[.sh (.ins "Range" ["low","high"] [.int lo,.int hi]),.un,t2,t3]/\bB t2=true/\bB t3=true)
  (λj d hd U hU=>by
   obtain⟨t2,t3,rfl,ht2,ht3⟩:=hU
   have hj:j<(aF fs xs b).length:=by
    have:=(Zc.mp hd).1
    rwa[gF] at this
   have hg:=Zb hj;rw[oX hg,Int.zero_add] at hd;cases hd;generalize (aF fs xs b)[j]=x at hg;have hgd:(aF fs xs b).getD j .non=x:=by rw[List.getD_eq_getElem?_getD,hg];rfl
   have hk:=zJ hg;have hf:=C2 (W:=W) (n:=n+2) (lo:=lo) (hi:=hi) hk;refine⟨_,[.sh (.ins "Range" ["low","high"] [.int lo,.int hi]),.un,.sh (.int j),.sh x],by simp only[eM,aZ ht2,aZ ht3]<;>rfl, ?_,λ_=>?_,λ_=>?_⟩
   ·simp only[hgd]
    walk_at "!gM"
   ·refine⟨.sh (.tup [.int j]),[.sh (.ins "Range" ["low","high"] [.int lo,.int hi]),.un,.sh (.int j),.sh x], ?_,rfl,_,_,rfl,rfl,rfl⟩;unfold jR
    walk_at "!gM"
   ·exact⟨_,_,rfl,rfl,rfl⟩)
  [.sh (.ins "Range" ["low","high"] [.int lo,.int hi]),.un,.un,.un] ⟨_,_,rfl,rfl,rfl⟩
 rw[gF,eK,PN] at e;have hB:xW (fs.length+1) (λj=>hV lo hi ((aF fs xs b).getD j .non))=i8 lo hi fs xs b:=rfl;rw[hB] at e
 have hsm:aJ (aE (i8 lo hi fs xs b)).length=true:=bD (by
  have:=xJ (n:=fs.length+1) (sel:=λj=>hV lo hi ((aF fs xs b).getD j .non)) (by omega)
  unfold aE i8;simp only[List.length_map]
  omega)
 walk_at "!gM"
 rw[eP hi2]
 walk_at "!gM"
noncomputable def fV(m v:Nat)(P:Nat->Nat->Bool):List (List Int):=((List.range m).filter λj=>P v (v+1+j)).map λ(j:Nat)=>[(v:Int),((v+1+j:Nat):Int)]
noncomputable def dF(n:Nat)(P:Nat->Nat->Bool):List (List Int):=(List.range n).flatMap λv=>fV (n-(v+1)) v P
def NL:fV (m+1) v P=fV m v P++(if P v (v+1+m)=true then [[(v:Int),((v+1+m:Nat):Int)]] else []):=by
 unfold fV;rw[List.range_succ,List.filter_append,zd];congr 1;by_cases h:P v (v+1+m)=true
 ·simp[h]
 ·simp[h]
def FQ:(fV m v P).length<=m:=by
 unfold fV;rw[List.length_map]
 have:=List.length_filter_le (λj=>P v (v+1+j)) (List.range m)
 simpa using this
def wR:(List.range (m+1)).flatMap (λv=>fV (n-(v+1)) v P)=(List.range m).flatMap (λv=>fV (n-(v+1)) v P)++fV (n-(m+1)) m P:=by
 rw[List.range_succ,List.flatMap_append];simp
theorem xP:∀(m:Nat),((List.range m).flatMap (λv=>fV (n-(v+1)) v P)).length<=m*n
 | 0=>by simp
 |m+1=>by(rw[wR,Za];have h1:=xP (n:=n) (P:=P) m;have h2:=FQ (m:=n-(m+1)) (v:=m) (P:=P);rw[Nat.succ_mul];omega)
def nS(hn:n<=30):(dF n P).length<=1000:=by
 have h1:=xP (n:=n) (P:=P) n;have h2:n*n<=30*30:=Nat.mul_le_mul hn hn;unfold dF;omega
def oY:aE (a++b)=aE a++aE b:=by unfold aE;rw[zd]
def eE:(aE a).length=a.length:=by unfold aE;rw[List.length_map]
def xR(E:List D->Sl->Sl->Env)(P:Nat->Nat->Bool)(n v:Nat)(acc:List (List Int))(ha:acc.length<=10000)(hn:n<=1000)
  (hb:∀(a:List D) (t:Sl) (d:D),bB t=true->aU true [iw] d (E a (.sh (.int v)) t)=some (E a (.sh (.int v)) (.sh d)))
  (hs:∀(a:List (List Int)) (w:Nat),v<w->w<n->a.length<=20000->body (E (aE a) (.sh (.int v)) (.sh (.int w)))=some (.nx,E (aE (a++(if P v w=true then [[(v:Int),(w:Int)]] else []))) (.sh (.int v)) (.sh (.int w)))) (t:Sl) (ht:bB t=true) :
  ∃t',bZ (aU true [iw]) body ((List.range (n-(v+1))).map λ(j:Nat)=>.int ((v:Int)+1+(j:Int))) (E (aE acc) (.sh (.int v)) t)=some (.nx,E (aE (acc++fV (n-(v+1)) v P)) (.sh (.int v)) t')/\bB t'=true:=by
 obtain⟨U',e,t',rfl,ht'⟩:=d8 (bind:=aU true [iw]) (λpre U=>∃t',U=E (aE (acc++fV pre.length v P)) (.sh (.int v)) t'/\bB t'=true)
  (ds:=(List.range (n-(v+1))).map λ(j:Nat)=>.int ((v:Int)+1+(j:Int))) (λpre d post hds U hU=>by
   obtain⟨t',rfl,ht'⟩:=hU
   have hlen:pre.length<n-(v+1):=by
    have:=congrArg List.length hds
    simp at this;omega
   have hd:d=.int (((v+1+pre.length:Nat)):Int):=by
    have h1:((List.range (n-(v+1))).map λ(j:Nat)=>D.int ((v:Int)+1+(j:Int)))[pre.length]?=some d:=by rw[hds];simp
    rw[Zh,List.getElem?_range hlen] at h1;simp only[Option.map_some,Option.some.injEq] at h1;rw[<- h1];congr 1
   subst hd;refine⟨_,hb _ _ _ ht',_,hs _ (v+1+pre.length) (by omega) (by omega) ?_,.sh (.int ((v+1+pre.length:Nat):Int)), ?_,rfl⟩
   ·have:=FQ (m:=pre.length) (v:=v) (P:=P)
    rw[Za];omega
   ·rw[Za,Zk,List.length_nil,NL,List.append_assoc])
  (U:=E (aE acc) (.sh (.int v)) t) ⟨t,by simp[fV],ht⟩
 refine⟨t', ?_,ht'⟩;rw[e];simp
def rN(E:List D->Sl->Sl->Env)(P:Nat->Nat->Bool)(n:Nat)(hn:n<=30)
  (hb:∀(a:List D) (t t2:Sl) (d:D),bB t=true->aU true [iv] d (E a t t2)=some (E a (.sh d) t2))
  (hs:∀(acc:List (List Int)) (v:Nat) (t:Sl),v<n->acc.length<=10000->bB t=true->∃t',body (E (aE acc) (.sh (.int v)) t)=some (.nx,E (aE (acc++fV (n-(v+1)) v P)) (.sh (.int v)) t')/\bB t'=true) (t t2:Sl) (ht:bB t=true) (ht2:bB t2=true) :
  ∃t' t2',bZ (aU true [iv]) body (rg n) (E [] t t2)=some (.nx,E (aE (dF n P)) t' t2')/\bB t'=true/\bB t2'=true:=by
 obtain⟨U',e,t',t2',rfl,ht',ht2'⟩:=d8 (bind:=aU true [iv]) (λpre U=>∃t' t2',U=E (aE ((List.range pre.length).flatMap λv=>fV (n-(v+1)) v P)) t' t2'/\bB t'=true/\bB t2'=true)
  (ds:=rg n) (λpre d post hds U hU=>by
   obtain⟨t',t2',rfl,ht',ht2'⟩:=hU
   have hlen:pre.length<n:=by
    have:=congrArg List.length hds
    simp at this;omega
   have hd:d=.int ((pre.length:Nat):Int):=by
    have h1:(rg n)[pre.length]?=some d:=by rw[hds];simp
    rw[Zh,List.getElem?_range hlen] at h1;simp only[Option.map_some,Option.some.injEq] at h1;exact h1.symm
   subst hd
   obtain⟨t3,h3,h4⟩:=hs ((List.range pre.length).flatMap λv=>fV (n-(v+1)) v P) pre.length t2' hlen (by
    have h1:=xP (n:=n) (P:=P) pre.length;have h2:pre.length*n<=30*30:=Nat.mul_le_mul (by omega) hn
    omega) ht2'
   refine⟨_,hb _ _ _ _ ht',_,h3,.sh (.int ((pre.length:Nat):Int)),_, ?_,rfl,h4⟩
   rw[Za,Zk,List.length_nil,wR])
  (U:=E [] t t2) ⟨t,t2,by simp[aE],ht,ht2⟩
 refine⟨t',t2', ?_,ht',ht2'⟩;rw[e];unfold dF;simp
noncomputable def lI:D->Bool
 |.non=>true
 |_=>false
noncomputable def cD(hs:List D)(v w:Nat):Bool:=!lI (hs.getD v .non) && !lI (hs.getD w .non)
def JF(hs:List D):Prop:=∀d∈hs,d=.non\/∃i,d=.int i
def pJ:JF (aF fs xs b):=λd hd=>by
 obtain⟨f,_,rfl⟩:=zl.mp hd;exact kO
def eO(h:JF hs)(hv:v<hs.length):∃d,L2.cV hs (v:Int)=some d/\hs.getD v .non=d/\(d=.non\/∃i,d=.int i):=by
 refine⟨hs[v],L2.lV (Zb hv), ?_,h _ (List.getElem_mem hv)⟩;rw[List.getD_eq_getElem?_getD,Zb hv];rfl
def sQ(hh:JF hs)(hl:hs.length<=30) :
  run T W (n+1) "sounding_pairs" [.p (.lst hs)]=some (.ok (.ow (.lst (aE (dF hs.length (cD hs))))),[.p (.lst hs)]):=by
 rw[a8 xN rfl rfl];unfold fZ
 have hi:aD .rng [.val (.sh (.int hs.length))] [.p (.lst hs),.o (.lst []),.un,.un]=some (rg hs.length,none):=by(refine Eq.trans (nG (n:=(hs.length:Int)) rfl (by omega) (by omega)) ?_;rw[Int.toNat_natCast])
 obtain⟨t',t2',e,ht',ht2'⟩:=rN (iv:=2) (body:=exs T.pins (run T W n) W iG) (λa t t2=>[.p (.lst hs),.o (.lst a),t,t2]) (cD hs) hs.length hl
  (λa t t2 d ht=>by simp only[eM,aZ ht])
  (λacc v t hv hac ht=>by
   have hi2:aD .rng [.val (.sh (.int ((v:Int)+1))),.val (.sh (.int hs.length))] [.p (.lst hs),.o (.lst (aE acc)),.sh (.int v),t]=some ((List.range (hs.length-(v+1))).map λ(j:Nat)=>.int ((v:Int)+1+(j:Int)),none):=by(refine Eq.trans (ML (m:=(v:Int)+1) (n:=(hs.length:Int)) rfl rfl (by omega) (by omega)) ?_;rw[show((hs.length:Int)-((v:Int)+1)).toNat=hs.length-(v+1) from by omega])
   obtain⟨t3,e3,h3⟩:=xR (iw:=3) (body:=exs T.pins (run T W n) W iI) (λa t t2=>[.p (.lst hs),.o (.lst a),t,t2]) (cD hs) hs.length v acc hac (by omega)
    (λa t d ht=>by simp only[eM,aZ ht])
    (λa w hvw hw hal=>by
     obtain⟨d1,a1,g1,k1⟩:=eO hh hv;obtain⟨d2,a2,g2,k2⟩:=eO hh hw;have hsm:aJ ((aE a).length+1)=true:=bD (by rw[eE];omega);unfold iI cD;rw[g1,g2];rcases k1 with rfl | ⟨i1,rfl⟩
     ·have e:lI .non=true:=rfl
      walk_at "!%"
      all_goals (try simp only[List.append_nil])
     ·have e1:lI (.int i1)=false:=rfl;rcases k2 with rfl | ⟨i2,rfl⟩
      ·have e:lI .non=true:=rfl
       walk_at "!%"
       all_goals (try simp only[List.append_nil])
      ·have e:lI (.int i2)=false:=rfl;have et:aE (a++[[(v:Int),(w:Int)]])=aE a++[.tup [.int v,.int w]]:=by rw[oY];rfl
       walk_at "!%") t ht
   refine⟨t3, ?_,h3⟩;unfold iG
   walk_at "!%") .un .un rfl rfl
 walk_at "!%"
noncomputable def bY(i:Int):Int:=if i<0 then -i else i
theorem cC{i:Int}:(if i<0 then -i else i)=bY i:=rfl
noncomputable def gx(xs:List Int)(i:Nat):Int:=xs.getD i 0
def lL{xs:List Int}(h:k<xs.length):L2.cV (xs.map D.int) (k:Int)=some (.int (gx xs k)):=zA h
def zL(h:k<xs.length):gx xs k∈xs:=by
 unfold gx;rw[List.getD_eq_getElem?_getD,Zb h];simp
noncomputable def eB(c:Bool):List (List Int):=if c=true then [[]] else []
def xO:(eB c).length<=1000:=by cases c<;>decide
def AY{c:Bool}:bX .Mult (.lst [.tup []]) (.int (if c=true then 1 else 0))=some (.ow (.lst (aE (eB c)))):=by
 cases c<;>exact zD (by decide) (by decide) (cZ (by decide))
noncomputable def j9(mo:Int)(xs:List Int):Nat->Bool
 | 0=>false
 |b+1=>decide (mo<bY (gx xs (b+1)-gx xs b))
def IC{b:Nat}(hb:b<xs.length) :
  run T W (n+1) "Leap.broken" [.sh (.ins "Leap" ["most"] [.int mo]),.sh h,~~~xs,.sh (.int b)]=some (.ok (.ow (.lst (aE (eB (j9 mo xs b))))),[.sh (.ins "Leap" ["most"] [.int mo]),.sh h,~~~xs,.sh (.int b)]):=by
 rw[a8 DN rfl rfl];unfold jI
 match b,hb with
 | 0,hb =>
  have e:aE (eB (j9 mo xs 0))=[]:=rfl;have c:decide (0<((0:Nat):Int))=false:=rfl
  walk_at "!mU % cC"
 |b+1,hb =>
  have c:decide (0<((b+1:Nat):Int))=true:=Zn (by omega);have i1:((b+1:Nat):Int)-1=((b:Nat):Int):=by omega
  have a0:=lL (xs:=xs) (k:=b) (by omega);have a1:=lL (k:=b+1) (by omega);have ev:j9 mo xs (b+1)=decide (mo<bY (gx xs (b+1)-gx xs b)):=rfl;cases c1:decide (mo<bY (gx xs (b+1)-gx xs b))
  ·have e:aE (eB (j9 mo xs (b+1)))=[]:=by rw[ev,c1];rfl
   clear ev
   walk_at "!mU % cC"
  ·have e:aE (eB (j9 mo xs (b+1)))=[.tup []]:=by rw[ev,c1];rfl
   clear ev
   walk_at "!mU % cC"
noncomputable def lD(m:Nat)(xs:List Int)(b:Nat):List Int:=(xs.drop (b-m)).take m
noncomputable def eG(m:Nat)(xs:List Int)(b:Nat):Bool:=decide ((m:Int)<=(b:Int))&&(lD m xs b).all λz=>decide (z=gx xs b)
def JX{xs:List Int}(h:m<=b)(hb:b<=e)(he:e<=xs.length):kY (some (.lst (xs.map D.int))) (some (.int ((b:Int)-(m:Int)))) (some (.int e))=some (.ow (.lst (((xs.drop (b-m)).take (m+(e-b))).map D.int))):=by
 have e1:(b:Int)-(m:Int)=((b-m:Nat):Int):=by omega
 show some (RV.ow (.lst (iC (xs.map D.int) (some ((b:Int)-(m:Int))) (some (e:Int)))))=_;rw[e1];unfold iC;rw[HT.jF,HT.jF,List.length_map,Nat.min_eq_left (by omega),Nat.min_eq_left (by omega),<- List.map_drop,<- List.map_take,show e-(b-m)=m+(e-b) from by omega]
def qV{Z:List Int}{p:Int->Bool}:gG .all [.lst (Z.map λz=>.bl (p z))]=some (.sh (.bl (Z.all p))):=by
 have h:eD (Z.map λz=>.bl (p z))=some (Z.map p):=by
  induction Z with
  |nil=>rfl
  |cons z Z ih=>simp[eD,ih]
 show(eD _).map _=_;rw[h];simp[List.all_map]
def FG{m:Nat}{b:Nat}(hb:b<xs.length)(hm:m<=3) :
  run T W (n+1) "Again.broken" [.sh (.ins "Again" ["most"] [.int m]),.sh h,~~~xs,.sh (.int b)]=some (.ok (.ow (.lst (aE (eB (eG m xs b))))),[.sh (.ins "Again" ["most"] [.int m]),.sh h,~~~xs,.sh (.int b)]):=by
 rw[a8 BJ rfl rfl];unfold iQ;by_cases c:(b:Int)<(m:Int)
 ·have c':decide ((b:Int)<(m:Int))=true:=Zn c
  have e:aE (eB (eG m xs b))=[]:=by(unfold eG;rw[Zm (by omega)];rfl)
  walk_at "!fA qV %"
 ·have c':decide ((b:Int)<(m:Int))=false:=Zm c;have hs:=JX (xs:=xs) (m:=m) (e:=b) (by omega) (Zq _) (by omega);rw[Nat.sub_self,Nat.add_zero] at hs;have hZ:((xs.drop (b-m)).take m)=lD m xs b:=rfl;rw[hZ] at hs
  have hv:eG m xs b=(lD m xs b).all λz=>decide (z=gx xs b):=by(unfold eG;rw[Zn (by omega),Bool.true_and])
  have hzl:(lD m xs b).length<=3:=by unfold lD;rw[List.length_take];omega
  have a0:=lL (k:=b) hb
  generalize lD m xs b=Z at *
  have hi:aD .of [.val (.ow (.lst (Z.map D.int)))] [.sh (.ins "Again" ["most"] [.int m]),.sh h,~~~xs,.sh (.int b)]=some (Z.map D.int,none):=D3 rfl
  obtain⟨acc,Ui,e,⟨t4,rfl,ht4,rfl⟩,hz⟩:=fQ (tests:=dI T.pins (run T W n) []) (elt:=ev T.pins (run T W n) false jK) (bind:=aU true [3]) (ds:=Z.map D.int)
   (λj acc U=>∃(t4:Sl),U=[.sh (.int b),~~~xs,.un,t4]/\bB t4=true/\acc=(Z.take j).map λz=>.bl (decide (z=gx xs b)))
   (λj d hd acc U hU=>by
    obtain⟨t4,rfl,ht4,rfl⟩:=hU;obtain⟨z,hz,rfl⟩:∃z,Z[j]?=some z/\D.int z=d:=by simpa using hd
    refine⟨_,true,_,by simp only[eM,aZ ht4]<;>rfl,gS,λ_=>?_,λz=>nomatch z⟩;refine⟨.sh (.bl (decide (z=gx xs b))),[.sh (.int b),~~~xs,.un,.sh (.int z)], ?_,_,rfl,rfl, ?_⟩
    ·unfold jK
     walk_at "!fA qV %"
    ·rw[List.take_succ,hz,zd]
     rfl)
   [] [.sh (.int b),~~~xs,.un,.un] ⟨_,rfl,rfl,rfl⟩
  have ht:Z.take (Z.map D.int).length=Z:=by(rw[zf];simp)
  rw[ht] at e;have hsm:aJ (Z.map λz=>D.bl (decide (z=gx xs b))).length=true:=bD (by simp;omega);have hsm2:aJ Z.length=true:=bD (by omega);cases c1:Z.all λz=>decide (z=gx xs b)
  ·have e2:aE (eB (eG m xs b))=[]:=by rw[hv,c1];rfl
   clear hv
   walk_at "!fA qV %"
   rw[eP hi]
   walk_at "!fA qV %"
  ·have e2:aE (eB (eG m xs b))=[.tup []]:=by rw[hv,c1];rfl
   clear hv
   walk_at "!fA qV %"
   rw[eP hi]
   walk_at "!fA qV %"
def vN{W n:Nat}{mo:Int}{xs:List Int}{b:Nat}(hb:b<xs.length) :
  run T W (n+1) "L_by_line" [.sh (.tup [.str "leap",.int mo]),~~~xs,.sh (.int b)]=some (.ok (.sh (.bl (j9 mo xs b))),[.sh (.tup [.str "leap",.int mo]),~~~xs,.sh (.int b)]):=by
 rw[a8 pN rfl rfl];unfold f6
 match b,hb with
 | 0,hb =>
  have e:j9 mo xs 0=false:=rfl;have c:decide (0<((0:Nat):Int))=false:=rfl
  walk_at "!aX % cC"
 |b+1,hb =>
  have c:decide (0<((b+1:Nat):Int))=true:=Zn (by omega);have i1:((b+1:Nat):Int)-1=((b:Nat):Int):=by omega
  have a0:=lL (xs:=xs) (k:=b) (by omega);have a1:=lL (k:=b+1) (by omega);have ev:j9 mo xs (b+1)=decide (mo<bY (gx xs (b+1)-gx xs b)):=rfl
  walk_at "!aX % cC"
theorem WN:∀(l acc:List Int),acc.length<=(l.foldl PyProof.Rows.step_dedup acc).length
 |[],_=>Zq _
 |a::l,acc=>by
  refine Zr ?_ (WN l _);unfold PyProof.Rows.step_dedup;split
  ·exact Zq _
  ·simp
theorem QW(y:Int):∀l:List Int,decide (((l.foldl PyProof.Rows.step_dedup [y]).length:Int)=1)=l.all λz=>decide (z=y)
 |[]=>rfl
 |a::l=>by
  by_cases h:a=y
  ·subst h;have e:PyProof.Rows.step_dedup [a] a=[a]:=by unfold PyProof.Rows.step_dedup;simp
   rw[List.foldl_cons,e,QW a l];simp
  ·have e:PyProof.Rows.step_dedup [y] a=[y,a]:=by
    unfold PyProof.Rows.step_dedup;rw[Zp]
    ·rfl
    ·simp;omega
   have g:=WN l [y,a];rw[List.foldl_cons,e,Zm (by simp only[Zk,List.length_nil] at g;omega)];simp[h]
theorem lZ:∀l:List Int,d7 (l.map D.int)=some l
 |[]=>rfl
 |a::l=>by simp only[Zs,d7,lZ l,Option.map_some]
def ns_{l:List Int}(h:l.length<=1000):nsO (some (.lst (l.map D.int)))=some (.sh (.int ((l.foldl PyProof.Rows.step_dedup []).length:Int))):=by
 show y4 (.lst (l.map D.int))=_;unfold y4;simp only[lZ,Zo h];unfold PyProof.Rows.firstMet
 have e:(List.range l.length).map (λi=>l.getD i 0)=l:=by
  apply List.ext_getElem
  ·simp
  ·intro i h1 h2;simp[h2]
 rw[e]
def aAE{x:Int}(hZ:Z≠[]):decide ((((Z++[x]).foldl PyProof.Rows.step_dedup []).length:Int)=1)=Z.all λz=>decide (z=x):=by
 match Z,hZ with
 |y::Z,_ =>
  have e:PyProof.Rows.step_dedup [] y=[y]:=rfl;rw[List.cons_append,List.foldl_cons,e,QW];rw[List.all_append,Zj,Zj,List.all_nil,Bool.and_true];by_cases h:x=y
  ·subst h;simp
  ·have h':¬y=x:=λz=>h z.symm
   simp[h,h']
def NZ(h:m<=b)(hb:b<xs.length):(xs.drop (b-m)).take (m+(b+1-b))=lD m xs b++[gx xs b]:=by
 unfold lD gx;rw[show m+(b+1-b)=m+1 from by omega,List.take_succ,List.getElem?_drop,show b-m+m=b from by omega,List.getD_eq_getElem?_getD,Zb hb];rfl
def sU{W n:Nat}{m:Nat}{xs:List Int}{b:Nat}(hb:b<xs.length)(h1:1<=m)(h3:m<=3) :
  run T W (n+1) "L_by_line" [.sh (.tup [.str "again",.int m]),~~~xs,.sh (.int b)]=some (.ok (.sh (.bl (eG m xs b))),[.sh (.tup [.str "again",.int m]),~~~xs,.sh (.int b)]):=by
 rw[a8 pN rfl rfl];unfold f6;by_cases c:(m:Int)<=(b:Int)
 ·have c':decide ((m:Int)<=(b:Int))=true:=Zn c
  have ev:eG m xs b=(lD m xs b).all λz=>decide (z=gx xs b):=by(unfold eG;rw[c',Bool.true_and])
  have hl:(lD m xs b).length=m:=by unfold lD;rw[List.length_take,List.length_drop];omega
  have hs:=JX (xs:=xs) (m:=m) (b:=b) (e:=b+1) (by omega) (by omega) (by omega);rw[NZ (by omega) hb,show((b+1:Nat):Int)=(b:Int)+1 from by omega] at hs;have hn:=ns_ (l:=lD m xs b++[gx xs b]) (by simp;omega);have hd:=aAE (Z:=lD m xs b) (x:=gx xs b) (λz=>by rw[z] at hl;simp at hl;omega);rw[<- ev] at hd
  walk_at "!aX % cC"
 ·have c':decide ((m:Int)<=(b:Int))=false:=Zm c;have e:eG m xs b=false:=by unfold eG;rw[c'];rfl
  walk_at "!aX % cC"
def IH{b:Nat}(hl:fs.length<=1000)(hb:b<xs.length) :
  run T W (n+2) "L_broken" [.sh (aA no ba oc fs rs),.sh (.tup [.str "leap",.int mo]),~~~xs,.sh (.int b)]=some (.ok (.ow (.lst (aE (eB (j9 mo xs b))))),[.sh (aA no ba oc fs rs),.sh (.tup [.str "leap",.int mo]),~~~xs,.sh (.int b)]):=by
 rw[a8 gW rfl rfl];unfold dO
 walk_at "!aX eU vN sU AY %"
def GX{m:Nat}{b:Nat}(hl:fs.length<=1000)(hb:b<xs.length)(h1:1<=m)(h3:m<=3) :
  run T W (n+2) "L_broken" [.sh (aA no ba oc fs rs),.sh (.tup [.str "again",.int m]),~~~xs,.sh (.int b)]=some (.ok (.ow (.lst (aE (eB (eG m xs b))))),[.sh (aA no ba oc fs rs),.sh (.tup [.str "again",.int m]),~~~xs,.sh (.int b)]):=by
 rw[a8 gW rfl rfl];unfold dO
 walk_at "!aX eU vN sU AY %"
def GZ:run T W (n+1) "rule_of" [.sh (.tup [.str "leap",a])]=some (.ok (.sh (.ins "Leap" ["most"] [a])),[.sh (.tup [.str "leap",a])]):=by
 rw[a8 iX rfl rfl];unfold d9
 walk_at "!aX"
def DK:run T W (n+1) "rule_of" [.sh (.tup [.str "again",a])]=some (.ok (.sh (.ins "Again" ["most"] [a])),[.sh (.tup [.str "again",a])]):=by
 rw[a8 iX rfl rfl];unfold d9
 walk_at "!aX"
noncomputable def fX(lp mo:Int)(xs:List Int):Nat->Bool
 | 0=>false
 | 1=>false
 |b+2=>decide (lp<=bY (gx xs (b+1)-gx xs b)) && !(decide ((gx xs (b+1)-gx xs b)*(gx xs (b+2)-gx xs (b+1))<0)&&decide (bY (gx xs (b+2)-gx xs (b+1))<=mo))
def HY{b:Nat}(hb:b<xs.length)(hx:∀x∈xs,0<=x/\x<100) :
  run T W (n+1) "Back.broken" [.sh (.ins "Back" ["leap","most"] [.int lp,.int mo]),.sh h,~~~xs,.sh (.int b)]=some (.ok (.ow (.lst (aE (eB (fX lp mo xs b))))),[.sh (.ins "Back" ["leap","most"] [.int lp,.int mo]),.sh h,~~~xs,.sh (.int b)]):=by
 rw[a8 C5 rfl rfl];unfold jG
 match b,hb with
 | 0,hb =>
  have e:aE (eB (fX lp mo xs 0))=[]:=rfl;have c:decide (((0:Nat):Int)<2)=true:=rfl
  walk_at "!fL fM % cC"
 | 1,hb =>
  have e:aE (eB (fX lp mo xs 1))=[]:=rfl;have c:decide (((1:Nat):Int)<2)=true:=rfl
  walk_at "!fL fM % cC"
 |b+2,hb =>
  have c:decide (((b+2:Nat):Int)<2)=false:=Zm (by omega);have i1:((b+2:Nat):Int)-1=((b+1:Nat):Int):=by omega
  have i2:((b+2:Nat):Int)-2=((b:Nat):Int):=by omega
  have a0:=lL (xs:=xs) (k:=b) (by omega);have a1:=lL (xs:=xs) (k:=b+1) (by omega);have a2:=lL (k:=b+2) (by omega);have x0:=hx _ (zL (k:=b) (by omega));have x1:=hx _ (zL (k:=b+1) (by omega));have x2:=hx _ (zL (k:=b+2) (by omega));have ev:fX lp mo xs (b+2)=(decide (lp<=bY (gx xs (b+1)-gx xs b)) && !(decide ((gx xs (b+1)-gx xs b)*(gx xs (b+2)-gx xs (b+1))<0)&&decide (bY (gx xs (b+2)-gx xs (b+1))<=mo))):=rfl
  generalize gx xs b=p0 at *
  generalize gx xs (b+1)=p1 at *
  generalize gx xs (b+2)=p2 at *
  have m1:-18446744073709551616<p1-p0:=by omega
  have m2:p1-p0<18446744073709551616:=by omega
  by_cases c1:bY (p1-p0)<lp
  ·have c1':decide (bY (p1-p0)<lp)=true:=Zn c1;have c1'':decide (lp<=bY (p1-p0))=false:=Zm (by omega);have e:aE (eB (fX lp mo xs (b+2)))=[]:=by rw[ev,c1''];rfl
   clear ev c1
   walk_at "!fL fM % cC"
  ·have c1':decide (bY (p1-p0)<lp)=false:=Zm c1;have c1'':decide (lp<=bY (p1-p0))=true:=Zn (by omega);by_cases c2:(p1-p0)*(p2-p1)<0
   ·have c2':decide ((p1-p0)*(p2-p1)<0)=true:=Zn c2;by_cases c3:bY (p2-p1)<=mo
    ·have c3':decide (bY (p2-p1)<=mo)=true:=Zn c3;have e:aE (eB (fX lp mo xs (b+2)))=[]:=by rw[ev,c1'',c2',c3'];rfl
     clear ev c1 c2 c3
     walk_at "!fL fM % cC"
    ·have c3':decide (bY (p2-p1)<=mo)=false:=Zm c3;have e:aE (eB (fX lp mo xs (b+2)))=[.tup []]:=by rw[ev,c1'',c2',c3'];rfl
     clear ev c1 c2 c3
     walk_at "!fL fM % cC"
   ·have c2':decide ((p1-p0)*(p2-p1)<0)=false:=Zm c2;have e:aE (eB (fX lp mo xs (b+2)))=[.tup []]:=by rw[ev,c1'',c2'];rfl
    clear ev c1 c2
    walk_at "!fL fM % cC"
def wD{a h:Int}(ha:a≠0):a*h<0↔(a<0/\0<h)\/(0<a/\h<0):=by
 constructor
 ·intro q;rcases Int.lt_trichotomy a 0 with c | c | c
  ·rcases Int.lt_trichotomy h 0 with d | d | d
   ·exact absurd (Int.mul_pos_of_neg_of_neg c d) (by omega)
   ·rw[d,Int.mul_zero] at q;omega
   ·exact .inl ⟨c,d⟩
  ·exact absurd c ha
  ·rcases Int.lt_trichotomy h 0 with d | d | d
   ·exact .inr ⟨c,d⟩
   ·rw[d,Int.mul_zero] at q;omega
   ·exact absurd (Int.mul_pos c d) (by omega)
 ·rintro(⟨c,d⟩ | ⟨c,d⟩)
  ·exact Int.mul_neg_of_neg_of_pos c d
  ·exact Int.mul_neg_of_pos_of_neg c d
def HF{W n:Nat}{lp mo:Int}{xs:List Int}{b:Nat}(hb:b<xs.length)(hlp:1<=lp) :
  run T W (n+1) "L_by_line" [.sh (.tup [.str "back",.int lp,.int mo]),~~~xs,.sh (.int b)]=some (.ok (.sh (.bl (fX lp mo xs b))),[.sh (.tup [.str "back",.int lp,.int mo]),~~~xs,.sh (.int b)]):=by
 rw[a8 pN rfl rfl];unfold f6
 match b,hb with
 | 0,hb =>
  have e:fX lp mo xs 0=false:=rfl;have c:decide (((0:Nat):Int)<2)=true:=rfl
  walk_at "!aX % cC"
 | 1,hb =>
  have e:fX lp mo xs 1=false:=rfl;have c:decide (((1:Nat):Int)<2)=true:=rfl
  walk_at "!aX % cC"
 |b+2,hb =>
  have c:decide (((b+2:Nat):Int)<2)=false:=Zm (by omega);have i1:((b+2:Nat):Int)-1=((b+1:Nat):Int):=by omega
  have i2:((b+2:Nat):Int)-2=((b:Nat):Int):=by omega
  have a0:=lL (xs:=xs) (k:=b) (by omega);have a1:=lL (xs:=xs) (k:=b+1) (by omega);have a2:=lL (k:=b+2) (by omega);have ev:fX lp mo xs (b+2)=(decide (lp<=bY (gx xs (b+1)-gx xs b)) && !(decide ((gx xs (b+1)-gx xs b)*(gx xs (b+2)-gx xs (b+1))<0)&&decide (bY (gx xs (b+2)-gx xs (b+1))<=mo))):=rfl
  generalize gx xs b=p0 at *
  generalize gx xs (b+1)=p1 at *
  generalize gx xs (b+2)=p2 at *
  by_cases c1:lp<=bY (p1-p0)
  ·have c1':decide (lp<=bY (p1-p0))=true:=Zn c1;have hne:p1-p0≠0:=λz=>by rw[z] at c1;simp only[bY] at c1;omega
   by_cases c0:p1-p0<0
   ·have c0':decide (p1-p0<0)=true:=Zn c0;by_cases c2:0<0-(p1-p2)
    ·have c2':decide (0<0-(p1-p2))=true:=Zn c2;have q:decide ((p1-p0)*(p2-p1)<0)=true:=Zn ((wD hne).mpr (.inl ⟨c0,by omega⟩));have q2:bY (p2-p1)=0-(p1-p2):=by unfold bY;rw[Zp (by omega)];omega
     rw[ev,c1',q,q2];clear ev c0 c2 q q2 c1 hne hlp
     walk_at "!aX % cC"
    ·have c2':decide (0<0-(p1-p2))=false:=Zm c2;have q:decide ((p1-p0)*(p2-p1)<0)=false:=Zm (λz=>by rcases(wD hne).mp z with z | z<;>omega);rw[ev,c1',q];clear ev c0 c2 q c1 hne hlp
     walk_at "!aX % cC"
   ·have c0':decide (p1-p0<0)=false:=Zm c0;by_cases c2:0<p1-p2
    ·have c2':decide (0<p1-p2)=true:=Zn c2;have q:decide ((p1-p0)*(p2-p1)<0)=true:=Zn ((wD hne).mpr (.inr ⟨by omega,by omega⟩));have q2:bY (p2-p1)=p1-p2:=by unfold bY;rw[Zo (by omega)];omega
     rw[ev,c1',q,q2];clear ev c0 c2 q q2 c1 hne hlp
     walk_at "!aX % cC"
    ·have c2':decide (0<p1-p2)=false:=Zm c2;have q:decide ((p1-p0)*(p2-p1)<0)=false:=Zm (λz=>by rcases(wD hne).mp z with z | z<;>omega);rw[ev,c1',q];clear ev c0 c2 q c1 hne hlp
     walk_at "!aX % cC"
  ·have c1':decide (lp<=bY (p1-p0))=false:=Zm c1;rw[ev,c1'];clear ev c1 hlp;by_cases c0:p1-p0<0
   ·have c0':decide (p1-p0<0)=true:=Zn c0;clear c0
    walk_at "!aX % cC"
   ·have c0':decide (p1-p0<0)=false:=Zm c0;clear c0
    walk_at "!aX % cC"
def HZ{b:Nat}(hl:fs.length<=1000)(hb:b<xs.length)(hlp:1<=lp) :
  run T W (n+2) "L_broken" [.sh (aA no ba oc fs rs),.sh (.tup [.str "back",.int lp,.int mo]),~~~xs,.sh (.int b)]=some (.ok (.ow (.lst (aE (eB (fX lp mo xs b))))),[.sh (aA no ba oc fs rs),.sh (.tup [.str "back",.int lp,.int mo]),~~~xs,.sh (.int b)]):=by
 rw[a8 gW rfl rfl];unfold dO
 walk_at "!aX eU HF AY %"
def EO:run T W (n+1) "rule_of" [.sh (.tup [.str "back",a,b])]=some (.ok (.sh (.ins "Back" ["leap","most"] [a,b])),[.sh (.tup [.str "back",a,b])]):=by
 rw[a8 iX rfl rfl];unfold d9
 walk_at "!aX"
def GB(hl:fs.length<=900) :
  run T W (n+2) "L_broken" [.sh (aA no ba oc fs rs),.sh (.tup [.str "range",.int lo,.int hi]),~~~xs,.sh (.int b)]=some (.ok (.ow (.lst (aE (i8 lo hi fs xs b)))),[.sh (aA no ba oc fs rs),.sh (.tup [.str "range",.int lo,.int hi]),~~~xs,.sh (.int b)]):=by
 rw[a8 gW rfl rfl];unfold dO;have hh:run T W (n+1) "L_heard" _=some (.ok (.ow (.lst (aF fs xs b))),_):=eU (no:=no) (ba:=ba) (oc:=oc) (rs:=rs) (xs:=xs) (b:=b) (by omega)
 have hi2:aD .rng [.val (.sh (.int ((aF fs xs b).length:Int)))] [.sh (aA no ba oc fs rs),.sh (.tup [.str "range",.int lo,.int hi]),~~~xs,.sh (.int b),.o (.lst (aF fs xs b)),.un,.un,.un,.un,.un,.un]=some (rg (fs.length+1),none):=by(have hln:=eK (fs:=fs) (xs:=xs) (b:=b);refine Eq.trans (nG (n:=((aF fs xs b).length:Int)) rfl (by omega) (by omega)) ?_;rw[Int.toNat_natCast,hln])
 obtain⟨Ui,e,t3,rfl,ht3⟩:=rP (tests:=dI T.pins (run T W (n+1)) [.and (.cmp .IsNot (.ix (.var 0) (.var 3)) (.con .non)) (.not (.cmp2 .LtE .LtE (.ix (.var 1) (.con (.int 1))) (.ix (.var 0) (.var 3)) (.ix (.var 1) (.con (.int 2)))))]) (elt:=ev T.pins (run T W (n+1)) false mR) (bind:=aU true [3]) (ds:=rg (fs.length+1))
  (λj=>hV lo hi ((aF fs xs b).getD j .non)) (λ(j:Nat)=>.tup [.int j])
  (λU=>∃(t3:Sl),U=[.p (.lst (aF fs xs b)),.sh (.tup [.str "range",.int lo,.int hi]),.un,t3]/\bB t3=true)
  (λj d hd U hU=>by
   obtain⟨t3,rfl,ht3⟩:=hU
   have hj:j<fs.length+1:=by
    have:=(Zc.mp hd).1
    simpa using this
   have hd':d=.int j:=by(rw[Zh,List.getElem?_range hj] at hd;exact(Option.some.inj hd).symm)
   subst hd';have hg:=Zb (l:=aF fs xs b) (i:=j) (by rw[eK];omega);generalize (aF fs xs b)[j]'(by rw[eK];omega)=x at hg;have hgd:(aF fs xs b).getD j .non=x:=by rw[List.getD_eq_getElem?_getD,hg];rfl
   have hk:=zJ hg;have hat:L2.cV (aF fs xs b) (j:Int)=some x:=L2.lV hg;refine⟨_,[.p (.lst (aF fs xs b)),.sh (.tup [.str "range",.int lo,.int hi]),.un,.sh (.int j)],by simp only[eM,aZ ht3]<;>rfl, ?_,λ_=>?_,λ_=>?_⟩
   ·simp only[hgd];clear hd hj hg hgd hh hi2 ht3;rcases hk with rfl | ⟨i,rfl⟩
    ·have e:hV lo hi .non=false:=rfl
     walk_at "!aX"
    ·have e:hV lo hi (.int i)=!(decide (lo<=i)&&decide (i<=hi)):=rfl;by_cases c:lo<=i
     ·have c':decide (lo<=i)=true:=Zn c;rw[e,c',Bool.true_and];clear e c
      walk_at "!aX"
     ·have c':decide (lo<=i)=false:=Zm c;rw[e,c',Bool.false_and]
      walk_at "!aX"
   ·refine⟨.sh (.tup [.int j]),[.p (.lst (aF fs xs b)),.sh (.tup [.str "range",.int lo,.int hi]),.un,.sh (.int j)], ?_,rfl,_,rfl,rfl⟩;unfold mR
    walk_at "!aX"
   ·exact⟨_,rfl,rfl⟩)
  [.p (.lst (aF fs xs b)),.sh (.tup [.str "range",.int lo,.int hi]),.un,.un] ⟨_,rfl,rfl⟩
 have hle:(rg (fs.length+1)).length=fs.length+1:=by simp
 rw[hle,PN] at e;have hB:xW (fs.length+1) (λj=>hV lo hi ((aF fs xs b).getD j .non))=i8 lo hi fs xs b:=rfl;rw[hB] at e
 have hsm:aJ (aE (i8 lo hi fs xs b)).length=true:=bD (by
  have:=xJ (n:=fs.length+1) (sel:=λj=>hV lo hi ((aF fs xs b).getD j .non)) (by omega)
  unfold aE i8;simp only[List.length_map]
  omega)
 walk_at "!aX"
 rw[eP hi2]
 walk_at "!aX"
def DH:run T W (n+1) "rule_of" [.sh (.tup [.str "range",a,b])]=some (.ok (.sh (.ins "Range" ["low","high"] [a,b])),[.sh (.tup [.str "range",a,b])]):=by
 rw[a8 iX rfl rfl];unfold d9
 walk_at "!aX"
noncomputable def jY:D->D->Bool
 |.int i,.int j=>decide (i<j)
 |_,_=>false
noncomputable def twoD(c:Bool)(a b:Int):List (List Int):=if c=true then [[a,b]] else []
def twoD_len:(twoD c a b).length<=1000:=by cases c<;>simp[twoD]
noncomputable def oG(fs:List (Int×Int×Bool))(xs:List Int)(b:Int)(v w:Nat):List (List Int):=twoD (jY ((aF fs xs b).getD v .non) ((aF fs xs b).getD w .non)) (v:Int) (w:Int)
def GG{b:Int}{v w:Nat}(hv:v<fs.length+1)(hw:w<fs.length+1) :
  run T W (n+3) "Above.broken" [.sh (.ins "Above" ["one","other"] [.int v,.int w]),.sh (aA no ba oc fs rs),~~~xs,.sh (.int b)]=some (.ok (.ow (.lst (aE (oG fs xs b v w)))),[.sh (.ins "Above" ["one","other"] [.int v,.int w]),.sh (aA no ba oc fs rs),~~~xs,.sh (.int b)]):=by
 rw[a8 AG rfl rfl];unfold iK;obtain⟨f,hf⟩:∃f,(cG fs)[v]?=some f:=⟨_,Zb (by simp;omega)⟩
 obtain⟨g,hg⟩:∃g,(cG fs)[w]?=some g:=⟨_,Zb (by simp;omega)⟩
 have h1:=uY (W:=W) (n:=n) (no:=no) (ba:=ba) (oc:=oc) (rs:=rs) (xs:=xs) (b:=b) (p:=true) hf;have h2:=uY (W:=W) (n:=n) (no:=no) (ba:=ba) (oc:=oc) (rs:=rs) (xs:=xs) (b:=b) (p:=true) hg;unfold oG;rw[lE hf,lE hg];have k1:=kO (xs:=xs) (b:=b) (f:=f);have k2:=kO (xs:=xs) (b:=b) (f:=g)
 generalize cB xs b f=d1 at *
 generalize cB xs b g=d2 at *
 clear hf hg hv hw;rcases k1 with rfl | ⟨i,rfl⟩
 ·have e:aE (twoD (jY .non d2) (v:Int) (w:Int))=[]:=rfl
  walk_at "!j7 iS"
 ·rcases k2 with rfl | ⟨j,rfl⟩
  ·have e:aE (twoD (jY (.int i) .non) (v:Int) (w:Int))=[]:=rfl
   walk_at "!j7 iS"
  ·by_cases c:i<j
   ·have c':decide (j<=i)=false:=Zm (by omega)
    have e:aE (twoD (jY (.int i) (.int j)) (v:Int) (w:Int))=[.tup [.int v,.int w]]:=by(unfold jY;simp only;rw[Zn c];rfl)
    clear c
    walk_at "!j7 iS"
   ·have c':decide (j<=i)=true:=Zn (by omega)
    have e:aE (twoD (jY (.int i) (.int j)) (v:Int) (w:Int))=[]:=by(unfold jY;simp only;rw[Zm c];rfl)
    clear c
    walk_at "!j7 iS"
def z9{c:Bool}{a b:Int}:bX .Mult (.lst [.tup [.int a,.int b]]) (.int (if c=true then 1 else 0))=some (.ow (.lst (aE (twoD c a b)))):=by
 cases c<;>exact zD (by decide) (by decide) (cZ (by simp))
def xZ{a b:Int}:bX .Mult (.lst [.tup [.int a,.int b]]) (.int 0)=some (.ow (.lst (aE (twoD false a b)))):=zD (by decide) (by decide) (cZ (by simp))
def EM{v w:Nat}(hl:fs.length<=900)(hv:v<fs.length+1)(hw:w<fs.length+1) :
  run T W (n+2) "L_broken" [.sh (aA no ba oc fs rs),.sh (.tup [.str "above",.int v,.int w]),~~~xs,.sh (.int b)]=some (.ok (.ow (.lst (aE (oG fs xs b v w)))),[.sh (aA no ba oc fs rs),.sh (.tup [.str "above",.int v,.int w]),~~~xs,.sh (.int b)]):=by
 rw[a8 gW rfl rfl];unfold dO;have hh:run T W (n+1) "L_heard" _=some (.ok (.ow (.lst (aF fs xs b))),_):=eU (W:=W) (no:=no) (ba:=ba) (oc:=oc) (fs:=fs) (rs:=rs) (xs:=xs) (b:=b) (by omega);obtain⟨f,hf⟩:∃f,(cG fs)[v]?=some f:=⟨_,Zb (by simp;omega)⟩
 obtain⟨g,hg⟩:∃g,(cG fs)[w]?=some g:=⟨_,Zb (by simp;omega)⟩
 have a1:L2.cV (aF fs xs b) (v:Int)=some (cB xs b f):=L2.lV (xK hf);have a2:L2.cV (aF fs xs b) (w:Int)=some (cB xs b g):=L2.lV (xK hg);unfold oG;rw[lE hf,lE hg];have k1:=kO (xs:=xs) (b:=b) (f:=f);have k2:=kO (xs:=xs) (b:=b) (f:=g)
 generalize cB xs b f=d1 at *
 generalize cB xs b g=d2 at *
 clear hf hg hv hw hl;rcases k1 with rfl | ⟨i,rfl⟩
 ·have e:jY .non d2=false:=rfl
  walk_at "!aX z9 xZ"
 ·rcases k2 with rfl | ⟨j,rfl⟩
  ·have e:jY (.int i) .non=false:=rfl
   walk_at "!aX z9 xZ"
  ·have e:jY (.int i) (.int j)=decide (i<j):=rfl
   walk_at "!aX z9 xZ"
def DD:run T W (n+1) "rule_of" [.sh (.tup [.str "above",a,b])]=some (.ok (.sh (.ins "Above" ["one","other"] [a,b])),[.sh (.tup [.str "above",a,b])]):=by
 rw[a8 iX rfl rfl];unfold d9
 walk_at "!aX"
def QM(L:List O)(d:O)(f:O->Bool)(g:O->N):((List.range L.length).filter λj=>f (L.getD j d)).map (λj=>g (L.getD j d))=(L.filter f).map g:=by
 have h:L=(List.range L.length).map λj=>L.getD j d:=by
  apply List.ext_getElem?
  intro i;rw[Zh];by_cases hi:i<L.length
  ·rw[List.getElem?_range hi,Zb hi];simp[hi]
  ·rw[List.getElem?_eq_none (by omega),List.getElem?_eq_none (by simp;omega)];rfl
 have h2:(L.filter f).map g=(((List.range L.length).map λj=>L.getD j d).filter f).map g:=congrArg (λl=>(l.filter f).map g) h;rw[h2,List.filter_map,List.map_map];rfl
def TR{n m v:Nat}{P Q:Nat->Nat->Bool}{R:List Int->Bool}(hR:∀w:Nat,R [(v:Int),(w:Int)]=Q v w):(fV m v P).filter R=fV m v λv w=>P v w&&Q v w:=by
 unfold fV;rw[List.filter_map,List.filter_filter];congr 1
 apply List.filter_congr
 intro j _;simp only[Function.comp,hR,Bool.and_comm]
def yG{n:Nat}{P Q:Nat->Nat->Bool}{R:List Int->Bool}(hR:∀v w:Nat,R [(v:Int),(w:Int)]=Q v w):(dF n P).filter R=dF n λv w=>P v w&&Q v w:=by
 unfold dF;rw[List.filter_flatMap];congr 1
 funext v
 exact TR (n:=n) (hR v)
noncomputable def iH:D->Int
 |.int i=>i
 |_=>0
noncomputable def fI(oc a b:Int):Int:=bY (a-b) % oc
def eV{W n:Nat}{oc a b:Int}(ho:0<oc):run T W (n+1) "span" [.sh (.int oc),.sh (.int a),.sh (.int b)]=some (.ok (.sh (.int (fI oc a b))),[.sh (.int oc),.sh (.int a),.sh (.int b)]):=by
 rw[a8 aBX rfl rfl];unfold vW fI
 walk_at "!cC"
noncomputable def rD(sp s:Int):Bool:=decide (sp / 2 ^ s.toNat % 2=0)
def ZQ(h:0<=sp):decide (PySem.Builtin.bitAnd (sp / 2 ^ s.toNat) 1=0)=rD sp s:=by
 have hq:0<=sp / 2 ^ s.toNat:=Int.ediv_nonneg h (by exact Int.le_of_lt (Int.pow_pos (by decide)));unfold rD;rw[PyProof.Rows.bitAnd_pp hq (by decide)];have e1:(1:Int).toNat=1:=rfl;rw[e1,Nat.and_one_is_mod];have e2:(((sp / 2 ^ s.toNat).toNat % 2:Nat):Int)=sp / 2 ^ s.toNat % 2:=by omega
 rw[e2]
def FN(h:0<=sp)(hs:0<=s):run T W (n+1) "Span.forbids" [.sh (.ins "Span" ["beat","spans"] [.int be,.int sp]),.sh (.int s)]=some (.ok (.sh (.bl (rD sp s))),[.sh (.ins "Span" ["beat","spans"] [.int be,.int sp]),.sh (.int s)]):=by
 rw[a8 A8 rfl rfl];unfold iT;have e:=ZQ (s:=s) h
 walk_at "!fN eZ cC"
noncomputable def kS(oc sp:Int)(hs:List D)(v w:Nat):Bool:=rD sp (fI oc (iH (hs.getD v .non)) (iH (hs.getD w .non)))
noncomputable def kJ(oc sp:Int)(hs:List D):List Int->Bool
 |[v,w]=>rD sp (fI oc (iH (hs.getD v.toNat .non)) (iH (hs.getD w.toNat .non)))
 |_=>false
noncomputable def iO(be sp ba oc:Int)(fs:List (Int×Int×Bool))(xs:List Int)(b:Int):List (List Int):=if b % ba=be then dF (fs.length+1) (λv w=>cD (aF fs xs b) v w&&kS oc sp (aF fs xs b) v w) else []
def CB(h:is∈dF n P):∃v w:Nat,is=[(v:Int),(w:Int)]/\v<n/\w<n/\v<w/\P v w=true:=by
 obtain⟨v,hv,h⟩:=List.mem_flatMap.mp h;have hv:=List.mem_range.mp hv;obtain⟨j,hj,rfl⟩:=zl.mp h;obtain⟨hj,hp⟩:=List.mem_filter.mp hj;have hj:=List.mem_range.mp hj;exact⟨v,v+1+j,rfl,hv,by omega,by omega,hp⟩
def HX(hl:fs.length<=20)(hsp:0<=sp)(hba:0<ba)(hoc:0<oc) :
  run T W (n+4) "Span.broken" [.sh (.ins "Span" ["beat","spans"] [.int be,.int sp]),.sh (aA no ba oc fs rs),~~~xs,.sh (.int b)]=some (.ok (.ow (.lst (aE (iO be sp ba oc fs xs b)))),[.sh (.ins "Span" ["beat","spans"] [.int be,.int sp]),.sh (aA no ba oc fs rs),~~~xs,.sh (.int b)]):=by
 rw[a8 DE rfl rfl];unfold jD;by_cases c:b % ba=be
 ·have c':decide (b % ba=be)=true:=Zn c;have hc:run T W (n+3) "chord" _=some (.ok (.ow (.lst (aF fs xs b))),_):=nI (no:=no) (ba:=ba) (oc:=oc) (fs:=fs) (rs:=rs) (xs:=xs) (b:=b) (by omega);have hhr:=pJ (fs:=fs) (xs:=xs) (b:=b);have hln:=eK (fs:=fs) (xs:=xs) (b:=b);have hso:=sQ (W:=W) (n:=n+2) hhr (by omega);rw[hln] at hso
  have hB:iO be sp ba oc fs xs b=(dF (fs.length+1) (cD (aF fs xs b))).filter (kJ oc sp (aF fs xs b)):=by(unfold iO;rw[Zo c,yG (Q:=kS oc sp (aF fs xs b))];intro v w;rfl)
  generalize aF fs xs b=hs at *
  obtain⟨L,hL⟩:∃L,L=dF (fs.length+1) (cD hs):=⟨_,rfl⟩
  have hLm:∀is∈L,∃v w:Nat,is=[(v:Int),(w:Int)]/\v<hs.length/\w<hs.length/\cD hs v w=true:=λis his=>by(rw[hL] at his;obtain⟨v,w,h1,h2,h3,_,h4⟩:=CB his;exact⟨v,w,h1,by omega,by omega,h4⟩)
  have hLl:L.length<=1000:=by rw[hL];exact nS (by omega)
  rw[<- hL] at hso hB;have hi2:aD .of [.val (.ow (.lst (aE L)))] [.sh (.ins "Span" ["beat","spans"] [.int be,.int sp]),.sh (aA no ba oc fs rs),~~~xs,.sh (.int b),.sh (.int oc),.o (.lst hs)]=some (aE L,none):=D3 rfl
  obtain⟨Ui,e,t4,t5,rfl,ht4,ht5⟩:=rP (tests:=dI T.pins (run T W (n+3)) [.meth 2 "forbids" fO [.call "span" [.var 1,.ix (.var 0) (.var 4),.ix (.var 0) (.var 5)]]]) (elt:=ev T.pins (run T W (n+3)) false kF) (bind:=aU false [4,5]) (ds:=aE L)
   (λj=>kJ oc sp hs (L.getD j [])) (λj=>.tup ((L.getD j []).map D.int))
   (λU=>∃(t4 t5:Sl),U=[.p (.lst hs),.sh (.int oc),.sh (.ins "Span" ["beat","spans"] [.int be,.int sp]),.un,t4,t5]/\bB t4=true/\bB t5=true)
   (λj d hd U hU=>by
    obtain⟨t4,t5,rfl,ht4,ht5⟩:=hU
    have hj:j<L.length:=by
     have:=(Zc.mp hd).1
     rwa[eE] at this
    have hg:=Zb hj
    have hd2:d=.tup (L[j].map D.int):=by(unfold aE at hd;rw[Zh,hg] at hd;exact(Option.some.inj hd).symm)
    have hgd:L.getD j []=L[j]:=by rw[List.getD_eq_getElem?_getD,hg];rfl
    obtain⟨v,w,h1,hv,hw,hso⟩:=hLm L[j] (List.getElem_mem hj);rw[h1] at hd2 hgd;subst hd2;obtain⟨d1,a1,g1,k1⟩:=eO hhr hv;obtain⟨d2,a2,g2,k2⟩:=eO hhr hw;unfold cD at hso;rw[g1,g2,ZB] at hso
    obtain⟨i1,rfl⟩:∃i,d1=.int i:=by
     rcases k1 with rfl | k1
     ·exact absurd hso.1 (by decide)
     ·exact k1
    obtain⟨i2,rfl⟩:∃i,d2=.int i:=by
     rcases k2 with rfl | k2
     ·exact absurd hso.2 (by decide)
     ·exact k2
    have hs0:0<=fI oc i1 i2:=Int.emod_nonneg _ (by omega);have hfb:=FN (W:=W) (n:=n+2) (be:=be) hsp hs0
    have hbad:kJ oc sp hs [(v:Int),(w:Int)]=rD sp (fI oc i1 i2):=by(unfold kJ;simp only[Int.toNat_natCast,g1,g2];rfl)
    refine⟨_,[.p (.lst hs),.sh (.int oc),.sh (.ins "Span" ["beat","spans"] [.int be,.int sp]),.un,.sh (.int v),.sh (.int w)],by simp only[Zs,List.map_nil,eM,aZ ht4,aZ ht5]<;>rfl, ?_,λ_=>?_,λ_=>?_⟩
    ·simp only[hgd,hbad];clear hd hj hg hgd hbad h1 hv hw hso hLm hLl hi2 hB hL hc hhr hln k1 k2 g1 g2 ht4 ht5 hl hsp hba c hs0
     walk_at "!fT eV fN eZ"
    ·refine⟨.sh (.tup [.int v,.int w]),[.p (.lst hs),.sh (.int oc),.sh (.ins "Span" ["beat","spans"] [.int be,.int sp]),.un,.sh (.int v),.sh (.int w)], ?_,by rw[hgd];rfl,_,_,rfl,rfl,rfl⟩;unfold kF;clear hd hj hg hgd hbad h1 hv hw hso hLm hLl hi2 hB hL hc hhr hln k1 k2 g1 g2 ht4 ht5 hl hsp hba c hs0 hfb a1 a2
     walk_at "!fT eV fN eZ"
    ·exact⟨_,_,rfl,rfl,rfl⟩)
   [.p (.lst hs),.sh (.int oc),.sh (.ins "Span" ["beat","spans"] [.int be,.int sp]),.un,.un,.un] ⟨_,_,rfl,rfl,rfl⟩
  rw[eE,QM L [] (kJ oc sp hs) (λis=>D.tup (is.map D.int))] at e;have hB2:(L.filter (kJ oc sp hs)).map (λis=>D.tup (is.map D.int))=aE (iO be sp ba oc fs xs b):=by rw[hB];rfl
  rw[hB2] at e
  have hsm:aJ (aE (iO be sp ba oc fs xs b)).length=true:=bD (by
   rw[eE,hB]
   have:=List.length_filter_le (kJ oc sp hs) L
   omega)
  clear hl ht4 ht5 hB hB2 hLm hLl hL hhr hln hsp c
  walk_at "!fT eV fN eZ"
  rw[eP hi2]
  walk_at "!fT eV fN eZ"
 ·have c':decide (b % ba=be)=false:=Zm c;have e:iO be sp ba oc fs xs b=[]:=Zp c;have e2:aE []=[]:=rfl;clear c hl
  walk_at "!fT eV fN eZ"
def lS{W n:Nat}{be sp no ba oc:Int}{fs:List (Int×Int×Bool)}{rs:List D}{hs ah:List D}{v w:Nat}(hh:JF hs)(hv:v<hs.length)(hw:w<hs.length)(o1:1<=oc)(o2:oc<=12) :
  run T W (n+1) "L_bad_pair" [.sh (aA no ba oc fs rs),.sh (.tup [.str "span",.int be,.int sp]),.p (.lst ah),.p (.lst hs),.sh (.int v),.sh (.int w)]=some (.ok (.sh (.bl (cD hs v w&&kS oc sp hs v w))),[.sh (aA no ba oc fs rs),.sh (.tup [.str "span",.int be,.int sp]),.p (.lst ah),.p (.lst hs),.sh (.int v),.sh (.int w)]):=by
 rw[a8 uX rfl rfl];unfold iA;obtain⟨d1,a1,g1,k1⟩:=eO hh hv;obtain⟨d2,a2,g2,k2⟩:=eO hh hw;unfold cD kS;rw[g1,g2];have hoc:0<oc:=by omega
 rcases k1 with rfl | ⟨i1,rfl⟩
 ·have e:lI .non=true:=rfl
  walk_at "!aX cC"
 ·have e1:lI (.int i1)=false:=rfl;rcases k2 with rfl | ⟨i2,rfl⟩
  ·have e:lI .non=true:=rfl
   walk_at "!aX cC"
  ·have e:lI (.int i2)=false:=rfl;have e3:rD sp (fI oc (iH (.int i1)) (iH (.int i2)))=decide (sp / 2 ^ (bY (i1-i2) % oc).toNat % 2=0):=rfl;have s0:0<=bY (i1-i2) % oc:=Int.emod_nonneg _ (by omega);have s1:bY (i1-i2) % oc<oc:=Int.emod_lt_of_pos _ hoc;have s2:bY (i1-i2) % oc<=1000:=by omega
   obtain⟨p1,p2⟩:=pw s0 (by omega)
   walk_at "!aX cC"
def ID(hl:fs.length<=20)(hba:0<ba)(o1:1<=oc)(o2:oc<=12) :
  run T W (n+2) "L_broken" [.sh (aA no ba oc fs rs),.sh (.tup [.str "span",.int be,.int sp]),~~~xs,.sh (.int b)]=some (.ok (.ow (.lst (aE (iO be sp ba oc fs xs b)))),[.sh (aA no ba oc fs rs),.sh (.tup [.str "span",.int be,.int sp]),~~~xs,.sh (.int b)]):=by
 rw[a8 gW rfl rfl];unfold dO;have hh:run T W (n+1) "L_heard" _=some (.ok (.ow (.lst (aF fs xs b))),_):=eU (n:=n) (no:=no) (ba:=ba) (oc:=oc) (fs:=fs) (rs:=rs) (xs:=xs) (b:=b) (by omega);have hh2:run T W (n+1) "L_heard" _=some (.ok (.ow (.lst (aF fs xs (b-1)))),_):=eU (W:=W) (n:=n) (no:=no) (ba:=ba) (oc:=oc) (fs:=fs) (rs:=rs) (xs:=xs) (b:=b-1) (by omega);by_cases c:b % ba=be
 ·have c':decide (b % ba=be)=true:=Zn c;have hhr:=pJ (fs:=fs) (xs:=xs) (b:=b);have hln:=eK (fs:=fs) (xs:=xs) (b:=b);have hB:iO be sp ba oc fs xs b=dF (fs.length+1) (λv w=>cD (aF fs xs b) v w&&kS oc sp (aF fs xs b) v w):=Zo c;rw[<- hln] at hB
  generalize aF fs xs b=hs at *
  generalize aF fs xs (b-1)=ah at *
  have hi:aD .rng [.val (.sh (.int hs.length))] [.sh (aA no ba oc fs rs),.sh (.tup [.str "span",.int be,.int sp]),~~~xs,.sh (.int b),.o (.lst hs),.un,.un,.un,.o (.lst ah),.o (.lst []),.un]=some (rg hs.length,none):=by(refine Eq.trans (nG (n:=(hs.length:Int)) rfl (by omega) (by omega)) ?_;rw[Int.toNat_natCast])
  obtain⟨t',t2',e,ht',ht2'⟩:=rN (iv:=5) (body:=exs T.pins (run T W (n+1)) W gY) (λa t t2=>[.sh (aA no ba oc fs rs),.sh (.tup [.str "span",.int be,.int sp]),~~~xs,.sh (.int b),.o (.lst hs),t,.un,.un,.o (.lst ah),.o (.lst a),t2]) (λv w=>cD hs v w&&kS oc sp hs v w) hs.length (by omega)
   (λa t t2 d ht=>by simp only[eM,aZ ht])
   (λacc v t hv hac ht=>by
    have hi2:aD .rng [.val (.sh (.int ((v:Int)+1))),.val (.sh (.int hs.length))] [.sh (aA no ba oc fs rs),.sh (.tup [.str "span",.int be,.int sp]),~~~xs,.sh (.int b),.o (.lst hs),.sh (.int v),.un,.un,.o (.lst ah),.o (.lst (aE acc)),t]=some ((List.range (hs.length-(v+1))).map λ(j:Nat)=>.int ((v:Int)+1+(j:Int)),none):=by(refine Eq.trans (ML (m:=(v:Int)+1) (n:=(hs.length:Int)) rfl rfl (by omega) (by omega)) ?_;rw[show((hs.length:Int)-((v:Int)+1)).toNat=hs.length-(v+1) from by omega])
    obtain⟨t3,e3,h3⟩:=xR (iw:=10) (body:=exs T.pins (run T W (n+1)) W gZ) (λa t t2=>[.sh (aA no ba oc fs rs),.sh (.tup [.str "span",.int be,.int sp]),~~~xs,.sh (.int b),.o (.lst hs),t,.un,.un,.o (.lst ah),.o (.lst a),t2]) (λv w=>cD hs v w&&kS oc sp hs v w) hs.length v acc hac (by omega)
     (λa t d ht=>by simp only[eM,aZ ht])
     (λa w hvw hw hal=>by
      have hbad:=lS (W:=W) (n:=n) (be:=be) (sp:=sp) (no:=no) (ba:=ba) (fs:=fs) (rs:=rs) (ah:=ah) hhr hv hw o1 o2;have hsm:aJ ((aE a).length+1)=true:=bD (by rw[eE];omega);have et:aE (a++[[(v:Int),(w:Int)]])=aE a++[.tup [.int v,.int w]]:=by rw[oY];rfl
      unfold gZ
      generalize (cD hs v w&&kS oc sp hs v w)=q at *
      clear hi hi2 hhr hl hv hw hvw hal hac ht hB hln hh hh2 c o1 o2 hba;cases q
      ·walk_at "!aX lS"
       all_goals (try simp only[List.append_nil])
      ·walk_at "!aX lS") t ht
    refine⟨t3, ?_,h3⟩;unfold gY;clear hi hhr hl hv hac ht h3 hB hln hh hh2 c o1 o2 hba
    walk_at "!aX lS") .un .un rfl rfl
  rw[hB];clear hl hhr ht' ht2' hB hln c
  walk_at "!aX lS"
 ·have c':decide (b % ba=be)=false:=Zm c;have e:iO be sp ba oc fs xs b=[]:=Zp c;have e2:aE []=[]:=rfl;clear c hl
  walk_at "!aX lS"
def G7:run T W (n+1) "rule_of" [.sh (.tup [.str "span",a,b])]=some (.ok (.sh (.ins "Span" ["beat","spans"] [a,b])),[.sh (.tup [.str "span",a,b])]):=by
 rw[a8 iX rfl rfl];unfold d9
 walk_at "!aX"
def OF(hl:fs.length<=20):(iO be sp ba oc fs xs b).length<=1000:=by
 unfold iO;split
 ·exact nS (by omega)
 ·simp
def O5(E:List D->Sl->Sl->Env)(R:List Int->Bool)(L:List (List Int))(hL:L.length<=1000)
  (hb:∀(a:List D) (t t2 d d2:_),bB t=true->bB t2=true->aU false [iv,iw] (.tup [d,d2]) (E a t t2)=some (E a (.sh d) (.sh d2)))
  (hp:∀is∈L,∃v w:Nat,is=[(v:Int),(w:Int)])
  (hs:∀(a:List (List Int)) (v w:Nat),[(v:Int),(w:Int)]∈L->a.length<=2000->body (E (aE a) (.sh (.int v)) (.sh (.int w)))=some (.nx,E (aE (a++(if R [(v:Int),(w:Int)]=true then [[(v:Int),(w:Int)]] else []))) (.sh (.int v)) (.sh (.int w)))) (t t2:Sl) (ht:bB t=true) (ht2:bB t2=true) :
  ∃t' t2',bZ (aU false [iv,iw]) body (aE L) (E [] t t2)=some (.nx,E (aE (L.filter R)) t' t2')/\bB t'=true/\bB t2'=true:=by
 have key:∀(M:List (List Int)) (acc:List (List Int)) (t t2:Sl),(∀is∈M,is∈L)->acc.length+M.length<=2000->bB t=true->bB t2=true->∃t' t2',bZ (aU false [iv,iw]) body (aE M) (E (aE acc) t t2)=some (.nx,E (aE (acc++M.filter R)) t' t2')/\bB t'=true/\bB t2'=true:=by
  intro M
  induction M with
  |nil=>intro acc t t2 _ _ h1 h2;exact⟨t,t2,by simp[aE,bZ],h1,h2⟩
  |cons is M ih =>
   intro acc t t2 hM hl h1 h2;obtain⟨v,w,rfl⟩:=hp is (hM is (by simp));have e1:aE ([(v:Int),(w:Int)]::M)=.tup [.int v,.int w]::aE M:=rfl;have hl':acc.length+M.length+1<=2000:=by simpa[Nat.add_assoc] using hl
   rw[e1];simp only[bZ,hb _ _ _ _ _ h1 h2,hs acc v w (hM _ (by simp)) (by omega)]
   obtain⟨t',t2',e,h3,h4⟩:=ih (acc++(if R [(v:Int),(w:Int)]=true then [[(v:Int),(w:Int)]] else [])) (.sh (.int v)) (.sh (.int w)) (λis h=>hM is (Ze _ h)) (by
    rw[Za];split
    ·simp only[Zk,List.length_nil];omega
    ·simp only[List.length_nil];omega) rfl rfl
   refine⟨t',t2', ?_,h3,h4⟩;rw[e,List.filter_cons];by_cases q:R [(v:Int),(w:Int)]=true
   ·simp[q]
   ·simp[q]
 obtain⟨t',t2',e,h⟩:=key L [] t t2 (λ_ h=>h) (by simp;omega) ht ht2;exact⟨t',t2',by simpa[aE] using e,h⟩
def zF(x:PySem.Str):Prop:=x="like"\/x="against"\/x="aside"\/x="any"
noncomputable def iM(x:PySem.Str)(a b:Int):Bool:=if x==("like":PySem.Str) then decide (0<a*b) else if x==("against":PySem.Str) then decide (a*b<0) else if x==("aside":PySem.Str) then !(decide (a=0)==decide (b=0)) else true
def jO:((Str.ofString "against")==(Str.ofString "like"))=false:=by decide +kernel
def jS:((Str.ofString "aside")==(Str.ofString "like"))=false:=by decide +kernel
def jP:((Str.ofString "any")==(Str.ofString "like"))=false:=by decide +kernel
def jM:((Str.ofString "aside")==(Str.ofString "against"))=false:=by decide +kernel
def jL:((Str.ofString "any")==(Str.ofString "against"))=false:=by decide +kernel
def jN:((Str.ofString "any")==(Str.ofString "aside"))=false:=by decide +kernel
def kB:((Str.ofString "like")==(Str.ofString "any"))=false:=by decide +kernel
def kM:((Str.ofString "like")==(Str.ofString "aside"))=false:=by decide +kernel
def kI:((Str.ofString "against")==(Str.ofString "any"))=false:=by decide +kernel
def gJ:((Str.ofString "against")==(Str.ofString "aside"))=false:=by decide +kernel
def gN:((Str.ofString "aside")==(Str.ofString "any"))=false:=by decide +kernel
def NA(hx:zF x)(h1:-18446744073709551616<a)(h2:a<18446744073709551616):run T W (n+1) "move_so" [.sh (.str x),.sh (.int a),.sh (.int b)]=some (.ok (.sh (.bl (iM x a b))),[.sh (.str x),.sh (.int a),.sh (.int b)]):=by
 rw[a8 Q6 rfl rfl];unfold nR iM;rcases hx with rfl | rfl | rfl | rfl
 ·walk_at "!jO jS jP jM jL jN kB kM kI gJ gN &"
 ·walk_at "!jO jS jP jM jL jN kB kM kI gJ gN &"
 ·walk_at "!jO jS jP jM jL jN kB kM kI gJ gN &"
 ·walk_at "!jO jS jP jM jL jN kB kM kI gJ gN &"
def JV{a h:Int}:0<a*h↔(0<a/\0<h)\/(a<0/\h<0):=by
 constructor
 ·intro q;rcases Int.lt_trichotomy a 0 with c | c | c
  ·rcases Int.lt_trichotomy h 0 with d | d | d
   ·exact .inr ⟨c,d⟩
   ·rw[d,Int.mul_zero] at q;omega
   ·exact absurd (Int.mul_neg_of_neg_of_pos c d) (by omega)
  ·rw[c,Int.zero_mul] at q;omega
  ·rcases Int.lt_trichotomy h 0 with d | d | d
   ·exact absurd (Int.mul_neg_of_pos_of_neg c d) (by omega)
   ·rw[d,Int.mul_zero] at q;omega
   ·exact .inl ⟨c,d⟩
 ·rintro(⟨c,d⟩ | ⟨c,d⟩)
  ·exact Int.mul_pos c d
  ·exact Int.mul_pos_of_neg_of_neg c d
def T2{a h:Int}:a*h<0↔(0<a/\h<0)\/(a<0/\0<h):=by
 have:=JV (a:=a) (h:=-h)
 rw[Int.mul_neg] at this;constructor
 ·intro q;rcases this.mp (by omega) with z | z
  ·exact .inl ⟨z.1,by omega⟩
  ·exact .inr ⟨z.1,by omega⟩
 ·intro q
  have:=this.mpr (by rcases q with z | z;exact .inl ⟨z.1,by omega⟩;exact .inr ⟨z.1,by omega⟩)
  omega
def in2:bL .In (.int 0) (.tup [.int a,.int b])=some (decide (a=0)||decide (b=0)):=by
 have h:bL .In (.int 0) (.tup [.int a,.int b])=some (lK (.int 0) [.int a,.int b]):=rfl;rw[h];congr 1;unfold lK;simp only[List.any_cons,List.any_nil,dH,Bool.or_false];rfl
def fS{W n:Nat}{x:PySem.Str}{a b:Int}(hx:zF x):run T W (n+1) "L_moved_so" [.sh (.str x),.sh (.int a),.sh (.int b)]=some (.ok (.sh (.bl (iM x a b))),[.sh (.str x),.sh (.int a),.sh (.int b)]):=by
 rw[a8 E4 rfl rfl];unfold j4;rcases hx with rfl | rfl | rfl | rfl
 ·have e:iM "like" a b=decide ((0<a/\0<b)\/(a<0/\b<0)):=by
   unfold iM;rw[Zo (beq_self_eq_true _)];exact decide_eq_decide.mpr JV
  rw[e];by_cases c1:0<a
  ·have c1':decide (0<a)=true:=Zn c1;have c2':decide (a<0)=false:=Zm (by omega);by_cases c3:0<b
   ·have c3':decide (0<b)=true:=Zn c3;rw[Zn (p:=(0<a/\0<b)\/(a<0/\b<0)) (.inl ⟨c1,c3⟩)]
    walk_at "!jO jS jP jM jL jN kB kM kI gJ gN &"
   ·have c3':decide (0<b)=false:=Zm c3;rw[Zm (p:=(0<a/\0<b)\/(a<0/\b<0)) (by omega)]
    walk_at "!jO jS jP jM jL jN kB kM kI gJ gN &"
  ·have c1':decide (0<a)=false:=Zm c1;by_cases c2:a<0
   ·have c2':decide (a<0)=true:=Zn c2;have e2:decide ((0<a/\0<b)\/(a<0/\b<0))=decide (b<0):=decide_eq_decide.mpr (by omega);rw[e2]
    walk_at "!jO jS jP jM jL jN kB kM kI gJ gN &"
   ·have c2':decide (a<0)=false:=Zm c2;rw[Zm (p:=(0<a/\0<b)\/(a<0/\b<0)) (by omega)]
    walk_at "!jO jS jP jM jL jN kB kM kI gJ gN &"
 ·have e:iM "against" a b=decide ((0<a/\b<0)\/(a<0/\0<b)):=by
   unfold iM;rw[jO,Zp (by decide),Zo (beq_self_eq_true _)];exact decide_eq_decide.mpr T2
  rw[e];by_cases c1:0<a
  ·have c1':decide (0<a)=true:=Zn c1;have c2':decide (a<0)=false:=Zm (by omega);by_cases c3:b<0
   ·have c3':decide (b<0)=true:=Zn c3;rw[Zn (p:=(0<a/\b<0)\/(a<0/\0<b)) (.inl ⟨c1,c3⟩)]
    walk_at "!jO jS jP jM jL jN kB kM kI gJ gN &"
   ·have c3':decide (b<0)=false:=Zm c3;rw[Zm (p:=(0<a/\b<0)\/(a<0/\0<b)) (by omega)]
    walk_at "!jO jS jP jM jL jN kB kM kI gJ gN &"
  ·have c1':decide (0<a)=false:=Zm c1;by_cases c2:a<0
   ·have c2':decide (a<0)=true:=Zn c2;have e2:decide ((0<a/\b<0)\/(a<0/\0<b))=decide (0<b):=decide_eq_decide.mpr (by omega);rw[e2]
    walk_at "!jO jS jP jM jL jN kB kM kI gJ gN &"
   ·have c2':decide (a<0)=false:=Zm c2;rw[Zm (p:=(0<a/\b<0)\/(a<0/\0<b)) (by omega)]
    walk_at "!jO jS jP jM jL jN kB kM kI gJ gN &"
 ·have e:iM "aside" a b=((decide (a=0)||decide (b=0)) && !decide (a=b)):=by
   unfold iM;rw[jS,Zp (by decide),jM,Zp (by decide),Zo (beq_self_eq_true _)];by_cases h1:a=0
   ·by_cases h2:b=0
    ·simp[h1,h2]
    ·simp[h1,h2];omega
   ·by_cases h2:b=0
    ·simp[h1,h2]
    ·simp[h1,h2]
  rw[e];have hin:=in2 (a:=a) (b:=b);by_cases c1:a=0\/b=0
  ·have c1':(decide (a=0)||decide (b=0))=true:=by rcases c1 with h | h<;>simp[h]
   rw[c1'] at hin ⊢
   walk_at "!jO jS jP jM jL jN kB kM kI gJ gN &"
  ·have c1':(decide (a=0)||decide (b=0))=false:=by
    rw[not_or] at c1;simp[c1.1,c1.2]
   rw[c1'] at hin ⊢
   walk_at "!jO jS jP jM jL jN kB kM kI gJ gN &"
 ·have e:iM "any" a b=true:=by
   unfold iM;rw[jP,Zp (by decide),jL,Zp (by decide),jN,Zp (by decide)]
  rw[e]
  walk_at "!jO jS jP jM jL jN kB kM kI gJ gN &"
noncomputable def k6(one other oc:Int)(x:PySem.Str)(ah hs:List D)(v w:Nat):Bool :=
 decide (fI oc (iH (ah.getD v .non)) (iH (ah.getD w .non))=one)&&decide (fI oc (iH (hs.getD v .non)) (iH (hs.getD w .non))=other)&&iM x (iH (hs.getD v .non)-iH (ah.getD v .non)) (iH (hs.getD w .non)-iH (ah.getD w .non))
noncomputable def zP(one other oc:Int)(x:PySem.Str)(ah hs:List D):List Int->Bool
 |[v,w]=>k6 one other oc x ah hs v.toNat w.toNat
 |_=>false
noncomputable def jX(one other oc:Int)(x:PySem.Str)(fs:List (Int×Int×Bool))(xs:List Int)(b:Int):List (List Int):=dF (fs.length+1) (λv w=>cD (aF fs xs (b-1)) v w&&k6 one other oc x (aF fs xs (b-1)) (aF fs xs b) v w)
def GJ(h:∀v w,v<w->w<n->P v w=Q v w):dF n P=dF n Q:=by
 unfold dF;congr 1
 funext v
 unfold fV;congr 1
 apply List.filter_congr
 intro j hj;have hj:=List.mem_range.mp hj;exact h v (v+1+j) (by omega) (by omega)
def HH(h:∀v w,v<w->w<n->P v w=false):dF n P=[]:=by
 rw[GJ (Q:=λ_ _=>false) h];unfold dF fV;simp
structure HrOk(hs ah:List D):Prop where
 h1:JF hs
 h2:JF ah
 len:ah.length=hs.length
 bd:∀v i,hs.getD v .non=.int i->-100<=i/\i<=100
 bd2:∀v i,ah.getD v .non=.int i->-100<=i/\i<=100
 on:∀v,lI (ah.getD v .non)=false->lI (hs.getD v .non)=false
def rQ{fs:List (Int×Int×Bool)}{xs:List Int}{b:Int}{v:Nat}:(∃f∈cG fs,∀b:Int,(aF fs xs b).getD v .non=cB xs b f)\/∀b:Int,(aF fs xs b).getD v .non=.non:=by
 cases h:(cG fs)[v]? with
 |some f=>exact .inl ⟨f,zj h,λb=>lE h⟩
 |none =>
  refine .inr λb=>?_
  unfold aF;rw[List.getD_eq_getElem?_getD,Zh,h];rfl
def V2{no ba oc:Int}{fs:List (Int×Int×Bool)}{xs:List Int}{b:Nat}(ho:HouseOk no ba oc fs)(hxs:∀x∈xs,0<=x/\x<no)(hb:b<xs.length):HrOk (aF fs xs (b:Int)) (aF fs xs ((b:Int)-1)):=by
 have n2:=ho.n2
 have hv:∀f∈cG fs,0<=f.1/\-12<=f.2.1/\f.2.1<=12:=λf hf=>by
  rcases List.mem_cons.mp hf with rfl | hf
  ·decide
  ·have:=ho.f f hf
   omega
 have bd:∀(c:Int) v i,(aF fs xs c).getD v .non=.int i->-100<=i/\i<=100:=λc v i h=>by
  rcases rQ (fs:=fs) (xs:=xs) (b:=c) (v:=v) with ⟨f,hf,e⟩ | e
  ·rw[e c] at h;unfold cB at h;split at h
   ·rename_i hc;have h:=D.int.inj h
    have hx:xs.getD (c-f.1).toNat 0∈xs:=by
     have hlt:(c-f.1).toNat<xs.length:=by omega
     exact zL (k:=(c-f.1).toNat) hlt
    have:=hxs _ hx
    have:=hv f hf
    split at h<;>omega
   ·cases h
  ·rw[e c] at h;cases h
 refine⟨pJ,pJ,by rw[eK,eK],bd _,bd _,λv h=>?_⟩;rcases rQ (fs:=fs) (xs:=xs) (b:=(b:Int)) (v:=v) with ⟨f,hf,e⟩ | e
 ·rw[e] at h ⊢;unfold cB at h ⊢;split at h
  ·rename_i hc
   have:=hv f hf
   rw[Zo (by omega)];rfl
  ·cases h
 ·rw[e] at h;cases h
def YG(H:HrOk hs ah)(hv:v<hs.length)(hw:w<hs.length)(h:cD ah v w=true):∃i1 i2 j1 j2:Int,L2.cV ah (v:Int)=some (.int i1)/\L2.cV ah (w:Int)=some (.int i2)/\L2.cV hs (v:Int)=some (.int j1)/\L2.cV hs (w:Int)=some (.int j2)/\ah.getD v .non=.int i1/\ah.getD w .non=.int i2/\hs.getD v .non=.int j1/\hs.getD w .non=.int j2/\(-100<=i1/\i1<=100)/\(-100<=j1/\j1<=100):=by
 unfold cD at h;rw[ZB] at h;obtain⟨d1,a1,g1,k1⟩:=eO H.h2 (by rw[H.len];exact hv);obtain⟨d2,a2,g2,k2⟩:=eO H.h2 (v:=w) (by rw[H.len];exact hw);obtain⟨d3,a3,g3,k3⟩:=eO H.h1 hv;obtain⟨d4,a4,g4,k4⟩:=eO H.h1 hw;have o1:=H.on v (by simpa using h.1);have o2:=H.on w (by simpa using h.2);rw[g1,g2] at h;rw[g3] at o1;rw[g4] at o2;rcases k1 with rfl | ⟨i1,rfl⟩
 ·exact absurd h.1 (by decide)
 rcases k2 with rfl | ⟨i2,rfl⟩
 ·exact absurd h.2 (by decide)
 rcases k3 with rfl | ⟨j1,rfl⟩
 ·exact absurd o1 (by decide)
 rcases k4 with rfl | ⟨j2,rfl⟩
 ·exact absurd o2 (by decide)
 exact⟨i1,i2,j1,j2,a1,a2,a3,a4,g1,g2,g3,g4,H.bd2 v i1 g1,H.bd v j1 g3⟩
def GH(hl:fs.length<=20)(hoc:0<oc)(hx:zF x)(H:HrOk (aF fs xs b) (aF fs xs (b-1))) :
  run T W (n+4) "Never.broken" [.sh (.ins "Never" ["one","other","way"] [.int one,.int other,.str x]),.sh (aA no ba oc fs rs),~~~xs,.sh (.int b)]=some (.ok (.ow (.lst (aE (jX one other oc x fs xs b)))),[.sh (.ins "Never" ["one","other","way"] [.int one,.int other,.str x]),.sh (aA no ba oc fs rs),~~~xs,.sh (.int b)]):=by
 rw[a8 AD rfl rfl];unfold iR;have hc1:run T W (n+3) "chord" _=some (.ok (.ow (.lst (aF fs xs (b-1)))),_):=nI (no:=no) (ba:=ba) (oc:=oc) (fs:=fs) (rs:=rs) (xs:=xs) (b:=b-1) (by omega);have hc2:run T W (n+3) "chord" _=some (.ok (.ow (.lst (aF fs xs b))),_):=nI (W:=W) (n:=n) (no:=no) (ba:=ba) (oc:=oc) (fs:=fs) (rs:=rs) (xs:=xs) (b:=b) (by omega);have hln:=eK (fs:=fs) (xs:=xs) (b:=b-1);have hln2:=eK (fs:=fs) (xs:=xs) (b:=b);have hso:=sQ (W:=W) (n:=n+2) H.h2 (by omega);rw[hln] at hso
 have hB:jX one other oc x fs xs b=(dF (fs.length+1) (cD (aF fs xs (b-1)))).filter (zP one other oc x (aF fs xs (b-1)) (aF fs xs b)):=by(unfold jX;rw[yG (Q:=k6 one other oc x (aF fs xs (b-1)) (aF fs xs b))];intro v w;rfl)
 generalize aF fs xs b=hs at *
 generalize aF fs xs (b-1)=ah at *
 obtain⟨L,hL⟩:∃L,L=dF (fs.length+1) (cD ah):=⟨_,rfl⟩
 have hLm:∀is∈L,∃v w:Nat,is=[(v:Int),(w:Int)]/\v<hs.length/\w<hs.length/\cD ah v w=true:=λis his=>by(rw[hL] at his;obtain⟨v,w,h1,h2,h3,_,h4⟩:=CB his;exact⟨v,w,h1,by omega,by omega,h4⟩)
 have hLl:L.length<=1000:=by rw[hL];exact nS (by omega)
 rw[<- hL] at hso hB;have hi2:aD .of [.val (.ow (.lst (aE L)))] [.sh (.ins "Never" ["one","other","way"] [.int one,.int other,.str x]),.sh (aA no ba oc fs rs),~~~xs,.sh (.int b),.sh (.int oc),.o (.lst ah),.o (.lst hs),.o (.lst []),.un,.un]=some (aE L,none):=D3 rfl
 obtain⟨t8,t9,e,h8,h9⟩:=O5 (iv:=8) (iw:=9) (body:=exs T.pins (run T W (n+3)) W jT) (λa t t2=>[.sh (.ins "Never" ["one","other","way"] [.int one,.int other,.str x]),.sh (aA no ba oc fs rs),~~~xs,.sh (.int b),.sh (.int oc),.o (.lst ah),.o (.lst hs),.o (.lst a),t,t2]) (zP one other oc x ah hs) L hLl
  (λa t t2 d d2 ht ht2=>by simp only[eM,aZ ht,aZ ht2])
  (λis his=>by obtain⟨v,w,h,_⟩:=hLm is his;exact⟨v,w,h⟩)
  (λa v w hm hal=>by
   obtain⟨v',w',h1,hv,hw,hso2⟩:=hLm _ hm;have hvv:v'=v:=by have:=(List.cons.inj h1).1;omega
   have hww:w'=w:=by have:=(List.cons.inj (List.cons.inj h1).2).1;omega
   subst hvv hww;obtain⟨i1,i2,j1,j2,a1,a2,a3,a4,g1,g2,g3,g4,q1,q2⟩:=YG H hv hw hso2;have hsm:aJ ((aE a).length+1)=true:=bD (by rw[eE];omega);have et:aE (a++[[(v':Int),(w':Int)]])=aE a++[.tup [.int v',.int w']]:=by rw[oY];rfl
   have en:zP one other oc x ah hs [(v':Int),(w':Int)]=(decide (fI oc i1 i2=one)&&decide (fI oc j1 j2=other)&&iM x (j1-i1) (j2-i2)):=by(unfold zP k6;simp only[Int.toNat_natCast,g1,g2,g3,g4];rfl)
   have hmv:=NA (W:=W) (n:=n+2) (a:=j1-i1) (b:=j2-i2) hx (by omega) (by omega);rw[en];unfold jT;clear h1 hv hw hso2 hm hal hLm hLl hi2 hB hL hso hc1 hc2 hln hln2 H g1 g2 g3 g4 q1 q2 hl en hx;by_cases c1:fI oc i1 i2=one
   ·have c1':decide (fI oc i1 i2=one)=true:=Zn c1;by_cases c2:fI oc j1 j2=other
    ·have c2':decide (fI oc j1 j2=other)=true:=Zn c2;rw[c1',c2',Bool.true_and,Bool.true_and]
     generalize iM x (j1-i1) (j2-i2)=q at *
     clear c1 c2;cases q
     ·walk_at "!gX fR hE eV"
      all_goals (try simp only[List.append_nil])
     ·walk_at "!gX fR hE eV"
    ·have c2':decide (fI oc j1 j2=other)=false:=Zm c2;rw[c1',c2',Bool.true_and,Bool.false_and];clear c1 c2
     walk_at "!gX fR hE eV"
     all_goals (try simp only[List.append_nil])
   ·have c1':decide (fI oc i1 i2=one)=false:=Zm c1;rw[c1',Bool.false_and,Bool.false_and];clear c1
    walk_at "!gX fR hE eV"
    all_goals (try simp only[List.append_nil])) .un .un rfl rfl
 rw[hB];clear hl h8 h9 hB hLm hLl hL hln hln2 H hx
 walk_at "!gX fR hE eV"
def OV(H:HrOk hs ah)(hv:v<hs.length)(hw:w<hs.length)(hoc:0<oc)(hx:zF x) :
  run T W (n+2) "L_bad_pair" [.sh (aA no ba oc fs rs),.sh (.tup [.str "never",.int one,.int other,.str x]),.p (.lst ah),.p (.lst hs),.sh (.int v),.sh (.int w)]=some (.ok (.sh (.bl (cD ah v w&&k6 one other oc x ah hs v w))),[.sh (aA no ba oc fs rs),.sh (.tup [.str "never",.int one,.int other,.str x]),.p (.lst ah),.p (.lst hs),.sh (.int v),.sh (.int w)]):=by
 rw[a8 uX rfl rfl];unfold iA;obtain⟨d1,a1,g1,k1⟩:=eO H.h2 (by rw[H.len];exact hv);obtain⟨d2,a2,g2,k2⟩:=eO H.h2 (v:=w) (by rw[H.len];exact hw);obtain⟨d3,a3,g3,k3⟩:=eO H.h1 hv;obtain⟨d4,a4,g4,k4⟩:=eO H.h1 hw;have o1:=H.on v;have o2:=H.on w;unfold cD k6;rw[g1,g2,g3,g4];rw[g1,g3] at o1;rw[g2,g4] at o2;have hmv:=λ(a b:Int)=>fS (W:=W) (n:=n) (x:=x) (a:=a) (b:=b) hx
 have eN:lI .non=true:=rfl;have eI:∀i,lI (.int i)=false:=λ_=>rfl
 rcases k3 with rfl | ⟨j1,rfl⟩
 ·have q1:lI d1=true:=by
   cases h:lI d1 with
   |true=>rfl
   |false=>exact absurd (o1 h) (by decide)
  rw[q1]
  walk_at "!aX cC fS"
 rcases k4 with rfl | ⟨j2,rfl⟩
 ·have q2:lI d2=true:=by
   cases h:lI d2 with
   |true=>rfl
   |false=>exact absurd (o2 h) (by decide)
  rw[q2]
  walk_at "!aX cC fS"
 rcases k1 with rfl | ⟨i1,rfl⟩
 ·clear k2 hmv eI
  walk_at "!aX cC fS"
 rcases k2 with rfl | ⟨i2,rfl⟩
 ·rw[eI]
  walk_at "!aX cC fS"
 rw[eI,eI];have e1:iH (.int i1)=i1:=rfl;have e2:iH (.int i2)=i2:=rfl;have e3:iH (.int j1)=j1:=rfl;have e4:iH (.int j2)=j2:=rfl;rw[e1,e2,e3,e4];unfold fI;have hm:=hmv (j1-i1) (j2-i2);by_cases c2:bY (j1-j2) % oc=other
 ·have c2':decide (bY (j1-j2) % oc=other)=true:=Zn c2;by_cases c1:bY (i1-i2) % oc=one
  ·have c1':decide (bY (i1-i2) % oc=one)=true:=Zn c1;rw[c1',c2']
   walk_at "!aX cC fS"
  ·have c1':decide (bY (i1-i2) % oc=one)=false:=Zm c1;rw[c1']
   walk_at "!aX cC fS"
 ·have c2':decide (bY (j1-j2) % oc=other)=false:=Zm c2;rw[c2']
  walk_at "!aX cC fS"
def D7{W n:Nat}{one other no ba oc:Int}{x:PySem.Str}{fs:List (Int×Int×Bool)}{rs:List D}{xs:List Int}{b:Nat}(hl:fs.length<=20)(hba:0<ba)(hoc:0<oc)(hx:zF x)(H:HrOk (aF fs xs (b:Int)) (aF fs xs ((b:Int)-1)))(h0:∀f∈cG fs,0<=f.1) :
  run T W (n+3) "L_broken" [.sh (aA no ba oc fs rs),.sh (.tup [.str "never",.int one,.int other,.str x]),~~~xs,.sh (.int b)]=some (.ok (.ow (.lst (aE (jX one other oc x fs xs b)))),[.sh (aA no ba oc fs rs),.sh (.tup [.str "never",.int one,.int other,.str x]),~~~xs,.sh (.int b)]):=by
 rw[a8 gW rfl rfl];unfold dO;have hh:run T W (n+2) "L_heard" _=some (.ok (.ow (.lst (aF fs xs (b:Int)))),_):=eU (W:=W) (n:=n+1) (no:=no) (ba:=ba) (oc:=oc) (fs:=fs) (rs:=rs) (xs:=xs) (b:=(b:Int)) (by omega);have hh2:run T W (n+2) "L_heard" _=some (.ok (.ow (.lst (aF fs xs ((b:Int)-1)))),_):=eU (W:=W) (n:=n+1) (no:=no) (ba:=ba) (oc:=oc) (fs:=fs) (rs:=rs) (xs:=xs) (b:=(b:Int)-1) (by omega);by_cases c:b=0
 ·subst c;have c':decide (((0:Nat):Int)=0)=true:=rfl
  have e:jX one other oc x fs xs ((0:Nat):Int)=[]:=by
   unfold jX
   apply HH
   intro v w _ _
   have:lI ((aF fs xs (((0:Nat):Int)-1)).getD v .non)=true:=by
    rcases rQ (fs:=fs) (xs:=xs) (b:=0) (v:=v) with ⟨f,hf,e⟩ | e
    ·rw[e];unfold cB;rw[Zp (by have:=h0 f hf;omega)];rfl
    ·rw[e];rfl
   unfold cD;rw[this];rfl
  have e2:aE []=[]:=rfl;rw[e,e2];clear e e2 hl H hx h0
  generalize aF fs xs ((0:Nat):Int)=hs at *
  have z0:((0:Nat):Int)=0:=rfl;rw[z0] at hh hh2 c' ⊢
  walk_at "!aX"
 ·have c':decide ((b:Int)=0)=false:=Zm (by omega);have hln:=eK (fs:=fs) (xs:=xs) (b:=(b:Int));unfold jX;rw[<- hln]
  generalize aF fs xs (b:Int)=hs at *
  generalize aF fs xs ((b:Int)-1)=ah at *
  have hi:aD .rng [.val (.sh (.int hs.length))] [.sh (aA no ba oc fs rs),.sh (.tup [.str "never",.int one,.int other,.str x]),~~~xs,.sh (.int b),.o (.lst hs),.un,.un,.un,.o (.lst ah),.o (.lst []),.un]=some (rg hs.length,none):=by(refine Eq.trans (nG (n:=(hs.length:Int)) rfl (by omega) (by omega)) ?_;rw[Int.toNat_natCast])
  obtain⟨t',t2',e,ht',ht2'⟩:=rN (iv:=5) (body:=exs T.pins (run T W (n+2)) W gY) (λa t t2=>[.sh (aA no ba oc fs rs),.sh (.tup [.str "never",.int one,.int other,.str x]),~~~xs,.sh (.int b),.o (.lst hs),t,.un,.un,.o (.lst ah),.o (.lst a),t2]) (λv w=>cD ah v w&&k6 one other oc x ah hs v w) hs.length (by omega)
   (λa t t2 d ht=>by simp only[eM,aZ ht])
   (λacc v t hv hac ht=>by
    have hi2:aD .rng [.val (.sh (.int ((v:Int)+1))),.val (.sh (.int hs.length))] [.sh (aA no ba oc fs rs),.sh (.tup [.str "never",.int one,.int other,.str x]),~~~xs,.sh (.int b),.o (.lst hs),.sh (.int v),.un,.un,.o (.lst ah),.o (.lst (aE acc)),t]=some ((List.range (hs.length-(v+1))).map λ(j:Nat)=>.int ((v:Int)+1+(j:Int)),none):=by(refine Eq.trans (ML (m:=(v:Int)+1) (n:=(hs.length:Int)) rfl rfl (by omega) (by omega)) ?_;rw[show((hs.length:Int)-((v:Int)+1)).toNat=hs.length-(v+1) from by omega])
    obtain⟨t3,e3,h3⟩:=xR (iw:=10) (body:=exs T.pins (run T W (n+2)) W gZ) (λa t t2=>[.sh (aA no ba oc fs rs),.sh (.tup [.str "never",.int one,.int other,.str x]),~~~xs,.sh (.int b),.o (.lst hs),t,.un,.un,.o (.lst ah),.o (.lst a),t2]) (λv w=>cD ah v w&&k6 one other oc x ah hs v w) hs.length v acc hac (by omega)
     (λa t d ht=>by simp only[eM,aZ ht])
     (λa w hvw hw hal=>by
      have hbad:=OV (W:=W) (n:=n) (one:=one) (other:=other) (no:=no) (ba:=ba) (fs:=fs) (rs:=rs) H hv hw hoc hx;have hsm:aJ ((aE a).length+1)=true:=bD (by rw[eE];omega);have et:aE (a++[[(v:Int),(w:Int)]])=aE a++[.tup [.int v,.int w]]:=by rw[oY];rfl
      unfold gZ
      generalize (cD ah v w&&k6 one other oc x ah hs v w)=q at *
      clear hi hi2 hl hv hw hvw hal hac ht hln hh hh2 c H hx hba h0;cases q
      ·walk_at "!aX"
       all_goals (try simp only[List.append_nil])
      ·walk_at "!aX") t ht
    refine⟨t3, ?_,h3⟩;unfold gY;clear hi hl hv hac ht h3 hln hh hh2 c H hx hba h0
    walk_at "!aX") .un .un rfl rfl
  clear hl ht' ht2' hln c H hx h0
  walk_at "!aX"
def C3:run T W (n+1) "rule_of" [.sh (.tup [.str "never",a,b,c])]=some (.ok (.sh (.ins "Never" ["one","other","way"] [a,b,c])),[.sh (.tup [.str "never",a,b,c])]):=by
 rw[a8 iX rfl rfl];unfold d9
 walk_at "!aX"
noncomputable def mx(m y:Int):Int:=if y > m then y else m
theorem B1{m y:Int}:(if y > m then y else m)=mx m y:=rfl
noncomputable def iE(fs:List (Int×Int×Bool)):Int:=(fs.map λf=>1+f.1).foldl mx 3
noncomputable def aBK:List (Int×Int×Bool)->Int
 |[]=>0
 |f::r=>(r.map λf=>f.1).foldl mx f.1
theorem E1:∀(l:List (Int×Int×Bool)) (a c:Int),(l.map λf=>1+f.1).foldl mx (mx c (1+a))=mx c (1+(l.map λf=>f.1).foldl mx a)
 |[],_,_=>rfl
 |f::l,a,c=>by
  have h:mx (mx c (1+a)) (1+f.1)=mx c (1+mx a f.1):=by
   unfold mx
   split<;>split<;>split<;>first | omega | (split<;>omega)
  rw[Zs,List.foldl_cons,h,E1 l (mx a f.1) c,Zs,List.foldl_cons]
def XS(h:1<=fs.length):mx 3 (1+aBK fs)=iE fs:=by
 match fs,h with
 |f::r,_=>exact(E1 r f.1 3).symm
theorem EN:∀(l:List Int) (a:Int),a<=l.foldl mx a
 |[],a=>Int.le_refl a
 |b::l,a=>Int.le_trans (by unfold mx;split<;>omega) (EN l (mx a b))
theorem OX:∀(l:List Int) (a:Int),a<=b->(∀x∈l,x<=b)->l.foldl mx a<=b
 |[],_,h,_=>h
 |x::l,a,h,hl=>OX l (mx a x) (by have:=hl x (zh ..);unfold mx;split<;>omega) λy hy=>hl y (Ze _ hy)
theorem PQ:∀(l:List Int) (a:Int),x∈l->x<=l.foldl mx a
 |y::l,a,h=>by
  rcases List.mem_cons.mp h with rfl | h
  ·exact Int.le_trans (by unfold mx;split<;>omega) (EN l (mx a x))
  ·exact PQ l (mx a y) h
def VH(h:f∈fs):1+f.1<=iE fs:=PQ _ 3 (zl.mpr ⟨f,h,rfl⟩)
def aB2(h:HouseOk no ba oc fs):∃m:Nat,iE fs=(m:Int)/\3<=m/\m<=5:=by
 have h1:3<=iE fs:=EN _ _
 have h2:iE fs<=5:=OX _ _ (by decide) λx hx=>by
  obtain⟨f,hf,rfl⟩:=zl.mp hx
  have:=(h.f f hf).2.1
  omega
 exact⟨(iE fs).toNat,by omega,by omega,by omega⟩
def OO:gG .max [.lst ((a::l).map D.int)]=some (.sh (.int (l.foldl mx a))):=by
 show(match d7 ((a::l).map D.int) with
  |some (i::r)=>some (RV.sh (.int (r.foldl (λm y=>if y > m then y else m) i)))
  |_=>none)=_
 rw[lZ];rfl
def mB(h1:1<=fs.length)(h3:fs.length<=3) :
  run T W (n+1) "memory" [.sh (aA no ba oc fs rs)]=some (.ok (.sh (.int (iE fs))),[.sh (aA no ba oc fs rs)]):=by
 rw[a8 UG rfl rfl];unfold pM;have hi:aD .of [.val (.sh (.tup (fs.map cI)))] [.sh (aA no ba oc fs rs)]=some (fs.map cI,none):=zC rfl
 obtain⟨acc,Ui,e,⟨t1,rfl,ht1,rfl⟩,_⟩:=fQ (tests:=dI T.pins (run T W n) []) (elt:=ev T.pins (run T W n) false pT) (bind:=aU true [1]) (ds:=fs.map cI)
  (λj acc U=>∃(t1:Sl),U=[.un,t1]/\bB t1=true/\acc=((fs.take j).map λf=>f.1).map D.int)
  (λj d hd acc U hU=>by
   obtain⟨t1,rfl,ht1,rfl⟩:=hU;obtain⟨f,hf,rfl⟩:∃f,fs[j]?=some f/\cI f=d:=by simpa using hd
   refine⟨_,true,_,by simp only[eM,aZ ht1]<;>rfl,gS,λ_=>?_,λz=>nomatch z⟩;refine⟨.sh (.int f.1),[.un,.sh (cI f)], ?_,_,rfl,rfl, ?_⟩
   ·unfold pT cI
    walk_at "!% B1"
   ·rw[List.take_succ,hf,zd,zd]
    rfl)
  [] [.un,.un] ⟨_,rfl,rfl,rfl⟩
 have ht:fs.take (fs.map cI).length=fs:=by(rw[zf];simp)
 rw[ht] at e;have hsm:aJ ((fs.map λf=>f.1).map D.int).length=true:=bD (by simp;omega);have hsm2:aJ fs.length=true:=bD (by omega)
 have hmx:gG .max [.lst ((fs.map λf=>f.1).map D.int)]=some (.sh (.int (aBK fs))):=by
  match fs,h1 with
  |f::r,_=>exact OO
 have hml:=XS h1
 walk_at "!% B1"
 rw[eP hi]
 walk_at "!% B1"
 all_goals (rw[i7 rfl];walk_at "!% B1")
def sR(h3:fs.length<=3) :
  run T W (n+1) "L_memory" [.sh (aA no ba oc fs rs)]=some (.ok (.sh (.int (iE fs))),[.sh (aA no ba oc fs rs)]):=by
 rw[a8 LG rfl rfl];unfold mH;have hi:aD .of [.val (.sh (.tup (fs.map cI)))] [.sh (aA no ba oc fs rs)]=some (fs.map cI,none):=zC rfl
 obtain⟨acc,Ui,e,⟨t1,rfl,ht1,rfl⟩,_⟩:=fQ (tests:=dI T.pins (run T W n) []) (elt:=ev T.pins (run T W n) false mS) (bind:=aU true [1]) (ds:=fs.map cI)
  (λj acc U=>∃(t1:Sl),U=[.un,t1]/\bB t1=true/\acc=((fs.take j).map λf=>1+f.1).map D.int)
  (λj d hd acc U hU=>by
   obtain⟨t1,rfl,ht1,rfl⟩:=hU;obtain⟨f,hf,rfl⟩:∃f,fs[j]?=some f/\cI f=d:=by simpa using hd
   refine⟨_,true,_,by simp only[eM,aZ ht1]<;>rfl,gS,λ_=>?_,λz=>nomatch z⟩;refine⟨.sh (.int (1+f.1)),[.un,.sh (cI f)], ?_,_,rfl,rfl, ?_⟩
   ·unfold mS cI
    walk_at "!% B1"
   ·rw[List.take_succ,hf,zd,zd]
    rfl)
  [] [.un,.un] ⟨_,rfl,rfl,rfl⟩
 have ht:fs.take (fs.map cI).length=fs:=by(rw[zf];simp)
 rw[ht] at e;have hsm:aJ ((fs.map λf=>1+f.1).map D.int).length=true:=bD (by simp;omega);have hsm2:aJ fs.length=true:=bD (by omega);have hsm3:aJ (1+fs.length)=true:=bD (by omega);have hsm4:aJ (0+1+fs.length)=true:=bD (by omega);have hmx:gG .max [.lst (.int 3::(fs.map λf=>1+f.1).map D.int)]=some (.sh (.int (iE fs))):=OO
 walk_at "!% B1"
 rw[eP hi]
 walk_at "!% B1"
 all_goals (rw[i7 rfl];walk_at "!% B1")
def GS{W n:Nat}{i:Int}:run T W (n+1) "is_whole" [.sh (.int i)]=some (.ok (.sh (.bl true)),[.sh (.int i)]):=by
 rw[a8 LF rfl rfl];unfold mD
 walk_at "!"
def BW(h1:a<=i)(h2:i<=b):run T W (n+2) "is_within" [.sh (.int i),.sh (.int a),.sh (.int b)]=some (.ok (.sh (.bl true)),[.sh (.int i),.sh (.int a),.sh (.int b)]):=by
 rw[a8 IT rfl rfl];unfold lA;have c1:decide (a<=i)=true:=Zn h1;have c2:decide (i<=b)=true:=Zn h2
 walk_at "!GS"
noncomputable def jE(m ba n:Int):Int:=if n<=m then n else m+(n-m) % ba
noncomputable def kU(m:Nat)(xs:List Int):List Int:=xs.drop (xs.length-m)
def JK(h:n<=m):jE m ba n=n:=Zo h
def JL(h:¬n<=m):jE m ba n=m+(n-m) % ba:=Zp h
def YO(h0:0<=n)(hm:3<=m)(hb:1<=ba):0<=jE m ba n/\jE m ba n<=m+ba-1:=by
 unfold jE;split
 ·omega
 ·have a:=Int.emod_nonneg (n-m) (b:=ba) (by omega);have b:=Int.emod_lt_of_pos (n-m) (b:=ba) (by omega);omega
def UT(hb:1<=ba):((kU m xs).length:Int)=if(m:Int)<jE m ba xs.length then(m:Int) else jE m ba xs.length:=by
 unfold kU;rw[List.length_drop];unfold jE;by_cases h:(xs.length:Int)<=(m:Int)
 ·rw[Zo h,Zp (by omega)];omega
 ·rw[Zp h];have a:=Int.emod_nonneg ((xs.length:Int)-m) (b:=ba) (by omega)
  split<;>omega
def X0(h:x∈kU m xs):x∈xs:=List.mem_of_mem_drop h
def CH{W n:Nat}{no ba oc:Int}{fs:List (Int×Int×Bool)}{rs:List D}{m:Nat}{k:Int}(ho:HouseOk no ba oc fs)(hm:iE fs=(m:Int)) :
  run T W (n+2) "turn_of" [.sh (aA no ba oc fs rs),.sh (.int k)]=some (.ok (.sh (.int (jE m ba k))),[.sh (aA no ba oc fs rs),.sh (.int k)]):=by
 rw[a8 OT rfl rfl];unfold nT;have hme:=mB (W:=W) (n:=n) (no:=no) (ba:=ba) (oc:=oc) (rs:=rs) ho.l1 ho.l2;rw[hm] at hme;have g1:0<ba:=by have:=ho.b1;omega
 have g2:ba<nofun:=by have:=ho.b2;omega
 by_cases c:k<=(m:Int)
 ·have c':decide (k<=(m:Int))=true:=Zn c;rw[JK c]
  walk_at "!"
 ·have c':decide (k<=(m:Int))=false:=Zm c;rw[JL c]
  walk_at "!"
def aAg{m:Nat}(h:1<=m):kY (some (.lst (xs.map D.int))) (some (.int (-(m:Int)))) none=some (.ow (.lst ((kU m xs).map D.int))):=by
 show some (RV.ow (.lst (iC (xs.map D.int) (some (-(m:Int))) none)))=_;unfold iC kU
 have e:HT.bQ (xs.map D.int).length 0 (some (-(m:Int)))=xs.length-m:=by(unfold HT.bQ;rw[List.length_map];show(if -(m:Int)<0 then _ else _)=_;rw[Zo (by omega)];omega)
 rw[e,HT.l4,List.length_map,<- List.map_drop,<- List.map_take,zf (by rw[List.length_drop];omega)]
def TY{m:Nat}:kY (some (.lst (xs.map D.int))) (some (.int (if(xs.length:Int)-(m:Int) > 0 then(xs.length:Int)-(m:Int) else 0))) none=some (.ow (.lst ((kU m xs).map D.int))):=by
 have e1:(if(xs.length:Int)-(m:Int) > 0 then(xs.length:Int)-(m:Int) else 0)=((xs.length-m:Nat):Int):=by split<;>omega
 rw[e1];show some (RV.ow (.lst (iC (xs.map D.int) (some ((xs.length-m:Nat):Int)) none)))=_;unfold iC kU;rw[HT.jF,HT.l4,List.length_map,Nat.min_eq_left (by omega),<- List.map_drop,<- List.map_take,zf (by rw[List.length_drop];omega)]
noncomputable def dM(m:Nat)(ba:Int)(xs:List Int):D:=.tup [.int (jE m ba xs.length),.tup ((kU m xs).map D.int)]
def MJ{m:Nat}(ho:HouseOk no ba oc fs)(hm:iE fs=(m:Int))(h3:3<=m) :
  run T W (n+3) "stand_of" [.sh (aA no ba oc fs rs),~~~xs]=some (.ok (.sh (dM m ba xs)),[.sh (aA no ba oc fs rs),~~~xs]):=by
 rw[a8 MB rfl rfl];unfold mC dM;have hme:=mB (W:=W) (n:=n+1) (no:=no) (ba:=ba) (oc:=oc) (rs:=rs) ho.l1 ho.l2;rw[hm] at hme;have htu:=CH (W:=W) (n:=n) (rs:=rs) (k:=(xs.length:Int)) ho hm;have hs:=aAg (xs:=xs) (m:=m) (by omega);clear ho hm h3
 walk_at "!CH %"
def EL{m:Nat}(ho:HouseOk no ba oc fs)(hm:iE fs=(m:Int)) :
  run T W (n+2) "L_stand" [.sh (aA no ba oc fs rs),~~~xs]=some (.ok (.sh (dM m ba xs)),[.sh (aA no ba oc fs rs),~~~xs]):=by
 rw[a8 Q3 rfl rfl];unfold nA dM;have hme:=sR (W:=W) (n:=n) (no:=no) (ba:=ba) (oc:=oc) (rs:=rs) ho.l2;rw[hm] at hme;have g1:0<ba:=by have:=ho.b1;omega
 have g2:ba<nofun:=by have:=ho.b2;omega
 have hs:=TY (xs:=xs) (m:=m);by_cases c:(xs.length:Int)<=(m:Int)
 ·have c':decide ((m:Int)<(xs.length:Int))=false:=Zm (by omega);rw[JK c]
  walk_at "!%"
 ·have c':decide ((m:Int)<(xs.length:Int))=true:=Zn (by omega);rw[JL c]
  walk_at "!%"
def P0{ys:List Int}(ho:HouseOk no ba oc fs)(hm:iE fs=(m:Int))(hl:(ys.length:Int)=if(m:Int)<t then(m:Int) else t)(hl2:ys.length<=1000)(hy:∀y∈ys,0<=y/\y<no) :
  run T W (n+3) "is_tail" [.sh (aA no ba oc fs rs),.sh (.int t),.sh (.tup (ys.map D.int))]=some (.ok (.sh (.bl true)),[.sh (aA no ba oc fs rs),.sh (.int t),.sh (.tup (ys.map D.int))]):=by
 rw[a8 P2 rfl rfl];unfold nQ;have hme:=mB (W:=W) (n:=n+1) (no:=no) (ba:=ba) (oc:=oc) (rs:=rs) ho.l1 ho.l2;rw[hm] at hme;have hi:aD .of [.slot 2] [.sh (aA no ba oc fs rs),.sh (.int t),.sh (.tup (ys.map D.int))]=some (ys.map D.int,none):=aGC rfl
 obtain⟨acc,Ui,e,⟨t1,rfl,ht1,rfl⟩,_⟩:=fQ (tests:=dI T.pins (run T W (n+2)) []) (elt:=ev T.pins (run T W (n+2)) false n9) (bind:=aU true [2]) (ds:=ys.map D.int)
  (λj acc U=>∃(t1:Sl),U=[.sh (aA no ba oc fs rs),.un,t1]/\bB t1=true/\acc=List.replicate j (.bl true))
  (λj d hd acc U hU=>by
   obtain⟨t1,rfl,ht1,rfl⟩:=hU;obtain⟨y,hj,rfl⟩:∃y,ys[j]?=some y/\D.int y=d:=by simpa using hd
   have hyy:=hy y (zj hj);have hw:=BW (W:=W) (n:=n) (i:=y) (a:=0) (b:=no-1) hyy.1 (by omega);refine⟨_,true,_,by simp only[eM,aZ ht1]<;>rfl,gS,λ_=>?_,λz=>nomatch z⟩;refine⟨.sh (.bl true),[.sh (aA no ba oc fs rs),.un,.sh (.int y)], ?_,_,rfl,rfl,by rw[List.replicate_succ'];rfl⟩;unfold n9
   walk_at "!vL List.length_replicate %")
  [] [.sh (aA no ba oc fs rs),.un,.un] ⟨_,rfl,rfl,rfl⟩
 have hsm:aJ ys.length=true:=bD (by omega);have hl':decide ((ys.length:Int)=if(m:Int)<t then(m:Int) else t)=true:=Zn hl
 walk_at "!vL List.length_replicate %"
 rw[eP hi]
 walk_at "!vL List.length_replicate %"
 all_goals (rw[i7 rfl];walk_at "!vL List.length_replicate %")
def B5(m:Nat)(ba:Int)(br:List Int->Nat->List (List Int)):Prop:=∀(a b u:List Int),u.length=m+1->(a.length:Int) % ba=(b.length:Int) % ba->br (a++u) (a.length+m)=br (b++u) (b.length+m)
def BZ{a u:List Int}:(a++u).getD (a.length+i) 0=u.getD i 0:=by
 rw[List.getD_eq_getElem?_getD,List.getElem?_append_right (by omega),Nat.add_sub_cancel_left,<- List.getD_eq_getElem?_getD]
def nX:gx (a++u) (a.length+i)=gx u i:=BZ
def B9{a u:List Int}{c l:Nat}(hf:f.1=(l:Int))(h1:l<=c)(h2:c<u.length) :
  cB (a++u) ((a.length:Int)+(c:Int)) f=.int (if f.2.2=true then f.2.1-u.getD (c-l) 0 else f.2.1+u.getD (c-l) 0):=by
 unfold cB;rw[hf,Zo ⟨by omega,by rw[Za];omega⟩];have e:((a.length:Int)+(c:Int)-(l:Int)).toNat=a.length+(c-l):=by omega
 rw[e,BZ]
theorem lH{a b u:List Int}{fs:List (Int×Int×Bool)}{m c:Nat}(hf:∀f∈fs,0<=f.1/\f.1+1<=(m:Int))(hm:1<=m)(hc:m-1<=c)(h2:c<u.length):aF fs (a++u) ((a.length:Int)+(c:Int))=aF fs (b++u) ((b.length:Int)+(c:Int)):=by
 unfold aF;refine List.map_congr_left λf hm'=>?_
 have hl:0<=f.1/\f.1+1<=(m:Int):=by
  rcases List.mem_cons.mp hm' with rfl | h
  ·exact⟨by decide,by show(0:Int)+1<=m;omega⟩
  ·exact hf f h
 obtain⟨l,hl'⟩:∃l:Nat,f.1=(l:Int):=⟨f.1.toNat,by omega⟩
 rw[B9 hl' (by omega) h2,B9 hl' (by omega) h2]
theorem DQ:((a+m:Nat):Int)=(a:Int)+(m:Int):=Int.natCast_add a m
theorem aF8(h:1<=m):((a+m:Nat):Int)-1=(a:Int)+((m-1:Nat):Int):=by omega
section
variable{m:Nat}{ba:Int}{fs:List (Int×Int×Bool)}(hf:∀f∈fs,0<=f.1/\f.1+1<=(m:Int))(h3:3<=m)
include hf h3
def S3:B5 m ba λxs b=>iO be sp ba oc fs xs (b:Int):=λa b u hu hab=>by
 have e:((a.length:Int)+(m:Int)) % ba=((b.length:Int)+(m:Int)) % ba:=by rw[Int.add_emod,hab,<- Int.add_emod]
 simp only[iO,DQ,e,lH (b:=b) (u:=u) (c:=m) hf (by omega) (by omega) (by omega)]
def NK:B5 m ba λxs b=>i8 lo hi fs xs (b:Int):=λa b u hu hab=>by
 simp only[i8,DQ,lH (b:=b) (u:=u) (c:=m) hf (by omega) (by omega) (by omega)]
def PR:B5 m ba λxs b=>oG fs xs (b:Int) v w:=λa b u hu hab=>by
 simp only[oG,DQ,lH (b:=b) (u:=u) (c:=m) hf (by omega) (by omega) (by omega)]
def QG{one other oc:Int}{x:PySem.Str}:B5 m ba λxs b=>jX one other oc x fs xs (b:Int):=λa b u hu hab=>by
 simp only[jX,aF8 (show 1<=m by omega),lH (a:=a) (b:=b) (u:=u) (c:=m-1) hf (by omega) (by omega) (by omega)];simp only[DQ,lH (a:=a) (b:=b) (u:=u) (c:=m) hf (by omega) (by omega) (by omega)]
end
section
variable{m:Nat}{ba:Int}(h3:3<=m)
include h3
def UM:B5 m ba λxs b=>eB (j9 mo xs b):=λa b u hu hab=>by
 obtain⟨k,rfl⟩:∃k,m=k+1:=⟨m-1,by omega⟩
 have e:∀c:List Int,j9 mo (c++u) (c.length+(k+1))=decide (mo<bY (gx u (k+1)-gx u k)):=λc=>by(show decide (mo<bY (gx (c++u) (c.length+(k+1))-gx (c++u) (c.length+k)))=_;rw[nX,nX])
 simp only[e]
def S0:B5 m ba λxs b=>eB (fX lp mo xs b):=λa b u hu hab=>by
 obtain⟨k,rfl⟩:∃k,m=k+2:=⟨m-2,by omega⟩
 have e:∀c:List Int,fX lp mo (c++u) (c.length+(k+2))=(decide (lp<=bY (gx u (k+1)-gx u k)) && !(decide ((gx u (k+1)-gx u k)*(gx u (k+2)-gx u (k+1))<0)&&decide (bY (gx u (k+2)-gx u (k+1))<=mo))):=λc=>by(have q1:=nX (a:=c) (u:=u) (i:=k);have q2:=nX (a:=c) (u:=u) (i:=k+1);have q3:=nX (a:=c) (u:=u) (i:=k+2);show(decide (lp<=bY (gx (c++u) (c.length+k+1)-gx (c++u) (c.length+k))) && !(decide ((gx (c++u) (c.length+k+1)-gx (c++u) (c.length+k))*(gx (c++u) (c.length+k+2)-gx (c++u) (c.length+k+1))<0)&&decide (bY (gx (c++u) (c.length+k+2)-gx (c++u) (c.length+k+1))<=mo)))=_;rw[Nat.add_assoc,Nat.add_assoc,q1,q2,q3])
 simp only[e]
def OE(hk:k<=3):B5 m ba λxs b=>eB (eG k xs b):=λa b u hu hab=>by
 have e:∀c:List Int,eG k (c++u) (c.length+m)=((u.drop (m-k)).take k).all λz=>decide (z=gx u m):=λc=>by(unfold eG lD;rw[nX,Zn (by omega),Bool.true_and,show c.length+m-k=c.length+(m-k) by omega,<- List.drop_drop,List.drop_left])
 simp only[e]
end
abbrev Br:=List Int->Nat->List (List Int)
abbrev RP:=D×D×Br
noncomputable def K2(o h:D)(xs:List Int)(b:Nat):List Sl:=[.sh o,.sh h,~~~xs,.sh (.int b)]
structure RX(no ba oc:Int)(fs:List (Int×Int×Bool))(rs:List D)(m:Nat)(p:RP):Prop where
 ob:∃c ns ds f q,p.2.1=.ins c ns ds/\gR c ns "broken" eJ=some f/\T.pins f=[true,true,true,q] /\
  ∀(W n:Nat) (xs:List Int) (b:Nat),b<xs.length->(∀x∈xs,0<=x/\x<no)->run T W (n+4) f (K2 (.ins c ns ds) (aA no ba oc fs rs) xs b)=some (.ok (.ow (.lst (aE (p.2.2 xs b)))),K2 (.ins c ns ds) (aA no ba oc fs rs) xs b)
 ru:∀(W n:Nat),run T W (n+1) "rule_of" [.sh p.1]=some (.ok (.sh p.2.1),[.sh p.1])
 lw:∀(W n:Nat) (xs:List Int) (b:Nat),b<xs.length->(∀x∈xs,0<=x/\x<no)->run T W (n+3) "L_broken" [.sh (aA no ba oc fs rs),.sh p.1,~~~xs,.sh (.int b)]=some (.ok (.ow (.lst (aE (p.2.2 xs b)))),[.sh (aA no ba oc fs rs),.sh p.1,~~~xs,.sh (.int b)])
 dep:B5 m ba p.2.2
 len:∀xs b,(p.2.2 xs b).length<=1000
def aFy{m:Nat}(ho:HouseOk no ba oc fs)(hm:iE fs=(m:Int))(h3:3<=m)(h:RuleD no ba oc (fs.length:Int) d):∃o br,RX no ba oc fs rs m (d,o,br):=by
 have l2:=ho.l2;have o1:=ho.o1;have o2:=ho.o2;have b1:=ho.b1;have n2:=ho.n2
 have hf:∀f∈fs,0<=f.1/\f.1+1<=(m:Int):=λf hf=>⟨(ho.f f hf).1,by
  have:=VH hf
  omega⟩
 have h0:∀f∈cG fs,0<=f.1:=λf hf=>by
  rcases List.mem_cons.mp hf with rfl | hf
  ·decide
  ·exact(ho.f f hf).1
 have l20:fs.length<=20:=by omega
 have l9:fs.length<=900:=by omega
 have l1:fs.length<=1000:=by omega
 cases h with
 |span a b h1 h2 h3' h4 =>
  exact⟨_,λxs b'=>iO a b ba oc fs xs (b':Int),⟨_,_,_,_,true,rfl,AJ,C8,λW n xs b' _ _=>HX l20 h3' (by omega) (by omega)⟩,λW n=>G7,λW n xs b' _ _=>ID (n:=n+1) l20 (by omega) o1 o2,S3 hf h3,λxs b'=>OF l20⟩
 |leap a h1 h2 =>
  exact⟨_,λxs b'=>eB (j9 a xs b'),⟨_,_,_,_,false,rfl,A0,DJ,λW n xs b' hb _=>IC (n:=n+3) hb⟩,λW n=>GZ,λW n xs b' hb _=>IH (n:=n+1) l1 hb,UM h3,λxs b'=>xO⟩
 |back a b h1 h2 h3' h4 =>
  exact⟨_,λxs b'=>eB (fX a b xs b'),⟨_,_,_,_,false,rfl,AQ,CY,λW n xs b' hb hx=>HY (n:=n+3) hb λx hm'=>⟨(hx x hm').1,by have:=(hx x hm').2;omega⟩⟩,λW n=>EO,λW n xs b' hb _=>HZ (n:=n+1) l1 hb h1,S0 h3,λxs b'=>xO⟩
 |again a h1 h2 =>
  obtain⟨k,rfl⟩:∃k:Nat,a=(k:Int):=⟨a.toNat,by omega⟩
  exact⟨_,λxs b'=>eB (eG k xs b'),⟨_,_,_,_,false,rfl,yH,A3,λW n xs b' hb _=>FG (n:=n+3) hb (by omega)⟩,λW n=>DK,λW n xs b' hb _=>GX (n:=n+1) l1 hb (by omega) (by omega),OE h3 (by omega),λxs b'=>xO⟩
 |range a b h1 h2 h3' =>
  exact⟨_,λxs b'=>i8 a b fs xs (b':Int),⟨_,_,_,_,true,rfl,z7,BK,λW n xs b' _ _=>HA l9⟩,λW n=>DH,λW n xs b' _ _=>GB (n:=n+1) l9,NK hf h3,λxs b'=>xJ (by omega)⟩
 |above v w h1 h2 h3' =>
  exact⟨_,λxs b'=>oG fs xs (b':Int) v w,⟨_,_,_,_,true,rfl,z8,AU,λW n xs b' _ _=>GG (n:=n+1) (by omega) (by omega)⟩,λW n=>DD,λW n xs b' _ _=>EM (n:=n+1) l9 (by omega) (by omega),PR hf h3,λxs b'=>twoD_len⟩
 |never a b x h1 h2 h3' h4 h5 =>
  exact⟨_,λxs b'=>jX a b oc x fs xs (b':Int),⟨_,_,_,_,true,rfl,zQ,A1,λW n xs b' hb hx=>GH l20 (by omega) h5 (V2 ho hx hb)⟩,λW n=>C3,λW n xs b' hb hx=>D7 l20 (by omega) (by omega) h5 (V2 ho hx hb) h0,QG hf h3,λxs b'=>nS (by omega)⟩
theorem QB{m:Nat}(ho:HouseOk no ba oc fs)(hm:iE fs=(m:Int))(h3:3<=m):∀ds:List D,(∀d∈ds,RuleD no ba oc (fs.length:Int) d)->∃ps:List RP,ps.map (·.1)=ds/\∀p∈ps,RX no ba oc fs rs m p
 |[],_=>⟨[],rfl,λ_ z=>nomatch z⟩
 |d::ds,h=>by
  obtain⟨ps,h1,h2⟩:=QB ho hm h3 ds λd' hd=>h d' (Ze _ hd)
  obtain⟨o,br,hx⟩:=aFy ho hm h3 (h d zh);refine⟨(d,o,br)::ps,by rw[Zs,h1],λp hp=>?_⟩;rcases List.mem_cons.mp hp with rfl | hp
  ·exact hx
  ·exact h2 p hp
def aE4(h:U[i]?=some (.ow (.lst ds) p l)):aD (.enum lo) [.slot i] U=some (dY lo ds,some i):=by simp only[aD,h]
def N1{bind:D->Env->Option Env}(ok:D->Bool)(v:RV)(I:Env->Prop)(h:∀d∈ds,∀U,I U->∃U1,bind d U=some U1/\∃U2,body U1=some (if ok d=true then .nx else .rt v,U2)/\I U2) :
  ∀{U:Env},I U->∃U',bZ bind body ds U=some (if ds.all ok=true then .nx else .rt v,U')/\I U':=by
 induction ds with
 |nil=>exact λhU=>⟨_,rfl,hU⟩
 |cons d ds ih =>
  intro U hU;obtain⟨U1,e1,U2,e2,h2⟩:=h d (by simp) U hU
  cases c:ok d with
  |true =>
   obtain⟨U',e3,h3⟩:=ih (λd' hd'=>h d' (by simp[hd'])) h2;rw[c,Zo rfl] at e2;exact⟨U',by simp only[bZ,e1,e2,e3,Zj,c,Bool.true_and],h3⟩
  |false =>
   rw[c,Zp (by decide)] at e2;exact⟨U2,by simp only[bZ,e1,e2,Zj,c,Bool.false_and];rfl,h2⟩
section
variable{no ba oc:Int}{fs:List (Int×Int×Bool)}{rs:List D}{m:Nat}{ps:List RP}
def MO(hrs:ps.map (·.1)=rs)(hp:∀p∈ps,RX no ba oc fs rs m p)(hl:rs.length<=8):run T W (n+2) "rules_of" [.sh (aA no ba oc fs rs)]=some (.ok (.ow (.lst (ps.map (·.2.1)))),[.sh (aA no ba oc fs rs)]):=by
 rw[a8 LA rfl rfl];unfold mK;have hl':ps.length<=8:=by rw[<- hrs,List.length_map] at hl;exact hl
 have hi:aD .of [.val (.sh (.tup rs))] [.sh (aA no ba oc fs rs)]=some (rs,none):=zC rfl
 obtain⟨acc,Ui,e,⟨t1,rfl,ht1,rfl⟩,_⟩:=fQ (tests:=dI T.pins (run T W (n+1)) []) (elt:=ev T.pins (run T W (n+1)) false mT) (bind:=aU true [1]) (ds:=rs)
  (λj acc U=>∃(t1:Sl),U=[.un,t1]/\bB t1=true/\acc=(ps.take j).map (·.2.1))
  (λj d hd acc U hU=>by
   obtain⟨t1,rfl,ht1,rfl⟩:=hU
   obtain⟨p,hpj,rfl⟩:∃p,ps[j]?=some p/\p.1=d:=by
    rw[<- hrs,Zh] at hd
    cases q:ps[j]? with
    |none=>rw[q] at hd;cases hd
    |some p=>rw[q] at hd;exact⟨p,rfl,Option.some.inj hd⟩
   have hw:=(hp p (zj hpj)).ru W n;refine⟨_,true,_,by simp only[eM,aZ ht1]<;>rfl,gS,λ_=>?_,λz=>nomatch z⟩;refine⟨.sh p.2.1,[.un,.sh p.1], ?_,_,rfl,rfl,by rw[List.take_succ,hpj,zd];rfl⟩;unfold mT
   walk_at "!")
  [] [.un,.un] ⟨_,rfl,rfl,rfl⟩
 rw[show rs.length=ps.length by rw[<- hrs,List.length_map],List.take_length] at e;have hsm:aJ (ps.map (·.2.1)).length=true:=bD (by simp;omega)
 walk_at "!"
 rw[eP hi]
 walk_at "!"
 all_goals (rw[i7 rfl];walk_at "!")
noncomputable def tR(ps:List RP)(xs:List Int)(b:Nat):Nat:=(ps.map λp=>(p.2.2 xs b).length).sum
theorem N0:∀(ps:List RP),(∀p∈ps,(p.2.2 xs b).length<=1000)->tR ps xs b<=1000*ps.length
 |[],_=>by simp[tR]
 |p::ps,h=>by
  have h1:=h p zh;have h2:=N0 ps λq hq=>h q (Ze _ hq)
  unfold tR at h2 ⊢;rw[Zs,List.sum_cons,Zk];omega
def HM{b:Nat}(hp:∀p∈ps,RX no ba oc fs rs m p)(hl:ps.length<=8)(hb:b<xs.length)(hx:∀x∈xs,0<=x/\x<no) :
  ∃L:List D,run T W (n+5) "breaks_at" [.sh (aA no ba oc fs rs),.p (.lst (ps.map (·.2.1))),~~~xs,.sh (.int b)]=some (.ok (.ow (.lst L)),[.sh (aA no ba oc fs rs),.p (.lst (ps.map (·.2.1))),~~~xs,.sh (.int b)])/\L.length=tR ps xs b:=by
 rw[a8 II rfl rfl];unfold k8;have hi:aD (.enum 0) [.slot 1] [.sh (aA no ba oc fs rs),.p (.lst (ps.map (·.2.1))),~~~xs,.sh (.int b),.o (.lst []),.un,.un,.un]=some (dY 0 (ps.map (·.2.1)),some 1):=aE4 rfl
 obtain⟨U1,e1,L,t5,t6,t7,rfl,h5,h6,h7,hL⟩:=d8 (bind:=aU false [5,6]) (body:=exs T.pins (run T W (n+4)) W lX)
  (λpre U=>∃(L:List D) (t5 t6 t7:Sl),U=[.sh (aA no ba oc fs rs),.un,~~~xs,.sh (.int b),.o (.lst L),t5,t6,t7]/\bB t5=true/\bB t6=true/\bB t7=true/\L.length=tR (ps.take pre.length) xs b)
  (ds:=dY 0 (ps.map (·.2.1))) (λpre d post hds U hU=>by
   obtain⟨L,t5,t6,t7,rfl,h5,h6,h7,hL⟩:=hU
   have hlen:pre.length<ps.length:=by
    have:=congrArg List.length hds
    rw[gF,List.length_map,Za,Zk] at this;omega
   obtain⟨p,hpj⟩:∃p,ps[pre.length]?=some p:=⟨_,Zb hlen⟩
   have hd:d=.tup [.int (0+(pre.length:Int)),p.2.1]:=by(have q:=oX (lo:=0) (ds:=ps.map (·.2.1)) (i:=pre.length) (d:=p.2.1) (by rw[Zh,hpj];rfl);rw[hds,List.getElem?_append_right (Zq _),Nat.sub_self] at q;exact Option.some.inj q)
   subst hd;refine⟨_,by simp only[eM,aZ h5,aZ h6]<;>rfl, ?_⟩;have hrx:=hp p (zj hpj);have hlen1:=hrx.len xs b;have hbr:=N0 (ps.take pre.length) λq hq=>(hp q (List.mem_of_mem_take hq)).len xs b
   rw[List.length_take] at hbr
   have hN:tR (ps.take (pre++[D.tup [D.int (0+(pre.length:Int)),p.2.1]]).length) xs b=tR (ps.take pre.length) xs b+(p.2.2 xs b).length:=by(rw[Za,Zk,List.length_nil,List.take_succ,hpj];unfold tR;simp)
   rw[hN];obtain⟨c,ns,ds,f,q,ho,hmt,hpi,hrun⟩:=hrx.ob;have hr:=hrun W n xs b hb hx;unfold K2 at hr;rw[ho]
   generalize p.2.2 xs b=Z at *
   have hi2:aD .of [.val (.ow (.lst (aE Z)))] [.sh (aA no ba oc fs rs),.un,~~~xs,.sh (.int b),.o (.lst L),.sh (.int (0+(pre.length:Int))),.sh (.ins c ns ds),t7]=some (aE Z,none):=D3 rfl
   obtain⟨U2,e2,L2,t7',rfl,h7',hL2⟩:=d8 (bind:=aU true [7]) (body:=exs T.pins (run T W (n+4)) W lY)
    (λpr U=>∃(L2:List D) (t7:Sl),U=[.sh (aA no ba oc fs rs),.un,~~~xs,.sh (.int b),.o (.lst L2),.sh (.int (0+(pre.length:Int))),.sh (.ins c ns ds),t7]/\bB t7=true/\L2.length=L.length+pr.length)
    (ds:=aE Z) (λpr d po hd' U hU=>by
     obtain⟨L2,t7,rfl,h7,hL2⟩:=hU;refine⟨_,by simp only[eM,aZ h7]<;>rfl, ?_⟩
     have hz:pr.length<=1000:=by
      have:=congrArg List.length hd'
      rw[eE,Za] at this;omega
     have hsm:aJ (L2.length+1)=true:=bD (by omega);refine⟨[.sh (aA no ba oc fs rs),.un,~~~xs,.sh (.int b),.o (.lst (L2++[.tup [.int b,.int (0+(pre.length:Int)),d]])),.sh (.int (0+(pre.length:Int))),.sh (.ins c ns ds),.sh d], ?_,_,_,rfl,rfl,by rw[Za,Za,hL2];rfl⟩;unfold lY;clear hp hl hb hx hi hL hlen hpj hrx hlen1 hbr hN ho hmt hpi hrun hr hi2 hd' hz hL2 h5 h6 h7 hds
     walk_at "!")
    (U:=[.sh (aA no ba oc fs rs),.un,~~~xs,.sh (.int b),.o (.lst L),.sh (.int (0+(pre.length:Int))),.sh (.ins c ns ds),t7]) ⟨L,_,rfl,h7,by simp⟩
   rw[eE] at hL2;refine⟨[.sh (aA no ba oc fs rs),.un,~~~xs,.sh (.int b),.o (.lst L2),.sh (.int (0+(pre.length:Int))),.sh (.ins c ns ds),t7'], ?_,_,_,_,_,rfl,rfl,rfl,h7',by rw[hL2,hL]⟩;unfold lX
   cases q<;>walk_at "!")
  (U:=[.sh (aA no ba oc fs rs),.un,~~~xs,.sh (.int b),.o (.lst []),.un,.un,.un]) ⟨[],_,_,_,rfl,rfl,rfl,rfl,by simp[tR]⟩
 rw[gF,List.length_map,List.take_length] at hL;refine⟨L, ?_,hL⟩
 walk_at "!"
 simp only[aQ,List.set_cons_zero,List.set_cons_succ,e1,dB.restore,fB,zr,List.getElem?_cons_succ,Option.map_some]
 walk_at "!"
end
section
variable{no ba oc:Int}{fs:List (Int×Int×Bool)}{rs:List D}{m:Nat}{ps:List RP}
def FZ:(List.replicate z [x]).flatten=List.replicate z x:=by
 induction z with
 |zero=>rfl
 |succ z ih=>rw[List.replicate_succ,List.flatten_cons,ih];rfl
noncomputable def iP(z:Nat)(tl:List Int):List Int:=List.replicate z 0++tl
noncomputable def lO(z:Nat)(tl:List Int):D:=.tup [.int ((z:Int)+(tl.length:Int)),.tup (tl.map D.int)]
theorem A7:(iP z tl).length=z+tl.length:=by unfold iP;simp
def uM(hz:z<=100)(ht:tl.length<=1000):run T W (n+1) "line_to" [.sh (lO z tl)]=some (.ok (.ow (.lst ((iP z tl).map D.int))),[.sh (lO z tl)]):=by
 rw[a8 O3 rfl rfl];unfold nN lO;have e0:(z:Int)+(tl.length:Int)-(tl.length:Int)=(z:Int):=by omega
 have e1:bX .Mult (.lst [.int 0]) (.int z)=some (.ow (.lst (List.replicate z (.int 0)))):=by(rw[zD (by omega) (by omega) (cZ (by simp;omega)),Int.toNat_natCast,FZ])
 have e2:bX .Add (.lst (List.replicate z (.int 0))) (.lst (tl.map D.int))=some (.ow (.lst ((iP z tl).map D.int))):=by(rw[oZ (cZ (by simp;omega))];unfold iP;rw[zd,List.map_replicate])
 walk_at "!%"
def vX:xs.map D.int++[D.int q]=(xs++[q]).map D.int:=by rw[zd];rfl
noncomputable def b8(ps:List RP)(xs:List Int)(q:Int):Bool:=decide (((tR ps (xs++[q]) xs.length:Nat):Int)=0)
def BC{k:Nat}(h:k<=1000):aD .rng [.val (.sh (.int k))] U=some (rg k,none):=by
 refine Eq.trans (nG (n:=(k:Int)) rfl (by omega) (by omega)) ?_;rw[Int.toNat_natCast]
noncomputable def c9(k:Nat)(ok:Int->Bool):List Int:=((List.range k).filter λ(j:Nat)=>ok (j:Int)).map λ(j:Nat)=>(j:Int)
def aB7:((List.range k).filter λ(j:Nat)=>ok (j:Int)).map (λ(j:Nat)=>D.int j)=(c9 k ok).map D.int:=by unfold c9;rw[List.map_map];rfl
def lR:(c9 k ok).length<=k:=by
 unfold c9;rw[List.length_map];exact Zr (List.length_filter_le _ _) (by rw[List.length_range];exact Zq _)
def M6{W n:Nat}{k z:Nat}(hk:no=(k:Int))(hk7:k<=7)(hrs:ps.map (·.1)=rs)(hp:∀p∈ps,RX no ba oc fs rs m p)(hl:rs.length<=8)(hz:z<=100)(ht:tl.length<=1000)(hx:∀x∈tl,0<=x/\x<no) :
  run T W (n+6) "nexts" [.sh (aA no ba oc fs rs),.sh (lO z tl)]=some (.ok (.ow (.lst ((c9 k (b8 ps (iP z tl))).map D.int))),[.sh (aA no ba oc fs rs),.sh (lO z tl)]):=by
 rw[a8 aA1 rfl rfl];unfold sD;have hl':ps.length<=8:=by rw[<- hrs,List.length_map] at hl;exact hl
 have h1:=MO (W:=W) (n:=n+3) hrs hp hl;have h2:=uM (W:=W) (n:=n+4) hz ht;have hi:∀{U:Env},aD .rng [.val (.sh (.int no))] U=some (rg k,none):=λ{U}=>by rw[hk];exact BC (by omega)
 have hix:d6 (some (aA no ba oc fs rs)) (.int 0)=some (.sh (.int no)):=rfl
 have hxl:∀x∈iP z tl,0<=x/\x<no\/x=0:=λx hm=>by
  unfold iP at hm;rcases zo.mp hm with h | h
  ·exact .inr (List.eq_of_mem_replicate h)
  ·exact .inl (hx x h)
 have hlen:(iP z tl).length<=1100:=by rw[A7];omega
 generalize iP z tl=ys at *
 obtain⟨Ui,e,t4,rfl,ht4⟩:=rP (tests:=dI T.pins (run T W (n+5)) [.cmp .Eq (.bif .len [.call "breaks_at" [.var 0,.var 2,.bin .Add (.var 1) (.lst [.var 4]),.bif .len [.var 1]]]) (.con (.int 0))]) (elt:=ev T.pins (run T W (n+5)) false rX) (bind:=aU true [4]) (ds:=rg k)
  (λj=>b8 ps ys (j:Int)) (λj=>.int j) (λU=>∃t4,U=[.sh (aA no ba oc fs rs),.p (.lst (ys.map D.int)),.p (.lst (ps.map (·.2.1))),.un,t4]/\bB t4=true)
  (λj d hd U hU=>by
   obtain⟨t4,rfl,ht4⟩:=hU
   have hj:j<k:=by
    have:=(Zc.mp hd).1
    simpa using this
   have hd':d=.int j:=by(rw[Zh,List.getElem?_range hj] at hd;exact(Option.some.inj hd).symm)
   subst hd'
   have hcat:bX .Add (.lst (ys.map D.int)) (.lst [.int j])=some (.ow (.lst ((ys++[(j:Int)]).map D.int))):=by(rw[oZ (cZ (by simp;omega)),vX])
   obtain⟨L,hb,hL⟩:=HM (W:=W) (n:=n) (xs:=ys++[(j:Int)]) (b:=ys.length) hp hl' (by simp) (λx hm=>by
    rcases zo.mp hm with h | h
    ·rcases hxl x h with h | h
     ·exact h
     ·subst h;omega
    ·rw[ze.mp h];omega)
   have hok:decide ((L.length:Int)=0)=b8 ps ys (j:Int):=by rw[hL];rfl
   refine⟨_,[.sh (aA no ba oc fs rs),.p (.lst (ys.map D.int)),.p (.lst (ps.map (·.2.1))),.un,.sh (.int j)],by simp only[eM,aZ ht4]<;>rfl, ?_,λ_=>⟨.sh (.int j),[.sh (aA no ba oc fs rs),.p (.lst (ys.map D.int)),.p (.lst (ps.map (·.2.1))),.un,.sh (.int j)], ?_,rfl,.sh (.int j),rfl,rfl⟩,λ_=>⟨.sh (.int j),rfl,rfl⟩⟩
   ·clear hd hj hL hp hl hl' hxl hlen h1 h2 hi hix ht4 hrs hx hk
    walk_at "!%"
   ·unfold rX;clear hd hj hL hp hl hl' hxl hlen h1 h2 hi hix ht4 hrs hx hk hcat hb hok
    walk_at "!%")
  [.sh (aA no ba oc fs rs),.p (.lst (ys.map D.int)),.p (.lst (ps.map (·.2.1))),.un,.un] ⟨_,rfl,rfl⟩
 rw[List.length_map,List.length_range,aB7] at e;have hsm:aJ ((c9 k (b8 ps ys)).map D.int).length=true:=bD (by rw[List.length_map];have:=lR (k:=k) (ok:=b8 ps ys);omega);have hsm2:aJ (c9 k (b8 ps ys)).length=true:=bD (by have:=lR (k:=k) (ok:=b8 ps ys);omega);clear hp hl hl' hxl hlen hrs hx hk ht4
 walk_at "!%"
 rw[eP hi]
 walk_at "!%"
 all_goals (first | done | (rw[i7 rfl];walk_at "!%"))
def XE{Z:List (List Int)}:bL .NotEq (.lst (aE Z)) (.lst [])=some (!Z.isEmpty):=by
 rw[UW (R3 Z) rfl];cases Z<;>rfl
theorem EK:∀(ps:List RP),decide (((tR ps xs b:Nat):Int)=0)=ps.all λp=>(p.2.2 xs b).isEmpty
 |[]=>rfl
 |p::ps=>by(have ih:=EK (xs:=xs) (b:=b) ps;rw[Zj,<- ih];unfold tR;rw[Zs,List.sum_cons,Bool.eq_iff_iff];cases p.2.2 xs b<;>simp<;>omega)
def ND(hrs:ps.map (·.1)=rs)(hp:∀p∈ps,RX no ba oc fs rs m p)(hx:∀x∈xs++[q],0<=x/\x<no) :
  run T W (n+4) "L_free" [.sh (aA no ba oc fs rs),.p (.lst ((xs++[q]).map D.int))]=some (.ok (.sh (.bl (b8 ps xs q))),[.sh (aA no ba oc fs rs),.p (.lst ((xs++[q]).map D.int))]):=by
 rw[a8 SD rfl rfl];unfold pG b8;rw[EK];have hi:aD .of [.val (.sh (.tup rs))] [.sh (aA no ba oc fs rs),.p (.lst ((xs++[q]).map D.int)),.un]=some (rs,none):=zC rfl;have hle:(((xs++[q]).length:Nat):Int)-1=(xs.length:Int):=by rw[Za,Zk,List.length_nil];omega
 have hb:xs.length<(xs++[q]).length:=by simp
 obtain⟨ok,hok⟩:∃ok:D->Bool,∀p∈ps,ok p.1=(p.2.2 (xs++[q]) xs.length).isEmpty:=by
  refine⟨λd=>@decide (∃p∈ps,p.1=d/\(p.2.2 (xs++[q]) xs.length).isEmpty=true) (cl _),λp hm=>?_⟩
  cases c:(p.2.2 (xs++[q]) xs.length).isEmpty with
  |true=>exact @decide_eq_true _ (cl _) ⟨p,hm,rfl,c⟩
  |false =>
   refine @decide_eq_false _ (cl _) λ⟨p',hm',e,c'⟩=>?_
   have r1:=(hp p hm).lw 0 0 (xs++[q]) xs.length hb hx;have r2:=(hp p' hm').lw 0 0 (xs++[q]) xs.length hb hx;rw[e,r1] at r2
   injection r2 with r2
   injection r2 with r2
   injection r2 with r2
   injection r2 with r2
   injection r2 with r2
   have l:=congrArg List.length r2;rw[eE,eE] at l;rw[List.isEmpty_iff_length_eq_zero] at c';rw[<- l,<- List.isEmpty_iff_length_eq_zero,c] at c';cases c'
 have hall:(ps.all λp=>(p.2.2 (xs++[q]) xs.length).isEmpty)=rs.all ok:=by(rw[<- hrs,List.all_map];rw[Bool.eq_iff_iff,List.all_eq_true,List.all_eq_true];exact⟨λh p hm=>by show ok p.1=true;rw[hok p hm];exact h p hm,λh p hm=>by rw[<- hok p hm];exact h p hm⟩)
 rw[hall]
 obtain⟨U1,e1,t,rfl,ht⟩:=N1 (bind:=aU true [2]) (body:=exs T.pins (run T W (n+3)) W pS) ok (.sh (.bl false))
  (λU=>∃t,U=[.sh (aA no ba oc fs rs),.p (.lst ((xs++[q]).map D.int)),t]/\bB t=true) (ds:=rs) (λd hd U hU=>by
   obtain⟨t,rfl,ht⟩:=hU;rw[<- hrs] at hd;obtain⟨p,hm,rfl⟩:=zl.mp hd;refine⟨_,by simp only[eM,aZ ht]<;>rfl, ?_⟩;have hw:=(hp p hm).lw W n (xs++[q]) xs.length hb hx;rw[hok p hm]
   generalize p.2.2 (xs++[q]) xs.length=Z at *
   refine⟨[.sh (aA no ba oc fs rs),.p (.lst ((xs++[q]).map D.int)),.sh p.1], ?_,_,rfl,rfl⟩;unfold pS
   generalize xs++[q]=zs at *
   cases c:Z.isEmpty<;>walk_at "!XE %")
  (U:=[.sh (aA no ba oc fs rs),.p (.lst ((xs++[q]).map D.int)),.un]) ⟨_,rfl,rfl⟩
 generalize xs++[q]=zs at *
 cases c:rs.all ok<;>rw[c] at e1<;>walk_at "!XE %"
end
section
variable{no ba oc:Int}{fs:List (Int×Int×Bool)}{rs:List D}{m:Nat}{ps:List RP}
def IA{tl:List Int}(ho:HouseOk no ba oc fs)(hm:iE fs=(m:Int))(h3:3<=m)(hz:z<=100)(ht:tl.length<=1000) :
  run T W (n+4) "behind" [.sh (aA no ba oc fs rs),.sh (lO z tl),.sh (.int q)]=some (.ok (.sh (dM m ba (iP z tl++[q]))),[.sh (aA no ba oc fs rs),.sh (lO z tl),.sh (.int q)]):=by
 rw[a8 RG rfl rfl];unfold pA;have h1:=uM (W:=W) (n:=n+2) hz ht
 have hcat:bX .Add (.lst ((iP z tl).map D.int)) (.lst [.int q])=some (.ow (.lst ((iP z tl++[q]).map D.int))):=by(rw[oZ (cZ (by simp[A7];omega)),vX])
 have h2:=MJ (W:=W) (n:=n) (rs:=rs) (xs:=iP z tl++[q]) ho hm h3
 generalize iP z tl++[q]=zs at *
 walk_at "!%"
end
def OI(h:(rg n)=pre++d::post):d=.int pre.length/\pre.length<n:=by
 have hl:=congrArg List.length h;rw[List.length_map,List.length_range,Za,Zk] at hl;have h2:(rg n)[pre.length]?=some d:=by rw[h,List.getElem?_append_right (Zq _),Nat.sub_self];rfl
 rw[Zh,List.getElem?_range (by omega)] at h2;exact⟨(Option.some.inj h2).symm,by omega⟩
def PU:c9 (k+1) ok=c9 k ok++(if ok (k:Int)=true then [(k:Int)] else []):=by
 unfold c9;rw[List.range_succ,List.filter_append,zd];by_cases h:ok (k:Int)=true
 ·rw[Zo h,List.filter_cons_of_pos (p:=λ(j:Nat)=>ok (j:Int)) h];rfl
 ·rw[Zp h,List.filter_cons_of_neg (p:=λ(j:Nat)=>ok (j:Int)) h];rfl
def Z2:(c9 k ok).Nodup:=by
 unfold c9;exact List.Pairwise.map _ (λa b h z=>h (Int.ofNat.inj z)) (List.Pairwise.filter _ List.nodup_range)
section
variable{no ba oc:Int}{fs:List (Int×Int×Bool)}{rs:List D}{m:Nat}{ps:List RP}
def In(no:Int)(xs:List Int):Prop:=∀x∈xs,0<=x/\x<no
def In.app(h:In no xs)(k:In no ys):In no (xs++ys):=λx hx=>(zo.mp hx).elim (h x) (k x)
def In.one(h:0<=q/\q<no):In no [q]:=λx hx=>by rw[ze.mp hx];exact h
def Q1(h:In no tl)(h1:1<=no):In no (iP z tl):=λx hx=>by
 unfold iP at hx;rcases zo.mp hx with hx | hx
 ·rw[List.eq_of_mem_replicate hx];omega
 ·exact h x hx
def GC(hz:z<=100)(ht:tl.length<=1000):run T W (n+1) "L_as_line" [.sh (lO z tl)]=some (.ok (.ow (.lst ((iP z tl).map D.int))),[.sh (lO z tl)]):=by
 rw[a8 HL rfl rfl];unfold k9 lO;have e0:(z:Int)+(tl.length:Int)-(tl.length:Int)=(z:Int):=by omega
 have e1:bX .Mult (.lst [.int 0]) (.int z)=some (.ow (.lst (List.replicate z (.int 0)))):=by(rw[zD (by omega) (by omega) (cZ (by simp;omega)),Int.toNat_natCast,Mx.FZ])
 have e2:bX .Add (.lst (List.replicate z (.int 0))) (.lst (tl.map D.int))=some (.ow (.lst ((iP z tl).map D.int))):=by(rw[oZ (cZ (by simp;omega))];unfold iP;rw[zd,List.map_replicate])
 walk_at "!%"
noncomputable def cW(m:Nat)(ba:Int)(ys:List Int)(q:Int):D:=.tup [.int q,dM m ba (ys++[q])]
noncomputable def jZ(m:Nat)(ba:Int)(ps:List RP)(ys:List Int)(k:Nat):List D:=(c9 k (b8 ps ys)).map (cW m ba ys)
def OA{W n:Nat}{kn z:Nat}{tl:List Int}(ho:HouseOk no ba oc fs)(hm:iE fs=(m:Int))(hk:no=(kn:Int))(hrs:ps.map (·.1)=rs)(hp:∀p∈ps,RX no ba oc fs rs m p)(hz:z<=100)(ht:tl.length<=1000)(hx:In no tl) :
  run T W (n+5) "L_ways" [.sh (aA no ba oc fs rs),.sh (lO z tl)]=some (.ok (.ow (.lst (jZ m ba ps (iP z tl) kn))),[.sh (aA no ba oc fs rs),.sh (lO z tl)]):=by
 rw[a8 T7 rfl rfl];unfold o5;have n1:=ho.n1;have n2:=ho.n2;have hi:∀{U:Env},aD .rng [.val (.sh (.int no))] U=some (rg kn,none):=λ{U}=>by rw[hk];exact BC (by omega)
 have h1:=GC (W:=W) (n:=n+3) hz ht;have hxl:=Q1 (z:=z) hx (by omega);have hlen:(iP z tl).length<=1100:=by rw[A7];omega
 generalize iP z tl=ys at *
 obtain⟨U',e,es,t3,t4,rfl,_,_,hes⟩:=d8 (bind:=aU true [3]) (body:=exs T.pins (run T W (n+4)) W pO)
  (λpre U=>∃es t3 t4,U=[.sh (aA no ba oc fs rs),.sh (lO z tl),.o (.lst es),t3,t4]/\bB t3=true/\bB t4=true/\es=jZ m ba ps ys pre.length)
  (ds:=rg kn) (λpre d post hds U hU=>by
   obtain⟨es,t3,t4,rfl,h3,h4,hes⟩:=hU;obtain⟨rfl,hj⟩:=OI hds;refine⟨_,by simp only[eM,aZ h3]<;>rfl, ?_⟩
   have hc:bX .Add (.lst (ys.map D.int)) (.lst [.int pre.length])=some (.ow (.lst ((ys++[(pre.length:Int)]).map D.int))):=by(rw[oZ (cZ (by simp;omega)),vX])
   have hfr:=ND (W:=W) (n:=n) (xs:=ys) (q:=(pre.length:Int)) hrs hp (hxl.app (In.one (by omega)));have hst:=EL (W:=W) (n:=n+2) (rs:=rs) (xs:=ys++[(pre.length:Int)]) ho hm
   have hsm:aJ (es.length+1)=true:=bD (by
    have:=lR (k:=pre.length) (ok:=b8 ps ys)
    rw[hes,jZ,List.length_map];omega)
   have hnew:jZ m ba ps ys (pre.length+1)=es++(if b8 ps ys (pre.length:Int)=true then [cW m ba ys (pre.length:Int)] else []):=by
    rw[hes,jZ,PU,zd];congr 1
    split<;>rfl
   rw[Za,Zg,hnew];unfold cW
   generalize (pre.length:Int)=q at *
   generalize dM m ba (ys++[q])=sd at *
   generalize ys++[q]=ws at *
   generalize b8 ps ys q=b at *
   unfold pO;clear hes hnew
   cases b with
   |true =>
    refine⟨[.sh (aA no ba oc fs rs),.sh (lO z tl),.o (.lst (es++[.tup [.int q,sd]])),.sh (.int q),.o (.lst (ws.map D.int))], ?_,_,_,_,rfl,rfl,rfl,rfl⟩;clear hp hrs hx hxl hlen ho hm hk hz ht hds hj h3 n1 n2 hi
    walk_at "!%"
   |false =>
    refine⟨[.sh (aA no ba oc fs rs),.sh (lO z tl),.o (.lst es),.sh (.int q),.o (.lst (ws.map D.int))], ?_,_,_,_,rfl,rfl,rfl,(List.append_nil es).symm⟩;clear hp hrs hx hxl hlen ho hm hk hz ht hds hj h3 n1 n2 hi
    walk_at "!%")
  (U:=[.sh (aA no ba oc fs rs),.sh (lO z tl),.o (.lst []),.un,.un]) ⟨[],_,_,rfl,rfl,rfl,rfl⟩
 rw[List.length_map,List.length_range] at hes;subst hes
 generalize jZ m ba ps ys kn=es at *
 clear hp hrs hx hxl hlen ho hm hk hz ht n1 n2
 walk_at "!%"
def K9{F:List Int}:jW (F.map (cW m ba ys))=some (F.map λq=>(q,dM m ba (ys++[q]))):=by
 induction F with
 |nil=>rfl
 |cons q F ih =>
  rw[Zs,Zs];show((zO (cW m ba ys q)).bind λp=>(jW (F.map (cW m ba ys))).map (p :: ·))=_;rw[ih];rfl
def BV{k:Nat}:gG .dict [.lst (jZ m ba ps ys k)]=some (.sh (.dci (c9 k (b8 ps ys)) ((c9 k (b8 ps ys)).map λq=>dM m ba (ys++[q])))):=by
 have e1:((c9 k (b8 ps ys)).map λq=>(q,dM m ba (ys++[q]))).map (·.1)=c9 k (b8 ps ys):=by rw[List.map_map];exact List.map_id' _
 have e2:((c9 k (b8 ps ys)).map λq=>(q,dM m ba (ys++[q]))).map (·.2)=(c9 k (b8 ps ys)).map λq=>dM m ba (ys++[q]):=by rw[List.map_map];rfl
 rw[aDz (ds:=jZ m ba ps ys k) K9 (by rw[e1];exact Z2),e1,e2]
end
def yD{k:Nat}{q:Int}(h0:0<=q)(hk:q<k):bL .In (.int q) (.lst ((c9 k ok).map D.int))=some (ok q):=by
 have h1:((c9 k ok).map D.int).all cL=true:=by rw[List.all_map,List.all_eq_true];exact λ_ _=>rfl
 refine(Zo (by rw[h1];rfl)).trans ?_;congr 1;unfold lK;rw[List.any_map,Bool.eq_iff_iff,List.any_eq_true];constructor
 ·rintro⟨y,hy,e⟩
  obtain⟨j,hj,rfl⟩:=zl.mp hy;have hj2:=(List.mem_filter.mp hj).2;have e:dH (.int j) (.int q)=true:=e;simp only[dH,beq_iff_eq,decide_eq_true_eq] at e;rw[<- e];exact hj2
 ·intro h;refine⟨q,zl.mpr ⟨q.toNat,List.mem_filter.mpr ⟨List.mem_range.mpr (by omega),by rw[Int.toNat_of_nonneg h0];exact h⟩,Int.toNat_of_nonneg h0⟩, ?_⟩;show dH (.int q) (.int q)=true;simp only[dH,beq_self_eq_true,decide_true]
theorem FA{bind:D->Env->Option Env}(Q:RV->Env->Prop)(I:Nat->Env->Prop):∀(ds:List D) (j:Nat),(∀i d U,ds[i]?=some d->I (j+i) U->∃U1,bind d U=some U1/\∃U2,(body U1=some (.nx,U2)/\I (j+i+1) U2)\/∃v,body U1=some (.rt v,U2)/\Q v U2)->∀U,I j U->∃U',(bZ bind body ds U=some (.nx,U')/\I (j+ds.length) U')\/∃v,bZ bind body ds U=some (.rt v,U')/\Q v U'
 |[],j,h,U,hU=>⟨U,.inl ⟨rfl,hU⟩⟩
 |d::ds,j,h,U,hU=>by
  obtain⟨U1,e1,U2,⟨e2,h2⟩ | ⟨v,e2,h2⟩⟩:=h 0 d U rfl hU
  ·obtain⟨U',h3⟩:=FA Q I ds (j+1) (λi d U hd hi=>by
    have:=h (i+1) d U hd (by rw[<- Nat.add_assoc,Nat.add_right_comm];exact hi)
    rw[<- Nat.add_assoc,Nat.add_right_comm j i 1] at this
    exact this) U2 h2
   refine⟨U', ?_⟩;rw[Zk,show j+(ds.length+1)=j+1+ds.length by omega];simp only[bZ,e1,e2];exact h3
  ·exact⟨U2,.inr ⟨v,by simp only[bZ,e1,e2],h2⟩⟩
structure VK(no ba:Int)(m:Nat)(k:L2.dX):Prop where
 t0:0<=k.1
 t1:k.1<=(m:Int)+ba-1
 tl:(k.2.length:Int)=if(m:Int)<k.1 then(m:Int) else k.1
 xs:In no k.2
noncomputable def aY(k:L2.dX):List Int:=iP (k.1-k.2.length).toNat k.2
noncomputable def f9(m:Nat)(ba:Int)(xs:List Int):L2.dX:=(jE m ba xs.length,kU m xs)
section
variable{no ba oc:Int}{fs:List (Int×Int×Bool)}{rs:List D}{m kn:Nat}{ps:List RP}{k:L2.dX}
def VK.le(h:VK no ba m k):(k.2.length:Int)<=k.1:=by
 have:=h.tl
 split at this<;>omega
theorem VK.st(h:VK no ba m k):b9 k=lO (k.1-k.2.length).toNat k.2:=by
 have:=h.le
 unfold b9 lO;rw[Int.toNat_of_nonneg (by omega),Int.sub_add_cancel]
structure HK(no ba oc:Int)(fs:List (Int×Int×Bool))(rs:List D)(m kn:Nat)(ps:List RP):Prop where
 ho:HouseOk no ba oc fs
 hm:iE fs=(m:Int)
 h3:3<=m
 h5:m<=5
 hk:no=(kn:Int)
 hrs:ps.map (·.1)=rs
 hp:∀p∈ps,RX no ba oc fs rs m p
 hl:rs.length<=8
def HK.z(H:HK no ba oc fs rs m kn ps)(h:VK no ba m k):(k.1-k.2.length).toNat<=100/\k.2.length<=1000:=by
 have:=h.t1;have:=h.le;have:=H.h5;have:=H.ho.b2
 omega
def HK.k7(H:HK no ba oc fs rs m kn ps):kn<=7:=by have:=H.ho.n2;have:=H.hk;omega
def HK.line(H:HK no ba oc fs rs m kn ps)(h:VK no ba m k):In no (aY k):=Q1 h.xs H.ho.n1
def HK.next(H:HK no ba oc fs rs m kn ps)(h:In no xs):VK no ba m (f9 m ba xs):=by
 have b1:=H.ho.b1;have h3:=H.h3;have tb:=YO (m:=(m:Int)) (n:=(xs.length:Int)) (by omega) (by omega) b1;exact⟨tb.1,tb.2,UT b1,λx hx=>h x (X0 hx)⟩
def HD(hA:D)(no ba:Int)(m kn:Nat)(ps:List RP):Prop:=∃oc fs rs,hA=aA no ba oc fs rs/\HK no ba oc fs rs m kn ps
theorem HD.i0(H:HD hA no ba m kn ps):d6 (some hA) (.int 0)=some (.sh (.int no)):=by obtain⟨_,_,_,rfl,_⟩:=H;rfl
theorem HD.k7(H:HD hA no ba m kn ps):kn<=7:=by obtain⟨_,_,_,rfl,H⟩:=H;exact H.k7
theorem HD.hk(H:HD hA no ba m kn ps):no=(kn:Int):=by obtain⟨_,_,_,rfl,H⟩:=H;exact H.hk
theorem HD.line(H:HD hA no ba m kn ps)(h:VK no ba m k):In no (aY k):=by obtain⟨_,_,_,rfl,H⟩:=H;exact H.line h
theorem HD.next(H:HD hA no ba m kn ps)(h:In no xs):VK no ba m (f9 m ba xs):=by obtain⟨_,_,_,rfl,H⟩:=H;exact H.next h
noncomputable def cX(kn:Nat)(ps:List RP)(k:L2.dX):List Int:=c9 kn (b8 ps (aY k))
def F9(H:HD hA no ba m kn ps)(h:VK no ba m k):run T W (n+6) "nexts" [.sh hA,.sh (b9 k)]=some (.ok (.ow (.lst ((cX kn ps k).map D.int))),[.sh hA,.sh (b9 k)]):=by
 obtain⟨oc,fs,rs,rfl,H⟩:=H;rw[h.st];exact M6 H.hk H.k7 H.hrs H.hp H.hl (H.z h).1 (H.z h).2 h.xs
def KI(H:HD hA no ba m kn ps)(h:VK no ba m k):run T W (n+4) "behind" [.sh hA,.sh (b9 k),.sh (.int q)]=some (.ok (.sh (b9 (f9 m ba (aY k++[q])))),[.sh hA,.sh (b9 k),.sh (.int q)]):=by
 obtain⟨oc,fs,rs,rfl,H⟩:=H;rw[h.st];exact IA H.ho H.hm H.h3 (H.z h).1 (H.z h).2
def DX(H:HD hA no ba m kn ps)(h:VK no ba m k):run T W (n+5) "L_ways" [.sh hA,.sh (b9 k)]=some (.ok (.ow (.lst (jZ m ba ps (aY k) kn))),[.sh hA,.sh (b9 k)]):=by
 obtain⟨oc,fs,rs,rfl,H⟩:=H;rw[h.st];exact OA H.ho H.hm H.hk H.hrs H.hp (H.z h).1 (H.z h).2 h.xs
def V8(H:HD hA no ba m kn ps)(h:VK no ba m k) :
  run T W (n+4) "is_stand" [.sh hA,.sh (b9 k)]=some (.ok (.sh (.bl true)),[.sh hA,.sh (b9 k)]):=by
 obtain⟨oc,fs,rs,rfl,H⟩:=H;rw[a8 K3 rfl rfl];unfold mL b9;have hme:=mB (W:=W) (n:=n+2) (no:=no) (ba:=ba) (oc:=oc) (rs:=rs) H.ho.l1 H.ho.l2;rw[H.hm] at hme;have hw:=BW (W:=W) (n:=n+1) h.t0 h.t1;have hta:=P0 (W:=W) (n:=n) (rs:=rs) (t:=k.1) (ys:=k.2) H.ho H.hm h.tl (H.z h).2 h.xs;have q2:decide (((2:Nat):Int)=2)=true:=rfl;clear H h
 walk_at "!%"
end
section
variable{no ba ba':Int}{kn m m':Nat}{ps ps':List RP}{hA hB:D}
abbrev PK:=L2.dX×L2.dX
noncomputable def pD(k:PK):D:=.tup [b9 k.1,b9 k.2]
theorem cM{k:PK}:d6 (some (pD k)) (.int 0)=some (.sh (b9 k.1)):=rfl
theorem c8{k:PK}:d6 (some (pD k)) (.int 1)=some (.sh (b9 k.2)):=rfl
noncomputable def cN(m:Nat)(ba:Int)(m':Nat)(ba':Int)(k:PK)(q:Int):PK:=(f9 m ba (aY k.1++[q]),f9 m' ba' (aY k.2++[q]))
def HG(H:HD hA no ba m kn ps)(H':HD hB no ba' m' kn ps')(h:VK no ba m k.1)(h':VK no ba' m' k.2) :
  run T W (n+5) "pair_behind" [.sh hA,.sh hB,.sh (pD k),.sh (.int q)]=some (.ok (.sh (pD (cN m ba m' ba' k q))),[.sh hA,.sh hB,.sh (pD k),.sh (.int q)]):=by
 rw[a8 DF rfl rfl];unfold jA;have h1:=KI (W:=W) (n:=n) (q:=q) H h;have h2:=KI (W:=W) (n:=n) (q:=q) H' h';have e:pD (cN m ba m' ba' k q)=.tup [b9 (f9 m ba (aY k.1++[q])),b9 (f9 m' ba' (aY k.2++[q]))]:=rfl;rw[e]
 generalize b9 (f9 m ba (aY k.1++[q]))=d1 at *
 generalize b9 (f9 m' ba' (aY k.2++[q]))=d2 at *
 clear H H' h h' e
 walk_at "!cM c8"
def S6(H:HD hA no ba m kn ps)(H':HD hB no ba' m' kn ps')(h:VK no ba m k.1)(h':VK no ba' m' k.2) :
  run T W (n+5) "is_pair" [.sh hA,.sh hB,.sh (pD k)]=some (.ok (.sh (.bl true)),[.sh hA,.sh hB,.sh (pD k)]):=by
 rw[a8 Q4 rfl rfl];unfold nM;have h1:=V8 (W:=W) (n:=n) H h;have h2:=V8 (W:=W) (n:=n) H' h';have q2:decide (((2:Nat):Int)=2)=true:=rfl;have l2:gG .len [pD k]=some (.sh (.int 2)):=rfl;have hti:x5 [.tuple] (some (pD k))=some (.sh (.bl true)):=rfl
 walk_at "!cM c8"
end
noncomputable def gD(kn:Nat)(f g:Int->Bool):Bool:=(List.range kn).all λ(j:Nat)=>f (j:Int)==g (j:Int)
def KJ(h:∀a:Nat,a<kn->f a=g a):gD kn f g=true:=by
 unfold gD;rw[List.all_eq_true];exact λj hj=>by rw[h j (List.mem_range.mp hj)];exact beq_self_eq_true _
def YN(ha:a<kn)(h:f a≠g a):gD kn f g=false:=by
 rw[Bool.eq_false_iff];intro z;unfold gD at z;rw[List.all_eq_true] at z;exact h (Zy (z a (List.mem_range.mpr ha)))
theorem Q0:(false==true)=false:=rfl
theorem NO:(true==false)=false:=rfl
section
variable{no ba ba':Int}{kn m m':Nat}{ps ps':List RP}{hA hB:D}
def EI(H:HD hA no ba m kn ps)(H':HD hB no ba' m' kn ps')(h:VK no ba m k.1)(h':VK no ba' m' k.2) :
  ∃d,run T W (n+7) "first_apart" [.sh hA,.sh hB,.sh (pD k)]=some (.ok (.sh d),[.sh hA,.sh hB,.sh (pD k)])/\bL .IsNot d .non=some (!gD kn (b8 ps (aY k.1)) (b8 ps' (aY k.2))):=by
 rw[a8 DB rfl rfl];unfold jC;have h1:=F9 (W:=W) (n:=n) H h;have h2:=F9 (W:=W) (n:=n) H' h';unfold cX at h1 h2;have k7:=H.k7;have hk:=H.hk;have hi:∀{U:Env},aD .rng [.val (.sh (.int no))] U=some (rg kn,none):=λ{U}=>by rw[hk];exact BC (by omega)
 have i0:d6 (some hA) (.int 0)=some (.sh (.int no)):=H.i0;clear H H' h h' hk k7
 generalize b8 ps (aY k.1)=f at *
 generalize b8 ps' (aY k.2)=g at *
 obtain⟨U',q⟩:=FA (bind:=aU true [5]) (body:=exs T.pins (run T W (n+6)) W gV)
  (λv U=>∃t5 d,U=[.sh hA,.sh hB,.sh (pD k),.o (.lst ((c9 kn f).map D.int)),.o (.lst ((c9 kn g).map D.int)),t5]/\v=.sh d/\bL .IsNot d .non=some (!gD kn f g))
  (λi U=>∃t5,U=[.sh hA,.sh hB,.sh (pD k),.o (.lst ((c9 kn f).map D.int)),.o (.lst ((c9 kn g).map D.int)),t5]/\bB t5=true/\∀a:Nat,a<i->f a=g a)
  (rg kn) 0 (λi d U hd hU=>by
   obtain⟨t5,rfl,h5,ha⟩:=hU;rw[Nat.zero_add] at ha ⊢
   have hj:i<kn:=by
    have:=(Zc.mp hd).1
    simpa using this
   have hd':d=.int i:=by(rw[Zh,List.getElem?_range hj] at hd;exact(Option.some.inj hd).symm)
   subst hd';refine⟨_,by simp only[eM,aZ h5]<;>rfl, ?_⟩;have c1:=yD (k:=kn) (ok:=f) (q:=(i:Int)) (by omega) (by omega);have c2:=yD (k:=kn) (ok:=g) (q:=(i:Int)) (by omega) (by omega);refine⟨[.sh hA,.sh hB,.sh (pD k),.o (.lst ((c9 kn f).map D.int)),.o (.lst ((c9 kn g).map D.int)),.sh (.int i)], ?_⟩;by_cases e:f i=g i
   ·refine .inl ⟨?_,_,rfl,rfl,λa z=>?_⟩
    ·rw[<- e] at c2
     generalize f (i:Int)=b at *
     unfold gV;clear hd hj ha h5 h1 h2 hi i0 e;cases b<;>walk_at "!cM c8 Q0 NO Bool.not_true Bool.not_false %"
    ·rcases Nat.lt_or_eq_of_le (Nat.le_of_lt_succ z) with z | z
     ·exact ha a z
     ·rw[z];exact e
   ·have hal:=YN hj e;refine .inr ⟨.sh (.tup [.int i,.int (if f (i:Int)=true then 1 else 2)]), ?_,_,_,rfl,rfl,by rw[hal];rfl⟩;clear hal;unfold gV
    generalize f (i:Int)=b at *
    generalize g (i:Int)=b2 at *
    cases b<;>cases b2
    ·exact(e rfl).elim
    ·walk_at "!cM c8 Q0 NO Bool.not_true Bool.not_false %"
    ·walk_at "!cM c8 Q0 NO Bool.not_true Bool.not_false %"
    ·exact(e rfl).elim)
  [.sh hA,.sh hB,.sh (pD k),.o (.lst ((c9 kn f).map D.int)),.o (.lst ((c9 kn g).map D.int)),.un] ⟨_,rfl,rfl,λa z=>absurd z (Nat.not_lt_zero a)⟩
 rw[List.length_map,List.length_range,Nat.zero_add] at q;rcases q with ⟨e,t5,rfl,h5,ha⟩ | ⟨v,e,t5,d,rfl,rfl,hd⟩
 ·refine⟨.non, ?_,by rw[KJ ha];rfl⟩
  walk_at "!cM c8 Q0 NO Bool.not_true Bool.not_false %"
 ·refine⟨d, ?_,hd⟩
  walk_at "!cM c8 Q0 NO Bool.not_true Bool.not_false %"
end
def rW{bind:D->Env->Option Env}(val:D->D)(J:Env->Prop)
  (step:∀d∈ds,∀U,J U->∃U1 v U2,bind d U=some U1/\elt U1=some (.ok v,U2)/\v.d=val d/\J U2) (h:J U) :
  ∃U',fH (dI P C []) elt bind ds [] U=some (.ok (ds.map val),U')/\J U':=by
 obtain⟨acc,U',e,⟨rfl,hJ⟩,_⟩:=fQ (tests:=dI P C []) (λj acc U=>acc=(ds.take j).map val/\J U)
  (λj d hd acc U ⟨ha,hJ⟩=>by
   obtain⟨U1,v,U2,h1,h2,h3,h4⟩:=step d (zj hd) U hJ;refine⟨U1,true,U1,h1,gS,λ_=>⟨v,U2,h2, ?_,h4⟩,λz=>nomatch z⟩;rw[ha,h3,List.take_add_one,hd,zd]
   rfl) [] U ⟨rfl,h⟩
 exact⟨U',by rw[e,List.take_length],hJ⟩
def P9{bs:List Bool}:gG .all [.lst (bs.map D.bl)]=some (.sh (.bl (bs.all id))):=by
 have h:eD (bs.map D.bl)=some bs:=by
  induction bs with
  |nil=>rfl
  |cons b bs ih=>simp[eD,ih]
 show(eD _).map _=_;rw[h];rfl
def dS{k:PK}:dD (pD k)=some (.inr k):=aCM
section
variable{no ba ba':Int}{kn m m':Nat}{ps ps':List RP}{hA hB:D}
noncomputable def fD(kn:Nat)(ps ps':List RP)(m:Nat)(ba:Int)(m':Nat)(ba':Int)(ks:List L2.bO)(k:PK):Bool:=gD kn (b8 ps (aY k.1)) (b8 ps' (aY k.2))&&(cX kn ps k.1).all λq=>eH ks (.inr (cN m ba m' ba' k q))
def IM(H:HD hA no ba m kn ps)(H':HD hB no ba' m' kn ps')(h:VK no ba m k.1)(h':VK no ba' m' k.2) :
  run T W (n+8) "leads_into" [.sh hA,.sh hB,.sh (pD k),.sh (.dcs ks vs)]=some (.ok (.sh (.bl (fD kn ps ps' m ba m' ba' ks k))),[.sh hA,.sh hB,.sh (pD k),.sh (.dcs ks vs)]):=by
 rw[a8 EZ rfl rfl];unfold j8 fD;obtain⟨d0,e0,c0⟩:=EI (W:=W) (n:=n) H H' h h';have h1:=F9 (W:=W) (n:=n+1) H h;have hi:∀{U:Env},aD .of [.val (.ow (.lst ((cX kn ps k.1).map D.int)))] U=some ((cX kn ps k.1).map D.int,none):=λ{U}=>rfl
 obtain⟨Ui,e,t5,rfl,ht5⟩:=rW (P:=T.pins) (C:=run T W (n+7)) (elt:=ev T.pins (run T W (n+7)) false lG) (bind:=aU true [5]) (ds:=(cX kn ps k.1).map D.int)
  (λd=>match d with | .int q=>.bl (eH ks (.inr (cN m ba m' ba' k q))) | _=>.non) (λU=>∃t5,U=[.sh (.dcs ks vs),.sh hA,.sh hB,.sh (pD k),.un,t5]/\bB t5=true)
  (λd hd U hU=>by
   obtain⟨t5,rfl,h5⟩:=hU;obtain⟨q,hq,rfl⟩:=zl.mp hd;have hb:=HG (W:=W) (n:=n+2) (q:=q) H H' h h';have hc:=V7 (ks:=ks) (ds:=vs) (dS (k:=cN m ba m' ba' k q));refine⟨_,.sh (.bl (eH ks (.inr (cN m ba m' ba' k q)))),[.sh (.dcs ks vs),.sh hA,.sh hB,.sh (pD k),.un,.sh (.int q)],by simp only[eM,aZ h5]<;>rfl, ?_,rfl,_,rfl,rfl⟩
   generalize eH ks (.inr (cN m ba m' ba' k q))=b at *
   generalize pD (cN m ba m' ba' k q)=d2 at *
   unfold lG
   walk_at "!cM Bool.not_true Bool.not_false %")
  (U:=[.sh (.dcs ks vs),.sh hA,.sh hB,.sh (pD k),.un,.un]) ⟨_,rfl,rfl⟩
 have hall:((cX kn ps k.1).map D.int).map (λd=>match d with | .int q=>D.bl (eH ks (.inr (cN m ba m' ba' k q))) | _=>.non)=((cX kn ps k.1).map λq=>eH ks (.inr (cN m ba m' ba' k q))).map D.bl:=by(rw[List.map_map,List.map_map];rfl)
 rw[hall] at e;have hlen:((cX kn ps k.1).map λq=>eH ks (.inr (cN m ba m' ba' k q))).length<=7:=by rw[List.length_map];exact Zr lR H.k7
 have hb:(cX kn ps k.1).all (λq=>eH ks (.inr (cN m ba m' ba' k q)))=((cX kn ps k.1).map λq=>eH ks (.inr (cN m ba m' ba' k q))).all id:=by rw[List.all_map];rfl
 rw[hb]
 generalize ((cX kn ps k.1).map λq=>eH ks (.inr (cN m ba m' ba' k q)))=bs at *
 generalize (cX kn ps k.1).map D.int=F at *
 generalize gD kn (b8 ps (aY k.1)) (b8 ps' (aY k.2))=b0 at *
 have hsm:aJ bs.length=true:=bD (by omega);have hal:=P9 (bs:=bs)
 generalize bs.all id=b1 at *
 cases b0 with
 |false=>walk_at "!cM Bool.not_true Bool.not_false %"
 |true =>
  walk_at "!cM Bool.not_true Bool.not_false %"
  rw[eP hi]
  walk_at "!cM Bool.not_true Bool.not_false %"
end
theorem dC{i:Nat}{U:Env}:aQ (some i) U=U.set i .un:=rfl
noncomputable def aDr(v:RV)(i:Nat)(U:Env)(a b:Option Sl):aR RV:=(match a,b with | some .un,some sl=>some (U.set i sl) | _,_=>none).map λU'=>(.ok v,U')
theorem cA{i:Nat}{U1 U2:Env}{v:RV}:kP (some i) U1 v U2=aDr v i U2 U2[i]? U1[i]?:=rfl
theorem fG{i:Nat}{U:Env}{v:RV}{s:Sl}:aDr v i U (some .un) (some s)=some (.ok v,U.set i s):=rfl
theorem i9{P:aW}{C:Calls}{t:Bool}{U:Env}:ev P C t .dict0 U=bP t (some (.ok (.ow (.dcs [] [])),U)):=rfl
def qF{ks:List PK}{L:List PK}(h:∀k,k∈ks↔k∈L)(k:PK):eH (ks.map .inr) (.inr k)=decide (k∈L):=by
 unfold eH;rw[List.any_map,Bool.eq_iff_iff,List.any_eq_true,decide_eq_true_iff,<- h k];constructor
 ·rintro⟨x,hx,e⟩
  have e:=Sum.inr.inj (of_decide_eq_true e);rw[<- e];exact hx
 ·exact λhk=>⟨k,hk,Zn rfl⟩
def KH{ks:List PK}{k:PK}:l7 (ks.map .inr) (.inr k)=((if k∈ks then ks else ks++[k]).map .inr:List L2.bO):=by
 unfold l7;rw[qF (L:=ks) (λ_=>Iff.rfl)];by_cases h:k∈ks
 ·rw[Zo (Zn h),Zo h]
 ·rw[Zp (by rw[decide_eq_true_iff];exact h),Zp h,zd];rfl
section
variable{no ba ba':Int}{kn m m':Nat}{ps ps':List RP}{hA hB:D}
def mP(no ba:Int)(m:Nat)(ba':Int)(m':Nat)(L:List PK):Prop:=∀k∈L,VK no ba m k.1/\VK no ba' m' k.2
noncomputable def dQ:PK:=((0,[]),(0,[]))
noncomputable def v9(kn:Nat)(ps ps':List RP)(m:Nat)(ba:Int)(m':Nat)(ba':Int)(L:List PK):Bool :=
 decide (dQ∈L)&&L.all λk=>gD kn (b8 ps (aY k.1)) (b8 ps' (aY k.2))&&(cX kn ps k.1).all λq=>decide (cN m ba m' ba' k q∈L)
def aAR{ks L:List PK}(h:∀k,k∈ks↔k∈L):(eH (ks.map .inr) (.inr dQ)&&ks.all (fD kn ps ps' m ba m' ba' (ks.map .inr)))=v9 kn ps ps' m ba m' ba' L:=by
 unfold v9;rw[qF h];congr 1
 have e:∀k,fD kn ps ps' m ba m' ba' (ks.map .inr) k=(gD kn (b8 ps (aY k.1)) (b8 ps' (aY k.2))&&(cX kn ps k.1).all λq=>decide (cN m ba m' ba' k q∈L)):=λk=>by
  unfold fD
  congr 2
  funext q
  exact qF h _
 rw[Bool.eq_iff_iff,List.all_eq_true,List.all_eq_true];constructor
 ·intro z k hk;rw[<- e];exact z k ((h k).mpr hk)
 ·intro z k hk;rw[e];exact z k ((h k).mp hk)
def uI{L:List PK}(H:HD hA no ba m kn ps)(H':HD hB no ba' m' kn ps')(h:mP no ba m ba' m' L)(hl:L.length<=1000) :
  run T W (n+9) "shows_alike" [.sh hA,.sh hB,.p (.lst (L.map pD))]=some (.ok (.sh (.bl (v9 kn ps ps' m ba m' ba' L))),[.sh hA,.sh hB,.p (.lst (L.map pD))]):=by
 rw[a8 DL rfl rfl];unfold jJ;have i0:d6 (some hA) (.int 0)=some (.sh (.int no)):=H.i0;have i0':d6 (some hB) (.int 0)=some (.sh (.int no)):=H'.i0;have hne:decide (no=no)=true:=Zn rfl
 obtain⟨Ui,e,t3,rfl,ht3⟩:=rW (P:=T.pins) (C:=run T W (n+8)) (elt:=ev T.pins (run T W (n+8)) false kE) (bind:=aU true [3]) (ds:=L.map pD)
  (λd=>.bl true) (λU=>∃t3,U=[.sh hA,.sh hB,.un,t3]/\bB t3=true)
  (λd hd U hU=>by
   obtain⟨t3,rfl,h3⟩:=hU;obtain⟨k,hk,rfl⟩:=zl.mp hd;have hb:=S6 (W:=W) (n:=n+3) H H' (h k hk).1 (h k hk).2;refine⟨_,.sh (.bl true),[.sh hA,.sh hB,.un,.sh (pD k)],by simp only[eM,aZ h3]<;>rfl, ?_,rfl,_,rfl,rfl⟩;unfold kE;clear hd hk h3 H H' h i0 i0' hl hne
   walk_at "!i9 fY kZ dS dC cA fG Bool.not_true Bool.not_false %")
  (U:=[.sh hA,.sh hB,.un,.un]) ⟨_,rfl,rfl⟩
 have hrep:(L.map pD).map (λ_=>D.bl true)=List.replicate L.length (.bl true):=by rw[List.map_map];exact List.map_const' ..
 rw[hrep] at e;have hi1:∀{a b c d:Sl},aD .of [.slot 2] [a,b,.p (.lst (L.map pD)),c,d]=some (L.map pD,some 2):=LH rfl
 obtain⟨U2,e2,ks,vs,t4,rfl,ht4,hks,hmem⟩:=d8 (bind:=aU true [4]) (body:=exs T.pins (run T W (n+8)) W kL)
  (λpre U=>∃(ks:List PK) (vs:List D) (t4:Sl),U=[.sh hA,.sh hB,.un,.o (.dcs (ks.map .inr) vs),t4]/\bB t4=true/\ks.length<=pre.length/\∀k,k∈ks↔k∈L.take pre.length)
  (ds:=L.map pD) (λpre d post hds U hU=>by
   obtain⟨ks,vs,t4,rfl,h4,hks,hmem⟩:=hU;have hlen:=congrArg List.length hds;rw[List.length_map,Za,Zk] at hlen;have hlt:pre.length<L.length:=by omega
   have hd:d=pD L[pre.length]:=by
    have h2:(L.map pD)[pre.length]?=some d:=by rw[hds,List.getElem?_append_right (Zq _),Nat.sub_self];rfl
    rw[Zh,Zb hlt] at h2;exact(Option.some.inj h2).symm
   subst hd;refine⟨_,by simp only[eM,aZ h4]<;>rfl, ?_⟩;have hsm:aJ (ks.length+1)=true:=bD (by omega);have hstep:L.take (pre.length+1)=L.take pre.length++[L[pre.length]]:=(List.take_append_getElem hlt).symm;rw[Za,Zg,hstep]
   generalize L[pre.length]=k at *
   refine⟨[.sh hA,.sh hB,.un,.o (.dcs (l7 (ks.map .inr) (.inr k)) (nJ (ks.map .inr) vs (.inr k) (.bl true))),.sh (pD k)], ?_,if k∈ks then ks else ks++[k],_,_,by rw[KH],rfl, ?_,λx=>?_⟩
   ·have hset:∀{U:Env},AS 3 U (some (.o (.dcs (ks.map .inr) vs))) (some (.inr k)) (.sh (.bl true))=some (.nx,U.set 3 (.o (.dcs (l7 (ks.map .inr) (.inr k)) (nJ (ks.map .inr) vs (.inr k) (.bl true))))):=λ{U}=>fY (by rw[List.length_map];exact hsm)
    unfold kL
    walk_at "!i9 fY kZ dS dC cA fG Bool.not_true Bool.not_false %"
   ·split
    ·omega
    ·rw[Za,Zg];omega
   ·rw[zo,ze,<- hmem x];split
    ·rename_i hk;exact⟨.inl,λz=>z.elim id λz=>by rw[z];exact hk⟩
    ·rw[zo,ze])
  (U:=[.sh hA,.sh hB,.un,.o (.dcs [] []),.un]) ⟨[],[],_,rfl,rfl,Zq _,λk=>by rw[List.length_nil,List.take_zero]⟩
 rw[List.length_map] at hks hmem;rw[List.take_length] at hmem;rw[<- aAR (kn:=kn) (ba':=ba') hmem]
 obtain⟨U3,e3,t5,rfl,ht5⟩:=rW (P:=T.pins) (C:=run T W (n+8)) (elt:=ev T.pins (run T W (n+8)) false kH) (bind:=aU true [4]) (ds:=((ks.map .inr:List L2.bO)).map m9)
  (λd=>match dD d with | some (.inr k)=>.bl (fD kn ps ps' m ba m' ba' (ks.map .inr) k) | _=>.non) (λU=>∃t5,U=[.sh (.dcs (ks.map .inr) vs),.sh hA,.sh hB,.un,t5]/\bB t5=true)
  (λd hd U hU=>by
   obtain⟨t5,rfl,h5⟩:=hU;obtain⟨g,hg,rfl⟩:=zl.mp hd;obtain⟨k,hk,rfl⟩:=zl.mp hg;have hv:=h k ((hmem k).mp hk);have hb:=IM (W:=W) (n:=n) (ks:=ks.map .inr) (vs:=vs) H H' hv.1 hv.2;have hsk:dD (m9 (.inr k))=some (.inr k):=dS;refine⟨_,.sh (.bl (fD kn ps ps' m ba m' ba' (ks.map .inr) k)),[.sh (.dcs (ks.map .inr) vs),.sh hA,.sh hB,.un,.sh (pD k)],by simp only[eM,aZ h5]<;>rfl, ?_,by rw[hsk];rfl,_,rfl,rfl⟩
   generalize fD kn ps ps' m ba m' ba' (ks.map .inr) k=b at *
   unfold kH;show ev T.pins (run T W (n+8)) false _ [.sh (.dcs (ks.map .inr) vs),.sh hA,.sh hB,.un,.sh (pD k)]=_
   walk_at "!i9 fY kZ dS dC cA fG Bool.not_true Bool.not_false %")
  (U:=[.sh (.dcs (ks.map .inr) vs),.sh hA,.sh hB,.un,.un]) ⟨_,rfl,rfl⟩
 have hall:(((ks.map .inr:List L2.bO)).map m9).map (λd=>match dD d with | some (.inr k)=>D.bl (fD kn ps ps' m ba m' ba' (ks.map .inr) k) | _=>.non)=(ks.map (fD kn ps ps' m ba m' ba' (ks.map .inr))).map D.bl:=by
  rw[List.map_map,List.map_map,List.map_map];refine List.map_congr_left λk _=>?_
  show(match dD (m9 (.inr k)) with | some (.inr k)=>D.bl (fD kn ps ps' m ba m' ba' (ks.map .inr) k) | _=>.non)=_;rw[show dD (m9 (.inr k))=some (.inr k) from dS];rfl
 rw[hall] at e3;have hb:ks.all (fD kn ps ps' m ba m' ba' (ks.map .inr))=(ks.map (fD kn ps ps' m ba m' ba' (ks.map .inr))).all id:=by rw[List.all_map];rfl
 rw[hb];have hc0:bL .In (.tup [.tup [.int 0,.tup []],.tup [.int 0,.tup []]]) (.dcs (ks.map .inr) vs)=some (eH (ks.map .inr) (.inr dQ)):=V7 (dS (k:=dQ));have hl2:(ks.map (fD kn ps ps' m ba m' ba' (ks.map .inr))).length<=1000:=by rw[List.length_map];omega
 generalize ks.map (fD kn ps ps' m ba m' ba' (ks.map .inr))=bs at *
 generalize eH (ks.map .inr) (.inr dQ)=b0 at *
 generalize (ks.map .inr:List L2.bO)=gs at *
 have hsm1:aJ (List.replicate L.length (D.bl true)).length=true:=bD (by rw[List.length_replicate];omega);have hsm2:aJ bs.length=true:=bD (by omega);have hal:=P9 (bs:=bs);have hat:=vL (n:=L.length);have hi2:∀{U:Env},aD .key [.val (.sh (.dcs gs vs))] U=some (gs.map m9,none):=kZ
 generalize bs.all id=b1 at *
 generalize List.replicate L.length (D.bl true)=tr at *
 walk_at "!i9 fY kZ dS dC cA fG Bool.not_true Bool.not_false %"
 rw[qN hi1]
 walk_at "!i9 fY kZ dS dC cA fG Bool.not_true Bool.not_false %"
 simp only[dB.restore,fB,zr,List.getElem?_cons_succ,Option.map_some,List.set_cons_zero,List.set_cons_succ]
 cases b0 with
 |false=>walk_at "!i9 fY kZ dS dC cA fG Bool.not_true Bool.not_false %"
 |true =>
  walk_at "!i9 fY kZ dS dC cA fG Bool.not_true Bool.not_false %"
  rw[eP hi2]
  walk_at "!i9 fY kZ dS dC cA fG Bool.not_true Bool.not_false %"
end
theorem xQ:∀{xs ys:List Int},iD (xs.map D.int) (ys.map D.int)=decide (xs=ys)
 |[],[]=>rfl
 |[],_::_=>rfl
 |_::_,[]=>rfl
 |x::xs,y::ys=>by(rw[Zs,Zs];simp only[iD,dH,xQ,List.cons.injEq,Bool.decide_and];rfl)
theorem aGh:dH (b9 a) (b9 b)=decide (a=b):=by
 obtain⟨t,xs⟩:=a;obtain⟨u,ys⟩:=b;unfold b9;simp only[dH,iD,xQ,Prod.mk.injEq,Bool.decide_and,Bool.and_true];rfl
def MT:dH (pD a) (pD b)=decide (a=b):=by
 obtain⟨a,a'⟩:=a;obtain⟨b,b'⟩:=b;unfold pD;simp only[dH,iD,aGh,Prod.mk.injEq,Bool.decide_and,Bool.and_true]
def FD:bF 19 (pD k)=true:=by simp[bF,pD,b9]
def E9{L:List PK}:bL .NotIn (pD k) (.lst (L.map pD))=some (!decide (k∈L)):=by
 have h:(bF 19 (pD k)&&(L.map pD).all (bF 19))=true:=by(rw[FD,List.all_map];exact List.all_eq_true.mpr λx _=>FD)
 show(if cL (pD k)&&(L.map pD).all cL then some (!lK (pD k) (L.map pD)) else if bF 19 (pD k)&&(L.map pD).all (bF 19) then some (!lK (pD k) (L.map pD)) else none)=_;rw[Zp (show ¬(cL (pD k)&&(L.map pD).all cL)=true from Bool.false_ne_true),Zo h]
 congr 2
 unfold lK;rw[List.any_map,Bool.eq_iff_iff,List.any_eq_true,decide_eq_true_iff];constructor
 ·rintro⟨x,hx,e⟩
  have e:dH (pD x) (pD k)=true:=e;rw[MT,decide_eq_true_iff] at e;rw[<- e];exact hx
 ·exact λhk=>⟨k,hk,by show dH (pD k) (pD k)=true;rw[MT];exact Zn rfl⟩
def ZN{xs ys:List Int}:bL .NotEq (.lst (xs.map D.int)) (.lst (ys.map D.int))=some (!decide (xs=ys)):=by
 rw[UW (by simp[bF]) (by simp[bF])];simp only[dH,xQ]
def SF:gD kn f g=decide (c9 kn f=c9 kn g):=by
 rw[Bool.eq_iff_iff,decide_eq_true_iff];constructor
 ·intro h;unfold gD at h;rw[List.all_eq_true] at h;unfold c9;congr 1;exact List.filter_congr λj hj=>Zy (h j hj)
 ·intro h;refine KJ λa ha=>?_
  have h1:=yD (k:=kn) (ok:=f) (q:=(a:Int)) (by omega) (by omega);have h2:=yD (k:=kn) (ok:=g) (q:=(a:Int)) (by omega) (by omega);rw[h,h2] at h1;exact(Option.some.inj h1).symm
theorem vH{bind:D->Env->Option Env}{J:Env->Prop}:∀(ds:List D),(∀d∈ds,∀U,J U->∃U1 U2,bind d U=some U1/\body U1=some (if p d then .nx else .rt (.sh (.bl false)),U2)/\J U2)->∀U,J U->∃U',bZ bind body ds U=some (if ds.all p then .nx else .rt (.sh (.bl false)),U')/\J U'
 |[],_,U,h=>⟨U,rfl,h⟩
 |d::ds,h,U,hU=>by
  obtain⟨U1,U2,e1,e2,h2⟩:=h d zh U hU;rw[Zj]
  cases hp:p d with
  |true =>
   obtain⟨U',e,h'⟩:=vH ds (λx hx=>h x (Ze _ hx)) U2 h2;exact⟨U',by simp only[bZ,e1,e2,hp,if_true,Bool.true_and];exact e,h'⟩
  |false=>exact⟨U2,by simp[bZ,e1,e2,hp],h2⟩
def ZI{F:List Int}:(rg F.length).all (λd=>match d with | .int i=>g (F.getD i.toNat 0) | _=>false)=F.all g:=by
 rw[List.all_map,Bool.eq_iff_iff,List.all_eq_true,List.all_eq_true];constructor
 ·intro h x hx;obtain⟨j,hj,rfl⟩:=List.mem_iff_getElem.mp hx
  have:g (F.getD j 0)=true:=h j (List.mem_range.mpr hj)
  rwa[List.getD_eq_getElem?_getD,Zb hj] at this
 ·intro h j hj;have hj:=List.mem_range.mp hj;show g (F.getD j 0)=true;rw[List.getD_eq_getElem?_getD,Zb hj];exact h _ (List.getElem_mem hj)
section
variable{no ba ba':Int}{kn m m':Nat}{ps ps':List RP}{hA hB:D}
def aCX{W n:Nat}{L:List PK}{F:List Int}(ht:bB t=true):∃t7,
  bZ (aU true [7]) (exs T.pins (run T W (n+6)) W nD) (rg F.length) [.sh hA,.sh hB,.sh (.lst (L.map pD)),.sh (b9 k.1),.sh (b9 k.2),.o (.lst (F.map (cW m ba (aY k.1)))),.o (.lst (F.map (cW m' ba' (aY k.2)))),t] =
   some (if F.all (λq=>decide (cN m ba m' ba' k q∈L)) then .nx else .rt (.sh (.bl false)),[.sh hA,.sh hB,.sh (.lst (L.map pD)),.sh (b9 k.1),.sh (b9 k.2),.o (.lst (F.map (cW m ba (aY k.1)))),.o (.lst (F.map (cW m' ba' (aY k.2)))),t7])/\bB t7=true:=by
 have ix:∀(g:Int->D) (j:Nat),j<F.length->d6 (some (.lst (F.map g))) (.int j)=some (.sh (g (F.getD j 0))):=λg j hj=>LU (by rw[show L2.cV (F.map g) (j:Int)=(F.map g)[j]? from lM,Zh,List.getD_eq_getElem?_getD,Zb hj];rfl)
 rw[<- ZI]
 obtain⟨U',e,t7,rfl,h7⟩:=vH (bind:=aU true [7]) (body:=exs T.pins (run T W (n+6)) W nD) (p:=λd=>match d with | .int i=>decide (cN m ba m' ba' k (F.getD i.toNat 0)∈L) | _=>false)
  (J:=λU=>∃t7,U=[.sh hA,.sh hB,.sh (.lst (L.map pD)),.sh (b9 k.1),.sh (b9 k.2),.o (.lst (F.map (cW m ba (aY k.1)))),.o (.lst (F.map (cW m' ba' (aY k.2)))),t7]/\bB t7=true) (rg F.length) (λd hd U hU=>by
   obtain⟨t7,rfl,h7⟩:=hU;obtain⟨j,hj,rfl⟩:=zl.mp hd;have i5:=ix (cW m ba (aY k.1)) j (List.mem_range.mp hj);have i6:=ix (cW m' ba' (aY k.2)) j (List.mem_range.mp hj);refine⟨_,[.sh hA,.sh hB,.sh (.lst (L.map pD)),.sh (b9 k.1),.sh (b9 k.2),.o (.lst (F.map (cW m ba (aY k.1)))),.o (.lst (F.map (cW m' ba' (aY k.2)))),.sh (.int j)],by simp only[eM,aZ h7]<;>rfl, ?_,_,rfl,rfl⟩;show _=some (if decide (cN m ba m' ba' k (F.getD j 0)∈L) then _ else _,_)
   generalize F.getD j 0=q at *
   have j5:d6 (some (cW m ba (aY k.1) q)) (.int 1)=some (.sh (dM m ba (aY k.1++[q]))):=rfl;have j6:d6 (some (cW m' ba' (aY k.2) q)) (.int 1)=some (.sh (dM m' ba' (aY k.2++[q]))):=rfl;have hn:bL .NotIn (.tup [dM m ba (aY k.1++[q]),dM m' ba' (aY k.2++[q])]) (.lst (L.map pD))=some (!decide (cN m ba m' ba' k q∈L)):=E9 (k:=cN m ba m' ba' k q)
   generalize decide (cN m ba m' ba' k q∈L)=b at *
   unfold nD
   cases b<;>walk_at "!%") _ ⟨t,rfl,ht⟩
 exact⟨t7,e,h7⟩
def CV{C:Calls}{F ys:List Int}{m:Nat}:∃t1,bB t1=true/\fH (dI T.pins C []) (ev T.pins C false nU) (aU true [1]) (F.map (cW m ba ys)) [] [.un,.un]=some (.ok (F.map D.int),[.un,t1]):=by
 obtain⟨U',e,t1,rfl,h1⟩:=rW (P:=T.pins) (elt:=ev T.pins C false nU) (bind:=aU true [1]) (ds:=F.map (cW m ba ys))
  (λd=>match d with | .tup (x::_)=>x | _=>.non) (λU=>∃t1,U=[.un,t1]/\bB t1=true)
  (λd hd U hU=>by
   obtain⟨t1,rfl,h1⟩:=hU;obtain⟨q,hq,rfl⟩:=zl.mp hd;refine⟨_,.sh (.int q),[.un,.sh (cW m ba ys q)],by simp only[eM,aZ h1]<;>rfl, ?_,rfl,_,rfl,rfl⟩;have hx:d6 (some (cW m ba ys q)) (.int 0)=some (.sh (.int q)):=rfl
   generalize cW m ba ys q=w at *
   unfold nU
   walk_at "!")
  (U:=[.un,.un]) ⟨_,rfl,rfl⟩
 refine⟨t1,h1, ?_⟩;rw[e,List.map_map];rfl
noncomputable def rG(kn:Nat)(ps ps':List RP)(m:Nat)(ba:Int)(m':Nat)(ba':Int)(L:List PK)(k:PK):Bool:=gD kn (b8 ps (aY k.1)) (b8 ps' (aY k.2))&&(cX kn ps k.1).all λq=>decide (cN m ba m' ba' k q∈L)
def R1{W n:Nat}{L:List PK}{k:PK}{t5 t6 t7:Sl}(H:HD hA no ba m kn ps)(H':HD hB no ba' m' kn ps')(h:VK no ba m k.1)(h':VK no ba' m' k.2)(g5:bB t5=true)(g6:bB t6=true)(g7:bB t7=true) :
  ∃t5' t6' t7',bB t5'=true/\bB t6'=true/\bB t7'=true/\exs T.pins (run T W (n+6)) W nW [.sh hA,.sh hB,.sh (.lst (L.map pD)),.sh (b9 k.1),.sh (b9 k.2),t5,t6,t7] =
   some (if rG kn ps ps' m ba m' ba' L k then .nx else .rt (.sh (.bl false)),[.sh hA,.sh hB,.sh (.lst (L.map pD)),.sh (b9 k.1),.sh (b9 k.2),t5',t6',t7']):=by
 have w1:=DX (W:=W) (n:=n+1) H h;have w2:=DX (W:=W) (n:=n+1) H' h';have l1:(cX kn ps k.1).length<=7:=Zr lR H.k7;have l2:(cX kn ps' k.2).length<=7:=Zr lR H.k7;unfold jZ at w1 w2;change run T W (n+1+5) "L_ways" [.sh hA,.sh (b9 k.1)]=some (.ok (.ow (.lst ((cX kn ps k.1).map (cW m ba (aY k.1))))),_) at w1;change run T W (n+1+5) "L_ways" [.sh hB,.sh (b9 k.2)]=some (.ok (.ow (.lst ((cX kn ps' k.2).map (cW m' ba' (aY k.2))))),_) at w2
 have hd:rG kn ps ps' m ba m' ba' L k=(decide (cX kn ps k.1=cX kn ps' k.2)&&(cX kn ps k.1).all λq=>decide (cN m ba m' ba' k q∈L)):=by(unfold rG;rw[SF];rfl)
 rw[hd];clear hd H H' h h'
 generalize cX kn ps k.1=F at *
 generalize cX kn ps' k.2=G at *
 obtain⟨u1,_,c1⟩:=CV (C:=run T W (n+6)) (F:=F) (ys:=aY k.1) (m:=m) (ba:=ba);obtain⟨u2,_,c2⟩:=CV (C:=run T W (n+6)) (F:=G) (ys:=aY k.2) (m:=m') (ba:=ba');have c2':fH (dI T.pins (run T W (n+6)) []) (ev T.pins (run T W (n+6)) false zU) (aU true [1]) (G.map (cW m' ba' (aY k.2))) [] [.un,.un]=some (.ok (G.map D.int),[.un,u2]):=c2;have hne:=ZN (xs:=F) (ys:=G);have s1:aJ F.length=true:=bD (by omega);have s2:aJ G.length=true:=bD (by omega);have hi5:∀{a b c d e f g:Sl} {X:List D},aD .of [.slot 5] [a,b,c,d,e,.o (.lst X),f,g]=some (X,some 5):=LH rfl
 have hi6:∀{a b c d e f g:Sl} {X:List D},aD .of [.slot 6] [a,b,c,d,e,f,.o (.lst X),g]=some (X,some 6):=LH rfl
 have hi7:∀{U:Env},aD .rng [.val (.sh (.int F.length))] U=some (rg F.length,none):=λ{U}=>BC (by omega)
 unfold nW;by_cases e:F=G
 ·subst e;obtain⟨t7',hin,r7⟩:=aCX (W:=W) (n:=n) (L:=L) (k:=k) (F:=F) (m:=m) (ba:=ba) (m':=m') (ba':=ba') (hA:=hA) (hB:=hB) g7;refine⟨.ow (.lst (F.map (cW m ba (aY k.1)))) false false,.o (.lst (F.map (cW m' ba' (aY k.2)))),t7',rfl,rfl,r7, ?_⟩;rw[Zn rfl] at hne ⊢;rw[Bool.true_and]
  generalize F.all (λq=>decide (cN m ba m' ba' k q∈L))=b at *
  have z1:((F.map (cW m ba (aY k.1))).length:Int)=(F.length:Int):=by rw[List.length_map]
  generalize F.map (cW m ba (aY k.1))=W1 at *
  generalize F.map (cW m' ba' (aY k.2))=W2 at *
  clear l1 l2 c2
  walk_at "!dC cA fG Bool.not_true Bool.not_false %"
  rw[qN hi5]
  walk_at "!dC cA fG Bool.not_true Bool.not_false %"
  rw[i7 rfl]
  walk_at "!dC cA fG Bool.not_true Bool.not_false %"
  rw[qN hi6]
  walk_at "!dC cA fG Bool.not_true Bool.not_false %"
  rw[i7 rfl]
  walk_at "!dC cA fG Bool.not_true Bool.not_false %"
  cases b<;>rfl
 ·refine⟨.ow (.lst (F.map (cW m ba (aY k.1)))) false false,.o (.lst (G.map (cW m' ba' (aY k.2)))),t7,rfl,rfl,g7, ?_⟩;rw[Zm e] at hne ⊢
  generalize F.map (cW m ba (aY k.1))=W1 at *
  generalize G.map (cW m' ba' (aY k.2))=W2 at *
  clear l1 l2 c2 e
  walk_at "!dC cA fG Bool.not_true Bool.not_false %"
  rw[qN hi5]
  walk_at "!dC cA fG Bool.not_true Bool.not_false %"
  rw[i7 rfl]
  walk_at "!dC cA fG Bool.not_true Bool.not_false %"
  rw[qN hi6]
  walk_at "!dC cA fG Bool.not_true Bool.not_false %"
  rw[i7 rfl]
  walk_at "!dC cA fG Bool.not_true Bool.not_false %"
def aIc{W n:Nat}{L:List PK}(H:HD hA no ba m kn ps)(H':HD hB no ba' m' kn ps')(h:mP no ba m ba' m' L) :
  run T W (n+7) "L_due" [.sh hA,.sh hB,.sh (.lst (L.map pD))]=some (.ok (.sh (.bl (v9 kn ps ps' m ba m' ba' L))),[.sh hA,.sh hB,.sh (.lst (L.map pD))]):=by
 rw[a8 aAi rfl rfl];unfold rM;have hs:v9 kn ps ps' m ba m' ba' L=(decide (dQ∈L)&&L.all (rG kn ps ps' m ba m' ba' L)):=rfl;have hn0:bL .NotIn (.tup [.tup [.int 0,.tup []],.tup [.int 0,.tup []]]) (.lst (L.map pD))=some (!decide (dQ∈L)):=E9 (k:=dQ);have hi:∀{a b c d e f g:Sl},aD .of [.slot 2] [a,b,.sh (.lst (L.map pD)),c,d,e,f,g]=some (L.map pD,none):=aFx rfl
 obtain⟨U',e,t3,t4,t5,t6,t7,rfl,_⟩:=vH (bind:=aU false [3,4]) (body:=exs T.pins (run T W (n+6)) W nW) (p:=λd=>match dD d with | some (.inr k)=>rG kn ps ps' m ba m' ba' L k | _=>false)
  (J:=λU=>∃t3 t4 t5 t6 t7,U=[.sh hA,.sh hB,.sh (.lst (L.map pD)),t3,t4,t5,t6,t7]/\bB t3=true/\bB t4=true/\bB t5=true/\bB t6=true/\bB t7=true) (L.map pD) (λd hd U hU=>by
   obtain⟨t3,t4,t5,t6,t7,rfl,g3,g4,g5,g6,g7⟩:=hU;obtain⟨k,hk,rfl⟩:=zl.mp hd;obtain⟨t5',t6',t7',r5,r6,r7,hb⟩:=R1 (W:=W) (n:=n) (L:=L) (t5:=t5) (t6:=t6) (t7:=t7) H H' (h k hk).1 (h k hk).2 g5 g6 g7;rw[dS]
   exact⟨_,_,by unfold pD;simp only[eM,aZ g3,aZ g4]<;>rfl,hb,_,_,_,_,_,rfl,rfl,rfl,r5,r6,r7⟩)
  [.sh hA,.sh hB,.sh (.lst (L.map pD)),.un,.un,.un,.un,.un] ⟨_,_,_,_,_,rfl,rfl,rfl,rfl,rfl,rfl⟩
 have hall:(L.map pD).all (λd=>match dD d with | some (.inr k)=>rG kn ps ps' m ba m' ba' L k | _=>false)=L.all (rG kn ps ps' m ba m' ba' L):=by
  rw[List.all_map];congr 1
  funext k
  show(match dD (pD k) with | some (.inr k)=>rG kn ps ps' m ba m' ba' L k | _=>false)=_;rw[dS]
 rw[hall] at e;rw[hs]
 generalize L.all (rG kn ps ps' m ba m' ba' L)=b at *
 generalize decide (dQ∈L)=b0 at *
 clear H H' h hs hall;cases b0
 ·walk_at "!% Bool.not_true Bool.not_false"
 ·cases b<;>walk_at "!% Bool.not_true Bool.not_false"
end
def IP(hel:∀(s:Int) (d:D),ev T.pins (run T W (n+1)) false el [.sh h,.p (.lst [.int k,.int s]),.un,.sh d]=some (.ok (.sh (.int (aS k s no))),[.sh h,.p (.lst [.int k,.int (aH k s no)]),.un,.sh d]))(h1:0<no) :
  ∃(s':Int) (xs:List Int) (t:Sl),fH (dI T.pins (run T W (n+1)) []) (ev T.pins (run T W (n+1)) false el) (aU true [3]) (rg c) [] [.sh h,.p (.lst [.int k,.int s]),.un,.un]=some (.ok (xs.map D.int),[.sh h,.p (.lst [.int k,.int s']),.un,t])/\xs.length=c/\∀x∈xs,0<=x/\x<no:=by
 obtain⟨acc,Ui,e,⟨s6,xs,t3,rfl,h3',rfl,hl,hx⟩,hz⟩:=fQ (tests:=dI T.pins (run T W (n+1)) []) (elt:=ev T.pins (run T W (n+1)) false el) (bind:=aU true [3]) (ds:=rg c)
  (λj acc U=>∃(s6:Int) (xs:List Int) (t3:Sl),U=[.sh h,.p (.lst [.int k,.int s6]),.un,t3]/\bB t3=true/\acc=xs.map D.int/\xs.length=j/\∀x∈xs,0<=x/\x<no)
  (λj d hd acc U hU=>by
   obtain⟨s6,xs,t3,rfl,h3',rfl,hl,hx⟩:=hU;refine⟨_,true,_,by simp only[zT,W5,zr,List.getElem?_cons_succ,aZ h3',List.set_cons_zero,List.set_cons_succ]<;>rfl,gS,λ_=>?_,λz=>nomatch z⟩;refine⟨.sh (.int (aS k s6 no)),_,hel s6 d,_,xs++[aS k s6 no],_,rfl,rfl,by simp[RV.d],by simp[hl],λx hm=>?_⟩;rcases zo.mp hm with hm | hm
   ·exact hx x hm
   ·rw[ze.mp hm];exact⟨bH h1,bJ h1⟩)
  [] [.sh h,.p (.lst [.int k,.int s]),.un,.un] ⟨_,[],_,rfl,rfl,rfl,rfl,λx h=>nomatch h⟩
 exact⟨s6,xs,t3,e,by rw[hl];simp,hx⟩
def SM(H:HD hA no ba m kn ps) :
  ∃(s':Int) (a:L2.dX),run T W (n+2) "L_any_stand" [.p (.lst [.int k,.int s]),.sh hA]=some (.ok (.sh (b9 a)),[.p (.lst [.int k,.int s']),.sh hA])/\VK no ba m a:=by
 obtain⟨oc,fs,rs,rfl,H⟩:=H;have ho:=H.ho;have hm:=H.hm;have h3:=H.h3;have h5:=H.h5;clear H;rw[a8 C1 rfl rfl];unfold jB;have n1:=ho.n1;have n2:=ho.n2;have b1:=ho.b1;have b2:=ho.b2;have hme:=sR (W:=W) (n:=n) (no:=no) (ba:=ba) (oc:=oc) (rs:=rs) ho.l2;rw[hm] at hme;have g1:0<(m:Int)+ba:=by omega
 have g2:(m:Int)+ba<nofun:=by omega
 have g3:0<no:=by omega
 have g4:no<nofun:=by omega
 have v1:=bH (k:=k) (s:=s) g1;have v2:=bJ (k:=k) (s:=s) g1;obtain⟨t,ht⟩:∃t:Nat,aS k s ((m:Int)+ba)=(t:Int):=⟨(aS k s ((m:Int)+ba)).toNat,by omega⟩
 obtain⟨c,hc⟩:∃c:Nat,(if(m:Int)<(t:Int) then(m:Int) else(t:Int))=(c:Int):=by
  split
  ·exact⟨m,rfl⟩
  ·exact⟨t,rfl⟩
 have hcm:c<=m/\c<=t/\(c=m\/c=t):=by(split at hc<;>omega)
 obtain⟨s2,tl,t3,e,hl,hx⟩:=IP (W:=W) (n:=n) (el:=kG) (no:=no) (h:=aA no ba oc fs rs) (k:=k) (s:=aH k s ((m:Int)+ba)) (c:=c) (λs d=>by
  unfold kG;clear ho hm n1 n2 b1 b2 hme g1 g2 v1 v2 ht hc hcm h3 h5
  walk_at "!aI %") g3
 refine⟨s2,((t:Int),tl), ?_,⟨by show(0:Int)<=(t:Int);omega,by show(t:Int)<=_;omega,by show(tl.length:Int)=if(m:Int)<(t:Int) then(m:Int) else(t:Int);rw[hc,hl],hx⟩⟩;show _=some (Out.ok (RV.sh (.tup [.int t,.tup (tl.map D.int)])),_);have hi:∀{U:Env},aD .rng [.val (.sh (.int c))] U=some (rg c,none):=λ{U}=>BC (by omega)
 have hsm:aJ (tl.map D.int).length=true:=bD (by rw[List.length_map];omega);have hsm2:aJ tl.length=true:=bD (by omega);clear ho hm n1 n2 b1 b2 v1 v2 hcm hl hx h3 h5
 walk_at "!aI %"
 rw[eP hi]
 walk_at "!aI %"
 all_goals (first | done | (rw[i7 rfl];walk_at "!aI %"))
section
variable{no ba oc:Int}{fs:List (Int×Int×Bool)}{rs:List D}
def aEM(h:RuleD no ba oc ma d):RuleD no' ba oc ma d:=by
 cases h<;>(constructor<;>assumption)
structure HR(no ba oc:Int)(fs:List (Int×Int×Bool))(rs:List D):Prop where
 ho:HouseOk no ba oc fs
 hl:rs.length<=8
 hr:∀d∈rs,RuleD no ba oc (fs.length:Int) d
theorem HR.hk(h:HR no ba oc fs rs):∃m ps,HD (aA no ba oc fs rs) no ba m no.toNat ps:=by
 obtain⟨m,hm,h3,h5⟩:=aB2 h.ho;obtain⟨ps,h1,h2⟩:=QB h.ho hm h3 rs h.hr;exact⟨m,ps,_,_,_,rfl,h.ho,hm,h3,h5,(Int.toNat_of_nonneg (by have:=h.ho.n1;omega)).symm,h1,h2,h.hl⟩
def HR.rules(h:HR no ba oc fs rs)(hl:rs'.length<=8)(hr:∀d∈rs',d∈rs\/RuleD no ba oc (fs.length:Int) d):HR no ba oc fs rs':=⟨h.ho,hl,λd hd=>(hr d hd).elim (h.hr d) id⟩
def HR.notes(h:HR no ba oc fs rs)(h':HR no' ba' oc' fs' rs'):HR no ba' oc' fs' rs' :=
 ⟨⟨h.ho.n1,h.ho.n2,h'.ho.b1,h'.ho.b2,h'.ho.o1,h'.ho.o2,h'.ho.l1,h'.ho.l2,h'.ho.f⟩,h'.hl,λd hd=>aEM (h'.hr d hd)⟩
def HR.voice(h:HR no ba oc (f::fs) rs)(h1:-12<=x)(h2:x<=12):HR no ba oc ((f.1,x,f.2.2)::fs) rs :=
 ⟨⟨h.ho.n1,h.ho.n2,h.ho.b1,h.ho.b2,h.ho.o1,h.ho.o2,h.ho.l1,h.ho.l2,λg hg=>by
  rcases List.mem_cons.mp hg with e | hg
  ·subst e
   have:=h.ho.f f zh
   exact⟨this.1,this.2.1,h1,h2⟩
  ·exact h.ho.f g (Ze _ hg)⟩,h.hl,h.hr⟩
end
def MU{c:Nat}(h:c<ds.length):kY (some (.tup ds)) none (some (.int c))=some (.sh (.tup (ds.take c))):=by
 have e:iC ds none (some (c:Int))=ds.take c:=by(unfold iC;rw[HT.jF,HT.l4,List.drop_zero,Nat.sub_zero,Nat.min_eq_left (by omega)])
 have n:¬(HT.bQ ds.length 0 none=0/\HT.bQ ds.length ds.length (some (c:Int))=ds.length):=by rw[HT.jF];omega
 rw[<- e]
 first | rfl | exact Zp n
def DV{c:Nat}(h:0<c)(h2:0<ds.length):kY (some (.tup ds)) (some (.int c)) none=some (.sh (.tup (ds.drop c))):=by
 have e:iC ds (some (c:Int)) none=ds.drop c:=by
  unfold iC;rw[HT.jF,HT.l4];by_cases h:c<=ds.length
  ·rw[Nat.min_eq_left h,zf (by rw[List.length_drop];omega)]
  ·rw[Nat.min_eq_right (by omega),Nat.sub_self,List.take_zero,List.drop_of_length_le (by omega)]
 have n:¬(HT.bQ ds.length 0 (some (c:Int))=0/\HT.bQ ds.length ds.length none=ds.length):=by rw[HT.jF];omega
 rw[<- e]
 first | rfl | exact Zp n
section
variable{no ba oc:Int}{fs:List (Int×Int×Bool)}{rs:List D}
def ME(h:HR no ba oc fs rs):∃fs',run T W (n+1) "L_moved_voice" [.sh (aA no ba oc fs rs)]=some (.ok (.sh (aA no ba oc fs' rs)),[.sh (aA no ba oc fs rs)])/\HR no ba oc fs' rs:=by
 obtain _ | ⟨f,r⟩:=fs
 ·exact absurd h.ho.l1 (by decide)
 have hf:=h.ho.f f zh;have o1:=h.ho.o1;rw[a8 yM rfl rfl];unfold gT;have key:∀x:Int,-12<=x->x<=12->HR no ba oc ((f.1,x,f.2.2)::r) rs:=λx h1 h2=>h.voice h1 h2
 have i3:d6 (some (aA no ba oc (f::r) rs)) (.int 3)=some (.sh (.tup (.tup [.int f.1,.int f.2.1,.bl f.2.2]::r.map cI))):=rfl;have j0:d6 (some (.tup (.tup [.int f.1,.int f.2.1,.bl f.2.2]::r.map cI))) (.int 0)=some (.sh (.tup [.int f.1,.int f.2.1,.bl f.2.2])):=V9 (lM (n:=0));have i2:d6 (some (aA no ba oc (f::r) rs)) (.int 2)=some (.sh (.int oc)):=rfl;have s3:kY (some (aA no ba oc (f::r) rs)) none (some (.int 3))=some (.sh (.tup [.int no,.int ba,.int oc])):=MU (c:=3) (by simp);have s4:kY (some (aA no ba oc (f::r) rs)) (some (.int 4)) none=some (.sh (.tup [.tup rs])):=DV (c:=4) (by decide) (by simp);have s1:kY (some (.tup (.tup [.int f.1,.int f.2.1,.bl f.2.2]::r.map cI))) (some (.int 1)) none=some (.sh (.tup (r.map cI))):=DV (c:=1) (by decide) (by simp);have l2:=h.ho.l2
 have c1:∀x:Int,bX .Add (.tup [.tup [.int f.1,.int x,.bl f.2.2]]) (.tup (r.map cI))=some (.sh (.tup (((f.1,x,f.2.2)::r).map cI))):=λx=>by(rw[oQ (cZ (by simp at l2 ⊢;omega))];rfl)
 have c2:∀x:Int,bX .Add (.tup [.int no,.int ba,.int oc]) (.tup [.tup (((f.1,x,f.2.2)::r).map cI)])=some (.sh (.tup [.int no,.int ba,.int oc,.tup (((f.1,x,f.2.2)::r).map cI)])):=λx=>by(rw[oQ (cZ (by simp))];rfl)
 have c3:∀x:Int,bX .Add (.tup [.int no,.int ba,.int oc,.tup (((f.1,x,f.2.2)::r).map cI)]) (.tup [.tup rs])=some (.sh (aA no ba oc ((f.1,x,f.2.2)::r) rs)):=λx=>by(rw[oQ (cZ (by simp))];rfl)
 by_cases e1:f.2.1+oc<=12
 ·refine⟨(f.1,f.2.1+oc,f.2.2)::r, ?_,key _ (by omega) e1⟩;have d1:=Zn e1
  walk_at "!"
  rfl
 ·have d1:=Zm e1;by_cases e2:-12<=f.2.1-oc
  ·refine⟨(f.1,f.2.1-oc,f.2.2)::r, ?_,key _ e2 (by omega)⟩;have d2:=Zn e2
   walk_at "!"
   rfl
  ·refine⟨(f.1,f.2.1,f.2.2)::r, ?_,key _ hf.2.2.1 hf.2.2.2⟩;have d2:=Zm e2
   walk_at "!"
   rfl
end
theorem CK(I:Nat->Env->Prop)(F:Env->Prop)(bd:∀j U,I j U->j<=N)
  (step:∀j U,I j U->(test U=some (.ok (.sh (.bl false)),U)/\F U)\/∃U2,test U=some (.ok (.sh (.bl true)),U)/\body U=some (.nx,U2)/\I (j+1) U2) :
  ∀n j U,I j U->N<n+j->∃U',lF test body n U=some (.nx,U')/\F U'
 | 0,j,U,h,hn=>absurd (bd j U h) (by omega)
 |n+1,j,U,h,hn=>by
  rcases step j U h with ⟨e,f⟩ | ⟨U2,e,b,i⟩
  ·exact⟨U,by simp only[lF,e,aR.flow],f⟩
  ·obtain⟨U',e',f⟩:=CK I F bd step n (j+1) U2 i (by omega);exact⟨U',by simp only[lF,e,aR.flow,b];exact e',f⟩
def CU:iU F (F.map g) q=if q∈F then some (g q) else none:=by
 induction F with
 |nil=>rfl
 |cons x F ih =>
  unfold iU at *
  rw[Zs,List.zip_cons_cons,List.find?_cons];by_cases h:x=q
  ·subst h;rw[Zn rfl,Zo zh];rfl
  ·rw[Zm h];refine ih.trans ?_;by_cases hq:q∈F
   ·rw[Zo hq,Zo (Ze _ hq)]
   ·rw[Zp hq,Zp λz=>(List.mem_cons.mp z).elim (λz=>h z.symm) hq]
theorem mM:∀{ks:List L2.bO} {ds:List D},k∈ks->ks.length=ds.length->∃d∈ds,mI ks ds k=some d
 |[],_,h,_=>nomatch h
 |_::_,[],_,h=>nomatch h
 |x::ks,d::ds,h,hl=>by
  by_cases e:x=k
  ·exact⟨d,zh,by unfold mI;rw[List.zip_cons_cons,List.find?_cons,Zn e];rfl⟩
  ·obtain⟨d',h1,h2⟩:=mM ((List.mem_cons.mp h).elim (λz=>absurd z.symm e) id) (Nat.succ.inj hl);exact⟨d',Ze _ h1,by unfold mI at *;rw[List.zip_cons_cons,List.find?_cons,Zm e];exact h2⟩
def L8
  (hx:d6 (some (.dcs gs vs)) kd=some (.sh (.lst xl))) (hc:bX .Add (.lst xl) (.lst [.int i])=some (.ow (.lst yl)))
  (c1:bL .In (.int i) g1=some a) (c2:bL .In (.int i) g2=some b) (hi:a=true->b=true->d6 (some g1) (.int i)=some (.sh s1)/\d6 (some g2) (.int i)=some (.sh s2)/\dD (.tup [s1,s2])=some key)
  (z1:aJ (gs.length+1)=true) (z2:aJ (l.length+1)=true) (c5:bL .Is d5 .non=some b5) (o:bB t11=true) :
  ∃d5' t11',bB t11'=true/\(∃b5',bL .Is d5' .non=some b5') /\
   exs T.pins C W iW [h1,h2,s0,.o (.dcs gs vs),.o (.lst l),.sh d5,.sh at',.sh kd,.sh g1,.sh g2,.sh (.int i),t11] =
    some (.nx,if(a&&b && !eH gs key)=true then [h1,h2,s0,.o (.dcs (l7 gs key) (nJ gs vs key (.lst yl))),.o (.lst (l++[.tup [s1,s2]])),.sh d5',.sh at',.sh kd,.sh g1,.sh g2,.sh (.int i),t11']
     else [h1,h2,s0,.o (.dcs gs vs),.o (.lst l),.sh d5',.sh at',.sh kd,.sh g1,.sh g2,.sh (.int i),t11']):=by
 unfold iW
 cases a with
 |true =>
  cases b with
  |true =>
   obtain⟨i1,i2,hk⟩:=hi rfl rfl;have hn:=aFA (ks:=gs) (ds:=vs) hk
   cases e:eH gs key with
   |true =>
    rw[e] at hn;refine⟨d5,.o (.lst yl),rfl,⟨_,c5⟩, ?_⟩
    walk_at "!fY Bool.not_true Bool.not_false"
   |false =>
    rw[e] at hn;refine⟨d5,.sh (.lst yl),rfl,⟨_,c5⟩, ?_⟩
    walk_at "!fY Bool.not_true Bool.not_false"
  |false =>
   cases b5 with
   |true =>
    refine⟨.tup [.str "apart",.lst yl,.int (1+0)],.sh (.lst yl),rfl,⟨false,rfl⟩, ?_⟩
    walk_at "!fY Bool.not_true Bool.not_false"
   |false =>
    refine⟨d5,.o (.lst yl),rfl,⟨_,c5⟩, ?_⟩
    walk_at "!fY Bool.not_true Bool.not_false"
 |false =>
  cases b5 with
  |false =>
   refine⟨d5,.o (.lst yl),rfl,⟨_,c5⟩, ?_⟩
   walk_at "!fY Bool.not_true Bool.not_false"
  |true =>
   cases b with
   |true =>
    refine⟨.tup [.str "apart",.lst yl,.int (1+1)],.sh (.lst yl),rfl,⟨false,rfl⟩, ?_⟩
    walk_at "!fY Bool.not_true Bool.not_false"
   |false =>
    refine⟨d5,.o (.lst yl),rfl,⟨_,c5⟩, ?_⟩
    walk_at "!fY Bool.not_true Bool.not_false"
section
variable{no ba ba':Int}{kn m m':Nat}{ps ps':List RP}{hA hB:D}
def SY(h:q∈cX kn ps k):0<=q/\q<(kn:Int):=by
 unfold cX c9 at h;obtain⟨j,hj,rfl⟩:=zl.mp h
 have:=List.mem_range.mp (List.mem_filter.mp hj).1
 omega
noncomputable def pV(xs:List Int):D:=.lst (xs.map D.int)
structure Fo(no ba:Int)(m:Nat)(ba':Int)(m':Nat)(B N:Nat)(L:List PK)(V:List (List Int)):Prop where
 v:mP no ba m ba' m' L
 e:L.length=V.length
 b:∀xs∈V,xs.length<=B
 n:L.length<=N
noncomputable def iZ(kn:Nat)(ps:List RP)(m:Nat)(ba:Int)(k:L2.dX):D:=.dci (cX kn ps k) ((cX kn ps k).map λq=>dM m ba (aY k++[q]))
def P1:bL .In (.int q) (iZ kn ps m ba k)=some (decide (q∈cX kn ps k)):=by
 unfold iZ;rw[aGq,CU];by_cases h:q∈cX kn ps k
 ·rw[Zo h,Zn h];rfl
 ·rw[Zp h,Zm h];rfl
def QO(h:q∈cX kn ps k):d6 (some (iZ kn ps m ba k)) (.int q)=some (.sh (dM m ba (aY k++[q]))) :=
 aFl (by rw[CU,Zo h])
def NI{L:List PK}(H:HD hA no ba m kn ps)(H':HD hB no ba' m' kn ps')(hk:k∈L)(hL:Fo no ba m ba' m' B N L V)(hB:B<=2000)(hN:N<=500)(c5:bL .Is d5 .non=some b5)(o10:bB t10=true)(o11:bB t11=true) :
  ∃L' V' d5' t10' t11',bZ (aU true [10]) (exs T.pins (run T W n) W iW) (rg kn) [h1,h2,s0,.o (.dcs (L.map .inr) (V.map pV)),.o (.lst (L.map pD)),.sh d5,.sh at',.sh (pD k),.sh (iZ kn ps m ba k.1),.sh (iZ kn ps' m' ba' k.2),t10,t11] =
   some (.nx,[h1,h2,s0,.o (.dcs (L'.map .inr) (V'.map pV)),.o (.lst (L'.map pD)),.sh d5',.sh at',.sh (pD k),.sh (iZ kn ps m ba k.1),.sh (iZ kn ps' m' ba' k.2),t10',t11']) /\
   Fo no ba m ba' m' (B+kn) (N+kn) L' V'/\L.length<=L'.length/\(∃b5',bL .Is d5' .non=some b5')/\bB t10'=true/\bB t11'=true:=by
 have k7:=H.k7
 obtain⟨U',e,L',V',d5',t10',t11',rfl,hL',hle,_,c5',o1,o2⟩:=d8 (bind:=aU true [10]) (body:=exs T.pins (run T W n) W iW)
  (λpre U=>∃L' V' d5' t10' t11',U=[h1,h2,s0,.o (.dcs (L'.map .inr) (V'.map pV)),.o (.lst (L'.map pD)),.sh d5',.sh at',.sh (pD k),.sh (iZ kn ps m ba k.1),.sh (iZ kn ps' m' ba' k.2),t10',t11']/\Fo no ba m ba' m' (B+pre.length) (N+pre.length) L' V'/\L.length<=L'.length/\k∈L'/\(∃b5',bL .Is d5' .non=some b5')/\bB t10'=true/\bB t11'=true)
  (ds:=rg kn) (λpre d post hds U hU=>by
   obtain⟨L1,V1,d1,t10',t11',rfl,F,hle,hk1,⟨b1,c1⟩,o1,o2⟩:=hU;obtain⟨rfl,hj⟩:=OI hds;refine⟨_,by simp only[eM,aZ o1]<;>rfl, ?_⟩;rw[Za,Zg];have hVk:=F.v k hk1;obtain⟨d,hd,hlook⟩:=mM (k:=.inr k) (ks:=L1.map .inr) (ds:=V1.map pV) (List.mem_map_of_mem hk1) (by rw[List.length_map,List.length_map];exact F.e);obtain⟨xs,hxs,rfl⟩:=zl.mp hd;have hxb:=F.b xs hxs;have hn:=F.n
   generalize (pre.length:Int)=q at *
   obtain⟨d2,t2,ot,ct,ee⟩:=L8 (C:=run T W n) (gs:=L1.map .inr) (vs:=V1.map pV) (l:=L1.map pD) (xl:=xs.map D.int) (yl:=(xs++[q]).map D.int) (d5:=d1) (kd:=pD k)
    (g1:=iZ kn ps m ba k.1) (g2:=iZ kn ps' m' ba' k.2) (i:=q) (t11:=t11') (s1:=dM m ba (aY k.1++[q])) (s2:=dM m' ba' (aY k.2++[q])) (key:=.inr (cN m ba m' ba' k q))
    (aGe dS hlook) (by rw[oZ (cZ (by simp;omega)),vX]) P1 P1 (λa b=>⟨QO (of_decide_eq_true a),QO (of_decide_eq_true b),dS (k:=cN m ba m' ba' k q)⟩)
    (cZ (by rw[List.length_map];omega)) (cZ (by rw[List.length_map];omega)) c1 o2
   rw[qF (L:=L1) (λ_=>Iff.rfl)] at ee;refine⟨_,ee, ?_⟩;by_cases g:(decide (q∈cX kn ps k.1)&&decide (q∈cX kn ps' k.2) && !decide (cN m ba m' ba' k q∈L1))=true
   ·rw[Zo g];rw[ZB,ZB,decide_eq_true_iff,decide_eq_true_iff,Bool.not_eq_true',decide_eq_false_iff_not] at g;have hno:eH (L1.map .inr) (.inr (cN m ba m' ba' k q))=false:=by rw[qF (L:=L1) (λ_=>Iff.rfl)];exact Zm g.2
    refine⟨L1++[cN m ba m' ba' k q],V1++[xs++[q]],d2,.sh (.int q),t2, ?_,⟨λx hx=>?_, ?_,λx hx=>?_, ?_⟩, ?_,List.mem_append_left _ hk1,ct,rfl,ot⟩
    ·rw[KH,Zp g.2];unfold nJ;rw[hno,Zp Bool.false_ne_true,zd (f:=pV),zd (f:=pD)];rfl
    ·rcases zo.mp hx with hx | hx
     ·exact F.v x hx
     ·rw[ze.mp hx]
      have:=SY g.1.1
      have hq:In no [q]:=In.one (by rw[H.hk];exact this);exact⟨H.next ((H.line hVk.1).app hq),H'.next ((H'.line hVk.2).app hq)⟩
    ·rw[Za,Za,F.e];rfl
    ·rcases zo.mp hx with hx | hx
     ·have:=F.b x hx;omega
     ·rw[ze.mp hx,Za,Zg];omega
    ·rw[Za,Zg];omega
    ·rw[Za];omega
   ·rw[Zp g]
    exact⟨L1,V1,d2,.sh (.int q),t2,rfl,⟨F.v,F.e,λx hx=>by have:=F.b x hx;omega,by omega⟩,hle,hk1,ct,rfl,ot⟩)
  (U:=[h1,h2,s0,.o (.dcs (L.map .inr) (V.map pV)),.o (.lst (L.map pD)),.sh d5,.sh at',.sh (pD k),.sh (iZ kn ps m ba k.1),.sh (iZ kn ps' m' ba' k.2),t10,t11]) ⟨L,V,d5,t10,t11,rfl,hL,Zq _,hk,⟨_,c5⟩,o10,o11⟩
 rw[List.length_map,List.length_range] at hL';exact⟨L',V',d5',t10',t11',e,hL',hle,c5',o1,o2⟩
def aEk(hW:200<=W)(H:HD hA no ba m kn ps)(H':HD hB no ba' m' kn ps') :
  ∃(L:List PK) (vs:List D) (d:D),run T W (n+6) "L_pairs" [.sh hA,.sh hB]=some (.ok (.sh (.tup [.dcs (L.map .inr) vs,d])),[.sh hA,.sh hB])/\mP no ba m ba' m' L/\L≠[]:=by
 have k7:=H.k7;rw[a8 OY rfl rfl];unfold nE;have hk:=H.hk;have hi:∀{U:Env},aD .rng [.val (.sh (.int no))] U=some (rg kn,none):=λ{U}=>by rw[hk];exact BC (by omega)
 have i0:d6 (some hA) (.int 0)=some (.sh (.int no)):=H.i0
 have hv0:mP no ba m ba' m' [dQ]:=λx hx=>by
  rw[ze.mp hx];have e1:f9 m ba []=(0,[]):=by unfold f9 jE kU;simp
  have e2:f9 m' ba' []=(0,[]):=by unfold f9 jE kU;simp
  have z1:=H.next (xs:=[]) (λx h=>nomatch h);have z2:=H'.next (xs:=[]) (λx h=>nomatch h);rw[e1] at z1;rw[e2] at z2;exact⟨z1,z2⟩
 obtain⟨U',e,L,V,d5,j,t7,t8,t9,t10,t11,rfl,hv,hne⟩:=CK (N:=158) (test:=ev T.pins (run T W (n+5)) true (.and (.cmp .Lt (.var 6) (.bif .len [(.var 4)])) (.cmp .LtE (.bif .len [(.var 3)]) (.con (.int 150))))) (body:=exs T.pins (run T W (n+5)) W oJ)
  (λj U=>∃L V d5 b5 t7 t8 t9 t10 t11,U=[.sh hA,.sh hB,.sh (pD dQ),.o (.dcs (L.map .inr) (V.map pV)),.o (.lst (L.map pD)),.sh d5,.sh (.int j),t7,t8,t9,t10,t11]/\Fo no ba m ba' m' (7*j) 158 L V/\L≠[]/\j<=L.length/\bL .Is d5 .non=some b5/\bB t7=true/\bB t8=true/\bB t9=true/\bB t10=true/\bB t11=true)
  (λU=>∃(L:List PK) (V:List (List Int)) (d5:D) (j:D) (t7 t8 t9 t10 t11:Sl),U=[.sh hA,.sh hB,.sh (pD dQ),.o (.dcs (L.map .inr) (V.map pV)),.o (.lst (L.map pD)),.sh d5,.sh j,t7,t8,t9,t10,t11]/\mP no ba m ba' m' L/\L≠[])
  (λj U h=>by
   obtain⟨L,V,d5,b5,t7,t8,t9,t10,t11,_,F,_,hj,_⟩:=h
   exact Zr hj F.n)
  (λj U h=>by
   obtain⟨L,V,d5,b5,t7,t8,t9,t10,t11,rfl,F,hne,hj,c5,o7,o8,o9,o10,o11⟩:=h;by_cases g1:j<L.length
   ·have q1:decide ((j:Int)<(L.length:Int))=true:=Zn (by omega);by_cases g2:L.length<=150
    ·have q2:decide ((L.length:Int)<=150)=true:=Zn (by omega)
     right
     have hx:d6 (some (.lst (L.map pD))) (.int j)=some (.sh (pD L[j])):=LU (by rw[show L2.cV (L.map pD) (j:Int)=(L.map pD)[j]? from lM,Zh,Zb g1];rfl);have hkL:L[j]∈L:=List.getElem_mem g1
     generalize L[j]=k at *
     have w1:=DX (W:=W) (n:=n) H (F.v k hkL).1;have w2:=DX (W:=W) (n:=n) H' (F.v k hkL).2;have f1:gG .dict [.lst (jZ m ba ps (aY k.1) kn)]=some (.sh (iZ kn ps m ba k.1)):=BV;have f2:gG .dict [.lst (jZ m' ba' ps' (aY k.2) kn)]=some (.sh (iZ kn ps' m' ba' k.2)):=BV;obtain⟨L',V',d5',t10',t11',e,F',hle,⟨b5',c5'⟩,o1,o2⟩:=NI (W:=W) (n:=n+5) (h1:=.sh hA) (h2:=.sh hB) (s0:=.sh (pD dQ)) (at':=.int j) (N:=150) H H' hkL ⟨F.v,F.e,F.b,g2⟩ (by omega) (by omega) c5 o10 o11;refine⟨[.sh hA,.sh hB,.sh (pD dQ),.o (.dcs (L'.map .inr) (V'.map pV)),.o (.lst (L'.map pD)),.sh d5',.sh (.int ((j:Int)+1)),.sh (pD k),.sh (iZ kn ps m ba k.1),.sh (iZ kn ps' m' ba' k.2),t10',t11'], ?_, ?_,L',V',d5',b5',_,_,_,t10',t11',rfl,⟨F'.v,F'.e,λx hx=>by have:=F'.b x hx;omega,by have:=F'.n;omega⟩,λz=>by rw[z] at hle;exact hne (List.eq_nil_of_length_eq_zero (by simpa using hle)),by omega,c5',rfl,rfl,rfl,o1,o2⟩
     ·clear w1 w2 f1 f2 e hx hi i0 H H' F F' hj c5 c5' o1 o2 hkL o7 o8 o9 o10 o11
      walk_at "!cM c8 %"
     ·unfold oJ;clear H H' F F' hj c5 c5' o1 o2 hkL o10 o11 q1 q2 g1 g2 hle hne hk k7 hW
      walk_at "!cM c8 %"
    ·have q2:decide ((L.length:Int)<=150)=false:=Zm (by omega)
     left
     refine⟨?_,L,V,d5,_,t7,t8,t9,t10,t11,rfl,F.v,hne⟩
     walk_at "!cM c8 %"
   ·have q1:decide ((j:Int)<(L.length:Int))=false:=Zm (by omega)
    left
    refine⟨?_,L,V,d5,_,t7,t8,t9,t10,t11,rfl,F.v,hne⟩
    walk_at "!cM c8 %")
  W 0 [.sh hA,.sh hB,.sh (pD dQ),.o (.dcs ([dQ].map .inr) ([[]].map pV)),.o (.lst ([dQ].map pD)),.sh .non,.sh (.int ((0:Nat):Int)),.un,.un,.un,.un,.un]
   ⟨[dQ],[[]],.non,true,_,_,_,_,_,rfl,⟨hv0,rfl,λx hx=>by rw[ze.mp hx];exact Nat.zero_le _,by decide⟩,by simp,Nat.zero_le _,rfl,rfl,rfl,rfl,rfl,rfl⟩ (by omega)
 refine⟨L,V.map pV,d5, ?_,hv,hne⟩;have e0:pD dQ=.tup [.tup [.int 0,.tup []],.tup [.int 0,.tup []]]:=rfl;have hsk:dD (.tup [.tup [.int 0,.tup []],.tup [.int 0,.tup []]])=some (.inr dQ):=rfl;have e1:([dQ].map pD)=[.tup [.tup [.int 0,.tup []],.tup [.int 0,.tup []]]]:=rfl;have e2:([dQ].map .inr:List L2.bO)=[.inr dQ]:=rfl;have e3:([[]].map pV)=[.lst []]:=rfl;have e4:((0:Nat):Int)=0:=rfl;rw[e0,e1,e2,e3,e4] at e
 walk_at "!cM c8 %"
end
def kK(h:ex P C W st U=some (.nx,U1)):exs P C W (st::r) U=exs P C W r U1:=by rw[fE,h,mJ]
def WT{c:Nat}:kY (some (.lst ds)) none (some (.int c))=some (.ow (.lst (ds.take c))):=by
 show some (RV.ow (.lst (iC ds none (some (c:Int)))))=_;unfold iC;rw[HT.jF,HT.l4,List.drop_zero,Nat.sub_zero];by_cases h:c<=ds.length
 ·rw[Nat.min_eq_left h]
 ·rw[Nat.min_eq_right (by omega),zf (Zq _),zf (by omega)]
def aFe{c:Nat}:kY (some (.lst ds)) (some (.int c)) none=some (.ow (.lst (ds.drop c))):=by
 show some (RV.ow (.lst (iC ds (some (c:Int)) none)))=_;unfold iC;rw[HT.jF,HT.l4];by_cases h:c<=ds.length
 ·rw[Nat.min_eq_left h,zf (by rw[List.length_drop];omega)]
 ·rw[Nat.min_eq_right (by omega),Nat.sub_self,List.take_zero,List.drop_of_length_le (by omega)]
section
variable{no ba ba':Int}{kn m m':Nat}{ps ps':List RP}{hA hB:D}
def AX{X Y:List PK}(h:X.length+Y.length<=100):bX .Add (.lst (X.map pD)) (.lst (Y.map pD))=some (.ow (.lst ((X++Y).map pD))):=by
 rw[oZ (cZ (by rw[List.length_map,List.length_map];omega)),zd]
theorem fC{P:aW}{C:Calls}{W:Nat}{U:Env}{a:E}:ex P C W (.ret (.rev a)) U=(ev P C false (.rev a) U).flow lB:=rfl
def aGf{L:List PK}{k s:Int}(H:HD hA no ba m kn ps)(H':HD hB no ba' m' kn ps')(h:mP no ba m ba' m' L)(h0:L≠[])(hl:L.length<=40) :
  ∃(L':List PK) (s':Int),run T W (n+3) "L_bent" [.p (.lst [.int k,.int s]),.sh hA,.sh hB,.sh (.lst (L.map pD))]=some (.ok (.ow (.lst (L'.map pD))),[.p (.lst [.int k,.int s']),.sh hA,.sh hB,.sh (.lst (L.map pD))])/\mP no ba m ba' m' L'/\L'.length<=41:=by
 rw[a8 VU rfl rfl];unfold o4;have g1:(0:Int)<8:=by decide
 have g2:(8:Int)<nofun:=by decide
 have g0:0<L.length:=List.length_pos_iff.mpr h0;have g3:0<(L.length:Int):=by omega
 have g4:(L.length:Int)<nofun:=by omega
 have v2:=bH (k:=k) (s:=aH k s 8) g3;have v3:=bJ (k:=k) (s:=aH k s 8) g3;obtain⟨a,ha⟩:∃a:Nat,aS k (aH k s 8) (L.length:Int)=(a:Int):=⟨(aS k (aH k s 8) (L.length:Int)).toNat,by omega⟩
 have hal:a<L.length:=by omega
 obtain⟨s3,x,ex,vx⟩:=SM (W:=W) (n:=n) (k:=k) (s:=aH k (aH k s 8) (L.length:Int)) H;obtain⟨s4,y,ey,vy⟩:=SM (W:=W) (n:=n) (k:=k) (s:=s3) H';obtain⟨s5,z,ez,vz⟩:=SM (W:=W) (n:=n) (k:=k) (s:=aH k (aH k s 8) (L.length:Int)) H';have hx:d6 (some (.lst (L.map pD))) (.int a)=some (.sh (pD L[a])):=LU (by rw[show L2.cV (L.map pD) (a:Int)=(L.map pD)[a]? from lM,Zh,Zb hal];rfl);have hkL:=h L[a] (List.getElem_mem hal);have s1:kY (some (.lst (L.map pD))) none (some (.int a))=some (.ow (.lst ((L.take a).map pD))):=by rw[WT,List.map_take]
 have s2:kY (some (.lst (L.map pD))) (some (.int ((a:Int)+1))) none=some (.ow (.lst ((L.drop (a+1)).map pD))):=by(rw[List.map_drop];exact aFe (c:=a+1))
 have l1:(L.take a).length<=40:=by rw[List.length_take];omega
 have l2:(L.take a).length+(L.drop (a+1)).length<=40:=by rw[List.length_take,List.length_drop];omega
 have vt:mP no ba m ba' m' (L.take a):=λq hq=>h q (List.mem_of_mem_take hq)
 have vd:mP no ba m ba' m' (L.drop (a+1)):=λq hq=>h q (List.mem_of_mem_drop hq)
 have vap:∀{X Y:List PK},mP no ba m ba' m' X->mP no ba m ba' m' Y->mP no ba m ba' m' (X++Y):=λhX hY q hq=>(zo.mp hq).elim (hX q) (hY q)
 have v1:∀{q:PK},VK no ba m q.1->VK no ba' m' q.2->mP no ba m ba' m' [q]:=λh1 h2 q hq=>by rw[ze.mp hq];exact⟨h1,h2⟩
 generalize L[a]=p at *
 generalize L.take a=X at *
 generalize L.drop (a+1)=Y at *
 obtain⟨w,hw⟩:∃w,aS k s 8=w:=⟨_,rfl⟩
 have c1:=AX (X:=X) (Y:=Y) (by omega);have c2:bX .Add (.lst (L.map pD)) (.lst [pD p])=some (.ow (.lst ((L++[p]).map pD))):=AX (Y:=[p]) (by rw[Zg];omega);have c3:bX .Add (.lst (L.map pD)) (.lst [.tup [b9 x,b9 y]])=some (.ow (.lst ((L++[(x,y)]).map pD))):=AX (Y:=[(x,y)]) (by rw[Zg];omega);have c4:bX .Add (.lst (X.map pD)) (.lst [.tup [b9 x,b9 p.2]])=some (.ow (.lst ((X++[(x,p.2)]).map pD))):=AX (Y:=[(x,p.2)]) (by rw[Zg];omega);have c5:bX .Add (.lst (X.map pD)) (.lst [.tup [b9 p.1,b9 z]])=some (.ow (.lst ((X++[(p.1,z)]).map pD))):=AX (Y:=[(p.1,z)]) (by rw[Zg];omega);have c6:∀q:PK,bX .Add (.lst ((X++[q]).map pD)) (.lst (Y.map pD))=some (.ow (.lst ((X++[q]++Y).map pD))):=λq=>AX (by rw[Za,Zg];omega)
 have c7:(L.map pD).reverse=L.reverse.map pD:=List.map_reverse.symm;obtain⟨r,hr⟩:∃r,aH k (aH k s 8) (L.length:Int)=r:=⟨_,rfl⟩
 rw[hr] at ex ez;rw[kK (U1:=[.p (.lst [.int k,.int (aH k s 8)]),.sh hA,.sh hB,.sh (.lst (L.map pD)),.sh (.int w),.un])]
 rotate_left
 ·clear H H' h h0 hl g0 v2 v3 hal ex ey ez vx vy vz hkL l1 l2 vt vd vap v1 c1 c2 c3 c4 c5 c6 c7 hx s1 s2 ha hr g3 g4
  walk_at "!fC aI cM c8 %"
 rw[kK (U1:=[.p (.lst [.int k,.int r]),.sh hA,.sh hB,.sh (.lst (L.map pD)),.sh (.int w),.sh (.int a)])]
 rotate_left
 ·clear H H' h h0 hl g0 v2 v3 hal ex ey ez vx vy vz hkL l1 l2 vt vd vap v1 c1 c2 c3 c4 c5 c6 c7 hx s1 s2 g1 g2 hw
  walk_at "!fC aI cM c8 %"
 clear g0 g1 g2 g3 g4 v2 v3 ha hr hw hal
 have fin:∀{l:List S} {U:Env} {L':List PK} {s':Int} {t4 t5:Sl},exs T.pins (run T W (n+2)) W l U=some (.rt (.ow (.lst (L'.map pD))),[.p (.lst [.int k,.int s']),.sh hA,.sh hB,.sh (.lst (L.map pD)),t4,t5])->mP no ba m ba' m' L'->L'.length<=41 ->
   ∃(L':List PK) (s':Int),GW [.p (.lst [.int k,.int s]),.sh hA,.sh hB,.sh (.lst (L.map pD))] (exs T.pins (run T W (n+2)) W l U)=some (.ok (.ow (.lst (L'.map pD))),[.p (.lst [.int k,.int s']),.sh hA,.sh hB,.sh (.lst (L.map pD))])/\mP no ba m ba' m' L'/\L'.length<=41:=λe a b=>by
  rw[e,wF];exact⟨_,_,rfl,a,b⟩
 by_cases e0:w=0
 ·refine fin (L':=X++Y) (s':=r) (t4:=.sh (.int w)) (t5:=.sh (.int a)) ?_ (vap vt vd) (by rw[Za];omega);have d:=Zn e0;clear H H' h h0 hl vx vy vz hkL l1 l2 vt vd vap v1 fin e0 ex ey ez hx c2 c3 c4 c5 c6 c7
  walk_at "!fC aI cM c8 %"
 rw[kK (U1:=[.p (.lst [.int k,.int r]),.sh hA,.sh hB,.sh (.lst (L.map pD)),.sh (.int w),.sh (.int a)])]
 rotate_left
 ·have d:=Zm e0;clear H H' h h0 hl vx vy vz hkL l1 l2 vt vd vap v1 fin e0 ex ey ez hx s1 s2 c1 c2 c3 c4 c5 c6 c7
  walk_at "!fC aI cM c8 %"
 clear e0;by_cases e0:w=1
 ·refine fin (L':=L++[p]) (s':=r) (t4:=.sh (.int w)) (t5:=.sh (.int a)) ?_ (vap h (v1 hkL.1 hkL.2)) (by rw[Za,Zg];omega);have d:=Zn e0;clear H H' h h0 hl vx vy vz hkL l1 l2 vt vd vap v1 fin e0 ex ey ez s1 s2 c1 c3 c4 c5 c6 c7
  walk_at "!fC aI cM c8 %"
 rw[kK (U1:=[.p (.lst [.int k,.int r]),.sh hA,.sh hB,.sh (.lst (L.map pD)),.sh (.int w),.sh (.int a)])]
 rotate_left
 ·have d:=Zm e0;clear H H' h h0 hl vx vy vz hkL l1 l2 vt vd vap v1 fin e0 ex ey ez hx s1 s2 c1 c2 c3 c4 c5 c6 c7
  walk_at "!fC aI cM c8 %"
 clear e0;by_cases e0:w=2
 ·refine fin (L':=L++[(x,y)]) (s':=s4) (t4:=.sh (.int w)) (t5:=.sh (.int a)) ?_ (vap h (v1 vx vy)) (by rw[Za,Zg];omega);have d:=Zn e0;clear H H' h h0 hl vx vy vz hkL l1 l2 vt vd vap v1 fin e0 ez hx s1 s2 c1 c2 c4 c5 c6 c7
  walk_at "!fC aI cM c8 %"
 rw[kK (U1:=[.p (.lst [.int k,.int r]),.sh hA,.sh hB,.sh (.lst (L.map pD)),.sh (.int w),.sh (.int a)])]
 rotate_left
 ·have d:=Zm e0;clear H H' h h0 hl vx vy vz hkL l1 l2 vt vd vap v1 fin e0 ex ey ez hx s1 s2 c1 c2 c3 c4 c5 c6 c7
  walk_at "!fC aI cM c8 %"
 clear e0;by_cases e0:w=3
 ·refine fin (L':=X++[(x,p.2)]++Y) (s':=s3) (t4:=.sh (.int w)) (t5:=.sh (.int a)) ?_ (vap (vap vt (v1 vx hkL.2)) vd) (by rw[Za,Za,Zg];omega);have d:=Zn e0;clear H H' h h0 hl vx vy vz hkL l1 l2 vt vd vap v1 fin e0 ey ez c1 c2 c3 c5 c7
  walk_at "!fC aI cM c8 %"
 rw[kK (U1:=[.p (.lst [.int k,.int r]),.sh hA,.sh hB,.sh (.lst (L.map pD)),.sh (.int w),.sh (.int a)])]
 rotate_left
 ·have d:=Zm e0;clear H H' h h0 hl vx vy vz hkL l1 l2 vt vd vap v1 fin e0 ex ey ez hx s1 s2 c1 c2 c3 c4 c5 c6 c7
  walk_at "!fC aI cM c8 %"
 clear e0;by_cases e0:w=4
 ·refine fin (L':=X++[(p.1,z)]++Y) (s':=s5) (t4:=.sh (.int w)) (t5:=.sh (.int a)) ?_ (vap (vap vt (v1 hkL.1 vz)) vd) (by rw[Za,Za,Zg];omega);have d:=Zn e0;clear H H' h h0 hl vx vy vz hkL l1 l2 vt vd vap v1 fin e0 ex ey c1 c2 c3 c4 c7
  walk_at "!fC aI cM c8 %"
 rw[kK (U1:=[.p (.lst [.int k,.int r]),.sh hA,.sh hB,.sh (.lst (L.map pD)),.sh (.int w),.sh (.int a)])]
 rotate_left
 ·have d:=Zm e0;clear H H' h h0 hl vx vy vz hkL l1 l2 vt vd vap v1 fin e0 ex ey ez hx s1 s2 c1 c2 c3 c4 c5 c6 c7
  walk_at "!fC aI cM c8 %"
 clear e0;by_cases e0:w=5
 ·refine fin (L':=L.reverse) (s':=r) (t4:=.sh (.int w)) (t5:=.sh (.int a)) ?_ (λq hq=>h q (List.mem_reverse.mp hq)) (by rw[List.length_reverse];omega);have d:=Zn e0;clear H H' h h0 hl vx vy vz hkL l1 l2 vt vd vap v1 fin e0 ex ey ez hx s1 s2 c1 c2 c3 c4 c5 c6
  walk_at "!fC aI cM c8 %"
 rw[kK (U1:=[.p (.lst [.int k,.int r]),.sh hA,.sh hB,.sh (.lst (L.map pD)),.sh (.int w),.sh (.int a)])]
 rotate_left
 ·have d:=Zm e0;clear H H' h h0 hl vx vy vz hkL l1 l2 vt vd vap v1 fin e0 ex ey ez hx s1 s2 c1 c2 c3 c4 c5 c6 c7
  walk_at "!fC aI cM c8 %"
 clear e0;refine fin (L':=L) (s':=r) (t4:=.sh (.int w)) (t5:=.sh (.int a)) ?_ h (by omega);clear H H' h h0 hl vx vy vz hkL l1 l2 vt vd vap v1 fin ex ey ez hx s1 s2 c1 c2 c3 c4 c5 c6 c7
 walk_at "!fC aI cM c8 %"
end
section
variable{no ba oc:Int}{fs:List (Int×Int×Bool)}{rs:List D}
def ZK(h:HR no ba oc fs rs):∃(s' ba' oc':Int) (fs':List (Int×Int×Bool)) (rs':List D),run T W (n+4) "L_beside" [.p (.lst [.int k,.int s]),.sh (aA no ba oc fs rs)]=some (.ok (.sh (aA no ba' oc' fs' rs')),[.p (.lst [.int k,.int s']),.sh (aA no ba oc fs rs)])/\HR no ba' oc' fs' rs':=by
 rw[a8 K1 rfl rfl];unfold l5;have w7:(0:Int)<7:=by decide
 have w7':(7:Int)<nofun:=by decide
 rw[kK (U1:=[.p (.lst [.int k,.int (aH k s 7)]),.sh (aA no ba oc fs rs),.sh (.int (aS k s 7)),.un,.un,.un])]
 rotate_left
 ·clear h;walk_at "!aI %"
 generalize aS k s 7=w;generalize aH k s 7=s1;rw[kK (U1:=[.p (.lst [.int k,.int s1]),.sh (aA no ba oc fs rs),.sh (.int w),.sh (.tup rs),.un,.un])]
 rotate_left
 ·clear h;walk_at "!aI %"
 clear w7 w7'
 have fin:∀{l:List S} {U:Env} {s' ba' oc':Int} {fs':List (Int×Int×Bool)} {rs':List D} {t2 t3 t4 t5:Sl},exs T.pins (run T W (n+3)) W l U=some (.rt (.sh (aA no ba' oc' fs' rs')),[.p (.lst [.int k,.int s']),.sh (aA no ba oc fs rs),t2,t3,t4,t5])->HR no ba' oc' fs' rs' ->
   ∃(s' ba' oc':Int) (fs':List (Int×Int×Bool)) (rs':List D),GW [.p (.lst [.int k,.int s]),.sh (aA no ba oc fs rs)] (exs T.pins (run T W (n+3)) W l U)=some (.ok (.sh (aA no ba' oc' fs' rs')),[.p (.lst [.int k,.int s']),.sh (aA no ba oc fs rs)])/\HR no ba' oc' fs' rs':=λe hr=>by
  rw[e,wF];exact⟨_,_,_,_,_,rfl,hr⟩
 have n1:=h.ho.n1;have n2:=h.ho.n2;have l8:=h.hl;have s4:kY (some (aA no ba oc fs rs)) none (some (.int 4))=some (.sh (.tup [.int no,.int ba,.int oc,.tup (fs.map cI)])):=MU (c:=4) (by simp);have cc:∀X:List D,bX .Add (.tup [.int no,.int ba,.int oc,.tup (fs.map cI)]) (.tup [.tup X])=some (.sh (aA no ba oc fs X)):=λX=>oQ (cZ (by simp))
 by_cases e0:w=0
 ·refine fin (s':=s1) (ba':=ba) (oc':=oc) (fs':=fs) (rs':=rs.reverse) (t2:=.sh (.int w)) (t3:=.sh (.tup rs)) (t4:=.un) (t5:=.un) ?_ (h.rules (by rw[List.length_reverse];exact l8) λd hd=>.inl (List.mem_reverse.mp hd));have q:=Zn e0
  walk_at "!aI %"
 rw[kK (U1:=[.p (.lst [.int k,.int s1]),.sh (aA no ba oc fs rs),.sh (.int w),.sh (.tup rs),.un,.un])]
 rotate_left
 ·have q:=Zm e0
  walk_at "!aI %"
 have z4:(rs.length:Int)<nofun:=by omega
 obtain⟨a,ha,hal⟩:∃a:Nat,(0<(rs.length:Int)->aS k s1 (rs.length:Int)=(a:Int))/\(0<(rs.length:Int)->a<rs.length):=⟨(aS k s1 (rs.length:Int)).toNat,λz=>by have:=bH (k:=k) (s:=s1) z;omega,λz=>by have:=bH (k:=k) (s:=s1) z;have:=bJ (k:=k) (s:=s1) z;omega⟩
 have st:0<(rs.length:Int)->kY (some (.tup rs)) none (some (.int a))=some (.sh (.tup (rs.take a)))/\kY (some (.tup rs)) (some (.int ((a:Int)+1))) none=some (.sh (.tup (rs.drop (a+1)))):=λz=>⟨MU (hal z),DV (c:=a+1) (by omega) (by omega)⟩
 have mt:∀d∈rs.take a,d∈rs:=λd hd=>List.mem_of_mem_take hd
 have md:∀d∈rs.drop (a+1),d∈rs:=λd hd=>List.mem_of_mem_drop hd
 have lt:(rs.take a).length+(rs.drop (a+1)).length<=rs.length/\(0<(rs.length:Int)->(rs.take a).length+(rs.drop (a+1)).length+1<=rs.length):=by(rw[List.length_take,List.length_drop];omega)
 have hx:0<(rs.length:Int)->∃d∈rs,d6 (some (.tup rs)) (.int a)=some (.sh d):=λz=>⟨rs[a]'(hal z),List.getElem_mem _,V9 (by rw[show L2.cV rs (a:Int)=rs[a]? from lM,Zb (hal z)])⟩
 generalize rs.take a=X at *
 generalize rs.drop (a+1)=Y at *
 have o6:∀{A B:List D},A.length+B.length<=100->bX .Add (.tup A) (.tup B)=some (.sh (.tup (A++B))):=λ{A B} z=>by
  cases A with
  |nil=>exact QI
  |cons x A=>exact oQ (cZ (by rw[Zk] at z;omega))
 by_cases e0:w=1/\0<(rs.length:Int)/\(rs.length:Int)<8
 ·obtain⟨e0,p0,p8⟩:=e0;have ha:=ha p0;obtain⟨d,hd,hx⟩:=hx p0;have c1:=o6 (A:=rs) (B:=[d]) (by rw[Zg];omega);refine fin (s':=aH k s1 (rs.length:Int)) (ba':=ba) (oc':=oc) (fs':=fs) (rs':=rs++[d]) (t2:=.sh (.int w)) (t3:=.sh (.tup rs)) (t4:=.un) (t5:=.un) ?_ (h.rules (by rw[Za,Zg];omega) λx hx=>.inl ((zo.mp hx).elim id λz=>by rw[ze.mp z];exact hd));have q:=Zn e0;have q0:=Zn p0;have q2:=Zn p8
  walk_at "!aI %"
 rw[kK (U1:=[.p (.lst [.int k,.int s1]),.sh (aA no ba oc fs rs),.sh (.int w),.sh (.tup rs),.un,.un])]
 rotate_left
 ·clear fin h n1 n2 l8 s4 cc o6 mt md lt hal st ha hx;by_cases e1:w=1
  ·have q:=Zn e1;by_cases e2:0<(rs.length:Int)
   ·have q0:=Zn e2;have q2:=Zm λz=>e0 ⟨e1,e2,z⟩
    walk_at "!aI %"
   ·have q0:=Zm e2
    walk_at "!aI %"
  ·have q:=Zm e1
   walk_at "!aI %"
 by_cases e0:w=2/\0<(rs.length:Int)
 ·obtain⟨e0,p0⟩:=e0;have ha:=ha p0;obtain⟨st,sd⟩:=st p0;have c1:=o6 (A:=X) (B:=Y) (by omega);refine fin (s':=aH k s1 (rs.length:Int)) (ba':=ba) (oc':=oc) (fs':=fs) (rs':=X++Y) (t2:=.sh (.int w)) (t3:=.sh (.tup rs)) (t4:=.sh (.int a)) (t5:=.un) ?_ (h.rules (by rw[Za];omega) λx hx=>.inl ((zo.mp hx).elim (mt x) (md x)));have q:=Zn e0;have q0:=Zn p0
  walk_at "!aI %"
 rw[kK (U1:=[.p (.lst [.int k,.int s1]),.sh (aA no ba oc fs rs),.sh (.int w),.sh (.tup rs),.un,.un])]
 rotate_left
 ·clear fin h n1 n2 l8 s4 cc o6 mt md lt hal st ha hx;by_cases e1:w=2
  ·have q:=Zn e1;have q0:=Zm λz=>e0 ⟨e1,z⟩
   walk_at "!aI %"
  ·have q:=Zm e1
   walk_at "!aI %"
 by_cases e0:w=3/\0<(rs.length:Int)
 ·obtain⟨e0,p0⟩:=e0;have ha:=ha p0;obtain⟨st,sd⟩:=st p0;obtain⟨s2,d,er,hr⟩:=CF (W:=W) (n:=n+1) (k:=k) (s0:=aH k s1 (rs.length:Int)) n1 n2 h.ho.b1 h.ho.b2 h.ho.o1 h.ho.o2 (ma:=(fs.length:Int)) (by have:=h.ho.l1;omega) (by have:=h.ho.l2;omega);have c1:=o6 (A:=X) (B:=[d]) (by rw[Zg];omega);have c2:=o6 (A:=X++[d]) (B:=Y) (by rw[Za,Zg];omega);refine fin (s':=s2) (ba':=ba) (oc':=oc) (fs':=fs) (rs':=X++[d]++Y) (t2:=.sh (.int w)) (t3:=.sh (.tup rs)) (t4:=.sh (.int a)) (t5:=.sh d) ?_ (h.rules (by rw[Za,Za,Zg];have:=lt.2 p0;omega) λx hx=>(zo.mp hx).elim (λhx=>(zo.mp hx).elim (λz=>.inl (mt x z)) λz=>.inr (by rw[ze.mp z];exact hr)) λz=>.inl (md x z));have q:=Zn e0;have q0:=Zn p0
  walk_at "!aI %"
 rw[kK (U1:=[.p (.lst [.int k,.int s1]),.sh (aA no ba oc fs rs),.sh (.int w),.sh (.tup rs),.un,.un])]
 rotate_left
 ·clear fin h n1 n2 l8 s4 cc o6 mt md lt hal st ha hx;by_cases e1:w=3
  ·have q:=Zn e1;have q0:=Zm λz=>e0 ⟨e1,z⟩
   clear e0
   walk_at "!aI %"
  ·have q:=Zm e1;clear e0
   walk_at "!aI %"
 clear e0;clear o6 mt md lt hal st ha hx s4 cc;by_cases e0:w=4
 ·obtain⟨s2,no2,ba2,oc2,fs2,rs2,eh,ho,hr8,hR⟩:=y6 (W:=W) (n:=n) (k:=k) (s:=s1);have sl:kY (some (.tup [.int no2,.int ba2,.int oc2,.tup (fs2.map cI),.tup rs2])) (some (.int 1)) none=some (.sh (.tup [.int ba2,.int oc2,.tup (fs2.map cI),.tup rs2])):=DV (c:=1) (by decide) (by simp);have c1:bX .Add (.tup [.int no]) (.tup [.int ba2,.int oc2,.tup (fs2.map cI),.tup rs2])=some (.sh (aA no ba2 oc2 fs2 rs2)):=oQ (cZ (by simp));refine fin (s':=s2) (ba':=ba2) (oc':=oc2) (fs':=fs2) (rs':=rs2) (t2:=.sh (.int w)) (t3:=.sh (.tup rs)) (t4:=.un) (t5:=.un) ?_ (h.notes ⟨ho,hr8,hR⟩);have q:=Zn e0
  walk_at "!aI %"
 rw[kK (U1:=[.p (.lst [.int k,.int s1]),.sh (aA no ba oc fs rs),.sh (.int w),.sh (.tup rs),.un,.un])]
 rotate_left
 ·have q:=Zm e0
  walk_at "!aI %"
 by_cases e0:w=5
 ·obtain⟨fs2,ev1,hr⟩:=ME (W:=W) (n:=n+2) h;refine fin (s':=s1) (ba':=ba) (oc':=oc) (fs':=fs2) (rs':=rs) (t2:=.sh (.int w)) (t3:=.sh (.tup rs)) (t4:=.un) (t5:=.un) ?_ hr;have q:=Zn e0
  walk_at "!aI %"
 refine fin (s':=s1) (ba':=ba) (oc':=oc) (fs':=fs) (rs':=rs) (t2:=.sh (.int w)) (t3:=.sh (.tup rs)) (t4:=.un) (t5:=.un) ?_ h;have q:=Zm e0
 walk_at "!aI %"
end
def aDt{L:List PK}:bL .NotEq (.lst (L.map pD)) (.lst (L.map pD))=some false:=by
 have ho:bF 20 (.lst (L.map pD))=true:=by(show(L.map pD).all (bF 19)=true;rw[List.all_map];exact List.all_eq_true.mpr λx _=>FD)
 have he:∀L:List PK,iD (L.map pD) (L.map pD)=true:=λL=>by
  induction L with
  |nil=>rfl
  |cons k L ih =>
   rw[Zs];show(dH (pD k) (pD k)&&iD (L.map pD) (L.map pD))=true;rw[ih,MT,Zn rfl];rfl
 rw[UW ho ho];show some (!iD (L.map pD) (L.map pD))=_;rw[he];rfl
def law_spec(W:Nat)(ns:List Int)(hn:ns.length<=63):∃as',run T (W+200) 30 "law" [.sh (.lst (ns.map .int))]=some (.ok (.sh (.bl true)),as'):=by
 generalize hW:W+200=V;have hW:200<=V:=by omega
 rw[a8 XM rfl rfl];unfold uV;have hp0:=yB (W:=V) (n:=28) (k:=0) hn (by omega);have hp1:=yB (W:=V) (n:=28) (k:=1) hn (by omega);rw[show((0:Nat):Int)=0 from rfl] at hp0;rw[show((1:Nat):Int)=1 from rfl] at hp1;obtain⟨s1,no,ba,oc,fs,rs,eh,ho,hr8,hR⟩:=y6 (W:=V) (n:=26) (k:=(gA ns 0).1) (s:=(gA ns 0).2);change run T V (26+3) "L_house" _=some (.ok (.sh (aA no ba oc fs rs)),_) at eh;obtain⟨s2,ba',oc',fs',rs',eb,hR'⟩:=ZK (W:=V) (n:=25) (k:=(gA ns 1).1) (s:=(gA ns 1).2) (HR.mk ho hr8 hR);obtain⟨m,ps,H⟩:=HR.hk ⟨ho,hr8,hR⟩;obtain⟨m',ps',H'⟩:=hR'.hk;obtain⟨L0,vs,d,ep,hv0,hne0⟩:=aEk (W:=V) (n:=23) hW H H'
 have e40:kY (some (.lst ((L0.map .inr:List L2.bO).map m9))) none (some (.int 40))=some (.ow (.lst ((L0.take 40).map pD))):=by(rw[List.map_map,List.map_take];exact WT (c:=40))
 have i0:d6 (some (.tup [.dcs (L0.map .inr) vs,d])) (.int 0)=some (.sh (.dcs (L0.map .inr) vs)):=rfl;have hv:mP no ba m ba' m' (L0.take 40):=λq hq=>hv0 q (List.mem_of_mem_take hq)
 have hl:(L0.take 40).length<=40:=by rw[List.length_take];omega
 have hne:L0.take 40≠[]:=λz=>by
  have:=congrArg List.length z
  rw[List.length_take,List.length_nil] at this
  have:=List.length_pos_iff.mpr hne0
  omega
 have es:=uI (W:=V) (n:=20) (L:=[]) H H' (λk hk=>nomatch hk) (Nat.zero_le _);change run T V (20+9) "shows_alike" [_,_,.p (.lst [])]=some (.ok (.sh (.bl false)),[_,_,.p (.lst [])]) at es
 generalize L0.take 40=L at *
 obtain⟨U',e,t4,t5,t6,t7,t8,rfl,_⟩:=QP (bind:=aU true [5]) (body:=exs T.pins (run T V 29) V yA)
  (λU=>∃t4 t5 t6 t7 t8,U=[.sh (.lst (ns.map .int)),.sh (aA no ba oc fs rs),.o (.lst [.int (gA ns 1).1,.int s2]),.sh (aA no ba' oc' fs' rs'),t4,t5,t6,t7,t8]/\(t4=.o (.lst (L.map pD))\/t4=.sh (.lst (L.map pD)))/\bB t5=true/\bB t6=true/\bB t7=true/\bB t8=true)
  (ds:=rg 3) (λd hd U hU=>by
   obtain⟨t4,t5,t6,t7,t8,rfl,h4,h5,h6,h7,h8⟩:=hU;obtain⟨k,hk,rfl⟩:=zl.mp hd;have hk:k<3:=List.mem_range.mp hk;refine⟨_,by simp only[eM,aZ h5]<;>rfl, ?_⟩;have hp:=yB (W:=V) (n:=28) (k:=2+k) hn (by omega);rw[show((2+k:Nat):Int)=2+(k:Int) by omega] at hp;obtain⟨L',s',ebt,hv',hl'⟩:=aGf (W:=V) (n:=26) (k:=(gA ns (2+k)).1) (s:=(gA ns (2+k)).2) H H' hv hne hl;have ea:=uI (W:=V) (n:=20) (L:=L') H H' hv' (by omega);have ed:=aIc (W:=V) (n:=22) (L:=L') H H' hv';have en:=aDt (L:=L')
   generalize v9 no.toNat ps ps' m ba m' ba' L'=b at *
   generalize L'.map pD=l' at *
   generalize L.map pD=l at *
   refine⟨[.sh (.lst (ns.map .int)),.sh (aA no ba oc fs rs),.o (.lst [.int (gA ns 1).1,.int s2]),.sh (aA no ba' oc' fs' rs'),.sh (.lst l),.sh (.int k),.o (.lst l'),.sh (.lst l'),.sh (.bl b)], ?_,_,_,_,_,_,rfl,.inr rfl,rfl,rfl,rfl,rfl⟩;unfold yA
   rcases h4 with rfl | rfl<;>walk_at "!JU Bool.not_true Bool.not_false")
  (U:=[.sh (.lst (ns.map .int)),.sh (aA no ba oc fs rs),.o (.lst [.int (gA ns 1).1,.int s2]),.sh (aA no ba' oc' fs' rs'),.o (.lst (L.map pD)),.un,.un,.un,.un]) ⟨_,_,_,_,_,rfl,.inl rfl,rfl,rfl,rfl,rfl⟩
 have hi:aD .rng [.val (.sh (.int 3))] [.sh (.lst (ns.map .int)),.sh (aA no ba oc fs rs),.o (.lst [.int (gA ns 1).1,.int s2]),.sh (aA no ba' oc' fs' rs'),.o (.lst (L.map pD)),.un,.un,.un,.un]=some (rg 3,none):=nG (n:=3) rfl (by decide) (by decide);refine⟨[.sh (.lst (ns.map .int))], ?_⟩
 walk_at "!JU Bool.not_true Bool.not_false"
end Mx
namespace PySem.W.Fast
def tw10019279101005782008:=True
def tw10044034085355879545:=True
def tw10126683404523928693:=True
def tw10195559464607609406:=True
def tw10232977811020124760:=True
def tw10240761659378322742:=True
def tw10320409273676605165:=True
def tw10376610978887669472:=True
def tw10382394490941486176:=True
def tw10386503672505708454:=True
def tw10414541591856887463:=True
def tw1046027505722541348:=True
def tw10549017775671508286:=True
def tw10678061409028152473:=True
def tw10682497447608020118:=True
def tw10716764192994522686:=True
def tw10800222279358999852:=True
def tw10828265771628369944:=True
def tw10878923872262602133:=True
def tw10884384987495270994:=True
def tw10936055986610373313:=True
def tw10940136714225830662:=True
def tw1094950936067602374:=True
def tw1098955179519592646:=True
def tw11024770543990609933:=True
def tw11038069455546113559:=True
def tw11066110438515035793:=True
def tw11080499168581467448:=True
def tw11088963646309937465:=True
def tw11092355936845082765:=True
def tw11274428796045057168:=True
def tw11292967535735394203:=True
def tw11325971199838010126:=True
def tw11359835056691454565:=True
def tw11377555400269575955:=True
def tw11393935376030827303:=True
def tw11417122304192830300:=True
def tw11429671091947569830:=True
def tw11531427882393502424:=True
def tw11537467696243142180:=True
def tw11636933820388597294:=True
def tw11707179120483937665:=True
def tw11881030989960923722:=True
def tw11902367939822215609:=True
def tw11919324436468701759:=True
def tw11943051226012356043:=True
def tw11998523959096479973:=True
def tw12003209544693583307:=True
def tw12086320960676448166:=True
def tw12095292819055190713:=True
def tw12129417364940509894:=True
def tw12298595395300481938:=True
def tw12357032826415246046:=True
def tw12404638793991857450:=True
def tw12541014592919456545:=True
def tw12627056496086494215:=True
def tw12627858079788725431:=True
def tw12731743706863570882:=True
def tw1283735224579248053:=True
def tw12962479875193631782:=True
def tw12984542193581302721:=True
def tw12989976546768628999:=True
def tw13154899847415741597:=True
def tw13225556565268105110:=True
def tw13227041643135210478:=True
def tw1331272010317729779:=True
def tw13414848290285224536:=True
def tw13419501653205140010:=True
def tw13424108902145803772:=True
def tw1361556984074192235:=True
def tw13620484277471456594:=True
def tw1362141175673259460:=True
def tw13641151031486878939:=True
def tw13648835847467668747:=True
def tw13655996497159750571:=True
def tw13742871022747736710:=True
def tw13748656045038647790:=True
def tw13802162947292347135:=True
def tw13846770381444261065:=True
def tw13856802846185463498:=True
def tw13871244876567669298:=True
def tw13890598961441300677:=True
def tw1403904514763884845:=True
def tw14054727819281968169:=True
def tw1407209084102037946:=True
def tw14126302599247320394:=True
def tw14162840747981059861:=True
def tw14204751545339068739:=True
def tw14207911127273579174:=True
def tw14318722708433304579:=True
def tw14399255470385377708:=True
def tw14504061238387530332:=True
def tw14509267311766615442:=True
def tw14550798528088185099:=True
def tw14577230259266987254:=True
def tw14600650862261421545:=True
def tw14615248053991355518:=True
def tw14691203947792836082:=True
def tw14703725376072030894:=True
def tw14704914721552862480:=True
def tw14712601840556279049:=True
def tw14733347942027234545:=True
def tw14733970345037625104:=True
def tw14763148555699888060:=True
def tw1479289112429009211:=True
def tw14812318486259837458:=True
def tw14878334590777380083:=True
def tw14956515747124735790:=True
def tw14994891351818027253:=True
def tw15070472732462731619:=True
def tw15213532711853073875:=True
def tw15320959220370170919:=True
def tw15371567298905888908:=True
def tw15428627846570742850:=True
def tw15430183696109554555:=True
def tw15481989023863459513:=True
def tw15486801610660120680:=True
def tw1553955387395981127:=True
def tw15556862082189101839:=True
def tw15610258654532162866:=True
def tw15636116896947340306:=True
def tw15690774699275250752:=True
def tw15745055555569421428:=True
def tw15757132364047168731:=True
def tw15772733288256401872:=True
def tw15828627948244248104:=True
def tw15847609624709844464:=True
def tw15891317103454292554:=True
def tw15951151951891426370:=True
def tw15963949723862795337:=True
def tw15979398430998348755:=True
def tw15995666773714549191:=True
def tw16014238527549731687:=True
def tw16038778856664636756:=True
def tw16086659591959305565:=True
def tw16123536881904248379:=True
def tw16177283170965574069:=True
def tw16238000639151278406:=True
def tw16244202388235467584:=True
def tw1625006609872293190:=True
def tw16281153211281110973:=True
def tw16335528523579044936:=True
def tw16343071600603925580:=True
def tw16356507841245882880:=True
def tw16444686657064251186:=True
def tw16558712328555789612:=True
def tw16560325136824107766:=True
def tw16648160474704036244:=True
def tw16650461920946756211:=True
def tw16669152217518365701:=True
def tw16742414544289294914:=True
def tw16787922304244815440:=True
def tw16798139576928952983:=True
def tw16805077971956689939:=True
def tw16818607069339379819:=True
def tw1682062027858631114:=True
def tw16947718441366364406:=True
def tw17029247940041789933:=True
def tw17064573357574019895:=True
def tw1708386253199440271:=True
def tw17178642386675774009:=True
def tw17206537146887995810:=True
def tw17266256630443623855:=True
def tw17330843993072588912:=True
def tw17349202518277677687:=True
def tw17367455012515923405:=True
def tw17391693619119252109:=True
def tw17422012990358522463:=True
def tw17434893770924546334:=True
def tw17435130411750348375:=True
def tw17494490979551149488:=True
def tw17511852442197724062:=True
def tw17543235975723120147:=True
def tw17603482377860395026:=True
def tw17618252764908610695:=True
def tw17662227302005209028:=True
def tw17714637347677504125:=True
def tw17722313524489466217:=True
def tw17732940924391259331:=True
def tw17751069083664766452:=True
def tw17772158507413955963:=True
def tw17811474809536712727:=True
def tw17862550336909576760:=True
def tw17870674119493091654:=True
def tw17884960657624701628:=True
def tw17885087490375206500:=True
def tw17901613713286110379:=True
def tw17920158522834699459:=True
def tw17923621090824801313:=True
def tw17959882258724555763:=True
def tw18146336876013317955:=True
def tw18201218284617123936:=True
def tw186174615871867781:=True
def tw1942478791824410388:=True
def tw1959990503742702468:=True
def tw1994537427657516123:=True
def tw2005744508827823685:=True
def tw2007632842072828796:=True
def tw2059610304092007577:=True
def tw2072734307733966779:=True
def tw210325742456148003:=True
def tw2155309573082456956:=True
def tw2159076373566125512:=True
def tw2186221565265636438:=True
def tw2252418801634696408:=True
def tw2335928782413857776:=True
def tw2383399071729484142:=True
def tw2413683617598403809:=True
def tw2421095407796046852:=True
def tw2481471686132416072:=True
def tw2520777548076262376:=True
def tw2568161535667106161:=True
def tw2579940400336412440:=True
def tw2604862681197055969:=True
def tw2685579375358876402:=True
def tw2690980993001296990:=True
def tw2719050719572970986:=True
def tw2760830400866947575:=True
def tw2764166655096591190:=True
def tw2776365873748092180:=True
def tw2792437932266301911:=True
def tw2808037108171133544:=True
def tw2808358982441407486:=True
def tw2823868634220801633:=True
def tw2825662894487005668:=True
def tw2851585512654722992:=True
def tw289711830163540592:=True
def tw2920461424845262289:=True
def tw2941550704399974438:=True
def tw29496046213166337:=True
def tw2984409450514848877:=True
def tw2987227758052536251:=True
def tw2995156959863060349:=True
def tw3031190552174697588:=True
def tw3130894231924164806:=True
def tw3134928692237386500:=True
def tw3316570296743245476:=True
def tw3413620035704539859:=True
def tw3712227678765908679:=True
def tw3741579619065390228:=True
def tw3918762684065246898:=True
def tw4016007474373176106:=True
def tw4055665658239939471:=True
def tw4076153003014108068:=True
def tw4116827033124319673:=True
def tw4214646411854050374:=True
def tw4218971286826785271:=True
def tw4223967440681884350:=True
def tw4344074496086982265:=True
def tw4358420568634333454:=True
def tw4529550829773756819:=True
def tw4555072964368408822:=True
def tw4583166033264598687:=True
def tw4842280894239382293:=True
def tw4901347861322506711:=True
def tw4942628340608698791:=True
def tw4954890715452642465:=True
def tw5004260438714907096:=True
def tw5028997139965208099:=True
def tw5108763595918298297:=True
def tw5119551892668522296:=True
def tw5152599176875805070:=True
def tw5179846409409040543:=True
def tw519091014606008321:=True
def tw5228389813675823933:=True
def tw532884499783682482:=True
def tw5448054308122798570:=True
def tw5495381823034904745:=True
def tw5505841748591725737:=True
def tw5623574321538843112:=True
def tw5676265173946613151:=True
def tw5792406920257278577:=True
def tw5849884953523607641:=True
def tw5944552189420309231:=True
def tw5966707508735467501:=True
def tw6030269673904735853:=True
def tw6303497209932716283:=True
def tw6337352751366813093:=True
def tw635420454238005514:=True
def tw6397174274916070699:=True
def tw6709350116361578291:=True
def tw6721267713091741505:=True
def tw6928475493462041818:=True
def tw6929350073880677287:=True
def tw6962966407196728654:=True
def tw7018620174832844353:=True
def tw7066768541527506457:=True
def tw7105349840513433628:=True
def tw7116939336357888577:=True
def tw7128497870022028038:=True
def tw7219824013504787881:=True
def tw7320039505372874842:=True
def tw7391533584324238232:=True
def tw7427441560299579467:=True
def tw750133439780917546:=True
def tw7507033390272259066:=True
def tw75314199440271723:=True
def tw7771548187500787405:=True
def tw777504271237839759:=True
def tw78473767855510913:=True
def tw7889950579224155050:=True
def tw7956208036790847847:=True
def tw802571911257065380:=True
def tw8057357118581361193:=True
def tw8093912067961071038:=True
def tw8143406505964412981:=True
def tw8225869553703470232:=True
def tw8260054542375030189:=True
def tw8265947264372870189:=True
def tw8332129449336747947:=True
def tw8473368875378969584:=True
def tw8483450264677052686:=True
def tw8508665959457347863:=True
def tw8704034025321113713:=True
def tw872791240025682523:=True
def tw8732899467386220802:=True
def tw8773580099029974045:=True
def tw8808138611929323344:=True
def tw8819658548487569158:=True
def tw8827777031593136133:=True
def tw8866386347340365403:=True
def tw8903389007324003443:=True
def tw8959524239042196590:=True
def tw896251988567496735:=True
def tw9077254284633030523:=True
def tw9085614154319423925:=True
def tw9141169201685623476:=True
def tw923489884922326543:=True
def tw9236895454284593131:=True
def tw9345049621163919273:=True
def tw9365259116260176666:=True
def tw9413259469934547421:=True
def tw9474724366168748872:=True
def tw9496363740406444093:=True
def tw9515973435199965562:=True
def tw9524151493977106287:=True
def tw9609874668800484859:=True
def tw9702145460076741231:=True
def tw9707418422573266689:=True
def tw9713886874650058876:=True
def tw9822014250887448920:=True
def tw9843914869737932424:=True
def tw9990728216976628067:=True
end PySem.W.Fast
open PySem PySem.W PyProof.Rows
set_option maxRecDepth 100000 in
set_option maxHeartbeats 0 in
theorem PySem.Challenge.cw_canonwright_k49_pairs_that_show_holds : PySem.Challenge.rw_canonwright_k49_pairs_that_show.Holds := by
 w_on;o_law;k_head;(case hw=>w_witness2)
 k_fill
 refine CI.R4 (l:=PySem.Challenge.rw_canonwright_k49_pairs_that_show) (T:=Tx.T) (L:=Tx.L) (st:=Tx.top 75) (fn:=Tx.uV) (W:=1000000) (n:=30) (x:="law") (p:="_law_script") (f:="law") rfl rfl ⟨rfl,by decide,by decide,rfl⟩ rfl Tx.XM Tx.QE (by decide +kernel) (λw h Y=>PySem.W.kIn_of Y) ?factF ?mathM
 case mathM=>exact Mx.law_spec _
 case factF =>
  intro w mg h KX G;have K_Span:CI.ClsAt (L2.cP KX) "Span":=by refine' CI.n6 ?a ?pg ?hd ?po ?sa ?mk ?kp;(case a | pg | hd | po | sa | mk | kp=>dsimp only[L2.cP];k_is)
  have K_Leap:CI.ClsAt (L2.cP KX) "Leap":=by refine' CI.n6 ?a ?pg ?hd ?po ?sa ?mk ?kp;(case a | pg | hd | po | sa | mk | kp=>dsimp only[L2.cP];k_is)
  have K_Back:CI.ClsAt (L2.cP KX) "Back":=by refine' CI.n6 ?a ?pg ?hd ?po ?sa ?mk ?kp;(case a | pg | hd | po | sa | mk | kp=>dsimp only[L2.cP];k_is)
  have K_Again:CI.ClsAt (L2.cP KX) "Again":=by refine' CI.n6 ?a ?pg ?hd ?po ?sa ?mk ?kp;(case a | pg | hd | po | sa | mk | kp=>dsimp only[L2.cP];k_is)
  have K_Range:CI.ClsAt (L2.cP KX) "Range":=by refine' CI.n6 ?a ?pg ?hd ?po ?sa ?mk ?kp;(case a | pg | hd | po | sa | mk | kp=>dsimp only[L2.cP];k_is)
  have K_Above:CI.ClsAt (L2.cP KX) "Above":=by refine' CI.n6 ?a ?pg ?hd ?po ?sa ?mk ?kp;(case a | pg | hd | po | sa | mk | kp=>dsimp only[L2.cP];k_is)
  have K_Never:CI.ClsAt (L2.cP KX) "Never":=by refine' CI.n6 ?a ?pg ?hd ?po ?sa ?mk ?kp;(case a | pg | hd | po | sa | mk | kp=>dsimp only[L2.cP];k_is)
  have D_law:CI.DefAt (L2.cP KX) "law" (Tx.top 75):=by refine' CI.a9 ?a ?l ?c ?k;(case a | l | c | k=>dsimp only[L2.cP];k_is)
  have C_LEADER:CI.rO (L2.cP KX) mg Tx.T (CI.bE Tx.L) ("LEADER",.con (.tup [(.int 0),(.int 0),(.bl false)])):=by
   refine' CI.IZ KX G ?a ?l ?c ?z
   (case a | l=>dsimp only[L2.cP];k_is)
   (case c=>first | rfl | decide +kernel)
   (case z=>rfl)
  have C_BY_THE_LINE:CI.rO (L2.cP KX) mg Tx.T (CI.bE Tx.L) ("BY_THE_LINE",.con (.tup [])):=by
   refine' CI.IZ KX G ?a ?l ?c ?z
   (case a | l=>dsimp only[L2.cP];k_is)
   (case c=>first | rfl | decide +kernel)
   (case z=>rfl)
  have C_START:CI.rO (L2.cP KX) mg Tx.T (CI.bE Tx.L) ("START",.con (.tup [(.tup [(.int 0),(.tup [])]),(.tup [(.int 0),(.tup [])])])):=by
   refine' CI.aAJ KX G ?a ?xq
   (case a=>dsimp only[L2.cP];k_is)
   case xq =>
    refine' CI.uP ?xl1 ?xc1 ?xz1
    (case xl1=>dsimp only[L2.cP];k_is)
    (case xz1=>rfl)
    case xc1 =>
     refine' CI.nY ?xe1_0 (CI.nY ?xe1_1 CI.uE)
     case xe1_0 =>
      refine' CI.uP ?xl2 ?xc2 ?xz2
      (case xl2=>dsimp only[L2.cP];k_is)
      (case xz2=>rfl)
      case xc2 =>
       refine' CI.nY (CI.aDO (by decide +kernel)) (CI.nY ?xe2_1 CI.uE)
       case xe2_1 =>
        refine' CI.uP ?xl3 ?xc3 ?xz3
        (case xl3=>dsimp only[L2.cP];k_is)
        (case xz3=>rfl)
        (case xc3=>exact CI.uE)
     case xe1_1 =>
      refine' CI.uP ?xl4 ?xc4 ?xz4
      (case xl4=>dsimp only[L2.cP];k_is)
      (case xz4=>rfl)
      case xc4 =>
       refine' CI.nY (CI.aDO (by decide +kernel)) (CI.nY ?xe4_1 CI.uE)
       case xe4_1 =>
        refine' CI.uP ?xl5 ?xc5 ?xz5
        (case xl5=>dsimp only[L2.cP];k_is)
        (case xz5=>rfl)
        (case xc5=>exact CI.uE)
  refine⟨D_law, ?_⟩;unfold Tx.L
  iterate 8 refine CI.fc (by refine' CI.JP KX G ?a;(case a=>k_is)) ?_
  refine CI.fc (C_LEADER) ?_;refine CI.fc (C_BY_THE_LINE) ?_
  iterate 3 refine CI.fc (by refine' CI.JP KX G ?a;(case a=>k_is)) ?_
  refine CI.fc (C_START) ?_;refine CI.fc (CI.aN KX G (by refine' CI.a9 ?a ?l ?c ?k;(case a | l | c | k=>k_is)) Tx.IK rfl) ?_;refine CI.fc (CI.aN KX G (by refine' CI.a9 ?a ?l ?c ?k;(case a | l | c | k=>k_is)) Tx.GO rfl) ?_;refine CI.fc (CI.aN KX G (by refine' CI.a9 ?a ?l ?c ?k;(case a | l | c | k=>k_is)) Tx.R5 rfl) ?_;refine CI.fc (CI.aN KX G (by refine' CI.a9 ?a ?l ?c ?k;(case a | l | c | k=>k_is)) Tx.QK rfl) ?_;refine CI.fc (CI.aN KX G (by refine' CI.a9 ?a ?l ?c ?k;(case a | l | c | k=>k_is)) Tx.ZO rfl) ?_;refine CI.fc (CI.aN KX G (by refine' CI.a9 ?a ?l ?c ?k;(case a | l | c | k=>k_is)) Tx.aAC rfl) ?_;refine CI.fc (CI.aN KX G (by refine' CI.a9 ?a ?l ?c ?k;(case a | l | c | k=>k_is)) Tx.VL rfl) ?_;refine CI.fc (CI.aN KX G (by refine' CI.a9 ?a ?l ?c ?k;(case a | l | c | k=>k_is)) Tx.wG rfl) ?_;refine CI.fc (CI.aN KX G (by refine' CI.a9 ?a ?l ?c ?k;(case a | l | c | k=>k_is)) Tx.L9 rfl) ?_;refine CI.fc (CI.aN KX G (by refine' CI.a9 ?a ?l ?c ?k;(case a | l | c | k=>k_is)) Tx.KY rfl) ?_;refine CI.fc (CI.aN KX G (by refine' CI.a9 ?a ?l ?c ?k;(case a | l | c | k=>k_is)) Tx.HW rfl) ?_;refine CI.fc (CI.aN KX G (by refine' CI.a9 ?a ?l ?c ?k;(case a | l | c | k=>k_is)) Tx.EH rfl) ?_;refine CI.fc (CI.aN KX G (by refine' CI.a9 ?a ?l ?c ?k;(case a | l | c | k=>k_is)) Tx.N5 rfl) ?_;refine CI.fc (CI.aN KX G (by refine' CI.a9 ?a ?l ?c ?k;(case a | l | c | k=>k_is)) Tx.MP rfl) ?_;refine CI.fc (CI.aN KX G (by refine' CI.a9 ?a ?l ?c ?k;(case a | l | c | k=>k_is)) Tx.HQ rfl) ?_;refine CI.fc (CI.aN KX G (by refine' CI.a9 ?a ?l ?c ?k;(case a | l | c | k=>k_is)) Tx.MF rfl) ?_;refine CI.fc (CI.aN KX G (by refine' CI.a9 ?a ?l ?c ?k;(case a | l | c | k=>k_is)) Tx.IS rfl) ?_;refine CI.fc (CI.aN KX G (by refine' CI.a9 ?a ?l ?c ?k;(case a | l | c | k=>k_is)) Tx.MZ rfl) ?_;refine CI.fc (CI.aN KX G (by refine' CI.a9 ?a ?l ?c ?k;(case a | l | c | k=>k_is)) Tx.T5 rfl) ?_;refine CI.fc (CI.aN KX G (by refine' CI.a9 ?a ?l ?c ?k;(case a | l | c | k=>k_is)) Tx.O6 rfl) ?_;refine CI.fc (CI.aN KX G (by refine' CI.a9 ?a ?l ?c ?k;(case a | l | c | k=>k_is)) Tx.AL rfl) ?_;refine CI.fc (CI.aN KX G (by refine' CI.a9 ?a ?l ?c ?k;(case a | l | c | k=>k_is)) Tx.AW rfl) ?_;refine CI.fc (CI.aN KX G (by refine' CI.a9 ?a ?l ?c ?k;(case a | l | c | k=>k_is)) Tx.K0 rfl) ?_;refine CI.fc (CI.aN KX G (by refine' CI.a9 ?a ?l ?c ?k;(case a | l | c | k=>k_is)) Tx.DC rfl) ?_;refine CI.fc (CI.aN KX G (by refine' CI.a9 ?a ?l ?c ?k;(case a | l | c | k=>k_is)) Tx.A9 rfl) ?_;refine CI.fc (CI.aN KX G (by refine' CI.a9 ?a ?l ?c ?k;(case a | l | c | k=>k_is)) Tx.U5 rfl) ?_;refine CI.fc (CI.aN KX G (by refine' CI.a9 ?a ?l ?c ?k;(case a | l | c | k=>k_is)) Tx.NT rfl) ?_;refine CI.fc (CI.aN KX G (by refine' CI.a9 ?a ?l ?c ?k;(case a | l | c | k=>k_is)) Tx.QQ rfl) ?_;refine CI.fc (CI.aN KX G (by refine' CI.a9 ?a ?l ?c ?k;(case a | l | c | k=>k_is)) Tx.L4 rfl) ?_;refine CI.fc (CI.aN KX G (by refine' CI.a9 ?a ?l ?c ?k;(case a | l | c | k=>k_is)) Tx.L6 rfl) ?_;refine CI.fc (CI.aN KX G (by refine' CI.a9 ?a ?l ?c ?k;(case a | l | c | k=>k_is)) Tx.HE rfl) ?_;refine CI.fc (CI.aN KX G (by refine' CI.a9 ?a ?l ?c ?k;(case a | l | c | k=>k_is)) Tx.CW rfl) ?_;refine CI.fc (CI.aN KX G (by refine' CI.a9 ?a ?l ?c ?k;(case a | l | c | k=>k_is)) Tx.DA rfl) ?_;refine CI.fc (CI.aN KX G (by refine' CI.a9 ?a ?l ?c ?k;(case a | l | c | k=>k_is)) Tx.IL rfl) ?_;refine CI.fc (CI.aN KX G (by refine' CI.a9 ?a ?l ?c ?k;(case a | l | c | k=>k_is)) Tx.IF rfl) ?_;refine CI.fc (CI.aN KX G (by refine' CI.a9 ?a ?l ?c ?k;(case a | l | c | k=>k_is)) Tx.M0 rfl) ?_;refine CI.fc (CI.aN KX G (by refine' CI.a9 ?a ?l ?c ?k;(case a | l | c | k=>k_is)) Tx.FF rfl) ?_;refine CI.fc (CI.aN KX G (by refine' CI.a9 ?a ?l ?c ?k;(case a | l | c | k=>k_is)) Tx.NU rfl) ?_;refine CI.fc (CI.aN KX G (by refine' CI.a9 ?a ?l ?c ?k;(case a | l | c | k=>k_is)) Tx.P7 rfl) ?_;refine CI.fc (CI.aN KX G (by refine' CI.a9 ?a ?l ?c ?k;(case a | l | c | k=>k_is)) Tx.x9 rfl) ?_;refine CI.fc (CI.aN KX G (by refine' CI.a9 ?a ?l ?c ?k;(case a | l | c | k=>k_is)) Tx.IV rfl) ?_;refine CI.fc (CI.aN KX G (by refine' CI.a9 ?a ?l ?c ?k;(case a | l | c | k=>k_is)) Tx.KU rfl) ?_;refine CI.fc (CI.aN KX G (by refine' CI.a9 ?a ?l ?c ?k;(case a | l | c | k=>k_is)) Tx.AN rfl) ?_;refine CI.fc (CI.aN KX G (by refine' CI.a9 ?a ?l ?c ?k;(case a | l | c | k=>k_is)) Tx.QT rfl) ?_;refine CI.fc (CI.aN KX G (by refine' CI.a9 ?a ?l ?c ?k;(case a | l | c | k=>k_is)) Tx.U7 rfl) ?_;refine CI.fc (CI.aN KX G D_law Tx.QE rfl) ?_;refine CI.fc (CI.oP KX G K_Span (by refine' CI.eS ?a ?b ?i ?l ?c ?k;(case a | b | i | l | c | k=>(try dsimp only[L2.cP]);k_is)) Tx.VM (by(repeat refine CI.fc (by refine' CI.rZ ?a ?b;(case a | b=>(try dsimp only[L2.cP]);k_is)) ?_);exact λ_ h=>nomatch h)) ?_;refine CI.fc (CI.oP KX G K_Leap (by refine' CI.eS ?a ?b ?i ?l ?c ?k;(case a | b | i | l | c | k=>(try dsimp only[L2.cP]);k_is)) Tx.R7 (by(repeat refine CI.fc (by refine' CI.rZ ?a ?b;(case a | b=>(try dsimp only[L2.cP]);k_is)) ?_);exact λ_ h=>nomatch h)) ?_;refine CI.fc (CI.oP KX G K_Back (by refine' CI.eS ?a ?b ?i ?l ?c ?k;(case a | b | i | l | c | k=>(try dsimp only[L2.cP]);k_is)) Tx.SN (by(repeat refine CI.fc (by refine' CI.rZ ?a ?b;(case a | b=>(try dsimp only[L2.cP]);k_is)) ?_);exact λ_ h=>nomatch h)) ?_;refine CI.fc (CI.oP KX G K_Again (by refine' CI.eS ?a ?b ?i ?l ?c ?k;(case a | b | i | l | c | k=>(try dsimp only[L2.cP]);k_is)) Tx.OM (by(repeat refine CI.fc (by refine' CI.rZ ?a ?b;(case a | b=>(try dsimp only[L2.cP]);k_is)) ?_);exact λ_ h=>nomatch h)) ?_;refine CI.fc (CI.oP KX G K_Range (by refine' CI.eS ?a ?b ?i ?l ?c ?k;(case a | b | i | l | c | k=>(try dsimp only[L2.cP]);k_is)) Tx.PX (by(repeat refine CI.fc (by refine' CI.rZ ?a ?b;(case a | b=>(try dsimp only[L2.cP]);k_is)) ?_);exact λ_ h=>nomatch h)) ?_;refine CI.fc (CI.oP KX G K_Above (by refine' CI.eS ?a ?b ?i ?l ?c ?k;(case a | b | i | l | c | k=>(try dsimp only[L2.cP]);k_is)) Tx.QU (by(repeat refine CI.fc (by refine' CI.rZ ?a ?b;(case a | b=>(try dsimp only[L2.cP]);k_is)) ?_);exact λ_ h=>nomatch h)) ?_;refine CI.fc (CI.oP KX G K_Never (by refine' CI.eS ?a ?b ?i ?l ?c ?k;(case a | b | i | l | c | k=>(try dsimp only[L2.cP]);k_is)) Tx.OK (by(repeat refine CI.fc (by refine' CI.rZ ?a ?b;(case a | b=>(try dsimp only[L2.cP]);k_is)) ?_);exact λ_ h=>nomatch h)) ?_;refine List.forall_mem_cons.mpr ⟨⟨"broken",rfl,by unfold Tx.eJ;exact CI.fc (CI.lJ K_Span (by refine' CI.eS ?a ?b ?i ?l ?c ?k;(case a | b | i | l | c | k=>(try dsimp only[L2.cP]);k_is)) Tx.AM rfl) (CI.fc (CI.lJ K_Leap (by refine' CI.eS ?a ?b ?i ?l ?c ?k;(case a | b | i | l | c | k=>(try dsimp only[L2.cP]);k_is)) Tx.AA rfl) (CI.fc (CI.lJ K_Back (by refine' CI.eS ?a ?b ?i ?l ?c ?k;(case a | b | i | l | c | k=>(try dsimp only[L2.cP]);k_is)) Tx.A5 rfl) (CI.fc (CI.lJ K_Again (by refine' CI.eS ?a ?b ?i ?l ?c ?k;(case a | b | i | l | c | k=>(try dsimp only[L2.cP]);k_is)) Tx.zB rfl) (CI.fc (CI.lJ K_Range (by refine' CI.eS ?a ?b ?i ?l ?c ?k;(case a | b | i | l | c | k=>(try dsimp only[L2.cP]);k_is)) Tx.zI rfl) (CI.fc (CI.lJ K_Above (by refine' CI.eS ?a ?b ?i ?l ?c ?k;(case a | b | i | l | c | k=>(try dsimp only[L2.cP]);k_is)) Tx.yL rfl) (CI.fc (CI.lJ K_Never (by refine' CI.eS ?a ?b ?i ?l ?c ?k;(case a | b | i | l | c | k=>(try dsimp only[L2.cP]);k_is)) Tx.zN rfl) (λ_ h=>nomatch h)))))))⟩, ?_⟩;refine List.forall_mem_cons.mpr ⟨⟨"forbids",rfl,by unfold Tx.fO;exact CI.fc (CI.lJ K_Span (by refine' CI.eS ?a ?b ?i ?l ?c ?k;(case a | b | i | l | c | k=>(try dsimp only[L2.cP]);k_is)) Tx.yP rfl) (CI.fc (CI.lJ K_Range (by refine' CI.eS ?a ?b ?i ?l ?c ?k;(case a | b | i | l | c | k=>(try dsimp only[L2.cP]);k_is)) Tx.x8 rfl) (λ_ h=>nomatch h))⟩, ?_⟩
  iterate 15 refine CI.fc (by refine' CI.aBr KX G ?a;(case a=>k_is)) ?_
  exact λ_ h=>nomatch h
