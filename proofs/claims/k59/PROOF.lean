import PyProof.Rows.All
import Wide.All
import OpenK.AllK
import Wide.FinOn
import Lean
import PyProof.EqAt
import PyProof.EqKinds
import PyProof.TupleCall
import PyProof.Rows.SortRunsK
import PyProof.Rows.SortShellK
import KE.KDictList
import KE.KDictOf
import PyProof.AttrMissHeap
import OpenK.KOwn
import PyProof.NsDelKeeps
import KE.KIsAll
import PyProof.ExcArgsOwn
import PyProof.ExcAttrAll.ValueError
import PyProof.ExcClass3
import PyProof.ExcInit
import KE.KIntText
import PyProof.NeData
import PySem.Challenge.RW_canonwright_k59_whole_voices_exchanged_o
local macro_rules|`(nofun)=>`(100000000000000000000000000000000000000000000000000000000000000000000000000000000)
set_option Elab.async false
set_option linter.all false
set_option maxRecDepth 100000
theorem ZB:type_of% @Bool.and_eq_true:=@Bool.and_eq_true
theorem Za.{u}:type_of% @List.length_append.{u}:=@List.length_append.{u}
theorem Zb.{u}:type_of% @List.getElem?_eq_getElem.{u}:=@List.getElem?_eq_getElem.{u}
theorem Zc.{u}:type_of% @List.getElem?_eq_some_iff.{u}:=@List.getElem?_eq_some_iff.{u}
theorem Zd:type_of% @PySem.Heap.get?_push_of_some:=@PySem.Heap.get?_push_of_some
theorem Ze.{u}:type_of% @List.mem_cons_of_mem.{u}:=@List.mem_cons_of_mem.{u}
theorem Zf.{u}:type_of% @List.getElem?_set_ne.{u}:=@List.getElem?_set_ne.{u}
theorem Zg.{u}:type_of% @List.length_singleton.{u}:=@List.length_singleton.{u}
theorem Zh.{u,v}:type_of% @List.getElem?_map.{u,v}:=@List.getElem?_map.{u,v}
theorem Zi.{u}:type_of% @List.size_toArray.{u}:=@List.size_toArray.{u}
theorem Zj.{u}:type_of% @List.all_cons.{u}:=@List.all_cons.{u}
theorem Zk.{u}:type_of% @List.length_cons.{u}:=@List.length_cons.{u}
theorem Zl:type_of% @Nat.lt_of_lt_of_le:=@Nat.lt_of_lt_of_le
theorem Zm:type_of% @decide_eq_false:=@decide_eq_false
theorem Zn:type_of% @decide_eq_true:=@decide_eq_true
theorem Zo.{u}:type_of% @if_pos.{u}:=@if_pos.{u}
theorem Zp.{u}:type_of% @if_neg.{u}:=@if_neg.{u}
theorem Zq:type_of% @Nat.le_refl:=@Nat.le_refl
theorem Zr:type_of% @Nat.le_trans:=@Nat.le_trans
theorem Zs.{u,v}:type_of% @List.map_cons.{u,v}:=@List.map_cons.{u,v}
theorem Zt:type_of% @PySem.wpAny_bind:=@PySem.wpAny_bind
theorem Zu:type_of% @PySem.wpAny_pure:=@PySem.wpAny_pure
theorem Zv:type_of% @PySem.Heap.lt_size:=@PySem.Heap.lt_size
theorem Zw:type_of% @PySem.Heap.get?_push_size:=@PySem.Heap.get?_push_size
theorem Zy.{u}:type_of% @eq_of_beq.{u}:=@eq_of_beq.{u}
theorem Zz:type_of% @Nat.ne_of_lt:=@Nat.ne_of_lt
theorem ze.{u}:type_of% @List.mem_singleton.{u}:=@List.mem_singleton.{u}
theorem zf.{u}:type_of% @List.take_of_length_le.{u}:=@List.take_of_length_le.{u}
theorem zg.{u}:type_of% @List.length_set.{u}:=@List.length_set.{u}
theorem zh.{u}:type_of% @List.mem_cons_self.{u}:=@List.mem_cons_self.{u}
theorem zj.{u}:type_of% @List.mem_of_getElem?.{u}:=@List.mem_of_getElem?.{u}
theorem zk.{u}:type_of% @List.getElem?_set_self.{u}:=@List.getElem?_set_self.{u}
theorem zo.{u,v}:type_of% @List.mem_map.{u,v}:=@List.mem_map.{u,v}
theorem zp.{u}:type_of% @List.mem_append.{u}:=@List.mem_append.{u}
theorem zr.{u}:type_of% @List.getElem?_cons_succ.{u}:=@List.getElem?_cons_succ.{u}
theorem zt.{u}:type_of% @List.getElem?_cons_zero.{u}:=@List.getElem?_cons_zero.{u}
open PySem.W (Frag nsIn findIn)
open PySem (Str)
set_option compiler.extract_closed false
set_option genSizeOf false
set_option bootstrap.genMatcherCode false
noncomputable section
namespace L2
open PySem PySem.Spec PyProof.Rows
abbrev cV:=Sum Int Str
noncomputable def qZ:cV->Value->Bool
 |.inl k,v=>Value.isInt k v
 |.inr x,v=>Value.isStrOf x v
noncomputable def aFZ(w:World):cV->Int
 |.inl k=>hashInt k
 |.inr x=>hashStr w x
theorem dG:∀{k:cV} {v:Value},qZ k v=true->(∃i t,k=Sum.inl i/\v=Value.int i t)\/(∃x t,k=Sum.inr x/\v=Value.str x t)
 |.inl i,v,h=>by
  obtain⟨t,e⟩:=Value.isInt_shape (k:=i) h;exact .inl ⟨i,t,rfl,e⟩
 |.inr x,v,h=>by(obtain⟨t,e⟩:=Value.isStrOf_shape h;exact .inr ⟨x,t,rfl,e⟩)
def JQ(i:Int)(t:Tok):qZ (.inl i) (.int i t)=true:=by simp[qZ,Value.isInt]
def KD(x:Str)(t:Tok):qZ (.inr x) (.str x t)=true:=by simp[qZ,Value.isStrOf]
def aC3(a b:Int):decide ((Sum.inl a:cV)=Sum.inl b)=(a==b):=by
 by_cases e:a=b
 ·subst e;simp
 ·have h:¬(Sum.inl a:cV)=Sum.inl b:=λq=>e (Sum.inl.inj q)
  rw[Zm h];exact(beq_eq_false_iff_ne.mpr e).symm
def aAP(a b:Str):decide ((Sum.inr a:cV)=Sum.inr b)=decide (a=b):=by
 by_cases e:a=b
 ·subst e;simp
 ·have h:¬(Sum.inr a:cV)=Sum.inr b:=λq=>e (Sum.inr.inj q)
  rw[Zm h,Zm e]
def aBg(a:Int)(b:Str):decide ((Sum.inl a:cV)=Sum.inr b)=false:=Zm (λq=>nomatch q)
def aAK(a:Str)(b:Int):decide ((Sum.inr a:cV)=Sum.inl b)=false:=Zm (λq=>nomatch q)
noncomputable def f9(prog:Program)(w:World):PySem.KeyKind prog w cV where
 is:=qZ
 hash:=aFZ w
 inj:=λv a b ha hb=>by
  rcases dG ha with ⟨i,t,rfl,rfl⟩ | ⟨x,t,rfl,rfl⟩
  ·rcases dG hb with ⟨j,u,rfl,e⟩ | ⟨y,u,rfl,e⟩
   ·injection e with e1 _;rw[e1]
   ·exact nomatch e
  ·rcases dG hb with ⟨j,u,rfl,e⟩ | ⟨y,u,rfl,e⟩
   ·exact nomatch e
   ·injection e with e1 _;rw[e1]
 byValue:=λk v h=>by
  rcases dG h with ⟨i,t,rfl,rfl⟩ | ⟨x,t,rfl,rfl⟩<;>rfl
 pyHash:=λhv h=>by
  rcases dG hv with ⟨i,t,rfl,rfl⟩ | ⟨x,t,rfl,rfl⟩
  ·exact wpAny_pyHash_int h
  ·exact wpAny_pyHash_str h
 eqBool:=λhu hv h=>by
  rcases dG hu with ⟨i,t,rfl,rfl⟩ | ⟨x,t,rfl,rfl⟩
  ·rcases dG hv with ⟨j,u,rfl,rfl⟩ | ⟨y,u,rfl,rfl⟩
   ·rw[aC3] at h;exact wpAny_eqBool_int h
   ·rw[aBg] at h;exact SeqAt.EqAt.int_str i t y u _ _ _ _ h
  ·rcases dG hv with ⟨j,u,rfl,rfl⟩ | ⟨y,u,rfl,rfl⟩
   ·rw[aAK] at h;exact SeqAt.EqAt.str_int x t j u _ _ _ _ h
   ·rw[aAP] at h;exact wpAny_eqBool_str h
 «strs»:=λk x t v h=>by
  rcases dG h with ⟨i,u,rfl,e⟩ | ⟨y,u,rfl,e⟩
  ·exact nomatch e
  ·injection e with e1 _
   subst e1;cases v<;>rfl
def D9(prog:Program)(w:World)(i:Int)(t:Tok):(f9 prog w).is (.inl i) (.int i t)=true:=JQ i t
def EH(prog:Program)(w:World)(x:Str)(t:Tok):(f9 prog w).is (.inr x) (.str x t)=true:=KD x t
inductive V where
 |non
 |bl (b:Bool)
 |int (i:Int)
 |str (x:Str)
 |ref (a:Addr)
 |ty (n:String)
instance (x:V):Decidable (x=.non):=by cases x<;>first | exact isTrue rfl | exact isFalse (λh=>nomatch h)
def aY:V->Value->Prop
 |.non,u=>u=Value.none
 |.bl b,u=>u=Value.bool b
 |.int i,u=>∃t,u=Value.int i t
 |.str x,u=>∃t,u=Value.str x t
 |.ref a,u=>u=Value.ref a
 |.ty n,u=>u=Value.type n
abbrev aQ:List V->List Value->Prop:=Paired aY
theorem aQ.length(r:aQ xs us):xs.length=us.length:=Paired.length r
theorem aQ.get:∀{xs:List V} {us:List Value} {i:Nat} {x:V},aQ xs us->xs[i]?=some x->∃u,us[i]?=some u/\aY x u
 |_,_,_,_,.nil,e=>by simp at e
 |_,_,0,_,.cons r _,e=>by simp at e;subst e;exact⟨_,rfl,r⟩
 |_,_,i+1,x,.cons _ t,e=>by(obtain⟨u,h1,h2⟩:=aQ.get t (by simpa using e);exact⟨u,by simpa using h1,h2⟩)
theorem aQ.set(r:aY x u):∀{xs:List V} {us:List Value} (i:Nat),aQ xs us->aQ (xs.set i x) (us.set i u)
 |_,_,_,.nil=>.nil
 |_,_,0,.cons _ t=>.cons r t
 |_,_,i+1,.cons q t=>.cons q (aQ.set r i t)
theorem aQ.append:∀{xs ys:List V} {us ws:List Value},aQ xs us->aQ ys ws->aQ (xs++ys) (us++ws)
 |_,_,_,_,.nil,s=>s
 |_,_,_,_,.cons r t,s=>.cons r (aQ.append t s)
theorem aQ.take:∀{xs:List V} {us:List Value} (n:Nat),aQ xs us->aQ (xs.take n) (us.take n)
 |_,_,0,_=>.nil
 |_,_,_+1,.nil=>.nil
 |_,_,n+1,.cons r t=>.cons r (aQ.take n t)
theorem aQ.drop:∀{xs:List V} {us:List Value} (n:Nat),aQ xs us->aQ (xs.drop n) (us.drop n)
 |_,_,0,r=>r
 |_,_,_+1,.nil=>.nil
 |_,_,n+1,.cons _ t=>aQ.drop n t
def jY:Option V->Option Value->Prop
 |some v,some u=>aY v u
 |none,none=>True
 |_,_=>False
def KV:List (O×V)->List (O×Value)->Prop:=Paired λ(p:O×V) (q:O×Value)=>p.1=q.1/\aY p.2 q.2
noncomputable def kV:cV->V
 |.inl i=>.int i
 |.inr x=>.str x
inductive HO where
 |lst (xs:List V)
 |tup (xs:List V)
 |dK (kvs:List (cV×V))
 |set (S:Int->Bool) (n:Nat)
 |ins (C dx:Addr) (fs:List (Str×V))
 |own (x:Addr)
 |met (f x:Addr)
 |rng (lo hi:Int)
 |frz (o:Obj) (u:HO)
 |tbl (ps:Array Value)
 |ext (φ:Heap->Prop)
abbrev Hp:=Addr->Option HO
noncomputable def aO(H:Hp)(a:Addr)(o:HO):Hp:=λb=>if b=a then some o else H b
def a9:aO H a o a=some o:=by unfold aO;rw[Zo rfl]
def aM(h:b≠a):aO H a o b=H b:=by unfold aO;rw[Zp h]
def rY:aO (aO H a o) a u=aO H a u:=by
 funext b;unfold aO;split<;>rfl
def bP{H:Hp}(h:H a=some o)(h':H b=none):a≠b:=by
 intro e;subst e;rw[h] at h';cases h'
section
variable(P:Program)(w:World)
def dU(H:Hp)(h:Heap)(a:Addr):HO->Prop
 |.lst xs=>xs.length<=sizeLine/\∃(its:List Value) (n:Nat),aQ xs its/\h.get? a=some { cls:=.type "list",data:=.seq its.toArray n }
 |.tup xs=>xs.length<=sizeLine/\∃its:List Value,aQ xs its/\IsTup h a its.toArray
 |.dK kvs=>kvs.length<=sizeLine/\(a==sysModules)=false/\∃vs,KV kvs vs/\h.DictOf (f9 P w) a vs
 |.set S n=>h.SetOf (intKind P w) a S n
 |.ins C dx fs=>H dx=some (.own a)/\fs.length<=1000/\dx≠a/\h.get? a=some (PySem.W.instObj C dx) /\
   ∃mA,h.Ns1 dx mA/\(∀f,jY (fs.lookup f) (mA f))/\PySem.Within mA (fs.map (·.1))
 |.own _=>∃o,h.get? a=some o
 |.rng lo hi=>∃t u v,h.get? a=some { cls:=.type "range",data:=.fields #[.int lo t,.int hi u,.int 1 v] }
 |.frz o u=>h.get? a=some o/\dU H h a u
 |.tbl ps=>h.get? a=some { cls:=.none,data:=.fields ps }
 |.met f x=>h.get? a=some (PySem.W.methodObj (.ref f) (.ref x))
 |.ext φ=>φ h/\(∃o,h.get? a=some o)/\∀h1 h2:Heap,φ h1->(∀o,h1.get? a=some o->h2.get? a=some o)->φ h2
def fF(H:Hp)(h:Heap):Prop:=∀a o,H a=some o->dU P w H h a o
end
section
variable{o:HO}
theorem dU.lt(x:dU P w H h a o):a<h.objs.size:=by
 cases o with
 |lst xs=>obtain⟨_,_,_,_,e⟩:=x;exact Zv e
 |tup xs=>obtain⟨_,_,_,p⟩:=x;exact p.lt
 |dK kvs=>obtain⟨_,_,_,_,o,_,_,e,_⟩:=x;exact Zv e
 |set S n=>obtain⟨o,_,_,_,e,_⟩:=x;exact Zv e
 |ins C dx fs=>obtain⟨_,_,_,e,_⟩:=x;exact Zv e
 |own y=>obtain⟨_,e⟩:=x;exact Zv e
 |rng lo hi=>obtain⟨_,_,_,e⟩:=x;exact Zv e
 |frz ob u=>obtain⟨e,_⟩:=x;exact Zv e
 |tbl ps=>exact Zv (show h.get? a=some _ from x)
 |met f y=>exact Zv (show h.get? a=some _ from x)
 |ext φ=>obtain⟨_,⟨_,e⟩,_⟩:=x;exact Zv e
def dU.stay(x:dU P w H h a o)(k:∀b u,(b=a\/H b=some (.own a))->h.get? b=some u->h'.get? b=some u)
  (ho:∀b,H b=some (.own a)->H' b=some (.own a)) (ht:∀b xs,H b=some (.tup xs)->H' b=some (.tup xs)):dU P w H' h' a o:=by
 induction o with
 |lst xs=>obtain⟨z,its,n,r,e⟩:=x;exact⟨z,its,n,r,k _ _ (.inl rfl) e⟩
 |tup xs=>obtain⟨z,its,r,ob,e,c⟩:=x;exact⟨z,its,r,ob,k _ _ (.inl rfl) e,c⟩
 |dK kvs=>obtain⟨z,y,vs,r,ob,es,ep,e,c⟩:=x;exact⟨z,y,vs,r,ob,es,ep,k _ _ (.inl rfl) e,c⟩
 |set S n=>obtain⟨ob,es,ep,t,e,c⟩:=x;exact⟨ob,es,ep,t,k _ _ (.inl rfl) e,c⟩
 |ins C dx fs =>
  obtain⟨d,z,ne,e,mA,⟨od,es,ep,e2,c⟩,r⟩:=x;exact⟨ho _ d,z,ne,k _ _ (.inl rfl) e,mA,⟨od,es,ep,k _ _ (.inr d) e2,c⟩,r⟩
 |own y=>obtain⟨ob,e⟩:=x;exact⟨ob,k _ _ (.inl rfl) e⟩
 |rng lo hi=>obtain⟨t,u,v,e⟩:=x;exact⟨t,u,v,k _ _ (.inl rfl) e⟩
 |frz ob u ih=>obtain⟨e,q⟩:=x;exact⟨k _ _ (.inl rfl) e,ih q⟩
 |tbl ps =>
  have e:h.get? a=some { cls:=.none,data:=.fields ps }:=x;show h'.get? a=some { cls:=.none,data:=.fields ps };exact k a _ (.inl rfl) e
 |met f y =>
  have e:h.get? a=some (PySem.W.methodObj (.ref f) (.ref y)):=x;show h'.get? a=some (PySem.W.methodObj (.ref f) (.ref y));exact k a _ (.inl rfl) e
 |ext φ=>obtain⟨p,⟨o,e⟩,st⟩:=x;exact⟨st _ _ p λo q=>k _ _ (.inl rfl) q,⟨o,k _ _ (.inl rfl) e⟩,st⟩
theorem fF.lt(x:fF P w H h)(e:H a=some o):a<h.objs.size:=(x a o e).lt
def fF.fresh(x:fF P w H h)(e:h.objs.size<=a):H a=none:=by
 cases q:H a with
 |none=>rfl
 |some u=>exact absurd (Zl (x.lt q) e) (Nat.lt_irrefl _)
def fF.kept(x:fF P w H h)(k:∀b u,h.get? b=some u->h'.get? b=some u):fF P w H h':=λa o e =>
 (x a o e).stay (λb u _ q=>k b u q) (λ_ q=>q) λ_ _ q=>q
def fF.laid(x:fF P w H h)(k:∀b u,h.get? b=some u->h'.get? b=some u)(hp:h.objs.size<=a)(new:dU P w (aO H a o) h' a o):fF P w (aO H a o) h':=λb u e=>by
 have hn:=x.fresh hp;by_cases hb:b=a
 ·subst hb;rw[a9] at e;cases e;exact new
 ·rw[aM hb] at e;exact(x b u e).stay (λc v _ q=>k c v q) (λc q=>by rw[aM (bP q hn)];exact q) λc xs q=>by rw[aM (bP q hn)];exact q
end
def Rd(H:Hp)(a:Addr)(u:HO):Prop:=H a=some u\/∃o,H a=some (.frz o u)
def Rd.ok(r:Rd H a u)(x:fF P w H h):dU P w H h a u:=by
 rcases r with r | ⟨o,r⟩
 ·exact x a u r
 ·obtain⟨_,q⟩:=x a _ r;exact q
def NF:Option HO->Prop
 |some (.lst _)=>True
 |some (.dK _)=>True
 |some (.set _ _)=>True
 |some (.ins _ _ _)=>True
 |some (.ext _)=>True
 |_=>False
section
variable{P:Program}{w:World}{H:Hp}{h h':Heap}{x e:Addr}{o':HO}
def fF.write(ok:fF P w H h)(mu:NF (H x))(he:e=x\/H e=some (.own x))(k:∀b u,b≠e->h.get? b=some u->h'.get? b=some u)(heo:∃u,h'.get? e=some u)
  (new:dU P w (aO H x o') h' x o'):fF P w (aO H x o') h':=λb u q=>by
 have nown:∀c y,H c=some (.own y)->c≠x:=λc y r z=>by subst z;rw[r] at mu;exact mu
 have ntup:∀c xs,H c=some (.tup xs)->c≠x:=λc xs r z=>by subst z;rw[r] at mu;exact mu
 by_cases hb:b=x
 ·subst hb;rw[a9] at q;cases q;exact new
 ·rw[aM hb] at q;by_cases hbe:b=e
  ·have q':H b=some (.own x):=by
    rcases he with z | z
    ·exact absurd (hbe.trans z) hb
    ·rw[hbe];exact z
   rw[q] at q';cases q';obtain⟨v,hv⟩:=heo;exact⟨v,by rw[hbe];exact hv⟩
  ·refine(ok b u q).stay (λc v hc r=>k c v ?_ r) (λc r=>by rw[aM (nown c b r)];exact r) λc xs r=>by rw[aM (ntup c xs r)];exact r
   rcases hc with rfl | hc
   ·exact hbe
   ·rintro rfl
    rcases he with z | z
    ·exact nown c b hc z
    ·rw[hc] at z;cases z;exact hb rfl
end
structure Un(fs ex:List Addr)(H H':Hp)(h h':Heap):Prop where
 keep:∀b o,h.get? b=some o->H b=none->b ∉ fs->b ∉ ex->h'.get? b=some o
 slot:∀b o,h.get? b=some o->H b=none->b∈fs->b ∉ ex->∃sl,h'.get? b=some { o with slots:=sl }
 free:∀b o,h.get? b=some o->H b=none->b ∉ ex->H' b=none
 there:∀b o,h.get? b=some o->b ∉ ex->∃o',h'.get? b=some o'
 tups:∀b xs,H b=some (.tup xs)->H' b=some (.tup xs)
 frzs:∀b o u,H b=some (.frz o u)->H' b=some (.frz o u)
 tbls:∀b ps,H b=some (.tbl ps)->∃more,H' b=some (.tbl (ps++more))
section
variable{o:HO}
def Un.any(u:Un fs ex H H1 h h1)(q:h.get? b=some ob)(n:H b=none)(hx:b ∉ ex):∃sl,h1.get? b=some { ob with slots:=sl }:=by
 by_cases hb:b∈fs
 ·exact u.slot b ob q n hb hx
 ·exact⟨ob.slots,u.keep b ob q n hb hx⟩
def Un.trans(a:Un fs ex H H1 h h1)(b:Un fs ex H1 H2 h1 h2):Un fs ex H H2 h h2 where
 keep:=λc ob q n hc hx=>b.keep c ob (a.keep c ob q n hc hx) (a.free c ob q n hx) hc hx
 slot:=λc ob q n hc hx=>by(obtain⟨sl,e1⟩:=a.slot c ob q n hc hx;obtain⟨sl',e2⟩:=b.slot c _ e1 (a.free c ob q n hx) hc hx;exact⟨sl',e2⟩)
 free:=λc ob q n hx=>by(obtain⟨o',e1⟩:=a.there c ob q hx;exact b.free c o' e1 (a.free c ob q n hx) hx)
 there:=λc ob q hx=>by(obtain⟨o',e1⟩:=a.there c ob q hx;exact b.there c o' e1 hx)
 tups:=λc xs q=>b.tups c xs (a.tups c xs q)
 frzs:=λc ob xs q=>b.frzs c ob xs (a.frzs c ob xs q)
 tbls:=λc ps q=>by(obtain⟨m1,e1⟩:=a.tbls c ps q;obtain⟨m2,e2⟩:=b.tbls c _ e1;exact⟨m1++m2,by rw[e2,Array.append_assoc]⟩)
def Un.kept(k:∀b u,h.get? b=some u->h'.get? b=some u):Un fs ex H H h h' :=
 ⟨λb ob q _ _ _=>k b ob q,λb ob q _ _ _=>⟨ob.slots,k b ob q⟩,λ_ _ _ n _=>n,λb ob q _=>⟨ob,k b ob q⟩,λ_ _ q=>q,λ_ _ _ q=>q,λ_ ps q=>⟨#[],by rw[q];simp⟩⟩
def Un.refl:Un fs ex H H h h:=Un.kept λ_ _ q=>q
def Un.laid(k:∀b u,h.get? b=some u->h'.get? b=some u)(hp:h.objs.size<=a)(hn:H a=none):Un fs ex H (aO H a o) h h' where
 keep:=λb u q _ _ _=>k b u q
 slot:=λb u q _ _ _=>⟨u.slots,k b u q⟩
 free:=λb u q n _=>by rw[aM (Zz (Zl (Zv q) hp))];exact n
 there:=λb u q _=>⟨u,k b u q⟩
 tups:=λb xs q=>by rw[aM (bP q hn)];exact q
 frzs:=λb u xs q=>by rw[aM (bP q hn)];exact q
 tbls:=λb ps q=>⟨#[],by rw[aM (bP q hn),q];simp⟩
def Un.write(mu:NF (H x))(he:e=x\/H e=some (.own x))(k:∀b u,b≠e->h.get? b=some u->h'.get? b=some u)(heo:∃u,h'.get? e=some u):Un fs ex H (aO H x o) h h':=by
 have hx:∀b,H b=none->b≠x:=λb n z=>by subst z;rw[n] at mu;exact mu
 have hb:∀b,H b=none->b≠e:=λb n z=>by
  subst z;rcases he with r | r
  ·exact hx b n r
  ·rw[n] at r;cases r
 have hm:∀b u,H b=some u->¬NF (some u)->b≠x:=λb u q nm z=>by subst z;rw[q] at mu;exact nm mu
 refine⟨λb u q n _ _=>k b u (hb b n) q,λb u q n _ _=>⟨u.slots,k b u (hb b n) q⟩,λb u q n _=>by rw[aM (hx b n)];exact n,λb u q _=>?_,
  λb xs q=>by rw[aM (hm b _ q λz=>z)];exact q,λb u xs q=>by rw[aM (hm b _ q λz=>z)];exact q,λb ps q=>⟨#[],by rw[aM (hm b _ q λz=>z),q];simp⟩⟩
 by_cases hbe:b=e
 ·subst hbe;exact heo
 ·exact⟨u,k b u hbe q⟩
end
noncomputable def S3(h:Heap)(H:Hp):List Addr:=(List.range h.objs.size).filter λa=>(H a).isSome
noncomputable def oF(h:Heap)(H:Hp):Heap:=PySem.W.hideAll h (S3 h H)
def KU(h:Heap)(H:Hp):(oF h H).objs.size=h.objs.size:=PySem.W.hideAll_size _ _
def N5(e:h.get? b=some o)(n:H b=none):(oF h H).get? b=some o :=
 PySem.W.hideAll_get _ e λhm=>by(have q:(H b).isSome=true:=(List.mem_filter.mp hm).2;rw[n] at q;simp at q)
def V2(e:(oF h H).get? b=some o):h.get? b=some o/\H b=none:=by
 have e':h.get? b=some o:=PySem.W.of_hideAll (S3 h H) e;refine⟨e', ?_⟩
 cases q:H b with
 |none=>rfl
 |some x =>
  have hm:b∈S3 h H:=List.mem_filter.mpr ⟨List.mem_range.mpr (Zv e'),by simp[q]⟩;have z:(oF h H).get? b=none:=PySem.W.hideAll_none (S3 h H) hm;rw[z] at e;cases e
noncomputable def V6(g h:Heap)(L:Addr):List (Addr×Obj):=(List.range h.objs.size).filterMap λa=>if a=L\/(g.get? a).isSome=true then none else(h.get? a).map λo=>(a,o)
noncomputable def gH(g h:Heap)(L d:Addr):List (Addr×Obj):=(V6 g h L).filter λp=>decide (p.1≠d)
structure Mod(K:Frag)(mg:Str->Option Value)(base:Heap):Prop where
 kin:K.In base
 glob:base.Ns mainGlobals mg
 blt:∃mb,base.Ns builtinsNs mb/\∀x:Str,x≠"__name__"->mb x=bootBuiltins x
 nolimit:base.NoLimit
structure Cx where
 prog:Program
 w:World
 K:Frag
 mg:Str->Option Value
 base:Heap
 A:Around
 N:List Str
 s₀:Shared
 H₀:Hp
 env:Env
 outer:List Env
 stack:List Env
 ex:List Addr
 fn:Str->Bool
 calm:Bool
 pn:List (Addr×Obj)
 xe:Value->Shared->Prop
def pZ(l:List Env):List Addr:=l.filterMap (·.frame)
abbrev Cx.fs(X:Cx):List Addr:=pZ X.outer
def LD(sc:Scope)(x:Str):Prop:=sc.names.lookup x=some .local\/sc.names.lookup x=some .cell\/sc.names.lookup x=some .free
def yS(sc:Scope)(x:Str):Prop:=sc.names.lookup x=some .local\/sc.names.lookup x=some .cell
def aG2(env:Env)(h:Heap)(m:Str->Option Value)(x:Str)(u:Value):Prop :=
 (env.kindOf x=some .local/\m x=some u)\/((env.kindOf x=some .cell\/env.kindOf x=some .free)/\∃c,env.cells.lookup x=some c/\h.IsCell c (some u))
structure Cx.Ok(X:Cx):Prop where
 mod:Mod X.K X.mg X.base
 kind:X.env.scope.kind=.function
 glob:X.env.globals=mainGlobals
 blt:X.env.builtins=builtinsNs
 above:X.s₀.heap.objs.size<=X.env.locals
 inj:∀x y c,X.env.cells.lookup x=some c->X.env.cells.lookup y=some c->x=y
 has:∀x,(X.env.kindOf x=some .cell\/X.env.kindOf x=some .free)->∃c,X.env.cells.lookup x=some c
 cab:∀x c,X.fn x=true->X.env.cells.lookup x=some c->X.s₀.heap.objs.size<=c
 hd:X.calm=true->X.A.handled=none
 frames:X.A.frames=some X.stack
 stk:X.stack=X.outer\/(X.stack=X.env::X.outer/\X.env.frame=some X.env.locals)
 exf:∀b∈X.ex,b≠X.env.locals/\∀x c,X.env.cells.lookup x=some c->c≠b
 bs:∀b o,X.base.get? b=some o->X.s₀.heap.get? b=some o/\X.H₀ b=none
 bsz:X.base.objs.size<=X.s₀.heap.objs.size
 noex:∀b o,X.base.get? b=some o->b ∉ X.ex
 exfs:∀b∈X.ex,b ∉ X.fs
 funs:X.s₀.heap.FunFrames X.base X.outer
 frf:∀b∈X.fs,X.H₀ b=none
structure Inv(X:Cx)(pins:List (Addr×Obj))(Y:List (Option V))(H:Hp)(s:Shared):Prop where
 ok:X.Ok
 os:s.os=X.s₀.os
 bare:AllBare s.gens
 base:Un X.fs X.ex X.H₀ H X.s₀.heap s.heap
 loc:∃m,s.heap.Ns X.env.locals m/\∀(i:Nat) (x:Str) (v:V),X.N[i]?=some x->Y[i]?=some (some v)->LD X.env.scope x->∃u,aY v u/\aG2 X.env s.heap m x u
 cell:∀x c,X.env.cells.lookup x=some c->∃v,s.heap.IsCell c v
 free:H X.env.locals=none
 freeC:∀x c,X.env.cells.lookup x=some c->H c=none
 pin:∀p∈X.pn++pins,s.heap.get? p.1=some p.2/\H p.1=none/\p.1≠X.env.locals/\p.1 ∉ X.fs/\∀v,p.2.data≠.cell v
 hok:fF X.prog X.w H s.heap
 len:Y.length=X.N.length
section
variable{X:Cx}
def Cx.Ok.nofr(ok:X.Ok)(e:X.base.get? b=some o):b ∉ X.fs:=λhb=>by
 have:=(ok.funs.mem hb).1
 rw[e] at this;cases this
theorem Inv.bs(I:Inv X pins Y H s):∀b o,X.base.get? b=some o->s.heap.get? b=some o/\H b=none:=λb o e =>
 ⟨I.base.keep b o (I.ok.bs b o e).1 (I.ok.bs b o e).2 (I.ok.nofr e) (I.ok.noex b o e),I.base.free b o (I.ok.bs b o e).1 (I.ok.bs b o e).2 (I.ok.noex b o e)⟩
def Inv.bk(I:Inv X pins Y H s):∀b o,X.base.get? b=some o->s.heap.get? b=some o:=λb o e=>(I.bs b o e).1
theorem Inv.mod(I:Inv X pins Y H s):Mod X.K X.mg X.base:=I.ok.mod
def Inv.kIn(I:Inv X pins Y H s):X.K.In s.heap:=I.ok.mod.kin.keeps I.bk
theorem Inv.lt(I:Inv X pins Y H s):X.env.locals<s.heap.objs.size:=let ⟨_,hn,_⟩:=I.loc;hn.lt
def Inv.sz(I:Inv X pins Y H s):X.s₀.heap.objs.size<=s.heap.objs.size:=Zr I.ok.above (Nat.le_of_lt I.lt)
def Inv.nofs(I:Inv X pins Y H s)(h:s.heap.objs.size<=a):a ∉ X.fs:=λhb=>by
 obtain⟨_,o,ho,_⟩:=I.ok.funs.mem hb;exact absurd (Zl (Zv ho) (Zr I.sz h)) (Nat.lt_irrefl _)
def Inv.cne(I:Inv X pins Y H s):∀x c,X.env.cells.lookup x=some c->c≠X.env.locals:=λx c e z=>by
 obtain⟨v,o,ho,hd⟩:=I.cell x c e;obtain⟨m,⟨o',es,ep,ho',hd',_⟩,_⟩:=I.loc;rw[z,ho'] at ho;cases ho;rw[hd'] at hd;cases hd
theorem Inv.funs(I:Inv X pins Y H s):s.heap.FunFrames X.base X.outer:=by
 have all:∀(l:List Env),(∀b∈pZ l,b∈X.fs)->X.s₀.heap.FunFrames X.base l->s.heap.FunFrames X.base l:=by
  intro l
  induction l with
  |nil=>intro _ _;trivial
  |cons env r ih =>
   intro hs hl;obtain⟨hk,⟨L,o,hf,hn,ho,hd⟩,hr⟩:=hl;have hL:L∈X.fs:=hs L (by unfold pZ;rw[List.filterMap_cons,hf];exact zh);obtain⟨sl,e⟩:=I.base.slot L o ho (I.ok.frf L hL) hL λz=>I.ok.exfs L z hL
   exact⟨hk,⟨L,_,hf,hn,e,hd⟩,ih (λb hb=>hs b (by unfold pZ;rw[List.filterMap_cons,hf];exact Ze _ hb)) hr⟩
 exact all X.outer (λ_ hb=>hb) I.ok.funs
theorem Inv.stack(I:Inv X pins Y H s):s.heap.FunFrames X.base X.stack:=by
 rcases I.ok.stk with e | ⟨e,hf⟩
 ·rw[e];exact I.funs
 ·rw[e];obtain⟨m,hn,_⟩:=I.loc;refine .cons (by rw[I.ok.kind];decide) hf hn ?_ I.funs;exact Heap.get?_none_of_le (Zr I.ok.bsz I.ok.above)
def Inv.stkSub(I:Inv X pins Y H s):∀b∈pZ X.stack,b∈X.env.locals::X.fs:=λb hb=>by
 rcases I.ok.stk with e | ⟨e,hf⟩
 ·rw[e] at hb;exact Ze _ hb
 ·rw[e] at hb;unfold pZ at hb;rw[List.filterMap_cons,hf] at hb;exact hb
def Inv.stkFree(I:Inv X pins Y H s):∀b∈pZ X.stack,H b=none:=λb hb=>by
 rcases List.mem_cons.mp (I.stkSub b hb) with e | hb
 ·rw[e];exact I.free
 ·obtain⟨_,o,ho,_⟩:=I.ok.funs.mem hb;exact I.base.free b o ho (I.ok.frf b hb) λz=>I.ok.exfs b z hb
def Inv.step{ch:List Addr}(I:Inv X pins Y H s)
  (hch:∀b∈ch,(b∈X.ex\/X.s₀.heap.get? b=none)/\b≠X.env.locals/\(∀x c,X.env.cells.lookup x=some c->c≠b)/\∀p∈X.pn++pins,p.1≠b)
  (keep:∀b o,b≠X.env.locals->b ∉ X.fs->b ∉ ch->s.heap.get? b=some o->H b=none->h'.get? b=some o)
  (slot:∀b o,b≠X.env.locals->b∈X.fs->b ∉ ch->s.heap.get? b=some o->H b=none->∃sl,h'.get? b=some { o with slots:=sl }) (free:∀b o,b ∉ ch->s.heap.get? b=some o->H b=none->H' b=none)
  (there:∀b o,b ∉ ch->s.heap.get? b=some o->∃o',h'.get? b=some o')
  (tups:∀b xs,H b=some (.tup xs)->H' b=some (.tup xs)) (frzs:∀b o u,H b=some (.frz o u)->H' b=some (.frz o u)) (tbls:∀b ps,H b=some (.tbl ps)->∃more,H' b=some (.tbl (ps++more)))
  (ns:∀m,s.heap.Ns X.env.locals m->h'.Ns X.env.locals m) (hok:fF X.prog X.w H' h') (hg:AllBare g') :
  Inv X pins Y H' { s with heap:=h',gens:=g',drawn:=d',toks:=t' }:=by
 have neL:∀b o,X.s₀.heap.get? b=some o->b≠X.env.locals:=λb o e=>Zz (Zl (Zv e) I.ok.above)
 have neC:∀b o,X.s₀.heap.get? b=some o->b ∉ X.ex->b ∉ ch:=λb o e hx hb=>by
  rcases(hch b hb).1 with z | z
  ·exact hx z
  ·rw[z] at e;cases e
 have cellK:∀x c,X.env.cells.lookup x=some c->∀v,s.heap.IsCell c v->h'.IsCell c v:=λx c e v hz=>by
  obtain⟨o,ho,hd⟩:=hz;have nch:c ∉ ch:=λz=>(hch c z).2.2.1 x c e rfl
  by_cases hc:c∈X.fs
  ·obtain⟨sl,q⟩:=slot c o (I.cne x c e) hc nch ho (I.freeC x c e);exact⟨_,q,hd⟩
  ·exact⟨o,keep c o (I.cne x c e) hc nch ho (I.freeC x c e),hd⟩
 refine⟨I.ok,I.os,hg,⟨λb o e n hb hx=>?_,λb o e n hb hx=>?_,λb o e n hx=>?_,λb o e hx=>?_,λb xs e=>tups b xs (I.base.tups b xs e),λb o xs e=>frzs b o xs (I.base.frzs b o xs e),λb ps e=>?_⟩, ?_,λx c e=>?_, ?_,λx c e=>?_,λp hp=>?_,hok,I.len⟩
 ·exact keep b o (neL b o e) hb (neC b o e hx) (I.base.keep b o e n hb hx) (I.base.free b o e n hx)
 ·obtain⟨sl,e1⟩:=I.base.slot b o e n hb hx;obtain⟨sl',e2⟩:=slot b _ (neL b o e) hb (neC b o e hx) e1 (I.base.free b o e n hx);exact⟨sl',e2⟩
 ·obtain⟨o',e1⟩:=I.base.there b o e hx;exact free b o' (neC b o e hx) e1 (I.base.free b o e n hx)
 ·obtain⟨o',e1⟩:=I.base.there b o e hx;exact there b o' (neC b o e hx) e1
 ·obtain⟨m1,e1⟩:=I.base.tbls b ps e;obtain⟨m2,e2⟩:=tbls b _ e1;exact⟨m1++m2,by rw[e2,Array.append_assoc]⟩
 ·obtain⟨m,hn,hl⟩:=I.loc;refine⟨m,ns m hn,λi x v e1 e2 e3=>?_⟩;obtain⟨u,r,l⟩:=hl i x v e1 e2 e3;refine⟨u,r, ?_⟩;rcases l with l | ⟨k,c,e,z⟩
  ·exact .inl l
  ·exact .inr ⟨k,c,e,cellK x c e _ z⟩
 ·obtain⟨v,z⟩:=I.cell x c e;exact⟨v,cellK x c e v z⟩
 ·obtain⟨m,⟨o,_,_,ho,_⟩,_⟩:=I.loc;exact free _ o (λz=>(hch _ z).2.1 rfl) ho I.free
 ·obtain⟨v,o,ho,hd⟩:=I.cell x c e;exact free c o (λz=>(hch c z).2.2.1 x c e rfl) ho (I.freeC x c e)
 ·obtain⟨e,n,ne,nf,d⟩:=I.pin p hp;have nch:p.1 ∉ ch:=λz=>(hch p.1 z).2.2.2 p hp rfl
  exact⟨keep p.1 p.2 ne nf nch e n,free p.1 p.2 nch e n,ne,nf,d⟩
def Inv.un{t':Nat}(I:Inv X pins Y H s)(u:Un X.fs [] H H' s.heap h')(hok:fF X.prog X.w H' h'):Inv X pins Y H' { s with heap:=h',toks:=t' }:=by
 obtain⟨m,⟨o,es,ep,ho,r⟩,_⟩:=id I.loc;obtain⟨sl,hL⟩:=u.any ho I.free (by simp)
 exact I.step (g':=s.gens) (d':=s.drawn) (ch:=[]) (λ_ z=>nomatch z) (λb o _ hb _ e n=>u.keep b o e n hb (by simp)) (λb o _ hb _ e n=>u.slot b o e n hb (by simp)) (λb o _ e n=>u.free b o e n (by simp)) (λb o _ e=>u.there b o e (by simp)) u.tups u.frzs u.tbls (λm' hm=>by
  obtain⟨o',es',ep',ho',r'⟩:=hm;rw[ho] at ho';cases ho'
  exact⟨_,es',ep',hL,r'⟩) hok I.bare
def Inv.call(I:Inv X pins Y H s)(u:Un (pZ X.stack) ch H H' s.heap h')(hok:fF X.prog X.w H' h')(hg:AllBare g')
  (hch:∀b∈ch,(b∈X.ex\/X.s₀.heap.get? b=none)/\b≠X.env.locals/\(∀x c,X.env.cells.lookup x=some c->c≠b)/\∀p∈X.pn++pins,p.1≠b) :
  Inv X pins Y H' { s with heap:=h',gens:=g',drawn:=d',toks:=t' }:=by
 obtain⟨m,⟨o,es,ep,ho,r⟩,_⟩:=id I.loc;obtain⟨sl,hL⟩:=u.any ho I.free λz=>(hch _ z).2.1 rfl
 exact I.step hch (λb o hL hb hc e n=>u.keep b o e n (λz=>(List.mem_cons.mp (I.stkSub b z)).elim hL hb) hc) (λb o _ _ hc e n=>u.any e n hc) (λb o hc e n=>u.free b o e n hc) (λb o hc e=>u.there b o e hc) u.tups u.frzs u.tbls (λm' hm=>by
  obtain⟨o',es',ep',ho',r'⟩:=hm;rw[ho] at ho';cases ho'
  exact⟨_,es',ep',hL,r'⟩) hok hg
def Inv.turned{it:Addr}(I:Inv X pins Y H s)(k:∀b o,b≠it->s.heap.get? b=some o->h'.get? b=some o)(hn:H it=none)(hL:it≠X.env.locals)
  (h1:it∈X.ex\/X.s₀.heap.get? it=none) (h2:∀x c,X.env.cells.lookup x=some c->c≠it) (h3:∀p∈X.pn++pins,p.1≠it):Inv X pins Y H { s with heap:=h',toks:=t' }:=by
 have nit:∀b u,H b=some u->b≠it:=λb u e z=>by rw[z,hn] at e;cases e
 refine I.step (g':=s.gens) (d':=s.drawn) (ch:=[it]) (λb hb=>?_) (λb o _ _ hc e _=>k b o (λz=>hc (by simp[z])) e) (λb o _ _ hc e _=>⟨o.slots,k b o (λz=>hc (by simp[z])) e⟩) (λ_ _ _ _ n=>n)
  (λb o hc e=>⟨o,k b o (λz=>hc (by simp[z])) e⟩) (λ_ _ e=>e) (λ_ _ _ e=>e) (λb ps e=>⟨#[],by rw[e];simp⟩) (λm hm=>?_) (λb u e=>?_) I.bare
 ·have e:b=it:=by simpa using hb
  subst e;exact⟨h1,hL,h2,h3⟩
 ·obtain⟨o,es,ep,ho,r⟩:=hm;exact⟨o,es,ep,k _ o (Ne.symm hL) ho,r⟩
 ·refine(I.hok b u e).stay (λc v hc q=>k c v ?_ q) (λ_ q=>q) λ_ _ q=>q
  rcases hc with z | z
  ·rw[z];exact nit b u e
  ·exact nit c _ z
def Inv.tok(I:Inv X pins Y H s)(t:Nat):Inv X pins Y H { s with toks:=t }:=I.un (h':=s.heap) (t':=t) Un.refl I.hok
theorem Inv.kept(I:Inv X pins Y H s)(k:∀b u,s.heap.get? b=some u->h'.get? b=some u):Inv X pins Y H { s with heap:=h',toks:=t' }:=I.un (Un.kept k) (I.hok.kept k)
theorem Inv.laid(I:Inv X pins Y H s)(k:∀b u,s.heap.get? b=some u->h'.get? b=some u)(hp:s.heap.objs.size<=a)(new:dU X.prog X.w (aO H a o) h' a o) :
  Inv X pins Y (aO H a o) { s with heap:=h',toks:=t' }:=I.un (Un.laid k hp (I.hok.fresh hp)) (I.hok.laid k hp new)
theorem Inv.write(I:Inv X pins Y H s)(mu:NF (H x))(he:e=x\/H e=some (.own x))(k:∀b u,b≠e->s.heap.get? b=some u->h'.get? b=some u)(heo:∃u,h'.get? e=some u)
  (new:dU X.prog X.w (aO H x o) h' x o):Inv X pins Y (aO H x o) { s with heap:=h',toks:=t' }:=I.un (Un.write mu he k heo) (I.hok.write mu he k heo new)
def Inv.pins_of(I:Inv X pins Y H s)(h:∀p∈pins',s.heap.get? p.1=some p.2/\H p.1=none/\p.1≠X.env.locals/\p.1 ∉ X.fs/\∀v,p.2.data≠.cell v):Inv X pins' Y H s :=
 ⟨I.ok,I.os,I.bare,I.base,I.loc,I.cell,I.free,I.freeC,λp hp=>(zp.mp hp).elim (λz=>I.pin p (List.mem_append_left _ z)) (h p),I.hok,I.len⟩
def BA{N:List Str}(hN:N.Nodup){i j:Nat}(a:N[i]?=some x)(b:N[j]?=some x):i=j:=by
 obtain⟨h1,e1⟩:=Zc.mp a;obtain⟨h2,e2⟩:=Zc.mp b;exact(List.getElem_inj hN).mp (e1.trans e2.symm)
def yW(I:Inv X pins Y H s)(hN:X.N.Nodup)(hi:X.N[i]?=some x)(hx:yS X.env.scope x)(r:aY v u)
  (h:∀s',Inv X pins (Y.set i (some v)) H s'->(∃a,Heap.SameBut a s.heap s'.heap/\(a=X.env.locals\/X.env.cells.lookup x=some a))->Q () s') (hf:X.fn x=true\/X.env.scope.names.lookup x=some .local:=by first | exact .inl rfl | exact .inr rfl | assumption):wpAny M A (storeName X.env x u) Q E s:=by
 obtain⟨m,hn,hl⟩:=id I.loc;have hcls:(X.env.scope.kind==.class||(X.env.scope.kind==.module&&X.env.locals != X.env.globals))=false:=by rw[I.ok.kind];rfl
 have hiY:i<Y.length:=by rw[I.len];exact(Zc.mp hi).1
 have cne:=I.cne
 have tracked:∀{a:Addr} {h':Heap},(∃o,s.heap.get? a=some o/\H a=none)->Heap.SameBut a s.heap h'->fF X.prog X.w H h':=λ{a h'} ha hs b ob e=>by
  obtain⟨_,_,hfree⟩:=ha;refine(I.hok b ob e).stay (λc w' hc q=>(hs.2 c ?_).trans q) (λ_ q=>q) λ_ _ q=>q
  rintro rfl
  rcases hc with rfl | hc
  ·rw[hfree] at e;cases e
  ·rw[hfree] at hc;cases hc
 rcases hx with hk | hk
 ·refine wpAny_storeName_local hk hn (λh' hn' hs=>?_) hcls;obtain⟨oL,_,_,hoL,_⟩:=id hn;refine h _ ⟨I.ok,I.os,I.bare,⟨λb o e n hb hx=>?_,λb o e n hb hx=>?_,I.base.free,λb o e hx=>?_,I.base.tups,I.base.frzs,I.base.tbls⟩,⟨_,hn',λj y v' e1 e2 e3=>?_⟩,λy c e=>?_,I.free,I.freeC,λp hp=>?_,tracked ⟨oL,hoL,I.free⟩ hs,by simpa using I.len⟩ ⟨_,hs,.inl rfl⟩
  ·exact(hs.2 b (Zz (Zl (Zv e) I.ok.above))).trans (I.base.keep b o e n hb hx)
  ·obtain⟨sl,e1⟩:=I.base.slot b o e n hb hx;exact⟨sl,(hs.2 b (Zz (Zl (Zv e) I.ok.above))).trans e1⟩
  ·obtain⟨o',e1⟩:=I.base.there b o e hx;exact⟨o',(hs.2 b (Zz (Zl (Zv e) I.ok.above))).trans e1⟩
  ·by_cases hj:j=i
   ·subst hj;rw[hi] at e1;cases e1;rw[zk hiY] at e2;cases e2;exact⟨u,r,.inl ⟨hk,by simp⟩⟩
   ·rw[Zf (Ne.symm hj)] at e2;obtain⟨u',r',q⟩:=hl j y v' e1 e2 e3;refine⟨u',r', ?_⟩;rcases q with ⟨k,e⟩ | ⟨k,c,e,z⟩
    ·refine .inl ⟨k, ?_⟩
     have:y≠x:=λe=>hj (BA hN e1 (e ▸ hi))
     simp[this,e]
    ·exact .inr ⟨k,c,e,z.sameBut hs (cne y c e)⟩
  ·obtain⟨w',z⟩:=I.cell y c e;exact⟨w',z.sameBut hs (cne y c e)⟩
  ·obtain⟨e,n,ne,nf,d⟩:=I.pin p hp;exact⟨(hs.2 p.1 ne).trans e,n,ne,nf,d⟩
 ·have hfn:X.fn x=true:=by
   rcases hf with z | z
   ·exact z
   ·rw[z] at hk;cases hk
  obtain⟨c,hc⟩:=I.ok.has x (.inl hk);obtain⟨w',z⟩:=I.cell x c hc;refine wpAny_storeName_cell I.ok.kind hk hc z (λh' hc' hs=>?_);obtain⟨oc,hoc,hocd⟩:=id z;refine h { s with heap:=h' } ⟨I.ok,I.os,I.bare,⟨λb o e n hb hx=>?_,λb o e n hb hx=>?_,I.base.free,λb o e hx=>?_,I.base.tups,I.base.frzs,I.base.tbls⟩,⟨m,hn.sameBut hs (Ne.symm (cne x c hc)),λj y v' e1 e2 e3=>?_⟩,λy c' e=>?_,I.free,I.freeC,λp hp=>?_,tracked ⟨oc,hoc,I.freeC x c hc⟩ hs,by simpa using I.len⟩ ⟨c,hs,.inr hc⟩
  ·exact(hs.2 b (Zz (Zl (Zv e) (I.ok.cab x c hfn hc)))).trans (I.base.keep b o e n hb hx)
  ·obtain⟨sl,e1⟩:=I.base.slot b o e n hb hx;exact⟨sl,(hs.2 b (Zz (Zl (Zv e) (I.ok.cab x c hfn hc)))).trans e1⟩
  ·obtain⟨o',e1⟩:=I.base.there b o e hx;exact⟨o',(hs.2 b (Zz (Zl (Zv e) (I.ok.cab x c hfn hc)))).trans e1⟩
  ·by_cases hj:j=i
   ·subst hj;rw[hi] at e1;cases e1;rw[zk hiY] at e2;cases e2;exact⟨u,r,.inr ⟨.inl hk,c,hc,hc'⟩⟩
   ·rw[Zf (Ne.symm hj)] at e2;obtain⟨u',r',q⟩:=hl j y v' e1 e2 e3;refine⟨u',r', ?_⟩;rcases q with q | ⟨k,c',e,z'⟩
    ·exact .inl q
    ·refine .inr ⟨k,c',e,z'.sameBut hs ?_⟩
     rintro rfl
     exact hj (BA hN e1 (I.ok.inj _ _ _ e hc ▸ hi))
  ·by_cases hcc:c'=c
   ·subst hcc;exact⟨_,hc'⟩
   ·obtain⟨w2,z2⟩:=I.cell y c' e;exact⟨w2,z2.sameBut hs hcc⟩
  ·obtain⟨e,n,ne,nf,d⟩:=I.pin p hp;refine⟨(hs.2 p.1 ?_).trans e,n,ne,nf,d⟩;intro q;rw[q,hoc] at e;have q':oc=p.2:=Option.some.inj e;exact d w' (by rw[<- q'];exact hocd)
def QK(I:Inv X pins Y H s)(hN:X.N.Nodup)(hi:X.N[i]?=some x)(hx:yS X.env.scope x)(r:aY v u)
  (h:∀s',Inv X pins (Y.set i (some v)) H s'->Q () s') (hf:X.fn x=true\/X.env.scope.names.lookup x=some .local:=by first | exact .inl rfl | exact .inr rfl | assumption):wpAny M A (storeName X.env x u) Q E s :=
 yW I hN hi hx r (λs' I' _=>h s' I') hf
def Inv.call'(I:Inv X pins Y H s)(ho:s'.os=s.os)(u:Un (pZ X.stack) ch H H' s.heap s'.heap)(hok:fF X.prog X.w H' s'.heap)(hg:AllBare s'.gens)
  (hch:∀b∈ch,(b∈X.ex\/X.s₀.heap.get? b=none)/\b≠X.env.locals/\(∀x c,X.env.cells.lookup x=some c->c≠b)/\∀p∈X.pn++pins,p.1≠b):Inv X pins Y H' s':=by
 obtain⟨h',g',d',t',o'⟩:=s';have e:o'=s.os:=ho;subst e;exact I.call u hok hg hch
end
abbrev XK:=Value->Option Addr->Hp->Prop
abbrev St:=List (Option V)
abbrev VK:=V->Hp->Prop
abbrev TE:=St->Hp->VK->Prop
abbrev TT:=St->Hp->(Bool->Hp->Prop)->Prop
abbrev TA:=St->Hp->(List V->Hp->Prop)->Prop
structure Ends where
 nx:St->Hp->Prop
 rt:VK
 bk:St->Hp->Prop:=λ_ _=>False
 ct:St->Hp->Prop:=λ_ _=>False
abbrev TS:=Ends->St->Hp->Prop
def EP(X:Cx)(pins:List (Addr×Obj))(Y:St)(Q:VK)(u:Value)(s':Shared):Prop:=∃v H',Inv X pins Y H' s'/\aY v u/\Q v H'
def TP(X:Cx)(pins:List (Addr×Obj))(Y:St)(Q:Bool->Hp->Prop)(b:Bool)(s':Shared):Prop:=∃H',Inv X pins Y H' s'/\Q b H'
def AP(X:Cx)(pins:List (Addr×Obj))(Y:St)(Q:List V->Hp->Prop)(us:List Value)(s':Shared):Prop:=∃vs H',Inv X pins Y H' s'/\aQ vs us/\Q vs H'
def SP(X:Cx)(pins:List (Addr×Obj))(D:Ends)(f:Flow)(s':Shared):Prop :=
 match f with
 |.next=>∃Y' H',Inv X pins Y' H' s'/\D.nx Y' H'
 |.brk=>∃Y' H',Inv X pins Y' H' s'/\D.bk Y' H'
 |.cont=>∃Y' H',Inv X pins Y' H' s'/\D.ct Y' H'
 |.ret u=>∃v Y' H',Inv X pins Y' H' s'/\aY v u/\D.rt v H'
def PE(X:Cx)(e:Expr)(t:TE):Prop :=
 ∀(pins:List (Addr×Obj)) (s:Shared) (Y:St) (H:Hp) (Q:VK),Inv X pins Y H s->t Y H Q->wpAny (model X.prog X.w) X.A (eval e X.env) (EP X pins Y Q) X.xe s
def PT(X:Cx)(e:Expr)(t:TT):Prop :=
 ∀(pins:List (Addr×Obj)) (s:Shared) (Y:St) (H:Hp) (Q:Bool->Hp->Prop),Inv X pins Y H s->t Y H Q->wpAny (model X.prog X.w) X.A (isTrue e X.env (eval e X.env)) (TP X pins Y Q) X.xe s
def PW(X:Cx)(e:Expr)(t:TT):Prop :=
 ∀(whole:Sem Value) (pins:List (Addr×Obj)) (s:Shared) (Y:St) (H:Hp) (Q:Bool->Hp->Prop),Inv X pins Y H s->t Y H Q->wpAny (model X.prog X.w) X.A (isTrue e X.env whole) (TP X pins Y Q) X.xe s
def PW.pt(h:PW X e t):PT X e t:=h _
def PA(X:Cx)(es:List Expr)(t:TA):Prop :=
 ∀(pos:Pos) (pins:List (Addr×Obj)) (s:Shared) (Y:St) (H:Hp) (Q:List V->Hp->Prop),Inv X pins Y H s->t Y H Q->wpAny (model X.prog X.w) X.A (spliced (backTo pos (starEach es X.env))) (AP X pins Y Q) X.xe s
def PS(X:Cx)(st:Stmt)(t:TS):Prop :=
 ∀(pins:List (Addr×Obj)) (s:Shared) (Y:St) (H:Hp) (D:Ends),Inv X pins Y H s->t D Y H->wpAny (model X.prog X.w) X.A (exec st X.env) (SP X pins D) X.xe s
def gN(X:Cx)(st:List Stmt)(t:TS):Prop :=
 ∀(pins:List (Addr×Obj)) (s:Shared) (Y:St) (H:Hp) (D:Ends),Inv X pins Y H s->t D Y H->wpAny (model X.prog X.w) X.A (execs st X.env) (SP X pins D) X.xe s
def a7(h:wpAny M A t Q E s)(hQ:∀a s,Q a s->Q' a s):wpAny M A t Q' E s:=wpAny_mono h hQ λ_ _ x=>x
section
variable{X:Cx}
def bin(ha:PE X a ta)(hb:PE X b tb){R:V->V->Hp->Prop}(I:Inv X pins Y H s)(h:ta Y H λx H1=>tb Y H1 λy H2=>R x y H2){f:Value->Value->Sem J}
  (hf:∀v u s2 x y H2,Inv X pins Y H2 s2->aY x v->aY y u->R x y H2->wpAny (model X.prog X.w) X.A (f v u) Q X.xe s2) :
  wpAny (model X.prog X.w) X.A (eval a X.env) (λv s₁=>wpAny (model X.prog X.w) X.A (eval b X.env) (λu s₂=>wpAny (model X.prog X.w) X.A (f v u) Q X.xe s₂) X.xe s₁) X.xe s:=by
 refine a7 (ha pins s Y H _ I h) λv s1 hz=>?_
 obtain⟨x,H1,I1,r1,q1⟩:=hz;refine a7 (hb pins s1 Y H1 _ I1 q1) λu s2 hz=>?_
 obtain⟨y,H2,I2,r2,q2⟩:=hz;exact hf v u s2 x y H2 I2 r1 r2 q2
noncomputable def oV(i:Nat):TE:=λY H Q=>∃v,Y[i]?=some (some v)/\Q v H
noncomputable def tC(v:V):TE:=λ_ H Q=>Q v H
def CN(hN:X.N[i]?=some x)(hv:LD X.env.scope x)(hd:(x==("__debug__":Str))=false:=by decide)(hcd:(x==("__classdict__":Str))=false:=by decide):PE X (.Name x pos) (oV i):=by
 intro pins s Y H Q I h;obtain⟨v,e,h⟩:=h;obtain⟨m,hn,hl⟩:=I.loc;obtain⟨u,r,l⟩:=hl i x v hN e hv;have fin:EP X pins Y Q u s:=⟨v,H,I,r,h⟩
 rcases l with ⟨hk,hm⟩ | ⟨hk,c,hc,hcell⟩
 ·exact wpAny_Name (wpAny_loadName_local I.ok.kind hk hn hm fin) hd
 ·rcases hk with hk | hk
  ·exact wpAny_Name (wpAny_loadName_cell I.ok.kind hk hc hcell fin) hd
  ·exact wpAny_Name (wpAny_loadName_free I.ok.kind hk hc hcell fin hcd) hd
def uE{i j pos}:PE X (.Constant (.int i) j pos) (tC (.int i)):=λ_ _ _ H _ I h=>wpAny_Constant_int ⟨.int i,H,I.tok _,⟨_,rfl⟩,h⟩
def aEA{b j pos}:PE X (.Constant (.bool b) j pos) (tC (.bl b)):=λ_ _ _ H _ I h=>Constant_bool ⟨.bl b,H,I,rfl,h⟩
def aAF{j pos}:PE X (.Constant .none j pos) (tC .non):=λ_ _ _ H _ I h=>Constant_none ⟨.non,H,I,rfl,h⟩
def aBF{x j pos}:PE X (.Constant (.str x) j pos) (tC (.str x)):=λ_ _ _ H _ I h=>Calls.Constant_str ⟨.str x,H,I.tok _,⟨_,rfl⟩,h⟩
def Gl(X:Cx)(x:Str):Prop:=X.env.kindOf x=some .globalImplicit
def xI(I:Inv X pins Y H s)(hg:Gl X x)(hm:X.mg x=some u)(h:Q u s)
  (hd:(x==("__debug__":Str))=false:=by decide):wpAny (model X.prog X.w) X.A (eval (.Name x pos) X.env) Q E s :=
 Calls.Name_function_global I.ok.kind hg (Calls.loadGlobal_global (by rw[I.ok.glob];exact I.mod.glob.keeps I.bk) hm h) hd
def lY(I:Inv X pins Y H s)(hg:Gl X x)(hm:X.mg x=none)(hv:bootBuiltins x=some u)(h:Q u s)
  (hn:x≠"__name__":=by decide) (hd:(x==("__debug__":Str))=false:=by decide):wpAny (model X.prog X.w) X.A (eval (.Name x pos) X.env) Q E s:=by
 obtain⟨mb,h1,h2⟩:=I.mod.blt;exact Calls.Name_function_global I.ok.kind hg (Calls.loadGlobal_builtin (by rw[I.ok.glob];exact I.mod.glob.keeps I.bk) hm (by rw[I.ok.blt];exact h1.keeps I.bk) ((h2 x hn).trans hv) h) hd
def VZ(hg:Gl X x)(hm:X.mg x=some u)(r:aY v u)(hd:(x==("__debug__":Str))=false:=by decide):PE X (.Name x pos) (tC v) :=
 λ_ _ _ H _ I h=>xI I hg hm ⟨v,H,I,r,h⟩ hd
def yC(hg:Gl X x)(hm:X.mg x=none)(hv:bootBuiltins x=some u)(r:aY v u)(hn:x≠"__name__":=by decide)(hd:(x==("__debug__":Str))=false:=by decide):PE X (.Name x pos) (tC v) :=
 λ_ _ _ H _ I h=>lY I hg hm hv ⟨v,H,I,r,h⟩ hn hd
variable{pos:Pos}
noncomputable def tB(t:TE):TT:=λY H Q=>t Y H λx H1=>∃c,x=.bl c/\Q c H1
variable{gH:List Expr}
noncomputable def aAc(t u:TT):TT:=λY H Q=>t Y H λc H1=>if c=true then u Y H1 Q else Q false H1
noncomputable def tOr(t u:TT):TT:=λY H Q=>t Y H λc H1=>if c=true then Q true H1 else u Y H1 Q
noncomputable def aG3(t:TT):TT:=λY H Q=>t Y H λc H1=>Q (!c) H1
def W9(ha:PT X a tA):PW X (.BoolOp .And [a] pos) tA:=by
 intro wh pins s Y H Q I h;refine isTrue_and (a7 (ha pins s Y H Q I h) λc s1 e=>?_)
 cases c with
 |true=>exact isTrue_and_nil e
 |false=>exact e
def aAB(ha:PT X a tA):PW X (.BoolOp .Or [a] pos) tA:=by
 intro wh pins s Y H Q I h;refine isTrue_or (a7 (ha pins s Y H Q I h) λc s1 e=>?_)
 cases c with
 |false=>exact isTrue_or_nil e
 |true=>exact e
def aAv(ha:PT X a tA)(hb:PW X (.BoolOp .And (b::gH) pos) tB'):PW X (.BoolOp .And (a::b::gH) pos) (aAc tA tB'):=by
 intro wh pins s Y H Q I h;refine isTrue_and (a7 (ha pins s Y H _ I h) λc s1 hz=>?_);obtain⟨H1,I1,q1⟩:=hz
 cases c with
 |true=>exact hb wh pins s1 Y H1 Q I1 q1
 |false=>exact⟨H1,I1,q1⟩
def aE7(ha:PT X a tA)(hb:PW X (.BoolOp .Or (b::gH) pos) tB'):PW X (.BoolOp .Or (a::b::gH) pos) (tOr tA tB'):=by
 intro wh pins s Y H Q I h;refine isTrue_or (a7 (ha pins s Y H _ I h) λc s1 hz=>?_);obtain⟨H1,I1,q1⟩:=hz
 cases c with
 |true=>exact⟨H1,I1,q1⟩
 |false=>exact hb wh pins s1 Y H1 Q I1 q1
def aAC(ha:PT X a tA):PT X (.UnaryOp .Not a pos) (aG3 tA):=by
 intro pins s Y H Q I h;exact isTrue_not (ha pins s Y H (λc H1=>Q (!c) H1) I h)
noncomputable def SY(ta tb:TE):TE:=λY H Q=>ta Y H λx H1=>∃c,x=.bl c/\if c=true then tb Y H1 Q else Q (.bl false) H1
noncomputable def aB2(ta tb:TE):TE:=λY H Q=>ta Y H λx H1=>∃c,x=.bl c/\if c=true then Q (.bl true) H1 else tb Y H1 Q
def L0{op}(h:PE X a t):PE X (.BoolOp op [a] pos) t:=λpins s Y H Q I hw=>BoolOp_one (h pins s Y H Q I hw)
def aBo(ha:PE X a ta)(hb:PE X (.BoolOp .And (b::gH) pos) tb):PE X (.BoolOp .And (a::b::gH) pos) (SY ta tb):=by
 intro pins s Y H Q I h;refine BoolOp_and (a7 (ha pins s Y H _ I h) λv s1 hz=>?_);obtain⟨x,H1,I1,r1,q1⟩:=hz;obtain⟨c,rfl,q1⟩:=q1;cases r1;refine wpAny_truthy_bool ?_
 cases c with
 |true=>exact hb pins s1 Y H1 Q I1 q1
 |false=>exact⟨.bl false,H1,I1,rfl,q1⟩
def S0(ha:PE X a ta)(hb:PE X (.BoolOp .Or (b::gH) pos) tb):PE X (.BoolOp .Or (a::b::gH) pos) (aB2 ta tb):=by
 intro pins s Y H Q I h;refine BoolOp_or (a7 (ha pins s Y H _ I h) λv s1 hz=>?_);obtain⟨x,H1,I1,r1,q1⟩:=hz;obtain⟨c,rfl,q1⟩:=q1;cases r1;refine wpAny_truthy_bool ?_
 cases c with
 |false=>exact hb pins s1 Y H1 Q I1 q1
 |true=>exact⟨.bl true,H1,I1,rfl,q1⟩
end
def bX(K:Frag)(H:Hp)(a:Addr)(xs:List V):Prop :=
 Rd H a (.lst xs) \/
  ∃(o:Obj) (its:Array Value) (n:Nat),K.lookup a=some o/\o.cls=.type "list"/\o.dict=none/\o.data=.seq its n/\its.size<=sizeLine/\aQ xs its.toList
def dC(K:Frag)(H:Hp)(a:Addr)(xs:List V):Prop :=
 Rd H a (.tup xs) \/
  ∃(o:Obj) (its:Array Value) (n:Nat),K.lookup a=some o/\o.cls=.type "tuple"/\o.data=.seq its n/\its.size<=sizeLine/\aQ xs its.toList
noncomputable def aGx:Value->Option V
 |.none=>some .non
 |.bool b=>some (.bl b)
 |.int i _=>some (.int i)
 |.str x _=>some (.str x)
 |.ref a=>some (.ref a)
 |.type n=>some (.ty n)
 |_=>none
def aY.abs(r:aY x u):aGx u=some x:=by
 cases x with
 |non=>cases r;rfl
 |bl _=>cases r;rfl
 |int _=>obtain⟨t,rfl⟩:=r;rfl
 |str _=>obtain⟨t,rfl⟩:=r;rfl
 |ref _=>cases r;rfl
 |ty _=>cases r;rfl
theorem aY.inj(r:aY x u)(q:aY y u):x=y:=Option.some.inj (r.abs.symm.trans q.abs)
theorem aQ.inj{xs ys:List V}{us:List Value}(h:aQ xs us)(h':aQ ys us):xs=ys:=by
 induction h generalizing ys with
 |nil=>cases h';rfl
 |cons r t ih=>cases h' with | cons r' t'=>rw[r.inj r',ih t']
section
variable{xs ys:List V}
def bX.of{K:Frag}(h:H a=some (.lst xs)):bX K H a xs:=.inl (.inl h)
def dC.of{K:Frag}(h:H a=some (.tup xs)):dC K H a xs:=.inl (.inl h)
def Inv.list(I:Inv X pins Y H s)(h:bX X.K H a xs):∃its:List Value,aQ xs its/\PlainL s.heap a its.toArray/\xs.length<=sizeLine:=by
 rcases h with h | ⟨o,its,n,hk,hc,hd,hs,hz,r⟩
 ·obtain⟨z,its,n,r,e⟩:=h.ok I.hok;exact⟨its,r,⟨_,n,e,rfl,rfl,rfl⟩,z⟩
 ·refine⟨its.toList,r,⟨o,n,I.kIn a o hk,hc,hd,by simpa using hs⟩, ?_⟩;have e:=r.length;simp only[Array.length_toList] at e;omega
def Inv.tuple(I:Inv X pins Y H s)(h:dC X.K H a xs):∃its:List Value,aQ xs its/\IsTup s.heap a its.toArray/\xs.length<=sizeLine:=by
 rcases h with h | ⟨o,its,n,hk,hc,hs,hz,r⟩
 ·obtain⟨z,its,r,p⟩:=h.ok I.hok;exact⟨its,r,p,z⟩
 ·refine⟨its.toList,r,⟨o,I.kIn a o hk,hc,n,by simpa using hs⟩, ?_⟩;have e:=r.length;simp only[Array.length_toList] at e;omega
def Inv.list_inj(I:Inv X pins Y H s)(h:bX X.K H a xs)(h':bX X.K H a ys):xs=ys:=by
 obtain⟨its,r,⟨o,n,e,_,_,d⟩,_⟩:=I.list h;obtain⟨its',r',⟨o',n',e',_,_,d'⟩,_⟩:=I.list h';rw[e] at e';cases e';rw[d] at d'
 injection d' with d1 _
 have:its=its':=by simpa using congrArg Array.toList d1
 subst this;exact r.inj r'
def Inv.tuple_inj(I:Inv X pins Y H s)(h:dC X.K H a xs)(h':dC X.K H a ys):xs=ys:=by
 obtain⟨its,r,⟨o,e,_,n,d⟩,_⟩:=I.tuple h;obtain⟨its',r',⟨o',e',_,n',d'⟩,_⟩:=I.tuple h';rw[e] at e';cases e';rw[d] at d'
 injection d' with d1 _
 have:its=its':=by simpa using congrArg Array.toList d1
 subst this;exact r.inj r'
end
abbrev Cx.wish(X:Cx)(E:Value->Shared->Prop):Cx:={ X with xe:=E }
abbrev Cx.nox(X:Cx):Cx:=X.wish λ_ _=>False
theorem Cx.Ok.wish{X:Cx}(ok:X.Ok)(E:Value->Shared->Prop):(X.wish E).Ok :=
 ⟨ok.mod,ok.kind,ok.glob,ok.blt,ok.above,ok.inj,ok.has,ok.cab,ok.hd,ok.frames,ok.stk,ok.exf,ok.bs,ok.bsz,ok.noex,ok.exfs,ok.funs,ok.frf⟩
def Cx.Ok.unwish{X:Cx}(ok:(X.wish E).Ok):X.Ok :=
 ⟨ok.mod,ok.kind,ok.glob,ok.blt,ok.above,ok.inj,ok.has,ok.cab,ok.hd,ok.frames,ok.stk,ok.exf,ok.bs,ok.bsz,ok.noex,ok.exfs,ok.funs,ok.frf⟩
section
variable{E:Value->Shared->Prop}
theorem Inv.wish(I:Inv X pins Y H s)(E:Value->Shared->Prop):Inv (X.wish E) pins Y H s:=⟨I.ok.wish E,I.os,I.bare,I.base,I.loc,I.cell,I.free,I.freeC,I.pin,I.hok,I.len⟩
theorem Inv.unwish(I:Inv (X.wish E) pins Y H s):Inv X pins Y H s:=⟨I.ok.unwish,I.os,I.bare,I.base,I.loc,I.cell,I.free,I.freeC,I.pin,I.hok,I.len⟩
theorem SP.unwish(h:SP (X.wish E) pins D f s'):SP X pins D f s':=by
 cases f with
 |next=>obtain⟨Y',H',I,q⟩:=h;exact⟨Y',H',I.unwish,q⟩
 |brk=>obtain⟨Y',H',I,q⟩:=h;exact⟨Y',H',I.unwish,q⟩
 |cont=>obtain⟨Y',H',I,q⟩:=h;exact⟨Y',H',I.unwish,q⟩
 |ret u=>obtain⟨v,Y',H',I,r,q⟩:=h;exact⟨v,Y',H',I.unwish,r,q⟩
theorem gN.nox{st:List Stmt}(h:gN X.nox st t):gN X st t:=λpins s Y H D I hw =>
 wpAny_mono (h pins s Y H D (I.wish _) hw) (λ_ _ q=>q.unwish) λ_ _ z=>False.elim z
end
section
variable{st:Stmt}{gH:List Stmt}
noncomputable def HG:TS:=λD Y H=>D.nx Y H
noncomputable def aGz(t u:TS):TS:=λD Y H=>t { D with nx:=u D } Y H
def FV:gN X [] HG:=λ_ _ Y H _ I h=>wpAny_execs_nil ⟨Y,H,I,h⟩
def B5(h1:PS X st t)(h2:gN X gH u):gN X (st::gH) (aGz t u):=by
 intro pins s Y H D I h;refine wpAny_execs_cons (a7 (h1 pins s Y H { D with nx:=u D } I h) λf s1 q=>?_)
 cases f with
 |next =>
  obtain⟨Y',H',I',q⟩:=q;exact h2 pins s1 Y' H' D I' q
 |ret v=>exact q
 |brk=>exact q
 |cont=>exact q
noncomputable def aCo:TS:=λD Y H=>D.bk Y H
noncomputable def aE0:TS:=λD Y H=>D.ct Y H
def WH:PS X (.Pass pos) HG:=λ_ _ Y H _ I h=>wpAny_Pass ⟨Y,H,I,h⟩
def P2:PS X (.Break pos) aCo:=λ_ _ Y H _ I h=>wpAny_Break ⟨Y,H,I,h⟩
def EC:PS X (.Continue pos) aE0:=λ_ _ Y H _ I h=>wpAny_Continue ⟨Y,H,I,h⟩
def Inv.quiet(I:Inv X pins Y H s):interactive X.env=false:=by simp[interactive,I.ok.kind]
noncomputable def aD9(te:TE):TS:=λD Y H=>te Y H λ_ H1=>D.nx Y H1
def ZM(he:PE X e te)(hs:swapsWith e none pos.line X.env=pure false:=by rfl):PS X (.Expr e pos) (aD9 te):=by
 intro pins s Y H D I h;exact wpAny_Expr_any (a7 (he pins s Y H _ I h) λv s1 ⟨x,H1,I1,r1,q1⟩=>⟨Y,H1,I1,q1⟩) I.quiet hs
noncomputable def aGj(te:TE):TS:=λD Y H=>te Y H D.rt
def K6(he:PE X e te):PS X (.Return (some e) pos) (aGj te):=by
 intro pins s Y H D I h;exact wpAny_Return_some (a7 (he pins s Y H _ I h) λv s1 ⟨x,H1,I1,r1,q1⟩=>⟨x,Y,H1,I1,r1,q1⟩)
noncomputable def aEN:TS:=λD _ H=>D.rt .non H
def YE:PS X (.Return none pos) aEN:=λ_ _ Y H _ I h=>wpAny_Return_none ⟨.non,Y,H,I,rfl,h⟩
noncomputable def aGD(c:TT)(t u:TS):TS:=λD Y H=>c Y H λb H1=>if b=true then t D Y H1 else u D Y H1
def aEg(hc:PT X c tc)(ha:gN X a t)(hb:gN X b u):PS X (.If c a b pos) (aGD tc t u):=by
 intro pins s Y H D I h;refine wpAny_If (a7 (hc pins s Y H _ I h) λd s1 hz=>?_);obtain⟨H1,I1,q1⟩:=hz
 cases d with
 |true=>exact ha pins s1 Y H1 D I1 q1
 |false=>exact hb pins s1 Y H1 D I1 q1
end
abbrev TG:=V->St->Hp->(St->Hp->Prop)->Prop
abbrev FR:=List V->St->Hp->(St->Hp->Prop)->Prop
def PG(X:Cx)(target:Expr)(t:TG):Prop :=
 ∀(pins:List (Addr×Obj)) (s:Shared) (Y:St) (H:Hp) (v:V) (u:Value) (Q:St->Hp->Prop),Inv X pins Y H s->aY v u->t v Y H Q ->
  wpAny (model X.prog X.w) X.A (assign target X.env u) (λ_ s'=>∃Y' H',Inv X pins Y' H' s'/\Q Y' H') X.xe s
def vQ(X:Cx)(ts:List Expr)(t:FR):Prop :=
 ∀(pins:List (Addr×Obj)) (s:Shared) (Y:St) (H:Hp) (vs:List V) (us:List Value) (Q:St->Hp->Prop),Inv X pins Y H s->aQ vs us->t vs Y H Q ->
  wpAny (model X.prog X.w) X.A (assignInOrder ((assignEach ts X.env).map (·.2)) us) (λ_ s'=>∃Y' H',Inv X pins Y' H' s'/\Q Y' H') X.xe s
abbrev GI:=V->V->V->Hp->(Hp->Prop)->Prop
def PF(X:Cx)(t:GI):Prop :=
 ∀(pins:List (Addr×Obj)) (s:Shared) (Y:St) (H:Hp) (o i v:V) (ov iv u:Value) (Q:Hp->Prop),Inv X pins Y H s->aY o ov->aY i iv->aY v u->t o i v H Q ->
  wpAny (model X.prog X.w) X.A (setItem ov iv u) (λ_ s'=>∃H',Inv X pins Y H' s'/\Q H') X.xe s
section
variable{pos:Pos}
noncomputable def r6(i:Nat):TG:=λv Y H Q=>Q (Y.set i (some v)) H
def FN(hN:X.N.Nodup)(hi:X.N[i]?=some x)(hx:yS X.env.scope x)(hf:X.fn x=true\/X.env.scope.names.lookup x=some .local:=by first | exact .inl rfl | exact .inr rfl | assumption):PG X (.Name x pos) (r6 i):=by
 intro pins s Y H v u Q I r h;exact wpAny_assign_Name (QK I hN hi hx r (λs' I'=>⟨_,H,I',h⟩) hf)
noncomputable def aGS:FR:=λvs Y H Q=>vs=[]/\Q Y H
noncomputable def aEB(t:TG)(u:FR):FR:=λvs Y H Q=>∃v r,vs=v::r/\t v Y H λY' H'=>u r Y' H' Q
def ZH:vQ X [] aGS:=by
 intro pins s Y H vs us Q I r h;obtain⟨e,h⟩:=h;subst e;cases r;exact assignInOrder_nil ⟨Y,H,I,h⟩
def P0(h1:PG X e t)(h2:vQ X es u)
  (hs:(assignEach (e::es) X.env).map (·.2)=assign e X.env::(assignEach es X.env).map (·.2):=by rfl):vQ X (e::es) (aEB t u):=by
 intro pins s Y H vs us Q I r h;obtain⟨v,vr,e1,h⟩:=h;subst e1
 cases r with
 |cons r rr =>
  rw[hs];refine assignInOrder_cons (a7 (h1 pins s Y H _ _ _ I r h) λ_ s1 hz=>?_);obtain⟨Y1,H1,I1,q1⟩:=hz;exact h2 pins s1 Y1 H1 _ _ Q I1 rr q1
noncomputable def aGL(K:Frag)(n:Nat)(t:FR):TG:=λv Y H Q=>∃a xs,v=.ref a/\dC K H a xs/\xs.length=n/\t xs Y H Q
def aAO(hc:X.calm=true)(h:vQ X es t)
  (hn:(assignEach es X.env).length=n:=by rfl) (hst:(assignEach es X.env).findIdx? (·.1)=none:=by rfl):PG X (.Tuple es k pos) (aGL X.K n t):=by
 intro pins s Y H v u Q I r hw;obtain⟨a,xs,e1,hq,hl,hw⟩:=hw;subst e1;cases r;obtain⟨its,rv,ht,hz⟩:=I.tuple hq;refine assign_Tuple_tuple (I.ok.hd hc) ht (by simp[hn,<- hl,rv.length]) hst λh' hx=>?_
 have I1:Inv X pins Y H { s with heap:=h' }:=I.kept (t':=s.toks) λb o e=>hx b o (Zz (Zv e)) e
 exact h pins _ Y H xs _ Q I1 (by simpa using rv) hw
noncomputable def aG0(to ti:TE)(t:GI):TG:=λv Y H Q=>to Y H λo H1=>ti Y H1 λi H2=>t o i v H2 λH3=>Q Y H3
def aAU(ho:PE X o to)(hi:PE X i ti)(hs:PF X t)
  (ha:∀v,assign (.Subscript o i pos) X.env v=(do
   let ov <- holding [v] (eval o X.env)
   let iv <- holding [v,ov] (eval i X.env)
   standAt pos
   holding [v,ov,iv] (setItem ov iv v)
   release [v,ov,iv] []):=by intro _;rfl):PG X (.Subscript o i pos) (aG0 to ti t):=by
 intro pins s Y H v u Q I r h;rw[ha];refine Zt (wpAny_holding (a7 (ho pins s Y H _ I h) λov s1 hz=>?_));obtain⟨x,H1,I1,r1,q1⟩:=hz;refine Zt (wpAny_holding (a7 (hi pins s1 Y H1 _ I1 q1) λiv s2 hz=>?_));obtain⟨y,H2,I2,r2,q2⟩:=hz;refine Zt (wpAny_standAt (Zt (wpAny_holding (a7 (hs pins s2 Y H2 x y v ov iv u _ I2 r1 r2 r q2) λ_ s3 hz=>?_))));obtain⟨H3,I3,q3⟩:=hz;exact wpAny_release ⟨Y,H3,I3,q3⟩
noncomputable def O4(te:TE)(g:TG):TS:=λD Y H=>te Y H λx H1=>g x Y H1 D.nx
def vR(he:PE X e te)(hg:PG X tg g)(hs:swapsWithSole [tg] e pos.line X.env=pure false:=by rfl)(hw:swappedStores [tg] e X.env=pure none:=by rfl)
  (h1:(assignEach [tg] X.env).map (·.2)=[assign tg X.env]:=by rfl):PS X (.Assign [tg] e pos) (O4 te g):=by
 intro pins s Y H D I h;refine wpAny_Assign_stores (a7 (he pins s Y H _ I h) λv s1 hz=>?_) hs hw;obtain⟨x,H1,I1,r1,q1⟩:=hz;rw[h1];exact a7 (hg pins s1 Y H1 x v _ I1 r1 q1) λ_ s2 q=>q
end
structure It where
 go:Nat->Hp->Prop
 yld:Nat->Hp->V->Hp->Prop
 stop:Nat->Hp->Prop
def iZ(X:Cx)(pins:List (Addr×Obj))(H:Hp)(b:Addr):Prop :=
 H b=none/\b≠X.env.locals/\b ∉ X.fs/\(b∈X.ex\/X.s₀.heap.get? b=none)/\(∀x c,X.env.cells.lookup x=some c->c≠b)/\∀p∈X.pn++pins,p.1≠b
def Inv.fpOk(I:Inv X pins Y H s)(hb:s.heap.objs.size<=b)(hn:H' b=none):iZ X pins H' b:=by
 refine⟨hn,Nat.ne_of_gt (Zl I.lt hb),I.nofs hb,.inr (Heap.get?_none_of_le (Zr I.sz hb)),λx c e z=>?_,λp hp z=>?_⟩
 ·obtain⟨v,q⟩:=I.cell x c e;exact absurd (Zl q.lt (by rw[z];exact hb)) (Nat.lt_irrefl _)
 ·exact absurd (Zl (Zv (I.pin p hp).1) (by rw[z];exact hb)) (Nat.lt_irrefl _)
structure Turn(P:Program)(w:World)(K:Frag)(tg:Expr)(J:It)(fp:List Addr)(it:Addr)(tn:Nat->Heap->Prop):Prop where
 mem:it∈fp
 obj:∀i h,tn i h->∀b∈fp,∃o,h.get? b=some o/\∀v,o.data≠.cell v
 keep:∀i h h',tn i h->(∀b∈fp,∀o,h.get? b=some o->h'.get? b=some o)->tn i h'
 item:∀(X:Cx),X.prog=P->X.w=w->X.K=K->X.calm=true->∀(i:Nat) (pins:List (Addr×Obj)) (s:Shared) (Y:St) (H:Hp) (E:Value->Shared->Prop),Inv X pins Y H s->(∀b∈fp,iZ X pins H b)->tn i s.heap->J.go i H ->
  wpAny (model P w) X.A (pyNext (.ref it)) (λr s1=>∃u,r=some u /\
   wpAny (model P w) X.A (letOwnedTupleGo tg (.ref it) u) (λ_ s2=>∃x H',Inv X pins Y H' s2/\aY x u/\J.yld i H x H'/\tn (i+1) s2.heap/\∀b∈fp,H' b=none) E s1) E s
 done:∀(X:Cx),X.prog=P->X.w=w->X.K=K->X.calm=true->∀(i:Nat) (pins:List (Addr×Obj)) (s:Shared) (Y:St) (H:Hp) (E:Value->Shared->Prop),Inv X pins Y H s->(∀b∈fp,iZ X pins H b)->tn i s.heap->J.stop i H ->
  wpAny (model P w) X.A (pyNext (.ref it)) (λr s1=>r=none/\Inv X pins Y H s1) E s
 self:∀(A:Around) (i:Nat) (s:Shared) (Q:Value->Shared->Prop) (E:Value->Shared->Prop),tn i s.heap->Q (.ref it) s->wpAny (model P w) A (pyIter (.ref it)) Q E s
abbrev TI:=St->Hp->(It->Hp->Prop)->Prop
def PIE(X:Cx)(pins:List (Addr×Obj))(Y:St)(tg:Expr)(R:It->Hp->Prop)(itv:Value)(s2:Shared):Prop :=
 ∃(it:Addr) (fp:List Addr) (tn:Nat->Heap->Prop) (J:It) (H':Hp),itv=.ref it/\Inv X pins Y H' s2/\Turn X.prog X.w X.K tg J fp it tn/\tn 0 s2.heap/\(∀b∈fp,iZ X pins H' b)/\R J H'
def PI(X:Cx)(tg iter:Expr)(wi:TI):Prop :=
 ∀(pins:List (Addr×Obj)) (s:Shared) (Y:St) (H:Hp) (R:It->Hp->Prop),Inv X pins Y H s->wi Y H R ->
  wpAny (model X.prog X.w) X.A (eval iter X.env) (λv s1=>wpAny (model X.prog X.w) X.A (pyIter v) (PIE X pins Y tg R) X.xe s1) X.xe s
def HH(ho:s.heap.get? it=some o)(hc:o.cls=.type n)(hd:o.data=.fields vs)
  (hn:["enumerate","zip","dict_itemiterator","dict_reverseitemiterator","odict_iterator","itertools.zip_longest","itertools.pairwise"].contains n=false) (hQ:Q () s):wpAny M A (letOwnedTupleGo tg (.ref it) u) Q E s:=by
 unfold letOwnedTupleGo
 cases tg<;>first
  |exact Zu hQ
  | (cases u<;>first
    |exact Zu hQ
    | (refine Zt (wpAny_load ho ?_)
       rw[hc,hd];show wpAny M A (if(["enumerate","zip","dict_itemiterator","dict_reverseitemiterator","odict_iterator","itertools.zip_longest","itertools.pairwise"].contains n&&vs[0]? == some (rawInt _))=true then _ else _) Q E s;rw[Zp (by intro h;rw[hn,Bool.false_and] at h;cases h)]
       exact Zu hQ))
noncomputable def nS(K:Frag)(a:Addr):It :=
 ⟨λi H=>∃xs x,bX K H a xs/\xs[i]?=some x,λi H x H'=>H'=H/\∀xs,bX K H a xs->xs[i]?=some x,λi H=>∃xs,bX K H a xs/\xs.length<=i⟩
noncomputable def nY(K:Frag)(a:Addr):It :=
 ⟨λi H=>∃xs x,dC K H a xs/\xs[i]?=some x,λi H x H'=>H'=H/\∀xs,dC K H a xs->xs[i]?=some x,λi H=>∃xs,dC K H a xs/\xs.length<=i⟩
noncomputable def mD(lo:Int)(n:Nat):It:=⟨λi _=>i<n,λi H x H'=>H'=H/\x=.int (lo+i),λi _=>n<=i⟩
def J1{K:Frag}(a it:Addr):Turn P w K tg (nS K a) [it] it (λi h=>h.IsListIter it a i) where
 mem:=by simp
 obj:=λi h st b hb=>by
  have e:b=it:=by simpa using hb
  subst e;obtain⟨o,e,c,d⟩:=st;exact⟨o,e,λv z=>by rw[d] at z;cases z⟩
 keep:=λi h h' st k=>st.at λo e=>k it (by simp) o e
 item:=by
  intro X hP hw hK hc i pins s Y H E I hf st hg;subst hP hw hK;obtain⟨xs,x,hq,hx⟩:=hg;obtain⟨its,rv,p,hz⟩:=I.list hq;obtain⟨u,hu,ru⟩:=rv.get hx;obtain⟨f0,f1,f2,f3,f4,f5⟩:=hf it (by simp);refine wpAny_pyNext_list_item st p.isList (x:=u) (by simpa using hu) λh' st' sb=>?_
  have I1:Inv X pins Y H { s with heap:=h' }:=I.turned (t':=s.toks) (λb o hb e=>(sb.2 b hb).trans e) f0 f1 f3 f4 f5;obtain⟨o,e,c,d⟩:=id st';exact⟨u,rfl,HH (s:={ s with heap:=h' }) e c d (by decide) ⟨x,H,I1,ru,⟨rfl,λys hy=>by rw[I.list_inj hy hq];exact hx⟩,st',λb hb=>(hf b hb).1⟩⟩
 done:=by(intro X hP hw hK hc i pins s Y H E I hf st hg;subst hP hw hK;obtain⟨xs,hq,hx⟩:=hg;obtain⟨its,rv,p,hz⟩:=I.list hq;obtain⟨f0,f1,f2,f3,f4,f5⟩:=hf it (by simp);have hl:=rv.length;exact wpAny_pyNext_list_end (I.ok.hd hc) st p.isList (by simp;omega) λh' eb=>⟨rfl,I.turned (t':=s.toks) (λb o hb e=>eb b o hb e) f0 f1 f3 f4 f5⟩)
 self:=λ_ _ _ _ _ st h=>wpAny_pyIter_listiter st h
def IY{K:Frag}(a it:Addr):Turn P w K tg (nY K a) [it] it (λi h=>h.IsTupleIter it a i) where
 mem:=by simp
 obj:=λi h st b hb=>by
  have e:b=it:=by simpa using hb
  subst e;obtain⟨o,e,c,d⟩:=st;exact⟨o,e,λv z=>by rw[d] at z;cases z⟩
 keep:=λi h h' st k=>st.at λo e=>k it (by simp) o e
 item:=by
  intro X hP hw hK hc i pins s Y H E I hf st hg;subst hP hw hK;obtain⟨xs,x,hq,hx⟩:=hg;obtain⟨its,rv,p,hz⟩:=I.tuple hq;obtain⟨u,hu,ru⟩:=rv.get hx;obtain⟨f0,f1,f2,f3,f4,f5⟩:=hf it (by simp);refine wpAny_pyNext_tuple_item st (show s.heap.IsTuple a its.toArray from p) (x:=u) (by simpa using hu) λh' st' sb=>?_
  have I1:Inv X pins Y H { s with heap:=h' }:=I.turned (t':=s.toks) (λb o hb e=>(sb.2 b hb).trans e) f0 f1 f3 f4 f5;obtain⟨o,e,c,d⟩:=id st';exact⟨u,rfl,HH (s:={ s with heap:=h' }) e c d (by decide) ⟨x,H,I1,ru,⟨rfl,λys hy=>by rw[I.tuple_inj hy hq];exact hx⟩,st',λb hb=>(hf b hb).1⟩⟩
 done:=by(intro X hP hw hK hc i pins s Y H E I hf st hg;subst hP hw hK;obtain⟨xs,hq,hx⟩:=hg;obtain⟨its,rv,p,hz⟩:=I.tuple hq;obtain⟨f0,f1,f2,f3,f4,f5⟩:=hf it (by simp);have hl:=rv.length;exact wpAny_pyNext_tuple_end (I.ok.hd hc) st (show s.heap.IsTuple a its.toArray from p) (by simp;omega) λh' eb=>⟨rfl,I.turned (t':=s.toks) (λb o hb e=>eb b o hb e) f0 f1 f3 f4 f5⟩)
 self:=λ_ _ _ _ _ st h=>wpAny_pyIter_tupleiter st h
def IP{K:Frag}(it:Addr)(lo:Int)(n:Nat):Turn P w K tg (mD lo n) [it] it (λi h=>IsRangeIter h it (lo+(i:Nat)*1) ((n:Int)-(i:Nat)) 1) where
 mem:=by simp
 obj:=λi h st b hb=>by
  have e:b=it:=by simpa using hb
  subst e
  exact⟨_,st,λv z=>by
   have z':Data.fields _=Data.cell v:=z
   cases z'⟩
 keep:=λi h h' st k=>k it (by simp) _ st
 item:=by
  intro X hP hw hK hc i pins s Y H E I hf st hg;subst hP hw hK;obtain⟨f0,f1,f2,f3,f4,f5⟩:=hf it (by simp);have W:=Walks.range (prog:=X.prog) (w:=X.w) (I.ok.hd hc) it lo 1 n;refine W.item i s _ _ hg st λv h' tk hv st' kk=>?_
  obtain⟨t,rfl⟩:=hv;have I1:Inv X pins Y H { s with heap:=h',toks:=tk }:=I.turned (λb o hb e=>kk b o (by simpa using hb) e) f0 f1 f3 f4 f5;refine⟨_,rfl,HH (s:={ s with heap:=h',toks:=tk }) (n:="range_iterator") st' rfl rfl (by decide) ⟨.int (lo+i),H,I1,⟨t, ?_⟩,⟨rfl,rfl⟩,st',λb hb=>(hf b hb).1⟩⟩;rw[Int.mul_one]
 done:=by(intro X hP hw hK hc i pins s Y H E I hf st hg;subst hP hw hK;obtain⟨f0,f1,f2,f3,f4,f5⟩:=hf it (by simp);exact wpAny_pyNext_range_end (I.ok.hd hc) st (by have:n<=i:=hg;omega) λh' eb=>⟨rfl,I.turned (t':=s.toks) (λb o hb e=>eb b o hb e) f0 f1 f3 f4 f5⟩)
 self:=λ_ _ _ _ _ st h=>wpAny_pyIter_rangeiter st h
section
variable{tg:Expr}
noncomputable def TX(K:Frag)(tl:TE):TI:=λY H R=>tl Y H λx H1=>∃a,x=.ref a/\(∃xs,bX K H1 a xs)/\R (nS K a) H1
noncomputable def aC2(K:Frag)(tl:TE):TI:=λY H R=>tl Y H λx H1=>∃a,x=.ref a/\(∃xs,dC K H1 a xs)/\R (nY K a) H1
def E5(hl:PE X l tl):PI X tg l (TX X.K tl):=by
 intro pins s Y H R I h;refine a7 (hl pins s Y H _ I h) λv s1 hz=>?_
 obtain⟨x,H1,I1,r1,q1⟩:=hz;obtain⟨a,e,⟨xs,hq⟩,q⟩:=q1;subst e;cases r1;obtain⟨its,rv,p,hz⟩:=I1.list hq;refine wpAny_pyIter_list p.isList ?_;refine⟨s1.heap.objs.size,[s1.heap.objs.size],_,_,H1,rfl,I1.kept (t':=s1.toks) λb o e=>Zd _ e,J1 a _,⟨_,Zw _ rfl,rfl,rfl⟩,λb hb=>?_,q⟩;have e:b=s1.heap.objs.size:=by simpa using hb
 subst e;exact I1.fpOk (Zq _) (I1.hok.fresh (Zq _))
def LW(hl:PE X l tl):PI X tg l (aC2 X.K tl):=by
 intro pins s Y H R I h;refine a7 (hl pins s Y H _ I h) λv s1 hz=>?_
 obtain⟨x,H1,I1,r1,q1⟩:=hz;obtain⟨a,e,⟨xs,hq⟩,q⟩:=q1;subst e;cases r1;obtain⟨its,rv,p,hz⟩:=I1.tuple hq;refine wpAny_pyIter_tuple (show s1.heap.IsTuple a its.toArray from p) ?_;refine⟨s1.heap.objs.size,[s1.heap.objs.size],_,_,H1,rfl,I1.kept (t':=s1.toks) λb o e=>Zd _ e,IY a _,⟨_,Zw _ rfl,rfl,rfl⟩,λb hb=>?_,q⟩;have e:b=s1.heap.objs.size:=by simpa using hb
 subst e;exact I1.fpOk (Zq _) (I1.hok.fresh (Zq _))
def CP{lo hi:Int}(I:Inv X pins Y H s)(h1:-(2 ^ 62)<=lo)(h2:lo<2 ^ 62)(h3:-(2 ^ 62)<=hi)(h4:hi<2 ^ 62)
  (q:R (mD lo (hi-lo).toNat) H):wpAny (model X.prog X.w) X.A (pyIter (.ref s.heap.objs.size)) (PIE X pins Y tg R) E { s with heap:=s.heap.push { cls:=.type "range",data:=.fields #[.int lo t,.int hi u,.int 1 v] },toks:=tk }:=by
 refine wpAny_pyIter_range (IsRange.new ..) (small_one h1 h2 h3 h4) ?_;have I1:Inv X pins Y H { s with heap:=s.heap.push { cls:=.type "range",data:=.fields #[.int lo t,.int hi u,.int 1 v] },toks:=tk }:=I.kept λb o e=>Zd _ e
 refine⟨(s.heap.push { cls:=.type "range",data:=.fields #[.int lo t,.int hi u,.int 1 v] }).objs.size,[(s.heap.push { cls:=.type "range",data:=.fields #[.int lo t,.int hi u,.int 1 v] }).objs.size],_,_,H,rfl,
  I1.kept (t':=tk) λb o e=>Zd _ e,IP _ lo (hi-lo).toNat, ?_,λb hb=>?_,q⟩
 ·have e1:lo+((0:Nat):Int)*1=lo:=by simp
  have e2:(((hi-lo).toNat:Nat):Int)-((0:Nat):Int)=Builtin.Range.rangeSize lo hi 1:=by rw[rangeSize_one];split<;>omega
  show IsRangeIter _ _ (lo+((0:Nat):Int)*1) ((((hi-lo).toNat:Nat):Int)-((0:Nat):Int)) 1;rw[e1,e2];exact Zw _ rfl
 ·have e:b=(s.heap.push { cls:=.type "range",data:=.fields #[.int lo t,.int hi u,.int 1 v] }).objs.size:=by simpa using hb
  subst e;exact I1.fpOk (Zq _) (I1.hok.fresh (Zq _))
noncomputable def SE(ta:TA):TI:=λY H R=>ta Y H λvs H1=>∃j:Int,vs=[.int j]/\-(2 ^ 62)<=j/\j<2 ^ 62/\R (mD 0 j.toNat) H1
noncomputable def TR(ta:TA):TI:=λY H R=>ta Y H λvs H1=>∃i j:Int,vs=[.int i,.int j]/\(-(2 ^ 62)<=i/\i<2 ^ 62/\-(2 ^ 62)<=j/\j<2 ^ 62)/\R (mD i (j-i).toNat) H1
def y4{p pos:Pos}(hg:Gl X "range")(hm:X.mg "range"=none)(ha:PA X [a] ta)(hs:starEach [a] X.env=[(false,eval a X.env)]:=by rfl):PI X tg (.Call (.Name "range" p) [a] [] pos) (SE ta):=by
 intro pins s Y H R I h;refine Call_ (lY I hg hm boot_range (PyProof.Rows.callWith_type1 (a7 (ha pos pins s Y H _ I h) λus s1 hz=>?_) hs rfl));obtain⟨vs,H1,I1,r1,q1⟩:=hz;obtain⟨j,e,q1,q2,q⟩:=q1;subst e
 cases r1 with
 |cons r rr =>
  cases rr;obtain⟨t,rfl⟩:=r;exact call_range_1 (CP I1 (by omega) (by omega) q1 q2 (by simpa using q))
def zC(hg:Gl X "range")(hm:X.mg "range"=none)(ha:PA X [a,b] ta)(hs:starEach [a,b] X.env=[(false,eval a X.env),(false,eval b X.env)]:=by rfl)(hs2:starEach [b] X.env=[(false,eval b X.env)]:=by rfl) :
  PI X tg (.Call (.Name "range" p) [a,b] [] pos) (TR ta):=by
 intro pins s Y H R I h;refine Call_ (lY I hg hm boot_range (PyProof.Rows.callWith_type1 (a7 (ha pos pins s Y H _ I h) λus s1 hz=>?_) (by rw[hs,hs2]) (by rw[hs2];rfl)));obtain⟨vs,H1,I1,r1,q1⟩:=hz;obtain⟨i,j,e,⟨q1,q2,q3,q4⟩,q⟩:=q1;subst e
 cases r1 with
 |cons r rr =>
  cases rr with
  |cons r' rr =>
   cases rr;obtain⟨t,rfl⟩:=r;obtain⟨t',rfl⟩:=r';exact call_range_2 (CP I1 q1 q2 q3 q4 q)
noncomputable def aGX(wi:TI)(g:TG)(tb:TS):TS:=λD Y H=>wi Y H λJ H1=>∃W:Nat->Nat->St->Hp->Prop,(∃m,W 0 m Y H1)/\∀i m Y H,W i m Y H ->
 (J.stop i H/\D.nx Y H)\/(J.go i H/\∃N:St->Hp->Prop,(∀Y' H',N Y' H'->∃m',m'<m/\W (i+1) m' Y' H')/\∀x H',J.yld i H x H'->g x Y H' λY2 H2=>tb { D with nx:=N,ct:=N,bk:=D.nx } Y2 H2)
noncomputable def qW(fp:List Addr)(h:Heap):List (Addr×Obj):=fp.filterMap λb=>(h.get? b).map λo=>(b,o)
def kY(hb:b∈fp)(e:h.get? b=some o):(b,o)∈qW fp h:=List.mem_filterMap.mpr ⟨b,hb,by rw[e];rfl⟩
def LC(hp:p∈qW fp h):p.1∈fp/\h.get? p.1=some p.2:=by
 obtain⟨b,hb,e⟩:=List.mem_filterMap.mp hp
 cases q:h.get? b with
 |none=>rw[q] at e;cases e
 |some o =>
  rw[q] at e;have e':(b,o)=p:=Option.some.inj e;subst e';exact⟨hb,q⟩
def Inv.pinned(I:Inv X pins Y H s)(hf:∀b∈fp,iZ X pins H b)(ho:∀b∈fp,∃o,s.heap.get? b=some o/\∀v,o.data≠.cell v):Inv X (pins++qW fp s.heap) Y H s :=
 I.pins_of λp hp=>(zp.mp hp).elim (λz=>I.pin p (List.mem_append_right _ z)) λz=>by(obtain⟨hb,e⟩:=LC z;obtain⟨f0,f1,f2,_⟩:=hf p.1 hb;obtain⟨o,e',d⟩:=ho p.1 hb;rw[e] at e';cases e';exact⟨e,f0,f1,f2,d⟩)
def Inv.unpinned(I:Inv X (pins++pl) Y H s):Inv X pins Y H s:=I.pins_of λp hp=>I.pin p (List.mem_append_right _ (List.mem_append_left _ hp))
def aAS(hp:PassesOwn (model X.prog X.w) X.A X.env X.xe)(hc:X.calm=true)(hi:PI X tg iter wi)(hg:PG X tg g)(hb:gN X body tb)
  (hs:∀x,foldedSetIterable iter X.env x=pure x:=by intro _;rfl):PS X (.For tg iter body [] pos) (aGX wi g tb):=by
 intro pins s Y H D I h;refine wpAny_For (a7 (hi pins s Y H _ I h) λv s1 h1=>a7 h1 λitv s2 h2=>?_) hs;obtain⟨it,fp,tn,J,H2,e,I2,T,st2,f2,W,⟨m0,w0⟩,turn⟩:=h2;subst e
 -- what stays true of the iterator's objects through the loop
 have stat:∀{H':Hp},(∀b∈fp,H' b=none)->∀b∈fp,iZ X pins H' b:=λhn b hb=>⟨hn b hb,(f2 b hb).2⟩
 refine codeAny_forLoop_any (λn s'=>∃i Y' H',Inv X pins Y' H' s'/\tn i s'.heap/\(∀b∈fp,H' b=none)/\W i n Y' H') ?_ m0 ⟨0,Y,H2,I2,st2,λb hb=>(f2 b hb).1,w0⟩
 rintro n s3 ⟨i,Y3,H3,I3,st3,fr3,w3⟩
 rcases turn i n Y3 H3 w3 with ⟨stop,qn⟩ | ⟨go,N,hN,step⟩
 ·refine wpAny_passesOwn hp (a7 (T.done X rfl rfl rfl hc i pins s3 Y3 H3 X.xe I3 (stat fr3) st3 stop) λr s4 hz=>?_);obtain⟨hr,I4⟩:=hz;subst hr;exact wpAny_execs_nil ⟨Y3,H3,I4,qn⟩
 ·refine wpAny_passesOwn hp (a7 (T.item X rfl rfl rfl hc i pins s3 Y3 H3 X.xe I3 (stat fr3) st3 go) λr s4 hz=>?_);obtain⟨u,hr,h4⟩:=hz;subst hr;refine wpAny_passesOwn hp (a7 h4 λ_ s5 hz=>?_);obtain⟨x,H5,I5,r5,y5,st5,fr5⟩:=hz;have I5':=I5.pinned (stat fr5) (T.obj _ _ st5);refine wpAny_passesOwn hp (a7 (hg _ s5 Y3 H5 x u _ I5' r5 (step x H5 y5)) λ_ s6 hz=>?_);obtain⟨Y6,H6,I6,q6⟩:=hz;refine wpAny_passesOwn hp (a7 (hb _ s6 Y6 H6 _ I6 q6) λf s7 q7=>?_)
  have again:∀{Y7:St} {H7:Hp},Inv X (pins++qW fp s5.heap) Y7 H7 s7->N Y7 H7->∃m,m<n/\∃i Y' H',Inv X pins Y' H' s7/\tn i s7.heap/\(∀b∈fp,H' b=none)/\W i m Y' H':=λ{Y7 H7} I7 n7=>by(obtain⟨m',hm,w7⟩:=hN Y7 H7 n7;refine⟨m',hm,i+1,Y7,H7,I7.unpinned,T.keep _ _ _ st5 λb hb o e=>(I7.pin (b,o) (List.mem_append_right _ (List.mem_append_right _ (kY hb e)))).1,λb hb=>?_,w7⟩;obtain⟨o,e,d⟩:=T.obj _ _ st5 b hb;exact(I7.pin (b,o) (List.mem_append_right _ (List.mem_append_right _ (kY hb e)))).2.1)
  cases f with
  |next=>obtain⟨Y7,H7,I7,n7⟩:=q7;exact again I7 n7
  |cont=>obtain⟨Y7,H7,I7,n7⟩:=q7;exact again I7 n7
  |brk=>obtain⟨Y7,H7,I7,q7⟩:=q7;exact⟨Y7,H7,I7.unpinned,q7⟩
  |ret v=>obtain⟨x7,Y7,H7,I7,r7,q7⟩:=q7;exact⟨x7,Y7,H7,I7.unpinned,r7,q7⟩
end
def OF{K:Frag}{g:TG}{tb:TS}{D:Ends}(Pv:Nat->St->Hp->Prop)(h0:Pv 0 Y H)(hl:∀i Y H,i<=xs.length->Pv i Y H->bX K H a xs)
  (hs:∀i x Y H,xs[i]?=some x->Pv i Y H->g x Y H λY2 H2=>tb { D with nx:=Pv (i+1),ct:=Pv (i+1),bk:=D.nx } Y2 H2) (hd:∀Y H,Pv xs.length Y H->D.nx Y H) :
  ∃W:Nat->Nat->St->Hp->Prop,(∃m,W 0 m Y H)/\∀i m Y H,W i m Y H ->
   ((nS K a).stop i H/\D.nx Y H)\/((nS K a).go i H/\∃N:St->Hp->Prop,(∀Y' H',N Y' H'->∃m',m'<m/\W (i+1) m' Y' H')/\∀x H',(nS K a).yld i H x H'->g x Y H' λY2 H2=>tb { D with nx:=N,ct:=N,bk:=D.nx } Y2 H2):=by
 refine⟨λi m Y H=>m=xs.length-i/\i<=xs.length/\Pv i Y H,⟨xs.length,by simp,Nat.zero_le _,h0⟩, ?_⟩
 rintro i m Y H ⟨rfl,hi,p⟩
 have q:=hl i Y H hi p;by_cases hlt:i<xs.length
 ·refine .inr ⟨⟨xs,xs[i],q,by simp[hlt]⟩,Pv (i+1),λY' H' p'=>⟨xs.length-(i+1),by omega,rfl,hlt,p'⟩,λx H' y=>?_⟩;obtain⟨e,y⟩:=y;subst e;exact hs i x Y _ (y xs q) p
 ·have e:i=xs.length:=by omega
  subst e;exact .inl ⟨⟨xs,q,Zq _⟩,hd Y H p⟩
def V3{K:Frag}{g:TG}{tb:TS}{D:Ends}(Pv:Nat->St->Hp->Prop)(h0:Pv 0 Y H)(hl:∀i Y H,i<=xs.length->Pv i Y H->dC K H a xs)
  (hs:∀i x Y H,xs[i]?=some x->Pv i Y H->g x Y H λY2 H2=>tb { D with nx:=Pv (i+1),ct:=Pv (i+1),bk:=D.nx } Y2 H2) (hd:∀Y H,Pv xs.length Y H->D.nx Y H) :
  ∃W:Nat->Nat->St->Hp->Prop,(∃m,W 0 m Y H)/\∀i m Y H,W i m Y H ->
   ((nY K a).stop i H/\D.nx Y H)\/((nY K a).go i H/\∃N:St->Hp->Prop,(∀Y' H',N Y' H'->∃m',m'<m/\W (i+1) m' Y' H')/\∀x H',(nY K a).yld i H x H'->g x Y H' λY2 H2=>tb { D with nx:=N,ct:=N,bk:=D.nx } Y2 H2):=by
 refine⟨λi m Y H=>m=xs.length-i/\i<=xs.length/\Pv i Y H,⟨xs.length,by simp,Nat.zero_le _,h0⟩, ?_⟩
 rintro i m Y H ⟨rfl,hi,p⟩
 have q:=hl i Y H hi p;by_cases hlt:i<xs.length
 ·refine .inr ⟨⟨xs,xs[i],q,by simp[hlt]⟩,Pv (i+1),λY' H' p'=>⟨xs.length-(i+1),by omega,rfl,hlt,p'⟩,λx H' y=>?_⟩;obtain⟨e,y⟩:=y;subst e;exact hs i x Y _ (y xs q) p
 ·have e:i=xs.length:=by omega
  subst e;exact .inl ⟨⟨xs,q,Zq _⟩,hd Y H p⟩
def NH{lo:Int}{g:TG}{tb:TS}{D:Ends}(Pv:Nat->St->Hp->Prop)(h0:Pv 0 Y H)
  (hs:∀i Y H,i<n->Pv i Y H->g (.int (lo+i)) Y H λY2 H2=>tb { D with nx:=Pv (i+1),ct:=Pv (i+1),bk:=D.nx } Y2 H2) (hd:∀Y H,Pv n Y H->D.nx Y H) :
  ∃W:Nat->Nat->St->Hp->Prop,(∃m,W 0 m Y H)/\∀i m Y H,W i m Y H ->
   ((mD lo n).stop i H/\D.nx Y H)\/((mD lo n).go i H/\∃N:St->Hp->Prop,(∀Y' H',N Y' H'->∃m',m'<m/\W (i+1) m' Y' H')/\∀x H',(mD lo n).yld i H x H'->g x Y H' λY2 H2=>tb { D with nx:=N,ct:=N,bk:=D.nx } Y2 H2):=by
 refine⟨λi m Y H=>m=n-i/\i<=n/\Pv i Y H,⟨n,by simp,Nat.zero_le _,h0⟩, ?_⟩
 rintro i m Y H ⟨rfl,hi,p⟩
 by_cases hlt:i<n
 ·refine .inr ⟨hlt,Pv (i+1),λY' H' p'=>⟨n-(i+1),by omega,rfl,hlt,p'⟩,λx H' y=>?_⟩;obtain⟨e,y⟩:=y;subst e y;exact hs i Y _ hlt p
 ·have e:i=n:=by omega
  subst e;exact .inl ⟨Zq _,hd Y H p⟩
abbrev R2:=V->V->Hp->VK->Prop
def eW(X:Cx)(f:Value->Value->Sem Value)(r:R2):Prop :=
 ∀(pins:List (Addr×Obj)) (s:Shared) (Y:St) (H:Hp) (x y:V) (v u:Value) (Q:VK),Inv X pins Y H s->aY x v->aY y u->r x y H Q ->
  wpAny (model X.prog X.w) X.A (f v u) (EP X pins Y Q) X.xe s
def UnR(X:Cx)(f:Value->Sem Value)(r:V->Hp->VK->Prop):Prop :=
 ∀(pins:List (Addr×Obj)) (s:Shared) (Y:St) (H:Hp) (x:V) (v:Value) (Q:VK),Inv X pins Y H s->aY x v->r x H Q ->
  wpAny (model X.prog X.w) X.A (f v) (EP X pins Y Q) X.xe s
def iO(X:Cx)(f:Value)(r:List V->Hp->VK->Prop):Prop :=
 ∀(pins:List (Addr×Obj)) (s:Shared) (Y:St) (H:Hp) (xs:List V) (us:List Value) (Q:VK),Inv X pins Y H s->aQ xs us->r xs H Q ->
  wpAny (model X.prog X.w) X.A (call f us) (EP X pins Y Q) X.xe s
def aGe(X:Cx)(r:V->Hp->(Bool->Hp->Prop)->Prop):Prop :=
 ∀(pins:List (Addr×Obj)) (s:Shared) (Y:St) (H:Hp) (x:V) (v:Value) (Q:Bool->Hp->Prop),Inv X pins Y H s->aY x v->r x H Q ->
  wpAny (model X.prog X.w) X.A (truthy v) (TP X pins Y Q) X.xe s
noncomputable def LG(r:R2)(ta tb:TE):TE:=λY H Q=>ta Y H λx H1=>tb Y H1 λy H2=>r x y H2 Q
noncomputable def tUn(r:V->Hp->VK->Prop)(ta:TE):TE:=λY H Q=>ta Y H λx H1=>r x H1 Q
noncomputable def rI(C:Int->Int->Prop)(g:Int->Int->V):R2:=λx y H Q=>∃i j,x=.int i/\y=.int j/\C i j/\Q (g i j) H
noncomputable def uU(g:Int->Int->V):R2:=λx y H Q=>∃i j,x=.int i/\y=.int j/\Q (g i j) H
def rU(g:Int->V):V->Hp->VK->Prop:=λx H Q=>∃i,x=.int i/\Q (g i) H
section
variable{pos:Pos}
def RO(ha:PE X a ta)(hb:PE X b tb){R:V->V->Hp->Prop}(I:Inv X pins Y H s)
  (h:ta Y H λx H1=>tb Y H1 λy H2=>R x y H2) {f:Value->Value->Sem Value}
  (hf:∀v u s2 x y H2,Inv X pins Y H2 s2->aY x v->aY y u->R x y H2->wpAny (model X.prog X.w) X.A (f v u) Q X.xe s2) :
  wpAny (model X.prog X.w) X.A (eval a X.env) (λv s₁=>wpAny (model X.prog X.w) X.A (eval b X.env) (λu s₂=>wpAny (model X.prog X.w) X.A (f v u) Q X.xe s₂) X.xe s₁) X.xe s:=by
 refine a7 (ha pins s Y H _ I h) λv s1 hz=>?_
 obtain⟨x,H1,I1,r1,q1⟩:=hz;refine a7 (hb pins s1 Y H1 _ I1 q1) λu s2 hz=>?_
 obtain⟨y,H2,I2,r2,q2⟩:=hz;exact hf v u s2 x y H2 I2 r1 r2 q2
def aFk(ho:eW X (binaryOp op) r)(ha:PE X a ta)(hb:PE X b tb):PE X (.BinOp a op b pos) (LG r ta tb):=by
 intro pins s Y H Q I h;exact wpAny_BinOp (RO ha hb I h λv u s2 x y H2 I2 rx ry q=>ho pins s2 Y H2 x y v u Q I2 rx ry q)
def aFc(ho:UnR X (unaryOp op) r)(ha:PE X a ta):PE X (.UnaryOp op a pos) (tUn r ta):=by
 intro pins s Y H Q I h;exact UnaryOp_ (a7 (ha pins s Y H _ I h) λv s1 ⟨x,H1,I1,r1,q1⟩=>ho pins s1 Y H1 x v Q I1 r1 q1)
def LU{g:Int->Int->Int}
  (rule:∀(i j:Int) (t u:Tok) (s:Shared) (Q:Value->Shared->Prop) (E:Value->Shared->Prop),C i j->Q (.int (g i j) s.toks) { s with toks:=s.toks+1 }->wpAny (model X.prog X.w) X.A (f (.int i t) (.int j u)) Q E s) :
  eW X f (rI C λi j=>.int (g i j)):=by
 intro pins s Y H x y v u Q I rx ry h;obtain⟨i,j,rfl,rfl,hc,q⟩:=h;obtain⟨t,rfl⟩:=rx;obtain⟨t',rfl⟩:=ry;exact rule i j t t' s _ _ hc ⟨.int (g i j),H,I.tok _,⟨_,rfl⟩,q⟩
def Q0{g:Int->Int->Int}
  (rule:∀(i j:Int) (t u:Tok) (s:Shared) (Q:Value->Shared->Prop) (E:Value->Shared->Prop),Q (.int (g i j) s.toks) { s with toks:=s.toks+1 }->wpAny (model X.prog X.w) X.A (f (.int i t) (.int j u)) Q E s) :
  eW X f (uU λi j=>.int (g i j)):=by
 intro pins s Y H x y v u Q I rx ry h;obtain⟨i,j,rfl,rfl,q⟩:=h;obtain⟨t,rfl⟩:=rx;obtain⟨t',rfl⟩:=ry;exact rule i j t t' s _ _ ⟨.int (g i j),H,I.tok _,⟨_,rfl⟩,q⟩
def F9{g:Int->Int->Bool}
  (rule:∀(i j:Int) (t u:Tok) (s:Shared) (Q:Value->Shared->Prop) (E:Value->Shared->Prop),Q (.bool (g i j)) s->wpAny (model X.prog X.w) X.A (f (.int i t) (.int j u)) Q E s) :
  eW X f (uU λi j=>.bl (g i j)):=by
 intro pins s Y H x y v u Q I rx ry h;obtain⟨i,j,rfl,rfl,q⟩:=h;obtain⟨t,rfl⟩:=rx;obtain⟨t',rfl⟩:=ry;exact rule i j t t' s _ _ ⟨.bl (g i j),H,I,rfl,q⟩
def aF6(i j:Int):Prop:=0<=j/\j<=1000000/\i.natAbs<2 ^ 64
def NQ(i j:Int):Prop:=(-(2 ^ 64)<i/\i<2 ^ 64)\/(-(2 ^ 64)<j/\j<2 ^ 64)
def NQ.ok(h:NQ i j):IntMulOk i j:=by
 rcases h with ⟨h1,h2⟩ | ⟨h1,h2⟩
 ·exact .of_left (intBits_le_64 h1 h2)
 ·exact .of_right (intBits_le_64 h1 h2)
def two_pow_nn(k:Nat):(0:Int)<=2 ^ k:=by
 rw[two_pow_cast];exact Int.natCast_nonneg _
def Z8:eW X (binaryOp .Add) (uU λi j=>.int (i+j)):=Q0 λ_ _ _ _ _ _ _ q=>add_int q
def aCf:eW X (binaryOp .Sub) (uU λi j=>.int (i-j)):=Q0 λ_ _ _ _ _ _ _ q=>sub_int q
def aBt:eW X (binaryOp .Mult) (rI NQ λi j=>.int (i*j)):=LU λ_ _ _ _ _ _ _ hc q=>mul_int q hc.ok
def aAD:eW X (binaryOp .Mod) (rI (λ_ j=>0<j) λi j=>.int (i % j)):=LU λi j _ _ _ _ _ hc q=>by
 have h1:(0:Int)<j:=hc;exact mod_int' (by omega) (by rw[Int.fmod_eq_emod_of_nonneg i (by omega)];exact q)
def aDf:eW X (binaryOp .LShift) (rI aF6 λi j=>.int (i*2 ^ j.toNat)):=LU λ_ _ _ _ _ _ _ hc q=>lshift_int_small hc.1 hc.2.1 hc.2.2 q
def aBw:eW X (binaryOp .RShift) (rI (λ_ j=>0<=j) λi j=>.int (i / 2 ^ j.toNat)):=LU λi j _ _ _ _ _ hc q =>
 rshift_int hc (by rw[Int.fdiv_eq_ediv_of_nonneg i (two_pow_nn _)];exact q)
def aAQ:eW X (binaryOp .BitAnd) (uU λi j=>.int (Builtin.bitAnd i j)):=Q0 λ_ _ _ _ _ _ _ q=>and_int q
def unI{g:Int->Int}
  (rule:∀(i:Int) (t:Tok) (s:Shared) (Q:Value->Shared->Prop) (E:Value->Shared->Prop),Q (.int (g i) s.toks) { s with toks:=s.toks+1 }->wpAny (model X.prog X.w) X.A (f (.int i t)) Q E s) :
  UnR X f (rU λi=>.int (g i)):=by
 intro pins s Y H x v Q I rx h;obtain⟨i,rfl,q⟩:=h;obtain⟨t,rfl⟩:=rx;exact rule i t s _ _ ⟨.int (g i),H,I.tok _,⟨_,rfl⟩,q⟩
def aCt:UnR X (unaryOp .USub) (rU λi=>.int (-i)):=unI λ_ _ _ _ _ q=>neg_int q
end
section
variable{pos:Pos}
def K0(I:Inv X pins Y H s)(q:Q (.bl k) H)(e:k=k'):EP X pins Y Q (.bool k') s:=by
 subst e;exact⟨.bl k,H,I,rfl,q⟩
def aDQ:eW X (compareOp .Lt) (uU λi j=>.bl (decide (i<j))):=F9 λ_ _ _ _ _ _ _ q=>lt_int q
def aDW:eW X (compareOp .LtE) (uU λi j=>.bl (decide (i<=j))):=F9 λ_ _ _ _ _ _ _ q=>le_int q
def aFo:eW X (compareOp .Gt) (uU λi j=>.bl (decide (j<i))):=F9 λ_ _ _ _ _ _ _ q=>gt_int q
def aE6:eW X (compareOp .GtE) (uU λi j=>.bl (decide (j<=i))):=F9 λ_ _ _ _ _ _ _ q=>ge_int q
def aDq:eW X (compareOp .Is) (λx y H Q=>y=.non/\Q (.bl (decide (x=.non))) H):=by
 intro pins s Y H x y v u Q I rx ry h;obtain⟨rfl,q⟩:=h;cases ry;refine is_none_gen (K0 I q ?_)
 cases x<;>first
  | (cases rx;rfl)
  | (obtain⟨t,rfl⟩:=rx;rfl)
def XJ:eW X (compareOp .IsNot) (λx y H Q=>y=.non/\Q (.bl (!decide (x=.non))) H):=by
 intro pins s Y H x y v u Q I rx ry h;obtain⟨rfl,q⟩:=h;cases ry;refine isnot_none_gen (K0 I q ?_)
 cases x<;>first
  | (cases rx;rfl)
  | (obtain⟨t,rfl⟩:=rx;rfl)
def YO(ho:eW X (compareOp op) r)(ha:PE X a ta)(hb:PE X b tb)(hm:behindInMarks op b=false):PE X (.Compare a [op] [b] pos) (LG r ta tb):=by
 intro pins s Y H Q I h;exact wpAny_Compare1 (RO ha hb I h λv u s2 x y H2 I2 rx ry q=>ho pins s2 Y H2 x y v u Q I2 rx ry q) hm
noncomputable def TY(t:TE):TT:=λY H Q=>t Y H λx H'=>∃k,x=.bl k/\Q k H'
def XQ(ho:eW X (compareOp op) r)(ha:PE X a ta)(hb:PE X b tb)(hm:behindInMarks op b=false):PT X (.Compare a [op] [b] pos) (TY (LG r ta tb)):=by
 intro pins s Y H Q I h
 refine wpAny_isTrue_Compare1 (a7 (ha pins s Y H _ I h) λv s1 ⟨x,H1,I1,r1,q1⟩=>a7 (hb pins s1 Y H1 _ I1 q1) λu s2 ⟨y,H2,I2,r2,q2⟩ =>
  a7 (ho pins s2 Y H2 x y v u _ I2 r1 r2 q2) λc s3 ⟨z,H3,I3,r3,k,e,q3⟩=>?_) hm
 subst e;cases r3;exact wpAny_truthy_bool ⟨H3,I3,q3⟩
noncomputable def A6(r r':R2)(ta tb tc:TE):TE:=λY H Q=>ta Y H λx H1=>tb Y H1 λy H2=>r x y H2 λz H3=>∃k,z=.bl k /\
 (if k=true then tc Y H3 λw' H4=>r' y w' H4 Q else Q (.bl false) H3)
def PB(ho:eW X (compareOp op) r)(ho':eW X (compareOp op') r')(ha:PE X a ta)(hb:PE X b tb)(hc:PE X c tc)
  (hm:lastMarks [op,op'] [b,c]=false:=by with_unfolding_all rfl):PE X (.Compare a [op,op'] [b,c] pos) (A6 r r' ta tb tc):=by
 intro pins s Y H Q I h
 refine Compare_chain (a7 (ha pins s Y H _ I h) λv s1 ⟨x,H1,I1,r1,q1⟩=>chain_link (a7 (hb pins s1 Y H1 _ I1 q1) λu s2 ⟨y,H2,I2,r2,q2⟩ =>
  a7 (ho pins s2 Y H2 x y v u _ I2 r1 r2 q2) λd s3 ⟨z,H3,I3,r3,k,e,q3⟩=>?_)) hm
 subst e;cases r3;refine wpAny_truthy_bool ?_
 cases k with
 |false=>exact ite_ff ⟨.bl false,H3,I3,rfl,q3⟩
 |true=>exact ite_tt (chain_last (a7 (hc pins s3 Y H3 _ I3 q3) λw' s4 ⟨z',H4,I4,r4,q4⟩=>ho' pins s4 Y H4 y z' u w' Q I4 r2 r4 q4))
def O9(ho:eW X (compareOp op) r)(ho':eW X (compareOp op') r')(ha:PE X a ta)(hb:PE X b tb)(hc:PE X c tc)
  (hm:lastMarks [op,op'] [b,c]=false:=by with_unfolding_all rfl):PT X (.Compare a [op,op'] [b,c] pos) (TY (A6 r r' ta tb tc)):=by
 intro pins s Y H Q I h
 refine isTrue_chain (a7 (ha pins s Y H _ I h) λv s1 ⟨x,H1,I1,r1,q1⟩=>test_link (a7 (hb pins s1 Y H1 _ I1 q1) λu s2 ⟨y,H2,I2,r2,q2⟩ =>
  a7 (ho pins s2 Y H2 x y v u _ I2 r1 r2 q2) λd s3 ⟨z,H3,I3,r3,k,e,q3⟩=>?_)) hm
 subst e;cases r3;refine wpAny_truthy_bool ?_
 cases k with
 |false =>
  obtain⟨k',e',q'⟩:=q3;cases e';exact ite_ff ⟨H3,I3,q'⟩
 |true =>
  refine ite_tt (test_last (a7 (hc pins s3 Y H3 _ I3 q3) λw' s4 ⟨z',H4,I4,r4,q4⟩=>a7 (ho' pins s4 Y H4 y z' u w' _ I4 r2 r4 q4) λd' s5 hz=>?_));obtain⟨z2,H5,I5,r5,k2,e2,q5⟩:=hz;subst e2;cases r5;exact wpAny_truthy_bool ⟨H5,I5,q5⟩
def JJ(K:Frag)(x:V)(H:Hp)(k:Bool):Prop :=
 match x with
 |.non=>k=false
 |.bl b=>k=b
 |.int i=>k=(i != 0)
 |.str y=>y.length<=sizeLine/\k=((y.length:Int) != 0)
 |.ref p=>(∃xs,bX K H p xs/\k=!xs.isEmpty)\/(∃xs,dC K H p xs/\k=!xs.isEmpty)\/∃kvs,H p=some (.dK kvs)/\k=!kvs.isEmpty
 |_=>False
def JD(r:KV kvs vs):(!vs.isEmpty)=!kvs.isEmpty:=by
 cases r<;>rfl
def vV(r:aQ xs its):(!its.toArray.isEmpty)=!xs.isEmpty:=by
 cases r<;>simp
def lM:(sizeLine:Nat)<2 ^ 63:=by rw[sizeLine_eq];decide
def M7:aGe X (λx H Q=>∃k,JJ X.K x H k/\Q k H):=by
 intro pins s Y H x v Q I rx h;obtain⟨k,e,q⟩:=h;have hl:=lM;have hs:sizeLine=16777216:=sizeLine_eq
 cases x with
 |non =>
  cases rx;have e':k=false:=e;subst e';exact truthy_none ⟨H,I,q⟩
 |bl b =>
  cases rx;have e':k=b:=e;subst e';exact wpAny_truthy_bool ⟨H,I,q⟩
 |int i =>
  obtain⟨t,rfl⟩:=rx;have e':k=(i != 0):=e;subst e';exact PySem.P.truthy_int ⟨H,I,q⟩
 |str y =>
  obtain⟨t,rfl⟩:=rx;obtain⟨hy,e'⟩:y.length<=sizeLine/\k=((y.length:Int) != 0):=e;subst e';exact PySem.P.truthy_str (by omega) ⟨H,I.tok _,q⟩
 |ref p =>
  cases rx;have e':(∃xs,bX X.K H p xs/\k=!xs.isEmpty)\/(∃xs,dC X.K H p xs/\k=!xs.isEmpty)\/∃kvs,H p=some (.dK kvs)/\k=!kvs.isEmpty:=e
  rcases e' with ⟨xs,hx,e'⟩ | ⟨xs,hx,e'⟩ | ⟨kvs,hx,e'⟩
  ·subst e';obtain⟨its,r,pl,hz⟩:=I.list hx;have hlen:=r.length;exact wpAny_truthy_list pl.isList (by simp only[Zi];omega) ⟨H,I.tok _,by rw[vV r];exact q⟩
  ·subst e';obtain⟨its,r,pl,hz⟩:=I.tuple hx;have hlen:=r.length;exact truthy_tuple pl (by simp only[Zi];omega) ⟨H,I.tok _,by rw[vV r];exact q⟩
  ·subst e';obtain⟨hz,hS,vs,r,m⟩:kvs.length<=sizeLine/\(p==sysModules)=false/\∃vs,KV kvs vs/\s.heap.DictOf (f9 X.prog X.w) p vs:=I.hok p _ hx
   have hlen:kvs.length=vs.length:=Paired.length r;exact wpAny_truthy_dict hS m (by omega) ⟨H,I.tok _,by rw[JD r];exact q⟩
 |_=>exact(show False from e).elim
def DQ(ha:PE X a ta)(he:∀whole,isTrue a X.env whole=(do let v <- whole;standAt a.pos;holding [v] (truthy v))) :
  PT X a (λY H Q=>ta Y H λx H'=>∃k,JJ X.K x H' k/\Q k H'):=by
 intro pins s Y H Q I h;exact isTrue_plain (a7 (ha pins s Y H _ I h) λv s1 ⟨x,H1,I1,r1,q1⟩=>M7 pins s1 Y H1 x v Q I1 r1 q1) (he _)
def kB(r:aQ [x] us):∃u,us=[u]/\aY x u:=by
 cases r with
 |cons r1 r2=>cases r2;exact⟨_,rfl,r1⟩
def aEY(r:aQ [x,y] us):∃u w',us=[u,w']/\aY x u/\aY y w':=by
 cases r with
 |cons r1 r2 =>
  cases r2 with
  |cons r3 r4=>cases r4;exact⟨_,_,rfl,r1,r3⟩
def QZ:iO X (.builtin "abs") (λxs H Q=>∃i,xs=[.int i]/\Q (.int (if i<0 then -i else i)) H):=by
 intro pins s Y H xs us Q I r h;obtain⟨i,rfl,q⟩:=h;obtain⟨u,rfl,t,rfl⟩:=kB r;exact call_abs_int λu tk=>⟨.int (if i<0 then -i else i),H,I.tok _,⟨_,rfl⟩,q⟩
def yU:iO X (.type "int") (λxs H Q=>(∃i,xs=[.int i]/\Q (.int i) H)\/∃k,xs=[.bl k]/\Q (.int (if k then 1 else 0)) H):=by
 intro pins s Y H xs us Q I r h;rcases h with ⟨i,rfl,q⟩ | ⟨k,rfl,q⟩
 ·obtain⟨u,rfl,t,rfl⟩:=kB r;exact call_int_int ⟨.int i,H,I,⟨_,rfl⟩,q⟩
 ·obtain⟨u,rfl,r1⟩:=kB r;cases r1;exact call_int_bool ⟨.int (if k then 1 else 0),H,I.tok _,⟨_,rfl⟩,q⟩
end
structure ObjM(h:Heap)(x dx C:Addr)(mA:Str->Option Value):Prop where
 obj:h.get? x=some (PySem.W.instObj C dx)
 ns:h.Ns1 dx mA
 ne:dx≠x
def K5{h:Heap}(n:h.Ns1 dx mA):∃od,h.get? dx=some od/\∀name,PySem.W.lookIn name od=some (mA name):=by
 obtain⟨o,es,ep,ho,hd,hk,_,hm⟩:=n;refine⟨o,ho,λname=>?_⟩;have e:=hm name;unfold nsFind findBy at e;rw[<- Array.find?_toList] at e;unfold PySem.W.lookIn;rw[hd];dsimp only;split
 ·rename_i y q;rw[q] at e;exact congrArg some e
 ·rename_i q;rw[q] at e
  have a:es.toList.any (·.refKey)=false:=by(rw[List.any_eq_false];intro y hy;obtain⟨z,t,hkey⟩:=hk y (Array.mem_toList_iff.mp hy);simp[DictEntry.refKey,hkey])
  have a':¬es.toList.any (·.refKey)=true:=by rw[a];exact Bool.false_ne_true
  rw[Zp a'];exact congrArg some e
def ObjM.look(I:ObjM h x dx C mA):∃od,PySem.W.InstAt h x (PySem.W.instObj C dx) C (some od)/\∀name,PySem.W.lookIn name od=some (mA name) :=
 let ⟨od,ho,hl⟩:=K5 I.ns
 ⟨od,⟨I.obj,rfl,rfl,ho⟩,hl⟩
section
variable{K:Frag}
def YR(X:K.In s.heap)(I:ObjM s.heap x dx C mA)(hg:PySem.W.plainGet K C name=true)(hh:PySem.W.hasDictIn K C=true)
  (ha:findIn K (.ref C) name=some none) (hv:mA name=some v) (hv':PySem.W.handedIn v=true) (h:Q v { s with toks:=s.toks+1 }) :
  wpAny (model prog w) A (getAttr (.ref x) name expr) Q E s:=by
 obtain⟨od,J,hl⟩:=I.look;exact PySem.W.get_value X J (PySem.W.plainGet_of hg).1 (PySem.W.findObj_own hh ha rfl (by rw[hl,hv])) hv' h
def OP(X:K.In s.heap)(I:ObjM s.heap x dx C mA)(hg:PySem.W.plainGet K C name=true)
  (hf:findIn K (.ref C) name=some (some (.ref f))) (ht:PySem.W.isFn K (.ref f)=true) (hv:mA name=none) (h:Q (.ref f,[.ref x]) s) :
  wpAny (model prog w) A (getMethod (.ref x) name pl) Q E s:=by
 obtain⟨od,J,hl⟩:=I.look;exact PySem.W.method_fn X J (PySem.W.plainGet_of hg).1 (PySem.W.plainGet_of hg).2 hf (beq_iff_eq.mp ht) (by show(PySem.W.lookIn name od).map (·.isSome)=some false;rw[hl,hv];rfl) h
def VH(X:K.In s.heap)(I:ObjM s.heap x dx C mA)
  (hs:findIn K (.ref C) "__setattr__"=some (some (.builtin "object.__setattr__"))) (hp:PySem.W.plainOver K C=true) (ht:PySem.W.takerIn K C name=some none) (hh:PySem.W.hasDictIn K C=true)
  (hw:PySem.Within mA ns) (hsz:ns.length<=sizeLine)
  (h:∀h',ObjM h' x dx C (λy=>if y=name then some v else mA y)->Heap.SameBut dx s.heap h'->Q () { s with heap:=h',toks:=s.toks+2 }) :
  wpAny (model prog w) A (setAttr (.ref x) name v) Q E s:=by
 obtain⟨od,J,hl⟩:=I.look;refine PySem.W.set_plain X J hs (PySem.W.osa_open (s:={ s with toks:=s.toks+1 }) (r:=none) X J hp ht λb=>?_);obtain⟨cd,hc,hd'⟩:=PySem.W.any_some hh;have hx:s.heap.get? x=some ⟨.ref C,some dx,.plain,#[]⟩:=I.obj;refine Zt (Zu (Zt (Zt (wpAny_loadPart hx (Zt (PySem.W.Looks.here (s:={ s with toks:=s.toks+1 }) (PySem.W.looks_clsIn X hc) ?_))))));rw[hd'];refine Zu (a:=some dx) (Zt (Zu (Zt ?_)));refine wpAny_nsSet1 (s:={ s with toks:=s.toks+1 }) I.ns λh' hn2 hs2=>?_
 obtain⟨oD,esD,epD,hoD,K9,hcD⟩:=hn2.count (PySem.Within.cons name v hw);refine Zt (wpAny_lookBehind hoD (by rw[K9];exact pastItsLine_dict (Zr hcD (by rw[Zk];omega))) ?_);exact Zu (h _ ⟨(hs2.2 _ (Ne.symm I.ne)).trans I.obj,hn2,I.ne⟩ hs2)
def OE(X:K.In s.heap)(hm:PySem.W.makesIn K C=true)
  (hi:findIn K (.ref C) "__init__"=some (some (.ref f))) (hf:PySem.W.typeIn K (.ref f)=some (.type "function"))
  (h:codeAny (model prog w) (A.under (.builtin "type.__call__" ⟨.ref C::vs,kw⟩)) (.call (.ref f) ⟨.ref (s.heap.objs.size+1)::vs,kw⟩) (PySem.W.InitBack (s.heap.objs.size+1) R)
   { s with heap:=(s.heap.push PySem.W.emptyDict).push (PySem.W.instObj C s.heap.objs.size) }) :
  codeAny (model prog w) A (.call (.ref C) ⟨vs,kw⟩) R s:=by
 obtain⟨hh,g,d,t,os⟩:=s;exact PySem.W.make_core (PySem.W.makes_of X hm) (PySem.W.looks_findIn X hi) (λself=>PySem.W.bind_fn X self hf) (.inl rfl) h
end
noncomputable def gI(f:Str)(v:V):List (Str×V)->List (Str×V)
 |[]=>[(f,v)]
 | (g,x)::r=>if g=f then(g,v)::r else(g,x)::gI f v r
theorem sJ(f g:Str)(v:V):∀fs:List (Str×V),(gI f v fs).lookup g=if g=f then some v else fs.lookup g
 |[]=>by
  show List.lookup g [(f,v)]=_;by_cases h:g=f
  ·have hb:(g==f)=true:=beq_iff_eq.mpr h;simp only[List.lookup,hb,Zo h]
  ·have hb:(g==f)=false:=beq_eq_false_iff_ne.mpr h;simp only[List.lookup,hb,Zp h]
 | (k,x)::r=>by
  have ih:=sJ f g v r;rw[show gI f v ((k,x)::r)=(if k=f then(k,v)::r else(k,x)::gI f v r) from rfl];by_cases hk:k=f
  ·rw[Zo hk];by_cases h:g=k
   ·have hb:(g==k)=true:=beq_iff_eq.mpr h;simp only[List.lookup,hb,Zo (h.trans hk)]
   ·have hb:(g==k)=false:=beq_eq_false_iff_ne.mpr h;simp only[List.lookup,hb,Zp (λe:g=f=>h (e.trans hk.symm))]
  ·rw[Zp hk];by_cases h:g=k
   ·have hb:(g==k)=true:=beq_iff_eq.mpr h;simp only[List.lookup,hb,Zp (λe:g=f=>hk (h.symm.trans e))]
   ·have hb:(g==k)=false:=beq_eq_false_iff_ne.mpr h;simp only[List.lookup,hb];exact ih
theorem qR(f:Str)(v:V):∀fs:List (Str×V),f∈(gI f v fs).map (·.1)/\∀g,g∈fs.map (·.1)->g∈(gI f v fs).map (·.1)
 |[]=>⟨by simp[gI],λg h=>by simp at h⟩
 | (k,x)::r=>by
  obtain⟨i1,i2⟩:=qR f v r;rw[show gI f v ((k,x)::r)=(if k=f then(k,v)::r else(k,x)::gI f v r) from rfl];by_cases hk:k=f
  ·rw[Zo hk];subst hk;exact⟨by simp,λg h=>by simpa using h⟩
  ·rw[Zp hk];refine⟨?_,λg h=>?_⟩
   ·rw[Zs];exact Ze _ i1
   ·rw[Zs] at h ⊢;rcases List.mem_cons.mp h with e | e
    ·exact List.mem_cons.mpr (.inl e)
    ·exact Ze _ (i2 g e)
theorem sD(f:Str)(v:V):∀fs:List (Str×V),(gI f v fs).length<=fs.length+1
 |[]=>by simp[gI]
 | (k,x)::r=>by
  have ih:=sD f v r;rw[show gI f v ((k,x)::r)=(if k=f then(k,v)::r else(k,x)::gI f v r) from rfl];by_cases hk:k=f
  ·rw[Zo hk,Zk,Zk];omega
  ·rw[Zp hk,Zk,Zk];omega
def jY.some_of(r:jY (some v) o):∃u,o=some u/\aY v u:=by
 cases o with
 |none=>exact(show False from r).elim
 |some u=>exact⟨u,rfl,r⟩
def jY.none_of(r:jY none o):o=none:=by
 cases o with
 |none=>rfl
 |some u=>exact(show False from r).elim
def LY(r:aY v u):PySem.W.handedIn u=true:=by
 cases v with
 |non=>cases (show u=Value.none from r);rfl
 |bl b=>cases (show u=Value.bool b from r);rfl
 |int i=>obtain⟨t,e⟩:=(show ∃t,u=Value.int i t from r);cases e;rfl
 |str x=>obtain⟨t,e⟩:=(show ∃t,u=Value.str x t from r);cases e;rfl
 |ref a=>cases (show u=Value.ref a from r);rfl
 |ty n=>cases (show u=Value.type n from r);rfl
section
variable{fs fs':List (Str×V)}
def xT(hok:fF P w H h)(e:H a=some (.ins C dx fs)):∃mA,ObjM h a dx C mA/\(∀f,jY (fs.lookup f) (mA f))/\PySem.Within mA (fs.map (·.1))/\fs.length<=1000/\H dx=some (.own a):=by
 obtain⟨d,z,ne,ob,mA,n,r,q⟩:=(show dU P w H h a (.ins C dx fs) from hok a _ e)
 exact⟨mA,⟨ob,n,ne⟩,r,q,z,d⟩
end
structure Cls(K:Frag)(C:Addr):Prop where
 pg:PySem.W.plainGet K C Str.empty=true
 hd:PySem.W.hasDictIn K C=true
 po:PySem.W.plainOver K C=true
 sa:findIn K (.ref C) "__setattr__"=some (some (.builtin "object.__setattr__"))
def Cls.get{K:Frag}(c:Cls K C)(f:Str):PySem.W.plainGet K C f=true:=c.pg
def kI(K:Frag)(C:Addr)(f:Str):Prop:=findIn K (.ref C) f=some none
def kI.taker{K:Frag}(n:kI K C f):PySem.W.takerIn K C f=some none:=by
 unfold PySem.W.takerIn;rw[show findIn K (.ref C) f=some none from n];rfl
structure Meth(K:Frag)(C:Addr)(m:Str)(f:Addr):Prop where
 at_:findIn K (.ref C) m=some (some (.ref f))
 fn:PySem.W.isFn K (.ref f)=true
 kp:PySem.W.keepIn K (.ref f)=true
section
variable{E:Value->Shared->Prop}
def IA(I:Inv X pins Y H s)(e:H a=some (.ins C dx fs))(c:Cls X.K C)(n:kI X.K C f)(l:fs.lookup f=some v)
  (h:∀u s',Inv X pins Y H s'->aY v u->Q u s'):wpAny (model X.prog X.w) A (getAttr (.ref a) f b) Q E s:=by
 obtain⟨mA,O,r,_,_,_⟩:=xT I.hok e;obtain⟨u,hu,ru⟩:=jY.some_of (o:=mA f) (by rw[<- l];exact r f);exact YR I.kIn O (c.get f) c.hd n hu (LY ru) (h u _ (I.tok _) ru)
def vD(I:Inv X pins Y H s)(e:H a=some (.ins C dx fs))(c:Cls X.K C)(k:Meth X.K C m g)(l:fs.lookup m=none)
  (h:Q (.ref g,[.ref a]) s):wpAny (model X.prog X.w) A (getMethod (.ref a) m pl) Q E s:=by
 obtain⟨mA,O,r,_,_,_⟩:=xT I.hok e;have hn:mA m=none:=jY.none_of (by rw[<- l];exact r m);exact OP I.kIn O (c.get m) k.at_ k.fn hn h
def GJ(I:Inv X pins Y H s)(e:H a=some (.ins C dx fs))(c:Cls X.K C)(n:kI X.K C f)(hl:fs.length<1000)(ry:aY y u)
  (h:∀s',Inv X pins Y (aO H a (.ins C dx (gI f y fs))) s'->Q () s'):wpAny (model X.prog X.w) A (setAttr (.ref a) f u) Q E s:=by
 obtain⟨mA,O,r,wi,_,ho⟩:=xT I.hok e;have hz:(fs.map (·.1)).length<=sizeLine:=by rw[List.length_map,sizeLine_eq];omega
 refine VH I.kIn O c.sa c.po n.taker c.hd wi hz λh' O' sb=>h _ ?_
 have hd:∃o,h'.get? dx=some o:=let ⟨o,_,_,e',_⟩:=O'.ns;⟨o,e'⟩
 refine I.write (x:=a) (e:=dx) (by rw[e];exact True.intro) (.inr ho) (λb q hb z=>(sb.2 b hb).trans z) hd ?_;refine⟨by rw[aM O.ne];exact ho, ?_,O.ne,O'.obj,_,O'.ns,λg=>?_,λg hg=>?_⟩
 ·have:=sD f y fs;omega
 ·show jY ((gI f y fs).lookup g) (if g=f then some u else mA g);rw[sJ];by_cases q:g=f
  ·rw[Zo q,Zo q];exact ry
  ·rw[Zp q,Zp q];exact r g
 ·by_cases q:g=f
  ·rw[q];exact(qR f y fs).1
  ·refine(qR f y fs).2 g (wi g λz=>hg ?_);show(if g=f then some u else mA g)=none;rw[Zp q];exact z
def Inv.made(I:Inv X pins Y H s):Inv X pins Y (aO (aO H s.heap.objs.size (.own (s.heap.objs.size+1))) (s.heap.objs.size+1) (.ins C s.heap.objs.size []))
  { s with heap:=(s.heap.push PySem.W.emptyDict).push (PySem.W.instObj C s.heap.objs.size) }:=by
 have e1:(s.heap.push PySem.W.emptyDict).get? s.heap.objs.size=some PySem.W.emptyDict:=Zw s.heap rfl
 have e2:((s.heap.push PySem.W.emptyDict).push (PySem.W.instObj C s.heap.objs.size)).get? (s.heap.objs.size+1)=some (PySem.W.instObj C s.heap.objs.size):=by
  have:=Zw (s.heap.push PySem.W.emptyDict) (o:=PySem.W.instObj C s.heap.objs.size) rfl
  rwa[Heap.size_push] at this
 have e3:(s.heap.push PySem.W.emptyDict).Ns s.heap.objs.size (λ_=>none):=⟨PySem.W.emptyDict,#[],_,e1,rfl,(λe he=>absurd he (by simp)),λ_=>rfl⟩
 have I1:=I.laid (a:=s.heap.objs.size) (o:=.own (s.heap.objs.size+1)) (h':=s.heap.push PySem.W.emptyDict) (t':=s.toks) (λb u q=>Zd _ q) (Zq _) ⟨_,e1⟩;refine I1.laid (a:=s.heap.objs.size+1) (o:=.ins C s.heap.objs.size []) (t':=s.toks) (λb u q=>Zd _ q) (Nat.le_of_eq (Heap.size_push _ _)) ?_;have ne:s.heap.objs.size≠s.heap.objs.size+1:=Zz (Nat.lt_succ_self _);refine⟨by rw[aM ne,a9],Nat.zero_le _,ne,e2,λ_=>none,(Heap.Ns1.of_empty e3).at λo q=>Zd _ q,λ_=>True.intro,λy hy=>absurd rfl hy⟩
def YN(hb:attributeBase e f env (eval e env)=eval e env)
  (h:wpAny (model prog w) A (eval e env) (λo s₁=>wpAny (model prog w) A (getAttr o f true) Q E s₁) E s):wpAny (model prog w) A (eval (.Attribute e f pos) env) Q E s :=
 Attribute_any_ h (by rw[arm_eval_Attribute,hb])
end
noncomputable def aGb(K:Frag)(ta:TE)(f:Str):TE:=λY H Q=>ta Y H λx H1=>∃a C dx fs v,x=.ref a/\H1 a=some (.ins C dx fs)/\Cls K C/\kI K C f/\fs.lookup f=some v/\Q v H1
noncomputable def aG6(K:Frag)(ta tv:TE)(f:Str):TS:=λD Y H=>tv Y H λy H1=>ta Y H1 λx H2=>∃a C dx fs,x=.ref a/\H2 a=some (.ins C dx fs)/\Cls K C/\kI K C f/\fs.length<1000 /\
 D.nx Y (aO H2 a (.ins C dx (gI f y fs)))
section
variable{ta tv:TE}
def aBN(he:PE X e ta)(hb:attributeBase e f X.env (eval e X.env)=eval e X.env):PE X (.Attribute e f pos) (aGb X.K ta f):=by
 intro pins s Y H Q I h;refine YN hb (a7 (he pins s Y H _ I h) λu s1 hz=>?_);obtain⟨x,H1,I1,rx,a,C,dx,fs,v,ex,ea,c,n,l,q⟩:=hz;subst ex;obtain rfl:u=Value.ref a:=rx;exact IA I1 ea c n l λu' s2 I2 ru=>⟨v,H1,I2,ru,q⟩
def aBu(ha:PE X o ta)(hv:PE X value tv)(hs:swapsWith value (some (.Attribute o f pos')) pos.line X.env=pure false):PS X (.Assign [.Attribute o f pos'] value pos) (aG6 X.K ta tv f):=by
 intro pins s Y H D I h;refine plainObj_wpAny_Assign_Attribute (a7 (hv pins s Y H _ I h) λu s1 ⟨y,H1,I1,ry,q⟩=>a7 (ha pins s1 Y H1 _ I1 q) λov s2 hz=>?_) hs;obtain⟨x,H2,I2,rx,a,C,dx,fs,ex,ea,c,n,l,q2⟩:=hz;subst ex;obtain rfl:ov=Value.ref a:=rx;exact GJ I2 ea c n l ry λs3 I3=>⟨Y,_,I3,q2⟩
end
structure Room(k:Nat)(A:Around):Prop where
 hd:A.handled=none
 dp:A.depth+3*k+5<recursionLimit
 un:A.units+16*k+200<cLine
 gs:A.guards=some []
def Room.mono(r:Room k A)(h:j<=k):Room j A:=⟨r.hd,by have:=r.dp;omega,by have:=r.un;omega,by first | exact r.gs | simpa[Around.deeper,Around.under,Code.guards,Code.isGuard,pushGuards,guardIds] using r.gs⟩
theorem Room.deeper(r:Room (k+1) A)(env:Env):Room k (A.deeper env) :=
 ⟨r.hd,by have:=r.dp;show A.depth+1+3*k+5<_;omega,by have:=r.un;show A.units+3+16*k+200<_;omega,by first | exact r.gs | simpa[Around.deeper,Around.under,Code.guards,Code.isGuard,pushGuards,guardIds] using r.gs⟩
def GO{A:Around}:(A.under (.builtin "type.__call__" ⟨.ref C::us,kw⟩)).depth=A.depth+1:=by
 first | rfl | simp[Around.under,Code.weight,Code.isCreation,Code.isGuard,Code.isCaller,Code.frames,Code.isFrame,guardIds]
def IQ{A:Around}:(A.under (.builtin "type.__call__" ⟨.ref C::us,kw⟩)).units=A.units+1:=by
 first | rfl | simp[Around.under,Code.cUnits,Code.frames,Code.isFrame]
def Room.make(r:Room (k+1) A)(C:Addr)(us:List Value)(kw:List (Str×Value)):Room k (A.under (.builtin "type.__call__" ⟨.ref C::us,kw⟩)) :=
 ⟨r.hd,by have:=r.dp;rw[GO];omega,by have:=r.un;rw[IQ];omega,by first | exact r.gs | simpa[Around.deeper,Around.under,Code.guards,Code.isGuard,pushGuards,guardIds] using r.gs⟩
theorem Room.depth(r:Room k A):A.depth<recursionLimit:=by have:=r.dp;omega
theorem Room.units(r:Room k A):A.units+64<cLine:=by have:=r.un;omega
noncomputable def sY:TA:=λ_ H Q=>Q [] H
noncomputable def mP(ta:TE)(tr:TA):TA:=λY H Q=>ta Y H λx H1=>tr Y H1 λxs H2=>Q (x::xs) H2
section
variable{pos:Pos}
def nU:PA X [] sY:=λ_ _ _ _ H Q I h=>Calls.spliced_nil ⟨[],H,I,.nil,h⟩
def i6(ha:PE X e te)(hr:PA X es t)(hs:starEach (e::es) X.env=(false,eval e X.env)::starEach es X.env:=by rfl):PA X (e::es) (mP te t):=by
 intro pos pins s Y H Q I h;rw[hs];show wpAny _ _ (spliced ((false,eval e X.env)::backTo pos (starEach es X.env))) _ _ s;refine Calls.spliced_cons (a7 (ha pins s Y H _ I h) λu s1 hz=>?_);obtain⟨x,H1,I1,r1,q1⟩:=hz;exact a7 (hr pos pins s1 Y H1 _ I1 q1) λus s2 ⟨xs,H2,I2,r2,q2⟩=>⟨x::xs,H2,I2,.cons r1 r2,q2⟩
noncomputable def aG7(t:TA):TE:=λY H Q=>t Y H λxs H1=>xs.length<=sizeLine/\∀p,H1 p=none->Q (.ref p) (aO H1 p (.tup xs))
noncomputable def aFR(t:TA):TE:=λY H Q=>t Y H λxs H1=>xs.length<=sizeLine/\∀p,H1 p=none->Q (.ref p) (aO H1 p (.lst xs))
def aCA{x1}(h:PA X es t):PE X (.Tuple es x1 pos) (aG7 t):=by
 intro pins s Y H Q I hq;refine wpAny_Tuple_spliced (a7 (h pos pins s Y H _ I hq) λus s1 ⟨xs,H1,I1,r,z,q⟩=>⟨by rw[<- r.length];exact z, ?_⟩);have hf:H1 s1.heap.objs.size=none:=I1.hok.fresh (Zq _);refine⟨.ref s1.heap.objs.size,aO H1 s1.heap.objs.size (.tup xs),I1.laid (t':=s1.toks) (λb u e=>Zd _ e) (Zq _) ?_,rfl,q _ hf⟩;exact⟨z,us,r,⟨_,Zw _ rfl,rfl,_,rfl⟩⟩
def aCk(h:PA X es t):PE X (.List es pos) (aFR t):=by
 intro pins s Y H Q I hq;refine wpAny_List_spliced (a7 (h pos pins s Y H _ I hq) λus s1 ⟨xs,H1,I1,r,z,q⟩=>⟨by rw[<- r.length];exact z, ?_⟩);have hf:H1 s1.heap.objs.size=none:=I1.hok.fresh (Zq _);refine⟨.ref s1.heap.objs.size,aO H1 s1.heap.objs.size (.lst xs),I1.laid (t':=s1.toks) (λb u e=>Zd _ e) (Zq _) ?_,rfl,q _ hf⟩;exact⟨z,us,0,r,Zw _ rfl⟩
end
abbrev Sp:=List V->Hp->VK->XK->Prop
abbrev C8:=List Env->Hp->Shared->XK->Value->Shared->Prop
structure Env0(P:Program)(w:World)(K:Frag)(mg:Str->Option Value)(base:Heap)(A:Around)(outer:List Env)(s:Shared)(H:Hp):Prop where
 frames:A.frames=some outer
 mod:Mod K mg base
 bs:∀b o,base.get? b=some o->s.heap.get? b=some o/\H b=none
 bsz:base.objs.size<=s.heap.objs.size
 funs:s.heap.FunFrames base outer
 frf:∀b∈pZ outer,H b=none
 hok:fF P w H s.heap
 bare:AllBare s.gens
def CE(outer:List Env)(P:Program)(w:World)(H:Hp)(s:Shared)(Q:VK)(u:Value)(s':Shared):Prop :=
 ∃v H',s'.os=s.os/\AllBare s'.gens/\Un (pZ outer) [] H H' s.heap s'.heap/\fF P w H' s'.heap/\aY v u/\Q v H'
def CR(CX:C8)(outer:List Env)(P:Program)(w:World)(H:Hp)(s:Shared)(Q:VK)(E:XK)(r:Result)(s':Shared):Prop :=
 match r with
 |.ok (.ret u)=>CE outer P w H s Q u s'
 |.ok _=>False
 |.error e=>CX outer H s E e s'
structure FnOk(P:Program)(w:World)(K:Frag)(mg:Str->Option Value)(base:Heap)(CX:C8)(k:Nat)(f:Addr)(fd:FuncData)(ps:List Str)(sp:Sp):Prop where
 len:∀vs H Q E,sp vs H Q E->vs.length=ps.length
 run:∀(A:Around) (outer:List Env) (s:Shared) (H:Hp) (args:Args) (us:List Value) (vs:List V) (Q:VK) (E:XK),Room k A->Env0 P w K mg base A outer s H->BindsTo s fd args (ps.zip us)->aQ vs us->sp vs H Q E ->
  codeAny (model P w) A (.call (.ref f) args) (CR CX outer P w H s Q E) s
def Env0.make{K:Frag}(e:Env0 P w K mg base A outer s H)(C:Addr)(us:List Value)(kw:List (Str×Value)) :
  Env0 P w K mg base (A.under (.builtin "type.__call__" ⟨.ref C::us,kw⟩)) outer s H:=⟨by first | exact e.frames | (simpa[Around.under,Code.envs,Code.isFrame,pushEnvs] using e.frames),e.mod,e.bs,e.bsz,e.funs,e.frf,e.hok,e.bare⟩
section
variable{X:Cx}{pins:List (Addr×Obj)}{Y:St}{H:Hp}{s s':Shared}
def Inv.env0(I:Inv X pins Y H s):Env0 X.prog X.w X.K X.mg X.base X.A X.stack s H :=
 ⟨I.ok.frames,I.ok.mod,I.bs,Zr I.ok.bsz I.sz,I.stack,I.stkFree,I.hok,I.bare⟩
def Inv.after(I:Inv X pins Y H s)(h:CE X.stack X.prog X.w H s Q u s'):EP X pins Y Q u s':=by
 obtain⟨v,H',os,bare,un,hok,r,q⟩:=h;obtain⟨hh,g,d,t,os'⟩:=s';obtain rfl:os'=s.os:=os;exact⟨v,H',I.call (h':=hh) (g':=g) (d':=d) (t':=t) (ch:=[]) un hok bare (λb z=>absurd z (by simp)),r,q⟩
end
noncomputable def aDU(sp:Sp)(dvs:List V)(E:XK)(t:TA):TE:=λY H Q=>t Y H λvs H1=>sp (vs++dvs) H1 Q E
noncomputable def IS(C:Addr)(m:Str)(sp:Sp)(dvs:List V)(E:XK)(ta:TE)(t:TA):TE:=λY H Q=>ta Y H λx H1=>∃a dx fs,x=.ref a/\H1 a=some (.ins C dx fs)/\fs.lookup m=none /\
 t Y H1 λvs H2=>sp (x::(vs++dvs)) H2 Q E
noncomputable def aFa(C:Addr)(sp:Sp)(dvs:List V)(E:XK)(t:TA):TE:=λY H Q=>t Y H λvs H1=>∀x dx,H1 x=none->H1 dx=none->dx≠x ->
 sp (.ref x::(vs++dvs)) (aO (aO H1 dx (.own x)) x (.ins C dx [])) (λv H2=>v=.non/\Q (.ref x) H2) E
def gM(K:Frag)(fd:FuncData)(ps:List Str)(ds:List Value):Prop :=
 ∀(s:Shared) (us:List Value),K.In s.heap->(us++ds).length=ps.length->BindsTo s fd ⟨us,[]⟩ (ps.zip (us++ds))
def gM.all{K:Frag}(h:∀us:List Value,us.length=ps.length->bindArgs fd ⟨us,[]⟩=pure (ps.zip us)):gM K fd ps []:=λs us _ hl=>by
 rw[List.append_nil] at hl ⊢;exact .of_eq (h us hl)
def lN(CX:C8)(X:Cx)(E:XK):Prop:=∀(pins:List (Addr×Obj)) (Y:St) (H:Hp) (s:Shared) (e:Value) (s':Shared),Inv X pins Y H s->CX X.stack H s E e s'->X.xe e s'
section
variable{X:Cx}{CX:C8}{k:Nat}{f C:Addr}{fd:FuncData}{ps:List Str}{sp:Sp}{dvs:List V}{ds:List Value}{E:XK}{x m:Str}{p pos apos:Pos}{e o:Expr}{es:List Expr}{ta:TE}{t:TA}
def CK(F:FnOk X.prog X.w X.K X.mg X.base CX k f fd ps sp)(hr:Room k X.A)(hb:gM X.K fd ps ds)(hd:aQ dvs ds)(hx:lN CX X E)
  (I:Inv X pins Y H s) (r:aQ vs us) (h:sp (vs++dvs) H Q E):wpAny (model X.prog X.w) X.A (call (.ref f) us) (EP X pins Y Q) X.xe s:=by
 have r2:aQ (vs++dvs) (us++ds):=r.append hd;have hl:(us++ds).length=ps.length:=by rw[<- r2.length];exact F.len _ _ _ _ h
 refine wpAny_call (codeAny_mono (F.run X.A X.stack s H ⟨us,[]⟩ (us++ds) (vs++dvs) Q E hr I.env0 (hb s us I.kIn hl) r2 h) λr s' hq=>?_)
 cases r with
 |error e=>exact hx pins Y H s e s' I hq
 |ok fl =>
  cases fl with
  |ret u=>exact I.after hq
  |next=>exact False.elim hq
  |brk=>exact False.elim hq
  |cont=>exact False.elim hq
def VY(F:FnOk X.prog X.w X.K X.mg X.base CX k f fd ps sp)(hr:Room k X.A)(hg:Gl X x)(hm:X.mg x=some (.ref f))(hk:PySem.W.keepIn X.K (.ref f)=true)(hb:gM X.K fd ps ds)(hd:aQ dvs ds)(hx:lN CX X E)
  (ha:PA X (e::es) t) (hdb:(x==("__debug__":Str))=false:=by decide) (he:starEach (e::es) X.env=(false,eval e X.env)::starEach es X.env:=by rfl) (hpl:(backTo pos (starEach es X.env)).any (·.1)=false:=by rfl) :
  PE X (.Call (.Name x p) (e::es) [] pos) (aDU sp dvs E t):=by
 intro pins s Y H Q I h;refine wpAny_Call_Name_kw (xI I hg hm ?_ hdb);refine PySem.W.callWith_K (h₀:=X.base) I.ok.mod.kin hk (a7 (ha pos pins s Y H _ I h) λus s1 ⟨vs,H1,I1,r,q⟩=>⟨I1.kIn, ?_⟩) he hpl;exact CK F hr hb hd hx I1 r q
def YS(he:PE X o ta)(c:Cls X.K C)(hm:Meth X.K C m f)(F:FnOk X.prog X.w X.K X.mg X.base CX k f fd ps sp)(hr:Room k X.A)(hb:gM X.K fd ps ds)(hd:aQ dvs ds)(hx:lN CX X E)(ha:PA X (e::es) t)
  (hst:starEach (e::es) X.env=(false,eval e X.env)::starEach es X.env:=by rfl) (hpl:(backTo pos (starEach es X.env)).any (·.1)=false:=by rfl)
  (ht:eval (.Call (.Attribute o m apos) (e::es) [] pos) X.env=(do
   let ov <- eval o X.env
   standAt apos.atName
   let (f,first) <- holding [ov] (getMethod ov m pl)
   callWith pos f first (backTo pos (starEach (e::es) X.env)) (backToKw pos (keywordEach [] X.env))):=by rfl) :
  PE X (.Call (.Attribute o m apos) (e::es) [] pos) (IS C m sp dvs E ta t):=by
 intro pins s Y H Q I h;refine PySem.W.methodCall_KW (a7 (he pins s Y H _ I h) λu s1 hz=>?_) ht;obtain⟨x,H1,I1,rx,a,dx,fs,ex,ea,l,q⟩:=hz;subst ex;obtain rfl:u=Value.ref a:=rx;refine vD I1 ea c hm l ?_;refine PySem.W.callWith_K (first:=[.ref a]) (h₀:=X.base) I.ok.mod.kin hm.kp (a7 (ha pos pins s1 Y H1 _ I1 q) λus s2 ⟨vs,H2,I2,r,q2⟩=>⟨I2.kIn, ?_⟩) hst hpl;exact CK (us:=.ref a::us) (vs:=.ref a::vs) F hr hb hd hx I2 (.cons rfl r) q2
def N9(he:PE X o ta)(c:Cls X.K C)(hm:Meth X.K C m f)(F:FnOk X.prog X.w X.K X.mg X.base CX k f fd ps sp)(hr:Room k X.A)(hb:gM X.K fd ps ds)(hd:aQ dvs ds)(hx:lN CX X E)
  (ht:eval (.Call (.Attribute o m apos) [] [] pos) X.env=(do
   let ov <- eval o X.env
   standAt apos.atName
   let (f,first) <- holding [ov] (getMethod ov m pl)
   callWith pos f first (backTo pos (starEach [] X.env)) (backToKw pos (keywordEach [] X.env))):=by rfl) :
  PE X (.Call (.Attribute o m apos) [] [] pos) (IS C m sp dvs E ta sY):=by
 intro pins s Y H Q I h;refine PySem.W.methodCall_KW (a7 (he pins s Y H _ I h) λu s1 hz=>?_) ht;obtain⟨x,H1,I1,rx,a,dx,fs,ex,ea,l,q⟩:=hz;subst ex;obtain rfl:u=Value.ref a:=rx;refine vD I1 ea c hm l ?_;exact PySem.W.callWith_K0 (first:=[.ref a]) I1.kIn hm.kp (CK (us:=[.ref a]) (vs:=[.ref a]) F hr hb hd hx I1 (.cons rfl .nil) q)
structure Mk(K:Frag)(C f:Addr):Prop where
 makes:PySem.W.makesIn K C=true
 init:findIn K (.ref C) "__init__"=some (some (.ref f))
 fn:PySem.W.isFn K (.ref f)=true
 kp:PySem.W.keepIn K (.ref C)=true
def N8(M:Mk X.K C f)(F:FnOk X.prog X.w X.K X.mg X.base CX k f fd ps sp)(hr:Room (k+1) X.A)(hb:gM X.K fd ps ds)(hd:aQ dvs ds)
  (hx:lN CX X E) (I:Inv X pins Y H s) (r:aQ vs us)
  (h:∀x dx,H x=none->H dx=none->dx≠x->sp (.ref x::(vs++dvs)) (aO (aO H dx (.own x)) x (.ins C dx [])) (λv H2=>v=.non/\Q (.ref x) H2) E) :
  wpAny (model X.prog X.w) X.A (call (.ref C) us) (EP X pins Y Q) X.xe s:=by
 have hq:=h (s.heap.objs.size+1) s.heap.objs.size (I.hok.fresh (Nat.le_succ _)) (I.hok.fresh (Zq _)) (Zz (Nat.lt_succ_self _));have I2:=Inv.made (C:=C) I;have r2:aQ (V.ref (s.heap.objs.size+1)::(vs++dvs)) (Value.ref (s.heap.objs.size+1)::(us++ds)):=.cons rfl (r.append hd)
 have hl:(Value.ref (s.heap.objs.size+1)::us++ds).length=ps.length:=by(have e:=r2.length;rw[F.len _ _ _ _ hq] at e;exact e.symm)
 refine wpAny_call (OE I.kIn M.makes M.init (beq_iff_eq.mp M.fn) (codeAny_mono (F.run _ X.stack _ _ ⟨Value.ref (s.heap.objs.size+1)::us,[]⟩ (Value.ref (s.heap.objs.size+1)::(us++ds)) _ _ E (hr.make C us [])
  (I2.env0.make C us []) (hb _ (Value.ref (s.heap.objs.size+1)::us) I2.kIn hl) r2 hq) λr s' hq'=>?_))
 cases r with
 |error e=>exact hx pins Y _ _ e s' I2 hq'
 |ok fl =>
  cases fl with
  |ret u =>
   obtain⟨v,H',I3,rv,ev,q3⟩:=I2.after hq';subst ev;exact⟨rv,⟨V.ref (s.heap.objs.size+1),H',I3,rfl,q3⟩⟩
  |next=>exact False.elim hq'
  |brk=>exact False.elim hq'
  |cont=>exact False.elim hq'
def ZW(M:Mk X.K C f)(F:FnOk X.prog X.w X.K X.mg X.base CX k f fd ps sp)(hr:Room (k+1) X.A)(hg:Gl X x)(hm:X.mg x=some (.ref C))(hb:gM X.K fd ps ds)(hd:aQ dvs ds)(hx:lN CX X E)
  (ha:PA X (e::es) t) (hdb:(x==("__debug__":Str))=false:=by decide) (he:starEach (e::es) X.env=(false,eval e X.env)::starEach es X.env:=by rfl) (hpl:(backTo pos (starEach es X.env)).any (·.1)=false:=by rfl) :
  PE X (.Call (.Name x p) (e::es) [] pos) (aFa C sp dvs E t):=by
 intro pins s Y H Q I h;refine wpAny_Call_Name_kw (xI I hg hm ?_ hdb);refine PySem.W.callWith_K (h₀:=X.base) I.ok.mod.kin M.kp (a7 (ha pos pins s Y H _ I h) λus s1 ⟨vs,H1,I1,r,q⟩=>⟨I1.kIn, ?_⟩) he hpl;exact N8 M F hr hb hd hx I1 r q
end
def PK(X:Cx)(kws:List Keyword)(t:TA):Prop :=
 ∀(pos:Pos) (pins:List (Addr×Obj)) (s:Shared) (Y:St) (H:Hp) (Q:List V->Hp->Prop),Inv X pins Y H s->t Y H Q->wpAny (model X.prog X.w) X.A (evalAll ((backToKw pos (keywordEach kws X.env)).map (·.2))) (AP X pins Y Q) X.xe s
section
variable{nm:Option Str}
def aDc:PK X [] sY:=λ_ _ _ _ H Q I h=>wpAny_evalAll_nil ⟨[],H,I,.nil,h⟩
def ZP(ha:PE X e te)(hr:PK X kws t):PK X (⟨nm,e,kpos⟩::kws) (mP te t):=by
 intro pos pins s Y H Q I h;show wpAny _ _ (evalAll ((do let v <- eval e X.env;standAt pos;pure v)::(backToKw pos (keywordEach kws X.env)).map (·.2))) _ _ s;refine wpAny_evalAll_cons (Zt (a7 (ha pins s Y H _ I h) λu s1 ⟨x,H1,I1,r1,q1⟩=>Zt (wpAny_standAt (Zu ?_))));exact a7 (hr pos pins s1 Y H1 _ I1 q1) λus s2 ⟨xs,H2,I2,r2,q2⟩=>⟨x::xs,H2,I2,.cons r1 r2,q2⟩
variable{g:List Value->List Value->List Value}{gV:List V->List V->List V}
end
structure FnScope(N P:List Str)(sc:Scope):Prop where
 kind:sc.kind=.function
 co:sc.isCoroutine=false
 gen:sc.isGenerator=false
 nd:N.Nodup
 pre:N.take P.length=P
 par:∀x∈P,sc.names.lookup x=some .local\/sc.names.lookup x=some .cell
 nofree:∀y∈sc.names,y.2≠.free
theorem yJ{kindOf:Str->Option NameKind}:∀{binds:List (Str×Value)} {m:Str->Option Value},(∀v,(x,v) ∉ binds)->bindL kindOf binds m x=m x
 |[],_,_=>rfl
 | (n,v)::r,m,h=>by
  unfold bindL;rw[yJ λw hw=>h w (Ze _ hw)];split
  ·have:x≠n:=by rintro rfl;exact h v zh
   simp[this]
  ·rfl
theorem yQ{kindOf:Str->Option NameKind}:∀{binds:List (Str×Value)} {m:Str->Option Value},(∀v,(x,v) ∉ binds)->bindC kindOf binds m x=m x
 |[],_,_=>rfl
 | (n,v)::r,m,h=>by
  unfold bindC;rw[yQ λw hw=>h w (Ze _ hw)];split
  ·rfl
  ·have:x≠n:=by rintro rfl;exact h v zh
   simp[this]
theorem zB{kindOf:Str->Option NameKind}:∀{P:List Str} {vs:List Value} {i:Nat} {m:Str->Option Value},P.Nodup->P[i]?=some x->vs[i]?=some v->kindOf x=some .local ->
  bindL kindOf (P.zip vs) m x=some v
 |[],_,_,_,_,h,_,_=>by simp at h
 |_::_,[],_,_,_,_,h,_=>by simp at h
 |p::P,w::vs,0,m,nd,h1,h2,hk=>by
  simp at h1 h2;subst h1;subst h2;show bindL kindOf ((p,w)::P.zip vs) m p=_;unfold bindL;rw[yJ λv hv=>(List.nodup_cons.mp nd).1 (List.of_mem_zip hv).1,Zo hk];simp
 |p::P,w::vs,i+1,m,nd,h1,h2,hk=>by(show bindL kindOf ((p,w)::P.zip vs) m x=_;unfold bindL;exact zB (List.nodup_cons.mp nd).2 (by simpa using h1) (by simpa using h2) hk)
theorem zG{kindOf:Str->Option NameKind}:∀{P:List Str} {vs:List Value} {i:Nat} {m:Str->Option Value},P.Nodup->P[i]?=some x->vs[i]?=some v->kindOf x≠some .local ->
  bindC kindOf (P.zip vs) m x=some v
 |[],_,_,_,_,h,_,_=>by simp at h
 |_::_,[],_,_,_,_,h,_=>by simp at h
 |p::P,w::vs,0,m,nd,h1,h2,hk=>by
  simp at h1 h2;subst h1;subst h2;show bindC kindOf ((p,w)::P.zip vs) m p=_;unfold bindC;rw[yQ λv hv=>(List.nodup_cons.mp nd).1 (List.of_mem_zip hv).1,Zp hk];simp
 |p::P,w::vs,i+1,m,nd,h1,h2,hk=>by(show bindC kindOf ((p,w)::P.zip vs) m x=_;unfold bindC;exact zG (List.nodup_cons.mp nd).2 (by simpa using h1) (by simpa using h2) hk)
noncomputable def b8(N:List Str)(vs:List V):St:=vs.map some++List.replicate (N.length-vs.length) none
noncomputable def qV(CX:C8)(P:Program)(w:World)(K:Frag)(mg:Str->Option Value)(base:Heap)(N:List Str)(qual:Str)(scope:Scope)(f:Addr)(cd:Value)(A:Around)(outer:List Env)(s:Shared)(H:Hp)(E:XK):Cx where
 prog:=P
 w:=w
 K:=K
 mg:=mg
 base:=base
 A:=A.deeper (envOfC qual scope s.heap.objs.size f cd)
 N:=N
 s₀:=s
 H₀:=H
 env:=envOfC qual scope s.heap.objs.size f cd
 outer:=outer
 stack:=envOfC qual scope s.heap.objs.size f cd::outer
 ex:=[]
 calm:=true
 fn:=λ_=>true
 pn:=[]
 xe:=λe s'=>wpAny (model P w) (A.deeper (envOfC qual scope s.heap.objs.size f cd)) (leaving (envOfC qual scope s.heap.objs.size f cd) e) (λ_ s''=>CX outer H s E e s'') (λe' s''=>CX outer H s E e' s'') s'
def DK{sc:Scope}(h:sc.names.lookup x=some .cell):∃c,(cellsFrom n sc.names []).lookup x=some c:=by
 have q:=PySem.W.cellsFrom_some sc.names n [] (.inl h);exact Option.isSome_iff_exists.mp q
def LN{K:Frag}
  (S:FnScope N ps scope) (hd:A.handled=none) (e0:Env0 P w K mg base A outer s H) (hl:vs.length=ps.length) (r:aQ vs us)
  (x:InCallC s s.heap.objs.size (bindL (envOfC qual scope s.heap.objs.size f cd).kindOf (ps.zip us) λ_=>none) (cellsFrom (s.heap.objs.size+1) scope.names []) (bindC (envOfC qual scope s.heap.objs.size f cd).kindOf (ps.zip us) λ_=>none) s1) :
  Inv (qV CX P w K mg base N qual scope f cd A outer s H E) [] (b8 N vs) H s1:=by
 have hpl:ps.length<=N.length:=by have:=congrArg List.length S.pre;rw[List.length_take] at this;omega
 obtain⟨h1,tk,rfl,hk⟩:=x.done;have noA:∀b:Addr,b ∉ (qV CX P w K mg base N qual scope f cd A outer s H E).ex:=λb z=>absurd (show b∈([]:List Addr) from z) (by simp)
 refine⟨⟨e0.mod,S.kind,rfl,rfl,Zq _,λy z c h1 h2=>?_,λy hy=>?_,λy c _ h=>?_,λ_=>hd,Around.frames_deeper e0.frames,.inr ⟨rfl,rfl⟩,λb z=>absurd z (noA b),e0.bs,e0.bsz,λb _ _=>noA b,λb z=>absurd z (noA b),e0.funs,e0.frf⟩,
  rfl,e0.bare,Un.kept hk,⟨_,x.toInCall.ns,λi y v h1 h2 h3=>?_⟩,λy c h=>⟨_,x.cell y c h⟩,e0.hok.fresh (Zq _),λy c h=>?_,λp hp=>absurd (show p∈([]:List (Addr×Obj)) from hp) (by simp),e0.hok.kept hk, ?_⟩
 ·exact name_of_addr x.apart (PySem.mem_of_lookup h1) (PySem.mem_of_lookup h2)
 ·have hy:scope.names.lookup y=some .cell\/scope.names.lookup y=some .free:=hy;rcases hy with hy | hy
  ·exact DK hy
  ·exact absurd rfl (S.nofree _ (PySem.mem_of_lookup hy))
 ·exact Nat.le_of_lt (x.above y c (PySem.mem_of_lookup h))
 ·have hi:i<vs.length:=by
   unfold b8 at h2;by_cases hi:i<vs.length
   ·exact hi
   ·rw[List.getElem?_append_right (by simpa using hi)] at h2;rw[List.getElem?_replicate] at h2;split at h2<;>cases h2
  have ha:vs[i]?=some v:=by
   unfold b8 at h2;rw[List.getElem?_append_left (by simpa using hi),Zh] at h2
   cases e:vs[i]? with
   |none=>rw[e] at h2;cases h2
   |some a=>rw[e] at h2;cases h2;rfl
  obtain⟨u,hu,rv⟩:=r.get ha
  have hp:ps[i]?=some y:=by(rw[<- S.pre,List.getElem?_take_of_lt (by omega)];exact h1)
  have ndP:ps.Nodup:=by rw[<- S.pre];exact S.nd.sublist (List.take_sublist _ _)
  refine⟨u,rv, ?_⟩;rcases S.par y (zj hp) with k | k
  ·exact .inl ⟨k,zB ndP hp hu k⟩
  ·obtain⟨c,e⟩:=DK (n:=s.heap.objs.size+1) k;refine .inr ⟨.inl k,c,e, ?_⟩;have q:=x.cell y c e;rw[zG ndP hp hu (by show scope.names.lookup y≠_;rw[k];decide)] at q;exact q
 ·exact e0.hok.fresh (Nat.le_of_lt (x.above y c (PySem.mem_of_lookup h)))
 ·unfold b8;show _=N.length;rw[Za,List.length_map,List.length_replicate];omega
def aEJ{K:Frag}{dV kV doc pm cdv ct oc:Value}{an od:Option Addr}(lk:K.lookup f=some ⟨oc,od,.func (PySem.W.fnOf name qual params body scope dV kV doc pm an cdv ct),osl⟩)(hcd:PySem.W.codeIn K cdv qual=true)(S:FnScope N ps scope)
  (len:∀vs H Q E,sp vs H Q E->vs.length=ps.length)
  (hbody:∀(A:Around) (outer:List Env) (s:Shared) (H:Hp) (vs:List V) (Q:VK) (E:XK),Room k (A.deeper (envOfC qual scope s.heap.objs.size f cdv))->sp vs H Q E ->
   ∃t,gN (qV CX P w K mg base N qual scope f cdv A outer s H E) body t/\t { nx:=λ_ H'=>Q .non H',rt:=Q } (b8 N vs) H) :
  FnOk P w K mg base CX (k+1) f (PySem.W.fnOf name qual params body scope dV kV doc pm an cdv ct) ps sp:=by
 refine⟨len,λA outer s H args us vs Q E hr e0 hb r hsp=>?_⟩;have hl:=len _ _ _ _ hsp;have KX:K.In s.heap:=e0.mod.kin.keeps λb o e=>(e0.bs b o e).1
 have lim:s.heap.NoLimit:=e0.mod.nolimit.keeps λb o e=>(e0.bs b o e).1
 have hkind:∀y∈ps.zip us,scope.names.lookup y.1=some .local\/(scope.names.lookup y.1=some .cell/\((cellsFrom (s.heap.objs.size+1) scope.names []).lookup y.1).isSome=true):=λ⟨n,v⟩ hy=>by
  rcases S.par n (List.of_mem_zip hy).1 with q | q
  ·exact .inl q
  ·exact .inr ⟨q,PySem.W.cellsFrom_some _ _ _ (.inl q)⟩
 refine codeAny_call_function hr.depth (KX _ _ lk) rfl S.co S.gen rfl (PySem.W.codeRec_of KX hcd) (hb _ _ _ _ ?_);refine wpAny_newFunctionEnv_cells S.kind hkind λenv he s1 x=>?_
 subst he;refine⟨lim.keeps x.toInCall.keep,codeAny_func ?_⟩;obtain⟨t,ht,hq⟩:=hbody A outer s H vs Q E (hr.deeper _) hsp;have I:Inv (qV CX P w K mg base N qual scope f cdv A outer s H E) [] (b8 N vs) H s1:=LN S hr.hd e0 hl r x;refine wpAny_mono (ht [] s1 (b8 N vs) H _ I hq) (λfl s' hs=>?_) λe s' hs=>hs
 have fin:∀{Y':St} {H':Hp} {v:V} {u:Value},Inv (qV CX P w K mg base N qual scope f cdv A outer s H E) [] Y' H' s'->aY v u->Q v H'->CE outer P w H s Q u s' :=
  λ{Y' H' v u} J rv q=>⟨v,H',J.os,J.bare,J.base,J.hok,rv,q⟩
 cases fl with
 |ret u =>
  obtain⟨v,Y',H',J,rv,q⟩:=hs;exact fin J rv q
 |next =>
  obtain⟨Y',H',J,q⟩:=hs;exact fin (v:=V.non) (u:=Value.none) J rfl q
 |brk =>
  obtain⟨_,_,_,q⟩:=hs;exact False.elim q
 |cont =>
  obtain⟨_,_,_,q⟩:=hs;exact False.elim q
section
variable{id T:String}
noncomputable def tCB(r:List V->Hp->VK->Prop)(t:TA):TE:=λY H Q=>t Y H λvs H1=>r vs H1 Q
def BL(hc:iO X (.builtin id) r)(hg:Gl X x)(hm:X.mg x=none)(hv:bootBuiltins x=some (.builtin id))(ha:PA X (e::es) t)(hn:x≠"__name__":=by decide)(hdb:(x==("__debug__":Str))=false:=by decide)
  (he:starEach (e::es) X.env=(false,eval e X.env)::starEach es X.env:=by rfl) (hpl:(backTo pos (starEach es X.env)).any (·.1)=false:=by rfl):PE X (.Call (.Name x p) (e::es) [] pos) (tCB r t):=by
 intro pins s Y H Q I h;refine wpAny_Call_Name_kw (lY I hg hm hv ?_ hn hdb);exact PyProof.Rows.callWith_builtin1 (a7 (ha pos pins s Y H _ I h) λus s1 ⟨vs,H1,I1,r1,q1⟩=>hc pins s1 Y H1 vs us Q I1 r1 q1) he hpl
def LF(hc:iO X (.type T) r)(hg:Gl X x)(hm:X.mg x=none)(hv:bootBuiltins x=some (.type T))(ha:PA X (e::es) t)(hn:x≠"__name__":=by decide)(hdb:(x==("__debug__":Str))=false:=by decide)
  (he:starEach (e::es) X.env=(false,eval e X.env)::starEach es X.env:=by rfl) (hpl:(backTo pos (starEach es X.env)).any (·.1)=false:=by rfl):PE X (.Call (.Name x p) (e::es) [] pos) (tCB r t):=by
 intro pins s Y H Q I h;refine wpAny_Call_Name_kw (lY I hg hm hv ?_ hn hdb);exact PyProof.Rows.callWith_type1 (a7 (ha pos pins s Y H _ I h) λus s1 ⟨vs,H1,I1,r1,q1⟩=>hc pins s1 Y H1 vs us Q I1 r1 q1) he hpl
end
end L2
namespace HT
open PySem PyProof.Rows
noncomputable def bU:List Int->List Int->Bool
 |[],[]=>false
 |[],_::_=>true
 |_::_,[]=>false
 |x::xs,y::ys=>if x=y then bU xs ys else decide (x<y)
theorem d8(x y:Int)(xs ys:List Int):bU (x::xs) (y::ys)=if x=y then bU xs ys else decide (x<y):=rfl
theorem AD:bU [] []=false:=rfl
theorem xM(y:Int)(ys:List Int):bU [] (y::ys)=true:=rfl
theorem yF(x:Int)(xs:List Int):bU (x::xs) []=false:=rfl
def OR(A:Around)(s:Shared)(a:Int)(t:Tok)(c:Int)(u:Tok):∃e,SeqAt.EqAt A s (.int a t) (.int c u) e/\(e=true↔a=c) :=
 ⟨(a==c),SeqAt.EqAt.int_int a t c u,by simp⟩
def N0(A:Around)(s:Shared)(a:Int)(t:Tok)(c:Int)(u:Tok)(prog:Program)(w:World)(E:Value->Shared->Prop)(Q:Value->Shared->Prop)(h:Q (.bool (decide (a<c))) s) :
  wpAny (model prog w) A (richCompare .Lt (.int a t) (.int c u)) Q E s :=
 (PyProof.Rows.lt_int h:wpAny (model prog w) A (compareOp .Lt (.int a t) (.int c u)) Q E s)
section
open PySem.SeqAt
open PySem.AutoSeq1 (wpAny_loadPart')
open PySem.MeetsSeq PySem.MeetsSeq2 PySem.MeetsSeq3
def zU(l b:Addr)(items items2:Array Value)(n n2:Nat)(dd dd2:Option Addr)(sl sl2:Array (Option Value))(ns ms:List Int)(hi:IntsAre items.toList ns)(hj:IntsAre items2.toList ms) :
  Meets (Builtin.«tuple.__lt__» ⟨[.ref l,.ref b],[]⟩)
   (λ_ R s=>s.heap.get? l=some { cls:=.type "tuple",dict:=dd,data:=.seq items n,slots:=sl }/\s.heap.get? b=some { cls:=.type "tuple",dict:=dd2,data:=.seq items2 n2,slots:=sl2 } /\
    R (.ok (.ret (.bool (bU ns ms)))) s) :=
 .of_wp λprog w A R s h=>by
  obtain⟨hp,g,d,tk,os⟩:=s;obtain⟨hl,hb,h⟩:=h;have f2:=AutoSeq1.sub_tuple_tuple;have z1:items.size=ns.length:=by rw[<- hi.length];simp
  have z2:items2.size=ms.length:=by rw[<- hj.length];simp
  wp_walk using wpAny_loadPart' hl,wpAny_loadPart' hb,wpAny_forIn_list _ (λgH b s'=>b.1=none/\s'=⟨hp,g,d,tk,os⟩/\∃(vs ws:List Value) (ns' ms':List Int),gH=vs.zip ws /\
   IntsAre vs ns'/\IntsAre ws ms'/\ns'.length+items2.size=ms'.length+items.size/\R (.ok (.ret (.bool (bU ns' ms')))) ⟨hp,g,d,tk,os⟩) _
  case turn =>
   rintro⟨y,x⟩ gH b s' ⟨hb',rfl,vs,ws,ns',ms',hz,hvi,hwi,hlen,hR⟩
   cases hvi with
   |nil=>rw[List.zip_nil_left] at hz;cases hz
   |cons a t hvi' =>
    cases hwi with
    |nil=>rw[List.zip_nil_right] at hz;cases hz
    |cons c u hwi' =>
     rw[List.zip_cons_cons] at hz
     injection hz with hyx hrest
     injection hyx with hy hx
     subst hy hx;rw[d8] at hR;simp only[Zk] at hlen;obtain⟨e,he,hiff⟩:=OR A.in1 ⟨hp,g,d,tk,os⟩ a t c u;refine Zt (he prog w _ _ ?_)
     cases e with
     |true =>
      rw[Zo (hiff.mp rfl)] at hR
      wp_walk
      exact⟨rfl,rfl,_,_,_,_,hrest,hvi',hwi',by omega,hR⟩
     |false =>
      rw[Zp (λq=>absurd (hiff.mpr q) Bool.false_ne_true)] at hR;have hri:=N0 A.in1 ⟨hp,g,d,tk,os⟩ a t c u prog w
      wp_walk using hri
      exact⟨_,rfl,by simpa using hR⟩
  case fin =>
   rintro⟨b1,b2⟩ s' ⟨hb',rfl,vs,ws,ns',ms',hz,hvi,hwi,hlen,hR⟩
   simp only at hb';subst hb'
   have hv:bU ns' ms'=decide (items.size<items2.size):=by
    cases hvi with
    |nil =>
     cases hwi with
     |nil =>
      simp only[List.length_nil] at hlen;rw[AD];exact(Zm (by omega)).symm
     |cons c u hw =>
      simp only[List.length_nil,Zk] at hlen;rw[xM];exact(Zn (by omega)).symm
    |cons a t hv =>
     cases hwi with
     |nil =>
      simp only[List.length_nil,Zk] at hlen;rw[yF];exact(Zm (by omega)).symm
     |cons c u hw =>
      rw[List.zip_cons_cons] at hz;cases hz
   rw[hv] at hR
   wp_walk
   exact⟨_,rfl,by simpa[Builtin.Tuple.tupleCompareSizes] using hR⟩
  case h =>
   exact⟨rfl,rfl,items.toList,items2.toList,ns,ms,rfl,hi,hj,by omega,h⟩
end
section
variable{s:Shared}
def HK(hl:IsTup s.heap l items)(hb:IsTup s.heap b items2)(hi:IntsAre items.toList ns)(hj:IntsAre items2.toList ms)
  (hu:A.units<cLine) (h:Q (.bool (bU ns ms)) s):wpAny (model prog w) A (compareOp .Lt (.ref l) (.ref b)) Q E s:=by
 obtain⟨⟨cls,dd,data,sl⟩,ho,hc,n,hd⟩:=id hl;obtain⟨⟨cls2,dd2,data2,sl2⟩,ho2,hc2,n2,hd2⟩:=id hb;simp only at hc hd hc2 hd2;subst hc hd hc2 hd2
 exact richCompare_meets_room (op:=.Lt) ⟨_,ho,rfl⟩ ⟨_,ho2,rfl⟩ PySem.F.slot_tuple_lt PySem.F.entry_tuple_lt (PySem.F.args_tuple_lt_2 _ _) (zU l b items items2 n n2 dd dd2 sl sl2 ns ms hi hj)
  ⟨ho,ho2,show Value.bool (bU ns ms)≠Value.notImplemented/\Q (.bool (bU ns ms)) s from⟨(λx=>nomatch x),h⟩⟩ hu
noncomputable def bT(n d:Nat):Option Int->Nat
 |none=>d
 |some v=>if v<0 then(v+(n:Int)).toNat else min v.toNat n
def ET(n d k:Nat):bT n d (some (k:Int))=min k n:=by
 show(if(k:Int)<0 then((k:Int)+(n:Int)).toNat else min (k:Int).toNat n)=min k n;rw[Zp (by omega),Int.toNat_natCast]
def aA0(n d:Nat)(hd:d<=n)(o:Option Int):bT n d o<=n:=by
 cases o with
 |none=>exact hd
 |some v =>
  show(if v<0 then(v+(n:Int)).toNat else min v.toNat n)<=n;by_cases hv:v<0
  ·rw[Zo hv];omega
  ·rw[Zp hv];exact Nat.min_le_right _ _
def FQ(v:Int)(n d:Nat):(if v<0 then max (v+(n:Int)) 0 else min v (n:Int))=((bT n d (some v):Nat):Int):=by
 show(if v<0 then max (v+(n:Int)) 0 else min v (n:Int))=(((if v<0 then(v+(n:Int)).toNat else min v.toNat n):Nat):Int);by_cases hv:v<0
 ·simp only[Zo hv];omega
 ·simp only[Zp hv];omega
def HI(lo hi:Option Int)(n:Nat):Builtin.Slice.sliceAdjust lo hi 1 (n:Int)=(((bT n 0 lo:Nat):Int),((bT n n hi:Nat):Int)):=by
 have h1:¬((1:Int)<0):=by omega
 unfold Builtin.Slice.sliceAdjust;simp only[h1,if_false];refine Prod.ext ?_ ?_
 ·cases lo with
  |none=>rfl
  |some v=>exact FQ v n 0
 ·cases hi with
  |none=>rfl
  |some v=>exact FQ v n n
def F8(i j:Nat):Builtin.Slice.slicePlaces (i:Int) (j:Int) 1=j-i:=by
 unfold Builtin.Slice.slicePlaces;have h1:(1:Int) > 0:=by omega
 simp only[h1,if_true,Int.ediv_one]
 split<;>omega
def v7(p:IsPart v o)(h:Q o s):wpAny (model prog w) A (Builtin.Slice.slicePartIndex v) Q E s:=by
 cases p with
 |none=>exact slicePart_none h
 |int i t=>exact slicePart_int h
def tR{lo hi:Option Int}{Q:Int×Int×Nat->Shared->Prop}(hs:s.heap.IsSliceOf sl vl vu .none)(pl:IsPart vl lo)(pu:IsPart vu hi)
  (h:Q (((bT n 0 lo:Nat):Int),1,bT n n hi-bT n 0 lo) s):wpAny (model prog w) A (Builtin.Slice.sliceApplied (.ref sl) (pure (n:Int))) Q E s:=by
 obtain⟨os,hos,hcs,hds⟩:=id hs;unfold Builtin.Slice.sliceApplied Builtin.Slice.sliceFields;refine Zt (Zt (wpAny_field hos hds (x:=vl) rfl (Zt (wpAny_field hos hds (x:=vu) rfl (Zt (wpAny_field hos hds (x:=.none) rfl (Zu ?_)))))));refine Zt (slicePart_none ?_);show wpAny _ _ (if((1:Int)==0)=true then _ else _) _ _ s;rw[Zp (by decide)];refine Zt (v7 pl (Zt (v7 pu (Zt (Zu ?_)))));show wpAny _ _ (match Builtin.Slice.sliceAdjust lo hi 1 (n:Int) with | (lo,hi)=>pure (lo,(1:Int),Builtin.Slice.slicePlaces lo hi 1)) _ _ s;rw[HI lo hi n];show wpAny _ _ (pure (((bT n 0 lo:Nat):Int),(1:Int),Builtin.Slice.slicePlaces ((bT n 0 lo:Nat):Int) ((bT n n hi:Nat):Int) 1)) _ _ s;rw[F8];exact Zu h
def NV(xs:Array Value)(i k:Nat):((List.range k).filterMap λ(m:Nat)=>xs[((i:Int)+(m:Int)*1).toNat]?).toArray=((xs.toList.drop i).take k).toArray:=by
 have e:(λ(m:Nat)=>xs[((i:Int)+(m:Int)*1).toNat]?)=λm=>xs[i+m]?:=by
  funext m
  have:((i:Int)+(m:Int)*1).toNat=i+m:=by omega
  rw[this]
 rw[e]
 have:=pick_run xs i k
 rw[List.filterMap_map] at this;have e2:((λx=>xs[x]?) ∘ λx=>i+x)=λm=>xs[i+m]?:=rfl
 rw[e2] at this;rw[this]
def sC{lo hi:Option Int}(ht:IsTup s.heap t items)(hs:s.heap.IsSliceOf sl vl vu .none)(pl:IsPart vl lo)(pu:IsPart vu hi)
  (hw:¬(bT items.size 0 lo=0/\bT items.size items.size hi=items.size))
  (h:Q (.ref s.heap.objs.size) { s with heap:=s.heap.push { cls:=.type "tuple",data:=.seq ((items.toList.drop (bT items.size 0 lo)).take (bT items.size items.size hi-bT items.size 0 lo)).toArray } })
  (hsz:items.size<=sizeLine):wpAny (model prog w) A (getItem (.ref t) (.ref sl)) Q E s:=by
 have htake:sizeOk (.seq ((items.toList.drop (bT items.size 0 lo)).take (bT items.size items.size hi-bT items.size 0 lo)).toArray):=by(show((items.toList.drop (bT items.size 0 lo)).take (bT items.size items.size hi-bT items.size 0 lo)).toArray.size<=sizeLine;rw[Zi,List.length_take,List.length_drop,Array.length_toList];omega)
 have hj:bT items.size items.size hi<=items.size:=aA0 _ _ (Zq _) hi;obtain⟨os,hos,hcs,hds⟩:=id hs;have hTs:s.TypeIs (.ref sl) "slice":=⟨os,hos,hcs⟩
 unfold getItem
 try with_reducible refine wpAny_holding ?_
 first | refine Zt (Zu ?_) | skip
 refine Zt (wpAny_sequenceKey ht.typeIs (by decide) ?_)
 refine Zt (wpAny_callSpecial?_slot (name:=Str.ofString "__getitem__") ht.typeIs PyProof.Rows.slot_tuple_getitem
  (wpAny_call_entry PyProof.Rows.slot_tuple_getitem ht.typeIs entry_tuple_getitem ?_ (args_tuple_getitem _ _)))
 show wpAny _ _ (Builtin.Tuple.tupleItemsOf (.ref t)>>=_) _ _ s;refine Zt (tupleItemsOf_ ht ?_);refine Zt (wpAny_typeOf hTs ?_);rw[Zo (by decide)];refine Zt (tR hs pl pu ?_)
 have hno:¬((((bT items.size 0 lo:Nat):Int)==0&&(1:Int)==1&&(bT items.size items.size hi-bT items.size 0 lo)==items.size)=true):=by(intro q;rw[ZB,ZB] at q;have q1:((bT items.size 0 lo:Nat):Int)=0:=Zy q.1.1;have q2:bT items.size items.size hi-bT items.size 0 lo=items.size:=Zy q.2;exact hw ⟨by omega,by omega⟩)
 show wpAny _ _ (if(((bT items.size 0 lo:Nat):Int)==0&&(1:Int)==1&&(bT items.size items.size hi-bT items.size 0 lo)==items.size)=true then _ else _) _ _ s;rw[Zp hno,NV]
 first
  |exact Zt (m:=Builtin.Tuple.tupleExact _) (wpAny_newObj_type (Zu ⟨_,rfl,Zu h⟩) htake)
  |exact Zt (m:=Builtin.Tuple.tupleExact _) (wpAny_newObj_type (Zt (Zu (Zu ⟨_,rfl,Zu h⟩))) htake)
  |exact Zt (Zt (m:=Builtin.Tuple.tupleExact _) (wpAny_newObj_type (Zu (Zu ⟨_,rfl,Zu h⟩)) htake))
  |exact Zt (Zt (m:=Builtin.Tuple.tupleExact _) (wpAny_newObj_type (Zu ⟨_,rfl,Zu h⟩) htake))
end
end HT
namespace L2
open PySem PySem.Spec PyProof.Rows
abbrev TO:=St->Hp->(Option Int->Hp->Prop)->Prop
def PO(X:Cx)(e:Option Expr)(t:TO):Prop :=
 ∀(pins:List (Addr×Obj)) (s:Shared) (Y:St) (H:Hp) (Q:Option Int->Hp->Prop),Inv X pins Y H s->t Y H Q ->
  wpAny (model X.prog X.w) X.A (evalPart e X.env) (λu s'=>∃o H',Inv X pins Y H' s'/\IsPart u o/\Q o H') X.xe s
noncomputable def WI:TO:=λ_ H Q=>Q none H
noncomputable def aEv(t:TE):TO:=λY H Q=>t Y H λx H1=>∃i,x=.int i/\Q (some i) H1
section
variable{lo hi:Option Expr}
def VA:PO X none WI:=by
 intro pins s Y H Q I h;rw[evalPart_none];exact Zu ⟨none,H,I,.none,h⟩
def WK(h:PE X e te):PO X (some e) (aEv te):=by
 intro pins s Y H Q I hw;rw[evalPart_some];refine a7 (h pins s Y H _ I hw) λu s1 hz=>?_
 obtain⟨x,H1,I1,r1,q1⟩:=hz;obtain⟨i,rfl,q⟩:=q1;obtain⟨t,rfl⟩:=r1;exact⟨some i,H1,I1,.int i t,q⟩
def uZ(X:Cx)(r:V->Option Int->Option Int->Hp->VK->Prop):Prop :=
 ∀(pins:List (Addr×Obj)) (s:Shared) (Y:St) (H:Hp) (x:V) (v vl vu:Value) (lo hi:Option Int) (sl:Addr) (Q:VK),Inv X pins Y H s->aY x v->s.heap.IsSliceOf sl vl vu .none->IsPart vl lo->IsPart vu hi->r x lo hi H Q ->
  ∃T id,typeLookup (.type T) "__getitem__"=pure (some (.builtin id))/\s.TypeIs v T/\wpAny (model X.prog X.w) X.A (getItem v (.ref sl)) (EP X pins Y Q) X.xe s
def uZ.or(h:uZ X r)(h':uZ X r'):uZ X (λx lo hi H Q=>r x lo hi H Q\/r' x lo hi H Q):=by
 intro pins s Y H x v vl vu lo hi sl Q I rx hs pl pu q;rcases q with q | q
 ·exact h pins s Y H x v vl vu lo hi sl Q I rx hs pl pu q
 ·exact h' pins s Y H x v vl vu lo hi sl Q I rx hs pl pu q
noncomputable def tSl(r:V->Option Int->Option Int->Hp->VK->Prop)(te:TE)(tl th:TO):TE:=λY H Q=>te Y H λx H1=>tl Y H1 λl H2=>th Y H2 λu H3=>r x l u H3 Q
def NS(hr:uZ X r)(he:PE X e te)(hl:PO X lo tl)(hu:PO X hi th):PE X (.Subscript e (.Slice lo hi none p2) pos) (tSl r te tl th):=by
 intro pins s Y H Q I h;refine Subscript_ (a7 (he pins s Y H _ I h) λv s1 hz=>?_);obtain⟨x,H1,I1,r1,q1⟩:=hz;refine wpAny_Slice (a7 (hl pins s1 Y H1 _ I1 q1) λvl s2 ⟨l,H2,I2,pl,q2⟩=>a7 (hu pins s2 Y H2 _ I2 q2) λvu s3 hz=>?_);obtain⟨u,H3,I3,pu,q3⟩:=hz;rw[evalPart_none];refine Zu ?_;have I4:Inv X pins Y H3 { s3 with heap:=s3.heap.push { cls:=.type "slice",data:=.fields #[vl,vu,.none] } }:=I3.kept (t':=s3.toks) λb ob q=>Zd _ q
 obtain⟨T,id,hT,ht,hg⟩:=hr pins { s3 with heap:=s3.heap.push { cls:=.type "slice",data:=.fields #[vl,vu,.none] } } Y H3 x v vl vu l u s3.heap.objs.size Q I4 r1 (Heap.IsSliceOf.new ..) pl pu q3;show wpAny (model X.prog X.w) X.A (subscriptTail e (.Slice lo hi none p2) v (.ref s3.heap.objs.size)) (EP X pins Y Q) X.xe { s3 with heap:=s3.heap.push { cls:=.type "slice",data:=.fields #[vl,vu,.none] } };exact tail_any (ops:=[.ref s3.heap.objs.size,v]) ht hT hg (by with_unfolding_all rfl)
noncomputable def qL(xs:List V)(lo hi:Option Int):List V:=(xs.drop (HT.bT xs.length 0 lo)).take (HT.bT xs.length xs.length hi-HT.bT xs.length 0 lo)
def sI(xs:List V)(lo hi:Option Int):(qL xs lo hi).length<=xs.length:=by
 unfold qL;rw[List.length_take,List.length_drop];omega
def aF0(K:Frag):V->Option Int->Option Int->Hp->VK->Prop:=λx lo hi H Q=>∃a xs,x=.ref a/\dC K H a xs /\
 ¬(HT.bT xs.length 0 lo=0/\HT.bT xs.length xs.length hi=xs.length)/\∀p,H p=none->Q (.ref p) (aO H p (.tup (qL xs lo hi)))
def aB1:uZ X (aF0 X.K):=by
 intro pins s Y H x v vl vu lo hi sl Q I rx hs pl pu h;obtain⟨a,xs,rfl,hx,hw,q⟩:=h;cases rx;obtain⟨its,r,ht,hz⟩:=I.tuple hx;have hlen:its.toArray.size=xs.length:=by rw[Zi];exact r.length.symm
 refine⟨"tuple",_,PyProof.Rows.slot_tuple_getitem.lookup,ht.typeIs, ?_⟩;refine HT.sC ht hs pl pu (by rw[hlen];exact hw) ?_ (by rw[hlen];exact hz);rw[hlen];refine⟨.ref s.heap.objs.size,_,I.laid (t':=s.toks) (o:=.tup (qL xs lo hi)) (λb ob q=>Zd _ q) (Zq _) ?_,rfl,q _ (I.hok.fresh (Zq _))⟩;exact⟨Zr (sI xs lo hi) hz,_,(r.drop (HT.bT xs.length 0 lo)).take (HT.bT xs.length xs.length hi-HT.bT xs.length 0 lo),IsTup.new _ _⟩
end
noncomputable def kS(n:Nat)(i:Int):Option Nat:=if 0<=i then(if i<n then some i.toNat else none) else if -(n:Int)<=i then some (i+n).toNat else none
noncomputable def cP(xs:List J)(i:Int):Option J:=(kS xs.length i).bind λj=>xs[j]?
def FC(h:kS n i=some j):seqIndex? i n=some j/\j<n/\-(n:Int)<=i/\i<n:=by
 unfold kS at h;by_cases h0:0<=i
 ·rw[Zo h0] at h;by_cases h1:i<n
  ·rw[Zo h1] at h;have e:i.toNat=j:=Option.some.inj h;exact⟨by rw[seqIndex_of h0 h1,e],by omega,by omega,h1⟩
  ·rw[Zp h1] at h;cases h
 ·rw[Zp h0] at h;by_cases h1:-(n:Int)<=i
  ·rw[Zo h1] at h;have e:(i+n).toNat=j:=Option.some.inj h;exact⟨by rw[seqIndex_neg (by omega) h1,e],by omega,h1,by omega⟩
  ·rw[Zp h1] at h;cases h
def wX(h:cP xs i=some v):∃j,seqIndex? i xs.length=some j/\xs[j]?=some v/\j<xs.length/\-(xs.length:Int)<=i/\i<xs.length:=by
 unfold cP at h
 cases e:kS xs.length i with
 |none=>rw[e] at h;cases h
 |some j =>
  rw[e] at h;obtain⟨h1,h2,h3,h4⟩:=FC e;exact⟨j,h1,h,h2,h3,h4⟩
def fE{j:Nat}(h:xs[j]?=some v):cP xs (j:Int)=some v:=by
 have hj:j<xs.length:=(Zc.mp h).1
 have e:kS xs.length (j:Int)=some j:=by(unfold kS;rw[Zo (by omega),Zo (by omega)];simp)
 unfold cP;rw[e];exact h
def xD(b:Expr):Prop:=∀o i,subscripted b false o i=operate [o,i] (getItem o i)
def kJ(X:Cx)(r:R2):Prop :=
 ∀(value slice:Expr) (pins:List (Addr×Obj)) (s:Shared) (Y:St) (H:Hp) (x y:V) (v u:Value) (Q:VK),Inv X pins Y H s->aY x v->aY y u->r x y H Q ->
  subscripted slice false v u=operate [v,u] (getItem v u)->wpAny (model X.prog X.w) X.A (subscriptTail value slice v u) (EP X pins Y Q) X.xe s
def MtR(X:Cx)(id:String)(r:V->List V->Hp->VK->Prop):Prop :=
 ∀(pins:List (Addr×Obj)) (s:Shared) (Y:St) (H:Hp) (x:V) (xs:List V) (v:Value) (us:List Value) (Q:VK),Inv X pins Y H s->aY x v->aQ xs us->r x xs H Q ->
  wpAny (model X.prog X.w) X.A (call (.builtin id) (v::us)) (EP X pins Y Q) X.xe s
section
variable{pos:Pos}
def kJ.or(h:kJ X r)(h':kJ X r'):kJ X (λx y H Q=>r x y H Q\/r' x y H Q):=by
 intro value slice pins s Y H x y v u Q I rx ry q hs;rcases q with q | q
 ·exact h value slice pins s Y H x y v u Q I rx ry q hs
 ·exact h' value slice pins s Y H x y v u Q I rx ry q hs
def aEj(hr:kJ X r)(ha:PE X a ta)(hb:PE X b tb)(hs:xD b):PE X (.Subscript a b pos) (LG r ta tb):=by
 intro pins s Y H Q I h;exact Subscript_ (RO ha hb I h λv u s2 x y H2 I2 rx ry q=>hr a b pins s2 Y H2 x y v u Q I2 rx ry q (hs _ _))
noncomputable def aBc(K:Frag):R2:=λx y H Q=>∃p xs i v,x=.ref p/\y=.int i/\bX K H p xs/\cP xs i=some v/\Q v H
noncomputable def aBY(K:Frag):R2:=λx y H Q=>∃p xs i v,x=.ref p/\y=.int i/\dC K H p xs/\cP xs i=some v/\Q v H
noncomputable def F6:R2:=λx y H Q=>∃z i c,x=.str z/\y=.int i/\z.length<=sizeLine/\cP z.cps.toList i=some c/\Q (.str ⟨#[c]⟩) H
def XN:kJ X (aBc X.K):=by
 intro value slice pins s Y H x y v u Q I rx ry h hs;obtain⟨p,xs,i,z,rfl,rfl,hq,he,q⟩:=h;cases rx;obtain⟨t,rfl⟩:=ry;obtain⟨its,r,pl,hz⟩:=I.list hq;obtain⟨j,h1,h2,h3,h4,h5⟩:=wX he;obtain⟨w,ew,rw'⟩:=r.get h2;have hl:=r.length;have hn:=lM;have fin:EP X pins Y Q w s:=⟨z,H,I,rw',q⟩
 by_cases h0:0<=i
 ·have hj:i.toNat=j:=by
   rw[seqIndex_of h0 h5] at h1;exact Option.some.inj h1
  exact item_listR pl.isList h0 (by omega) (by rw[hj];simpa using ew) fin hs
 ·have hj:(i+(its.toArray.size:Int)).toNat=j:=by
   rw[seqIndex_neg (by omega) h4] at h1;rw[Zi,<- hl];exact Option.some.inj h1
  exact subscriptTail_builtinR (x:=w) pl.isList.typeIs slot_list_getitem.lookup
   (wpAny_getItem_list_neg (Q:=λr s'=>r=w/\EP X pins Y Q r s') pl.isList (by omega) (by rw[Zi]<;>omega) (by omega) (by rw[hj];simpa using ew) ⟨rfl,fin⟩) hs
def aAa:kJ X (aBY X.K):=by
 intro value slice pins s Y H x y v u Q I rx ry h hs;obtain⟨p,xs,i,z,rfl,rfl,hq,he,q⟩:=h;cases rx;obtain⟨t,rfl⟩:=ry;obtain⟨its,r,pl,hz⟩:=I.tuple hq;obtain⟨j,h1,h2,h3,h4,h5⟩:=wX he;obtain⟨w,ew,rw'⟩:=r.get h2;have hl:=r.length;have hn:=lM;have fin:EP X pins Y Q w s:=⟨z,H,I,rw',q⟩
 exact subscriptTail_builtinR (x:=w) pl.typeIs slot_tuple_getitem.lookup
  (getItem_tuple (Q:=λr s'=>r=w/\EP X pins Y Q r s') pl (by omega) (by omega) (by rw[Zi,<- hl];exact h1) (by simpa using ew) ⟨rfl,fin⟩) hs
def aCa:kJ X F6:=by
 intro value slice pins s Y H x y v u Q I rx ry h hs;obtain⟨z,i,c,rfl,rfl,hz,he,q⟩:=h;obtain⟨t,rfl⟩:=rx;obtain⟨t',rfl⟩:=ry;obtain⟨j,h1,h2,h3,h4,h5⟩:=wX he;have hl:z.cps.toList.length=z.length:=by simp[Str.length]
 rw[hl] at h1 h4 h5;have hn:=lM
 exact tail_any (typeIs_str s z t) slot_str_getitem.lookup (getItem_str (by
  have e1:decide (i < -(2 ^ 63:Int))=false:=Zm (by omega);have e2:decide (i >= 2 ^ 63)=false:=Zm (by omega)
  rw[e1,e2,Bool.or_false]) (by rw[h1];simpa using h2) ⟨.str ⟨#[c]⟩,H,I.tok _,⟨_,rfl⟩,q⟩) hs
noncomputable def rIx(K:Frag):R2:=λx y H Q=>aBc K x y H Q\/aBY K x y H Q\/F6 x y H Q
def aCC:kJ X (rIx X.K):=XN.or (aAa.or aCa)
def IL(its:List Value)(n j:Nat)(u:Value):Obj.mapSeq (·.setIfInBounds j u) { cls:=.type "list",data:=.seq its.toArray n }={ cls:=.type "list",data:=.seq (its.set j u).toArray n }:=by
 simp[Obj.mapSeq]
theorem Inv.lst(I:Inv X pins Y H s)(h:H p=some (.lst xs)) :
  ∃(its:List Value) (n:Nat),aQ xs its/\s.heap.get? p=some { cls:=.type "list",data:=.seq its.toArray n }/\xs.length<=sizeLine:=by
 obtain⟨z,its,n,r,e⟩:=I.hok p _ h;exact⟨its,n,r,e,z⟩
def Inv.lstUpd{its its':List Value}(I:Inv X pins Y H s)(h:H p=some (.lst xs))
  (ho:s.heap.get? p=some { cls:=.type "list",data:=.seq its.toArray n }) (hf:f { cls:=.type "list",data:=.seq its.toArray n }={ cls:=.type "list",data:=.seq its'.toArray n' }) (r:aQ ys its') (hz:ys.length<=sizeLine) (t:Nat) :
  Inv X pins Y (aO H p (.lst ys)) { s with heap:=s.heap.update p f,toks:=t }:=by
 have e:(s.heap.update p f).get? p=some { cls:=.type "list",data:=.seq its'.toArray n' }:=by(rw[Heap.get?_update_self f ho (by rw[hf]<;>rfl),hf])
 refine I.write (x:=p) (e:=p) (by rw[h];trivial) (.inl rfl) (λb u hb q=>(Heap.get?_update_other _ _ (Ne.symm hb)).trans q) ⟨_,e⟩ ?_;exact⟨hz,its',n',r,e⟩
def S9:V->V->V->Hp->(Hp->Prop)->Prop:=λo i v H Q=>∃p xs k j,o=.ref p/\i=.int k/\H p=some (.lst xs)/\kS xs.length k=some j/\Q (aO H p (.lst (xs.set j v)))
def P4:PF X S9:=by
 intro pins s Y H o i v ov iv u Q I ro ri rv h;obtain⟨p,xs,k,j,rfl,rfl,hp,hj,q⟩:=h;cases ro;obtain⟨t,rfl⟩:=ri;obtain⟨its,n,r,ho,hz⟩:=I.lst hp;obtain⟨h1,h2,h3,h4⟩:=FC hj;have hl:=r.length;have hn:=lM
 have I':Inv X pins Y (aO H p (.lst (xs.set j v))) { s with heap:=s.heap.update p (Obj.mapSeq (·.setIfInBounds j u)) } :=
  I.lstUpd hp ho (IL its n j u) (r.set rv j) (by rw[zg];exact hz) s.toks
 by_cases h0:0<=k
 ·have hk:k.toNat=j:=by
   rw[seqIndex_of h0 h4] at h1;exact Option.some.inj h1
  exact PySem.W.ki_setAt ho h0 (by omega) (by rw[Zi,<- hl];exact h4) (by rw[hk];exact⟨_,I',q⟩)
 ·have hk:(k+(its.toArray.size:Int)).toNat=j:=by
   rw[seqIndex_neg (by omega) h3] at h1;rw[Zi,<- hl];exact Option.some.inj h1
  exact PySem.W.ki_setBack ho (by omega) (by rw[Zi,<- hl];exact h3) (by omega) (by rw[hk];exact⟨_,I',q⟩)
def C2(lo hi:Option Int)(n:Nat):(sliceBounds lo hi none n).1=((HT.bT n 0 lo:Nat):Int)/\(sliceBounds lo hi none n).2.1=((HT.bT n n hi:Nat):Int)/\(sliceBounds lo hi none n).2.2=1:=by
 refine⟨?_, ?_,rfl⟩
 ·cases lo with
  |none=>simp[sliceBounds,HT.bT]
  |some i =>
   simp only[sliceBounds,HT.bT,Option.getD_none,show(1:Int) > 0 by decide,if_true];by_cases h:i<0
   ·simp only[h,if_true]<;>omega
   ·simp only[h,if_false]<;>omega
 ·cases hi with
  |none=>simp[sliceBounds,HT.bT]
  |some i =>
   simp only[sliceBounds,HT.bT,Option.getD_none,show(1:Int) > 0 by decide,if_true];by_cases h:i<0
   ·simp only[h,if_true]<;>omega
   ·simp only[h,if_false]<;>omega
def z7(its:List Value)(lo hi:Option Int):slicePick its.toArray lo hi none=((its.drop (HT.bT its.length 0 lo)).take (HT.bT its.length its.length hi-HT.bT its.length 0 lo)).toArray:=by
 obtain⟨h1,h2,h3⟩:=C2 lo hi its.toArray.size;unfold slicePick;rw[h1,h2,h3];simp only[sliceRange_one,pick_run,Zi]<;>rfl
def aGF(K:Frag):V->Option Int->Option Int->Hp->VK->Prop:=λx lo hi H Q=>∃a xs,x=.ref a/\bX K H a xs/\∀p,H p=none->Q (.ref p) (aO H p (.lst (qL xs lo hi)))
def YL:uZ X (aGF X.K):=by
 intro pins s Y H x v vl vu lo hi sl Q I rx hs pl pu h;obtain⟨a,xs,rfl,hx,q⟩:=h;cases rx;obtain⟨its,r,ht,hz⟩:=I.list hx;have hlen:=r.length;refine⟨"list",_,slot_list_getitem.lookup,ht.isList.typeIs, ?_⟩;refine wpAny_getItem_list_slice ht.isList hs pl pu .none (by simp) ?_ (by rw[Zi]<;>omega);rw[z7,<- hlen];refine⟨.ref s.heap.objs.size,_,I.laid (t':=s.toks) (o:=.lst (qL xs lo hi)) (λb ob q=>Zd _ q) (Zq _) ?_,rfl,q _ (I.hok.fresh (Zq _))⟩;exact⟨Zr (sI xs lo hi) hz,_,0,(r.drop (HT.bT xs.length 0 lo)).take (HT.bT xs.length xs.length hi-HT.bT xs.length 0 lo),Zw _ rfl⟩
noncomputable def kC:V->Bool
 |.non=>true
 |.bl _=>true
 |.int _=>true
 |.str _=>true
 |_=>false
noncomputable def nW:V->V->Bool
 |.non,.non=>true
 |.bl a,.bl b=>a==b
 |.bl a,.int b=>(if a then 1 else 0)==b
 |.int a,.bl b=>a==(if b then 1 else 0)
 |.int a,.int b=>a==b
 |.str a,.str b=>a==b
 |_,_=>false
def aAI(ry:aY y u)(rx:aY x v)(fy:kC y=true)(fx:kC x=true):SeqAt.EqAt A s u v (nW y x):=by
 cases y with
 |non =>
  cases ry
  cases x with
  |non=>cases rx;exact SeqAt.EqAt.same _
  |bl b=>cases rx;exact SeqAt.EqAt.none_bool b
  |int b=>obtain⟨t,rfl⟩:=rx;exact SeqAt.EqAt.none_int b t
  |str b=>obtain⟨t,rfl⟩:=rx;exact SeqAt.EqAt.none_str b t
  |_=>exact absurd (show false=true from fx) Bool.false_ne_true
 |bl a =>
  cases ry
  cases x with
  |non=>cases rx;exact SeqAt.EqAt.bool_none a
  |bl b=>cases rx;exact SeqAt.EqAt.bool_bool a b
  |int b=>obtain⟨t,rfl⟩:=rx;exact SeqAt.EqAt.bool_int a b t
  |str b=>obtain⟨t,rfl⟩:=rx;exact SeqAt.EqAt.bool_str a b t
  |_=>exact absurd (show false=true from fx) Bool.false_ne_true
 |int a =>
  obtain⟨t',rfl⟩:=ry
  cases x with
  |non=>cases rx;exact SeqAt.EqAt.int_none a t'
  |bl b=>cases rx;exact SeqAt.EqAt.int_bool a t' b
  |int b=>obtain⟨t,rfl⟩:=rx;exact SeqAt.EqAt.int_int a t' b t
  |str b=>obtain⟨t,rfl⟩:=rx;exact SeqAt.EqAt.int_str a t' b t
  |_=>exact absurd (show false=true from fx) Bool.false_ne_true
 |str a =>
  obtain⟨t',rfl⟩:=ry
  cases x with
  |non=>cases rx;exact SeqAt.EqAt.str_none a t'
  |bl b=>cases rx;exact SeqAt.EqAt.str_bool a t' b
  |int b=>obtain⟨t,rfl⟩:=rx;exact SeqAt.EqAt.str_int a t' b t
  |str b=>obtain⟨t,rfl⟩:=rx;exact SeqAt.EqAt.str_str a t' b t
  |_=>exact absurd (show false=true from fx) Bool.false_ne_true
 |_=>exact absurd (show false=true from fy) Bool.false_ne_true
noncomputable def l6(x:V)(u:Value):Bool:=match u with
 |.none=>nW .non x
 |.bool b=>nW (.bl b) x
 |.int i _=>nW (.int i) x
 |.str z _=>nW (.str z) x
 |_=>false
def KJ(r:aY y u)(f:kC y=true):l6 x u=nW y x:=by
 cases y with
 |non=>cases r;rfl
 |bl b=>cases r;rfl
 |int i=>obtain⟨t,rfl⟩:=r;rfl
 |str z=>obtain⟨t,rfl⟩:=r;rfl
 |_=>exact absurd (show false=true from f) Bool.false_ne_true
theorem nT:∀{xs:List V} {us:List Value},aQ xs us->xs.all kC=true->us.any (l6 x)=xs.any λy=>nW y x
 |_,_,.nil,_=>rfl
 |y::xs,u::us,.cons r t,f=>by(rw[Zj,ZB] at f;rw[List.any_cons,List.any_cons,KJ r f.1,nT t f.2])
theorem lU(rx:aY x v)(fx:kC x=true):∀{xs:List V} {us:List Value},aQ xs us->xs.all kC=true->∀u∈us,SeqAt.EqAt A s u v (l6 x u)
 |_,_,.nil,_=>λu hu=>by cases hu
 |y::xs,u::us,.cons r t,f=>λu' hu=>by
  rw[Zj,ZB] at f;rcases List.mem_cons.mp hu with rfl | hu
  ·rw[KJ r f.1];exact aAI r rx f.1 fx
  ·exact lU rx fx t f.2 u' hu
noncomputable def TV(x:V)(xs:List V):Bool:=xs.any λy=>nW y x
noncomputable def rIn(K:Frag)(neg:Bool):R2:=λx y H Q=>∃p xs,y=.ref p/\(bX K H p xs\/dC K H p xs)/\kC x=true/\xs.all kC=true/\Q (.bl (if neg then !TV x xs else TV x xs)) H
def yR:eW X (compareOp .In) (rIn X.K false):=by
 intro pins s Y H x y v u Q I rx ry h;obtain⟨p,xs,rfl,hq,fx,fs,q⟩:=h;cases ry;rcases hq with hq | hq
 ·obtain⟨its,r,pl,hz⟩:=I.list hq;refine SeqAt.in_listAt (l6 x) pl.isList (λw hw=>lU rx fx r fs w (by simpa using hw)) ⟨.bl _,H,I,rfl, ?_⟩;rw[show its.toArray.any (l6 x)=its.any (l6 x) by simp,nT r fs];exact q
 ·obtain⟨its,r,pl,hz⟩:=I.tuple hq;refine SeqAt.in_tupleAt (l6 x) pl (λw hw=>lU rx fx r fs w (by simpa using hw)) ⟨.bl _,H,I,rfl, ?_⟩;rw[show its.toArray.any (l6 x)=its.any (l6 x) by simp,nT r fs];exact q
def p9:eW X (compareOp .NotIn) (rIn X.K true):=by
 intro pins s Y H x y v u Q I rx ry h;obtain⟨p,xs,rfl,hq,fx,fs,q⟩:=h;cases ry;rcases hq with hq | hq
 ·obtain⟨its,r,pl,hz⟩:=I.list hq;refine SeqAt.notIn_listAt (l6 x) pl.isList (λw hw=>lU rx fx r fs w (by simpa using hw)) ⟨.bl _,H,I,rfl, ?_⟩;rw[show its.toArray.any (l6 x)=its.any (l6 x) by simp,nT r fs];exact q
 ·obtain⟨its,r,pl,hz⟩:=I.tuple hq;refine SeqAt.notIn_tupleAt (l6 x) pl (λw hw=>lU rx fx r fs w (by simpa using hw)) ⟨.bl _,H,I,rfl, ?_⟩;rw[show its.toArray.any (l6 x)=its.any (l6 x) by simp,nT r fs];exact q
def qC:iO X (.builtin "len") (λxs H Q=>∃p ys,xs=[.ref p]/\(bX X.K H p ys\/dC X.K H p ys)/\Q (.int ys.length) H):=by
 intro pins s Y H xs us Q I r h;obtain⟨p,ys,rfl,hq,q⟩:=h;obtain⟨u,rfl,rx⟩:=kB r;cases rx;have hn:=lM;rcases hq with hq | hq
 ·obtain⟨its,r',pl,hz⟩:=I.list hq;have hlen:=r'.length;exact Calls.call_len_list pl.isList (by simp only[Zi]<;>omega) ⟨.int ys.length,H,I.tok _,⟨s.toks+1,by rw[Zi,hlen]⟩,q⟩
 ·obtain⟨its,r',pl,hz⟩:=I.tuple hq;have hlen:=r'.length;exact len_tuple pl (by simp only[Zi]<;>omega) ⟨.int ys.length,H,I.tok _,⟨s.toks+1,by rw[Zi,hlen]⟩,q⟩
def BZ:iO X (.builtin "len") (λxs H Q=>∃z,xs=[.str z]/\z.length<=sizeLine/\Q (.int z.length) H):=by
 intro pins s Y H xs us Q I r h;obtain⟨z,rfl,hz,q⟩:=h;obtain⟨u,rfl,t,rfl⟩:=kB r;have hn:=lM;exact len_str (by omega) ⟨.int z.length,H,I.tok _,⟨_,rfl⟩,q⟩
def o9:iO X (.type "tuple") (λxs H Q=>∃p ys,xs=[.ref p]/\((bX X.K H p ys/\∀l,H l=none->Q (.ref l) (aO H l (.tup ys)))\/(dC X.K H p ys/\Q (.ref p) H))):=by
 intro pins s Y H xs us Q I r h;obtain⟨p,ys,rfl,h⟩:=h;obtain⟨u,rfl,rx⟩:=kB r;cases rx;rcases h with ⟨hq,q⟩ | ⟨hq,q⟩
 ·obtain⟨its,r',pl,hz⟩:=I.list hq;have hlen:=r'.length;refine call_tuple_list pl.isList (λh' kp=>?_) (by simp only[Zi]<;>omega);have I1:Inv X pins Y H { s with heap:=h' }:=I.kept (t':=s.toks) kp
  have I2:Inv X pins Y (aO H h'.objs.size (.tup ys)) { s with heap:=h'.push { cls:=.type "tuple",data:=.seq its.toArray } } :=
   I1.laid (t':=s.toks) (λb o e=>Zd _ e) (Zq _) (show dU X.prog X.w _ _ _ (.tup ys) from⟨hz,its,r',IsTup.new _ _⟩)
  exact⟨.ref h'.objs.size,_,I2,rfl,q _ (I1.hok.fresh (Zq _))⟩
 ·obtain⟨its,r',pl,hz⟩:=I.tuple hq;exact call_tuple_same pl ⟨.ref p,H,I,rfl,q⟩
def tyV(K:Frag)(T:String)(x:V)(H:Hp):Prop:=match x with
 |.str _=>T="str"
 |.int _=>T="int"
 |.ref p=>(T="list"/\∃xs,bX K H p xs)\/(T="tuple"/\∃o,K.lookup p=some o/\o.cls=.type "tuple"/\o.dict=none) \/
   (T="dict"/\∃kvs,H p=some (.dK kvs))\/(T="set"/\∃S n,H p=some (.set S n))
 |_=>False
def aB3(I:Inv X pins Y H s)(r:aY x v)(ty:tyV X.K T x H) :
  s.TypeIs v T/\∀a,v=.ref a->∃ob,s.heap.get? a=some ob/\ob.dict=none:=by
 cases x with
 |str z =>
  obtain⟨t,rfl⟩:=r;cases (show T="str" from ty);exact⟨typeIs_str s z t,λ_ e=>nomatch e⟩
 |int i =>
  obtain⟨t,rfl⟩:=r;cases (show T="int" from ty);exact⟨typeIs_int s i t,λ_ e=>nomatch e⟩
 |ref p =>
  cases r;rcases ty with ⟨rfl,xs,hq⟩ | ⟨rfl,o,hk,hc,hd⟩ | ⟨rfl,hk⟩ | ⟨rfl,S,n,hk⟩
  ·obtain⟨its,_,pl,_⟩:=I.list hq;refine⟨pl.isList.typeIs,λa e=>?_⟩;cases e;obtain⟨o,n,e,c,hd,_⟩:=pl;exact⟨o,e,hd⟩
  ·refine⟨⟨o,I.kIn p o hk,hc⟩,λa e=>?_⟩;cases e;exact⟨o,I.kIn _ o hk,hd⟩
  ·have z:∃o,s.heap.get? p=some o/\o.ExactDict:=by
    obtain⟨kvs,hk⟩:=hk;obtain⟨_,_,_,_,o,_,_,e,ex,_⟩:=I.hok p _ hk;exact⟨o,e,ex⟩
   obtain⟨o,e,ex⟩:=z;refine⟨⟨o,e,ex.1⟩,λa e2=>?_⟩;cases e2;exact⟨o,e,ex.2.1⟩
  ·obtain⟨o,_,_,_,e,ex,_⟩:=I.hok p _ hk;refine⟨⟨o,e,ex.1⟩,λa e2=>?_⟩;cases e2;exact⟨o,e,ex.2.1⟩
 |_=>exact False.elim ty
noncomputable def tBM(K:Frag)(T:String)(r:V->List V->Hp->VK->Prop)(to:TE)(t:TA):TE:=λY H Q=>to Y H λx H1=>tyV K T x H1/\t Y H1 λxs H2=>r x xs H2 Q
variable{T id:String}
def IC(pa:PlainAttrs T)(slot:Slot T name id)(hty:typeOf (.builtin id)=pure (.type "method_descriptor"))(hm:MtR X id r)(ho:PE X o to)(ha:PA X (e::es) t)
  (hbase:attributeBase o name X.env (eval o X.env)=eval o X.env:=by rfl)
  (hfew:((backTo cpos (starEach (e::es) X.env)).all (λx=>!x.1)&&(backToKw cpos (keywordEach [] X.env)).all (λx=>x.1.isSome)
   && decide ((e::es).length+([]:List Keyword).length+(if([]:List Keyword).isEmpty then 0 else 1)<30))=true:=by rfl)
  (hline:(apos.endLine==cpos.line)=true:=by rfl) (hs:starEach (e::es) X.env=(false,eval e X.env)::starEach es X.env:=by rfl) (hplain:(backTo cpos (starEach es X.env)).any (·.1)=false:=by rfl) :
  PE X (.Call (.Attribute o name apos) (e::es) [] cpos) (tBM X.K T r to t):=by
 intro pins s Y H Q I h;refine wpAny_Call_method_late hbase hfew hline rfl (a7 (ho pins s Y H _ I h) λv s1 hz=>?_);obtain⟨x,H1,I1,r1,ty,q1⟩:=hz;obtain⟨h1,h2⟩:=aB3 I1 r1 ty;refine⟨T,id,pa,slot,hty,h1,h2, ?_⟩;have hA:=ha cpos pins s1 Y H1 _ I1 q1;rw[hs] at hA ⊢;refine Calls.callWith_builtin (by show(false||(backTo cpos (starEach es X.env)).any (·.1))=false;rw[hplain]<;>rfl) (Calls.evalArgs_plain ?_);exact a7 hA λus s2 ⟨vs,H2,I2,r2,q2⟩=>hm pins s2 Y H2 x vs v us Q I2 r1 r2 q2
end
def MtM(X:Cx)(id:String)(r:V->List V->Hp->VK->Prop):Prop :=
 ∀(pins:List (Addr×Obj)) (s:Shared) (Y:St) (H:Hp) (x:V) (xs:List V) (v:Value) (us:List Value) (Q:VK),Inv X pins Y H s->aY x v->aQ xs us->r x xs H Q ->
  wpAny (model X.prog X.w) X.A (call (.builtin id) (v::us)) (EP X pins Y Q) X.xe s
def aQ.one{x:V}{us:List Value}(h:aQ [x] us):∃u,us=[u]/\aY x u:=by
 cases h with | cons r t=>cases t;exact⟨_,rfl,r⟩
def aQ.two{x y:V}{us:List Value}(h:aQ [x,y] us):∃u v,us=[u,v]/\aY x u/\aY y v:=by
 cases h with | cons r t=>obtain⟨_,rfl,q⟩:=aQ.one t;exact⟨_,_,rfl,r,q⟩
theorem aQ.rep(h:aQ xs us):∀k:Nat,aQ (List.replicate k xs).flatten (List.replicate k us).flatten
 | 0=>.nil
 |k+1=>by(rw[List.replicate_succ,List.replicate_succ,List.flatten_cons,List.flatten_cons];exact aQ.append h (aQ.rep h k))
section
variable{X:Cx}{pins:List (Addr×Obj)}{Y:St}{H:Hp}{s:Shared}{l b:Addr}{xs ys zs:List V}
def Inv.lset{its its':List Value}(I:Inv X pins Y H s)(hH:H l=some (.lst xs))
  (e:s.heap.get? l=some { cls:=.type "list",data:=.seq its.toArray n }) (hf:f its.toArray=its'.toArray) (hv:aQ ys its') (hz:ys.length<=sizeLine) :
  Inv X pins Y (aO H l (.lst ys)) { s with heap:=s.heap.update l (Obj.mapSeq f),toks:=t' }:=by
 have q:=PySem.IsL.update e f;rw[hf] at q;refine I.write (x:=l) (e:=l) (by rw[hH];exact trivial) (.inl rfl) (λb' u hb hu=>(Heap.get?_update_other s.heap (Obj.mapSeq f) (Ne.symm hb)).trans hu) ⟨_,q⟩ ?_;exact⟨hz,its',_,hv,q⟩
def Inv.lnew(I:Inv X pins Y H s)(hv:aQ ys its)(hz:ys.length<=sizeLine) :
  Inv X pins Y (aO H s.heap.objs.size (.lst ys)) { s with heap:=s.heap.push { cls:=.type "list",data:=.seq its.toArray },toks:=t' } :=
 I.laid (λ_ _ q=>Zd _ q) (Zq _) ⟨hz,its,0,hv,Zw _ rfl⟩
theorem Inv.fresh(I:Inv X pins Y H s):H s.heap.objs.size=none:=I.hok.fresh (Zq _)
def Inv.lstM(I:Inv X pins Y H s)(hH:H l=some (.lst xs)):xs.length<=sizeLine/\∃(its:List Value) (n:Nat),aQ xs its/\xs.length=its.length/\s.heap.get? l=some { cls:=.type "list",data:=.seq its.toArray n }:=by
 obtain⟨z,its,n,r,e⟩:=I.hok l _ hH;exact⟨z,its,n,r,r.length,e⟩
def OQ(h:n<=sizeLine):Builtin.List.listTooLong n=false:=by
 unfold Builtin.List.listTooLong;exact Zm (by omega)
end
section
variable{X:Cx}
def XB:V->List V->Hp->VK->Prop:=λx vs H Q=>∃l xs y,x=.ref l/\vs=[y]/\H l=some (.lst xs)/\xs.length<sizeLine/\Q .non (aO H l (.lst (xs++[y])))
def zH:MtM X "list.append" XB:=by
 intro pins s Y H x vs v us Q I rx rv h;obtain⟨l,xs,y,rfl,rfl,hH,hz,q⟩:=h;cases rx;obtain⟨u,rfl,ru⟩:=rv.one;obtain⟨z,its,n,r,hl,e⟩:=I.lstM hH;refine call_meets F.slot_list_append ⟨_,e,rfl⟩ F.entry_list_append (F.args_list_append_2 _ _) (PySem.list_append l its.toArray n u (by rw[Zi];omega)) ⟨e, ?_⟩;refine⟨.non,_,I.lset (its':=its++[u]) hH e (by simp) (r.append (.cons ru .nil)) ?_,rfl,q⟩;rw[Za,Zg];omega
def ZQ:V->List V->Hp->VK->Prop:=λx vs H Q=>∃l b xs zs,x=.ref l/\vs=[.ref b]/\H l=some (.lst xs)/\H b=some (.lst zs)/\xs.length+zs.length<=sizeLine/\Q .non (aO H l (.lst (xs++zs)))
def L6:MtM X "list.extend" ZQ:=by
 intro pins s Y H x vs v us Q I rx rv h;obtain⟨l,b,xs,zs,rfl,rfl,hH,hB,hz,q⟩:=h;cases rx;obtain⟨u,rfl,ru⟩:=rv.one;cases ru;obtain⟨z,its,n,r,hl,e⟩:=I.lstM hH;obtain⟨z2,its2,n2,r2,hl2,e2⟩:=I.lstM hB;have hsz:its.toArray.size+its2.toArray.size<=sizeLine:=by rw[Zi,Zi];omega
 have hlong:¬(!its.toArray.isEmpty&&Builtin.List.listTooLong (its.toArray.size+its2.toArray.size))=true:=by(rw[OQ hsz,Bool.and_false];exact Bool.false_ne_true)
 refine call_meets F.slot_list_extend ⟨_,e,rfl⟩ F.entry_list_extend (F.args_list_extend_2 _ _)
  (AutoSeq1.list_extend_list_list_0 l its.toArray n b its2.toArray n2 hlong (by rw[Zi];omega) (by omega)) ⟨e,e2, ?_⟩
 refine⟨.non,_,I.lset (its':=its++its2) hH e (by simp) (r.append r2) ?_,rfl,q⟩;rw[Za];omega
end
end L2
namespace Att
open PySem PySem.W PySem.Calls PyProof.Rows
def uL:∀(ns:List Int) (vs:List Value),WellAll P h vs (ns.map WData.int)->IntsAre vs ns:=by
 intro ns
 induction ns with
 |nil =>
  intro vs w;rw[List.map_nil] at w;cases w;exact .nil
 |cons n ns ih =>
  intro vs w;rw[Zs] at w
  cases w with
  |cons a b =>
   cases a;exact .cons _ _ (ih _ b)
def KN{l:OpenLaw}(hn:l.most=some n)
  (hpre:l.row.toRowW.claim.pre args=true) (hwl:WellAll P h vals args) :
  ∃a vs ns,vals=[Value.ref a]/\args=[WData.list (ns.map WData.int)]/\h.get? a=some { cls:=.type "list",data:=.seq vs.toArray }/\IntsAre vs ns/\ns.length<=n:=by
 have hsh:WShape.hasAll [] args [.list .int]=true:=(pre_splitW hpre).1;have hc:l.pre.holds [] { args:=args }=true:=(pre_splitW hpre).2;obtain⟨d,r,rfl,h1,h2⟩:=hasAllW_cons hsh;obtain rfl:=hasAllW_nil h2;obtain⟨xs,rfl,h3⟩:=hasW_list h1;obtain⟨ns,rfl⟩:=items_int h3
 have hlen:ns.length<=n:=by
  unfold OpenLaw.pre at hc
  have h4:(WTm.not (.lt (.lit (.int (n:Int))) (.len (.arg 0)))).holds [] { args:=[.list (ns.map .int)] }=true:=by(have h4:=(holds_andW hc).1;rw[hn] at h4;exact h4)
  have h5:=condW_of h4 (w_not (w_lt w_lit (w_len_list (w_arg rfl))));rw[List.length_map] at h5;refine Nat.le_of_not_lt λq=>?_
  have q':(n:Int)<((ns.length:Nat):Int):=by omega
  first
   | (rw[Zn q'] at h5;exact absurd h5 (by decide))
   | (simp at h5;omega)
 cases hwl with
 |cons w1 w2 =>
  cases w2
  cases w1 with
  |list ho hall=>exact⟨_,_,ns,rfl,rfl,ho,uL ns _ hall,hlen⟩
def MG(l:OpenLaw)(args:List WData):l.row.toRowW.claim.post args (.bool true) args=true :=
 postW_of (r:=l.row.toRowW) (X:=(true==true))
  (show WShape.has [] (.bool true) .bool=true by first | rfl | decide | simp[WShape.has,WShape.arms,WShape.armsAll])
  (show(WTm.eq .res (.lit (.bool true))).value [] { args:=args,res:=some (.bool true),after:=args }=some (.bool (true==true)) from w_eq_bool (w_res rfl) w_lit) rfl
def DY{l:OpenLaw}
  (hn:l.most=some n) (hdf:d.params.defaults=[])
  (call:∀(w:World) (s₀ s₁:Shared) (mg mb:Str->Option Value) (fa:Addr) (o:Obj) (pm cd doc:Value) (a:Addr) (vs:List Value) (ns:List Int),
   Ground q loose [] XP w s₀ mg mb s₁.heap->YP w s₁.heap ->
   s₁.heap.get? fa=some o->o.data=.func (docDef d.name d.params d.body d.scope pm cd doc)->s₁.heap.CodeRec cd d.name->mg d.name=some (.ref fa) ->
   s₁.heap.get? a=some { cls:=.type "list",data:=.seq vs.toArray }->IntsAre vs ns->ns.length<=n->s₁.gens=#[] ->
   codeAny (model l.prog w) callerA (.call (.ref fa) ⟨[.ref a],[]⟩) (λr s'=>r=.ok (.ret (.bool true))/\OldK s₁.heap s'.heap/\s'.os=s₁.os/\AllBare s'.gens) s₁) :
  WalkO q loose XP YP l.row.toRowW d [] (λf vs=>PySem.call f vs):=by
 intro w s₀ s₁ mg mb G Y fa o pm cd doc dV kV ho hd hcd hD hmg hg args vals as hpre hlay hrd hwl hlo;obtain rfl:dV=.none:=Dflts.none hD hdf;obtain rfl:kV=.none:=Dflts.noKw hD;obtain⟨a,vs,ns,rfl,rfl,hobj,hints,hlen⟩:=KN hn hpre hwl;refine enter_call (codeAny_mono (call w s₀ s₁ mg mb fa o pm cd doc a vs ns G Y ho (fd_plain hd) hcd hmg hobj hints hlen hg) λr s' hq=>?_);obtain⟨rfl,h2,h3,h4⟩:=hq;exact⟨.inl ⟨.bool true,.bool true,[],rfl,λ_=>rfl,.bool true,MG l _,λ_=>⟨List.Pairwise.nil,λ_ hm=>(nomatch hm)⟩⟩,h2,h3,h4⟩
end Att
namespace L2
open PySem PySem.Spec PyProof.Rows
theorem zD:∀{vs:List Value} {ns:List Int},IntsAre vs ns->aQ (ns.map V.int) vs
 |_,_,.nil=>.nil
 |_,_,.cons n t h=>.cons ⟨t,rfl⟩ (zD h)
def OH(H:Hp):Prop:=∀b,H b=none\/∃o xs,H b=some (.frz o (.lst xs))
def PX{K:Frag}
  (KX:K.In s₁.heap) (hns:s₁.heap.Ns mainGlobals mg) (hb:s₁.heap.Ns builtinsNs mb) (hbb:∀x:Str,x≠"__name__"->mb x=bootBuiltins x) (hlim:s₁.heap.NoLimit) (hg:s₁.gens=#[])
  (ha:s₁.heap.get? a=some { cls:=.type "list",data:=.seq vs.toArray }) (hi:IntsAre vs ns) (hl:ns.length<=sizeLine) (hr:Room k callerA)
  (F:∀base:Heap,K.In base->base.Ns mainGlobals mg->FnOk P w K mg base CX k fa fd [x] sp) (hbind:∀(s:Shared) (u:Value),BindsTo s fd ⟨[u],[]⟩ [(x,u)])
  (hsp:∀H:Hp,OH H->bX K H a (ns.map V.int)->sp [.ref a] H (λv _=>v=.bl true) λ_ _ _=>False)
  (hCX:∀H e s',CX [] H s₁ (λ_ _ _=>False) e s'->False) :
  codeAny (model P w) callerA (.call (.ref fa) ⟨[.ref a],[]⟩) (λr s'=>r=.ok (.ret (.bool true))/\OldK s₁.heap s'.heap/\s'.os=s₁.os/\AllBare s'.gens) s₁:=by
 have rv:=zD hi;have lenV:=hi.length
 -- from an abstract heap in which nothing but the script may be tracked
 have core:∀H:Hp,OH H->bX K H a (ns.map V.int)->fF P w H s₁.heap->(∀b,H b≠none->b=a)->(H a≠none->K.lookup a=none) ->
   codeAny (model P w) callerA (.call (.ref fa) ⟨[.ref a],[]⟩) (λr s'=>r=.ok (.ret (.bool true))/\OldK s₁.heap s'.heap/\s'.os=s₁.os/\AllBare s'.gens) s₁:=by
  intro H hO hS hok hA hK;have base_of:∀{b:Addr} {o:Obj},s₁.heap.get? b=some o->H b=none->(oF s₁.heap H).get? b=some o:=λe n=>N5 e n
  have noA:∀{b:Addr} {o:Obj} {es:Array DictEntry} {ep:Nat},s₁.heap.get? b=some o->o.data=.dict es ep->H b=none:=λ{b o es ep} e d=>by
   cases q:H b with
   |none=>rfl
   |some u =>
    have e':b=a:=hA b (by rw[q];simp);subst e';rw[ha] at e;cases e;have d':Data.seq vs.toArray _=Data.dict es ep:=d;cases d'
  have nsK:∀{b:Addr} {m:Str->Option Value},s₁.heap.Ns b m->(oF s₁.heap H).Ns b m:=λ{b m} ⟨o,es,ep,e,d,r⟩=>⟨o,es,ep,base_of e (noA e d),d,r⟩
  have hKb:K.In (oF s₁.heap H):=λb o e=>base_of (KX b o e) (by
   cases q:H b with
   |none=>rfl
   |some u =>
    have e':b=a:=hA b (by rw[q];simp);subst e'
    rw[hK (by rw[q];simp)] at e;cases e)
  have hM:Mod K mg (oF s₁.heap H):=⟨hKb,nsK hns,⟨mb,nsK hb,hbb⟩,let ⟨mc,h1,h2⟩:=hlim;⟨mc,nsK h1,h2⟩⟩
  have e0:Env0 P w K mg (oF s₁.heap H) callerA [] s₁ H:=⟨rfl,hM,λb o e=>V2 e,Nat.le_of_eq (KU _ _),trivial,λb hb=>absurd (show b∈([]:List Addr) from hb) (by simp),hok,.of_eq hg⟩
  refine codeAny_mono ((F _ hKb (nsK hns)).run callerA [] s₁ H ⟨[.ref a],[]⟩ [.ref a] [.ref a] _ _ hr e0 (hbind s₁ (.ref a)) (.cons rfl .nil) (hsp H hO hS)) λr s' h=>?_
  cases r with
  |error e=>exact(hCX H e s' h).elim
  |ok fl =>
   cases fl with
   |next=>exact False.elim h
   |brk=>exact False.elim h
   |cont=>exact False.elim h
   |ret u =>
    obtain⟨v,H',os,bare,un,hok',r',q⟩:=h;have q':v=.bl true:=q;subst q';obtain rfl:u=Value.bool true:=r';refine⟨rfl,OldK.of_keep λb o e=>?_,os,bare⟩
    cases q:H b with
    |none=>exact un.keep b o e q (by intro z;exact absurd (show b∈([]:List Addr) from z) (by simp)) (by simp)
    |some u =>
     rcases hO b with z | ⟨ob,xs,z⟩
     ·rw[q] at z;cases z
     ·have z2:=un.frzs b ob _ z;obtain⟨e1,_⟩:=hok b _ z;obtain⟨e2,_⟩:=hok' b _ z2;rw[e] at e1;cases e1;exact e2
 cases hk:K.lookup a with
 |some o =>
  -- the script is one of the module's own objects
  have e:=KX a o hk;rw[ha] at e;cases e;refine core (λ_=>none) (λ_=>.inl rfl) (.inr ⟨_,vs.toArray,_,hk,rfl,rfl,rfl,by rw[Zi,lenV];exact hl,by simpa using rv⟩) (λb u z=>by have z':(none:Option HO)=some u:=z;cases z') (λb z=>absurd rfl z) λz=>absurd rfl z
 |none =>
  refine core (λb=>if b=a then some (.frz { cls:=.type "list",data:=.seq vs.toArray } (.lst (ns.map V.int))) else none) (λb=>?_) (.inl (.inr ⟨{ cls:=.type "list",data:=.seq vs.toArray },Zo rfl⟩)) (λb u z=>?_) (λb z=>?_) λ_=>hk
  ·by_cases hb:b=a
   ·exact .inr ⟨_,_,Zo hb⟩
   ·exact .inl (Zp hb)
  ·by_cases hb:b=a
   ·have z':=(Zo hb).symm.trans z;cases z';subst hb;exact⟨ha,by rw[List.length_map];exact hl,vs,_,rv,ha⟩
   ·have z':=(Zp hb).symm.trans z;cases z'
  ·by_cases hb:b=a
   ·exact hb
   ·exact absurd (Zp hb) z
abbrev cH{K:Frag}{h:Heap}(_:K.In h):Frag:=K
def U9{l:PySem.W.OpenLaw}{K:Params->Frag}{CX:World->C8}{sp:World->Sp}{x:Str}
  (hn:l.most=some n) (hn2:n<=sizeLine) (hdf:d.params.defaults=[]) (hr:Room k callerA)
  (hY:∀(w:World) (h:Heap),YP w h->(K w.params).In h)
  (F:∀(w:World) (mg:Str->Option Value) (fa:Addr) (h:Heap),(K w.params).In h->h.Ns mainGlobals mg->mg d.name=some (.ref fa) ->
   ∃fd:FuncData,(∀(s:Shared) (u:Value),BindsTo s fd ⟨[u],[]⟩ [(x,u)]) /\
    ∀base:Heap,(K w.params).In base->base.Ns mainGlobals mg->FnOk l.prog w (K w.params) mg base (CX w) k fa fd [x] (sp w))
  (hsp:∀(w:World) (H:Hp) (a:Addr) (ns:List Int),ns.length<=n->OH H->bX (K w.params) H a (ns.map V.int)->sp w [.ref a] H (λv _=>v=.bl true) λ_ _ _=>False)
  (hCX:∀(w:World) (H:Hp) (s:Shared) (e:Value) (s':Shared),CX w [] H s (λ_ _ _=>False) e s'->False) :
  PySem.W.WalkO q loose XP YP l.row.toRowW d [] (λf vs=>PySem.call f vs):=by
 refine Att.DY hn hdf λw s₀ s₁ mg mb fa o pm cd doc a vs ns G Y ho hd hcd hmg hobj hints hlen hg=>?_
 have KX:=hY w _ Y;obtain⟨fd,hb,hF⟩:=F w mg fa _ KX G.T.g hmg;exact PX KX G.T.g G.T.b G.T.builtins G.T.nolimit hg hobj hints (Zr hlen hn2) hr hF hb (λH hO hS=>hsp w H a ns hlen hO hS) λH e s'=>hCX w H s₁ e s'
noncomputable def eE(s:Stmt):Arguments:=match s with
 |.FunctionDef _ a _ _ _ _ _ _ _ _=>a
 |_=>{ posonlyargs:=[],args:=[],vararg:=none,kwonlyargs:=[],kw_defaults:=[],kwarg:=none,defaults:=[] }
noncomputable def bY(s:Stmt):List Stmt:=match s with
 |.FunctionDef _ _ b _ _ _ _ _ _ _=>b
 |_=>[]
noncomputable def aU(s:Stmt):Scope:=match s with
 |.FunctionDef _ _ _ _ _ _ sc _ _ _=>sc
 |_=>{ kind:=.function,names:=[],isGenerator:=false,isCoroutine:=false }
abbrev qT:C8:=λ_ _ _ _ _ _=>False
abbrev E0:XK:=λ_ _ _=>False
def AX:lN qT X E0:=λ_ _ _ _ _ _ _ h=>h.elim
structure Fun(K:Frag)(x qual:Str)(st:Stmt)(f:Addr)(fd:FuncData):Prop where
 ex:∃(oc:Value) (od:Option Addr) (kV doc pm:Value) (an:Option Addr) (cdv ct:Value) (osl:Array (Option Value)),
  fd=PySem.W.fnOf x qual (eE st) (bY st) (aU st) .none kV doc pm an cdv ct/\K.lookup f=some ⟨oc,od,.func fd,osl⟩/\PySem.W.codeIn K cdv qual=true
 kp:PySem.W.keepIn K (.ref f)=true
section
variable{P:Program}{w:World}{K:Frag}{mg:Str->Option Value}{base:Heap}
def Fun.ok{st:Stmt}(F:Fun K x qual st f fd)(S:FnScope N ps (aU st))(len:∀vs H Q E,sp vs H Q E->vs.length=ps.length)
  (hbody:∀(cdv:Value) (A:Around) (outer:List Env) (s:Shared) (H:Hp) (vs:List V) (Q:VK) (E:XK),Room k (A.deeper (envOfC qual (aU st) s.heap.objs.size f cdv))->sp vs H Q E ->
   ∃t,gN (qV qT P w K mg base N qual (aU st) f cdv A outer s H E).nox (bY st) t/\t { nx:=λ_ H'=>Q .non H',rt:=Q } (b8 N vs) H):FnOk P w K mg base qT (k+1) f fd ps sp:=by
 obtain⟨oc,od,kV,doc,pm,an,cdv,ct,osl,rfl,lk,hcd⟩:=F.ex;refine aEJ lk hcd S len λA outer s H vs Q E hr hsp=>?_
 obtain⟨t,h,q⟩:=hbody cdv A outer s H vs Q E hr hsp;exact⟨t,h.nox,q⟩
def Fun.binds{st:Stmt}(F:Fun K x qual st f fd)
  (h:∀(kV doc pm:Value) (an:Option Addr) (cdv ct:Value) (us:List Value),us.length=ps.length->bindArgs (PySem.W.fnOf x qual (eE st) (bY st) (aU st) .none kV doc pm an cdv ct) ⟨us,[]⟩=pure (ps.zip us)):gM K fd ps []:=by
 obtain⟨oc,od,kV,doc,pm,an,cdv,ct,osl,rfl,lk,hcd⟩:=F.ex;exact .all (h kV doc pm an cdv ct)
def vI{st:Stmt}{kV doc pm cdv ct:Value}(l:K.lookup f=some ⟨oc,od,.func (PySem.W.fnOf x qual (eE st) (bY st) (aU st) .none kV doc pm an cdv ct),osl⟩)
  (c:PySem.W.codeIn K cdv qual=true) (k:PySem.W.keepIn K (.ref f)=true):Fun K x qual st f (PySem.W.fnOf x qual (eE st) (bY st) (aU st) .none kV doc pm an cdv ct):=⟨⟨oc,od,kV,doc,pm,an,cdv,ct,osl,rfl,l,c⟩,k⟩
end
def C9{A B:Prop}(h:B):if false=true then A else B:=by
 rw[Zp Bool.false_ne_true];exact h
def B4{A B:Prop}(h:A):if true=true then A else B:=by
 rw[Zo rfl];exact h
def aV(H H':Hp):Prop:=∀b o,H b=some o->H' b=some o
def aV.refl(H:Hp):aV H H:=λ_ _ h=>h
def aV.trans(a:aV H H1)(b:aV H1 H2):aV H H2:=λc o h=>b c o (a c o h)
def aV.free(e:aV H H')(h:H' l=Option.none):H l=Option.none:=by
 cases q:H l with
 |none=>rfl
 |some o =>
  rw[e l o q] at h;cases h
def aV.seq{K:Frag}(e:aV H H')(h:bX K H a xs):bX K H' a xs:=by
 rcases h with (h | ⟨o,h⟩) | h
 ·exact .inl (.inl (e _ _ h))
 ·exact .inl (.inr ⟨o,e _ _ h⟩)
 ·exact .inr h
end L2
set_option maxHeartbeats 4000000
namespace L2
open PySem PySem.Spec PyProof.Rows
section
variable{O:Type}[DecidableEq O]
noncomputable def nF(kvs:List (O×V))(k:O):Option V:=(kvs.find? λkv=>decide (kv.1=k)).map (·.2)
noncomputable def jQ(kvs:List (O×V))(k:O)(v:V):List (O×V) :=
 if(kvs.any λkv=>decide (kv.1=k))=true then kvs.map (λkv=>if kv.1=k then(kv.1,v) else kv) else kvs++[(k,v)]
def RN{p:O×V}{r:List (O×V)}{k:O}(e:p.1=k):nF (p::r) k=some p.2:=by simp[nF,List.find?_cons,e]
def N7{p:O×V}{r:List (O×V)}{k:O}(e:¬p.1=k):nF (p::r) k=nF r k:=by simp[nF,List.find?_cons,e]
def sF(kvs:List (O×V))(k:O)(v:V):(jQ kvs k v).length<=kvs.length+1:=by
 unfold jQ;split
 ·rw[List.length_map];omega
 ·rw[Za,Zk,List.length_nil];omega
def jY.isSome_eq{o:Option V}{u:Option Value}(r:jY o u):o.isSome=u.isSome:=by
 cases o with
 |none=>cases u with
  |none=>rfl
  |some _=>exact(show False from r).elim
 |some _=>cases u with
  |none=>exact(show False from r).elim
  |some _=>rfl
def KV.val{kvs:List (O×V)}{vs:List (O×Value)}(r:KV kvs vs)(k:O):jY (nF kvs k) (valueAt vs k):=by
 unfold KV at r
 induction r with
 |nil=>exact True.intro
 | @cons p q ps qs h t ih =>
  obtain⟨h1,h2⟩:=h;by_cases e:p.1=k
  ·have e':q.1=k:=h1.symm.trans e;have b:valueAt (q::qs) k=some q.2:=by simp[valueAt,List.find?_cons,e']
   rw[RN e,b];exact h2
  ·have e':¬q.1=k:=λz=>e (h1.trans z)
   have b:valueAt (q::qs) k=valueAt qs k:=by simp[valueAt,List.find?_cons,e']
   rw[N7 e,b];exact ih
theorem KV.any{kvs:List (O×V)}{vs:List (O×Value)}(r:KV kvs vs)(k:O):(kvs.any λkv=>decide (kv.1=k))=vs.any λkv=>decide (kv.1=k):=by
 unfold KV at r
 induction r with
 |nil=>rfl
 |cons h t ih=>rw[List.any_cons,List.any_cons,ih,h.1]
def KV.repl{kvs:List (O×V)}{vs:List (O×Value)}(r:KV kvs vs)(k:O){y:V}{u:Value}(ry:aY y u) :
  KV (kvs.map λkv=>if kv.1=k then(kv.1,y) else kv) (vs.map λkv=>if kv.1=k then(kv.1,u) else kv):=by
 unfold KV at r ⊢
 induction r with
 |nil=>exact .nil
 | @cons p q ps qs h t ih =>
  rw[Zs,Zs];refine .cons ?_ ih;obtain⟨h1,h2⟩:=h;by_cases e:p.1=k
  ·rw[Zo e,Zo (h1.symm.trans e)];exact⟨h1,ry⟩
  ·rw[Zp e,Zp (λz=>e (h1.trans z))];exact⟨h1,h2⟩
def KV.put{kvs:List (O×V)}{vs:List (O×Value)}(r:KV kvs vs)(k:O){y:V}{u:Value}(ry:aY y u):KV (jQ kvs k y) (stored vs k u):=by
 unfold jQ stored;rw[r.any k];by_cases e:(vs.any λkv=>decide (kv.1=k))=true
 ·rw[Zo e,Zo e];exact r.repl k ry
 ·rw[Zp e,Zp e];exact Paired.snoc r ⟨rfl,ry⟩
theorem KV.length{kvs:List (O×V)}{vs:List (O×Value)}(r:KV kvs vs):kvs.length=vs.length:=Paired.length r
end
def AJ{P:Program}{w:World}{k:cV}{u:Value}(r:aY (kV k) u):(f9 P w).is k u=true:=by
 cases k with
 |inl i=>obtain⟨t,e⟩:=(show ∃t,u=Value.int i t from r);subst e;exact D9 P w i t
 |inr x=>obtain⟨t,e⟩:=(show ∃t,u=Value.str x t from r);subst e;exact EH P w x t
section
variable{P:Program}{w:World}{H:Hp}{h:Heap}{a:Addr}
def aES{u:HO}(ok:fF P w H h)(e:Rd H a u):dU P w H h a u:=e.ok ok
def wA{kvs:List (cV×V)}(ok:fF P w H h)(e:Rd H a (.dK kvs)):kvs.length<=sizeLine/\(a==sysModules)=false/\∃vs,KV kvs vs/\h.DictOf (f9 P w) a vs :=
 show dU P w H h a (.dK kvs) from aES ok e
def T6{kvs:List (cV×V)}(ok:fF P w H h)(e:H a=some (.dK kvs)):kvs.length<=sizeLine/\(a==sysModules)=false/\∃vs,KV kvs vs/\h.DictOf (f9 P w) a vs:=wA ok (.inl e)
end
def pW(H:Hp)(a:Addr)(y:V)(r:Option V):Prop :=
 (∃kvs k,Rd H a (.dK kvs)/\y=kV k/\r=nF kvs k)\/False
def BW(H:Hp)(a:Addr)(y v:V)(H':Hp):Prop :=
 (∃kvs k,H a=some (.dK kvs)/\y=kV k/\kvs.length<sizeLine/\H'=aO H a (.dK (jQ kvs k v)))\/False
theorem pW.k{H:Hp}{a:Addr}{kvs:List (cV×V)}{k:cV}(e:H a=some (.dK kvs)):pW H a (kV k) (nF kvs k):=.inl ⟨kvs,k,.inl e,rfl,rfl⟩
theorem BW.k{H:Hp}{a:Addr}{kvs:List (cV×V)}{k:cV}{v:V}(e:H a=some (.dK kvs))(hl:kvs.length<sizeLine):BW H a (kV k) v (aO H a (.dK (jQ kvs k v))):=.inl ⟨kvs,k,e,rfl,hl,rfl⟩
section
variable{X:Cx}{pins:List (Addr×Obj)}{Y:St}{H:Hp}{s:Shared}{a:Addr}{y v:V}{u r:Value}{o:Option V}{A:Around}{E:Value->Shared->Prop}
def Inv.big(I:Inv X pins Y H s):sysModules<s.heap.objs.size:=by
 have h:mainGlobals<s.heap.objs.size:=(I.mod.glob.keeps I.bk).lt;exact Nat.lt_trans (by decide) h
def K4{Q:Value->Shared->Prop}(hu:A.units+1<cLine)(I:Inv X pins Y H s)(g:pW H a y (some v))(ry:aY y u)(h:∀w' s',Inv X pins Y H s'->aY v w'->Q w' s') :
  wpAny (model X.prog X.w) A (getItem (.ref a) u) Q E s:=by
 rcases g with ⟨kvs,k,e,ey,l⟩ | g
 ·subst ey;obtain⟨z,hd,vs,rel,dd⟩:=wA I.hok e;obtain⟨w',hw,rw'⟩:=jY.some_of (v:=v) (o:=valueAt vs k) (by rw[l];exact rel.val k);exact wpAny_getItem_of (AJ ry) dd.mapOf hw (h w' _ (I.tok _) rw')
 ·exact g.elim
def aG8{Q:Value->Shared->Prop}(hu:A.units+1<cLine)(I:Inv X pins Y H s)(g:pW H a y o)(ry:aY y u)(h:∀s',Inv X pins Y H s'->Q (.bool o.isSome) s') :
  wpAny (model X.prog X.w) A (compareOp .In u (.ref a)) Q E s:=by
 rcases g with ⟨kvs,k,e,ey,l⟩ | g
 ·subst ey;obtain⟨z,hd,vs,rel,dd⟩:=wA I.hok e;refine wpAny_in_of (AJ ry) hd dd.mapOf ?_;rw[<- (rel.val k).isSome_eq,<- l];exact h _ (I.tok _)
 ·exact g.elim
def FX{h':Heap}{t':Nat}{ob:HO}(I:Inv X pins Y H s)(mu:NF (H a))(hs:Heap.SameBut a s.heap h')(he:∃q,h'.get? a=some q)(new:dU X.prog X.w (aO H a ob) h' a ob) :
  Inv X pins Y (aO H a ob) { s with heap:=h',toks:=t' } :=
 I.write (x:=a) (e:=a) mu (.inl rfl) (λb q hb z=>(hs.2 b hb).trans z) he new
def M0{P:Program}{w:World}{H':Hp}{h':Heap}{kvs:List (cV×V)}{vs:List (cV×Value)}(z:kvs.length<=sizeLine)(hd:(a==sysModules)=false)(rel:KV kvs vs)(dd:h'.DictOf (f9 P w) a vs) :
  dU P w H' h' a (.dK kvs):=⟨z,hd,vs,rel,dd⟩
def M8{H':Hp}{Q:Unit->Shared->Prop}(hu:A.units+1<cLine)(I:Inv X pins Y H s)(g:BW H a y v H')(ry:aY y u)(rv:aY v r)(h:∀s',Inv X pins Y H' s'->Q () s') :
  wpAny (model X.prog X.w) A (setItem (.ref a) u r) Q E s:=by
 rcases g with ⟨kvs,k,e,ey,l,eH⟩ | g
 ·subst ey eH;obtain⟨z,hd,vs,rel,dd⟩:=T6 I.hok e;have hz:vs.length<=sizeLine:=by rw[<- rel.length];exact z
  have hl:(jQ kvs k v).length<=sizeLine:=by have:=sF kvs k v;omega
  refine wpAny_setItem_pairs (hsz:=hz) (AJ ry) dd λh' dd' hs=>h _ ?_
  have he:∃q,h'.get? a=some q:=let ⟨q,_,_,hq,_⟩:=dd';⟨q,hq⟩
  exact FX I (by rw[e];exact True.intro) hs he (M0 hl hd (rel.put k rv) dd')
 ·exact g.elim
end
section
variable{X:Cx}{pins:List (Addr×Obj)}{Y:St}{H:Hp}{s:Shared}{a:Addr}{kvs:List (cV×V)}{k:cV}{u:Value}{A:Around}{E:Value->Shared->Prop}
def aEE{Q:Value->Shared->Prop}(I:Inv X pins Y H s)(e:Rd H a (.dK kvs))(h:∀t s',Inv X pins Y H s'->Q (.int kvs.length t) s'):wpAny (model X.prog X.w) A (call (.builtin "len") [.ref a]) Q E s:=by
 obtain⟨z,hd,vs,rel,dd⟩:=wA I.hok e;refine call_len_dict hd dd (by rw[<- rel.length];rw[sizeLine_eq] at z;omega) ?_;rw[<- rel.length];exact h _ _ (I.tok _)
end
def EE{X:Cx}{pins:List (Addr×Obj)}{Y:St}{H:Hp}{s:Shared}{a:Addr}{y:V}{o:Option V}(I:Inv X pins Y H s)(g:pW H a y o):s.TypeIs (.ref a) "dict":=by
 rcases g with ⟨kvs,k,e,_,_⟩ | g
 ·obtain⟨_,_,vs,_,dd⟩:=wA I.hok e;exact dd.typeIs
 ·exact g.elim
def CA{P:Program}{w:World}{H:Hp}(h:Heap)(hb:sysModules<h.objs.size):dU P w H (h.push { cls:=.type "dict",data:=.dict #[] }) h.objs.size (.dK []) :=
 ⟨Nat.zero_le _,beq_eq_false_iff_ne.mpr (Ne.symm (Zz hb)),[],.nil,Heap.DictOf.new h⟩
noncomputable def Z6:TE:=λ_ H Q=>∀p,H p=none->Q (.ref p) (aO H p (.dK []))
section
variable{X:Cx}{pos:Pos}
def NU:PE X (.Dict [] [] pos) Z6:=λpins s Y H Q I h =>
 wpAny_Dict_empty ⟨.ref s.heap.objs.size,_,I.laid (a:=s.heap.objs.size) (o:=.dK []) (t':=s.toks) (λ_ _ q=>Zd _ q) (Zq _) (CA s.heap I.big),rfl,h _ (I.hok.fresh (Zq _))⟩
end
def C6:List (TE×TE)->St->Hp->(List (V×V)->Hp->Prop)->Prop
 |[],_,H,Q=>Q [] H
 | (tk,tv)::r,Y,H,Q=>tk Y H λx H1=>tv Y H1 λy H2=>C6 r Y H2 λps H3=>Q ((x,y)::ps) H3
abbrev VV:List (V×V)->List (Value×Value)->Prop:=Paired λp q=>aY p.1 q.1/\aY p.2 q.2
def TU(X:Cx)(pos:Pos)(keys:List (Option Expr))(values:List Expr)(trs:List (TE×TE)):Prop :=
 ∀(pins:List (Addr×Obj)) (s:Shared) (Y:St) (H:Hp) (Q:List (V×V)->Hp->Prop),Inv X pins Y H s->C6 trs Y H Q ->
  wpAny (model X.prog X.w) X.A (evalPairs (pairTrees keys values X.env pos)) (λvs s'=>∃ps H',Inv X pins Y H' s'/\VV ps vs/\Q ps H') X.xe s
def WU{X:Cx}{pos:Pos}:TU X pos [] [] []:=λpins s Y H Q I h=>pairTrees_nil_walk ⟨[],H,I,.nil,h⟩
def OG{X:Cx}{pos:Pos}{k v:Expr}{ks:List (Option Expr)}{vs:List Expr}{tk tv:TE}{trs:List (TE×TE)}(hk:PE X k tk)(hv:PE X v tv)(hr:TU X pos ks vs trs) :
  TU X pos (some k::ks) (v::vs) ((tk,tv)::trs):=λpins s Y H Q I h =>
 pairTrees_cons_walk (a7 (hk pins s Y H _ I h) λu s1 ⟨x,H1,I1,rx,q1⟩=>a7 (hv pins s1 Y H1 _ I1 q1) λw2 s2 ⟨y,H2,I2,ry,q2⟩ =>
  a7 (hr pins s2 Y H2 _ I2 q2) λws s3 ⟨ps,H3,I3,rel,q3⟩=>⟨(x,y)::ps,H3,I3,.cons ⟨rx,ry⟩ rel,q3⟩)
noncomputable def qB(kvs more:List (cV×V)):List (cV×V):=more.foldl (λacc kv=>jQ acc kv.1 kv.2) kvs
def KV.merge:∀{more:List (cV×V)} {rs:List (cV×Value)} {kvs:List (cV×V)} {vs:List (cV×Value)},KV more rs->KV kvs vs->KV (qB kvs more) (merged vs rs):=by
 intro more rs kvs vs r;unfold KV at r
 induction r generalizing kvs vs with
 |nil=>intro q;exact q
 | @cons p q ps qs h t ih =>
  intro r0
  have e:KV (jQ kvs p.1 p.2) (stored vs q.1 q.2):=by
   have:=r0.put p.1 h.2
   rw[<- h.1];exact this
  exact ih e
theorem pN:∀(more kvs:List (cV×V)),(qB kvs more).length<=kvs.length+more.length
 |[],kvs=>by show kvs.length<=kvs.length+0;omega
 |p::r,kvs=>by(have h1:=pN r (jQ kvs p.1 p.2);have h2:=sF kvs p.1 p.2;show(qB (jQ kvs p.1 p.2) r).length<=_;rw[Zk];omega)
theorem uQ{P:Program}{w:World}:∀{kvs:List (cV×V)} {ws:List (Value×Value)},VV (kvs.map λkv=>(kV kv.1,kv.2)) ws->∃rs,Carries (f9 P w) ws rs/\KV kvs rs
 |[],_,r=>by rw[List.map_nil] at r;cases r;exact⟨[],True.intro,.nil⟩
 |p::kvs,_,r=>by
  rw[Zs] at r
  cases r with
  | @cons a b as bs h t =>
   obtain⟨rs,c,q⟩:=uQ (P:=P) (w:=w) t;obtain⟨b1,b2⟩:=b;exact⟨(p.1,b2)::rs,⟨AJ h.1,rfl,c⟩,.cons ⟨rfl,h.2⟩ q⟩
noncomputable def aE9(trs:List (TE×TE)):TE:=λY H Q=>∀p,H p=none->C6 trs Y (aO H p (.dK [])) λps H2=>H2 p=some (.dK [])/\∃kvs:List (cV×V),ps=kvs.map (λkv=>(kV kv.1,kv.2))/\kvs.length<=15/\Q (.ref p) (aO H2 p (.dK (qB [] kvs)))
def YF{X:Cx}{pos:Pos}{keys:List (Option Expr)}{values:List Expr}{trs:List (TE×TE)}(h:TU X pos keys values trs)(hall:keys.all (·.isSome)=true)(hl:keys.length=values.length)(h0:keys≠[])
  (h15:keys.length<=15):PE X (.Dict keys values pos) (aE9 trs):=by
 intro pins s Y H Q I q;have hn:=I.hok.fresh (Zq s.heap.objs.size);have I1:=I.laid (a:=s.heap.objs.size) (o:=.dK []) (h':=s.heap.push { cls:=.type "dict",data:=.dict #[] }) (t':=s.toks) (λ_ _ q=>Zd _ q) (Zq _) (CA s.heap I.big);refine wpAny_Dict_walk (knd:=f9 X.prog X.w) hall hl h0 h15 (a7 (h pins _ Y _ _ I1 (q _ hn)) λws s2 hz=>?_);obtain⟨ps,H2,I2,rel,e,kvs,ep,lk,q2⟩:=hz;subst ep;obtain⟨rs,c,rk⟩:=uQ (P:=X.prog) (w:=X.w) rel;obtain⟨z,hd,vs0,r0,dd⟩:=T6 I2.hok e;cases r0;refine⟨rs,c,dd,λh' dd' hs=>⟨.ref s.heap.objs.size,_, ?_,rfl,q2⟩⟩
 have hz:(qB [] kvs).length<=sizeLine:=by(have h1:=pN kvs [];rw[List.length_nil] at h1;rw[sizeLine_eq];omega)
 have he:∃q,h'.get? s.heap.objs.size=some q:=let ⟨q,_,_,hq,_⟩:=dd';⟨q,hq⟩
 exact FX I2 (by rw[e];exact True.intro) hs he (M0 hz hd (rk.merge .nil) dd')
abbrev qO:=Int×List Int
section
variable{h:Heap}
def KO{ns:List Int}:PyData.canLayAll0 (ns.map .int)=true:=by
 induction ns with
 |nil=>simp[PyData.canLayAll0]
 |cons n ns ih=>simp[PyData.canLayAll0,PyData.canLay0,ih]
def QU{ns:List Int}:PyData.depthAll (ns.map .int)<=1:=by
 induction ns with
 |nil=>simp[PyData.depthAll]
 |cons n ns ih=>simp[PyData.depthAll,PyData.depth];omega
theorem JW:∀{ns ms:List Int},PyData.eqvAll (ns.map .int) (ms.map .int)=decide (ns=ms)
 |[],[]=>by simp[PyData.eqvAll]
 |[],_::_=>by simp[PyData.eqvAll]
 |_::_,[]=>by simp[PyData.eqvAll]
 |n::ns,m::ms=>by(rw[Zs,Zs,PyData.eqvAll,JW];simp only[PyData.eqv,List.cons.injEq,Bool.decide_and];congr 1)
def ZR(hs:a=b->c=true)(r:SeqAt.RcAt A s (.ref a) (.ref b) c)(q:Q c s):wpAny (model P w) A (eqBool (.ref a) (.ref b)) Q E s:=by
 unfold eqBool;refine wpAny_holding ?_;by_cases e:a=b
 ·subst e;rw[Zo (by simp)];rw[hs rfl] at q;exact Zt (wpAny_rule (Zu q))
 ·rw[Zp (by simpa using e)];exact Zt (r P w E _ (wpAny_truthy_bool q))
abbrev iX:=qO ⊕ qO×qO
end
end L2
namespace CS
open PySem PyProof.Rows
noncomputable def hE:Bool->Keyed->Array Keyed->Nat->Nat->Nat->StateT SortSt Sem (Option Nat):=sortPriv% PySem.Builtin.gallop
noncomputable def tD:Array Keyed->Array Keyed->StateT SortSt Sem (Array Keyed):=sortPriv% PySem.Builtin.mergeLo
noncomputable def tZ:Array Keyed->Array Keyed->StateT SortSt Sem (Array Keyed):=sortPriv% PySem.Builtin.mergeHi
noncomputable def f6:Nat->StateT SortSt Sem Unit:=sortPriv% PySem.Builtin.setMinGallop
noncomputable def eG(left:Bool)(key:Keyed)(arr:Array Keyed)(base i:Nat):StateT SortSt Sem (Option Bool):=do
  let x <- elem' arr (base+i)
  if left then lt' x key else return (<- lt' key x).map (!·)
abbrev T3:=Option (Option Nat)×Nat×Nat
noncomputable def MP(f:Nat->StateT SortSt Sem (Option Bool))(c:T3):StateT SortSt Sem (ForInStep T3) :=
 if c.2.1 >= c.2.2 then pure (.done (none,c.2.1,c.2.2))
 else do
  let r <- f (c.2.1+(c.2.2-c.2.1) / 2)
  match r with
  |some v=>if v=true then pure (.yield (none,c.2.1+(c.2.2-c.2.1) / 2+1,c.2.2)) else pure (.yield (none,c.2.1,c.2.1+(c.2.2-c.2.1) / 2))
  |_=>pure (.done (some none,c.2.1,c.2.2))
noncomputable def upB(f:Nat->StateT SortSt Sem (Option Bool))(n hint:Nat)(c:T3):StateT SortSt Sem (ForInStep T3) :=
 if c.2.2 >= n-hint then pure (.done (none,c.2.1,c.2.2))
 else do
  let r <- f (hint+c.2.2)
  match r with
  |some v=>if(!v)=true then pure (.done (none,c.2.1,c.2.2)) else pure (.yield (none,c.2.2,2*c.2.2+1))
  |_=>pure (.done (some none,c.2.1,c.2.2))
noncomputable def dwB(f:Nat->StateT SortSt Sem (Option Bool))(hint:Nat)(c:T3):StateT SortSt Sem (ForInStep T3) :=
 if c.2.2 >= hint+1 then pure (.done (none,c.2.1,c.2.2))
 else do
  let r <- f (hint-c.2.2)
  match r with
  |some v=>if v=true then pure (.done (none,c.2.1,c.2.2)) else pure (.yield (none,c.2.2,2*c.2.2+1))
  |_=>pure (.done (some none,c.2.1,c.2.2))
noncomputable def SJ(f:Nat->StateT SortSt Sem (Option Bool))(n lo hi:Nat):StateT SortSt Sem (Option Nat):=do
 let q <- forIn [0:n] ((none,lo,hi):T3) λ_=>MP f
 match q.1 with
 |some r=>pure r
 |none=>pure (some q.2.2)
theorem GH(left:Bool)(key:Keyed)(arr:Array Keyed)(base n hint:Nat):hE left key arr base n hint=(do
  let r <- eG left key arr base hint
  match r with
  |some true=>do
   let c <- forIn [0:n] ((none,0,1):T3) λ_=>upB (eG left key arr base) n hint
   match c.1 with
   |some r=>pure r
   |none=>SJ (eG left key arr base) n (hint+c.2.1+1) (hint+min c.2.2 (n-hint))
  |some false=>do
   let c <- forIn [0:n] ((none,0,1):T3) λ_=>dwB (eG left key arr base) hint
   match c.1 with
   |some r=>pure r
   |none=>SJ (eG left key arr base) n (hint+1-min c.2.2 (hint+1)) (hint-c.2.1)
  |none=>pure none):=by
 show(eG left key arr base hint>>=_)=_;refine congrArg _ (funext λr=>?_)
 cases r with
 |none=>rfl
 |some v =>
  cases v
  ·show((forIn [0:n] ((none,0,1):T3) λ_=>dwB (eG left key arr base) hint)>>=_)=_;refine congrArg _ (funext λc=>?_);obtain⟨c1,c2⟩:=c;cases c1
   ·show((forIn [0:n] _ λ_=>MP (eG left key arr base))>>=_)=_;refine congrArg _ (funext λq=>?_);obtain⟨q1,q2⟩:=q;cases q1<;>rfl
   ·rfl
  ·show((forIn [0:n] ((none,0,1):T3) λ_=>upB (eG left key arr base) n hint)>>=_)=_;refine congrArg _ (funext λc=>?_);obtain⟨c1,c2⟩:=c;cases c1
   ·show((forIn [0:n] _ λ_=>MP (eG left key arr base))>>=_)=_;refine congrArg _ (funext λq=>?_);obtain⟨q1,q2⟩:=q;cases q1<;>rfl
   ·rfl
section
variable{prog:Program}{w:World}{A:Around}{E:Value->Shared->Prop}{s:Shared}
def Cut(b:Nat->Bool)(n k:Nat):Prop:=k<=n/\(∀i,i<k->b i=true)/\∀i,k<=i->i<n->b i=false
def zI{n lo hi:Nat}{st:SortSt}
  (hb:∀i,i<n->∀R:Option Bool->SortSt->Prop,R (some (b i)) st->wpS (model prog w) A E s (f i) R st)
  (h1:lo<=hi) (h2:hi<=n) (h3:∀i,i<lo->b i=true) (h4:∀i,hi<=i->i<n->b i=false) (mono:∀i j,i<j->j<n->b j=true->b i=true)
  (h:∀k,Cut b n k->Q (none,k,k) st):wpS (model prog w) A E s (forIn [0:n] ((none,lo,hi):T3) λ_=>MP f) Q st:=by
 refine wpS_forRange (I:=λx c st'=>st'=st/\∃lo hi,c=(none,lo,hi)/\lo<=hi/\hi<=n/\hi-lo<=n-x/\(∀i,i<lo->b i=true)/\∀i,hi<=i->i<n->b i=false) ?step ?fin ⟨rfl,lo,hi,rfl,h1,h2,by omega,h3,h4⟩
 case fin =>
  rintro c st' ⟨rfl,lo,hi,rfl,a1,a2,a3,a4,a5⟩
  obtain rfl:lo=hi:=by omega
  exact h lo ⟨a2,a4,a5⟩
 case step =>
  rintro x c st' _ hx ⟨rfl,lo,hi,rfl,a1,a2,a3,a4,a5⟩
  unfold MP;dsimp only;by_cases hc:lo >= hi
  ·rw[Zo hc];obtain rfl:lo=hi:=by omega
   exact wpS_pure (h lo ⟨a2,a4,a5⟩)
  ·rw[Zp hc];have hm:lo+(hi-lo) / 2<hi:=by omega
   generalize hmm:lo+(hi-lo) / 2=m at *
   refine wpS_bind (hb m (by omega) _ ?_)
   cases hbm:b m with
   |true =>
    dsimp only;rw[Zo rfl];refine wpS_pure ⟨rfl,m+1,hi,rfl,by omega,a2,by omega,λi hi'=>?_,a5⟩;by_cases e:i=m
    ·rw[e];exact hbm
    ·exact mono i m (by omega) (by omega) hbm
   |false =>
    dsimp only;rw[Zp (by simp)];refine wpS_pure ⟨rfl,lo,m,rfl,by omega,by omega,by omega,a4,λi hi' hn=>?_⟩;by_cases e:i=m
    ·rw[e];exact hbm
    ·cases hbi:b i with
     |false=>rfl
     |true=>rw[mono m i (by omega) hn hbi] at hbm;cases hbm
def NG{b:Nat->Bool}{st:SortSt}
  (hb:∀i,i<n->∀R:Option Bool->SortSt->Prop,R (some (b i)) st->wpS (model prog w) A E s (eG left key arr base i) R st)
  (hh:hint<n) (mono:∀i j,i<j->j<n->b j=true->b i=true) (h:∀k,Cut b n k->Q (some k) st) :
  wpS (model prog w) A E s (hE left key arr base n hint) Q st:=by
 rw[GH];refine wpS_bind (hb hint hh _ ?_)
 have up:∀i j,i<=j->j<n->b j=true->b i=true:=λi j hij hj hbj=>by
  by_cases e:i=j
  ·rw[e];exact hbj
  ·exact mono i j (by omega) hj hbj
 have dn:∀i j,i<=j->j<n->b i=false->b j=false:=λi j hij hj hbi=>by
  cases hbj:b j with
  |false=>rfl
  |true=>rw[up i j hij hj hbj] at hbi;cases hbi
 cases hb0:b hint with
 |true =>
  dsimp only
  refine wpS_bind (wpS_mono (wpS_forRange (I:=λx c st'=>st'=st/\∃l o,c=(none,l,o)/\l<o/\x<o/\hint+l<n/\b (hint+l)=true)
   (Q:=λc st'=>st'=st/\∃l o,c=(none,l,o)/\l<o/\hint+l<n/\b (hint+l)=true/\(n-hint<=o\/(hint+o<n/\b (hint+o)=false))) ?step ?fin ⟨rfl,0,1,rfl,by omega,by omega,by omega,hb0⟩) ?post)
  case fin =>
   rintro c st' ⟨rfl,l,o,rfl,a1,a2,a3,a4⟩
   exact⟨rfl,l,o,rfl,a1,a3,a4,.inl (by omega)⟩
  case step =>
   rintro x c st' _ hx ⟨rfl,l,o,rfl,a1,a2,a3,a4⟩
   unfold upB;dsimp only;by_cases hc:o >= n-hint
   ·rw[Zo hc];exact wpS_pure ⟨rfl,l,o,rfl,a1,a3,a4,.inl hc⟩
   ·rw[Zp hc];refine wpS_bind (hb (hint+o) (by omega) _ ?_)
    cases hbo:b (hint+o) with
    |true =>
     dsimp only;rw[Zp (by simp)];exact wpS_pure ⟨rfl,o,2*o+1,rfl,by omega,by omega,by omega,hbo⟩
    |false =>
     dsimp only;rw[Zo (by simp)];exact wpS_pure ⟨rfl,l,o,rfl,a1,a3,a4,.inr ⟨by omega,hbo⟩⟩
  case post =>
   rintro c st' ⟨rfl,l,o,rfl,a1,a3,a4,a5⟩
   dsimp only;unfold SJ;refine wpS_bind (zI hb (lo:=hint+l+1) (hi:=hint+min o (n-hint)) ?_ ?_ ?_ ?_ mono λk hk=>?_)
   ·omega
   ·omega
   ·intro i hi;exact up i (hint+l) (by omega) a3 a4
   ·intro i hi hn;rcases a5 with a5 | ⟨a5,a6⟩
    ·omega
    ·exact dn (hint+o) i (by omega) hn a6
   ·exact wpS_pure (h k hk)
 |false =>
  dsimp only
  refine wpS_bind (wpS_mono (wpS_forRange (I:=λx c st'=>st'=st/\∃l o,c=(none,l,o)/\l<o/\x<o/\l<=hint/\b (hint-l)=false)
   (Q:=λc st'=>st'=st/\∃l o,c=(none,l,o)/\l<o/\l<=hint/\b (hint-l)=false/\(hint+1<=o\/(o<=hint/\b (hint-o)=true))) ?step ?fin ⟨rfl,0,1,rfl,by omega,by omega,by omega,hb0⟩) ?post)
  case fin =>
   rintro c st' ⟨rfl,l,o,rfl,a1,a2,a3,a4⟩
   exact⟨rfl,l,o,rfl,a1,a3,a4,.inl (by omega)⟩
  case step =>
   rintro x c st' _ hx ⟨rfl,l,o,rfl,a1,a2,a3,a4⟩
   unfold dwB;dsimp only;by_cases hc:o >= hint+1
   ·rw[Zo hc];exact wpS_pure ⟨rfl,l,o,rfl,a1,a3,a4,.inl hc⟩
   ·rw[Zp hc];refine wpS_bind (hb (hint-o) (by omega) _ ?_)
    cases hbo:b (hint-o) with
    |true =>
     dsimp only;rw[Zo rfl];exact wpS_pure ⟨rfl,l,o,rfl,a1,a3,a4,.inr ⟨by omega,hbo⟩⟩
    |false =>
     dsimp only;rw[Zp (by simp)];exact wpS_pure ⟨rfl,o,2*o+1,rfl,by omega,by omega,by omega,hbo⟩
  case post =>
   rintro c st' ⟨rfl,l,o,rfl,a1,a3,a4,a5⟩
   dsimp only;unfold SJ;refine wpS_bind (zI hb (lo:=hint+1-min o (hint+1)) (hi:=hint-l) ?_ ?_ ?_ ?_ mono λk hk=>?_)
   ·omega
   ·omega
   ·intro i hi;rcases a5 with a5 | ⟨a5,a6⟩
    ·omega
    ·exact up i (hint-o) (by omega) (by omega) a6
   ·intro i hi hn;exact dn (hint-l) i (by omega) hn a4
   ·exact wpS_pure (h k hk)
end
abbrev G6:=Option (Array Keyed)×Array Keyed×Nat×Nat×Nat×Nat
abbrev G7:=Option (Array Keyed)×Array Keyed×Nat×Nat×Nat×Nat×Nat
abbrev G5:=Option (Array Keyed)×Array Keyed×Nat×Nat×Nat
noncomputable def pL(a b out:Array Keyed)(ia ib:Nat):Array Keyed:=out++a.extract ia a.size++b.extract ib b.size
noncomputable def uK(a b out:Array Keyed)(ia ib:Nat):Array Keyed:=out++b.extract ib b.size++a.extract ia a.size
noncomputable def SD(a b:Array Keyed)(mg:Nat)(c:G6):StateT SortSt Sem (ForInStep G6):=do
 let y <- elem' b c.2.2.2.1
 let x <- elem' a c.2.2.1
 let r <- lt' y x
 match r with
 |some bWins =>
  if bWins=true then do
   let v <- elem' b c.2.2.2.1
   if(c.2.2.2.1+1==b.size)=true then pure (.done (some (pL a b (c.2.1.push v) c.2.2.1 (c.2.2.2.1+1)),c.2.1.push v,c.2.2.1,c.2.2.2.1+1,0,c.2.2.2.2.2+1))
   else if c.2.2.2.2.2+1 >= mg then pure (.done (none,c.2.1.push v,c.2.2.1,c.2.2.2.1+1,0,c.2.2.2.2.2+1))
   else pure (.yield (none,c.2.1.push v,c.2.2.1,c.2.2.2.1+1,0,c.2.2.2.2.2+1))
  else do
   let v <- elem' a c.2.2.1
   if(c.2.2.1+1+1==a.size)=true then pure (.done (some (uK a b (c.2.1.push v) (c.2.2.1+1) c.2.2.2.1),c.2.1.push v,c.2.2.1+1,c.2.2.2.1,c.2.2.2.2.1+1,0))
   else if c.2.2.2.2.1+1 >= mg then pure (.done (none,c.2.1.push v,c.2.2.1+1,c.2.2.2.1,c.2.2.2.2.1+1,0))
   else pure (.yield (none,c.2.1.push v,c.2.2.1+1,c.2.2.2.1,c.2.2.2.2.1+1,0))
 |x=>pure (.done (some (pL a b c.2.1 c.2.2.1 c.2.2.2.1),c.2.1,c.2.2.1,c.2.2.2.1,c.2.2.2.2.1,c.2.2.2.2.2))
noncomputable def SO(a b:Array Keyed)(mg ac bc:Nat)(out:Array Keyed)(ia ib:Nat):StateT SortSt Sem (ForInStep G7):=do
 let v <- elem' a ia
 if(ia+1+1==a.size)=true then pure (.done (some (uK a b (out.push v) (ia+1) ib),out.push v,ia+1,ib,mg,ac,bc))
 else if(decide (ac<7)&&decide (bc<7))=true then pure (.done (none,out.push v,ia+1,ib,mg,ac,bc))
 else pure (.yield (none,out.push v,ia+1,ib,mg,ac,bc))
noncomputable def SM(a b:Array Keyed)(mg ac bc:Nat)(out:Array Keyed)(ia ib:Nat):StateT SortSt Sem (ForInStep G7):=do
 let v <- elem' b ib
 if(ib+1==b.size)=true then pure (.done (some (pL a b (out.push v) ia (ib+1)),out.push v,ia,ib+1,mg,ac,bc))
 else do
  let u <- elem' a ia
  let r <- hE true u b (ib+1) (b.size-(ib+1)) 0
  match r with
  |some k =>
   if k > 0 then
    if(ib+1+k==b.size)=true then pure (.done (some (pL a b (out.push v++b.extract (ib+1) (ib+1+k)) ia (ib+1+k)),out.push v++b.extract (ib+1) (ib+1+k),ia,ib+1+k,mg,ac,k))
    else SO a b mg ac k (out.push v++b.extract (ib+1) (ib+1+k)) ia (ib+1+k)
   else SO a b mg ac k (out.push v) ia (ib+1)
  |x=>pure (.done (some (pL a b (out.push v) ia (ib+1)),out.push v,ia,ib+1,mg,ac,bc))
noncomputable def SQ(a b:Array Keyed)(mg ac bc:Nat)(out:Array Keyed)(ia ib:Nat):StateT SortSt Sem (ForInStep G7):=do
 f6 mg
 let y <- elem' b ib
 let r <- hE false y a ia (a.size-ia) 0
 match r with
 |some k =>
  if k > 0 then
   if(ia+k+1==a.size)=true then pure (.done (some (uK a b (out++a.extract ia (ia+k)) (ia+k) ib),out++a.extract ia (ia+k),ia+k,ib,mg,k,bc))
   else if(ia+k==a.size)=true then pure (.done (some (pL a b (out++a.extract ia (ia+k)) (ia+k) ib),out++a.extract ia (ia+k),ia+k,ib,mg,k,bc))
   else SM a b mg k bc (out++a.extract ia (ia+k)) (ia+k) ib
  else SM a b mg k bc out ia ib
 |x=>pure (.done (some (pL a b out ia ib),out,ia,ib,mg,ac,bc))
noncomputable def loG(a b:Array Keyed)(c:G7):StateT SortSt Sem (ForInStep G7) :=
 if c.2.2.2.2.1 > 1 then SQ a b (c.2.2.2.2.1-1) c.2.2.2.2.2.1 c.2.2.2.2.2.2 c.2.1 c.2.2.1 c.2.2.2.1 else SQ a b c.2.2.2.2.1 c.2.2.2.2.2.1 c.2.2.2.2.2.2 c.2.1 c.2.2.1 c.2.2.2.1
noncomputable def loO(a b:Array Keyed)(c:G5):StateT SortSt Sem (ForInStep G5):=do
 let r <- forIn [0:a.size+b.size] ((none,c.2.1,c.2.2.1,c.2.2.2.1,0,0):G6) λ_=>SD a b c.2.2.2.2
 match r.1 with
 |some z=>pure (.done (some z,r.2.1,r.2.2.1,r.2.2.2.1,c.2.2.2.2))
 |none=>do
  liftM (rule "list.sort.gallop")
  let q <- forIn [0:a.size+b.size] ((none,r.2.1,r.2.2.1,r.2.2.2.1,c.2.2.2.2+1,r.2.2.2.2.1,r.2.2.2.2.2):G7) λ_=>loG a b
  match q.1 with
  |some z=>pure (.done (some z,q.2.1,q.2.2.1,q.2.2.2.1,q.2.2.2.2.1))
  |none=>do
   f6 (q.2.2.2.2.1+1)
   pure (.yield (none,q.2.1,q.2.2.1,q.2.2.2.1,q.2.2.2.2.1+1))
theorem DW(a b:Array Keyed):tD a b=(do
 liftM (rule "list.sort.merge-lo")
 let v <- elem' b 0
 if(1==b.size)=true then pure (pL a b #[v] 0 1)
 else if(0+1==a.size)=true then pure (uK a b #[v] 0 1)
 else do
  let st <- get
  let q <- forIn [0:a.size+b.size] ((none,#[v],0,1,gallopOf st):G5) λ_=>loO a b
  match q.1 with
  |some z=>pure z
  |none=>liftM (unsupported "internal:list.sort.merge-bound":Sem (Array Keyed))):=by
 show((liftM (rule "list.sort.merge-lo"):StateT SortSt Sem Unit)>>=_)=_;refine congrArg _ (funext λ_=>?_);show(elem' b 0>>=_)=_;refine congrArg _ (funext λv=>?_);dsimp only;unfold pL uK;refine congrArg _ (congrArg _ ?_);show((get:StateT SortSt Sem SortSt)>>=_)=_;refine congrArg _ (funext λst=>?_);show((forIn [0:a.size+b.size] ((none,#[v],0,1,gallopOf st):G5) _)>>=_)=_;refine congr (congrArg _ (congrArg _ (funext λx=>funext λc=>?_))) ?_
 ·unfold loO;show((forIn [0:a.size+b.size] ((none,c.2.1,c.2.2.1,c.2.2.2.1,0,0):G6) λ_=>SD a b c.2.2.2.2)>>=_)=_;refine congrArg _ (funext λr=>?_);cases r.1
  ·show((liftM (rule "list.sort.gallop"):StateT SortSt Sem Unit)>>=_)=_;refine congrArg _ (funext λ_=>?_);show((forIn [0:a.size+b.size] ((none,r.2.1,r.2.2.1,r.2.2.2.1,c.2.2.2.2+1,r.2.2.2.2.1,r.2.2.2.2.2):G7) λ_=>loG a b)>>=_)=_;refine congrArg _ (funext λq=>?_);obtain⟨q1,q2⟩:=q;cases q1<;>rfl
  ·rfl
 ·funext q
  obtain⟨q1,q2⟩:=q;cases q1<;>rfl
section
variable{O:KeyOrd}{ky:Keyed->O.α}
def le(ky:Keyed->O.α)(x y:Keyed):Prop:=O.kle (ky x) (ky y)
def le_refl(x:Keyed):le ky x x:=KeyOrd.kle_refl _
def le_trans(h1:le ky x y)(h2:le ky y z):le ky x z:=KeyOrd.kle_trans h1 h2
def le_of_lt(h:O.blt (ky x) (ky y)=true):le ky x y:=KeyOrd.kle_of_klt h
abbrev cU(ky:Keyed->O.α)(l:List Keyed):Prop:=l.Pairwise (le ky)
theorem cU.drop(h:cU ky l)(n:Nat):cU ky (l.drop n):=h.sublist (List.drop_sublist _ _)
theorem cU.take(h:cU ky l)(n:Nat):cU ky (l.take n):=h.sublist (List.take_sublist _ _)
structure MI(ky:Keyed->O.α)(al bl:List Keyed)(out:Array Keyed)(ia ib:Nat):Prop where
 ha:ia<=al.length
 hb:ib<=bl.length
 perm:(out.toList++(al.drop ia++bl.drop ib)).Perm (al++bl)
 srt:cU ky out.toList
 low:∀x∈out.toList,∀y∈al.drop ia++bl.drop ib,le ky x y
 len:out.size=ia+ib
def o7(l:List Keyed)(i k:Nat):l.drop i=(l.drop i).take k++l.drop (i+k):=by
 rw[<- List.drop_drop,List.take_append_drop]
def MI.takeA(h:MI ky al bl out ia ib)(sa:cU ky al)(hk:ia+k<=al.length)(hle:∀x∈(al.drop ia).take k,∀y∈bl.drop ib,le ky x y)
  (ho:out'.toList=out.toList++(al.drop ia).take k):MI ky al bl out' (ia+k) ib:=by
 have sd:=sa.drop ia;rw[o7 al ia k] at sd;obtain⟨s1,s2,s3⟩:=List.pairwise_append.mp sd
 have hl:out'.size=ia+k+ib:=by(rw[<- Array.length_toList,ho,Za,Array.length_toList,h.len,List.length_take,List.length_drop];omega)
 refine⟨hk,h.hb, ?_, ?_,λx hx y hy=>?_,hl⟩
 ·rw[ho]
  have:=h.perm
  rw[o7 al ia k] at this;simpa[List.append_assoc] using this
 ·rw[ho];refine List.pairwise_append.mpr ⟨h.srt,s1,λx hx y hy=>h.low x hx y ?_⟩;rw[o7 al ia k];exact List.mem_append_left _ (List.mem_append_left _ hy)
 ·rw[ho] at hx;rcases zp.mp hx with hx | hx
  ·refine h.low x hx y ?_;rw[o7 al ia k];rcases zp.mp hy with hy | hy
   ·exact List.mem_append_left _ (List.mem_append_right _ hy)
   ·exact List.mem_append_right _ hy
  ·rcases zp.mp hy with hy | hy
   ·exact s3 x hx y hy
   ·exact hle x hx y hy
def MI.takeB(h:MI ky al bl out ia ib)(sb:cU ky bl)(hk:ib+k<=bl.length)(hle:∀x∈(bl.drop ib).take k,∀y∈al.drop ia,le ky x y)
  (ho:out'.toList=out.toList++(bl.drop ib).take k):MI ky al bl out' ia (ib+k):=by
 have sd:=sb.drop ib;rw[o7 bl ib k] at sd;obtain⟨s1,s2,s3⟩:=List.pairwise_append.mp sd
 have hl:out'.size=ia+(ib+k):=by(rw[<- Array.length_toList,ho,Za,Array.length_toList,h.len,List.length_take,List.length_drop];omega)
 refine⟨h.ha,hk, ?_, ?_,λx hx y hy=>?_,hl⟩
 ·rw[ho]
  have:=h.perm
  rw[o7 bl ib k] at this;refine List.Perm.trans ?_ this;rw[List.append_assoc];refine List.Perm.append_left _ ?_;rw[<- List.append_assoc,<- List.append_assoc];exact List.Perm.append_right _ List.perm_append_comm
 ·rw[ho];refine List.pairwise_append.mpr ⟨h.srt,s1,λx hx y hy=>h.low x hx y ?_⟩;rw[o7 bl ib k];exact List.mem_append_right _ (List.mem_append_left _ hy)
 ·rw[ho] at hx;rcases zp.mp hx with hx | hx
  ·refine h.low x hx y ?_;rw[o7 bl ib k];rcases zp.mp hy with hy | hy
   ·exact List.mem_append_left _ hy
   ·exact List.mem_append_right _ (List.mem_append_right _ hy)
  ·rcases zp.mp hy with hy | hy
   ·exact hle x hx y hy
   ·exact s3 x hx y hy
def fQ(ky:Keyed->O.α)(al bl:List Keyed)(m:Array Keyed):Prop:=m.toList.Perm (al++bl)/\cU ky m.toList
def n8{a:Array Keyed}:(a.extract i j).toList=(a.toList.drop i).take (j-i):=by rw[Array.toList_extract,List.extract_eq_take_drop]
def rZ{a:Array Keyed}:(a.extract i a.size).toList=a.toList.drop i:=by
 rw[n8,zf (by simp)]
def nR(h:MI ky a.toList b.toList out ia ib)(sa:cU ky a.toList)(sb:cU ky b.toList)(he:ia=a.size\/ib=b.size):fQ ky a.toList b.toList (pL a b out ia ib):=by
 have e:(pL a b out ia ib).toList=out.toList++(a.toList.drop ia++b.toList.drop ib):=by(unfold pL;rw[Array.toList_append,Array.toList_append,rZ,rZ,List.append_assoc])
 refine⟨by rw[e];exact h.perm, ?_⟩;rw[e];refine List.pairwise_append.mpr ⟨h.srt, ?_,h.low⟩;rcases he with rfl | rfl
 ·rw[List.drop_of_length_le (by simp),List.nil_append];exact sb.drop _
 ·rw[List.drop_of_length_le (l:=b.toList) (by simp),List.append_nil];exact sa.drop _
def X7(h:MI ky a.toList b.toList out ia ib)(sa:cU ky a.toList)(sb:cU ky b.toList)(he:ia+1=a.size)(hl:∀y∈b.toList,∀x∈a.toList.drop ia,le ky y x):fQ ky a.toList b.toList (uK a b out ia ib):=by
 have e:(uK a b out ia ib).toList=out.toList++(b.toList.drop ib++a.toList.drop ia):=by(unfold uK;rw[Array.toList_append,Array.toList_append,rZ,rZ,List.append_assoc])
 refine⟨by rw[e];exact(List.Perm.append_left _ List.perm_append_comm).trans h.perm, ?_⟩;rw[e];refine List.pairwise_append.mpr ⟨h.srt,List.pairwise_append.mpr ⟨sb.drop _,sa.drop _,λy hy x hx=>hl y (List.mem_of_mem_drop hy) x hx⟩,λx hx y hy=>h.low x hx y ?_⟩;rcases zp.mp hy with hy | hy
 ·exact List.mem_append_right _ hy
 ·exact List.mem_append_left _ hy
def n4(hs:cU ky l)(hx:l[i]?=some x):∀y∈l.drop i,le ky x y:=by
 intro y hy
 have:l.drop i=x::l.drop (i+1):=by
  have hi:=(Zc.mp hx)
  rw[List.drop_eq_getElem_cons hi.1,hi.2]
 rw[this] at hy;have sd:=hs.drop i;rw[this] at sd;rcases List.mem_cons.mp hy with rfl | hy
 ·exact le_refl _
 ·exact(List.pairwise_cons.mp sd).1 y hy
def JI{l:List Keyed}(hx:l[i]?=some x):(l.drop i).take 1=[x]:=by
 have hi:=(Zc.mp hx)
 rw[List.drop_eq_getElem_cons hi.1,hi.2];rfl
end
section
variable{prog:Program}{w:World}{A:Around}{E:Value->Shared->Prop}{s:Shared}
def m8(prog:Program)(w:World)(A:Around)(E:Value->Shared->Prop)(s:Shared)(O:KeyOrd)(ky:Keyed->O.α)(kd:SortKind)(P:Keyed->Prop):Prop :=
 ∀(st:SortSt) (x y:Keyed) (Q:Option Bool->SortSt->Prop),kindOf st=kd->P x->P y->Q (some (O.blt (ky x) (ky y))) st->wpS (model prog w) A E s (lt' x y) Q st
structure SameS(st st':SortSt):Prop where
 k:kindOf st'=kindOf st
 a:arrOf st'=arrOf st
 p:pendingOf st'=pendingOf st
 f:failedOf st'=failedOf st
def SameS.refl(st:SortSt):SameS st st:=⟨rfl,rfl,rfl,rfl⟩
def bW{st:SortSt}(h:arr[i]?=some x)(q:Q x st):wpS (model prog w) A E s (elem' arr i) Q st:=by
 rw[elem'_eq,h];exact wpS_pure q
def rV{st st0:SortSt}(h0:SameS st0 st)(q:∀st',SameS st0 st'->Q () st'):wpS (model prog w) A E s (f6 g) Q st :=
 wpS_modify (q _ ⟨h0.k,h0.a,h0.p,h0.f⟩)
variable{O:KeyOrd}{ky:Keyed->O.α}{kd:SortKind}{P:Keyed->Prop}
def MW{st:SortSt}(hL:m8 prog w A E s O ky kd P)(hk:kindOf st=kd)(hx:arr[base+i]?=some x)(px:P x)(pk:P key)
  (h:R (some (if left then O.blt (ky x) (ky key) else !O.blt (ky key) (ky x))) st):wpS (model prog w) A E s (eG left key arr base i) R st:=by
 unfold eG;refine wpS_bind (bW hx ?_)
 cases left with
 |true=>exact hL st x key R hk px pk h
 |false=>exact wpS_bind (hL st key x _ hk pk px (wpS_pure h))
def nI{st:SortSt}(hL:m8 prog w A E s O ky kd P)(hk:kindOf st=kd)(hn:base+n<=arr.size)(hh:hint<n)
  (px:∀i x,i<n->arr[base+i]?=some x->P x) (pk:P key) (hs:∀i j x y,i<j->j<n->arr[base+i]?=some x->arr[base+j]?=some y->le ky x y)
  (h:∀k,k<=n->(∀i x,i<k->arr[base+i]?=some x->if left then O.blt (ky x) (ky key)=true else le ky x key)->(∀i x,k<=i->i<n->arr[base+i]?=some x->if left then le ky key x else O.blt (ky key) (ky x)=true)->Q (some k) st) :
  wpS (model prog w) A E s (hE left key arr base n hint) Q st:=by
 have ex:∀i,i<n->arr[base+i]?=some (arr.getD (base+i) default):=λi hi=>by(rw[Array.getElem?_eq_getElem (show base+i<arr.size by omega)];simp[Array.getD,show base+i<arr.size by omega])
 refine NG (b:=λi=>if left then O.blt (ky (arr.getD (base+i) default)) (ky key) else !O.blt (ky key) (ky (arr.getD (base+i) default))) (λi hi R hR=>MW hL hk (ex i hi) (px i _ hi (ex i hi)) pk hR) hh ?_ λk hc=>?_
 ·intro i j hij hj hb;have hle:=hs i j _ _ hij hj (ex i (by omega)) (ex j hj)
  cases left with
  |true =>
   have hb:O.blt (ky (arr.getD (base+j) default)) (ky key)=true:=hb;exact KeyOrd.klt_of_kle_of_klt hle hb
  |false =>
   have hb:(!O.blt (ky key) (ky (arr.getD (base+j) default)))=true:=hb;have hb:O.kle (ky (arr.getD (base+j) default)) (ky key):=by simpa[KeyOrd.kle] using hb
   have:=KeyOrd.kle_trans hle hb
   simpa[KeyOrd.kle] using this
 ·obtain⟨c1,c2,c3⟩:=hc;refine h k c1 (λi x hi hx=>?_) λi x hi hn' hx=>?_
  ·have hb:=c2 i hi;rw[ex i (by omega)] at hx;cases hx
   cases left with
   |true=>exact hb
   |false=>simpa[le,KeyOrd.kle] using hb
  ·have hb:=c3 i hi hn';rw[ex i hn'] at hx;cases hx
   cases left with
   |true=>exact hb
   |false=>simpa using hb
end
structure ML{O:KeyOrd}(ky:Keyed->O.α)(P:Keyed->Prop)(a b:Array Keyed):Prop where
 sa:cU ky a.toList
 sb:cU ky b.toList
 pa:∀x∈a.toList,P x
 pb:∀x∈b.toList,P x
section
variable{prog:Program}{w:World}{A:Around}{E:Value->Shared->Prop}{s:Shared}
variable{O:KeyOrd}{ky:Keyed->O.α}{kd:SortKind}{P:Keyed->Prop}{a b:Array Keyed}
def cW(h:i<a.size):∃x,a[i]?=some x/\a.toList[i]?=some x/\x∈a.toList:=by
 refine⟨a[i],Array.getElem?_eq_getElem h, ?_, ?_⟩
 ·rw[Array.getElem?_toList,Array.getElem?_eq_getElem h]
 ·exact Array.getElem_mem_toList h
def xR(h:x∈(a.toList.drop i).take k):∃j,j<k/\a[i+j]?=some x:=by
 obtain⟨j,e⟩:=List.mem_iff_getElem?.mp h
 have hj:j<k:=by
  have:=(Zc.mp e).1
  rw[List.length_take] at this;omega
 refine⟨j,hj, ?_⟩;rw[List.getElem?_take,Zo hj,List.getElem?_drop,Array.getElem?_toList] at e;exact e
def l7(h:x∈a.toList.drop i):∃j,i+j<a.size/\a[i+j]?=some x:=by
 obtain⟨j,e⟩:=List.mem_iff_getElem?.mp h;rw[List.getElem?_drop,Array.getElem?_toList] at e;exact⟨j,(Array.getElem?_eq_some_iff.mp e).1,e⟩
def vO(h:cU ky a.toList){i j:Nat}(hij:i<j)(hx:a[i]?=some x)(hy:a[j]?=some y):le ky x y:=by
 rw[<- Array.getElem?_toList] at hx hy;obtain⟨h1,rfl⟩:=Zc.mp hx;obtain⟨h2,rfl⟩:=Zc.mp hy;exact List.pairwise_iff_getElem.mp h i j h1 h2 hij
def i5{i:Nat}(h:a[i]?=some x):x∈a.toList:=by
 rw[<- Array.getElem?_toList] at h;exact zj h
def Js(ky:Keyed->O.α)(a b:Array Keyed)(n:Nat)(out:Array Keyed)(ia ib:Nat):Prop:=MI ky a.toList b.toList out ia ib/\ia+1<a.size/\ib<b.size/\n<=out.size
def Js.pushB(m:ML ky P a b)(h:Js ky a b n out ia ib)(hv:b[ib]?=some v)(hle:∀y∈a.toList.drop ia,le ky v y):MI ky a.toList b.toList (out.push v) ia (ib+1):=by
 have e:=JI (l:=b.toList) (i:=ib) (x:=v) (by rw[Array.getElem?_toList];exact hv);refine h.1.takeB m.sb (by rw[Array.length_toList];exact h.2.2.1) (λx hx y hy=>?_) (by rw[Array.toList_push,e]);rw[e] at hx;rw[ze.mp hx];exact hle y hy
def Js.pushA(m:ML ky P a b)(h:Js ky a b n out ia ib)(hv:a[ia]?=some v)(hle:∀y∈b.toList.drop ib,le ky v y):MI ky a.toList b.toList (out.push v) (ia+1) ib:=by
 have e:=JI (l:=a.toList) (i:=ia) (x:=v) (by rw[Array.getElem?_toList];exact hv);refine h.1.takeA m.sa (by rw[Array.length_toList];have:=h.2.1;omega) (λx hx y hy=>?_) (by rw[Array.toList_push,e]);rw[e] at hx;rw[ze.mp hx];exact hle y hy
def cI{x y:Nat}(h:¬(x==y)=true):x≠y:=by simpa using h
variable(hL:m8 prog w A E s O ky kd P)(m:ML ky P a b)(hlast:∀y∈b.toList,∀i x,i+1=a.size->a[i]?=some x->le ky y x)
include hL m hlast
omit hL in
theorem A2(h:MI ky a.toList b.toList out ia ib)(he:ia+1=a.size):fQ ky a.toList b.toList (uK a b out ia ib):=by
 refine X7 h m.sa m.sb he λy hy x hx=>?_
 obtain⟨j,h1,h2⟩:=l7 hx;obtain rfl:j=0:=by omega
 exact hlast y hy ia x he h2
theorem aDo{st st0:SortSt}(h0:SameS st0 st)(hk:kindOf st0=kd)(hc:∃out ia ib ac bc,c=(none,out,ia,ib,ac,bc)/\Js ky a b n out ia ib) :
  wpS (model prog w) A E s (SD a b mg c) (λr st'=>SameS st0 st'/\match r with
   |.done c'=>(∃z q,c'=(some z,q)/\fQ ky a.toList b.toList z)\/∃out ia ib ac bc,c'=(none,out,ia,ib,ac,bc)/\Js ky a b (n+1) out ia ib
   |.yield c'=>∃out ia ib ac bc,c'=(none,out,ia,ib,ac,bc)/\Js ky a b (n+1) out ia ib) st:=by
 obtain⟨out,ia,ib,ac,bc,rfl,h⟩:=hc;obtain⟨h1,h2,h3,h4⟩:=id h;obtain⟨y,y1,y2,y3⟩:=cW h3;obtain⟨x,x1,x2,x3⟩:=cW (show ia<a.size by omega);unfold SD;dsimp only;refine wpS_bind (bW y1 (wpS_bind (bW x1 (wpS_bind (hL st y x _ (h0.k.trans hk) (m.pb y y3) (m.pa x x3) ?_)))))
 cases hb:O.blt (ky y) (ky x) with
 |true =>
  dsimp only;rw[Zo rfl];refine wpS_bind (bW y1 ?_);have hI:=h.pushB m y1 λz hz=>le_trans (le_of_lt hb) (n4 m.sa x2 z hz)
  by_cases e1:(ib+1==b.size)=true
  ·rw[Zo e1];exact wpS_pure ⟨h0,.inl ⟨_,_,rfl,nR hI m.sa m.sb (.inr (by simpa using e1))⟩⟩
  ·rw[Zp e1];have hJ:Js ky a b (n+1) (out.push y) ia (ib+1):=⟨hI,h2,by have:=cI e1;omega,by rw[Array.size_push];omega⟩
   split
   ·exact wpS_pure ⟨h0,.inr ⟨_,_,_,_,_,rfl,hJ⟩⟩
   ·exact wpS_pure ⟨h0,_,_,_,_,_,rfl,hJ⟩
 |false =>
  dsimp only;rw[Zp (by simp)];refine wpS_bind (bW x1 ?_);have hI:=h.pushA m x1 λz hz=>le_trans (show le ky x y from hb) (n4 m.sb y2 z hz)
  by_cases e1:(ia+1+1==a.size)=true
  ·rw[Zo e1];exact wpS_pure ⟨h0,.inl ⟨_,_,rfl,A2 m hlast hI (by simpa using e1)⟩⟩
  ·rw[Zp e1];have hJ:Js ky a b (n+1) (out.push x) (ia+1) ib:=⟨hI,by have:=cI e1;omega,h3,by rw[Array.size_push];omega⟩
   split
   ·exact wpS_pure ⟨h0,.inr ⟨_,_,_,_,_,rfl,hJ⟩⟩
   ·exact wpS_pure ⟨h0,_,_,_,_,_,rfl,hJ⟩
def G7p(ky:Keyed->O.α)(a b:Array Keyed)(n:Nat)(st0:SortSt)(r:ForInStep G7)(st':SortSt):Prop:=SameS st0 st'/\match r with
   |.done c'=>(∃z q,c'=(some z,q)/\fQ ky a.toList b.toList z)\/∃out ia ib mg ac bc,c'=(none,out,ia,ib,mg,ac,bc)/\Js ky a b (n+1) out ia ib
   |.yield c'=>∃out ia ib mg ac bc,c'=(none,out,ia,ib,mg,ac,bc)/\Js ky a b (n+1) out ia ib
theorem LB{st st0:SortSt}(h0:SameS st0 st)(hJ:Js ky a b n out ia ib)(hle:∀x,a[ia]?=some x->∀y∈b.toList.drop ib,le ky x y) :
  wpS (model prog w) A E s (SO a b mg ac bc out ia ib) (G7p ky a b n st0) st:=by
 obtain⟨h1,h2,h3,h4⟩:=id hJ;obtain⟨x,x1,x2,x3⟩:=cW (show ia<a.size by omega);unfold SO;refine wpS_bind (bW x1 ?_);have hI:=hJ.pushA m x1 (hle x x1);by_cases e1:(ia+1+1==a.size)=true
 ·rw[Zo e1];exact wpS_pure ⟨h0,.inl ⟨_,_,rfl,A2 m hlast hI (by simpa using e1)⟩⟩
 ·rw[Zp e1];have hJ:Js ky a b (n+1) (out.push x) (ia+1) ib:=⟨hI,by have:=cI e1;omega,h3,by rw[Array.size_push];omega⟩
  split
  ·exact wpS_pure ⟨h0,.inr ⟨_,_,_,_,_,_,rfl,hJ⟩⟩
  ·exact wpS_pure ⟨h0,_,_,_,_,_,_,rfl,hJ⟩
theorem JO{st st0:SortSt}(h0:SameS st0 st)(hk:kindOf st0=kd)(hJ:Js ky a b n out ia ib)(hle:∀x,b[ib]?=some x->∀y∈a.toList.drop ia,le ky x y) :
  wpS (model prog w) A E s (SM a b mg ac bc out ia ib) (G7p ky a b n st0) st:=by
 obtain⟨h1,h2,h3,h4⟩:=id hJ;obtain⟨y,y1,y2,y3⟩:=cW h3;obtain⟨x,x1,x2,x3⟩:=cW (show ia<a.size by omega);unfold SM;refine wpS_bind (bW y1 ?_);have hI:=hJ.pushB m y1 (hle y y1);by_cases e1:(ib+1==b.size)=true
 ·rw[Zo e1];exact wpS_pure ⟨h0,.inl ⟨_,_,rfl,nR hI m.sa m.sb (.inr (by simpa using e1))⟩⟩
 ·rw[Zp e1];have hb1:ib+1<b.size:=by have:=cI e1;omega
  refine wpS_bind (bW x1 (wpS_bind (nI hL (h0.k.trans hk) (by omega) (by omega) (λi z hi hz=>m.pb z (i5 hz)) (m.pa x x3) (λi j u v hij hj hu hv=>vO m.sb (by omega) hu hv) λk k1 k2 k3=>?_)));dsimp only;have k2:∀i z,i<k->b[ib+1+i]?=some z->le ky z x:=λi z hi hz=>le_of_lt (by simpa using k2 i z hi hz)
  have k3:∀i z,k<=i->i<b.size-(ib+1)->b[ib+1+i]?=some z->le ky x z:=λi z hi hn hz=>by simpa using k3 i z hi hn hz
  by_cases hk0:k > 0
  ·rw[Zo hk0]
   have hI2:MI ky a.toList b.toList (out.push y++b.extract (ib+1) (ib+1+k)) ia (ib+1+k):=by(refine hI.takeB m.sb (by rw[Array.length_toList];omega) (λz hz u hu=>?_) (by rw[Array.toList_append,n8,show ib+1+k-(ib+1)=k by omega]);obtain⟨j,hj,e⟩:=xR hz;exact le_trans (k2 j z hj e) (n4 m.sa x2 u hu))
   by_cases e2:(ib+1+k==b.size)=true
   ·rw[Zo e2];exact wpS_pure ⟨h0,.inl ⟨_,_,rfl,nR hI2 m.sa m.sb (.inr (by simpa using e2))⟩⟩
   ·rw[Zp e2];refine LB hL m hlast h0 ⟨hI2,h2,by have:=cI e2;omega, ?_⟩ λx' hx' u hu=>?_
    ·rw[Array.size_append,Array.size_push];omega
    ·rw[x1] at hx';cases hx';obtain⟨j,hj,e⟩:=l7 hu;exact k3 (k+j) u (by omega) (by omega) (by rw[<- Nat.add_assoc];exact e)
  ·rw[Zp hk0];obtain rfl:k=0:=by omega
   refine LB hL m hlast h0 ⟨hI,h2,hb1,by rw[Array.size_push];omega⟩ λx' hx' u hu=>?_
   rw[x1] at hx';cases hx';obtain⟨j,hj,e⟩:=l7 hu;exact k3 j u (by omega) (by omega) e
theorem aAA{st st0:SortSt}(h0:SameS st0 st)(hk:kindOf st0=kd)(hJ:Js ky a b n out ia ib) :
  wpS (model prog w) A E s (SQ a b mg ac bc out ia ib) (G7p ky a b n st0) st:=by
 obtain⟨h1,h2,h3,h4⟩:=id hJ;obtain⟨y,y1,y2,y3⟩:=cW h3;unfold SQ;refine wpS_bind (rV h0 λst1 h0=>?_);refine wpS_bind (bW y1 (wpS_bind (nI hL (h0.k.trans hk) (by omega) (by omega) (λi z hi hz=>m.pa z (i5 hz)) (m.pb y y3) (λi j u v hij hj hu hv=>vO m.sa (by omega) hu hv) λk k1 k2 k3=>?_)));dsimp only;have k2:∀i z,i<k->a[ia+i]?=some z->le ky z y:=λi z hi hz=>by simpa using k2 i z hi hz
 have k3:∀i z,k<=i->i<a.size-ia->a[ia+i]?=some z->le ky y z:=λi z hi hn hz=>le_of_lt (by simpa using k3 i z hi hn hz)
 by_cases hk0:k > 0
 ·rw[Zo hk0]
  have hI2:MI ky a.toList b.toList (out++a.extract ia (ia+k)) (ia+k) ib:=by(refine h1.takeA m.sa (by rw[Array.length_toList];omega) (λz hz u hu=>?_) (by rw[Array.toList_append,n8,show ia+k-ia=k by omega]);obtain⟨j,hj,e⟩:=xR hz;exact le_trans (k2 j z hj e) (n4 m.sb y2 u hu))
  by_cases e1:(ia+k+1==a.size)=true
  ·rw[Zo e1];exact wpS_pure ⟨h0,.inl ⟨_,_,rfl,A2 m hlast hI2 (by simpa using e1)⟩⟩
  ·rw[Zp e1];by_cases e2:(ia+k==a.size)=true
   ·rw[Zo e2];exact wpS_pure ⟨h0,.inl ⟨_,_,rfl,nR hI2 m.sa m.sb (.inl (by simpa using e2))⟩⟩
   ·rw[Zp e2]
    have:=cI e1
    have:=cI e2
    refine JO hL m hlast h0 hk ⟨hI2,by omega,h3,by rw[Array.size_append];omega⟩ λy' hy' u hu=>?_
    rw[y1] at hy';cases hy';obtain⟨j,hj,e⟩:=l7 hu;exact k3 (k+j) u (by omega) (by omega) (by rw[<- Nat.add_assoc];exact e)
 ·rw[Zp hk0];obtain rfl:k=0:=by omega
  refine JO hL m hlast h0 hk hJ λy' hy' u hu=>?_
  rw[y1] at hy';cases hy';obtain⟨j,hj,e⟩:=l7 hu;exact k3 j u (by omega) (by omega) e
theorem HL{st:SortSt}(hk:kindOf st=kd)(ha:0<a.size)(hb:0<b.size)(hfirst:∀x y,b[0]?=some y->a[0]?=some x->le ky y x)
  (h:∀z st',SameS st st'->fQ ky a.toList b.toList z->Q z st'):wpS (model prog w) A E s (tD a b) Q st:=by
 rw[DW];refine wpS_bind (wpS_lift (wpAny_rule ⟨rfl, ?_⟩));obtain⟨y,y1,y2,y3⟩:=cW hb;obtain⟨x,x1,x2,x3⟩:=cW ha;refine wpS_bind (bW y1 ?_);have hI0:MI ky a.toList b.toList #[] 0 0:=⟨Nat.zero_le _,Nat.zero_le _,by simp,by simp,by simp,rfl⟩
 have hI:MI ky a.toList b.toList #[y] 0 1:=by(have e:=JI (l:=b.toList) (i:=0) y2;refine hI0.takeB (k:=1) (ib:=0) m.sb (by rw[Array.length_toList];omega) (λz hz u hu=>?_) (by rw[e];rfl);rw[e] at hz;rw[ze.mp hz];exact le_trans (hfirst x y y1 x1) (n4 m.sa x2 u hu))
 by_cases e1:(1==b.size)=true
 ·rw[Zo e1];exact wpS_pure (h _ _ (.refl _) (nR hI m.sa m.sb (.inr (by simpa using e1))))
 ·rw[Zp e1];by_cases e2:(0+1==a.size)=true
  ·rw[Zo e2];exact wpS_pure (h _ _ (.refl _) (A2 m hlast hI (by simpa using e2)))
  ·rw[Zp e2];have e1':=cI e1;have e2':=cI e2;have hJ0:Js ky a b 1 #[y] 0 1:=⟨hI,by omega,by omega,by simp⟩
   refine wpS_bind (wpS_get ?_)
   have full:∀{n:Nat} {out:Array Keyed} {ia ib:Nat},Js ky a b n out ia ib->n<a.size+b.size:=λhJ=>by
    have:=hJ.1.len
    have:=hJ.2.1
    have:=hJ.2.2.1
    have:=hJ.2.2.2
    omega
   refine wpS_bind (wpS_mono (wpS_forRange (I:=λi c st'=>SameS st st'/\∃out ia ib mg,c=(none,out,ia,ib,mg)/\Js ky a b (i+1) out ia ib)
    (Q:=λc st'=>SameS st st'/\∃z q,c=(some z,q)/\fQ ky a.toList b.toList z) ?step ?fin ⟨.refl _,_,_,_,_,rfl,hJ0⟩) ?post)
   case fin =>
    rintro c st' ⟨_,out,ia,ib,mg,rfl,hJ⟩
    have:=full hJ
    omega
   case post =>
    rintro c st' ⟨hs,z,q,rfl,hg⟩
    exact wpS_pure (h z st' hs hg)
   case step =>
    rintro i c st' _ hi ⟨hs,out,ia,ib,mg,rfl,hJ⟩
    unfold loO;dsimp only
    refine wpS_bind (wpS_mono (wpS_forRange (I:=λj c st'=>SameS st st'/\∃out ia ib ac bc,c=(none,out,ia,ib,ac,bc)/\Js ky a b (i+1+j) out ia ib)
     (Q:=λc st'=>SameS st st'/\((∃z q,c=(some z,q)/\fQ ky a.toList b.toList z)\/∃out ia ib ac bc,c=(none,out,ia,ib,ac,bc)/\Js ky a b (i+2) out ia ib)) ?step1 ?fin1 ⟨hs,_,_,_,_,_,rfl,hJ⟩) ?post1)
    case fin1 =>
     rintro c st' ⟨_,out,ia,ib,ac,bc,rfl,hJ⟩
     have:=full hJ
     omega
    case step1 =>
     rintro j c st' _ hj ⟨hs,hc⟩
     refine wpS_mono (aDo hL m hlast hs hk hc) λr st2 hr=>?_
     obtain⟨hs2,hr⟩:=hr
     cases r with
     |done c' =>
      rcases hr with hr | ⟨out,ia,ib,ac,bc,rfl,hJ'⟩
      ·exact⟨hs2,.inl hr⟩
      ·exact⟨hs2,.inr ⟨_,_,_,_,_,rfl,hJ'.1,hJ'.2.1,hJ'.2.2.1,by have:=hJ'.2.2.2;omega⟩⟩
     |yield c'=>exact⟨hs2,hr⟩
    case post1 =>
     rintro c st' ⟨hs,hc⟩
     rcases hc with ⟨z,q,rfl,hg⟩ | ⟨out,ia,ib,ac,bc,rfl,hJ⟩
     ·exact wpS_pure ⟨hs,z,_,rfl,hg⟩
     ·dsimp only;refine wpS_bind (wpS_lift (wpAny_rule ⟨rfl, ?_⟩))
      refine wpS_bind (wpS_mono (wpS_forRange (I:=λj c st'=>SameS st st'/\∃out ia ib mg ac bc,c=(none,out,ia,ib,mg,ac,bc)/\Js ky a b (i+2+j) out ia ib)
       (Q:=λc st'=>SameS st st'/\((∃z q,c=(some z,q)/\fQ ky a.toList b.toList z)\/∃out ia ib mg ac bc,c=(none,out,ia,ib,mg,ac,bc)/\Js ky a b (i+2) out ia ib)) ?step2 ?fin2 ⟨hs,_,_,_,_,_,_,rfl,hJ⟩) ?post2)
      case fin2 =>
       rintro c st' ⟨_,out,ia,ib,mg,ac,bc,rfl,hJ⟩
       have:=full hJ
       omega
      case step2 =>
       rintro j c st' _ hj ⟨hs,out,ia,ib,mg,ac,bc,rfl,hJ⟩
       unfold loG;dsimp only;split
       all_goals
        refine wpS_mono (aAA hL m hlast hs hk hJ) λr st2 hr=>?_
        obtain⟨hs2,hr⟩:=hr
        cases r with
        |done c' =>
         rcases hr with hr | ⟨out,ia,ib,mg,ac,bc,rfl,hJ'⟩
         ·exact⟨hs2,.inl hr⟩
         ·exact⟨hs2,.inr ⟨_,_,_,_,_,_,rfl,hJ'.1,hJ'.2.1,hJ'.2.2.1,by have:=hJ'.2.2.2;omega⟩⟩
        |yield c'=>exact⟨hs2,hr⟩
      case post2 =>
       rintro c st' ⟨hs,hc⟩
       rcases hc with ⟨z,q,rfl,hg⟩ | ⟨out,ia,ib,mg,ac,bc,rfl,hJ⟩
       ·exact wpS_pure ⟨hs,z,_,rfl,hg⟩
       ·dsimp only;exact wpS_bind (rV hs λst3 hs3=>wpS_pure ⟨hs3,_,_,_,_,rfl,hJ⟩)
end
abbrev H6:=Option (Array Keyed)×Nat×Nat×Array Keyed×Nat×Nat
abbrev H7:=Option (Array Keyed)×Nat×Nat×Array Keyed×Nat×Nat×Nat
abbrev H5:=Option (Array Keyed)×Nat×Nat×Array Keyed×Nat
noncomputable def pA(a b out:Array Keyed)(na nb:Nat):Array Keyed:=a.extract 0 na++b.extract 0 nb++out.reverse
noncomputable def uG(a b out:Array Keyed)(na nb:Nat):Array Keyed:=b.extract 0 nb++a.extract 0 na++out.reverse
noncomputable def nG(a b:Array Keyed)(mg:Nat)(c:H6):StateT SortSt Sem (ForInStep H6):=do
 let y <- elem' b (c.2.2.1-1)
 let x <- elem' a (c.2.1-1)
 let r <- lt' y x
 match r with
 |some aWins =>
  if aWins=true then do
   let v <- elem' a (c.2.1-1)
   if(c.2.1-1==0)=true then pure (.done (some (pA a b (c.2.2.2.1.push v) (c.2.1-1) c.2.2.1),c.2.1-1,c.2.2.1,c.2.2.2.1.push v,c.2.2.2.2.1+1,0))
   else if c.2.2.2.2.1+1 >= mg then pure (.done (none,c.2.1-1,c.2.2.1,c.2.2.2.1.push v,c.2.2.2.2.1+1,0))
   else pure (.yield (none,c.2.1-1,c.2.2.1,c.2.2.2.1.push v,c.2.2.2.2.1+1,0))
  else do
   let v <- elem' b (c.2.2.1-1)
   if(c.2.2.1-1==1)=true then pure (.done (some (uG a b (c.2.2.2.1.push v) c.2.1 (c.2.2.1-1)),c.2.1,c.2.2.1-1,c.2.2.2.1.push v,0,c.2.2.2.2.2+1))
   else if c.2.2.2.2.2+1 >= mg then pure (.done (none,c.2.1,c.2.2.1-1,c.2.2.2.1.push v,0,c.2.2.2.2.2+1))
   else pure (.yield (none,c.2.1,c.2.2.1-1,c.2.2.2.1.push v,0,c.2.2.2.2.2+1))
 |x=>pure (.done (some (pA a b c.2.2.2.1 c.2.1 c.2.2.1),c.2.1,c.2.2.1,c.2.2.2.1,c.2.2.2.2.1,c.2.2.2.2.2))
noncomputable def S7(a b:Array Keyed)(mg ac bc:Nat)(out:Array Keyed)(na nb:Nat):StateT SortSt Sem (ForInStep H7):=do
 let v <- elem' a (na-1)
 if(na-1==0)=true then pure (.done (some (pA a b (out.push v) (na-1) nb),na-1,nb,out.push v,mg,ac,bc))
 else if(decide (ac<7)&&decide (bc<7))=true then pure (.done (none,na-1,nb,out.push v,mg,ac,bc))
 else pure (.yield (none,na-1,nb,out.push v,mg,ac,bc))
noncomputable def UP(a b:Array Keyed)(mg ac bc:Nat)(out:Array Keyed)(na nb:Nat):StateT SortSt Sem (ForInStep H7):=do
 let v <- elem' b (nb-1)
 if(nb-1==1)=true then pure (.done (some (uG a b (out.push v) na (nb-1)),na,nb-1,out.push v,mg,ac,bc))
 else do
  let u <- elem' a (na-1)
  let r <- hE true u b 0 (nb-1) (nb-1-1)
  match r with
  |some at_ =>
   if nb-1-at_ > 0 then
    if(at_==1)=true then pure (.done (some (uG a b (out.push v++(b.extract at_ (nb-1)).reverse) na at_),na,at_,out.push v++(b.extract at_ (nb-1)).reverse,mg,ac,nb-1-at_))
    else if(at_==0)=true then pure (.done (some (pA a b (out.push v++(b.extract at_ (nb-1)).reverse) na at_),na,at_,out.push v++(b.extract at_ (nb-1)).reverse,mg,ac,nb-1-at_))
    else S7 a b mg ac (nb-1-at_) (out.push v++(b.extract at_ (nb-1)).reverse) na at_
   else S7 a b mg ac (nb-1-at_) (out.push v) na (nb-1)
  |x=>pure (.done (some (pA a b (out.push v) na (nb-1)),na,nb-1,out.push v,mg,ac,bc))
noncomputable def iM(a b:Array Keyed)(mg ac bc:Nat)(out:Array Keyed)(na nb:Nat):StateT SortSt Sem (ForInStep H7):=do
 f6 mg
 let y <- elem' b (nb-1)
 let r <- hE false y a 0 na (na-1)
 match r with
 |some at_ =>
  if na-at_ > 0 then
   if(at_==0)=true then pure (.done (some (pA a b (out++(a.extract at_ na).reverse) at_ nb),at_,nb,out++(a.extract at_ na).reverse,mg,na-at_,bc))
   else UP a b mg (na-at_) bc (out++(a.extract at_ na).reverse) at_ nb
  else UP a b mg (na-at_) bc out na nb
 |x=>pure (.done (some (pA a b out na nb),na,nb,out,mg,ac,bc))
noncomputable def hiG(a b:Array Keyed)(c:H7):StateT SortSt Sem (ForInStep H7) :=
 if c.2.2.2.2.1 > 1 then iM a b (c.2.2.2.2.1-1) c.2.2.2.2.2.1 c.2.2.2.2.2.2 c.2.2.2.1 c.2.1 c.2.2.1 else iM a b c.2.2.2.2.1 c.2.2.2.2.2.1 c.2.2.2.2.2.2 c.2.2.2.1 c.2.1 c.2.2.1
noncomputable def hiO(a b:Array Keyed)(c:H5):StateT SortSt Sem (ForInStep H5):=do
 let r <- forIn [0:a.size+b.size] ((none,c.2.1,c.2.2.1,c.2.2.2.1,0,0):H6) λ_=>nG a b c.2.2.2.2
 match r.1 with
 |some z=>pure (.done (some z,r.2.1,r.2.2.1,r.2.2.2.1,c.2.2.2.2))
 |none=>do
  liftM (rule "list.sort.gallop")
  let q <- forIn [0:a.size+b.size] ((none,r.2.1,r.2.2.1,r.2.2.2.1,c.2.2.2.2+1,r.2.2.2.2.1,r.2.2.2.2.2):H7) λ_=>hiG a b
  match q.1 with
  |some z=>pure (.done (some z,q.2.1,q.2.2.1,q.2.2.2.1,q.2.2.2.2.1))
  |none=>do
   f6 (q.2.2.2.2.1+1)
   pure (.yield (none,q.2.1,q.2.2.1,q.2.2.2.1,q.2.2.2.2.1+1))
theorem D3(a b:Array Keyed):tZ a b=(do
 liftM (rule "list.sort.merge-hi")
 let v <- elem' a (a.size-1)
 if(a.size-1==0)=true then pure (pA a b #[v] (a.size-1) b.size)
 else if(b.size==1)=true then pure (uG a b #[v] (a.size-1) b.size)
 else do
  let st <- get
  let q <- forIn [0:a.size+b.size] ((none,a.size-1,b.size,#[v],gallopOf st):H5) λ_=>hiO a b
  match q.1 with
  |some z=>pure z
  |none=>liftM (unsupported "internal:list.sort.merge-bound":Sem (Array Keyed))):=by
 show((liftM (rule "list.sort.merge-hi"):StateT SortSt Sem Unit)>>=_)=_;refine congrArg _ (funext λ_=>?_);show(elem' a (a.size-1)>>=_)=_;refine congrArg _ (funext λv=>?_);dsimp only;unfold pA uG;refine congrArg _ (congrArg _ ?_);show((get:StateT SortSt Sem SortSt)>>=_)=_;refine congrArg _ (funext λst=>?_);show((forIn [0:a.size+b.size] ((none,a.size-1,b.size,#[v],gallopOf st):H5) _)>>=_)=_;refine congr (congrArg _ (congrArg _ (funext λx=>funext λc=>?_))) ?_
 ·unfold hiO;show((forIn [0:a.size+b.size] ((none,c.2.1,c.2.2.1,c.2.2.2.1,0,0):H6) λ_=>nG a b c.2.2.2.2)>>=_)=_;refine congrArg _ (funext λr=>?_);cases r.1
  ·show((liftM (rule "list.sort.gallop"):StateT SortSt Sem Unit)>>=_)=_;refine congrArg _ (funext λ_=>?_);show((forIn [0:a.size+b.size] ((none,r.2.1,r.2.2.1,r.2.2.2.1,c.2.2.2.2+1,r.2.2.2.2.1,r.2.2.2.2.2):H7) λ_=>hiG a b)>>=_)=_;refine congrArg _ (funext λq=>?_);obtain⟨q1,q2⟩:=q;cases q1<;>rfl
  ·rfl
 ·funext q
  obtain⟨q1,q2⟩:=q;cases q1<;>rfl
section
variable{O:KeyOrd}{ky:Keyed->O.α}
structure MH(ky:Keyed->O.α)(al bl:List Keyed)(out:Array Keyed)(na nb:Nat):Prop where
 ha:na<=al.length
 hb:nb<=bl.length
 perm:((al.take na++bl.take nb)++out.toList.reverse).Perm (al++bl)
 srt:cU ky out.toList.reverse
 high:∀x∈al.take na++bl.take nb,∀y∈out.toList,le ky x y
 len:out.size+(na+nb)=al.length+bl.length
def pX(l:List Keyed)(h:n'<=n):l.take n=l.take n'++(l.take n).drop n':=by
 have:=List.take_append_drop n' (l.take n)
 rw[List.take_take,Nat.min_eq_left h] at this;exact this.symm
def MH.takeA(h:MH ky al bl out na nb)(sa:cU ky al)(hn:n'<=na)(hle:∀x∈bl.take nb,∀y∈(al.take na).drop n',le ky x y)
  (ho:out'.toList.reverse=(al.take na).drop n'++out.toList.reverse):MH ky al bl out' n' nb:=by
 have sd:=sa.take na;rw[pX al hn] at sd;obtain⟨s1,s2,s3⟩:=List.pairwise_append.mp sd
 have hl:out'.size=na-n'+out.size:=by
  have:=congrArg List.length ho
  simp only[List.length_reverse,Za,List.length_drop,List.length_take,Array.length_toList] at this
  have:=h.ha
  omega
 have mem':∀y,y∈out'.toList↔y∈(al.take na).drop n'\/y∈out.toList:=λy=>by(rw[<- List.mem_reverse,ho,zp,List.mem_reverse])
 refine⟨Zr hn h.ha,h.hb, ?_, ?_,λx hx y hy=>?_,by have:=h.len;omega⟩
 ·rw[ho]
  have:=h.perm
  rw[pX al hn] at this;refine List.Perm.trans ?_ this;rw[<- List.append_assoc,List.append_assoc _ (bl.take nb)];refine List.Perm.append_right _ ?_;rw[List.append_assoc];exact List.Perm.append_left _ List.perm_append_comm
 ·rw[ho];refine List.pairwise_append.mpr ⟨s2,h.srt,λx hx y hy=>h.high x ?_ y (List.mem_reverse.mp hy)⟩;rw[pX al hn];exact List.mem_append_left _ (List.mem_append_right _ hx)
 ·rcases(mem' y).mp hy with hy | hy
  ·rcases zp.mp hx with hx | hx
   ·exact s3 x hx y hy
   ·exact hle x hx y hy
  ·refine h.high x ?_ y hy;rw[pX al hn];rcases zp.mp hx with hx | hx
   ·exact List.mem_append_left _ (List.mem_append_left _ hx)
   ·exact List.mem_append_right _ hx
def MH.takeB(h:MH ky al bl out na nb)(sb:cU ky bl)(hn:n'<=nb)(hle:∀x∈al.take na,∀y∈(bl.take nb).drop n',le ky x y)
  (ho:out'.toList.reverse=(bl.take nb).drop n'++out.toList.reverse):MH ky al bl out' na n':=by
 have sd:=sb.take nb;rw[pX bl hn] at sd;obtain⟨s1,s2,s3⟩:=List.pairwise_append.mp sd
 have hl:out'.size=nb-n'+out.size:=by
  have:=congrArg List.length ho
  simp only[List.length_reverse,Za,List.length_drop,List.length_take,Array.length_toList] at this
  have:=h.hb
  omega
 have mem':∀y,y∈out'.toList↔y∈(bl.take nb).drop n'\/y∈out.toList:=λy=>by(rw[<- List.mem_reverse,ho,zp,List.mem_reverse])
 refine⟨h.ha,Zr hn h.hb, ?_, ?_,λx hx y hy=>?_,by have:=h.len;omega⟩
 ·rw[ho]
  have:=h.perm
  rw[pX bl hn] at this;simpa[List.append_assoc] using this
 ·rw[ho];refine List.pairwise_append.mpr ⟨s2,h.srt,λx hx y hy=>h.high x ?_ y (List.mem_reverse.mp hy)⟩;rw[pX bl hn];exact List.mem_append_right _ (List.mem_append_right _ hx)
 ·rcases(mem' y).mp hy with hy | hy
  ·rcases zp.mp hx with hx | hx
   ·exact hle x hx y hy
   ·exact s3 x hx y hy
  ·refine h.high x ?_ y hy;rw[pX bl hn];rcases zp.mp hx with hx | hx
   ·exact List.mem_append_left _ hx
   ·exact List.mem_append_right _ (List.mem_append_left _ hx)
def AU{a:Array Keyed}:(a.extract 0 j).toList=a.toList.take j:=by rw[n8,List.drop_zero,Nat.sub_zero]
def lQ(h:MH ky a.toList b.toList out na nb)(sa:cU ky a.toList)(sb:cU ky b.toList)(he:na=0\/nb=0):fQ ky a.toList b.toList (pA a b out na nb):=by
 have e:(pA a b out na nb).toList=(a.toList.take na++b.toList.take nb)++out.toList.reverse:=by(unfold pA;rw[Array.toList_append,Array.toList_append,AU,AU,Array.toList_reverse])
 refine⟨by rw[e];exact h.perm, ?_⟩;rw[e];refine List.pairwise_append.mpr ⟨?_,h.srt,λx hx y hy=>h.high x hx y (List.mem_reverse.mp hy)⟩;rcases he with rfl | rfl
 ·rw[List.take_zero,List.nil_append];exact sb.take _
 ·rw[List.take_zero,List.append_nil];exact sa.take _
def PR(h:MH ky a.toList b.toList out na nb)(sa:cU ky a.toList)(sb:cU ky b.toList)(hl:∀y∈b.toList.take nb,∀x∈a.toList,le ky y x):fQ ky a.toList b.toList (uG a b out na nb):=by
 have e:(uG a b out na nb).toList=(b.toList.take nb++a.toList.take na)++out.toList.reverse:=by(unfold uG;rw[Array.toList_append,Array.toList_append,AU,AU,Array.toList_reverse])
 refine⟨by rw[e];exact(List.Perm.append_right _ List.perm_append_comm).trans h.perm, ?_⟩;rw[e];refine List.pairwise_append.mpr ⟨List.pairwise_append.mpr ⟨sb.take _,sa.take _,λy hy x hx=>hl y hy x (List.mem_of_mem_take hx)⟩,h.srt,λx hx y hy=>h.high x ?_ y (List.mem_reverse.mp hy)⟩;rcases zp.mp hx with hx | hx
 ·exact List.mem_append_right _ hx
 ·exact List.mem_append_left _ hx
def rE(hs:cU ky l)(hn:0<n)(hx:l[n-1]?=some x):∀y∈l.take n,le ky y x:=by
 intro y hy;obtain⟨j,e⟩:=List.mem_iff_getElem?.mp hy
 have hj:j<n:=by
  have:=(Zc.mp e).1
  rw[List.length_take] at this;omega
 rw[List.getElem?_take,Zo hj] at e;by_cases he:j=n-1
 ·rw[he,hx] at e;cases e;exact le_refl _
 ·obtain⟨h1,rfl⟩:=Zc.mp e;obtain⟨h2,rfl⟩:=Zc.mp hx;exact List.pairwise_iff_getElem.mp hs j (n-1) h1 h2 (by omega)
def GK{l:List Keyed}(hn:0<n)(hx:l[n-1]?=some x):(l.take n).drop (n-1)=[x]:=by
 obtain⟨h2,h3⟩:=Zc.mp hx;rw[List.drop_take,show n-(n-1)=1 by omega,List.drop_eq_getElem_cons h2,h3];rfl
end
section
variable{prog:Program}{w:World}{A:Around}{E:Value->Shared->Prop}{s:Shared}
variable{O:KeyOrd}{ky:Keyed->O.α}{kd:SortKind}{P:Keyed->Prop}{a b:Array Keyed}
def tJ(h:x∈(a.toList.take n).drop n'):∃j,n'<=j/\j<n/\a[j]?=some x:=by
 obtain⟨j,e⟩:=List.mem_iff_getElem?.mp h;rw[List.getElem?_drop] at e
 have hj:n'+j<n:=by
  have:=(Zc.mp e).1
  rw[List.length_take] at this;omega
 rw[List.getElem?_take,Zo hj,Array.getElem?_toList] at e;exact⟨n'+j,by omega,hj,e⟩
def lW(h:x∈a.toList.take n):∃j,j<n/\a[j]?=some x:=by
 rw[<- List.drop_zero (l:=a.toList.take n)] at h;obtain⟨j,_,h1,h2⟩:=tJ h;exact⟨j,h1,h2⟩
def FK:((a.extract i j).reverse).toList.reverse=(a.toList.take j).drop i:=by
 rw[Array.toList_reverse,List.reverse_reverse,n8,List.drop_take]
def Jh(ky:Keyed->O.α)(a b:Array Keyed)(n:Nat)(out:Array Keyed)(na nb:Nat):Prop:=MH ky a.toList b.toList out na nb/\0<na/\1<nb/\n<=out.size
def Jh.bd(h:Jh ky a b n out na nb):na<=a.size/\nb<=b.size:=by
 have h1:=h.1.ha;have h2:=h.1.hb;rw[Array.length_toList] at h1 h2;exact⟨h1,h2⟩
def Jh.pushA(m:ML ky P a b)(h:Jh ky a b n out na nb)(hv:a[na-1]?=some v)(hle:∀y∈b.toList.take nb,le ky y v):MH ky a.toList b.toList (out.push v) (na-1) nb:=by
 have e:=GK (l:=a.toList) (n:=na) (x:=v) h.2.1 (by rw[Array.getElem?_toList];exact hv);refine h.1.takeA m.sa (by omega) (λx hx y hy=>?_) (by rw[Array.toList_push,List.reverse_append,e];rfl);rw[e] at hy;rw[ze.mp hy];exact hle x hx
def Jh.pushB(m:ML ky P a b)(h:Jh ky a b n out na nb)(hv:b[nb-1]?=some v)(hle:∀y∈a.toList.take na,le ky y v):MH ky a.toList b.toList (out.push v) na (nb-1):=by
 have e:=GK (l:=b.toList) (n:=nb) (x:=v) (by have:=h.2.2.1;omega) (by rw[Array.getElem?_toList];exact hv);refine h.1.takeB m.sb (by omega) (λx hx y hy=>?_) (by rw[Array.toList_push,List.reverse_append,e];rfl);rw[e] at hy;rw[ze.mp hy];exact hle x hx
variable(hL:m8 prog w A E s O ky kd P)(m:ML ky P a b)(hfirst:∀y,b[0]?=some y->∀x∈a.toList,le ky y x)
include hL m hfirst
omit hL in
theorem A0(h:MH ky a.toList b.toList out na nb)(he:nb=1):fQ ky a.toList b.toList (uG a b out na nb):=by
 refine PR h m.sa m.sb λy hy x hx=>?_
 obtain⟨j,h1,h2⟩:=lW hy;obtain rfl:j=0:=by omega
 exact hfirst y h2 x hx
theorem aBf{st st0:SortSt}(h0:SameS st0 st)(hk:kindOf st0=kd)(hc:∃out na nb ac bc,c=(none,na,nb,out,ac,bc)/\Jh ky a b n out na nb) :
  wpS (model prog w) A E s (nG a b mg c) (λr st'=>SameS st0 st'/\match r with
   |.done c'=>(∃z q,c'=(some z,q)/\fQ ky a.toList b.toList z)\/∃out na nb ac bc,c'=(none,na,nb,out,ac,bc)/\Jh ky a b (n+1) out na nb
   |.yield c'=>∃out na nb ac bc,c'=(none,na,nb,out,ac,bc)/\Jh ky a b (n+1) out na nb) st:=by
 obtain⟨out,na,nb,ac,bc,rfl,h⟩:=hc;obtain⟨h1,h2,h3,h4⟩:=id h;obtain⟨g1,g2⟩:=h.bd;obtain⟨y,y1,y2,y3⟩:=cW (a:=b) (show nb-1<b.size by omega);obtain⟨x,x1,x2,x3⟩:=cW (show na-1<a.size by omega);unfold nG;dsimp only;refine wpS_bind (bW y1 (wpS_bind (bW x1 (wpS_bind (hL st y x _ (h0.k.trans hk) (m.pb y y3) (m.pa x x3) ?_)))))
 cases hb:O.blt (ky y) (ky x) with
 |true =>
  dsimp only;rw[Zo rfl];refine wpS_bind (bW x1 ?_);have hI:=h.pushA m x1 λz hz=>le_trans (rE m.sb (by omega) y2 z hz) (le_of_lt hb)
  by_cases e1:(na-1==0)=true
  ·rw[Zo e1];exact wpS_pure ⟨h0,.inl ⟨_,_,rfl,lQ hI m.sa m.sb (.inl (by simpa using e1))⟩⟩
  ·rw[Zp e1];have hJ:Jh ky a b (n+1) (out.push x) (na-1) nb:=⟨hI,by have:=cI e1;omega,h3,by rw[Array.size_push];omega⟩
   split
   ·exact wpS_pure ⟨h0,.inr ⟨_,_,_,_,_,rfl,hJ⟩⟩
   ·exact wpS_pure ⟨h0,_,_,_,_,_,rfl,hJ⟩
 |false =>
  dsimp only;rw[Zp (by simp)];refine wpS_bind (bW y1 ?_);have hI:=h.pushB m y1 λz hz=>le_trans (rE m.sa h2 x2 z hz) (show le ky x y from hb)
  by_cases e1:(nb-1==1)=true
  ·rw[Zo e1];exact wpS_pure ⟨h0,.inl ⟨_,_,rfl,A0 m hfirst hI (by simpa using e1)⟩⟩
  ·rw[Zp e1];have hJ:Jh ky a b (n+1) (out.push y) na (nb-1):=⟨hI,h2,by have:=cI e1;omega,by rw[Array.size_push];omega⟩
   split
   ·exact wpS_pure ⟨h0,.inr ⟨_,_,_,_,_,rfl,hJ⟩⟩
   ·exact wpS_pure ⟨h0,_,_,_,_,_,rfl,hJ⟩
def Z7(ky:Keyed->O.α)(a b:Array Keyed)(n:Nat)(st0:SortSt)(r:ForInStep H7)(st':SortSt):Prop:=SameS st0 st'/\match r with
   |.done c'=>(∃z q,c'=(some z,q)/\fQ ky a.toList b.toList z)\/∃out na nb mg ac bc,c'=(none,na,nb,out,mg,ac,bc)/\Jh ky a b (n+1) out na nb
   |.yield c'=>∃out na nb mg ac bc,c'=(none,na,nb,out,mg,ac,bc)/\Jh ky a b (n+1) out na nb
theorem K1{st st0:SortSt}(h0:SameS st0 st)(hJ:Jh ky a b n out na nb)(hle:∀x,a[na-1]?=some x->∀y∈b.toList.take nb,le ky y x) :
  wpS (model prog w) A E s (S7 a b mg ac bc out na nb) (Z7 ky a b n st0) st:=by
 obtain⟨h1,h2,h3,h4⟩:=id hJ;obtain⟨g1,g2⟩:=hJ.bd;obtain⟨x,x1,x2,x3⟩:=cW (show na-1<a.size by omega);unfold S7;refine wpS_bind (bW x1 ?_);have hI:=hJ.pushA m x1 (hle x x1);by_cases e1:(na-1==0)=true
 ·rw[Zo e1];exact wpS_pure ⟨h0,.inl ⟨_,_,rfl,lQ hI m.sa m.sb (.inl (by simpa using e1))⟩⟩
 ·rw[Zp e1];have hJ:Jh ky a b (n+1) (out.push x) (na-1) nb:=⟨hI,by have:=cI e1;omega,h3,by rw[Array.size_push];omega⟩
  split
  ·exact wpS_pure ⟨h0,.inr ⟨_,_,_,_,_,_,rfl,hJ⟩⟩
  ·exact wpS_pure ⟨h0,_,_,_,_,_,_,rfl,hJ⟩
theorem L9{st st0:SortSt}(h0:SameS st0 st)(hk:kindOf st0=kd)(hJ:Jh ky a b n out na nb)(hle:∀x,b[nb-1]?=some x->∀y∈a.toList.take na,le ky y x) :
  wpS (model prog w) A E s (UP a b mg ac bc out na nb) (Z7 ky a b n st0) st:=by
 obtain⟨h1,h2,h3,h4⟩:=id hJ;obtain⟨g1,g2⟩:=hJ.bd;obtain⟨y,y1,y2,y3⟩:=cW (a:=b) (show nb-1<b.size by omega);obtain⟨x,x1,x2,x3⟩:=cW (show na-1<a.size by omega);unfold UP;refine wpS_bind (bW y1 ?_);have hI:=hJ.pushB m y1 (hle y y1);by_cases e1:(nb-1==1)=true
 ·rw[Zo e1];exact wpS_pure ⟨h0,.inl ⟨_,_,rfl,A0 m hfirst hI (by simpa using e1)⟩⟩
 ·rw[Zp e1];have hb1:1<nb-1:=by have:=cI e1;omega
  refine wpS_bind (bW x1 (wpS_bind (nI hL (h0.k.trans hk) (by omega) (by omega) (λi z hi hz=>m.pb z (i5 hz)) (m.pa x x3) (λi j u v hij hj hu hv=>vO m.sb (by omega) hu hv) λk k1 k2 k3=>?_)));dsimp only;have k2:∀i z,i<k->b[i]?=some z->le ky z x:=λi z hi hz=>le_of_lt (by simpa using k2 i z hi (by rw[Nat.zero_add];exact hz))
  have k3:∀i z,k<=i->i<nb-1->b[i]?=some z->le ky x z:=λi z hi hn hz=>by simpa using k3 i z hi hn (by rw[Nat.zero_add];exact hz)
  by_cases hk0:nb-1-k > 0
  ·rw[Zo hk0]
   have hI2:MH ky a.toList b.toList (out.push y++(b.extract k (nb-1)).reverse) na k:=by(refine hI.takeB m.sb (by omega) (λz hz u hu=>?_) (by rw[Array.toList_append,List.reverse_append,FK]);obtain⟨j,hj1,hj2,e⟩:=tJ hu;exact le_trans (rE m.sa h2 x2 z hz) (k3 j u hj1 hj2 e))
   by_cases e2:(k==1)=true
   ·rw[Zo e2];exact wpS_pure ⟨h0,.inl ⟨_,_,rfl,A0 m hfirst hI2 (by simpa using e2)⟩⟩
   ·rw[Zp e2];by_cases e3:(k==0)=true
    ·rw[Zo e3];exact wpS_pure ⟨h0,.inl ⟨_,_,rfl,lQ hI2 m.sa m.sb (.inr (by simpa using e3))⟩⟩
    ·rw[Zp e3]
     have:=cI e2
     have:=cI e3
     refine K1 hL m hfirst h0 ⟨hI2,h2,by omega, ?_⟩ λx' hx' u hu=>?_
     ·rw[Array.size_append,Array.size_push];omega
     ·rw[x1] at hx';cases hx';obtain⟨j,hj,e⟩:=lW hu;exact k2 j u hj e
  ·rw[Zp hk0];refine K1 hL m hfirst h0 ⟨hI,h2,hb1,by rw[Array.size_push];omega⟩ λx' hx' u hu=>?_
   rw[x1] at hx';cases hx';obtain⟨j,hj,e⟩:=lW hu;exact k2 j u (by omega) e
theorem aAt{st st0:SortSt}(h0:SameS st0 st)(hk:kindOf st0=kd)(hJ:Jh ky a b n out na nb) :
  wpS (model prog w) A E s (iM a b mg ac bc out na nb) (Z7 ky a b n st0) st:=by
 obtain⟨h1,h2,h3,h4⟩:=id hJ;obtain⟨g1,g2⟩:=hJ.bd;obtain⟨y,y1,y2,y3⟩:=cW (a:=b) (show nb-1<b.size by omega);unfold iM;refine wpS_bind (rV h0 λst1 h0=>?_);refine wpS_bind (bW y1 (wpS_bind (nI hL (h0.k.trans hk) (by omega) (by omega) (λi z hi hz=>m.pa z (i5 hz)) (m.pb y y3) (λi j u v hij hj hu hv=>vO m.sa (by omega) hu hv) λk k1 k2 k3=>?_)));dsimp only;have k2:∀i z,i<k->a[i]?=some z->le ky z y:=λi z hi hz=>by simpa using k2 i z hi (by rw[Nat.zero_add];exact hz)
 have k3:∀i z,k<=i->i<na->a[i]?=some z->le ky y z:=λi z hi hn hz=>le_of_lt (by simpa using k3 i z hi hn (by rw[Nat.zero_add];exact hz))
 by_cases hk0:na-k > 0
 ·rw[Zo hk0]
  have hI2:MH ky a.toList b.toList (out++(a.extract k na).reverse) k nb:=by(refine h1.takeA m.sa (by omega) (λz hz u hu=>?_) (by rw[Array.toList_append,List.reverse_append,FK]);obtain⟨j,hj1,hj2,e⟩:=tJ hu;exact le_trans (rE m.sb (by omega) y2 z hz) (k3 j u hj1 hj2 e))
  by_cases e1:(k==0)=true
  ·rw[Zo e1];exact wpS_pure ⟨h0,.inl ⟨_,_,rfl,lQ hI2 m.sa m.sb (.inl (by simpa using e1))⟩⟩
  ·rw[Zp e1]
   have:=cI e1
   refine L9 hL m hfirst h0 hk ⟨hI2,by omega,h3,by rw[Array.size_append];omega⟩ λy' hy' u hu=>?_
   rw[y1] at hy';cases hy';obtain⟨j,hj,e⟩:=lW hu;exact k2 j u hj e
 ·rw[Zp hk0];refine L9 hL m hfirst h0 hk hJ λy' hy' u hu=>?_
  rw[y1] at hy';cases hy';obtain⟨j,hj,e⟩:=lW hu;exact k2 j u (by omega) e
theorem ID{st:SortSt}(hk:kindOf st=kd)(ha:0<a.size)(hb:0<b.size)(hlast:∀y∈b.toList,∀x,a[a.size-1]?=some x->le ky y x)
  (h:∀z st',SameS st st'->fQ ky a.toList b.toList z->Q z st'):wpS (model prog w) A E s (tZ a b) Q st:=by
 rw[D3];refine wpS_bind (wpS_lift (wpAny_rule ⟨rfl, ?_⟩));obtain⟨x,x1,x2,x3⟩:=cW (show a.size-1<a.size by omega);refine wpS_bind (bW x1 ?_);have hI0:MH ky a.toList b.toList #[] a.size b.size:=⟨by simp,by simp,by rw[zf (by simp),zf (by simp)];simp,by simp,by simp,by simp⟩
 have hI:MH ky a.toList b.toList #[x] (a.size-1) b.size:=by(have e:=GK (l:=a.toList) (n:=a.size) ha x2;refine hI0.takeA m.sa (by omega) (λz hz u hu=>?_) (by rw[e];rfl);rw[e] at hu;rw[ze.mp hu];exact hlast z (List.mem_of_mem_take hz) x x1)
 by_cases e1:(a.size-1==0)=true
 ·rw[Zo e1];exact wpS_pure (h _ _ (.refl _) (lQ hI m.sa m.sb (.inl (by simpa using e1))))
 ·rw[Zp e1];by_cases e2:(b.size==1)=true
  ·rw[Zo e2];exact wpS_pure (h _ _ (.refl _) (A0 m hfirst hI (by simpa using e2)))
  ·rw[Zp e2];have e1':=cI e1;have e2':=cI e2;have hJ0:Jh ky a b 1 #[x] (a.size-1) b.size:=⟨hI,by omega,by omega,by simp⟩
   refine wpS_bind (wpS_get ?_)
   have full:∀{n:Nat} {out:Array Keyed} {na nb:Nat},Jh ky a b n out na nb->n<a.size+b.size:=λhJ=>by
    have h1:=hJ.1.len;rw[Array.length_toList,Array.length_toList] at h1
    have:=hJ.2.1
    have:=hJ.2.2.1
    have:=hJ.2.2.2
    omega
   refine wpS_bind (wpS_mono (wpS_forRange (I:=λi c st'=>SameS st st'/\∃out na nb mg,c=(none,na,nb,out,mg)/\Jh ky a b (i+1) out na nb)
    (Q:=λc st'=>SameS st st'/\∃z q,c=(some z,q)/\fQ ky a.toList b.toList z) ?step ?fin ⟨.refl _,_,_,_,_,rfl,hJ0⟩) ?post)
   case fin =>
    rintro c st' ⟨_,out,na,nb,mg,rfl,hJ⟩
    have:=full hJ
    omega
   case post =>
    rintro c st' ⟨hs,z,q,rfl,hg⟩
    exact wpS_pure (h z st' hs hg)
   case step =>
    rintro i c st' _ hi ⟨hs,out,na,nb,mg,rfl,hJ⟩
    unfold hiO;dsimp only
    refine wpS_bind (wpS_mono (wpS_forRange (I:=λj c st'=>SameS st st'/\∃out na nb ac bc,c=(none,na,nb,out,ac,bc)/\Jh ky a b (i+1+j) out na nb)
     (Q:=λc st'=>SameS st st'/\((∃z q,c=(some z,q)/\fQ ky a.toList b.toList z)\/∃out na nb ac bc,c=(none,na,nb,out,ac,bc)/\Jh ky a b (i+2) out na nb)) ?step1 ?fin1 ⟨hs,_,_,_,_,_,rfl,hJ⟩) ?post1)
    case fin1 =>
     rintro c st' ⟨_,out,na,nb,ac,bc,rfl,hJ⟩
     have:=full hJ
     omega
    case step1 =>
     rintro j c st' _ hj ⟨hs,hc⟩
     refine wpS_mono (aBf hL m hfirst hs hk hc) λr st2 hr=>?_
     obtain⟨hs2,hr⟩:=hr
     cases r with
     |done c' =>
      rcases hr with hr | ⟨out,na,nb,ac,bc,rfl,hJ'⟩
      ·exact⟨hs2,.inl hr⟩
      ·exact⟨hs2,.inr ⟨_,_,_,_,_,rfl,hJ'.1,hJ'.2.1,hJ'.2.2.1,by have:=hJ'.2.2.2;omega⟩⟩
     |yield c'=>exact⟨hs2,hr⟩
    case post1 =>
     rintro c st' ⟨hs,hc⟩
     rcases hc with ⟨z,q,rfl,hg⟩ | ⟨out,na,nb,ac,bc,rfl,hJ⟩
     ·exact wpS_pure ⟨hs,z,_,rfl,hg⟩
     ·dsimp only;refine wpS_bind (wpS_lift (wpAny_rule ⟨rfl, ?_⟩))
      refine wpS_bind (wpS_mono (wpS_forRange (I:=λj c st'=>SameS st st'/\∃out na nb mg ac bc,c=(none,na,nb,out,mg,ac,bc)/\Jh ky a b (i+2+j) out na nb)
       (Q:=λc st'=>SameS st st'/\((∃z q,c=(some z,q)/\fQ ky a.toList b.toList z)\/∃out na nb mg ac bc,c=(none,na,nb,out,mg,ac,bc)/\Jh ky a b (i+2) out na nb)) ?step2 ?fin2 ⟨hs,_,_,_,_,_,_,rfl,hJ⟩) ?post2)
      case fin2 =>
       rintro c st' ⟨_,out,na,nb,mg,ac,bc,rfl,hJ⟩
       have:=full hJ
       omega
      case step2 =>
       rintro j c st' _ hj ⟨hs,out,na,nb,mg,ac,bc,rfl,hJ⟩
       unfold hiG;dsimp only;split
       all_goals
        refine wpS_mono (aAt hL m hfirst hs hk hJ) λr st2 hr=>?_
        obtain⟨hs2,hr⟩:=hr
        cases r with
        |done c' =>
         rcases hr with hr | ⟨out,na,nb,mg,ac,bc,rfl,hJ'⟩
         ·exact⟨hs2,.inl hr⟩
         ·exact⟨hs2,.inr ⟨_,_,_,_,_,_,rfl,hJ'.1,hJ'.2.1,hJ'.2.2.1,by have:=hJ'.2.2.2;omega⟩⟩
        |yield c'=>exact⟨hs2,hr⟩
      case post2 =>
       rintro c st' ⟨hs,hc⟩
       rcases hc with ⟨z,q,rfl,hg⟩ | ⟨out,na,nb,mg,ac,bc,rfl,hJ⟩
       ·exact wpS_pure ⟨hs,z,_,rfl,hg⟩
       ·dsimp only;exact wpS_bind (rV hs λst3 hs3=>wpS_pure ⟨hs3,_,_,_,_,rfl,hJ⟩)
end
abbrev T2:=Option (Option Nat)×Nat
noncomputable def yY(lo:Nat)(c:T2):StateT SortSt Sem (ForInStep T2):=do
 let r <- ltAt' (lo+c.2) (lo+c.2-1)
 match r with
 |some v=>if v=true then pure (.done (none,c.2)) else pure (.yield (none,c.2+1))
 |_=>pure (.done (some none,c.2))
noncomputable def S6(lo:Nat)(c:T3):StateT SortSt Sem (ForInStep T3):=do
 let r <- ltAt' (lo+c.2.1) (lo+c.2.1-1)
 match r with
 |some v =>
  if v=true then
   if c.2.2 > 0 then do
    reverseSlice' (lo+c.2.1-(c.2.2+1)) (lo+c.2.1)
    pure (.yield (none,c.2.1+1,0))
   else pure (.yield (none,c.2.1+1,0))
  else do
   let q <- ltAt' (lo+c.2.1-1) (lo+c.2.1)
   match q with
   |some u=>if u=true then pure (.done (none,c.2.1,c.2.2)) else pure (.yield (none,c.2.1+1,c.2.2+1))
   |_=>pure (.done (some none,c.2.1,c.2.2))
 |_=>pure (.done (some none,c.2.1,c.2.2))
noncomputable def sR(lo n nrem:Nat):StateT SortSt Sem (Option Nat):=do
 reverseSlice' lo (lo+n)
 let c <- forIn [n:nrem] ((none,n):T2) λ_=>yY lo
 match c.1 with
 |some r=>pure r
 |none=>pure (some c.2)
noncomputable def E3(lo n nrem:Nat):StateT SortSt Sem (Option Nat):=do
 liftM (rule "list.sort.descending-run")
 let c <- forIn [n+1:nrem] ((none,n+1,0):T3) λ_=>S6 lo
 match c.1 with
 |some r=>pure r
 |none =>
  if c.2.2 > 0 then do
   reverseSlice' (lo+c.2.1-(c.2.2+1)) (lo+c.2.1)
   sR lo c.2.1 nrem
  else sR lo c.2.1 nrem
def UL{lo n nrem:Nat}{f:Unit->T2->StateT SortSt Sem (Option Nat)}(h:∀u c,f u (none,c)=pure (some c))(h2:∀u r c,f u (some r,c)=pure r) :
  (reverseSlice' lo (lo+n)>>=λu=>(forIn [n:nrem] ((none,n):T2) λ_=>yY lo)>>=f u)=sR lo n nrem:=by
 unfold sR;refine congrArg _ (funext λu=>congrArg _ (funext λc=>?_));obtain⟨c1,c2⟩:=c;cases c1
 ·exact h u c2
 ·exact h2 u _ c2
theorem EO(lo nrem:Nat):countRun' lo nrem=(do
  let c <- forIn [1:nrem] ((none,1):T2) λ_=>yY lo
  match c.1 with
  |some r=>pure r
  |none =>
   if(c.2==nrem)=true then pure (some c.2)
   else if c.2 > 1 then do
    let r <- ltAt' lo (lo+c.2-1)
    match r with
    |some true=>pure (some c.2)
    |some false=>do
     reverseSlice' lo (lo+c.2)
     E3 lo c.2 nrem
    |none=>pure none
   else E3 lo c.2 nrem):=by
 show((forIn [1:nrem] ((none,1):T2) λ_=>yY lo)>>=_)=_;refine congrArg _ (funext λc=>?_);obtain⟨c1,n⟩:=c
 cases c1 with
 |some r=>rfl
 |none =>
  dsimp only
  have key:∀{f:Unit->T3->StateT SortSt Sem (Option Nat)},(∀u m q,f u (none,m,q)=if q > 0 then(reverseSlice' (lo+m-(q+1)) (lo+m)>>=λ_=>sR lo m nrem) else sR lo m nrem)->(∀u r c,f u (some r,c)=pure r) ->
    ((liftM (rule "list.sort.descending-run"):StateT SortSt Sem Unit)>>=λu=>(forIn [n+1:nrem] ((none,n+1,0):T3) λ_=>S6 lo)>>=f u)=E3 lo n nrem:=by
   intro f h1 h2;unfold E3;refine congrArg _ (funext λu=>congrArg _ (funext λc=>?_));obtain⟨c1,m,q⟩:=c;cases c1
   ·exact h1 u m q
   ·exact h2 u _ _
  have tail:∀{m q:Nat} {f:Unit->T2->StateT SortSt Sem (Option Nat)} {g:Unit->Unit->T2->StateT SortSt Sem (Option Nat)},(∀u c,f u (none,c)=pure (some c))->(∀u r c,f u (some r,c)=pure r)->(∀v u c,g v u (none,c)=pure (some c))->(∀v u r c,g v u (some r,c)=pure r) ->
    (if q > 0 then(reverseSlice' (lo+m-(q+1)) (lo+m)>>=λv=>(reverseSlice' lo (lo+m)>>=λu=>(forIn [m:nrem] ((none,m):T2) λ_=>yY lo)>>=g v u)) else(reverseSlice' lo (lo+m)>>=λu=>(forIn [m:nrem] ((none,m):T2) λ_=>yY lo)>>=f u)) =
    if q > 0 then(reverseSlice' (lo+m-(q+1)) (lo+m)>>=λ_=>sR lo m nrem) else sR lo m nrem:=by
   intro m q f g h1 h2 h3 h4;split
   ·exact congrArg _ (funext λv=>UL (h3 v) (h4 v))
   ·exact UL h1 h2
  refine congrArg _ ?_;split
  ·show(ltAt' lo (lo+n-1)>>=_)=_;refine congrArg _ (funext λr=>?_)
   cases r with
   |none=>rfl
   |some v =>
    cases v with
    |true=>rfl
    |false =>
     show(reverseSlice' lo (lo+n)>>=_)=_;refine congrArg _ (funext λ_=>?_);exact key (λu m q=>tail (λ_ _=>rfl) (λ_ _ _=>rfl) (λ_ _ _=>rfl) (λ_ _ _ _=>rfl)) (λ_ _ _=>rfl)
  ·exact key (λu m q=>tail (λ_ _=>rfl) (λ_ _ _=>rfl) (λ_ _ _=>rfl) (λ_ _ _ _=>rfl)) (λ_ _ _=>rfl)
section
variable{O:KeyOrd}{ky:Keyed->O.α}
noncomputable def KY(ky:Keyed->O.α)(xs:Array Keyed)(k:Nat):O.α:=ky ((xs[k]?).getD default)
def uP(h:xs[i]?=ys[j]?):KY ky xs i=KY ky ys j:=by unfold KY;rw[h]
def Up(ky:Keyed->O.α)(xs:Array Keyed)(lo n:Nat):Prop:=∀i j,i<=j->j<n->O.kle (KY ky xs (lo+i)) (KY ky xs (lo+j))
def Dw(ky:Keyed->O.α)(xs:Array Keyed)(lo n:Nat):Prop:=∀i j,i<=j->j<n->O.kle (KY ky xs (lo+j)) (KY ky xs (lo+i))
def DO(hj:j<=xs.size)(k:Nat):KY ky (mirror xs i j ((j-i) / 2)) k=if i<=k/\k<j then KY ky xs (i+j-1-k) else KY ky xs k:=by
 have e:=getElem?_mirror_all (i:=i) hj k;split
 ·rename_i c;rw[Zo c] at e;exact uP e
 ·rename_i c;rw[Zp c] at e;exact uP e
def lX(hj:j<=xs.size)(he:∀k,i<=k->k<j->KY ky xs k=KY ky xs (j-1))(k:Nat):KY ky (mirror xs i j ((j-i) / 2)) k=KY ky xs k:=by
 rw[DO hj];split
 ·rename_i c;rw[he _ (by omega) (by omega),he k (by omega) (by omega)]
 ·rfl
structure Fr(lo hi:Nat)(st0 st:SortSt):Prop where
 k:kindOf st=kindOf st0
 p:pendingOf st=pendingOf st0
 f:failedOf st=failedOf st0
 perm:(arrOf st).Perm (arrOf st0)
 out:∀i,i<lo\/hi<=i->(arrOf st)[i]?=(arrOf st0)[i]?
theorem Fr.refl{lo hi:Nat}(st:SortSt):Fr lo hi st st:=⟨rfl,rfl,rfl,Array.Perm.refl _,λ_ _=>rfl⟩
def Fr.sz{lo hi:Nat}{st0 st:SortSt}(h:Fr lo hi st0 st):(arrOf st).size=(arrOf st0).size:=h.perm.size_eq
def Fr.mir{lo hi i j:Nat}{st0 st:SortSt}(h:Fr lo hi st0 st)(hi':lo<=i)(hj:j<=hi)(hs:hi<=(arrOf st0).size):Fr lo hi st0 (setArr st (mirror (arrOf st) i j ((j-i) / 2))):=by
 refine⟨h.k,h.p,h.f,(mirror_perm _ _ _ _).trans h.perm,λq hq=>?_⟩;show(mirror (arrOf st) i j ((j-i) / 2))[q]?=_;rw[getElem?_mirror_all (by rw[h.sz];omega),Zp (by omega)];exact h.out q hq
end
section
variable{prog:Program}{w:World}{A:Around}{E:Value->Shared->Prop}{s:Shared}
variable{O:KeyOrd}{ky:Keyed->O.α}{kd:SortKind}{P:Keyed->Prop}{lo hi:Nat}{st0:SortSt}
variable(hL:m8 prog w A E s O ky kd P)(hk:kindOf st0=kd)(hP:∀x∈(arrOf st0).toList,P x)
include hL hk hP
theorem nM{st:SortSt}(hF:Fr lo hi st0 st)(hi':i<(arrOf st0).size)(hj:j<(arrOf st0).size)(h:Q (some (O.blt (KY ky (arrOf st) i) (KY ky (arrOf st) j))) st):wpS (model prog w) A E s (ltAt' i j) Q st:=by
 obtain⟨x,x1,x2,x3⟩:=cW (a:=arrOf st) (show i<(arrOf st).size by rw[hF.sz];exact hi');obtain⟨y,y1,y2,y3⟩:=cW (a:=arrOf st) (show j<(arrOf st).size by rw[hF.sz];exact hj);have mem:∀z∈(arrOf st).toList,P z:=λz hz=>hP z ((Array.perm_iff_toList_perm.mp hF.perm).mem_iff.mp hz)
 have e1:KY ky (arrOf st) i=ky x:=by unfold KY;rw[x1];rfl
 have e2:KY ky (arrOf st) j=ky y:=by unfold KY;rw[y1];rfl
 rw[e1,e2] at h;rw[ltAt'_eq];refine wpS_bind (wpS_get ?_);exact wpS_bind (bW x1 (wpS_bind (bW y1 (hL st x y Q (hF.k.trans hk) (mem x x3) (mem y y3) h))))
variable(hsz:hi<=(arrOf st0).size)
include hsz
omit hsz in
theorem Up.grow(hu:Up ky xs lo n)(h:O.kle (KY ky xs (lo+n-1)) (KY ky xs (lo+n)))(hn:1<=n):Up ky xs lo (n+1):=by
 intro i j hij hj;by_cases e:j<n
 ·exact hu i j hij e
 ·obtain rfl:j=n:=by omega
  by_cases e2:i=j
  ·rw[e2];exact KeyOrd.kle_refl _
  ·refine KeyOrd.kle_trans (hu i (j-1) (by omega) (by omega)) ?_;rw[show lo+(j-1)=lo+j-1 by omega];exact h
theorem L8{st:SortSt}(hF:Fr lo hi st0 st)(hr:lo+nrem=hi)(h1:1<=n)(h2:n<=nrem)(hu:Up ky (arrOf st) lo n)
  (h:∀m,n<=m->m<=nrem->Up ky (arrOf st) lo m->(m=nrem\/O.klt (KY ky (arrOf st) (lo+m)) (KY ky (arrOf st) (lo+m-1)))->Q (none,m) st) :
  wpS (model prog w) A E s (forIn [n:nrem] ((none,n):T2) λ_=>yY lo) Q st:=by
 refine wpS_forRange (I:=λx c st'=>st'=st/\c=(none,x)/\Up ky (arrOf st) lo x) ?step ?fin ⟨rfl,rfl,hu⟩
 case fin =>
  rintro c st' ⟨rfl,rfl,hu'⟩
  rw[Nat.max_eq_right h2] at hu' ⊢;exact h nrem h2 (Zq _) hu' (.inl rfl)
 case step =>
  rintro x c st' hx1 hx2 ⟨rfl,rfl,hu'⟩
  unfold yY;dsimp only;refine wpS_bind (nM hL hk hP hF (by omega) (by omega) ?_)
  cases hb:O.blt (KY ky (arrOf st') (lo+x)) (KY ky (arrOf st') (lo+x-1)) with
  |true=>exact wpS_pure (h x hx1 (by omega) hu' (.inr hb))
  |false=>exact wpS_pure ⟨rfl,rfl,Up.grow hL hk hP hu' hb (by omega)⟩
theorem UR{st:SortSt}(hF:Fr lo hi st0 st)(hr:lo+nrem=hi)(h1:1<=n)(h2:n<=nrem)(hd:Dw ky (arrOf st) lo n)
  (h:∀m st',Fr lo hi st0 st'->1<=m->m<=nrem->Up ky (arrOf st') lo m->Q (some m) st'):wpS (model prog w) A E s (sR lo n nrem) Q st:=by
 unfold sR;refine wpS_bind (wpS_reverse ?_);have hF':=hF.mir (i:=lo) (j:=lo+n) (Zq _) (by omega) hsz;refine wpS_bind (L8 hL hk hP hsz hF' hr h1 h2 ?_ λm m1 m2 m3 _=>wpS_pure (h m _ hF' (by omega) m2 m3));intro i j hij hj;show O.kle (KY ky (mirror (arrOf st) lo (lo+n) _) (lo+i)) (KY ky (mirror (arrOf st) lo (lo+n) _) (lo+j));have hz:lo+n<=(arrOf st).size:=by rw[hF.sz];omega
 rw[DO hz,DO hz,Zo (by omega),Zo (by omega),show lo+(lo+n)-1-(lo+i)=lo+(n-1-i) by omega,show lo+(lo+n)-1-(lo+j)=lo+(n-1-j) by omega];exact hd _ _ (by omega) (by omega)
theorem X6{st:SortSt}(hF:Fr lo hi st0 st)(hr:lo+nrem=hi)(h1:1<=n)(h2:n<=nrem)(hd:Dw ky (arrOf st) lo n)
  (h:∀m q st',Fr lo hi st0 st'->n<=m->m<=nrem->Dw ky (arrOf st') lo m->q+1<=m->(∀k,lo+m-(q+1)<=k->k<lo+m->KY ky (arrOf st') k=KY ky (arrOf st') (lo+m-1))->Q (none,m,q) st') :
  wpS (model prog w) A E s (forIn [n:nrem] ((none,n,0):T3) λ_=>S6 lo) Q st:=by
 refine wpS_forRange (I:=λx c st'=>∃q,c=(none,x,q)/\Fr lo hi st0 st'/\Dw ky (arrOf st') lo x/\q+1<=x/\∀k,lo+x-(q+1)<=k->k<lo+x->KY ky (arrOf st') k=KY ky (arrOf st') (lo+x-1)) ?step ?fin
  ⟨0,rfl,hF,hd,by omega,λk k1 k2=>by rw[show k=lo+n-1 by omega]⟩
 case fin =>
  rintro c st' ⟨q,rfl,hF',hd',hq,he⟩
  rw[Nat.max_eq_right h2] at hd' hq he ⊢;exact h nrem q st' hF' h2 (Zq _) hd' hq he
 case step =>
  rintro x c st' hx1 hx2 ⟨q,rfl,hF',hd',hq,he⟩
  unfold S6;dsimp only;have hz:lo+x<=(arrOf st').size:=by rw[hF'.sz];omega
  refine wpS_bind (nM hL hk hP hF' (by omega) (by omega) ?_)
  cases hb:O.blt (KY ky (arrOf st') (lo+x)) (KY ky (arrOf st') (lo+x-1)) with
  |true =>
   have step:∀xs:Array Keyed,(∀k,KY ky xs k=KY ky (arrOf st') k)->Dw ky xs lo (x+1):=λxs hxs i j hij hj=>by
    rw[hxs,hxs];by_cases e:j<x
    ·exact hd' i j hij e
    ·obtain rfl:j=x:=by omega
     by_cases e2:i=j
     ·rw[e2];exact KeyOrd.kle_refl _
     ·refine KeyOrd.kle_trans (KeyOrd.kle_of_klt hb) ?_;rw[show lo+j-1=lo+(j-1) by omega];exact hd' i (j-1) (by omega) (by omega)
   have one:∀xs:Array Keyed,∀k,lo+(x+1)-(0+1)<=k->k<lo+(x+1)->KY ky xs k=KY ky xs (lo+(x+1)-1):=λxs k k1 k2=>by rw[show k=lo+(x+1)-1 by omega]
   dsimp only;rw[Zo rfl];by_cases hq0:q > 0
   ·rw[Zo hq0];refine wpS_bind (wpS_reverse (wpS_pure ⟨0,rfl,hF'.mir (by omega) (by omega) hsz,step _ (lX hz he),by omega,one _⟩))
   ·rw[Zp hq0];exact wpS_pure ⟨0,rfl,hF',step _ λ_=>rfl,by omega,one _⟩
  |false =>
   dsimp only;rw[Zp (by simp)];refine wpS_bind (nM hL hk hP hF' (by omega) (by omega) ?_)
   cases hb2:O.blt (KY ky (arrOf st') (lo+x-1)) (KY ky (arrOf st') (lo+x)) with
   |true=>exact wpS_pure (h x q st' hF' hx1 (by omega) hd' hq he)
   |false =>
    have ee:KY ky (arrOf st') (lo+x)=KY ky (arrOf st') (lo+x-1):=KeyOrd.kle_antisymm hb2 hb;refine wpS_pure ⟨q+1,rfl,hF',λi j hij hj=>?_,by omega,λk k1 k2=>?_⟩
    ·by_cases e:j<x
     ·exact hd' i j hij e
     ·obtain rfl:j=x:=by omega
      by_cases e2:i=j
      ·rw[e2];exact KeyOrd.kle_refl _
      ·rw[ee,show lo+j-1=lo+(j-1) by omega];exact hd' i (j-1) (by omega) (by omega)
    ·rw[show lo+(x+1)-1=lo+x by omega,ee];by_cases e:k=lo+x
     ·rw[e,ee]
     ·exact he k (by omega) (by omega)
theorem UH{st:SortSt}(hF:Fr lo hi st0 st)(hr:lo+nrem=hi)(h2:n+1<=nrem)(hd:Dw ky (arrOf st) lo (n+1))
  (h:∀m st',Fr lo hi st0 st'->1<=m->m<=nrem->Up ky (arrOf st') lo m->Q (some m) st'):wpS (model prog w) A E s (E3 lo n nrem) Q st:=by
 unfold E3;refine wpS_bind (wpS_lift (wpAny_rule ⟨rfl, ?_⟩));refine wpS_bind (X6 hL hk hP hsz hF hr (by omega) h2 hd λm q st' hF' m1 m2 m3 m4 m5=>?_);dsimp only;have hz:lo+m<=(arrOf st').size:=by rw[hF'.sz];omega
 split
 ·refine wpS_bind (wpS_reverse (UR hL hk hP hsz (hF'.mir (by omega) (by omega) hsz) hr (by omega) m2 ?_ h));intro i j hij hj;show O.kle (KY ky (mirror (arrOf st') _ _ _) _) (KY ky (mirror (arrOf st') _ _ _) _);rw[lX hz m5,lX hz m5];exact m3 i j hij hj
 ·exact UR hL hk hP hsz hF' hr (by omega) m2 m3 h
theorem D8{st:SortSt}(hF:Fr lo hi st0 st)(hr:lo+nrem=hi)(h1:1<=nrem)
  (h:∀m st',Fr lo hi st0 st'->1<=m->m<=nrem->Up ky (arrOf st') lo m->Q (some m) st'):wpS (model prog w) A E s (countRun' lo nrem) Q st:=by
 rw[EO];refine wpS_bind (L8 hL hk hP hsz hF hr (Zq 1) h1 (λi j hij hj=>by rw[show i=j by omega];exact KeyOrd.kle_refl _) λn n1 n2 hu hor=>?_);dsimp only;by_cases e:(n==nrem)=true
 ·rw[Zo e];exact wpS_pure (h n st hF n1 n2 hu)
 ·rw[Zp e];have e':=cI e;have hlt:=hor.resolve_left e';by_cases e2:n > 1
  ·rw[Zo e2];refine wpS_bind (nM hL hk hP hF (by omega) (by omega) ?_)
   cases hb:O.blt (KY ky (arrOf st) lo) (KY ky (arrOf st) (lo+n-1)) with
   |true=>exact wpS_pure (h n st hF n1 n2 hu)
   |false =>
    dsimp only;have hz:lo+n<=(arrOf st).size:=by rw[hF.sz];omega
    have hall:∀k,lo<=k->k<lo+n->KY ky (arrOf st) k=KY ky (arrOf st) (lo+n-1):=λk k1 k2=>by(have a1:=hu 0 (k-lo) (by omega) (by omega);have a2:=hu (k-lo) (n-1) (by omega) (by omega);rw[show lo+(k-lo)=k by omega] at a1 a2;rw[show lo+(n-1)=lo+n-1 by omega] at a2;exact KeyOrd.kle_antisymm a2 (KeyOrd.kle_trans hb a1))
    refine wpS_bind (wpS_reverse (UH hL hk hP hsz (hF.mir (Zq _) (by omega) hsz) hr (by omega) ?_ h));intro i j hij hj;show O.kle (KY ky (mirror (arrOf st) _ _ _) _) (KY ky (mirror (arrOf st) _ _ _) _);rw[lX hz hall,lX hz hall];by_cases ej:j<n
    ·rw[hall (lo+i) (by omega) (by omega),hall (lo+j) (by omega) (by omega)];exact KeyOrd.kle_refl _
    ·obtain rfl:j=n:=by omega
     by_cases ei:i=j
     ·rw[ei];exact KeyOrd.kle_refl _
     ·rw[hall (lo+i) (by omega) (by omega)];exact KeyOrd.kle_of_klt hlt
  ·rw[Zp e2];obtain rfl:n=1:=by omega
   refine UH hL hk hP hsz hF hr (by omega) (λi j hij hj=>?_) h;by_cases ei:i=j
   ·rw[ei];exact KeyOrd.kle_refl _
   ·obtain rfl:i=0:=by omega
    obtain rfl:j=1:=by omega
    exact KeyOrd.kle_of_klt hlt
end
section
variable{O:KeyOrd}{ky:Keyed->O.α}
def aDA(hs:src<xs.size)(hd:d<=src)(k:Nat) :
  KY ky (bubble xs src d) k=if k=src-d then KY ky xs src else if src-d<k/\k<=src then KY ky xs (k-1) else KY ky xs k:=by
 have e:=getElem?_bubble hs d hd k;split
 ·rename_i c;rw[Zo c] at e;exact uP e
 ·rename_i c;rw[Zp c] at e;split
  ·rename_i c2;rw[Zo c2] at e;exact uP e
  ·rename_i c2;rw[Zp c2] at e;exact uP e
def EW{lo k l:Nat}(hz:lo+k<xs.size)(b1:l<=k)(i:Nat):KY ky (bubble xs (lo+k) (lo+k-(lo+l))) (lo+i)=if i=l then KY ky xs (lo+k) else if l<i/\i<=k then KY ky xs (lo+(i-1)) else KY ky xs (lo+i):=by
 rw[Nat.add_sub_add_left,aDA hz (Zr (Nat.sub_le k l) (Nat.le_add_left k lo))];have e:lo+k-(k-l)=lo+l:=by omega
 rw[e];by_cases h1:i=l
 ·subst h1;rw[Zo rfl,Zo rfl]
 ·rw[Zp (λz=>h1 (Nat.add_left_cancel z)),Zp h1];by_cases h2:l<i/\i<=k
  ·rw[Zo ⟨Nat.add_lt_add_left h2.1 lo,Nat.add_le_add_left h2.2 lo⟩,Zo h2,Nat.add_sub_assoc (Nat.lt_of_le_of_lt (Nat.zero_le _) h2.1)]
  ·rw[Zp (λz=>h2 ⟨Nat.lt_of_add_lt_add_left z.1,Nat.le_of_add_le_add_left z.2⟩),Zp h2]
def xB(h:l<j)(hj:j<k+1):j-1<k:=Zl (Nat.sub_lt (Nat.lt_of_le_of_lt (Nat.zero_le _) h) Nat.one_pos) (Nat.le_of_lt_succ hj)
def aCI{lo k l:Nat}(hz:lo+k<xs.size)(b1:l<=k)(f2:Up ky xs lo k)(b2:∀i,i<l->O.kle (KY ky xs (lo+i)) (KY ky xs (lo+k)))(b3:∀i,l<=i->i<k->O.klt (KY ky xs (lo+k)) (KY ky xs (lo+i))):Up ky (bubble xs (lo+k) (lo+k-(lo+l))) lo (k+1):=by
 intro i j hij hj;rw[EW hz b1,EW hz b1];rcases Nat.lt_trichotomy i l with h | rfl | h
 ·rw[Zp (Zz h),Zp (λz=>Nat.lt_asymm h z.1)];rcases Nat.lt_trichotomy j l with g | rfl | g
  ·rw[Zp (Zz g),Zp (λz=>Nat.lt_asymm g z.1)];exact f2 i j hij (Zl g b1)
  ·rw[Zo rfl];exact b2 i h
  ·rw[Zp (Nat.ne_of_gt g),Zo ⟨g,Nat.le_of_lt_succ hj⟩];exact f2 i (j-1) (Nat.le_sub_one_of_lt (Nat.lt_trans h g)) (xB g hj)
 ·rw[Zo rfl];rcases Nat.eq_or_lt_of_le hij with rfl | g
  ·rw[Zo rfl];exact KeyOrd.kle_refl _
  ·rw[Zp (Nat.ne_of_gt g),Zo ⟨g,Nat.le_of_lt_succ hj⟩];exact KeyOrd.kle_of_klt (b3 _ (Nat.le_sub_one_of_lt g) (xB g hj))
 ·have g:l<j:=Zl h hij;rw[Zp (Nat.ne_of_gt h),Zo ⟨h,Zr hij (Nat.le_of_lt_succ hj)⟩,Zp (Nat.ne_of_gt g),Zo ⟨g,Nat.le_of_lt_succ hj⟩];exact f2 (i-1) (j-1) (Nat.sub_le_sub_right hij 1) (xB g hj)
def Fr.bub{lo hi src d:Nat}{st0 st:SortSt}(h:Fr lo hi st0 st)(h1:lo<=src-d)(h2:src<hi)(hd:d<=src)(hs:hi<=(arrOf st0).size):Fr lo hi st0 (setArr st (bubble (arrOf st) src d)):=by
 refine⟨h.k,h.p,h.f,(bubble_perm _ _ _).trans h.perm,λq hq=>?_⟩;show(bubble (arrOf st) src d)[q]?=_;rw[getElem?_bubble (by rw[h.sz];omega) d hd,Zp (by omega),Zp (by omega)];exact h.out q hq
end
section
variable{prog:Program}{w:World}{A:Around}{E:Value->Shared->Prop}{s:Shared}
variable{O:KeyOrd}{ky:Keyed->O.α}{kd:SortKind}{P:Keyed->Prop}{lo hi:Nat}{st0:SortSt}
variable(hL:m8 prog w A E s O ky kd P)(hk:kindOf st0=kd)(hP:∀x∈(arrOf st0).toList,P x)(hsz:hi<=(arrOf st0).size)
include hL hk hP hsz
theorem NJ{st:SortSt}(hF:Fr lo hi st0 st)(hn:lo+n<=hi)(hok:ok<=n)(hu:Up ky (arrOf st) lo ok)
  (h:∀st',Fr lo hi st0 st'->Up ky (arrOf st') lo n->Q true st'):wpS (model prog w) A E s (binarySort' lo n ok) Q st:=by
 rw[binarySort'_eq];refine wpS_bind (wpS_mono (wpS_forRange (I:=λk c st'=>c=(none,())/\Fr lo hi st0 st'/\Up ky (arrOf st') lo (min k n)) (Q:=λc st'=>c=(none,())/\Fr lo hi st0 st'/\Up ky (arrOf st') lo n) ?turn ?last ?b8) ?behind)
 case behind =>
  rintro c st' ⟨rfl,f1,f2⟩
  exact wpS_pure (h st' f1 f2)
 case b8 =>
  refine⟨rfl,hF,λi j hij hj=>?_⟩;by_cases e:ok=0
  ·rw[show i=j by omega];exact KeyOrd.kle_refl _
  ·exact hu i j hij (by omega)
 case last =>
  rintro c st' ⟨rfl,f1,f2⟩
  rw[show min (max (max ok 1) n) n=n by omega] at f2;exact⟨rfl,f1,f2⟩
 case turn =>
  rintro k c st' k1 k2 ⟨rfl,f1,f2⟩
  rw[Nat.min_eq_left (by omega)] at f2
  refine wpS_bind (wpS_mono (wpS_forRange (I:=λx c u=>u=st'/\∃l r,c=(none,l,r)/\l<=r/\r<=k/\r-l<=k-x/\(∀i,i<l->O.kle (KY ky (arrOf st') (lo+i)) (KY ky (arrOf st') (lo+k)))/\∀i,r<=i->i<k->O.klt (KY ky (arrOf st') (lo+k)) (KY ky (arrOf st') (lo+i)))
   (Q:=λc u=>u=st'/\∃l r,c=(none,l,r)/\l<=k/\(∀i,i<l->O.kle (KY ky (arrOf st') (lo+i)) (KY ky (arrOf st') (lo+k)))/\∀i,l<=i->i<k->O.klt (KY ky (arrOf st') (lo+k)) (KY ky (arrOf st') (lo+i))) ?turn2 ?last2 ?start2) ?behind2)
  case start2=>exact⟨rfl,0,k,rfl,Nat.zero_le _,Zq _,Zq _,λi hi=>by omega,λi a b=>by omega⟩
  case last2 =>
   rintro c u ⟨rfl,l,r,rfl,a1,a2,a3,a4,a5⟩
   obtain rfl:l=r:=by omega
   exact⟨rfl,l,l,rfl,a2,a4,a5⟩
  case turn2 =>
   rintro x c u _ hx ⟨rfl,l,r,rfl,a1,a2,a3,a4,a5⟩
   dsimp only;by_cases e:l >= r
   ·rw[Zo e];obtain rfl:l=r:=by omega
    exact wpS_pure ⟨rfl,l,l,rfl,a2,a4,a5⟩
   ·rw[Zp e];refine wpS_bind (nM hL hk hP f1 (by omega) (by omega) ?_)
    cases hb:O.blt (KY ky (arrOf u) (lo+k)) (KY ky (arrOf u) (lo+(l+r) / 2)) with
    |true =>
     dsimp only;rw[Zo rfl];exact wpS_pure ⟨rfl,l,(l+r) / 2,rfl,by omega,by omega,by omega,a4,λi b1 b2=>KeyOrd.klt_of_klt_of_kle hb (f2 _ _ b1 b2)⟩
    |false =>
     dsimp only;rw[Zp (by simp)];exact wpS_pure ⟨rfl,(l+r) / 2+1,r,rfl,by omega,a2,by omega,λi b1=>KeyOrd.kle_trans (f2 i ((l+r) / 2) (by omega) (by omega)) hb,a5⟩
  case behind2 =>
   rintro c u ⟨rfl,l,r,rfl,b1,b2,b3⟩
   show wpS _ _ _ _ (moveDown' (lo+k) (lo+l)>>=λ_=>pure (ForInStep.yield (none,()))) _ _;rw[moveDown'_eq];refine wpS_bind (wpS_modify (wpS_pure ⟨rfl, ?_, ?_⟩))
   ·clear b2 b3 f2;exact f1.bub (by omega) (by omega) (by omega) hsz
   ·rw[show min (k+1) n=k+1 by clear b2 b3 b1 hok hn hsz f1 f2 hF hu;omega];exact aCI (by rw[f1.sz];clear b1 b2 b3 f2 hok;omega) b1 f2 b2 b3
end
noncomputable def lay(arr:Array Keyed)(off:Nat)(l:List Keyed):Array Keyed:=l.zipIdx.foldl (λa p=>a.setIfInBounds (off+p.2) p.1) arr
noncomputable def S2(sa:Nat)(z:Array Keyed):StateT SortSt Sem Bool:=do
 modify λs=>setArr s (lay (arrOf s) sa z.toList)
 let s <- get
 pure (failedOf s).isNone
noncomputable def UG(arr:Array Keyed)(sa na sb nb:Nat):StateT SortSt Sem Bool:=do
 let y <- elem' arr sb
 let r <- hE false y arr sa na 0
 match r with
 |some k =>
  if(na-k==0)=true then pure true
  else do
   let x <- elem' arr (sa+k+(na-k)-1)
   let r <- hE true x arr sb nb (nb-1)
   match r with
   |some m =>
    if(m==0)=true then pure true
    else if na-k<=m then do
     let z <- tD (arr.extract (sa+k) sb) (arr.extract sb (sb+m))
     S2 (sa+k) z
    else do
     let z <- tZ (arr.extract (sa+k) sb) (arr.extract sb (sb+m))
     S2 (sa+k) z
   |none=>pure false
 |none=>pure false
section
variable{prog:Program}{w:World}{A:Around}{E:Value->Shared->Prop}{s:Shared}
def DX{st:SortSt}{i sa na pw sb nb q:Nat}{Q:Bool->SortSt->Prop}(h1:(pendingOf st)[i]?=some (sa,na,pw))(h2:(pendingOf st)[i+1]?=some (sb,nb,q))
  (h:wpS (model prog w) A E s (UG (arrOf st) sa na sb nb) Q (setPending st (((pendingOf st).setIfInBounds i (sa,na+nb,pw)).eraseIdxIfInBounds (i+1)))):wpS (model prog w) A E s (mergeAt' i) Q st:=by
 show wpS (model prog w) A E s ((get:StateT SortSt Sem SortSt)>>=_) Q st;refine wpS_bind (wpS_get ?_);dsimp only;rw[h1,h2];dsimp only;unfold wpS at h ⊢;have e:∀{m m':StateT SortSt Sem Bool},m=m'->∀u:SortSt,m.run u=m'.run u:=λh u=>by rw[h]
 refine cast (congrArg (λx:Sem (Bool×SortSt)=>wpAny (model prog w) A x (λr s'=>s'=s/\Q r.1 r.2) E s) ?_) h;show _=(StateT.run (set _>>=_) st);rw[StateT.run_bind,StateT.run_set,pure_bind];refine e ?_ _;unfold UG;refine congrArg _ (funext λy=>congrArg _ (funext λr=>?_))
 cases r with
 |none=>rfl
 |some k =>
  dsimp only;refine congrArg _ ?_;refine congrArg _ (funext λx=>congrArg _ (funext λr=>?_))
  cases r with
  |none=>rfl
  |some m =>
   dsimp only;refine congrArg _ ?_;split
   ·rfl
   ·rfl
end
theorem ME:∀(l:List Keyed) (n:Nat) (arr:Array Keyed) (off:Nat),((l.zipIdx n).foldl (λa p=>a.setIfInBounds (off+p.2) p.1) arr).size=arr.size /\
  (off+n+l.length<=arr.size->∀k:Nat,((l.zipIdx n).foldl (λa p=>a.setIfInBounds (off+p.2) p.1) arr)[k]?=if off+n<=k/\k<off+n+l.length then l[k-(off+n)]? else arr[k]?)
 |[],n,arr,off=>⟨rfl,λ_ k=>by rw[Zp (by rw[List.length_nil];omega)];rfl⟩
 |x::l,n,arr,off=>by
  have ih:=ME l (n+1) (arr.setIfInBounds (off+n) x) off;refine⟨ih.1.trans (by simp),λhz k=>?_⟩;rw[Zk] at hz;have h2:=ih.2 (by simp;omega) k;show((l.zipIdx (n+1)).foldl _ (arr.setIfInBounds (off+n) x))[k]?=_;rw[h2,Zk];by_cases c:off+(n+1)<=k/\k<off+(n+1)+l.length
  ·rw[Zo c,Zo (by omega),show k-(off+n)=(k-(off+(n+1)))+1 by omega,zr]
  ·rw[Zp c];by_cases e:k=off+n
   ·subst e;rw[Zo (by omega),Nat.sub_self,zt,Array.getElem?_setIfInBounds,Zo rfl,Zo (by omega)]
   ·rw[Zp (by omega),Array.getElem?_setIfInBounds,Zp (by omega)]
def RK(h:off+l.length<=arr.size):(lay arr off l).toList=arr.toList.take off++(l++arr.toList.drop (off+l.length)):=by
 have e:=(ME l 0 arr off).2 (by omega);have h1:arr.toList.length=arr.size:=Array.length_toList;refine List.ext_getElem? λk=>?_
 rw[Array.getElem?_toList];show((l.zipIdx 0).foldl _ arr)[k]?=_;rw[e k,Nat.add_zero];by_cases c1:k<off
 ·rw[Zp (by omega),List.getElem?_append_left (by rw[List.length_take];omega),List.getElem?_take,Zo c1,Array.getElem?_toList]
 ·rw[List.getElem?_append_right (by rw[List.length_take];omega),List.length_take,Nat.min_eq_left (by omega)];by_cases c2:k<off+l.length
  ·rw[Zo (by omega),List.getElem?_append_left (by omega)]
  ·rw[Zp (by omega),List.getElem?_append_right (by omega),List.getElem?_drop,Array.getElem?_toList];congr 1;omega
noncomputable def bG(l:List Keyed)(s n:Nat):List Keyed:=(l.drop s).take n
def eB(l:List Keyed)(s a b:Nat):bG l s (a+b)=bG l s a++bG l (s+a) b:=by
 unfold bG;rw[List.take_add,List.drop_drop]
def vL(l:List Keyed)(s n:Nat):l=l.take s++(bG l s n++l.drop (s+n)):=by
 unfold bG;rw[<- List.drop_drop,List.take_append_drop,List.take_append_drop]
section
variable{O:KeyOrd}{ky:Keyed->O.α}
def jA{a:Array Keyed}(h:x∈bG a.toList s n):∃j,j<n/\a[s+j]?=some x:=xR h
def vM{a:Array Keyed}(h:cU ky (bG a.toList s n))(hij:i<j)(hj:j<n)(hx:a[s+i]?=some x)(hy:a[s+j]?=some y):le ky x y:=by
 have e1:(bG a.toList s n)[i]?=some x:=by unfold bG;rw[List.getElem?_take,Zo (by omega),List.getElem?_drop,Array.getElem?_toList];exact hx
 have e2:(bG a.toList s n)[j]?=some y:=by unfold bG;rw[List.getElem?_take,Zo hj,List.getElem?_drop,Array.getElem?_toList];exact hy
 obtain⟨h1,rfl⟩:=Zc.mp e1;obtain⟨h2,rfl⟩:=Zc.mp e2;exact List.pairwise_iff_getElem.mp h i j h1 h2 hij
def FZ{a:Array Keyed}:(a.extract i j).toList=bG a.toList i (j-i):=n8
end
section
variable{prog:Program}{w:World}{A:Around}{E:Value->Shared->Prop}{s:Shared}
variable{O:KeyOrd}{ky:Keyed->O.α}{kd:SortKind}{P:Keyed->Prop}
structure Mg(ky:Keyed->O.α)(l l':List Keyed)(s n:Nat):Prop where
 ex:∃M,l'=l.take s++(M++l.drop (s+n))/\M.Perm (bG l s n)/\cU ky M
def aCm{st:SortSt}(hL:m8 prog w A E s O ky kd P)(hk:kindOf st=kd)(ha:arrOf st=arr)(hf:failedOf st=none)(hP:∀x∈arr.toList,P x)
  (h1:1<=na) (h2:1<=nb) (hz:sa+na+nb<=arr.size) (s1:cU ky (bG arr.toList sa na)) (s2:cU ky (bG arr.toList (sa+na) nb))
  (h:∀st',kindOf st'=kd->pendingOf st'=pendingOf st->failedOf st'=none->Mg ky arr.toList (arrOf st').toList sa (na+nb)->Q true st'):wpS (model prog w) A E s (UG arr sa na (sa+na) nb) Q st:=by
 obtain⟨y,y1,y2,y3⟩:=cW (a:=arr) (show sa+na<arr.size by omega);have same:cU ky (bG arr.toList sa (na+nb))->Q true st:=λhs=>h st hk rfl hf ⟨_,by rw[ha];exact vL _ _ _,List.Perm.refl _,hs⟩
 have all:∀x∈bG arr.toList sa na,P x:=λx hx=>hP x (List.mem_of_mem_drop (List.mem_of_mem_take hx))
 have hB:∀z∈bG arr.toList (sa+na) nb,le ky y z:=λz hz'=>by
  obtain⟨j,j1,j2⟩:=jA hz';by_cases e:j=0
  ·subst e;rw[Nat.add_zero,y1] at j2;cases j2;exact le_refl _
  ·exact vM s2 (i:=0) (by omega) j1 y1 j2
 unfold UG;refine wpS_bind (bW y1 (wpS_bind (nI hL hk (by omega) (by omega) (λi x hi hx=>hP x (i5 hx)) (hP y y3) (λi j u v hij hj hu hv=>vM s1 hij hj hu hv) λk k1 k2 k3=>?_)));dsimp only;have k2:∀i z,i<k->arr[sa+i]?=some z->le ky z y:=λi z hi hz=>by simpa using k2 i z hi hz
 have k3:∀i z,k<=i->i<na->arr[sa+i]?=some z->le ky y z:=λi z hi hn hz=>le_of_lt (by simpa using k3 i z hi hn hz)
 by_cases e1:(na-k==0)=true
 ·rw[Zo e1];refine wpS_pure (same ?_);have e1:na-k=0:=by simpa using e1
  rw[eB];refine List.pairwise_append.mpr ⟨s1,s2,λu hu v hv=>?_⟩;obtain⟨j,j1,j2⟩:=jA hu;exact le_trans (k2 j u (by omega) j2) (hB v hv)
 ·rw[Zp e1];have e1':=cI e1;rw[show sa+k+(na-k)=sa+na from by rw[Nat.add_assoc,Nat.add_sub_of_le k1]];obtain⟨x,x1,x2,x3⟩:=cW (a:=arr) (show sa+na-1<arr.size by omega)
  have hA:∀u∈bG arr.toList sa na,le ky u x:=λu hu=>by
   obtain⟨j,j1,j2⟩:=jA hu;by_cases e:j=na-1
   ·subst e;rw[show sa+(na-1)=sa+na-1 by omega,x1] at j2;cases j2;exact le_refl _
   ·exact vM s1 (i:=j) (j:=na-1) (by omega) (by omega) j2 (by rw[show sa+(na-1)=sa+na-1 by omega];exact x1)
  refine wpS_bind (bW x1 (wpS_bind (nI hL hk (by omega) (by omega) (λi x hi hx=>hP x (i5 hx)) (hP x x3) (λi j u v hij hj hu hv=>vM s2 hij hj hu hv) λm m1 m2 m3=>?_)));dsimp only;have m2:∀i z,i<m->arr[sa+na+i]?=some z->le ky z x:=λi z hi hz=>le_of_lt (by simpa using m2 i z hi hz)
  have m3:∀i z,m<=i->i<nb->arr[sa+na+i]?=some z->le ky x z:=λi z hi hn hz=>by simpa using m3 i z hi hn hz
  by_cases e2:(m==0)=true
  ·rw[Zo e2];refine wpS_pure (same ?_);have e2:m=0:=by simpa using e2
   rw[eB];refine List.pairwise_append.mpr ⟨s1,s2,λu hu v hv=>?_⟩;obtain⟨j,j1,j2⟩:=jA hv;exact le_trans (hA u hu) (m3 j v (by omega) j1 j2)
  ·rw[Zp e2];have e2':=cI e2;have eX:(arr.extract (sa+k) (sa+na)).toList=bG arr.toList (sa+k) (na-k):=by rw[FZ,Nat.add_sub_add_left]
   have eY:(arr.extract (sa+na) (sa+na+m)).toList=bG arr.toList (sa+na) m:=by rw[FZ,Nat.add_sub_cancel_left]
   have sA:=s1;rw[<- Nat.add_sub_of_le k1,eB] at sA;obtain⟨t1,t2,t3⟩:=List.pairwise_append.mp sA;have sB:=s2;rw[<- Nat.add_sub_of_le m1,eB] at sB;obtain⟨u1,u2,u3⟩:=List.pairwise_append.mp sB
   have FL:∀t v,(arr.extract (sa+k) (sa+na))[t]?=some v->t<na-k/\arr[sa+k+t]?=some v:=λt v hv=>by
    have e:bG arr.toList (sa+k) (na-k)=_:=eX.symm;rw[<- Array.getElem?_toList,eX] at hv;unfold bG at hv;rw[List.getElem?_take] at hv;split at hv
    ·rw[List.getElem?_drop,Array.getElem?_toList] at hv;exact⟨‹_›,hv⟩
    ·cases hv
   have atY:∀t v,(arr.extract (sa+na) (sa+na+m))[t]?=some v->t<m/\arr[sa+na+t]?=some v:=λt v hv=>by
    rw[<- Array.getElem?_toList,eY] at hv;unfold bG at hv;rw[List.getElem?_take] at hv;split at hv
    ·rw[List.getElem?_drop,Array.getElem?_toList] at hv;exact⟨‹_›,hv⟩
    ·cases hv
   have zX:(arr.extract (sa+k) (sa+na)).size=na-k:=by rw[Array.size_extract];omega
   have zY:(arr.extract (sa+na) (sa+na+m)).size=m:=by rw[Array.size_extract];omega
   have hM:ML ky P (arr.extract (sa+k) (sa+na)) (arr.extract (sa+na) (sa+na+m)):=⟨by rw[eX];exact t2,by rw[eY];exact u1,λz hz'=>by
     rw[eX] at hz';exact hP z (List.mem_of_mem_drop (List.mem_of_mem_take hz')),λz hz'=>by
     rw[eY] at hz';exact hP z (List.mem_of_mem_drop (List.mem_of_mem_take hz'))⟩
   have lastY:∀v∈(arr.extract (sa+na) (sa+na+m)).toList,le ky v x:=λv hv=>by(rw[eY] at hv;obtain⟨j,j1,j2⟩:=jA hv;exact m2 j v j1 j2)
   have hlast:∀v∈(arr.extract (sa+na) (sa+na+m)).toList,∀i x',i+1=(arr.extract (sa+k) (sa+na)).size->(arr.extract (sa+k) (sa+na))[i]?=some x'->le ky v x':=λv hv i x' hi hx'=>by(obtain⟨g1,g2⟩:=FL i x' hx';rw[zX] at hi;rw[show sa+k+i=sa+na-1 by omega,x1] at g2;cases g2;exact lastY v hv)
   have fin:∀z st',SameS st st'->fQ ky (arr.extract (sa+k) (sa+na)).toList (arr.extract (sa+na) (sa+na+m)).toList z->wpS (model prog w) A E s (S2 (sa+k) z) Q st':=λz st' hs hg=>by
    obtain⟨g1,g2⟩:=hg
    have zl:z.toList.length=(na-k)+m:=by(rw[g1.length_eq,Za,Array.length_toList,Array.length_toList,zX,zY])
    unfold S2;refine wpS_bind (wpS_modify (wpS_bind (wpS_get (wpS_pure ?_))));have hff:(failedOf st').isNone=true:=by rw[hs.f,hf];rfl
    show Q (failedOf st').isNone _;rw[hff];refine h _ (hs.k.trans hk) hs.p (hs.f.trans hf) ⟨bG arr.toList sa k++(z.toList++bG arr.toList (sa+na+m) (nb-m)), ?_, ?_, ?_⟩
    ·show(lay (arrOf st') (sa+k) z.toList).toList=_;rw[hs.a,ha,RK (by rw[zl];omega),zl,List.take_add,show sa+k+(na-k+m)=sa+na+m from by rw[<- Nat.add_assoc,Nat.add_assoc sa,Nat.add_sub_of_le k1],List.append_assoc,List.append_assoc,List.append_assoc]
     have e:arr.toList.drop (sa+na+m)=bG arr.toList (sa+na+m) (nb-m)++arr.toList.drop (sa+(na+nb)):=by(rw[show sa+(na+nb)=sa+na+m+(nb-m) from by rw[Nat.add_assoc (sa+na),Nat.add_sub_of_le m1,Nat.add_assoc]];exact o7 _ _ _)
     rw[e];rfl
    ·rw[eB,show bG arr.toList sa na=_ from(congrArg (bG arr.toList sa) (Nat.add_sub_of_le k1).symm).trans (eB arr.toList sa k (na-k))];have e:bG arr.toList (sa+na) nb=bG arr.toList (sa+na) m++bG arr.toList (sa+na+m) (nb-m):=by rw[<- eB,Nat.add_sub_of_le m1]
     rw[e,List.append_assoc];refine List.Perm.append_left _ ?_;rw[<- List.append_assoc];refine List.Perm.append_right _ ?_;rw[eX,eY] at g1;exact g1
    ·have memz:∀v,v∈z.toList->v∈bG arr.toList (sa+k) (na-k)\/v∈bG arr.toList (sa+na) m:=λv hv=>by
      have:=g1.mem_iff.mp hv
      rw[eX,eY] at this;exact zp.mp this
     have lowA:∀u∈bG arr.toList sa k,le ky u y:=λu hu=>by(obtain⟨j,j1,j2⟩:=jA hu;exact k2 j u j1 j2)
     have hiB:∀v∈bG arr.toList (sa+na+m) (nb-m),le ky x v:=λv hv=>by(obtain⟨j,j1,j2⟩:=jA hv;exact m3 (m+j) v (by omega) (by omega) (by rw[<- Nat.add_assoc];exact j2))
     have subA:∀u∈bG arr.toList (sa+k) (na-k),u∈bG arr.toList sa na:=λu hu=>by(rw[show na=k+(na-k) by omega,eB];exact List.mem_append_right _ hu)
     have subA1:∀u∈bG arr.toList sa k,u∈bG arr.toList sa na:=λu hu=>by(rw[show na=k+(na-k) by omega,eB];exact List.mem_append_left _ hu)
     have subB:∀u∈bG arr.toList (sa+na) m,u∈bG arr.toList (sa+na) nb:=λu hu=>by(rw[show nb=m+(nb-m) by omega,eB];exact List.mem_append_left _ hu)
     refine List.pairwise_append.mpr ⟨t1,List.pairwise_append.mpr ⟨g2,u2,λu hu v hv=>?_⟩,λu hu v hv=>?_⟩
     ·rcases memz u hu with hu | hu
      ·exact le_trans (hA u (subA u hu)) (hiB v hv)
      ·exact u3 u hu v hv
     ·rcases zp.mp hv with hv | hv
      ·rcases memz v hv with hv | hv
       ·exact t3 u hu v hv
       ·exact le_trans (lowA u hu) (hB v (subB v hv))
      ·exact le_trans (hA u (subA1 u hu)) (hiB v hv)
   split
   ·refine wpS_bind (HL hL hM hlast hk (by rw[zX];omega) (by rw[zY];omega) (λv u hu hv=>?_) fin);obtain⟨_,g1⟩:=atY 0 u hu;obtain⟨_,g2⟩:=FL 0 v hv;rw[Nat.add_zero,y1] at g1;cases g1;exact k3 k v (Zq _) (by omega) g2
   ·refine wpS_bind (ID hL hM (λu hu v hv=>?_) hk (by rw[zX];omega) (by rw[zY];omega) (λv hv u hu=>hlast v hv _ u (by omega) hu) fin);obtain⟨_,g1⟩:=atY 0 u hu;rw[Nat.add_zero,y1] at g1;cases g1;rw[eX] at hv;obtain⟨j,j1,j2⟩:=jA hv;exact k3 (k+j) v (by omega) (by omega) (by rw[<- Nat.add_assoc];exact j2)
end
abbrev U2:=Option Unit×Unit
noncomputable def J9(pw:Nat)(c:U2):StateT SortSt Sem (ForInStep U2):=do
 let u <- get
 match (if(pendingOf u).size > 1 then(pendingOf u)[(pendingOf u).size-2]? else none) with
 |some (_,_,v) =>
  if v<=pw then pure (.done (none,()))
  else do
   let b <- mergeAt' ((pendingOf u).size-2)
   if(!b)=true then pure (.done (some (),())) else pure (.yield (none,()))
 |_=>pure (.done (none,()))
noncomputable def E2(lo n:Nat):StateT SortSt Sem (ForInStep (Option Unit×Nat)):=do
 modify λu=>setPending u ((pendingOf u).push (lo,n,0))
 pure (.yield (none,lo+n))
noncomputable def E1(size lo n:Nat):StateT SortSt Sem (ForInStep (Option Unit×Nat)):=do
 let u <- get
 match (pendingOf u).back? with
 |some (s1,n1,_)=>do
  let q <- forIn [0:size] ((none,()):U2) λ_=>J9 (power' size (2*s1+n1) (2*s1+n1+n1+n) size)
  match q.1 with
  |some r=>pure (.done (some r,lo))
  |none=>do
   modify λu=>setPending u ((pendingOf u).modify ((pendingOf u).size-1) λx=>(x.1,x.2.1,power' size (2*s1+n1) (2*s1+n1+n1+n) size))
   E2 lo n
 |_=>E2 lo n
noncomputable def SV(size:Nat)(c:Option Unit×Nat):StateT SortSt Sem (ForInStep (Option Unit×Nat)) :=
 if c.2 >= size then pure (.done (none,c.2))
 else do
  let r <- countRun' c.2 (size-c.2)
  match r with
  |some f =>
   if f<minRun' size size 0 then do
    liftM (rule "list.sort.binary-insertion")
    let b <- binarySort' c.2 (min (size-c.2) (minRun' size size 0)) f
    if(!b)=true then pure (.done (some (),c.2)) else E1 size c.2 (min (size-c.2) (minRun' size size 0))
   else E1 size c.2 f
  |_=>pure (.done (some (),c.2))
noncomputable def rsI(p:Array (Nat×Nat×Nat)):Nat :=
 if((if p.size-2 > 0 then(p[p.size-2-1]?).map (·.2.1) else none).any (·<((p[p.size-2+1]?).elim 0 (·.2.1))))=true then p.size-2-1 else p.size-2
noncomputable def rsF(c:U2):StateT SortSt Sem (ForInStep U2):=do
 let u <- get
 if(pendingOf u).size<=1 then pure (.done (none,()))
 else do
  let b <- mergeAt' (rsI (pendingOf u))
  if(!b)=true then pure (.done (some (),())) else pure (.yield (none,()))
def LX{size lo n:Nat}
  (h3:∀u s1 n1 p,(pendingOf u).back?=some (s1,n1,p)->∃k,g u=((forIn [0:size] ((none,()):U2) λ_=>J9 (power' size (2*s1+n1) (2*s1+n1+n1+n) size))>>=k)/\(∀r,k (some r,())=pure (.done (some r,lo))) /\
   k (none,())=((modify λu=>setPending u ((pendingOf u).modify ((pendingOf u).size-1) λx=>(x.1,x.2.1,power' size (2*s1+n1) (2*s1+n1+n1+n) size)))>>=λ_=>E2 lo n)) (h4:∀u,(pendingOf u).back?=none->g u=E2 lo n) :
  ((get:StateT SortSt Sem SortSt)>>=g)=E1 size lo n:=by
 unfold E1;refine congrArg _ (funext λu=>?_)
 cases hb:(pendingOf u).back? with
 |none=>rw[h4 u hb]
 |some x =>
  obtain⟨s1,n1,p⟩:=x;obtain⟨k,e,k1,k2⟩:=h3 u s1 n1 p hb;rw[e];refine congrArg _ (funext λq=>?_);obtain⟨q1,⟨⟩⟩:=q;cases q1
  ·exact k2
  ·exact k1 _
def LM(h1:∀u x y v,(if(pendingOf u).size > 1 then(pendingOf u)[(pendingOf u).size-2]? else none)=some (x,y,v)->g u=if v<=pw then pure (.done (none,())) else(mergeAt' ((pendingOf u).size-2)>>=λb=>if(!b)=true then pure (.done (some (),())) else pure (.yield (none,()))))
  (h2:∀u,(if(pendingOf u).size > 1 then(pendingOf u)[(pendingOf u).size-2]? else none)=none->g u=pure (.done (none,()))) (c:U2):((get:StateT SortSt Sem SortSt)>>=g)=J9 pw c:=by
 unfold J9;refine congrArg _ (funext λu=>?_)
 cases hb:(if(pendingOf u).size > 1 then(pendingOf u)[(pendingOf u).size-2]? else none) with
 |none=>rw[h2 u hb]
 |some x =>
  obtain⟨a,b,v⟩:=x;rw[h1 u a b v hb]
theorem EK:sortRuns'=((get:StateT SortSt Sem SortSt)>>=λst=>(forIn [0:(arrOf st).size] ((none,0):Option Unit×Nat) λ_=>SV (arrOf st).size)>>=λc=>match c.1 with
  |some r=>pure r
  |none=>(forIn [0:(arrOf st).size] ((none,()):U2) λ_=>rsF)>>=λq=>match q.1 with
   |some r=>pure r
   |none=>pure ()):=by
 rw[sortRuns'_eq];dsimp only;refine congrArg _ (funext λst=>?_);refine congr (congrArg _ (congrArg _ (funext λx=>funext λc=>?_))) (funext λc=>?_)
 ·unfold SV;refine congrArg _ (congrArg _ (funext λr=>?_))
  cases r with
  |none=>rfl
  |some f =>
   dsimp only;refine congr (congrArg _ (congrArg _ (funext λ_=>congrArg _ (funext λb=>congrArg _ ?_)))) ?_
   ·refine LX (λu s1 n1 p hb=>?_) λu hb=>by rw[hb];rfl
    rw[hb];refine⟨_,congrArg (·>>=_) (congrArg _ (funext λx=>funext λc=>?_)),λr=>rfl,rfl⟩;exact LM (λu x y v h=>by rw[h]) (λu h=>by rw[h]) c
   ·refine LX (λu s1 n1 p hb=>?_) λu hb=>by rw[hb];rfl
    rw[hb];refine⟨_,congrArg (·>>=_) (congrArg _ (funext λx=>funext λc=>?_)),λr=>rfl,rfl⟩;exact LM (λu x y v h=>by rw[h]) (λu h=>by rw[h]) c
 ·obtain⟨c1,c2⟩:=c
  cases c1 with
  |some r=>rfl
  |none =>
   dsimp only;refine congr (congrArg _ (congrArg _ (funext λx=>funext λc=>?_))) (funext λq=>?_)
   ·rfl
   ·obtain⟨q1,q2⟩:=q;cases q1<;>rfl
section
variable{O:KeyOrd}{ky:Keyed->O.α}
def dI(ky:Keyed->O.α)(L:List Keyed):Nat->List (Nat×Nat×Nat)->Nat->Prop
 |s,[],e=>s=e
 |s,(t,n,_)::r,e=>t=s/\1<=n/\cU ky (bG L s n)/\dI ky L (s+n) r e
theorem dI.le:∀{s:Nat} {r:List (Nat×Nat×Nat)} {e:Nat},dI ky L s r e->s+r.length<=e
 |s,[],e,h=>by have h:s=e:=h;simp;omega
 |s,(t,n,p)::r,e,h=>by
  obtain⟨_,h1,_,h2⟩:=h
  have:=dI.le h2
  rw[Zk];omega
theorem dI.app:∀{s:Nat} {r1 r2:List (Nat×Nat×Nat)} {e:Nat},dI ky L s (r1++r2) e↔∃m,dI ky L s r1 m/\dI ky L m r2 e
 |s,[],r2,e=>⟨λh=>⟨s,rfl,h⟩,λ⟨m,h1,h2⟩=>by have h1:s=m:=h1;rw[h1];exact h2⟩
 |s,(t,n,p)::r,r2,e=>by
  constructor
  ·rintro⟨h1,h2,h3,h4⟩
   obtain⟨m,h5,h6⟩:=dI.app.mp h4;exact⟨m,⟨h1,h2,h3,h5⟩,h6⟩
  ·rintro⟨m,⟨h1,h2,h3,h4⟩,h5⟩
   exact⟨h1,h2,h3,dI.app.mpr ⟨m,h4,h5⟩⟩
theorem dI.same:∀{s:Nat} {r:List (Nat×Nat×Nat)} {e:Nat},dI ky L s r e->(∀t n,s<=t->t+n<=e->bG L' t n=bG L t n)->dI ky L' s r e
 |s,[],e,h,_=>h
 |s,(t,n,p)::r,e,h,hs=>by
  obtain⟨h1,h2,h3,h4⟩:=h
  have:=dI.le h4
  exact⟨h1,h2,by rw[hs s n (Zq _) (by omega)];exact h3,dI.same h4 λt' n' a b=>hs t' n' (by omega) b⟩
def aBj(hs:s+n<=L.length)(hM:M.length=n)(h:t+k<=s):bG (L.take s++(M++L.drop (s+n))) t k=bG L t k:=by
 unfold bG;refine List.ext_getElem? λi=>?_
 rw[List.getElem?_take,List.getElem?_take];split
 ·rw[List.getElem?_drop,List.getElem?_drop,List.getElem?_append_left (by rw[List.length_take];omega),List.getElem?_take,Zo (by omega)]
 ·rfl
def MR(hs:s+n<=L.length)(hM:M.length=n)(h:s+n<=t):bG (L.take s++(M++L.drop (s+n))) t k=bG L t k:=by
 unfold bG;refine List.ext_getElem? λi=>?_
 rw[List.getElem?_take,List.getElem?_take];split
 ·rw[List.getElem?_drop,List.getElem?_drop,List.getElem?_append_right (by rw[List.length_take];omega),List.length_take,Nat.min_eq_left (by omega),List.getElem?_append_right (by omega),List.getElem?_drop];congr 1;omega
 ·rfl
def WC{L M:List Keyed}(hs:s+n<=L.length)(hM:M.length=n):bG (L.take s++(M++L.drop (s+n))) s n=M:=by
 unfold bG;rw[List.drop_append_of_le_length (by rw[List.length_take];omega),List.drop_of_length_le (by rw[List.length_take];omega),List.nil_append,List.take_append_of_le_length (by omega),zf (by omega)]
structure SI(ky:Keyed->O.α)(kd:SortKind)(a₀:Array Keyed)(st:SortSt)(lo:Nat)(rs:List (Nat×Nat×Nat)):Prop where
 k:kindOf st=kd
 f:failedOf st=none
 perm:(arrOf st).Perm a₀
 p:(pendingOf st).toList=rs
 ch:dI ky (arrOf st).toList 0 rs lo
 le:lo<=a₀.size
def SI.sz{st:SortSt}{lo:Nat}(h:SI ky kd a₀ st lo rs):(arrOf st).size=a₀.size:=h.perm.size_eq
def SI.psz{st:SortSt}{lo:Nat}(h:SI ky kd a₀ st lo rs):(pendingOf st).size=rs.length:=by rw[<- h.p,Array.length_toList]
def SI.pat{st:SortSt}{lo:Nat}(h:SI ky kd a₀ st lo rs)(i:Nat):(pendingOf st)[i]?=rs[i]?:=by rw[<- h.p,Array.getElem?_toList]
end
section
variable{prog:Program}{w:World}{A:Around}{E:Value->Shared->Prop}{s:Shared}
variable{O:KeyOrd}{ky:Keyed->O.α}{kd:SortKind}{P:Keyed->Prop}{a₀:Array Keyed}
variable(hL:m8 prog w A E s O ky kd P)(hP:∀x∈a₀.toList,P x)
include hL hP
theorem vH{st:SortSt}{lo i:Nat}{rs:List (Nat×Nat×Nat)}{Q:Bool->SortSt->Prop}(h:SI ky kd a₀ st lo rs)(hi:i+1<rs.length)
  (hQ:∀st' rs',SI ky kd a₀ st' lo rs'->rs'.length+1=rs.length->(∀t n,lo<=t->bG (arrOf st').toList t n=bG (arrOf st).toList t n)->Q true st'):wpS (model prog w) A E s (mergeAt' i) Q st:=by
 obtain⟨pre,x,y,post,rfl,hpre⟩:∃pre x y post,rs=pre++x::y::post/\pre.length=i:=by(refine⟨rs.take i,rs[i],rs[i+1],rs.drop (i+2), ?_,by rw[List.length_take];omega⟩;rw[<- List.drop_eq_getElem_cons (by omega),<- List.drop_eq_getElem_cons (by omega),List.take_append_drop])
 obtain⟨sa,na,pw⟩:=x;obtain⟨sb,nb,q⟩:=y;obtain⟨m,c1,c2⟩:=dI.app.mp h.ch;obtain⟨rfl,n1,s1,rfl,n2,s2,c3⟩:=c2;have c3':=c3.le;have hsz:=h.sz;have hlo:=h.le;have ll:(arrOf st).toList.length=(arrOf st).size:=Array.length_toList;have mem:∀z∈(arrOf st).toList,P z:=λz hz=>hP z ((Array.perm_iff_toList_perm.mp h.perm).mem_iff.mp hz)
 refine DX (sa:=sa) (na:=na) (pw:=pw) (sb:=sa+na) (nb:=nb) (q:=q) ?_ ?_ ?_
 ·rw[h.pat,List.getElem?_append_right (by omega),hpre,Nat.sub_self];rfl
 ·rw[h.pat,List.getElem?_append_right (by omega),hpre,show i+1-i=1 by omega];rfl
 ·refine aCm hL h.k rfl h.f mem n1 n2 (by omega) s1 s2 λst' k' p' f' mg=>?_
  obtain⟨M,e1,e2,e3⟩:=mg.ex;have hM:M.length=na+nb:=by rw[e2.length_eq];unfold bG;rw[List.length_take,List.length_drop];omega
  have hz:sa+(na+nb)<=(arrOf st).toList.length:=by omega
  have hperm:(arrOf st').toList.Perm (arrOf st).toList:=by
   rw[e1]
   conv=>rhs;rw[vL (arrOf st).toList sa (na+nb)]
   exact List.Perm.append_left _ (List.Perm.append_right _ e2)
  refine hQ st' (pre++(sa,na+nb,pw)::post) ⟨k',f',Array.perm_iff_toList_perm.mpr (hperm.trans (Array.perm_iff_toList_perm.mp h.perm)), ?_, ?_,hlo⟩ (by simp;omega) λt n ht=>by rw[e1];exact MR hz hM (by omega)
  ·rw[p'];show(((pendingOf st).setIfInBounds i (sa,na+nb,pw)).eraseIdxIfInBounds (i+1)).toList=_;rw[Array.toList_eraseIdxIfInBounds,Array.toList_setIfInBounds,h.p,<- hpre,List.set_append_right _ _ (Zq _),Nat.sub_self,List.set_cons_zero,List.eraseIdx_append_of_length_le (by omega),show pre.length+1-pre.length=1 by omega];rfl
  ·refine dI.app.mpr ⟨sa,c1.same λt n _ b=>?_,rfl,by omega, ?_, ?_⟩
   ·rw[e1];exact aBj hz hM b
   ·rw[e1,WC hz hM];exact e3
   ·rw[show sa+(na+nb)=sa+na+nb by omega];refine c3.same λt n a _=>?_
    rw[e1];exact MR hz hM (by omega)
theorem LH{st:SortSt}{lo n:Nat}(h:SI ky kd a₀ st lo rs)(h1:1<=n)(h2:lo+n<=a₀.size)(hs:cU ky (bG (arrOf st).toList lo n))
  (hQ:∀st' rs',SI ky kd a₀ st' (lo+n) rs'->Q (.yield (none,lo+n)) st'):wpS (model prog w) A E s (E2 lo n) Q st:=by
 unfold E2;refine wpS_bind (wpS_modify (wpS_pure (hQ _ (rs++[(lo,n,0)]) ⟨h.k,h.f,h.perm, ?_, ?_,h2⟩)))
 ·show((pendingOf st).push (lo,n,0)).toList=_;rw[Array.toList_push,h.p]
 ·exact dI.app.mpr ⟨lo,h.ch,rfl,h1,hs,rfl⟩
omit hL hP in
theorem B7:∀{s e:Nat} {rs:List (Nat×Nat×Nat)} (i:Nat),dI ky L s rs e->dI ky L s (rs.modify i λx=>(x.1,x.2.1,pw)) e
 |s,e,[],i,h=>by cases i<;>exact h
 |s,e,(t,n,p)::r,0,h=>h
 |s,e,(t,n,p)::r,i+1,h=>⟨h.1,h.2.1,h.2.2.1,B7 i h.2.2.2⟩
theorem KI{st:SortSt}{size lo n:Nat}(h:SI ky kd a₀ st lo rs)(h1:1<=n)(h2:lo+n<=a₀.size)(hs:cU ky (bG (arrOf st).toList lo n))
  (hQ:∀st' rs',SI ky kd a₀ st' (lo+n) rs'->Q (.yield (none,lo+n)) st'):wpS (model prog w) A E s (E1 size lo n) Q st:=by
 unfold E1;refine wpS_bind (wpS_get ?_)
 cases hb:(pendingOf st).back? with
 |none=>exact LH hL hP h h1 h2 hs hQ
 |some x =>
  obtain⟨s1,n1,p⟩:=x;dsimp only;generalize power' size (2*s1+n1) (2*s1+n1+n1+n) size=pw;refine wpS_bind (wpS_mono (wpS_forRange (I:=λx c st'=>c=(none,())/\∃rs',SI ky kd a₀ st' lo rs'/\cU ky (bG (arrOf st').toList lo n)) (Q:=λc st'=>c=(none,())/\∃rs',SI ky kd a₀ st' lo rs'/\cU ky (bG (arrOf st').toList lo n)) ?step (λ_ _ hh=>hh) ⟨rfl,rs,h,hs⟩) ?post)
  case post =>
   rintro c st' ⟨rfl,rs',h',hs'⟩
   dsimp only;refine wpS_bind (wpS_modify (LH hL hP (rs:=rs'.modify ((pendingOf st').size-1) λx=>(x.1,x.2.1,pw)) ⟨h'.k,h'.f,h'.perm, ?_,B7 _ h'.ch,h'.le⟩ h1 h2 hs' hQ));show((pendingOf st').modify _ _).toList=_;rw[Array.toList_modify,h'.p]
  case step =>
   rintro x c st' _ _ ⟨rfl,rs',h',hs'⟩
   unfold J9;refine wpS_bind (wpS_get ?_);split
   ·rename_i q u v hq;split
    ·exact wpS_pure ⟨rfl,rs',h',hs'⟩
    ·have hl:(pendingOf st').size > 1:=by
      by_cases e:(pendingOf st').size > 1
      ·exact e
      ·rw[Zp e] at hq;cases hq
     rw[h'.psz] at hl;refine wpS_bind (vH hL hP h' (by rw[h'.psz];omega) λst2 rs2 g1 _ g2=>?_);simp only[Bool.not_true,Bool.false_eq_true,if_false];exact wpS_pure ⟨rfl,rs2,g1,by rw[g2 lo n (Zq _)];exact hs'⟩
   ·exact wpS_pure ⟨rfl,rs',h',hs'⟩
omit hL hP in
theorem zA{lo n:Nat}(h:Up ky xs lo n)(hz:lo+n<=xs.size):cU ky (bG xs.toList lo n):=by
 refine List.pairwise_iff_getElem.mpr λi j hi hj hij=>?_
 have hl:(bG xs.toList lo n).length=n:=by unfold bG;rw[List.length_take,List.length_drop,Array.length_toList];omega
 have at_:∀k (hk:k<(bG xs.toList lo n).length),KY ky xs (lo+k)=ky ((bG xs.toList lo n)[k]):=λk hk=>by
  have e:(bG xs.toList lo n)[k]?=xs[lo+k]?:=by(unfold bG;rw[List.getElem?_take,Zo (by omega),List.getElem?_drop,Array.getElem?_toList])
  unfold KY;rw[<- e,Zb hk];rfl
 have:=h i j (by omega) (by omega)
 rw[at_ i hi,at_ j hj] at this;exact this
theorem aAu{st:SortSt}{lo:Nat}(h:SI ky kd a₀ st lo rs)(h0:lo >= a₀.size->Q (.done (none,lo)) st)
  (hQ:∀n st' rs',1<=n->SI ky kd a₀ st' (lo+n) rs'->Q (.yield (none,lo+n)) st'):wpS (model prog w) A E s (SV a₀.size (none,lo)) Q st:=by
 unfold SV;dsimp only;by_cases e:lo >= a₀.size
 ·rw[Zo e];exact wpS_pure (h0 e)
 ·rw[Zp e];have hsz:=h.sz;have mem:∀z∈(arrOf st).toList,P z:=λz hz=>hP z ((Array.perm_iff_toList_perm.mp h.perm).mem_iff.mp hz)
  have carry:∀{st':SortSt},Fr lo a₀.size st st'->SI ky kd a₀ st' lo rs:=λ{st'} f=>by
   refine⟨f.k.trans h.k,f.f.trans h.f,f.perm.trans h.perm,by rw[f.p];exact h.p,h.ch.same λt n _ hb=>?_,h.le⟩;unfold bG;refine List.ext_getElem? λi=>?_
   rw[List.getElem?_take,List.getElem?_take];split
   ·rw[List.getElem?_drop,List.getElem?_drop,Array.getElem?_toList,Array.getElem?_toList];exact f.out _ (.inl (by omega))
   ·rfl
  refine wpS_bind (D8 hL h.k mem (hi:=a₀.size) (by omega) (Fr.refl st) (by omega) (by omega) λm st1 f1 m1 m2 m3=>?_);dsimp only;split
  ·rename_i hm;refine wpS_bind (wpS_lift (wpAny_rule ⟨rfl, ?_⟩))
   generalize minRun' a₀.size a₀.size 0=mr at *
   refine wpS_bind (NJ hL h.k mem (hi:=a₀.size) (by omega) f1 (by omega) (by omega) m3 λst2 f2 u2=>?_);simp only[Bool.not_true,Bool.false_eq_true,if_false];exact KI hL hP (carry f2) (by omega) (by omega) (zA u2 (by rw[f2.sz];omega)) λst3 rs3 g=>hQ _ st3 rs3 (by omega) g
  ·exact KI hL hP (carry f1) m1 (by omega) (zA m3 (by rw[f1.sz];omega)) λst3 rs3 g=>hQ _ st3 rs3 m1 g
theorem D6{st:SortSt}(hk:kindOf st=kd)(hf:failedOf st=none)(hp:pendingOf st=#[])(ha:arrOf st=a₀)
  (hQ:∀st',failedOf st'=none->(arrOf st').Perm a₀->cU ky (arrOf st').toList->Q () st'):wpS (model prog w) A E s sortRuns' Q st:=by
 rw[EK];refine wpS_bind (wpS_get ?_);rw[ha];refine wpS_bind (wpS_mono (wpS_forRange (I:=λx c st'=>∃lo rs,c=(none,lo)/\SI ky kd a₀ st' lo rs/\x<=lo) (Q:=λc st'=>∃rs,c=(none,a₀.size)/\SI ky kd a₀ st' a₀.size rs) ?step ?fin ⟨0,[],rfl,⟨hk,hf,ha ▸ Array.Perm.refl _,by rw[hp],rfl,Nat.zero_le _⟩,Zq _⟩) ?post)
 case fin =>
  rintro c st' ⟨lo,rs,rfl,h,hx⟩
  have:=h.le
  obtain rfl:lo=a₀.size:=by omega
  exact⟨rs,rfl,h⟩
 case step =>
  rintro x c st' _ hx ⟨lo,rs,rfl,h,hxl⟩
  refine aAu hL hP h (λe=>?_) λn st2 rs2 n1 g=>⟨_,rs2,rfl,g,by omega⟩
  have:=h.le
  obtain rfl:lo=a₀.size:=by omega
  exact⟨rs,rfl,h⟩
 case post =>
  rintro c st' ⟨rs,rfl,h⟩
  dsimp only;refine wpS_bind (wpS_mono (wpS_forRange (I:=λx c st'=>c=(none,())/\∃rs,SI ky kd a₀ st' a₀.size rs/\(rs.length<=a₀.size-x\/rs.length<=1)) (Q:=λc st'=>c=(none,())/\∃rs,SI ky kd a₀ st' a₀.size rs/\rs.length<=1) ?step2 ?fin2 ⟨rfl,rs,h,.inl (by have:=h.ch.le;omega)⟩) ?post2)
  case fin2 =>
   rintro c st' ⟨rfl,rs,h,hl⟩
   exact⟨rfl,rs,h,by omega⟩
  case step2 =>
   rintro x c st' _ hx ⟨rfl,rs,h,hl⟩
   unfold rsF;refine wpS_bind (wpS_get ?_);rw[h.psz];split
   ·exact wpS_pure ⟨rfl,rs,h,‹_›⟩
   ·rename_i hn
    have hi:rsI (pendingOf st')+1<rs.length:=by
     unfold rsI;rw[h.psz];have key:∀c:Bool,(if c=true then rs.length-2-1 else rs.length-2)+1<rs.length:=λc=>by cases c<;>simp<;>omega
     exact key _
    refine wpS_bind (vH hL hP h hi λst2 rs2 g1 g2 _=>?_);simp only[Bool.not_true,Bool.false_eq_true,if_false];exact wpS_pure ⟨rfl,rs2,g1,by omega⟩
  case post2 =>
   rintro c st' ⟨rfl,rs,h,hl⟩
   refine wpS_pure (hQ st' h.f h.perm ?_);have hz:(arrOf st').toList.length=a₀.size:=by rw[Array.length_toList];exact h.sz
   obtain _ | ⟨⟨t,n,p⟩,_ | ⟨_,_⟩⟩:=rs
   ·have h0:0=a₀.size:=h.ch;rw[List.eq_nil_of_length_eq_zero (by omega:(arrOf st').toList.length=0)];exact List.Pairwise.nil
   ·obtain⟨_,_,h3,h4⟩:=h.ch;have h4:0+n=a₀.size:=h4;unfold bG at h3;rw[List.drop_zero,zf (by omega)] at h3;exact h3
   ·simp at hl
end
theorem lx_irr:∀a:List Int,HT.bU a a=false
 |[]=>rfl
 |x::xs=>by rw[HT.d8,Zo rfl];exact lx_irr xs
theorem lx_tr:∀a b c:List Int,HT.bU a b=true->HT.bU b c=true->HT.bU a c=true
 |[],[],_,h,_=>nomatch h
 |[],_::_,[],_,h=>nomatch h
 |[],_::_,_::_,_,_=>rfl
 |_::_,[],_,h,_=>nomatch h
 |_::_,_::_,[],_,h=>nomatch h
 |x::xs,y::ys,z::zs,h,k=>by
  rw[HT.d8] at h k ⊢;by_cases e:x=y
  ·subst e;rw[Zo rfl] at h;by_cases e2:x=z
   ·rw[Zo e2] at k ⊢;exact lx_tr xs ys zs h k
   ·rw[Zp e2] at k ⊢;exact k
  ·rw[Zp e,decide_eq_true_eq] at h;by_cases e2:y=z
   ·rw[Zp (e2 ▸ e),decide_eq_true_eq];omega
   ·rw[Zp e2,decide_eq_true_eq] at k;rw[Zp (by omega),decide_eq_true_eq];omega
theorem lx_neg:∀a b c:List Int,HT.bU a c=true->HT.bU a b=true\/HT.bU b c=true
 |[],[],_,h=>.inr h
 |[],_::_,_,_=>.inl rfl
 |_::_,_,[],h=>nomatch h
 |_::_,[],_::_,_=>.inr rfl
 |x::xs,y::ys,z::zs,h=>by
  rw[HT.d8] at h ⊢;rw[HT.d8];by_cases e:x=y
  ·subst e;rw[Zo rfl];by_cases e2:x=z
   ·rw[Zo e2] at h ⊢;exact lx_neg xs ys zs h
   ·rw[Zp e2] at h ⊢;exact .inr h
  ·rw[Zp e];by_cases e2:y=z
   ·rw[Zp (e2 ▸ e)] at h;exact .inl (e2 ▸ h)
   ·rw[Zp e2];by_cases e3:x=z
    ·rw[decide_eq_true_eq,decide_eq_true_eq];omega
    ·rw[Zp e3,decide_eq_true_eq] at h;rw[decide_eq_true_eq,decide_eq_true_eq];omega
theorem lx_tot:∀a b:List Int,HT.bU a b=false->HT.bU b a=false->a=b
 |[],[],_,_=>rfl
 |[],_::_,h,_=>nomatch h
 |_::_,[],_,h=>nomatch h
 |x::xs,y::ys,h,k=>by
  rw[HT.d8] at h k;by_cases e:x=y
  ·subst e;rw[Zo rfl] at h k;rw[lx_tot xs ys h k]
  ·rw[Zp e,decide_eq_false_iff_not] at h;rw[Zp (λz=>e z.symm),decide_eq_false_iff_not] at k;omega
@[reducible] noncomputable def SH:KeyOrd:=⟨List Int,HT.bU,lx_irr,lx_tr,lx_neg,lx_tot⟩
def TriAt(h:Heap)(v:Value)(k:List Int):Prop :=
 ∃(t u:Addr) (b r:Int) (tb tr:Tok) (ns:List Int) (vs:Array Value),v=.ref t/\IsTup h t #[.int b tb,.int r tr,.ref u]/\IsTup h u vs/\IntsAre vs.toList ns/\k=b::r::ns
section
variable{prog:Program}{w:World}{A:Around}{E:Value->Shared->Prop}{s:Shared}
theorem oS:∀{us:List Value} {ns:List Int},IntsAre us ns->∃as,ReadsAll h us (ns.map .int) as
 |_,_,.nil=>⟨_,.nil⟩
 |_,_,.cons n t r=>by(obtain⟨as,r⟩:=oS r;exact⟨_,.cons (.int _ _) r⟩)
theorem IntsAre.one:∀{us:List Value} {ns ms:List Int},IntsAre us ns->IntsAre us ms->ns=ms
 |_,_,_,.nil,.nil=>rfl
 |_,_,_,.cons n t r,.cons _ _ r2=>by rw[IntsAre.one r r2]
def wZ(p:IsTup h u vs)(q:IsTup h u ws):vs=ws:=by
 obtain⟨o,e,_,n,d⟩:=p;obtain⟨o',e',_,n',d'⟩:=q;rw[e] at e';cases e';rw[d] at d';exact(Data.seq.inj d').1
def WS(p:IsTup s.heap a vs)(q:IsTup s.heap b ws)(i:IntsAre vs.toList ns)(j:IntsAre ws.toList ms)(hu:A.units+8<cLine)
  (k:Q (decide (ns=ms)) s):wpAny (model prog w) A (eqBool (.ref a) (.ref b)) Q E s:=by
 obtain⟨as,r1⟩:=oS (h:=s.heap) i;obtain⟨bs,r2⟩:=oS (h:=s.heap) j;obtain⟨o,e,c,n,d⟩:=id p;obtain⟨o',e',c',n',d'⟩:=id q;refine L2.ZR (λz=>Zn ?_) ?_ k
 ·subst z;obtain rfl:=wZ p q;exact IntsAre.one i j
 ·have dp:=L2.QU (ns:=ns)
  have:(PyData.tuple (ns.map .int)).eqv (.tuple (ms.map .int))=decide (ns=ms):=by simp only[PyData.eqv,L2.JW]
  rw[<- this];refine SeqAt.rcAt_reads (.tuple e c d r1) (.tuple e' c' d' r2) ?_ ?_ ?_
  ·simp[PyData.canLay0,L2.KO]
  ·simp[PyData.canLay0,L2.KO]
  ·simp only[PyData.depth];omega
def BE(h:∀(R:Value->Shared->Prop),R (.bool c) s->wpAny (model prog w) A (compareOp .Lt x y) R E s)(q:Q c s):wpAny (model prog w) A (oneLt' false x y) Q E s:=by
 show wpAny _ _ (richCompare .Lt x y>>=_) _ _ _;exact Zt (h _ (wpAny_truthy_bool q))
def ND(hx:TriAt s.heap x k)(hy:TriAt s.heap y l)(hu:A.units+8<cLine)(q:Q (HT.bU k l) s) :
  wpAny (model prog w) A (keyLt' (tuples' true) x y) Q E s:=by
 obtain⟨t,u,b,r,tb,tr,ns,vs,rfl,p1,p2,p3,rfl⟩:=hx;obtain⟨t',u',b',r',tb',tr',ns',vs',rfl,q1,q2,q3,rfl⟩:=hy;obtain⟨o,e,_,n,d⟩:=p1;obtain⟨o',e',_,n',d'⟩:=q1;show wpAny _ _ (Builtin.List.listItems _>>=_) _ _ _;refine Zt (listItems_at e d ?_);show wpAny _ _ (Builtin.List.listItems _>>=_) _ _ _;refine Zt (listItems_at e' d' ?_);simp only[List.zip_cons_cons,List.zip_nil_right,List.zipIdx_cons,List.zipIdx_nil,List.forIn_cons,List.forIn_nil,bind_assoc,pure_bind];rw[HT.d8,HT.d8] at q;refine Zt (wpAny_eqBool_int ?_);by_cases z:b=b'
 ·subst z;rw[Zo rfl] at q;simp only[beq_self_eq_true,Bool.not_true,Bool.false_eq_true,if_false,bind_assoc,pure_bind];refine Zt (wpAny_eqBool_int ?_);by_cases z:r=r'
  ·subst z;rw[Zo rfl] at q;simp only[beq_self_eq_true,Bool.not_true,Bool.false_eq_true,if_false,bind_assoc,pure_bind];refine Zt (WS p2 q2 p3 q3 hu ?_);by_cases z:ns=ns'
   ·subst z;rw[lx_irr] at q;simp only[decide_true,Bool.not_true,Bool.false_eq_true,if_false,bind_assoc,pure_bind];exact Zu q
   ·simp only[Zm z,Bool.not_false,if_true,bind_assoc,pure_bind];exact Zt (BE (λR hR=>HT.HK p2 q2 p3 q3 (by omega) hR) (Zu q))
  ·have hz:(r==r')=false:=by simpa using z
   rw[Zp z] at q;simp only[hz,Bool.not_false,if_true,bind_assoc,pure_bind];exact Zt (BE (λR hR=>lt_int hR) (Zu q))
 ·have hz:(b==b')=false:=by simpa using z
  rw[Zp z] at q;simp only[hz,Bool.not_false,if_true,bind_assoc,pure_bind];exact Zt (oneLt_int (Zu q))
def aFT(hu:A.units+8<cLine)(hP:∀x,P x->TriAt s.heap x.1 (ky x)):m8 prog w A E s SH ky (tuples' true) P:=by
 intro st x y Q hk hx hy q;rw[lt'_eq];refine wpS_bind (wpS_get ?_);rw[hk];exact wpS_bind (wpS_lift (wpAny_attempt (ND (hP x hx) (hP y hy) hu ⟨rfl,wpS_pure q⟩)))
end
def TriAt.mono(x:TriAt h v k)(m:∀t its,IsTup h t its->IsTup h' t its):TriAt h' v k:=by
 obtain⟨t,u,b,r,tb,tr,ns,vs,e,p1,p2,p⟩:=x;exact⟨t,u,b,r,tb,tr,ns,vs,e,m _ _ p1,m _ _ p2,p⟩
theorem TriAt.one(x:TriAt h v k)(y:TriAt h v l):k=l:=by
 obtain⟨t,u,b,r,tb,tr,ns,vs,rfl,p1,p2,p3,rfl⟩:=x;obtain⟨t',u',b',r',tb',tr',ns',vs',e,q1,q2,q3,rfl⟩:=y;cases e;have z:=wZ p1 q1;have z1:Value.int b tb=Value.int b' tb':=congrArg (λ(q:Array Value)=>q.getD 0 .none) z;have z2:Value.int r tr=Value.int r' tr':=congrArg (λ(q:Array Value)=>q.getD 1 .none) z;have z3:Value.ref u=Value.ref u':=congrArg (λ(q:Array Value)=>q.getD 2 .none) z;cases z1;cases z2;cases z3;cases wZ p2 q2;rw[IntsAre.one p3 q3]
noncomputable def kf(h:Heap)(v:Value):List Int:=Classical.epsilon (TriAt h v)
def SX(x:TriAt h v k):TriAt h v (kf h v):=Classical.epsilon_spec ⟨k,x⟩
def SG(x:TriAt h v k):kf h v=k:=(SX x).one x
section
variable{prog:Program}{w:World}{A:Around}{E:Value->Shared->Prop}{s:Shared}
theorem wN{R:J->N->Prop}:∀(l:List J) {Q:List N->Shared->Prop},(∀x∈l,∀K:N->Shared->Prop,(∀y,R x y->K y s)->wpAny M A (f x) K E s) ->
  (∀ys,ys.length=l.length->(∀y∈ys,∃x∈l,R x y)->Q ys s)->wpAny M A (l.mapM f) Q E s
 |[],Q,_,q=>by
  rw[List.mapM_nil];exact Zu (q [] rfl (λ_ h=>nomatch h))
 |x::l,Q,h,q=>by
  rw[List.mapM_cons];refine Zt (h x (zh ..) _ λy ry=>Zt (wN l (λz hz=>h z (Ze _ hz)) λys e1 e2=>Zu (q _ (congrArg (·+1) e1) λz hz=>?_)));rcases List.mem_cons.mp hz with rfl | hz
  ·exact⟨x,zh ..,ry⟩
  ·obtain⟨u,hu,ru⟩:=e2 z hz;exact⟨u,Ze _ hu,ru⟩
def QH{K:Option Value->Shared->Prop}(hv:TriAt s.heap v k)(q:∀y,(∃b tb,y=some (.int b tb))->K y s):wpAny (model prog w) A (firstOfTuple' v) K E s:=by
 obtain⟨t,u,b,r,tb,tr,ns,vs,rfl,p1,p2,p3,rfl⟩:=hv;show wpAny _ _ (typeOf (.ref t)>>=_) _ _ _;refine Zt (wpAny_typeOf p1.typeIs ?_);obtain⟨o,e,_,n,d⟩:=p1;show wpAny _ _ (Builtin.List.listItems (.ref t)>>=_) _ _ _;exact Zt (listItems_at e d (Zu (q _ ⟨b,tb,rfl⟩)))
def WD{Q:SortKind->Shared->Prop}(hv:∀x∈v::vs,∃k,TriAt s.heap x k)(q:Q (tuples' true) s):wpAny (model prog w) A (keyKind' (v::vs).toArray) Q E s:=by
 rw[keyKind'_eq,List.mapM_toArray,map_eq_pure_bind,bind_assoc];refine Zt (wN (R:=λ_ y=>∃b tb,y=some (Value.int b tb)) _ (λx hx K hK=>QH (hv x hx).choose_spec hK) λys e1 e2=>?_);rw[pure_bind]
 obtain⟨y,ys,rfl⟩:∃y zs,ys=y::zs:=by cases ys with | nil=>exact nomatch e1 | cons y zs=>exact⟨y,zs,rfl⟩
 have e3:∀z∈y::ys,∃b tb,z=some (Value.int b tb):=λz hz=>(e2 z hz).choose_spec.2
 rw[Zo (by
  rw[List.all_toArray,List.all_eq_true];intro z hz;obtain⟨b,tb,rfl⟩:=e3 z hz
  rfl)]
 refine Zt (wpAny_rule ?_);rw[oneTypeOnly'_eq];have ef:((y::ys).toArray.filterMap id)=((y::ys).filterMap id).toArray:=by simp
 rw[ef,List.mapM_toArray,map_eq_pure_bind];simp only[bind_assoc,pure_bind];refine Zt (wN (R:=λ_ y=>y=Value.type "int") _ (λx hx K hK=>?_) λts e4 e5=>?_)
 ·obtain⟨z,hz,hx⟩:=List.mem_filterMap.mp hx;obtain⟨b,tb,rfl⟩:=e3 z hz;cases hx;exact wpAny_typeOf (typeIs_int s b tb) (hK _ rfl)
 ·have e6:∀t∈ts,t=Value.type "int":=λt ht=>(e5 t ht).choose_spec.2
  have:ts≠[]:=by
   rintro rfl
   obtain⟨b,tb,rfl⟩:=e3 y (zh ..)
   exact nomatch e4
  obtain⟨t,ts,rfl⟩:∃t us,ts=t::us:=by cases ts with | nil=>exact absurd rfl this | cons t us=>exact⟨t,us,rfl⟩
  obtain rfl:=e6 t (zh ..)
  have e7:((Value.type "int" :: ts).toArray.all λx=>x==Value.type "int")=true:=by(rw[List.all_toArray,List.all_eq_true];intro z hz;rw[e6 z hz];rfl)
  rw[show(Value.type "int" :: ts).toArray[0]?=some (Value.type "int") from rfl];simp only[e7,if_true,pure_bind];exact Zu q
abbrev Rise(h:Heap)(l:List Value):Prop:=l.Pairwise λx y=>∀k m,TriAt h x k->TriAt h y m->HT.bU m k=false
def rX{h:Heap}(f:Obj->Obj)(ne:b≠a)(e:h.get? b=some o):(h.update a f).get? b=some o:=by
 rw[Heap.get?_update_ne _ _ _ _ ne];exact e
def FJ(e:h.get? a=some o)(c:o.cls=.type "list")(x:IsTup h b its):IsTup (h.update a f) b its:=by
 obtain⟨o',e',c',r⟩:=x;refine⟨o',rX f (λz=>?_) e',c',r⟩;subst z;rw[e] at e';cases e';rw[c] at c';exact absurd c' (by decide)
theorem RI:∀(l:List J),l.length<2->l.Pairwise R
 |[],_=>.nil
 |[_],_=>List.pairwise_singleton _ _
def QY(ho:s.heap.get? a=some (seqObj "list" vs.toArray n))(hz:vs.length<=sizeLine)(hv:∀x∈vs,∃k,TriAt s.heap x k)(hu:A.units+8<cLine)
  (h:∀out:Array Value,out.toList.Perm vs->Rise s.heap out.toList->P (.done (.ret .none)) { s with heap:=sortedHeap s.heap a vs out }):wpAny (model prog w) A (Builtin.«list.sort» ⟨[.ref a],[]⟩) P E s:=by
 rw[list_sort_plain];have hz2:vs.toArray.size<=sizeLine:=by simpa using hz
 have lt:a<s.heap.objs.size:=Zv ho;refine Zt (listItems_at ho rfl (Zt (listUpdate_at ho rfl ?_ hz2 (by simp))));obtain⟨e1,g1⟩:∃e1,(s.heap.update a (Obj.mapSeq λ_=>#[])).get? a=some (seqObj "list" #[] e1):=⟨_,get?_update_seq ho _⟩
 refine Zt (seqEpoch_at g1 rfl (Zt (wpAny_newTuple (Zt (wpAny_newList (wpAny_holding ?_))) )))
 ·generalize hh:((s.heap.update a (Obj.mapSeq λ_=>#[])).push (seqObj "tuple" vs.toArray 0)).push (seqObj "list" #[] 0)=h6
  have g6:h6.get? a=some (seqObj "list" #[] e1):=by(rw[<- hh];exact Zd _ (Zd _ g1))
  have mo:∀t its,IsTup s.heap t its->IsTup h6 t its:=by(intro t its x;rw[<- hh];exact((FJ ho rfl x).push _).push _)
  have hr:∀out,sortedHeap s.heap a vs out=h6.update a (Obj.mapSeq λ_=>out):=λout=>by unfold sortedHeap;rw[hh]
  show wpAny (model prog w) A _ P E { s with heap:=h6 }
  have fin:∀st':SortSt,(arrOf st').Perm (pairsOf vs)->cU (O:=SH) (λx:Keyed=>kf h6 x.1) (arrOf st').toList->P (.done (.ret .none)) { s with heap:=h6.update a (Obj.mapSeq λ_=>(arrOf st').map (·.2)) }:=by
   intro st' p r;have hl:(arrOf st').toList.Perm (vs.zip vs):=by rw[<- pairsOf_toList];exact Array.perm_iff_toList_perm.mp p
   have me:∀x∈(arrOf st').toList,x.1=x.2:=λx hx=>(mem_zip_self (hl.mem_iff.mp hx)).1
   rw[<- hr];refine h _ ?_ ?_
   ·have:=hl.map (·.2)
    rw[List.map_snd_zip (Zq _)] at this;rw[Array.toList_map];exact this
   ·rw[Array.toList_map];refine List.pairwise_map.mpr (List.Pairwise.imp_of_mem (λ{x y} hx hy hxy k m hk hm=>?_) r);rw[<- me x hx] at hk;rw[<- me y hy] at hm
    have:HT.bU (kf h6 y.1) (kf h6 x.1)=false:=hxy
    rwa[SG (hk.mono mo),SG (hm.mono mo)] at this
  have sz:∀st':SortSt,(arrOf st').Perm (pairsOf vs)->((arrOf st').map (·.2)).size<=sizeLine+1:=λst' p=>by(rw[Array.size_map,p.size_eq,pairsOf_size];omega)
  by_cases h2:vs.toArray.size<2
  ·rw[Zo h2,Zo h2];refine Zt (Zu ?_);dsimp only;rw[StateT.run_pure];refine Zt (Zu ?_);dsimp only;have p0:(arrOf (SortSt.mk' general' (vs.toArray.zip vs.toArray) #[] 7 none)).Perm (pairsOf vs):=Array.Perm.refl _;refine Zt (seqEpoch_at g6 rfl (Zt (listUpdate_at g6 rfl ?_ (Nat.zero_le _) (sz _ p0))));simp only[bne_self_eq_false,Bool.false_eq_true,if_false];refine Zu (fin _ p0 ?_)
   have:(pairsOf vs).toList.length<2:=by rw[Array.length_toList,pairsOf_size];simpa using h2
   show(pairsOf vs).toList.Pairwise _;exact RI _ this
  ·rw[Zp h2,Zp h2]
   obtain⟨v,us,rfl⟩:∃v us,vs=v::us:=by cases vs with | nil=>simp at h2 | cons v us=>exact⟨v,us,rfl⟩
   have hv6:∀x∈v::us,∃k,TriAt h6 x k:=λx hx=>⟨_,(hv x hx).choose_spec.mono mo⟩
   refine Zt (WD (s:={ s with heap:=h6 }) hv6 ?_);have L:m8 prog w A E { s with heap:=h6 } SH (λx:Keyed=>kf h6 x.1) (tuples' true) (λx=>x.1∈v::us):=aFT hu λx hx=>SX (hv6 _ hx).choose_spec
   refine Zt (wpAny_mono (D6 L (a₀:=pairsOf (v::us)) (λx hx=>?_) (Q:=λ_ st'=>failedOf st'=none/\(arrOf st').Perm (pairsOf (v::us))/\cU (O:=SH) (λx:Keyed=>kf h6 x.1) (arrOf st').toList) rfl rfl rfl rfl λst' a1 a2 a3=>⟨a1,a2,a3⟩) ?_ λ_ _ e=>e)
   ·rw[pairsOf_toList] at hx;exact(mem_zip_self hx).2
   ·rintro⟨⟨⟩,st'⟩ s' ⟨rfl,f,p,r⟩
    dsimp only;refine Zt (seqEpoch_at g6 rfl (Zt (listUpdate_at g6 rfl ?_ (Nat.zero_le _) (sz _ p))));rw[f];simp only[bne_self_eq_false,Bool.false_eq_true,if_false];exact Zu (fin st' p r)
def sorted_any(hl:s.heap.IsList l vs.toArray)(hz:vs.length<=sizeLine)(hv:∀x∈vs,∃k,TriAt s.heap x k)(hu:A.units+10<cLine)
  (h:∀out:Array Value,out.toList.Perm vs->Rise s.heap out.toList->Q (.ref (s.heap.objs.size+1)) { s with heap:=sortedAll s.heap vs out }):wpAny (model prog w) A (call (.builtin "sorted") [.ref l]) Q E s:=by
 refine Calls.call_function_entry kind_sorted plain_sorted entry_sorted (args_sorted1 _) ?_;show wpAny _ _ (checkCount _ _ _ _>>=_) _ _ _;refine Zt (Zu (Zt (collect_list hl (Zt (wpAny_newList ?_ (by simpa using hz))) hz)));have es:((s.heap.push (seqObj "list" #[] 0)).update s.heap.objs.size (Obj.mapSeq (· ++ vs.toArray))).objs.size=s.heap.objs.size+1:=by rw[Heap.size_update,size_push']
 generalize hh:((s.heap.push (seqObj "list" #[] 0)).update s.heap.objs.size (Obj.mapSeq (· ++ vs.toArray))).push (seqObj "list" vs.toArray 0)=h5
 have g5:h5.get? (s.heap.objs.size+1)=some (seqObj "list" vs.toArray 0):=by(rw[<- hh,<- es];exact Zw _ rfl)
 have mo:∀t its,IsTup s.heap t its->IsTup h5 t its:=by(intro t its x;rw[<- hh];exact(FJ (Zw _ rfl) rfl (x.push _)).push _)
 have ri:∀l:List Value,(∀x∈l,x∈vs)->Rise h5 l->Rise s.heap l:=λl _ r=>List.Pairwise.imp (λq k m hk hm=>q k m (hk.mono mo) (hm.mono mo)) r
 show wpAny _ _ _ _ _ { s with heap:=h5 };rw[es];refine Zt (wpAny_holding (wpAny_call_entry slot_list_sort ⟨_,g5,rfl⟩ entry_list_sort (QY (s:={ s with heap:=h5 }) g5 hz (λx hx=>⟨_,(hv x hx).choose_spec.mono mo⟩) (by show A.units+1+1+8<_;omega) λout p r=>⟨_,rfl,Zu ⟨_,rfl, ?_⟩⟩) (args_list_sort _)))
 have:=h out p (ri _ (λx hx=>p.mem_iff.mp hx) r)
 unfold sortedAll at this;rw[hh] at this;exact this
end
def FA(h:Heap)(vs:List Value)(out:Array Value):∃e h4,sortedAll h vs out=(h4:Heap).update (h.objs.size+1) (Obj.mapSeq λ_=>out)/\h4.get? (h.objs.size+1)=some (seqObj "list" #[] e)/\∀b o,h.get? b=some o->h4.get? b=some o:=by
 have es:((h.push (seqObj "list" #[] 0)).update h.objs.size (Obj.mapSeq (· ++ vs.toArray))).objs.size=h.objs.size+1:=by rw[Heap.size_update,size_push']
 unfold sortedAll sortedHeap;generalize h1:(h.push (seqObj "list" #[] 0)).update h.objs.size (Obj.mapSeq (· ++ vs.toArray))=x at es;have g2:(x.push (seqObj "list" vs.toArray 0)).get? (h.objs.size+1)=some (seqObj "list" vs.toArray 0):=by rw[<- es];exact Zw _ rfl
 refine⟨_,_,rfl,Zd _ (Zd _ (get?_update_seq g2 _)),λb o e=>Zd _ (Zd _ (rX _ ?_ (Zd _ ?_)))⟩
 ·exact Zz (Nat.lt_succ_of_lt (Zv e))
 ·rw[<- h1];exact rX _ (Zz (Zv e)) (Zd _ e)
def all_kept(h:Heap)(vs:List Value)(out:Array Value):∀b o,h.get? b=some o->(sortedAll h vs out).get? b=some o:=by
 intro b o e;obtain⟨n,h4,e1,e2,e3⟩:=FA h vs out;rw[e1];exact rX _ (Zz (Nat.lt_succ_of_lt (Zv e))) (e3 b o e)
def all_at(h:Heap)(vs:List Value)(out:Array Value):∃n,(sortedAll h vs out).get? (h.objs.size+1)=some { cls:=.type "list",data:=.seq out.toList.toArray n }:=by
 obtain⟨n,h4,e1,e2,e3⟩:=FA h vs out;rw[e1];exact⟨_,get?_update_seq e2 _⟩
end CS
namespace L2
open PySem PySem.Spec PyProof.Rows
abbrev SXs:=List (iX×Addr×Value)
noncomputable def hS1(k:qO):Int:=reduceHash (Builtin.Tuple.tupleHashOf [hashInt k.1,reduceHash (Builtin.Tuple.tupleHashOf (k.2.map hashInt))])
noncomputable def hS:iX->Int:=Sum.elim hS1 λk=>reduceHash (Builtin.Tuple.tupleHashOf [hS1 k.1,hS1 k.2])
noncomputable def aGG(x:iX×Addr×Value):DictEntry:={ hash:=hS x.1,key:=.ref x.2.1,val:=x.2.2 }
def aGr(a:Addr)(xs:SXs)(ep:Nat)(h:Heap):Prop:=∃o es,h.get? a=some o/\o.ExactDict/\o.data=.dict es ep/\es.toList=xs.map aGG
def DAt(H:Hp)(a:Addr)(xs:SXs):Prop:=∃ep,H a=some (.ext (aGr a xs ep))
def QQ(K:Frag)(H:Hp)(k:qO)(b:Addr):Prop:=∃c,dC K H b [.int k.1,.ref c]/\dC K H c (k.2.map V.int)
def aF7(K:Frag)(H:Hp)(k:qO×qO)(b:Addr):Prop:=∃c d,dC K H b [.ref c,.ref d]/\QQ K H k.1 c/\QQ K H k.2 d
def aHB(K:Frag)(H:Hp):iX->Addr->Prop:=Sum.elim (QQ K H) (aF7 K H)
end L2
namespace HT
open PySem PySem.Spec PyProof.Rows
end HT
namespace L2
open PySem PySem.Spec PyProof.Rows
section
variable{e st:Expr}
def aQ.rev(r:aQ xs us):aQ xs.reverse us.reverse:=by
 induction r with
 |nil=>exact .nil
 |cons r1 r2 ih =>
  rw[List.reverse_cons,List.reverse_cons];exact ih.append (.cons r1 .nil)
end
end L2
namespace CI
open PySem PySem.Spec PyProof.Rows L2
section
variable{h':Heap}
def TrO(X:Cx)(pins:List (Addr×Obj))(H:Hp)(h:Heap)(a C:Addr)(p:Option Addr)(fl:Value):Prop :=
 ∃oe vs a0 T oT ts,h.get? a=some oe/\(oe.cls=.ref C/\oe.dict=p)/\oe.data=.fields vs/\vs[0]?=some a0/\iZ X pins H T/\vs[1]?=some (.ref T)/\T≠a/\h.get? T=some oT/\oT.data=.fields ts/\ts[3]?=some fl
def MdO(h:Heap)(a C:Addr)(p:Option Addr):Prop:=∃oe vs a0,h.get? a=some oe/\(oe.cls=.ref C/\oe.dict=p)/\oe.data=.fields vs/\vs[0]?=some a0/\vs[1]?=some .none
def aFY(X:Cx)(pins:List (Addr×Obj))(H:Hp)(h:Heap)(a C:Addr)(p:Option Addr):Prop:=iZ X pins H a/\(MdO h a C p\/∃fl,TrO X pins H h a C p fl)
variable{M:Model}{A:Around}{E:Value->Shared->Prop}{Q:Unit->Shared->Prop}
end
abbrev bmV:List Value:=[.type "ValueError",.type "Exception",.type "BaseException",.type "object"]
def QT(K:Frag)(C:Addr)(i:Option Value):Prop:=∃(tl:List Value) (N:Addr),(∀v,PySem.W.mroIn K C v=some ((Value.ref C::tl).contains v)) /\
  ∀{h:Heap},K.In h->∃(nm qn:Str) (bs:List Value) (hd:Bool) (sn:List Str) (sub:List Value) (ab:Bool) (pQ:Option Bool) (dd:Option Addr) (k0 k1 k2 k3 k5:Option Value),
   h.get? C=some (excClassObj nm qn C N bs tl hd sn sub ab pQ dd k0 k1 k2 k3 k5 "ValueError.__new__")/\h.Ns N (h.nsMap N)/\h.nsMap N "__init__"=i/\OwnTail h bmV tl
end CI
namespace CI
open PySem PySem.Spec PySem.Calls PyProof.Rows L2 PySem.W PySem.Builtin PySem.Builtin.ObjectAttr PySem.Builtin.Getset_descriptor
def aDy(a C:Addr)(p:Option Addr)(h:Heap):Prop:=∃oe vs,h.get? a=some oe/\(oe.cls=.ref C/\oe.dict=p)/\oe.data=.fields vs
def aDy.ty(x:aDy a C p h):Looks M h (typeOf (.ref a)) (.ref C):=by
 obtain⟨oe,vs,e,c,_⟩:=x;rw[<- c.1];exact(Looks.ld e).andThen .now
structure ExcG(K:Frag)(C:Addr):Prop where
 q:∃i,QT K C i
 ga:findIn K (.ref C) "__getattribute__"=some (some (.builtin "BaseException.__getattribute__"))
 no:findIn K (.ref C) "__getattr__"=some none
 cl:findIn K (.ref C) "__class__"=some (some (.builtin "object.__class__"))
 gt:specialIn K (.builtin "object.__class__") "__get__"=some (some (.builtin "getset_descriptor.__get__"))
 tk:takesIn K (.builtin "object.__class__")=some true
 mo:mroIn K C (.type "object")=some true
 mb:mroIn K C (.type "BaseException")=some true
 mv:mroIn K C (.type "ValueError")=some true
end CI
namespace CI
open PySem PySem.Spec PyProof.Rows L2
section
open PySem.W PySem.Builtin PySem.Builtin.ObjectAttr
variable{prog:Program}{w:World}{A:Around}{E:Value->Shared->Prop}{s:Shared}{K:Frag}{x C:Addr}
noncomputable def aD8:List Value->Bool
 |.ref _::r=>aD8 r
 |l=>l==bmV
end
end CI
namespace L2
open PySem PySem.Spec PyProof.Rows
noncomputable def Its(x:Str):It:=⟨λi _=>i<x.cps.size,λi H v H'=>H'=H/\∃c,x.cps[i]?=some c/\v=.str ⟨#[c]⟩,λi _=>x.cps.size<=i⟩
end L2
namespace CI
open PySem
inductive D where
 |non
 |bl (b:Bool)
 |int (i:Int)
 |str (x:Str)
 |tup (ds:List D)
 |lst (ds:List D)
 |ins (c:Str) (ns:List Str) (ds:List D)
 |dct (kvs:List (Int×Int))
 |dcs (ks:List L2.iX) (ds:List D)
 |dci (ks:List Int) (ds:List D)
 deriving Inhabited
inductive RV where
 |sh (d:D) | ow (d:D) | od (d:D)
noncomputable def RV.d:RV->D
 |.sh d=>d
 |.ow d=>d
 |.od d=>d
noncomputable def RV.low:RV->RV
 |.od d=>.ow d
 |v=>v
inductive Sl where
 |un | mv | sh (d:D) | ow (d:D) (pin lk:Bool)
noncomputable def Sl.get:Sl->Option D
 |.un=>none
 |.mv=>none
 |.sh d=>some d
 |.ow d _ _=>some d
structure Exc where
 cls:Str
 num:Option Int
inductive Out(J:Type) where
 |ok (a:J) | ex (e:Exc)
abbrev Env:=List Sl
abbrev aR(J:Type):=Option (Out J×Env)
noncomputable def aR.bind(r:aR J)(f:J->Env->aR N):aR N :=
 match r with
 |none=>none
 |some (.ex e,U)=>some (.ex e,U)
 |some (.ok a,U)=>f a U
inductive Hd where
 |slot (i:Nat) | val (v:RV)
noncomputable def Hd.get(h:Hd)(U:Env):Option D :=
 match h with
 |.slot i=>(U[i]?).bind Sl.get
 |.val v=>some v.d
noncomputable def getAll:List Hd->Env->Option (List D)
 |[],_=>some []
 |h::r,U=>(h.get U).bind λd=>(getAll r U).map (d :: ·)
inductive Ty where
 |int
 |bool
 |tuple
inductive BI where
 |len
 |abs
 |int
 |list
 |tuple
 |all
 |sorted
inductive ItK where
 |rng | of | enum (lo:Int) | sig | key
 deriving DecidableEq
set_option genSizeOf false
set_option genInjectivity false
inductive E where
 |bad
 |omt
 |var (i:Nat)
 |con (d:D)
 |tup (es:List E)
 |lst (es:List E)
 |bin (op:Operator) (a b:E)
 |neg (a:E)
 |not (a:E)
 |cmp (op:CmpOp) (a b:E)
 |cmp2 (op op':CmpOp) (a b c:E)
 |and (a b:E)
 |or (a b:E)
 |ite (c a b:E)
 |ix (a i:E)
 |sl (a lo hi:E)
 |rev (a:E)
 |call (f:String) (args:List E)
 |bif (f:BI) (args:List E)
 |isi (a:E) (ts:List Ty)
 |app (i:Nat) (a:E)
 |ext (i:Nat) (a:E)
 |dict (kvs:List (Int×Int))
 |dict1 (k v:E)
 |dict0
 |insr (i:Nat) (k a:E)
 |frz (i:Nat)
 |mkset (a:E)
 |nset (a:E)
 |fld (a:E) (f:Str)
 |make (c:Str) (ns:List Str) (args:List E)
 |meth (i:Nat) (m:Str) (tb:List (Str×String)) (args:List E)
 |comp (elt:E) (tg:List Nat) (k:ItK) (its:List E) (cond:List E) (imp:List Nat) (nl:Nat)
inductive S where
 |bad
 |pass
 |brk
 |cnt
 |asg (i:Nat) (e:E)
 |asgT (is:List Nat) (e:E)
 |set (i:Nat) (k e:E)
 |expr (e:E)
 |ret (e:E)
 |retN
 |ifs (c:E) (a b:List S)
 |for (tg:List Nat) (one:Bool) (k:ItK) (its:List E) (body:List S)
 |whl (c:E) (body:List S)
 |rse (c:Str) (args:List E)
 |rsi (c:Str) (args:List E)
 |scr (i j:Nat) (e c:E)
set_option genInjectivity true
noncomputable def bC:Nat->D->Bool
 |_,.non=>true
 |_,.bl _=>true
 |_,.int _=>true
 |_,.str _=>true
 |n+1,.tup ds=>ds.all (bC n)
 |n+1,.lst ds=>ds.all (bC n)
 |_,_=>false
mutual
noncomputable def dN:D->D->Bool
 |.non,.non=>true
 |.bl a,.bl b=>a==b
 |.bl a,.int b=>(if a then 1 else 0)==b
 |.int a,.bl b=>a==(if b then 1 else 0)
 |.int a,.int b=>a==b
 |.str a,.str b=>a==b
 |.tup a,.tup b=>lJ a b
 |.lst a,.lst b=>lJ a b
 |_,_=>false
noncomputable def lJ:List D->List D->Bool
 |[],[]=>true
 |a::as,b::bs=>dN a b&&lJ as bs
 |_,_=>false
end
noncomputable def cl(p:Prop):Decidable p:=Classical.propDecidable p
noncomputable section
noncomputable def iJ:D->Option Bool
 |.non=>some false
 |.bl b=>some b
 |.int i=>some (i != 0)
 |.str x=>@ite _ (x.length<=1000000) (cl _) (some ((x.length:Int) != 0)) none
 |.tup ds=>some (!ds.isEmpty)
 |.lst ds=>some (!ds.isEmpty)
 |_=>none
noncomputable def aJ(n:Nat):Bool:=@decide (n<=1000000) (cl _)
noncomputable def jI:Operator->D->D->Option RV
 |.Add,.int i,.int j=>some (.sh (.int (i+j)))
 |.Sub,.int i,.int j=>some (.sh (.int (i-j)))
 |.Mult,.int i,.int j=>@ite _ ((-(2 ^ 64)<i/\i<2 ^ 64)\/(-(2 ^ 64)<j/\j<2 ^ 64)) (cl _) (some (.sh (.int (i*j)))) none
 |.FloorDiv,.int i,.int j=>@ite _ (0<j/\j<nofun) (cl _) (some (.sh (.int (i / j)))) none
 |.Mod,.int i,.int j=>@ite _ (0<j) (cl _) (some (.sh (.int (i % j)))) none
 |.LShift,.int i,.int j=>@ite _ (0<=j/\j<=1000/\i.natAbs<2 ^ 64) (cl _) (some (.sh (.int (i*2 ^ j.toNat)))) none
 |.RShift,.int i,.int j=>@ite _ (0<=j) (cl _) (some (.sh (.int (i / 2 ^ j.toNat)))) none
 |.BitAnd,.int i,.int j=>some (.sh (.int (Builtin.bitAnd i j)))
 |_,_,_=>none
noncomputable def cF:D->Bool
 |.non=>true | .bl _=>true | .int _=>true | .str _=>true
 |_=>false
noncomputable def sS(x:D)(ds:List D):Bool:=ds.any λy=>dN y x
noncomputable def bF(kvs:List (Int×Int))(i:Int):Option Int:=(kvs.find? λp=>decide (p.1=i)).map (·.2)
noncomputable def fN(kvs:List (Int×Int))(n m:Int):List (Int×Int):=if(kvs.any λp=>decide (p.1=n))=true then kvs.map (λp=>if p.1=n then(p.1,m) else p) else kvs++[(n,m)]
noncomputable def inM:D->List (Int×Int)->Option Bool
 |.int i,kvs=>some (bF kvs i).isSome
 |_,_=>none
noncomputable def dH:List D->Option (List Int)
 |[]=>some []
 |.int i::r=>(dH r).map (i :: ·)
 |_=>none
noncomputable def sk1:D->Option L2.qO
 |.tup [.int t,.tup ds]=>(dH ds).map λns=>(t,ns)
 |_=>none
noncomputable def OV:D->Option L2.iX
 |.tup [.tup a,.tup b]=>(sk1 (.tup a)).bind λx=>(sk1 (.tup b)).map λy=>.inr (x,y)
 |d=>(sk1 d).map .inl
noncomputable def aAJ(ks:List L2.iX)(k:L2.iX):Bool:=ks.any λx=>decide (x=k)
noncomputable def aFe(ks:List L2.iX)(k:L2.iX):List L2.iX:=if aAJ ks k then ks else ks++[k]
noncomputable def aFd(ks:List L2.iX)(ds:List J)(k:L2.iX)(d:J):List J:=if aAJ ks k then(ks.zip ds).map (λp=>if p.1=k then d else p.2) else ds++[d]
noncomputable def bV:CmpOp->D->D->Option Bool
 |.Eq,x,y=>if bC 20 x&&bC 20 y then some (dN x y) else none
 |.NotEq,x,y=>if bC 20 x&&bC 20 y then some (!dN x y) else none
 |.Lt,.int i,.int j=>some (decide (i<j))
 |.LtE,.int i,.int j=>some (decide (i<=j))
 |.Gt,.int i,.int j=>some (decide (j<i))
 |.GtE,.int i,.int j=>some (decide (j<=i))
 |.Is,.bl a,.bl b=>some (a==b)
 |.Is,.non,.non=>some true
 |.Is,_,.non=>some false
 |.IsNot,.non,.non=>some false
 |.IsNot,_,.non=>some true
 |.In,x,.tup ds=>if cF x&&ds.all cF then some (sS x ds) else none
 |.In,x,.lst ds=>if cF x&&ds.all cF then some (sS x ds) else none
 |.In,x,.dct kvs=>inM x kvs
 |.NotIn,x,.tup ds=>if cF x&&ds.all cF then some (!sS x ds) else none
 |.NotIn,x,.lst ds=>if cF x&&ds.all cF then some (!sS x ds) else none
 |_,_,_=>none
noncomputable def kR(ds:List D)(i:Int):Option D:=L2.cP ds i
noncomputable def J7:D->D->Option D
 |.tup ds,.int i=>kR ds i
 |.lst ds,.int i=>kR ds i
 |.dct kvs,.int i=>(bF kvs i).map .int
 |.str x,.int i=>@ite _ (x.length<=1000000) (cl _) ((L2.cP x.cps.toList i).map λc=>.str ⟨#[c]⟩) none
 |_,_=>none
noncomputable def wM(ds:List D)(lo hi:Option Int):List D:=(ds.drop (HT.bT ds.length 0 lo)).take (HT.bT ds.length ds.length hi-HT.bT ds.length 0 lo)
noncomputable def mX:Option D->Option (Option Int)
 |none=>some none
 |some (.int i)=>some (some i)
 |_=>none
noncomputable def SF:D->Option Int->Option Int->Option RV
 |.lst ds,lo,hi=>some (.ow (.lst (wM ds lo hi)))
 |.tup ds,lo,hi=>if HT.bT ds.length 0 lo=0/\HT.bT ds.length ds.length hi=ds.length then none else some (.sh (.tup (wM ds lo hi)))
 |_,_,_=>none
noncomputable def aF5:D->Option RV
 |.tup ds=>some (.sh (.tup ds.reverse))
 |.lst ds=>some (.ow (.lst ds.reverse))
 |_=>none
noncomputable def gY:List D->Option (List Bool)
 |[]=>some []
 |.bl b::r=>(gY r).map (b :: ·)
 |_=>none
mutual
noncomputable def eJ:D->PyData
 |.non=>.none
 |.bl b=>.bool b
 |.int i=>.int i
 |.str x=>.str x
 |.tup ds=>.tuple (iH ds)
 |.lst ds=>.list (iH ds)
 |.ins _ _ _=>.none
 |.dct _=>.none
 |.dcs _ _=>.none
 |.dci _ _=>.none
noncomputable def iH:List D->List PyData
 |[]=>[]
 |d::ds=>eJ d::iH ds
end
noncomputable def fV:D->Option (List Int)
 |.tup [.int b,.int r,.tup ds]=>(dH ds).map λns=>b::r::ns
 |_=>none
noncomputable def kD(d:D):List Int:=(fV d).getD []
noncomputable def xJ(x:D):List D->List D
 |[]=>[x]
 |y::l=>if HT.bU (kD y) (kD x) then y::xJ x l else x::y::l
noncomputable def jK(ds:List D):List D:=ds.foldr xJ []
noncomputable def xG(x:Int):List Int->List Int
 |[]=>[x]
 |y::l=>if y<x then y::xG x l else x::y::l
noncomputable def iQ(ns:List Int):List Int:=ns.foldr xG []
noncomputable def x5(ds:List D):Option RV:=(dH ds).bind λns=>if ns.length<64 then some (.ow (.lst ((iQ ns).map .int))) else none
noncomputable def nL:BI->List D->Option RV
 |.len,[.lst ds]=>some (.sh (.int ds.length))
 |.len,[.tup ds]=>some (.sh (.int ds.length))
 |.len,[.dct kvs]=>some (.sh (.int kvs.length))
 |.len,[.str x]=>@ite _ (x.length<=1000000) (cl _) (some (.sh (.int x.length))) none
 |.abs,[.int i]=>some (.sh (.int (if i<0 then -i else i)))
 |.int,[.int i]=>some (.sh (.int i))
 |.int,[.bl b]=>some (.sh (.int (if b then 1 else 0)))
 |.tuple,[.lst ds]=>some (.sh (.tup ds))
 |.tuple,[.tup ds]=>some (.sh (.tup ds))
 |.all,[.lst ds]=>(gY ds).map λbs=>.sh (.bl (bs.all id))
 |.sorted,[.lst ds]=>if(ds.all λd=>(fV d).isSome)=true then some (.ow (.lst (jK ds))) else x5 ds
 |_,_=>none
noncomputable def IK:Ty->D->Option Bool
 |.int,d=>match d with
  |.int _=>some true | .bl _=>some true | .non=>some false | .str _=>some false | .tup _=>some false | .lst _=>some false
  |_=>none
 |.bool,d=>match d with
  |.bl _=>some true | .int _=>some false | .non=>some false | .str _=>some false | .tup _=>some false | .lst _=>some false
  |_=>none
 |.tuple,d=>match d with
  |.tup _=>some true | .bl _=>some false | .int _=>some false | .non=>some false | .lst _=>some false | .str _=>some false
  |_=>none
noncomputable def uV:List Ty->D->Option Bool
 |[],_=>some false
 |t::r,d=>(IK t d).bind λb=>(uV r d).map λc=>b||c
noncomputable def aEI:D->Option RV
 |.lst ds=>match dH ds with
  |some is=>@ite _ (is.length<=1000) (cl _) (some (.sh (.int (PyProof.Rows.firstMet (λi=>is.getD i 0) is.length).length))) none
  |none=>none
 |_=>none
noncomputable def QL:D->Str->Option D
 |.ins _ ns ds,f=>(ns.zip ds).lookup f
 |_,_=>none
noncomputable def fK(c:Str)(ns:List Str)(m:Str)(tb:List (Str×String)):Option String:=if ns.contains m then none else tb.lookup c
noncomputable def bL(t:Bool)(r:aR RV):aR RV :=
 match t with
 |false=>r
 |true=>r.bind λv U=>(iJ v.d).map λb=>(.ok (.sh (.bl b)),U)
noncomputable def hd(e:E)(r:aR RV)(U:Env):aR Hd :=
 match e with
 |.var i=>if((U[i]?).bind Sl.get).isSome then some (.ok (.slot i),U) else none
 |_=>r.bind λv U'=>some (.ok (.val v.low),U')
noncomputable def A9:E->Bool
 |.omt=>true
 |_=>false
noncomputable def wF(e:E)(r:aR RV)(U:Env):aR (Option D) :=
 if A9 e then some (.ok none,U) else r.bind λv U'=>some (.ok (some v.d),U')
noncomputable def rC(op:Operator)(x:Hd)(d:D):Bool :=
 match op,d with
 |.Mult,.lst _=>match x with
  |.val (.ow _)=>true
  |_=>false
 |_,_=>true
noncomputable def iU(U:Env)(i:Nat):Bool :=
 match U[i]? with
 |some (.ow (.lst _) _ _)=>true
 |_=>false
noncomputable def aGB(U:Env)(i:Nat):Bool :=
 match U[i]? with
 |some (.ow (.dcs _ _) _ _)=>true
 |_=>false
noncomputable def x9(U:Env)(i:Nat):Bool :=
 match U[i]? with
 |some (.ow (.dct _) _ _)=>true
 |_=>false
noncomputable def vW(i:Nat)(U:Env):aR RV :=
 match U[i]? with
 |some (.sh d)=>some (.ok (.sh d),U)
 |some (.ow d false false)=>some (.ok (.sh d),U.set i (.sh d))
 |_=>none
noncomputable def done(o:Option RV)(U:Env):aR RV:=o.map λv=>(.ok v,U)
noncomputable def store(i:Nat)(v:RV)(U:Env):Option Env :=
 match U[i]? with
 |none=>none
 |some (.ow _ true _)=>none
 |some (.ow _ _ true)=>none
 |some _=>match v with
  |.sh d=>some (U.set i (.sh d))
  |.ow d=>some (U.set i (.ow d false false))
  |.od _=>none
noncomputable def dY:List Nat->List D->Env->Option Env
 |[],[],U=>some U
 |i::is,d::ds,U=>(store i (.sh d) U).bind (dY is ds)
 |_,_,_=>none
noncomputable def aT(one:Bool)(tg:List Nat)(d:D)(U:Env):Option Env :=
 match one,tg,d with
 |true,[i],d=>store i (.sh d) U
 |false,is,.tup ds=>dY is ds U
 |_,_,_=>none
abbrev Calls:=String->List Sl->aR RV
noncomputable def bS(pins:List Bool)(hs:List Hd)(U:Env):Option (List Sl×Env) :=
 match pins,hs with
 |[],[]=>some ([],U)
 |p::ps,.val (.sh d)::r=>(bS ps r U).map λ(as,U')=>(.sh d::as,U')
 |p::ps,.val (.ow d)::r=>(bS ps r U).map λ(as,U')=>((if p then .ow d true false else .sh d)::as,U')
 |p::ps,.slot i::r =>
  match U[i]? with
  |some (.sh d)=>(bS ps r U).map λ(as,U')=>(.sh d::as,U')
  |some (.ow d pin lk) =>
   match p with
   |true=>(bS ps r (U.set i .un)).map λ(as,U')=>(.ow d true lk::as,U')
   |false=>if pin||lk then none else(bS ps r (U.set i (.sh d))).map λ(as,U')=>(.sh d::as,U')
  |_=>none
 |_,_=>none
noncomputable def bI(pins:List Bool)(hs:List Hd)(as:List Sl)(U0 U:Env):Option Env :=
 match pins,hs,as with
 |[],[],[]=>some U
 |true::ps,.slot i::r,a::as =>
  match U0[i]?,a with
  |some (.ow _ pin lk),.ow d _ _=>bI ps r as U0 (U.set i (.ow d pin lk))
  |some (.ow _ _ _),_=>none
  |_,_=>bI ps r as U0 U
 |_::ps,_::r,_::as=>bI ps r as U0 U
 |_,_,_=>none
noncomputable def eI(pins:List Bool)(f:List Sl->aR RV)(hs:List Hd)(U:Env):aR RV :=
 match bS pins hs U with
 |none=>none
 |some (as,U1) =>
  match f as with
  |none=>none
  |some (o,as')=>(bI pins hs as' U U1).map λU'=>(o,U')
noncomputable def bZ(lo:Int)(ds:List D):List D:=(List.range ds.length).map λ(j:Nat)=>.tup [.int (lo+(j:Int)),ds.getD j .non]
noncomputable def AY(x:Str):List D:=x.cps.toList.map λc=>.str ⟨#[c]⟩
noncomputable def aD(k:ItK)(hs:List Hd)(U:Env):Option (List D×Option Nat) :=
 match k,hs with
 |.rng,[a]=>match a.get U with
  |some (.int n)=>@ite _ (-1000000<=n/\n<=1000000) (cl _) (some ((List.range n.toNat).map λ(j:Nat)=>.int (j:Int),none)) none
  |_=>none
 |.rng,[a,b]=>match a.get U,b.get U with
  |some (.int m),some (.int n)=>@ite _ ((-1000000<=m/\m<=1000000)/\(-1000000<=n/\n<=1000000)) (cl _) (some ((List.range (n-m).toNat).map λ(j:Nat)=>.int (m+(j:Int)),none)) none
  |_,_=>none
 |.enum lo,[.slot i]=>match U[i]? with
  |some (.ow (.lst ds) _ _)=>some (bZ lo ds,some i)
  |some (.sh (.lst ds))=>some (bZ lo ds,none)
  |_=>none
 |.enum lo,[.val v]=>match v.d with
  |.lst ds=>some (bZ lo ds,none)
  |_=>none
 |.of,[.slot i]=>match U[i]? with
  |some (.ow (.lst ds) _ _)=>some (ds,some i)
  |some (.sh (.lst ds))=>some (ds,none)
  |some (.sh (.tup ds))=>some (ds,none)
  |_=>none
 |.of,[.val v]=>match v.d with
  |.lst ds=>some (ds,none)
  |.tup ds=>some (ds,none)
  |_=>none
 |_,_=>none
noncomputable def aK(o:Option Nat)(U:Env):Env :=
 match o with
 |none=>U
 |some i=>U.set i .un
noncomputable def cQ(o:Option Nat)(U0 U:Env):Option Env :=
 match o with
 |none=>some U
 |some i=>match U[i]?,U0[i]? with
  |some .un,some sl=>some (U.set i sl)
  |_,_=>none
noncomputable def d7(tests:Env->aR RV)(elt:Env->aR RV)(bind:D->Env->Option Env):List D->List D->Env->aR (List D)
 |[],acc,U=>some (.ok acc,U)
 |d::ds,acc,U=>match bind d U with
  |none=>none
  |some U1=>(tests U1).bind λc U2=>match c with
   |.sh (.bl true)=>(elt U2).bind λv U3=>d7 tests elt bind ds (acc++[v.d]) U3
   |.sh (.bl false)=>d7 tests elt bind ds acc U2
   |_=>none
noncomputable def back:List Sl->Env->List Sl
 |.ow _ _ _::as,b::bs=>b::back as bs
 |a::as,_::bs=>a::back as bs
 |_,_=>[]
noncomputable def k7:Sl->Bool
 |.ow _ p _=>p
 |.sh _=>true
 |_=>false
noncomputable def mM(tests:Env->aR RV)(elt:Env->aR RV)(bind:D->Env->Option Env)(ds:List D)(nl:Nat)(as:List Sl):aR RV :=
 if as.all k7=true then(d7 tests elt bind ds [] (as++List.replicate nl .un)).bind λacc Ui =>
  if aJ acc.length then some (.ok (.ow (.lst acc)),back as Ui) else none
 else none
noncomputable def gZ(o:Option Nat)(U1:Env)(v:RV)(U2:Env):aR RV:=(cQ o U1 U2).map λU'=>(.ok v,U')
structure Fn where
 pins:List Bool
 nl:Nat
 body:List S
 rs:Bool
abbrev aW:=String->List Bool
noncomputable def dsO(k:Option L2.iX)(u:RV)(U:Env):aR RV :=
 match k with
 |some k=>some (.ok (.ow (.dcs [k] [u.d])),U)
 |none=>none
mutual
noncomputable def ev(P:aW)(C:Calls)(t:Bool):E->Env->aR RV
 |.bad,_=>none
 |.omt,_=>none
 |.var i,U=>match t with
  |true=>bL true (((U[i]?).bind Sl.get).map λd=>(.ok (.sh d),U))
  |false=>vW i U
 |.con d,U=>bL t (some (.ok (.sh d),U))
 |.tup es,U=>bL t ((mB P C es U).bind λds U'=>if aJ ds.length then some (.ok (.sh (.tup ds)),U') else none)
 |.lst es,U=>bL t ((mB P C es U).bind λds U'=>if aJ ds.length then some (.ok (.ow (.lst ds)),U') else none)
 |.bin op a b,U=>bL t ((hd a (ev P C false a U) U).bind λx U1=>(hd b (ev P C false b U1) U1).bind λy U2 =>
   done ((x.get U2).bind λd=>(y.get U2).bind λe=>if rC op x d then jI op d e else none) U2)
 |.neg a,U=>bL t ((ev P C false a U).bind λv U1=>match v.d with
  |.int i=>some (.ok (.sh (.int (-i))),U1)
  |_=>none)
 |.not a,U=>match t with
  |true=>(ev P C true a U).bind λv U1=>match v with
   |.sh (.bl b)=>some (.ok (.sh (.bl (!b))),U1)
   |_=>none
  |false=>(hd a (ev P C false a U) U).bind λx U1=>done ((x.get U1).bind λd=>(iJ d).map λb=>.sh (.bl (!b))) U1
 |.cmp op a b,U=>(hd a (ev P C false a U) U).bind λx U1=>(hd b (ev P C false b U1) U1).bind λy U2 =>
   done ((x.get U2).bind λd=>(y.get U2).bind λe=>(bV op d e).map λb=>.sh (.bl b)) U2
 |.cmp2 op op' a b c,U=>(hd a (ev P C false a U) U).bind λx U1=>(hd b (ev P C false b U1) U1).bind λy U2 =>
   match (x.get U2).bind λd=>(y.get U2).bind λe=>bV op d e with
   |none=>none
   |some false=>some (.ok (.sh (.bl false)),U2)
   |some true=>(hd c (ev P C false c U2) U2).bind λz U3 =>
    done ((y.get U3).bind λd=>(z.get U3).bind λe=>(bV op' d e).map λb=>.sh (.bl b)) U3
 |.and a b,U=>(ev P C t a U).bind λv U1=>match v with
  |.sh (.bl true)=>ev P C t b U1
  |.sh (.bl false)=>some (.ok (.sh (.bl false)),U1)
  |_=>none
 |.or a b,U=>(ev P C t a U).bind λv U1=>match v with
  |.sh (.bl true)=>some (.ok (.sh (.bl true)),U1)
  |.sh (.bl false)=>ev P C t b U1
  |_=>none
 |.ite c a b,U=>(ev P C true c U).bind λv U1=>match v with
  |.sh (.bl true)=>ev P C t a U1
  |.sh (.bl false)=>ev P C t b U1
  |_=>none
 |.ix a i,U=>bL t ((hd a (ev P C false a U) U).bind λx U1=>(ev P C false i U1).bind λk U2 =>
   done ((x.get U2).bind λd=>(J7 d k.d).map .sh) U2)
 |.sl a lo hi,U=>bL t ((hd a (ev P C false a U) U).bind λx U1 =>
   (wF lo (ev P C false lo U1) U1).bind λl U2=>(wF hi (ev P C false hi U2) U2).bind λh U3 =>
   done ((x.get U3).bind λd=>(mX l).bind λl=>(mX h).bind λh=>SF d l h) U3)
 |.rev a,U=>bL t ((hd a (ev P C false a U) U).bind λx U1=>done ((x.get U1).bind aF5) U1)
 |.call f es,U=>bL t ((cD P C es U).bind λhs U1=>eI (P f) (C f) hs U1)
 |.bif f es,U=>bL t ((cD P C es U).bind λhs U1=>done ((getAll hs U1).bind (nL f)) U1)
 |.isi a ts,U=>bL t ((hd a (ev P C false a U) U).bind λx U1 =>
   done ((x.get U1).bind λd=>(uV ts d).map λb=>.sh (.bl b)) U1)
 |.app i a,U=>bL t (if iU U i then(ev P C false a U).bind λv U1=>match U1[i]? with
  |some (.ow (.lst ds) p false)=>if aJ (ds.length+1) then some (.ok (.sh .non),U1.set i (.ow (.lst (ds++[v.d])) p false)) else none
  |_=>none
  else none)
 |.insr i k a,U=>bL t (if iU U i then(ev P C false k U).bind λj U1=>(ev P C false a U1).bind λv U2=>match U2[i]?,j with
  |some (.ow (.lst ds) p false),.sh (.int n)=>@ite _ ((0<=n/\n<=1000000)/\aJ (ds.length+1)=true) (cl _) (some (.ok (.sh .non),U2.set i (.ow (.lst (ds.take n.toNat++v.d::ds.drop n.toNat)) p false))) none
  |_,_=>none
  else none)
 |.dict kvs,U=>bL t (some (.ok (.ow (.dct kvs)),U))
 |.dict0,_=>none
 |.dict1 a b,U=>bL t ((ev P C false a U).bind λv U1=>(ev P C false b U1).bind λu U2=>dsO (OV v.d) u U2)
 |.ext i a,U=>bL t (if iU U i then(ev P C false a U).bind λv U1=>match U1[i]?,v with
  |some (.ow (.lst ds) p false),.ow (.lst es)=>if aJ (ds.length+es.length) then some (.ok (.sh .non),U1.set i (.ow (.lst (ds++es)) p false)) else none
  |_,_=>none
  else none)
 |.frz i,U=>bL t (vW i U)
 |.mkset _,_=>none
 |.nset a,U=>bL t ((hd a (ev P C false a U) U).bind λx U1=>done ((x.get U1).bind aEI) U1)
 |.fld a f,U=>bL t ((hd a (ev P C false a U) U).bind λx U1=>done ((x.get U1).bind λd=>(QL d f).map .sh) U1)
 |.make c ns es,U=>bL t ((mB P C es U).bind λds U1=>if ds.length=ns.length then some (.ok (.sh (.ins c ns ds)),U1) else none)
 |.meth i m tb es,U=>bL t (match U[i]? with
  |some (.sh (.ins c ns ds))=>(match fK c ns m tb with
   |some f=>(cD P C es U).bind λhs U1=>eI (P f) (C f) (.val (.sh (.ins c ns ds))::hs) U1
   |none=>none)
  |_=>none)
 |.comp elt tg k its cond imp nl,U=>bL t ((cD P C its U).bind λhs U1 =>
   match aD k hs U1 with
   |none=>none
   |some (ds,o)=>(eI (imp.map λ_=>true) (mM (cR P C cond) (ev P C false elt) (aT (tg.length==1) tg) ds nl) (imp.map Hd.slot) (aK o U1)).bind (gZ o U1))
noncomputable def mB(P:aW)(C:Calls):List E->Env->aR (List D)
 |[],U=>some (.ok [],U)
 |e::es,U=>(ev P C false e U).bind λv U1=>(mB P C es U1).bind λds U2=>some (.ok (v.d::ds),U2)
noncomputable def cD(P:aW)(C:Calls):List E->Env->aR (List Hd)
 |[],U=>some (.ok [],U)
 |e::es,U=>(hd e (ev P C false e U) U).bind λv U1=>(cD P C es U1).bind λds U2=>some (.ok (v::ds),U2)
noncomputable def cR(P:aW)(C:Calls):List E->Env->aR RV
 |[],U=>some (.ok (.sh (.bl true)),U)
 |e::es,U=>(ev P C true e U).bind λv U1=>match v with
  |.sh (.bl true)=>cR P C es U1
  |.sh (.bl false)=>some (.ok (.sh (.bl false)),U1)
  |_=>none
end
mutual
noncomputable def TJ(P:aW)(C:Calls):E->Env->Option (Exc×Env)
 |.call f es,U=>match cD P C es U with
  |some (.ok hs,U1)=>match eI (P f) (C f) hs U1 with
   |some (.ex x,U')=>some (x,U')
   |_=>none
  |_=>Z1 P C es U
 |_,_=>none
noncomputable def Z1(P:aW)(C:Calls):List E->Env->Option (Exc×Env)
 |[],_=>none
 |e::es,U=>match hd e (ev P C false e U) U with
  |some (.ok _,U1)=>Z1 P C es U1
  |_=>TJ P C e U
end
inductive Fl where
 |nx | bk | ct | rt (v:RV) | ex (e:Exc)
abbrev cJ:=Option (Fl×Env)
noncomputable def aR.flow(r:aR J)(f:J->Env->cJ):cJ :=
 match r with
 |none=>none
 |some (.ex e,U)=>some (.ex e,U)
 |some (.ok a,U)=>f a U
noncomputable def cJ.next(r:cJ)(f:Env->cJ):cJ :=
 match r with
 |some (.nx,U)=>f U
 |r=>r
noncomputable def cJ.restore(r:cJ)(o:Option Nat)(U0:Env):cJ :=
 match r with
 |none=>none
 |some (fl,U)=>(cQ o U0 U).map λU'=>(fl,U')
noncomputable def kL(o:Option Env):cJ:=o.map λU=>(.nx,U)
noncomputable def cB(bind:D->Env->Option Env)(body:Env->cJ):List D->Env->cJ
 |[],U=>some (.nx,U)
 |d::ds,U=>match bind d U with
  |none=>none
  |some U1=>match body U1 with
   |some (.nx,U2)=>cB bind body ds U2
   |some (.ct,U2)=>cB bind body ds U2
   |some (.bk,U2)=>some (.nx,U2)
   |r=>r
noncomputable def HM(test:Env->aR RV)(body:Env->cJ):Nat->Env->cJ
 | 0,_=>none
 |n+1,U=>(test U).flow λv U1=>match v with
  |.sh (.bl true)=>match body U1 with
   |some (.nx,U2)=>HM test body n U2
   |some (.ct,U2)=>HM test body n U2
   |some (.bk,U2)=>some (.nx,U2)
   |r=>r
  |.sh (.bl false)=>some (.nx,U1)
  |_=>none
noncomputable def aAT(i:Nat)(U:Env)(o:Option Sl)(k:Option L2.iX)(v:RV):cJ :=
 match o,k with
 |some (.ow (.dcs ks ds) p false),some k=>if aJ (ks.length+1) then some (.nx,U.set i (.ow (.dcs (aFe ks k) (aFd ks ds k v.d)) p false)) else none
 |_,_=>none
noncomputable def evG(P:aW)(C:Calls)(elt:Env->aR RV)(tg:List Nat)(k:ItK)(its cond:List E)(imp:List Nat)(nl:Nat)(U:Env):aR RV :=
 (cD P C its U).bind λhs U1 =>
   match aD k hs U1 with
   |none=>none
   |some (ds,o)=>(eI (imp.map λ_=>true) (mM (cR P C cond) elt (aT (tg.length==1) tg) ds nl) (imp.map Hd.slot) (aK o U1)).bind (gZ o U1)
noncomputable def aG1(U:Env):Bool:=U.all λs=>match s with | .ow _ _ _=>false | _=>true
noncomputable def fz1(n:Nat)(U:Env):Env :=
 match U[n]? with
 |some (.ow d false false)=>U.set n (.sh d)
 |_=>U
noncomputable def frz:Nat->Env->Env
 | 0,U=>U
 |n+1,U=>fz1 n (frz n U)
noncomputable def aGU(i j:Nat)(U:Env)(e c:Env->aR RV):cJ :=
 match e (frz U.length U) with
 |some (.ok (.od (.lst ds)),U1)=>@ite _ (U1=frz U.length U/\aG1 U1=true/\ds.length<=1000/\i<U1.length/\j<U1.length/\c (U1.set i (.sh (.lst ds)))=some (.ok (.sh (.bl false)),U1.set i (.sh (.lst ds)))) (cl _) (some (.nx,(U1.set i .mv).set j .mv)) none
 |_=>none
mutual
noncomputable def ex(P:aW)(C:Calls)(W:Nat):S->Env->cJ
 |.bad,_=>none
 |.pass,U=>some (.nx,U)
 |.brk,U=>some (.bk,U)
 |.cnt,U=>some (.ct,U)
 |.asg i e,U=>(ev P C false e U).flow λv U1=>kL (store i v U1)
 |.asgT is e,U=>(ev P C false e U).flow λv U1=>kL (aT false is v.d U1)
 |.set i k e,U=>(ev P C false e U).flow λv U1=>if iU U1 i then(ev P C false k U1).flow λj U2=>match U2[i]?,j.d with
  |some (.ow (.lst ds) p false),.int n=>kL ((L2.kS ds.length n).map λm=>U2.set i (.ow (.lst (ds.set m v.d)) p false))
  |_,_=>none
  else if x9 U1 i then(ev P C false k U1).flow λj U2=>match U2[i]?,j,v with
  |some (.ow (.dct kvs) p false),.sh (.int n),.sh (.int m)=>if aJ (kvs.length+1) then some (.nx,U2.set i (.ow (.dct (fN kvs n m)) p false)) else none
  |_,_,_=>none
  else none
 |.expr e,U=>(ev P C false e U).flow λ_ U1=>some (.nx,U1)
 |.ret e,U=>match e with
  |.var i=>match U[i]? with
   |some (.ow d false _)=>some (.rt (.ow d),U.set i .mv)
   |some (.sh d)=>some (.rt (.sh d),U)
   |_=>none
  |e=>(ev P C false e U).flow λv U1=>some (.rt v,U1)
 |.retN,U=>some (.rt (.sh .non),U)
 |.ifs c a b,U=>(ev P C true c U).flow λv U1=>match v with
  |.sh (.bl true)=>exs P C W a U1
  |.sh (.bl false)=>exs P C W b U1
  |_=>none
 |.for tg one k its body,U=>(cD P C its U).flow λhs U1 =>
  match aD k hs U1 with
  |none=>none
  |some (ds,o)=>(cB (aT one tg) (exs P C W body) ds (aK o U1)).restore o U1
 |.whl c body,U=>HM (ev P C true c) (exs P C W body) W U
 |.rse _ _,_=>none
 |.rsi _ _,_=>none
 |.scr i j e c,U=>aGU i j U (ev P C false e) (ev P C true c)
noncomputable def exs(P:aW)(C:Calls)(W:Nat):List S->Env->cJ
 |[],U=>some (.nx,U)
 |s::r,U=>(ex P C W s U).next (exs P C W r)
noncomputable def exX(P:aW)(C:Calls)(W:Nat):S->Env->Option (Exc×Env)
 |.asg _ e,U=>TJ P C e U
 |.expr e,U=>TJ P C e U
 |.ret e,U=>TJ P C e U
 |.rse c es,U=>match mB P C es U with
  |some (.ok _,U1)=>some (⟨c,none⟩,U1)
  |_=>none
 |.ifs c a b,U=>match ev P C true c U with
  |some (.ok (.sh (.bl true)),U1)=>HN P C W a U1
  |some (.ok (.sh (.bl false)),U1)=>HN P C W b U1
  |_=>none
 |_,_=>none
noncomputable def HN(P:aW)(C:Calls)(W:Nat):List S->Env->Option (Exc×Env)
 |[],_=>none
 |s::r,U=>match ex P C W s U with
  |some (.nx,U1)=>HN P C W r U1
  |_=>exX P C W s U
end
abbrev pC:=String->Option Fn
noncomputable def pC.pins(T:pC):aW:=λf=>match T f with
 |some fn=>fn.pins
 |none=>[]
noncomputable def run(T:pC)(W:Nat):Nat->Calls
 | 0=>λ_ _=>none
 |n+1=>λf as=>match T f with
  |none=>none
  |some fn=>if as.length=fn.pins.length/\as.all k7=true then
    match exs T.pins (run T W n) W fn.body (as++List.replicate fn.nl .un) with
    |some (.nx,U)=>some (.ok (.sh .non),back as U)
    |some (.rt v,U)=>some (.ok v,back as U)
    |_=>if fn.rs then match HN T.pins (run T W n) W fn.body (as++List.replicate fn.nl .un) with
     |some (x,U)=>some (.ex x,back as U)
     |none=>none
     else none
   else none
end
end CI
namespace CI
open PySem PySem.Spec PyProof.Rows L2
abbrev St:=L2.St
abbrev Sm(G G':Hp):Prop:=aV G G'
def Sm.of(s:aV G G'):Sm G G':=s
theorem Sm.refl(G:Hp):Sm G G:=aV.refl G
theorem Sm.trans(a:Sm G G1)(b:Sm G1 G2):Sm G G2:=aV.trans a b
theorem Sm.seq{K:Frag}(e:Sm G G')(h:bX K G a xs):bX K G' a xs:=aV.seq e h
def Sm.app(s:Sm G G')(n:∀x,o≠.own x)(h:G b=some o):G' b=some o:=s b o h
structure ClsF(K:Frag)(C:Addr)(ns:List Str):Prop where
 cl:Cls K C
 no:∀f∈ns,kI K C f
noncomputable def lV(kvs:List (Int×Int)):List (cV×V):=kvs.map λp=>(Sum.inl p.1,.int p.2)
def S4(K:Frag)(G:Hp)(C:Addr)(p:Option Addr)(n:Option Int):Prop:=True
def S4.mono{K:Frag}(s:Sm G G'){n:Option Int}(h:S4 K G C p n):S4 K G' C p n:=trivial
mutual
def aC(K:Frag)(G:Hp):D->V->Prop
 |.non,v=>v=.non
 |.bl b,v=>v=.bl b
 |.int i,v=>v=.int i
 |.str x,v=>v=.str x/\PyData.strOk x=true
 |.tup ds,v=>∃a vs,v=.ref a/\dC K G a vs/\aB K G ds vs
 |.lst ds,v=>∃a vs,v=.ref a/\bX K G a vs/\aB K G ds vs
 |.ins c ns ds,v=>∃a C dx vs,v=.ref a/\nsIn K mainGlobals c=some (some (.ref C))/\G a=some (.ins C dx (ns.zip vs))/\aB K G ds vs/\ClsF K C ns/\ns.length=vs.length
 |.dct kvs,v=>∃a,v=.ref a/\G a=some (.dK (lV kvs))
 |.dcs ks ds,v=>False
 |.dci _ _,v=>False
def aB(K:Frag)(G:Hp):List D->List V->Prop
 |[],vs=>vs=[]
 |d::ds,vs=>∃v r,vs=v::r/\aC K G d v/\aB K G ds r
end
def dE{K:Frag}(s:Sm G G')(h:dC K G a vs):dC K G' a vs:=by
 rcases h with (h | ⟨o,h⟩) | h
 ·exact .inl (.inl (s.app (λ_ z=>nomatch z) h))
 ·exact .inl (.inr ⟨o,s.app (λ_ z=>nomatch z) h⟩)
 ·exact .inr h
mutual
theorem aC.mono{K:Frag}(s:Sm G G'):∀(d:D) {v:V},aC K G d v->aC K G' d v
 |.non,_,h=>by simpa[aC] using h
 |.bl _,_,h=>by simpa[aC] using h
 |.int _,_,h=>by simpa[aC] using h
 |.str _,_,h=>by simpa[aC] using h
 |.tup ds,_,h=>by
  simp only[aC] at h ⊢;obtain⟨a,vs,e,h1,h2⟩:=h;exact⟨a,vs,e,dE s h1,aB.mono s ds h2⟩
 |.lst ds,_,h=>by
  simp only[aC] at h ⊢;obtain⟨a,vs,e,h1,h2⟩:=h;exact⟨a,vs,e,s.seq h1,aB.mono s ds h2⟩
 |.ins c ns ds,_,h=>by
  simp only[aC] at h ⊢;obtain⟨a,C,dx,vs,e,h1,h2,h3,h4,h5⟩:=h;exact⟨a,C,dx,vs,e,h1,s.app (λ_ z=>nomatch z) h2,aB.mono s ds h3,h4,h5⟩
 |.dct kvs,_,h=>by
  simp only[aC] at h ⊢;obtain⟨a,e,h1⟩:=h;exact⟨a,e,s.app (λ_ z=>nomatch z) h1⟩
 |.dcs ks ds,_,h=>by simp only[aC] at h
 |.dci _ _,_,h=>by simp only[aC] at h
theorem aB.mono{K:Frag}(s:Sm G G'):∀(ds:List D) {vs:List V},aB K G ds vs->aB K G' ds vs
 |[],_,h=>by simpa[aB] using h
 |d::ds,_,h=>by(simp only[aB] at h ⊢;obtain⟨v,r,e,h1,h2⟩:=h;exact⟨v,r,e,aC.mono s d h1,aB.mono s ds h2⟩)
end
theorem aB.len{K:Frag}:∀{ds:List D} {vs:List V},aB K G ds vs->vs.length=ds.length
 |[],_,h=>by simp only[aB] at h;subst h;rfl
 |d::ds,_,h=>by(simp only[aB] at h;obtain⟨v,r,rfl,_,h2⟩:=h;simp[aB.len h2])
def aB.nil{K:Frag}:aB K G [] []:=by simp[aB]
def aB.cons{K:Frag}{G:Hp}{d:D}{ds:List D}{v:V}{vs:List V}(h:aC K G d v)(t:aB K G ds vs):aB K G (d::ds) (v::vs):=by
 simp only[aB];exact⟨v,vs,rfl,h,t⟩
theorem aB.app{K:Frag}:∀{ds es:List D} {vs ws:List V},aB K G ds vs->aB K G es ws->aB K G (ds++es) (vs++ws)
 |[],_,_,_,h,h'=>by simp only[aB] at h;subst h;exact h'
 |d::ds,_,_,_,h,h'=>by(simp only[aB] at h;obtain⟨v,r,rfl,h1,h2⟩:=h;exact aB.cons h1 (aB.app h2 h'))
theorem aB.rev{K:Frag}:∀{ds:List D} {vs:List V},aB K G ds vs->aB K G ds.reverse vs.reverse
 |[],vs,h=>by
  cases (show vs=[] from h);exact(show aB K G [] [] from rfl)
 |d::ds,vs,h=>by
  obtain⟨v,r,rfl,h1,h2⟩:=(show ∃v r,vs=v::r/\aC K G d v/\aB K G ds r from h)
  rw[List.reverse_cons,List.reverse_cons];exact h2.rev.app (show aB K G [d] [v] from⟨v,[],rfl,h1,rfl⟩)
theorem aB.get{K:Frag}:∀{ds:List D} {vs:List V} {i:Nat} {d:D},aB K G ds vs->ds[i]?=some d->∃v,vs[i]?=some v/\aC K G d v
 |[],_,_,_,_,e=>by simp at e
 |d::ds,_,0,_,h,e=>by
  simp only[aB] at h;obtain⟨v,r,rfl,h1,h2⟩:=h;simp at e;subst e;exact⟨v,rfl,h1⟩
 |d::ds,_,i+1,_,h,e=>by
  simp only[aB] at h;obtain⟨v,r,rfl,h1,h2⟩:=h
  have:=aB.get h2 (by simpa using e)
  simpa using this
theorem aB.set{K:Frag}(hv:aC K G d v):∀{ds:List D} {vs:List V} (i:Nat),aB K G ds vs->aB K G (ds.set i d) (vs.set i v)
 |[],_,_,h=>by simp only[aB] at h;subst h;simp[aB]
 |e::ds,_,0,h=>by
  simp only[aB] at h;obtain⟨u,r,rfl,h1,h2⟩:=h;exact aB.cons hv h2
 |e::ds,_,i+1,h=>by(simp only[aB] at h;obtain⟨u,r,rfl,h1,h2⟩:=h;exact aB.cons h1 (aB.set hv i h2))
theorem aB.take{K:Frag}:∀{ds:List D} {vs:List V} (n:Nat),aB K G ds vs->aB K G (ds.take n) (vs.take n)
 |_,_,0,_=>by simp[aB]
 |[],_,_+1,h=>by simp only[aB] at h;subst h;simp[aB]
 |e::ds,_,n+1,h=>by(simp only[aB] at h;obtain⟨u,r,rfl,h1,h2⟩:=h;exact aB.cons h1 (aB.take n h2))
theorem aB.drop{K:Frag}:∀{ds:List D} {vs:List V} (n:Nat),aB K G ds vs->aB K G (ds.drop n) (vs.drop n)
 |_,_,0,h=>h
 |[],_,_+1,h=>by simp only[aB] at h;subst h;simp[aB]
 |e::ds,_,n+1,h=>by(simp only[aB] at h;obtain⟨u,r,rfl,h1,h2⟩:=h;exact aB.drop n h2)
theorem aB.rep{K:Frag}(h:aB K G ds vs):∀n,aB K G (List.replicate n ds).flatten (List.replicate n vs).flatten
 | 0=>aB.nil
 |n+1=>by(rw[List.replicate_succ,List.replicate_succ,List.flatten_cons,List.flatten_cons];exact aB.app h (aB.rep h n))
def fJ(K:Frag)(H G:Hp)(a:Addr):D->Prop
 |.lst ds=>∃vs,H a=some (.lst vs)/\aB K G ds vs
 |.dct kvs=>H a=some (.dK (lV kvs))
 |_=>False
def aH(U:Env)(Y:St)(a:Addr):Prop:=∃(i:Nat) (d:D) (p l:Bool),U[i]?=some (.ow d p l)/\Y[i]?=some (some (.ref a))
structure aN(K:Frag)(U:Env)(Y:St)(H G:Hp):Prop where
 len:U.length=Y.length
 sub:aV G H
 sh:∀(i:Nat) (d:D),U[i]?=some (.sh d)->∃v,Y[i]?=some (some v)/\aC K G d v
 ow:∀(i:Nat) (d:D) (p l:Bool),U[i]?=some (.ow d p l)->∃a,Y[i]?=some (some (.ref a))/\G a=none/\fJ K H G a d
 inj:∀(i j:Nat) (d:D) (p l:Bool) (d':D) (p' l':Bool) (a:Addr),U[i]?=some (.ow d p l)->U[j]?=some (.ow d' p' l')->Y[i]?=some (some (.ref a))->Y[j]?=some (some (.ref a))->i=j
structure Ext(own:Addr->Prop)(H G H' G':Hp):Prop where
 gg:Sm G G'
 hh:∀a o,H a=some o->¬own a->H' a=some o
 hx:∀a,H' a=none->H a=none
 gn:∀a,H a≠none->G a=none->¬own a->G' a=none
theorem Ext.refl:Ext own H G H G:=⟨Sm.refl _,λ_ _ h _=>h,λ_ h=>h,λ_ _ h _=>h⟩
theorem Ext.trans(a:Ext own H G H1 G1)(w:∀x,own1 x->own x\/H x=none)(b:Ext own1 H1 G1 H2 G2):Ext own H G H2 G2:=by
 refine⟨a.gg.trans b.gg,λx o h n=>?_,λx h=>a.hx x (b.hx x h),λx h g n=>?_⟩
 ·refine b.hh x o (a.hh x o h n) λz=>?_
  rcases w x z with z | z
  ·exact n z
  ·rw[h] at z;cases z
 ·have h1:H1 x≠none:=λz=>h (a.hx x z)
  refine b.gn x h1 (a.gn x h g n) λz=>?_
  rcases w x z with z | z
  ·exact n z
  ·exact h z
def Ext.weaken(a:Ext own H G H1 G1)(w:∀x,own x->own' x):Ext own' H G H1 G1 :=
 ⟨a.gg,λx o h n=>a.hh x o h λz=>n (w x z),a.hx,λx h g n=>a.gn x h g λz=>n (w x z)⟩
def o3(H:Hp)(own new:Addr->Prop)(vs:List V):Prop:=∀x∈vs,∃b ws,x=.ref b/\H b=some (.lst ws)/\ws.length<=1000/\¬own b/\new b
def Rows(H:Hp)(own new:Addr->Prop)(a:Addr):Prop:=∃vs,H a=some (.lst vs)/\o3 H own (λb=>new b/\b≠a) vs
def o3.step(h:o3 H own new vs)(e:∀b o,H b=some o->¬own b->H' b=some o)(w:∀b,own' b->own b\/H b=none):o3 H' own' new vs:=λx hx=>by
 obtain⟨b,ws,h1,h2,h3,h4,h5⟩:=h x hx;refine⟨b,ws,h1,e b _ h2 h4,h3,λz=>?_,h5⟩;rcases w b z with z | z
 ·exact h4 z
 ·rw[h2] at z;cases z
theorem o3.new{own new new':Addr->Prop}(h:o3 H own new vs)(w:∀b,new b->new' b):o3 H own new' vs:=λx hx=>let ⟨b,ws,h1,h2,h3,h4,h5⟩:=h x hx;⟨b,ws,h1,h2,h3,h4,w b h5⟩
def cC(K:Frag)(H G:Hp)(own:Addr->Prop)(new:Addr->Prop):RV->V->Prop
 |.sh d,v=>aC K G d v
 |.ow d,v=>∃a,v=.ref a/\G a=none/\fJ K H G a d/\¬own a/\new a
 |.od d,v=>∃a,v=.ref a/\G a=none/\fJ K H G a d/\¬own a/\new a/\Rows H own new a
def b9(K:Frag)(H G:Hp)(d:D)(v:V):Prop:=aC K G d v\/∃a,v=.ref a/\fJ K H G a d
def gD(K:Frag)(H G:Hp)(own:Addr->Prop)(new:Addr->Prop)(Y:St):Hd->V->Prop
 |.slot i,v=>Y[i]?=some (some v)
 |.val (.od _),_=>False
 |.val r,v=>cC K H G own new r v
section
variable{K:Frag}{own own' new new':Addr->Prop}
theorem fJ.mono(h:fJ K H G a d)(s:Sm G G')(e:∀o,H a=some o->H' a=some o):fJ K H' G' a d:=by
 cases d with
 |lst ds =>
  obtain⟨vs,h1,h2⟩:=h;exact⟨vs,e _ h1,aB.mono s _ h2⟩
 |dct kvs=>exact e _ h
 |_=>exact h
def fJ.put(h:fJ K H G a d):∃o,H a=some o/\∀G',Sm G G'->G' a=some o->aC K G' d (.ref a):=by
 cases d with
 |lst ds =>
  obtain⟨vs,h1,h2⟩:=h;exact⟨_,h1,λG' s e=>by simp only[aC];exact⟨a,vs,rfl,bX.of e,aB.mono s ds h2⟩⟩
 |dct kvs=>exact⟨_,h,λG' s e=>by simp only[aC];exact⟨a,rfl,e⟩⟩
 |_=>exact h.elim
def fJ.there(h:fJ K H G a d):∃o,H a=some o:=let ⟨o,h,_⟩:=h.put;⟨o,h⟩
def aN.owned(r:aN K U Y H G)(o:aH U Y a):H a≠none/\G a=none:=by
 obtain⟨i,d,p,l,h1,h2⟩:=o;obtain⟨b,e,g,h⟩:=r.ow i d p l h1;rw[h2] at e;cases e;obtain⟨vs,h⟩:=h.there;exact⟨by rw[h];simp,g⟩
def cC.wait(h:cC K H G own new v x)(e:Ext own H G H' G')(w:∀a,own' a->own a\/H a=none):cC K H' G' own' new v x:=by
 cases v with
 |sh d=>exact aC.mono e.gg d h
 |ow d =>
  obtain⟨a,rfl,g,o,n,m⟩:=h;obtain⟨vs,hv⟩:=o.there;have ne:H a≠none:=by rw[hv];simp
  refine⟨a,rfl,e.gn a ne g n,o.mono e.gg λo' h'=>e.hh a o' h' n,λz=>?_,m⟩;rcases w a z with z | z
  ·exact n z
  ·exact ne z
 |od d =>
  obtain⟨a,rfl,g,o,n,m,vs,hv,hr⟩:=h;have ne:H a≠none:=by rw[hv];simp
  refine⟨a,rfl,e.gn a ne g n,o.mono e.gg λo' h'=>e.hh a o' h' n,λz=>?_,m,vs,e.hh a _ hv n,hr.step e.hh w⟩;rcases w a z with z | z
  ·exact n z
  ·exact ne z
theorem gD.wait(h:gD K H G own new Y v x)(e:Ext own H G H' G')(w:∀a,own' a->own a\/H a=none):gD K H' G' own' new Y v x:=by
 cases v with
 |slot i=>exact h
 |val r=>cases r with
  |od d=>exact h.elim
  |sh d=>exact aC.mono e.gg d h
  |ow d=>exact cC.wait (v:=.ow d) h e w
def cC.new_mono(h:cC K H G own new v x)(w:∀a,new a->new' a):cC K H G own new' v x:=by
 cases v with
 |sh d=>exact h
 |ow d =>
  obtain⟨a,rfl,g,o,n,m⟩:=h;exact⟨a,rfl,g,o,n,w a m⟩
 |od d =>
  obtain⟨a,rfl,g,o,n,m,vs,hv,hr⟩:=h;exact⟨a,rfl,g,o,n,w a m,vs,hv,hr.new λb z=>⟨w b z.1,z.2⟩⟩
theorem cC.low(h:cC K H G own new v x):cC K H G own new v.low x:=by
 cases v with
 |sh d=>exact h
 |ow d=>exact h
 |od d =>
  obtain⟨a,rfl,g,o,n,m,_⟩:=h;exact⟨a,rfl,g,o,n,m⟩
def gD.of(h:cC K H G own new v x):gD K H G own new Y (.val v.low) x:=by
 have:=h.low
 cases v<;>exact this
theorem gD.new_mono(h:gD K H G own new Y v x)(w:∀a,new a->new' a):gD K H G own new' Y v x:=by
 cases v with
 |slot i=>exact h
 |val r=>cases r with
  |od d=>exact h.elim
  |sh d=>exact h
  |ow d=>exact cC.new_mono (v:=.ow d) h w
def cC.readR(h:cC K H G own new v x):b9 K H G v.d x:=by
 cases v with
 |sh d=>exact .inl h
 |ow d =>
  obtain⟨a,rfl,g,o,n,m⟩:=h;exact .inr ⟨a,rfl,o⟩
 |od d =>
  obtain⟨a,rfl,g,o,n,m,_⟩:=h;exact .inr ⟨a,rfl,o⟩
theorem aN.get(r:aN K U Y H G){i:Nat}(h:(U[i]?).bind Sl.get=some d)(hx:Y[i]?=some (some x)):b9 K H G d x:=by
 cases e:U[i]? with
 |none=>rw[e] at h;cases h
 |some sl =>
  rw[e] at h
  cases sl with
  |un=>cases h
  |mv=>cases h
  |sh d' =>
   cases h;obtain⟨v,h1,h2⟩:=r.sh i _ e;rw[hx] at h1;cases h1;exact .inl h2
  |ow d' p l =>
   cases h;obtain⟨a,h1,_,h2⟩:=r.ow i _ p l e;rw[hx] at h1;cases h1;exact .inr ⟨a,rfl,h2⟩
def gD.read(h:gD K H G own new Y v x)(r:aN K U Y H G)(e:v.get U=some d):b9 K H G d x:=by
 cases v with
 |slot i=>exact r.get e h
 |val u =>
  simp only[Hd.get,Option.some.injEq] at e;subst e
  cases u with
  |od d=>exact h.elim
  |sh d=>exact .inl h
  |ow d=>exact cC.readR (v:=.ow d) h
def aN.bound(r:aN K U Y H G){i:Nat}(h:((U[i]?).bind Sl.get).isSome=true):∃v,Y[i]?=some (some v):=by
 cases e:U[i]? with
 |none=>rw[e] at h;cases h
 |some sl =>
  rw[e] at h
  cases sl with
  |un=>cases h
  |mv=>cases h
  |sh d' =>
   obtain⟨v,h1,h2⟩:=r.sh i _ e;exact⟨v,h1⟩
  |ow d' p l =>
   obtain⟨a,h1,_,h2⟩:=r.ow i _ p l e;exact⟨_,h1⟩
theorem b9.lst{ds:List D}{x:V}(s:aV G H)(h:b9 K H G (.lst ds) x):∃a vs,x=.ref a/\bX K H a vs/\aB K G ds vs:=by
 rcases h with h | ⟨a,rfl,h⟩
 ·simp only[aC] at h;obtain⟨a,vs,e,h1,h2⟩:=h;exact⟨a,vs,e,s.seq h1,h2⟩
 ·obtain⟨vs,h1,h2⟩:=h;exact⟨a,vs,rfl,bX.of h1,h2⟩
theorem b9.tup{ds:List D}{x:V}(s:aV G H)(h:b9 K H G (.tup ds) x):∃a vs,x=.ref a/\dC K H a vs/\aB K G ds vs:=by
 rcases h with h | ⟨a,rfl,h⟩
 ·simp only[aC] at h;obtain⟨a,vs,e,h1,h2⟩:=h;exact⟨a,vs,e,dE s h1,h2⟩
 ·exact h.elim
theorem b9.int(h:b9 K H G (.int i) x):x=.int i:=by
 rcases h with h | ⟨a,rfl,h⟩
 ·simpa[aC] using h
 ·exact h.elim
theorem b9.bl(h:b9 K H G (.bl i) x):x=.bl i:=by
 rcases h with h | ⟨a,rfl,h⟩
 ·simpa[aC] using h
 ·exact h.elim
theorem b9.str(h:b9 K H G (.str i) x):x=.str i/\PyData.strOk i=true:=by
 rcases h with h | ⟨a,rfl,h⟩
 ·simpa[aC] using h
 ·exact h.elim
theorem b9.non(h:b9 K H G .non x):x=.non:=by
 rcases h with h | ⟨a,rfl,h⟩
 ·simpa[aC] using h
 ·exact h.elim
def pU(h:aC K G (.bl i) x):x=.bl i:=by simpa[aC] using h
def aV.laid(h:H a=none):aV H (aO H a o):=λb u e=>by rw[aM (bP e h)];exact e
theorem Sm.laid(h:H a=none):Sm H (aO H a o):=Sm.of (aV.laid h)
def Sm.put(h:H a=none):Sm H (aO H a o):=Sm.laid h
def aN.layG(r:aN K U Y H G)(h:H a=none):aN K U Y (aO H a o) (aO G a o):=by
 have hg:G a=none:=aV.free r.sub h;refine⟨r.len,λb u e=>?_,λi d e=>?_,λi d p l e=>?_,r.inj⟩
 ·by_cases hb:b=a
  ·subst hb;rw[a9] at e ⊢;exact e
  ·rw[aM hb] at e ⊢;exact r.sub b u e
 ·obtain⟨v,h1,h2⟩:=r.sh i d e;exact⟨v,h1,aC.mono (Sm.laid hg) d h2⟩
 ·obtain⟨b,h1,h2,h3⟩:=r.ow i d p l e;obtain⟨vs,hv⟩:=h3.there;have hb:b≠a:=bP hv h;refine⟨b,h1,by rw[aM hb];exact h2,h3.mono (Sm.laid hg) λo' h'=>by rw[aM hb];exact h'⟩
def Ext.layG(s:aV G H)(h:H a=none):Ext own H G (aO H a o) (aO G a o):=by
 have hg:G a=none:=aV.free s h;refine⟨Sm.laid hg,λb u e _=>aV.laid h b u e,λb e=>?_,λb e g _=>?_⟩
 ·by_cases hb:b=a
  ·subst hb;exact h
  ·rwa[aM hb] at e
 ·by_cases hb:b=a
  ·subst hb;exact absurd h e
  ·rw[aM hb];exact g
def aN.layH(r:aN K U Y H G)(h:H a=none):aN K U Y (aO H a o) G:=by
 refine⟨r.len,r.sub.trans (aV.laid h),r.sh,λi d p l e=>?_,r.inj⟩;obtain⟨b,h1,h2,h3⟩:=r.ow i d p l e;obtain⟨vs,hv⟩:=h3.there;have hb:b≠a:=bP hv h;exact⟨b,h1,h2,h3.mono (Sm.refl _) λo' h'=>by rw[aM hb];exact h'⟩
def Ext.layH(h:H a=none):Ext own H G (aO H a o) G:=by
 refine⟨Sm.refl _,λb u e _=>aV.laid h b u e,λb e=>?_,λb e g _=>g⟩;by_cases hb:b=a
 ·subst hb;exact h
 ·rwa[aM hb] at e
def aN.notOwn(r:aN K U Y H G)(h:H a=none):¬aH U Y a:=λo=>(r.owned o).1 h
def aV.put(h:G a=none):aV G (aO G a o):=aV.laid h
def cC.share(h:cC K H G (aH U Y) new v x)(r:aN K U Y H G)(hn:∀a,new a->own a\/new' a) :
  ∃G',aN K U Y H G'/\aV G G'/\(∀a,G' a≠none->G a≠none\/new a)/\aC K G' v.d x:=by
 have main:∀d,cC K H G (aH U Y) new (.ow d) x->∃G',aN K U Y H G'/\aV G G'/\(∀a,G' a≠none->G a≠none\/new a)/\aC K G' d x:=by
  intro d h;obtain⟨a,rfl,g,o,n,m⟩:=h;obtain⟨ob,hv,hr⟩:=o.put;refine⟨aO G a ob,⟨r.len,λb u e=>?_,λi d e=>?_,λi d p l e=>?_,r.inj⟩,aV.put g,λb z=>?_, ?_⟩
  ·by_cases hb:b=a
   ·subst hb;rw[a9] at e;rw[hv];exact e
   ·rw[aM hb] at e;exact r.sub b u e
  ·obtain⟨v,h1,h2⟩:=r.sh i d e;exact⟨v,h1,aC.mono (Sm.put g) d h2⟩
  ·obtain⟨b,h1,h2,h3⟩:=r.ow i d p l e;have hb:b≠a:=λz=>by subst z;exact n ⟨i,d,p,l,e,h1⟩
   exact⟨b,h1,by rw[aM hb];exact h2,h3.mono (Sm.put g) λ_ z=>z⟩
  ·by_cases hb:b=a
   ·subst hb;exact .inr m
   ·rw[aM hb] at z;exact .inl z
  ·exact hr _ (Sm.put g) a9
 cases v with
 |sh d=>exact⟨G,r,aV.refl _,λa z=>.inl z,h⟩
 |ow d=>exact main d h
 |od d=>exact main d h.low
end
def dO:Option Sl->Option Sl->Prop
 |some (.ow _ p l),some (.ow _ p' l')=>p=p'/\l=l'
 |some (.ow _ p _),some (.sh _)=>p=false
 |some .un,some .un=>True
 |some .mv,some .mv=>True
 |some (.sh _),some (.sh _)=>True
 |none,none=>True
 |_,_=>False
def dO.refl(a:Option Sl):dO a a:=by
 cases a with
 |none=>trivial
 |some s=>cases s<;>first | trivial | exact⟨rfl,rfl⟩
theorem dO.trans(h:dO a b)(h':dO b c):dO a c:=by
 cases a with
 |none =>
  cases b with
  |none=>exact h'
  |some t=>cases t<;>exact h.elim
 |some s =>
  cases b with
  |none=>cases s<;>exact h.elim
  |some t =>
   cases c with
   |none=>cases t<;>exact h'.elim
   |some u=>cases s<;>cases t<;>first | exact h.elim | (cases u<;>first | exact h'.elim | trivial | exact⟨h.1.trans h'.1,h.2.trans h'.2⟩ | exact h.1.trans h' | exact h)
def dO.ow_of(h:dO a (some (.ow d p l))):∃d',a=some (.ow d' p l):=by
 cases a with
 |none=>exact h.elim
 |some s=>cases s<;>first | exact h.elim | (obtain⟨rfl,rfl⟩:=h;exact⟨_,rfl⟩)
def iK(U U':Env):Prop:=∀i:Nat,dO U[i]? U'[i]?
theorem iK.refl(U:Env):iK U U:=λ_=>dO.refl _
theorem iK.trans(h:iK a b)(h':iK b c):iK a c:=λi=>(h i).trans (h' i)
def iK.own(h:iK U U')(a:Addr)(o:aH U' Y a):aH U Y a:=by
 obtain⟨i,d,p,l,h1,h2⟩:=o
 have:=h i
 rw[h1] at this;obtain⟨d',e⟩:=this.ow_of;exact⟨i,d',p,l,e,h2⟩
theorem iK.set(h:dO U[i]? (some s)):iK U (U.set i s):=λj=>by
 by_cases hij:j=i
 ·subst hij;by_cases hl:j<U.length
  ·rw[zk hl];exact h
  ·rw[List.getElem?_eq_none (by omega)] at h;cases s<;>exact h.elim
 ·rw[Zf (λz=>hij z.symm)];exact dO.refl _
structure Aft(K:Frag)(U:Env)(Y:St)(H G:Hp)(U':Env)(H' G':Hp):Prop where
 rel:aN K U' Y H' G'
 ext:Ext (aH U Y) H G H' G'
 evo:iK U U'
section
variable{K:Frag}
theorem Aft.own(a:Aft K U Y H G U' H' G'):∀a,aH U' Y a->aH U Y a:=λx h=>a.evo.own x h
theorem Aft.refl(r:aN K U Y H G):Aft K U Y H G U H G:=⟨r,Ext.refl,iK.refl _⟩
theorem Aft.trans(a:Aft K U Y H G U1 H1 G1)(b:Aft K U1 Y H1 G1 U2 H2 G2):Aft K U Y H G U2 H2 G2 :=
 ⟨b.rel,a.ext.trans (λx h=>.inl (a.own x h)) b.ext,a.evo.trans b.evo⟩
abbrev dS(H:Hp):Addr->Prop:=λa=>H a=none
def Aft.fresh(a:Aft K U Y H G U1 H1 G1)(h:H1 x=none):H x=none:=a.ext.hx x h
def Aft.shareS(a:Aft K U Y H G U' H' G')(h:cC K H' G' (aH U' Y) (dS H) v x):∃G2,Aft K U Y H G U' H' G2/\aC K G2 v.d x/\aV G' G2:=by
 obtain⟨G2,r2,s2,n2,h2⟩:=h.share (own:=λ_=>False) (new':=dS H) a.rel (λ_ z=>.inr z);refine⟨G2,⟨r2,⟨a.ext.gg.trans s2,a.ext.hh,a.ext.hx,λb hb gb nb=>?_⟩,a.evo⟩,h2,s2⟩
 cases e:G2 b with
 |none=>rfl
 |some o =>
  rcases n2 b (by rw[e];simp) with z | z
  ·exact absurd (a.ext.gn b hb gb nb) z
  ·exact absurd z hb
def Aft.share(a:Aft K U Y H G U' H' G')(h:cC K H' G' (aH U' Y) (dS H) v x):∃G2,Aft K U Y H G U' H' G2/\aC K G2 v.d x:=let ⟨G2,h1,h2,_⟩:=a.shareS h;⟨G2,h1,h2⟩
theorem Aft.layG(a:Aft K U Y H G U' H' G')(h:H' p=none):Aft K U Y H G U' (aO H' p o) (aO G' p o) :=
 a.trans ⟨a.rel.layG h,Ext.layG a.rel.sub h,iK.refl _⟩
theorem Aft.layH(a:Aft K U Y H G U' H' G')(h:H' p=none):Aft K U Y H G U' (aO H' p o) G' :=
 a.trans ⟨a.rel.layH h,Ext.layH h,iK.refl _⟩
def Aft.own_new(a:Aft K U Y H G U' H' G')(h:H' p=none)(r:aB K G' ds vs) :
  Aft K U Y H G U' (aO H' p (.lst vs)) G'/\cC K (aO H' p (.lst vs)) G' (aH U' Y) (dS H) (.ow (.lst ds)) (.ref p) :=
 ⟨a.layH h,p,rfl,aV.free a.rel.sub h,⟨vs,a9,r⟩,a.rel.notOwn h,a.fresh h⟩
def Aft.dct_new(a:Aft K U Y H G U' H' G')(h:H' p=none) :
  Aft K U Y H G U' (aO H' p (.dK (lV kvs))) G'/\cC K (aO H' p (.dK (lV kvs))) G' (aH U' Y) (dS H) (.ow (.dct kvs)) (.ref p) :=
 ⟨a.layH h,p,rfl,aV.free a.rel.sub h,a9,a.rel.notOwn h,a.fresh h⟩
def Aft.tup_new(a:Aft K U Y H G U' H' G')(h:H' p=none)(r:aB K G' ds vs) :
  Aft K U Y H G U' (aO H' p (.tup vs)) (aO G' p (.tup vs))/\cC K (aO H' p (.tup vs)) (aO G' p (.tup vs)) (aH U' Y) (dS H) (.sh (.tup ds)) (.ref p):=by
 refine⟨a.layG h, ?_⟩;show aC K _ (.tup ds) _;simp only[aC];exact⟨p,vs,rfl,dC.of a9,aB.mono (Sm.laid (aV.free a.rel.sub h)) ds r⟩
end
def lR:List Hd->List V->Addr->Prop
 |.val (.ow _)::hs,x::xs,a=>x=.ref a\/lR hs xs a
 |_::hs,_::xs,a=>lR hs xs a
 |_,_,_=>False
def c9(K:Frag)(H G:Hp)(own new:Addr->Prop)(Y:St):List Hd->List V->Prop
 |[],xs=>xs=[]
 |h::hs,xs=>∃x r,xs=x::r/\gD K H G own new Y h x/\c9 K H G own new Y hs r/\∀d a,h=.val (.ow d)->x=.ref a->¬lR hs r a
section
variable(K:Frag)(P:aW)(C:Calls)
noncomputable def tE(c:E):TE:=λY H Q=>∃(U:Env) (G:Hp) (v:RV) (U':Env),aN K U Y H G/\ev P C false c U=some (.ok v,U') /\
 ∀x H' G',Aft K U Y H G U' H' G'->cC K H' G' (aH U' Y) (dS H) v x->Q x H'
noncomputable def tT(c:E):TT:=λY H Q=>∃(U:Env) (G:Hp) (b:Bool) (U':Env),aN K U Y H G/\ev P C true c U=some (.ok (.sh (.bl b)),U') /\
 ∀H' G',Aft K U Y H G U' H' G'->Q b H'
noncomputable def tH(c:E):TE:=λY H Q=>∃(U:Env) (G:Hp) (h:Hd) (U':Env),aN K U Y H G/\hd c (ev P C false c U) U=some (.ok h,U') /\
 ∀x H' G',Aft K U Y H G U' H' G'->gD K H' G' (aH U' Y) (dS H) Y h x->Q x H'
noncomputable def BD(cs:List E):TA:=λY H Q=>∃(U:Env) (G:Hp) (ds:List D) (U':Env),aN K U Y H G/\mB P C cs U=some (.ok ds,U') /\
 ∀xs H' G',Aft K U Y H G U' H' G'->aB K G' ds xs->Q xs H'
noncomputable def mF(cs:List E):TA:=λY H Q=>∃(U:Env) (G:Hp) (hs:List Hd) (U':Env),aN K U Y H G/\cD P C cs U=some (.ok hs,U') /\
 ∀xs H' G',Aft K U Y H G U' H' G'->c9 K H' G' (aH U' Y) (dS H) Y hs xs->Q xs H'
end
def TE.imp_pe(h:PE X e t)(w:∀Y H Q,u Y H Q->t Y H Q):PE X e u:=λpins s Y H Q I q=>h pins s Y H Q I (w Y H Q q)
def TT.imp_pt(h:PT X e t)(w:∀Y H Q,u Y H Q->t Y H Q):PT X e u:=λpins s Y H Q I q=>h pins s Y H Q I (w Y H Q q)
def TA.imp_pa(h:PA X e t)(w:∀Y H Q,u Y H Q->t Y H Q):PA X e u:=λpos pins s Y H Q I q=>h pos pins s Y H Q I (w Y H Q q)
def aG{r:aR J}(h:r.bind f=some (.ok b,U)):∃a U1,r=some (.ok a,U1)/\f a U1=some (.ok b,U):=by
 unfold aR.bind at h;split at h
 ·cases h
 ·cases h
 ·exact⟨_,_,rfl,h⟩
def fG(h:done o U=some (.ok v,U')):o=some v/\U'=U:=by
 unfold done at h
 cases o with
 |none=>cases h
 |some u=>simp only[Option.map_some,Option.some.injEq,Prod.mk.injEq,Out.ok.injEq] at h;exact⟨by rw[h.1],h.2.symm⟩
def FU{r:aR RV}{U':Env}(h:bL true r=some (.ok v,U')):∃u b,r=some (.ok u,U')/\iJ u.d=some b/\v=.sh (.bl b):=by
 obtain⟨u,U1,h1,h2⟩:=aG h
 cases e:iJ u.d with
 |none=>rw[e] at h2;cases h2
 |some b =>
  rw[e] at h2;simp only[Option.map_some,Option.some.injEq,Prod.mk.injEq,Out.ok.injEq] at h2;obtain⟨h3,h4⟩:=h2;subst h4;exact⟨u,b,h1,e,h3.symm⟩
section
variable{K:Frag}{P:aW}{C:Calls}{Y:St}{H:Hp}
def rG{X:Cx}{c:E}(h:PE X e (tE K P C c))(n:∀i,c≠.var i):PE X e (tH K P C c):=by
 refine TE.imp_pe h λY H Q q=>?_
 obtain⟨U,G,hd',U',r,e1,k⟩:=q
 have:hd c (ev P C false c U) U=(ev P C false c U).bind λv U'=>some (.ok (.val v.low),U'):=by
  cases c<;>first | rfl | exact absurd rfl (n _)
 rw[this] at e1;obtain⟨v,U1,e2,e3⟩:=aG e1;cases e3;exact⟨U,G,v,_,r,e2,λx H' G' a hv=>k x H' G' a (gD.of hv)⟩
def XT(h:PE X e (oV i)):PE X e (tE K P C (.var i)):=by
 refine TE.imp_pe h λY H Q q=>?_
 obtain⟨U,G,v,U',r,e1,k⟩:=q;replace e1:vW i U=_:=e1;unfold vW at e1;split at e1
 ·rename_i d hd;cases e1;obtain⟨x,h1,h2⟩:=r.sh i d hd;exact⟨x,h1,k x H G (Aft.refl r) h2⟩
 ·rename_i d hd;cases e1;obtain⟨a,h1,g,o⟩:=r.ow i d _ _ hd;refine⟨.ref a,h1, ?_⟩;obtain⟨ob,hv,hr⟩:=o.put;have li:i<U.length:=(Zc.mp hd).1
  have oth:∀(j:Nat) (sl:Sl),(U.set i (.sh d))[j]?=some sl->(j=i/\sl=.sh d)\/(j≠i/\U[j]?=some sl):=λj sl hj=>by
   by_cases hij:j=i
   ·subst hij;rw[zk li] at hj;exact .inl ⟨rfl,(Option.some.inj hj).symm⟩
   ·rw[Zf (λz=>hij z.symm)] at hj;exact .inr ⟨hij,hj⟩
  have own':∀b,aH (U.set i (.sh d)) Y b->aH U Y b:=λb hz=>by
   obtain⟨j,d',p,l,h3,h4⟩:=hz;rcases oth j _ h3 with ⟨_,z⟩ | ⟨_,z⟩
   ·cases z
   ·exact⟨j,d',p,l,z,h4⟩
  refine k (.ref a) H (aO G a ob) ⟨⟨?_,λb u z=>?_,λj d' hj=>?_,λj d' p l hj=>?_,λj k' d1 p1 l1 d2 p2 l2 b h3 h4 h5 h6=>?_⟩,⟨Sm.put g,λ_ _ z _=>z,λ_ z=>z,λb h3 h4 h5=>?_⟩,iK.set (by rw[hd];rfl)⟩ ?_
  ·rw[zg];exact r.len
  ·by_cases hb:b=a
   ·subst hb;rw[a9] at z;rw[hv];exact z
   ·rw[aM hb] at z;exact r.sub b u z
  ·rcases oth j _ hj with ⟨rfl,z⟩ | ⟨_,z⟩
   ·cases z;exact⟨_,h1,hr _ (Sm.put g) a9⟩
   ·obtain⟨x,h3,h4⟩:=r.sh j d' z;exact⟨x,h3,aC.mono (Sm.put g) d' h4⟩
  ·rcases oth j _ hj with ⟨_,z⟩ | ⟨ne,z⟩
   ·cases z
   ·obtain⟨b,h3,h4,h5⟩:=r.ow j d' p l z;have hb:b≠a:=λe=>by subst e;exact ne (r.inj _ _ _ _ _ _ _ _ _ z hd h3 h1)
    exact⟨b,h3,by rw[aM hb];exact h4,h5.mono (Sm.put g) λ_ z=>z⟩
  ·rcases oth j _ h3 with ⟨_,z⟩ | ⟨_,z⟩
   ·cases z
   ·rcases oth k' _ h4 with ⟨_,z'⟩ | ⟨_,z'⟩
    ·cases z'
    ·exact r.inj _ _ _ _ _ _ _ _ _ z z' h5 h6
  ·by_cases hb:b=a
   ·subst hb;exact absurd ⟨i,_,_,_,hd,h1⟩ h5
   ·rw[aM hb];exact h4
  ·exact hr _ (Sm.put g) a9
 ·cases e1
def XD(h:PE X e (oV i)):PE X e (tH K P C (.var i)):=by
 refine TE.imp_pe h λY H Q q=>?_
 obtain⟨U,G,hd',U',r,e1,k⟩:=q;simp only[hd] at e1;split at e1
 ·rename_i hb;cases e1;obtain⟨x,hx⟩:=r.bound hb;exact⟨x,hx,k x H G (Aft.refl r) hx⟩
 ·cases e1
def tN(s:aV G H)(h:b9 K H G d x)(e:iJ d=some b):JJ K x H b:=by
 cases d<;>simp only[iJ,Option.some.injEq,reduceCtorEq] at e
 ·have:=h.non;subst this;exact e.symm
 ·have:=h.bl;subst this;exact e.symm
 ·have:=h.int;subst this;exact e.symm
 ·split at e
  ·rename_i hz;obtain⟨rfl,_⟩:=h.str;exact⟨Zr hz (by decide),(Option.some.inj e).symm⟩
  ·cases e
 ·obtain⟨a,vs,rfl,h1,h2⟩:=h.tup s;refine .inr (.inl ⟨vs,h1, ?_⟩);rw[<- e]
  have:=h2.len
  cases vs<;>cases ‹List D›<;>simp_all
 ·obtain⟨a,vs,rfl,h1,h2⟩:=h.lst s;refine .inl ⟨vs,h1, ?_⟩;rw[<- e]
  have:=h2.len
  cases vs<;>cases ‹List D›<;>simp_all
def aEF(hK:X.K=K)(h:PE X e (tE K P C c))(hw:∀U,ev P C true c U=bL true (ev P C false c U))
  (he:∀whole,isTrue e X.env whole=(do let v <- whole;standAt e.pos;holding [v] (truthy v))):PT X e (tT K P C c):=by
 refine TT.imp_pt (DQ h he) λY H Q q=>?_
 obtain⟨U,G,b,U',r,e1,k⟩:=q;rw[hw] at e1;obtain⟨u,b',e2,e3,e4⟩:=FU e1;cases e4;refine⟨U,G,u,U',r,e2,λx H' G' a hv=>⟨b, ?_,k H' G' a⟩⟩;rw[hK];exact tN a.rel.sub hv.readR e3
end
mutual
theorem FD:∀(n:Nat) (d e:D),bC n d=true->bC n e=true->PyData.eqv (eJ d) (eJ e)=dN d e
 |n,.non,e,_,h=>by cases e<;>first | (cases n<;>simp[bC] at h;done) | simp[eJ,PyData.eqv,dN]
 |n,.bl b,e,_,h=>by cases e<;>first | (cases n<;>simp[bC] at h;done) | simp[eJ,PyData.eqv,dN]
 |n,.int b,e,_,h=>by cases e<;>first | (cases n<;>simp[bC] at h;done) | simp[eJ,PyData.eqv,dN]
 |n,.str b,e,_,h=>by cases e<;>first | (cases n<;>simp[bC] at h;done) | simp[eJ,PyData.eqv,dN]
 |n+1,.tup ds,e,h,h'=>by
  cases e with
  |tup es =>
   simp only[eJ,PyData.eqv,dN];exact tV n ds es (by simpa[bC] using h) (by simpa[bC] using h')
  |ins=>simp[bC] at h'
  |dct=>simp[bC] at h'
  |dcs=>simp[bC] at h'
  |dci=>simp[bC] at h'
  |_=>simp[eJ,PyData.eqv,dN]
 |n+1,.lst ds,e,h,h'=>by
  cases e with
  |lst es =>
   simp only[eJ,PyData.eqv,dN];exact tV n ds es (by simpa[bC] using h) (by simpa[bC] using h')
  |ins=>simp[bC] at h'
  |dct=>simp[bC] at h'
  |dcs=>simp[bC] at h'
  |dci=>simp[bC] at h'
  |_=>simp[eJ,PyData.eqv,dN]
 | 0,.tup ds,e,h,_=>by simp[bC] at h
 | 0,.lst ds,e,h,_=>by simp[bC] at h
 |n,.ins _ _ _,_,h,_=>by cases n<;>simp[bC] at h
 |n,.dct _,_,h,_=>by cases n<;>simp[bC] at h
 |n,.dcs _ _,_,h,_=>by cases n<;>simp[bC] at h
 |n,.dci _ _,_,h,_=>by cases n<;>simp[bC] at h
theorem tV:∀(n:Nat) (ds es:List D),(∀d∈ds,bC n d=true)->(∀d∈es,bC n d=true)->PyData.eqvAll (iH ds) (iH es)=lJ ds es
 |n,[],[],_,_=>by simp[iH,PyData.eqvAll,lJ]
 |n,[],_::_,_,_=>by simp[iH,PyData.eqvAll,lJ]
 |n,_::_,[],_,_=>by simp[iH,PyData.eqvAll,lJ]
 |n,d::ds,e::es,h,h'=>by(simp only[iH,PyData.eqvAll,lJ];rw[FD n d e (h d (by simp)) (h' e (by simp)),tV n ds es (λx hx=>h x (by simp[hx])) (λx hx=>h' x (by simp[hx]))])
end
section
variable{K:Frag}
mutual
theorem zE(I:Inv X pins Y H s)(hK:X.K=K)(sub:aV G H):∀(n:Nat) (d:D) (x:V) (u:Value),bC n d=true->aC K G d x->aY x u->∃as,Reads s.heap u (eJ d) as/\PyData.canLay0 (eJ d)=true/\PyData.depth (eJ d)<=n
 |n,.non,x,u,_,h,r=>by
  simp only[aC] at h;subst h;cases r;exact⟨_,Reads.none,by simp[eJ,PyData.canLay0],by simp[eJ,PyData.depth]⟩
 |n,.bl b,x,u,_,h,r=>by
  simp only[aC] at h;subst h;cases r;exact⟨_,Reads.bool b,by simp[eJ,PyData.canLay0],by simp[eJ,PyData.depth]⟩
 |n,.int b,x,u,_,h,r=>by
  simp only[aC] at h;subst h;obtain⟨t,rfl⟩:=r;exact⟨_,Reads.int b t,by simp[eJ,PyData.canLay0],by simp[eJ,PyData.depth]⟩
 |n,.str b,x,u,_,h,r=>by
  simp only[aC] at h;obtain⟨rfl,hs⟩:=h;obtain⟨t,rfl⟩:=r;exact⟨_,Reads.str b t,by simpa[eJ,PyData.canLay0] using hs,by simp[eJ,PyData.depth]⟩
 |n+1,.tup ds,x,u,ok,h,r=>by
  simp only[aC] at h;obtain⟨a,vs,rfl,h1,h2⟩:=h;cases r;obtain⟨its,rv,⟨o,ho,hc,m,hd⟩,hz⟩:=I.tuple (show dC X.K H a vs from hK ▸ dE sub h1);obtain⟨as,r1,r2,r3⟩:=k9 I hK sub n ds vs its (by simpa[bC] using ok) h2 rv;exact⟨_,Reads.tuple ho hc hd (by simpa using r1),by simpa[eJ,PyData.canLay0] using r2,by simp[eJ,PyData.depth];omega⟩
 |n+1,.lst ds,x,u,ok,h,r=>by
  simp only[aC] at h;obtain⟨a,vs,rfl,h1,h2⟩:=h;cases r;obtain⟨its,rv,⟨o,m,ho,hc,hn,hd⟩,hz⟩:=I.list (show bX X.K H a vs from hK ▸ sub.seq h1);obtain⟨as,r1,r2,r3⟩:=k9 I hK sub n ds vs its (by simpa[bC] using ok) h2 rv;exact⟨_,Reads.list ho hc hd (by simpa using r1),by simpa[eJ,PyData.canLay0] using r2,by simp[eJ,PyData.depth];omega⟩
 | 0,.tup ds,_,_,h,_,_=>by simp[bC] at h
 | 0,.lst ds,_,_,h,_,_=>by simp[bC] at h
 |n,.ins _ _ _,_,_,h,_,_=>by cases n<;>simp[bC] at h
 |n,.dct _,_,_,h,_,_=>by cases n<;>simp[bC] at h
 |n,.dcs _ _,_,_,h,_,_=>by cases n<;>simp[bC] at h
 |n,.dci _ _,_,_,h,_,_=>by cases n<;>simp[bC] at h
theorem k9(I:Inv X pins Y H s)(hK:X.K=K)(sub:aV G H):∀(n:Nat) (ds:List D) (xs:List V) (us:List Value),(∀d∈ds,bC n d=true)->aB K G ds xs->aQ xs us->∃as,ReadsAll s.heap us (iH ds) as/\PyData.canLayAll0 (iH ds)=true/\PyData.depthAll (iH ds)<=n
 |n,[],xs,us,_,h,r=>by
  simp only[aB] at h;subst h;cases r;exact⟨_,ReadsAll.nil,by simp[iH,PyData.canLayAll0],by simp[iH,PyData.depthAll]⟩
 |n,d::ds,xs,us,ok,h,r=>by
  simp only[aB] at h;obtain⟨v,r',rfl,h1,h2⟩:=h
  cases r with
  |cons ra rb =>
   obtain⟨as,a1,a2,a3⟩:=zE I hK sub n d v _ (ok d (by simp)) h1 ra;obtain⟨bs,b1,b2,b3⟩:=k9 I hK sub n ds r' _ (λx hx=>ok x (by simp[hx])) h2 rb;exact⟨_,ReadsAll.cons a1 b1,by simp[iH,PyData.canLayAll0,a2,b2],by simp[iH,PyData.depthAll];omega⟩
end
def u0(I:Inv X pins Y H s)(hK:X.K=K)(sub:aV G H)(n:Nat)(d:D)(x:V)(u:Value)(ok:bC n d=true)(h:b9 K H G d x)(r:aY x u):∃as,Reads s.heap u (eJ d) as/\PyData.canLay0 (eJ d)=true/\PyData.depth (eJ d)<=n:=by
 rcases h with h | ⟨a,rfl,h⟩
 ·exact zE I hK sub n d x u ok h r
 ·cases r
  cases d<;>first | exact h.elim | skip
  case dct=>cases n<;>simp[bC] at ok
  rename_i ds;obtain⟨vs,h1,h2⟩:=h
  cases n with
  |zero=>simp[bC] at ok
  |succ n =>
   obtain⟨its,rv,⟨o,m,ho,hc,hn,hd⟩,hz⟩:=I.list (bX.of h1);obtain⟨as,r1,r2,r3⟩:=k9 I hK sub n ds vs its (by simpa[bC] using ok) h2 rv;exact⟨_,Reads.list ho hc hd (by simpa using r1),by simpa[eJ,PyData.canLay0] using r2,by simp[eJ,PyData.depth];omega⟩
def tL(K:Frag)(H G:Hp)(v:RV)(x:V)(H':Hp):Prop :=
 (∃d,v=.sh d/\aC K G d x/\H'=H) \/
 (∃ds vs p,v=.ow (.lst ds)/\H p=none/\aB K G ds vs/\x=.ref p/\H'=aO H p (.lst vs)) \/
 (∃ds vs p,v=.sh (.tup ds)/\H p=none/\aB K G ds vs/\x=.ref p/\H'=aO H p (.tup vs))
def T1(h:∃ds vs p,v=.sh (.tup ds)/\H p=none/\aB K G ds vs/\x=.ref p/\H'=aO H p (.tup vs)):tL K H G v x H' :=
 .inr (.inr h)
def Aft.made(a:Aft K U Y H0 G0 U' H G)(m:tL K H G v x H2) :
  ∃G2,Aft K U Y H0 G0 U' H2 G2/\cC K H2 G2 (aH U' Y) (dS H0) v x:=by
 rcases m with ⟨d,rfl,h,rfl⟩ | ⟨ds,vs,p,rfl,h,r,rfl,rfl⟩ | ⟨ds,vs,p,rfl,h,r,rfl,rfl⟩
 ·exact⟨G,a,h⟩
 ·exact⟨_,a.own_new h r⟩
 ·exact⟨_,a.tup_new h r⟩
noncomputable def aFX(K:Frag)(op:Operator):R2:=λx y H Q=>∃G d e v,aV G H/\b9 K H G d x/\b9 K H G e y/\(op=.Mult->∀ds,d=.lst ds->∃a vs,x=.ref a/\H a=some (.lst vs)/\aB K G ds vs)/\jI op d e=some v/\∀z H',tL K H G v z H'->Q z H'
def cL:tL K H G (.sh (.int i)) (.int i) H:=.inl ⟨_,rfl,by simp[aC],rfl⟩
def YH:tL K H G (.sh (.bl i)) (.bl i) H:=.inl ⟨_,rfl,by simp[aC],rfl⟩
def gW(h:aJ n=true):n<=sizeLine:=Zr (@of_decide_eq_true _ (cl _) h) (by decide)
def xA(I:Inv X pins Y H s)(h:bX X.K H a vs):∃(its:List Value),aQ vs its/\s.heap.IsList a its.toArray/\vs.length<=sizeLine:=by
 obtain⟨its,r,p,z⟩:=I.list h;exact⟨its,r,p.isList,z⟩
def Q2:eW X (binaryOp .FloorDiv) (rI (λ_ j=>0<j/\j<nofun) λi j=>.int (i / j)):=LU λi j _ _ _ _ _ hc q=>by
 have h1:(0:Int)<j:=hc.1;have h2:j<nofun:=hc.2;have h3:j.natAbs<2 ^ 300:=Zl (by omega:j.natAbs<nofun) (by decide);have h4:j.natAbs.log2<300:=(Nat.log2_lt (by omega)).mpr h3;exact PyProof.Rows.floordiv_int (by omega) (by rw[Int.fdiv_eq_ediv_of_nonneg i (by omega)];exact q) (.inl (PyProof.noPylong_of_log2 (by omega)))
def aL(e:none=some v):False:=nomatch e
def aC5(hK:X.K=K)(op:Operator):eW X (binaryOp op) (aFX K op):=by
 intro pins s Y H x y v u Q I rx ry h;obtain⟨G,d,e,w,sub,hx,hy,hm,eb,k⟩:=h;subst hK
 cases op with
 |Add =>
  cases d with
  |int =>
   cases e with
   |int =>
    cases hx.int;cases hy.int;change some _=_ at eb;cases eb;exact Z8 pins s Y H _ _ _ _ Q I rx ry ⟨_,_,rfl,rfl,k _ _ cL⟩
   |_=>exact(aL eb).elim
  |_=>exact(aL eb).elim
 |Sub =>
  cases d with
  |int =>
   cases e with
   |int =>
    cases hx.int;cases hy.int;change some _=_ at eb;cases eb;exact aCf pins s Y H _ _ _ _ Q I rx ry ⟨_,_,rfl,rfl,k _ _ cL⟩
   |_=>exact(aL eb).elim
  |_=>exact(aL eb).elim
 |Mult =>
  cases d with
  |int =>
   cases e with
   |int =>
    cases hx.int;cases hy.int;change @ite _ _ (cl _) _ none=_ at eb;split at eb
    ·cases eb;exact aBt pins s Y H _ _ _ _ Q I rx ry ⟨_,_,rfl,rfl,‹_›,k _ _ cL⟩
    ·cases eb
   |_=>exact(aL eb).elim
  |_=>exact(aL eb).elim
 |FloorDiv =>
  cases d with
  |int =>
   cases e with
   |int =>
    cases hx.int;cases hy.int;change @ite _ _ (cl _) _ none=_ at eb;split at eb
    ·cases eb;exact Q2 pins s Y H _ _ _ _ Q I rx ry ⟨_,_,rfl,rfl,‹_›,k _ _ cL⟩
    ·cases eb
   |_=>exact(aL eb).elim
  |_=>exact(aL eb).elim
 |Mod =>
  cases d with
  |int =>
   cases e with
   |int =>
    cases hx.int;cases hy.int;change @ite _ _ (cl _) _ none=_ at eb;split at eb
    ·cases eb;exact aAD pins s Y H _ _ _ _ Q I rx ry ⟨_,_,rfl,rfl,‹_›,k _ _ cL⟩
    ·cases eb
   |_=>exact(aL eb).elim
  |_=>exact(aL eb).elim
 |Pow=>exact(aL eb).elim
 |LShift =>
  cases d with
  |int =>
   cases e with
   |int =>
    cases hx.int;cases hy.int;change @ite _ _ (cl _) _ none=_ at eb;split at eb
    ·rename_i hc;cases eb;exact aDf pins s Y H _ _ _ _ Q I rx ry ⟨_,_,rfl,rfl,⟨hc.1,by omega,hc.2.2⟩,k _ _ cL⟩
    ·cases eb
   |_=>exact(aL eb).elim
  |_=>exact(aL eb).elim
 |RShift =>
  cases d with
  |int =>
   cases e with
   |int =>
    cases hx.int;cases hy.int;change @ite _ _ (cl _) _ none=_ at eb;split at eb
    ·cases eb;exact aBw pins s Y H _ _ _ _ Q I rx ry ⟨_,_,rfl,rfl,‹_›,k _ _ cL⟩
    ·cases eb
   |_=>exact(aL eb).elim
  |_=>exact(aL eb).elim
 |BitAnd =>
  cases d with
  |int =>
   cases e with
   |int =>
    cases hx.int;cases hy.int;change some _=_ at eb;cases eb;exact aAQ pins s Y H _ _ _ _ Q I rx ry ⟨_,_,rfl,rfl,k _ _ cL⟩
   |_=>exact(aL eb).elim
  |_=>exact(aL eb).elim
 |BitOr=>exact(aL eb).elim
 |_=>exact(aL eb).elim
noncomputable def BB(K:Frag)(op:CmpOp):R2:=λx y H Q=>∃G d e b,aV G H/\b9 K H G d x/\b9 K H G e y/\bV op d e=some b/\Q (.bl b) H
def lG(h:aC K G d x)(f:cF d=true):kC x=true/\∀(e:D) (y:V),aC K G e y->cF e=true->nW y x=dN e d:=by
 cases d<;>simp only[cF,Bool.false_eq_true] at f<;>simp only[aC] at h
 ·subst h;refine⟨rfl,λe y hy fe=>?_⟩;cases e<;>simp only[cF,Bool.false_eq_true] at fe<;>simp only[aC] at hy<;>(first | subst hy | (obtain⟨rfl,_⟩:=hy))<;>simp[nW,dN]
 ·subst h;refine⟨rfl,λe y hy fe=>?_⟩;cases e<;>simp only[cF,Bool.false_eq_true] at fe<;>simp only[aC] at hy<;>(first | subst hy | (obtain⟨rfl,_⟩:=hy))<;>simp[nW,dN]
 ·subst h;refine⟨rfl,λe y hy fe=>?_⟩;cases e<;>simp only[cF,Bool.false_eq_true] at fe<;>simp only[aC] at hy<;>(first | subst hy | (obtain⟨rfl,_⟩:=hy))<;>simp[nW,dN]
 ·obtain⟨rfl,_⟩:=h;refine⟨rfl,λe y hy fe=>?_⟩;cases e<;>simp only[cF,Bool.false_eq_true] at fe<;>simp only[aC] at hy<;>(first | subst hy | (obtain⟨rfl,_⟩:=hy))<;>simp[nW,dN]
def b9.flat(h:b9 K H G d x)(f:cF d=true):aC K G d x:=by
 rcases h with h | ⟨a,rfl,h⟩
 ·exact h
 ·cases d<;>first | exact h.elim | cases f
theorem pV(h:aC K G d x)(f:cF d=true):∀{ds:List D} {vs:List V},aB K G ds vs->ds.all cF=true->vs.all kC=true/\TV x vs=sS d ds
 |[],vs,h2,_=>by simp only[aB] at h2;subst h2;exact⟨rfl,rfl⟩
 |e::ds,vs,h2,fs=>by
  simp only[aB] at h2;obtain⟨y,r,rfl,h3,h4⟩:=h2;rw[Zj,ZB] at fs;obtain⟨a1,a2⟩:=pV h f h4 fs.2;obtain⟨b1,_⟩:=lG h3 fs.1;have b2:=(lG h f).2 e y h3 fs.1;refine⟨by rw[Zj,b1,a1];rfl, ?_⟩
  unfold TV sS at *
  rw[List.any_cons,List.any_cons,a2,b2]
def LA(I:Inv X pins Y H s)(hK:X.K=K)(sub:aV G H)(hu:A.units+20<cLine)(od:bC 20 d=true)(oe:bC 20 e=true)(hx:b9 K H G d x)(hy:b9 K H G e y)(rx:aY x v)(ry:aY y u) :
  SeqAt.RcAt A s v u (dN d e)/\SeqAt.RcNeAt A s v u (!dN d e):=by
 obtain⟨as,a1,a2,a3⟩:=u0 I hK sub 20 d x v od hx rx;obtain⟨bs,b1,b2,b3⟩:=u0 I hK sub 20 e y u oe hy ry;rw[<- FD 20 d e od oe];exact⟨SeqAt.rcAt_reads a1 b1 a2 b2 (by omega),SeqAt.rcNeAt_reads a1 b1 a2 b2 (by omega)⟩
def DD:nF (lV kvs) (Sum.inl i)=(bF kvs i).map V.int:=by
 unfold nF bF lV
 induction kvs with
 |nil=>rfl
 |cons p kvs ih =>
  simp only[Zs,List.find?_cons];by_cases h:p.1=i
  ·rw[Zn (show(Sum.inl p.1:cV)=Sum.inl i by rw[h]),Zn h];rfl
  ·rw[Zm (λz=>h (Sum.inl.inj z)),Zm h];exact ih
theorem CO:∀{ds:List D} {ns:List Int},dH ds=some ns->ds=ns.map D.int
 |[],ns,h=>by cases h;rfl
 |.int i::r,ns,h=>by
  replace h:(dH r).map (i :: ·)=some ns:=h
  cases q:dH r with
  |none=>rw[q] at h;cases h
  |some ms =>
   rw[q] at h;cases h;rw[Zs,<- CO q]
 |.non::_,_,h | .bl _::_,_,h | .str _::_,_,h | .tup _::_,_,h | .lst _::_,_,h | .ins _ _ _::_,_,h | .dct _::_,_,h | .dcs _ _::_,_,h=>nomatch h
theorem b9.dct(h:b9 K H G (.dct kvs) x)(sub:aV G H):∃a,x=.ref a/\H a=some (.dK (lV kvs)):=by
 rcases h with h | ⟨a,rfl,h⟩
 ·simp only[aC] at h;obtain⟨a,rfl,h⟩:=h;exact⟨a,rfl,sub _ _ h⟩
 ·exact⟨a,rfl,h⟩
def n6(hK:X.K=K)(hu:X.A.units+64<cLine)(op:CmpOp):eW X (compareOp op) (BB K op):=by
 intro pins s Y H x y v u Q I rx ry h;obtain⟨G,d,e,b,sub,hx,hy,eb,k⟩:=h
 cases op with
 |Eq =>
  change (if bC 20 d&&bC 20 e then some _ else none)=_ at eb;split at eb
  ·rename_i hc;cases eb;rw[ZB] at hc;exact(LA I hK sub (by omega) hc.1 hc.2 hx hy rx ry).1 _ _ _ _ ⟨.bl _,H,I,rfl,k⟩
  ·cases eb
 |NotEq =>
  change (if bC 20 d&&bC 20 e then some _ else none)=_ at eb;split at eb
  ·rename_i hc;cases eb;rw[ZB] at hc;exact(LA I hK sub (by omega) hc.1 hc.2 hx hy rx ry).2 _ _ _ _ ⟨.bl _,H,I,rfl,k⟩
  ·cases eb
 |Lt =>
  cases d with
  |int =>
   cases e with
   |int =>
    cases hx.int;cases hy.int;change some _=_ at eb;cases eb;exact aDQ pins s Y H _ _ _ _ Q I rx ry ⟨_,_,rfl,rfl,k⟩
   |_=>exact(aL eb).elim
  |_=>exact(aL eb).elim
 |LtE =>
  cases d with
  |int =>
   cases e with
   |int =>
    cases hx.int;cases hy.int;change some _=_ at eb;cases eb;exact aDW pins s Y H _ _ _ _ Q I rx ry ⟨_,_,rfl,rfl,k⟩
   |_=>exact(aL eb).elim
  |_=>exact(aL eb).elim
 |Gt =>
  cases d with
  |int =>
   cases e with
   |int =>
    cases hx.int;cases hy.int;change some _=_ at eb;cases eb;exact aFo pins s Y H _ _ _ _ Q I rx ry ⟨_,_,rfl,rfl,k⟩
   |_=>exact(aL eb).elim
  |_=>exact(aL eb).elim
 |GtE =>
  cases d with
  |int =>
   cases e with
   |int =>
    cases hx.int;cases hy.int;change some _=_ at eb;cases eb;exact aE6 pins s Y H _ _ _ _ Q I rx ry ⟨_,_,rfl,rfl,k⟩
   |_=>exact(aL eb).elim
  |_=>exact(aL eb).elim
 |Is =>
  cases e with
  |non =>
   cases hy.non;refine aDq pins s Y H _ _ _ _ Q I rx ry ⟨rfl, ?_⟩;by_cases hd:d=.non
   ·subst hd;cases hx.non;change some _=_ at eb;cases eb;simpa using k
   ·have:¬x=.non:=λz=>by
     subst z;rcases hx with hx | ⟨_,z,_⟩
     ·cases d<;>first | exact hd rfl | simp[aC] at hx
     ·cases z
    cases d with
    |non=>exact absurd rfl hd
    |_ =>
     change some _=_ at eb;cases eb;simpa[this] using k
  |bl =>
   cases d with
   |bl =>
    cases hx.bl;cases hy.bl;change some _=_ at eb;cases eb;cases rx;cases ry;exact is_bool ⟨.bl _,H,I,rfl,k⟩
   |_=>exact(aL eb).elim
  |_=>cases d<;>exact(aL eb).elim
 |IsNot =>
  cases e with
  |non =>
   cases hy.non;refine XJ pins s Y H _ _ _ _ Q I rx ry ⟨rfl, ?_⟩;by_cases hd:d=.non
   ·subst hd;cases hx.non;change some _=_ at eb;cases eb;simpa using k
   ·have:¬x=.non:=λz=>by
     subst z;rcases hx with hx | ⟨_,z,_⟩
     ·cases d<;>first | exact hd rfl | simp[aC] at hx
     ·cases z
    cases d with
    |non=>exact absurd rfl hd
    |_ =>
     change some _=_ at eb;cases eb;simpa[this] using k
  |_=>cases d<;>exact(aL eb).elim
 |In =>
  cases e with
  |tup ds =>
   change (if cF d&&ds.all cF then some _ else none)=_ at eb;split at eb
   ·rename_i hc;cases eb;rw[ZB] at hc;obtain⟨a,vs,rfl,h1,h2⟩:=hy.tup sub;obtain⟨i1,i2⟩:=pV (hx.flat hc.1) hc.1 h2 hc.2;refine yR pins s Y H _ _ _ _ Q I rx ry ⟨a,vs,rfl,.inr (hK ▸ h1),(lG (hx.flat hc.1) hc.1).1,i1, ?_⟩;simpa[i2] using k
   ·cases eb
  |lst ds =>
   change (if cF d&&ds.all cF then some _ else none)=_ at eb;split at eb
   ·rename_i hc;cases eb;rw[ZB] at hc;obtain⟨a,vs,rfl,h1,h2⟩:=hy.lst sub;obtain⟨i1,i2⟩:=pV (hx.flat hc.1) hc.1 h2 hc.2;refine yR pins s Y H _ _ _ _ Q I rx ry ⟨a,vs,rfl,.inl (hK ▸ h1),(lG (hx.flat hc.1) hc.1).1,i1, ?_⟩;simpa[i2] using k
   ·cases eb
  |dct kvs =>
   change inM d kvs=_ at eb
   cases d with
   |int i =>
    change some _=_ at eb;cases eb;obtain⟨a,rfl,h1⟩:=hy.dct sub;cases hx.int;cases ry;have g:=pW.k (k:=Sum.inl i) h1;rw[DD] at g;exact aG8 (by omega) I g rx λs3 I3=>⟨.bl _,H,I3,rfl,by simpa using k⟩
   |_=>exact(aL eb).elim
  |_=>exact(aL eb).elim
 |NotIn =>
  cases e with
  |tup ds =>
   change (if cF d&&ds.all cF then some _ else none)=_ at eb;split at eb
   ·rename_i hc;cases eb;rw[ZB] at hc;obtain⟨a,vs,rfl,h1,h2⟩:=hy.tup sub;obtain⟨i1,i2⟩:=pV (hx.flat hc.1) hc.1 h2 hc.2;refine p9 pins s Y H _ _ _ _ Q I rx ry ⟨a,vs,rfl,.inr (hK ▸ h1),(lG (hx.flat hc.1) hc.1).1,i1, ?_⟩;simpa[i2] using k
   ·cases eb
  |lst ds =>
   change (if cF d&&ds.all cF then some _ else none)=_ at eb;split at eb
   ·rename_i hc;cases eb;rw[ZB] at hc;obtain⟨a,vs,rfl,h1,h2⟩:=hy.lst sub;obtain⟨i1,i2⟩:=pV (hx.flat hc.1) hc.1 h2 hc.2;refine p9 pins s Y H _ _ _ _ Q I rx ry ⟨a,vs,rfl,.inl (hK ▸ h1),(lG (hx.flat hc.1) hc.1).1,i1, ?_⟩;simpa[i2] using k
   ·cases eb
  |_=>exact(aL eb).elim
end
section
variable{X:Cx}{K:Frag}{pins:List (Addr×Obj)}{Y:St}{H G:Hp}{s:Shared}
def SK(h:aB K G ds vs)(e:cP ds i=some d):∃v,cP vs i=some v/\aC K G d v:=by
 unfold cP at e ⊢;rw[h.len]
 cases q:kS ds.length i with
 |none=>rw[q] at e;cases e
 |some j =>
  rw[q] at e;exact h.get e
noncomputable def aGP(K:Frag):R2:=λx y H Q=>∃G d e r,aV G H/\b9 K H G d x/\b9 K H G e y/\J7 d e=some r/\∀z,aC K G r z->Q z H
def kJ.imp(h:kJ X r)(w:∀x y H Q,r' x y H Q->r x y H Q):kJ X r':=λva sl pins s Y H x y v u Q I rx ry q hs=>h va sl pins s Y H x y v u Q I rx ry (w x y H Q q) hs
def M6(h:PyData.strOk x=true)(e:cP x.cps.toList i=some c):PyData.strOk ⟨#[c]⟩=true:=by
 unfold PyData.strOk at *
 have hm:c∈x.cps.toList:=by
  unfold cP at e
  cases q:kS x.cps.toList.length i with
  |none=>rw[q] at e;cases e
  |some j=>rw[q] at e;exact zj e
 have:=Array.all_eq_true'.mp h c (by simpa using hm)
 simpa using this
noncomputable def aFS:R2:=λx y H Q=>∃a v,x=.ref a/\pW H a y (some v)/\Q v H
def U8(hu:X.A.units+1<cLine):kJ X aFS:=by
 intro value slice pins s Y H x y v u Q I rx ry h hs;obtain⟨a,z,rfl,g,q⟩:=h;cases rx;have hT:=EE I g;unfold subscriptTail;refine Zt ?_;rw[getitemInPython_of_ne hT.not_modules];refine Zt (wpAny_specialOf hT PySem.F.slot_dict_getitem.lookup ?_)
 have fin:wpAny (model X.prog X.w) X.A (subscripted slice false (.ref a) u) (λr s₃=>wpAny (model X.prog X.w) X.A (letTemporaryGo value (.ref a) r>>=λ_=>pure r) (EP X pins Y Q) X.xe s₃) X.xe s:=by(rw[hs];exact wpAny_operating (K4 hu I g ry λw' s3 I3 rw'=>Zt (wpAny_letTemporaryGo (Zu ⟨z,H,I3,rw',q⟩))))
 first
  |exact Zu (Zt fin)
  |exact Zt (Zu (Zt fin))
  |exact Zt fin
def aD3:kJ X (λ_ _ _ _=>False):=λ_ _ _ _ _ _ _ _ _ _ _ _ _ _ h _=>h.elim
noncomputable def F6(K:Frag):R2:=λ_ _ _ _=>False
def PM(hu:X.A.units+11<cLine):kJ X (F6 X.K):=aD3
def aEV(hK:X.K=K)(hu:X.A.units+11<cLine):kJ X (aGP K):=by
 refine kJ.imp ((aCC.or (U8 (by omega))).or (PM hu)) λx y H Q h=>?_
 obtain⟨G,d,e,r,sub,hx,hy,er,k⟩:=h;subst hK;unfold J7 at er;split at er
 ·cases hy.int;obtain⟨a,vs,rfl,h1,h2⟩:=hx.tup sub;obtain⟨v,h3,h4⟩:=SK h2 er;exact .inl (.inl (.inr (.inl ⟨a,vs,_,v,rfl,rfl,h1,h3,k v h4⟩)))
 ·cases hy.int;obtain⟨a,vs,rfl,h1,h2⟩:=hx.lst sub;obtain⟨v,h3,h4⟩:=SK h2 er;exact .inl (.inl (.inl ⟨a,vs,_,v,rfl,rfl,h1,h3,k v h4⟩))
 ·rename_i kvs i;cases hy.int;obtain⟨a,rfl,h1⟩:=hx.dct sub
  cases q:bF kvs i with
  |none=>rw[q] at er;cases er
  |some n =>
   rw[q] at er;cases er;refine .inl (.inr ⟨a,.int n,rfl, ?_,k _ (by simp[aC])⟩);have g:=pW.k (k:=Sum.inl i) h1;rw[DD,q] at g;exact g
 ·split at er
  ·rename_i hz;cases hy.int;obtain⟨rfl,ok⟩:=hx.str
   cases q:cP ‹Str›.cps.toList ‹Int› with
   |none=>rw[q] at er;cases er
   |some c =>
    rw[q] at er;cases er;exact .inl (.inl (.inr (.inr ⟨_,_,c,rfl,rfl,Zr hz (by decide),q,k _ (show aC X.K G (.str _) _ by unfold aC;exact⟨rfl,M6 ok q⟩)⟩)))
  ·cases er
 ·cases er
def LK{lo hi:Option Int}(h:aB K G ds vs):aB K G (wM ds lo hi) (qL vs lo hi):=by
 unfold wM qL;rw[h.len];exact(h.drop _).take _
def aGQ(K:Frag):V->Option Int->Option Int->Hp->VK->Prop:=λx lo hi H Q=>∃G d v,aV G H/\b9 K H G d x/\SF d lo hi=some v/\∀z H',tL K H G v z H'->Q z H'
def aEz(hK:X.K=K):uZ X (aGQ K):=by
 intro pins s Y H x v vl vu lo hi sl Q I rx hs pl pu h;obtain⟨G,d,r,sub,hx,er,k⟩:=h;subst hK;refine uZ.or YL aB1 pins s Y H x v vl vu lo hi sl Q I rx hs pl pu ?_;unfold SF at er;split at er
 ·cases er;obtain⟨a,vs,rfl,h1,h2⟩:=hx.lst sub;exact .inl ⟨a,vs,rfl,h1,λp hp=>k _ _ (.inr (.inl ⟨_,_,p,rfl,hp,LK h2,rfl,rfl⟩))⟩
 ·split at er
  ·cases er
  ·rename_i hw;cases er;obtain⟨a,vs,rfl,h1,h2⟩:=hx.tup sub;exact .inr ⟨a,vs,rfl,h1,by rw[h2.len];exact hw,λp hp=>k _ _ (T1 ⟨_,_,p,rfl,hp,LK h2,rfl,rfl⟩)⟩
 ·cases er
def AS(K:Frag)(H G:Hp):List D->List V->Prop
 |[],xs=>xs=[]
 |d::ds,xs=>∃x r,xs=x::r/\b9 K H G d x/\AS K H G ds r
def fY(h:AS K H G [d] xs):∃x,xs=[x]/\b9 K H G d x:=by
 obtain⟨x,r,rfl,h1,h2⟩:=h;cases (show r=[] from h2);exact⟨x,rfl,h1⟩
def rBi(K:Frag)(f:BI):List V->Hp->VK->Prop:=λxs H Q=>∃G ds v,aV G H/\AS K H G ds xs/\nL f ds=some v/\∀z H',tL K H G v z H'->Q z H'
noncomputable def biV:BI->Value
 |.len=>.builtin "len"
 |.abs=>.builtin "abs"
 |.int=>.type "int"
 |.list=>.type "list"
 |.tuple=>.type "tuple"
 |.all=>.builtin "all"
 |.sorted=>.builtin "sorted"
theorem CJ:∀{ds:List D} {vs:List V} {us:List Value} {bs:List Bool},aB K G ds vs->aQ vs us->gY ds=some bs->LSm.BoolsAre us bs
 |[],_,_,_,h,r,e=>by
  simp only[aB] at h;subst h;cases r;cases e;exact .nil
 |d::ds,_,_,_,h,r,e=>by
  simp only[aB] at h;obtain⟨v,r',rfl,h1,h2⟩:=h
  cases r with
  |cons ra rb =>
   cases d<;>simp only[gY,reduceCtorEq] at e;rename_i b
   cases q:gY ds with
   |none=>rw[q] at e;cases e
   |some bs' =>
    rw[q] at e;cases e;simp only[aC] at h1;subst h1;cases ra;exact .cons b (CJ h2 rb q)
def RD(hc:X.A.handled=none):iO X (.builtin "all") (λxs H Q=>∃a vs ds bs G,xs=[.ref a]/\bX X.K H a vs/\aB X.K G ds vs/\gY ds=some bs/\Q (.bl (bs.all id)) H):=by
 intro pins s Y H xs us Q I r h;obtain⟨a,vs,ds,bs,G,rfl,h1,h2,h3,q⟩:=h;obtain⟨u,rfl,rx⟩:=kB r;cases rx;obtain⟨its,rv,hl,z⟩:=xA I h1;have hb:=CJ h2 rv h3;have hlt:a<s.heap.objs.size:=by obtain⟨_,e,_⟩:=hl;exact Zv e
 refine call_all_walk (wpAny_pyIter_list hl ?_)
 refine⟨s.heap.objs.size,[s.heap.objs.size,a],[s.heap.objs.size],its.toArray.size,_,_,λi=>(bs[i]?).getD true,rfl,Walks.list (A:=X.A.in1) hc _ a (Zz hlt) its.toArray,
  ⟨⟨_,Zw _ rfl,rfl,rfl⟩,hl.push _⟩,λi v s' Q' E' hP hQ=>?_,λh' tk hk=>?_⟩
 ·obtain⟨b,e,rfl⟩:=hb.get i v (by simpa using hP);simp only[e,Option.getD_some] at hQ;exact wpAny_truthy_bool hQ
 ·have e:((List.range its.toArray.size).all λi=>(bs[i]?).getD true)=bs.all id:=by
   rw[Zi,hb.length];exact LSm.range_all bs
  rw[e];exact⟨.bl _,H,I.kept (t':=tk) (LSm.kept_iter hk),rfl,q⟩
theorem xK:∀{ds:List D} {vs:List V} {us:List Value} {is:List Int},aB K G ds vs->aQ vs us->dH ds=some is->IntsAre us is
 |[],_,_,_,h,r,e=>by
  simp only[aB] at h;subst h;cases r;cases e;exact .nil
 |d::ds,_,_,_,h,r,e=>by
  simp only[aB] at h;obtain⟨v,r',rfl,h1,h2⟩:=h
  cases r with
  |cons ra rb =>
   cases d<;>simp only[dH,reduceCtorEq] at e;rename_i b
   cases q:dH ds with
   |none=>rw[q] at e;cases e
   |some bs' =>
    rw[q] at e;cases e;simp only[aC] at h1;subst h1;obtain⟨t,rfl⟩:=ra;exact .cons _ _ (xK h2 rb q)
theorem jS:∀ns:List Int,dH (ns.map .int)=some ns
 |[]=>rfl
 |n::ns=>by rw[Zs,dH,jS ns];rfl
def yG(h:fV d=some k):∃b r ns,d=.tup [.int b,.int r,.tup (ns.map .int)]/\k=b::r::ns:=by
 unfold fV at h;split at h
 ·rename_i b r ds
  cases q:dH ds with
  |none=>rw[q] at h;cases h
  |some ns =>
   rw[q] at h;cases h;exact⟨b,r,ns,by rw[CO q],rfl⟩
 ·cases h
def QR(h1:(fV d).isSome=true)(h2:(fV e).isSome=true)(h:kD d=kD e):d=e:=by
 obtain⟨k,hk⟩:=Option.isSome_iff_exists.mp h1;obtain⟨l,hl⟩:=Option.isSome_iff_exists.mp h2;unfold kD at h;rw[hk,hl] at h;cases h;obtain⟨b,r,ns,rfl,e1⟩:=yG hk;obtain⟨b',r',ns',rfl,e2⟩:=yG hl;rw[e1] at e2;cases e2;rfl
abbrev mL(d e:D):Prop:=HT.bU (kD e) (kD d)=false
def aCH(h:HT.bU (kD d) (kD e)=true):mL d e:=by
 cases q:HT.bU (kD e) (kD d) with
 |false=>exact q
 |true =>
  have:=CS.lx_tr _ _ _ h q
  rw[CS.lx_irr] at this;cases this
def aAr(h1:mL d e)(h2:mL e f):mL d f:=by
 cases q:HT.bU (kD f) (kD d) with
 |false=>exact q
 |true =>
  rcases CS.lx_neg _ (kD e) _ q with h | h
  ·rw[h2] at h;cases h
  ·rw[h1] at h;cases h
theorem qU(x:D):∀l:List D,(xJ x l).Perm (x::l)
 |[]=>.refl _
 |y::l=>by
  unfold xJ;split
  ·exact((qU x l).cons y).trans (.swap ..)
  ·exact .refl _
theorem FW(x:D):∀{l:List D},l.Pairwise mL->(xJ x l).Pairwise mL
 |[],_=>List.pairwise_singleton _ _
 |y::l,h=>by
  obtain⟨h1,h2⟩:=List.pairwise_cons.mp h;unfold xJ;split
  ·rename_i q;refine List.pairwise_cons.mpr ⟨λz hz=>?_,FW x h2⟩;rcases List.mem_cons.mp ((qU x l).mem_iff.mp hz) with rfl | hz
   ·exact aCH q
   ·exact h1 z hz
  ·rename_i q;have q:mL x y:=by simpa using q
   refine List.pairwise_cons.mpr ⟨λz hz=>?_,h⟩;rcases List.mem_cons.mp hz with rfl | hz
   ·exact q
   ·exact aAr q (h1 z hz)
theorem oG:∀ds:List D,(jK ds).Perm ds
 |[]=>.refl _
 |d::ds=>(qU d _).trans ((oG ds).cons d)
theorem CL:∀ds:List D,(jK ds).Pairwise mL
 |[]=>.nil
 |d::ds=>FW d (CL ds)
def C4(h:(ds.all λd=>(fV d).isSome)=true)(p:es.Perm ds)(r:es.Pairwise mL):es=jK ds:=by
 have hd:∀d∈ds,(fV d).isSome=true:=List.all_eq_true.mp h
 refine List.Perm.eq_of_pairwise (le:=mL) (λa b ha hb h1 h2=>?_) r (CL ds) (p.trans (oG ds).symm);exact QR (hd a (p.mem_iff.mp ha)) (hd b ((oG ds).mem_iff.mp hb)) (CS.lx_tot _ _ h2 h1)
def aEk(p:its.Perm out):∀{ds:List D} {vs:List V},aB K G ds vs->aQ vs its->∃ds' vs',ds'.Perm ds/\aB K G ds' vs'/\aQ vs' out:=by
 induction p with
 |nil=>exact λ{ds vs} h r=>⟨ds,vs,.refl _,h,r⟩
 |cons u _ ih =>
  intro ds vs h r
  cases r with
  |cons ra rb =>
   cases ds with
   |nil=>simp only[aB] at h;cases h
   |cons d ds =>
    simp only[aB] at h;obtain⟨v,r',e,h1,h2⟩:=h;cases e;obtain⟨ds',vs',p',h',r'⟩:=ih h2 rb;exact⟨d::ds',_::vs',p'.cons d,by simp only[aB];exact⟨_,_,rfl,h1,h'⟩,.cons ra r'⟩
 |swap u w l =>
  intro ds vs h r
  cases r with
  |cons ra rb =>
   cases rb with
   |cons rb rc =>
    obtain _ | ⟨d,_ | ⟨e,ds⟩⟩:=ds
    ·simp only[aB] at h;cases h
    ·simp only[aB] at h;obtain⟨_,_,e,_,h2⟩:=h;cases e;cases h2
    ·simp only[aB] at h;obtain⟨_,_,e1,h1,_,_,e2,h2,h3⟩:=h;cases e1;cases e2;exact⟨e::d::ds,_,.swap ..,by simp only[aB];exact⟨_,_,rfl,h2,_,_,rfl,h1,h3⟩,.cons rb (.cons ra rc)⟩
 |trans _ _ ih1 ih2 =>
  intro ds vs h r;obtain⟨ds1,vs1,p1,h1,r1⟩:=ih1 h r;obtain⟨ds2,vs2,p2,h2,r2⟩:=ih2 h1 r1;exact⟨ds2,vs2,p2.trans p1,h2,r2⟩
def aEw(I:Inv X pins Y H s)(sub:aV G H)(h:aC X.K G d x)(r:aY x u)(e:(fV d).isSome=true):CS.TriAt s.heap u (kD d):=by
 obtain⟨k,hk⟩:=Option.isSome_iff_exists.mp e;have ek:kD d=k:=by unfold kD;rw[hk];rfl
 obtain⟨b,c,ns,rfl,rfl⟩:=yG hk;rw[ek];simp only[aC,aB] at h;obtain⟨a,vs,rfl,h1,_,_,rfl,rfl,_,_,rfl,rfl,_,_,rfl,⟨a2,vs2,rfl,h2,h3⟩,rfl⟩:=h;cases r;obtain⟨its,ri,ti,_⟩:=I.tuple (dE sub h1);obtain⟨its2,ri2,ti2,_⟩:=I.tuple (dE sub h2)
 cases ri with
 |cons r1 ri =>
  cases ri with
  |cons r2 ri =>
   cases ri with
   |cons r3 ri =>
    cases ri;obtain⟨t1,rfl⟩:=r1;obtain⟨t2,rfl⟩:=r2;cases r3;refine⟨a,a2,b,c,t1,t2,ns,its2.toArray,rfl,ti,ti2, ?_,rfl⟩;exact xK (K:=X.K) h3 ri2 (jS ns)
theorem DN(I:Inv X pins Y H s)(sub:aV G H):∀{ds:List D} {vs:List V} {us:List Value},aB X.K G ds vs->aQ vs us->(∀d∈ds,(fV d).isSome=true)->(∀u∈us,∃d∈ds,CS.TriAt s.heap u (kD d))/\(CS.Rise s.heap us->ds.Pairwise mL)/\∀d∈ds,∃u∈us,CS.TriAt s.heap u (kD d)
 |[],_,_,h,r,_=>by
  simp only[aB] at h;subst h;cases r;exact⟨λ_ z=>(nomatch z),λ_=>.nil,λ_ z=>(nomatch z)⟩
 |d::ds,_,_,h,r,e=>by
  simp only[aB] at h;obtain⟨v,r',rfl,h1,h2⟩:=h
  cases r with
  |cons ra rb =>
   obtain⟨a1,a2,a3⟩:=DN I sub h2 rb λx hx=>e x (Ze _ hx)
   have k1:=aEw I sub h1 ra (e d (zh ..));refine⟨λu hu=>?_,λhr=>?_,λx hx=>?_⟩
   ·rcases List.mem_cons.mp hu with rfl | hu
    ·exact⟨d,zh ..,k1⟩
    ·obtain⟨y,hy,q⟩:=a1 u hu;exact⟨y,Ze _ hy,q⟩
   ·obtain⟨q1,q2⟩:=List.pairwise_cons.mp hr;refine List.pairwise_cons.mpr ⟨λx hx=>?_,a2 q2⟩;obtain⟨u,hu,q⟩:=a3 x hx;exact q1 u hu _ _ k1 q
   ·rcases List.mem_cons.mp hx with rfl | hx
    ·exact⟨_,zh ..,k1⟩
    ·obtain⟨y,hy,q⟩:=a3 x hx;exact⟨y,Ze _ hy,q⟩
def DU(rm:Room 2 X.A)(hc:X.calm=true):iO X (.builtin "sorted") (λxs H Q=>∃a vs ds G,aV G H/\xs=[.ref a]/\bX X.K H a vs/\aB X.K G ds vs/\(ds.all λd=>(fV d).isSome)=true/\∀p vs',H p=none->aB X.K G (jK ds) vs'->Q (.ref p) (aO H p (.lst vs'))):=by
 intro pins s Y H xs us Q I r h;obtain⟨a,vs,ds,G,sub,rfl,h1,h2,h3,q⟩:=h;obtain⟨u,rfl,rx⟩:=kB r;cases rx;obtain⟨its,rv,hl,z⟩:=xA I h1;have hd:∀d∈ds,(fV d).isSome=true:=List.all_eq_true.mp h3
 obtain⟨k1,_,_⟩:=DN I sub h2 rv hd;refine CS.sorted_any hl (by rw[<- rv.length];exact z) (λx hx=>⟨_,(k1 x hx).choose_spec.2⟩) (by have:=rm.un;omega) λout p ri=>?_
 obtain⟨ds',vs',p',h',r'⟩:=aEk p.symm h2 rv;obtain⟨_,k2,_⟩:=DN I sub h' r' λd hd'=>hd d (p'.mem_iff.mp hd')
 obtain rfl:=C4 h3 p' (k2 ri);obtain⟨nn,ea⟩:=CS.all_at s.heap its out;refine⟨.ref (s.heap.objs.size+1),_,I.laid (o:=.lst vs') (t':=s.toks) (CS.all_kept s.heap its out) (Nat.le_succ _) ⟨?_,out.toList,_,r',ea⟩,rfl,q _ _ (I.hok.fresh (Nat.le_succ _)) h'⟩;rw[r'.length,p.length_eq,<- rv.length];exact z
theorem qX(x:Int):∀l:List Int,(xG x l).Perm (x::l)
 |[]=>.refl _
 |y::l=>by
  unfold xG;split
  ·exact((qX x l).cons y).trans (.swap ..)
  ·exact .refl _
theorem E6(x:Int):∀{l:List Int},l.Pairwise (·<=·)->(xG x l).Pairwise (·<=·)
 |[],_=>List.pairwise_singleton _ _
 |y::l,h=>by
  obtain⟨h1,h2⟩:=List.pairwise_cons.mp h;unfold xG;split
  ·refine List.pairwise_cons.mpr ⟨λz hz=>?_,E6 x h2⟩;rcases List.mem_cons.mp ((qX x l).mem_iff.mp hz) with rfl | hz
   ·omega
   ·exact h1 z hz
  ·refine List.pairwise_cons.mpr ⟨λz hz=>?_,h⟩;rcases List.mem_cons.mp hz with rfl | hz
   ·omega
   ·have:=h1 z hz;omega
theorem oZ:∀ns:List Int,(iQ ns).Perm ns
 |[]=>.refl _
 |n::ns=>(qX n _).trans ((oZ ns).cons n)
theorem CZ:∀ns:List Int,(iQ ns).Pairwise (·<=·)
 |[]=>.nil
 |n::ns=>E6 n (CZ ns)
def OA{ns ms:List Int}(p:ms.Perm ns)(r:ms.Pairwise (·<=·)):ms=iQ ns :=
 List.Perm.eq_of_pairwise (le:=(·<=·)) (λ_ _ _ _ h1 h2=>Int.le_antisymm h1 h2) r (CZ ns) (p.trans (oZ ns).symm)
theorem yX:∀{us:List Value} {ns:List Int},IntsAre us ns->aQ (ns.map .int) us
 |_,_,.nil=>.nil
 |_,_,.cons n t r=>.cons ⟨t,rfl⟩ (yX r)
theorem yH{K:W.Frag}{G:Hp}:∀ns:List Int,aB K G (ns.map .int) (ns.map .int)
 |[]=>by simp only[List.map_nil,aB]
 |n::ns=>by simp only[Zs,aB];exact⟨_,_,rfl,by simp only[aC],yH ns⟩
def IM(pins:List (Addr×Obj))(s:Shared)(Y:St)(H G:Hp)(a:Addr)(vs:List V)(ds:List D)(ns:List Int)(us:List Value)(Q:VK)(I:Inv X pins Y H s)(r:aQ [.ref a] us)(h1:bX X.K H a vs)(h2:aB X.K G ds vs)(h3:dH ds=some ns)(hz:ns.length<64)
  (q:∀p,H p=none->Q (.ref p) (aO H p (.lst ((iQ ns).map .int)))):wpAny (model X.prog X.w) X.A (call (.builtin "sorted") us) (EP X pins Y Q) X.xe s:=by
 obtain⟨u,rfl,rx⟩:=kB r;cases rx;obtain⟨its,rv,hl,z⟩:=xA I h1;have hi:=xK (K:=X.K) (G:=G) h2 rv h3;refine sorted_ints hl hi (by rw[IntsAre.length hi];exact hz) λout ns' a1 a2 a3=>?_
 obtain rfl:=OA a2 a3;obtain⟨nn,ea⟩:=CS.all_at s.heap its out;refine⟨.ref (s.heap.objs.size+1),_,I.laid (o:=.lst ((iQ ns).map .int)) (t':=s.toks) (CS.all_kept s.heap its out) (Nat.le_succ _) ⟨?_,out.toList,_,yX a1,ea⟩,rfl,q _ (I.hok.fresh (Nat.le_succ _))⟩;rw[List.length_map,a2.length_eq,sizeLine_eq];omega
def aEK(hK:X.K=K)(hc:X.calm=true)(hh:X.A.handled=none)(rm:Room 2 X.A)(f:BI):iO X (biV f) (rBi K f):=by
 intro pins s Y H xs us Q I r h;obtain⟨G,ds,v,sub,hx,e,k⟩:=h;subst hK
 cases f with
 |len =>
  obtain _ | ⟨d,_ | ⟨_,_⟩⟩:=ds
  ·exact(aL e).elim
  ·cases d with
   |lst =>
    change some _=_ at e;cases e;obtain⟨x,rfl,h1⟩:=fY hx;obtain⟨a,vs,rfl,h2,h3⟩:=h1.lst sub;exact qC pins s Y H _ us Q I r ⟨a,vs,rfl,.inl h2,by rw[h3.len];exact k _ _ cL⟩
   |tup =>
    change some _=_ at e;cases e;obtain⟨x,rfl,h1⟩:=fY hx;obtain⟨a,vs,rfl,h2,h3⟩:=h1.tup sub;exact qC pins s Y H _ us Q I r ⟨a,vs,rfl,.inr h2,by rw[h3.len];exact k _ _ cL⟩
   |dct kvs =>
    change some _=_ at e;cases e;obtain⟨x,rfl,h1⟩:=fY hx;obtain⟨a,rfl,h2⟩:=h1.dct sub;obtain⟨u,rfl,ru⟩:=kB r;cases ru;refine aEE I (.inl h2) λt s' I'=>⟨.int ((lV kvs).length:Int),H,I',⟨t,rfl⟩, ?_⟩
    rw[show(lV kvs).length=kvs.length from List.length_map _];exact k _ _ cL
   |str x =>
    change @ite _ (x.length<=1000000) (cl _) _ none=_ at e;split at e
    ·rename_i hz;cases e;obtain⟨x,rfl,h1⟩:=fY hx;obtain⟨rfl,_⟩:=h1.str;exact BZ pins s Y H _ us Q I r ⟨_,rfl,Zr hz (by decide),k _ _ cL⟩
    ·cases e
   |_=>exact(aL e).elim
  ·cases d<;>exact(aL e).elim
 |abs =>
  obtain _ | ⟨d,_ | ⟨_,_⟩⟩:=ds
  ·exact(aL e).elim
  ·cases d with
   |int =>
    change some _=_ at e;cases e;obtain⟨x,rfl,h1⟩:=fY hx;cases h1.int;exact QZ pins s Y H _ us Q I r ⟨_,rfl,k _ _ cL⟩
   |_=>exact(aL e).elim
  ·cases d<;>exact(aL e).elim
 |int =>
  obtain _ | ⟨d,_ | ⟨_,_⟩⟩:=ds
  ·exact(aL e).elim
  ·cases d with
   |int =>
    change some _=_ at e;cases e;obtain⟨x,rfl,h1⟩:=fY hx;cases h1.int;exact yU pins s Y H _ us Q I r (.inl ⟨_,rfl,k _ _ cL⟩)
   |bl =>
    change some _=_ at e;cases e;obtain⟨x,rfl,h1⟩:=fY hx;cases h1.bl;exact yU pins s Y H _ us Q I r (.inr ⟨_,rfl,k _ _ cL⟩)
   |_=>exact(aL e).elim
  ·cases d<;>exact(aL e).elim
 |list=>exact(aL e).elim
 |tuple =>
  obtain _ | ⟨d,_ | ⟨_,_⟩⟩:=ds
  ·exact(aL e).elim
  ·cases d with
   |lst =>
    change some _=_ at e;cases e;obtain⟨x,rfl,h1⟩:=fY hx;obtain⟨a,vs,rfl,h2,h3⟩:=h1.lst sub;exact o9 pins s Y H _ us Q I r ⟨a,vs,rfl,.inl ⟨h2,λp hp=>k _ _ (T1 ⟨_,_,p,rfl,hp,h3,rfl,rfl⟩)⟩⟩
   |tup =>
    change some _=_ at e;cases e;obtain⟨x,rfl,h1⟩:=fY hx;have h1':=h1;obtain⟨a,vs,rfl,h2,h3⟩:=h1.tup sub;refine o9 pins s Y H _ us Q I r ⟨a,vs,rfl,.inr ⟨h2, ?_⟩⟩;rcases h1' with h1' | ⟨_,_,h1'⟩
    ·exact k _ _ (.inl ⟨_,rfl,h1',rfl⟩)
    ·exact h1'.elim
   |_=>exact(aL e).elim
  ·cases d<;>exact(aL e).elim
 |all =>
  obtain _ | ⟨d,_ | ⟨_,_⟩⟩:=ds
  ·exact(aL e).elim
  ·cases d with
   |lst ds =>
    change (gY ds).map _=_ at e
    cases q:gY ds with
    |none=>rw[q] at e;cases e
    |some bs =>
     rw[q] at e;cases e;obtain⟨x,rfl,h1⟩:=fY hx;obtain⟨a,vs,rfl,h2,h3⟩:=h1.lst sub;exact RD hh pins s Y H _ us Q I r ⟨a,vs,ds,bs,G,rfl,h2,h3,q,k _ _ YH⟩
   |_=>exact(aL e).elim
  ·cases d<;>exact(aL e).elim
 |sorted =>
  obtain _ | ⟨d,_ | ⟨_,_⟩⟩:=ds
  ·exact(aL e).elim
  ·cases d with
   |lst ds =>
    change (if(ds.all λd=>(fV d).isSome)=true then some (RV.ow (.lst (jK ds))) else x5 ds)=_ at e;split at e
    ·rename_i ha;cases e;obtain⟨x,rfl,h1⟩:=fY hx;obtain⟨a,vs,rfl,h2,h3⟩:=h1.lst sub;exact DU rm hc pins s Y H _ us Q I r ⟨a,vs,ds,G,sub,rfl,h2,h3,ha,λp vs' hp h'=>k _ _ (.inr (.inl ⟨_,_,p,rfl,hp,h',rfl,rfl⟩))⟩
    ·change x5 ds=_ at e;unfold x5 at e
     cases q:dH ds with
     |none=>rw[q] at e;cases e
     |some ns =>
      rw[q] at e;change (if ns.length<64 then some (RV.ow (.lst ((iQ ns).map .int))) else none)=_ at e;split at e
      ·rename_i hz;cases e;obtain⟨x,rfl,h1⟩:=fY hx;obtain⟨a,vs,rfl,h2,h3⟩:=h1.lst sub;exact IM pins s Y H G a vs ds ns us Q I r h2 h3 q hz λp hp=>k _ _ (.inr (.inl ⟨_,_,p,rfl,hp,yH _,rfl,rfl⟩))
      ·cases e
   |_=>exact(aL e).elim
  ·cases d<;>exact(aL e).elim
noncomputable def O6:Ty->V
 |.int=>.ty "int"
 |.bool=>.ty "bool"
 |.tuple=>.ty "tuple"
def aB9(hK:X.K=K)(t:Ty):iO X (.builtin "isinstance") (λxs H Q=>∃G d x b,aV G H/\xs=[x,O6 t]/\b9 K H G d x/\IK t d=some b/\Q (.bl b) H):=by
 intro pins s Y H xs us Q I r h;obtain⟨G,d,x,b,sub,rfl,hx,e,q⟩:=h;subst hK;obtain⟨u,w,rfl,rx,rw'⟩:=aEY r;have fin:∀tk,EP X pins Y Q (.bool b) { s with toks:=tk }:=λtk=>⟨.bl b,H,I.tok tk,rfl,q⟩
 have key:∀T:String,w=.type T->∀c:String,(∀S:Value->Option Bool,True)->True:=λ_ _ _ _=>trivial
 cases t<;>simp only[IK,reduceCtorEq] at e<;>(try (cases (show w=_ from rw')))
 all_goals
  cases d<;>simp only[Option.some.injEq,reduceCtorEq] at e<;>subst e
  all_goals first
   | (cases hx.non;cases (show u=Value.none from rx);exact PySem.W.kia_one PySem.W.kitx_none I.kIn True.intro (by rfl) (λz=>nomatch z) fin)
   | (cases hx.bl;cases (show u=Value.bool _ from rx);exact PySem.W.kia_one PySem.W.kitx_bool I.kIn True.intro (by rfl) (λz=>nomatch z) fin)
   | (cases hx.int;obtain⟨t,q'⟩:=(show ∃t,u=Value.int _ t from rx);cases q';exact PySem.W.kia_one PySem.W.kitx_int I.kIn True.intro (by rfl) (λz=>nomatch z) fin)
   | (obtain⟨rfl,_⟩:=hx.str;obtain⟨t,q'⟩:=(show ∃t,u=Value.str _ t from rx);cases q';exact PySem.W.kia_one PySem.W.kitx_str I.kIn True.intro (by rfl) (λz=>nomatch z) fin)
   | (obtain⟨a,vs,rfl,h2,h3⟩:=hx.lst sub;cases (show u=Value.ref a from rx);obtain⟨its,_,⟨o,n,h4,h5,_⟩,_⟩:=I.list h2;exact PySem.W.kia_one PySem.W.kitx_list I.kIn ⟨o,h4,h5⟩ (by rfl) (λz=>nomatch z) fin)
   | (exfalso;rcases hx with hx | ⟨_,_,hx⟩<;>first | exact hx.elim | (simp only[aC] at hx;done))
   | (obtain⟨a,vs,rfl,h2,h3⟩:=hx.tup sub;cases (show u=Value.ref a from rx);obtain⟨its,_,⟨o,h4,h5,_⟩,_⟩:=I.tuple h2;exact PySem.W.kia_one PySem.W.kitx_tuple I.kIn ⟨o,h4,h5⟩ (by rfl) (λz=>nomatch z) fin)
end
section
variable{X:Cx}{pins:List (Addr×Obj)}{Y:L2.St}{H:Hp}{s:Shared}{h':Heap}
def LS(I:Inv X pins Y H s)(k:∀b u,b≠e->b≠it->s.heap.get? b=some u->h'.get? b=some u)(fe:iZ X pins H e)(fi:iZ X pins H it)(hp:s.heap.objs.size<=p)
  (new:dU X.prog X.w (aO H p o) h' p o):Inv X pins Y (aO H p o) { s with heap:=h',toks:=t' }:=by
 have hn:H p=none:=I.hok.fresh hp;have ne:∀{b:Addr} {u:HO},H b=some u->b≠e/\b≠it:=λq=>⟨bP q fe.1,bP q fi.1⟩
 have nc:∀{b:Addr},b ∉ [e,it]->b≠e/\b≠it:=λhc=>⟨λz=>hc (by simp[z]),λz=>hc (by simp[z])⟩
 refine I.step (g':=s.gens) (d':=s.drawn) (ch:=[e,it]) (λb hb=>?_) (λb o _ _ hc q _=>k b o (nc hc).1 (nc hc).2 q) (λb o _ _ hc q _=>⟨o.slots,k b o (nc hc).1 (nc hc).2 q⟩)
  (λb o _ q n=>by rw[aM (Zz (Zl (Zv q) hp))];exact n)
  (λb o hc q=>⟨o,k b o (nc hc).1 (nc hc).2 q⟩) (λb xs q=>by rw[aM (bP q hn)];exact q) (λb o u q=>by rw[aM (bP q hn)];exact q) (λb ps q=>⟨#[],by rw[aM (bP q hn),q];simp⟩) (λm hm=>?_) (λb u q=>?_) I.bare
 ·have hb:b=e\/b=it:=by simpa using hb
  rcases hb with rfl | rfl
  ·exact⟨fe.2.2.2.1,fe.2.1,fe.2.2.2.2.1,fe.2.2.2.2.2⟩
  ·exact⟨fi.2.2.2.1,fi.2.1,fi.2.2.2.2.1,fi.2.2.2.2.2⟩
 ·obtain⟨o,es,ep,ho,r⟩:=hm;exact⟨o,es,ep,k _ o (Ne.symm fe.2.1) (Ne.symm fi.2.1) ho,r⟩
 ·by_cases hb:b=p
  ·subst hb;rw[a9] at q;cases q;exact new
  ·rw[aM hb] at q;refine(I.hok b u q).stay (λc v hc z=>?_) (λc q=>by rw[aM (bP q hn)];exact q) λc xs q=>by rw[aM (bP q hn)];exact q
   have hc':c≠e/\c≠it:=by
    rcases hc with w | w
    ·rw[w];exact ne q
    ·exact ne w
   exact k c v hc'.1 hc'.2 z
def EF(I:Inv X pins Y H s)(k:∀b u,b≠e->b≠it->s.heap.get? b=some u->h'.get? b=some u)(fe:iZ X pins H e)(fi:iZ X pins H it):Inv X pins Y H { s with heap:=h',toks:=t' }:=by
 have ne:∀{b:Addr} {u:HO},H b=some u->b≠e/\b≠it:=λq=>⟨bP q fe.1,bP q fi.1⟩
 have nc:∀{b:Addr},b ∉ [e,it]->b≠e/\b≠it:=λhc=>⟨λz=>hc (by simp[z]),λz=>hc (by simp[z])⟩
 refine I.step (g':=s.gens) (d':=s.drawn) (ch:=[e,it]) (λb hb=>?_) (λb o _ _ hc q _=>k b o (nc hc).1 (nc hc).2 q) (λb o _ _ hc q _=>⟨o.slots,k b o (nc hc).1 (nc hc).2 q⟩)
  (λ_ _ _ _ n=>n) (λb o hc q=>⟨o,k b o (nc hc).1 (nc hc).2 q⟩) (λ_ _ q=>q) (λ_ _ _ q=>q) (λb ps q=>⟨#[],by rw[q];simp⟩) (λm hm=>?_) (λb u q=>?_) I.bare
 ·have hb:b=e\/b=it:=by simpa using hb
  rcases hb with rfl | rfl
  ·exact⟨fe.2.2.2.1,fe.2.1,fe.2.2.2.2.1,fe.2.2.2.2.2⟩
  ·exact⟨fi.2.2.2.1,fi.2.1,fi.2.2.2.2.1,fi.2.2.2.2.2⟩
 ·obtain⟨o,es,ep,ho,r⟩:=hm;exact⟨o,es,ep,k _ o (Ne.symm fe.2.1) (Ne.symm fi.2.1) ho,r⟩
 ·refine(I.hok b u q).stay (λc v hc z=>?_) (λ_ q=>q) λ_ _ q=>q
  have hc':c≠e/\c≠it:=by
   rcases hc with w | w
   ·rw[w];exact ne q
   ·exact ne w
  exact k c v hc'.1 hc'.2 z
end
section
variable{prog:Program}{w:World}{A:Around}{E:Value->Shared->Prop}{s:Shared}
def ZU{Q:Value->Shared->Prop}(q1:IsEnum s.heap e it c old)(q2:s.heap.IsListIter it l i)(q3:s.heap.IsList l us)(q4:us[i]?=some u)(ne:e≠it)
  (k:∀g,IsEnumOut g e it (c+1) u s.heap.objs.size->g.IsListIter it l (i+1)->g.get? s.heap.objs.size=some { cls:=.type "tuple",data:=.seq #[.int c s.toks,u] }->(∀b o,b≠e->b≠it->s.heap.get? b=some o->g.get? b=some o)->Q (.ref s.heap.objs.size) { s with heap:=g,toks:=s.toks+1 }) :
  wpAny (model prog w) A (Builtin.«enumerate.__next__» ⟨[.ref e],[]⟩) (λfin s'=>∃v,fin=.done (.ret v)/\Q v s') E s:=by
 obtain⟨m0,ge,dr,tk,os⟩:=s;refine Zt (m:=field (.ref e) 2) (wpAny_field q1 rfl (x:=.ref it) rfl (Zt (wpAny_nextOf_list_item q2 q3 q4 λm1 t1 b1=>?_)));have b1:Heap.SameBut it m0 m1:=b1;have e1:IsEnum m1 e it c old:=(b1.2 e ne).trans q1;refine Zt (m:=field (.ref e) 3) (wpAny_field e1 rfl (x:=rawInt c) rfl (Zt (m:=field (.ref e) 4) (wpAny_field e1 rfl (x:=.none) rfl (Zt (m:=mkInt c) (wpAny_mkInt ?_)))));refine Zt (m:=setField (.ref e) 3 (rawInt (c+1))) (wpAny_setField_rec e1 (by simp) λm2 e2 b2=>?_);have b2:Heap.SameBut e m1 m2:=b2;have e2:IsEnum m2 e it (c+1) old:=e2;refine Zt (m:=setField (.ref e) 4 .none) (wpAny_setField_rec e2 (by simp) λm3 e3 b3=>?_);have b3:Heap.SameBut e m2 m3:=b3;have e3:IsEnum m3 e it (c+1) old:=e3;refine Zt (m:=newTuple [.int c tk,u]) (wpAny_newTuple ?_);have n3:m3.objs.size=m0.objs.size:=by rw[b3.1,b2.1,b1.1]
 have lt:e<m0.objs.size:=Zv q1;obtain⟨m4,z4⟩:∃m4,m3.push { cls:=.type "tuple",data:=.seq #[.int c tk,u] }=m4:=⟨_,rfl⟩
 have e4:IsEnum m4 e it (c+1) old:=z4 ▸ Zd _ e3;have p4:m4.get? m0.objs.size=some { cls:=.type "tuple",data:=.seq #[.int c tk,u] }:=z4 ▸ n3 ▸ Zw _ rfl;have k4:∀b o,b≠e->b≠it->m0.get? b=some o->m4.get? b=some o:=λb o x y q=>z4 ▸ Zd _ (b3.extBut b o x (b2.extBut b o x (b1.extBut b o y q)))
 have t4:m4.IsListIter it l (i+1):=by(obtain⟨o,ho,r⟩:=(t1.extBut b2.extBut ne.symm).extBut b3.extBut ne.symm;exact⟨o,z4 ▸ Zd _ ho,r⟩)
 rw[n3,z4];refine Zt (m:=Builtin.SmallTypes.ownedTupleIsFree (.ref e)) ?_;unfold Builtin.SmallTypes.ownedTupleIsFree;refine Zt (wpAny_field e4 rfl (x:=.none) rfl (Zu ?_));simp only[if_true];refine Zt (wpAny_rule (Zt (wpAny_field e4 rfl (x:=old) rfl (Zt (wpAny_setField_rec e4 (by simp) λm5 e5 b5=>?_)))));have b5:Heap.SameBut e m4 m5:=b5;have e5:IsEnum m5 e it (c+1) u:=e5;refine Zt (m:=Builtin.SmallTypes.ownedTupleHandOut (.ref e) (.ref m0.objs.size)) ?_;unfold Builtin.SmallTypes.ownedTupleHandOut;refine Zt (wpAny_setField_rec e5 (by simp) λm6 e6 b6=>?_);have b6:Heap.SameBut e m5 m6:=b6;have e6:IsEnumOut m6 e it (c+1) u m0.objs.size:=e6;refine wpAny_setField_rec e6 (by simp) λm7 e7 b7=>?_
 have b7:Heap.SameBut e m6 m7:=b7;have st:∀b o,b≠e->m4.get? b=some o->m7.get? b=some o:=λb o x q=>b7.extBut b o x (b6.extBut b o x (b5.extBut b o x q))
 refine Zt (wpAny_letGo (Zu ⟨_,rfl,k m7 e7 ?_ (st _ _ (Nat.ne_of_gt lt) p4) λb o x y q=>st b o x (k4 b o x y q)⟩));exact((t4.extBut b5.extBut ne.symm).extBut b6.extBut ne.symm).extBut b7.extBut ne.symm
def LQ(q1:IsEnum s.heap e it c old)(q2:s.heap.IsListIter it l i)(q3:s.heap.IsList l us)(q4:us[i]?=some u)(ne:e≠it)
  (k:∀g,IsEnumOut g e it (c+1) u s.heap.objs.size->g.IsListIter it l (i+1)->g.get? s.heap.objs.size=some { cls:=.type "tuple",data:=.seq #[.int c s.toks,u] }->(∀b o,b≠e->b≠it->s.heap.get? b=some o->g.get? b=some o)->Q (some (.ref s.heap.objs.size)) { s with heap:=g,toks:=s.toks+1 }) :
  wpAny (model prog w) A (pyNext (.ref e)) Q E s :=
 have ty:s.TypeIs (.ref e) "enumerate":=⟨_,q1,rfl⟩
 Zt (wpAny_attempt (wpAny_callSpecial?_slot (name:=Str.ofString "__next__") ty F.slot_enumerate_next (wpAny_call_entry F.slot_enumerate_next ty F.entry_enumerate_next (ZU q1 q2 q3 q4 ne λg a b c d=>Zu (k g a b c d)) (F.args_enumerate_next_1 _))))
def WQ(hh:A.handled=none)(q1:IsEnum s.heap e it c old)(q2:s.heap.IsListIter it l i)(q3:s.heap.IsList l us)(q4:us[i]?=none)
  (k:∀g,Heap.ExtBut it s.heap g->Q none { s with heap:=g }):wpAny (model prog w) A (pyNext (.ref e)) Q E s:=by
 have ty:s.TypeIs (.ref e) "enumerate":=⟨_,q1,rfl⟩
 refine Zt (wpAny_attempt (wpAny_callSpecial?_slot (name:=Str.ofString "__next__") ty F.slot_enumerate_next (wpAny_call_entry F.slot_enumerate_next ty F.entry_enumerate_next ?_ (F.args_enumerate_next_1 _))));refine Zt (m:=field (.ref e) 2) (wpAny_field q1 rfl (x:=.ref it) rfl (Zt (wpAny_nextOf_list_end hh q2 q3 q4 λg x ex px=>?_)));obtain⟨o,ho,hc⟩:=px;exact Zt (wpAny_isInstance (T:="StopIteration") (b:=true) ⟨o,ho,hc⟩ isSubtype_stop (Zu (k _ ex)))
end
def ZA(l:Addr)(us:Array Value)(n:Nat)(dct:Option Addr)(sl:Array (Option Value))(c:Int)(t:Tok)(hc:Builtin.SmallTypes.fitsIndex c=true) :
  Meets (Builtin.«enumerate.__new__» ⟨[.type "enumerate",.ref l],[("start",.int c t)]⟩) (λ_ R s=>s.heap.get? l=some { cls:=.type "list",dict:=dct,data:=.seq us n,slots:=sl } /\
   R (.ok (.ret (.ref (s.heap.push { cls:=.type "list_iterator",data:=.fields #[.ref l,.int 0 0] }).objs.size)))
    { s with heap:=(s.heap.push { cls:=.type "list_iterator",data:=.fields #[.ref l,.int 0 0] }).push { cls:=.type "enumerate",data:=.fields #[.none,.bool false,.ref s.heap.objs.size,rawInt c,.none,.none] } }) :=
 .of_wp λprog w A R s h=>by
  obtain⟨hp,g,d,tk,os⟩:=s;obtain⟨hl,h⟩:=h;have sb:=sub_enumerate;have isl:Heap.IsList (Shared.heap ⟨hp,g,d,tk,os⟩) l us:=⟨_,hl,rfl,n,rfl⟩
  wp_walk using AutoSeq1.wpAny_loadPart' hl
  refine wpAny_stack_any λst=>Zu ?_
  split
  ·rename_i v _ _ _ _ _;cases (v==Value.type "enumerate")
   ·wp_walk using AutoSeq1.wpAny_loadPart' hl,wpAny_pyIter_list isl
    exact⟨_,rfl,h⟩
   ·wp_walk using AutoSeq1.wpAny_loadPart' hl,wpAny_pyIter_list isl
    exact⟨_,rfl,h⟩
  ·wp_walk using AutoSeq1.wpAny_loadPart' hl,wpAny_pyIter_list isl
   exact⟨_,rfl,h⟩
def aCe(a:Value)(c:Int)(t:Tok):checkTypeCall "enumerate" ⟨[a],[("start",.int c t)]⟩=pure ():=by kernel_rfl
def W6(a:Value)(c:Int)(t:Tok):checkBuiltinCall "enumerate.__new__" ⟨[.type "enumerate",a],[("start",.int c t)]⟩=pure ():=by kernel_rfl
def W8:Meets (Builtin.«object.__init__» ⟨[a,b],kw⟩) (λ_ R s=>s.TypeIs a "enumerate"/\R (.ok (.ret .none)) s):=by
 refine Meets.of_wp λprog w A R s hs=>?_
 obtain⟨ty,hq⟩:=hs;have hl:typeLookup (.type "enumerate") "__init__"=pure (some (.builtin "object.__init__")):=F.called_enumerate.init.lookup;have hm:=F.called_enumerate.made;have hne:(some "enumerate.__new__" != some "object.__new__")=true:=by decide
 repeat (any_goals (first | assumption | wp_step))
 exact⟨_,rfl,hq⟩
def Y4(a b:Value)(c:Int)(t:Tok):argsOk "object.__init__" ⟨[a,b],[("start",.int c t)]⟩:=by
 unfold argsOk;rw[signature?_of (id:="object.__init__") (n:="__init__".toList.reverse) (o:="object".toList.reverse) (by kernel_rfl) F.owner_object]
 kernel_rfl
section
variable{prog:Program}{w:World}{A:Around}{E:Value->Shared->Prop}{s:Shared}
def YK(hc:Builtin.SmallTypes.fitsIndex c=true)(q:s.heap.IsList l us)
  (k:∀g,IsEnum g (s.heap.objs.size+1) s.heap.objs.size c .none->g.IsListIter s.heap.objs.size l 0->(∀b o,s.heap.get? b=some o->g.get? b=some o)->Q (.ref (s.heap.objs.size+1)) { s with heap:=g }) :
  wpAny (model prog w) A (call (.type "enumerate") [.ref l] [("start",.int c t)]) Q E s:=by
 have ft:=F.called_enumerate;obtain⟨c0,tl,hmro⟩:=ft.mro;have hmade:=ft.made;have hsub:=ft.sub;obtain⟨⟨cl,dct,dt,sl⟩,hl,hcl,n,hd⟩:=q;have hcl:cl=.type "list":=hcl;have hd:dt=.seq us n:=hd;subst hcl hd;refine wpAny_call (codeAny_of_tree ?_);change wpAny _ _ (callAny (.type "enumerate") _) _ _ _;refine Zu ⟨Code.quiet_builtin _ (by decide +kernel),codeAny_builtin F.entry_type_call ?_⟩;rw[Around.under_plain (weight_type_call_type "enumerate" _ _) (units_type_call_type "enumerate" _ _)];have h1:=ft.notType;have h2:=ft.canCreate;have h3:=aCe (.ref l) c t
 repeat (any_goals (first | assumption | wp_step))
 refine codeAny_mono (codeAny_call_builtin ft.plain F.entry_enumerate_new (wpAny_of_eq (W6 (.ref l) c t) (ZA l us n dct sl c t hc prog w A.in1 (wants (λobj s1=>s1.TypeIs obj "enumerate"/\Q obj s1) E) s ⟨hl, ?_⟩))) λr s1 hr=>?_
 ·have hz:(s.heap.push { cls:=.type "list_iterator",data:=.fields #[.ref l,.int 0 0] }).objs.size=s.heap.objs.size+1:=Heap.size_push ..;change _/\_;rw[hz]
  have he:IsEnum ((s.heap.push { cls:=.type "list_iterator",data:=.fields #[.ref l,.int 0 0] }).push { cls:=.type "enumerate",data:=.fields #[.none,.bool false,.ref s.heap.objs.size,rawInt c,.none,.none] }) (s.heap.objs.size+1) s.heap.objs.size c .none:=by
   have x:=Zw (s.heap.push { cls:=.type "list_iterator",data:=.fields #[.ref l,.int 0 0] }) (o:={ cls:=.type "enumerate",data:=.fields #[.none,.bool false,.ref s.heap.objs.size,rawInt c,.none,.none] }) rfl
   rwa[hz] at x
  exact⟨⟨_,he,rfl⟩,k _ he ⟨_,Zd _ (Zw _ rfl),rfl,rfl⟩ λb o x=>Zd _ (Zd _ x)⟩
 ·cases r with
  |error e=>exact hr
  |ok fl =>
   cases fl with
   |ret obj =>
    have hT:s1.TypeIs obj "enumerate":=hr.1;have hli:=ft.init.lookup;have hbi:=ft.init.bind obj
    repeat (any_goals (first | assumption | wp_step))
    refine codeAny_mono (codeAny_call_builtin ft.init.plain F.entry_object_init (ft.init.check _ _ _ _ _ _ _ _ hT (Y4 obj (.ref l) c t) (W8 prog w A.in1 (wants (λr s2=>r=.none/\Q obj s2) E) s1 ⟨hT,rfl,hr.2⟩))) λr2 s2 hr2=>?_
    cases r2 with
    |error e=>exact hr2
    |ok fl2 =>
     cases fl2 with
     |ret r =>
      obtain⟨rfl,hq⟩:=hr2
      repeat (any_goals (first | assumption | wp_step))
     |_=>exact hr2.elim
   |_=>exact hr.elim
end
noncomputable def nQ(K:Frag)(a:Addr)(lo:Int):It :=
 ⟨λi H=>∃xs x,bX K H a xs/\xs[i]?=some x,λi H x H'=>∃p y,H p=none/\x=.ref p/\H'=aO H p (.tup [.int (lo+(i:Int)),y])/\∀xs,bX K H a xs->xs[i]?=some y,λi H=>∃xs,bX K H a xs/\xs.length<=i⟩
def zK{K:Frag}(a e it:Addr)(lo:Int)(hei:e≠it):Turn P w K (.Tuple elts k0 pos) (nQ K a lo) [e,it] e (λi h=>(∃old,IsEnum h e it (lo+(i:Int)) old)/\h.IsListIter it a i) where
 mem:=by simp
 obj:=λi h st b hb=>by
  obtain⟨⟨old,h1⟩,o,h2,c,d⟩:=st;have hb:b=e\/b=it:=by simpa using hb
  rcases hb with rfl | rfl
  ·exact⟨_,h1,λv z=>by
    have z':Data.fields _=Data.cell v:=z
    cases z'⟩
  ·exact⟨o,h2,λv z=>by rw[d] at z;cases z⟩
 keep:=λi h h' st k=>by(obtain⟨⟨old,h1⟩,h2⟩:=st;exact⟨⟨old,k e (by simp) _ h1⟩,h2.at λo q=>k it (by simp) o q⟩)
 item:=by
  intro X hP hw hK hc i pins s Y H E I hf st hg;subst hP hw hK;obtain⟨xs,x,hq,hx⟩:=hg;obtain⟨its,rv,p,hz⟩:=I.list hq;obtain⟨u,hu,ru⟩:=rv.get hx;obtain⟨⟨old,he⟩,hit⟩:=st;have fe:=hf e (by simp);have fi:=hf it (by simp);refine LQ he hit p.isList (by simpa using hu) hei λh' ho hit' hT hk=>?_
  refine⟨_,rfl,wpAny_letOwnedTupleGo_enum ho λh2 he2 hs2=>?_⟩;have helt:e<s.heap.objs.size:=Zv he;have hilt:it<s.heap.objs.size:=by obtain⟨_,q,_⟩:=hit;exact Zv q
  have ke:∀b u,b≠e->b≠it->s.heap.get? b=some u->h2.get? b=some u:=λb u n1 n2 q=>(hs2.2 b n1).trans (hk b u n1 n2 q)
  have hT2:h2.get? s.heap.objs.size=some { cls:=.type "tuple",data:=.seq #[.int (lo+(i:Int)) s.toks,u] }:=(hs2.2 _ (Nat.ne_of_gt helt)).trans hT;have hfr:H s.heap.objs.size=none:=I.hok.fresh (Zq _);have I2:Inv X pins Y (aO H s.heap.objs.size (.tup [.int (lo+(i:Int)),x])) { s with heap:=h2,toks:=s.toks+1 }:=LS I ke fe fi (Zq _) ⟨by rw[sizeLine_eq];simp,[.int (lo+(i:Int)) s.toks,u],.cons ⟨_,rfl⟩ (.cons ru .nil),⟨_,hT2,rfl,_,rfl⟩⟩;refine⟨.ref s.heap.objs.size,aO H s.heap.objs.size (.tup [.int (lo+(i:Int)),x]),I2,rfl,⟨s.heap.objs.size,x,hfr,rfl,rfl,λys hy=>by rw[I.list_inj hy hq];exact hx⟩,⟨⟨_,by rw[Int.natCast_add,Int.natCast_one,<- Int.add_assoc];exact he2⟩,hit'.at λo q=>(hs2.2 it hei.symm).trans q⟩,λb hb=>?_⟩
  ·have hb:b=e\/b=it:=by simpa using hb
   rcases hb with rfl | rfl
   ·rw[aM (Zz helt)];exact fe.1
   ·rw[aM (Zz hilt)];exact fi.1
 done:=by(intro X hP hw hK hc i pins s Y H E I hf st hg;subst hP hw hK;obtain⟨xs,hq,hx⟩:=hg;obtain⟨its,rv,p,hz⟩:=I.list hq;obtain⟨⟨old,he⟩,hit⟩:=st;have hl:=rv.length;exact WQ (I.ok.hd hc) he hit p.isList (by simp;omega) λh' eb=>⟨rfl,EF (t':=s.toks) I (λb o _ n2 q=>eb b o n2 q) (hf e (by simp)) (hf it (by simp))⟩)
 self:=λ_ _ _ _ _ st h=>by(obtain⟨⟨old,he⟩,_⟩:=st;exact wpAny_pyIter_enum he h)
section
variable{X:Cx}
noncomputable def HW(K:Frag)(lo:Int)(ta:TA):TI:=λY H R=>ta Y H λvs H1=>∃a,vs=[.ref a]/\(∃xs,bX K H1 a xs)/\R (nQ K a lo) H1
def yN:bootBuiltins "enumerate"=some (.type "enumerate"):=by decide +kernel
def FG{ta:TA}(hg:Gl X "enumerate")(hm:X.mg "enumerate"=none)(ha:PA X [a] ta)(hs:starEach [a] X.env=[(false,eval a X.env)]:=by rfl):PI X (.Tuple elts k0 tpos) (.Call (.Name "enumerate" p) [a] [] pos) (HW X.K 0 ta):=by
 intro pins s Y H R I h;refine Call_ (lY I hg hm yN (PyProof.Rows.callWith_type1 (a7 (ha pos pins s Y H _ I h) λus s1 hz=>?_) hs rfl));obtain⟨vs,H1,I1,r1,q1⟩:=hz;obtain⟨l,e,⟨xs,hq⟩,q⟩:=q1;subst e
 cases r1 with
 |cons r rr =>
  cases rr;cases r;obtain⟨its,rv,p,hz⟩:=I1.list hq;refine call_enumerate_list p.isList λh' he hit hsz hk=>?_
  have I2:Inv X pins Y H1 { s1 with heap:=h' }:=I1.kept (t':=s1.toks) hk;refine wpAny_pyIter_enum he ?_;refine⟨s1.heap.objs.size+1,[s1.heap.objs.size+1,s1.heap.objs.size],_,_,H1,rfl,I2,zK l _ _ 0 (Nat.succ_ne_self _),⟨⟨_,by simpa using he⟩,hit⟩,λb hb=>?_,q⟩;have hb:b=s1.heap.objs.size+1\/b=s1.heap.objs.size:=by simpa using hb
  rcases hb with rfl | rfl
  ·exact I1.fpOk (Nat.le_succ _) (I1.hok.fresh (Nat.le_succ _))
  ·exact I1.fpOk (Zq _) (I1.hok.fresh (Zq _))
def NZ{j:Nat}(hg:Gl X "enumerate")(hm:X.mg "enumerate"=none)(ha:PA X [a] ta)(hs:starEach [a] X.env=[(false,eval a X.env)]:=by rfl) :
  PI X (.Tuple elts k0 tpos) (.Call (.Name "enumerate" p) [a] [⟨some "start",.Constant (.int 1) j kq,kp⟩] pos) (HW X.K 1 ta):=by
 intro pins s Y H R I h;refine wpAny_Call_Name_kw (lY I hg hm yN ?_);refine PySem.W.callWith_of (P:=λ_=>True) (by rw[hs];rfl) (λ_ _=>⟨.machine,.inr (.inl rfl),PySem.W.Looks.now⟩) (evalArgs_kw2 rfl (a7 (ha pos pins s Y H _ I h) λus s1 hz=>?_) hs);obtain⟨vs,H1,I1,r1,q1⟩:=hz;obtain⟨l,e,⟨xs,hq⟩,q⟩:=q1;subst e
 cases r1 with
 |cons r rr =>
  cases rr;cases r;refine a7 (ZP (nm:=some "start") (kpos:=kp) (uE (i:=1) (pos:=kq)) aDc pos pins s1 Y H1 (λzs H2=>zs=[.int 1]/\H2=H1) I1 ⟨rfl,rfl⟩) λws s2 ⟨zs,H2,I2,rz,ez,eh⟩=>⟨trivial, ?_⟩
  subst ez eh
  cases rz with
  |cons rz rn =>
   cases rn;obtain⟨t,rfl⟩:=rz;obtain⟨its,rv,p,hz⟩:=I2.list hq;refine YK (c:=1) (by decide) p.isList λh' he hit hk=>?_
   have I3:Inv X pins Y H2 { s2 with heap:=h' }:=I2.kept (t':=s2.toks) hk;refine wpAny_pyIter_enum he ?_;refine⟨s2.heap.objs.size+1,[s2.heap.objs.size+1,s2.heap.objs.size],_,_,H2,rfl,I3,zK l _ _ 1 (Nat.succ_ne_self _),⟨⟨_,by simpa using he⟩,hit⟩,λb hb=>?_,q⟩;have hb:b=s2.heap.objs.size+1\/b=s2.heap.objs.size:=by simpa using hb
   rcases hb with rfl | rfl
   ·exact I2.fpOk (Nat.le_succ _) (I2.hok.fresh (Nat.le_succ _))
   ·exact I2.fpOk (Zq _) (I2.hok.fresh (Zq _))
end
section
variable{K:Frag}{U U1:Env}
def cN{l:List J}(h:(l.set i a)[j]?=some b):(j=i/\b=a/\i<l.length)\/(j≠i/\l[j]?=some b):=by
 by_cases hij:j=i
 ·subst hij;by_cases hl:j<l.length
  ·rw[zk hl] at h;exact .inl ⟨rfl,(Option.some.inj h).symm,hl⟩
  ·rw[List.getElem?_eq_none (by rw[zg];omega)] at h;cases h
 ·rw[Zf (λz=>hij z.symm)] at h;exact .inr ⟨hij,h⟩
def aN.unset(r:aN K U Y H G)(i:Nat):aN K (U.set i .un) Y H G:=by
 refine⟨by rw[zg];exact r.len,r.sub,λj d h=>?_,λj d p l h=>?_,λj k d p l d' p' l' a h1 h2 h3 h4=>?_⟩
 ·rcases cN h with ⟨_,z,_⟩ | ⟨_,z⟩
  ·cases z
  ·exact r.sh j d z
 ·rcases cN h with ⟨_,z,_⟩ | ⟨_,z⟩
  ·cases z
  ·exact r.ow j d p l z
 ·rcases cN h1 with ⟨_,z,_⟩ | ⟨_,z⟩
  ·cases z
  ·rcases cN h2 with ⟨_,z',_⟩ | ⟨_,z'⟩
   ·cases z'
   ·exact r.inj _ _ _ _ _ _ _ _ _ z z' h3 h4
def aH.unset{i:Nat}{a:Addr}(h:aH (U.set i .un) Y a):aH U Y a:=by
 obtain⟨j,d,p,l,h1,h2⟩:=h;rcases cN h1 with ⟨_,z,_⟩ | ⟨_,z⟩
 ·cases z
 ·exact⟨j,d,p,l,z,h2⟩
def aN.unset_not(r:aN K U Y H G){d:D}(h:U[i]?=some (.ow d p l))(hx:Y[i]?=some (some (.ref a))):¬aH (U.set i .un) Y a:=by
 rintro⟨j,d',p',l',h1,h2⟩
 rcases cN h1 with ⟨_,z,_⟩ | ⟨ne,z⟩
 ·cases z
 ·exact ne (r.inj _ _ _ _ _ _ _ _ _ z h h2 hx)
def aN.grow(r:aN K U Y H G)(hv:H a=some ob)(g:G a=none)(no:¬aH U Y a):aN K U Y H (aO G a ob):=by
 refine⟨r.len,λb u e=>?_,λi d e=>?_,λi d p l e=>?_,r.inj⟩
 ·by_cases hb:b=a
  ·subst hb;rw[a9] at e;rw[hv];exact e
  ·rw[aM hb] at e;exact r.sub b u e
 ·obtain⟨v,h1,h2⟩:=r.sh i d e;exact⟨v,h1,aC.mono (Sm.put g) d h2⟩
 ·obtain⟨b,h1,h2,h3⟩:=r.ow i d p l e;have hb:b≠a:=λz=>by subst z;exact no ⟨i,d,p,l,e,h1⟩
  exact⟨b,h1,by rw[aM hb];exact h2,h3.mono (Sm.put g) λ_ z=>z⟩
def aN.put_sh(r:aN K (U.set i .un) Y H G){d:D}{v:V}(hx:Y[i]?=some (some v))(hr:aC K G d v):aN K (U.set i (.sh d)) Y H G:=by
 have key:∀(j:Nat) (sl:Sl),(U.set i (.sh d))[j]?=some sl->(j=i/\sl=.sh d)\/(U.set i .un)[j]?=some sl:=λj sl h=>by
  rcases cN h with ⟨e,z,_⟩ | ⟨ne,z⟩
  ·exact .inl ⟨e,z⟩
  ·exact .inr (by rw[Zf (λq=>ne q.symm)];exact z)
 refine⟨by have:=r.len;rw[zg] at this ⊢;exact this,r.sub,λj d' h=>?_,λj d' p l h=>?_,λj k d1 p l d2 p' l' a h1 h2 h3 h4=>?_⟩
 ·rcases key j _ h with ⟨rfl,z⟩ | z
  ·cases z;exact⟨v,hx,hr⟩
  ·exact r.sh j d' z
 ·rcases key j _ h with ⟨rfl,z⟩ | z
  ·cases z
  ·exact r.ow j d' p l z
 ·rcases key j _ h1 with ⟨rfl,z⟩ | z
  ·cases z
  ·rcases key k _ h2 with ⟨rfl,z'⟩ | z'
   ·cases z'
   ·exact r.inj _ _ _ _ _ _ _ _ _ z z' h3 h4
def aN.put_ow(r:aN K (U.set i .un) Y H G){d:D}{a:Addr}(hx:Y[i]?=some (some (.ref a)))(g:G a=none)(ho:fJ K H G a d)(no:¬aH (U.set i .un) Y a):aN K (U.set i (.ow d p l)) Y H G:=by
 have key:∀(j:Nat) (sl:Sl),(U.set i (.ow d p l))[j]?=some sl->(j=i/\sl=.ow d p l)\/(U.set i .un)[j]?=some sl:=λj sl h=>by
  rcases cN h with ⟨e,z,_⟩ | ⟨ne,z⟩
  ·exact .inl ⟨e,z⟩
  ·exact .inr (by rw[Zf (λq=>ne q.symm)];exact z)
 refine⟨by have:=r.len;rw[zg] at this ⊢;exact this,r.sub,λj d' h=>?_,λj d' p' l' h=>?_,λj k d1 p1 l1 d2 p2 l2 b h1 h2 h3 h4=>?_⟩
 ·rcases key j _ h with ⟨rfl,z⟩ | z
  ·cases z
  ·exact r.sh j d' z
 ·rcases key j _ h with ⟨rfl,z⟩ | z
  ·cases z;exact⟨a,hx,g,ho⟩
  ·exact r.ow j d' p' l' z
 ·rcases key j _ h1 with ⟨rfl,z⟩ | z
  ·rcases key k _ h2 with ⟨rfl,z'⟩ | z'
   ·rfl
   ·rw[hx] at h3;cases h3;exact absurd ⟨k,_,_,_,z',h4⟩ no
  ·rcases key k _ h2 with ⟨rfl,z'⟩ | z'
   ·rw[hx] at h4;cases h4;exact absurd ⟨j,_,_,_,z,h3⟩ no
   ·exact r.inj _ _ _ _ _ _ _ _ _ z z' h3 h4
def aH.put_sh{i:Nat}{a:Addr}(h:aH (U.set i (.sh d)) Y a):aH (U.set i .un) Y a:=by
 obtain⟨j,d',p,l,h1,h2⟩:=h;rcases cN h1 with ⟨_,z,_⟩ | ⟨ne,z⟩
 ·cases z
 ·exact⟨j,d',p,l,by rw[Zf (λq=>ne q.symm)];exact z,h2⟩
def aH.put_ow{d:D}(hx:Y[i]?=some (some (.ref b)))(h:aH (U.set i (.ow d p l)) Y a):a=b\/aH (U.set i .un) Y a:=by
 obtain⟨j,d',p',l',h1,h2⟩:=h;rcases cN h1 with ⟨rfl,z,_⟩ | ⟨ne,z⟩
 ·rw[hx] at h2;cases h2;exact .inl rfl
 ·exact .inr ⟨j,d',p',l',by rw[Zf (λq=>ne q.symm)];exact z,h2⟩
def gD.grow(r:gD K H G own new Y h x)(s:aV G G2)(k:∀a d,h=.val (.ow d)->x=.ref a->G2 a=none)(w:∀a,own' a->own a):gD K H G2 own' new Y h x:=by
 cases h with
 |slot i=>exact r
 |val v =>
  cases v with
  |sh d=>exact aC.mono s d r
  |ow d =>
   obtain⟨a,rfl,g,o,n,m⟩:=r;exact⟨a,rfl,k a d rfl rfl,o.mono s λ_ z=>z,λz=>n (w a z),m⟩
  |od d=>exact r.elim
theorem c9.tmp_own:∀{hs:List Hd} {xs:List V} {a:Addr},c9 K H G own new Y hs xs->lR hs xs a->¬own a/\new a/\H a≠none/\G a=none
 |[],_,_,h,t=>by cases (show _=[] from h);exact t.elim
 |h::hs,_,a,r,t=>by
  obtain⟨x,r',rfl,h1,h2,h3⟩:=r;have tl:lR hs r' a->¬own a/\new a/\H a≠none/\G a=none:=λt=>c9.tmp_own h2 t
  cases h with
  |slot i=>exact tl t
  |val v =>
   cases v with
   |sh d=>exact tl t
   |ow d =>
    rcases t with rfl | t
    ·obtain⟨b,e,g,o,n,m⟩:=h1;cases e;obtain⟨vs,hv⟩:=o.there;exact⟨n,m,by rw[hv];simp,g⟩
    ·exact tl t
   |od d=>exact h1.elim
theorem c9.grow:∀{hs:List Hd} {xs:List V},c9 K H G own new Y hs xs->∀{G2:Hp},aV G G2->(∀a,lR hs xs a->G2 a=none)->(∀a,own' a->own a)->c9 K H G2 own' new Y hs xs
 |[],_,h,_,_,_,_=>h
 |h::hs,_,r,G2,s,k,w=>by
  obtain⟨x,r',rfl,h1,h2,h3⟩:=r;refine⟨x,r',rfl,h1.grow s (λa d e1 e2=>k a (by subst e1;exact .inl e2)) w,c9.grow h2 s (λa t=>k a ?_) w,h3⟩
  cases h with
  |slot i=>exact t
  |val v =>
   cases v with
   |sh d=>exact t
   |ow d=>exact .inr t
   |od d=>exact h1.elim
def aN.nil(s:aV G H):aN K [] [] H G:=⟨rfl,s,λi d h=>by simp at h,λi d p l h=>by simp at h,λi j d p l d' p' l' a h=>by simp at h⟩
def aN.cons_sh(r:aN K as τ H G)(h:aC K G d x):aN K (.sh d::as) (some x :: τ) H G:=by
 refine⟨by simp[r.len],r.sub,λi d' e=>?_,λi d' p l e=>?_,λi j d1 p l d2 p' l' a h1 h2 h3 h4=>?_⟩
 ·cases i with
  |zero=>simp at e;subst e;exact⟨x,rfl,h⟩
  |succ i=>simpa using r.sh i d' (by simpa using e)
 ·cases i with
  |zero=>simp at e
  |succ i=>simpa using r.ow i d' p l (by simpa using e)
 ·cases i with
  |zero=>simp at h1
  |succ i =>
   cases j with
   |zero=>simp at h2
   |succ j=>exact congrArg (·+1) (r.inj i j d1 p l d2 p' l' a (by simpa using h1) (by simpa using h2) (by simpa using h3) (by simpa using h4))
def aN.cons_ow(r:aN K as τ H G)(g:G a=none)(o:fJ K H G a d)(n:¬aH as τ a):aN K (.ow d p l::as) (some (.ref a) :: τ) H G:=by
 refine⟨by simp[r.len],r.sub,λi d' e=>?_,λi d' p l e=>?_,λi j d1 p1 l1 d2 p' l' b h1 h2 h3 h4=>?_⟩
 ·cases i with
  |zero=>simp at e
  |succ i=>simpa using r.sh i d' (by simpa using e)
 ·cases i with
  |zero =>
   simp only[zt,Option.some.injEq,Sl.ow.injEq] at e;obtain⟨rfl,_,_⟩:=e;exact⟨a,rfl,g,o⟩
  |succ i=>simpa using r.ow i d' p l (by simpa using e)
 ·cases i with
  |zero =>
   simp only[zt,Option.some.injEq,V.ref.injEq] at h3;subst h3
   cases j with
   |zero=>rfl
   |succ j=>exact absurd ⟨j,d2,p',l',by simpa using h2,by simpa using h4⟩ n
  |succ i =>
   cases j with
   |zero =>
    simp only[zt,Option.some.injEq,V.ref.injEq] at h4;subst h4;exact absurd ⟨i,d1,p1,l1,by simpa using h1,by simpa using h3⟩ n
   |succ j=>exact congrArg (·+1) (r.inj i j d1 p1 l1 d2 p' l' b (by simpa using h1) (by simpa using h2) (by simpa using h3) (by simpa using h4))
def aH.cons{as:List Sl}{τ:St}{sl:Sl}{v:Option V}{a:Addr}(h:aH (sl::as) (v :: τ) a):(∃d p l,sl=.ow d p l/\v=some (.ref a))\/aH as τ a:=by
 obtain⟨i,d,p,l,h1,h2⟩:=h
 cases i with
 |zero=>exact .inl ⟨d,p,l,by simpa using h1,by simpa using h2⟩
 |succ i=>exact .inr ⟨i,d,p,l,by simpa using h1,by simpa using h2⟩
structure Lent(K:Frag)(U:Env)(Y:St)(H G:Hp)(hs:List Hd)(xs:List V)(as:List Sl)(U1:Env)(G2:Hp):Prop where
 gg:aV G G2
 gn:∀a,G2 a≠none->G a≠none\/aH U Y a\/lR hs xs a
 ra:aN K as (xs.map some) H G2
 rc:aN K U1 Y H G2
 ao:∀a,aH as (xs.map some) a->aH U Y a\/lR hs xs a
 an:∀a,aH as (xs.map some) a->¬aH U1 Y a
 ro:∀a,aH U1 Y a->aH U Y a
theorem jV:∀(hs:List Hd) (pins:List Bool) (U:Env) (G:Hp) (xs:List V) (as:List Sl) (U1:Env),aN K U Y H G->c9 K H G (aH U Y) new Y hs xs->bS pins hs U=some (as,U1) ->
  ∃G2,Lent K U Y H G hs xs as U1 G2
 |[],pins,U,G,xs,as,U1,r,h,e=>by
  cases (show xs=[] from h)
  cases pins with
  |cons p ps=>cases e
  |nil =>
   simp only[bS,Option.some.injEq,Prod.mk.injEq] at e;obtain⟨rfl,rfl⟩:=e;exact⟨G,aV.refl _,λa z=>.inl z,aN.nil r.sub,r,λa ⟨i,d,p,l,z,_⟩=>by simp at z,λa ⟨i,d,p,l,z,_⟩=>by simp at z,λ_ z=>z⟩
 |.val (.sh d)::hs,pins,U,G,xs,as,U1,r,h,e=>by
  obtain⟨x,r',rfl,h1,h2,h3⟩:=h
  cases pins with
  |nil=>cases e
  |cons p ps =>
   simp only[bS] at e
   cases q:bS ps hs U with
   |none=>rw[q] at e;cases e
   |some y =>
    obtain⟨as',U'⟩:=y;rw[q] at e;simp only[Option.map_some,Option.some.injEq,Prod.mk.injEq] at e;obtain⟨rfl,rfl⟩:=e;obtain⟨G2,L⟩:=jV hs ps U G r' as' U' r h2 q;refine⟨G2,L.gg,L.gn,L.ra.cons_sh (aC.mono L.gg d h1),L.rc,λa z=>?_,λa z=>?_,L.ro⟩
    ·rcases z.cons with ⟨_,_,_,z,_⟩ | z
     ·cases z
     ·exact L.ao a z
    ·rcases z.cons with ⟨_,_,_,z,_⟩ | z
     ·cases z
     ·exact L.an a z
 |.val (.ow d)::hs,pins,U,G,xs,as,U1,r,h,e=>by
  obtain⟨x,r',rfl,h1,h2,h3⟩:=h;obtain⟨b,rfl,g,o,n,m⟩:=h1;have nt:¬lR hs r' b:=h3 d b rfl rfl
  cases pins with
  |nil=>cases e
  |cons p ps =>
   simp only[bS] at e
   cases q:bS ps hs U with
   |none=>rw[q] at e;cases e
   |some y =>
    obtain⟨as',U'⟩:=y;rw[q] at e;simp only[Option.map_some,Option.some.injEq,Prod.mk.injEq] at e;obtain⟨rfl,rfl⟩:=e
    cases p with
    |true =>
     obtain⟨G2,L⟩:=jV hs ps U G r' as' U' r h2 q
     have g2:G2 b=none:=by
      cases w:G2 b with
      |none=>rfl
      |some o' =>
       rcases L.gn b (by rw[w];simp) with z | z | z
       ·exact absurd g z
       ·exact absurd z n
       ·exact absurd z nt
     have nb:¬aH as' (r'.map some) b:=λz=>by
      rcases L.ao b z with z | z
      ·exact n z
      ·exact nt z
     refine⟨G2,L.gg,λa z=>?_,L.ra.cons_ow g2 (o.mono L.gg λ_ z=>z) nb,L.rc,λa z=>?_,λa z=>?_,L.ro⟩
     ·rcases L.gn a z with z | z | z
      ·exact .inl z
      ·exact .inr (.inl z)
      ·exact .inr (.inr (.inr z))
     ·rcases z.cons with ⟨_,_,_,_,z⟩ | z
      ·cases z;exact .inr (.inl rfl)
      ·rcases L.ao a z with z | z
       ·exact .inl z
       ·exact .inr (.inr z)
     ·rcases z.cons with ⟨_,_,_,_,z⟩ | z
      ·cases z;exact λw=>n (L.ro _ w)
      ·exact L.an a z
    |false =>
     obtain⟨ob,hv,hr⟩:=o.put
     have tb:∀a,lR hs r' a->(aO G b ob) a=none:=λa z=>by
      have hb:a≠b:=λw=>by subst w;exact nt z
      rw[aM hb];exact(h2.tmp_own z).2.2.2
     obtain⟨G2,L⟩:=jV hs ps U (aO G b ob) r' as' U' (r.grow hv g n) (h2.grow (aV.put g) tb λ_ z=>z) q;refine⟨G2,(aV.put g).trans L.gg,λa z=>?_,L.ra.cons_sh ?_,L.rc,λa z=>?_,λa z=>?_,L.ro⟩
     ·by_cases hb:a=b
      ·subst hb;exact .inr (.inr (.inl rfl))
      ·rcases L.gn a z with z | z | z
       ·rw[aM hb] at z;exact .inl z
       ·exact .inr (.inl z)
       ·exact .inr (.inr (.inr z))
     ·exact hr _ (Sm.of ((aV.put g).trans L.gg)) (L.gg _ _ a9)
     ·rcases z.cons with ⟨_,_,_,z,_⟩ | z
      ·simp at z
      ·rcases L.ao a z with z | z
       ·exact .inl z
       ·exact .inr (.inr z)
     ·rcases z.cons with ⟨_,_,_,z,_⟩ | z
      ·simp at z
      ·exact L.an a z
 |.slot i::hs,pins,U,G,xs,as,U1,r,h,e=>by
  obtain⟨x,r',rfl,h1,h2,h3⟩:=h;have h1:Y[i]?=some (some x):=h1
  cases pins with
  |nil=>cases e
  |cons p ps =>
   simp only[bS] at e;split at e
   ·rename_i d hd
    cases q:bS ps hs U with
    |none=>rw[q] at e;cases e
    |some y =>
     obtain⟨as',U'⟩:=y;rw[q] at e;simp only[Option.map_some,Option.some.injEq,Prod.mk.injEq] at e;obtain⟨rfl,rfl⟩:=e;obtain⟨G2,L⟩:=jV hs ps U G r' as' U' r h2 q;obtain⟨v,h4,h5⟩:=r.sh i d hd;rw[h1] at h4;cases h4;refine⟨G2,L.gg,L.gn,L.ra.cons_sh (aC.mono L.gg d h5),L.rc,λa z=>?_,λa z=>?_,L.ro⟩
     ·rcases z.cons with ⟨_,_,_,z,_⟩ | z
      ·cases z
      ·exact L.ao a z
     ·rcases z.cons with ⟨_,_,_,z,_⟩ | z
      ·cases z
      ·exact L.an a z
   ·rename_i d pin lk hd;obtain⟨b,h4,g,o⟩:=r.ow i d pin lk hd;rw[h1] at h4;cases h4;have hown:aH U Y b:=⟨i,d,pin,lk,hd,h1⟩
    have nt:¬lR hs r' b:=λz=>(h2.tmp_own z).1 hown
    have nu:¬aH (U.set i .un) Y b:=r.unset_not hd h1
    cases p with
    |true =>
     simp only at e
     cases q:bS ps hs (U.set i .un) with
     |none=>rw[q] at e;cases e
     |some y =>
      obtain⟨as',U'⟩:=y;rw[q] at e;simp only[Option.map_some,Option.some.injEq,Prod.mk.injEq] at e;obtain⟨rfl,rfl⟩:=e;obtain⟨G2,L⟩:=jV hs ps (U.set i .un) G r' as' U' (r.unset i) (h2.grow (aV.refl _) (λa z=>(h2.tmp_own z).2.2.2) λa z=>z.unset) q
      have g2:G2 b=none:=by
       cases w:G2 b with
       |none=>rfl
       |some o' =>
        rcases L.gn b (by rw[w];simp) with z | z | z
        ·exact absurd g z
        ·exact absurd z nu
        ·exact absurd z nt
      have nb:¬aH as' (r'.map some) b:=λz=>by
       rcases L.ao b z with z | z
       ·exact nu z
       ·exact nt z
      refine⟨G2,L.gg,λa z=>?_,L.ra.cons_ow g2 (o.mono L.gg λ_ z=>z) nb,L.rc,λa z=>?_,λa z=>?_,λa z=>(L.ro a z).unset⟩
      ·rcases L.gn a z with z | z | z
       ·exact .inl z
       ·exact .inr (.inl z.unset)
       ·exact .inr (.inr z)
      ·rcases z.cons with ⟨_,_,_,_,z⟩ | z
       ·cases z;exact .inl hown
       ·rcases L.ao a z with z | z
        ·exact .inl z.unset
        ·exact .inr z
      ·rcases z.cons with ⟨_,_,_,_,z⟩ | z
       ·cases z;exact λw=>nu (L.ro _ w)
       ·exact L.an a z
    |false =>
     simp only at e;split at e
     ·cases e
     ·cases q:bS ps hs (U.set i (.sh d)) with
      |none=>rw[q] at e;cases e
      |some y =>
       obtain⟨as',U'⟩:=y;rw[q] at e;simp only[Option.map_some,Option.some.injEq,Prod.mk.injEq] at e;obtain⟨rfl,rfl⟩:=e;obtain⟨ob,hv,hr⟩:=o.put
       have tb:∀a,lR hs r' a->(aO G b ob) a=none:=λa z=>by
        have hb:a≠b:=λw=>by subst w;exact nt z
        rw[aM hb];exact(h2.tmp_own z).2.2.2
       have rb:∀G2,aV (aO G b ob) G2->aC K G2 d (.ref b):=λG2 s2=>hr _ (Sm.of ((aV.put g).trans s2)) (s2 _ _ a9)
       obtain⟨G2,L⟩:=jV hs ps (U.set i (.sh d)) (aO G b ob) r' as' U' (((r.unset i).grow hv g nu).put_sh h1 (rb _ (aV.refl _)))
        (h2.grow (aV.put g) tb λa z=>z.put_sh.unset) q
       refine⟨G2,(aV.put g).trans L.gg,λa z=>?_,L.ra.cons_sh (rb G2 L.gg),L.rc,λa z=>?_,λa z=>?_,λa z=>(L.ro a z).put_sh.unset⟩
       ·by_cases hb:a=b
        ·subst hb;exact .inr (.inl hown)
        ·rcases L.gn a z with z | z | z
         ·rw[aM hb] at z;exact .inl z
         ·exact .inr (.inl z.put_sh.unset)
         ·exact .inr (.inr z)
       ·rcases z.cons with ⟨_,_,_,z,_⟩ | z
        ·cases z
        ·rcases L.ao a z with z | z
         ·exact .inl z.put_sh.unset
         ·exact .inr z
       ·rcases z.cons with ⟨_,_,_,z,_⟩ | z
        ·cases z
        ·exact L.an a z
   ·cases e
end
section
variable{K:Frag}
def aN.keep(r:aN K U Y H G)(e:Ext own H G H' G')(n:∀a,aH U Y a->¬own a)(s:aV G' H'):aN K U Y H' G':=by
 refine⟨r.len,s,λi d h=>?_,λi d p l h=>?_,r.inj⟩
 ·obtain⟨v,h1,h2⟩:=r.sh i d h;exact⟨v,h1,aC.mono e.gg d h2⟩
 ·obtain⟨a,h1,g,o⟩:=r.ow i d p l h;have na:=n a ⟨i,d,p,l,h,h1⟩;obtain⟨vs,hv⟩:=o.there;exact⟨a,h1,e.gn a (by rw[hv];simp) g na,o.mono e.gg λo' h'=>e.hh a o' h' na⟩
def aN.tail(r:aN K (a::as) (v :: τ) H G):aN K as τ H G:=by
 refine⟨by have:=r.len;simpa using this,r.sub,λi d h=>?_,λi d p l h=>?_,λi j d p l d' p' l' b h1 h2 h3 h4=>?_⟩
 ·simpa using r.sh (i+1) d (by simpa using h)
 ·simpa using r.ow (i+1) d p l (by simpa using h)
 ·have:=r.inj (i+1) (j+1) d p l d' p' l' b (by simpa using h1) (by simpa using h2) (by simpa using h3) (by simpa using h4)
  omega
def aH.tail(h:aH as τ b):aH (a::as) (v :: τ) b:=by
 obtain⟨i,d,p,l,h1,h2⟩:=h;exact⟨i+1,d,p,l,by simpa using h1,by simpa using h2⟩
theorem m9:∀(hs:List Hd) (pins:List Bool) (as:List Sl) (xs:List V) (U U':Env),aN K as (xs.map some) H G->aN K U Y H G->(∀a,aH as (xs.map some) a->¬aH U Y a)->c9 K H0 G0 own new Y hs xs ->
  bI pins hs as U0 U=some U'->aN K U' Y H G/\∀a,aH U' Y a->aH U Y a\/aH U0 Y a
 |[],pins,as,xs,U,U',ra,r,n,h,e=>by
  cases pins with
  |nil =>
   cases as with
   |nil =>
    cases e;exact⟨r,λ_ z=>.inl z⟩
   |cons a as=>cases e
  |cons p ps=>cases p<;>cases as<;>cases e
 |h::hs,pins,as,xs,U,U',ra,r,n,hh,e=>by
  obtain⟨x,r',rfl,h1,h2,h3⟩:=hh
  cases pins with
  |nil=>cases e
  |cons p ps =>
   cases as with
   |nil=>cases p<;>cases h<;>cases e
   |cons a as' =>
    have skip:bI ps hs as' U0 U=some U'->aN K U' Y H G/\∀a,aH U' Y a->aH U Y a\/aH U0 Y a:=λe' =>
     m9 hs ps as' r' U U' ra.tail r (λb z=>n b z.tail) h2 e'
    cases p with
    |false=>cases h<;>exact skip e
    |true =>
     cases h with
     |val v=>exact skip e
     |slot i =>
      have h1:Y[i]?=some (some x):=h1;simp only[bI] at e;split at e
      ·rename_i _ pin lk d p' l' hi;obtain⟨b,hb,g,o⟩:=ra.ow 0 d p' l' rfl;simp only[Zs,zt,Option.some.injEq] at hb;subst hb;have nb:¬aH U Y b:=n b ⟨0,d,p',l',rfl,rfl⟩;have r2:aN K (U.set i (.ow d pin lk)) Y H G:=(r.unset i).put_ow h1 g o λz=>nb z.unset
       obtain⟨r3,r4⟩:=m9 hs ps as' r' (U.set i (.ow d pin lk)) U' ra.tail r2 (λc z w=>by
        rcases w.put_ow h1 with rfl | w
        ·obtain⟨j,d2,p2,l2,z1,z2⟩:=z
         have:=ra.inj 0 (j+1) d p' l' d2 p2 l2 c rfl (by simpa using z1) rfl (by simpa using z2)
         omega
        ·exact n c z.tail w.unset) h2 e
       refine⟨r3,λc z=>?_⟩;rcases r4 c z with z | z
       ·rcases z.put_ow h1 with rfl | z
        ·exact .inr ⟨i,_,pin,lk,hi,h1⟩
        ·exact .inl z.unset
       ·exact .inr z
      ·cases e
      ·exact skip e
def j7(pins:List Bool)(hs:List Hd)(i:Nat):Prop:=∃j:Nat,pins[j]?=some true/\hs[j]?=some (.slot i)
def j7.cons{p:Bool}{ps:List Bool}{h:Hd}{hs:List Hd}{i:Nat}(l:j7 ps hs i):j7 (p::ps) (h::hs) i:=by
 obtain⟨j,h1,h2⟩:=l;exact⟨j+1,by simpa using h1,by simpa using h2⟩
theorem B9:∀(hs:List Hd) (pins:List Bool) (U:Env) (as:List Sl) (U1:Env),bS pins hs U=some (as,U1)->∀i:Nat,dO U[i]? U1[i]?\/(j7 pins hs i/\∃d p l,U[i]?=some (.ow d p l))
 |[],pins,U,as,U1,e,i=>by
  cases pins<;>cases e;exact .inl (dO.refl _)
 |h::hs,pins,U,as,U1,e,i=>by
  cases pins with
  |nil=>cases h with
   |slot i=>cases e
   |val v=>cases v<;>cases e
  |cons p ps =>
   have fin:∀{U':Env} {g:Sl},(bS ps hs U').map (λ(as,U')=>(g::as,U'))=some (as,U1)->dO U'[i]? U1[i]?\/(j7 ps hs i/\∃d p l,U'[i]?=some (.ow d p l)):=by
    intro U' g e
    cases q:bS ps hs U' with
    |none=>rw[q] at e;cases e
    |some y =>
     obtain⟨as',U2⟩:=y;rw[q] at e;simp only[Option.map_some,Option.some.injEq,Prod.mk.injEq] at e;obtain⟨_,rfl⟩:=e;exact B9 hs ps U' as' U2 q i
   have same:∀{g:Sl},(bS ps hs U).map (λ(as,U')=>(g::as,U'))=some (as,U1)->dO U[i]? U1[i]?\/(j7 (p::ps) (h::hs) i/\∃d p l,U[i]?=some (.ow d p l)):=by
    intro g e;rcases fin e with z | ⟨z,w⟩
    ·exact .inl z
    ·exact .inr ⟨z.cons,w⟩
   cases h with
   |val v=>cases v<;>first | exact same e | cases e
   |slot i0 =>
    simp only[bS] at e;split at e
    ·exact same e
    ·rename_i d pin lk hd
     cases p with
     |true =>
      simp only at e;by_cases hi:i=i0
      ·subst hi;exact .inr ⟨⟨0,rfl,rfl⟩,d,pin,lk,hd⟩
      ·have:=fin e
       rw[Zf (λz=>hi z.symm)] at this;rcases this with z | ⟨z,w⟩
       ·exact .inl z
       ·exact .inr ⟨z.cons,w⟩
     |false =>
      simp only at e;split at e
      ·cases e
      ·rename_i hp;simp only[Bool.or_eq_true,not_or,Bool.not_eq_true] at hp;have ev0:iK U (U.set i0 (.sh d)):=iK.set (by rw[hd];exact hp.1);rcases fin e with z | ⟨z,d',p',l',w⟩
       ·exact .inl ((ev0 i).trans z)
       ·have:=ev0 i
        rw[w] at this;obtain⟨d2,e2⟩:=this.ow_of;exact .inr ⟨z.cons,d2,p',l',e2⟩
    ·cases e
theorem lL:∀(hs:List Hd) (pins:List Bool) (as:List Sl) (U U':Env),bI pins hs as U0 U=some U'->∀i:Nat,(U'[i]?=U[i]?\/∃d d' p l,U0[i]?=some (.ow d p l)/\U'[i]?=some (.ow d' p l)) /\
  (j7 pins hs i->(∃d p l,U0[i]?=some (.ow d p l))->i<U.length->∃d d' p l,U0[i]?=some (.ow d p l)/\U'[i]?=some (.ow d' p l))
 |[],pins,as,U,U',e,i=>by
  cases pins with
  |nil =>
   cases as with
   |nil =>
    cases e;exact⟨.inl rfl,λ⟨j,h,_⟩=>by simp at h⟩
   |cons a as=>cases e
  |cons p ps=>cases p<;>cases as<;>cases e
 |h::hs,pins,as,U,U',e,i=>by
  cases pins with
  |nil=>cases e
  |cons p ps =>
   cases as with
   |nil=>cases p<;>cases h<;>cases e
   |cons a as' =>
    have uncons:¬(p=true/\h=.slot i)->j7 (p::ps) (h::hs) i->j7 ps hs i:=λn hz=>by
     obtain⟨j,h1,h2⟩:=hz
     cases j with
     |zero =>
      simp only[zt,Option.some.injEq] at h1 h2;exact absurd ⟨h1,h2⟩ n
     |succ j=>exact⟨j,by simpa using h1,by simpa using h2⟩
    have skip:¬(p=true/\h=.slot i)\/¬(∃d p l,U0[i]?=some (.ow d p l))->bI ps hs as' U0 U=some U'->(U'[i]?=U[i]?\/∃d d' p l,U0[i]?=some (.ow d p l)/\U'[i]?=some (.ow d' p l)) /\
      (j7 (p::ps) (h::hs) i->(∃d p l,U0[i]?=some (.ow d p l))->i<U.length->∃d d' p l,U0[i]?=some (.ow d p l)/\U'[i]?=some (.ow d' p l)):=λn e'=>by
     obtain⟨h1,h2⟩:=lL hs ps as' U U' e' i;refine⟨h1,λl o=>?_⟩;rcases n with n | n
     ·exact h2 (uncons n l) o
     ·exact absurd o n
    cases p with
    |false=>cases h<;>exact skip (.inl (by simp)) e
    |true =>
     cases h with
     |val v=>exact skip (.inl (by simp)) e
     |slot i0 =>
      simp only[bI] at e;split at e
      ·rename_i d0 pin lk d p' l' hi;obtain⟨h1,h2⟩:=lL hs ps as' _ U' e i;by_cases hii:i=i0
       ·subst hii;refine⟨?_,λl o hl=>?_⟩
        ·rcases h1 with h1 | h1
         ·by_cases hl:i<U.length
          ·rw[zk hl] at h1;exact .inr ⟨_,_,_,_,hi,h1⟩
          ·exact .inl (by rw[h1,List.getElem?_eq_none (by rw[zg];omega),List.getElem?_eq_none (by omega)])
         ·exact .inr h1
        ·rcases h1 with h1 | h1
         ·rw[zk hl] at h1;exact⟨_,_,_,_,hi,h1⟩
         ·exact h1
       ·rw[Zf (λz=>hii z.symm)] at h1;refine⟨h1,λl o hl=>h2 (uncons (λz=>hii (by have:=z.2;simp at this;exact this.symm)) l) o (by rw[zg];exact hl)⟩
      ·cases e
      ·rename_i hn1 hn2;refine skip ?_ e;by_cases hii:i=i0
       ·subst hii;refine .inr λhz=>?_
        obtain⟨d,p,l,z⟩:=hz;exact hn1 d p l z
       ·exact .inl λz=>hii (by have:=z.2;simp at this;exact this.symm)
def pR(a:Aft K U0 Y H0 G0 U H G)(h:c9 K H G (aH U Y) (dS H0) Y hs xs)(e:eI pins f hs U=some (.ok v,U')) :
  ∃as G2 as',aN K as (xs.map some) H G2/\as.length=pins.length/\f as=some (.ok v,as')/\(aV G G2/\∀c,aH as (xs.map some) c->aH U Y c\/lR hs xs c)/\∀x H' G',Aft K as (xs.map some) H G2 as' H' G'->cC K H' G' (aH as' (xs.map some)) (dS H) v x ->
   Aft K U0 Y H0 G0 U' H' G'/\cC K H' G' (aH U' Y) (dS H0) v x:=by
 unfold eI at e
 cases q:bS pins hs U with
 |none=>rw[q] at e;cases e
 |some y =>
  obtain⟨as,U1⟩:=y;rw[q] at e;simp only at e
  cases q2:f as with
  |none=>rw[q2] at e;cases e
  |some y =>
   obtain⟨o,as'⟩:=y;rw[q2] at e;simp only at e
   cases q3:bI pins hs as' U U1 with
   |none=>rw[q3] at e;cases e
   |some U2 =>
    rw[q3] at e;simp only[Option.map_some,Option.some.injEq,Prod.mk.injEq] at e;obtain⟨rfl,rfl⟩:=e;obtain⟨G2,L⟩:=jV hs pins U G xs as U1 a.rel h q;refine⟨as,G2,as',L.ra, ?_,q2,⟨L.gg,L.ao⟩,λx H' G' b hv=>?_⟩
    ·have:∀(hs:List Hd) (pins:List Bool) (U:Env) (as:List Sl) (U1:Env),bS pins hs U=some (as,U1)->as.length=pins.length:=by
      intro hs
      induction hs with
      |nil =>
       intro pins U as U1 e;cases pins<;>cases e;rfl
      |cons h hs ih =>
       intro pins U as U1 e
       cases pins with
       |nil=>cases h with
        |slot i=>cases e
        |val v=>cases v<;>cases e
       |cons p ps =>
        have fin:∀{o:Option (List Sl×Env)} {g:Sl},(o.map λ(as,U')=>(g::as,U'))=some (as,U1)->(∀as' U',o=some (as',U')->as'.length=ps.length)->as.length=(p::ps).length:=by
         intro o g e k
         cases o with
         |none=>cases e
         |some y =>
          obtain⟨as',U'⟩:=y;simp only[Option.map_some,Option.some.injEq,Prod.mk.injEq] at e;rw[<- e.1,Zk,Zk,k as' U' rfl]
        cases h with
        |slot i =>
         simp only[bS] at e;split at e
         ·exact fin e λas' U' z=>ih _ _ _ _ z
         ·split at e
          ·exact fin e λas' U' z=>ih _ _ _ _ z
          ·split at e
           ·cases e
           ·exact fin e λas' U' z=>ih _ _ _ _ z
         ·cases e
        |val v =>
         cases v with
         |sh d=>exact fin e λas' U' z=>ih _ _ _ _ z
         |ow d=>exact fin e λas' U' z=>ih _ _ _ _ z
         |od d=>cases e
     exact this hs pins U as U1 q
    ·have own_there:∀c,aH as (xs.map some) c->H c≠none:=λc z=>(L.ra.owned z).1
     have rc:aN K U1 Y H' G':=L.rc.keep b.ext (λc z w=>L.an c w z) b.rel.sub;obtain⟨r3,r4⟩:=m9 hs pins as' xs U1 U2 b.rel rc (λc z w=>L.an c (b.own c z) w) h q3
     have own2:∀c,aH U2 Y c->aH U Y c:=λc z=>by
      rcases r4 c z with z | z
      ·exact L.ro c z
      ·exact z
     have hown:∀c,aH as (xs.map some) c->aH U0 Y c\/H0 c=none:=λc z=>by
      rcases L.ao c z with z | z
      ·exact .inl (a.own c z)
      ·exact .inr (h.tmp_own z).2.1
     have evo2:iK U U2:=λi=>by
      obtain⟨g1,g2⟩:=lL hs pins as' U1 U2 q3 i;rcases B9 hs pins U as U1 q i with z | ⟨z,o⟩
      ·rcases g1 with g1 | ⟨d,d',p,l,w1,w2⟩
       ·rw[g1];exact z
       ·rw[w1,w2];exact⟨rfl,rfl⟩
      ·have hl:i<U1.length:=by
        obtain⟨d,p,l,o⟩:=o;rw[L.rc.len,<- a.rel.len];exact(Zc.mp o).1
       obtain⟨d,d',p,l,w1,w2⟩:=g2 z o hl;rw[w1,w2];exact⟨rfl,rfl⟩
     refine⟨⟨r3,⟨a.ext.gg.trans ((Sm.of L.gg).trans b.ext.gg),λc o hc nc=>?_,λc z=>a.ext.hx c (b.ext.hx c z),λc hc gc nc=>?_⟩,a.evo.trans evo2⟩, ?_⟩
     ·refine b.ext.hh c o (a.ext.hh c o hc nc) λz=>?_
      rcases hown c z with z | z
      ·exact nc z
      ·rw[hc] at z;cases z
     ·have hc':H c≠none:=λz=>hc (a.ext.hx c z)
      have g1:G c=none:=a.ext.gn c hc gc nc
      have g2:G2 c=none:=by
       cases w:G2 c with
       |none=>rfl
       |some o =>
        rcases L.gn c (by rw[w];simp) with z | z | z
        ·exact absurd g1 z
        ·exact absurd (a.own c z) nc
        ·exact absurd (h.tmp_own z).2.1 hc
      refine b.ext.gn c hc' g2 λz=>?_
      rcases hown c z with z | z
      ·exact nc z
      ·exact hc z
     ·cases v with
      |sh d=>exact hv
      |ow d =>
       obtain⟨c,rfl,g,o,n,m⟩:=hv;exact⟨c,rfl,g,o,λz=>(a.rel.owned (own2 c z)).1 m,a.ext.hx c m⟩
      |od d =>
       obtain⟨c,rfl,g,o,n,m,vs,hv,hr⟩:=hv;exact⟨c,rfl,g,o,λz=>(a.rel.owned (own2 c z)).1 m,a.ext.hx c m,vs,hv,λx hx=>let ⟨b,ws,h1,h2,h3,h4,h5,h6⟩:=hr x hx;⟨b,ws,h1,h2,h3,λz=>(a.rel.owned (own2 b z)).1 h5,a.ext.hx b h5,h6⟩⟩
end
inductive GV where
 |no | con (d:D) | fn (f:String) | blt | cls (ns:List Str) | mth (tb:List (Str×String)) | sub (s n:List Str) | subx (s n:List Str) | exc | exi | exs (cs:List Str)
structure CC where
 N:List Str
 names:List (Str×NameKind)
 gl:Str->GV
 top:Bool
noncomputable def CC.isGl(Z:CC)(x:Str):Bool:=Z.names.lookup x==some .globalImplicit
noncomputable def CC.isVis(Z:CC)(x:Str):Bool:=Z.names.lookup x==some .local||Z.names.lookup x==some .cell||Z.names.lookup x==some .free
noncomputable def i8(x:Str):Bool:=x==("__debug__":Str)||x==("__classdict__":Str)||x==("__name__":Str)
noncomputable def CC.slot(Z:CC)(x:Str):Option Nat:=if i8 x then none else if Z.isVis x then Z.N.idxOf? x else none
noncomputable def CC.glob(Z:CC)(x:Str):GV:=if i8 x then .no else if Z.isGl x then Z.gl x else .no
noncomputable def vS(Z:CC)(x:Str):E :=
 match Z.slot x with
 |some i=>.var i
 |none=>match Z.glob x with
  |.con d=>.con d
  |_=>.bad
noncomputable def BN:Const->E
 |.none=>.con .non
 |.bool b=>.con (.bl b)
 |.int i=>.con (.int i)
 |.str s=>if PyData.strOk s then .con (.str s) else .bad
 |_=>.bad
noncomputable def GG(f:Str):Option BI :=
 if f=("len":Str) then some .len else if f=("abs":Str) then some .abs else if f=("int":Str) then some .int else if f=("list":Str) then some .list
 else if f=("tuple":Str) then some .tuple else if f=("all":Str) then some .all else if f=("sorted":Str) then some .sorted else none
noncomputable def HC(Z:CC):Expr->Option Ty
 |.Name x _=>match Z.glob x with
  |.blt=>if x=("int":Str) then some .int else if x=("bool":Str) then some .bool else if x=("tuple":Str) then some .tuple else none
  |_=>none
 |_=>none
def yI{p:Prop}(h:false=true):p:=nomatch h
noncomputable def MB:Expr->Option Str
 |.Name x _=>some x
 |_=>none
noncomputable def qF:E->E
 |.omt=>.bad
 |c=>c
noncomputable def aX:Expr->Bool
 |.Starred _ _=>false
 |_=>true
noncomputable def pQ(x:Str):Str:=⟨#[58]++x.cps⟩
noncomputable def CC.globS(Z:CC)(x:Str):GV:=if i8 x then .no else if Z.isGl x then Z.gl (pQ x) else .no
noncomputable def R9(Z:CC):List Expr->Option (List (List Str×List Str))
 |[]=>some []
 |.Name x _::es=>(match Z.globS x with
  |.subx s n=>(R9 Z es).map ((s,n) :: ·)
  |_=>none)
 |_=>none
noncomputable def MM(x:Str):Str:=⟨#[94]++x.cps⟩
noncomputable def aBW(Z:CC)(t:Expr)(a:E):E:=match t with
 |.Name x _=>(match Z.globS x with
  |.sub s n=>.bad
  |.subx s n=>.bad
  |_=>.bad)
 |.Tuple es _ _=>(match R9 Z es with
  |some sn=>if es.length<=100 then .bad else .bad
  |none=>.bad)
 |_=>.bad
noncomputable def NX(Z:CC)(args:List Expr)(cs:List E):E :=
 match args,cs with
 |[_,t],[a,_]=>(match HC Z t with | some ty=>.isi a [ty] | none=>aBW Z t a)
 |_,_=>.bad
noncomputable def tP:Expr->Option Int
 |.Constant (.int a) _ _=>some a
 |_=>none
noncomputable def TK(cs es:List E):E:=.bad
noncomputable def d0C:E:=.dict []
noncomputable def d1C(k v:Expr)(cs es:List E):E:=match tP k with
 |some a=>(match tP v with | some b=>.dict [(a,b)] | none=>TK cs es)
 |none=>TK cs es
noncomputable def SN(ks:List (Option Expr))(vs:List Expr)(cs es:List E):E:=match ks with
 |[]=>(match vs with | []=>d0C | _::_=>.bad)
 |k::r=>(match r with
  |_::_=>.bad
  |[]=>(match k with
   |none=>.bad
   |some k=>(match vs with
    |[]=>.bad
    |v::r=>(match r with | _::_=>.bad | []=>d1C k v cs es))))
noncomputable def aGc(Z:CC):Bool:=false
noncomputable def dzC(z:Bool)(ks:List (Option Expr))(vs:List Expr)(c:E):E:=c
noncomputable def pT(m:Str):Str:=⟨#[46]++m.cps⟩
noncomputable def aGi(Z:CC)(x m:Str)(apos cpos:Pos)(a:Expr):E:=.bad
noncomputable def P7(Z:CC)(x m:Str)(apos cpos:Pos)(args:List Expr)(cs:List E):E :=
 match Z.gl (pT m) with
 |.mth tb=>if args.all aX&&(apos.endLine==cpos.line)&&decide (args.length<29) then(match Z.slot x with | some i=>.meth i m tb cs | none=>.bad) else .bad
 |_=>match args,cs with
  |[a],[c]=>if aX a&&(apos.endLine==cpos.line)&&(m==("append":Str)) then(match Z.slot x with | some i=>.app i c | none=>.bad) else if aX a&&(apos.endLine==cpos.line)&&(m==("extend":Str)) then(match Z.slot x with | some i=>.ext i c | none=>.bad) else if aX a&&(apos.endLine==cpos.line)&&(m==("pop":Str)) then .bad else aGi Z x m apos cpos a
  |[],[]=>if(apos.endLine==cpos.line)&&(m==("bit_length":Str)) then .bad else .bad
  |[a,b],[c,c']=>if aX a&&aX b&&(apos.endLine==cpos.line)&&(m==("insert":Str)) then(match Z.slot x with | some i=>.insr i c c' | none=>.bad) else .bad
  |_,_=>.bad
noncomputable def GC(Z:CC)(m:Str)(apos cpos:Pos)(args:List Expr)(a:E)(cs:List E):E :=
 match Z.gl (pT m) with
 |.mth tb=>if args.all aX&&(apos.endLine==cpos.line)&&decide (args.length<29) then .bad else .bad
 |_=>.bad
noncomputable def aGJ(args:List Expr)(cs:List E):E:=.bif .len cs
noncomputable def aGk(cs:List E):E:=.bad
noncomputable def aEO(args:List Expr)(cs:List E):E:=.bif .list cs
noncomputable def OK(f:Str)(args:List Expr)(cs:List E):E :=
 if f=("len":Str) then aGJ args cs else if f=("set":Str) then aGk cs else if f=("range":Str) then .bad else if f=("list":Str) then aEO args cs else(match GG f with | some b=>.bif b cs | none=>.bad)
noncomputable def HX:Expr->Bool
 |.ListComp _ _ _ _=>true
 |_=>false
noncomputable def cY:Expr->Bool
 |.ListComp _ _ _ _=>false
 |.SetComp _ _ _ _=>false
 |.DictComp _ _ _ _ _=>false
 |_=>true
noncomputable def C3:Expr->Bool
 |.Slice _ _ _ _=>false
 |_=>true
noncomputable def vK:Expr->Bool
 |.Set _ _ _=>false
 |_=>true
noncomputable def vC:Expr->Bool
 |.Tuple _ _ _=>false
 |_=>true
noncomputable def CC.isLoc(Z:CC)(x:Str):Bool:=Z.names.lookup x==some .local||(Z.top&&Z.names.lookup x==some .cell)
noncomputable def CC.slotL(Z:CC)(x:Str):Option Nat:=if Z.isLoc x then Z.slot x else none
noncomputable def DC(Z:CC):Expr->Option Nat
 |.Name x _=>Z.slotL x
 |_=>none
noncomputable def hX(Z:CC):List Expr->Option (List Nat)
 |[]=>some []
 |e::es=>(DC Z e).bind λi=>(hX Z es).map (i :: ·)
noncomputable def kO(Z:CC):Expr->Option (Bool×List Nat)
 |.Name x _=>(Z.slotL x).map λi=>(true,[i])
 |.Tuple es _ _=>(hX Z es).map λis=>(false,is)
 |_=>none
noncomputable def TN:Expr->Option (Str×Pos)
 |.Name f p=>some (f,p)
 |_=>none
noncomputable def itA:Expr->Option ((Str×Pos)×List Expr×Pos)
 |.Call fn args kws pos=>(match kws with
  |[]=>(TN fn).map λq=>(q,args,pos)
  |_::_=>none)
 |_=>none
noncomputable def RH{J:Type}:List J->Option J
 |[]=>none
 |a::r=>(match r with | []=>some a | _::_=>none)
noncomputable def itB:Expr->Option (Str×Expr×Str×Int)
 |.Call fn args kws _=>(TN fn).bind λq=>(RH args).bind λa=>(RH kws).bind λk=>k.arg.bind λx=>(tP k.value).map λc=>(q.1,a,x,c)
 |_=>none
noncomputable def qP(Z:CC)(e:Expr):Option (ItK×List Expr):=match itA e with
 |some x=>if(x.1.1==("range":Str)) then
   (match Z.glob x.1.1 with
   |.blt=>if x.2.1.all aX&&(x.2.1.length==1||x.2.1.length==2) then some (.rng,x.2.1) else none
   |_=>none)
  else if(x.1.1==("enumerate":Str)) then
   (match Z.glob x.1.1 with
   |.blt=>if x.2.1.all aX&&(x.2.1.length==1) then some (.enum 0,x.2.1) else none
   |_=>none)
  else some (.of,[e])
 |none=>(match itB e with
  |some x=>if x.1==("enumerate":Str)&&x.2.2.1==("start":Str)&&aX x.2.1&&x.2.2.2==1 then
    (match Z.glob x.1 with
    |.blt=>some (.enum 1,[x.2.1])
    |_=>none)
   else none
  |none=>if vK e then some (.of,[e]) else none)
def KA{e:Expr}{x:Str×Pos}(h:TN e=some x):e=.Name x.1 x.2:=by
 unfold TN at h;split at h
 ·cases h;rfl
 ·cases h
def MC{e:Expr}{f:Str}{p pos:Pos}{args:List Expr}(h:itA e=some ((f,p),args,pos)):e=.Call (.Name f p) args [] pos:=by
 unfold itA at h;split at h
 ·rename_i fn as kws ps
  cases kws with
  |nil =>
   obtain⟨q,hq,h⟩:=Option.map_eq_some_iff.mp h;cases h;rw[KA hq]
  |cons=>cases h
 ·cases h
def HP{e:Expr}{a:Int}(h:tP e=some a):∃j q,e=.Constant (.int a) j q:=by
 unfold tP at h;split at h
 ·cases h;exact⟨_,_,rfl⟩
 ·cases h
def NM{J:Type}{l:List J}{a:J}(h:RH l=some a):l=[a]:=by
 cases l with
 |nil=>cases h
 |cons b r =>
  cases r with
  |nil=>cases h;rfl
  |cons=>cases h
def aBQ{e a:Expr}{f x:Str}{c:Int}(h:itB e=some (f,a,x,c)):∃p j q kp pos,e=.Call (.Name f p) [a] [⟨some x,.Constant (.int c) j q,kp⟩] pos:=by
 unfold itB at h;split at h
 ·obtain⟨q,hq,h⟩:=Option.bind_eq_some_iff.mp h;obtain⟨b,hb,h⟩:=Option.bind_eq_some_iff.mp h;obtain⟨k,hk,h⟩:=Option.bind_eq_some_iff.mp h;obtain⟨y,hy,h⟩:=Option.bind_eq_some_iff.mp h;obtain⟨d,hd,h⟩:=Option.map_eq_some_iff.mp h;cases h;obtain⟨j,z,e⟩:=HP hd;obtain⟨ka,kv,kp⟩:=k;cases hy;cases e;rw[KA hq,NM hb,NM hk];exact⟨_,_,_,_,_,rfl⟩
 ·cases h
noncomputable def JF:Expr->Bool
 |.Slice none none (some (.UnaryOp .USub (.Constant (.int i) _ _) _)) _=>i==1
 |_=>false
noncomputable def fM(scope:Scope):List Str:=(scope.names.filter λp=>p.2==NameKind.free).map (·.1)
noncomputable def eT(scope:Scope):List Str:=(scope.names.filter λp=>p.2==NameKind.local).map (·.1)
noncomputable def CC.inner(Z:CC)(scope:Scope):CC :=
 ⟨fM scope++eT scope,scope.names.map λ(n,k)=>if(k==NameKind.free&&Z.names.lookup n==some .cell) then(n,NameKind.cell) else(n,k),Z.gl,false⟩
noncomputable def CC.imps(Z:CC):List Str->Option (List Nat)
 |[]=>some []
 |x::xs=>(Z.N.idxOf? x).bind λi=>(Z.imps xs).map (i :: ·)
noncomputable def CC.scOk(Z:CC)(scope:Scope):Bool:=(scope.kind==ScopeKind.function)&&(scope.names.all λp=>p.2 != NameKind.cell)&&(scope.names.all λp=>p.2 != NameKind.local||scope.names.lookup p.1==some NameKind.local) &&
 (scope.names.all λp=>p.2 != NameKind.free||(scope.names.lookup p.1==some NameKind.free&&(Z.names.lookup p.1==some NameKind.cell||Z.names.lookup p.1==some NameKind.free)))&&decide (fM scope++eT scope).Nodup
noncomputable def aA4(k:ItK)(ci:E)(cargs:List E):List E:=match k with
 |.of=>[ci]
 |_=>cargs
noncomputable def lA(k:ItK)(one:Bool):Bool:=match k with
 |.enum _=>!one
 |_=>true
noncomputable def aGI(iter:Expr):Bool:=false
noncomputable def aGY(Z:CC)(iter:Expr):Option Nat:=none
noncomputable def oQ(Z:CC)(scope:Scope)(tg iter:Expr)(ci:E)(cargs cond:List E)(ce:E):E :=
 if Z.scOk scope then
  match Z.imps (fM scope),kO (Z.inner scope) tg,qP Z iter with
  |some imp,some (one,is),some (k,_)=>if aGI iter then(if one==(is.length==1) then .comp ce is .sig [ci] cond imp (eT scope).length else .bad) else match aGY Z iter with | some i=>(if one==(is.length==1) then .comp ce is .key [.frz i] cond imp (eT scope).length else .bad) | none=>if one==(is.length==1)&&lA k one&&k != .enum 1 then .comp ce is k (aA4 k ci cargs) cond imp (eT scope).length else .bad
  |_,_,_=>.bad
 else .bad
mutual
noncomputable def cE(Z:CC):Expr->E
 |.Name x _=>vS Z x
 |.Constant c _ _=>BN c
 |.Tuple es _ _=>if es.all aX then .tup (cT Z es) else .bad
 |.List es _=>if es.all aX then .lst (cT Z es) else .bad
 |.Dict ks vs _=>dzC (aGc Z) ks vs (SN ks vs (cOs Z ks) (cT Z vs))
 |.BinOp a op b _=>.bin op (cE Z a) (cE Z b)
 |.UnaryOp .Not a _=>.not (cE Z a)
 |.UnaryOp .USub a _=>.neg (cE Z a)
 |.Compare a [op] [b] _=>if behindInMarks op b then .bad else .cmp op (cE Z a) (cE Z b)
 |.Compare a [op,op'] [b,c] _=>if behindInMarks op' c then .bad else .cmp2 op op' (cE Z a) (cE Z b) (cE Z c)
 |.BoolOp .And (a::b::r) _=>.and (cE Z a) (PD Z (b::r))
 |.BoolOp .Or (a::b::r) _=>.or (cE Z a) (cOr Z (b::r))
 |.IfExp c a b _=>.bad
 |.Subscript a (.Slice lo hi none _) _=>.sl (cE Z a) (cO Z lo) (cO Z hi)
 |.Subscript a i _=>if JF i then .bad else .ix (cE Z a) (cE Z i)
 |.Call (.Name f _) args [] _=>if args.all aX&&decide (args≠[]) then
   match Z.glob f with
   |.fn g=>.call g (cT Z args)
   |.cls ns=>.make f ns (cT Z args)
   |.blt=>if f=("isinstance":Str) then NX Z args (cT Z args)
     else OK f args (cT Z args)
   |_=>.bad
  else .bad
 |.Call (.Attribute (.Name x _) m apos) args [] cpos=>P7 Z x m apos cpos args (cT Z args)
 |.Call (.Attribute (.Call g (a0::as0) kw p) m apos) args [] cpos=>GC Z m apos cpos args (cE Z (.Call g (a0::as0) kw p)) (cT Z args)
 |.Attribute (.Name x _) f _=>.fld (vS Z x) f
 |.ListComp elt [⟨tg,iter,[],0⟩] scope _=>oQ Z scope tg iter (cE Z iter) (A1 Z iter) [] (cE (Z.inner scope) elt)
 |.ListComp elt [⟨tg,iter,[c],0⟩] scope _=>oQ Z scope tg iter (cE Z iter) (A1 Z iter) [cE (Z.inner scope) c] (cE (Z.inner scope) elt)
 |_=>.bad
noncomputable def A1(Z:CC):Expr->List E
 |.Call _ args _ _=>cT Z args
 |_=>[]
noncomputable def cT(Z:CC):List Expr->List E
 |[]=>[]
 |e::es=>cE Z e::cT Z es
noncomputable def cOs(Z:CC):List (Option Expr)->List E
 |[]=>[]
 |o::os=>cO Z o::cOs Z os
noncomputable def PD(Z:CC):List Expr->E
 |[]=>.bad
 |[a]=>cE Z a
 |a::b::r=>.and (cE Z a) (PD Z (b::r))
noncomputable def cOr(Z:CC):List Expr->E
 |[]=>.bad
 |[a]=>cE Z a
 |a::b::r=>.or (cE Z a) (cOr Z (b::r))
noncomputable def cO(Z:CC):Option Expr->E
 |none=>.omt
 |some e=>qF (cE Z e)
end
noncomputable def NC(K:Frag)(n:Nat)(run:List Sl->aR RV):Sp:=λvs H Q _=>vs.length=n/\∃(as:List Sl) (G:Hp) (v:RV) (as':List Sl),aN K as (vs.map some) H G/\as.length=n/\run as=some (.ok v,as') /\
 ∀x H' G',Aft K as (vs.map some) H G as' H' G'->cC K H' G' (aH as' (vs.map some)) (dS H) v x->Q x H'
structure FnAt(X:Cx)(K:Frag)(x:Str)(n:Nat)(run:List Sl->aR RV):Prop where
 ex:∃(fa:Addr) (fd:FuncData) (ps:List Str) (k:Nat),FnOk X.prog X.w X.K X.mg X.base qT k fa fd ps (NC K n run)/\Room k X.A/\X.mg x=some (.ref fa)/\PySem.W.keepIn X.K (.ref fa)=true/\gM X.K fd ps []
noncomputable def JT(K:Frag)(ns:List Str):Sp:=λvs H Q _=>∃a C dx xs,vs=.ref a::xs/\xs.length=ns.length/\H a=some (.ins C dx [])/\ClsF K C ns/\Q .non (aO H a (.ins C dx (ns.zip xs)))
structure MkAt(X:Cx)(K:Frag)(x:Str)(ns:List Str):Prop where
 ex:∃(Ca fa:Addr) (fd:FuncData) (ps:List Str),nsIn K mainGlobals x=some (some (.ref Ca))/\X.mg x=some (.ref Ca)/\Mk X.K Ca fa/\ClsF K Ca ns/\FnOk X.prog X.w X.K X.mg X.base qT 1 fa fd ps (JT K ns)/\gM X.K fd ps []
structure MethAt(X:Cx)(K:Frag)(c m:Str)(n:Nat)(run:List Sl->aR RV):Prop where
 ex:∃(Ca fa:Addr) (fd:FuncData) (ps:List Str) (k:Nat),nsIn K mainGlobals c=some (some (.ref Ca))/\Meth X.K Ca m fa/\FnOk X.prog X.w X.K X.mg X.base qT k fa fd ps (NC K n run)/\Room k X.A/\gM X.K fd ps []/\Cls K Ca
structure NotC(K:Frag)(D C:Addr):Prop where
 a:PySem.W.kin_not K D C=true
 b:PySem.W.plainGet K D "__class__"=true
 c:PySem.W.hasDictIn K D=true
 d:findIn K (.ref D) "__class__"=some (some (.builtin "object.__class__"))
 e:PySem.W.specialIn K (.builtin "object.__class__") "__get__"=some (some (.builtin "getset_descriptor.__get__"))
 f:PySem.W.takesIn K (.builtin "object.__class__")=some true
 g:PySem.W.mroIn K D (.type "object")=some true
structure SubAt(K:Frag)(mg:Str->Option Value)(x:Str)(s n:List Str):Prop where
 ex:∃C,mg x=some (.ref C)/\(∀c∈s,∀Ca,nsIn K mainGlobals c=some (some (.ref Ca))->PySem.W.isIn K (.ref Ca) C=true)/\∀c∈n,∀Ca,nsIn K mainGlobals c=some (some (.ref Ca))->NotC K Ca C
structure FnAtX(X:Cx)(K:Frag)(x:Str)(n:Nat)(run:List Sl->aR RV):Prop where
 ex:True
structure ExcAt(K:Frag)(mg:Str->Option Value)(x:Str):Prop where
 ex:∃C,nsIn K mainGlobals x=some (some (.ref C))/\mg x=some (.ref C)/\ExcG K C/\QT K C none
structure ExiAt(X:Cx)(K:Frag)(x:Str):Prop where
 ex:True
structure ExsAt(K:Frag)(mg:Str->Option Value)(x:Str)(cs:List Str):Prop where
 ex:∃D,mg x=some (.ref D)/\(∃i,QT K D i)/\∀c∈cs,∀C,nsIn K mainGlobals c=some (some (.ref C))->PySem.W.mroIn K C (.ref D)=some true
structure SubX(K:Frag)(mg:Str->Option Value)(x:Str)(s n:List Str):Prop where
 ex:∃D,mg x=some (.ref D)/\(∀c∈s,∀C,nsIn K mainGlobals c=some (some (.ref C))->PySem.W.isIn K (.ref C) D=true)/\∀c∈n,∀C,nsIn K mainGlobals c=some (some (.ref C))->PySem.W.kin_not K C D=true
structure XOkB(q:Bool)(X:Cx)(K:Frag)(P:aW)(C:Calls)(Z:CC):Prop where
 keq:X.K=K
 neq:X.N=Z.N
 nm:X.env.scope.names=Z.names
 nd:Z.N.Nodup
 con:∀x d,Z.gl x=.con d->∃u v,X.mg x=some u/\aY v u/\∀G,aC K G d v
 blt:∀x,Z.gl x=.blt->X.mg x=none
 sub:∀x s n,Z.gl (pQ x)=.sub s n->SubAt K X.mg x s n
 subx:∀x s n,Z.gl (pQ x)=.subx s n->SubX K X.mg x s n
 cond:q=true->X.calm=true/\X.A.handled=none/\X.A.units+64<cLine/\(∀x f,Z.gl x=.fn f->FnAt X K x (P f).length (C f))/\(∀x ns,Z.gl x=.cls ns->MkAt X K x ns) /\
  (∀m tb c f,Z.gl (pT m)=.mth tb->tb.lookup c=some f->MethAt X K c m (P f).length (C f))/\Room 2 X.A/\((∀x,Z.gl x=.exc->ExcAt K X.mg x)/\∀x,Z.gl x=.exi->ExiAt X K x)/\(∀x cs,Z.gl (MM x)=.exs cs->ExsAt K X.mg x cs)/\(∀x f,Z.gl x=.fn f->FnAtX X K x (P f).length (C f))/\∃env0 outer0 L,X.stack=env0::outer0/\env0.frame=some L/\X.env.frame=some L
abbrev bJ(X:Cx)(K:Frag)(P:aW)(C:Calls)(Z:CC):Prop:=XOkB true X K P C Z
section
variable{X:Cx}{K:Frag}{P:aW}{C:Calls}{Z:CC}
theorem XOkB.calm(o:XOkB true X K P C Z):X.calm=true:=(o.cond rfl).1
def XOkB.hh(o:XOkB true X K P C Z):X.A.handled=none:=(o.cond rfl).2.1
def XOkB.hu(o:XOkB true X K P C Z):X.A.units+64<cLine:=(o.cond rfl).2.2.1
theorem XOkB.fn(o:XOkB true X K P C Z):∀x f,Z.gl x=.fn f->FnAt X K x (P f).length (C f):=(o.cond rfl).2.2.2.1
theorem XOkB.cls(o:XOkB true X K P C Z):∀x ns,Z.gl x=.cls ns->MkAt X K x ns:=(o.cond rfl).2.2.2.2.1
theorem XOkB.mth(o:XOkB true X K P C Z):∀m tb c f,Z.gl (pT m)=.mth tb->tb.lookup c=some f->MethAt X K c m (P f).length (C f):=(o.cond rfl).2.2.2.2.2.1
def XOkB.rm(o:XOkB true X K P C Z):Room 2 X.A:=(o.cond rfl).2.2.2.2.2.2.1
theorem XOkB.exc(o:XOkB true X K P C Z):∀x,Z.gl x=.exc->ExcAt K X.mg x:=(o.cond rfl).2.2.2.2.2.2.2.1.1
theorem XOkB.exi(o:XOkB true X K P C Z):∀x,Z.gl x=.exi->ExiAt X K x:=(o.cond rfl).2.2.2.2.2.2.2.1.2
theorem XOkB.exs(o:XOkB true X K P C Z):∀x cs,Z.gl (MM x)=.exs cs->ExsAt K X.mg x cs:=(o.cond rfl).2.2.2.2.2.2.2.2.1
def XOkB.fnX(o:XOkB true X K P C Z):∀x f,Z.gl x=.fn f->FnAtX X K x (P f).length (C f):=(o.cond rfl).2.2.2.2.2.2.2.2.2.1
def XOkB.tp(o:XOkB true X K P C Z):∃env0 outer0 L,X.stack=env0::outer0/\env0.frame=some L/\X.env.frame=some L:=(o.cond rfl).2.2.2.2.2.2.2.2.2.2
def bJ.of(keq:X.K=K)(neq:X.N=Z.N)(nm:X.env.scope.names=Z.names)(nd:Z.N.Nodup)(calm:X.calm=true)(hh:X.A.handled=none)(hu:X.A.units+64<cLine)
  (con:∀x d,Z.gl x=.con d->∃u v,X.mg x=some u/\aY v u/\∀G,aC K G d v) (blt:∀x,Z.gl x=.blt->X.mg x=none) (fn:∀x f,Z.gl x=.fn f->FnAt X K x (P f).length (C f)) (cls:∀x ns,Z.gl x=.cls ns->MkAt X K x ns)
  (mth:∀m tb c f,Z.gl (pT m)=.mth tb->tb.lookup c=some f->MethAt X K c m (P f).length (C f)) (rm:Room 2 X.A) (sub:∀x s n,Z.gl (pQ x)=.sub s n->SubAt K X.mg x s n) (subx:∀x s n,Z.gl (pQ x)=.subx s n->SubX K X.mg x s n)
  (exc:(∀x,Z.gl x=.exc->ExcAt K X.mg x)/\∀x,Z.gl x=.exi->ExiAt X K x) (exs:∀x cs,Z.gl (MM x)=.exs cs->ExsAt K X.mg x cs) (fnX:∀x f,Z.gl x=.fn f->FnAtX X K x (P f).length (C f)) (tp:∃env0 outer0 L,X.stack=env0::outer0/\env0.frame=some L/\X.env.frame=some L):bJ X K P C Z :=
 ⟨keq,neq,nm,nd,con,blt,sub,subx,λ_=>⟨calm,hh,hu,fn,cls,mth,rm,exc,exs,fnX,tp⟩⟩
end
structure Ok3(X:Cx)(K:Frag)(P:aW)(C:Calls)(e:Expr)(c:E):Prop where
 v:PE X e (tE K P C c)
 t:PT X e (tT K P C c)
 h:PE X e (tH K P C c)
section
variable{K:Frag}
def aDG(h:∀t U,ev P C t c U=none)(n:∀i,c≠.var i):Ok3 X K P C e c:=by
 have v:PE X e (tE K P C c):=λpins s Y H Q I hz=>by obtain⟨U,G,w,U',r,z,k⟩:=hz;rw[h] at z;cases z
 exact⟨v,(λpins s Y H Q I ⟨U,G,w,U',r,z,k⟩=>by rw[h] at z;cases z),rG v n⟩
def aI:Ok3 X K P C e .bad:=aDG (λt U=>rfl) λi z=>nomatch z
def jE(xo:XOkB q X K P C Z)(h:PE X e (tE K P C c))(n:∀i,c≠.var i)(hw:∀U,ev P C true c U=bL true (ev P C false c U))
  (he:∀whole,isTrue e X.env whole=(do let v <- whole;standAt e.pos;holding [v] (truthy v))):Ok3 X K P C e c:=⟨h,aEF xo.keq h hw he,rG h n⟩
def mN[BEq J][LawfulBEq J]{l:List J}(h:l.idxOf? x=some i):l[i]?=some x:=by
 rw[List.idxOf?,List.findIdx?_eq_some_iff_getElem] at h;obtain⟨h1,h2,_⟩:=h;rw[Zb h1];exact congrArg some (Zy h2)
def CC.slot_ok(xo:XOkB q X K P C Z)(h:Z.slot x=some i):PE X (.Name x pos) (oV i):=by
 unfold CC.slot at h;split at h
 ·cases h
 ·rename_i hb;split at h
  ·rename_i hv;simp only[i8,Bool.or_eq_true,not_or,Bool.not_eq_true] at hb;refine CN (by rw[xo.neq];exact mN h) ?_ hb.1.1 hb.1.2;unfold CC.isVis at hv;simp only[Bool.or_eq_true,beq_iff_eq] at hv;unfold LD;rw[xo.nm];rcases hv with (h | h) | h
   ·exact .inl h
   ·exact .inr (.inl h)
   ·exact .inr (.inr h)
  ·cases h
def CC.glob_ok(xo:XOkB q X K P C Z)(h:Z.glob x=g)(hg:g≠.no):Gl X x/\Z.gl x=g/\(x==("__debug__":Str))=false/\x≠"__name__":=by
 unfold CC.glob at h;split at h
 ·exact absurd h.symm hg
 ·rename_i hb;split at h
  ·rename_i hv;simp only[i8,Bool.or_eq_true,not_or,Bool.not_eq_true] at hb;refine⟨?_,h,hb.1.1,λz=>?_⟩
   ·unfold Gl Env.kindOf;rw[xo.nm];unfold CC.isGl at hv;simpa using hv
   ·have:=hb.2
    rw[z] at this;simp at this
  ·exact absurd h.symm hg
def qS(xo:XOkB q X K P C Z)(h:PE X e (tC v))(r:∀G,aC K G d v)(he:∀whole,isTrue e X.env whole=(do let v <- whole;standAt e.pos;holding [v] (truthy v))):Ok3 X K P C e (.con d):=by
 refine jE xo (TE.imp_pe h λY H Q q=>?_) (λi z=>nomatch z) (λU=>rfl) he;obtain⟨U,G,w,U',r',z,k⟩:=q;cases z;exact k v H G (Aft.refl r') (r G)
def E4(xo:XOkB q X K P C Z)(x:Str)(pos:Pos):Ok3 X K P C (.Name x pos) (vS Z x):=by
 unfold vS;split
 ·rename_i i hi;have hp:=CC.slot_ok xo hi (pos:=pos);refine⟨XT hp, ?_,XD hp⟩
  -- a test of a local: looked at
  refine TT.imp_pt (DQ hp λ_=>rfl) λY H Q q=>?_
  obtain⟨U,G,b,U',r,e1,k⟩:=q;obtain⟨u,b',e2,e3,e4⟩:=FU e1;cases e4
  cases w:(U[i]?).bind Sl.get with
  |none=>rw[w] at e2;cases e2
  |some d =>
   rw[w] at e2;simp only[Option.map_some,Option.some.injEq,Prod.mk.injEq,Out.ok.injEq] at e2;obtain⟨rfl,rfl⟩:=e2;obtain⟨x,hx⟩:=r.bound (by rw[w];rfl);exact⟨x,hx,b,by rw[xo.keq];exact tN r.sub (r.get w hx) e3,k H G (Aft.refl r)⟩
 ·split
  ·rename_i d hd;obtain⟨h1,h2,h3,h4⟩:=CC.glob_ok xo hd (λz=>nomatch z);obtain⟨u,v,hm,hr,hrep⟩:=xo.con x d h2;exact qS xo (VZ h1 hm hr h3) hrep λ_=>rfl
  ·exact aI
def RQ(xo:XOkB q X K P C Z)(c:Const)(k:Nat)(pos:Pos):Ok3 X K P C (.Constant c k pos) (BN c):=by
 cases c with
 |none=>exact qS xo aAF (λG=>by simp[aC]) λ_=>rfl
 |bool b=>exact qS xo aEA (λG=>by simp[aC]) λ_=>rfl
 |int i=>exact qS xo uE (λG=>by simp[aC]) λ_=>rfl
 |str s =>
  simp only[BN];split
  ·rename_i h;exact qS xo aBF (λG=>by simp only[aC];exact⟨trivial,h⟩) λ_=>rfl
  ·exact aI
 |_=>exact aI
def bH(h:aX e=true)(es:List Expr)(env:PySem.Env):starEach (e::es) env=(false,eval e env)::starEach es env:=by
 cases e<;>first | rfl | cases h
def YD:PA X [] (BD K P C []):=by
 refine TA.imp_pa nU λY H Q q=>?_
 obtain⟨U,G,ds,U',r,e,k⟩:=q;simp only[mB,Option.some.injEq,Prod.mk.injEq,Out.ok.injEq] at e;obtain⟨rfl,rfl⟩:=e;exact k [] H G (Aft.refl r) aB.nil
def O3(h:Ok3 X K P C e c)(t:PA X es (BD K P C cs))(ns:aX e=true):PA X (e::es) (BD K P C (c::cs)):=by
 refine TA.imp_pa (i6 h.v t (bH ns _ _)) λY H Q q=>?_
 obtain⟨U,G,ds,U',r,e,k⟩:=q;rw[mB] at e;obtain⟨v,U1,e1,e2⟩:=aG e;obtain⟨ds',U2,e3,e4⟩:=aG e2;cases e4;refine⟨U,G,v,U1,r,e1,λx H1 G1 a1 hx=>?_⟩;obtain⟨G1',a1',rx⟩:=a1.share hx;refine⟨U1,G1',ds',_,a1'.rel,e3,λxs H2 G2 a2 hxs=>?_⟩;exact k (x::xs) H2 G2 (a1'.trans a2) (aB.cons (aC.mono a2.ext.gg _ rx) hxs)
def XC:PA X [] (mF K P C []):=by
 refine TA.imp_pa nU λY H Q q=>?_
 obtain⟨U,G,ds,U',r,e,k⟩:=q;simp only[cD,Option.some.injEq,Prod.mk.injEq,Out.ok.injEq] at e;obtain⟨rfl,rfl⟩:=e;exact k [] H G (Aft.refl r) rfl
theorem c9.new_mono(w:∀a,new a->new' a):∀{hs:List Hd} {xs:List V},c9 K H G own new Y hs xs->c9 K H G own new' Y hs xs
 |[],_,h=>h
 |h::hs,_,r=>by(obtain⟨x,r',rfl,h1,h2,h3⟩:=r;exact⟨x,r',rfl,h1.new_mono w,c9.new_mono w h2,h3⟩)
def Q9(h:Ok3 X K P C e c)(t:PA X es (mF K P C cs))(ns:aX e=true):PA X (e::es) (mF K P C (c::cs)):=by
 refine TA.imp_pa (i6 h.h t (bH ns _ _)) λY H Q q=>?_
 obtain⟨U,G,ds,U',r,e,k⟩:=q;rw[cD] at e;obtain⟨v,U1,e1,e2⟩:=aG e;obtain⟨ds',U2,e3,e4⟩:=aG e2;cases e4;refine⟨U,G,v,U1,r,e1,λx H1 G1 a1 hx=>⟨U1,G1,ds',_,a1.rel,e3,λxs H2 G2 a2 hxs=>?_⟩⟩;refine k (x::xs) H2 G2 (a1.trans a2) ⟨x,xs,rfl,hx.wait a2.ext λa z=>.inl (a2.own a z),hxs.new_mono λa z=>a1.ext.hx a z,λd a hd ha ht=>?_⟩;subst hd;obtain⟨b,e5,g,o,n,m⟩:=hx;rw[ha] at e5;cases e5;obtain⟨vs,hv⟩:=o.there
 have:=(hxs.tmp_own ht).2.1
 rw[show H1 a=none from this] at hv;cases hv
theorem c9.getAll(r:aN K U Y H G):∀{hs:List Hd} {xs:List V} {ds:List D},c9 K H G own new Y hs xs->getAll hs U=some ds->AS K H G ds xs
 |[],_,_,h,e=>by cases (show _=[] from h);cases e;rfl
 |h::hs,_,ds,hh,e=>by
  obtain⟨x,r',rfl,h1,h2,h3⟩:=hh;simp only[CI.getAll] at e
  cases q:h.get U with
  |none=>rw[q] at e;cases e
  |some d =>
   rw[q] at e
   cases q2:CI.getAll hs U with
   |none=>rw[q2] at e;cases e
   |some ds' =>
    rw[q2] at e;cases e;exact⟨x,r',rfl,h1.read r q,c9.getAll r h2 q2⟩
def aAw(xo:bJ X K P C Z)(ha:Ok3 X K P C a ca)(hb:Ok3 X K P C b cb):Ok3 X K P C (.BinOp a op b pos) (.bin op ca cb):=by
 refine jE xo (TE.imp_pe (aFk (aC5 xo.keq op) ha.h hb.h) λY H Q q=>?_) (λi z=>nomatch z) (λU=>rfl) λ_=>rfl
 obtain⟨U,G,v,U',r,e,k⟩:=q;obtain⟨hx,U1,e1,e⟩:=aG e;obtain⟨hy,U2,e2,e⟩:=aG e;obtain⟨e3,rfl⟩:=fG e;refine⟨U,G,hx,U1,r,e1,λx H1 G1 a1 rx=>⟨U1,G1,hy,U',a1.rel,e2,λy H2 G2 a2 ry=>?_⟩⟩
 cases q1:hx.get U' with
 |none=>rw[q1] at e3;cases e3
 |some d =>
  cases q2:hy.get U' with
  |none=>rw[q1,q2] at e3;cases e3
  |some d2 =>
   rw[q1,q2] at e3;simp only[Option.bind_some] at e3;split at e3
   ·rename_i hm;have rx':=rx.wait a2.ext λa z=>.inl (a2.own a z)
    refine⟨G2,d,d2,v,a2.rel.sub,rx'.read a2.rel q1,ry.read a2.rel q2,λho ds hd=>?_,e3,λz H3 hm3=>?_⟩
    ·subst ho;subst hd
     cases hx with
     |slot i=>simp[rC] at hm
     |val w =>
      cases w with
      |sh _=>simp[rC] at hm
      |od _=>simp[rC] at hm
      |ow w =>
       simp only[Hd.get,RV.d,Option.some.injEq] at q1;subst q1;obtain⟨c,e5,g,⟨vs,o1,o2⟩,n,m⟩:=rx';exact⟨c,vs,e5,o1,o2⟩
    ·obtain⟨G3,a3,v3⟩:=(a1.trans a2).made hm3;exact k z H3 G3 a3 v3
   ·cases e3
def aBA(xo:bJ X K P C Z)(ha:Ok3 X K P C a ca):Ok3 X K P C (.UnaryOp .USub a pos) (.neg ca):=by
 refine jE xo (TE.imp_pe (aFc aCt ha.v) λY H Q q=>?_) (λi z=>nomatch z) (λU=>rfl) λ_=>rfl
 obtain⟨U,G,v,U',r,e,k⟩:=q;obtain⟨w,U1,e1,e⟩:=aG e;split at e
 ·rename_i i hi;cases e;refine⟨U,G,w,_,r,e1,λx H1 G1 a1 rx=>?_⟩
  have:=rx.readR
  rw[hi] at this;cases this.int;exact⟨i,rfl,k _ H1 G1 a1 (by show aC K G1 (.int (-i)) _;simp[aC])⟩
 ·cases e
def WE(ha:PE X a ta):PE X (.UnaryOp .Not a pos) (λY H Q=>ta Y H λx H'=>∃k,JJ X.K x H' k/\Q (.bl (!k)) H'):=by
 intro pins s Y H Q I h;refine UnaryOp_ (a7 (ha pins s Y H _ I h) λv s1 hz=>?_);obtain⟨x,H1,I1,r1,q1⟩:=hz;exact not_of (a7 (M7 pins s1 Y H1 x v (λk H'=>Q (.bl (!k)) H') I1 r1 q1) λb s2 ⟨H2,I2,q2⟩=>⟨.bl (!b),H2,I2,rfl,q2⟩)
def aBb(xo:bJ X K P C Z)(ha:Ok3 X K P C a ca):Ok3 X K P C (.UnaryOp .Not a pos) (.not ca):=by
 have v:PE X (.UnaryOp .Not a pos) (tE K P C (.not ca)):=by
  refine TE.imp_pe (WE ha.h) λY H Q q=>?_
  obtain⟨U,G,v,U',r,e,k⟩:=q;obtain⟨w,U1,e1,e⟩:=aG e;obtain⟨e2,rfl⟩:=fG e;refine⟨U,G,w,U',r,e1,λx H1 G1 a1 rx=>?_⟩
  cases q:w.get U' with
  |none=>rw[q] at e2;cases e2
  |some d =>
   rw[q] at e2;simp only[Option.bind_some] at e2
   cases q2:iJ d with
   |none=>rw[q2] at e2;cases e2
   |some b =>
    rw[q2] at e2;cases e2;refine⟨b, ?_,k _ H1 G1 a1 (by show aC K G1 (.bl _) _;simp[aC])⟩;rw[xo.keq];exact tN a1.rel.sub (rx.read a1.rel q) q2
 refine⟨v, ?_,rG v λi z=>nomatch z⟩;refine TT.imp_pt (aAC ha.t) λY H Q q=>?_
 obtain⟨U,G,b,U',r,e,k⟩:=q;obtain⟨w,U1,e1,e⟩:=aG e;split at e
 ·rename_i b';cases e;exact⟨U,G,b',_,r,e1,λH1 G1 a1=>k H1 G1 a1⟩
 ·cases e
def oA(a1:Aft K U Y H G U1 H1 G1)(rx:gD K H1 G1 (aH U1 Y) (dS H) Y hx x)(a2:Aft K U1 Y H1 G1 U2 H2 G2)(ry:gD K H2 G2 (aH U2 Y) (dS H1) Y hy y)
  (e:((hx.get U2).bind λd=>(hy.get U2).bind λe=>bV op d e)=some b) (Q:VK) (q:Q (.bl b) H2):BB K op x y H2 Q:=by
 cases q1:hx.get U2 with
 |none=>rw[q1] at e;cases e
 |some d =>
  cases q2:hy.get U2 with
  |none=>rw[q1,q2] at e;cases e
  |some d2 =>
   rw[q1,q2] at e;exact⟨G2,d,d2,b,a2.rel.sub,(rx.wait a2.ext λa z=>.inl (a2.own a z)).read a2.rel q1,ry.read a2.rel q2,e,q⟩
def aBd(e:(o.map λb=>RV.sh (.bl b))=some v):∃b,o=some b/\v=.sh (.bl b):=by
 cases o with
 |none=>cases e
 |some b=>cases e;exact⟨b,rfl,rfl⟩
def oY{x y:Option D}{f:D->D->Option Bool}(e:(x.bind λd=>y.bind λe=>(f d e).map λb=>RV.sh (.bl b))=some v):∃b,(x.bind λd=>y.bind λe=>f d e)=some b/\v=.sh (.bl b):=by
 cases x with
 |none=>cases e
 |some d =>
  cases y with
  |none=>cases e
  |some d2=>exact aBd e
def aCG(xo:bJ X K P C Z)(ha:Ok3 X K P C a ca)(hb:Ok3 X K P C b cb)(hm:behindInMarks op b=false):Ok3 X K P C (.Compare a [op] [b] pos) (.cmp op ca cb):=by
 have core:∀Y H (Q:VK),(∃(U:Env) (G:Hp) (b:Bool) (U':Env),aN K U Y H G/\ev P C false (.cmp op ca cb) U=some (.ok (.sh (.bl b)),U')/\∀H' G',Aft K U Y H G U' H' G'->Q (.bl b) H') ->
   LG (BB K op) (tH K P C ca) (tH K P C cb) Y H Q:=λY H Q q=>by
  obtain⟨U,G,b,U',r,e,k⟩:=q;obtain⟨hx,U1,e1,e⟩:=aG e;obtain⟨hy,U2,e2,e⟩:=aG e;obtain⟨e3,rfl⟩:=fG e;obtain⟨b',e4,e5⟩:=oY e3;cases e5;exact⟨U,G,hx,U1,r,e1,λx H1 G1 a1 rx=>⟨U1,G1,hy,U',a1.rel,e2,λy H2 G2 a2 ry=>oA a1 rx a2 ry e4 Q (k H2 G2 (a1.trans a2))⟩⟩
 have v:PE X (.Compare a [op] [b] pos) (tE K P C (.cmp op ca cb)):=by
  refine TE.imp_pe (YO (n6 xo.keq xo.hu op) ha.h hb.h hm) λY H Q q=>core Y H Q ?_
  obtain⟨U,G,v,U',r,e,k⟩:=q;have e0:=e;obtain⟨hx,U1,e1,e⟩:=aG e;obtain⟨hy,U2,e2,e⟩:=aG e;obtain⟨e3,rfl⟩:=fG e;obtain⟨b',e4,rfl⟩:=oY e3;exact⟨U,G,b',U',r,e0,λH' G' a=>k _ H' G' a (by show aC K G' (.bl _) _;simp[aC])⟩
 refine⟨v, ?_,rG v λi z=>nomatch z⟩;refine TT.imp_pt (XQ (n6 xo.keq xo.hu op) ha.h hb.h hm) λY H Q q=>core Y H _ ?_
 obtain⟨U,G,b',U',r,e,k⟩:=q;exact⟨U,G,b',U',r,e,λH' G' a=>⟨b',rfl,k H' G' a⟩⟩
def ZJ(xo:bJ X K P C Z)(ha:Ok3 X K P C a ca)(hb:Ok3 X K P C b cb)(hc:Ok3 X K P C c cc)(hm:behindInMarks op' c=false):Ok3 X K P C (.Compare a [op,op'] [b,c] pos) (.cmp2 op op' ca cb cc):=by
 have core:∀Y H (Q:VK),(∃(U:Env) (G:Hp) (b:Bool) (U':Env),aN K U Y H G/\ev P C false (.cmp2 op op' ca cb cc) U=some (.ok (.sh (.bl b)),U')/\∀H' G',Aft K U Y H G U' H' G'->Q (.bl b) H') ->
   A6 (BB K op) (BB K op') (tH K P C ca) (tH K P C cb) (tH K P C cc) Y H Q:=λY H Q q=>by
  obtain⟨U,G,b,U',r,e,k⟩:=q;obtain⟨hx,U1,e1,e⟩:=aG e;obtain⟨hy,U2,e2,e⟩:=aG e;refine⟨U,G,hx,U1,r,e1,λx H1 G1 a1 rx=>⟨U1,G1,hy,U2,a1.rel,e2,λy H2 G2 a2 ry=>?_⟩⟩;split at e
  ·cases e
  ·rename_i e4;cases e;refine oA a1 rx a2 ry e4 _ ⟨false,rfl, ?_⟩;rw[Zp Bool.false_ne_true];exact k H2 G2 (a1.trans a2)
  ·rename_i e4;obtain⟨hz,U3,e5,e⟩:=aG e;obtain⟨e6,rfl⟩:=fG e;obtain⟨b',e7,e8⟩:=oY e6;cases e8;refine oA a1 rx a2 ry e4 _ ⟨true,rfl, ?_⟩;rw[Zo rfl];exact⟨U2,G2,hz,U',a2.rel,e5,λz H3 G3 a3 rz=>oA (a1.trans a2) (ry.new_mono λa z=>a1.ext.hx a z) a3 rz e7 Q (k H3 G3 ((a1.trans a2).trans a3))⟩
 have hl:lastMarks [op,op'] [b,c]=false:=hm
 have v:PE X (.Compare a [op,op'] [b,c] pos) (tE K P C (.cmp2 op op' ca cb cc)):=by
  refine TE.imp_pe (PB (n6 xo.keq xo.hu op) (n6 xo.keq xo.hu op') ha.h hb.h hc.h hl) λY H Q q=>core Y H Q ?_
  obtain⟨U,G,v,U',r,e,k⟩:=q;have e0:=e
  have:∃b,v=.sh (.bl b):=by
   obtain⟨hx,U1,e1,e⟩:=aG e;obtain⟨hy,U2,e2,e⟩:=aG e;split at e
   ·cases e
   ·cases e;exact⟨_,rfl⟩
   ·obtain⟨hz,U3,e5,e⟩:=aG e;obtain⟨e6,rfl⟩:=fG e;obtain⟨b',e7,e8⟩:=oY e6;exact⟨b',e8⟩
  obtain⟨b',rfl⟩:=this;exact⟨U,G,b',U',r,e0,λH' G' a=>k _ H' G' a (by show aC K G' (.bl _) _;simp[aC])⟩
 refine⟨v, ?_,rG v λi z=>nomatch z⟩;refine TT.imp_pt (O9 (n6 xo.keq xo.hu op) (n6 xo.keq xo.hu op') ha.h hb.h hc.h hl) λY H Q q=>core Y H _ ?_
 obtain⟨U,G,b',U',r,e,k⟩:=q;exact⟨U,G,b',U',r,e,λH' G' a=>⟨b',rfl,k H' G' a⟩⟩
end
section
variable{K:Frag}
def PW.imp(h:PW X e t)(w:∀Y H Q,u Y H Q->t Y H Q):PW X e u:=λwh pins s Y H Q I q=>h wh pins s Y H Q I (w Y H Q q)
def aEp(q:tE K P C (.and ca cb) Y H Q):SY (tE K P C ca) (tE K P C cb) Y H Q:=by
 obtain⟨U,G,v,U',r,e,k⟩:=q;obtain⟨w,U1,e1,e⟩:=aG e;refine⟨U,G,w,U1,r,e1,λx H1 G1 a1 rx=>?_⟩;split at e
 ·refine⟨true,pU (K:=K) (G:=G1) rx, ?_⟩;refine B4 ?_;exact⟨U1,G1,v,U',a1.rel,e,λy H2 G2 a2 ry=>k y H2 G2 (a1.trans a2) (ry.new_mono λa z=>a1.ext.hx a z)⟩
 ·refine⟨false,pU (K:=K) (G:=G1) rx, ?_⟩;refine C9 ?_;cases e;exact k _ H1 G1 a1 (by show aC K G1 (.bl _) _;simp[aC])
 ·cases e
def aEb(q:tT K P C (.and ca cb) Y H Q):aAc (tT K P C ca) (tT K P C cb) Y H Q:=by
 obtain⟨U,G,b,U',r,e,k⟩:=q;obtain⟨w,U1,e1,e⟩:=aG e;split at e
 ·refine⟨U,G,true,U1,r,e1,λH1 G1 a1=>?_⟩;refine B4 ?_;exact⟨U1,G1,b,U',a1.rel,e,λH2 G2 a2=>k H2 G2 (a1.trans a2)⟩
 ·refine⟨U,G,false,U1,r,e1,λH1 G1 a1=>?_⟩;refine C9 ?_;cases e;exact k H1 G1 a1
 ·cases e
def aGM(q:tE K P C (.or ca cb) Y H Q):aB2 (tE K P C ca) (tE K P C cb) Y H Q:=by
 obtain⟨U,G,v,U',r,e,k⟩:=q;obtain⟨w,U1,e1,e⟩:=aG e;refine⟨U,G,w,U1,r,e1,λx H1 G1 a1 rx=>?_⟩;split at e
 ·refine⟨true,pU (K:=K) (G:=G1) rx, ?_⟩;refine B4 ?_;cases e;exact k _ H1 G1 a1 (by show aC K G1 (.bl _) _;simp[aC])
 ·refine⟨false,pU (K:=K) (G:=G1) rx, ?_⟩;refine C9 ?_;exact⟨U1,G1,v,U',a1.rel,e,λy H2 G2 a2 ry=>k y H2 G2 (a1.trans a2) (ry.new_mono λa z=>a1.ext.hx a z)⟩
 ·cases e
def aGy(q:tT K P C (.or ca cb) Y H Q):tOr (tT K P C ca) (tT K P C cb) Y H Q:=by
 obtain⟨U,G,b,U',r,e,k⟩:=q;obtain⟨w,U1,e1,e⟩:=aG e;split at e
 ·refine⟨U,G,true,U1,r,e1,λH1 G1 a1=>?_⟩;refine B4 ?_;cases e;exact k H1 G1 a1
 ·refine⟨U,G,false,U1,r,e1,λH1 G1 a1=>?_⟩;refine C9 ?_;exact⟨U1,G1,b,U',a1.rel,e,λH2 G2 a2=>k H2 G2 (a1.trans a2)⟩
 ·cases e
structure Ok2(X:Cx)(K:Frag)(P:aW)(C:Calls)(op:BoolOp)(vs:List Expr)(c:E):Prop where
 v:∀pos,PE X (.BoolOp op vs pos) (tE K P C c)
 w:∀pos,PW X (.BoolOp op vs pos) (tT K P C c)
def Q6(h:Ok3 X K P C a c):Ok2 X K P C .And [a] c:=⟨λ_=>L0 h.v,λ_=>W9 h.t⟩
def YG(h:Ok3 X K P C a c):Ok2 X K P C .Or [a] c:=⟨λ_=>L0 h.v,λ_=>aAB h.t⟩
def F3(h:Ok3 X K P C a ca)(t:Ok2 X K P C .And (b::r) cb):Ok2 X K P C .And (a::b::r) (.and ca cb) :=
 ⟨λpos=>TE.imp_pe (aBo h.v (t.v pos)) λ_ _ _ q=>aEp q,λpos=>PW.imp (aAv h.t (t.w pos)) λ_ _ _ q=>aEb q⟩
def JR(h:Ok3 X K P C a ca)(t:Ok2 X K P C .Or (b::r) cb):Ok2 X K P C .Or (a::b::r) (.or ca cb) :=
 ⟨λpos=>TE.imp_pe (S0 h.v (t.v pos)) λ_ _ _ q=>aGM q,λpos=>PW.imp (aE7 h.t (t.w pos)) λ_ _ _ q=>aGy q⟩
def Ok2.ok3(h:Ok2 X K P C op vs c)(n:∀i,c≠.var i):Ok3 X K P C (.BoolOp op vs pos) c:=⟨h.v pos,(h.w pos).pt,rG (h.v pos) n⟩
def aBH(xo:bJ X K P C Z)(h:PA X es (BD K P C cs)):Ok3 X K P C (.Tuple es k0 pos) (.tup cs):=by
 refine jE xo (TE.imp_pe (aCA h) λY H Q q=>?_) (λi z=>nomatch z) (λU=>rfl) λ_=>rfl
 obtain⟨U,G,v,U',r,e,k⟩:=q;obtain⟨ds,U1,e1,e⟩:=aG e;split at e
 ·rename_i hz;cases e;refine⟨U,G,ds,_,r,e1,λxs H1 G1 a1 rx=>⟨by rw[rx.len];exact gW hz,λp hp=>?_⟩⟩;obtain⟨a2,v2⟩:=a1.tup_new hp rx;exact k _ _ _ a2 v2
 ·cases e
def Z3(xo:XOkB q X K P C Z)(h:PA X es (BD K P C cs)):Ok3 X K P C (.List es pos) (.lst cs):=by
 refine jE xo (TE.imp_pe (aCk h) λY H Q q=>?_) (λi z=>nomatch z) (λU=>rfl) λ_=>rfl
 obtain⟨U,G,v,U',r,e,k⟩:=q;obtain⟨ds,U1,e1,e⟩:=aG e;split at e
 ·rename_i hz;cases e;refine⟨U,G,ds,_,r,e1,λxs H1 G1 a1 rx=>⟨by rw[rx.len];exact gW hz,λp hp=>?_⟩⟩;obtain⟨a2,v2⟩:=a1.own_new hp rx;exact k _ _ _ a2 v2
 ·cases e
def aEL(xo:bJ X K P C Z)(ha:Ok3 X K P C a ca)(hb:Ok3 X K P C b cb)(hs:xD b):Ok3 X K P C (.Subscript a b pos) (.ix ca cb):=by
 refine jE xo (TE.imp_pe (aEj (aEV xo.keq (by have:=xo.hu;omega)) ha.h hb.v hs) λY H Q q=>?_) (λi z=>nomatch z) (λU=>rfl) λ_=>rfl
 obtain⟨U,G,v,U',r,e,k⟩:=q;obtain⟨hx,U1,e1,e⟩:=aG e;obtain⟨w,U2,e2,e⟩:=aG e;obtain⟨e3,rfl⟩:=fG e;refine⟨U,G,hx,U1,r,e1,λx H1 G1 a1 rx=>⟨U1,G1,w,U',a1.rel,e2,λy H2 G2 a2 ry=>?_⟩⟩
 cases q1:hx.get U' with
 |none=>rw[q1] at e3;cases e3
 |some d =>
  rw[q1] at e3;simp only[Option.bind_some] at e3
  cases q2:J7 d w.d with
  |none=>rw[q2] at e3;cases e3
  |some d2 =>
   rw[q2] at e3;cases e3;exact⟨G2,d,w.d,d2,a2.rel.sub,(rx.wait a2.ext λa z=>.inl (a2.own a z)).read a2.rel q1,ry.readR,q2,λz hz=>k z H2 G2 (a1.trans a2) hz⟩
noncomputable def tO(K:Frag)(P:aW)(C:Calls)(c:E):TO:=λY H Q=>∃(U:Env) (G:Hp) (o:Option D) (U':Env),aN K U Y H G/\wF c (ev P C false c U) U=some (.ok o,U')/\∃i,mX o=some i/\∀H' G',Aft K U Y H G U' H' G'->Q i H'
def NN:PO X none (tO K P C .omt):=λpins s Y H Q I hz=>by
 obtain⟨U,G,o,U',r,e,i,e2,k⟩:=hz;simp only[wF,A9,if_true,Option.some.injEq,Prod.mk.injEq,Out.ok.injEq] at e;obtain⟨rfl,rfl⟩:=e;cases e2;exact VA pins s Y H Q I (k H G (Aft.refl r))
def QC(h:Ok3 X K P C e c):PO X (some e) (tO K P C (qF c)):=λpins s Y H Q I hz=>by
 obtain⟨U,G,o,U',r,e1,i,e2,k⟩:=hz
 have key:∀c',qF c=c'->A9 c'=false->(∀U,ev P C false c' U=ev P C false c U\/ev P C false c' U=none)->wpAny (model X.prog X.w) X.A (evalPart (some e) X.env) (λu s'=>∃o H',Inv X pins Y H' s'/\IsPart u o/\Q o H') X.xe s:=λc' e0 hno he=>by
  rw[e0] at e1;simp only[wF,hno,Bool.false_eq_true,if_false] at e1;obtain⟨w,U1,e3,e4⟩:=aG e1;cases e4;rcases he U with he | he
  ·rw[he] at e3;refine WK h.v pins s Y H Q I ⟨U,G,w,_,r,e3,λx H1 G1 a1 rx=>?_⟩;cases q:w.d<;>rw[q] at e2<;>simp only[mX,reduceCtorEq,Option.some.injEq] at e2;subst e2
   have:=rx.readR
   rw[q] at this;exact⟨_,this.int,k H1 G1 a1⟩
  ·rw[he] at e3;cases e3
 cases c with
 |omt=>exact key .bad rfl rfl λU=>.inr (rfl)
 |_=>exact key _ rfl rfl λU=>.inl rfl
def aFb(xo:bJ X K P C Z){lo hi:Option Expr}{ca cl ch:E}(ha:Ok3 X K P C a ca)(hl:PO X lo (tO K P C cl))(hh:PO X hi (tO K P C ch)):Ok3 X K P C (.Subscript a (.Slice lo hi none p2) pos) (.sl ca cl ch):=by
 refine jE xo (TE.imp_pe (NS (aEz xo.keq) ha.h hl hh) λY H Q q=>?_) (λi z=>nomatch z) (λU=>rfl) λ_=>rfl
 obtain⟨U,G,v,U',r,e,k⟩:=q;obtain⟨hx,U1,e1,e⟩:=aG e;obtain⟨l,U2,e2,e⟩:=aG e;obtain⟨h,U3,e3,e⟩:=aG e;obtain⟨e4,rfl⟩:=fG e
 cases q1:hx.get U' with
 |none=>rw[q1] at e4;cases e4
 |some d =>
  cases q2:mX l with
  |none=>rw[q1,q2] at e4;cases e4
  |some l' =>
   cases q3:mX h with
   |none=>rw[q1,q2,q3] at e4;cases e4
   |some h' =>
    rw[q1,q2,q3] at e4;simp only[Option.bind_some] at e4;refine⟨U,G,hx,U1,r,e1,λx H1 G1 a1 rx=>⟨U1,G1,l,U2,a1.rel,e2,l',q2,λH2 G2 a2=>⟨U2,G2,h,U',a2.rel,e3,h',q3,λH3 G3 a3=>?_⟩⟩⟩;have a23:=a2.trans a3;refine⟨G3,d,v,a3.rel.sub,(rx.wait a23.ext λa z=>.inl (a23.own a z)).read a3.rel q1,e4,λz H4 hm=>?_⟩;obtain⟨G4,a4,v4⟩:=(a1.trans a23).made hm;exact k z H4 G4 a4 v4
def eK(h:es.all aX=true)(env:PySem.Env)(pos:Pos):(backTo pos (starEach es env)).any (·.1)=false/\(backTo pos (starEach es env)).all (λx=>!x.1)=true:=by
 induction es with
 |nil=>exact⟨rfl,rfl⟩
 |cons e es ih =>
  rw[Zj,ZB] at h;rw[bH h.1];obtain⟨i1,i2⟩:=ih h.2
  unfold backTo at *
  refine⟨?_, ?_⟩
  ·rw[Zs,List.any_cons,i1];rfl
  ·rw[Zs,Zj,i2];rfl
def YQ(xo:bJ X K P C Z)(hf:Z.glob f=.fn g)(ns:(e::es).all aX=true)(ha:PA X (e::es) (mF K P C cs)):Ok3 X K P C (.Call (.Name f p) (e::es) [] pos) (.call g cs):=by
 obtain⟨h1,h2,h3,h4⟩:=CC.glob_ok xo hf (λz=>nomatch z);obtain⟨fa,fd,ps,k0,F,hr,hm,hk,hb⟩:=(xo.fn f g h2).ex;rw[Zj,ZB] at ns;refine jE xo (TE.imp_pe (VY F hr h1 hm hk hb .nil AX ha h3 (bH ns.1 _ _) (eK ns.2 _ _).1) λY H Q q=>?_) (λi z=>nomatch z) (λU=>rfl) λ_=>rfl
 obtain⟨U,G,v,U',r,e,k⟩:=q;obtain⟨hs,U1,e1,e⟩:=aG e;refine⟨U,G,hs,U1,r,e1,λxs H1 G1 a1 rx=>?_⟩;obtain⟨as,G2,as',d1,d2,d3,_,d4⟩:=pR a1 rx e;rw[List.append_nil];refine⟨?_,as,G2,v,as',d1,d2,d3,λx H' G' a hv=>?_⟩
 ·have:=d1.len
  rw[List.length_map] at this;omega
 ·obtain⟨a5,v5⟩:=d4 x H' G' a hv;exact k x H' G' a5 v5
def VR(h:GG f=some b):bootBuiltins f=some (biV b):=by
 unfold GG at h
 repeat (split at h;· (rename_i hf;cases h;subst hf;first | exact PySem.boot_len | decide +kernel | rfl))
 cases h
def CD(xo:bJ X K P C Z)(hf:Z.glob f=.blt)(hb:GG f=some b)(ns:(e::es).all aX=true)(ha:PA X (e::es) (mF K P C cs)):Ok3 X K P C (.Call (.Name f p) (e::es) [] pos) (.bif b cs):=by
 obtain⟨h1,h2,h3,h4⟩:=CC.glob_ok xo hf (λz=>nomatch z);have hm:=xo.blt f h2;have hv:=VR hb;rw[Zj,ZB] at ns
 have hp:PE X (.Call (.Name f p) (e::es) [] pos) (tCB (rBi K b) (mF K P C cs)):=by
  have hc:=aEK xo.keq xo.calm xo.hh xo.rm b
  cases b<;>first
   |exact BL hc h1 hm hv ha h4 h3 (bH ns.1 _ _) (eK ns.2 _ _).1
   |exact LF hc h1 hm hv ha h4 h3 (bH ns.1 _ _) (eK ns.2 _ _).1
 refine jE xo (TE.imp_pe hp λY H Q q=>?_) (λi z=>nomatch z) (λU=>rfl) λ_=>rfl
 obtain⟨U,G,v,U',r,e,k⟩:=q;obtain⟨hs,U1,e1,e⟩:=aG e;obtain⟨e2,rfl⟩:=fG e;refine⟨U,G,hs,U',r,e1,λxs H1 G1 a1 rx=>?_⟩
 cases q1:getAll hs U' with
 |none=>rw[q1] at e2;cases e2
 |some ds =>
  rw[q1] at e2;refine⟨G1,ds,v,a1.rel.sub,rx.getAll a1.rel q1,e2,λz H' hm=>?_⟩;obtain⟨G2,a2,v2⟩:=a1.made hm;exact k z H' G2 a2 v2
end
section
variable{K:Frag}
def rR(h:iU U i=true):∃ds p l,U[i]?=some (.ow (.lst ds) p l):=by
 unfold iU at h;split at h
 ·rename_i d p l e;exact⟨d,p,l,e⟩
 ·cases h
def aN.writeO(r:aN K U Y H G)(h:U[i]?=some (.ow d p l))(hx:Y[i]?=some (some (.ref a)))(hr:fJ K (aO H a ob) G a d') :
  Aft K U Y H G (U.set i (.ow d' p l)) (aO H a ob) G:=by
 obtain⟨b,h1,g,o⟩:=r.ow i d p l h;rw[hx] at h1;cases h1;have hn:H a≠none:=(r.owned ⟨i,d,p,l,h,hx⟩).1
 have r0:aN K (U.set i .un) Y (aO H a ob) G:=by
  have ru:=r.unset i;have nu:=r.unset_not h hx;refine⟨ru.len,λb u e=>?_,ru.sh,λj d' p' l' hj=>?_,ru.inj⟩
  ·have:b≠a:=λz=>by subst z;rw[g] at e;cases e
   rw[aM this];exact ru.sub b u e
  ·obtain⟨b,h3,h4,h5⟩:=ru.ow j d' p' l' hj;have hb:b≠a:=λz=>by subst z;exact nu ⟨j,d',p',l',hj,h3⟩
   exact⟨b,h3,h4,h5.mono (Sm.refl _) λ_ z=>by rw[aM hb];exact z⟩
 refine⟨r0.put_ow hx g hr (r.unset_not h hx),⟨Sm.refl _,λb u e nb=>?_,λb e=>?_,λb e g' _=>g'⟩,iK.set (by rw[h];exact⟨rfl,rfl⟩)⟩
 ·have:b≠a:=λz=>by subst z;exact nb ⟨i,d,p,l,h,hx⟩
  rw[aM this];exact e
 ·by_cases hb:b=a
  ·subst hb;rw[a9] at e;cases e
  ·rwa[aM hb] at e
def aN.write(r:aN K U Y H G)(h:U[i]?=some (.ow d p l))(hx:Y[i]?=some (some (.ref a)))(hr:aB K G ds vs) :
  Aft K U Y H G (U.set i (.ow (.lst ds) p l)) (aO H a (.lst vs)) G:=r.writeO h hx ⟨vs,a9,hr⟩
def aDs(xo:bJ X K P C Z)(hi:Z.slot x=some i)(hl:(apos.endLine==cpos.line)=true)(ns:aX a=true)(ha:Ok3 X K P C a ca) :
  Ok3 X K P C (.Call (.Attribute (.Name x p) ("append":Str) apos) [a] [] cpos) (.app i ca):=by
 have hp:PE X (.Name x p) (oV i):=CC.slot_ok xo hi;have hpa:PA X [a] (mP (tE K P C ca) sY):=i6 ha.v nU (bH ns _ _);have hall:[a].all aX=true:=by rw[Zj,ns];rfl
 refine jE xo (TE.imp_pe (IC PySem.F.plainAttrs_list PySem.F.slot_list_append PySem.F.type_list_append zH hp hpa rfl (by
   rw[ZB,ZB];exact⟨⟨(eK hall _ _).2,rfl⟩,rfl⟩) hl (bH ns _ _) rfl) λY H Q q=>?_) (λi z=>nomatch z) (λU=>rfl) λ_=>rfl
 obtain⟨U,G,v,U',r,e,k⟩:=q;replace e:(if iU U i then _ else none)=_:=e;split at e
 ·rename_i ho;obtain⟨d0,p0,l0,h0⟩:=rR ho;obtain⟨b,hb,g0,o0⟩:=r.ow i _ p0 l0 h0;obtain⟨w,U1,e1,e⟩:=aG e;refine⟨.ref b,hb,.inl ⟨rfl, ?_⟩,U,G,w,U1,r,e1,λy H1 G1 a1 ry=>?_⟩
  ·obtain⟨vs,hv,_⟩:=o0;exact⟨vs,bX.of hv⟩
  ·split at e
   ·rename_i ds p1 h1;split at e
    ·rename_i hz;cases e;obtain⟨G2,a2,r2⟩:=a1.share ry;obtain⟨b',hb',g1,vs,hv,hr⟩:=a2.rel.ow i _ _ _ h1;rw[hb] at hb';cases hb'
     have:=hr.len
     refine⟨b,vs,y,rfl,rfl,hv, ?_, ?_⟩
     ·have:=gW hz
      omega
     ·have a3:=a2.rel.write h1 hb (hr.app (aB.cons r2 aB.nil));exact k _ _ _ (a2.trans a3) (by show aC K G2 .non _;simp[aC])
    ·cases e
   ·cases e
 ·cases e
def aDm(xo:bJ X K P C Z)(hi:Z.slot x=some i)(hl:(apos.endLine==cpos.line)=true)(ns:aX a=true)(ha:Ok3 X K P C a ca) :
  Ok3 X K P C (.Call (.Attribute (.Name x p) ("extend":Str) apos) [a] [] cpos) (.ext i ca):=by
 have hp:PE X (.Name x p) (oV i):=CC.slot_ok xo hi;have hpa:PA X [a] (mP (tE K P C ca) sY):=i6 ha.v nU (bH ns _ _);have hall:[a].all aX=true:=by rw[Zj,ns];rfl
 refine jE xo (TE.imp_pe (IC PySem.F.plainAttrs_list PySem.F.slot_list_extend PySem.F.type_list_extend L6 hp hpa rfl (by
   rw[ZB,ZB];exact⟨⟨(eK hall _ _).2,rfl⟩,rfl⟩) hl (bH ns _ _) rfl) λY H Q q=>?_) (λi z=>nomatch z) (λU=>rfl) λ_=>rfl
 obtain⟨U,G,v,U',r,e,k⟩:=q;replace e:(if iU U i then _ else none)=_:=e;split at e
 ·rename_i ho;obtain⟨d0,p0,l0,h0⟩:=rR ho;obtain⟨b,hb,g0,o0⟩:=r.ow i _ p0 l0 h0;obtain⟨w,U1,e1,e⟩:=aG e;refine⟨.ref b,hb,.inl ⟨rfl, ?_⟩,U,G,w,U1,r,e1,λy H1 G1 a1 ry=>?_⟩
  ·obtain⟨vs,hv,_⟩:=o0;exact⟨vs,bX.of hv⟩
  ·split at e
   ·rename_i ds p1 es h1;split at e
    ·rename_i hz;cases e;obtain⟨c,rfl,gc,⟨zs,hc,hzr⟩,nown,new⟩:=ry;obtain⟨b',hb',g1,vs,hv,hr⟩:=a1.rel.ow i _ _ _ h1;rw[hb] at hb';cases hb';have l1:=hr.len;have l2:=hzr.len;refine⟨b,c,vs,zs,rfl,rfl,hv,hc, ?_, ?_⟩
     ·have:=gW hz
      omega
     ·exact k _ _ _ (a1.trans (a1.rel.write h1 hb (hr.app hzr))) (by show aC K G1 .non _;simp[aC])
    ·cases e
   ·cases e
 ·cases e
def aGV:V->List V->Hp->VK->Prop:=λx vs H Q=>∃l xs i y,x=.ref l/\vs=[.int i,y]/\H l=some (.lst xs)/\0<=i/\i<=1000000/\xs.length<sizeLine/\Q .non (aO H l (.lst (xs.take i.toNat++y::xs.drop i.toNat)))
def MY:MtM X "list.insert" aGV:=by
 intro pins s Y H x vs v us Q I rx rv h;obtain⟨l,xs,i,y,rfl,rfl,hH,h1,h2,hz,q⟩:=h;cases rx;obtain⟨u1,u2,rfl,r1,r2⟩:=rv.two;obtain⟨t,rfl⟩:=r1;obtain⟨z,its,n,r,hl,e⟩:=I.lstM hH;have hf:Builtin.List.listFitsIndex i=true:=fitsIndex_both (by omega) (by omega);refine call_meets PySem.F.slot_list_insert ⟨_,e,rfl⟩ PySem.F.entry_list_insert (PySem.F.args_list_insert_3 _ _ _) (PySem.AutoSeq1.list_insert_list_int_val_1 l its.toArray n i t u2 (by simp[hf]) (by rw[Zi];omega)) ⟨e, ?_⟩;refine⟨.non,_,I.lset (its':=its.take i.toNat++u2::its.drop i.toNat) hH e ?_ ((r.take _).append (.cons r2 (r.drop _))) ?_,rfl,q⟩
 ·have hk:(if i<0 then(i+(its.toArray.size:Int)).toNat else min i.toNat its.toArray.size)=min i.toNat its.length:=by rw[Zp (by omega),Zi]
  show(its.toArray.extract 0 (if i<0 then(i+(its.toArray.size:Int)).toNat else min i.toNat its.toArray.size)).push u2++its.toArray.extract (if i<0 then(i+(its.toArray.size:Int)).toNat else min i.toNat its.toArray.size)=_;rw[hk]
  apply Array.toList_inj.mp
  rcases Nat.le_total i.toNat its.length with h | h
  ·simp[Nat.min_eq_left h];exact zf (by rw[List.length_drop];exact Zq _)
  ·simp[Nat.min_eq_right h,zf h,List.drop_of_length_le h]
 ·have:=List.length_take_le i.toNat xs
  simp only[Za,Zk,List.length_take,List.length_drop];omega
def ZZ(xo:bJ X K P C Z)(hi:Z.slot x=some i)(hl:(apos.endLine==cpos.line)=true)(ns:aX a=true)(ns2:aX b=true)(ha:Ok3 X K P C a ca)(hb:Ok3 X K P C b cb) :
  Ok3 X K P C (.Call (.Attribute (.Name x p) ("insert":Str) apos) [a,b] [] cpos) (.insr i ca cb):=by
 have hp:PE X (.Name x p) (oV i):=CC.slot_ok xo hi;have hpa:PA X [a,b] (mP (tE K P C ca) (mP (tE K P C cb) sY)):=i6 ha.v (i6 hb.v nU (bH ns2 _ _)) (bH ns _ _);have hall:[a,b].all aX=true:=by rw[Zj,Zj,ns,ns2];rfl
 have hall2:[b].all aX=true:=by rw[Zj,ns2];rfl
 refine jE xo (TE.imp_pe (IC PySem.F.plainAttrs_list PySem.F.slot_list_insert PySem.F.type_list_insert MY hp hpa rfl (by
   rw[ZB,ZB];exact⟨⟨(eK hall _ _).2,rfl⟩,rfl⟩) hl (bH ns _ _) (eK hall2 _ _).1) λY H Q q=>?_) (λi z=>nomatch z) (λU=>rfl) λ_=>rfl
 obtain⟨U,G,v,U',r,e,k⟩:=q;replace e:(if iU U i then _ else none)=_:=e;split at e
 ·rename_i ho;obtain⟨d0,p0,l0,h0⟩:=rR ho;obtain⟨c,hc,g0,o0⟩:=r.ow i _ p0 l0 h0;obtain⟨j,U1,e1,e⟩:=aG e;obtain⟨w,U2,e2,e⟩:=aG e;refine⟨.ref c,hc,.inl ⟨rfl, ?_⟩,U,G,j,U1,r,e1,λy H1 G1 a1 ry=>⟨U1,G1,w,U2,a1.rel,e2,λz H2 G2 a2 rz=>?_⟩⟩
  ·obtain⟨vs,hv,_⟩:=o0;exact⟨vs,bX.of hv⟩
  ·split at e
   ·rename_i ds p1 n h1 _;split at e
    ·rename_i hz;cases e;have ry:aC K G1 (.int n) y:=ry;simp only[aC] at ry;subst ry;obtain⟨G3,a3,r3⟩:=(a1.trans a2).share (rz.new_mono λa z=>a1.ext.hx a z);obtain⟨b',hb',g1,vs,hv,hr⟩:=a3.rel.ow i _ _ _ h1;rw[hc] at hb';cases hb'
     have:=hr.len
     refine⟨c,vs,n,z,rfl,rfl,hv,hz.1.1,hz.1.2, ?_, ?_⟩
     ·have:=gW hz.2
      omega
     ·have a4:=a3.rel.write h1 hc ((hr.take n.toNat).app (aB.cons r3 (hr.drop n.toNat)));exact k _ _ _ (a3.trans a4) (by show aC K G3 .non _;simp[aC])
    ·cases e
   ·cases e
 ·cases e
def rY:aO (aO H p a) p b=aO H p b:=by
 funext q
 by_cases h:q=p
 ·subst h;rw[a9,a9]
 ·rw[aM h,aM h,aM h]
def aN.poke(r:aN K U Y H G)(g:G a=none)(n:¬aH U Y a):aN K U Y (aO H a o) G:=by
 refine⟨r.len,λb u e=>?_,r.sh,λj d' p' l' hj=>?_,r.inj⟩
 ·have:b≠a:=λz=>by subst z;rw[g] at e;cases e
  rw[aM this];exact r.sub b u e
 ·obtain⟨b,h3,h4,h5⟩:=r.ow j d' p' l' hj;have hb:b≠a:=λz=>by subst z;exact n ⟨j,d',p',l',hj,h3⟩
  exact⟨b,h3,h4,h5.mono (Sm.refl _) λ_ z=>by rw[aM hb];exact z⟩
theorem Aft.poke(b:Aft K U Y H G U' H' G')(h:H a=none)(g:G' a=none)(n:¬aH U' Y a):Aft K U Y H G U' (aO H' a o) G':=by
 refine⟨b.rel.poke g n,⟨b.ext.gg,λc u e nc=>?_,λc e=>?_,b.ext.gn⟩,b.evo⟩
 ·have:c≠a:=λz=>by subst z;rw[h] at e;cases e
  rw[aM this];exact b.ext.hh c u e nc
 ·by_cases hc:c=a
  ·subst hc;rw[a9] at e;cases e
  ·rw[aM hc] at e;exact b.ext.hx c e
def aCq(xo:bJ X K P C Z){k v:Expr}{cs es:List E}{pos:Pos}(d2:Ok3 X K P C (.Dict [some k] [v] pos) (TK cs es)):Ok3 X K P C (.Dict [some k] [v] pos) (d1C k v cs es):=by
 unfold d1C
 cases q1:tP k with
 |none=>exact d2
 |some a =>
  cases q2:tP v with
  |none=>exact d2
  |some b =>
   obtain⟨_,_,rfl⟩:=HP q1;obtain⟨_,_,rfl⟩:=HP q2;refine jE xo (TE.imp_pe (YF (OG uE uE WU) rfl rfl (by simp) (by simp)) λY H Q q=>?_) (λi z=>nomatch z) (λU=>rfl) λ_=>rfl
   obtain⟨U,G,v,U',r,e,k⟩:=q;cases e;intro p hp;obtain⟨a1,v1⟩:=(Aft.refl r).dct_new (kvs:=[(a,b)]) hp;refine⟨a9,[(Sum.inl a,.int b)],rfl,by simp, ?_⟩;rw[rY];exact k _ _ _ a1 v1
def aCK(xo:bJ X K P C Z){pos:Pos}:Ok3 X K P C (.Dict [] [] pos) d0C:=by
 refine jE xo (TE.imp_pe NU λY H Q q=>?_) (λi z=>nomatch z) (λU=>rfl) λ_=>rfl
 obtain⟨U,G,v,U',r,e,k⟩:=q;cases e;intro p hp;obtain⟨a1,v1⟩:=(Aft.refl r).dct_new (kvs:=[]) hp;exact k _ _ _ a1 v1
def O2(xo:bJ X K P C Z)(hk:∀k c,ks=[some k]->cs=[c]->Ok3 X K P C k c)(hv:∀v c,vs=[v]->es=[c]->Ok3 X K P C v c):Ok3 X K P C (.Dict ks vs pos) (SN ks vs cs es):=by
 cases ks with
 |nil =>
  cases vs with
  |nil=>exact aCK xo
  |cons=>exact aI
 |cons k r =>
  cases r with
  |cons=>exact aI
  |nil =>
   cases k with
   |none=>exact aI
   |some k =>
    cases vs with
    |nil=>exact aI
    |cons v r =>
     cases r with
     |cons=>exact aI
     |nil =>
      have d2:Ok3 X K P C (.Dict [some k] [v] pos) (TK cs es):=aI;exact aCq xo d2
def ZS(xo:XOkB q X K P C Z)(h:HC Z t=some ty):PE X t (tC (O6 ty))/\aX t=true:=by
 cases t<;>simp only[HC,reduceCtorEq] at h;rename_i x pos;split at h
 ·rename_i hg;obtain⟨h1,h2,h3,h4⟩:=CC.glob_ok xo hg (λz=>nomatch z);have hm:=xo.blt x h2;refine⟨?_,rfl⟩;split at h
  ·rename_i hx;cases h;subst hx;exact yC h1 hm (u:=.type "int") (by decide +kernel) rfl
  ·split at h
   ·rename_i hx;cases h;subst hx;exact yC h1 hm (u:=.type "bool") (by decide +kernel) rfl
   ·split at h
    ·rename_i hx;cases h;subst hx;exact yC h1 hm (u:=.type "tuple") (by decide +kernel) rfl
    ·cases h
 ·cases h
def aBi(xo:XOkB q X K P C Z)(hf:Z.glob ("isinstance":Str)=.blt)(ht:HC Z t=some ty)(ns:aX a=true)(ha:Ok3 X K P C a ca) :
  Ok3 X K P C (.Call (.Name ("isinstance":Str) p) [a,t] [] pos) (.isi ca [ty]):=by
 obtain⟨h1,h2,h3,h4⟩:=CC.glob_ok xo hf (λz=>nomatch z);have hm:=xo.blt _ h2;obtain⟨pt,nt⟩:=ZS xo ht;have hpa:PA X [a,t] (mP (tH K P C ca) (mP (tC (O6 ty)) sY)):=i6 ha.h (i6 pt nU (bH nt _ _)) (bH ns _ _);have hall:[t].all aX=true:=by rw[Zj,nt];rfl
 have hp:=BL (p:=p) (pos:=pos) (aB9 xo.keq ty) h1 hm (by decide +kernel) hpa h4 h3 (bH ns _ _) (eK hall _ _).1;refine jE xo (TE.imp_pe hp λY H Q q=>?_) (λi z=>nomatch z) (λU=>rfl) λ_=>rfl
 obtain⟨U,G,v,U',r,e,k⟩:=q;obtain⟨hx,U1,e1,e⟩:=aG e;obtain⟨e2,rfl⟩:=fG e;refine⟨U,G,hx,U',r,e1,λx H1 G1 a1 rx=>?_⟩
 cases q1:hx.get U' with
 |none=>rw[q1] at e2;cases e2
 |some d =>
  rw[q1] at e2;simp only[Option.bind_some,uV] at e2
  cases q2:IK ty d with
  |none=>rw[q2] at e2;cases e2
  |some b =>
   rw[q2] at e2;simp only[Option.bind_some,Option.map_some,Bool.or_false,Option.some.injEq] at e2;subst e2;exact⟨G1,d,x,b,a1.rel.sub,rfl,rx.read a1.rel q1,q2,k _ H1 G1 a1 (by show aC K G1 (.bl _) _;simp[aC])⟩
def HU(h:∀lo hi p,b≠.Slice lo hi none p):xD b:=λo i=>by
 cases b<;>first
  |rfl
  | (rename_i lo hi st p;cases st with
    |none=>exact absurd rfl (h lo hi p)
    |some s=>rfl)
end
section
variable{K:Frag}
theorem uW:∀{ns:List Str} {ds:List D} {vs:List V} {d:D},aB K G ds vs->(ns.zip ds).lookup f=some d->f∈ns/\∃v,(ns.zip vs).lookup f=some v/\aC K G d v
 |[],_,_,_,_,h=>by simp at h
 |n::ns,[],_,_,_,h=>by simp at h
 |n::ns,d0::ds,vs,d,r,h=>by
  simp only[aB] at r;obtain⟨v,r',rfl,h1,h2⟩:=r;rw[List.zip_cons_cons,List.lookup_cons] at h ⊢
  cases q:(f==n) with
  |true =>
   rw[q] at h;cases h;exact⟨by rw[Zy q];simp,v,rfl,h1⟩
  |false =>
   rw[q] at h;obtain⟨z1,v',z2,z3⟩:=uW h2 h;exact⟨Ze _ z1,v',z2,z3⟩
theorem b9.ins{H G:Hp}{c:Str}{ns:List Str}{ds:List D}{x:V}(h:b9 K H G (.ins c ns ds) x):aC K G (.ins c ns ds) x:=by
 rcases h with h | ⟨a,rfl,h⟩
 ·exact h
 ·exact h.elim
def aCO(xo:bJ X K P C Z):Ok3 X K P C (.Attribute (.Name x p) f pos) (.fld (vS Z x) f):=by
 have ha:=E4 xo x p;refine jE xo (TE.imp_pe (aBN ha.h rfl) λY H Q q=>?_) (λi z=>nomatch z) (λU=>rfl) λ_=>rfl
 obtain⟨U,G,v,U',r,e,k⟩:=q;obtain⟨hx,U1,e1,e⟩:=aG e;obtain⟨e3,rfl⟩:=fG e;refine⟨U,G,hx,U',r,e1,λx H1 G1 a1 rx=>?_⟩
 cases q1:hx.get U' with
 |none=>rw[q1] at e3;cases e3
 |some d =>
  rw[q1] at e3;simp only[Option.bind_some] at e3;have hK:=xo.keq;cases d<;>simp only[QL,reduceCtorEq,Option.map_none] at e3
  case ins c ns ds =>
   cases q2:(ns.zip ds).lookup f with
   |none=>rw[q2] at e3;cases e3
   |some d' =>
    rw[q2] at e3;cases e3;have rr:=(rx.read a1.rel q1).ins;simp only[aC] at rr;obtain⟨a,Ca,dx,vs,rfl,h1,h2,h3,h4,h5⟩:=rr;obtain⟨z1,v',z2,z3⟩:=uW h3 q2;exact⟨a,Ca,dx,_,v',rfl,a1.rel.sub _ _ h2,by rw[hK];exact h4.cl,by rw[hK];exact h4.no f z1,z2,k v' H1 G1 a1 z3⟩
def YC(xo:bJ X K P C Z)(hf:Z.glob f=.cls ns)(st:(e::es).all aX=true)(ha:PA X (e::es) (BD K P C cs)):Ok3 X K P C (.Call (.Name f p) (e::es) [] pos) (.make f ns cs):=by
 obtain⟨h1,h2,h3,h4⟩:=CC.glob_ok xo hf (λz=>nomatch z);obtain⟨Ca,fa,fd,ps,hn,hm,M,cf,F,hb⟩:=(xo.cls f ns h2).ex;rw[Zj,ZB] at st;refine jE xo (TE.imp_pe (ZW M F xo.rm h1 hm hb .nil AX ha h3 (bH st.1 _ _) (eK st.2 _ _).1) λY H Q q=>?_) (λi z=>nomatch z) (λU=>rfl) λ_=>rfl
 obtain⟨U,G,v,U',r,e,k⟩:=q;obtain⟨ds,U1,e1,e⟩:=aG e;split at e
 ·rename_i hl;cases e;refine⟨U,G,ds,_,r,e1,λxs H1 G1 a1 rx x dx nx ndx ne=>?_⟩;have el:xs.length=ns.length:=rx.len.trans hl;rw[List.append_nil];refine⟨x,Ca,dx,xs,rfl,el,a9,cf,rfl, ?_⟩;rw[rY];have nx':(aO H1 dx (.own x)) x=none:=by rw[aM (Ne.symm ne)];exact nx
  have a2:=(a1.layH (o:=.own x) ndx).layG (o:=.ins Ca dx (ns.zip xs)) nx';refine k (.ref x) _ _ a2 ?_;show aC K _ (.ins f ns ds) _;simp only[aC];exact⟨x,Ca,dx,xs,rfl,hn,a9,aB.mono (Sm.laid (aV.free a1.rel.sub nx)) ds rx,cf,el.symm⟩
 ·cases e
theorem mO:∀{ns:List Str} {vs:List J},ns.contains f=false->(ns.zip vs).lookup f=none
 |[],_,_=>by simp
 |n::ns,[],_=>by simp
 |n::ns,v::vs,h=>by(rw[List.contains_cons,Bool.or_eq_false_iff] at h;rw[List.zip_cons_cons,List.lookup_cons,h.1];exact mO h.2)
def F0(st:es.all aX=true)(hln:(apos.endLine==pos.line)=true)(hfw:es.length<29)(env:PySem.Env)(hb:attributeBase o m env (eval o env)=eval o env:=by rfl):eval (.Call (.Attribute o m apos) es [] pos) env=(do
   let ov <- eval o env
   standAt apos.atName
   let (f,first) <- holding [ov] (getMethod ov m (do return (<- importBound o env).getD true))
   callWith pos f first (backTo pos (starEach es env)) (backToKw pos (keywordEach [] env))):=by
 rw[arm_eval_Call]
 have hform:methodCallForm (es.length+([]:List Keyword).length) (backTo pos (starEach es env)) (backToKw pos (keywordEach [] env))=true:=by
  unfold methodCallForm;rw[(eK st env pos).2];simp only[Bool.true_and]
  have:(backToKw pos (keywordEach [] env))=[]:=rfl
  rw[this];simp;omega
 have hpos:methodCallPos true o env apos pos=pure pos:=by unfold methodCallPos;simp[hln]
 unfold methodCall;rw[hform];unfold calleeOf;simp only[if_true,hpos,hb];rfl
def X9(xo:bJ X K P C Z)(hi:Z.slot x=some i)(hm:Z.gl (pT m)=.mth tb)(st:es.all aX=true)(hln:(apos.endLine==pos.line)=true)(hfw:es.length<29)(ha:PA X es (mF K P C cs))(hz:es=[]->cs=[]):Ok3 X K P C (.Call (.Attribute (.Name x p) m apos) es [] pos) (.meth i m tb cs):=by
 have hp:=CC.slot_ok xo hi (pos:=p);refine jE xo (λpins s Y H Q I q=>?_) (λi z=>nomatch z) (λU=>rfl) λ_=>rfl
 obtain⟨U,G,v,U',r,e,k⟩:=q;replace e:(match U[i]? with | some (.sh (.ins c ns ds))=>(match fK c ns m tb with | some f=>(cD P C cs U).bind λhs U1=>eI (P f) (C f) (.val (.sh (.ins c ns ds))::hs) U1 | none=>none) | _=>none)=some (.ok v,U'):=e;split at e
 ·rename_i c ns ds hs;split at e
  ·rename_i f hmf;unfold fK at hmf;split at hmf
   ·cases hmf
   ·rename_i hns;obtain⟨Ca,fa,fd,ps,k0,hn,M,F,hr,hb,hcl⟩:=(xo.mth m tb c f hm hmf).ex;obtain⟨x0,hx0,rx0⟩:=r.sh i _ hs;have rx1:=rx0;simp only[aC] at rx0;obtain⟨a,Cb,dx,vs,rfl,h1,h2,h3,h4,h5⟩:=rx0;rw[hn] at h1;cases h1;obtain⟨hd0,U1,e1,e⟩:=aG e;have hK:=xo.keq;have clX:Cls X.K Ca:=by rw[hK];exact h4.cl
    have main:∀t:TA,(∀Y H Q,mF K P C cs Y H Q->t Y H Q)->IS Ca m (NC K (P f).length (C f)) [] (λ_ _ _=>False) (oV i) t Y H Q:=λt ht=>by
     refine⟨.ref a,hx0,a,dx,_,rfl,r.sub _ _ h2,mO (by simpa using hns),ht _ _ _ ⟨U,G,hd0,U1,r,e1,λxs H1 G1 a1 rx=>?_⟩⟩;have rx':c9 K H1 G1 (aH U1 Y) (dS H) Y (.val (.sh (.ins c ns ds))::hd0) (.ref a::xs):=⟨.ref a,xs,rfl,aC.mono a1.ext.gg _ rx1,rx,λd b z=>by cases z⟩
     obtain⟨as,G2,as',d1,d2,d3,_,d4⟩:=pR a1 rx' e;dsimp only;rw[List.append_nil];refine⟨?_,as,G2,v,as',d1,d2,d3,λx H' G' a hv=>?_⟩
     ·have:=d1.len
      rw[List.length_map] at this;omega
     ·obtain⟨a5,v5⟩:=d4 x H' G' a hv;exact k x H' G' a5 v5
    cases es with
    |nil =>
     cases hz rfl;refine N9 hp clX M F hr hb .nil AX (F0 st hln hfw _) pins s Y H Q I (main _ λY' H' Q' z=>?_);obtain⟨U2,G2,hs2,U3,r2,e2,k2⟩:=z;rw[cD] at e2;cases e2;exact k2 [] H' G2 (Aft.refl r2) rfl
    |cons e0 es0 =>
     have st0:=st;rw[Zj,ZB] at st;exact YS hp clX M F hr hb .nil AX ha (bH st.1 _ _) (eK st.2 _ _).1 (F0 st0 hln hfw _) pins s Y H Q I (main _ λ_ _ _ z=>z)
  ·cases e
 ·cases e
end
structure AftS(K:Frag)(U:Env)(Y:St)(H G:Hp)(U':Env)(Y':St)(H' G':Hp):Prop where
 rel:aN K U' Y' H' G'
 ext:Ext (aH U Y) H G H' G'
 own:∀a,aH U' Y' a->aH U Y a\/H a=none
 un:∀i:Nat,U'[i]?=some .un->U[i]?=some .un/\Y'[i]?=Y[i]?
 pin:∀(i:Nat) d l,U[i]?=some (.ow d true l)->Y'[i]?=Y[i]?/\∃d',U'[i]?=some (.ow d' true l)
 len:U'.length=U.length
section
variable{K:Frag}
theorem AftS.refl(r:aN K U Y H G):AftS K U Y H G U Y H G:=⟨r,Ext.refl,λ_ h=>.inl h,λ_ h=>⟨h,rfl⟩,λ_ d _ h=>⟨rfl,d,h⟩,rfl⟩
theorem Aft.s(r:aN K U Y H G)(a:Aft K U Y H G U' H' G'):AftS K U Y H G U' Y H' G':=by
 refine⟨a.rel,a.ext,λx h=>.inl (a.own x h),λi h=>⟨?_,rfl⟩,λi d l h=>⟨rfl, ?_⟩, ?_⟩
 ·have:=a.evo i
  rw[h] at this
  cases e:U[i]? with
  |none=>rw[e] at this;exact this.elim
  |some s=>rw[e] at this;cases s<;>first | rfl | exact this.elim
 ·have:=a.evo i
  rw[h] at this
  cases e:U'[i]? with
  |none=>rw[e] at this;exact this.elim
  |some s =>
   rw[e] at this
   cases s with
   |ow d' p' l'=>obtain⟨rfl,rfl⟩:=this;exact⟨d',rfl⟩
   |sh d'=>exact absurd (show true=false from this) (by simp)
   |_=>exact this.elim
 ·rw[a.rel.len,r.len]
theorem AftS.trans(a:AftS K U Y H G U1 Y1 H1 G1)(b:AftS K U1 Y1 H1 G1 U2 Y2 H2 G2):AftS K U Y H G U2 Y2 H2 G2:=by
 refine⟨b.rel,a.ext.trans a.own b.ext,λx h=>?_,λi h=>?_,λi d l h=>?_,b.len.trans a.len⟩
 ·rcases b.own x h with z | z
  ·exact a.own x z
  ·exact .inr (a.ext.hx x z)
 ·obtain⟨h1,h2⟩:=b.un i h;obtain⟨h3,h4⟩:=a.un i h1;exact⟨h3,h2.trans h4⟩
 ·obtain⟨h1,d',h2⟩:=a.pin i d l h;obtain⟨h3,h4⟩:=b.pin i d' l h2;exact⟨h3.trans h1,h4⟩
def fP(K:Frag)(U:Env)(Y:St)(H G:Hp)(U':Env)(D:Ends):Fl->Prop
 |.nx=>∀Y' H' G',AftS K U Y H G U' Y' H' G'->D.nx Y' H'
 |.bk=>∀Y' H' G',AftS K U Y H G U' Y' H' G'->D.bk Y' H'
 |.ct=>∀Y' H' G',AftS K U Y H G U' Y' H' G'->D.ct Y' H'
 |.rt v=>∀x Y' H' G',AftS K U Y H G U' Y' H' G'->cC K H' G' (aH U' Y') (λa=>aH U Y a\/H a=none) v x->D.rt x H'
 |.ex _=>False
def fP.pre{D:Ends}(a:AftS K U Y H G U1 Y1 H1 G1)(h:fP K U Y H G U' D fl):fP K U1 Y1 H1 G1 U' D fl:=by
 cases fl with
 |nx=>exact λY' H' G' b=>h Y' H' G' (a.trans b)
 |bk=>exact λY' H' G' b=>h Y' H' G' (a.trans b)
 |ct=>exact λY' H' G' b=>h Y' H' G' (a.trans b)
 |rt v=>exact λx Y' H' G' b hv=>h x Y' H' G' (a.trans b) (hv.new_mono λc z=>by
   rcases z with z | z
   ·exact a.own c z
   ·exact .inr (a.ext.hx c z))
 |ex e=>exact h
end
noncomputable def tS(K:Frag)(P:aW)(C:Calls)(W:Nat)(c:S):TS:=λD Y H=>∃(U:Env) (G:Hp) (fl:Fl) (U':Env),aN K U Y H G/\ex P C W c U=some (fl,U')/\fP K U Y H G U' D fl
noncomputable def pO(K:Frag)(P:aW)(C:Calls)(W:Nat)(c:List S):TS:=λD Y H=>∃(U:Env) (G:Hp) (fl:Fl) (U':Env),aN K U Y H G/\exs P C W c U=some (fl,U')/\fP K U Y H G U' D fl
def TS.imp_ps(h:PS X e t)(w:∀D Y H,u D Y H->t D Y H):PS X e u:=λpins s Y H D I q=>h pins s Y H D I (w D Y H q)
def TS.imp_pss(h:gN X e t)(w:∀D Y H,u D Y H->t D Y H):gN X e u:=λpins s Y H D I q=>h pins s Y H D I (w D Y H q)
section
variable{X:Cx}{K:Frag}
def gA{r:aR J}(h:r.flow f=some (fl,U))(n:∀e,fl≠.ex e):∃a U1,r=some (.ok a,U1)/\f a U1=some (fl,U):=by
 unfold aR.flow at h;split at h
 ·cases h
 ·cases h;exact absurd rfl (n _)
 ·exact⟨_,_,rfl,h⟩
def fP.ne{D:Ends}(h:fP K U Y H G U' D fl):∀e,fl≠.ex e:=λe z=>by subst z;exact h
def OJ:gN X [] (pO K P C W []):=TS.imp_pss FV λD Y H hz=>by
 obtain⟨U,G,fl,U',r,e,k⟩:=hz;simp only[exs,Option.some.injEq,Prod.mk.injEq] at e;obtain⟨rfl,rfl⟩:=e;exact k Y H G (AftS.refl r)
def MX{st:Stmt}{gH:List Stmt}(h1:PS X st (tS K P C W c))(h2:gN X gH (pO K P C W cs)):gN X (st::gH) (pO K P C W (c::cs)):=by
 refine TS.imp_pss (B5 h1 h2) λD Y H hz=>?_
 obtain⟨U,G,fl,U',r,e,k⟩:=hz;rw[exs] at e
 cases q:ex P C W c U with
 |none=>rw[q] at e;cases e
 |some y =>
  obtain⟨fl1,U1⟩:=y;rw[q] at e;refine⟨U,G,fl1,U1,r,q, ?_⟩
  cases fl1 with
  |nx=>exact λY1 H1 G1 a1=>⟨U1,G1,fl,U',a1.rel,e,k.pre a1⟩
  |bk=>cases e;exact k
  |ct=>cases e;exact k
  |rt v=>cases e;exact k
  |ex x=>cases e;exact k
def aN.storeR(r:aN K U Y H G)(e:store i v U=some U')(h:cC K H G (aH U Y) new v x) :
  aN K U' (Y.set i (some x)) H G/\(∀a,aH U' (Y.set i (some x)) a->aH U Y a\/new a)/\(∀j:Nat,U'[j]?=some .un->U[j]?=some .un/\(Y.set i (some x))[j]?=Y[j]?) /\
  (∀(j:Nat) d l,U[j]?=some (.ow d true l)->(Y.set i (some x))[j]?=Y[j]?/\∃d',U'[j]?=some (.ow d' true l))/\U'.length=U.length:=by
 have key:∃sl,i<U.length/\U'=U.set i sl/\(∀d l,U[i]?≠some (.ow d true l))/\((∃d,v=.sh d/\sl=.sh d)\/∃d,v=.ow d/\sl=.ow d false false):=by
  unfold store at e;split at e
  ·cases e
  ·cases e
  ·cases e
  ·rename_i s h1 h2 h3;have hnp:∀d l,U[i]?≠some (.ow d true l):=λd l z=>by rw[h3] at z;cases z;exact h1 _ _ rfl
   have hlt:=(Zc.mp h3).1
   cases v with
   |sh d=>cases e;exact⟨_,hlt,rfl,hnp,.inl ⟨d,rfl,rfl⟩⟩
   |ow d=>cases e;exact⟨_,hlt,rfl,hnp,.inr ⟨d,rfl,rfl⟩⟩
   |od d=>cases e
 obtain⟨sl,hi,rfl,np,hs⟩:=key;have his:i<Y.length:=by rw[<- r.len];exact hi
 have hx:(Y.set i (some x))[i]?=some (some x):=zk his;have ne:∀j:Nat,j≠i->(Y.set i (some x))[j]?=Y[j]?:=λj h=>Zf (λz=>h z.symm)
 have oth:∀(j:Nat) s,(U.set i sl)[j]?=some s->(j=i/\s=sl)\/(j≠i/\U[j]?=some s):=λj s h=>by
  rcases cN h with ⟨h1,h2,_⟩ | h
  ·exact .inl ⟨h1,h2⟩
  ·exact .inr h
 refine⟨⟨by rw[zg,zg];exact r.len,r.sub,λj d h1=>?_,λj d p l h1=>?_,λj k d p l d' p' l' a h1 h2 h3 h4=>?_⟩,λa ⟨j,d,p,l,h1,h2⟩=>?_,λj h1=>?_,λj d l h1=>?_,by rw[zg]⟩
 ·rcases oth j _ h1 with ⟨rfl,z⟩ | ⟨nj,z⟩
  ·rcases hs with ⟨d0,rfl,rfl⟩ | ⟨d0,rfl,rfl⟩
   ·cases z;exact⟨x,hx,h⟩
   ·cases z
  ·rw[ne j nj];exact r.sh j d z
 ·rcases oth j _ h1 with ⟨rfl,z⟩ | ⟨nj,z⟩
  ·rcases hs with ⟨d0,rfl,rfl⟩ | ⟨d0,rfl,rfl⟩
   ·cases z
   ·cases z;obtain⟨a,rfl,g,o,_,_⟩:=h;exact⟨a,hx,g,o⟩
  ·rw[ne j nj];exact r.ow j d p l z
 ·rcases oth j _ h1 with ⟨rfl,z⟩ | ⟨nj,z⟩
  ·rcases oth k _ h2 with ⟨rfl,z'⟩ | ⟨nk,z'⟩
   ·rfl
   ·rcases hs with ⟨d0,rfl,rfl⟩ | ⟨d0,rfl,rfl⟩
    ·cases z
    ·obtain⟨b,rfl,g,o,no,_⟩:=h;rw[hx] at h3;cases h3;rw[ne k nk] at h4;exact absurd ⟨k,_,_,_,z',h4⟩ no
  ·rcases oth k _ h2 with ⟨rfl,z'⟩ | ⟨nk,z'⟩
   ·rcases hs with ⟨d0,rfl,rfl⟩ | ⟨d0,rfl,rfl⟩
    ·cases z'
    ·obtain⟨b,rfl,g,o,no,_⟩:=h;rw[hx] at h4;cases h4;rw[ne j nj] at h3;exact absurd ⟨j,_,_,_,z,h3⟩ no
   ·rw[ne j nj] at h3;rw[ne k nk] at h4;exact r.inj _ _ _ _ _ _ _ _ _ z z' h3 h4
 ·rcases oth j _ h1 with ⟨rfl,z⟩ | ⟨nj,z⟩
  ·rcases hs with ⟨d0,rfl,rfl⟩ | ⟨d0,rfl,rfl⟩
   ·cases z
   ·obtain⟨b,rfl,g,o,no,m⟩:=h;rw[hx] at h2;cases h2;exact .inr m
  ·rw[ne j nj] at h2;exact .inl ⟨j,d,p,l,z,h2⟩
 ·rcases oth j _ h1 with ⟨rfl,z⟩ | ⟨nj,z⟩
  ·rcases hs with ⟨d0,rfl,rfl⟩ | ⟨d0,rfl,rfl⟩<;>cases z
  ·exact⟨z,ne j nj⟩
 ·by_cases hj:j=i
  ·subst hj;exact absurd h1 (np d l)
  ·exact⟨ne j hj,d,by rw[Zf (λz=>hj z.symm)];exact h1⟩
theorem Aft.store(r:aN K U Y H G)(a:Aft K U Y H G U1 H1 G1)(e:store i v U1=some U')(h:cC K H1 G1 (aH U1 Y) (dS H) v x):AftS K U Y H G U' (Y.set i (some x)) H1 G1:=by
 obtain⟨h1,h2,h3,h4,h5⟩:=a.rel.storeR e h;have s:=Aft.s r a;refine⟨h1,a.ext,λb z=>?_,λj z=>?_,λj d l z=>?_,h5.trans s.len⟩
 ·rcases h2 b z with z | z
  ·exact s.own b z
  ·exact .inr z
 ·obtain⟨z1,z2⟩:=h3 j z;obtain⟨z3,z4⟩:=s.un j z1;exact⟨z3,z2⟩
 ·obtain⟨_,d',z2⟩:=s.pin j d l z;exact h4 j d' l z2
def aN.store1(r:aN K U Y H G)(e:store i (.sh d) U=some U')(h:aC K G d x):AftS K U Y H G U' (Y.set i (some x)) H G :=
 Aft.store r (Aft.refl r) e h
noncomputable def gB(K:Frag)(one:Bool)(is:List Nat):TG:=λv Y H Q=>∃(U:Env) (G:Hp) (d:D) (U':Env),aN K U Y H G/\aC K G d v/\aT one is d U=some U'/\∀Y',AftS K U Y H G U' Y' H G->Q Y' H
noncomputable def K2(K:Frag)(is:List Nat):FR:=λvs Y H Q=>∃(U:Env) (G:Hp) (ds:List D) (U':Env),aN K U Y H G/\aB K G ds vs/\dY is ds U=some U'/\∀Y',AftS K U Y H G U' Y' H G->Q Y' H
def aCc(h:PG X tg (r6 i)):PG X tg (gB K true [i]):=λpins s Y H v u Q I rv ⟨U,G,d,U',r,hd,e,k⟩ =>
 h pins s Y H v u Q I rv (k _ (r.store1 (by simpa only[aT] using e) hd))
def O0:vQ X [] (K2 K []):=λpins s Y H vs us Q I rv hz=>by
 obtain⟨U,G,ds,U',r,hd,e,k⟩:=hz
 cases ds with
 |nil =>
  simp only[dY,Option.some.injEq] at e;subst e;simp only[aB] at hd;subst hd;exact ZH pins s Y H [] us Q I rv ⟨rfl,k Y (AftS.refl r)⟩
 |cons d ds=>simp[dY] at e
def MZ(h:PG X e (r6 i))(t:vQ X es (K2 K is))(hs:(assignEach (e::es) X.env).map (·.2)=assign e X.env::(assignEach es X.env).map (·.2)):vQ X (e::es) (K2 K (i::is)) :=
 λpins s Y H vs us Q I rv hz=>by
  obtain⟨U,G,ds,U',r,hd,e,k⟩:=hz
  cases ds with
  |nil=>simp[dY] at e
  |cons d ds =>
   simp only[dY] at e
   cases q:store i (.sh d) U with
   |none=>rw[q] at e;cases e
   |some U1 =>
    rw[q] at e;simp only[aB] at hd;obtain⟨v,r',rfl,h1,h2⟩:=hd;have a1:=r.store1 q h1;exact P0 h t hs pins s Y H (v::r') us Q I rv ⟨v,r',rfl,U1,G,ds,U',a1.rel,h2,e,λY' a2=>k Y' (a1.trans a2)⟩
theorem vJ:∀{is:List Nat} {ds:List D} {U U':Env},dY is ds U=some U'->ds.length=is.length
 |[],[],_,_,_=>rfl
 |[],_::_,_,_,e=>by simp[dY] at e
 |_::_,[],_,_,e=>by simp[dY] at e
 |i::is,d::ds,U,U',e=>by
  simp only[dY] at e
  cases q:store i (.sh d) U with
  |none=>rw[q] at e;cases e
  |some U1=>rw[q] at e;simp[vJ e]
def FO(xo:bJ X K P C Z)(t:vQ X es (K2 K is))(hn:(assignEach es X.env).length=is.length)(hst:(assignEach es X.env).findIdx? (·.1)=none):PG X (.Tuple es k0 pos) (gB K false is) :=
 λpins s Y H v u Q I rv hz=>by
  obtain⟨U,G,d,U',r,hd,e,k⟩:=hz
  cases d with
  |tup ds =>
   simp only[aT] at e;simp only[aC] at hd;obtain⟨a,vs,rfl,h1,h2⟩:=hd;refine aAO xo.calm t hn hst pins s Y H (.ref a) u Q I rv ⟨a,vs,rfl, ?_, ?_,U,G,ds,U',r,h2,e,k⟩
   ·rw[xo.keq];exact dE r.sub h1
   ·rw[h2.len];exact vJ e
  |_=>simp only[aT,reduceCtorEq] at e
end
mutual
noncomputable def Z0(x:Str):Stmt->Bool
 |.For _ it body _ _=>(MB it==some x)||rA x body
 |.If _ a b _=>rA x a||rA x b
 |_=>false
noncomputable def rA(x:Str):List Stmt->Bool
 |[]=>false
 |s::r=>Z0 x s||rA x r
end
noncomputable def SR(Z:CC)(it:Expr)(body:List Stmt)(cs:List E):List E:=cs
noncomputable def QE(Z:CC):Expr->S
 |.Call (.Name x _) args [] _=>if args.all aX&&(decide (args≠[])&&decide (args.length<=100)) then(match Z.glob x with | .exc=>.rse x (cT Z args) | .exi=>.rsi x (cT Z args) | _=>.bad) else .bad
 |_=>.bad
noncomputable def JN:List ExceptHandler->Option (Str×Str×List Stmt)
 |[.ExceptHandler (some c) (some n) body _]=>(MB c).map λx=>(x,n,body)
 |_=>none
noncomputable def UC(cb:List S)(hs:List ExceptHandler)(o f:List Stmt):S:=.bad
noncomputable def aGu(Z:CC)(cb:List S)(hs:List ExceptHandler)(o f:List Stmt):S:=UC cb hs o f
noncomputable def aGo(e:Expr)(c:E):S:=.ret c
noncomputable def aD6(Z:CC)(s:Stmt)(r:List Stmt):Option (Nat×Nat×E×E):=none
noncomputable def aGm(o:Option (Nat×Nat×E×E))(c:S)(cs:List S):List S :=
 match o with
 |none=>c::cs
 |some (i,j,ce,cc)=>.scr i j ce cc::cs.drop 3
mutual
noncomputable def cS(Z:CC):Stmt->S
 |.Pass _=>.pass
 |.Break _=>.brk
 |.Continue _=>.cnt
 |.Return (some e) _=>aGo e (cE Z e)
 |.Return none _=>.retN
 |.Expr e _=>if cY e then .expr (cE Z e) else .bad
 |.If c a b _=>.ifs (cE Z c) (mK Z a) (mK Z b)
 |.While c body [] _=>.bad
 |.For tg it body [] _=>match kO Z tg,qP Z it with
  |some (one,is),some (k,its)=>if lA k one then .for is one k (SR Z it body (cT Z its)) (mK Z body) else .bad
  |_,_=>.bad
 |.Assign [.Name x _] e _=>match Z.slotL x with
  |some i=>if cY e||HX e then .asg i (cE Z e) else .bad
  |none=>.bad
 |.Assign [.Tuple ts _ _] e _=>match hX Z ts with
  |some is=>if cY e&&vC e then .asgT is (cE Z e) else .bad
  |none=>.bad
 |.Assign [.Subscript (.Name x _) k _] e _=>match Z.slot x with
  |some i=>if cY e&&C3 k then .set i (cE Z k) (cE Z e) else .bad
  |none=>.bad
 |.AugAssign (.Name x _) .Add e _=>(match Z.slotL x with
  |some i=>if cY e then .bad else .bad
  |none=>.bad)
 |.Raise (some e) none _=>QE Z e
 |.Try body hs o f _=>aGu Z (mK Z body) hs o f
 |_=>.bad
noncomputable def mK(Z:CC):List Stmt->List S
 |[]=>[]
 |s::r=>aGm (aD6 Z s r) (cS Z s) (mK Z r)
end
section
variable{K:Frag}
def BS(h:cY e=true)(t:Option Expr)(line:Nat)(env:PySem.Env):swapsWith e t line env=pure false:=by
 cases e<;>first | rfl | cases h
def lK(h:cY e=true)(t:Expr)(line:Nat)(env:PySem.Env):swapsWithSole [t] e line env=pure false:=BS h _ _ _
def xF{st:Stmt}(h:∀U,ex P C W c U=none):PS X st (tS K P C W c):=λpins s Y H D I hz=>by obtain⟨U,G,fl,U',r,e,k⟩:=hz;rw[h] at e;cases e
def bM{st:Stmt}:PS X st (tS K P C W .bad):=xF λU=>rfl
def QD:PS X (.Pass pos) (tS K P C W .pass):=TS.imp_ps WH λD Y H hz=>by
 obtain⟨U,G,fl,U',r,e,k⟩:=hz;cases e;exact k Y H G (AftS.refl r)
def V4:PS X (.Break pos) (tS K P C W .brk):=TS.imp_ps P2 λD Y H hz=>by
 obtain⟨U,G,fl,U',r,e,k⟩:=hz;cases e;exact k Y H G (AftS.refl r)
def X5:PS X (.Continue pos) (tS K P C W .cnt):=TS.imp_ps EC λD Y H hz=>by
 obtain⟨U,G,fl,U',r,e,k⟩:=hz;cases e;exact k Y H G (AftS.refl r)
def RB(h:Ok3 X K P C e c)(n:cY e=true):PS X (.Expr e pos) (tS K P C W (.expr c)):=by
 refine TS.imp_ps (ZM h.v (BS n _ _ _)) λD Y H hz=>?_
 obtain⟨U,G,fl,U',r,e,k⟩:=hz;obtain⟨v,U1,e1,e2⟩:=gA e k.ne;cases e2;exact⟨U,G,v,_,r,e1,λx H' G' a hv=>k Y H' G' (Aft.s r a)⟩
def RA:PS X (.Return none pos) (tS K P C W .retN):=TS.imp_ps YE λD Y H hz=>by
 obtain⟨U,G,fl,U',r,e,k⟩:=hz;cases e;exact k .non Y H G (AftS.refl r) (by show aC K G .non _;simp[aC])
def aN.give(r:aN K U Y H G)(h:U[i]?=some (.ow d false l))(hx:Y[i]?=some (some (.ref a))) :
  AftS K U Y H G (U.set i .mv) Y H G/\cC K H G (aH (U.set i .mv) Y) (λa=>aH U Y a\/H a=none) (.ow d) (.ref a):=by
 have key:∀(j:Nat) (sl:Sl),(U.set i .mv)[j]?=some sl->(j=i/\sl=.mv)\/(j≠i/\U[j]?=some sl):=λj sl z=>by
  rcases cN z with ⟨e,z,_⟩ | z
  ·exact .inl ⟨e,z⟩
  ·exact .inr z
 obtain⟨b,h1,g,o⟩:=r.ow i d false l h;rw[hx] at h1;cases h1
 have own':∀c,aH (U.set i .mv) Y c->aH U Y c/\c≠a:=λc hz=>by
  obtain⟨j,d',p',l',z,w⟩:=hz;rcases key j _ z with ⟨_,q⟩ | ⟨nj,q⟩
  ·cases q
  ·refine⟨⟨j,d',p',l',q,w⟩,λz=>?_⟩;subst z;exact nj (r.inj _ _ _ _ _ _ _ _ _ q h w hx)
 refine⟨⟨⟨by rw[zg];exact r.len,r.sub,λj d' z=>?_,λj d' p' l' z=>?_,λj k d1 p1 l1 d2 p2 l2 c z1 z2 z3 z4=>?_⟩,Ext.refl,λc z=>.inl (own' c z).1,λj z=>?_,λj d' l' z=>⟨rfl,d', ?_⟩,by rw[zg]⟩,a,rfl,g,o,λz=>(own' a z).2 rfl,.inl ⟨i,d,false,l,h,hx⟩⟩
 ·rcases key j _ z with ⟨_,q⟩ | ⟨nj,q⟩
  ·cases q
  ·exact r.sh j d' q
 ·rcases key j _ z with ⟨_,q⟩ | ⟨nj,q⟩
  ·cases q
  ·exact r.ow j d' p' l' q
 ·rcases key j _ z1 with ⟨_,q⟩ | ⟨nj,q⟩
  ·cases q
  ·rcases key k _ z2 with ⟨_,q'⟩ | ⟨nk,q'⟩
   ·cases q'
   ·exact r.inj _ _ _ _ _ _ _ _ _ q q' z3 z4
 ·rcases key j _ z with ⟨_,q⟩ | ⟨nj,q⟩
  ·cases q
  ·exact⟨q,rfl⟩
 ·have nj:j≠i:=λw=>by subst w;rw[h] at z;cases z
  rw[Zf (λw=>nj w.symm)];exact z
def YU(h:Ok3 X K P C e c):PS X (.Return (some e) pos) (tS K P C W (.ret c)):=by
 by_cases hv:∃i,c=.var i
 ·obtain⟨i,rfl⟩:=hv;refine TS.imp_ps (K6 h.h) λD Y H hz=>?_
  obtain⟨U,G,fl,U',r,e,k⟩:=hz;replace e:(match U[i]? with | some (.ow d false _)=>some (.rt (.ow d),U.set i .mv) | some (.sh d)=>some (.rt (.sh d),U) | _=>none)=some (fl,U'):=e;split at e
  ·rename_i d l hd;cases e;obtain⟨a,h1,g,o⟩:=r.ow i d false l hd;refine⟨U,G,.slot i,U,r,by simp[hd,hd,Sl.get,CI.hd],λx H' G' a1 hx=>?_⟩;obtain⟨a',h1',g',o'⟩:=a1.rel.ow i d false l hd;have hx:Y[i]?=some (some x):=hx;rw[hx] at h1';cases h1';obtain⟨s1,v1⟩:=a1.rel.give hd hx;exact(k.pre (Aft.s r a1)) _ Y H' G' s1 v1
  ·rename_i d hd;cases e;obtain⟨v,h1,h2⟩:=r.sh i d hd;refine⟨U,G,.slot i,U,r,by simp[hd,Sl.get,CI.hd],λx H' G' a1 hx=>?_⟩;obtain⟨v',h1',h2'⟩:=a1.rel.sh i d hd;have hx:Y[i]?=some (some x):=hx;rw[hx] at h1';cases h1';exact k x Y H' G' (Aft.s r a1) h2'
  ·cases e
 ·refine TS.imp_ps (K6 h.v) λD Y H hz=>?_
  obtain⟨U,G,fl,U',r,e,k⟩:=hz
  have e':(ev P C false c U).flow (λv U1=>some (.rt v,U1))=some (fl,U'):=by
   cases c<;>first | exact absurd ⟨_,rfl⟩ hv | exact e
  obtain⟨v,U1,e1,e2⟩:=gA e' k.ne;cases e2;exact⟨U,G,v,_,r,e1,λx H' G' a hv=>k x Y H' G' (Aft.s r a) (hv.new_mono λa z=>.inr z)⟩
def aCP(hc:Ok3 X K P C c cc)(ha:gN X a (pO K P C W ca))(hb:gN X b (pO K P C W cb)):PS X (.If c a b pos) (tS K P C W (.ifs cc ca cb)):=by
 refine TS.imp_ps (aEg hc.t ha hb) λD Y H hz=>?_
 obtain⟨U,G,fl,U',r,e,k⟩:=hz;obtain⟨v,U1,e1,e2⟩:=gA e k.ne;split at e2
 ·refine⟨U,G,true,U1,r,e1,λH1 G1 a1=>?_⟩;refine B4 ?_;exact⟨U1,G1,fl,U',a1.rel,e2,k.pre (Aft.s r a1)⟩
 ·refine⟨U,G,false,U1,r,e1,λH1 G1 a1=>?_⟩;refine C9 ?_;exact⟨U1,G1,fl,U',a1.rel,e2,k.pre (Aft.s r a1)⟩
 ·cases e2
def uB(xo:XOkB qq X K P C Z)(hfn:∀x,Z.isLoc x=true->X.fn x=true\/X.env.scope.names.lookup x=some .local)(h:Z.slotL x=some i):PG X (.Name x pos) (r6 i):=by
 unfold CC.slotL at h;split at h
 ·rename_i hl
  have hN:X.N[i]?=some x:=by
   unfold CC.slot at h;split at h
   ·cases h
   ·split at h
    ·rw[xo.neq];exact mN h
    ·cases h
  refine FN (by rw[xo.neq];exact xo.nd) hN ?_ (hfn x hl);unfold L2.yS;rw[xo.nm];unfold CC.isLoc at hl;rw[Bool.or_eq_true,ZB] at hl;rcases hl with hl | hl
  ·exact .inl (Zy hl)
  ·exact .inr (Zy hl.2)
 ·cases h
def X1(xo:XOkB qq X K P C Z)(hfn:∀x,Z.isLoc x=true->X.fn x=true\/X.env.scope.names.lookup x=some .local)(hi:Z.slotL x=some i)(h:Ok3 X K P C e c)(n:cY e=true):PS X (.Assign [.Name x p] e pos) (tS K P C W (.asg i c)):=by
 refine TS.imp_ps (vR h.v (uB xo hfn hi) (lK n _ _ _)) λD Y H hz=>?_
 obtain⟨U,G,fl,U',r,e,k⟩:=hz;obtain⟨v,U1,e1,e2⟩:=gA e k.ne;unfold kL at e2
 cases q:store i v U1 with
 |none=>rw[q] at e2;cases e2
 |some U2 =>
  rw[q] at e2;cases e2;exact⟨U,G,v,U1,r,e1,λx H' G' a hv=>k _ H' G' (Aft.store r a q hv)⟩
theorem oJ(xo:bJ X K P C Z)(hfn:∀x,Z.isLoc x=true->X.fn x=true\/X.env.scope.names.lookup x=some .local):∀{ts:List Expr} {is:List Nat},hX Z ts=some is->vQ X ts (K2 K is)/\(assignEach ts X.env).length=is.length/\(assignEach ts X.env).findIdx? (·.1)=none/\ts.length=is.length
 |[],is,h=>by cases h;exact⟨O0,rfl,rfl,rfl⟩
 |e::es,is,h=>by
  simp only[hX] at h
  cases q:DC Z e with
  |none=>rw[q] at h;cases h
  |some i =>
   rw[q] at h;simp only[Option.bind_some] at h
   cases q2:hX Z es with
   |none=>rw[q2] at h;cases h
   |some is' =>
    rw[q2] at h;cases h;obtain⟨h1,h2,h3,h4⟩:=oJ xo hfn q2;cases e<;>simp only[DC,reduceCtorEq] at q;refine⟨MZ (uB xo hfn q) h1 rfl, ?_, ?_,by simp[h4]⟩
    ·show(assignEach es X.env).length+1=is'.length+1;rw[h2]
    ·show((false,_)::assignEach es X.env).findIdx? (·.1)=none;rw[List.findIdx?_cons,h3];rfl
def DA(h:vC e=true)(env:PySem.Env):swappedStores [.Tuple ts k0 p] e env=pure none:=by
 cases e<;>first | rfl | cases h
def OO(xo:bJ X K P C Z)(hfn:∀x,Z.isLoc x=true->X.fn x=true\/X.env.scope.names.lookup x=some .local)(hi:hX Z ts=some is)(h:Ok3 X K P C e c)(n:cY e=true)(n2:vC e=true):PS X (.Assign [.Tuple ts k0 p] e pos) (tS K P C W (.asgT is c)):=by
 obtain⟨h1,h2,h3,h4⟩:=oJ xo hfn hi;refine TS.imp_ps (vR h.v (FO xo h1 h2 h3) (lK n _ _ _) (DA n2 _)) λD Y H hz=>?_
 obtain⟨U,G,fl,U',r,e,k⟩:=hz;obtain⟨v,U1,e1,e2⟩:=gA e k.ne;unfold kL at e2
 cases q:aT false is v.d U1 with
 |none=>rw[q] at e2;cases e2
 |some U2 =>
  rw[q] at e2;cases e2;refine⟨U,G,v,U1,r,e1,λx H' G' a hv=>?_⟩;obtain⟨G2,a2,r2⟩:=a.share hv;exact⟨U1,G2,v.d,_,a2.rel,r2,q,λY' b=>k Y' H' G2 ((Aft.s r a2).trans b)⟩
def UX(h:x9 U i=true):∃kvs p l,U[i]?=some (.ow (.dct kvs) p l):=by
 unfold x9 at h;split at h
 ·rename_i d p l e;exact⟨d,p,l,e⟩
 ·cases h
noncomputable def aEm(K:Frag):GI:=λ_ _ _ _ _=>False
noncomputable def aEG:GI:=λo i v H Q=>∃a H',o=.ref a/\BW H a i v H'/\Q H'
def OX(hu:X.A.units+11<cLine):PF X (λo i v H Q=>S9 o i v H Q\/aEG o i v H Q\/aEm X.K o i v H Q):=by
 intro pins s Y H o i v ov iv u Q I ro ri rv h;rcases h with h | ⟨a,H',rfl,g,q⟩ | h
 ·exact P4 pins s Y H o i v ov iv u Q I ro ri rv h
 ·cases ro;exact M8 (by omega) I g ri rv λs' I'=>⟨H',I',q⟩
 ·exact h.elim
def NY:jQ (lV kvs) (Sum.inl n) (.int m)=lV (fN kvs n m):=by
 unfold jQ fN lV
 have h1:((kvs.map λp=>((Sum.inl p.1:cV),V.int p.2)).any λkv=>decide (kv.1=Sum.inl n))=kvs.any λp=>decide (p.1=n):=by
  rw[List.any_map];congr 1
  funext p
  show decide ((Sum.inl p.1:cV)=Sum.inl n)=_;by_cases h:p.1=n
  ·rw[Zn h,Zn (by rw[h])]
  ·rw[Zm h,Zm λz=>h (Sum.inl.inj z)]
 rw[h1];split
 ·rw[List.map_map,List.map_map];refine List.map_congr_left λp _=>?_
  show(if(Sum.inl p.1:cV)=Sum.inl n then((Sum.inl p.1:cV),V.int m) else(Sum.inl p.1,V.int p.2))=_;by_cases h:p.1=n
  ·rw[Zo (by rw[h])];show _=(λq:Int×Int=>((Sum.inl q.1:cV),V.int q.2)) (if p.1=n then(p.1,m) else p);rw[Zo h]
  ·rw[Zp λz=>h (Sum.inl.inj z)];show _=(λq:Int×Int=>((Sum.inl q.1:cV),V.int q.2)) (if p.1=n then(p.1,m) else p);rw[Zp h]
 ·rw[List.map_append];rfl
def U7(xo:bJ X K P C Z)(hi:Z.slot x=some i)(h:Ok3 X K P C e c)(hj:Ok3 X K P C j cj)(n:cY e=true)
  (ha:∀v,assign (.Subscript (.Name x p) j p2) X.env v=(do
   let ov <- holding [v] (eval (.Name x p) X.env)
   let iv <- holding [v,ov] (eval j X.env)
   standAt p2
   holding [v,ov,iv] (setItem ov iv v)
   release [v,ov,iv] [])):PS X (.Assign [.Subscript (.Name x p) j p2] e pos) (tS K P C W (.set i cj c)):=by
 have hp:PE X (.Name x p) (oV i):=CC.slot_ok xo hi;refine TS.imp_ps (vR h.v (aAU hp hj.v (xo.keq ▸ OX (by have:=xo.hu;omega)) ha) (lK n _ _ _)) λD Y H hz=>?_
 obtain⟨U,G,fl,U',r,e,k⟩:=hz;obtain⟨v,U1,e1,e2⟩:=gA e k.ne;split at e2
 ·rename_i ho;obtain⟨w,U2,e3,e4⟩:=gA e2 k.ne;split at e4
  ·rename_i ds p1 nn hs hw;unfold kL at e4
   cases q:kS ds.length nn with
   |none=>rw[q] at e4;cases e4
   |some m =>
    rw[q] at e4;cases e4;refine⟨U,G,v,U1,r,e1,λy H1 G1 a1 hv=>?_⟩;obtain⟨d0,p0,l0,h0⟩:=rR ho;obtain⟨b,hb,g0,o0⟩:=a1.rel.ow i _ p0 l0 h0;refine⟨.ref b,hb,U1,G1,w,U2,a1.rel,e3,λz H2 G2 a2 hz=>?_⟩;have hv2:=hv.wait a2.ext λa z=>.inl (a2.own a z)
    obtain⟨G3,a3,r3⟩:=(a1.trans a2).share hv2;obtain⟨b',hb',g1,vs,hvs,hr⟩:=a3.rel.ow i _ _ _ hs;rw[hb] at hb';cases hb';have hzi:=hz.readR;rw[hw] at hzi;cases hzi.int;have a4:=a3.rel.write hs hb (hr.set r3 m);exact .inl ⟨b,vs,nn,m,rfl,rfl,hvs,by rw[hr.len];exact q,k Y _ _ (Aft.s r (a3.trans a4))⟩
  ·cases e4
 ·split at e2
  ·rename_i ho;obtain⟨w,U2,e3,e4⟩:=gA e2 k.ne;split at e4
   ·rename_i kvs p1 n m hs;split at e4
    ·rename_i hz;cases e4;refine⟨U,G,_,U1,r,e1,λy H1 G1 a1 hv=>?_⟩;obtain⟨d0,p0,l0,h0⟩:=UX ho;obtain⟨b,hb,g0,o0⟩:=a1.rel.ow i _ p0 l0 h0;refine⟨.ref b,hb,U1,G1,_,U2,a1.rel,e3,λz H2 G2 a2 hz2=>?_⟩;have hv:aC K G1 (.int m) y:=hv;have hz2:aC K G2 (.int n) z:=hz2;simp only[aC] at hv hz2;subst hv hz2;obtain⟨b',hb',g1,hvs⟩:=a2.rel.ow i _ _ _ hs;rw[hb] at hb';cases hb';have hvs:H2 b=some (.dK (lV kvs)):=hvs;have a4:=a2.rel.writeO (ob:=.dK (lV (fN kvs n m))) (d':=.dct (fN kvs n m)) hs hb a9;refine .inr (.inl ⟨b,_,rfl,BW.k (k:=Sum.inl n) hvs ?_, ?_⟩)
     ·have:=gW hz
      unfold lV;rw[List.length_map];omega
     ·rw[NY];exact k Y _ _ (Aft.s r ((a1.trans a2).trans a4))
    ·cases e4
   ·cases e4
  ·cases e2
end
section
variable{X:Cx}{K:Frag}{P:aW}{C:Calls}{W:Nat}{Z:CC}
def kE(r:aN K U Y H G):aN K (aK o U) Y H G/\∀a,aH (aK o U) Y a->aH U Y a:=by
 cases o with
 |none=>exact⟨r,λ_ z=>z⟩
 |some i=>exact⟨r.unset i,λ_ z=>z.unset⟩
def iL(r:aN K U1 Y H1 G1)(ho:∀i,o=some i->∃d p l,U1[i]?=some (.ow d p l))(e:cQ o U1 Uf=some U')(a:AftS K (aK o U1) Y H1 G1 Uf Yf Hf Gf) :
  AftS K U1 Y H1 G1 U' Yf Hf Gf/\∀c,aH U' Yf c->aH Uf Yf c\/(aH U1 Y c/\¬aH (aK o U1) Y c):=by
 cases o with
 |none =>
  simp only[cQ,Option.some.injEq] at e;subst e;exact⟨a,λ_ z=>.inl z⟩
 |some i =>
  obtain⟨d,p,l,hi⟩:=ho i rfl;obtain⟨b,hb,g,ob⟩:=r.ow i d p l hi;have hob:aH U1 Y b:=⟨i,d,p,l,hi,hb⟩
  have nob:¬aH (U1.set i .un) Y b:=r.unset_not hi hb;have hne:H1 b≠none:=(r.owned hob).1;simp only[cQ] at e;split at e
  ·rename_i sl hf hs;rw[hi] at hs;cases hs;cases e;obtain⟨hu1,hu2⟩:=a.un i hf;have hx:Yf[i]?=some (some (.ref b)):=hu2.trans hb;have gb:Gf b=none:=a.ext.gn b hne g nob;have of:fJ K Hf Gf b d:=ob.mono a.ext.gg λo' h'=>a.ext.hh b o' h' nob
   have nf:¬aH Uf Yf b:=λz=>by
    rcases a.own b z with z | z
    ·exact nob z
    ·exact hne z
   have rf:aN K (Uf.set i (.ow d p l)) Yf Hf Gf:=(a.rel.unset i).put_ow hx gb of λz=>nf z.unset
   have own':∀c,aH (Uf.set i (.ow d p l)) Yf c->c=b\/aH Uf Yf c:=λc z=>by
    rcases z.put_ow hx with z | z
    ·exact .inl z
    ·exact .inr z.unset
   refine⟨⟨rf,a.ext.weaken λc z=>z.unset,λc z=>?_,λj z=>?_,λj d' l' z=>?_,by rw[zg,a.len];exact zg⟩,λc z=>?_⟩
   ·rcases own' c z with rfl | z
    ·exact .inl hob
    ·rcases a.own c z with z | z
     ·exact .inl z.unset
     ·exact .inr z
   ·rcases cN z with ⟨_,w,_⟩ | ⟨nj,w⟩
    ·cases w
    ·obtain⟨w1,w2⟩:=a.un j w;have w1':(U1.set i .un)[j]?=some .un:=w1;rw[Zf (λq=>nj q.symm)] at w1';exact⟨w1',w2⟩
   ·by_cases hj:j=i
    ·subst hj;rw[hi] at z;cases z;refine⟨hu2,d, ?_⟩;rw[zk (Zc.mp hf).1]
    ·have z':(aK (some i) U1)[j]?=some (.ow d' true l'):=by
      show(U1.set i .un)[j]?=_;rw[Zf (λq=>hj q.symm)];exact z
     obtain⟨w1,d2,w2⟩:=a.pin j d' l' z';exact⟨w1,d2,by rw[Zf (λq=>hj q.symm)];exact w2⟩
   ·rcases own' c z with rfl | z
    ·exact .inr ⟨hob,nob⟩
    ·exact .inl z
  ·cases e
def fP.restore{D:Ends}(r:aN K U1 Y H1 G1)(ho:∀i,o=some i->∃d p l,U1[i]?=some (.ow d p l))(e:cQ o U1 Uf=some U')(k:fP K U1 Y H1 G1 U' D fl) :
  fP K (aK o U1) Y H1 G1 Uf D fl:=by
 cases fl with
 |nx=>exact λY' H' G' b=>k Y' H' G' (iL r ho e b).1
 |bk=>exact λY' H' G' b=>k Y' H' G' (iL r ho e b).1
 |ct=>exact λY' H' G' b=>k Y' H' G' (iL r ho e b).1
 |rt v =>
  refine λx Y' H' G' b hv=>?_
  obtain⟨b1,b2⟩:=iL r ho e b;refine k x Y' H' G' b1 ?_
  cases v with
  |sh d=>exact hv
  |ow d =>
   obtain⟨c,rfl,g,oo,n,m⟩:=hv;refine⟨c,rfl,g,oo,λz=>?_, ?_⟩
   ·rcases b2 c z with z | ⟨z1,z2⟩
    ·exact n z
    ·rcases m with m | m
     ·exact z2 m
     ·exact(r.owned z1).1 m
   ·rcases m with m | m
    ·exact .inl ((kE r).2 c m)
    ·exact .inr m
  |od d =>
   obtain⟨c,rfl,g,oo,n,m,vs,hvs,hr⟩:=hv
   have key:∀c,¬aH Uf Y' c->(aH (aK o U1) Y c\/H1 c=none)->¬aH U' Y' c/\(aH U1 Y c\/H1 c=none):=λc n m=>by
    refine⟨λz=>?_, ?_⟩
    ·rcases b2 c z with z | ⟨z1,z2⟩
     ·exact n z
     ·rcases m with m | m
      ·exact z2 m
      ·exact(r.owned z1).1 m
    ·rcases m with m | m
     ·exact .inl ((kE r).2 c m)
     ·exact .inr m
   exact⟨c,rfl,g,oo,(key c n m).1,(key c n m).2,vs,hvs,λx hx=>let ⟨b,ws,h1,h2,h3,h4,h5,h6⟩:=hr x hx;⟨b,ws,h1,h2,h3,(key b h4 h5).1,(key b h4 h5).2,h6⟩⟩
 |ex x=>exact k
def jL(K:Frag)(P:aW)(C:Calls)(W:Nat)(one:Bool)(tg:List Nat)(cb:List S)(U0:Env)(Y0:St)(H0 G0:Hp)(fl:Fl)(Uf:Env)(ds:List D)(i:Nat):St->Hp->Prop:=λY H =>
 ∃U G,AftS K U0 Y0 H0 G0 U Y H G/\cB (aT one tg) (exs P C W cb) (ds.drop i) U=some (fl,Uf)
def qD(hk:fP K U0 Y0 H0 G0 Uf D0 fl)(hd:ds[i]?=some d)(hx:aC K G0 d x)
  (h:jL K P C W one tg cb U0 Y0 H0 G0 fl Uf ds i Y H) :
  gB K one tg x Y H λY2 H2=>pO K P C W cb { D0 with nx:=jL K P C W one tg cb U0 Y0 H0 G0 fl Uf ds (i+1),ct:=jL K P C W one tg cb U0 Y0 H0 G0 fl Uf ds (i+1),bk:=D0.nx } Y2 H2:=by
 obtain⟨U,G,a,e⟩:=h;have hl:i<ds.length:=(Zc.mp hd).1
 have ed:ds.drop i=d::ds.drop (i+1):=by(rw[List.drop_eq_getElem_cons hl];congr 1;rw[Zb hl] at hd;exact Option.some.inj hd)
 rw[ed] at e;simp only[cB] at e
 cases q:aT one tg d U with
 |none=>rw[q] at e;cases e
 |some U1 =>
  rw[q] at e;simp only at e;refine⟨U,G,d,U1,a.rel,aC.mono a.ext.gg d hx,q,λY1 a1=>?_⟩;have a01:=a.trans a1
  cases q2:exs P C W cb U1 with
  |none=>rw[q2] at e;cases e
  |some y =>
   obtain⟨fl1,U2⟩:=y;rw[q2] at e;refine⟨U1,G,fl1,U2,a1.rel,q2, ?_⟩
   cases fl1 with
   |nx=>exact λY2 H2 G2 a2=>⟨U2,G2,a01.trans a2,e⟩
   |ct=>exact λY2 H2 G2 a2=>⟨U2,G2,a01.trans a2,e⟩
   |bk=>cases e;exact λY2 H2 G2 a2=>hk Y2 H2 G2 (a01.trans a2)
   |rt v=>cases e;exact hk.pre a01
   |ex x=>cases e;exact hk
def HV(hk:fP K U0 Y0 H0 G0 Uf D0 fl)(hd:ds[i]?=some d)
  (h:∃U G,AftS K U0 Y0 H0 G0 U Y H G/\aC K G d x/\cB (aT one tg) (exs P C W cb) (ds.drop i) U=some (fl,Uf)) :
  gB K one tg x Y H λY2 H2=>pO K P C W cb { D0 with nx:=jL K P C W one tg cb U0 Y0 H0 G0 fl Uf ds (i+1),ct:=jL K P C W one tg cb U0 Y0 H0 G0 fl Uf ds (i+1),bk:=D0.nx } Y2 H2:=by
 obtain⟨U,G,a,hx,e⟩:=h;have hl:i<ds.length:=(Zc.mp hd).1
 have ed:ds.drop i=d::ds.drop (i+1):=by(rw[List.drop_eq_getElem_cons hl];congr 1;rw[Zb hl] at hd;exact Option.some.inj hd)
 rw[ed] at e;simp only[cB] at e
 cases q:aT one tg d U with
 |none=>rw[q] at e;cases e
 |some U1 =>
  rw[q] at e;simp only at e;refine⟨U,G,d,U1,a.rel,hx,q,λY1 a1=>?_⟩;have a01:=a.trans a1
  cases q2:exs P C W cb U1 with
  |none=>rw[q2] at e;cases e
  |some y =>
   obtain⟨fl1,U2⟩:=y;rw[q2] at e;refine⟨U1,G,fl1,U2,a1.rel,q2, ?_⟩
   cases fl1 with
   |nx=>exact λY2 H2 G2 a2=>⟨U2,G2,a01.trans a2,e⟩
   |ct=>exact λY2 H2 G2 a2=>⟨U2,G2,a01.trans a2,e⟩
   |bk=>cases e;exact λY2 H2 G2 a2=>hk Y2 H2 G2 (a01.trans a2)
   |rt v=>cases e;exact hk.pre a01
   |ex x=>cases e;exact hk
def P9{lo:Int}{g:TG}{tb:TS}{D:Ends}(Pv:Nat->St->Hp->Prop)(h0:Pv 0 Y H)(hl:∀i Y H,i<=xs.length->Pv i Y H->bX K H a xs)
  (hs:∀i y p Y H,xs[i]?=some y->H p=none->Pv i Y H->g (.ref p) Y (aO H p (.tup [.int (lo+(i:Int)),y])) λY2 H2=>tb { D with nx:=Pv (i+1),ct:=Pv (i+1),bk:=D.nx } Y2 H2) (hd:∀Y H,Pv xs.length Y H->D.nx Y H) :
  ∃W:Nat->Nat->St->Hp->Prop,(∃m,W 0 m Y H)/\∀i m Y H,W i m Y H ->
   ((nQ K a lo).stop i H/\D.nx Y H)\/((nQ K a lo).go i H/\∃N:St->Hp->Prop,(∀Y' H',N Y' H'->∃m',m'<m/\W (i+1) m' Y' H')/\∀x H',(nQ K a lo).yld i H x H'->g x Y H' λY2 H2=>tb { D with nx:=N,ct:=N,bk:=D.nx } Y2 H2):=by
 refine⟨λi m Y H=>m=xs.length-i/\i<=xs.length/\Pv i Y H,⟨xs.length,by simp,Nat.zero_le _,h0⟩, ?_⟩
 rintro i m Y H ⟨rfl,hi,p⟩
 have q:=hl i Y H hi p;by_cases hlt:i<xs.length
 ·refine .inr ⟨⟨xs,xs[i],q,by simp[hlt]⟩,Pv (i+1),λY' H' p'=>⟨xs.length-(i+1),by omega,rfl,hlt,p'⟩,λx H' y=>?_⟩;obtain⟨p0,y0,hn,rfl,rfl,hy⟩:=y;exact hs i y0 p0 Y H (hy xs q) hn p
 ·have e:i=xs.length:=by omega
  subst e;exact .inl ⟨⟨xs,q,Zq _⟩,hd Y H p⟩
def fI{lo:Int}:(bZ lo ds).length=ds.length:=by unfold bZ;simp
def mT{lo:Int}{i:Nat}(h:ds[i]?=some d):(bZ lo ds)[i]?=some (.tup [.int (lo+(i:Int)),d]):=by
 have hl:i<ds.length:=(Zc.mp h).1;unfold bZ;rw[Zh,List.getElem?_range hl,Option.map_some,List.getD_eq_getElem?_getD,h];rfl
def DT(hg:G p=none)(h:aC K G d y):aC K (aO G p (.tup [.int i,y])) (.tup [.int i,d]) (.ref p):=by
 simp only[aC];exact⟨p,_,rfl,dC.of a9,aB.cons (by simp[aC]) (aB.cons (aC.mono (Sm.laid hg) d h) aB.nil)⟩
def oE(hk:fP K U0 Y0 H0 G0 Uf D0 fl)(h:jL K P C W one tg cb U0 Y0 H0 G0 fl Uf ds ds.length Y H):D0.nx Y H:=by
 obtain⟨U,G,a,e⟩:=h;rw[List.drop_length] at e;simp only[cB,Option.some.injEq,Prod.mk.injEq] at e;obtain⟨rfl,rfl⟩:=e;exact hk Y H G a
def jP(K:Frag)(U:Env)(Y:St)(H G:Hp)(a:Addr)(vs:List V):Prop:=bX K G a vs\/(H a=some (.lst vs)/\G a=none/\¬aH U Y a)
def jP.now(h:jP K U Y H G a vs)(b:AftS K U Y H G U' Y' H' G'):bX K H' a vs:=by
 rcases h with h | ⟨h1,h2,h3⟩
 ·exact b.rel.sub.seq (b.ext.gg.seq h)
 ·exact bX.of (b.ext.hh a _ h1 h3)
def FHw(K:Frag)(P:aW)(C:Calls)(k0:ItK)(its:List E)(Y:St)(H:Hp)(R:It->Hp->Prop):Prop:=∃(U:Env) (G:Hp) (hs:List Hd) (U1:Env) (ds:List D) (o:Option Nat),aN K U Y H G/\cD P C its U=some (.ok hs,U1)/\aD k0 hs U1=some (ds,o) /\
   ∀H1 G1,Aft K U Y H G U1 H1 G1->(∀i,o=some i->∃d p l,U1[i]?=some (.ow d p l)) ->
    (∀a vs,jP K (aK o U1) Y H1 G1 a vs->aB K G1 ds vs->R (nS K a) H1)/\(∀a vs,dC K G1 a vs->aB K G1 ds vs->R (nY K a) H1)/\(∀(lo:Int) (n:Nat),ds=(List.range n).map (λ(j:Nat)=>D.int (lo+(j:Int)))->R (mD lo n) H1)/\(∀a vs ds0 lo,ds=bZ lo ds0->jP K (aK o U1) Y H1 G1 a vs->aB K G1 ds0 vs->R (nQ K a lo) H1)
def aBC(po:PassesOwn (model X.prog X.w) X.A X.env X.xe)(xo:bJ X K P C Z)(hg:PG X tg (gB K one is))(hb:gN X body (pO K P C W cb))
  (hs:∀x,foldedSetIterable it X.env x=pure x) (hi:PI X tg it wi)
  (hw:∀Y H (R:It->Hp->Prop),FHw K P C k0 its Y H R->wi Y H R) :
  PS X (.For tg it body [] pos) (tS K P C W (.for is one k0 its cb)):=by
 refine TS.imp_ps (aAS po xo.calm hi hg hb hs) λD Y H hz=>?_
 obtain⟨U,G,fl,U',r,e,k⟩:=hz;obtain⟨hs,U1,e1,e2⟩:=gA e k.ne
 cases q:aD k0 hs U1 with
 |none=>rw[q] at e2;cases e2
 |some y =>
  obtain⟨ds,o⟩:=y;rw[q] at e2;simp only at e2
  cases q2:cB (aT one is) (exs P C W cb) ds (aK o U1) with
  |none=>rw[q2] at e2;cases e2
  |some y =>
   obtain⟨fl1,Uf⟩:=y;rw[q2] at e2;simp only[cJ.restore] at e2
   cases q3:cQ o U1 Uf with
   |none=>rw[q3] at e2;cases e2
   |some U2 =>
    rw[q3] at e2;cases e2;refine hw Y H _ ⟨U,G,hs,U1,ds,o,r,e1,q,λH1 G1 a1 ho=>?_⟩;have k1:fP K (aK o U1) Y H1 G1 Uf D fl:=fP.restore a1.rel ho q3 (k.pre (Aft.s r a1));have p0:jL K P C W one is cb (aK o U1) Y H1 G1 fl Uf ds 0 Y H1:=⟨aK o U1,G1,AftS.refl (kE a1.rel).1,q2⟩
    refine⟨λa vs hsrc hr=>?_,λa vs ht hr=>?_,λlo n hds=>?_,λa vs ds0 lo hds hsrc hr=>?_⟩
    ·refine OF (xs:=vs) (jL K P C W one is cb (aK o U1) Y H1 G1 fl Uf ds) p0 (λi Y2 H2 _ ⟨U2,G2,b,_⟩=>hsrc.now b) (λi x Y2 H2 hx hp=>?_) (λY2 H2 hp=>?_)
     ·have hl:i<ds.length:=by rw[<- hr.len];exact(Zc.mp hx).1
      obtain⟨x',h1,h2⟩:=hr.get (Zb hl);rw[hx] at h1;cases h1;exact qD k1 (Zb hl) h2 hp
     ·rw[hr.len] at hp;exact oE k1 hp
    ·refine V3 (xs:=vs) (jL K P C W one is cb (aK o U1) Y H1 G1 fl Uf ds) p0 (λi Y2 H2 _ ⟨U2,G2,b,_⟩=>dE b.rel.sub (dE b.ext.gg ht)) (λi x Y2 H2 hx hp=>?_) (λY2 H2 hp=>?_)
     ·have hl:i<ds.length:=by rw[<- hr.len];exact(Zc.mp hx).1
      obtain⟨x',h1,h2⟩:=hr.get (Zb hl);rw[hx] at h1;cases h1;exact qD k1 (Zb hl) h2 hp
     ·rw[hr.len] at hp;exact oE k1 hp
    ·have hlen:ds.length=n:=by rw[hds];simp
     refine NH (jL K P C W one is cb (aK o U1) Y H1 G1 fl Uf ds) p0 (λi Y2 H2 hi hp=>?_) (λY2 H2 hp=>?_)
     ·have hd:ds[i]?=some (.int (lo+(i:Int))):=by rw[hds];simp[hi]
      exact qD k1 hd (by simp[aC]) hp
     ·rw[<- hlen] at hp;exact oE k1 hp
    ·subst hds;refine P9 (xs:=vs) (jL K P C W one is cb (aK o U1) Y H1 G1 fl Uf (bZ lo ds0)) p0 (λi Y2 H2 _ ⟨U2,G2,b,_⟩=>hsrc.now b) (λi y p Y2 H2 hx hn hp=>?_) (λY2 H2 hp=>?_)
     ·have hl:i<ds0.length:=by rw[<- hr.len];exact(Zc.mp hx).1
      obtain⟨x',h1,h2⟩:=hr.get (Zb hl);rw[hx] at h1;cases h1;obtain⟨U2,G2,b,e2⟩:=hp;have b2:=b.trans (Aft.s b.rel ((Aft.refl b.rel).layG (o:=.tup [.int (lo+(i:Int)),y]) hn));exact HV k1 (mT (Zb hl)) ⟨U2,_,b2,DT (aV.free b.rel.sub hn) (aC.mono b.ext.gg _ h2),e2⟩
     ·rw[hr.len,<- fI] at hp;exact oE k1 hp
end
section
variable{X:Cx}{K:Frag}
def PI.or(h:PI X tg it w)(h':PI X tg it w'):PI X tg it (λY H R=>w Y H R\/w' Y H R):=λpins s Y H R I q=>by
 rcases q with q | q
 ·exact h pins s Y H R I q
 ·exact h' pins s Y H R I q
def AR(e:cD P C [c] U=some (.ok hs,U1)):∃h,hs=[h]/\hd c (ev P C false c U) U=some (.ok h,U1):=by
 rw[cD] at e;obtain⟨h,U2,e1,e2⟩:=aG e;rw[cD] at e2;simp only[aR.bind] at e2;cases e2;exact⟨h,rfl,e1⟩
def TQ(hK:X.K=K)(Y:St)(H:Hp)(R:It->Hp->Prop) (q:∃(U:Env) (G:Hp) (hs:List Hd) (U1:Env) (ds:List D) (o:Option Nat),aN K U Y H G/\cD P C [c] U=some (.ok hs,U1)/\aD .of hs U1=some (ds,o) /\
   ∀H1 G1,Aft K U Y H G U1 H1 G1->(∀i,o=some i->∃d p l,U1[i]?=some (.ow d p l)) ->
    (∀a vs,jP K (aK o U1) Y H1 G1 a vs->aB K G1 ds vs->R (nS K a) H1)/\(∀a vs,dC K G1 a vs->aB K G1 ds vs->R (nY K a) H1)/\(∀(lo:Int) (n:Nat),ds=(List.range n).map (λ(j:Nat)=>D.int (lo+(j:Int)))->R (mD lo n) H1)/\(∀a vs ds0 lo,ds=bZ lo ds0->jP K (aK o U1) Y H1 G1 a vs->aB K G1 ds0 vs->R (nQ K a lo) H1)) :
  TX X.K (tH K P C c) Y H R\/aC2 X.K (tH K P C c) Y H R:=by
 obtain⟨U,G,hs,U1,ds,o,r,e,ei,k⟩:=q;obtain⟨h,rfl,e1⟩:=AR e;rw[hK]
 cases h with
 |slot i =>
  (unfold aD at ei;dsimp only at ei)
  split at ei
  ·rename_i ds' p l hi;cases ei;refine .inl ⟨U,G,.slot i,U1,r,e1,λx H1 G1 a1 hx=>?_⟩;have hx:Y[i]?=some (some x):=hx;obtain⟨b,h1,g,vs,hv,hr⟩:=a1.rel.ow i _ _ _ hi;rw[hx] at h1;cases h1;exact⟨b,rfl,⟨vs,bX.of hv⟩,(k H1 G1 a1 λj z=>by cases z;exact⟨_,_,_,hi⟩).1 b vs (.inr ⟨hv,g,a1.rel.unset_not hi hx⟩) hr⟩
  ·rename_i ds' hi;cases ei;refine .inl ⟨U,G,.slot i,U1,r,e1,λx H1 G1 a1 hx=>?_⟩;have hx:Y[i]?=some (some x):=hx;obtain⟨v,h1,h2⟩:=a1.rel.sh i _ hi;rw[hx] at h1;cases h1;simp only[aC] at h2;obtain⟨b,vs,rfl,h3,h4⟩:=h2;exact⟨b,rfl,⟨vs,a1.rel.sub.seq h3⟩,(k H1 G1 a1 λj z=>by cases z).1 b vs (.inl h3) h4⟩
  ·rename_i ds' hi;cases ei;refine .inr ⟨U,G,.slot i,U1,r,e1,λx H1 G1 a1 hx=>?_⟩;have hx:Y[i]?=some (some x):=hx;obtain⟨v,h1,h2⟩:=a1.rel.sh i _ hi;rw[hx] at h1;cases h1;simp only[aC] at h2;obtain⟨b,vs,rfl,h3,h4⟩:=h2;exact⟨b,rfl,⟨vs,dE a1.rel.sub h3⟩,(k H1 G1 a1 λj z=>by cases z).2.1 b vs h3 h4⟩
  ·cases ei
 |val v =>
  (unfold aD at ei;dsimp only at ei)
  split at ei
  ·rename_i ds' hd;cases ei;refine .inl ⟨U,G,.val v,U1,r,e1,λx H1 G1 a1 hx=>?_⟩
   cases v with
   |sh d =>
    simp only[RV.d] at hd;subst hd;have hx:aC K G1 (.lst ds) x:=hx;simp only[aC] at hx;obtain⟨b,vs,rfl,h3,h4⟩:=hx;exact⟨b,rfl,⟨vs,a1.rel.sub.seq h3⟩,(k H1 G1 a1 λj z=>by cases z).1 b vs (.inl h3) h4⟩
   |ow d =>
    simp only[RV.d] at hd;subst hd;obtain⟨b,rfl,g,⟨vs,hv,hr⟩,n,m⟩:=hx;exact⟨b,rfl,⟨vs,bX.of hv⟩,(k H1 G1 a1 λj z=>by cases z).1 b vs (.inr ⟨hv,g,n⟩) hr⟩
   |od d=>exact hx.elim
  ·rename_i ds' hd;cases ei;refine .inr ⟨U,G,.val v,U1,r,e1,λx H1 G1 a1 hx=>?_⟩
   cases v with
   |sh d =>
    simp only[RV.d] at hd;subst hd;have hx:aC K G1 (.tup ds) x:=hx;simp only[aC] at hx;obtain⟨b,vs,rfl,h3,h4⟩:=hx;exact⟨b,rfl,⟨vs,dE a1.rel.sub h3⟩,(k H1 G1 a1 λj z=>by cases z).2.1 b vs h3 h4⟩
   |ow d =>
    simp only[RV.d] at hd;subst hd;obtain⟨b,rfl,g,o,n,m⟩:=hx;exact o.elim
   |od d=>exact hx.elim
  ·cases ei
def EX(Y:St)(H:Hp)(R:It->Hp->Prop) (q:∃(U:Env) (G:Hp) (hs:List Hd) (U1:Env) (ds:List D) (o:Option Nat),aN K U Y H G/\cD P C [c] U=some (.ok hs,U1)/\aD .rng hs U1=some (ds,o) /\
   ∀H1 G1,Aft K U Y H G U1 H1 G1->(∀i,o=some i->∃d p l,U1[i]?=some (.ow d p l)) ->
    (∀a vs,jP K (aK o U1) Y H1 G1 a vs->aB K G1 ds vs->R (nS K a) H1)/\(∀a vs,dC K G1 a vs->aB K G1 ds vs->R (nY K a) H1)/\(∀(lo:Int) (n:Nat),ds=(List.range n).map (λ(j:Nat)=>D.int (lo+(j:Int)))->R (mD lo n) H1)/\(∀a vs ds0 lo,ds=bZ lo ds0->jP K (aK o U1) Y H1 G1 a vs->aB K G1 ds0 vs->R (nQ K a lo) H1)) :
  SE (mF K P C [c]) Y H R:=by
 obtain⟨U,G,hs,U1,ds,o,r,e,ei,k⟩:=q;refine⟨U,G,hs,U1,r,e,λxs H1 G1 a1 hx=>?_⟩;obtain⟨h,rfl,e1⟩:=AR e;obtain⟨x,r',rfl,h1,h2,_⟩:=hx;cases (show r'=[] from h2)
 (unfold aD at ei;dsimp only at ei)
 split at ei
 ·rename_i n hn;split at ei
  ·rename_i hb;cases ei;cases (h1.read a1.rel hn).int;refine⟨n,rfl,by omega,by omega,(k H1 G1 a1 λj z=>by cases z).2.2.1 0 n.toNat ?_⟩;congr 1
   funext j
   rw[Int.zero_add]
  ·cases ei
 ·cases ei
def FE(Y:St)(H:Hp)(R:It->Hp->Prop) (q:∃(U:Env) (G:Hp) (hs:List Hd) (U1:Env) (ds:List D) (o:Option Nat),aN K U Y H G/\cD P C [c,c2] U=some (.ok hs,U1)/\aD .rng hs U1=some (ds,o) /\
   ∀H1 G1,Aft K U Y H G U1 H1 G1->(∀i,o=some i->∃d p l,U1[i]?=some (.ow d p l)) ->
    (∀a vs,jP K (aK o U1) Y H1 G1 a vs->aB K G1 ds vs->R (nS K a) H1)/\(∀a vs,dC K G1 a vs->aB K G1 ds vs->R (nY K a) H1)/\(∀(lo:Int) (n:Nat),ds=(List.range n).map (λ(j:Nat)=>D.int (lo+(j:Int)))->R (mD lo n) H1)/\(∀a vs ds0 lo,ds=bZ lo ds0->jP K (aK o U1) Y H1 G1 a vs->aB K G1 ds0 vs->R (nQ K a lo) H1)) :
  TR (mF K P C [c,c2]) Y H R:=by
 obtain⟨U,G,hs,U1,ds,o,r,e,ei,k⟩:=q;refine⟨U,G,hs,U1,r,e,λxs H1 G1 a1 hx=>?_⟩;rw[cD] at e;obtain⟨h,U2,e1,e2⟩:=aG e;obtain⟨hs',U3,e3,e4⟩:=aG e2;obtain⟨h',rfl,e5⟩:=AR e3;cases e4;obtain⟨x,r',rfl,h1,h2,_⟩:=hx;obtain⟨y,r'',rfl,h3,h4,_⟩:=h2;cases (show r''=[] from h4)
 (unfold aD at ei;dsimp only at ei)
 split at ei
 ·rename_i m n hm hn;split at ei
  ·rename_i hb;cases ei;cases (h1.read a1.rel hm).int;cases (h3.read a1.rel hn).int;exact⟨m,n,rfl,by omega,(k H1 G1 a1 λj z=>by cases z).2.2.1 m (n-m).toNat rfl⟩
  ·cases ei
 ·cases ei
def wG(hK:X.K=K){lo:Int}(Y:St)(H:Hp)(R:It->Hp->Prop) (q:∃(U:Env) (G:Hp) (hs:List Hd) (U1:Env) (ds:List D) (o:Option Nat),aN K U Y H G/\cD P C [c] U=some (.ok hs,U1)/\aD (.enum lo) hs U1=some (ds,o) /\
   ∀H1 G1,Aft K U Y H G U1 H1 G1->(∀i,o=some i->∃d p l,U1[i]?=some (.ow d p l)) ->
    (∀a vs,jP K (aK o U1) Y H1 G1 a vs->aB K G1 ds vs->R (nS K a) H1)/\(∀a vs,dC K G1 a vs->aB K G1 ds vs->R (nY K a) H1)/\(∀(lo:Int) (n:Nat),ds=(List.range n).map (λ(j:Nat)=>D.int (lo+(j:Int)))->R (mD lo n) H1)/\(∀a vs ds0 lo,ds=bZ lo ds0->jP K (aK o U1) Y H1 G1 a vs->aB K G1 ds0 vs->R (nQ K a lo) H1)) :
  HW X.K lo (mF K P C [c]) Y H R:=by
 obtain⟨U,G,hs,U1,ds,o,r,e,ei,k⟩:=q;rw[hK];refine⟨U,G,hs,U1,r,e,λxs H1 G1 a1 hxs=>?_⟩;obtain⟨h,rfl,e1⟩:=AR e;obtain⟨x,r',rfl,hx,h2,_⟩:=hxs;cases (show r'=[] from h2)
 cases h with
 |slot i =>
  (unfold aD at ei;dsimp only at ei)
  have hx:Y[i]?=some (some x):=hx;split at ei
  ·rename_i ds' p l hi;cases ei;obtain⟨b,h1,g,vs,hv,hr⟩:=a1.rel.ow i _ _ _ hi;rw[hx] at h1;cases h1;exact⟨b,rfl,⟨vs,bX.of hv⟩,(k H1 G1 a1 λj z=>by cases z;exact⟨_,_,_,hi⟩).2.2.2 b vs _ lo rfl (.inr ⟨hv,g,a1.rel.unset_not hi hx⟩) hr⟩
  ·rename_i ds' hi;cases ei;obtain⟨v,h1,h2⟩:=a1.rel.sh i _ hi;rw[hx] at h1;cases h1;simp only[aC] at h2;obtain⟨b,vs,rfl,h3,h4⟩:=h2;exact⟨b,rfl,⟨vs,a1.rel.sub.seq h3⟩,(k H1 G1 a1 λj z=>by cases z).2.2.2 b vs _ lo rfl (.inl h3) h4⟩
  ·cases ei
 |val v =>
  (unfold aD at ei;dsimp only at ei)
  split at ei
  ·rename_i ds' hd;cases ei
   cases v with
   |sh d =>
    simp only[RV.d] at hd;subst hd;have hx:aC K G1 (.lst ds') x:=hx;simp only[aC] at hx;obtain⟨b,vs,rfl,h3,h4⟩:=hx;exact⟨b,rfl,⟨vs,a1.rel.sub.seq h3⟩,(k H1 G1 a1 λj z=>by cases z).2.2.2 b vs _ lo rfl (.inl h3) h4⟩
   |ow d =>
    simp only[RV.d] at hd;subst hd;obtain⟨b,rfl,g,⟨vs,hv,hr⟩,n,m⟩:=hx;exact⟨b,rfl,⟨vs,bX.of hv⟩,(k H1 G1 a1 λj z=>by cases z).2.2.2 b vs _ lo rfl (.inr ⟨hv,g,n⟩) hr⟩
   |od d=>exact hx.elim
  ·cases ei
def yO(h:vK e=true)(env:PySem.Env):∀x,foldedSetIterable e env x=pure x:=λx=>by
 cases e<;>first | rfl | cases h
def F2(xo:bJ X K P C Z)(hfn:∀x,Z.isLoc x=true->X.fn x=true\/X.env.scope.names.lookup x=some .local)(h:kO Z tg=some (one,is)):PG X tg (gB K one is):=by
 cases tg<;>simp only[kO,reduceCtorEq] at h
 ·rename_i x pos
  cases q:Z.slotL x with
  |none=>rw[q] at h;cases h
  |some i=>rw[q] at h;cases h;exact aCc (uB xo hfn q)
 ·rename_i es k0 pos
  cases q:hX Z es with
  |none=>rw[q] at h;cases h
  |some is' =>
   rw[q] at h;cases h;obtain⟨h1,h2,h3,h4⟩:=oJ xo hfn q;exact FO xo h1 h2 h3
end
section
variable{K:Frag}{Y Y':St}{H G H' G':Hp}
def nO(h:(as++List.replicate n Sl.un)[i]?=some s):(as[i]?=some s)\/(as.length<=i/\s=.un):=by
 by_cases hl:i<as.length
 ·rw[List.getElem?_append_left hl] at h;exact .inl h
 ·rw[List.getElem?_append_right (by omega),List.getElem?_replicate] at h;split at h
  ·cases h;exact .inr ⟨by omega,rfl⟩
  ·cases h
def qJ(h:i<vs.length):(L2.b8 N vs)[i]?=(vs.map some)[i]?:=by
 unfold L2.b8;rw[List.getElem?_append_left (by rw[List.length_map];exact h)]
def aN.pad(r:aN K as (vs.map some) H G)(hn:N.length=as.length+n):aN K (as++List.replicate n .un) (L2.b8 N vs) H G/\∀a,aH (as++List.replicate n .un) (L2.b8 N vs) a->aH as (vs.map some) a:=by
 have hl:as.length=vs.length:=by have:=r.len;rwa[List.length_map] at this
 have st:∀i:Nat,i<as.length->(L2.b8 N vs)[i]?=(vs.map some)[i]?:=λi h=>qJ (by omega)
 have lt:∀{i:Nat} {s:Sl},as[i]?=some s->i<as.length:=λh=>(Zc.mp h).1
 refine⟨⟨by unfold L2.b8;simp;omega,r.sub,λi d h=>?_,λi d p l h=>?_,λi j d p l d' p' l' a h1 h2 h3 h4=>?_⟩,λa ⟨i,d,p,l,h1,h2⟩=>?_⟩
 ·rcases nO h with h | ⟨_,h⟩
  ·rw[st i (lt h)];exact r.sh i d h
  ·cases h
 ·rcases nO h with h | ⟨_,h⟩
  ·rw[st i (lt h)];exact r.ow i d p l h
  ·cases h
 ·rcases nO h1 with h1 | ⟨_,h1⟩
  ·rcases nO h2 with h2 | ⟨_,h2⟩
   ·rw[st i (lt h1)] at h3;rw[st j (lt h2)] at h4;exact r.inj _ _ _ _ _ _ _ _ _ h1 h2 h3 h4
   ·cases h2
  ·cases h1
 ·rcases nO h1 with h1 | ⟨_,h1⟩
  ·rw[st i (lt h1)] at h2;exact⟨i,d,p,l,h1,h2⟩
  ·cases h1
theorem l5:∀{as:List Sl} {U:Env} (i:Nat),as.length<=U.length->(back as U)[i]?=(as[i]?).bind λa=>match a with | .ow _ _ _=>U[i]? | a=>some a
 |[],U,i,_=>by cases U<;>simp[back]
 |a::as,[],i,h=>by simp at h
 |a::as,b::U,i,h=>by
  have ih:=λj=>l5 (U:=U) j (by simpa using h)
  cases i with
  |zero=>cases a<;>simp[back]
  |succ i=>cases a<;>simp[back,ih i]
def tM(r:aN K as (vs.map some) H G)(hp:as.all k7=true)(hn:N.length=as.length+n)
  (a:AftS K (as++List.replicate n .un) (L2.b8 N vs) H G U' Y' H' G'):Aft K as (vs.map some) H G (back as U') H' G'/\∀c,aH (back as U') (vs.map some) c->aH U' Y' c:=by
 have hl:as.length=vs.length:=by have:=r.len;rwa[List.length_map] at this
 have lt:∀{i:Nat} {s:Sl},as[i]?=some s->i<as.length:=λh=>(Zc.mp h).1
 have st:∀i:Nat,i<as.length->(L2.b8 N vs)[i]?=(vs.map some)[i]?:=λi h=>qJ (by omega)
 have hlen:as.length<=U'.length:=by rw[a.len,Za];omega
 have at0:∀{i:Nat} {s:Sl},as[i]?=some s->(as++List.replicate n .un)[i]?=some s:=λh=>by rw[List.getElem?_append_left (lt h)];exact h
 have pin:∀(i:Nat) d p l,as[i]?=some (.ow d p l)->p=true/\Y'[i]?=(vs.map some)[i]?/\∃d',U'[i]?=some (.ow d' true l):=λi d p l h=>by(have h1:=List.all_eq_true.mp hp _ (zj h);simp only[k7] at h1;subst h1;obtain⟨h2,d',h3⟩:=a.pin i d l (at0 h);exact⟨rfl,h2.trans (st i (lt h)),d',h3⟩)
 have oth:∀{i:Nat} {s:Sl},(back as U')[i]?=some s->(∃d d' l,as[i]?=some (.ow d true l)/\s=.ow d' true l/\U'[i]?=some s/\Y'[i]?=(vs.map some)[i]?)\/(as[i]?=some s/\∀d p l,s≠.ow d p l):=λ{i s} h=>by
  rw[l5 i hlen] at h
  cases e:as[i]? with
  |none=>rw[e] at h;cases h
  |some b =>
   rw[e] at h
   cases b with
   |ow d p l =>
    obtain⟨rfl,h1,d',h2⟩:=pin i d p l e;simp only[Option.bind_some] at h;rw[h2] at h;cases h;exact .inl ⟨d,d',l,rfl,rfl,h2,h1⟩
   |un=>cases h;exact .inr ⟨rfl,λd p l z=>nomatch z⟩
   |mv=>cases h;exact .inr ⟨rfl,λd p l z=>nomatch z⟩
   |sh d=>cases h;exact .inr ⟨rfl,λd p l z=>nomatch z⟩
 have blen:(back as U').length=as.length:=by
  apply Nat.le_antisymm
  ·refine Nat.le_of_not_lt λz=>?_
   have:=l5 (U:=U') as.length hlen
   rw[Zb z,List.getElem?_eq_none (Zq _)] at this;cases this
  ·refine Nat.le_of_not_lt λz=>?_
   have h1:=l5 (U:=U') (back as U').length hlen;rw[List.getElem?_eq_none (Zq _),Zb z] at h1
   cases e:as[(back as U').length] with
   |ow d p l =>
    have e':as[(back as U').length]?=some (.ow d p l):=by rw[Zb z,e]
    obtain⟨_,_,d',h2⟩:=pin _ d p l e';rw[e] at h1;simp only[Option.bind_some] at h1;rw[h2] at h1;cases h1
   |un=>rw[e] at h1;cases h1
   |mv=>rw[e] at h1;cases h1
   |sh d=>rw[e] at h1;cases h1
 refine⟨⟨⟨by rw[blen];exact r.len,a.rel.sub,λi d h=>?_,λi d p l h=>?_,λi j d p l d' p' l' c h1 h2 h3 h4=>?_⟩,a.ext.weaken λc z=>(r.pad hn).2 c z,λi=>?_⟩,λc ⟨i,d,p,l,h1,h2⟩=>?_⟩
 ·rcases oth h with ⟨_,_,_,_,z,_,_⟩ | ⟨z,_⟩
  ·cases z
  ·obtain⟨v,h1,h2⟩:=r.sh i d z;exact⟨v,h1,aC.mono a.ext.gg d h2⟩
 ·rcases oth h with ⟨d0,d',l',h1,h2,h3,h4⟩ | ⟨_,z⟩
  ·rw[<- h4];exact a.rel.ow i d p l h3
  ·exact absurd rfl (z d p l)
 ·rcases oth h1 with ⟨_,_,_,_,_,z3,z4⟩ | ⟨_,z⟩
  ·rcases oth h2 with ⟨_,_,_,_,_,w3,w4⟩ | ⟨_,w⟩
   ·rw[<- z4] at h3;rw[<- w4] at h4;exact a.rel.inj _ _ _ _ _ _ _ _ _ z3 w3 h3 h4
   ·exact absurd rfl (w _ _ _)
  ·exact absurd rfl (z _ _ _)
 ·rw[l5 i hlen]
  cases e:as[i]? with
  |none=>trivial
  |some b =>
   cases b with
   |ow d p l =>
    obtain⟨rfl,_,d',h2⟩:=pin i d p l e;simp only[Option.bind_some];rw[h2];exact⟨rfl,rfl⟩
   |un=>trivial
   |mv=>trivial
   |sh d=>trivial
 ·rcases oth h1 with ⟨_,_,_,_,_,z3,z4⟩ | ⟨_,z⟩
  ·rw[<- z4] at h2;exact⟨i,d,p,l,z3,h2⟩
  ·exact absurd rfl (z _ _ _)
end
end CI
namespace L2
open PySem PySem.Spec PyProof.Rows
theorem d9[BEq J][LawfulBEq J]:∀{l:List (J×N)} {x:J} {k:N},l.lookup x=some k->(x,k)∈l
 |[],x,k,h=>by simp at h
 | (y,k')::r,x,k,h=>by
  rw[List.lookup_cons] at h;split at h
  ·rename_i e;have e:=Zy e;subst e;cases h;exact zh
  ·exact Ze _ (d9 h)
def ZT(h:∀p∈scope.names,p.2=.free->∃c,env.cells.lookup p.1=some c) :
  ∃cl,closureFor scope env=pure cl/\(∀x c,cl.lookup x=some c->env.cells.lookup x=some c)/\∀p∈scope.names,p.2=.free->∃c,cl.lookup p.1=some c:=by
 have key:∀(names:List (Str×NameKind)) (acc:List (Str×Addr)),(∀p∈names,p.2=.free->∃c,env.cells.lookup p.1=some c)->(∀x c,acc.lookup x=some c->env.cells.lookup x=some c) ->
   ∃cl,(forIn names acc λ(p:Str×NameKind) (cs:List (Str×Addr))=>(if(p.2==NameKind.free)=true then do let a <- cellOf env p.1;pure (ForInStep.yield ((p.1,a)::cs)) else pure (ForInStep.yield cs):Sem _))=pure cl /\
    (∀x c,cl.lookup x=some c->env.cells.lookup x=some c)/\(∀p∈names,p.2=.free->∃c,cl.lookup p.1=some c)/\∀x c,acc.lookup x=some c->∃c',cl.lookup x=some c':=by
  intro names
  induction names with
  |nil=>intro acc _ h2;exact⟨acc,by simp,h2,λp hp=>(nomatch hp),λx c e=>⟨c,e⟩⟩
  |cons p r ih =>
   intro acc h1 h2;by_cases hp:p.2=.free
   ·obtain⟨c,hc⟩:=h1 p zh hp;have e:cellOf env p.1=pure c:=by unfold cellOf;rw[hc]
    obtain⟨cl,q1,q2,q3,q4⟩:=ih ((p.1,c)::acc) (λq hq=>h1 q (Ze _ hq)) (λx c' z=>by
     rw[List.lookup_cons] at z;split at z
     ·rename_i w;rw[Zy w,hc];exact z
     ·exact h2 x c' z)
    refine⟨cl, ?_,q2,λq hq hf=>?_,λx c' z=>?_⟩
    ·rw[List.forIn_cons];have hb:(p.2==NameKind.free)=true:=by rw[hp];rfl
     rw[Zo hb,e];simp only[pure_bind];exact q1
    ·rcases List.mem_cons.mp hq with w | w
     ·subst w;exact q4 q.1 c (by rw[List.lookup_cons];simp)
     ·exact q3 q w hf
    ·by_cases w:x=p.1
     ·subst w;exact q4 p.1 c (by rw[List.lookup_cons];simp)
     ·refine q4 x c' ?_;rw[List.lookup_cons]
      have:(x==p.1)=false:=beq_eq_false_iff_ne.mpr w
      rw[this];exact z
   ·obtain⟨cl,q1,q2,q3,q4⟩:=ih acc (λq hq=>h1 q (Ze _ hq)) h2;refine⟨cl, ?_,q2,λq hq hf=>?_,q4⟩
    ·rw[List.forIn_cons];have hb:¬(p.2==NameKind.free)=true:=by simpa using hp
     rw[Zp hb];simp only[pure_bind];exact q1
    ·rcases List.mem_cons.mp hq with w | w
     ·subst w;exact absurd hf hp
     ·exact q3 q w hf
 obtain⟨cl,q1,q2,q3,_⟩:=key scope.names [] h (λx c e=>by simp at e);refine⟨cl, ?_,q2,q3⟩;unfold closureFor
 have:(forIn scope.names ([]:List (Str×Addr)) λ(x:Str×NameKind) (r:List (Str×Addr))=>(match x with | (name,kind)=>if(kind==NameKind.free)=true then do let a <- cellOf env name;pure (ForInStep.yield ((name,a)::r)) else pure (ForInStep.yield r):Sem _))=pure cl:=q1
 simp only[this,pure_bind,bind_pure]
 first | rfl | (rw[this];rfl) | skip
theorem nB{env:PySem.Env}:∀{names:List (Str×NameKind)} {x:Str} {k':NameKind},
  (names.map λ(n,k)=>if(k==NameKind.free&&env.scope.kind==.function&&env.kindOf n==some .cell) then(n,NameKind.cell) else(n,k)).lookup x=some k'->∃k,names.lookup x=some k/\(k'=k\/(k=.free/\k'=.cell))
 |[],x,k',h=>by simp at h
 | (n,k)::r,x,k',h=>by
  have ih:=@nB env r x k';have h':List.lookup x ((if(k==NameKind.free&&env.scope.kind==.function&&env.kindOf n==some .cell)=true then(n,NameKind.cell) else(n,k))::(r.map λ(n,k)=>if(k==NameKind.free&&env.scope.kind==.function&&env.kindOf n==some .cell) then(n,NameKind.cell) else(n,k)))=some k':=h;by_cases hc:(k==NameKind.free&&env.scope.kind==.function&&env.kindOf n==some .cell)=true
  ·rw[Zo hc] at h';rw[List.lookup_cons] at h' ⊢
   cases hx:x==n with
   |true=>rw[hx] at h';cases h';simp only[ZB,beq_iff_eq] at hc;exact⟨k,rfl,.inr ⟨hc.1.1,rfl⟩⟩
   |false=>rw[hx] at h';exact ih h'
  ·rw[Zp hc] at h';rw[List.lookup_cons] at h' ⊢
   cases hx:x==n with
   |true=>rw[hx] at h';cases h';exact⟨k,rfl,.inl rfl⟩
   |false=>rw[hx] at h';exact ih h'
theorem pS{env:PySem.Env}:∀{names:List (Str×NameKind)} {x:Str},names.lookup x=some .free ->
  (names.map λ(n,k)=>if(k==NameKind.free&&env.scope.kind==.function&&env.kindOf n==some .cell) then(n,NameKind.cell) else(n,k)).lookup x=some .cell \/
  (names.map λ(n,k)=>if(k==NameKind.free&&env.scope.kind==.function&&env.kindOf n==some .cell) then(n,NameKind.cell) else(n,k)).lookup x=some .free
 |[],x,h=>by simp at h
 | (n,k)::r,x,h=>by
  have ih:=@pS env r x;show List.lookup x ((if(k==NameKind.free&&env.scope.kind==.function&&env.kindOf n==some .cell)=true then(n,NameKind.cell) else(n,k))::_)=_\/List.lookup x ((if(k==NameKind.free&&env.scope.kind==.function&&env.kindOf n==some .cell)=true then(n,NameKind.cell) else(n,k))::_)=_;rw[List.lookup_cons] at h;by_cases hc:(k==NameKind.free&&env.scope.kind==.function&&env.kindOf n==some .cell)=true
  ·rw[Zo hc,List.lookup_cons]
   cases hx:x==n with
   |true=>exact .inl rfl
   |false=>rw[hx] at h;exact ih h
  ·rw[Zp hc,List.lookup_cons]
   cases hx:x==n with
   |true=>rw[hx] at h;exact .inr h
   |false=>rw[hx] at h;exact ih h
theorem DB(I:Nat->Shared->Prop)
  (turn:∀n s,I n s->wpAny (model prog w) A (pyNext it) (λr s₁=>match r with
   |none=>R (.ok .next) s₁
   |some v=>wpAny (model prog w) A (letOwnedTupleGo target it v) (λ_ s₁=>wpAny (model prog w) A (assign target env v) (λ_ s₂ =>
     wpAny (model prog w) A (forIn ifs true λc r=>if r=true then do let ok <- isTrue c env (eval c env);pure (ForInStep.yield ok) else pure (ForInStep.yield r)) (λok s₃ =>
      if ok=true then wpAny (model prog w) A (eval elt env) (λx s₄ =>
       wpAny (model prog w) A (call (.builtin "list.append") [acc,x]) (λ_ s₅=>∃m,m<n/\I m s₅) (notedBy (model prog w) A env λe s'=>R (.error e) s') s₄) (notedBy (model prog w) A env λe s'=>R (.error e) s') s₃
      else ∃m,m<n/\I m s₃) (notedBy (model prog w) A env λe s'=>R (.error e) s') s₂) (notedBy (model prog w) A env λe s'=>R (.error e) s') s₁) (notedBy (model prog w) A env λe s'=>R (.error e) s') s₁) (notedBy (model prog w) A env λe s'=>R (.error e) s') s)
  (n:Nat) (h:I n s):codeAny (model prog w) A (.compLoop (.ListComp elt [⟨target,iter,ifs,0⟩] scope pos) 0 it acc env) R s:=by
 refine codeAny_loop rfl I (λn s hI=>?_) n h;show wpAny _ A ((compTurn (.ListComp elt [⟨target,iter,ifs,0⟩] scope pos) 0 it acc env).onRaise (λx=>do noteFrame x env;theTreesLotGoes x)) _ _ s;refine wpAny_noted ?_;rw[compTurn_list];refine Zt (wpAny_standAt (Zt (wpAny_mono (turn n s hI) (λr s₁ h₁=>?_) λ_ _ h'=>h')))
 cases r with
 |none=>exact Zu h₁
 |some v =>
  refine Zt (wpAny_mono h₁ (λ_ s₁' h₁'=>?_) λ_ _ h'=>h');refine Zt (wpAny_mono h₁' (λ_ s₂ h₂=>Zt (wpAny_mono h₂ (λok s₃ h₃=>?_) λ_ _ h'=>h')) λ_ _ h'=>h')
  cases ok with
  |false=>exact Zu ⟨rfl,h₃⟩
  |true =>
   exact Zt (Zt (wpAny_mono h₃ (λx s₄ h₄=>Zt (wpAny_mono h₄ (λ_ s₅ h₅=>Zu (Zu ⟨rfl,h₅⟩)) λ_ _ h'=>h')) λ_ _ h'=>h'))
noncomputable def SU(X:Cx)(scope:Scope)(cl:List (Str×Addr))(C:Addr)(N':List Str)(s₃:Shared)(H₃:Hp)(fp:List Addr)(xe:Value->Shared->Prop):Cx :=
 { X with N:=N',s₀:=s₃,H₀:=H₃,env:=compEnvC scope cl C X.env,outer:=X.stack,stack:=X.stack,ex:=fp,fn:=λ_=>false,pn:=[],xe:=xe }
def kT(X:Cx)(scope:Scope)(N':List Str)(X':Cx):Prop:=∃cl C s₃ H₃ fp xe,X'=SU X scope cl C N' s₃ H₃ fp xe
section
variable{s:Shared}
def NW{i:Nat}(h:(b8 N vs)[i]?=some (some v)):vs[i]?=some v:=by
 unfold b8 at h;by_cases hl:i<vs.length
 ·rw[List.getElem?_append_left (by rw[List.length_map];exact hl),Zh,Zb hl] at h;rw[Zb hl];simpa using h
 ·rw[List.getElem?_append_right (by rw[List.length_map];omega),List.getElem?_replicate] at h;split at h
  ·cases h
  ·cases h
def Inv.block(I:Inv X pins Y H s)
  (hkind:scope.kind=.function) (hcell:∀y∈scope.names,y.2≠.cell) (sub:∀x c,cl.lookup x=some c->X.env.cells.lookup x=some c) (hasF:∀p∈scope.names,p.2=.free->∃c,cl.lookup p.1=some c)
  (hfk:∀p∈scope.names,p.2=.free->X.env.kindOf p.1=some .cell\/X.env.kindOf p.1=some .free)
  (hf:∀b∈fp,iZ X pins H b) (hfo:∀b∈fp,b<s.heap.objs.size) (hvl:vs.length<=N'.length)
  (himp:∀(i:Nat) x v,N'[i]?=some x->vs[i]?=some v->∃j:Nat,X.N[j]?=some x/\Y[j]?=some (some v)/\scope.names.lookup x=some .free)
  (m:Str->Option Value) (hns:h₄.Ns s.heap.objs.size m) (hsb:Heap.SameBut s.heap.objs.size (s.heap.push ob) h₄) :
  Inv (SU X scope cl s.heap.objs.size N' s H fp xe) [] (b8 N' vs) H { s with heap:=h₄,toks:=tk }:=by
 have old:∀b o,s.heap.get? b=some o->h₄.get? b=some o:=λb o e=>(hsb.2 b (Zz (Zv e))).trans (Zd _ e)
 have freeOf:∀x,(relabel scope X.env).names.lookup x=some .cell\/(relabel scope X.env).names.lookup x=some .free->scope.names.lookup x=some .free:=λx hx=>by
  rcases hx with hx | hx
  ·obtain⟨k,h1,h2⟩:=nB (env:=X.env) hx;rcases h2 with h2 | ⟨h2,_⟩
   ·subst h2;exact absurd rfl (hcell _ (d9 h1))
   ·subst h2;exact h1
  ·obtain⟨k,h1,h2⟩:=nB (env:=X.env) hx;rcases h2 with h2 | ⟨_,h2⟩
   ·subst h2;exact h1
   ·cases h2
 have ok:(SU X scope cl s.heap.objs.size N' s H fp xe).Ok:=by
  refine⟨I.ok.mod,hkind,I.ok.glob,I.ok.blt,Zq _,λx y c h1 h2=>I.ok.inj x y c (sub x c h1) (sub y c h2),λx hx=>?_,λx c h=>(nomatch h),I.ok.hd,I.ok.frames,.inl rfl,λb hb=>⟨Zz (hfo b hb),λx c e=>(hf b hb).2.2.2.2.1 x c (sub x c e)⟩,λb o e=>I.bs b o e,Zr I.ok.bsz I.sz,λb o e hb=>?_,λb hb z=>?_,I.stack,I.stkFree⟩
  ·exact hasF (x,.free) (d9 (freeOf x hx)) rfl
  ·rcases(hf b hb).2.2.2.1 with z | z
   ·exact I.ok.noex b o e z
   ·rw[(I.ok.bs b o e).1] at z;cases z
  ·rcases List.mem_cons.mp (I.stkSub b z) with z | z
   ·exact(hf b hb).2.1 z
   ·exact(hf b hb).2.2.1 z
 refine⟨ok,rfl,I.bare,Un.kept old,⟨m,hns,λi x v e1 e2 e3=>?_⟩,λx c e=>?_,I.hok.fresh (Zq _),λx c e=>I.freeC x c (sub x c e),λp hp=>(nomatch hp),I.hok.kept old, ?_⟩
 ·obtain⟨j,h1,h2,h3⟩:=himp i x v e1 (NW e2);have hk:=hfk (x,.free) (d9 h3) rfl;obtain⟨m0,hn0,hl⟩:=I.loc;obtain⟨u,r,lk⟩:=hl j x v h1 h2 (.inr hk);refine⟨u,r, ?_⟩;rcases lk with ⟨k,_⟩ | ⟨k,c,e,z⟩
  ·rcases hk with hk | hk
   ·rw[hk] at k;cases k
   ·rw[hk] at k;cases k
  ·obtain⟨c',hc'⟩:=hasF (x,.free) (d9 h3) rfl;have ec:=sub x c' hc';rw[e] at ec;cases ec;obtain⟨o,ho,hd⟩:=z;exact .inr ⟨pS (env:=X.env) h3,c,hc',o,old c o ho,hd⟩
 ·obtain⟨v,o,ho,hd⟩:=I.cell x c (sub x c e);exact⟨v,o,old c o ho,hd⟩
 ·show(b8 N' vs).length=N'.length;unfold b8;simp;omega
def sQ(X:Cx)(ifs:List Expr)(t:TT):Prop:=∀(pins:List (Addr×Obj)) (s:Shared) (Y:St) (H:Hp) (Q:Bool->Hp->Prop),Inv X pins Y H s->t Y H Q ->
 wpAny (model X.prog X.w) X.A (forIn ifs true λc r=>if r=true then do let ok <- isTrue c X.env (eval c X.env);pure (ForInStep.yield ok) else pure (ForInStep.yield r)) (TP X pins Y Q) X.xe s
def ZF:sQ X [] (λY H Q=>Q true H):=λpins s Y H Q I h=>wpAny_tests_nil ⟨H,I,h⟩
def XO(h:PT X c t):sQ X [c] t:=λpins s Y H Q I q=>wpAny_tests_one (h pins s Y H Q I q)
def MF(N:List Str)(scope:Scope)(N':List Str)(g:TG)(tt:TT)(te:TE)(Y:St)(Q:VK)(J:It)(H1:Hp):Prop:=∃vs:List V,vs.length<=N'.length /\
 (∀(i:Nat) x v,N'[i]?=some x->vs[i]?=some v->∃j:Nat,N[j]?=some x/\Y[j]?=some (some v)/\scope.names.lookup x=some .free) /\
 ∀D,H1 D=none->∃(n:Nat) (LP:Nat->St->Hp->Prop),LP 0 (b8 N' vs) (aO H1 D (.lst []))/\∀i Y' H',LP i Y' H' ->
  (J.stop i H'/\Q (.ref D) H')\/(i<n/\J.go i H'/\∀x H2,J.yld i H' x H2->g x Y' H2 λY2 H3=>tt Y2 H3 λb H4 =>
   if b=true then te Y2 H4 λy H5=>∃ys,H5 D=some (.lst ys)/\ys.length<sizeLine/\LP (i+1) Y2 (aO H5 D (.lst (ys++[y]))) else LP (i+1) Y2 H4)
noncomputable def rF(N:List Str)(scope:Scope)(N':List Str)(wi:TI)(g:TG)(tt:TT)(te:TE):TE:=λY H Q=>wi Y H (MF N scope N' g tt te Y Q)
def yT(hc:X.calm=true)(hi:PI X tg iter wi)(hs:∀x,foldedSetIterable iter X.env x=pure x)
  (hkind:scope.kind=.function) (hcell:∀y∈scope.names,y.2≠.cell) (hnames:∀x∈scope.names,x.2=.local->scope.names.lookup x.1=some .local)
  (hfk:∀p∈scope.names,p.2=.free->X.env.kindOf p.1=some .cell\/X.env.kindOf p.1=some .free)
  (hg:∀X',kT X scope N' X'->PG X' tg g) (ht:∀X',kT X scope N' X'->sQ X' ifs tt) (he:∀X',kT X scope N' X'->PE X' elt te) (I:Inv X pins Y H s) (h:rF X.N scope N' wi g tt te Y H Q)
  (fin:∀(D C:Addr) (H':Hp) (s':Shared),Inv X pins Y H' s'->Q (.ref D) H'->H' C=none->X.s₀.heap.objs.size<=C->C≠X.env.locals->(∀x c,X.env.cells.lookup x=some c->c≠C)->(∀p∈X.pn++pins,p.1≠C)->(∃m,s'.heap.Ns C m) ->
   compPost (model X.prog X.w) X.A X.xe use QF (.ref D) C (.ok .next) s') :
  wpAny (model X.prog X.w) X.A (comprehension (.ListComp elt [⟨tg,iter,ifs,0⟩] scope pos) scope X.env ps (newList []) false (eval iter X.env) use) QF X.xe s:=by
 obtain⟨cl,hclos,sub,hasF⟩:=ZT (env:=X.env) λp hp hf=>I.ok.has p.1 (hfk p hp hf)
 refine wpAny_comprehension_free rfl hs hclos hkind hnames (a7 (hi pins s Y H _ I h) λv s1 h1=>a7 h1 λitv s2 h2=>?_);obtain⟨it,fp,tn,J,H2,e,I2,T,st2,f2,vs,hvl,himp,hD⟩:=h2;subst e
 have fpl:∀b∈fp,b<s2.heap.objs.size:=λb hb=>by(obtain⟨o,e,_⟩:=T.obj _ _ st2 b hb;exact Zv e)
 refine wpAny_newObj_type (wpAny_newFunctionEnv hcell (by intro y hy;simp at hy) (λh₁ hns₁ hsb₁=>?_) hkind);dsimp only at hns₁ hsb₁ ⊢;have I3:Inv X pins Y (aO H2 s2.heap.objs.size (.lst [])) { s2 with heap:=s2.heap.push { cls:=.type "list",dict:=none,data:=.seq ([]:List Value).toArray } }:=I2.lnew (its:=[]) (t':=s2.toks) .nil (Nat.zero_le _);obtain⟨n,LP,l0,turn⟩:=hD s2.heap.objs.size I2.fresh;generalize hs3:({ s2 with heap:=s2.heap.push { cls:=.type "list",dict:=none,data:=.seq ([]:List Value).toArray } }:Shared)=s3 at I3;have hh3:s3.heap=s2.heap.push { cls:=.type "list",dict:=none,data:=.seq ([]:List Value).toArray }:=by rw[<- hs3]
 rw[<- hh3] at hns₁ hsb₁ ⊢;have f3:∀b∈fp,iZ X pins (aO H2 s2.heap.objs.size (.lst [])) b:=λb hb=>⟨by rw[aM (Zz (fpl b hb))];exact(f2 b hb).1,(f2 b hb).2⟩
 have fpl3:∀b∈fp,b<s3.heap.objs.size:=λb hb=>by rw[hh3,Heap.size_push];exact Nat.lt_succ_of_lt (fpl b hb)
 let R:Result->Shared->Prop:=compPost (model X.prog X.w) X.A X.xe use QF (.ref s2.heap.objs.size) s3.heap.objs.size
 let X':Cx:=SU X scope cl s3.heap.objs.size N' s3 (aO H2 s2.heap.objs.size (.lst [])) fp (notedBy (model X.prog X.w) X.A (compEnvC scope cl s3.heap.objs.size X.env) λe s'=>R (.error e) s')
 have hX':kT X scope N' X':=⟨_,_,_,_,_,_,rfl⟩
 have I4:∀tk,Inv X' [] (b8 N' vs) (aO H2 s2.heap.objs.size (.lst [])) { s3 with heap:=h₁,toks:=tk }:=λtk=>I3.block hkind hcell sub hasF hfk f3 fpl3 hvl himp _ hns₁ hsb₁
 have old:∀b o,s3.heap.get? b=some o->h₁.get? b=some o:=λb o e=>(hsb₁.2 b (Zz (Zv e))).trans (Zd _ e)
 have st4:tn 0 h₁:=T.keep _ _ _ st2 λb hb o e=>old b o (by rw[hh3];exact Zd _ e)
 have stat:∀{H':Hp},(∀b∈fp,H' b=none)->∀b∈fp,iZ X' [] H' b:=λhn b hb=>⟨hn b hb,Zz (fpl3 b hb),λz=>by
  rcases List.mem_cons.mp (I3.stkSub b z) with z | z
  ·exact(f2 b hb).2.1 z
  ·exact(f2 b hb).2.2.1 z,.inl hb,λx c e=>(f2 b hb).2.2.2.2.1 x c (sub x c e),λp hp=>(nomatch hp)⟩
 have loop:∀tk,codeAny (model X.prog X.w) X.A (.compLoop (.ListComp elt [⟨tg,iter,ifs,0⟩] scope pos) 0 (.ref it) (.ref s2.heap.objs.size) (compEnvC scope cl s3.heap.objs.size X.env)) R { s3 with heap:=h₁,toks:=tk }:=by
  intro tk;refine DB (λm s'=>∃i Y' H',m=n-i/\Inv X' [] Y' H' s'/\tn i s'.heap/\(∀b∈fp,H' b=none)/\LP i Y' H') ?_ n ⟨0,_,_,by simp,I4 tk,st4,λb hb=>(f3 b hb).1,l0⟩
  rintro m s5 ⟨i,Y5,H5,rfl,I5,st5,fr5,w5⟩
  rcases turn i Y5 H5 w5 with ⟨stop,qn⟩ | ⟨hin,go,step⟩
  ·refine a7 (T.done X' rfl rfl rfl hc i [] s5 Y5 H5 _ I5 (stat fr5) st5 stop) λr s6 hz=>?_
   obtain⟨hr,I6⟩:=hz;subst hr;obtain⟨m6,hn6,_⟩:=I6.loc;have IX:Inv X pins Y H5 s6:=I3.call' (s':=s6) (ch:=fp) I6.os I6.base I6.hok I6.bare λb hb=>⟨(f2 b hb).2.2.2.1,(f2 b hb).2.1,(f2 b hb).2.2.2.2.1,(f2 b hb).2.2.2.2.2⟩
   refine fin _ _ H5 s6 IX qn I6.free I3.sz (λz=>Nat.lt_irrefl _ (Zl I3.lt (Nat.le_of_eq z))) (λx c e z=>?_) (λp hp z=>?_) ⟨m6,hn6⟩
   ·obtain⟨v,o,ho,hd⟩:=I3.cell x c e;rw[z] at ho;exact Nat.lt_irrefl _ (Zv ho)
   ·have:=(I3.pin p hp).1
    rw[z] at this;exact Nat.lt_irrefl _ (Zv this)
  ·refine a7 (T.item X' rfl rfl rfl hc i [] s5 Y5 H5 _ I5 (stat fr5) st5 go) λr s6 hz=>?_
   obtain⟨u,hr,h6⟩:=hz;subst hr;refine a7 h6 λ_ s7 hz=>?_
   obtain⟨x,H7,I7,r7,y7,st7,fr7⟩:=hz;have I7':=I7.pinned (stat fr7) (T.obj _ _ st7)
   have again:∀{Y8:St} {H8:Hp} {s8:Shared},Inv X' ([]++qW fp s7.heap) Y8 H8 s8->LP (i+1) Y8 H8->∃m,m<n-i/\∃i Y' H',m=n-i/\Inv X' [] Y' H' s8/\tn i s8.heap/\(∀b∈fp,H' b=none)/\LP i Y' H':=λ{Y8 H8 s8} I8 w8=>by(refine⟨n-(i+1),by omega,i+1,Y8,H8,rfl,I8.unpinned,T.keep _ _ _ st7 λb hb o e=>(I8.pin (b,o) (List.mem_append_right _ (List.mem_append_right _ (kY hb e)))).1,λb hb=>?_,w8⟩;obtain⟨o,e,d⟩:=T.obj _ _ st7 b hb;exact(I8.pin (b,o) (List.mem_append_right _ (List.mem_append_right _ (kY hb e)))).2.1)
   refine a7 (hg X' hX' _ s7 Y5 H7 x u _ I7' r7 (step x H7 y7)) λ_ s8 hz=>?_
   obtain⟨Y8,H8,I8,q8⟩:=hz;refine a7 (ht X' hX' _ s8 Y8 H8 _ I8 q8) λb s9 hz=>?_
   obtain⟨H9,I9,q9⟩:=hz
   cases b with
   |false=>exact again I9 q9
   |true =>
    refine a7 (he X' hX' _ s9 Y8 H9 _ I9 q9) λy s10 hz=>?_
    obtain⟨yv,H10,I10,r10,ys,hy,hz,q10⟩:=hz;refine a7 (zH (X:=X') _ s10 Y8 H10 (.ref s2.heap.objs.size) [yv] (.ref s2.heap.objs.size) [y] (λ_ H'=>LP (i+1) Y8 H') I10 rfl (.cons r10 .nil) ⟨_,ys,yv,rfl,rfl,hy,hz,q10⟩) λ_ s11 hz=>?_
    obtain⟨_,H11,I11,_,q11⟩:=hz;exact again I11 q11
 subst hs3;exact codeAny_compStart_list (loop _) (T.self _ 0 _ _ _ st4 (loop _))
def XX(hc:X.calm=true)(hi:PI X tg iter wi)(hs:∀x,foldedSetIterable iter X.env x=pure x)
  (hkind:scope.kind=.function) (hcell:∀y∈scope.names,y.2≠.cell) (hnames:∀x∈scope.names,x.2=.local->scope.names.lookup x.1=some .local)
  (hfk:∀p∈scope.names,p.2=.free->X.env.kindOf p.1=some .cell\/X.env.kindOf p.1=some .free)
  (hg:∀X',kT X scope N' X'->PG X' tg g) (ht:∀X',kT X scope N' X'->sQ X' ifs tt) (he:∀X',kT X scope N' X'->PE X' elt te) :
  PE X (.ListComp elt [⟨tg,iter,ifs,0⟩] scope pos) (rF X.N scope N' wi g tt te):=by
 intro pins s Y H Q I h;rw[eval_ListComp];refine yT (use:=none) (QF:=EP X pins Y Q) hc hi hs hkind hcell hnames hfk hg ht he I h λD C H' s' I' q hC hz hL hcl hp hm=>?_
 obtain⟨m,hm⟩:=hm;refine⟨m,hm,λh' sb=>⟨.ref D,H',I'.turned (t':=s'.toks) (λb o hb e=>(sb.2 b hb).trans e) hC hL (.inr (Heap.get?_none_of_le hz)) hcl hp,rfl,q⟩⟩
def BV(hsw:swapsWith (.ListComp elt [⟨tg,iter,ifs,0⟩] scope pos) (some (.Name y py)) spos.line X.env=pure true)
  (hN:X.N.Nodup) (hy:X.N[i]?=some y) (hx:yS X.env.scope y) (hf:X.fn y=true\/X.env.scope.names.lookup y=some .local) (hc:X.calm=true) (hi:PI X tg iter wi) (hs:∀x,foldedSetIterable iter X.env x=pure x)
  (hkind:scope.kind=.function) (hcell:∀y∈scope.names,y.2≠.cell) (hnames:∀x∈scope.names,x.2=.local->scope.names.lookup x.1=some .local)
  (hfk:∀p∈scope.names,p.2=.free->X.env.kindOf p.1=some .cell\/X.env.kindOf p.1=some .free)
  (hg:∀X',kT X scope N' X'->PG X' tg g) (ht:∀X',kT X scope N' X'->sQ X' ifs tt) (he:∀X',kT X scope N' X'->PE X' elt te) :
  PS X (.Assign [.Name y py] (.ListComp elt [⟨tg,iter,ifs,0⟩] scope pos) spos) (O4 (rF X.N scope N' wi g tt te) (r6 i)):=by
 intro pins s Y H D0 I h;rw[exec_Assign_Name_used _ _ _ _ hsw];refine Zt (wpAny_standAt (Zt ?_));show wpAny _ X.A (do let _ <- comprehension (.ListComp elt [⟨tg,iter,ifs,0⟩] scope pos) scope X.env _ (newList []) false (eval iter X.env) (some (assign (.Name y py) X.env))) _ _ s;refine Zt (wpAny_mono (yT (use:=some (assign (.Name y py) X.env)) (QF:=λ_ s'=>SP X pins D0 .next s') hc hi hs hkind hcell hnames hfk hg ht he I h λD C H' s' I' q hC hz hL hcl hp hm=>?_) (λ_ s' hq=>Zu (Zu hq)) λ_ _ e=>e);obtain⟨m,hm⟩:=hm;refine wpAny_assign_Name (yW I' hN hy hx (v:=.ref D) rfl (λs2 I2 hz=>?_) hf);obtain⟨a,sb,ha⟩:=hz
 have hne:a≠C:=by
  rcases ha with rfl | ha
  ·exact Ne.symm hL
  ·exact hcl _ _ ha
 refine⟨m,hm.sameBut sb (Ne.symm hne),λh' sb2=>⟨_,H',I2.turned (t':=s2.toks) (λb o hb e=>(sb2.2 b hb).trans e) hC hL (.inr (Heap.get?_none_of_le hz)) hcl hp,q⟩⟩
end
end L2
namespace CI
open PySem PySem.Spec PyProof.Rows L2
section
variable{X:Cx}{K:Frag}{P:aW}{C:Calls}{Z:CC}
theorem bJ.inner(xo:bJ X K P C Z)(hk:X.env.scope.kind=.function)(nd:(fM scope++eT scope).Nodup)(b:kT X scope (Z.inner scope).N X'):bJ X' K P C (Z.inner scope):=by
 obtain⟨cl,C0,s₃,H₃,fp,xe,rfl⟩:=b;refine bJ.of xo.keq rfl ?_ nd xo.calm xo.hh xo.hu xo.con xo.blt (λx f h=>?_) (λx ns h=>?_) (λm tb c f h1 h2=>?_) xo.rm xo.sub xo.subx ⟨xo.exc,λx h=>?_⟩ xo.exs (λx f h=>?_) xo.tp
 ·show(relabel scope X.env).names=(Z.inner scope).names;unfold relabel CC.inner;simp only;congr 1
  funext p
  obtain⟨n,k⟩:=p;have e:X.env.kindOf n=Z.names.lookup n:=by unfold PySem.Env.kindOf;rw[xo.nm]
  simp only[hk,e];simp
 ·obtain⟨fa,fd,ps,k,h1,h2,h3,h4,h5⟩:=(xo.fn x f h).ex;exact⟨⟨fa,fd,ps,k,h1,h2,h3,h4,h5⟩⟩
 ·obtain⟨Ca,fa,fd,ps,h1,h2,h3,h4,h5,h6⟩:=(xo.cls x ns h).ex;exact⟨⟨Ca,fa,fd,ps,h1,h2,h3,h4,h5,h6⟩⟩
 ·obtain⟨Ca,fa,fd,ps,k,z1,z2,z3,z4,z5,z6⟩:=(xo.mth m tb c f h1 h2).ex;exact⟨⟨Ca,fa,fd,ps,k,z1,z2,z3,z4,z5,z6⟩⟩
 ·exact⟨trivial⟩
 ·exact⟨trivial⟩
noncomputable def yL(K:Frag)(P:aW)(C:Calls)(cs:List E):TT:=λY H Q=>∃(U:Env) (G:Hp) (b:Bool) (U':Env),aN K U Y H G/\cR P C cs U=some (.ok (.sh (.bl b)),U') /\
 ∀H' G',Aft K U Y H G U' H' G'->Q b H'
def DM:sQ X [] (yL K P C []):=λpins s Y H Q I hz=>by
 obtain⟨U,G,b,U',r,e,k⟩:=hz;rw[cR] at e;cases e;exact ZF pins s Y H Q I (k H G (Aft.refl r))
def CM(h:Ok3 X K P C c cc):sQ X [c] (yL K P C [cc]):=λpins s Y H Q I hz=>by
 obtain⟨U,G,b,U',r,e,k⟩:=hz;refine XO h.t pins s Y H Q I ?_;rw[cR] at e;obtain⟨v,U1,e1,e2⟩:=aG e;split at e2
 ·rw[cR] at e2;cases e2;exact⟨U,G,true,_,r,e1,k⟩
 ·cases e2;exact⟨U,G,false,_,r,e1,k⟩
 ·cases e2
theorem AftS.poke(b:AftS K U Y H G U' Y' H' G')(h:H a=none)(g:G' a=none)(n:¬aH U' Y' a):AftS K U Y H G U' Y' (aO H' a o) G':=by
 refine⟨b.rel.poke g n,⟨b.ext.gg,λc u e nc=>?_,λc e=>?_,b.ext.gn⟩,b.own,b.un,b.pin,b.len⟩
 ·have:c≠a:=λz=>by subst z;rw[h] at e;cases e
  rw[aM this];exact b.ext.hh c u e nc
 ·by_cases hc:c=a
  ·subst hc;rw[a9] at e;cases e
  ·rw[aM hc] at e;exact b.ext.hx c e
theorem qG{bind:D->Env->Option Env}:∀{ds acc acc':List D} {U U':Env},d7 tests elt bind ds acc U=some (.ok acc',U')->acc.length<=acc'.length
 |[],acc,acc',U,U',e=>by simp only[d7,Option.some.injEq,Prod.mk.injEq,Out.ok.injEq] at e;rw[e.1];exact Zq _
 |d::ds,acc,acc',U,U',e=>by
  simp only[d7] at e;split at e
  ·cases e
  ·obtain⟨c,U2,e1,e2⟩:=aG e;split at e2
   ·obtain⟨v,U3,e3,e4⟩:=aG e2
    have:=qG e4
    simp at this;omega
   ·exact qG e2
   ·cases e2
theorem vG:∀(imp:List Nat) (U:Env) (as:List Sl) (U1:Env),aN K U Y H G->bS (imp.map λ_=>true) (imp.map Hd.slot) U=some (as,U1) ->
  ∃xs,c9 K H G own new Y (imp.map Hd.slot) xs/\xs.length=imp.length/\(∀a,¬lR (imp.map Hd.slot) xs a)/\∀(j:Nat) v,xs[j]?=some v->∃i:Nat,imp[j]?=some i/\Y[i]?=some (some v)
 |[],U,as,U1,r,e=>⟨[],rfl,rfl,λa z=>z,λj v h=>by simp at h⟩
 |i::imp,U,as,U1,r,e=>by
  have go:∀(U2:Env) (as2:List Sl) (U3:Env),aN K U2 Y H G->bS (imp.map λ_=>true) (imp.map Hd.slot) U2=some (as2,U3)->(∃v,Y[i]?=some (some v)) ->
    ∃xs,c9 K H G own new Y ((i::imp).map Hd.slot) xs/\xs.length=(i::imp).length/\(∀a,¬lR ((i::imp).map Hd.slot) xs a)/\∀(j:Nat) v,xs[j]?=some v->∃i':Nat,(i::imp)[j]?=some i'/\Y[i']?=some (some v):=by
   intro U2 as2 U3 r2 e2 ⟨v,hv⟩;obtain⟨xs,h1,h2,h3,h4⟩:=vG imp U2 as2 U3 r2 e2;refine⟨v::xs,⟨v,xs,rfl,hv,h1,λd a z=>(nomatch z)⟩,by simp[h2],λa z=>h3 a z,λj w hw=>?_⟩
   cases j with
   |zero=>simp only[zt,Option.some.injEq] at hw;subst hw;exact⟨i,rfl,hv⟩
   |succ j=>exact h4 j w (by simpa using hw)
  simp only[Zs,bS] at e;split at e
  ·rename_i d hi
   cases q:bS (imp.map λ_=>true) (imp.map Hd.slot) U with
   |none=>rw[q] at e;cases e
   |some y=>exact go U y.1 y.2 r q (r.bound (by rw[hi];rfl))
  ·rename_i d p l hi
   cases q:bS (imp.map λ_=>true) (imp.map Hd.slot) (U.set i .un) with
   |none=>rw[q] at e;cases e
   |some y=>exact go _ y.1 y.2 (r.unset i) q (r.bound (by rw[hi];rfl))
  ·cases e
def EG(ho:∀i,o=some i->∃d p l,U1[i]?=some (.ow d p l))(e:cQ o U1 U2=some U')(h:iK (aK o U1) U2):iK U1 U':=by
 cases o with
 |none=>simp only[cQ,Option.some.injEq] at e;subst e;exact h
 |some i =>
  obtain⟨d,p,l,hi⟩:=ho i rfl;simp only[cQ] at e;split at e
  ·rename_i sl hf hs;rw[hi] at hs;cases hs;cases e;intro j;by_cases hj:j=i
   ·subst hj;rw[hi,zk (Zc.mp hf).1];exact dO.refl _
   ·have:=h j
    rw[Zf (λz=>hj z.symm)]
    have e2:(aK (some i) U1)[j]?=U1[j]?:=by(show(U1.set i .un)[j]?=_;rw[Zf (λz=>hj z.symm)])
    rw[e2] at this;exact this
  ·cases e
theorem FY{Z:CC}:∀{xs:List Str} {imp:List Nat},Z.imps xs=some imp->imp.length=xs.length/\∀(j:Nat) x i,xs[j]?=some x->imp[j]?=some i->Z.N[i]?=some x
 |[],imp,h=>by simp only[CC.imps,Option.some.injEq] at h;subst h;exact⟨rfl,λj x i z=>by simp at z⟩
 |x::xs,imp,h=>by
  simp only[CC.imps] at h
  cases q:Z.N.idxOf? x with
  |none=>rw[q] at h;cases h
  |some i =>
   rw[q] at h;simp only[Option.bind_some] at h
   cases q2:Z.imps xs with
   |none=>rw[q2] at h;cases h
   |some r =>
    rw[q2] at h;simp only[Option.map_some,Option.some.injEq] at h;subst h;obtain⟨h1,h2⟩:=FY q2;refine⟨by simp[h1],λj y k hy hk=>?_⟩
    cases j with
    |zero =>
     simp only[zt,Option.some.injEq] at hy hk;subst hy hk;exact mN q
    |succ j=>exact h2 j y k (by simpa using hy) (by simpa using hk)
structure ScOk(Z:CC)(scope:Scope):Prop where
 kind:scope.kind=.function
 cell:∀y∈scope.names,y.2≠.cell
 names:∀x∈scope.names,x.2=.local->scope.names.lookup x.1=some .local
 free:∀x∈scope.names,x.2=.free->scope.names.lookup x.1=some .free
 out:∀p∈scope.names,p.2=.free->Z.names.lookup p.1=some .cell\/Z.names.lookup p.1=some .free
 nd:(fM scope++eT scope).Nodup
def V8(h:Z.scOk scope=true):ScOk Z scope:=by
 unfold CC.scOk at h;simp only[ZB,List.all_eq_true,decide_eq_true_eq,beq_iff_eq,bne_iff_ne,Bool.or_eq_true,ne_eq] at h;obtain⟨⟨⟨⟨h1,h2⟩,h3⟩,h4⟩,h5⟩:=h;refine⟨h1,h2,λx hx hl=>?_,λx hx hf=>?_,λx hx hf=>?_,h5⟩
 ·rcases h3 x hx with z | z
  ·exact absurd hl z
  ·exact z
 ·rcases h4 x hx with z | z
  ·exact absurd hf z
  ·exact z.1
 ·rcases h4 x hx with z | z
  ·exact absurd hf z
  ·exact z.2
def JB(sc:ScOk Z scope)(h:x∈fM scope):scope.names.lookup x=some .free:=by
 unfold fM at h;obtain⟨p,hp,rfl⟩:=zo.mp h;obtain⟨h1,h2⟩:=List.mem_filter.mp hp;exact sc.free p h1 (Zy h2)
def yK(K:Frag)(U0:Env)(Y0:St)(H1 G2:Hp)(ds:List D)(J:It):Prop:=∀i H' Uc Y' Gc,AftS K U0 Y0 H1 G2 Uc Y' H' Gc->(i=ds.length->J.stop i H')/\(i<ds.length->J.go i H')/\∀d x H2,ds[i]?=some d->J.yld i H' x H2->∃Gd,Aft K Uc Y' H' Gc Uc H2 Gd/\aC K Gd d x
def rK(K:Frag)(G:Hp)(ds:List D)(R:It->Prop):Prop:=True
def aAo(gg2:aV G1 G2):rK K G1 ds (yK K U0 Y0 H1 G2 ds):=trivial
def rK.imp(h:rK K G ds R)(k:∀J,R J->R' J):rK K G ds R':=trivial
def aBm(gg2:aV G1 G2)(own:∀c,aH U0 Y0 c->aH (aK o U1) Y c) :
  (∀a vs,jP K (aK o U1) Y H1 G1 a vs->aB K G1 ds vs->yK K U0 Y0 H1 G2 ds (nS K a))/\(∀a vs,dC K G1 a vs->aB K G1 ds vs->yK K U0 Y0 H1 G2 ds (nY K a))/\(∀(lo:Int) (n:Nat),ds=(List.range n).map (λ(j:Nat)=>D.int (lo+(j:Int)))->yK K U0 Y0 H1 G2 ds (mD lo n))/\(∀a vs ds0 lo,ds=bZ lo ds0->jP K (aK o U1) Y H1 G1 a vs->aB K G1 ds0 vs->yK K U0 Y0 H1 G2 ds (nQ K a lo))/\(∀x,ds=AY x->PyData.strOk x=true->yK K U0 Y0 H1 G2 ds (Its x))/\rK K G1 ds (yK K U0 Y0 H1 G2 ds):=by
 refine⟨λa vs hsrc hr=>?_,λa vs ht hr=>?_,λlo n hds=>?_,λa vs ds0 lo hds hsrc hr=>?_,λx hds hok=>?_,aAo gg2⟩
 ·intro i H' Uc Y' Gc af
  have hnow:bX K H' a vs:=by
   rcases hsrc with h | ⟨h1,h2,h3⟩
   ·exact af.rel.sub.seq (af.ext.gg.seq (gg2.seq h))
   ·exact bX.of (af.ext.hh a _ h1 λz=>h3 (own a z))
  refine⟨λhi=>⟨vs,hnow,by rw[hr.len];omega⟩,λhi=>?_,λd x H2 hd hy=>?_⟩
  ·obtain⟨x',h1,h2⟩:=hr.get (Zb hi);exact⟨vs,x',hnow,h1⟩
  ·obtain⟨rfl,hy⟩:=hy;obtain⟨x',h1,h2⟩:=hr.get hd
   have:=hy vs hnow
   rw[h1] at this;cases this;exact⟨_,Aft.refl af.rel,aC.mono af.ext.gg d (aC.mono gg2 d h2)⟩
 ·intro i H' Uc Y' Gc af;have hnow:dC K H' a vs:=dE af.rel.sub (dE af.ext.gg (dE gg2 ht));refine⟨λhi=>⟨vs,hnow,by rw[hr.len];omega⟩,λhi=>?_,λd x H2 hd hy=>?_⟩
  ·obtain⟨x',h1,h2⟩:=hr.get (Zb hi);exact⟨vs,x',hnow,h1⟩
  ·obtain⟨rfl,hy⟩:=hy;obtain⟨x',h1,h2⟩:=hr.get hd
   have:=hy vs hnow
   rw[h1] at this;cases this;exact⟨_,Aft.refl af.rel,aC.mono af.ext.gg d (aC.mono gg2 d h2)⟩
 ·intro i H' Uc Y' Gc af;have hlen:ds.length=n:=by rw[hds];simp
  refine⟨λhi=>by show n<=i;omega,λhi=>by show i<n;omega,λd x H2 hd hy=>?_⟩;obtain⟨rfl,hy⟩:=hy;have hi:i<n:=by rw[<- hlen];exact(Zc.mp hd).1
  have hd':ds[i]?=some (.int (lo+(i:Int))):=by rw[hds];simp[hi]
  rw[hd'] at hd;cases hd;subst hy;exact⟨_,Aft.refl af.rel,by simp[aC]⟩
 ·intro i H' Uc Y' Gc af;subst hds
  have hnow:bX K H' a vs:=by
   rcases hsrc with h | ⟨h1,h2,h3⟩
   ·exact af.rel.sub.seq (af.ext.gg.seq (gg2.seq h))
   ·exact bX.of (af.ext.hh a _ h1 λz=>h3 (own a z))
  refine⟨λhi=>⟨vs,hnow,by rw[hr.len,<- fI (lo:=lo)];omega⟩,λhi=>?_,λd x H2 hd hy=>?_⟩
  ·obtain⟨x',h1,h2⟩:=hr.get (Zb (by rw[fI] at hi;exact hi));exact⟨vs,x',hnow,h1⟩
  ·obtain⟨p0,y0,hn,rfl,rfl,hy⟩:=hy;have hl:i<ds0.length:=by rw[<- fI];exact(Zc.mp hd).1
   obtain⟨x',h1,h2⟩:=hr.get (Zb hl);have hy:=hy vs hnow;rw[h1] at hy;cases hy;rw[mT (Zb hl)] at hd;cases hd;exact⟨_,(Aft.refl af.rel).layG hn,DT (aV.free af.rel.sub hn) (aC.mono af.ext.gg _ (aC.mono gg2 _ h2))⟩
 ·intro i H' Uc Y' Gc af;have hlen:ds.length=x.cps.size:=by rw[hds];simp[AY]
  refine⟨λhi=>by show x.cps.size<=i;omega,λhi=>by show i<x.cps.size;omega,λd v H2 hd hy=>?_⟩;obtain⟨rfl,c,hc,rfl⟩:=hy;rw[hds] at hd;unfold AY at hd;rw[Zh,Array.getElem?_toList,hc] at hd;cases hd;refine⟨_,Aft.refl af.rel, ?_⟩;unfold aC;refine⟨rfl, ?_⟩;unfold PyData.strOk at hok ⊢
  have:=Array.all_eq_true.mp hok i (Array.getElem?_eq_some_iff.mp hc).1
  rw[(Array.getElem?_eq_some_iff.mp hc).2] at this;simpa using this
abbrev NK(K:Frag)(P:aW)(C:Calls)(k0:ItK)(its:List E)(Y:St)(H:Hp)(R:It->Hp->Prop):Prop:=∃(U:Env) (G:Hp) (hs:List Hd) (U1:Env) (ds:List D) (o:Option Nat),aN K U Y H G/\cD P C its U=some (.ok hs,U1)/\aD k0 hs U1=some (ds,o) /\
   ∀H1 G1,Aft K U Y H G U1 H1 G1->(∀i,o=some i->∃d p l,U1[i]?=some (.ow d p l)) ->
    (∀a vs,jP K (aK o U1) Y H1 G1 a vs->aB K G1 ds vs->R (nS K a) H1)/\(∀a vs,dC K G1 a vs->aB K G1 ds vs->R (nY K a) H1)/\(∀(lo:Int) (n:Nat),ds=(List.range n).map (λ(j:Nat)=>D.int (lo+(j:Int)))->R (mD lo n) H1)/\(∀a vs ds0 lo,ds=bZ lo ds0->jP K (aK o U1) Y H1 G1 a vs->aB K G1 ds0 vs->R (nQ K a lo) H1)/\(∀x,ds=AY x->PyData.strOk x=true->R (Its x) H1)/\rK K G1 ds λJ=>R J H1
abbrev Hw4(K:Frag)(P:aW)(C:Calls)(k0:ItK)(its:List E)(Y:St)(H:Hp)(R:It->Hp->Prop):Prop:=∃(U:Env) (G:Hp) (hs:List Hd) (U1:Env) (ds:List D) (o:Option Nat),aN K U Y H G/\cD P C its U=some (.ok hs,U1)/\aD k0 hs U1=some (ds,o) /\
   ∀H1 G1,Aft K U Y H G U1 H1 G1->(∀i,o=some i->∃d p l,U1[i]?=some (.ow d p l)) ->
    (∀a vs,jP K (aK o U1) Y H1 G1 a vs->aB K G1 ds vs->R (nS K a) H1)/\(∀a vs,dC K G1 a vs->aB K G1 ds vs->R (nY K a) H1)/\(∀(lo:Int) (n:Nat),ds=(List.range n).map (λ(j:Nat)=>D.int (lo+(j:Int)))->R (mD lo n) H1)/\(∀a vs ds0 lo,ds=bZ lo ds0->jP K (aK o U1) Y H1 G1 a vs->aB K G1 ds0 vs->R (nQ K a lo) H1)
def UE(q:NK K P C k0 its Y H R):Hw4 K P C k0 its Y H R:=by
 obtain⟨U,G,hs,U1,ds,o,r,e,ei,k⟩:=q;refine⟨U,G,hs,U1,ds,o,r,e,ei,λH1 G1 a ho=>?_⟩;obtain⟨k1,k2,k3,k4,_⟩:=k H1 G1 a ho;exact⟨k1,k2,k3,k4⟩
structure CInv(K:Frag)(P:aW)(C:Calls)(cond:List E)(elt:Env->aR RV)(is:List Nat)(U0:Env)(Y0:St)(H1 G2:Hp)(ds acc:List D)(Ui:Env)(D:Addr)(i:Nat)(Y':St)(H':Hp):Prop where
 le:i<=ds.length
 ex:∃Uc Gc ac ys,AftS K U0 Y0 H1 G2 Uc Y' H' Gc/\H' D=some (.lst ys)/\Gc D=none/\¬aH Uc Y' D/\aB K Gc ac ys/\d7 (cR P C cond) elt (aT (is.length==1) is) (ds.drop i) ac Uc=some (.ok acc,Ui)
def OW(xo:bJ X K P C Z){its cond:List E}(helt:∀U v U',elt U=some (.ok v,U')->ev P C false ce U=some (.ok v,U'))(sc:ScOk Z scope)(himp:Z.imps (fM scope)=some imp)
  (hw:∀Y H (R:It->Hp->Prop),NK K P C k0 its Y H R->wi Y H R) (h:∃(U:Env) (G:Hp) (v:RV) (U':Env),aN K U Y H G/\evG P C elt is k0 its cond imp (eT scope).length U=some (.ok v,U')/\∀x H' G',Aft K U Y H G U' H' G'->cC K H' G' (aH U' Y) (dS H) v x->Q x H'):rF X.N scope (Z.inner scope).N wi (gB K (is.length==1) is) (yL K P C cond) (tE K P C ce) Y H Q:=by
 obtain⟨U,G,v,U',r,e,k⟩:=h;unfold evG at e;obtain⟨hs',U1,e1,e2⟩:=aG e
 cases q:aD k0 hs' U1 with
 |none=>rw[q] at e2;cases e2
 |some y =>
  obtain⟨ds,o⟩:=y;rw[q] at e2;obtain⟨v',U2,e3,e4⟩:=aG e2;unfold gZ at e4
  cases q3:cQ o U1 U2 with
  |none=>rw[q3] at e4;cases e4
  |some U3 =>
   rw[q3] at e4;simp only[Option.map_some,Option.some.injEq,Prod.mk.injEq,Out.ok.injEq] at e4;obtain⟨rfl,rfl⟩:=e4;unfold rF;refine hw Y H _ ⟨U,G,hs',U1,ds,o,r,e1,q,λH1 G1 a1 ho=>?_⟩;have R0:=(kE (o:=o) a1.rel).1
   have hld:∃as U4,bS (imp.map λ_=>true) (imp.map Hd.slot) (aK o U1)=some (as,U4):=by
    unfold eI at e3
    cases q4:bS (imp.map λ_=>true) (imp.map Hd.slot) (aK o U1) with
    |none=>rw[q4] at e3;cases e3
    |some y=>exact⟨y.1,y.2,rfl⟩
   obtain⟨as0,U4,hld⟩:=hld;obtain⟨xs,hx1,hx2,hx3,hx4⟩:=vG (own:=aH (aK o U1) Y) (new:=dS H1) imp _ _ _ R0 hld;obtain⟨as,G2,as',ra,hal,ef,⟨gg2,ao2⟩,kk⟩:=pR (Aft.refl R0) hx1 e3;unfold mM at ef;split at ef
   ·rename_i hp;obtain⟨acc,Ui,e5,e6⟩:=aG ef;split at e6
    ·rename_i hz;simp only[Option.some.injEq,Prod.mk.injEq,Out.ok.injEq] at e6;obtain⟨rfl,rfl⟩:=e6;obtain⟨il,ig⟩:=FY himp
     have hNl:(Z.inner scope).N.length=as.length+(eT scope).length:=by(show(fM scope++eT scope).length=_;rw[Za,hal,List.length_map,il])
     obtain⟨rp,op⟩:=ra.pad hNl;have hsz:=gW hz
     -- the block's turns
     have turns:∀(J:It),yK K (as++List.replicate (eT scope).length .un) (b8 (Z.inner scope).N xs) H1 G2 ds J->MF X.N scope (Z.inner scope).N (gB K (is.length==1) is) (yL K P C cond) (tE K P C ce) Y Q J H1:=by
      intro J hJ;refine Exists.intro xs ⟨by rw[hNl,hx2,hal,List.length_map];omega,λi x v hN hv=>?_,λD hD=>?_⟩
      ·obtain⟨j,hj,hY⟩:=hx4 i v hv
       have hlt:i<(fM scope).length:=by(rw[<- il];exact(Zc.mp hj).1)
       have hfx:(fM scope)[i]?=some x:=by
        have:(fM scope++eT scope)[i]?=some x:=hN
        rwa[List.getElem?_append_left hlt] at this
       exact⟨j,by rw[xo.neq];exact ig i x j hfx hj,hY,JB sc (zj hfx)⟩
      ·have fin:∀Y' H' Gc ys,AftS K (as++List.replicate (eT scope).length .un) (b8 (Z.inner scope).N xs) H1 G2 Ui Y' H' Gc->H' D=some (.lst ys)->Gc D=none->¬aH Ui Y' D->aB K Gc acc ys->Q (.ref D) H':=by
        intro Y' H' Gc ys a hHD hGD hnD hr;obtain⟨b1,b2⟩:=tM ra hp hNl a;obtain⟨c1,c2⟩:=kk (.ref D) H' Gc b1 ⟨D,rfl,hGD,⟨ys,hHD,hr⟩,λz=>hnD (b2 D z),hD⟩;obtain⟨d1,d2⟩:=iL a1.rel ho q3 (Aft.s R0 c1);have a2:Aft K U1 Y H1 G1 U3 H' Gc:=⟨d1.rel,d1.ext,EG ho q3 c1.evo⟩
        obtain⟨D',e',g',o',n',f'⟩:=c2;cases e';refine k _ _ _ (a1.trans a2) ⟨D,rfl,g',o',λz=>?_,a1.fresh hD⟩;rcases d2 D z with z | ⟨z,_⟩
        ·exact n' z
        ·exact(a1.rel.owned z).1 hD
       clear kk k q3 R0 ho a1 hp hNl ra hal gg2 ao2 hx1 hx2 hx3 hx4 hld e3 q e1 r himp il ig op;refine⟨ds.length,CInv K P C cond elt is (as++List.replicate (eT scope).length .un) (b8 (Z.inner scope).N xs) H1 G2 ds acc Ui D, ?_, ?_⟩
       ·have g2:G2 D=none:=by
         cases z:G2 D with
         |none=>rfl
         |some u=>have:=rp.sub D u z;rw[hD] at this;cases this
        exact⟨Nat.zero_le _,_,G2,[],[],Aft.s rp ((Aft.refl rp).layH hD),a9,g2,rp.notOwn hD,aB.nil,e5⟩
       ·rintro i Y' H' ⟨hil,Uc,Gc,ac,ys,a,hHD,hGD,hnD,hr,ec⟩
        obtain⟨j1,j2,j3⟩:=hJ i H' Uc Y' Gc a;by_cases hlt:i<ds.length
        ·refine .inr ⟨hlt,j2 hlt,λx H2 hy=>?_⟩;have hd:ds[i]?=some ds[i]:=Zb hlt;obtain⟨Gd,afd,hrep⟩:=j3 _ x H2 hd hy;have hGD:=afd.ext.gn D (by rw[hHD];simp) hGD hnD;have hHD:=afd.ext.hh D _ hHD hnD;have hr:=aB.mono afd.ext.gg _ hr;have a:=a.trans (Aft.s a.rel afd);rw[List.drop_eq_getElem_cons hlt] at ec;simp only[d7] at ec;split at ec
         ·cases ec
         ·rename_i Ub hb;obtain⟨c,Ut,et,ec⟩:=aG ec;refine⟨Uc,Gd,ds[i],Ub,a.rel,hrep,hb,λY1 ab=>?_⟩;have a01:=a.trans ab
          have nb:¬aH Ub Y1 D:=λz=>by
           rcases ab.own D z with z | z
           ·exact hnD z
           ·rw[hHD] at z;cases z
          split at ec
          ·obtain⟨w,Ue,ee,ec⟩:=aG ec;refine⟨Ub,Gd,true,Ut,ab.rel,et,λH3 G3 at3=>?_⟩;have h3:H3 D=some (.lst ys):=at3.ext.hh D _ hHD nb;have g3:G3 D=none:=at3.ext.gn D (by rw[hHD];simp) hGD nb;have n3:¬aH Ut Y1 D:=λz=>nb (at3.own D z)
           dsimp only;rw[Zo rfl];refine⟨Ut,G3,w,Ue,at3.rel,helt _ _ _ ee,λy H4 G4 a4 ry=>?_⟩;obtain⟨G5,a5,ry5⟩:=a4.share ry;have h4:H4 D=some (.lst ys):=a5.ext.hh D _ h3 n3;have g5:G5 D=none:=a5.ext.gn D (by rw[h3];simp) g3 n3;have n5:¬aH Ue Y1 D:=λz=>n3 (a5.own D z)
           have hlen:=qG ec;have hyl:=hr.len;rw[Za] at hlen;simp only[Zk,List.length_nil] at hlen;have a05:=(a01.trans (Aft.s ab.rel at3)).trans (Aft.s at3.rel a5);refine⟨ys,h4,by omega,hlt,Ue,G5,ac++[w.d],ys++[y],a05.poke hD g5 n5,a9,g5,n5, ?_,ec⟩;exact(aB.mono a5.ext.gg _ (aB.mono at3.ext.gg _ hr)).app (aB.cons ry5 aB.nil)
          ·refine⟨Ub,Gd,false,Ut,ab.rel,et,λH3 G3 at3=>?_⟩;have h3:H3 D=some (.lst ys):=at3.ext.hh D _ hHD nb;have g3:G3 D=none:=at3.ext.gn D (by rw[hHD];simp) hGD nb;have n3:¬aH Ut Y1 D:=λz=>nb (at3.own D z)
           dsimp only;rw[Zp (by decide)];exact⟨hlt,Ut,G3,ac,ys,a01.trans (Aft.s ab.rel at3),h3,g3,n3,aB.mono at3.ext.gg _ hr,ec⟩
          ·cases ec
        ·have hie:i=ds.length:=by omega
         refine .inl ⟨j1 hie, ?_⟩;subst hie;rw[List.drop_length] at ec;simp only[d7,Option.some.injEq,Prod.mk.injEq,Out.ok.injEq] at ec;obtain⟨rfl,rfl⟩:=ec;exact fin _ _ _ _ a hHD hGD hnD hr
     have noTmp:∀c,aH as (xs.map some) c->aH (aK o U1) Y c:=λc z=>by
      rcases ao2 c z with z | z
      ·exact z
      ·exact absurd z (hx3 c)
     obtain⟨w1,w2,w3,w4,w5,w6⟩:=aBm (K:=K) (U1:=U1) (Y:=Y) (H1:=H1) (ds:=ds) (o:=o) gg2 λc z=>noTmp c (op c z)
     exact⟨λa vs h1 h2=>turns _ (w1 a vs h1 h2),λa vs h1 h2=>turns _ (w2 a vs h1 h2),λlo n h1=>turns _ (w3 lo n h1),λa vs ds0 lo h1 h2 h3=>turns _ (w4 a vs ds0 lo h1 h2 h3),λx h1 h2=>turns _ (w5 x h1 h2),w6.imp turns⟩
    ·cases e6
   ·cases ef
def DI(xo:bJ X K P C Z){its cond:List E}(sc:ScOk Z scope)(himp:Z.imps (fM scope)=some imp)
  (hw:∀Y H (R:It->Hp->Prop),NK K P C k0 its Y H R->wi Y H R) (h:tE K P C (.comp ce is k0 its cond imp (eT scope).length) Y H Q):rF X.N scope (Z.inner scope).N wi (gB K (is.length==1) is) (yL K P C cond) (tE K P C ce) Y H Q:=by
 obtain⟨U,G,v,U',r,e,k⟩:=h;exact OW xo (elt:=ev P C false ce) (λ_ _ _ z=>z) sc himp hw ⟨U,G,v,U',r,e,λx H' G' a hv=>k x H' G' a hv⟩
noncomputable def tDE(K:Frag)(P:aW)(C:Calls)(c:E):TE:=λY H Q=>False
def FF(X:Cx)(K:Frag)(P:aW)(C:Calls)(e:Expr)(c:E):Prop:=∀(x:Str) (i:Nat) (p pos:Pos),X.N.Nodup->X.N[i]?=some x->yS X.env.scope x->(X.fn x=true\/X.env.scope.names.lookup x=some .local) ->
 PS X (.Assign [.Name x p] e pos) (O4 (tE K P C c) (r6 i))
def lF:FF X K P C e .bad:=λx i p pos _ _ _ _ pins s Y H D I h=>by
 obtain⟨U,G,v,U',r,e,k⟩:=h;cases e
def W3(xo:bJ X K P C Z){its cond:List E}(sc:ScOk Z scope)(himp:Z.imps (fM scope)=some imp)(htg:kO (Z.inner scope) tg=some (is.length==1,is))
  (hi:PI X tg iter wi) (hs:∀x,foldedSetIterable iter X.env x=pure x)
  (hw:∀Y H (R:It->Hp->Prop),NK K P C k0 its Y H R->wi Y H R)
  (he:∀X',bJ X' K P C (Z.inner scope)->Ok3 X' K P C elt ce) (ht:∀X',bJ X' K P C (Z.inner scope)->sQ X' ifs (yL K P C cond)) :
  Ok3 X K P C (.ListComp elt [⟨tg,iter,ifs,0⟩] scope pos) (.comp ce is k0 its cond imp (eT scope).length)/\FF X K P C (.ListComp elt [⟨tg,iter,ifs,0⟩] scope pos) (.comp ce is k0 its cond imp (eT scope).length)/\PE X (.ListComp elt [⟨tg,iter,ifs,0⟩] scope pos) (tDE K P C (.comp ce is k0 its cond imp (eT scope).length)):=by
 have all:X.env.scope.kind=.function->(∀X',kT X scope (Z.inner scope).N X'->PG X' tg (gB K (is.length==1) is))/\(∀X',kT X scope (Z.inner scope).N X'->sQ X' ifs (yL K P C cond))/\∀X',kT X scope (Z.inner scope).N X'->PE X' elt (tE K P C ce):=by
  intro hk;have xi:∀X',kT X scope (Z.inner scope).N X'->bJ X' K P C (Z.inner scope):=λX' b=>xo.inner hk sc.nd b
  have hfn:∀X',kT X scope (Z.inner scope).N X'->∀x,(Z.inner scope).isLoc x=true->X'.fn x=true\/X'.env.scope.names.lookup x=some .local:=λX' b x hx=>by
   rw[(xi X' b).nm];unfold CC.isLoc at hx;rw[Bool.or_eq_true,ZB] at hx;rcases hx with hx | hx
   ·exact .inr (Zy hx)
   ·exact absurd hx.1 (by simp[CC.inner])
  exact⟨λX' b=>F2 (xi X' b) (hfn X' b) htg,λX' b=>ht X' (xi X' b),λX' b=>(he X' (xi X' b)).v⟩
 have hfk:∀p∈scope.names,p.2=.free->X.env.kindOf p.1=some .cell\/X.env.kindOf p.1=some .free:=λp hp hf=>by unfold PySem.Env.kindOf;rw[xo.nm];exact sc.out p hp hf
 have hPE:PE X (.ListComp elt [⟨tg,iter,ifs,0⟩] scope pos) (tE K P C (.comp ce is k0 its cond imp (eT scope).length)):=λpins s Y H Q I h=>by(obtain⟨h1,h2,h3⟩:=all I.ok.kind;exact XX (N':=(Z.inner scope).N) xo.calm hi hs sc.kind sc.cell sc.names hfk h1 h2 h3 pins s Y H Q I (DI xo sc himp hw h))
 refine⟨jE xo hPE (λi z=>nomatch z) (λU=>rfl) λ_=>rfl,λx i p spos hN hx hl hf=>?_,λpins s Y H Q I h=>?_⟩
 case refine_2 =>
  obtain⟨h1,h2,h3⟩:=all I.ok.kind
  cases cond with
  |nil=>exact h.elim
  |cons _ _=>exact h.elim
 obtain⟨b,hb⟩:∃b:Bool,swapsWith (.ListComp elt [⟨tg,iter,ifs,0⟩] scope pos) (some (.Name x p)) spos.line X.env=pure b:=⟨_,rfl⟩
 cases b with
 |false=>exact vR hPE (FN hN hx hl hf) hb
 |true =>
  intro pins s Y H D I h;obtain⟨h1,h2,h3⟩:=all I.ok.kind;exact BV hb hN hx hl hf xo.calm hi hs sc.kind sc.cell sc.names hfk h1 h2 h3 pins s Y H D I (DI xo sc himp hw h)
end
structure ArgsOk(X:Cx)(K:Frag)(P:aW)(C:Calls)(e:Expr)(cs:List E):Prop where
 h:∀(f:Str) (p:Pos) (args:List Expr) (kw:List _) (pos:Pos),e=.Call (.Name f p) args kw pos->args.all aX=true->PA X args (mF K P C cs)/\cs.length=args.length
theorem F1:∀(es:List Expr),(cT Z es).length=es.length
 |[]=>by rw[cT];rfl
 |e::es=>by rw[cT,Zk,Zk,F1 es]
section
variable{K:Frag}
def qE(h:kO Z tg=some (one,is))(n:one=false):∃elts k p,tg=.Tuple elts k p:=by
 cases tg<;>simp only[kO,reduceCtorEq] at h
 ·rename_i x pos
  cases q:Z.slotL x with
  |none=>rw[q] at h;cases h
  |some i=>rw[q] at h;cases h;cases n
 ·exact⟨_,_,_,rfl⟩
def LR(xo:bJ X K P C Z){cargs cond:List E}(hci:Ok3 X K P C iter ci)(hca:ArgsOk X K P C iter cargs){Φ:E->Prop}(bad:Φ .bad)
  (good:∀{k0:ItK} {its:List E} {imp is:List Nat} {wi:TI},ScOk Z scope->Z.imps (fM scope)=some imp->kO (Z.inner scope) tg=some (is.length==1,is)->PI X tg iter wi->(∀x,foldedSetIterable iter X.env x=pure x) ->
   (∀Y H (R:It->Hp->Prop),NK K P C k0 its Y H R->wi Y H R)->Φ (.comp ce is k0 its cond imp (eT scope).length)) :
  Φ (oQ Z scope tg iter ci cargs cond ce):=by
 unfold oQ;split
 ·rename_i hsc;have sc:=V8 hsc;split
  ·rename_i imp one is k0 its0 q1 q2 q3;split
   ·rename_i hsg;exact(Bool.false_ne_true hsg).elim
   split
   ·rename_i hk;exact nomatch hk
   split
   ·rename_i hone;rw[ZB,ZB] at hone;obtain⟨⟨hone,hfit⟩,hns⟩:=hone;have hone:=Zy hone;subst hone
    have gen:∀e:Expr,iter=e->vK e=true->some (ItK.of,[e])=some (k0,its0)->Φ (.comp ce is k0 (aA4 k0 ci cargs) cond imp (eT scope).length):=λe he' hn hq=>by(subst he';cases hq;exact good sc q1 q2 (PI.or (E5 hci.h) (LW hci.h)) (yO hn _) (λY H R q=>TQ xo.keq Y H R (UE q)))
    unfold qP at q3;split at q3
    ·rename_i x hx;obtain⟨⟨f,p⟩,args,pos'⟩:=x;obtain rfl:=MC hx;dsimp only at q3;split at q3
     ·rename_i hf;have hf:=Zy hf;subst hf;split at q3
      ·rename_i hgl;split at q3
       ·rename_i hc;cases q3;rw[ZB] at hc;obtain⟨h1,h2,h3,h4⟩:=CC.glob_ok xo hgl (λz=>nomatch z);have hm:=xo.blt _ h2;obtain⟨hpa,hcl⟩:=hca.h _ _ _ _ _ rfl hc.1;obtain _ | ⟨a,_ | ⟨b,_ | ⟨_,_⟩⟩⟩:=its0
        ·simp at hc
        ·obtain _ | ⟨c1,_ | ⟨_,_⟩⟩:=cargs
         ·simp at hcl
         ·have ns:=hc.1;rw[Zj,ZB] at ns;exact good sc q1 q2 (y4 h1 hm hpa (by rw[bH ns.1];rfl)) (λ_=>rfl) (λY H R q=>EX Y H R (UE q))
         ·simp at hcl
        ·obtain _ | ⟨c1,_ | ⟨c2,_ | ⟨_,_⟩⟩⟩:=cargs
         ·simp at hcl
         ·simp at hcl
         ·have ns:=hc.1;rw[Zj,ZB,Zj,ZB] at ns;exact good sc q1 q2 (zC h1 hm hpa (by rw[bH ns.1,bH ns.2.1];rfl) (by rw[bH ns.2.1];rfl)) (λ_=>rfl) (λY H R q=>FE Y H R (UE q))
         ·simp at hcl
        ·simp at hc
       ·cases q3
      ·cases q3
     ·split at q3
      ·rename_i hf;have hf:=Zy hf;subst hf;split at q3
       ·rename_i hgl;split at q3
        ·rename_i hc;cases q3;rw[ZB] at hc;obtain⟨h1,h2,h3,h4⟩:=CC.glob_ok xo hgl (λz=>nomatch z);have hm:=xo.blt _ h2;obtain⟨hpa,hcl⟩:=hca.h _ _ _ _ _ rfl hc.1;obtain _ | ⟨a,_ | ⟨_,_⟩⟩:=its0
         ·simp at hc
         ·obtain _ | ⟨c1,_ | ⟨_,_⟩⟩:=cargs
          ·simp at hcl
          ·have ns:=hc.1;rw[Zj,ZB] at ns;obtain⟨elts,kk,tp,rfl⟩:=qE q2 (by simpa[lA] using hfit);exact good sc q1 q2 (FG h1 hm hpa (by rw[bH ns.1];rfl)) (λ_=>rfl) (λY H R q=>wG xo.keq Y H R (UE q))
          ·simp at hcl
         ·simp at hc
        ·cases q3
       ·cases q3
      ·exact gen _ rfl rfl q3
    ·split at q3
     ·rename_i hx;split at q3
      ·split at q3
       ·cases q3;exact absurd hns (by decide)
       ·cases q3
      ·cases q3
     ·split at q3
      ·exact gen _ rfl ‹_› q3
      ·cases q3
   ·exact bad
  ·exact bad
 ·exact bad
def mJ(xo:bJ X K P C Z){cargs cond:List E}(hci:Ok3 X K P C iter ci)(hca:ArgsOk X K P C iter cargs)
  (he:∀X',bJ X' K P C (Z.inner scope)->Ok3 X' K P C elt ce) (ht:∀X',bJ X' K P C (Z.inner scope)->sQ X' ifs (yL K P C cond)) :
  Ok3 X K P C (.ListComp elt [⟨tg,iter,ifs,0⟩] scope pos) (oQ Z scope tg iter ci cargs cond ce)/\FF X K P C (.ListComp elt [⟨tg,iter,ifs,0⟩] scope pos) (oQ Z scope tg iter ci cargs cond ce)/\PE X (.ListComp elt [⟨tg,iter,ifs,0⟩] scope pos) (tDE K P C (oQ Z scope tg iter ci cargs cond ce)) :=
 LR xo hci hca (Φ:=λc=>Ok3 X K P C (.ListComp elt [⟨tg,iter,ifs,0⟩] scope pos) c/\FF X K P C (.ListComp elt [⟨tg,iter,ifs,0⟩] scope pos) c/\PE X (.ListComp elt [⟨tg,iter,ifs,0⟩] scope pos) (tDE K P C c)) ⟨aI,lF,λpins s Y H Q I h=>h.elim⟩ λsc q1 q2 hi hs hw=>W3 xo sc q1 q2 hi hs hw he ht
end
def aGq(i:Expr):Prop:=∃k p1 p2 p3,i=.Slice none none (some (.UnaryOp .USub (.Constant (.int 1) k p1) p2)) p3
def JX(h:JF i=true):aGq i:=by
 cases i with
 |Slice lo hi st q =>
  obtain _ | _:=lo
  ·obtain _ | _:=hi
   ·obtain _ | st:=st
    ·exact yI h
    ·cases st with
     |UnaryOp op a p =>
      cases op with
      |USub =>
       cases a with
       |Constant c k p1 =>
        cases c with
        |int n =>
         have h:=Zy (show(n==1)=true from h);subst h;exact Exists.intro _ ⟨_,_,_,rfl⟩
        |_=>exact yI h
       |_=>exact yI h
      |_=>exact yI h
     |_=>exact yI h
   ·exact yI h
  ·exact yI h
 |_=>exact yI h
def aFp(Z:CC)(a i:Expr)(p:Pos):(∃lo hi q,i=.Slice lo hi none q)\/((∀lo hi q,i≠.Slice lo hi none q)/\cE Z (.Subscript a i p)=if JF i then .bad else .ix (cE Z a) (cE Z i)):=by
 cases i with
 |Slice lo hi st q =>
  cases st with
  |none=>exact .inl ⟨_,_,_,rfl⟩
  |some _=>exact .inr ⟨(λ_ _ _ z=>nomatch z),rfl⟩
 |_=>exact .inr ⟨(λ_ _ _ z=>nomatch z),rfl⟩
def y9(K:Frag)(P:aW)(C:Calls)(n:Nat):Prop:=∀(X:Cx) (Z:CC),bJ X K P C Z->∀e:Expr,sizeOf e<n->Ok3 X K P C e (cE Z e)
def bD(h:a<b)(k:b<n+1):a<n:=Zl h (Nat.le_of_lt_succ k)
section
variable{K:Frag}
def rB{r:List Expr}(h:sizeOf (e::r)<n):sizeOf e<n:=Nat.lt_trans (by simp;omega) h
def AZ{r:List Expr}(h:sizeOf (e::r)<n):sizeOf r<n:=Nat.lt_trans (by simp;omega) h
theorem AQ(ih:y9 K P C n)(xo:bJ X K P C Z):∀es:List Expr,sizeOf es<n->es.all aX=true->PA X es (BD K P C (cT Z es))
 |[],_,_=>YD
 |e::r,hs,h=>by(rw[Zj,ZB] at h;exact O3 (ih _ _ xo e (rB hs)) (AQ ih xo r (AZ hs) h.2) h.1)
theorem mY(ih:y9 K P C n)(xo:bJ X K P C Z):∀es:List Expr,sizeOf es<n->es.all aX=true->PA X es (mF K P C (cT Z es))
 |[],_,_=>XC
 |e::r,hs,h=>by(rw[Zj,ZB] at h;exact Q9 (ih _ _ xo e (rB hs)) (mY ih xo r (AZ hs) h.2) h.1)
theorem S1(ih:y9 K P C n)(xo:bJ X K P C Z):∀vs:List Expr,sizeOf vs<n->vs≠[]->Ok2 X K P C .And vs (PD Z vs)
 |[],_,h=>absurd rfl h
 |[a],hs,_=>Q6 (ih _ _ xo a (rB hs))
 |a::b::r,hs,_=>F3 (ih _ _ xo a (rB hs)) (S1 ih xo (b::r) (AZ hs) (λz=>nomatch z))
theorem aDu(ih:y9 K P C n)(xo:bJ X K P C Z):∀vs:List Expr,sizeOf vs<n->vs≠[]->Ok2 X K P C .Or vs (cOr Z vs)
 |[],_,h=>absurd rfl h
 |[a],hs,_=>YG (ih _ _ xo a (rB hs))
 |a::b::r,hs,_=>JR (ih _ _ xo a (rB hs)) (aDu ih xo (b::r) (AZ hs) (λz=>nomatch z))
theorem o_n(ih:y9 K P C n)(xo:bJ X K P C Z):∀o:Option Expr,sizeOf o<n->PO X o (tO K P C (cO Z o))
 |none,_=>NN
 |some e,hs=>QC (ih _ _ xo e (Nat.lt_trans (by simp) hs))
def DS(ih:y9 K P C n)(xo:bJ X K P C Z)(e:Expr)(hs:sizeOf e<n):ArgsOk X K P C e (A1 Z e):=by
 cases e<;>first
  | (rename_i f args kw pos;exact⟨λf' p' args' kw' pos' z ns=>by cases z;exact⟨mY ih xo args (Nat.lt_trans (by simp;omega) hs) ns,F1 args⟩⟩)
  |exact⟨λf' p' args' kw' pos' z ns=>by cases z⟩
end
def NB{K:Frag}(h:Ok3 X K P C e c):Ok3 X K P C e (qF c):=by
 unfold qF;split
 ·exact aI
 ·exact h
def XH{K:Frag}(ih:y9 K P C n)(xo:bJ X K P C Z)(e:Expr)(hsz:sizeOf e<n+1):Ok3 X K P C e (cE Z e):=by
 cases e with
 |Name x p =>
  exact E4 xo _ _
 |Constant c k p =>
  exact RQ xo _ _ _
 |Tuple es k p =>
  show Ok3 X K P C _ (if es.all aX then .tup (cT Z es) else .bad);split
  ·exact aBH xo (AQ ih xo _ (bD (by simp;omega) hsz) ‹_›)
  ·exact aI
 |List es p =>
  show Ok3 X K P C _ (if es.all aX then .lst (cT Z es) else .bad);split
  ·exact Z3 xo (AQ ih xo _ (bD (by simp;omega) hsz) ‹_›)
  ·exact aI
 |Dict ks vs p =>
  refine O2 xo (λk c h1 h2=>?_) λv c h1 h2=>?_
  ·subst h1;cases h2;exact NB (ih _ _ xo k (bD (by simp;omega) hsz))
  ·subst h1;cases h2;exact ih _ _ xo v (bD (by simp;omega) hsz)
 |BinOp a op b p =>
  exact aAw xo (ih _ _ xo _ (bD (by simp;omega) hsz)) (ih _ _ xo _ (bD (by simp;omega) hsz))
 |UnaryOp op a p =>
  cases op with
  |Not =>
   exact aBb xo (ih _ _ xo _ (bD (by simp;omega) hsz))
  |USub =>
   exact aBA xo (ih _ _ xo _ (bD (by simp;omega) hsz))
  |_=>exact aI
 |Compare a ops cs p =>
  obtain _ | ⟨op,_ | ⟨op',_ | ⟨_,_⟩⟩⟩:=ops
  ·exact aI
  ·obtain _ | ⟨b,_ | ⟨_,_⟩⟩:=cs
   ·exact aI
   ·show Ok3 X K P C _ (if behindInMarks op b then .bad else .cmp op (cE Z a) (cE Z b));split
    ·exact aI
    ·exact aCG xo (ih _ _ xo _ (bD (by simp;omega) hsz)) (ih _ _ xo _ (bD (by simp;omega) hsz)) (by rename_i h;simpa using h)
   ·exact aI
  ·obtain _ | ⟨b,_ | ⟨c,_ | ⟨_,_⟩⟩⟩:=cs
   ·exact aI
   ·exact aI
   ·show Ok3 X K P C _ (if behindInMarks op' c then .bad else .cmp2 op op' (cE Z a) (cE Z b) (cE Z c));split
    ·exact aI
    ·exact ZJ xo (ih _ _ xo _ (bD (by simp;omega) hsz)) (ih _ _ xo _ (bD (by simp;omega) hsz)) (ih _ _ xo _ (bD (by simp;omega) hsz)) (by rename_i h;simpa using h)
   ·exact aI
  ·exact aI
 |BoolOp op vs p =>
  obtain _ | ⟨a,_ | ⟨b,r⟩⟩:=vs
  ·cases op<;>exact aI
  ·cases op<;>exact aI
  ·cases op with
   |And =>
    exact(F3 (ih _ _ xo _ (bD (by simp;omega) hsz)) (S1 ih xo _ (bD (by simp;omega) hsz) (by simp))).ok3 λi z=>nomatch z
   |Or =>
    exact(JR (ih _ _ xo _ (bD (by simp;omega) hsz)) (aDu ih xo _ (bD (by simp;omega) hsz) (by simp))).ok3 λi z=>nomatch z
 |IfExp c a b p =>
  exact aI
 |Subscript a i p =>
  rcases aFp Z a i p with ⟨lo,hi,q,rfl⟩ | ⟨hn,e⟩
  ·exact aFb xo (ih _ _ xo _ (bD (by simp;omega) hsz)) (o_n ih xo _ (bD (by simp;omega) hsz)) (o_n ih xo _ (bD (by simp;omega) hsz))
  ·rw[e];split
   ·rename_i hr;obtain⟨k,p1,p2,p3,rfl⟩:=JX hr;exact aI
   ·exact aEL xo (ih _ _ xo _ (bD (by simp;omega) hsz)) (ih _ _ xo _ (bD (by simp;omega) hsz)) (HU hn)
 |Call fn args kw pos =>
  cases fn with
  |Name f p =>
   cases kw with
   |nil =>
    show Ok3 X K P C _ (if args.all aX&&decide (args≠[]) then(match Z.glob f with | .fn g=>.call g (cT Z args) | .cls ns=>.make f ns (cT Z args) | .blt=>if f=("isinstance":Str) then NX Z args (cT Z args) else OK f args (cT Z args) | _=>.bad) else .bad);split
    ·rename_i hc;rw[ZB] at hc;obtain⟨ns,ne⟩:=hc
     cases args with
     |nil=>simp at ne
     |cons a r =>
      split
      ·rename_i g hg;exact YQ xo hg ns (mY ih xo _ (bD (by simp;omega) hsz) ns)
      ·rename_i g hg;exact YC xo hg ns (AQ ih xo _ (bD (by simp;omega) hsz) ns)
      ·rename_i hg;split
       ·rename_i hf;subst hf;unfold NX;split
        ·rename_i t a' _ e1 e2;split
         ·rename_i ty hty;simp only[cT,List.cons.injEq] at e1 e2;obtain⟨rfl,rfl⟩:=e1;obtain⟨rfl,_⟩:=e2;rw[Zj,ZB] at ns;exact aBi xo hg hty ns.1 (ih _ _ xo _ (bD (by simp;omega) hsz))
         ·simp only[cT,List.cons.injEq] at e1 e2;obtain⟨rfl,rfl⟩:=e1;obtain⟨rfl,_⟩:=e2;rw[Zj,ZB] at ns
          (unfold aBW;repeat' split)<;>exact aI
        ·exact aI
       ·unfold OK;split
        ·rename_i hf2;subst hf2;exact CD xo hg (b:=.len) rfl ns (mY ih xo _ (bD (by simp;omega) hsz) ns)
        ·split
         ·exact aI
         ·split
          ·exact aI
          ·split
           ·rename_i hf2;subst hf2;exact CD xo hg (b:=.list) rfl ns (mY ih xo _ (bD (by simp;omega) hsz) ns)
           ·split
            ·rename_i b hb;exact CD xo hg hb ns (mY ih xo _ (bD (by simp;omega) hsz) ns)
            ·exact aI
      ·exact aI
    ·exact aI
   |cons _ _=>exact aI
  |Attribute o m apos =>
   cases o with
   |Name x p =>
    cases kw with
    |nil =>
     show Ok3 X K P C _ (P7 Z x m apos pos args (cT Z args));unfold P7;split
     ·rename_i tb hm;split
      ·rename_i hc;rw[ZB,ZB] at hc;obtain⟨⟨ns,hl⟩,hf⟩:=hc;split
       ·exact X9 xo ‹_› hm ns hl (of_decide_eq_true hf) (mY ih xo _ (bD (by simp;omega) hsz) ns) λz=>by rw[z,cT]
       ·exact aI
      ·exact aI
     ·split
      ·rename_i a c hcs;split
       ·rename_i hc;rw[ZB,ZB] at hc;obtain⟨⟨ns,hl⟩,hm⟩:=hc;have hm:=Zy hm;subst hm;split
        ·simp only[cT,List.cons.injEq] at hcs;obtain⟨rfl,_⟩:=hcs;exact aDs xo ‹_› hl ns (ih _ _ xo _ (bD (by simp;omega) hsz))
        ·exact aI
       ·split
        ·rename_i hc;rw[ZB,ZB] at hc;obtain⟨⟨ns,hl⟩,hm⟩:=hc;have hm:=Zy hm;subst hm;split
         ·simp only[cT,List.cons.injEq] at hcs;obtain⟨rfl,_⟩:=hcs;exact aDm xo ‹_› hl ns (ih _ _ xo _ (bD (by simp;omega) hsz))
         ·exact aI
        ·split
         ·rename_i hc;rw[ZB,ZB] at hc;obtain⟨⟨ns,hl⟩,hm⟩:=hc;have hm:=Zy hm;subst hm;exact aI
         ·exact aI
      ·split
       ·rename_i hc;rw[ZB] at hc;obtain⟨hl,hm⟩:=hc;have hm:=Zy hm;subst hm;exact aI
       ·exact aI
      ·rename_i a b c c' hcs;split
       ·rename_i hc;rw[ZB,ZB,ZB] at hc;obtain⟨⟨⟨ns,ns2⟩,hl⟩,hm⟩:=hc;have hm:=Zy hm;subst hm;split
        ·simp only[cT,List.cons.injEq] at hcs;obtain⟨rfl,rfl,_⟩:=hcs;exact ZZ xo ‹_› hl ns ns2 (ih _ _ xo _ (bD (by simp;omega) hsz)) (ih _ _ xo _ (bD (by simp;omega) hsz))
        ·exact aI
       ·exact aI
      ·exact aI
    |cons _ _=>exact aI
   |Call g as kw2 p2 =>
    cases as with
    |nil=>exact aI
    |cons a0 as0 =>
     cases kw with
     |nil =>
      show Ok3 X K P C _ (GC Z m apos pos args (cE Z (.Call g (a0::as0) kw2 p2)) (cT Z args));unfold GC;split
      ·rename_i tb hm;split
       ·rename_i hc;rw[ZB,ZB] at hc;exact aI
       ·exact aI
      ·exact aI
     |cons _ _=>exact aI
   |_=>exact aI
  |_=>exact aI
 |Attribute o f p =>
  cases o with
  |Name x q =>
   exact aCO xo
  |_=>exact aI
 |ListComp elt gs scope pos =>
  obtain _ | ⟨⟨tg,iter,ifs,m⟩,_ | ⟨_,_⟩⟩:=gs
  ·exact aI
  ·obtain _ | ⟨c,_ | ⟨_,_⟩⟩:=ifs<;>obtain(_ | _) | _:=m
   ·exact(mJ xo (ih _ _ xo _ (bD (by simp;omega) hsz)) (DS ih xo _ (bD (by simp;omega) hsz)) (λX' xo'=>ih _ _ xo' _ (bD (by simp;omega) hsz)) (λX' xo'=>DM)).1
   ·exact aI
   ·exact aI
   ·exact(mJ xo (ih _ _ xo _ (bD (by simp;omega) hsz)) (DS ih xo _ (bD (by simp;omega) hsz)) (λX' xo'=>ih _ _ xo' _ (bD (by simp;omega) hsz)) (λX' xo'=>CM (ih _ _ xo' _ (bD (by simp;omega) hsz)))).1
   all_goals exact aI
  ·obtain _ | ⟨c,_ | ⟨_,_⟩⟩:=ifs<;>obtain(_ | _) | _:=m<;>exact aI
 |_=>exact aI
theorem rT{K:Frag}:∀n:Nat,y9 K P C n
 | 0=>λ_ _ _ _ h=>absurd h (Nat.not_lt_zero _)
 |n+1=>λ_ _ xo e h=>XH (rT n) xo e h
section
variable{K:Frag}
def gO(xo:bJ X K P C Z)(e:Expr):Ok3 X K P C e (cE Z e):=rT _ _ _ xo e (Nat.lt_succ_self _)
def CT(xo:bJ X K P C Z)(e:Expr):ArgsOk X K P C e (A1 Z e):=DS (rT _) xo e (Nat.lt_succ_self _)
def rO(xo:bJ X K P C Z)(es:List Expr)(h:es.all aX=true):PA X es (mF K P C (cT Z es)):=mY (rT _) xo es (Nat.lt_succ_self _) h
end
def aAh{K:Frag}(xo:bJ X K P C Z)(e:Expr)(h:HX e=true):FF X K P C e (cE Z e):=by
 cases e<;>simp only[HX,Bool.false_eq_true] at h;rename_i elt gs scope pos;obtain _ | ⟨⟨tg,iter,ifs,n⟩,_ | ⟨_,_⟩⟩:=gs
 ·exact lF
 ·obtain _ | ⟨c,_ | ⟨_,_⟩⟩:=ifs<;>obtain(_ | _) | _:=n
  ·exact(mJ xo (gO xo iter) (CT xo iter) (λX' xo'=>gO xo' elt) (λX' xo'=>DM)).2.1
  ·exact lF
  ·exact lF
  ·exact(mJ xo (gO xo iter) (CT xo iter) (λX' xo'=>gO xo' elt) (λX' xo'=>CM (gO xo' c))).2.1
  all_goals exact lF
 ·obtain _ | ⟨c,_ | ⟨_,_⟩⟩:=ifs<;>obtain(_ | _) | _:=n<;>exact lF
section
variable{X:Cx}{K:Frag}{P:aW}{C:Calls}{W:Nat}{Z:CC}
def XFl(X:Cx)(K:Frag)(U:Env)(Y:St)(H G:Hp)(U':Env)(x:Exc):Prop:=∀pins Y' H' G' s' a Ca p,AftS K U Y H G U' Y' H' G'->Inv X pins Y' H' s'->aFY X pins H' s'.heap a Ca p->nsIn K mainGlobals x.cls=some (some (.ref Ca))->ExcG K Ca->S4 K G' Ca p x.num->X.xe (.ref a) s'
def XFl.pre(a:AftS K U Y H G U1 Y1 H1 G1)(h:XFl X K U Y H G U' x):XFl X K U1 Y1 H1 G1 U' x:=λpins Y' H' G' s' b Ca p q=>h pins Y' H' G' s' b Ca p (a.trans q)
def S0(h1:PE X e t)(h2:PE X e u):PE X e (λY H Q=>t Y H Q\/u Y H Q):=λpins s Y H Q I q=>q.elim (h1 pins s Y H Q I) (h2 pins s Y H Q I)
end
section
variable{X:Cx}{K:Frag}{P:aW}{C:Calls}{W:Nat}{Z:CC}
def iO(Z:CC)(e:Expr):Prop:=(∃f p a r pos g,e=.Call (.Name f p) (a::r) [] pos/\Z.glob f=.fn g/\(a::r).all aX=true/\cE Z e=.call g (cT Z (a::r)))\/∃elt tg iter ifs sc pos,e=.ListComp elt [⟨tg,iter,ifs,0⟩] sc pos/\(ifs=[]\/∃c1,ifs=[c1])
end
section
variable{X:Cx}{K:Frag}{P:aW}{C:Calls}{W:Nat}{Z:CC}{pins pins':List (Addr×Obj)}{Y:St}{H G:Hp}{s:Shared}
abbrev Cx.re(X:Cx)(E:Value->Shared->Prop)(pn:List (Addr×Obj)):Cx:={ X with xe:=E,pn:=pn }
abbrev Cx.ma(X:Cx)(v:Value):Cx:={ X with A:=X.A.mark (some v),calm:=false,xe:=λ_ _=>False }
theorem bJ.re{E:Value->Shared->Prop}(xo:bJ X K P C Z):bJ (Cx.re X E pn) K P C Z :=
 bJ.of xo.keq xo.neq xo.nm xo.nd xo.calm xo.hh xo.hu xo.con xo.blt (λx f h=>⟨(xo.fn x f h).ex⟩) (λx ns h=>⟨(xo.cls x ns h).ex⟩) (λm tb c f h1 h2=>⟨(xo.mth m tb c f h1 h2).ex⟩) xo.rm xo.sub xo.subx ⟨xo.exc,λx h=>⟨(xo.exi x h).ex⟩⟩ xo.exs (λx f h=>⟨(xo.fnX x f h).ex⟩) xo.tp
def R3
  (hb:∀E pn,PassesOwn (model X.prog X.w) X.A X.env E->gN (Cx.re X E pn) body (pO K P C W cb)):PS X (.Try body hs o f pos) (tS K P C W (UC cb hs o f)):=bM
theorem bJ.ma{E:Value->Shared->Prop}(xo:bJ X K P C Z):XOkB false (Cx.ma (Cx.re X E pn) v) K P C Z:=⟨xo.keq,xo.neq,xo.nm,xo.nd,xo.con,xo.blt,xo.sub,xo.subx,λz=>nomatch z⟩
end
section
variable{K:Frag}
def RY(xo:bJ X K P C Z)(h:Z.slotL x=some i):X.N[i]?=some x/\L2.yS X.env.scope x/\Z.isLoc x=true:=by
 unfold CC.slotL at h;split at h
 ·rename_i hl
  have hN:X.N[i]?=some x:=by
   unfold CC.slot at h;split at h
   ·cases h
   ·split at h
    ·rw[xo.neq];exact mN h
    ·cases h
  refine⟨hN, ?_,hl⟩;unfold L2.yS;rw[xo.nm];unfold CC.isLoc at hl;rw[Bool.or_eq_true,ZB] at hl;rcases hl with hl | hl
  ·exact .inl (Zy hl)
  ·exact .inr (Zy hl.2)
 ·cases h
def VP(xo:bJ X K P C Z)(hfn:∀x,Z.isLoc x=true->X.fn x=true\/X.env.scope.names.lookup x=some .local)(hi:Z.slotL x=some i)(h:FF X K P C e c):PS X (.Assign [.Name x p] e pos) (tS K P C W (.asg i c)):=by
 obtain⟨h1,h2,h3⟩:=RY xo hi;refine TS.imp_ps (h x i p pos (by rw[xo.neq];exact xo.nd) h1 h2 (hfn x h3)) λD Y H hz=>?_
 obtain⟨U,G,fl,U',r,e,k⟩:=hz;obtain⟨v,U1,e1,e2⟩:=gA e k.ne;unfold kL at e2
 cases q:store i v U1 with
 |none=>rw[q] at e2;cases e2
 |some U2 =>
  rw[q] at e2;cases e2;exact⟨U,G,v,U1,r,e1,λx H' G' a hv=>k _ H' G' (Aft.store r a q hv)⟩
def W0(xo:bJ X K P C Z)(hfn:∀x,Z.isLoc x=true->X.fn x=true\/X.env.scope.names.lookup x=some .local){Φ:List E->Prop}
  (ht:kO Z tg=some (one,is)) (hi:qP Z it=some (k0,its)) (hfit:lA k0 one=true) (fin:∀{wi:TI} {its':List E},(∀x,foldedSetIterable it X.env x=pure x)->PI X tg it wi->(∀Y H (R:It->Hp->Prop),FHw K P C k0 its' Y H R->wi Y H R)->Φ its'):Φ (cT Z its):=by
 have gen:∀e:Expr,it=e->vK e=true->some (ItK.of,[e])=some (k0,its)->Φ (cT Z its):=λe he hn hq=>by(subst he;cases hq;exact fin (yO hn _) (PI.or (E5 (gO xo it).h) (LW (gO xo it).h)) λY H R q=>TQ xo.keq Y H R q)
 unfold qP at hi;split at hi
 ·rename_i x hx;obtain⟨⟨f,p⟩,args,pos'⟩:=x;obtain rfl:=MC hx;dsimp only at hi;split at hi
  ·rename_i hf;have hf:=Zy hf;subst hf;split at hi
   ·rename_i hgl;split at hi
    ·rename_i hc;cases hi;rw[ZB] at hc;obtain⟨h1,h2,h3,h4⟩:=CC.glob_ok xo hgl (λz=>nomatch z);have hm:=xo.blt _ h2;obtain _ | ⟨a,_ | ⟨b,_ | ⟨_,_⟩⟩⟩:=its
     ·simp at hc
     ·have ns:=hc.1;rw[Zj,ZB] at ns;exact fin (λ_=>rfl) (y4 h1 hm (rO xo [a] hc.1) (by rw[bH ns.1];rfl)) λY H R q=>EX Y H R q
     ·have ns:=hc.1;rw[Zj,ZB,Zj,ZB] at ns;exact fin (λ_=>rfl) (zC h1 hm (rO xo [a,b] hc.1) (by rw[bH ns.1,bH ns.2.1];rfl) (by rw[bH ns.2.1];rfl)) λY H R q=>FE Y H R q
     ·simp at hc
    ·cases hi
   ·cases hi
  ·split at hi
   ·rename_i hf;have hf:=Zy hf;subst hf;split at hi
    ·rename_i hgl;split at hi
     ·rename_i hc;cases hi;rw[ZB] at hc;obtain⟨h1,h2,h3,h4⟩:=CC.glob_ok xo hgl (λz=>nomatch z);have hm:=xo.blt _ h2;obtain _ | ⟨a,_ | ⟨_,_⟩⟩:=its
      ·simp at hc
      ·have ns:=hc.1;rw[Zj,ZB] at ns;obtain⟨elts,kk,tp,rfl⟩:=qE ht (by simpa[lA] using hfit);exact fin (λ_=>rfl) (FG h1 hm (rO xo [a] hc.1) (by rw[bH ns.1];rfl)) λY H R q=>wG xo.keq Y H R q
      ·simp at hc
     ·cases hi
    ·cases hi
   ·exact gen _ rfl rfl hi
 ·split at hi
  ·rename_i x h0;obtain⟨f,a,x,c⟩:=x;obtain⟨p,jj,qq,kp,pos',rfl⟩:=aBQ h0;clear h0;dsimp only at hi;split at hi
   ·rename_i hc;rw[ZB,ZB,ZB] at hc;obtain⟨⟨⟨hf,hx⟩,ns⟩,h1⟩:=hc;have hf:=Zy hf;have hx:=Zy hx;have h1:=Zy h1;subst hf hx h1;split at hi
    ·rename_i hgl;cases hi;obtain⟨h1,h2,h3,h4⟩:=CC.glob_ok xo hgl (λz=>nomatch z);have hm:=xo.blt _ h2;obtain⟨elts,kk,tp,rfl⟩:=qE ht (by simpa[lA] using hfit);exact fin (λ_=>rfl) (NZ h1 hm (rO xo [_] (by rw[Zj,ns];rfl)) (by rw[bH ns];rfl)) λY H R q=>wG xo.keq Y H R q
    ·cases hi
   ·cases hi
  ·split at hi
   ·exact gen _ rfl ‹_› hi
   ·cases hi
def WT(xo:bJ X K P C Z)(hfn:∀x,Z.isLoc x=true->X.fn x=true\/X.env.scope.names.lookup x=some .local){Φ:List E->Prop}
  (ht:kO Z tg=some (one,is)) (hi:qP Z it=some (k0,its)) (hfit:lA k0 one=true) (fin:∀{wi:TI} {its':List E},(∀x,foldedSetIterable it X.env x=pure x)->PI X tg it wi->(∀Y H (R:It->Hp->Prop),FHw K P C k0 its' Y H R->wi Y H R)->Φ its'):Φ (SR Z it body (cT Z its)):=by
 exact W0 xo hfn ht hi hfit fin
structure SCx(X:Cx)(K:Frag)(P:aW)(C:Calls)(Z:CC):Prop where
 po:PassesOwn (model X.prog X.w) X.A X.env X.xe
 xo:bJ X K P C Z
 hfn:∀x,Z.isLoc x=true->X.fn x=true\/X.env.scope.names.lookup x=some .local
 sk:Z.top=true->X.stack=X.env::X.outer/\X.env.frame=some X.env.locals
def IhS(K:Frag)(P:aW)(C:Calls)(W:Nat)(Z:CC)(n:Nat):Prop:=∀X:Cx,SCx X K P C Z->∀sts:List Stmt,sizeOf sts<n ->
 gN X sts (pO K P C W (mK Z sts))/\True
theorem SCx.re{E:Value->Shared->Prop}(c:SCx X K P C Z)(po:PassesOwn (model X.prog X.w) X.A X.env E):SCx (Cx.re X E pn) K P C Z:=⟨po,c.xo.re,c.hfn,c.sk⟩
def aDZ(ih:IhS K P C W Z n)(cx:SCx X K P C Z)(st:Stmt)(hZ:sizeOf st<n+1):PS X st (tS K P C W (cS Z st)):=by
 obtain⟨po,xo,hfn,sk⟩:=id cx
 cases st with
 |Pass _=>exact QD
 |Break _=>exact V4
 |Continue _=>exact X5
 |Return e _ =>
  cases e with
  |some e=>exact YU (gO xo e)
  |none=>exact RA
 |Expr e _ =>
  show PS X _ (tS K P C W (if cY e then .expr (cE Z e) else .bad));split
  ·exact RB (gO xo _) ‹_›
  ·exact bM
 |If c a b _=>exact aCP (gO xo _) (ih _ cx a (bD (by simp;omega) hZ)).1 (ih _ cx b (bD (by simp;omega) hZ)).1
 |While c b o _ =>
  cases o with
  |nil=>exact bM
  |cons _ _=>exact bM
 |For tg it b o _ =>
  cases o with
  |nil =>
   show PS X _ (tS K P C W (match kO Z tg,qP Z it with
    |some (one,is),some (k,its)=>if lA k one then .for is one k (SR Z it b (cT Z its)) (mK Z b) else .bad
    |_,_=>.bad))
   cases h1:kO Z tg with
   |none=>exact bM
   |some t =>
    cases h2:qP Z it with
    |none=>exact bM
    |some u =>
     show PS X _ (tS K P C W (if lA u.1 t.1 then .for t.2 t.1 u.1 (SR Z it b (cT Z u.2)) (mK Z b) else .bad));split
     ·exact WT xo hfn h1 h2 ‹_› (Φ:=λits'=>PS X (.For tg it b [] _) (tS K P C W (.for t.2 t.1 u.1 its' (mK Z b)))) λhs hi hw=>aBC po xo (F2 xo hfn h1) (ih _ cx b (bD (by simp;omega) hZ)).1 hs hi hw
     ·exact bM
  |cons _ _=>exact bM
 |Assign ts e _ =>
  obtain _ | ⟨t,_ | ⟨_,_⟩⟩:=ts
  ·exact bM
  ·cases t with
   |Name x p =>
    show PS X _ (tS K P C W (match Z.slotL x with | some i=>if cY e||HX e then .asg i (cE Z e) else .bad | none=>.bad));split
    ·split
     ·rename_i hc;rw[Bool.or_eq_true] at hc;rcases hc with hc | hc
      ·exact X1 xo hfn ‹_› (gO xo _) hc
      ·exact VP xo hfn ‹_› (aAh xo _ hc)
     ·exact bM
    ·exact bM
   |Tuple ts _ _ =>
    show PS X _ (tS K P C W (match hX Z ts with | some is=>if cY e&&vC e then .asgT is (cE Z e) else .bad | none=>.bad));split
    ·split
     ·rename_i h;rw[ZB] at h;exact OO xo hfn ‹_› (gO xo _) h.1 h.2
     ·exact bM
    ·exact bM
   |Subscript a k _ =>
    cases a with
    |Name x p =>
     show PS X _ (tS K P C W (match Z.slot x with | some i=>if cY e&&C3 k then .set i (cE Z k) (cE Z e) else .bad | none=>.bad));split
     ·split
      ·rename_i h;rw[ZB] at h;refine U7 xo ‹_› (gO xo _) (gO xo _) h.1 λv=>?_
       have h2:=h.2
       cases k<;>first | rfl | cases h2
      ·exact bM
     ·exact bM
    |_=>exact bM
   |_=>exact bM
  ·cases t with
   |Subscript a _ _=>cases a<;>exact bM
   |_=>exact bM
 |AugAssign t op e _ =>
  cases t with
  |Name x p =>
   cases op with
   |Add =>
    show PS X _ (tS K P C W (match Z.slotL x with | some i=>if cY e then .bad else .bad | none=>.bad));split
    ·split
     ·exact bM
     ·exact bM
    ·exact bM
   |_=>exact bM
  |_=>exact bM
 |Raise e c _ =>
  cases e with
  |none=>exact bM
  |some e =>
   cases c with
   |none =>
    show PS X _ (tS K P C W (QE Z e));unfold QE;split
    ·split
     ·split
      ·exact xF λU=>rfl
      ·exact xF λU=>rfl
      ·exact bM
     ·exact bM
    ·exact bM
   |some _=>exact bM
 |Try body hs o f _=>exact R3 λE pn po'=>(ih _ (cx.re po') body (bD (by simp;omega) hZ)).1
 |_=>exact bM
def aA3(ih:IhS K P C W Z n)(cx:SCx X K P C Z)(sts:List Stmt)(hZ:sizeOf sts<n+1):gN X sts (pO K P C W (mK Z sts)):=by
 obtain⟨po,xo,hfn,sk⟩:=id cx
 cases sts with
 |nil=>exact OJ
 |cons s r=>exact MX (aDZ ih cx s (Nat.lt_trans (by simp;omega) hZ)) (ih _ cx r (bD (by simp;omega) hZ)).1
theorem ihS:∀n:Nat,IhS K P C W Z n
 | 0,_,_,_,h=>absurd h (Nat.not_lt_zero _)
 |n+1,_,c,sts,h=>⟨aA3 (ihS n) c sts h,trivial⟩
def aCn(po:PassesOwn (model X.prog X.w) X.A X.env X.xe)(xo:bJ X K P C Z)(hfn:∀x,Z.isLoc x=true->X.fn x=true\/X.env.scope.names.lookup x=some .local)(sk:Z.top=true->X.stack=X.env::X.outer/\X.env.frame=some X.env.locals)(sts:List Stmt):gN X sts (pO K P C W (mK Z sts)):=(ihS _ X ⟨po,xo,hfn,sk⟩ sts (Nat.lt_succ_self _)).1
end
noncomputable def UA:Expr->Option Str
 |.Name s _=>some s
 |_=>none
noncomputable def FL:Expr->Option (Str×Str)
 |.Attribute e f _=>(UA e).map λs=>(s,f)
 |_=>none
noncomputable def asX:Stmt->Option (Str×Str×Str)
 |.Assign ts v _=>(match ts with
  |[]=>none
  |t::r=>(match r with
   |_::_=>none
   |[]=>(FL t).bind λp=>(UA v).map λq=>(p.1,p.2,q)))
 |_=>none
def KH{e:Expr}{s:Str}(h:UA e=some s):∃p,e=.Name s p:=by
 unfold UA at h;split at h
 ·cases h;exact⟨_,rfl⟩
 ·cases h
def aBa{e:Expr}{x:Str×Str}(h:FL e=some x):∃p1 p2,e=.Attribute (.Name x.1 p1) x.2 p2:=by
 unfold FL at h;split at h
 ·obtain⟨s,hs,rfl⟩:=Option.map_eq_some_iff.mp h;obtain⟨_,rfl⟩:=KH hs;exact⟨_,_,rfl⟩
 ·cases h
def aC8{st:Stmt}{x:Str×Str×Str}(h:asX st=some x):∃p1 p2 p3 p4,st=.Assign [.Attribute (.Name x.1 p1) x.2.1 p2] (.Name x.2.2 p3) p4:=by
 unfold asX at h;split at h
 ·rename_i ts v _
  cases ts with
  |nil=>cases h
  |cons t r =>
   cases r with
   |cons=>cases h
   |nil =>
    obtain⟨p,hp,h⟩:=Option.bind_eq_some_iff.mp h;obtain⟨q,hq,rfl⟩:=Option.map_eq_some_iff.mp h;obtain⟨_,_,rfl⟩:=aBa hp;obtain⟨_,rfl⟩:=KH hq;exact⟨_,_,_,_,rfl⟩
 ·cases h
noncomputable def k8(ps:List Str):Nat->List Stmt->Option (List Str)
 |j,[]=>if j=ps.length then some [] else none
 |j,st::r=>(asX st).bind λx=>if ps[0]?=some x.1/\ps[j]?=some x.2.2/\i8 x.1=false/\i8 x.2.2=false then(k8 ps (j+1) r).map (x.2.1 :: ·) else none
theorem A4:∀{fs:List (Str×V)},f ∉ fs.map (·.1)->gI f y fs=fs++[(f,y)]
 |[],_=>rfl
 | (g,x)::r,h=>by(rw[Zs,List.mem_cons,not_or] at h;rw[gI,Zp (λz=>h.1 z.symm),A4 h.2];rfl)
def aBT(h:H a=some o):aO H a o=H:=by
 funext b
 unfold aO;split
 ·rename_i z;rw[z,h]
 ·rfl
theorem yP{K:Frag}(hK:X.K=K)(hN:∀(i:Nat) x,ps[i]?=some x->X.N[i]?=some x/\LD X.env.scope x)(hl:xs.length+1=ps.length)(cl:Cls K Ca):∀(r:List Stmt) (j:Nat) (ns:List Str),k8 ps j r=some ns->1<=j ->
  ∃t,gN X r t/\∀(D:Ends) (Y:L2.St) (H:Hp) (fs:List (Str×V)),(∀(i:Nat) v,(V.ref a::xs)[i]?=some v->Y[i]?=some (some v))->H a=some (.ins Ca dx fs)->(∀f∈ns,kI K Ca f)->(fs.map (·.1)++ns).Nodup->fs.length+ns.length<1000 ->
   D.nx Y (aO H a (.ins Ca dx (fs++ns.zip (xs.drop (j-1)))))->t D Y H
 |[],j,ns,h,hj=>by
  unfold k8 at h;split at h
  ·rename_i hje;cases h;refine⟨HG,FV,λD Y H fs _ ha _ _ _ q=>?_⟩;simp only[List.zip_nil_left,List.append_nil] at q;rw[aBT ha] at q;exact q
  ·cases h
 |st::r,j,ns,h,hj=>by
  unfold k8 at h;obtain⟨x,hx,h2⟩:=Option.bind_eq_some_iff.mp h;obtain⟨p1,p2,p3,p4,rfl⟩:=aC8 hx;obtain⟨s,f,q⟩:=x;replace h:=h2;dsimp only at h;split at h
  ·rename_i hc;obtain⟨c1,c2,c3,c4⟩:=hc
   cases q1:k8 ps (j+1) r with
   |none=>rw[q1] at h;cases h
   |some ns' =>
    rw[q1] at h;cases h;obtain⟨t,ht,k⟩:=yP hK hN hl cl r (j+1) ns' q1 (by omega);simp only[i8,Bool.or_eq_false_iff] at c3 c4;have v0:=CN (X:=X) (pos:=p1) (hN 0 s c1).1 (hN 0 s c1).2 c3.1.1 c3.1.2;have v1:=CN (X:=X) (pos:=p3) (hN j q c2).1 (hN j q c2).2 c4.1.1 c4.1.2;refine⟨_,B5 (aBu v0 v1 rfl) ht,λD Y H fs hY ha hn JN hlt qq=>?_⟩;have hj2:j<ps.length:=(Zc.mp c2).1;obtain⟨j',rfl⟩:∃j',j=j'+1:=⟨j-1,by omega⟩
    have hxl:j'<xs.length:=by omega
    have hx:(V.ref a::xs)[j'+1]?=some xs[j']:=by simp[hxl]
    have hnf:f ∉ fs.map (·.1):=λz=>by
     have:=(List.nodup_append.mp JN).2.2 f z f (by simp)
     exact this rfl
    refine⟨_,hY _ _ hx,.ref a,hY 0 _ rfl,a,Ca,dx,fs,rfl,ha,by rw[hK];exact cl,by rw[hK];exact hn f (by simp),by simp at hlt;omega, ?_⟩;rw[A4 hnf];refine k D Y _ _ hY a9 (λg hg=>hn g (Ze _ hg)) ?_ ?_ ?_
    ·simpa using JN
    ·simp at hlt ⊢;omega
    ·rw[rY]
     have e:fs++(f::ns').zip (xs.drop (j'+1-1))=fs++[(f,xs[j'])]++ns'.zip (xs.drop (j'+1+1-1)):=by(rw[show j'+1-1=j' from rfl,show j'+1+1-1=j'+1 from rfl,List.drop_eq_getElem_cons hxl,List.zip_cons_cons,List.append_assoc];rfl)
     rw[<- e];exact qq
  ·cases h
def X2{K:Frag}{mg:Str->Option Value}{st:Stmt}{fa:Addr}(F:Fun K y qual st fa fd)(S:FnScope N ps (aU st))(hb:k8 ps 1 (bY st)=some ns)(hp:ps.length=ns.length+1)(JN:ns.Nodup)(hlt:ns.length<1000) :
  FnOk Pr w K mg base qT 1 fa fd ps (JT K ns):=by
 refine F.ok S (λvs H Q E h=>?_) λcdv A outer s H vs Q E hr h=>?_
 ·obtain⟨a,Ca,dx,xs,rfl,h1,_⟩:=h;rw[Zk,h1,hp]
 ·obtain⟨a,Ca,dx,xs,rfl,h1,h2,h3,q⟩:=h
  have hNN:∀(i:Nat) x,ps[i]?=some x->N[i]?=some x/\LD (aU st) x:=λi x hx=>by
   have hm:x∈ps:=zj hx;refine⟨?_, ?_⟩
   ·have:=S.pre
    rw[<- this,List.getElem?_take] at hx;split at hx
    ·exact hx
    ·cases hx
   ·rcases S.par x hm with z | z
    ·exact .inl z
    ·exact .inr (.inl z)
  obtain⟨t,ht,k⟩:=yP (X:=(qV qT Pr w K mg base N qual (aU st) fa cdv A outer s H E).nox) (xs:=xs) (a:=a) rfl hNN (by omega) h3.cl (bY st) 1 ns hb (Zq _)
  ·refine⟨t,ht,k _ _ H [] (λi v hv=>?_) h2 h3.no (by simpa using JN) (by simpa using hlt) ?_⟩
   ·have hl:i<(V.ref a::xs).length:=(Zc.mp hv).1;rw[qJ hl,Zh,hv];rfl
   ·simpa using q
structure ExiE(K:Frag)(mg:Str->Option Value)(x:Str):Prop where
 ex:True
def ExiE.at{K:Frag}(hK:X.K=K)(e:ExiE K X.mg x):ExiAt X K x:=⟨trivial⟩
structure EntB(K:Frag)(T:pC)(gl:Str->GV)(f:String)(fa:Addr)(fd:FuncData)(ps:List Str):Prop where
 bd:gM K fd ps []
 ex:∃(y qual:Str) (st:Stmt) (N:List Str) (fn:Fn),Fun K y qual st fa fd/\FnScope N ps (aU st)/\N.Nodup/\T f=some fn/\fn.body=mK ⟨N,(aU st).names,gl,true⟩ (bY st)/\N.length=fn.pins.length+fn.nl/\ps.length=fn.pins.length
structure Entry(K:Frag)(mg:Str->Option Value)(T:pC)(gl:Str->GV)(x:Str)(f:String)(fa:Addr)(fd:FuncData)(ps:List Str):Prop where
 mgx:mg x=some (.ref fa)
 kp:PySem.W.keepIn K (.ref fa)=true
 b:EntB K T gl f fa fd ps
structure ClsE(K:Frag)(mg:Str->Option Value)(x:Str)(ns:List Str):Prop where
 ex:∃(Ca fa:Addr) (fd:FuncData) (ps:List Str) (y qual:Str) (st:Stmt) (N:List Str),nsIn K mainGlobals x=some (some (.ref Ca))/\mg x=some (.ref Ca)/\Mk K Ca fa/\ClsF K Ca ns /\
  Fun K y qual st fa fd/\FnScope N ps (aU st)/\k8 ps 1 (bY st)=some ns/\ps.length=ns.length+1/\ns.Nodup/\ns.length<1000/\gM K fd ps []
structure MthE(K:Frag)(T:pC)(gl:Str->GV)(c m:Str)(f:String):Prop where
 ex:∃(Ca fa:Addr) (fd:FuncData) (ps:List Str),nsIn K mainGlobals c=some (some (.ref Ca))/\Meth K Ca m fa/\EntB K T gl f fa fd ps/\Cls K Ca
structure Globs(K:Frag)(mg:Str->Option Value)(T:pC)(gl:Str->GV):Prop where
 con:∀x d,gl x=.con d->∃u v,mg x=some u/\aY v u/\∀G,aC K G d v
 blt:∀x,gl x=.blt->mg x=none
 fn:∀x f,gl x=.fn f->∃fa fd ps,Entry K mg T gl x f fa fd ps
 cls:∀x ns,gl x=.cls ns->ClsE K mg x ns
 mth:∀m tb c f,gl (pT m)=.mth tb->tb.lookup c=some f->MthE K T gl c m f
 sub:∀x s n,gl (pQ x)=.sub s n->SubAt K mg x s n
 subx:∀x s n,gl (pQ x)=.subx s n->SubX K mg x s n
 exc:∀x,gl x=.exc->ExcAt K mg x
 exi:∀x,gl x=.exi->ExiE K mg x
 exs:∀x cs,gl (MM x)=.exs cs->ExsAt K mg x cs
def AW{b:Bool}{o:Option (Exc×Env)}{as as':List Sl}{v:RV}(h:(if b=true then(match o with | some (x,U)=>(some (Out.ex x,back as U):aR RV) | none=>none) else none)=some (.ok v,as')):False:=by
 split at h
 ·split at h<;>cases h
 ·cases h
theorem BY{Pr:Program}{w:World}{K:Frag}{mg:Str->Option Value}{base:Heap}{T:pC}{gl:Str->GV}(W:Nat)(g:Globs K mg T gl):∀(d:Nat) (f:String) (fa:Addr) (fd:FuncData) (ps:List Str),
  EntB K T gl f fa fd ps->FnOk Pr w K mg base qT (d+2) fa fd ps (NC K (T.pins f).length (run T W d f))/\True
 | 0,f,fa,fd,ps,e=>⟨⟨λvs H Q E h=>by obtain⟨_,as,G,v,as',_,_,z,_⟩:=h;simp[run] at z,λA outer s H args us vs Q E _ _ _ _ h=>by obtain⟨_,as,G,v,as',_,_,z,_⟩:=h;simp[run] at z⟩,trivial⟩
 |d+1,f,fa,fd,ps,e=>by
  obtain⟨y,qual,st,N,fn,F,S,nd,hT,hb,hN,hps⟩:=e.ex;have hpin:T.pins f=fn.pins:=by unfold pC.pins;rw[hT]
  refine⟨F.ok S (λvs H Q E h=>by rw[h.1,hpin,hps]) λcdv A outer s H vs Q E hr h=>?_, ?_⟩
  ·obtain⟨hl,as,G,v,as',rel,hal,er,k⟩:=h
   let X:Cx:=(qV qT Pr w K mg base N qual (aU st) fa cdv A outer s H E).nox
   let Z:CC:=⟨N,(aU st).names,gl,true⟩
   have xo:bJ X K T.pins (run T W d) Z:=by
    refine bJ.of rfl rfl rfl nd rfl hr.hd hr.units g.con g.blt (λx' f' hx=>?_) (λx' ns hx=>?_) (λm tb c f' h1 h2=>?_) (hr.mono (by omega)) g.sub g.subx ⟨g.exc,λx hx=>(g.exi x hx).at rfl⟩ g.exs (λx' f' hx=>?_) ⟨_,_,_,rfl,rfl,rfl⟩
    ·obtain⟨fa',fd',ps',e'⟩:=g.fn x' f' hx;exact⟨fa',fd',ps',d+2,(BY W g d f' fa' fd' ps' e'.b).1,hr,e'.mgx,e'.kp,e'.b.bd⟩
    ·obtain⟨Ca,fa',fd',ps',y',qual',st',N',h1,h2,h3,h4,h5,h6,h7,h8,h9,h10,h11⟩:=(g.cls x' ns hx).ex;exact⟨Ca,fa',fd',ps',h1,h2,h3,h4,X2 h5 h6 h7 h8 h9 h10,h11⟩
    ·obtain⟨Ca,fa',fd',ps',h3,h4,e',hcl⟩:=(g.mth m tb c f' h1 h2).ex;exact⟨Ca,fa',fd',ps',d+2,h3,h4,(BY W g d f' fa' fd' ps' e').1,hr,e'.bd,hcl⟩
    ·exact⟨trivial⟩
   refine⟨_,aCn (W:=W) (X:=X) (Z:=Z) PassesOwn.never xo (λ_ _=>.inl rfl) (λ_=>⟨rfl,rfl⟩) (bY st), ?_⟩;simp only[run,hT] at er;split at er
   ·rename_i hc;rw[hb] at er;have hNa:N.length=as.length+fn.nl:=by rw[hN,hc.1]
    have hpad:=rel.pad hNa
    cases q:exs T.pins (run T W d) W (mK ⟨N,(aU st).names,gl,true⟩ (bY st)) (as++List.replicate fn.nl .un) with
    |none=>rw[q] at er;exact(AW er).elim
    |some y =>
     obtain⟨fl,U'⟩:=y;rw[q] at er;refine⟨as++List.replicate fn.nl .un,G,fl,U',hpad.1,q, ?_⟩
     cases fl with
     |nx =>
      cases er;intro Y' H' G' a;obtain⟨b1,b2⟩:=tM rel hc.2 hNa a;exact k .non H' G' b1 (by show aC K G' .non _;simp[aC])
     |rt v' =>
      cases er;intro x' Y' H' G' a hv;obtain⟨b1,b2⟩:=tM rel hc.2 hNa a;refine k x' H' G' b1 ?_
      have key:∀c,¬aH U' Y' c->(aH (as++List.replicate fn.nl .un) (b8 N vs) c\/H c=none)->H c=none:=λc nc mc=>by
       rcases mc with mc | mc
       ·have:=hpad.2 c mc
        obtain⟨i,d1,p1,l1,h1,h2⟩:=this;refine absurd ?_ nc
        apply b2 c
        have hp:=List.all_eq_true.mp hc.2 _ (zj h1);simp only[k7] at hp;subst hp
        have:=b1.evo i
        rw[h1] at this
        cases q3:(back as U')[i]? with
        |none=>rw[q3] at this;exact this.elim
        |some s =>
         rw[q3] at this
         cases s with
         |ow d2 p2 l2=>exact⟨i,d2,p2,l2,q3,h2⟩
         |sh d2=>exact absurd (show true=false from this) (by simp)
         |un=>exact this.elim
         |mv=>exact this.elim
       ·exact mc
      cases v with
      |sh d0=>exact hv
      |ow d0 =>
       obtain⟨c,rfl,gc,oc,nc,mc⟩:=hv;exact⟨c,rfl,gc,oc,λz=>nc (b2 c z),key c nc mc⟩
      |od d0 =>
       obtain⟨c,rfl,gc,oc,nc,mc,ys,hy,hr⟩:=hv;exact⟨c,rfl,gc,oc,λz=>nc (b2 c z),key c nc mc,ys,hy,λx hx=>let ⟨b,ws,h1,h2,h3,h4,h5,h6⟩:=hr x hx;⟨b,ws,h1,h2,h3,λz=>h4 (b2 b z),key b h4 h5,h6⟩⟩
     |bk=>exact(AW er).elim
     |ct=>exact(AW er).elim
     |ex x'=>exact(AW er).elim
   ·cases er
  ·trivial
noncomputable def cK(st:Stmt):List Str:=(eE st).args.map (·.arg)
noncomputable def vU(st:Stmt):List Str:=cK st++(((aU st).names.filter λy=>(y.2==.local||y.2==.cell) && !(cK st).contains y.1).map (·.1))
noncomputable def NL(gl:Str->GV)(st:Stmt):List S:=mK ⟨vU st,(aU st).names,gl,true⟩ (bY st)
structure MthAt(K:Frag)(x m qual:Str)(st:Stmt):Prop where
 ex:∃(Ca f:Addr) (oc:Value) (od an:Option Addr) (kV doc pm cdv ct:Value) (osl:Array (Option Value)),nsIn K mainGlobals x=some (some (.ref Ca))/\findIn K (.ref Ca) m=some (some (.ref f))/\PySem.W.isFn K (.ref f)=true /\
  K.lookup f=some ⟨oc,od,.func (PySem.W.fnOf m qual (eE st) (bY st) (aU st) .none kV doc pm an cdv ct),osl⟩/\PySem.W.codeIn K cdv qual=true/\PySem.W.keepIn K (.ref f)=true
def dX{K:Frag}{st:Stmt}{kV doc pm cdv ct:Value}(a:nsIn K mainGlobals x=some (some (.ref Ca)))(b:findIn K (.ref Ca) m=some (some (.ref f)))(i:PySem.W.isFn K (.ref f)=true)
  (l:K.lookup f=some ⟨oc,od,.func (PySem.W.fnOf m qual (eE st) (bY st) (aU st) .none kV doc pm an cdv ct),osl⟩) (c:PySem.W.codeIn K cdv qual=true) (k:PySem.W.keepIn K (.ref f)=true):MthAt K x m qual st :=
 ⟨Ca,f,oc,od,an,kV,doc,pm,cdv,ct,osl,a,b,i,l,c,k⟩
structure ClsAt(K:Frag)(x:Str):Prop where
 ex:∃Ca:Addr,nsIn K mainGlobals x=some (some (.ref Ca))/\Cls K Ca/\PySem.W.makesIn K Ca=true/\PySem.W.keepIn K (.ref Ca)=true
def l8{K:Frag}(a:nsIn K mainGlobals x=some (some (.ref Ca)))(pg:PySem.W.plainGet K Ca Str.empty=true)(hd:PySem.W.hasDictIn K Ca=true)(po:PySem.W.plainOver K Ca=true)
  (sa:findIn K (.ref Ca) "__setattr__"=some (some (.builtin "object.__setattr__"))) (mk:PySem.W.makesIn K Ca=true) (kp:PySem.W.keepIn K (.ref Ca)=true):ClsAt K x:=⟨Ca,a,⟨pg,hd,po,sa⟩,mk,kp⟩
def aAE(K:Frag)(x f:Str):Prop:=∃Ca:Addr,nsIn K mainGlobals x=some (some (.ref Ca))/\findIn K (.ref Ca) f=some none
def oR{K:Frag}(a:nsIn K mainGlobals x=some (some (.ref Ca)))(b:findIn K (.ref Ca) f=some none):aAE K x f:=⟨Ca,a,b⟩
structure DefAt(K:Frag)(x:Str)(st:Stmt):Prop where
 ex:∃(f:Addr) (oc:Value) (od an:Option Addr) (kV doc pm cdv ct:Value) (osl:Array (Option Value)),nsIn K mainGlobals x=some (some (.ref f)) /\
  K.lookup f=some ⟨oc,od,.func (PySem.W.fnOf x x (eE st) (bY st) (aU st) .none kV doc pm an cdv ct),osl⟩/\PySem.W.codeIn K cdv x=true/\PySem.W.keepIn K (.ref f)=true
def bR{K:Frag}{st:Stmt}{kV doc pm cdv ct:Value}(a:nsIn K mainGlobals x=some (some (.ref f)))
  (l:K.lookup f=some ⟨oc,od,.func (PySem.W.fnOf x x (eE st) (bY st) (aU st) .none kV doc pm an cdv ct),osl⟩) (c:PySem.W.codeIn K cdv x=true) (k:PySem.W.keepIn K (.ref f)=true):DefAt K x st :=
 ⟨f,oc,od,an,kV,doc,pm,cdv,ct,osl,a,l,c,k⟩
structure DefOkQ(gl:Str->GV)(st:Stmt)(x qual:Str)(fn:Fn):Prop where
 sc:FnScope (vU st) (cK st) (aU st)
 body:fn.body=NL gl st
 len:(vU st).length=fn.pins.length+fn.nl
 pl:(cK st).length=fn.pins.length
 bind:∀(kV doc pm:Value) (an:Option Addr) (cdv ct:Value) (us:List Value),us.length=(cK st).length->bindArgs (PySem.W.fnOf x qual (eE st) (bY st) (aU st) .none kV doc pm an cdv ct) ⟨us,[]⟩=pure ((cK st).zip us)
abbrev b0(gl:Str->GV)(st:Stmt)(x:Str)(fn:Fn):Prop:=DefOkQ gl st x x fn
def wK{K:Frag}{st:Stmt}(F:Fun K x qual st fa fd)(O:DefOkQ gl st x qual fn)(hT:T f=some fn):EntB K T gl f fa fd (cK st) :=
 ⟨F.binds O.bind,x,qual,st,vU st,fn,F,O.sc,O.sc.nd,hT,O.body,O.len,O.pl⟩
def jH{K:Frag}{st:Stmt}(A:ClsAt K x)(D:MthAt K x m qual st)(O:DefOkQ gl st m qual fn)(hT:T f=some fn):MthE K T gl x m f:=by
 obtain⟨Ca,fa,oc,od,an,kV,doc,pm,cdv,ct,osl,a,b,i,l,c,k⟩:=D.ex;obtain⟨Cb,a',cl,_,_⟩:=A.ex;rw[a] at a';cases a';exact⟨Ca,fa,_,cK st,a,⟨b,i,k⟩,wK (vI l c k) O hT,cl⟩
structure IniOk(st:Stmt)(qual:Str)(ns:List Str):Prop where
 sc:FnScope (vU st) (cK st) (aU st)
 body:k8 (cK st) 1 (bY st)=some ns
 pl:(cK st).length=ns.length+1
 nd:ns.Nodup
 lt:ns.length<1000
 bind:∀(kV doc pm:Value) (an:Option Addr) (cdv ct:Value) (us:List Value),us.length=(cK st).length->bindArgs (PySem.W.fnOf "__init__" qual (eE st) (bY st) (aU st) .none kV doc pm an cdv ct) ⟨us,[]⟩=pure ((cK st).zip us)
def lZ{K:Frag}{st:Stmt}(X:K.In h)(G:h.Ns mainGlobals mg)(A:ClsAt K x)(D:MthAt K x "__init__" qual st)(O:IniOk st qual ns)(N:∀f∈ns,aAE K x f):ClsE K mg x ns:=by
 obtain⟨Ca,a,cl,mk,kp⟩:=A.ex;obtain⟨Cb,fa,oc,od,an,kV,doc,pm,cdv,ct,osl,a',b,i,l,c,k⟩:=D.ex;rw[a] at a';cases a';have F:=vI l c k;refine⟨Ca,fa,_,cK st,"__init__",qual,st,vU st,a,PySem.W.mg_of X G a,⟨mk,b,i,kp⟩,⟨cl,λf hf=>?_⟩,F,O.sc,O.body,O.pl,O.nd,O.lt,F.binds O.bind⟩;obtain⟨Cc,a2,b2⟩:=N f hf;rw[a] at a2;cases a2;exact b2
def bB{K:Frag}{st:Stmt}(X:K.In h)(G:h.Ns mainGlobals mg)(D:DefAt K x st)(O:b0 gl st x fn)(hT:T f=some fn):∃fa fd ps,Entry K mg T gl x f fa fd ps:=by
 obtain⟨fa,oc,od,an,kV,doc,pm,cdv,ct,osl,a,l,c,k⟩:=D.ex;have F:=vI l c k;exact⟨fa,_,cK st,PySem.W.mg_of X G a,k,wK F O hT⟩
noncomputable def bK(L:List (Str×GV))(x:Str):GV:=(L.lookup x).getD .no
theorem d9[BEq J][LawfulBEq J]:∀{L:List (J×N)} {x:J} {v:N},L.lookup x=some v->(x,v)∈L
 |[],_,_,h=>by simp at h
 | (y,w)::L,x,v,h=>by
  rw[List.lookup_cons] at h;split at h
  ·rename_i hb;cases h;rw[Zy hb];exact zh
  ·exact Ze _ (d9 h)
def eU(h:bK L x=v)(n:v≠.no):(x,v)∈L:=by
 unfold bK at h
 cases q:L.lookup x with
 |none=>rw[q] at h;exact absurd h.symm n
 |some w =>
  rw[q] at h;cases h;exact d9 q
def tU(K:Frag)(mg:Str->Option Value)(T:pC)(gl:Str->GV):Str×GV->Prop
 | (x,.cls ns)=>ClsE K mg x ns
 | (x,.mth tb)=>∃m,x=pT m/\∀p∈tb,MthE K T gl p.1 m p.2
 | (x,.con d)=>∃u v,mg x=some u/\aY v u/\∀G,aC K G d v
 | (x,.blt)=>mg x=none
 | (x,.fn f)=>∃fa fd ps,Entry K mg T gl x f fa fd ps
 | (x,.sub s n)=>∃m,x=pQ m/\SubAt K mg m s n
 | (x,.subx s n)=>∃m,x=pQ m/\SubX K mg m s n
 | (x,.exc)=>ExcAt K mg x
 | (x,.exi)=>ExiE K mg x
 | (x,.exs cs)=>∃m,x=MM m/\ExsAt K mg m cs
 | (_,.no)=>True
def FH{x y:Str}(h:(⟨p++x.cps⟩:Str)=⟨p++y.cps⟩):x=y:=by
 have e6:=congrArg Array.toList (congrArg Str.cps h);simp only[Array.toList_append] at e6;have e5:=Array.toList_inj.mp (List.append_cancel_left e6);cases x;cases y;simp only at e5;rw[e5]
def PV{K:Frag}(h:∀p∈L,tU K mg T (bK L) p):Globs K mg T (bK L) :=
 ⟨λx d e=>h _ (eU e (λz=>nomatch z)),λx e=>h _ (eU e (λz=>nomatch z)),λx f e=>h _ (eU e (λz=>nomatch z)),λx ns e=>h _ (eU e (λz=>nomatch z)),λm tb c f e e2=>by
  obtain⟨m',e3,k⟩:=h _ (eU e (λz=>nomatch z))
  have:m'=m:=by
   unfold pT at e3;have e4:(#[46]++m.cps:Array Nat)=#[46]++m'.cps:=congrArg Str.cps e3
   have e5:m.cps=m'.cps:=by(have e6:=congrArg Array.toList e4;rw[Array.toList_append,Array.toList_append] at e6;exact Array.toList_inj.mp (List.append_cancel_left e6))
   cases m;cases m';simp only at e5;rw[e5]
  subst this;exact k _ (d9 e2),λx s n e=>by
  obtain⟨m',e3,k⟩:=h _ (eU e (λz=>nomatch z))
  have:m'=x:=by
   unfold pQ at e3
   have e5:x.cps=m'.cps:=by(have e6:=congrArg Array.toList (congrArg Str.cps e3);simp only[Array.toList_append] at e6;exact Array.toList_inj.mp (List.append_cancel_left e6))
   cases x;cases m';simp only at e5;rw[e5]
  subst this;exact k,λx s n e=>by
  obtain⟨m',e3,k⟩:=h _ (eU e (λz=>nomatch z));rw[FH e3];exact k,λx e=>h _ (eU e (λz=>nomatch z)),λx e=>h _ (eU e (λz=>nomatch z)),λx cs e=>by
  obtain⟨m',e3,k⟩:=h _ (eU e (λz=>nomatch z));rw[FH e3]
  exact k⟩
def ZN{K:Frag}(X:K.In h)(G:h.Ns mainGlobals mg)(a:nsIn K mainGlobals x=some (some (.int i t))):tU K mg T gl (x,.con (.int i)) :=
 ⟨_,.int i,PySem.W.mg_of X G a,⟨t,rfl⟩,λG=>by simp[aC]⟩
def aA1{K:Frag}(X:K.In h)(G:h.Ns mainGlobals mg)(a:nsIn K mainGlobals x=some none):tU K mg T gl (x,.blt):=PySem.W.mg_none_of X G a
def PL{l:PySem.W.OpenLaw}{K:Params->Frag}{st:Stmt}
  (hn:l.most=some 63) (hdf:d.params.defaults=[]) (hr:Room (n+2) callerA) (hx:d.name=x) (hT:T f=some fn) (O:b0 (bK L) st x fn) (hp:cK st=[p])
  (hY:∀(w:World) (h:Heap),YP w h->(K w.params).In h)
  (F:∀(w:World) (mg:Str->Option Value) (h:Heap),(K w.params).In h->h.Ns mainGlobals mg->DefAt (K w.params) x st/\∀p∈L,tU (K w.params) mg T (bK L) p)
  (M:∀ns:List Int,ns.length<=63->∃as',run T W n f [.sh (.lst (ns.map .int))]=some (.ok (.sh (.bl true)),as')) :
  PySem.W.WalkO q loose XP YP l.row.toRowW d [] (λf vs=>PySem.call f vs):=by
 refine L2.U9 (n:=63) (k:=n+2) (x:=p) (CX:=λ_=>qT) (sp:=λw=>NC (K w.params) 1 (run T W n f)) hn (by decide) hdf hr hY (λw mg fa h KX G hmg=>?_) (λw H a ns hl hO hS=>?_) λ_ _ _ _ _ z=>z
 ·obtain⟨D,hG⟩:=F w mg h KX G;have g:=PV hG;obtain⟨fa',oc,od,an,kV,doc,pm,cdv,ct,osl,a,lk,c,k⟩:=D.ex;have hm:=PySem.W.mg_of KX G a;rw[hx,hm] at hmg;cases hmg;have Fu:=vI lk c k;have E:Entry (K w.params) mg T (bK L) x f fa _ (cK st):=⟨hm,k,wK Fu O hT⟩
  have hpins:(T.pins f).length=1:=by(unfold pC.pins;rw[hT];show fn.pins.length=1;rw[<- O.pl,hp];rfl)
  refine⟨PySem.W.fnOf x x (eE st) (bY st) (aU st) .none kV doc pm an cdv ct,λs u=>?_,λbase kb nb=>?_⟩
  rotate_left
  ·have:=(BY (Pr:=l.prog) (w:=w) (base:=base) W g n f fa _ (cK st) E.b).1
   rw[hpins] at this;rw[hp] at this;exact this
  ·have:=O.bind kV doc pm an cdv ct [u] (by rw[hp];rfl)
   rw[hp] at this;exact .of_eq this
 ·obtain⟨as',e⟩:=M ns hl
  have hr1:aB (K w.params) H (ns.map .int) (ns.map V.int):=by
   induction ns with
   |nil=>exact aB.nil
   |cons i r ih=>exact aB.cons (by simp[aC]) (by
     clear e hS hl ih
     induction r with
     |nil=>exact aB.nil
     |cons i r ih=>exact aB.cons (by simp[aC]) ih)
  refine⟨rfl,[.sh (.lst (ns.map .int))],H,.sh (.bl true),as',aN.cons_sh (aN.nil (aV.refl _)) ?_,rfl,e,λx H' G' _ hv=>pU (K:=K w.params) (G:=G') hv⟩;simp only[aC];exact⟨a,_,rfl,hS,hr1⟩
end CI
namespace CI
open PySem (Operator CmpOp)
noncomputable section
variable{U U1 U2:Env}
theorem aEu:aR.bind (some (.ok a,U)) f=f a U:=rfl
theorem aDF:aR.flow (some (.ok a,U)) f=f a U:=rfl
theorem lB:cJ.next (some (.nx,U)) f=f U:=rfl
theorem TC:cJ.next (some (.rt v,U)) f=some (.rt v,U):=rfl
theorem WL:kL (some U)=some (.nx,U):=rfl
theorem KW:done (some v) U=some (.ok v,U):=rfl
theorem aGl:(RV.sh d).d=d:=rfl
theorem aF3:(RV.ow d).d=d:=rfl
theorem aGt:(Sl.sh d).get=some d:=rfl
theorem aFV:(Sl.ow d p l).get=some d:=rfl
theorem aCd:(Hd.val v).get U=some v.d:=rfl
theorem VE:(Hd.slot i).get U=(U[i]?).bind Sl.get:=rfl
noncomputable def kTr(U:Env)(o:Option Bool):aR RV:=o.map λb=>(.ok (.sh (.bl b)),U)
theorem OI:kTr U (some b)=some (.ok (.sh (.bl b)),U):=rfl
theorem aGw:bL false r=r:=rfl
theorem aF8:bL true (some (.ok v,U))=kTr U (iJ v.d):=rfl
noncomputable def kFz(i:Nat)(U:Env):Option Sl->aR RV
 |some (.sh d)=>some (.ok (.sh d),U)
 |some (.ow d false false)=>some (.ok (.sh d),U.set i (.sh d))
 |_=>none
theorem aAX:kFz i U (some (.sh d))=some (.ok (.sh d),U):=rfl
theorem ZE:ev P C false (.var i) U=kFz i U U[i]?:=rfl
theorem aCB:ev P C t (.con d) U=bL t (some (.ok (.sh d),U)):=rfl
noncomputable def BU(b:Bool)(v:RV)(U:Env):aR RV:=if b then some (.ok v,U) else none
theorem aEe:BU true v U=some (.ok v,U):=rfl
def d5(h:n<=1000000):aJ n=true:=@decide_eq_true _ (cl _) h
theorem aGg:aJ 0=true:=d5 (by decide)
theorem aGa:aJ 1=true:=d5 (by decide)
theorem aF2:aJ 2=true:=d5 (by decide)
theorem aGO:aJ 3=true:=d5 (by decide)
theorem aFW:aJ 4=true:=d5 (by decide)
theorem aGT:aJ 5=true:=d5 (by decide)
noncomputable def aBV(ds:List D)(U:Env):aR RV:=BU (aJ ds.length) (.sh (.tup ds)) U
noncomputable def aA6(ds:List D)(U:Env):aR RV:=BU (aJ ds.length) (.ow (.lst ds)) U
theorem aEX:aBV ds U=BU (aJ ds.length) (.sh (.tup ds)) U:=rfl
theorem aE2:aA6 ds U=BU (aJ ds.length) (.ow (.lst ds)) U:=rfl
theorem aC9:ev P C t (.tup es) U=bL t ((mB P C es U).bind aBV):=rfl
theorem aCX:ev P C t (.lst es) U=bL t ((mB P C es U).bind aA6):=rfl
theorem XG:mB P C [] U=some (.ok [],U):=rfl
noncomputable def DR(v:RV)(ds:List D)(U:Env):aR (List D):=some (.ok (v.d::ds),U)
noncomputable def MJ(P:aW)(C:Calls)(es:List E)(v:RV)(U:Env):aR (List D):=(mB P C es U).bind (DR v)
theorem UZ:DR v ds U=some (.ok (v.d::ds),U):=rfl
theorem U6:MJ P C es v U=(mB P C es U).bind (DR v):=rfl
theorem RE:mB P C (e::es) U=(ev P C false e U).bind (MJ P C es):=rfl
theorem Q7:cD P C [] U=some (.ok [],U):=rfl
noncomputable def xZ(v:Hd)(ds:List Hd)(U:Env):aR (List Hd):=some (.ok (v::ds),U)
noncomputable def ES(P:aW)(C:Calls)(es:List E)(v:Hd)(U:Env):aR (List Hd):=(cD P C es U).bind (xZ v)
theorem Q1:xZ v ds U=some (.ok (v::ds),U):=rfl
theorem QG:ES P C es v U=(cD P C es U).bind (xZ v):=rfl
noncomputable def eA(P:aW)(C:Calls)(e:E)(U:Env):aR Hd:=hd e (ev P C false e U) U
noncomputable def jC(v:RV)(U:Env):aR Hd:=some (.ok (.val v.low),U)
theorem aE5:jC (.sh d) U=some (.ok (.val (.sh d)),U):=rfl
theorem aC7:jC (.ow d) U=some (.ok (.val (.ow d)),U):=rfl
noncomputable def T7(i:Nat)(U:Env)(b:Bool):aR Hd:=if b then some (.ok (.slot i),U) else none
theorem X8:T7 i U true=some (.ok (.slot i),U):=rfl
theorem UT:eA P C (.var i) U=T7 i U ((U[i]?).bind Sl.get).isSome:=rfl
theorem WM:eA P C (.con d) U=some (.ok (.val (.sh d)),U):=rfl
theorem W4:eA P C (.lst es) U=(ev P C false (.lst es) U).bind jC:=rfl
theorem XA:eA P C (.bin op a b) U=(ev P C false (.bin op a b) U).bind jC:=rfl
theorem ZI:eA P C (.cmp op a b) U=(ev P C false (.cmp op a b) U).bind jC:=rfl
theorem RG:eA P C (.cmp2 op op' a b c) U=(ev P C false (.cmp2 op op' a b c) U).bind jC:=rfl
theorem aAn:eA P C (.ix a b) U=(ev P C false (.ix a b) U).bind jC:=rfl
theorem aBU:eA P C (.sl a b c) U=(ev P C false (.sl a b c) U).bind jC:=rfl
theorem NO:eA P C (.call f es) U=(ev P C false (.call f es) U).bind jC:=rfl
theorem WA:eA P C (.bif f es) U=(ev P C false (.bif f es) U).bind jC:=rfl
theorem XZ:eA P C (.isi a ts) U=(ev P C false (.isi a ts) U).bind jC:=rfl
theorem RU{its cond:List E}:eA P C (.comp elt tg k its cond imp nl) U=(ev P C false (.comp elt tg k its cond imp nl) U).bind jC:=rfl
theorem JS:cD P C (e::es) U=(eA P C e U).bind (ES P C es):=rfl
noncomputable def GS(op:Operator)(x:Hd)(a b:Option D):Option RV:=a.bind λd=>b.bind λe=>if rC op x d then jI op d e else none
noncomputable def G9(op:Operator)(x y:Hd)(U:Env):aR RV:=done (GS op x (x.get U) (y.get U)) U
noncomputable def UM(P:aW)(C:Calls)(op:Operator)(b:E)(x:Hd)(U:Env):aR RV:=(eA P C b U).bind (G9 op x)
theorem aBJ:G9 op x y U=done (GS op x (x.get U) (y.get U)) U:=rfl
theorem aDe:UM P C op b x U=(eA P C b U).bind (G9 op x):=rfl
theorem aCu:ev P C t (.bin op a b) U=bL t ((eA P C a U).bind (UM P C op b)):=rfl
theorem aB5:GS op x (some (.int i)) (some e)=jI op (.int i) e:=by
 unfold GS rC;cases op<;>rfl
theorem aFj:jI .Add (.int i) (.int j)=some (.sh (.int (i+j))):=rfl
theorem aD0:jI .Sub (.int i) (.int j)=some (.sh (.int (i-j))):=rfl
def SS(h:(-(2 ^ 64)<i/\i<2 ^ 64)\/(-(2 ^ 64)<j/\j<2 ^ 64)):jI .Mult (.int i) (.int j)=some (.sh (.int (i*j))):=Zo h
theorem aBS(h1:-18446744073709551616<j)(h2:j<18446744073709551616):jI .Mult (.int i) (.int j)=some (.sh (.int (i*j))):=SS (.inr ⟨h1,h2⟩)
theorem aBq(h1:-18446744073709551616<i)(h2:i<18446744073709551616):jI .Mult (.int i) (.int j)=some (.sh (.int (i*j))):=SS (.inl ⟨h1,h2⟩)
theorem aEq(h:0<j/\j<nofun):jI .FloorDiv (.int i) (.int j)=some (.sh (.int (i / j))):=Zo h
theorem aEo(h:0<j):jI .Mod (.int i) (.int j)=some (.sh (.int (i % j))):=Zo h
theorem aCV(h:0<=j)(h2:j<=1000):jI .LShift (.int 1) (.int j)=some (.sh (.int (2 ^ j.toNat))):=by
 show @ite _ _ (cl _) _ _=_;rw[Zo ⟨h,h2,by decide⟩,Int.one_mul]
theorem aDK(h:0<=j):jI .RShift (.int i) (.int j)=some (.sh (.int (i / 2 ^ j.toNat))):=Zo h
theorem aEZ:jI .BitAnd (.int i) (.int j)=some (.sh (.int (PySem.Builtin.bitAnd i j))):=rfl
noncomputable def TM(v:RV)(U:Env):aR RV:=match v with
 |.sh (.bl b)=>some (.ok (.sh (.bl (!b))),U)
 |_=>none
theorem aDr:TM (.sh (.bl b)) U=some (.ok (.sh (.bl (!b))),U):=rfl
theorem YZ:ev P C true (.not a) U=(ev P C true a U).bind TM:=rfl
noncomputable def N4(o:Option D):Option RV:=o.bind λd=>(iJ d).map λb=>.sh (.bl (!b))
noncomputable def TH(x:Hd)(U:Env):aR RV:=done (N4 (x.get U)) U
theorem aC4:TH x U=done (N4 (x.get U)) U:=rfl
theorem WG:N4 (some (.bl b))=some (.sh (.bl (!b))):=rfl
theorem VT:ev P C false (.not a) U=(eA P C a U).bind TH:=rfl
noncomputable def BR(op:CmpOp)(a b:Option D):Option RV:=a.bind λd=>b.bind λe=>(bV op d e).map λb=>.sh (.bl b)
theorem aDH:BR op (some d) (some e)=(bV op d e).map λb=>.sh (.bl b):=rfl
noncomputable def OT(op:CmpOp)(a b:Option D):Option Bool:=a.bind λd=>b.bind λe=>bV op d e
theorem aDM:OT op (some d) (some e)=bV op d e:=rfl
noncomputable def GD(op:CmpOp)(x y:Hd)(U:Env):aR RV:=done (BR op (x.get U) (y.get U)) U
noncomputable def SW(P:aW)(C:Calls)(op:CmpOp)(b:E)(x:Hd)(U:Env):aR RV:=(eA P C b U).bind (GD op x)
theorem aCT:GD op x y U=done (BR op (x.get U) (y.get U)) U:=rfl
theorem aDh:SW P C op b x U=(eA P C b U).bind (GD op x):=rfl
theorem aDv:ev P C t (.cmp op a b) U=(eA P C a U).bind (SW P C op b):=rfl
noncomputable def QW(op:CmpOp)(y z:Hd)(U:Env):aR RV:=done (BR op (y.get U) (z.get U)) U
theorem aED:QW op x y U=done (BR op (x.get U) (y.get U)) U:=rfl
noncomputable def kCh(P:aW)(C:Calls)(op':CmpOp)(y:Hd)(c:E)(U:Env):Option Bool->aR RV
 |none=>none
 |some false=>some (.ok (.sh (.bl false)),U)
 |some true=>(eA P C c U).bind (QW op' y)
theorem aDC:kCh P C op' y c U (some b)=if b=true then(eA P C c U).bind (QW op' y) else some (.ok (.sh (.bl false)),U):=by cases b<;>rfl
noncomputable def QM(P:aW)(C:Calls)(op op':CmpOp)(c:E)(x y:Hd)(U:Env):aR RV:=kCh P C op' y c U (OT op (x.get U) (y.get U))
noncomputable def aDz(P:aW)(C:Calls)(op op':CmpOp)(b c:E)(x:Hd)(U:Env):aR RV:=(eA P C b U).bind (QM P C op op' c x)
theorem aEr:QM P C op op' c x y U=kCh P C op' y c U (OT op (x.get U) (y.get U)):=rfl
theorem aEM:aDz P C op op' b c x U=(eA P C b U).bind (QM P C op op' c x):=rfl
theorem W7:ev P C t (.cmp2 op op' a b c) U=(eA P C a U).bind (aDz P C op op' b c):=rfl
theorem aGE:bV .Lt (.int i) (.int j)=some (decide (i<j)):=rfl
theorem aF9:bV .LtE (.int i) (.int j)=some (decide (i<=j)):=rfl
theorem Z4:bV .Gt (.int i) (.int j)=some (decide (j<i)):=rfl
theorem aGh:bV .GtE (.int i) (.int j)=some (decide (j<=i)):=rfl
theorem TB:bV .Eq (.int i) (.int j)=some (decide (i=j)):=rfl
theorem aFh:bV .NotEq (.int i) (.int j)=some (!decide (i=j)):=rfl
def aAL(h1:bC 20 d=true)(h2:bC 20 e=true):bV .Eq d e=some (dN d e):=by
 show(if(bC 20 d&&bC 20 e)=true then some (dN d e) else none)=_;rw[h1,h2];rfl
def Q5(h1:bC 20 d=true)(h2:bC 20 e=true):bV .NotEq d e=some (!dN d e):=by
 show(if(bC 20 d&&bC 20 e)=true then some (!dN d e) else none)=_;rw[h1,h2];rfl
theorem aD2:bV .Eq (.str a) (.str b)=some (a==b):=rfl
theorem aET:bV .Is .non .non=some true:=rfl
theorem aE3:bV .Is (.int i) .non=some false:=rfl
theorem aEc:bV .IsNot .non .non=some false:=rfl
theorem aEP:bV .IsNot (.int i) .non=some true:=rfl
theorem aFU:iJ (.bl b)=some b:=rfl
noncomputable def aBh(P:aW)(C:Calls)(t:Bool)(b:E)(v:RV)(U:Env):aR RV:=match v with
 |.sh (.bl true)=>ev P C t b U
 |.sh (.bl false)=>some (.ok (.sh (.bl false)),U)
 |_=>none
noncomputable def kOr(P:aW)(C:Calls)(t:Bool)(b:E)(v:RV)(U:Env):aR RV:=match v with
 |.sh (.bl true)=>some (.ok (.sh (.bl true)),U)
 |.sh (.bl false)=>ev P C t b U
 |_=>none
theorem aBI:ev P C t (.and a b) U=(ev P C t a U).bind (aBh P C t b):=rfl
theorem aEs:ev P C t (.or a b) U=(ev P C t a U).bind (kOr P C t b):=rfl
theorem aBz:aBh P C t b (.sh (.bl x)) U=if x=true then ev P C t b U else some (.ok (.sh (.bl false)),U):=by cases x<;>rfl
theorem aFi:kOr P C t b (.sh (.bl x)) U=if x=true then some (.ok (.sh (.bl true)),U) else ev P C t b U:=by cases x<;>rfl
noncomputable def fH(a:Option D)(k:D):Option RV:=a.bind λd=>(J7 d k).map .sh
noncomputable def OD(x:Hd)(k:RV)(U:Env):aR RV:=done (fH (x.get U) k.d) U
noncomputable def aBL(P:aW)(C:Calls)(i:E)(x:Hd)(U:Env):aR RV:=(ev P C false i U).bind (OD x)
theorem aEt:OD x k U=done (fH (x.get U) k.d) U:=rfl
theorem aDR:aBL P C i x U=(ev P C false i U).bind (OD x):=rfl
theorem aFn:ev P C t (.ix a i) U=bL t ((eA P C a U).bind (aBL P C i)):=rfl
def UD(h:L2.cP ds i=some d):fH (some (.tup ds)) (.int i)=some (.sh d):=by
 show(L2.cP ds i).map RV.sh=_;rw[h];rfl
theorem aAM:fH (some (.tup ds)) (.int i)=(L2.cP ds i).map RV.sh:=rfl
theorem aCR:fH (some (.lst ds)) (.int i)=(L2.cP ds i).map RV.sh:=rfl
def nN:L2.cP xs (OfNat.ofNat n)=xs[n]?:=by
 show L2.cP xs ((n:Nat):Int)=_
 cases h:xs[n]? with
 |some v=>exact L2.fE h
 |none =>
  unfold L2.cP L2.kS
  have:=List.getElem?_eq_none_iff.mp h
  rw[Zo (by omega),Zp (by omega)];rfl
theorem aBK:L2.cP xs 0=xs[0]?:=nN (n:=0)
theorem aF1:L2.cP xs 1=xs[1]?:=nN (n:=1)
theorem aGH:L2.cP xs 2=xs[2]?:=nN (n:=2)
theorem aGs:L2.cP xs 3=xs[3]?:=nN (n:=3)
noncomputable def MV(a l h:Option D):Option RV:=a.bind λd=>(mX l).bind λl=>(mX h).bind λh=>SF d l h
noncomputable def QX(x:Hd)(l h:Option D)(U:Env):aR RV:=done (MV (x.get U) l h) U
noncomputable def zM(P:aW)(C:Calls)(e:E)(U:Env):aR (Option D):=wF e (ev P C false e U) U
noncomputable def PU(P:aW)(C:Calls)(hi:E)(x:Hd)(l:Option D)(U:Env):aR RV:=(zM P C hi U).bind (QX x l)
noncomputable def aAG(P:aW)(C:Calls)(lo hi:E)(x:Hd)(U:Env):aR RV:=(zM P C lo U).bind (PU P C hi x)
theorem aDV:QX x l h U=done (MV (x.get U) l h) U:=rfl
theorem aDL:PU P C hi x l U=(zM P C hi U).bind (QX x l):=rfl
theorem aDY:aAG P C lo hi x U=(zM P C lo U).bind (PU P C hi x):=rfl
theorem VQ:zM P C .omt U=some (.ok none,U):=rfl
noncomputable def IB(v:RV)(U:Env):aR (Option D):=some (.ok (some v.d),U)
theorem aBr:IB v U=some (.ok (some v.d),U):=rfl
theorem YJ:zM P C (.con d) U=some (.ok (some d),U):=rfl
theorem WW:zM P C (.var i) U=(ev P C false (.var i) U).bind IB:=rfl
theorem ZO:zM P C (.bin op a b) U=(ev P C false (.bin op a b) U).bind IB:=rfl
theorem aDT:ev P C t (.sl a lo hi) U=bL t ((eA P C a U).bind (aAG P C lo hi)):=rfl
noncomputable def AO(P:aW)(C:Calls)(f:String)(hs:List Hd)(U:Env):aR RV:=eI (P f) (C f) hs U
theorem aAp:AO P C f hs U=eI (P f) (C f) hs U:=rfl
theorem VD:ev P C t (.call f es) U=bL t ((cD P C es U).bind (AO P C f)):=rfl
noncomputable def P8(pins:List Bool)(hs:List Hd)(U U1:Env):aR RV->aR RV
 |none=>none
 |some (o,as')=>(bI pins hs as' U U1).map λU'=>(o,U')
noncomputable def aBk(pins:List Bool)(f:List Sl->aR RV)(hs:List Hd)(U:Env):Option (List Sl×Env)->aR RV
 |none=>none
 |some (as,U1)=>P8 pins hs U U1 (f as)
theorem YT:eI pins f hs U=aBk pins f hs U (bS pins hs U):=rfl
theorem aEH:aBk pins f hs U (some (as,U1))=P8 pins hs U U1 (f as):=rfl
noncomputable def aCj(o:Out RV)(x:Option Env):aR RV:=x.map λU'=>(o,U')
theorem aEi:aCj o (some U)=some (o,U):=rfl
theorem aEx:P8 pins hs U U1 (some (o,as'))=aCj o (bI pins hs as' U U1):=rfl
noncomputable def zJ(a:Sl)(o:Option (List Sl×Env)):Option (List Sl×Env):=o.map λ(as,U')=>(a::as,U')
theorem aGp:zJ a (some (as,U))=some (a::as,U):=rfl
theorem aDj:bS [] [] U=some ([],U):=rfl
theorem aDD:bS (p::ps) (.val (.sh d)::r) U=zJ (.sh d) (bS ps r U):=rfl
theorem aCS:bS (true::ps) (.val (.ow d)::r) U=zJ (.ow d true false) (bS ps r U):=rfl
noncomputable def kLs(p:Bool)(ps:List Bool)(i:Nat)(r:List Hd)(U:Env):Option Sl->Option (List Sl×Env)
 |some (.sh d)=>zJ (.sh d) (bS ps r U)
 |some (.ow d pin lk)=>match p with
  |true=>zJ (.ow d true lk) (bS ps r (U.set i .un))
  |false=>if pin||lk then none else zJ (.sh d) (bS ps r (U.set i (.sh d)))
 |_=>none
theorem WN:bS (p::ps) (.slot i::r) U=kLs p ps i r U U[i]?:=rfl
theorem aBP:kLs p ps i r U (some (.sh d))=zJ (.sh d) (bS ps r U):=rfl
theorem WY:kLs true ps i r U (some (.ow d pin lk))=zJ (.ow d true lk) (bS ps r (U.set i .un)):=rfl
theorem aC6:bI [] [] [] U0 U=some U:=rfl
theorem aGf:bI (false::ps) (.slot i::hs) (a::as) U0 U=bI ps hs as U0 U:=rfl
theorem aE4:bI (false::ps) (.val v::hs) (a::as) U0 U=bI ps hs as U0 U:=rfl
theorem aBX:bI (true::ps) (.val v::hs) (a::as) U0 U=bI ps hs as U0 U:=rfl
noncomputable def kGb(ps:List Bool)(i:Nat)(hs:List Hd)(a:Sl)(as:List Sl)(U0 U:Env)(o:Option Sl):Option Env :=
  match o,a with
  |some (.ow _ pin lk),.ow d _ _=>bI ps hs as U0 (U.set i (.ow d pin lk))
  |some (.ow _ _ _),_=>none
  |_,_=>bI ps hs as U0 U
theorem YM:bI (true::ps) (.slot i::hs) (a::as) U0 U=kGb ps i hs a as U0 U U0[i]?:=rfl
theorem aBv:kGb ps i hs (.ow d p l) as U0 U (some (.ow d' p' l'))=bI ps hs as U0 (U.set i (.ow d p' l')):=rfl
theorem aCN:kGb ps i hs a as U0 U (some (.sh d))=bI ps hs as U0 U:=rfl
noncomputable def aBl(f:BI)(hs:List Hd)(U:Env):aR RV:=done ((getAll hs U).bind (nL f)) U
theorem aDN:aBl f hs U=done ((getAll hs U).bind (nL f)) U:=rfl
theorem aBy:ev P C t (.bif f es) U=bL t ((cD P C es U).bind (aBl f)):=rfl
theorem aCy:getAll [] U=some []:=rfl
noncomputable def gaC(a:Option D)(b:Option (List D)):Option (List D):=a.bind λd=>b.map (d :: ·)
theorem aG5:gaC (some d) (some ds)=some (d::ds):=rfl
theorem X4:getAll (h::r) U=gaC (h.get U) (getAll r U):=rfl
theorem aCw:nL .len [.lst ds]=some (.sh (.int ds.length)):=rfl
theorem aA7:nL .len [.tup ds]=some (.sh (.int ds.length)):=rfl
theorem aD1:nL .abs [.int i]=some (.sh (.int (if i<0 then -i else i))):=rfl
theorem aAy:nL .int [.bl b]=some (.sh (.int (if b then 1 else 0))):=rfl
theorem aAY:nL .tuple [.lst ds]=some (.sh (.tup ds)):=rfl
noncomputable def GQ(ts:List Ty):Option D->Option RV
 |some d=>(uV ts d).map λb=>.sh (.bl b)
 |none=>none
noncomputable def QP(ts:List Ty)(x:Hd)(U:Env):aR RV:=done (GQ ts (x.get U)) U
theorem aE1:QP ts x U=done (GQ ts (x.get U)) U:=rfl
theorem aBD:ev P C t (.isi a ts) U=bL t ((eA P C a U).bind (QP ts)):=by
 show bL t ((eA P C a U).bind λx U1=>done ((x.get U1).bind λd=>(uV ts d).map λb=>.sh (.bl b)) U1)=_
 congr 2
 funext x U1
 unfold QP;cases x.get U1<;>rfl
theorem GR:GQ [.int] (some (.int i))=some (.sh (.bl true)):=rfl
theorem EB:GQ [.bool] (some (.int i))=some (.sh (.bl false)):=rfl
noncomputable def PJ(i:Nat)(d:D)(U:Env)(o:Option Sl):aR RV:=match o with
 |some (.ow (.lst ds) p false)=>if aJ (ds.length+1) then some (.ok (.sh .non),U.set i (.ow (.lst (ds++[d])) p false)) else none
 |_=>none
noncomputable def UK(i:Nat)(v:RV)(U:Env):aR RV:=PJ i v.d U U[i]?
theorem aAk:UK i v U=PJ i v.d U U[i]?:=rfl
theorem aEh:PJ i d U (some (.ow (.lst ds) p false))=BU (aJ (ds.length+1)) (.sh .non) (U.set i (.ow (.lst (ds++[d])) p false)):=rfl
noncomputable def GF(r:aR RV)(b:Bool):aR RV:=if b then r else none
theorem aCi:GF r true=r:=rfl
theorem aBR:ev P C t (.app i a) U=bL t (GF ((ev P C false a U).bind (UK i)) (iU U i)):=rfl
noncomputable def IU:Option Sl->Bool
 |some (.ow (.lst _) _ _)=>true
 |_=>false
theorem aEQ:iU U i=IU U[i]?:=rfl
theorem OU:IU (some (.ow (.lst ds) p l))=true:=rfl
noncomputable def aDw(i:Nat)(v:RV)(U:Env):cJ:=kL (store i v U)
theorem aFm:aDw i v U=kL (store i v U):=rfl
theorem aAR:ex P C W (.asg i e) U=(ev P C false e U).flow (aDw i):=rfl
noncomputable def BG(i:Nat)(v:RV)(U:Env)(o:Option Sl):Option Env:=match o with
 |none=>none
 |some (.ow _ true _)=>none
 |some (.ow _ _ true)=>none
 |some _=>match v with
  |.sh d=>some (U.set i (.sh d))
  |.ow d=>some (U.set i (.ow d false false))
  |.od _=>none
theorem NI{i:Nat}{v:RV}:store i v U=BG i v U U[i]?:=rfl
theorem XM:BG i (.sh d) U (some .un)=some (U.set i (.sh d)):=rfl
theorem V0:BG i (.ow d) U (some .un)=some (U.set i (.ow d false false)):=rfl
theorem ZK:BG i (.sh d) U (some (.sh d'))=some (U.set i (.sh d)):=rfl
theorem WV:BG i (.ow d) U (some (.ow d' false false))=some (U.set i (.ow d false false)):=rfl
noncomputable def bE:Sl->Bool
 |.un=>true
 |.mv=>true
 |.sh _=>true
 |.ow _ false false=>true
 |_=>false
theorem aZ(h:bE s=true):BG i (.sh d) U (some s)=some (U.set i (.sh d)):=by
 cases s with
 |ow d p l=>cases p<;>cases l<;>first | rfl | cases h
 |_=>rfl
theorem YW(h:bE s=true):BG i (.ow d) U (some s)=some (U.set i (.ow d false false)):=by
 cases s with
 |ow d p l=>cases p<;>cases l<;>first | rfl | cases h
 |_=>rfl
theorem aCg:bE .un=true:=rfl
theorem aCs:bE (.sh d)=true:=rfl
theorem aCx:bE (.ow d false false)=true:=rfl
theorem vA{i:Nat}{d:D}:aT true [i] d U=store i (.sh d) U:=rfl
theorem rN{i:Nat}{is:List Nat}{ds:List D}:aT false (i::is) (.tup ds) U=dY (i::is) ds U:=rfl
theorem vF:dY [] [] U=some U:=rfl
noncomputable def kSs(is:List Nat)(ds:List D)(o:Option Env):Option Env:=o.bind (dY is ds)
theorem rH{i:Nat}{is:List Nat}{d:D}{ds:List D}:dY (i::is) (d::ds) U=kSs is ds (store i (.sh d) U):=rfl
theorem GU{is:List Nat}{ds:List D}:kSs is ds (some U)=dY is ds U:=rfl
noncomputable def N1(i:Nat)(v:D)(U:Env):Option Sl->D->cJ
 |some (.ow (.lst ds) p false),.int n=>kL ((L2.kS ds.length n).map λm=>U.set i (.ow (.lst (ds.set m v)) p false))
 |_,_=>none
noncomputable def JL(i:Nat)(v:RV)(j:RV)(U:Env):cJ:=N1 i v.d U U[i]? j.d
noncomputable def OM(i:Nat)(v j:RV)(U:Env):Option Sl->cJ
 |o=>match o,j,v with
  |some (.ow (.dct kvs) p false),.sh (.int n),.sh (.int m)=>if aJ (kvs.length+1) then some (.nx,U.set i (.ow (.dct (fN kvs n m)) p false)) else none
  |_,_,_=>none
noncomputable def IW(i:Nat)(v:RV)(j:RV)(U:Env):cJ:=OM i v j U U[i]?
theorem aAH:IW i v j U=OM i v j U U[i]?:=rfl
theorem aEn(h:aJ (kvs.length+1)=true):OM i (.sh (.int m)) (.sh (.int n)) U (some (.ow (.dct kvs) p false))=some (.nx,U.set i (.ow (.dct (fN kvs n m)) p false)):=Zo h
noncomputable def UJ:Option Sl->Bool
 |some (.ow (.dct _) _ _)=>true
 |_=>false
theorem aEd:x9 U i=UJ U[i]?:=rfl
theorem R4:UJ (some (.ow (.dct kvs) p l))=true:=rfl
theorem N6:IU (some (.ow (.dct kvs) p l))=false:=rfl
noncomputable def yD(r r':cJ)(b:Bool):cJ:=if b then r else r'
theorem aAf:yD r r' true=r:=rfl
theorem aBB:yD r r' false=r':=rfl
noncomputable def kPS(i:Nat)(v:RV)(j:RV)(U:Env):cJ:=aAT i U U[i]? (OV j.d) v
theorem aGv:kPS i v j U=aAT i U U[i]? (OV j.d) v:=rfl
noncomputable def aDJ:Option Sl->Bool
 |some (.ow (.dcs _ _) _ _)=>true
 |_=>false
theorem aEU:aGB U i=aDJ U[i]?:=rfl
noncomputable def HS(P:aW)(C:Calls)(i:Nat)(k:E)(v:RV)(U:Env):cJ:=none
theorem aDa:HS P C i k v U=none:=rfl
noncomputable def R7(P:aW)(C:Calls)(i:Nat)(k:E)(v:RV)(U:Env):cJ:=yD ((ev P C false k U).flow (JL i v)) (yD ((ev P C false k U).flow (IW i v)) (HS P C i k v U) (x9 U i)) (iU U i)
theorem aAl:JL i v j U=N1 i v.d U U[i]? j.d:=rfl
theorem aDB:R7 P C i k v U=yD ((ev P C false k U).flow (JL i v)) (yD ((ev P C false k U).flow (IW i v)) (HS P C i k v U) (x9 U i)) (iU U i):=rfl
theorem aDl:ex P C W (.set i k e) U=(ev P C false e U).flow (R7 P C i k):=rfl
def aEC:L2.kS (n+2) 1=some 1:=by unfold L2.kS;rw[Zo (by omega),Zo (by omega)];rfl
theorem aAd:N1 i v U (some (.ow (.lst (a::b::ds)) p false)) (.int 1)=some (.nx,U.set i (.ow (.lst (a::v::ds)) p false)):=by
 show kL ((L2.kS (ds.length+2) 1).map _)=_;rw[aEC];rfl
noncomputable def UQ(v:RV)(U:Env):cJ:=some (.nx,U)
theorem aBp:UQ v U=some (.nx,U):=rfl
theorem WX:ex P C W (.expr e) U=(ev P C false e U).flow UQ:=rfl
noncomputable def OZ(i:Nat)(U:Env):Option Sl->cJ
 |some (.ow d false _)=>some (.rt (.ow d),U.set i .mv)
 |some (.sh d)=>some (.rt (.sh d),U)
 |_=>none
theorem V9:OZ i U (some (.ow d false l))=some (.rt (.ow d),U.set i .mv):=rfl
theorem V7:OZ i U (some (.sh d))=some (.rt (.sh d),U):=rfl
noncomputable def j0(v:RV)(U:Env):cJ:=some (.rt v,U)
theorem aDP:j0 v U=some (.rt v,U):=rfl
theorem UU:ex P C W (.ret (.var i)) U=OZ i U U[i]?:=rfl
theorem aA2:ex P C W (.ret (.con d)) U=(ev P C false (.con d) U).flow j0:=rfl
theorem aCv:ex P C W (.ret (.tup es)) U=(ev P C false (.tup es) U).flow j0:=rfl
theorem Z9:ex P C W (.ret (.lst es)) U=(ev P C false (.lst es) U).flow j0:=rfl
theorem aDt:ex P C W (.ret (.bin op a b)) U=(ev P C false (.bin op a b) U).flow j0:=rfl
theorem aDn:ex P C W (.ret (.cmp op a b)) U=(ev P C false (.cmp op a b) U).flow j0:=rfl
theorem aCp:ex P C W (.ret (.and a b)) U=(ev P C false (.and a b) U).flow j0:=rfl
theorem aD5:ex P C W (.ret (.or a b)) U=(ev P C false (.or a b) U).flow j0:=rfl
theorem aEf:ex P C W (.ret (.ix a b)) U=(ev P C false (.ix a b) U).flow j0:=rfl
theorem VW:ex P C W (.ret (.call f es)) U=(ev P C false (.call f es) U).flow j0:=rfl
theorem aBs:ex P C W (.ret (.bif f es)) U=(ev P C false (.bif f es) U).flow j0:=rfl
theorem VX{its cond:List E}:ex P C W (.ret (.comp elt tg k its cond imp nl)) U=(ev P C false (.comp elt tg k its cond imp nl) U).flow j0:=rfl
noncomputable def kIf(P:aW)(C:Calls)(W:Nat)(a b:List S)(v:RV)(U:Env):cJ:=match v with
 |.sh (.bl true)=>exs P C W a U
 |.sh (.bl false)=>exs P C W b U
 |_=>none
theorem aD4:kIf P C W a b (.sh (.bl x)) U=if x=true then exs P C W a U else exs P C W b U:=by cases x<;>rfl
theorem aDd:ex P C W (.ifs c a b) U=(ev P C true c U).flow (kIf P C W a b):=rfl
noncomputable def RT(P:aW)(C:Calls)(W:Nat)(tg:List Nat)(one:Bool)(body:List S)(U:Env):Option (List D×Option Nat)->cJ
 |none=>none
 |some (ds,o)=>(cB (aT one tg) (exs P C W body) ds (aK o U)).restore o U
theorem aFl:RT P C W tg one body U (some (ds,o))=(cB (aT one tg) (exs P C W body) ds (aK o U)).restore o U:=rfl
noncomputable def aBE(P:aW)(C:Calls)(W:Nat)(tg:List Nat)(one:Bool)(k:ItK)(body:List S)(hs:List Hd)(U:Env):cJ:=RT P C W tg one body U (aD k hs U)
theorem aEW:aBE P C W tg one k body hs U=RT P C W tg one body U (aD k hs U):=rfl
theorem aCW:ex P C W (.for tg one k its body) U=(cD P C its U).flow (aBE P C W tg one k body):=rfl
theorem xP:exs P C W [] U=some (.nx,U):=rfl
theorem dW:exs P C W (s::r) U=(ex P C W s U).next (exs P C W r):=rfl
theorem XS{r:cJ}:r.restore none U0=r:=by cases r with | none=>rfl | some y=>obtain⟨fl,U⟩:=y;rfl
theorem V5:aK none U=U:=rfl
def mV(h:a.get U=some (.int n))(h1:-1000000<=n)(h2:n<=1000000):aD .rng [a] U=some ((List.range n.toNat).map λ(j:Nat)=>.int (j:Int),none):=by
 (unfold aD;simp only[h]);exact Zo ⟨h1,h2⟩
def S8(h:a.get U=some (.int m))(h':b.get U=some (.int n))(h1:-1000000<=m/\m<=1000000)(h2:-1000000<=n/\n<=1000000):aD .rng [a,b] U=some ((List.range (n-m).toNat).map λ(j:Nat)=>.int (m+(j:Int)),none):=by
 (unfold aD;simp only[h,h']);exact Zo ⟨h1,h2⟩
def AK(h:v.d=.lst ds):aD .of [.val v] U=some (ds,none):=by(unfold aD;simp only[h])
def F7(h:v.d=.tup ds):aD .of [.val v] U=some (ds,none):=by(unfold aD;simp only[h])
def vT(h:U[i]?=some (.sh (.tup ds))):aD .of [.slot i] U=some (ds,none):=by(unfold aD;simp only[h])
def F4(h:U[i]?=some (.ow (.lst ds) p l)):aD .of [.slot i] U=some (ds,some i):=by(unfold aD;simp only[h])
def b4{bind:D->Env->Option Env}(I:List D->Env->Prop)(h:∀pre d post,ds=pre++d::post->∀U,I pre U->∃U1,bind d U=some U1/\∃U2,body U1=some (.nx,U2)/\I (pre++[d]) U2)(h0:I [] U):∃U',cB bind body ds U=some (.nx,U')/\I ds U':=by
 have key:∀(post pre:List D) (U:Env),ds=pre++post->I pre U->∃U',cB bind body post U=some (.nx,U')/\I ds U':=by
  intro post
  induction post with
  |nil=>intro pre U e hp;rw[List.append_nil] at e;subst e;exact⟨U,rfl,hp⟩
  |cons d post ih =>
   intro pre U e hp;obtain⟨U1,e1,U2,e2,h2⟩:=h pre d post e U hp;obtain⟨U',e3,h3⟩:=ih (pre++[d]) U2 (by rw[e];simp) h2;exact⟨U',by simp only[cB,e1,e2,e3],h3⟩
 exact key ds [] U rfl h0
noncomputable def JH(as:List Sl):cJ->aR RV
 |some (.nx,U)=>some (.ok (.sh .non),back as U)
 |some (.rt v,U)=>some (.ok v,back as U)
 |_=>none
theorem EV:JH as (some (.rt v,U))=some (.ok v,back as U):=rfl
def bO(hT:T f=some fn)(h1:as.length=fn.pins.length)(h2:as.all k7=true)(h3:fn.rs=false:=by rfl):run T W (n+1) f as=JH as (exs T.pins (run T W n) W fn.body (as++List.replicate fn.nl .un)):=by
 simp only[run,hT];rw[Zo ⟨h1,h2⟩,h3];generalize exs T.pins (run T W n) W fn.body (as++List.replicate fn.nl .un)=r;obtain _ | ⟨fl,U⟩:=r
 ·rfl
 ·cases fl<;>rfl
end
end CI
namespace CI
open PySem PySem.Spec PyProof.Rows L2
noncomputable def HJ:D->Value->Bool
 |.non,.none=>true
 |.bl a,.bool b=>a==b
 |.int i,.int j _=>i==j
 |.str x,.str y _=>x==y&&PyData.strOk x
 |_,_=>false
noncomputable def nX:List D->List Value->Bool
 |[],[]=>true
 |d::ds,v::vs=>HJ d v&&nX ds vs
 |_,_=>false
def PY{K:Frag}(h:HJ d u=true):∃v,aY v u/\∀G,aC K G d v:=by
 cases d<;>cases u<;>simp only[HJ,Bool.false_eq_true] at h
 ·exact⟨.non,rfl,λG=>by simp[aC]⟩
 ·exact⟨.bl _,rfl,λG=>by simp[aC,Zy h]⟩
 ·rename_i i j t;exact⟨.int i,⟨t,by rw[Zy h]⟩,λG=>by simp[aC]⟩
 ·rename_i x y t;rw[ZB] at h;exact⟨.str x,⟨t,by rw[Zy h.1]⟩,λG=>by simp[aC,h.2]⟩
theorem y6{K:Frag}:∀{ds:List D} {us:List Value},nX ds us=true->∃vs,aQ vs us/\∀G,aB K G ds vs
 |[],[],_=>⟨[],.nil,λG=>aB.nil⟩
 |d::ds,u::us,h=>by
  simp only[nX,ZB] at h;obtain⟨v,h1,h2⟩:=PY h.1;obtain⟨vs,h3,h4⟩:=y6 h.2;exact⟨v::vs,.cons h1 h3,λG=>aB.cons (h2 G) (h4 G)⟩
 |[],_::_,h=>by simp[nX] at h
 |_::_,[],h=>by simp[nX] at h
def E7{K:Frag}{sl}(X:K.In h)(G:h.Ns mainGlobals mg)
  (ha:nsIn K mainGlobals x=some (some (.ref a))) (hl:K.lookup a=some ⟨.type "tuple",dd,.seq its n,sl⟩) (hc:nX ds its.toList=true) (hz:decide (its.size<=1000)=true):tU K mg T gl (x,.con (.tup ds)):=by
 obtain⟨vs,h1,h2⟩:=y6 hc;refine⟨_,.ref a,PySem.W.mg_of X G ha,rfl,λG=>?_⟩;simp only[aC];exact⟨a,vs,rfl,.inr ⟨_,its,n,hl,rfl,rfl,Zr (of_decide_eq_true hz) (by decide),h1⟩,h2 G⟩
noncomputable section
variable{U U1:Env}
noncomputable def uN(P:aW)(C:Calls)(elt:E)(tg:List Nat)(k:ItK)(cond:List E)(imp:List Nat)(nl:Nat)(hs:List Hd)(U1:Env):aR RV :=
 match aD k hs U1 with
 |none=>none
 |some (ds,o)=>(eI (imp.map λ_=>true) (mM (cR P C cond) (ev P C false elt) (aT (tg.length==1) tg) ds nl) (imp.map Hd.slot) (aK o U1)).bind (gZ o U1)
theorem ZD{its cond:List E}:ev P C t (.comp elt tg k its cond imp nl) U=bL t ((cD P C its U).bind (uN P C elt tg k cond imp nl)):=rfl
def cZ{cond:List E}(h:aD k hs U1=some (ds,none)) :
  uN P C elt tg k cond imp nl hs U1=(eI (imp.map λ_=>true) (mM (cR P C cond) (ev P C false elt) (aT (tg.length==1) tg) ds nl) (imp.map Hd.slot) U1).bind (gZ none U1):=by
 unfold uN;rw[h];rfl
theorem KP:gZ none U1 v U2=some (.ok v,U2):=rfl
def EZ{cond:List E}(h:aD k hs U1=some (ds,some i)) :
  uN P C elt tg k cond imp nl hs U1=(eI (imp.map λ_=>true) (mM (cR P C cond) (ev P C false elt) (aT (tg.length==1) tg) ds nl) (imp.map Hd.slot) (aK (some i) U1)).bind (gZ (some i) U1):=by
 unfold uN;rw[h]
noncomputable def IV(as:List Sl)(acc:List D)(Ui:Env):aR RV:=if aJ acc.length then some (.ok (.ow (.lst acc)),back as Ui) else none
theorem J6{bind:D->Env->Option Env}(h:as.all k7=true):mM tests elt bind ds nl as=(d7 tests elt bind ds [] (as++List.replicate nl .un)).bind (IV as):=by
 unfold mM;rw[Zo h];rfl
theorem aAN(h:aJ acc.length=true):IV as acc Ui=some (.ok (.ow (.lst acc)),back as Ui):=by unfold IV;rw[Zo h]
theorem jT:cR P C [] U=some (.ok (.sh (.bl true)),U):=rfl
noncomputable def kTs(P:aW)(C:Calls)(es:List E)(v:RV)(U1:Env):aR RV:=match v with
 |.sh (.bl true)=>cR P C es U1
 |.sh (.bl false)=>some (.ok (.sh (.bl false)),U1)
 |_=>none
theorem KQ:cR P C (e::es) U=(ev P C true e U).bind (kTs P C es):=rfl
theorem aEy:kTs P C [] (.sh (.bl b)) U1=some (.ok (.sh (.bl b)),U1):=by
 cases b
 ·rfl
 ·show cR P C [] U1=_;exact jT
theorem OL:k7 (.ow d true l)=true:=rfl
theorem OY:k7 (.sh d)=true:=rfl
def gX{bind:D->Env->Option Env}(I:Nat->List D->Env->Prop)
  (step:∀(j:Nat) (d:D),ds[j]?=some d->∀acc U,I j acc U->∃U1 c U2,bind d U=some U1/\tests U1=some (.ok (.sh (.bl c)),U2)/\(c=true->∃v U3,elt U2=some (.ok v,U3)/\I (j+1) (acc++[v.d]) U3)/\(c=false->I (j+1) acc U2)) :
  ∀acc U,I 0 acc U->∃acc' U',d7 tests elt bind ds acc U=some (.ok acc',U')/\I ds.length acc' U'/\acc'.length<=acc.length+ds.length:=by
 have key:∀(es:List D) (j:Nat),ds.drop j=es->∀acc U,I j acc U->∃acc' U',d7 tests elt bind es acc U=some (.ok acc',U')/\I (j+es.length) acc' U'/\acc'.length<=acc.length+es.length:=by
  intro es
  induction es with
  |nil=>intro j _ acc U h;exact⟨acc,U,rfl,h,by simp⟩
  |cons d es ih =>
   intro j hj acc U h
   have hd:ds[j]?=some d:=by
    have:(ds.drop j)[0]?=some d:=by rw[hj];rfl
    simpa using this
   have hj':ds.drop (j+1)=es:=by
    have:(ds.drop j).drop 1=es:=by rw[hj];rfl
    rw[List.drop_drop] at this;exact this
   obtain⟨U1,c,U2,h1,h2,h3,h4⟩:=step j d hd acc U h;simp only[d7,h1,h2,aR.bind]
   cases c with
   |false =>
    obtain⟨acc',U',e1,e2,e3⟩:=ih (j+1) hj' acc U2 (h4 rfl);refine⟨acc',U',e1, ?_,by simp only[Zk];omega⟩
    have:j+(d::es).length=j+1+es.length:=by simp only[Zk];omega
    rw[this];exact e2
   |true =>
    obtain⟨v,U3,h5,h6⟩:=h3 rfl;obtain⟨acc',U',e1,e2,e3⟩:=ih (j+1) hj' (acc++[v.d]) U3 h6;simp only[h5];refine⟨acc',U',e1, ?_,by simp only[Za,Zk,List.length_nil] at e3 ⊢;omega⟩
    have:j+(d::es).length=j+1+es.length:=by simp only[Zk];omega
    rw[this];exact e2
 intro acc U h
 have:=key ds 0 rfl acc U h
 simpa using this
def cG(h:n<=1000000):aJ n=true:=d5 h
end
end CI
namespace CI
open PySem (Operator CmpOp Str)
noncomputable section
variable{U U1 U2:Env}
theorem VN:eA P C (.fld a f) U=(ev P C false (.fld a f) U).bind jC:=rfl
theorem Q4:eA P C (.meth i m tb es) U=(ev P C false (.meth i m tb es) U).bind jC:=rfl
noncomputable def iY(o:Option D)(f:Str):Option RV:=o.bind λd=>(QL d f).map .sh
noncomputable def aA8(f:Str)(x:Hd)(U:Env):aR RV:=done (iY (x.get U) f) U
theorem aER:aA8 f x U=done (iY (x.get U) f) U:=rfl
theorem aCl:ev P C t (.fld a f) U=bL t ((eA P C a U).bind (aA8 f)):=rfl
noncomputable def AN(c:Str)(ns:List Str)(ds:List D)(U:Env):aR RV:=if ds.length=ns.length then some (.ok (.sh (.ins c ns ds)),U) else none
theorem ZG:ev P C t (.make c ns es) U=bL t ((mB P C es U).bind (AN c ns)):=rfl
theorem XY:AN c [f] [a] U=some (.ok (.sh (.ins c [f] [a])),U):=rfl
theorem VM:AN c [f,g] [a,b] U=some (.ok (.sh (.ins c [f,g] [a,b])),U):=rfl
theorem W2:AN c [f,g,h] [a,b,d] U=some (.ok (.sh (.ins c [f,g,h] [a,b,d])),U):=rfl
noncomputable def IE(P:aW)(C:Calls)(f:String)(d:D)(hs:List Hd)(U:Env):aR RV:=AO P C f (.val (.sh d)::hs) U
theorem aC1:IE P C f d hs U=AO P C f (.val (.sh d)::hs) U:=rfl
noncomputable def I0(P:aW)(C:Calls)(d:D)(es:List E)(U:Env):Option String->aR RV
 |some f=>(cD P C es U).bind (IE P C f d)
 |none=>none
theorem aCh:I0 P C d es U (some f)=(cD P C es U).bind (IE P C f d):=rfl
noncomputable def aBe(P:aW)(C:Calls)(m:Str)(tb:List (Str×String))(es:List E)(U:Env):Option Sl->aR RV
 |some (.sh (.ins c ns ds))=>I0 P C (.ins c ns ds) es U (fK c ns m tb)
 |_=>none
theorem aDE:aBe P C m tb es U (some (.sh (.ins c ns ds)))=I0 P C (.ins c ns ds) es U (fK c ns m tb):=rfl
theorem X3:ev P C t (.meth i m tb es) U=bL t (aBe P C m tb es U U[i]?):=rfl
theorem ZC:ex P C W (.ret (.make c ns es)) U=(ev P C false (.make c ns es) U).flow j0:=rfl
theorem aFf:bV .NotEq (.bl a) (.bl b)=some (!(a==b)):=rfl
theorem zg0:(a::l)[0]?=some a:=rfl
theorem zg1:(a::l)[n+1]?=l[n]?:=rfl
theorem zs0:(a::l).set 0 b=b::l:=rfl
theorem zs1:(a::l).set (n+1) b=a::l.set n b:=rfl
theorem zb:(some a).bind f=f a:=rfl
theorem zm:(some a).map f=some (f a):=rfl
theorem zi:(some a).isSome=true:=rfl
theorem zc:(a::l)++m=a::(l++m):=rfl
theorem zn:[]++l=l:=rfl
theorem zr0:List.replicate 0 a=[]:=rfl
theorem zr1:List.replicate (n+1) a=a::List.replicate n a:=rfl
theorem zl0:([]:List J).length=0:=rfl
theorem zl1:(a::l).length=l.length+1:=rfl
theorem znt:(!true)=false:=rfl
theorem znf:(!false)=true:=rfl
theorem zko:back (.ow d p l::as) (b::bs)=b::back as bs:=rfl
theorem zks:back (.sh d::as) (b::bs)=.sh d::back as bs:=rfl
theorem zkn:back [] bs=[]:=rfl
end
def aGZ{Q:List J->Prop}(h:∀a0,Q [a0])(us:List J)(hl:us.length=1):Q us:=by
 obtain _ | ⟨a0,r0⟩:=us
 ·simp at hl
 obtain _ | ⟨x,y⟩:=r0
 ·exact h a0
 ·simp at hl
def aGN{Q:List J->Prop}(h:∀a0 a1,Q [a0,a1])(us:List J)(hl:us.length=2):Q us:=by
 obtain _ | ⟨a0,r0⟩:=us
 ·simp at hl
 obtain _ | ⟨a1,r1⟩:=r0
 ·simp at hl
 obtain _ | ⟨x,y⟩:=r1
 ·exact h a0 a1
 ·simp at hl
def aF4{Q:List J->Prop}(h:∀a0 a1 a2,Q [a0,a1,a2])(us:List J)(hl:us.length=3):Q us:=by
 obtain _ | ⟨a0,r0⟩:=us
 ·simp at hl
 obtain _ | ⟨a1,r1⟩:=r0
 ·simp at hl
 obtain _ | ⟨a2,r2⟩:=r1
 ·simp at hl
 obtain _ | ⟨x,y⟩:=r2
 ·exact h a0 a1 a2
 ·simp at hl
def aGW{Q:List J->Prop}(h:∀a0 a1 a2 a3,Q [a0,a1,a2,a3])(us:List J)(hl:us.length=4):Q us:=by
 obtain _ | ⟨a0,r0⟩:=us
 ·simp at hl
 obtain _ | ⟨a1,r1⟩:=r0
 ·simp at hl
 obtain _ | ⟨a2,r2⟩:=r1
 ·simp at hl
 obtain _ | ⟨a3,r3⟩:=r2
 ·simp at hl
 obtain _ | ⟨x,y⟩:=r3
 ·exact h a0 a1 a2 a3
 ·simp at hl
def aGK{Q:List J->Prop}(h:∀a0 a1 a2 a3 a4,Q [a0,a1,a2,a3,a4])(us:List J)(hl:us.length=5):Q us:=by
 obtain _ | ⟨a0,r0⟩:=us
 ·simp at hl
 obtain _ | ⟨a1,r1⟩:=r0
 ·simp at hl
 obtain _ | ⟨a2,r2⟩:=r1
 ·simp at hl
 obtain _ | ⟨a3,r3⟩:=r2
 ·simp at hl
 obtain _ | ⟨a4,r4⟩:=r3
 ·simp at hl
 obtain _ | ⟨x,y⟩:=r4
 ·exact h a0 a1 a2 a3 a4
 ·simp at hl
open PySem PySem.Spec PyProof.Rows L2 in
def BQ(x qual:PySem.Str)(st:PySem.Stmt)(kV doc pm:PySem.Value)(an:Option PySem.Addr)(cdv ct:PySem.Value)(us:List PySem.Value):Prop:=PySem.bindArgs (PySem.W.fnOf x qual (eE st) (bY st) (aU st) .none kV doc pm an cdv ct) ⟨us,[]⟩=pure ((cK st).zip us)
def fc{P:J->Prop}(h:P a)(t:∀x∈l,P x):∀x∈a::l,P x:=List.forall_mem_cons.mpr ⟨h,t⟩
section
open PySem PySem.Spec PyProof.Rows L2
abbrev Sc4(st:Stmt):Prop:=(vU st).Nodup/\(vU st).take (cK st).length=cK st/\(∀x∈cK st,(aU st).names.lookup x=some .local\/(aU st).names.lookup x=some .cell)/\∀y∈(aU st).names,y.2≠.free
abbrev CH(x qual:PySem.Str)(st:PySem.Stmt):Prop:=∀(kV doc pm:PySem.Value) (an:Option PySem.Addr) (cdv ct:PySem.Value) (us:List PySem.Value),us.length=(cK st).length->BQ x qual st kV doc pm an cdv ct us
def c8{st:Stmt}(h1:(aU st).kind=.function)(h2:(aU st).isCoroutine=false)(h3:(aU st).isGenerator=false)(h:Sc4 st/\(vU st).length=fn.pins.length+fn.nl/\(cK st).length=fn.pins.length)(b:fn.body=NL gl st)(q:CH x qual st):DefOkQ gl st x qual fn :=
 ⟨⟨h1,h2,h3,h.1.1,h.1.2.1,h.1.2.2.1,h.1.2.2.2⟩,b,h.2.1,h.2.2,q⟩
def C7{st:Stmt}(h1:(aU st).kind=.function)(h2:(aU st).isCoroutine=false)(h3:(aU st).isGenerator=false)(h:Sc4 st/\(cK st).length=ns.length+1/\ns.Nodup/\ns.length<1000)(b:k8 (cK st) 1 (bY st)=some ns)(q:CH "__init__" qual st):IniOk st qual ns :=
 ⟨⟨h1,h2,h3,h.1.1,h.1.2.1,h.1.2.2.1,h.1.2.2.2⟩,b,h.2.1,h.2.2.1,h.2.2.2,q⟩
variable{st:Stmt}
def CY(hn:(cK st).length=1)(h:∀kV doc pm an cdv ct a0,BQ x qual st kV doc pm an cdv ct [a0]):CH x qual st:=λkV doc pm an cdv ct us hl=>aGZ (h kV doc pm an cdv ct) us (hl.trans hn)
def kU(hn:(cK st).length=2)(h:∀kV doc pm an cdv ct a0 a1,BQ x qual st kV doc pm an cdv ct [a0,a1]):CH x qual st:=λkV doc pm an cdv ct us hl=>aGN (h kV doc pm an cdv ct) us (hl.trans hn)
def sG(hn:(cK st).length=3)(h:∀kV doc pm an cdv ct a0 a1 a2,BQ x qual st kV doc pm an cdv ct [a0,a1,a2]):CH x qual st:=λkV doc pm an cdv ct us hl=>aF4 (h kV doc pm an cdv ct) us (hl.trans hn)
def qM(hn:(cK st).length=4)(h:∀kV doc pm an cdv ct a0 a1 a2 a3,BQ x qual st kV doc pm an cdv ct [a0,a1,a2,a3]):CH x qual st:=λkV doc pm an cdv ct us hl=>aGW (h kV doc pm an cdv ct) us (hl.trans hn)
def bn5(hn:(cK st).length=5)(h:∀kV doc pm an cdv ct a0 a1 a2 a3 a4,BQ x qual st kV doc pm an cdv ct [a0,a1,a2,a3,a4]):CH x qual st:=λkV doc pm an cdv ct us hl=>aGK (h kV doc pm an cdv ct) us (hl.trans hn)
end
noncomputable def OB(i:Nat)(v:RV)(U:Env)(o:Option Sl):aR RV:=match o,v with
 |some (.ow (.lst ds) p false),.ow (.lst es)=>if aJ (ds.length+es.length) then some (.ok (.sh .non),U.set i (.ow (.lst (ds++es)) p false)) else none
 |_,_=>none
noncomputable def T8(i:Nat)(v:RV)(U:Env):aR RV:=OB i v U U[i]?
theorem aCQ:T8 i v U=OB i v U U[i]?:=rfl
theorem aD7:OB i (.ow (.lst es)) U (some (.ow (.lst ds) p false))=BU (aJ (ds.length+es.length)) (.sh .non) (U.set i (.ow (.lst (ds++es)) p false)):=rfl
theorem aA9:ev P C t (.ext i a) U=bL t (GF ((ev P C false a U).bind (T8 i)) (iU U i)):=rfl
theorem V1:ev P C t (.dict kvs) U=bL t (some (.ok (.ow (.dct kvs)),U)):=rfl
def J2(h:(ds.all λd=>(fV d).isSome)=true):nL .sorted [.lst ds]=some (.ow (.lst (jK ds))):=Zo h
def R5{ns:List Int}(h:ns.length<64):nL .sorted [.lst (ns.map .int)]=some (.ow (.lst ((iQ ns).map .int))):=by
 cases ns with
 |nil=>rfl
 |cons n ns =>
  show(if((D.int n::ns.map D.int).all λd=>(fV d).isSome)=true then some (RV.ow (.lst (jK (D.int n::ns.map D.int)))) else x5 ((n::ns).map D.int))=_;rw[Zp (λz=>nomatch z)];unfold x5;rw[jS];exact Zo h
theorem UW{kvs:List (Int×Int)}:nL .len [.dct kvs]=some (.sh (.int kvs.length)):=rfl
noncomputable def RJ(i:Nat)(j v:RV)(U:Env)(o:Option Sl):aR RV:=match o,j with
 |some (.ow (.lst ds) p false),.sh (.int n)=>@ite _ ((0<=n/\n<=1000000)/\aJ (ds.length+1)=true) (cl _) (some (.ok (.sh .non),U.set i (.ow (.lst (ds.take n.toNat++v.d::ds.drop n.toNat)) p false))) none
 |_,_=>none
noncomputable def GP(i:Nat)(j v:RV)(U:Env):aR RV:=RJ i j v U U[i]?
noncomputable def T4(P:aW)(C:Calls)(i:Nat)(a:E)(j:RV)(U:Env):aR RV:=(ev P C false a U).bind (GP i j)
theorem aBx:GP i j v U=RJ i j v U U[i]?:=rfl
theorem aBn:T4 P C i a j U=(ev P C false a U).bind (GP i j):=rfl
theorem aDI(h1:0<=n)(h2:n<=1000000)(h3:aJ (ds.length+1)=true):RJ i (.sh (.int n)) v U (some (.ow (.lst ds) p false))=some (.ok (.sh .non),U.set i (.ow (.lst (ds.take n.toNat++v.d::ds.drop n.toNat)) p false)):=Zo ⟨⟨h1,h2⟩,h3⟩
theorem VF:ev P C t (.insr i k a) U=bL t (GF ((ev P C false k U).bind (T4 P C i a)) (iU U i)):=rfl
end CI
namespace Tx
open PySem PySem.Spec PyProof.Rows L2 CI
noncomputable def top(i:Nat):Stmt:=PySem.Challenge.pw_canonwright_k59_whole_voices_exchanged_o.main.body.getD i (.Pass ⟨0,0,0,0⟩)
noncomputable def dP:List (Str×String):=[("Span","Span.broken"),("Leap","Leap.broken"),("Back","Back.broken"),("Again","Again.broken"),("Range","Range.broken"),("Above","Above.broken"),("Never","Never.broken")]
noncomputable def eQ:List (Str×String):=[("Span","Span.forbids"),("Range","Range.forbids")]
noncomputable def L:List (Str×GV):=("NOTES",.con (.int 0))::("BAR",.con (.int 1))::("OCTAVE",.con (.int 2))::("VOICES",.con (.int 3))::("RULES",.con (.int 4))::("LATE",.con (.int 0))::("SHIFT",.con (.int 1))::("TURNED",.con (.int 2))::("LEADER",.con (.tup [(.int 0),(.int 0),(.bl false)]))::("BY_THE_LINE",.con (.tup []))::("is_whole",.fn "is_whole")::("is_within",.fn "is_within")::("with_parts",.fn "with_parts")::("renamed",.fn "renamed")::("exchanged",.fn "exchanged")::("names",.fn "names")::("without",.fn "without")::("pitch",.fn "pitch")::("singer",.fn "singer")::("sung",.fn "sung")::("span",.fn "span")::("chord",.fn "chord")::("sounding_pairs",.fn "sounding_pairs")::("move_so",.fn "move_so")::("rule_of",.fn "rule_of")::("rules_of",.fn "rules_of")::("breaks_at",.fn "breaks_at")::("breaks",.fn "breaks")::("first_break",.fn "first_break")::("is_let_by",.fn "is_let_by")::("_law_pen",.fn "L_pen")::("_law_draw",.fn "L_draw")::("_law_rule",.fn "L_rule")::("_law_house",.fn "L_house")::("_law_line",.fn "L_line")::("_law_order",.fn "L_order")::("_law_told_anew",.fn "L_told_anew")::("_law_places",.fn "L_places")::("law",.fn "law")::("Span",.cls ["beat","spans"])::("Leap",.cls ["most"])::("Back",.cls ["leap","most"])::("Again",.cls ["most"])::("Range",.cls ["low","high"])::("Above",.cls ["one","other"])::("Never",.cls ["one","other","way"])::(pT "broken",.mth dP)::(pT "forbids",.mth eQ)::("abs",.blt)::("all",.blt)::("bool",.blt)::("enumerate",.blt)::("int",.blt)::("isinstance",.blt)::("len",.blt)::("range",.blt)::("sorted",.blt)::("tuple",.blt)::[]
noncomputable def XF:Stmt->List Stmt
 |.ClassDef _ _ _ body _ _ _ _ _ _ _=>body
 |_=>[]
noncomputable def kW(i j:Nat):Stmt:=(XF (top i)).getD j (.Pass ⟨0,0,0,0⟩)
noncomputable def jR:E:=(.ix (.ix (.var 0) (.con (.int 3))) (.bin .Sub (.var 2) (.con (.int 1))))
noncomputable def j5:E:=(.call "renamed" [(.var 2),(.var 0)])
noncomputable def mC:E:=(.var 2)
noncomputable def lP:E:=(.ix (.ix (.var 0) (.con (.int 3))) (.bin .Sub (.var 2) (.con (.int 1))))
noncomputable def lT:E:=(.call "renamed" [(.var 3),(.var 0)])
noncomputable def o4:E:=(.call "sung" [(.var 1),(.var 2),(.var 4),(.var 0)])
noncomputable def iW:E:=(.tup [(.var 4),(.var 5)])
noncomputable def iG:E:=(.cmp .Eq (.var 3) (.ix (.var 1) (.var 0)))
noncomputable def iF:E:=(.tup [(.var 2)])
noncomputable def kP:E:=(.call "rule_of" [(.var 1)])
noncomputable def nA:E:=(.call "L_draw" [(.var 1),(.var 0)])
noncomputable def fL:E:=(.cmp .In (.var 2) (.var 0))
noncomputable def fS:E:=(.ix (.var 0) (.var 2))
noncomputable def o5:E:=(.var 2)
noncomputable def j6:List S:=[(.set 2 (.var 4) (.var 3))]
noncomputable def l4:List S:=[(.set 5 (.var 3) (.var 6))]
noncomputable def gC:List S:=[(.ifs (.and (.cmp .IsNot (.ix (.var 0) (.var 2)) (.con .non)) (.cmp .IsNot (.ix (.var 0) (.var 3)) (.con .non))) [(.expr (.app 1 (.tup [(.var 2),(.var 3)])))] [])]
noncomputable def gE:List S:=[(.for [3] true .rng [(.bin .Add (.var 2) (.con (.int 1))),(.bif .len [(.var 0)])] gC)]
noncomputable def iI:List S:=[(.ifs (.and (.cmp .Eq (.call "span" [(.var 4),(.ix (.var 5) (.var 8)),(.ix (.var 5) (.var 9))]) (.fld (.var 0) "one")) (.cmp .Eq (.call "span" [(.var 4),(.ix (.var 6) (.var 8)),(.ix (.var 6) (.var 9))]) (.fld (.var 0) "other"))) [(.ifs (.call "move_so" [(.fld (.var 0) "way"),(.bin .Sub (.ix (.var 6) (.var 8)) (.ix (.var 5) (.var 8))),(.bin .Sub (.ix (.var 6) (.var 9)) (.ix (.var 5) (.var 9)))]) [(.expr (.app 7 (.tup [(.var 8),(.var 9)])))] [])] [])]
noncomputable def jU:List S:=[(.expr (.app 4 (.tup [(.var 3),(.var 5),(.var 7)])))]
noncomputable def jZ:List S:=[(.for [7] true .of [(.meth 6 "broken" dP [(.var 0),(.var 2),(.var 3)])] jU)]
noncomputable def nD:List S:=[(.expr (.ext 3 (.call "breaks_at" [(.var 0),(.var 2),(.var 1),(.var 4)])))]
noncomputable def iS:List S:=[(.asg 4 (.call "breaks_at" [(.var 0),(.var 2),(.var 1),(.var 3)])),(.ifs (.cmp .Gt (.bif .len [(.var 4)]) (.con (.int 0))) [(.ret (.ix (.var 4) (.con (.int 0))))] [])]
noncomputable def lI:List S:=[(.asg 8 (.call "L_draw" [(.var 0),(.ix (.lst [(.con (.int 2)),(.con (.int 5))]) (.bif .int [(.var 1)]))])),(.expr (.app 6 (.tup [(.var 8),(.bin .Sub (.call "L_draw" [(.var 0),(.con (.int 25))]) (.con (.int 12))),(.cmp .Eq (.call "L_draw" [(.var 0),(.con (.int 4))]) (.con (.int 0)))])))]
noncomputable def lO:List S:=[(.expr (.app 9 (.call "L_rule" [(.var 0),(.var 2),(.var 3),(.var 4),(.var 5)])))]
noncomputable def l3:List S:=[(.expr (.insr 2 (.call "L_draw" [(.var 0),(.bin .Add (.var 3) (.con (.int 1)))]) (.bin .Add (.var 3) (.con (.int 1)))))]
noncomputable def fR:List S:=[(.ifs (.and (.cmp .In (.var 6) (.var 3)) (.bif .all [(.comp fL [2] .of [(.var 7)] [] [2] 2)])) [(.asg 8 (.comp fS [2] .of [(.var 7)] [] [2] 2)),(.ifs (.cmp .NotEq (.ix (.ix (.ix (.var 0) (.con (.int 4))) (.var 6)) (.con (.int 0))) (.con (.str ("above":Str)))) [(.asg 8 (.bif .sorted [(.var 8)]))] []),(.expr (.app 4 (.tup [(.var 5),(.ix (.var 3) (.var 6)),(.bif .tuple [(.var 8)])])))] [])]
noncomputable def kM:List S:=[(.set 1 (.ix (.var 0) (.var 2)) (.bin .Add (.var 2) (.con (.int 1))))]
noncomputable def oK:List S:=[(.set 5 (.var 6) (.var 6))]
noncomputable def oO:List S:=[(.asg 11 (.ix (.ix (.var 1) (.con (.int 4))) (.var 6))),(.ifs (.or (.cmp .NotEq (.ix (.var 11) (.con (.int 0))) (.con (.str ("above":Str)))) (.cmp .NotIn (.var 9) (.sl (.var 11) (.con (.int 1)) .omt))) [(.set 5 (.var 6) (.bif .len [(.var 5)]))] [])]
noncomputable def nC:S:=(.asg 5 (.call "L_draw" [(.var 0),(.con (.int 9))]))
def AI{P:aW}{C:Calls}{W:Nat}{U:CI.Env}:ex P C W nC U=ex P C W (.asg 5 (.call "L_draw" [(.var 0),(.con (.int 9))])) U:=(rfl)
noncomputable def nE:S:=(.ifs (.cmp .Lt (.var 5) (.con (.int 2))) [(.ret (.tup [(.con (.str ("span":Str))),(.call "L_draw" [(.var 0),(.var 2)]),(.call "L_draw" [(.var 0),(.bin .LShift (.con (.int 1)) (.var 3))])]))] [])
def pF{P:aW}{C:Calls}{W:Nat}{U:CI.Env}:ex P C W nE U=ex P C W (.ifs (.cmp .Lt (.var 5) (.con (.int 2))) [(.ret (.tup [(.con (.str ("span":Str))),(.call "L_draw" [(.var 0),(.var 2)]),(.call "L_draw" [(.var 0),(.bin .LShift (.con (.int 1)) (.var 3))])]))] []) U:=(rfl)
noncomputable def sO:S:=(.ifs (.cmp .Eq (.var 5) (.con (.int 2))) [(.ret (.tup [(.con (.str ("span":Str))),(.call "L_draw" [(.var 0),(.var 2)]),(.bin .Sub (.bin .Sub (.bin .LShift (.con (.int 1)) (.var 3)) (.con (.int 1))) (.bin .LShift (.con (.int 1)) (.call "L_draw" [(.var 0),(.var 3)])))]))] [])
def pP{P:aW}{C:Calls}{W:Nat}{U:CI.Env}:ex P C W sO U=ex P C W (.ifs (.cmp .Eq (.var 5) (.con (.int 2))) [(.ret (.tup [(.con (.str ("span":Str))),(.call "L_draw" [(.var 0),(.var 2)]),(.bin .Sub (.bin .Sub (.bin .LShift (.con (.int 1)) (.var 3)) (.con (.int 1))) (.bin .LShift (.con (.int 1)) (.call "L_draw" [(.var 0),(.var 3)])))]))] []) U:=(rfl)
noncomputable def sL:S:=(.ifs (.cmp .Eq (.var 5) (.con (.int 3))) [(.ret (.tup [(.con (.str ("leap":Str))),(.call "L_draw" [(.var 0),(.ix (.lst [(.con (.int 13)),(.bin .Add (.var 1) (.con (.int 1)))]) (.call "L_draw" [(.var 0),(.con (.int 2))]))])]))] [])
def o8{P:aW}{C:Calls}{W:Nat}{U:CI.Env}:ex P C W sL U=ex P C W (.ifs (.cmp .Eq (.var 5) (.con (.int 3))) [(.ret (.tup [(.con (.str ("leap":Str))),(.call "L_draw" [(.var 0),(.ix (.lst [(.con (.int 13)),(.bin .Add (.var 1) (.con (.int 1)))]) (.call "L_draw" [(.var 0),(.con (.int 2))]))])]))] []) U:=(rfl)
noncomputable def sE:S:=(.ifs (.cmp .Eq (.var 5) (.con (.int 4))) [(.ret (.tup [(.con (.str ("back":Str))),(.bin .Add (.con (.int 1)) (.call "L_draw" [(.var 0),(.con (.int 12))])),(.bin .Add (.con (.int 1)) (.call "L_draw" [(.var 0),(.con (.int 12))]))]))] [])
def pI{P:aW}{C:Calls}{W:Nat}{U:CI.Env}:ex P C W sE U=ex P C W (.ifs (.cmp .Eq (.var 5) (.con (.int 4))) [(.ret (.tup [(.con (.str ("back":Str))),(.bin .Add (.con (.int 1)) (.call "L_draw" [(.var 0),(.con (.int 12))])),(.bin .Add (.con (.int 1)) (.call "L_draw" [(.var 0),(.con (.int 12))]))]))] []) U:=(rfl)
noncomputable def sT:S:=(.ifs (.cmp .Eq (.var 5) (.con (.int 5))) [(.ret (.tup [(.con (.str ("again":Str))),(.bin .Add (.con (.int 1)) (.call "L_draw" [(.var 0),(.con (.int 3))]))]))] [])
def pM{P:aW}{C:Calls}{W:Nat}{U:CI.Env}:ex P C W sT U=ex P C W (.ifs (.cmp .Eq (.var 5) (.con (.int 5))) [(.ret (.tup [(.con (.str ("again":Str))),(.bin .Add (.con (.int 1)) (.call "L_draw" [(.var 0),(.con (.int 3))]))]))] []) U:=(rfl)
noncomputable def sX:S:=(.ifs (.cmp .Eq (.var 5) (.con (.int 6))) [(.asg 6 (.ix (.lst [(.bin .Sub (.call "L_draw" [(.var 0),(.con (.int 121))]) (.con (.int 60))),(.bin .Sub (.call "L_draw" [(.var 0),(.con (.int 20))]) (.con (.int 12)))]) (.call "L_draw" [(.var 0),(.con (.int 2))]))),(.ret (.tup [(.con (.str ("range":Str))),(.var 6),(.bin .Add (.var 6) (.call "L_draw" [(.var 0),(.bin .Sub (.con (.int 61)) (.var 6))]))]))] [])
def pJ{P:aW}{C:Calls}{W:Nat}{U:CI.Env}:ex P C W sX U=ex P C W (.ifs (.cmp .Eq (.var 5) (.con (.int 6))) [(.asg 6 (.ix (.lst [(.bin .Sub (.call "L_draw" [(.var 0),(.con (.int 121))]) (.con (.int 60))),(.bin .Sub (.call "L_draw" [(.var 0),(.con (.int 20))]) (.con (.int 12)))]) (.call "L_draw" [(.var 0),(.con (.int 2))]))),(.ret (.tup [(.con (.str ("range":Str))),(.var 6),(.bin .Add (.var 6) (.call "L_draw" [(.var 0),(.bin .Sub (.con (.int 61)) (.var 6))]))]))] []) U:=(rfl)
noncomputable def sN:S:=(.ifs (.cmp .Eq (.var 5) (.con (.int 7))) [(.asg 7 (.call "L_draw" [(.var 0),(.bin .Add (.var 4) (.con (.int 1)))])),(.ret (.tup [(.con (.str ("above":Str))),(.var 7),(.bin .Mod (.bin .Add (.bin .Add (.var 7) (.con (.int 1))) (.call "L_draw" [(.var 0),(.var 4)])) (.bin .Add (.var 4) (.con (.int 1))))]))] [])
def pG{P:aW}{C:Calls}{W:Nat}{U:CI.Env}:ex P C W sN U=ex P C W (.ifs (.cmp .Eq (.var 5) (.con (.int 7))) [(.asg 7 (.call "L_draw" [(.var 0),(.bin .Add (.var 4) (.con (.int 1)))])),(.ret (.tup [(.con (.str ("above":Str))),(.var 7),(.bin .Mod (.bin .Add (.bin .Add (.var 7) (.con (.int 1))) (.call "L_draw" [(.var 0),(.var 4)])) (.bin .Add (.var 4) (.con (.int 1))))]))] []) U:=(rfl)
noncomputable def sU:S:=(.asg 8 (.tup [(.con (.str ("like":Str))),(.con (.str ("against":Str))),(.con (.str ("aside":Str))),(.con (.str ("any":Str)))]))
def zZ{P:aW}{C:Calls}{W:Nat}{U:CI.Env}:ex P C W sU U=ex P C W (.asg 8 (.tup [(.con (.str ("like":Str))),(.con (.str ("against":Str))),(.con (.str ("aside":Str))),(.con (.str ("any":Str)))])) U:=(rfl)
noncomputable def sM:S:=(.ret (.tup [(.con (.str ("never":Str))),(.call "L_draw" [(.var 0),(.var 3)]),(.call "L_draw" [(.var 0),(.var 3)]),(.ix (.var 8) (.call "L_draw" [(.var 0),(.con (.int 4))]))]))
def AA{P:aW}{C:Calls}{W:Nat}{U:CI.Env}:ex P C W sM U=ex P C W (.ret (.tup [(.con (.str ("never":Str))),(.call "L_draw" [(.var 0),(.var 3)]),(.call "L_draw" [(.var 0),(.var 3)]),(.ix (.var 8) (.call "L_draw" [(.var 0),(.con (.int 4))]))])) U:=(rfl)
noncomputable def j9:Fn:=⟨[true],0,[(.ret (.and (.isi (.var 0) [.int]) (.not (.isi (.var 0) [.bool]))))],false⟩
noncomputable def jD:Fn:=⟨[true,true,true],0,[(.ret (.and (.call "is_whole" [(.var 0)]) (.cmp2 .LtE .LtE (.var 1) (.var 0) (.var 2))))],false⟩
noncomputable def iN:Fn:=⟨[true,true,true],0,[(.ret (.tup [(.ix (.var 0) (.con (.int 0))),(.ix (.var 0) (.con (.int 1))),(.ix (.var 0) (.con (.int 2))),(.bif .tuple [(.var 1)]),(.bif .tuple [(.var 2)])]))],false⟩
noncomputable def jO:Fn:=⟨[false,true],0,[(.ifs (.cmp .NotEq (.ix (.var 0) (.con (.int 0))) (.con (.str ("above":Str)))) [(.ret (.var 0))] []),(.ret (.tup [(.con (.str ("above":Str))),(.ix (.var 1) (.ix (.var 0) (.con (.int 1)))),(.ix (.var 1) (.ix (.var 0) (.con (.int 2))))]))],false⟩
noncomputable def jM:Fn:=⟨[true,true],4,[(.asg 2 (.dict [(0,0)])),(.for [3,4] false (.enum 1) [(.var 1)] j6),(.asg 5 (.comp jR [2] .of [(.var 1)] [] [0] 2)),(.ret (.call "with_parts" [(.var 0),(.var 5),(.comp j5 [2] .of [(.ix (.var 0) (.con (.int 4)))] [] [2] 2)]))],false⟩
noncomputable def o6:Fn:=⟨[true,true],0,[(.ret (.and (.cmp .Eq (.ix (.var 0) (.con (.int 0))) (.con (.str ("above":Str)))) (.cmp .In (.var 1) (.sl (.var 0) (.con (.int 1)) .omt))))],false⟩
noncomputable def kZ:Fn:=⟨[true,true],6,[(.asg 2 (.bif .len [(.ix (.var 0) (.con (.int 3)))])),(.ifs (.not (.call "is_within" [(.var 1),(.con (.int 1)),(.var 2)])) [.bad] []),(.ifs (.cmp .Eq (.var 2) (.con (.int 1))) [.bad] []),(.asg 4 (.comp mC [2] .rng [(.bin .Add (.var 2) (.con (.int 1)))] [(.cmp .NotEq (.var 2) (.var 0))] [1] 2)),(.asg 5 (.dict [])),(.for [6,3] false (.enum 0) [(.var 4)] l4),(.asg 7 (.comp lP [2] .of [(.var 4)] [(.cmp .Gt (.var 2) (.con (.int 0)))] [0] 2)),(.ret (.call "with_parts" [(.var 0),(.var 7),(.comp lT [3] .of [(.ix (.var 0) (.con (.int 4)))] [(.not (.call "names" [(.var 3),(.var 1)]))] [5,1] 2)]))],false⟩
noncomputable def n9:Fn:=⟨[true,true],0,[(.ifs (.ix (.var 0) (.con (.int 2))) [(.ret (.bin .Sub (.ix (.var 0) (.con (.int 1))) (.var 1)))] []),(.ret (.bin .Add (.ix (.var 0) (.con (.int 1))) (.var 1)))],false⟩
noncomputable def mU:Fn:=⟨[true,true],0,[(.ifs (.cmp .Eq (.var 1) (.con (.int 0))) [(.ret (.con (.tup [(.int 0),(.int 0),(.bl false)])))] []),(.ret (.ix (.ix (.var 0) (.con (.int 3))) (.bin .Sub (.var 1) (.con (.int 1)))))],false⟩
noncomputable def rJ:Fn:=⟨[true,true,true,true],2,[(.asg 4 (.call "singer" [(.var 0),(.var 2)])),(.asg 5 (.bin .Sub (.var 3) (.ix (.var 4) (.con (.int 0))))),(.ifs (.cmp2 .LtE .Lt (.con (.int 0)) (.var 5) (.bif .len [(.var 1)])) [(.ret (.call "pitch" [(.var 4),(.ix (.var 1) (.var 5))]))] []),(.ret (.con .non))],false⟩
noncomputable def rM:Fn:=⟨[true,true,true],0,[(.ret (.bin .Mod (.bif .abs [(.bin .Sub (.var 1) (.var 2))]) (.var 0)))],false⟩
noncomputable def oC:Fn:=⟨[true,true,true],0,[(.ret (.comp o4 [4] .rng [(.bin .Add (.bif .len [(.ix (.var 0) (.con (.int 3)))]) (.con (.int 1)))] [] [2,0,1] 2))],false⟩
noncomputable def fB:Fn:=⟨[true],3,[(.asg 1 (.lst [])),(.for [2] true .rng [(.bif .len [(.var 0)])] gE),(.ret (.var 1))],false⟩
noncomputable def k6:Fn:=⟨[true,true,true],0,[(.ifs (.cmp .Eq (.var 0) (.con (.str ("like":Str)))) [(.ret (.cmp .Gt (.bin .Mult (.var 1) (.var 2)) (.con (.int 0))))] []),(.ifs (.cmp .Eq (.var 0) (.con (.str ("against":Str)))) [(.ret (.cmp .Lt (.bin .Mult (.var 1) (.var 2)) (.con (.int 0))))] []),(.ifs (.cmp .Eq (.var 0) (.con (.str ("aside":Str)))) [(.ret (.cmp .NotEq (.cmp .Eq (.var 1) (.con (.int 0))) (.cmp .Eq (.var 2) (.con (.int 0)))))] []),(.ret (.con (.bl true)))],false⟩
noncomputable def iC:Fn:=⟨[true,true,true,true],2,[(.ifs (.cmp .NotEq (.bin .Mod (.var 3) (.ix (.var 1) (.con (.int 1)))) (.fld (.var 0) "beat")) [(.ret (.lst []))] []),(.asg 4 (.ix (.var 1) (.con (.int 2)))),(.asg 5 (.call "chord" [(.var 1),(.var 2),(.var 3)])),(.ret (.comp iW [4,5] .of [(.call "sounding_pairs" [(.var 5)])] [(.meth 2 "forbids" eQ [(.call "span" [(.var 1),(.ix (.var 0) (.var 4)),(.ix (.var 0) (.var 5))])])] [5,4,0] 3))],false⟩
noncomputable def gL:Fn:=⟨[true,true],0,[(.ret (.cmp .Eq (.bin .BitAnd (.bin .RShift (.fld (.var 0) "spans") (.var 1)) (.con (.int 1))) (.con (.int 0))))],false⟩
noncomputable def iB:Fn:=⟨[true,true,true,false],0,[(.ifs (.and (.cmp .Gt (.var 3) (.con (.int 0))) (.cmp .Gt (.bif .abs [(.bin .Sub (.ix (.var 2) (.var 3)) (.ix (.var 2) (.bin .Sub (.var 3) (.con (.int 1)))))]) (.fld (.var 0) "most"))) [(.ret (.lst [(.con (.tup []))]))] []),(.ret (.lst []))],false⟩
noncomputable def iA:Fn:=⟨[true,true,true,false],2,[(.ifs (.cmp .Lt (.var 3) (.con (.int 2))) [(.ret (.lst []))] []),(.asg 4 (.bin .Sub (.ix (.var 2) (.bin .Sub (.var 3) (.con (.int 1)))) (.ix (.var 2) (.bin .Sub (.var 3) (.con (.int 2)))))),(.asg 5 (.bin .Sub (.ix (.var 2) (.var 3)) (.ix (.var 2) (.bin .Sub (.var 3) (.con (.int 1)))))),(.ifs (.cmp .Lt (.bif .abs [(.var 4)]) (.fld (.var 0) "leap")) [(.ret (.lst []))] []),(.ifs (.and (.cmp .Lt (.bin .Mult (.var 4) (.var 5)) (.con (.int 0))) (.cmp .LtE (.bif .abs [(.var 5)]) (.fld (.var 0) "most"))) [(.ret (.lst []))] []),(.ret (.lst [(.con (.tup []))]))],false⟩
noncomputable def gR:Fn:=⟨[true,true,true,false],0,[(.ifs (.cmp .Lt (.var 3) (.fld (.var 0) "most")) [(.ret (.lst []))] []),(.ifs (.bif .all [(.comp iG [3] .of [(.sl (.var 2) (.bin .Sub (.var 3) (.fld (.var 0) "most")) (.var 3))] [] [3,2] 2)]) [(.ret (.lst [(.con (.tup []))]))] []),(.ret (.lst []))],false⟩
noncomputable def gK:Fn:=⟨[true,true,true,true],0,[(.ret (.comp iF [2,3] (.enum 0) [(.call "chord" [(.var 1),(.var 2),(.var 3)])] [(.meth 0 "forbids" eQ [(.var 3)])] [0] 3))],false⟩
noncomputable def fT:Fn:=⟨[true,true],0,[(.ret (.and (.cmp .IsNot (.var 1) (.con .non)) (.not (.cmp2 .LtE .LtE (.fld (.var 0) "low") (.var 1) (.fld (.var 0) "high")))))],false⟩
noncomputable def gQ:Fn:=⟨[true,true,true,true],2,[(.asg 4 (.call "sung" [(.var 1),(.var 2),(.fld (.var 0) "one"),(.var 3)])),(.asg 5 (.call "sung" [(.var 1),(.var 2),(.fld (.var 0) "other"),(.var 3)])),(.ifs (.or (.cmp .Is (.var 4) (.con .non)) (.or (.cmp .Is (.var 5) (.con .non)) (.cmp .GtE (.var 4) (.var 5)))) [(.ret (.lst []))] []),(.ret (.lst [(.tup [(.fld (.var 0) "one"),(.fld (.var 0) "other")])]))],false⟩
noncomputable def gS:Fn:=⟨[true,true,true,true],6,[(.asg 4 (.ix (.var 1) (.con (.int 2)))),(.asg 5 (.call "chord" [(.var 1),(.var 2),(.bin .Sub (.var 3) (.con (.int 1)))])),(.asg 6 (.call "chord" [(.var 1),(.var 2),(.var 3)])),(.asg 7 (.lst [])),(.for [8,9] false .of [(.call "sounding_pairs" [(.var 5)])] iI),(.ret (.var 7))],false⟩
noncomputable def dJ:Fn:=⟨[true],1,[(.asg 1 (.ix (.var 0) (.con (.int 0)))),(.ifs (.cmp .Eq (.var 1) (.con (.str ("span":Str)))) [(.ret (.make "Span" ["beat","spans"] [(.ix (.var 0) (.con (.int 1))),(.ix (.var 0) (.con (.int 2)))]))] []),(.ifs (.cmp .Eq (.var 1) (.con (.str ("leap":Str)))) [(.ret (.make "Leap" ["most"] [(.ix (.var 0) (.con (.int 1)))]))] []),(.ifs (.cmp .Eq (.var 1) (.con (.str ("back":Str)))) [(.ret (.make "Back" ["leap","most"] [(.ix (.var 0) (.con (.int 1))),(.ix (.var 0) (.con (.int 2)))]))] []),(.ifs (.cmp .Eq (.var 1) (.con (.str ("again":Str)))) [(.ret (.make "Again" ["most"] [(.ix (.var 0) (.con (.int 1)))]))] []),(.ifs (.cmp .Eq (.var 1) (.con (.str ("range":Str)))) [(.ret (.make "Range" ["low","high"] [(.ix (.var 0) (.con (.int 1))),(.ix (.var 0) (.con (.int 2)))]))] []),(.ifs (.cmp .Eq (.var 1) (.con (.str ("above":Str)))) [(.ret (.make "Above" ["one","other"] [(.ix (.var 0) (.con (.int 1))),(.ix (.var 0) (.con (.int 2)))]))] []),(.ret (.make "Never" ["one","other","way"] [(.ix (.var 0) (.con (.int 1))),(.ix (.var 0) (.con (.int 2))),(.ix (.var 0) (.con (.int 3)))]))],false⟩
noncomputable def kF:Fn:=⟨[true],0,[(.ret (.comp kP [1] .of [(.ix (.var 0) (.con (.int 4)))] [] [] 2))],false⟩
noncomputable def jJ:Fn:=⟨[true,true,true,false],4,[(.asg 4 (.lst [])),(.for [5,6] false (.enum 0) [(.var 1)] jZ),(.ret (.var 4))],false⟩
noncomputable def mH:Fn:=⟨[true,true],3,[(.asg 2 (.call "rules_of" [(.var 0)])),(.asg 3 (.lst [])),(.for [4] true .rng [(.bif .len [(.var 1)])] nD),(.ret (.var 3))],false⟩
noncomputable def hV:Fn:=⟨[true,true],3,[(.asg 2 (.call "rules_of" [(.var 0)])),(.for [3] true .rng [(.bif .len [(.var 1)])] iS),(.ret (.con .non))],false⟩
noncomputable def jF:Fn:=⟨[true,true],0,[(.ret (.cmp .Is (.call "first_break" [(.var 0),(.var 1)]) (.con .non)))],false⟩
noncomputable def oN:Fn:=⟨[true,false],1,[(.ifs (.and (.cmp .Lt (.var 1) (.bif .len [(.var 0)])) (.cmp .Eq (.bin .Mod (.ix (.var 0) (.con (.int 0))) (.con (.int 2))) (.con (.int 0)))) [(.ret (.lst [(.con (.int 0)),(.ix (.var 0) (.var 1))]))] []),(.asg 2 (.bin .Add (.bin .Mult (.con (.int 30011)) (.var 1)) (.con (.int 7)))),(.ifs (.cmp .Gt (.bif .len [(.var 0)]) (.con (.int 0))) [(.asg 2 (.bin .Mod (.ix (.var 0) (.bin .Mod (.var 1) (.bif .len [(.var 0)]))) (.con (.int 2147483587)))),(.asg 2 (.bin .Add (.bin .Add (.var 2) (.bin .Mult (.con (.int 48611)) (.bin .FloorDiv (.var 1) (.bif .len [(.var 0)])))) (.bin .Mult (.con (.int 3)) (.var 1))))] []),(.ret (.lst [(.con (.int 1)),(.bin .Mod (.bin .Add (.bin .Add (.bin .Mult (.var 2) (.con (.int 48271))) (.bin .Mult (.con (.int 11)) (.var 1))) (.con (.int 1))) (.con (.int 2147483647)))]))],false⟩
noncomputable def mI:Fn:=⟨[true,true],3,[(.ifs (.cmp .Eq (.ix (.var 0) (.con (.int 0))) (.con (.int 0))) [(.asg 2 (.bin .Mod (.ix (.var 0) (.con (.int 1))) (.var 1))),(.set 0 (.con (.int 1)) (.bin .FloorDiv (.ix (.var 0) (.con (.int 1))) (.var 1))),(.ret (.var 2))] []),(.set 0 (.con (.int 1)) (.bin .Mod (.bin .Add (.bin .Mult (.ix (.var 0) (.con (.int 1))) (.con (.int 69621))) (.con (.int 7))) (.con (.int 2147483629)))),(.asg 3 (.bin .Mod (.ix (.var 0) (.con (.int 1))) (.con (.int 65521)))),(.asg 4 (.bin .FloorDiv (.ix (.var 0) (.con (.int 1))) (.con (.int 65521)))),(.ret (.bin .Mod (.bin .FloorDiv (.bin .Mod (.bin .Mult (.bin .Add (.bin .Add (.bin .Mult (.var 3) (.con (.int 40503))) (.var 4)) (.con (.int 1))) (.con (.int 16807))) (.con (.int 2147483647))) (.con (.int 13))) (.var 1)))],false⟩
noncomputable def mZ:Fn:=⟨[true,true,true,true,true],4,[nC,nE,sO,sL,sE,sT,sX,sN,sU,sM],false⟩
noncomputable def kX:Fn:=⟨[true],9,[(.asg 1 (.cmp .Eq (.call "L_draw" [(.var 0),(.con (.int 2))]) (.con (.int 0)))),(.asg 2 (.bin .Add (.con (.int 1)) (.call "L_draw" [(.var 0),(.ix (.lst [(.con (.int 4)),(.con (.int 7))]) (.bif .int [(.var 1)]))]))),(.asg 3 (.bin .Add (.con (.int 1)) (.call "L_draw" [(.var 0),(.ix (.lst [(.con (.int 2)),(.con (.int 4))]) (.bif .int [(.var 1)]))]))),(.asg 4 (.bin .Add (.con (.int 1)) (.call "L_draw" [(.var 0),(.con (.int 12))]))),(.asg 5 (.bin .Add (.con (.int 1)) (.call "L_draw" [(.var 0),(.ix (.lst [(.con (.int 2)),(.con (.int 3))]) (.bif .int [(.var 1)]))]))),(.asg 6 (.lst [])),(.for [7] true .rng [(.var 5)] lI),(.asg 9 (.lst [])),(.for [7] true .rng [(.call "L_draw" [(.var 0),(.con (.int 9))])] lO),(.ret (.tup [(.var 2),(.var 3),(.var 4),(.bif .tuple [(.var 6)]),(.bif .tuple [(.var 9)])]))],false⟩
noncomputable def mG:Fn:=⟨[true,true,true],1,[(.asg 3 (.call "L_draw" [(.var 0),(.bin .Add (.var 2) (.con (.int 1)))])),(.ret (.comp nA [3] .rng [(.var 3)] [] [1,0] 2))],false⟩
noncomputable def lE:Fn:=⟨[true,true],2,[(.asg 2 (.lst [])),(.for [3] true .rng [(.var 1)] l3),(.ret (.var 2))],false⟩
noncomputable def hW:Fn:=⟨[true,true,true,true],5,[(.asg 4 (.lst [])),(.for [5,6,7] false .of [(.var 1)] fR),(.ret (.bif .sorted [(.var 4)]))],false⟩
noncomputable def kG:Fn:=⟨[true],2,[(.asg 1 (.dict [(0,0)])),(.for [2] true .rng [(.bif .len [(.var 0)])] kM),(.ret (.var 1))],false⟩
noncomputable def fD:Fn:=⟨[true],11,[(.asg 1 (.call "L_house" [(.call "L_pen" [(.var 0),(.con (.int 1))])])),(.asg 2 (.call "L_pen" [(.var 0),(.con (.int 2))])),(.asg 3 (.call "L_line" [(.var 2),(.ix (.var 1) (.con (.int 0))),(.con (.int 20))])),(.asg 4 (.call "breaks" [(.var 1),(.var 3)])),(.asg 5 (.dict [])),(.for [6] true .rng [(.bif .len [(.ix (.var 1) (.con (.int 4)))])] oK),(.asg 7 (.call "L_order" [(.var 2),(.bif .len [(.ix (.var 1) (.con (.int 3)))])])),(.asg 8 (.call "exchanged" [(.var 1),(.var 7)])),(.ifs (.cmp .NotEq (.call "breaks" [(.var 8),(.var 3)]) (.call "L_told_anew" [(.var 1),(.var 4),(.call "L_places" [(.var 7)]),(.var 5)])) [(.ret (.con (.bl false)))] []),(.ifs (.or (.cmp .NotEq (.call "is_let_by" [(.var 8),(.var 3)]) (.call "is_let_by" [(.var 1),(.var 3)])) (.cmp .Eq (.bif .len [(.ix (.var 1) (.con (.int 3)))]) (.con (.int 1)))) [(.ret (.and (.cmp .Eq (.bif .len [(.ix (.var 1) (.con (.int 3)))]) (.con (.int 1))) (.cmp .Eq (.call "is_let_by" [(.var 8),(.var 3)]) (.call "is_let_by" [(.var 1),(.var 3)]))))] []),(.asg 9 (.bin .Add (.con (.int 1)) (.call "L_draw" [(.var 2),(.bif .len [(.ix (.var 1) (.con (.int 3)))])]))),(.asg 10 (.call "L_places" [(.comp o5 [2] .rng [(.con (.int 1)),(.bin .Add (.bif .len [(.ix (.var 1) (.con (.int 3)))]) (.con (.int 1)))] [(.cmp .NotEq (.var 2) (.var 0))] [9] 2)])),(.asg 5 (.dict [])),(.for [6] true .rng [(.bif .len [(.ix (.var 1) (.con (.int 4)))])] oO),(.asg 8 (.call "without" [(.var 1),(.var 9)])),(.ifs (.cmp .NotEq (.call "breaks" [(.var 8),(.var 3)]) (.call "L_told_anew" [(.var 1),(.var 4),(.var 10),(.var 5)])) [(.ret (.con (.bl false)))] []),(.ret (.or (.call "is_let_by" [(.var 8),(.var 3)]) (.not (.call "is_let_by" [(.var 1),(.var 3)]))))],false⟩
noncomputable def TL:List (String×Fn):=[("is_whole",j9),("is_within",jD),("with_parts",iN),("renamed",jO),("exchanged",jM),("names",o6),("without",kZ),("pitch",n9),("singer",mU),("sung",rJ),("span",rM),("chord",oC),("sounding_pairs",fB),("move_so",k6),("Span.broken",iC),("Span.forbids",gL),("Leap.broken",iB),("Back.broken",iA),("Again.broken",gR),("Range.broken",gK),("Range.forbids",fT),("Above.broken",gQ),("Never.broken",gS),("rule_of",dJ),("rules_of",kF),("breaks_at",jJ),("breaks",mH),("first_break",hV),("is_let_by",jF),("L_pen",oN),("L_draw",mI),("L_rule",mZ),("L_house",kX),("L_line",mG),("L_order",lE),("L_told_anew",hW),("L_places",kG),("law",fD)]
noncomputable def T:pC:=λf=>TL.lookup f
theorem G8:T "is_whole"=some j9:=rfl
theorem HQ:T.pins "is_whole"=[true]:=rfl
theorem EL:T "is_within"=some jD:=rfl
theorem EJ:T.pins "is_within"=[true,true,true]:=rfl
theorem B8:T "with_parts"=some iN:=rfl
theorem DE:T.pins "with_parts"=[true,true,true]:=rfl
theorem yM:T "renamed"=some jO:=rfl
theorem JY:T.pins "renamed"=[false,true]:=rfl
theorem D5:T "exchanged"=some jM:=rfl
theorem DV:T.pins "exchanged"=[true,true]:=rfl
theorem VS:T "names"=some o6:=rfl
theorem WJ:T.pins "names"=[true,true]:=rfl
theorem LZ:T "without"=some kZ:=rfl
theorem MA:T.pins "without"=[true,true]:=rfl
theorem W5:T "pitch"=some n9:=rfl
theorem XU:T.pins "pitch"=[true,true]:=rfl
theorem NR:T "singer"=some mU:=rfl
theorem P5:T.pins "singer"=[true,true]:=rfl
theorem aB7:T "sung"=some rJ:=rfl
theorem aAs:T.pins "sung"=[true,true,true,true]:=rfl
theorem Z5:T "span"=some rM:=rfl
theorem Z2:T.pins "span"=[true,true,true]:=rfl
theorem VL:T "chord"=some oC:=rfl
theorem VG:T.pins "chord"=[true,true,true]:=rfl
theorem tX:T "sounding_pairs"=some fB:=rfl
theorem tW:T.pins "sounding_pairs"=[true]:=rfl
theorem KZ:T "move_so"=some k6:=rfl
theorem LV:T.pins "move_so"=[true,true,true]:=rfl
theorem zP:T "Span.broken"=some iC:=rfl
theorem z9:T.pins "Span.broken"=[true,true,true,true]:=rfl
theorem wU:T "Span.forbids"=some gL:=rfl
theorem x6:T.pins "Span.forbids"=[true,true]:=rfl
theorem AB:T "Leap.broken"=some iB:=rfl
theorem zO:T.pins "Leap.broken"=[true,true,true,false]:=rfl
theorem zV:T "Back.broken"=some iA:=rfl
theorem zS:T.pins "Back.broken"=[true,true,true,false]:=rfl
theorem xV:T "Again.broken"=some gR:=rfl
theorem xQ:T.pins "Again.broken"=[true,true,true,false]:=rfl
theorem xS:T "Range.broken"=some gK:=rfl
theorem xH:T.pins "Range.broken"=[true,true,true,true]:=rfl
theorem vE:T "Range.forbids"=some fT:=rfl
theorem uI:T.pins "Range.forbids"=[true,true]:=rfl
theorem yB:T "Above.broken"=some gQ:=rfl
theorem xU:T.pins "Above.broken"=[true,true,true,true]:=rfl
theorem wO:T "Never.broken"=some gS:=rfl
theorem wR:T.pins "Never.broken"=[true,true,true,true]:=rfl
theorem gU:T "rule_of"=some dJ:=rfl
theorem KG:T.pins "rule_of"=[true]:=rfl
theorem GW:T "rules_of"=some kF:=rfl
theorem JC:T.pins "rules_of"=[true]:=rfl
theorem D2:T "breaks_at"=some jJ:=rfl
theorem EA:T.pins "breaks_at"=[true,true,true,false]:=rfl
theorem QV:T "breaks"=some mH:=rfl
theorem P1:T.pins "breaks"=[true,true]:=rfl
theorem AG:T "first_break"=some hV:=rfl
theorem zR:T.pins "first_break"=[true,true]:=rfl
theorem DZ:T "is_let_by"=some jF:=rfl
theorem EN:T.pins "is_let_by"=[true,true]:=rfl
theorem YY:T "L_pen"=some oN:=rfl
theorem ZV:T.pins "L_pen"=[true,false]:=rfl
theorem O7:T "L_draw"=some mI:=rfl
theorem RZ:T.pins "L_draw"=[true,true]:=rfl
theorem RC:T "L_rule"=some mZ:=rfl
theorem RW:T.pins "L_rule"=[true,true,true,true,true]:=rfl
theorem NA:T "L_house"=some kX:=rfl
theorem MU:T.pins "L_house"=[true]:=rfl
theorem NP:T "L_line"=some mG:=rfl
theorem QN:T.pins "L_line"=[true,true,true]:=rfl
theorem KC:T "L_order"=some lE:=rfl
theorem J8:T.pins "L_order"=[true,true]:=rfl
theorem zT:T "L_told_anew"=some hW:=rfl
theorem zN:T.pins "L_told_anew"=[true,true,true,true]:=rfl
theorem GZ:T "L_places"=some kG:=rfl
theorem HE:T.pins "L_places"=[true]:=rfl
theorem UI:T "law"=some fD:=rfl
def Q8:IniOk (kW 34 0) "Span.__init__" ["beat","spans"]:=C7 rfl rfl rfl (by decide +kernel) (by kernel_rfl) (sG rfl λ_ _ _ _ _ _ _ _ _=>rfl)
def eN{d0 d1:D}:iY (some (.ins "Span" ["beat","spans"] [d0,d1])) "beat"=some (.sh d0):=(rfl)
def eF{d0 d1:D}:iY (some (.ins "Span" ["beat","spans"] [d0,d1])) "spans"=some (.sh d1):=(rfl)
def PQ:IniOk (kW 35 0) "Leap.__init__" ["most"]:=C7 rfl rfl rfl (by decide +kernel) (by kernel_rfl) (kU rfl λ_ _ _ _ _ _ _ _=>rfl)
def kQ{d0:D}:iY (some (.ins "Leap" ["most"] [d0])) "most"=some (.sh d0):=(rfl)
def OC:IniOk (kW 36 0) "Back.__init__" ["leap","most"]:=C7 rfl rfl rfl (by decide +kernel) (by kernel_rfl) (sG rfl λ_ _ _ _ _ _ _ _ _=>rfl)
def eO{d0 d1:D}:iY (some (.ins "Back" ["leap","most"] [d0,d1])) "leap"=some (.sh d0):=(rfl)
def eM{d0 d1:D}:iY (some (.ins "Back" ["leap","most"] [d0,d1])) "most"=some (.sh d1):=(rfl)
def MT:IniOk (kW 37 0) "Again.__init__" ["most"]:=C7 rfl rfl rfl (by decide +kernel) (by kernel_rfl) (kU rfl λ_ _ _ _ _ _ _ _=>rfl)
def eD{d0:D}:iY (some (.ins "Again" ["most"] [d0])) "most"=some (.sh d0):=(rfl)
def LO:IniOk (kW 38 0) "Range.__init__" ["low","high"]:=C7 rfl rfl rfl (by decide +kernel) (by kernel_rfl) (sG rfl λ_ _ _ _ _ _ _ _ _=>rfl)
def kN{d0 d1:D}:iY (some (.ins "Range" ["low","high"] [d0,d1])) "low"=some (.sh d0):=(rfl)
def j4{d0 d1:D}:iY (some (.ins "Range" ["low","high"] [d0,d1])) "high"=some (.sh d1):=(rfl)
def KS:IniOk (kW 39 0) "Above.__init__" ["one","other"]:=C7 rfl rfl rfl (by decide +kernel) (by kernel_rfl) (sG rfl λ_ _ _ _ _ _ _ _ _=>rfl)
def iP{d0 d1:D}:iY (some (.ins "Above" ["one","other"] [d0,d1])) "one"=some (.sh d0):=(rfl)
def gP{d0 d1:D}:iY (some (.ins "Above" ["one","other"] [d0,d1])) "other"=some (.sh d1):=(rfl)
def J4:IniOk (kW 40 0) "Never.__init__" ["one","other","way"]:=C7 rfl rfl rfl (by decide +kernel) (by kernel_rfl) (qM rfl λ_ _ _ _ _ _ _ _ _ _=>rfl)
def fZ{d0 d1 d2:D}:iY (some (.ins "Never" ["one","other","way"] [d0,d1,d2])) "one"=some (.sh d0):=(rfl)
def eP{d0 d1 d2:D}:iY (some (.ins "Never" ["one","other","way"] [d0,d1,d2])) "other"=some (.sh d1):=(rfl)
def fX{d0 d1 d2:D}:iY (some (.ins "Never" ["one","other","way"] [d0,d1,d2])) "way"=some (.sh d2):=(rfl)
def xW:fK "Span" ["beat","spans"] "broken" dP=some "Span.broken":=by decide +kernel
def wJ:fK "Leap" ["most"] "broken" dP=some "Leap.broken":=by decide +kernel
def yE:fK "Back" ["leap","most"] "broken" dP=some "Back.broken":=by decide +kernel
def wB:fK "Again" ["most"] "broken" dP=some "Again.broken":=by decide +kernel
def vY:fK "Range" ["low","high"] "broken" dP=some "Range.broken":=by decide +kernel
def uT:fK "Above" ["one","other"] "broken" dP=some "Above.broken":=by decide +kernel
def v9:fK "Never" ["one","other","way"] "broken" dP=some "Never.broken":=by decide +kernel
def eR:fK "Span" ["beat","spans"] "forbids" eQ=some "Span.forbids":=by decide +kernel
def fO:fK "Range" ["low","high"] "forbids" eQ=some "Range.forbids":=by decide +kernel
def ED:b0 (bK L) (top 15) "is_whole" j9:=c8 rfl rfl rfl (by decide +kernel) (by kernel_rfl) (CY rfl λ_ _ _ _ _ _ _=>rfl)
def BC:b0 (bK L) (top 16) "is_within" jD:=c8 rfl rfl rfl (by decide +kernel) (by kernel_rfl) (sG rfl λ_ _ _ _ _ _ _ _ _=>rfl)
def z8:b0 (bK L) (top 18) "with_parts" iN:=c8 rfl rfl rfl (by decide +kernel) (by kernel_rfl) (sG rfl λ_ _ _ _ _ _ _ _ _=>rfl)
def IF:b0 (bK L) (top 19) "renamed" jO:=c8 rfl rfl rfl (by decide +kernel) (by kernel_rfl) (kU rfl λ_ _ _ _ _ _ _ _=>rfl)
def BJ:b0 (bK L) (top 20) "exchanged" jM:=c8 rfl rfl rfl (by decide +kernel) (by kernel_rfl) (kU rfl λ_ _ _ _ _ _ _ _=>rfl)
def RL:b0 (bK L) (top 21) "names" o6:=c8 rfl rfl rfl (by decide +kernel) (by kernel_rfl) (kU rfl λ_ _ _ _ _ _ _ _=>rfl)
def HZ:b0 (bK L) (top 22) "without" kZ:=c8 rfl rfl rfl (by decide +kernel) (by kernel_rfl) (kU rfl λ_ _ _ _ _ _ _ _=>rfl)
def RR:b0 (bK L) (top 24) "pitch" n9:=c8 rfl rfl rfl (by decide +kernel) (by kernel_rfl) (kU rfl λ_ _ _ _ _ _ _ _=>rfl)
def K7:b0 (bK L) (top 25) "singer" mU:=c8 rfl rfl rfl (by decide +kernel) (by kernel_rfl) (kU rfl λ_ _ _ _ _ _ _ _=>rfl)
def U5:b0 (bK L) (top 26) "sung" rJ:=c8 rfl rfl rfl (by decide +kernel) (by kernel_rfl) (qM rfl λ_ _ _ _ _ _ _ _ _ _=>rfl)
def WR:b0 (bK L) (top 27) "span" rM:=c8 rfl rfl rfl (by decide +kernel) (by kernel_rfl) (sG rfl λ_ _ _ _ _ _ _ _ _=>rfl)
def O8:b0 (bK L) (top 28) "chord" oC:=c8 rfl rfl rfl (by decide +kernel) (by kernel_rfl) (sG rfl λ_ _ _ _ _ _ _ _ _=>rfl)
def r9:b0 (bK L) (top 31) "sounding_pairs" fB:=c8 rfl rfl rfl (by decide +kernel) (by kernel_rfl) (CY rfl λ_ _ _ _ _ _ _=>rfl)
def JA:b0 (bK L) (top 32) "move_so" k6:=c8 rfl rfl rfl (by decide +kernel) (by kernel_rfl) (sG rfl λ_ _ _ _ _ _ _ _ _=>rfl)
def wY:DefOkQ (bK L) (kW 34 1) "broken" "Span.broken" iC:=c8 rfl rfl rfl (by decide +kernel) (by kernel_rfl) (qM rfl λ_ _ _ _ _ _ _ _ _ _=>rfl)
def uJ:DefOkQ (bK L) (kW 34 2) "forbids" "Span.forbids" gL:=c8 rfl rfl rfl (by decide +kernel) (by kernel_rfl) (kU rfl λ_ _ _ _ _ _ _ _=>rfl)
def wV:DefOkQ (bK L) (kW 35 1) "broken" "Leap.broken" iB:=c8 rfl rfl rfl (by decide +kernel) (by kernel_rfl) (qM rfl λ_ _ _ _ _ _ _ _ _ _=>rfl)
def wI:DefOkQ (bK L) (kW 36 1) "broken" "Back.broken" iA:=c8 rfl rfl rfl (by decide +kernel) (by kernel_rfl) (qM rfl λ_ _ _ _ _ _ _ _ _ _=>rfl)
def vX:DefOkQ (bK L) (kW 37 1) "broken" "Again.broken" gR:=c8 rfl rfl rfl (by decide +kernel) (by kernel_rfl) (qM rfl λ_ _ _ _ _ _ _ _ _ _=>rfl)
def uM:DefOkQ (bK L) (kW 38 1) "broken" "Range.broken" gK:=c8 rfl rfl rfl (by decide +kernel) (by kernel_rfl) (qM rfl λ_ _ _ _ _ _ _ _ _ _=>rfl)
def tK:DefOkQ (bK L) (kW 38 2) "forbids" "Range.forbids" fT:=c8 rfl rfl rfl (by decide +kernel) (by kernel_rfl) (kU rfl λ_ _ _ _ _ _ _ _=>rfl)
def vZ:DefOkQ (bK L) (kW 39 1) "broken" "Above.broken" gQ:=c8 rfl rfl rfl (by decide +kernel) (by kernel_rfl) (qM rfl λ_ _ _ _ _ _ _ _ _ _=>rfl)
def wC:DefOkQ (bK L) (kW 40 1) "broken" "Never.broken" gS:=c8 rfl rfl rfl (by decide +kernel) (by kernel_rfl) (qM rfl λ_ _ _ _ _ _ _ _ _ _=>rfl)
def GA:b0 (bK L) (top 41) "rule_of" dJ:=c8 rfl rfl rfl (by decide +kernel) (by kernel_rfl) (CY rfl λ_ _ _ _ _ _ _=>rfl)
def D1:b0 (bK L) (top 43) "rules_of" kF:=c8 rfl rfl rfl (by decide +kernel) (by kernel_rfl) (CY rfl λ_ _ _ _ _ _ _=>rfl)
def A3:b0 (bK L) (top 44) "breaks_at" jJ:=c8 rfl rfl rfl (by decide +kernel) (by kernel_rfl) (qM rfl λ_ _ _ _ _ _ _ _ _ _=>rfl)
def M5:b0 (bK L) (top 45) "breaks" mH:=c8 rfl rfl rfl (by decide +kernel) (by kernel_rfl) (kU rfl λ_ _ _ _ _ _ _ _=>rfl)
def x8:b0 (bK L) (top 46) "first_break" hV:=c8 rfl rfl rfl (by decide +kernel) (by kernel_rfl) (kU rfl λ_ _ _ _ _ _ _ _=>rfl)
def C1:b0 (bK L) (top 47) "is_let_by" jF:=c8 rfl rfl rfl (by decide +kernel) (by kernel_rfl) (kU rfl λ_ _ _ _ _ _ _ _=>rfl)
def ON:b0 (bK L) (top 49) "_law_pen" oN:=c8 rfl rfl rfl (by decide +kernel) (by kernel_rfl) (kU rfl λ_ _ _ _ _ _ _ _=>rfl)
def M4:b0 (bK L) (top 50) "_law_draw" mI:=c8 rfl rfl rfl (by decide +kernel) (by kernel_rfl) (kU rfl λ_ _ _ _ _ _ _ _=>rfl)
def MS:b0 (bK L) (top 51) "_law_rule" mZ:=c8 rfl rfl rfl (by decide +kernel) (by kernel_rfl) (bn5 rfl λ_ _ _ _ _ _ _ _ _ _ _=>rfl)
def HY:b0 (bK L) (top 52) "_law_house" kX:=c8 rfl rfl rfl (by decide +kernel) (by kernel_rfl) (CY rfl λ_ _ _ _ _ _ _=>rfl)
def LI:b0 (bK L) (top 53) "_law_line" mG:=c8 rfl rfl rfl (by decide +kernel) (by kernel_rfl) (sG rfl λ_ _ _ _ _ _ _ _ _=>rfl)
def II:b0 (bK L) (top 54) "_law_order" lE:=c8 rfl rfl rfl (by decide +kernel) (by kernel_rfl) (kU rfl λ_ _ _ _ _ _ _ _=>rfl)
def xO:b0 (bK L) (top 55) "_law_told_anew" hW:=c8 rfl rfl rfl (by decide +kernel) (by kernel_rfl) (qM rfl λ_ _ _ _ _ _ _ _ _ _=>rfl)
def D7:b0 (bK L) (top 56) "_law_places" kG:=c8 rfl rfl rfl (by decide +kernel) (by kernel_rfl) (CY rfl λ_ _ _ _ _ _ _=>rfl)
def J5:b0 (bK L) (top 57) "law" fD:=c8 rfl rfl rfl (by decide +kernel) (by kernel_rfl) (CY rfl λ_ _ _ _ _ _ _=>rfl)
end Tx
namespace Mx
open CI Tx
noncomputable def dF(f:Int×Int×Bool):D:=.tup [.int f.1,.int f.2.1,.bl f.2.2]
noncomputable def aA(no ba oc:Int)(fs:List (Int×Int×Bool))(rs:List D):D:=.tup [.int no,.int ba,.int oc,.tup (fs.map dF),.tup rs]
theorem aGC:fH (some (aA no ba oc fs rs)) (.int 0)=some (.sh (.int no)):=rfl
theorem aGR:fH (some (aA no ba oc fs rs)) (.int 1)=some (.sh (.int ba)):=rfl
theorem aGn:fH (some (aA no ba oc fs rs)) (.int 2)=some (.sh (.int oc)):=rfl
theorem aGd:fH (some (aA no ba oc fs rs)) (.int 3)=some (.sh (.tup (fs.map dF))):=rfl
theorem aG4:fH (some (aA no ba oc fs rs)) (.int 4)=some (.sh (.tup rs)):=rfl
abbrev rg(n:Nat):List D:=(List.range n).map λ(j:Nat)=>D.int (j:Int)
abbrev _root_.CI.Sl.o(d:D):Sl:=.ow d false false
abbrev _root_.CI.Sl.p(d:D):Sl:=.ow d true false
local macro_rules|`(~~~$x)=>`(CI.Sl.ow (.lst (($x).map CI.D.int)) true false)
set_option compiler.extract_closed false
local macro_rules | `(tactic| walk_at $s:str) => do if !s.getString.startsWith "!" then Lean.Macro.throwUnsupported else `(tactic| simp only[$[$((("aEu aDF lB TC WL KW aGl aF3 aGt aFV aCd VE OI aGw aF8 aAX ZE aCB aEe aGg aGa aF2 aGO aFW aGT aEX aE2 aC9 aCX XG UZ U6 RE Q7 Q1 QG aE5 aC7 X8 UT WM W4 XA ZI RG aAn aBU NO WA XZ RU JS aBJ aDe aCu aB5 aFj aD0 aBS aBq aEq aEo aCV aDK aEZ aDr YZ aC4 WG VT aDH aDM aCT aDh aDv aED aDC aEr aEM W7 aGE aF9 Z4 aGh TB aFh aD2 aET aE3 aEc aEP aFU aBI aEs aBz aFi aEt aDR aFn aAM aCR aBK aF1 aGH aGs aDV aDL aDY VQ aBr YJ WW ZO aDT aAp YT aEH aEi aEx aGp aDj aDD aCS WN aBP WY aC6 aGf aE4 aBX YM aBv aCN aDN aBy aCy aG5 X4 aCw aA7 aD1 aAy aAY aE1 aBD GR EB aAk aEh aCi aBR aEQ OU aFm aAR NI XM V0 ZK WV aZ YW aCg aCs aCx vA rN vF rH GU aAl aDB aDl aAd aBp WX V9 V7 aDP UU aA2 aCv Z9 aDt aDn aCp aD5 aEf VW aBs VX aD4 aDd aFl aEW aCW xP dW XS V5 EV ZD KP KQ OL OY VN Q4 aER aCl ZG XY VM W2 aC1 aCh aDE X3 ZC aFf zg0 zg1 zs0 zs1 zb zm zi zc zn zr0 zr1 zl0 zl1 znt znf zko zks zkn VD aCQ aD7 aA9 V1 aBx aBn aDI VF aAH aEn aEd R4 N6 aAf aBB aGv aEU aDa UW HQ EJ DE JY DV WJ MA XU P5 aAs Z2 VG tW LV x6 uI KG JC EA P1 zR EN ZV RZ RW MU QN J8 zN HE if_true if_false Bool.false_eq_true decide_true decide_false Bool.true_eq_false not_true_eq_false not_false_eq_true and_self and_true true_and or_true true_or Za reduceIte Int.reduceLT Int.reduceLE Int.reduceGT Int.reduceNeg Nat.reduceAdd Nat.reduceLT Nat.reduceLeDiff Int.reduceEq Int.reduceNe Nat.reduceBEq Zs List.map_nil Zj List.all_nil Bool.and_true Bool.true_and Bool.false_and Bool.and_false List.length_nil Zk beq_self_eq_true J6 aAN aEy List.take_succ_cons List.take_zero List.drop_succ_cons List.drop_zero aGC aGR aGn aGd aG4".splitOn " ")++(((s.getString.drop 1).toString.replace "%" "List.length_map").replace "&" "Bool.or_false Bool.false_or Bool.or_true Bool.true_or" |>.splitOn " ")).filter (· ≠ "") |>.toArray.map λx => Lean.mkIdent x.toName):term],*, *])
theorem fA:type_of% (And.intro @vA (And.intro @NI (And.intro @List.getElem?_cons_zero.{0} (And.intro @List.getElem?_cons_succ.{0} (And.intro @List.set_cons_zero.{0} (And.intro @List.set_cons_succ.{0} (And.intro @rN (And.intro @rH (And.intro @vF @GU))))))))):=(And.intro @vA (And.intro @NI (And.intro @List.getElem?_cons_zero.{0} (And.intro @List.getElem?_cons_succ.{0} (And.intro @List.set_cons_zero.{0} (And.intro @List.set_cons_succ.{0} (And.intro @rN (And.intro @rH (And.intro @vF @GU)))))))))
noncomputable def aE(k s m:Int):Int:=if k=0 then s / m else(s*69621+7) % 2147483629
noncomputable def aP(k s m:Int):Int:=if k=0 then s % m else((((s*69621+7) % 2147483629) % 65521*40503+((s*69621+7) % 2147483629) / 65521+1)*16807 % 2147483647) / 13 % m
def bQ(h1:0<m)(h2:m<nofun):run T W (n+1) "L_draw" [.p (.lst [.int k,.int s]),.sh (.int m)]=some (.ok (.sh (.int (aP k s m))),[.p (.lst [.int k,.int (aE k s m)]),.sh (.int m)]):=by
 rw[bO O7 rfl rfl];unfold mI;by_cases hk:k=0
 ·subst hk;unfold aE aP
  walk_at "!"
 ·unfold aE aP
  walk_at "!"
def bA(h:0<m):0<=aP k s m:=by unfold aP;split<;>exact Int.emod_nonneg _ (by omega)
def a8(h:0<m):aP k s m<m:=by unfold aP;split<;>exact Int.emod_lt_of_pos _ h
mutual
theorem tI:∀(n:Nat) (d:D),bC n d=true->dN d d=true
 |_,.non,_=>by simp[dN]
 |_,.bl _,_=>by simp[dN]
 |_,.int _,_=>by simp[dN]
 |_,.str _,_=>by simp[dN]
 | 0,.tup _,h=>by simp[bC] at h
 | 0,.lst _,h=>by simp[bC] at h
 |n+1,.tup ds,h=>by simp only[bC] at h;simp only[dN];exact qN n ds h
 |n+1,.lst ds,h=>by simp only[bC] at h;simp only[dN];exact qN n ds h
 |_,.ins _ _ _,h=>by simp[bC] at h
 |_,.dct _,h=>by simp[bC] at h
 |_,.dcs _ _,h=>by simp[bC] at h
 |_,.dci _ _,h=>by simp[bC] at h
theorem qN:∀(n:Nat) (ds:List D),ds.all (bC n)=true->lJ ds ds=true
 |_,[],_=>by simp[lJ]
 |n,d::ds,h=>by(simp only[Zj,ZB] at h;simp only[lJ,tI n d h.1,qN n ds h.2,Bool.and_self])
end
def IT(h:bC 20 d=true):bV .NotEq d d=some false:=by rw[Q5 h h,tI 20 d h];rfl
def TF(h:bC 20 d=true):bV .Eq d d=some true:=by rw[aAL h h,tI 20 d h]
noncomputable def aF(tss:List (List Int)):List D:=tss.map λis=>.tup (is.map D.int)
noncomputable def gF(ns:List Int)(k:Nat):Int×Int :=
 if k<ns.length/\ns.headD 0 % 2=0 then(0,ns.getD k 0)
 else(1,((if 0<ns.length then ns.getD (k % ns.length) 0 % 2147483587+48611*((k / ns.length:Nat):Int)+3*(k:Int) else 30011*(k:Int)+7)*48271+11*(k:Int)+1) % 2147483647)
def uO{ns:List Int}(h:k<ns.length):L2.cP (ns.map D.int) (k:Int)=some (.int (ns.getD k 0)):=by
 apply L2.fE
 rw[Zh,Zb h];simp[h]
def CQ{k:Nat}(hn:ns.length<=63)(hk:k<=100000):run T W (n+1) "L_pen" [.sh (.lst (ns.map .int)),.sh (.int k)]=some (.ok (.ow (.lst [.int (gF ns k).1,.int (gF ns k).2])),[.sh (.lst (ns.map .int)),.sh (.int k)]):=by
 rw[bO YY rfl rfl];unfold oN;by_cases h0:ns=[]
 ·subst h0;have hb:decide ((k:Int)<((0:Nat):Int))=false:=Zm (by omega);have hb':decide (((0:Nat):Int) > 0)=false:=rfl;have hb2:decide (0<((0:Nat):Int))=false:=rfl;have hb3:decide ((k:Int)<0)=false:=Zm (by omega)
  have ev:gF [] k=(1,((30011*(k:Int)+7)*48271+11*(k:Int)+1) % 2147483647):=by(unfold gF;rw[Zp (by simp),Zp (by simp)])
  walk_at "!%"
 ·have hpos:0<ns.length:=List.length_pos_iff.mpr h0;have hb2:decide (0<(ns.length:Int))=true:=Zn (by omega)
  have e0:(ns.map D.int)[0]?=some (.int (ns.headD 0)):=by cases ns with | nil=>exact absurd rfl h0 | cons a r=>rfl
  have e1:(0:Int)<(ns.length:Int):=by omega
  have e2:(ns.length:Int)<nofun:=by omega
  have e3:(k:Int) / (ns.length:Int)=((k / ns.length:Nat):Int):=by rw[Int.natCast_ediv]
  have e4:(k:Int) % (ns.length:Int)=((k % ns.length:Nat):Int):=by rw[Int.natCast_emod]
  have e5:=uO (k:=k % ns.length) (Nat.mod_lt _ hpos);by_cases hk2:k<ns.length
  ·have hb:decide ((k:Int)<(ns.length:Int))=true:=Zn (by omega);have e6:=uO hk2;by_cases hm:ns.headD 0 % 2=0
   ·have ev:gF ns k=(0,ns.getD k 0):=by unfold gF;rw[Zo ⟨hk2,hm⟩]
    walk_at "!%"
   ·have hm':decide (ns.headD 0 % 2=0)=false:=Zm hm
    have ev:gF ns k=(1,((ns.getD (k % ns.length) 0 % 2147483587+48611*((k / ns.length:Nat):Int)+3*(k:Int))*48271+11*(k:Int)+1) % 2147483647):=by(unfold gF;rw[Zp (λz=>hm z.2),Zo hpos])
    walk_at "!%"
  ·have hb:decide ((k:Int)<(ns.length:Int))=false:=Zm (by omega)
   have ev:gF ns k=(1,((ns.getD (k % ns.length) 0 % 2147483587+48611*((k / ns.length:Nat):Int)+3*(k:Int))*48271+11*(k:Int)+1) % 2147483647):=by(unfold gF;rw[Zp (λz=>hk2 z.1),Zo hpos])
   walk_at "!%"
abbrev wd(a b:String):Prop:=(Str.ofString a==Str.ofString b)=false
def pH:wd "span" "above":=by decide +kernel
def pB:wd "leap" "above":=by decide +kernel
def pE:wd "back" "above":=by decide +kernel
def nV:wd "again" "above":=by decide +kernel
def n0:wd "range" "above":=by decide +kernel
def nZ:wd "never" "above":=by decide +kernel
def lS:wd "leap" "span"/\wd "back" "span"/\wd "back" "leap"/\wd "again" "span"/\wd "again" "leap"/\wd "again" "back"/\wd "range" "span"/\wd "range" "leap"/\wd "range" "back"/\wd "range" "again"/\wd "above" "span"/\wd "above" "leap"/\wd "above" "back"/\wd "above" "again"/\wd "above" "range"/\wd "never" "span"/\wd "never" "leap"/\wd "never" "back"/\wd "never" "again"/\wd "never" "range"/\wd "never" "above":=by decide +kernel
def pw{j:Int}(h1:0<=j)(h2:j<=12):(0:Int)<2 ^ j.toNat/\(2:Int) ^ j.toNat<nofun:=by
 have h:j.toNat<=12:=by omega
 generalize j.toNat=q at h;have h3:2 ^ q<=2 ^ 12:=Nat.pow_le_pow_right (by decide) h;have h4:(2:Int) ^ q<=4096:=by exact_mod_cast h3
 exact⟨Int.pow_pos (by decide),Int.lt_of_le_of_lt h4 (by decide)⟩
inductive RuleD(no ba oc ma:Int):D->Prop
 |span (a b:Int) (h1:0<=a) (h2:a<ba) (h3:0<=b) (h4:b<2 ^ oc.toNat):RuleD no ba oc ma (.tup [.str "span",.int a,.int b])
 |leap (a:Int) (h1:0<=a) (h2:a<=12):RuleD no ba oc ma (.tup [.str "leap",.int a])
 |back (a b:Int) (h1:1<=a) (h2:a<=12) (h3:1<=b) (h4:b<=12):RuleD no ba oc ma (.tup [.str "back",.int a,.int b])
 |again (a:Int) (h1:1<=a) (h2:a<=3):RuleD no ba oc ma (.tup [.str "again",.int a])
 |range (a b:Int) (h1:-60<=a) (h2:a<=b) (h3:b<=60):RuleD no ba oc ma (.tup [.str "range",.int a,.int b])
 |above (v w:Nat) (h1:(v:Int)<=ma) (h2:(w:Int)<=ma) (h3:v≠w):RuleD no ba oc ma (.tup [.str "above",.int v,.int w])
 |never (a b:Int) (x:PySem.Str) (h1:0<=a) (h2:a<oc) (h3:0<=b) (h4:b<oc) (h5:x="like"\/x="against"\/x="aside"\/x="any"):RuleD no ba oc ma (.tup [.str "never",.int a,.int b,.str x])
section
variable{u6 u7 u8:Sl}
noncomputable def fC(k s no ba oc ma w:Int)(u6 u7 u8:Sl):Env:=[.p (.lst [.int k,.int s]),.sh (.int no),.sh (.int ba),.sh (.int oc),.sh (.int ma),.sh (.int w),u6,u7,u8]
def pK:ex P C W (.ifs (.cmp .Eq (.var 5) (.con (.int i))) a []) (fC k s no ba oc ma w u6 u7 u8)=if w=i then exs P C W a (fC k s no ba oc ma w u6 u7 u8) else some (.nx,fC k s no ba oc ma w u6 u7 u8):=by
 unfold fC;by_cases h:w=i
 ·have h':decide (w=i)=true:=Zn h;rw[Zo h]
  walk_at "!"
 ·have h':decide (w=i)=false:=Zm h;rw[Zp h]
  walk_at "!"
end
def at2(h1:0<=c)(h2:c<2):L2.cP [D.int a,D.int b] c=some (.int (if c=0 then a else b)):=by
 have:c=0\/c=1:=by omega
 rcases this with rfl | rfl<;>rfl
def atW(h1:0<=c)(h2:c<4):∃x:PySem.Str,L2.cP [D.str "like",D.str "against",D.str "aside",D.str "any"] c=some (.str x)/\(x="like"\/x="against"\/x="aside"\/x="any"):=by
 have:c=0\/c=1\/c=2\/c=3:=by omega
 rcases this with rfl | rfl | rfl | rfl
 ·exact⟨_,rfl,.inl rfl⟩
 ·exact⟨_,rfl,.inr (.inl rfl)⟩
 ·exact⟨_,rfl,.inr (.inr (.inl rfl))⟩
 ·exact⟨_,rfl,.inr (.inr (.inr rfl))⟩
def MN{W n:Nat}{k s0 no ba oc ma:Int}(n1:1<=no)(n2:no<=7)(b1:1<=ba)(b2:ba<=4)(o1:1<=oc)(o2:oc<=12)(m1:1<=ma)(m2:ma<=3) :
  ∃s' d,run T W (n+2) "L_rule" [.p (.lst [.int k,.int s0]),.sh (.int no),.sh (.int ba),.sh (.int oc),.sh (.int ma)]=some (.ok (.sh d),[.p (.lst [.int k,.int s']),.sh (.int no),.sh (.int ba),.sh (.int oc),.sh (.int ma)])/\RuleD no ba oc ma d:=by
 rw[bO RC rfl rfl];unfold mZ;have g1:0<ba:=b1;have g2:ba<nofun:=Int.lt_of_le_of_lt b2 (by decide);have g3:0<oc:=o1;have g4:oc<nofun:=Int.lt_of_le_of_lt o2 (by decide);have g5:0<=oc:=by omega
 have g6:oc<=1000:=by omega
 obtain⟨g7,g8⟩:=pw g5 o2;have g9:0<ma:=m1;have g10:ma<nofun:=Int.lt_of_le_of_lt m2 (by decide);have g11:0<ma+1:=by omega
 have g12:ma+1<nofun:=Int.lt_of_le_of_lt (Int.add_le_add_right m2 1) (by decide);have v1:=bA (k:=k) (s:=s0) (m:=9) (by decide);have v2:=a8 (k:=k) (s:=s0) (m:=9) (by decide)
 have e0:ex T.pins (run T W (n+1)) W nC ([.p (.lst [.int k,.int s0]),.sh (.int no),.sh (.int ba),.sh (.int oc),.sh (.int ma)]++List.replicate 4 .un)=some (.nx,fC k (aE k s0 9) no ba oc ma (aP k s0 9) .un .un .un):=by
  unfold fC;rw[AI];clear g1 g2 g3 g4 g5 g6 g7 g8 g9 g10 g11 g12 v1 v2 n1 n2 b1 b2 o1 o2 m1 m2
  walk_at "!bQ"
 generalize aP k s0 9=w at *
 generalize aE k s0 9=s at *
 rw[dW,e0,lB,dW];clear e0
 -- a return of a statement ends the def
 have fin:∀{st:S} {r:List S} {s':Int} {d:D} {u6 u7 u8:Sl},ex T.pins (run T W (n+1)) W st (fC k s no ba oc ma w .un .un .un)=some (.rt (.sh d),fC k s' no ba oc ma w u6 u7 u8)->RuleD no ba oc ma d ->
   ∃s'' d,JH [.p (.lst [.int k,.int s0]),.sh (.int no),.sh (.int ba),.sh (.int oc),.sh (.int ma)] ((ex T.pins (run T W (n+1)) W st (fC k s no ba oc ma w .un .un .un)).next (exs T.pins (run T W (n+1)) W r))=some (.ok (.sh d),[.p (.lst [.int k,.int s'']),.sh (.int no),.sh (.int ba),.sh (.int oc),.sh (.int ma)])/\RuleD no ba oc ma d:=λh hd=>by
  rw[h,TC,EV];exact⟨_,_,rfl,hd⟩
 by_cases c0:w<2
 ·refine fin (s':=aE k (aE k s ba) (2 ^ oc.toNat)) (d:=.tup [.str "span",.int (aP k s ba),.int (aP k (aE k s ba) (2 ^ oc.toNat))]) (u6:=.un) (u7:=.un) (u8:=.un) ?_ (.span _ _ (bA g1) (a8 g1) (bA g7) (a8 g7));have c0':decide (w<2)=true:=Zn c0;rw[pF];unfold fC;clear n1 n2 b1 b2 o1 o2 m1 m2 v1 v2 c0 fin
  walk_at "!bQ"
 have e1:ex T.pins (run T W (n+1)) W nE (fC k s no ba oc ma w .un .un .un)=some (.nx,fC k s no ba oc ma w .un .un .un):=by
  have c0':decide (w<2)=false:=Zm c0;rw[pF];unfold fC;clear n1 n2 b1 b2 o1 o2 m1 m2 v1 v2 c0 fin
  walk_at "!bQ"
 rw[e1,lB,dW];clear e1;by_cases c2:w=2
 ·have x1:=bA (k:=k) (s:=aE k s ba) (m:=oc) g3;have x2:=a8 (k:=k) (s:=aE k s ba) (m:=oc) g3;have x3:aP k (aE k s ba) oc<=1000:=by omega
  have h4:(2:Int) ^ (aP k (aE k s ba) oc).toNat<=2 ^ oc.toNat-1:=by
   have h1:(aP k (aE k s ba) oc).toNat+1<=oc.toNat:=by omega
   have h2:(2:Int) ^ ((aP k (aE k s ba) oc).toNat+1)<=2 ^ oc.toNat:=by
    have h3:2 ^ ((aP k (aE k s ba) oc).toNat+1)<=2 ^ oc.toNat:=Nat.pow_le_pow_right (by decide) h1
    exact_mod_cast h3
   have h4:(2:Int) ^ ((aP k (aE k s ba) oc).toNat+1)=2 ^ (aP k (aE k s ba) oc).toNat*2:=Int.pow_succ _ _;have h5:(0:Int)<2 ^ (aP k (aE k s ba) oc).toNat:=Int.pow_pos (by decide);omega
  have h5:(0:Int)<2 ^ (aP k (aE k s ba) oc).toNat:=Int.pow_pos (by decide);refine fin (s':=aE k (aE k s ba) oc) (d:=.tup [.str "span",.int (aP k s ba),.int (2 ^ oc.toNat-1-2 ^ (aP k (aE k s ba) oc).toNat)]) (u6:=.un) (u7:=.un) (u8:=.un) ?_ (.span _ _ (bA g1) (a8 g1) (by omega) (by omega));rw[pP,pK,Zo c2];unfold fC;clear n1 n2 b1 b2 o1 o2 m1 m2 v1 v2 c0 fin h4 h5 x2
  walk_at "!bQ"
 rw[pP,pK,Zp c2,lB,dW];by_cases c3:w=3
 ·have x1:=bA (k:=k) (s:=s) (m:=2) (by decide);have x2:=a8 (k:=k) (s:=s) (m:=2) (by decide);have hat:=at2 (a:=13) (b:=no+1) x1 x2;obtain⟨q,hq⟩:∃q,q=(if aP k s 2=0 then 13 else no+1):=⟨_,rfl⟩
  rw[<- hq] at hat;have q1:0<q:=by rw[hq];split<;>omega
  have q2:q<=13:=by rw[hq];split<;>omega
  have q3:q<nofun:=Int.lt_of_le_of_lt q2 (by decide);refine fin (s':=aE k (aE k s 2) q) (d:=.tup [.str "leap",.int (aP k (aE k s 2) q)]) (u6:=.un) (u7:=.un) (u8:=.un) ?_ (.leap _ (bA q1) (by have:=a8 (k:=k) (s:=aE k s 2) q1;omega));rw[o8,pK,Zo c3];unfold fC;clear n1 n2 b1 b2 o1 o2 m1 m2 v1 v2 c0 fin q2 hq x1 x2
  walk_at "!bQ"
 rw[o8,pK,Zp c3,lB,dW];by_cases c4:w=4
 ·have x1:=bA (k:=k) (s:=s) (m:=12) (by decide);have x2:=a8 (k:=k) (s:=s) (m:=12) (by decide);have x3:=bA (k:=k) (s:=aE k s 12) (m:=12) (by decide);have x4:=a8 (k:=k) (s:=aE k s 12) (m:=12) (by decide);refine fin (s':=aE k (aE k s 12) 12) (d:=.tup [.str "back",.int (1+aP k s 12),.int (1+aP k (aE k s 12) 12)]) (u6:=.un) (u7:=.un) (u8:=.un) ?_ (.back _ _ (by omega) (by omega) (by omega) (by omega));rw[pI,pK,Zo c4];unfold fC;clear n1 n2 b1 b2 o1 o2 m1 m2 v1 v2 c0 fin x1 x2 x3 x4
  walk_at "!bQ"
 rw[pI,pK,Zp c4,lB,dW];by_cases c5:w=5
 ·have x1:=bA (k:=k) (s:=s) (m:=3) (by decide);have x2:=a8 (k:=k) (s:=s) (m:=3) (by decide);refine fin (s':=aE k s 3) (d:=.tup [.str "again",.int (1+aP k s 3)]) (u6:=.un) (u7:=.un) (u8:=.un) ?_ (.again _ (by omega) (by omega));rw[pM,pK,Zo c5];unfold fC;clear n1 n2 b1 b2 o1 o2 m1 m2 v1 v2 c0 fin x1 x2
  walk_at "!bQ"
 rw[pM,pK,Zp c5,lB,dW];by_cases c6:w=6
 ·have u1:=bA (k:=k) (s:=s) (m:=121) (by decide);have u2:=a8 (k:=k) (s:=s) (m:=121) (by decide);have u3:=bA (k:=k) (s:=aE k s 121) (m:=20) (by decide);have u4:=a8 (k:=k) (s:=aE k s 121) (m:=20) (by decide);have u5:=bA (k:=k) (s:=aE k (aE k s 121) 20) (m:=2) (by decide);have u6:=a8 (k:=k) (s:=aE k (aE k s 121) 20) (m:=2) (by decide);have hat:=at2 (a:=aP k s 121-60) (b:=aP k (aE k s 121) 20-12) u5 u6;obtain⟨lo,hlo⟩:∃lo,lo=(if aP k (aE k (aE k s 121) 20) 2=0 then aP k s 121-60 else aP k (aE k s 121) 20-12):=⟨_,rfl⟩
  rw[<- hlo] at hat;have q1:lo<=60:=by rw[hlo];split<;>omega
  have q2:-60<=lo:=by rw[hlo];split<;>omega
  have y1:0<61-lo:=by omega
  have y2:61-lo<nofun:=by omega
  obtain⟨s1,hs1⟩:∃s1,s1=aE k (aE k (aE k s 121) 20) 2:=⟨_,rfl⟩
  have z1:=bA (k:=k) (s:=s1) y1;have z2:=a8 (k:=k) (s:=s1) y1;refine fin (s':=aE k s1 (61-lo)) (d:=.tup [.str "range",.int lo,.int (lo+aP k s1 (61-lo))]) (u6:=.sh (.int lo)) (u7:=.un) (u8:=.un) ?_ (.range _ _ q2 (by omega) (by omega));rw[pJ,pK,Zo c6];have hs1':=hs1.symm;unfold fC;clear n1 n2 b1 b2 o1 o2 m1 m2 v1 v2 c0 fin u1 u2 u3 u4 u5 u6 q1 q2 z1 z2 hlo hs1
  walk_at "!bQ"
 rw[pJ,pK,Zp c6,lB,dW];by_cases c7:w=7
 ·have x1:=bA (k:=k) (s:=s) g11;have x2:=a8 (k:=k) (s:=s) g11;have x3:=bA (k:=k) (s:=aE k s (ma+1)) g9;have x4:=a8 (k:=k) (s:=aE k s (ma+1)) g9;obtain⟨a,ha⟩:∃a:Nat,aP k s (ma+1)=(a:Int):=⟨_,(Int.toNat_of_nonneg x1).symm⟩
  have y1:=Int.emod_nonneg ((a:Int)+1+aP k (aE k s (ma+1)) ma) (b:=ma+1) (by omega);have y2:=Int.emod_lt_of_pos ((a:Int)+1+aP k (aE k s (ma+1)) ma) (b:=ma+1) (by omega);obtain⟨b,hb⟩:∃b:Nat,((a:Int)+1+aP k (aE k s (ma+1)) ma) % (ma+1)=(b:Int):=⟨_,(Int.toNat_of_nonneg y1).symm⟩
  have hne:a≠b:=λz=>by
   subst z;rcases Int.lt_or_le ((a:Int)+1+aP k (aE k s (ma+1)) ma) (ma+1) with h | h
   ·rw[Int.emod_eq_of_lt (by omega) h] at hb;omega
   ·have h2:((a:Int)+1+aP k (aE k s (ma+1)) ma) % (ma+1)=((a:Int)+1+aP k (aE k s (ma+1)) ma-(ma+1)):=by
     rw[<- Int.sub_emod_right,Int.emod_eq_of_lt (by omega) (by omega)]
    omega
  refine fin (s':=aE k (aE k s (ma+1)) ma) (d:=.tup [.str "above",.int a,.int b]) (u6:=.un) (u7:=.sh (.int a)) (u8:=.un) ?_ (.above _ _ (by omega) (by omega) hne);rw[pG,pK,Zo c7];unfold fC;clear n1 n2 b1 b2 o1 o2 m1 m2 v1 v2 c0 fin x1 x2 x3 x4 y1 y2 hne
  walk_at "!bQ"
 rw[pG,pK,Zp c7,lB,dW,zZ];have x1:=bA (k:=k) (s:=aE k (aE k s oc) oc) (m:=4) (by decide);have x2:=a8 (k:=k) (s:=aE k (aE k s oc) oc) (m:=4) (by decide);obtain⟨x,hat,hx⟩:=atW x1 x2;refine⟨aE k (aE k (aE k s oc) oc) 4,.tup [.str "never",.int (aP k s oc),.int (aP k (aE k s oc) oc),.str x], ?_,.never _ _ _ (bA g3) (a8 g3) (bA g3) (a8 g3) hx⟩;unfold fC;clear n1 n2 b1 b2 o1 o2 m1 m2 v1 v2 c0 fin x1 x2 hx
 walk_at "!AA bQ"
def O5:L2.cP [D.int a,D.int b] (if g=true then 1 else 0)=some (.int (if g=true then b else a)):=by cases g<;>rfl
def T5{g:Bool}{a b:Int}(ha:0<a)(hb:0<b):0<(if g=true then b else a):=by cases g<;>simpa
def S5{g:Bool}{a b c:Int}(ha:a<c)(hb:b<c):(if g=true then b else a)<c:=by cases g<;>simpa
structure HouseOk(no ba oc:Int)(fs:List (Int×Int×Bool)):Prop where
 n1:1<=no
 n2:no<=7
 b1:1<=ba
 b2:ba<=4
 o1:1<=oc
 o2:oc<=12
 l1:1<=fs.length
 l2:fs.length<=3
 f:∀f∈fs,0<=f.1/\f.1<=4/\-12<=f.2.1/\f.2.1<=12
def GB{W n:Nat}{k s:Int}:∃s' no ba oc fs rs,run T W (n+3) "L_house" [.p (.lst [.int k,.int s])]=some (.ok (.sh (.tup [.int no,.int ba,.int oc,.tup (fs.map dF),.tup rs])),[.p (.lst [.int k,.int s'])])/\HouseOk no ba oc fs/\rs.length<=8/\∀d∈rs,RuleD no ba oc (fs.length:Int) d:=by
 rw[bO NA rfl rfl];unfold kX;generalize hg:decide (aP k s 2=0)=g;have p1:=T5 (g:=g) (a:=4) (b:=7) (by decide) (by decide);have p2:=S5 (g:=g) (a:=4) (b:=7) (c:=nofun) (by decide) (by decide);have p3:=T5 (g:=g) (a:=2) (b:=4) (by decide) (by decide);have p4:=S5 (g:=g) (a:=2) (b:=4) (c:=nofun) (by decide) (by decide);have p5:=T5 (g:=g) (a:=2) (b:=3) (by decide) (by decide);have p6:=S5 (g:=g) (a:=2) (b:=3) (c:=nofun) (by decide) (by decide);have p7:=T5 (g:=g) (a:=2) (b:=5) (by decide) (by decide);have p8:=S5 (g:=g) (a:=2) (b:=5) (c:=nofun) (by decide) (by decide);obtain⟨s1,hs1⟩:∃s1,s1=aE k s 2:=⟨_,rfl⟩
 obtain⟨no,hno⟩:∃no,no=1+aP k s1 (if g=true then 7 else 4):=⟨_,rfl⟩
 obtain⟨s2,hs2⟩:∃s2,s2=aE k s1 (if g=true then 7 else 4):=⟨_,rfl⟩
 obtain⟨ba,hba⟩:∃ba,ba=1+aP k s2 (if g=true then 4 else 2):=⟨_,rfl⟩
 obtain⟨s3,hs3⟩:∃s3,s3=aE k s2 (if g=true then 4 else 2):=⟨_,rfl⟩
 obtain⟨oc,hoc⟩:∃oc,oc=1+aP k s3 12:=⟨_,rfl⟩
 obtain⟨s4,hs4⟩:∃s4,s4=aE k s3 12:=⟨_,rfl⟩
 obtain⟨ma,hma⟩:∃ma,ma=1+aP k s4 (if g=true then 3 else 2):=⟨_,rfl⟩
 obtain⟨s5,hs5⟩:∃s5,s5=aE k s4 (if g=true then 3 else 2):=⟨_,rfl⟩
 have n1:1<=no:=by have:=bA (k:=k) (s:=s1) p1;omega
 have n2:no<=7:=by
  have:=a8 (k:=k) (s:=s1) p1
  have:(if g=true then(7:Int) else 4)<=7:=by cases g<;>decide
  omega
 have b1:1<=ba:=by have:=bA (k:=k) (s:=s2) p3;omega
 have b2:ba<=4:=by
  have:=a8 (k:=k) (s:=s2) p3
  have:(if g=true then(4:Int) else 2)<=4:=by cases g<;>decide
  omega
 have o1:1<=oc:=by have:=bA (k:=k) (s:=s3) (m:=12) (by decide);omega
 have o2:oc<=12:=by have:=a8 (k:=k) (s:=s3) (m:=12) (by decide);omega
 have m1:1<=ma:=by have:=bA (k:=k) (s:=s4) p5;omega
 have m2:ma<=3:=by
  have:=a8 (k:=k) (s:=s4) p5
  have:(if g=true then(3:Int) else 2)<=3:=by cases g<;>decide
  omega
 have nG:aD .rng [.slot 5] [.p (.lst [.int k,.int s5]),.sh (.bl g),.sh (.int no),.sh (.int ba),.sh (.int oc),.sh (.int ma),.o (.lst []),.un,.un,.un]=some (rg ma.toNat,none):=mV rfl (by omega) (by omega)
 have key1:=b4 (bind:=aT true [7]) (body:=exs T.pins (run T W (n+2)) W lI)
  (λpre U=>∃s6 fs t7 t8,U=[.p (.lst [.int k,.int s6]),.sh (.bl g),.sh (.int no),.sh (.int ba),.sh (.int oc),.sh (.int ma),.o (.lst (fs.map dF)),t7,t8,.un]/\bE t7=true/\bE t8=true/\fs.length=pre.length/\∀f∈fs,0<=f.1/\f.1<=4/\-12<=f.2.1/\f.2.1<=12)
  (ds:=rg ma.toNat) (λpre d post hds U hU=>by
   obtain⟨s6,fs,t7,t8,rfl,h7,h8,hl,hf⟩:=hU
   have hlen:pre.length<ma.toNat:=by
    have:=congrArg List.length hds
    simp at this;omega
   refine⟨_,by simp only[fA,aZ h7]<;>rfl, ?_⟩;have hsm:aJ ((fs.map dF).length+1)=true:=cG (by simp;omega);have la:=bA (k:=k) (s:=s6) p7;have lb:=a8 (k:=k) (s:=s6) p7;have lc:(if g=true then(5:Int) else 2)<=5:=by cases g<;>decide
   have sa:=bA (k:=k) (s:=aE k s6 (if g=true then 5 else 2)) (m:=25) (by decide);have sb:=a8 (k:=k) (s:=aE k s6 (if g=true then 5 else 2)) (m:=25) (by decide);refine⟨[.p (.lst [.int k,.int (aE k (aE k (aE k s6 (if g=true then 5 else 2)) 25) 4)]),.sh (.bl g),.sh (.int no),.sh (.int ba),.sh (.int oc),.sh (.int ma),.o (.lst ((fs++[(aP k s6 (if g=true then 5 else 2),aP k (aE k s6 (if g=true then 5 else 2)) 25-12,decide (aP k (aE k (aE k s6 (if g=true then 5 else 2)) 25) 4=0))]).map dF)),.sh d,.sh (.int (aP k s6 (if g=true then 5 else 2))),.un], ?_,_,_,_,_,rfl,rfl,rfl,by simp[hl],λf hm=>?_⟩
   ·unfold lI;clear hf hds la lb lc sa sb hg hno hs2 hba hs3 hoc hs4 hma hs5 n1 n2 b1 b2 o1 o2 m1 m2 hlen hl nG hs1
    walk_at "!O5 bQ"
    simp only[List.map_append,Zs,List.map_nil,dF]
   ·rcases zp.mp hm with hm | hm
    ·exact hf f hm
    ·rw[ze.mp hm]
     refine⟨la, ?_, ?_, ?_⟩<;>simp only<;>omega)
  (U:=[.p (.lst [.int k,.int s5]),.sh (.bl g),.sh (.int no),.sh (.int ba),.sh (.int oc),.sh (.int ma),.o (.lst []),.un,.un,.un]) ⟨_,[],_,_,rfl,rfl,rfl,rfl,λf h=>nomatch h⟩
 obtain⟨U1,el1,s6,fs,t7,t8,rfl,h7,h8,hl,hf⟩:=key1;have hl:fs.length=ma.toNat:=by rw[hl];simp
 have hr1:=bA (k:=k) (s:=s6) (m:=9) (by decide);have hr2:=a8 (k:=k) (s:=s6) (m:=9) (by decide);have iM:aD .rng [.val (.sh (.int (aP k s6 9)))] [.p (.lst [.int k,.int (aE k s6 9)]),.sh (.bl g),.sh (.int no),.sh (.int ba),.sh (.int oc),.sh (.int ma),.o (.lst (fs.map dF)),t7,t8,.o (.lst [])]=some ((List.range (aP k s6 9).toNat).map λ(j:Nat)=>.int j,none):=mV rfl (by omega) (by omega)
 have key2:=b4 (bind:=aT true [7]) (body:=exs T.pins (run T W (n+2)) W lO)
  (λpre U=>∃s7 rs t7,U=[.p (.lst [.int k,.int s7]),.sh (.bl g),.sh (.int no),.sh (.int ba),.sh (.int oc),.sh (.int ma),.o (.lst (fs.map dF)),t7,t8,.o (.lst rs)]/\bE t7=true/\rs.length=pre.length/\∀d∈rs,RuleD no ba oc ma d)
  (ds:=(List.range (aP k s6 9).toNat).map λ(j:Nat)=>.int j) (λpre d post hds U hU=>by
   obtain⟨s7,rs,t7,rfl,h7,hl,hR⟩:=hU
   have hlen:pre.length<(aP k s6 9).toNat:=by
    have:=congrArg List.length hds
    simp at this;omega
   refine⟨_,by simp only[fA,aZ h7]<;>rfl, ?_⟩;have hsm:aJ (rs.length+1)=true:=cG (by omega);obtain⟨s8,dr,er,hrd⟩:=MN (W:=W) (n:=n) (k:=k) (s0:=s7) n1 n2 b1 b2 o1 o2 m1 m2;refine⟨[.p (.lst [.int k,.int s8]),.sh (.bl g),.sh (.int no),.sh (.int ba),.sh (.int oc),.sh (.int ma),.o (.lst (fs.map dF)),.sh d,t8,.o (.lst (rs++[dr]))], ?_,_,_,_,rfl,rfl,by simp[hl],λd hd=>(zp.mp hd).elim (hR d) λq=>by rw[ze.mp q];exact hrd⟩;unfold lO;clear hR hrd hf hds hg hno hs2 hba hs3 hoc hs4 hma hs5 n1 n2 b1 b2 o1 o2 m1 m2 hlen hl nG hs1 el1 iM hr1 hr2
   walk_at "!bQ O5")
  (U:=[.p (.lst [.int k,.int (aE k s6 9)]),.sh (.bl g),.sh (.int no),.sh (.int ba),.sh (.int oc),.sh (.int ma),.o (.lst (fs.map dF)),t7,t8,.o (.lst [])]) ⟨_,[],_,rfl,h7,rfl,λ_ z=>nomatch z⟩
 obtain⟨U2,el2,s7,rs,t7',rfl,h7',hlr,hR⟩:=key2;have hlr2:rs.length<=8:=by rw[hlr];simp;omega
 have hlm:(fs.length:Int)=ma:=by omega
 refine⟨s7,no,ba,oc,fs,rs, ?_,⟨n1,n2,b1,b2,o1,o2,by omega,by omega,hf⟩,hlr2,by rw[hlm];exact hR⟩;clear hf n1 n2 b1 b2 o1 o2 m1 m2 hl hlr hr1 hr2 hR hlr2 hlm;have e1:=hno.symm;have e2:=hs2.symm;have e3:=hba.symm;have e4:=hs3.symm;have e5:=hoc.symm;have e6:=hs4.symm;have e7:=hma.symm;have e8:=hs5.symm;have e9:=hs1.symm;clear hno hs2 hba hs3 hoc hs4 hma hs5 hs1
 walk_at "!O5 bQ"
def KR(h1:0<no)(h2:no<nofun)(h3:0<=mo)(h4:mo<=1000):∃(s':Int) (xs:List Int),run T W (n+2) "L_line" [.p (.lst [.int k,.int s]),.sh (.int no),.sh (.int mo)]=some (.ok (.ow (.lst (xs.map D.int))),[.p (.lst [.int k,.int s']),.sh (.int no),.sh (.int mo)])/\(xs.length:Int)<=mo/\∀x∈xs,0<=x/\x<no:=by
 rw[bO NP rfl rfl];unfold mG;have g1:0<mo+1:=by omega
 have g2:mo+1<nofun:=by omega
 have v1:=bA (k:=k) (s:=s) g1;have v2:=a8 (k:=k) (s:=s) g1;have hi:aD .rng [.slot 3] [.p (.lst [.int k,.int (aE k s (mo+1))]),.sh (.int no),.sh (.int mo),.sh (.int (aP k s (mo+1)))]=some ((List.range (aP k s (mo+1)).toNat).map λ(j:Nat)=>.int j,none):=mV rfl (by omega) (by omega)
 obtain⟨acc,Ui,e,⟨s6,xs,t3,rfl,h3',rfl,hl,hx⟩,hz⟩:=gX (tests:=cR T.pins (run T W (n+1)) []) (elt:=ev T.pins (run T W (n+1)) false nA) (bind:=aT true [3]) (ds:=(List.range (aP k s (mo+1)).toNat).map λ(j:Nat)=>.int j)
  (λj acc U=>∃(s6:Int) (xs:List Int) (t3:Sl),U=[.sh (.int no),.p (.lst [.int k,.int s6]),.un,t3]/\bE t3=true/\acc=xs.map D.int/\xs.length=j/\∀x∈xs,0<=x/\x<no)
  (λj d hd acc U hU=>by
   obtain⟨s6,xs,t3,rfl,h3',rfl,hl,hx⟩:=hU;refine⟨_,true,_,by simp only[vA,NI,zt,zr,aZ h3',List.set_cons_zero,List.set_cons_succ]<;>rfl,jT,λ_=>?_,λz=>nomatch z⟩;refine⟨.sh (.int (aP k s6 no)),[.sh (.int no),.p (.lst [.int k,.int (aE k s6 no)]),.un,.sh d], ?_,_,xs++[aP k s6 no],_,rfl,rfl,by simp[RV.d],by simp[hl],λx hm=>?_⟩
   ·unfold nA
    walk_at "!bQ"
   ·rcases zp.mp hm with hm | hm
    ·exact hx x hm
    ·rw[ze.mp hm];exact⟨bA h1,a8 h1⟩)
  [] [.sh (.int no),.p (.lst [.int k,.int (aE k s (mo+1))]),.un,.un] ⟨_,[],_,rfl,rfl,rfl,rfl,λx h=>nomatch h⟩
 have hl:xs.length=(aP k s (mo+1)).toNat:=by rw[hl];simp
 refine⟨s6,xs, ?_,by omega,hx⟩;have hsm:aJ (xs.map D.int).length=true:=cG (by simp;omega)
 walk_at "!bQ"
 rw[cZ hi]
 walk_at "!bQ"
def oW:run T W (n+1) "pitch" [.sh (.tup [.int late,.int shift,.bl turned]),.sh (.int note)]=some (.ok (.sh (.int (if turned then shift-note else shift+note))),[.sh (.tup [.int late,.int shift,.bl turned]),.sh (.int note)]):=by
 rw[bO W5 rfl rfl];unfold n9;cases turned<;>walk_at "!"
noncomputable def dA(xs:List Int)(b:Int)(f:Int×Int×Bool):D :=
 if 0<=b-f.1/\b-f.1<xs.length then .int (if f.2.2=true then f.2.1-xs.getD (b-f.1).toNat 0 else f.2.1+xs.getD (b-f.1).toNat 0) else .non
abbrev dQ(fs:List (Int×Int×Bool)):List (Int×Int×Bool):=(0,0,false)::fs
def j8{v:Nat}(h:(dQ fs)[v]?=some f) :
  run T W (n+1) "singer" [.sh (aA no ba oc fs rs),.sh (.int v)]=some (.ok (.sh (dF f)),[.sh (aA no ba oc fs rs),.sh (.int v)]):=by
 rw[bO NR rfl rfl];unfold mU
 cases v with
 |zero =>
  simp only[zt,Option.some.injEq] at h;subst h;have e:decide (((0:Nat):Int)=0)=true:=rfl
  walk_at "!"
  all_goals (try simp only[e])
  all_goals (try walk_at "!")
  all_goals rfl
 |succ v =>
  have h:fs[v]?=some f:=by simpa using h
  have e:decide (((v+1:Nat):Int)=0)=false:=Zm (by omega);have e2:((v+1:Nat):Int)-1=(v:Int):=by omega
  have e3:L2.cP (fs.map dF) (v:Int)=some (dF f):=L2.fE (by rw[Zh,h];rfl);unfold aA
  walk_at "!"
def ZX{xs:List Int}{i:Int}(h1:0<=i)(h2:i<xs.length):L2.cP (xs.map D.int) i=some (.int (xs.getD i.toNat 0)):=by
 have:=uO (ns:=xs) (k:=i.toNat) (by omega)
 have e:((i.toNat:Nat):Int)=i:=by omega
 rwa[e] at this
def qH{W n:Nat}{no ba oc:Int}{fs:List (Int×Int×Bool)}{rs:List D}{xs:List Int}{v:Nat}{b:Int}{p:Bool}{f:Int×Int×Bool}(h:(dQ fs)[v]?=some f) :
  run T W (n+2) "sung" [.sh (aA no ba oc fs rs),~~~xs,.sh (.int v),.sh (.int b)]=some (.ok (.sh (dA xs b f)),[.sh (aA no ba oc fs rs),~~~xs,.sh (.int v),.sh (.int b)]):=by
 rw[bO aB7 rfl rfl];unfold rJ;have hs:=j8 (W:=W) (n:=n) (no:=no) (ba:=ba) (oc:=oc) (rs:=rs) h;obtain⟨late,shift,turned⟩:=f;simp only[dF] at hs;by_cases c:0<=b-late/\b-late<xs.length
 ·have e1:=ZX c.1 c.2;have ev:dA xs b (late,shift,turned)=.int (if turned=true then shift-xs.getD (b-late).toNat 0 else shift+xs.getD (b-late).toNat 0):=Zo c;obtain⟨c1,c2⟩:=c;clear h
  walk_at "!j8 oW %"
 ·have ev:dA xs b (late,shift,turned)=.non:=Zp c;by_cases c1:0<=b-late
  ·have c2:¬b-late<xs.length:=λz=>c ⟨c1,z⟩
   have c2':decide (b-late<(xs.length:Int))=false:=Zm c2;clear h c c2
   walk_at "!j8 oW %"
  ·have c1':decide (0<=b-late)=false:=Zm c1;clear h c c1
   walk_at "!j8 oW %"
def mE:dA xs b f=.non\/∃i,dA xs b f=.int i:=by
 unfold dA;split
 ·exact .inr ⟨_,rfl⟩
 ·exact .inl rfl
def A8{bind:D->Env->Option Env}(sel:Nat->Bool)(val:Nat->D)(J:Env->Prop)
  (step:∀(j:Nat) (d:D),ds[j]?=some d->∀U,J U->∃U1 U2,bind d U=some U1/\tests U1=some (.ok (.sh (.bl (sel j))),U2)/\(sel j=true->∃v U3,elt U2=some (.ok v,U3)/\v.d=val j/\J U3)/\(sel j=false->J U2)) :
  ∀U,J U->∃U',d7 tests elt bind ds [] U=some (.ok (((List.range ds.length).filter sel).map val),U')/\J U':=by
 intro U hU
 obtain⟨acc,U',e,⟨rfl,hJ⟩,_⟩:=gX (λj acc U=>acc=((List.range j).filter sel).map val/\J U)
  (λj d hd acc U hz=>by
   obtain⟨ha,hJ⟩:=hz;subst ha;obtain⟨U1,U2,h1,h2,h3,h4⟩:=step j d hd U hJ;refine⟨U1,sel j,U2,h1,h2,λhc=>?_,λhc=>?_⟩
   ·obtain⟨v,U3,h5,h6,h7⟩:=h3 hc;refine⟨v,U3,h5, ?_,h7⟩;rw[List.range_succ,List.filter_append,List.map_append,h6];simp[hc]
   ·refine⟨?_,h4 hc⟩;rw[List.range_succ,List.filter_append,List.map_append]
    simp[hc]) [] U ⟨rfl,hU⟩
 exact⟨U',e,hJ⟩
def lD{xs:List Int}{b:Int}(hl:fs.length<=1000) :
  run T W (n+3) "chord" [.sh (aA no ba oc fs rs),~~~xs,.sh (.int b)]=some (.ok (.ow (.lst ((dQ fs).map (dA xs b)))),[.sh (aA no ba oc fs rs),~~~xs,.sh (.int b)]):=by
 rw[bO VL rfl rfl];unfold oC
 have hi:aD .rng [.val (.sh (.int ((fs.length:Int)+1)))] [.sh (aA no ba oc fs rs),~~~xs,.sh (.int b)]=some (rg (fs.length+1),none):=by(refine Eq.trans (mV (n:=(fs.length:Int)+1) rfl (by omega) (by omega)) ?_;rw[show((fs.length:Int)+1).toNat=fs.length+1 from by omega])
 obtain⟨acc,Ui,e,⟨t4,rfl,ht4,rfl⟩,hz⟩:=gX (tests:=cR T.pins (run T W (n+2)) []) (elt:=ev T.pins (run T W (n+2)) false o4) (bind:=aT true [4]) (ds:=rg (fs.length+1))
  (λj acc U=>∃(t4:Sl),U=[.sh (.int b),.sh (aA no ba oc fs rs),~~~xs,.un,t4]/\bE t4=true/\acc=((dQ fs).take j).map (dA xs b))
  (λj d hd acc U hU=>by
   obtain⟨t4,rfl,ht4,rfl⟩:=hU
   have hj:j<fs.length+1:=by
    have:=(Zc.mp hd).1
    simpa using this
   have hd':d=.int j:=by(rw[Zh,List.getElem?_range hj] at hd;exact(Option.some.inj hd).symm)
   subst hd';obtain⟨f,hf⟩:∃f,(dQ fs)[j]?=some f:=⟨_,Zb (by simp;omega)⟩
   have hs:=qH (W:=W) (n:=n) (no:=no) (ba:=ba) (oc:=oc) (rs:=rs) (xs:=xs) (b:=b) (p:=true) hf;refine⟨_,true,_,by simp only[fA,aZ ht4]<;>rfl,jT,λ_=>?_,λz=>nomatch z⟩;refine⟨.sh (dA xs b f),[.sh (.int b),.sh (aA no ba oc fs rs),~~~xs,.un,.sh (.int j)], ?_,_,rfl,rfl, ?_⟩
   ·unfold o4;clear hd hj hf hi ht4
    walk_at "!%"
   ·rw[List.take_succ,hf,List.map_append]
    rfl)
  [] [.sh (.int b),.sh (aA no ba oc fs rs),~~~xs,.un,.un] ⟨_,rfl,rfl,rfl⟩
 have ht:(dQ fs).take ((rg (fs.length+1)).length)=dQ fs:=by(rw[zf];simp)
 rw[ht] at e;have hsm:aJ ((dQ fs).map (dA xs b)).length=true:=cG (by simp;omega);have hsm2:aJ (fs.length+1)=true:=cG (by omega);clear hz ht4 ht hl
 walk_at "!%"
 rw[cZ hi]
 walk_at "!%"
noncomputable def lH(lo hi:Int):D->Bool
 |.int i=>!(decide (lo<=i)&&decide (i<=hi))
 |_=>false
noncomputable def iV(n:Nat)(sel:Nat->Bool):List (List Int):=((List.range n).filter sel).map λ(j:Nat)=>[(j:Int)]
def ZY(h:is∈iV n sel):is.length<=1000:=by
 obtain⟨j,_,rfl⟩:=zo.mp h;simp
def CW(hn:n<=1000):(iV n sel).length<=1000:=by
 unfold iV;rw[List.length_map]
 have:=List.length_filter_le sel (List.range n)
 simp at this;omega
def aBZ:((List.range n).filter sel).map (λ(j:Nat)=>D.tup [.int j])=aF (iV n sel):=by
 unfold aF iV;rw[List.map_map];rfl
def AH(hd:d=.non\/∃i,d=.int i):run T W (n+1) "Range.forbids" [.sh (.ins "Range" ["low","high"] [.int lo,.int hi]),.sh d]=some (.ok (.sh (.bl (lH lo hi d))),[.sh (.ins "Range" ["low","high"] [.int lo,.int hi]),.sh d]):=by
 rw[bO vE rfl rfl];unfold fT;rcases hd with rfl | ⟨i,rfl⟩
 ·have e:lH lo hi .non=false:=rfl
  walk_at "!kN j4"
 ·have e:lH lo hi (.int i)=!(decide (lo<=i)&&decide (i<=hi)):=rfl;by_cases c:lo<=i
  ·have c':decide (lo<=i)=true:=Zn c;rw[e,c',Bool.true_and]
   walk_at "!kN j4"
  ·have c':decide (lo<=i)=false:=Zm c;rw[e,c',Bool.false_and]
   walk_at "!kN j4"
noncomputable def aS(fs:List (Int×Int×Bool))(xs:List Int)(b:Int):List D:=(dQ fs).map (dA xs b)
def JM{j:Nat}(h:(aS fs xs b)[j]?=some d):d=.non\/∃i,d=.int i:=by
 unfold aS at h;rw[Zh] at h
 cases q:(dQ fs)[j]? with
 |none=>rw[q] at h;cases h
 |some f =>
  rw[q] at h;cases h;exact mE
def i9:(aS fs xs b).length=fs.length+1:=by unfold aS;simp
def P6{v:Nat}(h:(dQ fs)[v]?=some f):(aS fs xs b)[v]?=some (dA xs b f):=by
 unfold aS;rw[Zh,h];rfl
def oU{v:Nat}(h:(dQ fs)[v]?=some f):(aS fs xs b).getD v .non=dA xs b f:=by
 rw[List.getD_eq_getElem?_getD,P6 h];rfl
def aFg(h:v.d=.lst ds):aD (.enum 0) [.val v] U=some (bZ 0 ds,none):=by simp only[aD,h]
noncomputable def jB(lo hi:Int)(fs:List (Int×Int×Bool))(xs:List Int)(b:Int):List (List Int):=iV (fs.length+1) λj=>lH lo hi ((aS fs xs b).getD j .non)
def CU(hl:fs.length<=900) :
  run T W (n+4) "Range.broken" [.sh (.ins "Range" ["low","high"] [.int lo,.int hi]),.sh (aA no ba oc fs rs),~~~xs,.sh (.int b)]=some (.ok (.ow (.lst (aF (jB lo hi fs xs b)))),[.sh (.ins "Range" ["low","high"] [.int lo,.int hi]),.sh (aA no ba oc fs rs),~~~xs,.sh (.int b)]):=by
 rw[bO xS rfl rfl];unfold gK;have hc:run T W (n+3) "chord" _=some (.ok (.ow (.lst (aS fs xs b))),_):=lD (no:=no) (ba:=ba) (oc:=oc) (fs:=fs) (rs:=rs) (xs:=xs) (b:=b) (by omega);have iM:aD (.enum 0) [.val (.ow (.lst (aS fs xs b)))] [.sh (.ins "Range" ["low","high"] [.int lo,.int hi]),.sh (aA no ba oc fs rs),~~~xs,.sh (.int b)]=some (bZ 0 (aS fs xs b),none):=aFg rfl
 obtain⟨Ui,e,t2,t3,rfl,ht2,ht3⟩:=A8 (tests:=cR T.pins (run T W (n+3)) [.meth 0 "forbids" eQ [.var 3]]) (elt:=ev T.pins (run T W (n+3)) false iF) (bind:=aT false [2,3]) (ds:=bZ 0 (aS fs xs b))
  (λj=>lH lo hi ((aS fs xs b).getD j .non)) (λ(j:Nat)=>.tup [.int j])
  (λU=>∃(t2 t3:Sl),U=[.sh (.ins "Range" ["low","high"] [.int lo,.int hi]),.un,t2,t3]/\bE t2=true/\bE t3=true)
  (λj d hd U hU=>by
   obtain⟨t2,t3,rfl,ht2,ht3⟩:=hU
   have hj:j<(aS fs xs b).length:=by
    have:=(Zc.mp hd).1
    rwa[fI] at this
   have hg:=Zb hj;rw[mT hg,Int.zero_add] at hd;cases hd;generalize (aS fs xs b)[j]=x at hg;have hgd:(aS fs xs b).getD j .non=x:=by rw[List.getD_eq_getElem?_getD,hg];rfl
   have hk:=JM hg;have hf:=AH (W:=W) (n:=n+2) (lo:=lo) (hi:=hi) hk;refine⟨_,[.sh (.ins "Range" ["low","high"] [.int lo,.int hi]),.un,.sh (.int j),.sh x],by simp only[fA,aZ ht2,aZ ht3]<;>rfl, ?_,λ_=>?_,λ_=>?_⟩
   ·simp only[hgd]
    walk_at "!fO"
   ·refine⟨.sh (.tup [.int j]),[.sh (.ins "Range" ["low","high"] [.int lo,.int hi]),.un,.sh (.int j),.sh x], ?_,rfl,_,_,rfl,rfl,rfl⟩;unfold iF
    walk_at "!fO"
   ·exact⟨_,_,rfl,rfl,rfl⟩)
  [.sh (.ins "Range" ["low","high"] [.int lo,.int hi]),.un,.un,.un] ⟨_,_,rfl,rfl,rfl⟩
 rw[fI,i9,aBZ] at e;have hB:iV (fs.length+1) (λj=>lH lo hi ((aS fs xs b).getD j .non))=jB lo hi fs xs b:=rfl;rw[hB] at e
 have hsm:aJ (aF (jB lo hi fs xs b)).length=true:=cG (by
  have:=CW (n:=fs.length+1) (sel:=λj=>lH lo hi ((aS fs xs b).getD j .non)) (by omega)
  unfold aF jB;simp only[List.length_map]
  omega)
 walk_at "!fO"
 rw[cZ iM]
 walk_at "!fO"
noncomputable def eV(m v:Nat)(P:Nat->Nat->Bool):List (List Int):=((List.range m).filter λj=>P v (v+1+j)).map λ(j:Nat)=>[(v:Int),((v+1+j:Nat):Int)]
noncomputable def cA(n:Nat)(P:Nat->Nat->Bool):List (List Int):=(List.range n).flatMap λv=>eV (n-(v+1)) v P
def M9:eV (m+1) v P=eV m v P++(if P v (v+1+m)=true then [[(v:Int),((v+1+m:Nat):Int)]] else []):=by
 unfold eV;rw[List.range_succ,List.filter_append,List.map_append];congr 1;by_cases h:P v (v+1+m)=true
 ·simp[h]
 ·simp[h]
def VO(h:is∈eV m v P):is.length<=1000:=by
 obtain⟨j,_,rfl⟩:=zo.mp h;simp
def yZ(h:is∈cA n P):is.length<=1000:=by
 obtain⟨v,_,h⟩:=List.mem_flatMap.mp h;exact VO h
def BX:(eV m v P).length<=m:=by
 unfold eV;rw[List.length_map]
 have:=List.length_filter_le (λj=>P v (v+1+j)) (List.range m)
 simpa using this
def sW:(List.range (m+1)).flatMap (λv=>eV (n-(v+1)) v P)=(List.range m).flatMap (λv=>eV (n-(v+1)) v P)++eV (n-(m+1)) m P:=by
 rw[List.range_succ,List.flatMap_append];simp
theorem uC:∀(m:Nat),((List.range m).flatMap (λv=>eV (n-(v+1)) v P)).length<=m*n
 | 0=>by simp
 |m+1=>by(rw[sW,Za];have h1:=uC (n:=n) (P:=P) m;have h2:=BX (m:=n-(m+1)) (v:=m) (P:=P);rw[Nat.succ_mul];omega)
def lC(hn:n<=30):(cA n P).length<=1000:=by
 have h1:=uC (n:=n) (P:=P) n;have h2:n*n<=30*30:=Nat.mul_le_mul hn hn;unfold cA;omega
def y8:aF (a++b)=aF a++aF b:=by unfold aF;rw[List.map_append]
def gT:(aF a).length=a.length:=by unfold aF;rw[List.length_map]
def O1(E:List D->Sl->Sl->Env)(P:Nat->Nat->Bool)(n v:Nat)(acc:List (List Int))(ha:acc.length<=10000)(hn:n<=1000)
  (hb:∀(a:List D) (t:Sl) (d:D),bE t=true->aT true [iw] d (E a (.sh (.int v)) t)=some (E a (.sh (.int v)) (.sh d)))
  (hs:∀(a:List (List Int)) (w:Nat),v<w->w<n->a.length<=20000->body (E (aF a) (.sh (.int v)) (.sh (.int w)))=some (.nx,E (aF (a++(if P v w=true then [[(v:Int),(w:Int)]] else []))) (.sh (.int v)) (.sh (.int w)))) (t:Sl) (ht:bE t=true) :
  ∃t',cB (aT true [iw]) body ((List.range (n-(v+1))).map λ(j:Nat)=>.int ((v:Int)+1+(j:Int))) (E (aF acc) (.sh (.int v)) t)=some (.nx,E (aF (acc++eV (n-(v+1)) v P)) (.sh (.int v)) t')/\bE t'=true:=by
 obtain⟨U',e,t',rfl,ht'⟩:=b4 (bind:=aT true [iw]) (λpre U=>∃t',U=E (aF (acc++eV pre.length v P)) (.sh (.int v)) t'/\bE t'=true)
  (ds:=(List.range (n-(v+1))).map λ(j:Nat)=>.int ((v:Int)+1+(j:Int))) (λpre d post hds U hU=>by
   obtain⟨t',rfl,ht'⟩:=hU
   have hlen:pre.length<n-(v+1):=by
    have:=congrArg List.length hds
    simp at this;omega
   have hd:d=.int (((v+1+pre.length:Nat)):Int):=by
    have h1:((List.range (n-(v+1))).map λ(j:Nat)=>D.int ((v:Int)+1+(j:Int)))[pre.length]?=some d:=by rw[hds];simp
    rw[Zh,List.getElem?_range hlen] at h1;simp only[Option.map_some,Option.some.injEq] at h1;rw[<- h1];congr 1
   subst hd;refine⟨_,hb _ _ _ ht',_,hs _ (v+1+pre.length) (by omega) (by omega) ?_,.sh (.int ((v+1+pre.length:Nat):Int)), ?_,rfl⟩
   ·have:=BX (m:=pre.length) (v:=v) (P:=P)
    rw[Za];omega
   ·rw[Za,Zk,List.length_nil,M9,List.append_assoc])
  (U:=E (aF acc) (.sh (.int v)) t) ⟨t,by simp[eV],ht⟩
 refine⟨t', ?_,ht'⟩;rw[e];simp
def HF(E:List D->Sl->Sl->Env)(P:Nat->Nat->Bool)(n:Nat)(hn:n<=30)
  (hb:∀(a:List D) (t t2:Sl) (d:D),bE t=true->aT true [iv] d (E a t t2)=some (E a (.sh d) t2))
  (hs:∀(acc:List (List Int)) (v:Nat) (t:Sl),v<n->acc.length<=10000->bE t=true->∃t',body (E (aF acc) (.sh (.int v)) t)=some (.nx,E (aF (acc++eV (n-(v+1)) v P)) (.sh (.int v)) t')/\bE t'=true) (t t2:Sl) (ht:bE t=true) (ht2:bE t2=true) :
  ∃t' t2',cB (aT true [iv]) body (rg n) (E [] t t2)=some (.nx,E (aF (cA n P)) t' t2')/\bE t'=true/\bE t2'=true:=by
 obtain⟨U',e,t',t2',rfl,ht',ht2'⟩:=b4 (bind:=aT true [iv]) (λpre U=>∃t' t2',U=E (aF ((List.range pre.length).flatMap λv=>eV (n-(v+1)) v P)) t' t2'/\bE t'=true/\bE t2'=true)
  (ds:=rg n) (λpre d post hds U hU=>by
   obtain⟨t',t2',rfl,ht',ht2'⟩:=hU
   have hlen:pre.length<n:=by
    have:=congrArg List.length hds
    simp at this;omega
   have hd:d=.int ((pre.length:Nat):Int):=by
    have h1:(rg n)[pre.length]?=some d:=by rw[hds];simp
    rw[Zh,List.getElem?_range hlen] at h1;simp only[Option.map_some,Option.some.injEq] at h1;exact h1.symm
   subst hd
   obtain⟨t3,h3,h4⟩:=hs ((List.range pre.length).flatMap λv=>eV (n-(v+1)) v P) pre.length t2' hlen (by
    have h1:=uC (n:=n) (P:=P) pre.length;have h2:pre.length*n<=30*30:=Nat.mul_le_mul (by omega) hn
    omega) ht2'
   refine⟨_,hb _ _ _ _ ht',_,h3,.sh (.int ((pre.length:Nat):Int)),_, ?_,rfl,h4⟩
   rw[Za,Zk,List.length_nil,sW])
  (U:=E [] t t2) ⟨t,t2,by simp[aF],ht,ht2⟩
 refine⟨t',t2', ?_,ht',ht2'⟩;rw[e];unfold cA;simp
noncomputable def sP:D->Bool
 |.non=>true
 |_=>false
noncomputable def cX(hs:List D)(v w:Nat):Bool:=!sP (hs.getD v .non) && !sP (hs.getD w .non)
def J0(hs:List D):Prop:=∀d∈hs,d=.non\/∃i,d=.int i
def qK:J0 (aS fs xs b):=λd hd=>by
 obtain⟨f,_,rfl⟩:=zo.mp hd;exact mE
def i7(h:J0 hs)(hv:v<hs.length):∃d,L2.cP hs (v:Int)=some d/\hs.getD v .non=d/\(d=.non\/∃i,d=.int i):=by
 refine⟨hs[v],L2.fE (Zb hv), ?_,h _ (List.getElem_mem hv)⟩;rw[List.getD_eq_getElem?_getD,Zb hv];rfl
def pD(hh:J0 hs)(hl:hs.length<=30) :
  run T W (n+1) "sounding_pairs" [.p (.lst hs)]=some (.ok (.ow (.lst (aF (cA hs.length (cX hs))))),[.p (.lst hs)]):=by
 rw[bO tX rfl rfl];unfold fB
 have hi:aD .rng [.val (.sh (.int hs.length))] [.p (.lst hs),.o (.lst []),.un,.un]=some (rg hs.length,none):=by(refine Eq.trans (mV (n:=(hs.length:Int)) rfl (by omega) (by omega)) ?_;rw[Int.toNat_natCast])
 obtain⟨t',t2',e,ht',ht2'⟩:=HF (iv:=2) (body:=exs T.pins (run T W n) W gE) (λa t t2=>[.p (.lst hs),.o (.lst a),t,t2]) (cX hs) hs.length hl
  (λa t t2 d ht=>by simp only[fA,aZ ht])
  (λacc v t hv hac ht=>by
   have iM:aD .rng [.val (.sh (.int ((v:Int)+1))),.val (.sh (.int hs.length))] [.p (.lst hs),.o (.lst (aF acc)),.sh (.int v),t]=some ((List.range (hs.length-(v+1))).map λ(j:Nat)=>.int ((v:Int)+1+(j:Int)),none):=by(refine Eq.trans (S8 (m:=(v:Int)+1) (n:=(hs.length:Int)) rfl rfl (by omega) (by omega)) ?_;rw[show((hs.length:Int)-((v:Int)+1)).toNat=hs.length-(v+1) from by omega])
   obtain⟨t3,e3,h3⟩:=O1 (iw:=3) (body:=exs T.pins (run T W n) W gC) (λa t t2=>[.p (.lst hs),.o (.lst a),t,t2]) (cX hs) hs.length v acc hac (by omega)
    (λa t d ht=>by simp only[fA,aZ ht])
    (λa w hvw hw hal=>by
     obtain⟨d1,a1,g1,k1⟩:=i7 hh hv;obtain⟨d2,a2,g2,k2⟩:=i7 hh hw;have hsm:aJ ((aF a).length+1)=true:=cG (by rw[gT];omega);unfold gC cX;rw[g1,g2];rcases k1 with rfl | ⟨i1,rfl⟩
     ·have e:sP .non=true:=rfl
      walk_at "!%"
      all_goals (try simp only[List.append_nil])
     ·have e1:sP (.int i1)=false:=rfl;rcases k2 with rfl | ⟨i2,rfl⟩
      ·have e:sP .non=true:=rfl
       walk_at "!%"
       all_goals (try simp only[List.append_nil])
      ·have e:sP (.int i2)=false:=rfl;have et:aF (a++[[(v:Int),(w:Int)]])=aF a++[.tup [.int v,.int w]]:=by rw[y8];rfl
       walk_at "!%") t ht
   refine⟨t3, ?_,h3⟩;unfold gE
   walk_at "!%") .un .un rfl rfl
 walk_at "!%"
noncomputable def gG(i:Int):Int:=if i<0 then -i else i
theorem jG:(if i<0 then -i else i)=gG i:=rfl
noncomputable def gx(xs:List Int)(i:Nat):Int:=xs.getD i 0
def rL{xs:List Int}(h:k<xs.length):L2.cP (xs.map D.int) (k:Int)=some (.int (gx xs k)):=uO h
def uF(h:k<xs.length):gx xs k∈xs:=by
 unfold gx;rw[List.getD_eq_getElem?_getD,Zb h];simp
noncomputable def dD(c:Bool):List (List Int):=if c=true then [[]] else []
def yA(h:is∈dD c):is.length<=1000:=by
 cases c
 ·cases h
 ·rw[ze.mp h];decide
def tY:(dD c).length<=1000:=by cases c<;>decide
noncomputable def oX(mo:Int)(xs:List Int):Nat->Bool
 | 0=>false
 |b+1=>decide (mo<gG (gx xs (b+1)-gx xs b))
def D4{b:Nat}(hb:b<xs.length) :
  run T W (n+1) "Leap.broken" [.sh (.ins "Leap" ["most"] [.int mo]),.sh h,~~~xs,.sh (.int b)]=some (.ok (.ow (.lst (aF (dD (oX mo xs b))))),[.sh (.ins "Leap" ["most"] [.int mo]),.sh h,~~~xs,.sh (.int b)]):=by
 rw[bO AB rfl rfl];unfold iB
 match b,hb with
 | 0,hb =>
  have e:aF (dD (oX mo xs 0))=[]:=rfl;have c:decide (0<((0:Nat):Int))=false:=rfl
  walk_at "!kQ % jG"
 |b+1,hb =>
  have c:decide (0<((b+1:Nat):Int))=true:=Zn (by omega);have i1:((b+1:Nat):Int)-1=((b:Nat):Int):=by omega
  have a0:=rL (xs:=xs) (k:=b) (by omega);have a1:=rL (k:=b+1) (by omega);have ev:oX mo xs (b+1)=decide (mo<gG (gx xs (b+1)-gx xs b)):=rfl;cases c1:decide (mo<gG (gx xs (b+1)-gx xs b))
  ·have e:aF (dD (oX mo xs (b+1)))=[]:=by rw[ev,c1];rfl
   clear ev
   walk_at "!kQ % jG"
  ·have e:aF (dD (oX mo xs (b+1)))=[.tup []]:=by rw[ev,c1];rfl
   clear ev
   walk_at "!kQ % jG"
noncomputable def wQ(m:Nat)(xs:List Int)(b:Nat):List Int:=(xs.drop (b-m)).take m
noncomputable def jN(m:Nat)(xs:List Int)(b:Nat):Bool:=decide ((m:Int)<=(b:Int))&&(wQ m xs b).all λz=>decide (z=gx xs b)
def XI{xs:List Int}(h:m<=b)(hb:b<=e)(he:e<=xs.length):MV (some (.lst (xs.map D.int))) (some (.int ((b:Int)-(m:Int)))) (some (.int e))=some (.ow (.lst (((xs.drop (b-m)).take (m+(e-b))).map D.int))):=by
 have e1:(b:Int)-(m:Int)=((b-m:Nat):Int):=by omega
 show some (RV.ow (.lst (wM (xs.map D.int) (some ((b:Int)-(m:Int))) (some (e:Int)))))=_;rw[e1];unfold wM;rw[HT.ET,HT.ET,List.length_map,Nat.min_eq_left (by omega),Nat.min_eq_left (by omega),<- List.map_drop,<- List.map_take,show e-(b-m)=m+(e-b) from by omega]
def dB{Z:List Int}:nL .all [.lst (Z.map λz=>.bl (p z))]=some (.sh (.bl (Z.all p))):=by
 have h:gY (Z.map λz=>.bl (p z))=some (Z.map p):=by
  induction Z with
  |nil=>rfl
  |cons z Z ih=>simp[gY,ih]
 show(gY _).map _=_;rw[h];simp[List.all_map]
def DJ{m:Nat}{h:D}{xs:List Int}{b:Nat}(hb:b<xs.length)(hm:m<=3) :
  run T W (n+1) "Again.broken" [.sh (.ins "Again" ["most"] [.int m]),.sh h,~~~xs,.sh (.int b)]=some (.ok (.ow (.lst (aF (dD (jN m xs b))))),[.sh (.ins "Again" ["most"] [.int m]),.sh h,~~~xs,.sh (.int b)]):=by
 rw[bO xV rfl rfl];unfold gR;by_cases c:(b:Int)<(m:Int)
 ·have c':decide ((b:Int)<(m:Int))=true:=Zn c
  have e:aF (dD (jN m xs b))=[]:=by(unfold jN;rw[Zm (by omega)];rfl)
  walk_at "!eD dB %"
 ·have c':decide ((b:Int)<(m:Int))=false:=Zm c;have hs:=XI (xs:=xs) (m:=m) (e:=b) (by omega) (Zq _) (by omega);rw[Nat.sub_self,Nat.add_zero] at hs;have hZ:((xs.drop (b-m)).take m)=wQ m xs b:=rfl;rw[hZ] at hs
  have hv:jN m xs b=(wQ m xs b).all λz=>decide (z=gx xs b):=by(unfold jN;rw[Zn (by omega),Bool.true_and])
  have hzl:(wQ m xs b).length<=3:=by unfold wQ;rw[List.length_take];omega
  have a0:=rL (k:=b) hb
  generalize wQ m xs b=Z at *
  have hi:aD .of [.val (.ow (.lst (Z.map D.int)))] [.sh (.ins "Again" ["most"] [.int m]),.sh h,~~~xs,.sh (.int b)]=some (Z.map D.int,none):=AK rfl
  obtain⟨acc,Ui,e,⟨t4,rfl,ht4,rfl⟩,hz⟩:=gX (tests:=cR T.pins (run T W n) []) (elt:=ev T.pins (run T W n) false iG) (bind:=aT true [3]) (ds:=Z.map D.int)
   (λj acc U=>∃(t4:Sl),U=[.sh (.int b),~~~xs,.un,t4]/\bE t4=true/\acc=(Z.take j).map λz=>.bl (decide (z=gx xs b)))
   (λj d hd acc U hU=>by
    obtain⟨t4,rfl,ht4,rfl⟩:=hU;obtain⟨z,hz,rfl⟩:∃z,Z[j]?=some z/\D.int z=d:=by simpa using hd
    refine⟨_,true,_,by simp only[fA,aZ ht4]<;>rfl,jT,λ_=>?_,λz=>nomatch z⟩;refine⟨.sh (.bl (decide (z=gx xs b))),[.sh (.int b),~~~xs,.un,.sh (.int z)], ?_,_,rfl,rfl, ?_⟩
    ·unfold iG
     walk_at "!eD dB %"
    ·rw[List.take_succ,hz,List.map_append]
     rfl)
   [] [.sh (.int b),~~~xs,.un,.un] ⟨_,rfl,rfl,rfl⟩
  have ht:Z.take (Z.map D.int).length=Z:=by(rw[zf];simp)
  rw[ht] at e;have hsm:aJ (Z.map λz=>D.bl (decide (z=gx xs b))).length=true:=cG (by simp;omega);have hsm2:aJ Z.length=true:=cG (by omega);cases c1:Z.all λz=>decide (z=gx xs b)
  ·have e2:aF (dD (jN m xs b))=[]:=by rw[hv,c1];rfl
   clear hv
   walk_at "!eD dB %"
   rw[cZ hi]
   walk_at "!eD dB %"
  ·have e2:aF (dD (jN m xs b))=[.tup []]:=by rw[hv,c1];rfl
   clear hv
   walk_at "!eD dB %"
   rw[cZ hi]
   walk_at "!eD dB %"
def A5:run T W (n+1) "rule_of" [.sh (.tup [.str "leap",a])]=some (.ok (.sh (.ins "Leap" ["most"] [a])),[.sh (.tup [.str "leap",a])]):=by
 rw[bO gU rfl rfl];unfold dJ
 walk_at "!lS"
def AE:run T W (n+1) "rule_of" [.sh (.tup [.str "again",a])]=some (.ok (.sh (.ins "Again" ["most"] [a])),[.sh (.tup [.str "again",a])]):=by
 rw[bO gU rfl rfl];unfold dJ
 walk_at "!lS"
noncomputable def kA(lp mo:Int)(xs:List Int):Nat->Bool
 | 0=>false
 | 1=>false
 |b+2=>decide (lp<=gG (gx xs (b+1)-gx xs b)) && !(decide ((gx xs (b+1)-gx xs b)*(gx xs (b+2)-gx xs (b+1))<0)&&decide (gG (gx xs (b+2)-gx xs (b+1))<=mo))
def EI{b:Nat}(hb:b<xs.length)(hx:∀x∈xs,0<=x/\x<100) :
  run T W (n+1) "Back.broken" [.sh (.ins "Back" ["leap","most"] [.int lp,.int mo]),.sh h,~~~xs,.sh (.int b)]=some (.ok (.ow (.lst (aF (dD (kA lp mo xs b))))),[.sh (.ins "Back" ["leap","most"] [.int lp,.int mo]),.sh h,~~~xs,.sh (.int b)]):=by
 rw[bO zV rfl rfl];unfold iA
 match b,hb with
 | 0,hb =>
  have e:aF (dD (kA lp mo xs 0))=[]:=rfl;have c:decide (((0:Nat):Int)<2)=true:=rfl
  walk_at "!eO eM % jG"
 | 1,hb =>
  have e:aF (dD (kA lp mo xs 1))=[]:=rfl;have c:decide (((1:Nat):Int)<2)=true:=rfl
  walk_at "!eO eM % jG"
 |b+2,hb =>
  have c:decide (((b+2:Nat):Int)<2)=false:=Zm (by omega);have i1:((b+2:Nat):Int)-1=((b+1:Nat):Int):=by omega
  have i2:((b+2:Nat):Int)-2=((b:Nat):Int):=by omega
  have a0:=rL (xs:=xs) (k:=b) (by omega);have a1:=rL (xs:=xs) (k:=b+1) (by omega);have a2:=rL (xs:=xs) (k:=b+2) (by omega);have x0:=hx _ (uF (xs:=xs) (k:=b) (by omega));have x1:=hx _ (uF (k:=b+1) (by omega));have x2:=hx _ (uF (k:=b+2) (by omega));have ev:kA lp mo xs (b+2)=(decide (lp<=gG (gx xs (b+1)-gx xs b)) && !(decide ((gx xs (b+1)-gx xs b)*(gx xs (b+2)-gx xs (b+1))<0)&&decide (gG (gx xs (b+2)-gx xs (b+1))<=mo))):=rfl
  generalize gx xs b=p0 at *
  generalize gx xs (b+1)=p1 at *
  generalize gx xs (b+2)=p2 at *
  have m1:-18446744073709551616<p1-p0:=by omega
  have m2:p1-p0<18446744073709551616:=by omega
  clear hx hb x0 x1 x2;by_cases c1:gG (p1-p0)<lp
  ·have c1':decide (gG (p1-p0)<lp)=true:=Zn c1;have c1'':decide (lp<=gG (p1-p0))=false:=Zm (by omega);have e:aF (dD (kA lp mo xs (b+2)))=[]:=by rw[ev,c1''];rfl
   clear ev c1
   walk_at "!eO eM % jG"
  ·have c1':decide (gG (p1-p0)<lp)=false:=Zm c1;have c1'':decide (lp<=gG (p1-p0))=true:=Zn (by omega);by_cases c2:(p1-p0)*(p2-p1)<0
   ·have c2':decide ((p1-p0)*(p2-p1)<0)=true:=Zn c2;by_cases c3:gG (p2-p1)<=mo
    ·have c3':decide (gG (p2-p1)<=mo)=true:=Zn c3;have e:aF (dD (kA lp mo xs (b+2)))=[]:=by rw[ev,c1'',c2',c3'];rfl
     clear ev c1 c2 c3
     walk_at "!eO eM % jG"
    ·have c3':decide (gG (p2-p1)<=mo)=false:=Zm c3;have e:aF (dD (kA lp mo xs (b+2)))=[.tup []]:=by rw[ev,c1'',c2',c3'];rfl
     clear ev c1 c2 c3
     walk_at "!eO eM % jG"
   ·have c2':decide ((p1-p0)*(p2-p1)<0)=false:=Zm c2;have e:aF (dD (kA lp mo xs (b+2)))=[.tup []]:=by rw[ev,c1'',c2'];rfl
    clear ev c1 c2
    walk_at "!eO eM % jG"
def BF:run T W (n+1) "rule_of" [.sh (.tup [.str "back",a,b])]=some (.ok (.sh (.ins "Back" ["leap","most"] [a,b])),[.sh (.tup [.str "back",a,b])]):=by
 rw[bO gU rfl rfl];unfold dJ
 walk_at "!lS"
def AF:run T W (n+1) "rule_of" [.sh (.tup [.str "range",a,b])]=some (.ok (.sh (.ins "Range" ["low","high"] [a,b])),[.sh (.tup [.str "range",a,b])]):=by
 rw[bO gU rfl rfl];unfold dJ
 walk_at "!lS"
noncomputable def kH:D->D->Bool
 |.int i,.int j=>decide (i<j)
 |_,_=>false
noncomputable def twoD(c:Bool)(a b:Int):List (List Int):=if c=true then [[a,b]] else []
def twoD_in(h:is∈twoD c a b):is.length<=1000:=by
 cases c
 ·cases h
 ·rw[ze.mp h];simp
def twoD_len:(twoD c a b).length<=1000:=by cases c<;>simp[twoD]
noncomputable def nP(fs:List (Int×Int×Bool))(xs:List Int)(b:Int)(v w:Nat):List (List Int):=twoD (kH ((aS fs xs b).getD v .non) ((aS fs xs b).getD w .non)) (v:Int) (w:Int)
def DG{W n:Nat}{no ba oc:Int}{fs:List (Int×Int×Bool)}{rs:List D}{xs:List Int}{b:Int}{v w:Nat}(hv:v<fs.length+1)(hw:w<fs.length+1) :
  run T W (n+3) "Above.broken" [.sh (.ins "Above" ["one","other"] [.int v,.int w]),.sh (aA no ba oc fs rs),~~~xs,.sh (.int b)]=some (.ok (.ow (.lst (aF (nP fs xs b v w)))),[.sh (.ins "Above" ["one","other"] [.int v,.int w]),.sh (aA no ba oc fs rs),~~~xs,.sh (.int b)]):=by
 rw[bO yB rfl rfl];unfold gQ;obtain⟨f,hf⟩:∃f,(dQ fs)[v]?=some f:=⟨_,Zb (by simp;omega)⟩
 obtain⟨g,hg⟩:∃g,(dQ fs)[w]?=some g:=⟨_,Zb (by simp;omega)⟩
 have h1:=qH (W:=W) (n:=n) (no:=no) (ba:=ba) (oc:=oc) (rs:=rs) (xs:=xs) (b:=b) (p:=true) hf;have h2:=qH (W:=W) (n:=n) (no:=no) (ba:=ba) (oc:=oc) (rs:=rs) (xs:=xs) (b:=b) (p:=true) hg;unfold nP;rw[oU hf,oU hg];have k1:=mE (xs:=xs) (b:=b) (f:=f);have k2:=mE (xs:=xs) (b:=b) (f:=g)
 generalize dA xs b f=d1 at *
 generalize dA xs b g=d2 at *
 clear hf hg hv hw;rcases k1 with rfl | ⟨i,rfl⟩
 ·have e:aF (twoD (kH .non d2) (v:Int) (w:Int))=[]:=rfl
  walk_at "!iP gP"
 ·rcases k2 with rfl | ⟨j,rfl⟩
  ·have e:aF (twoD (kH (.int i) .non) (v:Int) (w:Int))=[]:=rfl
   walk_at "!iP gP"
  ·by_cases c:i<j
   ·have c':decide (j<=i)=false:=Zm (by omega)
    have e:aF (twoD (kH (.int i) (.int j)) (v:Int) (w:Int))=[.tup [.int v,.int w]]:=by(unfold kH;simp only;rw[Zn c];rfl)
    clear c
    walk_at "!iP gP"
   ·have c':decide (j<=i)=true:=Zn (by omega)
    have e:aF (twoD (kH (.int i) (.int j)) (v:Int) (w:Int))=[]:=by(unfold kH;simp only;rw[Zm c];rfl)
    clear c
    walk_at "!iP gP"
def zW:run T W (n+1) "rule_of" [.sh (.tup [.str "above",a,b])]=some (.ok (.sh (.ins "Above" ["one","other"] [a,b])),[.sh (.tup [.str "above",a,b])]):=by
 rw[bO gU rfl rfl];unfold dJ
 walk_at "!lS"
def JP(L:List J)(d:J)(f:J->Bool)(g:J->N):((List.range L.length).filter λj=>f (L.getD j d)).map (λj=>g (L.getD j d))=(L.filter f).map g:=by
 have h:L=(List.range L.length).map λj=>L.getD j d:=by
  apply List.ext_getElem?
  intro i;rw[Zh];by_cases hi:i<L.length
  ·rw[List.getElem?_range hi,Zb hi];simp[hi]
  ·rw[List.getElem?_eq_none (by omega),List.getElem?_eq_none (by simp;omega)];rfl
 have h2:(L.filter f).map g=(((List.range L.length).map λj=>L.getD j d).filter f).map g:=congrArg (λl=>(l.filter f).map g) h;rw[h2,List.filter_map,List.map_map];rfl
def RM{n m v:Nat}{P Q:Nat->Nat->Bool}{R:List Int->Bool}(hR:∀w:Nat,R [(v:Int),(w:Int)]=Q v w):(eV m v P).filter R=eV m v λv w=>P v w&&Q v w:=by
 unfold eV;rw[List.filter_map,List.filter_filter];congr 1
 apply List.filter_congr
 intro j _;simp only[Function.comp,hR,Bool.and_comm]
def oP{n:Nat}{P Q:Nat->Nat->Bool}{R:List Int->Bool}(hR:∀v w:Nat,R [(v:Int),(w:Int)]=Q v w):(cA n P).filter R=cA n λv w=>P v w&&Q v w:=by
 unfold cA;rw[List.filter_flatMap];congr 1
 funext v
 exact RM (n:=n) (hR v)
noncomputable def jW:D->Int
 |.int i=>i
 |_=>0
noncomputable def d6(oc a b:Int):Int:=gG (a-b) % oc
def eC(ho:0<oc):run T W (n+1) "span" [.sh (.int oc),.sh (.int a),.sh (.int b)]=some (.ok (.sh (.int (d6 oc a b))),[.sh (.int oc),.sh (.int a),.sh (.int b)]):=by
 rw[bO Z5 rfl rfl];unfold rM d6
 walk_at "!jG"
noncomputable def rP(sp s:Int):Bool:=decide (sp / 2 ^ s.toNat % 2=0)
def VB(h:0<=sp):decide (PySem.Builtin.bitAnd (sp / 2 ^ s.toNat) 1=0)=rP sp s:=by
 have hq:0<=sp / 2 ^ s.toNat:=Int.ediv_nonneg h (by exact Int.le_of_lt (Int.pow_pos (by decide)));unfold rP;rw[PyProof.Rows.bitAnd_pp hq (by decide)];have e1:(1:Int).toNat=1:=rfl;rw[e1,Nat.and_one_is_mod];have e2:(((sp / 2 ^ s.toNat).toNat % 2:Nat):Int)=sp / 2 ^ s.toNat % 2:=by omega
 rw[e2]
def DH(h:0<=sp)(hs:0<=s):run T W (n+1) "Span.forbids" [.sh (.ins "Span" ["beat","spans"] [.int be,.int sp]),.sh (.int s)]=some (.ok (.sh (.bl (rP sp s))),[.sh (.ins "Span" ["beat","spans"] [.int be,.int sp]),.sh (.int s)]):=by
 rw[bO wU rfl rfl];unfold gL;have e:=VB (s:=s) h
 walk_at "!eN eF jG"
noncomputable def q0(oc sp:Int)(hs:List D)(v w:Nat):Bool:=rP sp (d6 oc (jW (hs.getD v .non)) (jW (hs.getD w .non)))
noncomputable def iT(oc sp:Int)(hs:List D):List Int->Bool
 |[v,w]=>rP sp (d6 oc (jW (hs.getD v.toNat .non)) (jW (hs.getD w.toNat .non)))
 |_=>false
noncomputable def dZ(be sp ba oc:Int)(fs:List (Int×Int×Bool))(xs:List Int)(b:Int):List (List Int):=if b % ba=be then cA (fs.length+1) (λv w=>cX (aS fs xs b) v w&&q0 oc sp (aS fs xs b) v w) else []
def mS(h:is∈cA n P):∃v w:Nat,is=[(v:Int),(w:Int)]/\v<n/\w<n/\v<w/\P v w=true:=by
 obtain⟨v,hv,h⟩:=List.mem_flatMap.mp h;have hv:=List.mem_range.mp hv;obtain⟨j,hj,rfl⟩:=zo.mp h;obtain⟨hj,hp⟩:=List.mem_filter.mp hj;have hj:=List.mem_range.mp hj;exact⟨v,v+1+j,rfl,hv,by omega,by omega,hp⟩
def EM(hl:fs.length<=20)(hsp:0<=sp)(hba:0<ba)(hoc:0<oc) :
  run T W (n+4) "Span.broken" [.sh (.ins "Span" ["beat","spans"] [.int be,.int sp]),.sh (aA no ba oc fs rs),~~~xs,.sh (.int b)]=some (.ok (.ow (.lst (aF (dZ be sp ba oc fs xs b)))),[.sh (.ins "Span" ["beat","spans"] [.int be,.int sp]),.sh (aA no ba oc fs rs),~~~xs,.sh (.int b)]):=by
 rw[bO zP rfl rfl];unfold iC;by_cases c:b % ba=be
 ·have c':decide (b % ba=be)=true:=Zn c;have hc:run T W (n+3) "chord" _=some (.ok (.ow (.lst (aS fs xs b))),_):=lD (no:=no) (ba:=ba) (oc:=oc) (fs:=fs) (rs:=rs) (xs:=xs) (b:=b) (by omega);have hhr:=qK (fs:=fs) (xs:=xs) (b:=b);have hln:=i9 (fs:=fs) (xs:=xs) (b:=b);have hso:=pD (W:=W) (n:=n+2) hhr (by omega);rw[hln] at hso
  have hB:dZ be sp ba oc fs xs b=(cA (fs.length+1) (cX (aS fs xs b))).filter (iT oc sp (aS fs xs b)):=by(unfold dZ;rw[Zo c,oP (Q:=q0 oc sp (aS fs xs b))];intro v w;rfl)
  generalize aS fs xs b=hs at *
  obtain⟨L,hL⟩:∃L,L=cA (fs.length+1) (cX hs):=⟨_,rfl⟩
  have hLm:∀is∈L,∃v w:Nat,is=[(v:Int),(w:Int)]/\v<hs.length/\w<hs.length/\cX hs v w=true:=λis his=>by(rw[hL] at his;obtain⟨v,w,h1,h2,h3,_,h4⟩:=mS his;exact⟨v,w,h1,by omega,by omega,h4⟩)
  have hLl:L.length<=1000:=by rw[hL];exact lC (by omega)
  rw[<- hL] at hso hB;have iM:aD .of [.val (.ow (.lst (aF L)))] [.sh (.ins "Span" ["beat","spans"] [.int be,.int sp]),.sh (aA no ba oc fs rs),~~~xs,.sh (.int b),.sh (.int oc),.o (.lst hs)]=some (aF L,none):=AK rfl
  obtain⟨Ui,e,t4,t5,rfl,ht4,ht5⟩:=A8 (tests:=cR T.pins (run T W (n+3)) [.meth 2 "forbids" eQ [.call "span" [.var 1,.ix (.var 0) (.var 4),.ix (.var 0) (.var 5)]]]) (elt:=ev T.pins (run T W (n+3)) false iW) (bind:=aT false [4,5]) (ds:=aF L)
   (λj=>iT oc sp hs (L.getD j [])) (λj=>.tup ((L.getD j []).map D.int))
   (λU=>∃(t4 t5:Sl),U=[.p (.lst hs),.sh (.int oc),.sh (.ins "Span" ["beat","spans"] [.int be,.int sp]),.un,t4,t5]/\bE t4=true/\bE t5=true)
   (λj d hd U hU=>by
    obtain⟨t4,t5,rfl,ht4,ht5⟩:=hU
    have hj:j<L.length:=by
     have:=(Zc.mp hd).1
     rwa[gT] at this
    have hg:=Zb hj
    have hd2:d=.tup (L[j].map D.int):=by(unfold aF at hd;rw[Zh,hg] at hd;exact(Option.some.inj hd).symm)
    have hgd:L.getD j []=L[j]:=by rw[List.getD_eq_getElem?_getD,hg];rfl
    obtain⟨v,w,h1,hv,hw,hso⟩:=hLm L[j] (List.getElem_mem hj);rw[h1] at hd2 hgd;subst hd2;obtain⟨d1,a1,g1,k1⟩:=i7 hhr hv;obtain⟨d2,a2,g2,k2⟩:=i7 hhr hw;unfold cX at hso;rw[g1,g2,ZB] at hso
    obtain⟨i1,rfl⟩:∃i,d1=.int i:=by
     rcases k1 with rfl | k1
     ·exact absurd hso.1 (by decide)
     ·exact k1
    obtain⟨i2,rfl⟩:∃i,d2=.int i:=by
     rcases k2 with rfl | k2
     ·exact absurd hso.2 (by decide)
     ·exact k2
    have hs0:0<=d6 oc i1 i2:=Int.emod_nonneg _ (by omega);have hfb:=DH (W:=W) (n:=n+2) (be:=be) hsp hs0
    have hbad:iT oc sp hs [(v:Int),(w:Int)]=rP sp (d6 oc i1 i2):=by(unfold iT;simp only[Int.toNat_natCast,g1,g2];rfl)
    refine⟨_,[.p (.lst hs),.sh (.int oc),.sh (.ins "Span" ["beat","spans"] [.int be,.int sp]),.un,.sh (.int v),.sh (.int w)],by simp only[Zs,List.map_nil,fA,aZ ht4,aZ ht5]<;>rfl, ?_,λ_=>?_,λ_=>?_⟩
    ·simp only[hgd,hbad];clear hd hj hg hgd hbad h1 hv hw hso hLm hLl iM hB hL hc hhr hln k1 k2 g1 g2 ht4 ht5 hl hsp hba c hs0
     walk_at "!eR eC eN eF"
    ·refine⟨.sh (.tup [.int v,.int w]),[.p (.lst hs),.sh (.int oc),.sh (.ins "Span" ["beat","spans"] [.int be,.int sp]),.un,.sh (.int v),.sh (.int w)], ?_,by rw[hgd];rfl,_,_,rfl,rfl,rfl⟩;unfold iW;clear hd hj hg hgd hbad h1 hv hw hso hLm hLl iM hB hL hc hhr hln k1 k2 g1 g2 ht4 ht5 hl hsp hba c hs0 hfb a1 a2
     walk_at "!eR eC eN eF"
    ·exact⟨_,_,rfl,rfl,rfl⟩)
   [.p (.lst hs),.sh (.int oc),.sh (.ins "Span" ["beat","spans"] [.int be,.int sp]),.un,.un,.un] ⟨_,_,rfl,rfl,rfl⟩
  rw[gT,JP L [] (iT oc sp hs) (λis=>D.tup (is.map D.int))] at e;have hB2:(L.filter (iT oc sp hs)).map (λis=>D.tup (is.map D.int))=aF (dZ be sp ba oc fs xs b):=by rw[hB];rfl
  rw[hB2] at e
  have hsm:aJ (aF (dZ be sp ba oc fs xs b)).length=true:=cG (by
   rw[gT,hB]
   have:=List.length_filter_le (iT oc sp hs) L
   omega)
  clear hl ht4 ht5 hB hB2 hLm hLl hL hhr hln hsp c
  walk_at "!eR eC eN eF"
  rw[cZ iM]
  walk_at "!eR eC eN eF"
 ·have c':decide (b % ba=be)=false:=Zm c;have e:dZ be sp ba oc fs xs b=[]:=Zp c;have e2:aF []=[]:=rfl;clear c hl
  walk_at "!eR eC eN eF"
def DL:run T W (n+1) "rule_of" [.sh (.tup [.str "span",a,b])]=some (.ok (.sh (.ins "Span" ["beat","spans"] [a,b])),[.sh (.tup [.str "span",a,b])]):=by
 rw[bO gU rfl rfl];unfold dJ
 walk_at "!lS"
def N3(h:is∈dZ be sp ba oc fs xs b):is.length<=1000:=by
 unfold dZ at h;split at h
 ·exact yZ h
 ·cases h
def M3(hl:fs.length<=20):(dZ be sp ba oc fs xs b).length<=1000:=by
 unfold dZ;split
 ·exact lC (by omega)
 ·simp
def J3(E:List D->Sl->Sl->Env)(R:List Int->Bool)(L:List (List Int))(hL:L.length<=1000)
  (hb:∀(a:List D) (t t2 d d2:_),bE t=true->bE t2=true->aT false [iv,iw] (.tup [d,d2]) (E a t t2)=some (E a (.sh d) (.sh d2)))
  (hp:∀is∈L,∃v w:Nat,is=[(v:Int),(w:Int)])
  (hs:∀(a:List (List Int)) (v w:Nat),[(v:Int),(w:Int)]∈L->a.length<=2000->body (E (aF a) (.sh (.int v)) (.sh (.int w)))=some (.nx,E (aF (a++(if R [(v:Int),(w:Int)]=true then [[(v:Int),(w:Int)]] else []))) (.sh (.int v)) (.sh (.int w)))) (t t2:Sl) (ht:bE t=true) (ht2:bE t2=true) :
  ∃t' t2',cB (aT false [iv,iw]) body (aF L) (E [] t t2)=some (.nx,E (aF (L.filter R)) t' t2')/\bE t'=true/\bE t2'=true:=by
 have key:∀(M:List (List Int)) (acc:List (List Int)) (t t2:Sl),(∀is∈M,is∈L)->acc.length+M.length<=2000->bE t=true->bE t2=true->∃t' t2',cB (aT false [iv,iw]) body (aF M) (E (aF acc) t t2)=some (.nx,E (aF (acc++M.filter R)) t' t2')/\bE t'=true/\bE t2'=true:=by
  intro M
  induction M with
  |nil=>intro acc t t2 _ _ h1 h2;exact⟨t,t2,by simp[aF,cB],h1,h2⟩
  |cons is M ih =>
   intro acc t t2 hM hl h1 h2;obtain⟨v,w,rfl⟩:=hp is (hM is (by simp));have e1:aF ([(v:Int),(w:Int)]::M)=.tup [.int v,.int w]::aF M:=rfl;have hl':acc.length+M.length+1<=2000:=by simpa[Nat.add_assoc] using hl
   rw[e1];simp only[cB,hb _ _ _ _ _ h1 h2,hs acc v w (hM _ (by simp)) (by omega)]
   obtain⟨t',t2',e,h3,h4⟩:=ih (acc++(if R [(v:Int),(w:Int)]=true then [[(v:Int),(w:Int)]] else [])) (.sh (.int v)) (.sh (.int w)) (λis h=>hM is (Ze _ h)) (by
    rw[Za];split
    ·simp only[Zk,List.length_nil];omega
    ·simp only[List.length_nil];omega) rfl rfl
   refine⟨t',t2', ?_,h3,h4⟩;rw[e,List.filter_cons];by_cases q:R [(v:Int),(w:Int)]=true
   ·simp[q]
   ·simp[q]
 obtain⟨t',t2',e,h⟩:=key L [] t t2 (λ_ h=>h) (by simp;omega) ht ht2;exact⟨t',t2',by simpa[aF] using e,h⟩
def UO(x:PySem.Str):Prop:=x="like"\/x="against"\/x="aside"\/x="any"
noncomputable def mR(x:PySem.Str)(a b:Int):Bool:=if x==("like":PySem.Str) then decide (0<a*b) else if x==("against":PySem.Str) then decide (a*b<0) else if x==("aside":PySem.Str) then !(decide (a=0)==decide (b=0)) else true
def GL:((Str.ofString "against")==(Str.ofString "like"))=false:=by decide +kernel
def IH:((Str.ofString "aside")==(Str.ofString "like"))=false:=by decide +kernel
def F5:((Str.ofString "any")==(Str.ofString "like"))=false:=by decide +kernel
def JG:((Str.ofString "aside")==(Str.ofString "against"))=false:=by decide +kernel
def HR:((Str.ofString "any")==(Str.ofString "against"))=false:=by decide +kernel
def JE:((Str.ofString "any")==(Str.ofString "aside"))=false:=by decide +kernel
def HB:((Str.ofString "like")==(Str.ofString "any"))=false:=by decide +kernel
def HA:((Str.ofString "like")==(Str.ofString "aside"))=false:=by decide +kernel
def IG:((Str.ofString "against")==(Str.ofString "any"))=false:=by decide +kernel
def AM:((Str.ofString "against")==(Str.ofString "aside"))=false:=by decide +kernel
def AV:((Str.ofString "aside")==(Str.ofString "any"))=false:=by decide +kernel
def JV(hx:UO x)(h1:-18446744073709551616<a)(h2:a<18446744073709551616):run T W (n+1) "move_so" [.sh (.str x),.sh (.int a),.sh (.int b)]=some (.ok (.sh (.bl (mR x a b))),[.sh (.str x),.sh (.int a),.sh (.int b)]):=by
 rw[bO KZ rfl rfl];unfold k6 mR;rcases hx with rfl | rfl | rfl | rfl
 ·walk_at "!GL IH F5 JG HR JE HB HA IG AM AV &"
 ·walk_at "!GL IH F5 JG HR JE HB HA IG AM AV &"
 ·walk_at "!GL IH F5 JG HR JE HB HA IG AM AV &"
 ·walk_at "!GL IH F5 JG HR JE HB HA IG AM AV &"
noncomputable def nJ(one other oc:Int)(x:PySem.Str)(ah hs:List D)(v w:Nat):Bool :=
 decide (d6 oc (jW (ah.getD v .non)) (jW (ah.getD w .non))=one)&&decide (d6 oc (jW (hs.getD v .non)) (jW (hs.getD w .non))=other)&&mR x (jW (hs.getD v .non)-jW (ah.getD v .non)) (jW (hs.getD w .non)-jW (ah.getD w .non))
noncomputable def uX(one other oc:Int)(x:PySem.Str)(ah hs:List D):List Int->Bool
 |[v,w]=>nJ one other oc x ah hs v.toNat w.toNat
 |_=>false
noncomputable def kK(one other oc:Int)(x:PySem.Str)(fs:List (Int×Int×Bool))(xs:List Int)(b:Int):List (List Int):=cA (fs.length+1) (λv w=>cX (aS fs xs (b-1)) v w&&nJ one other oc x (aS fs xs (b-1)) (aS fs xs b) v w)
structure HrOk(hs ah:List D):Prop where
 h1:J0 hs
 h2:J0 ah
 len:ah.length=hs.length
 bd:∀v i,hs.getD v .non=.int i->-100<=i/\i<=100
 bd2:∀v i,ah.getD v .non=.int i->-100<=i/\i<=100
 on:∀v,sP (ah.getD v .non)=false->sP (hs.getD v .non)=false
def uY{fs:List (Int×Int×Bool)}{xs:List Int}{b:Int}{v:Nat}:(∃f∈dQ fs,∀b:Int,(aS fs xs b).getD v .non=dA xs b f)\/∀b:Int,(aS fs xs b).getD v .non=.non:=by
 cases h:(dQ fs)[v]? with
 |some f=>exact .inl ⟨f,zj h,λb=>oU h⟩
 |none =>
  refine .inr λb=>?_
  unfold aS;rw[List.getD_eq_getElem?_getD,Zh,h];rfl
def aE8{no ba oc:Int}{fs:List (Int×Int×Bool)}{xs:List Int}{b:Nat}(ho:HouseOk no ba oc fs)(hxs:∀x∈xs,0<=x/\x<no)(hb:b<xs.length):HrOk (aS fs xs (b:Int)) (aS fs xs ((b:Int)-1)):=by
 have n2:=ho.n2
 have hv:∀f∈dQ fs,0<=f.1/\-12<=f.2.1/\f.2.1<=12:=λf hf=>by
  rcases List.mem_cons.mp hf with rfl | hf
  ·decide
  ·have:=ho.f f hf
   omega
 have bd:∀(c:Int) v i,(aS fs xs c).getD v .non=.int i->-100<=i/\i<=100:=λc v i h=>by
  rcases uY (fs:=fs) (xs:=xs) (b:=c) (v:=v) with ⟨f,hf,e⟩ | e
  ·rw[e c] at h;unfold dA at h;split at h
   ·rename_i hc;have h:=D.int.inj h
    have hx:xs.getD (c-f.1).toNat 0∈xs:=by
     have hlt:(c-f.1).toNat<xs.length:=by omega
     exact uF (k:=(c-f.1).toNat) hlt
    have:=hxs _ hx
    have:=hv f hf
    split at h<;>omega
   ·cases h
  ·rw[e c] at h;cases h
 refine⟨qK,qK,by rw[i9,i9],bd _,bd _,λv h=>?_⟩;rcases uY (fs:=fs) (xs:=xs) (b:=(b:Int)) (v:=v) with ⟨f,hf,e⟩ | e
 ·rw[e] at h ⊢;unfold dA at h ⊢;split at h
  ·rename_i hc
   have:=hv f hf
   rw[Zo (by omega)];rfl
  ·cases h
 ·rw[e] at h;cases h
def WZ(H:HrOk hs ah)(hv:v<hs.length)(hw:w<hs.length)(h:cX ah v w=true):∃i1 i2 j1 j2:Int,L2.cP ah (v:Int)=some (.int i1)/\L2.cP ah (w:Int)=some (.int i2)/\L2.cP hs (v:Int)=some (.int j1)/\L2.cP hs (w:Int)=some (.int j2)/\ah.getD v .non=.int i1/\ah.getD w .non=.int i2/\hs.getD v .non=.int j1/\hs.getD w .non=.int j2/\(-100<=i1/\i1<=100)/\(-100<=j1/\j1<=100):=by
 unfold cX at h;rw[ZB] at h;obtain⟨d1,a1,g1,k1⟩:=i7 H.h2 (by rw[H.len];exact hv);obtain⟨d2,a2,g2,k2⟩:=i7 H.h2 (v:=w) (by rw[H.len];exact hw);obtain⟨d3,a3,g3,k3⟩:=i7 H.h1 hv;obtain⟨d4,a4,g4,k4⟩:=i7 H.h1 hw;have o1:=H.on v (by simpa using h.1);have o2:=H.on w (by simpa using h.2);rw[g1,g2] at h;rw[g3] at o1;rw[g4] at o2;rcases k1 with rfl | ⟨i1,rfl⟩
 ·exact absurd h.1 (by decide)
 rcases k2 with rfl | ⟨i2,rfl⟩
 ·exact absurd h.2 (by decide)
 rcases k3 with rfl | ⟨j1,rfl⟩
 ·exact absurd o1 (by decide)
 rcases k4 with rfl | ⟨j2,rfl⟩
 ·exact absurd o2 (by decide)
 exact⟨i1,i2,j1,j2,a1,a2,a3,a4,g1,g2,g3,g4,H.bd2 v i1 g1,H.bd v j1 g3⟩
def DP(hl:fs.length<=20)(hoc:0<oc)(hx:UO x)(H:HrOk (aS fs xs b) (aS fs xs (b-1))) :
  run T W (n+4) "Never.broken" [.sh (.ins "Never" ["one","other","way"] [.int one,.int other,.str x]),.sh (aA no ba oc fs rs),~~~xs,.sh (.int b)]=some (.ok (.ow (.lst (aF (kK one other oc x fs xs b)))),[.sh (.ins "Never" ["one","other","way"] [.int one,.int other,.str x]),.sh (aA no ba oc fs rs),~~~xs,.sh (.int b)]):=by
 rw[bO wO rfl rfl];unfold gS;have hc1:run T W (n+3) "chord" _=some (.ok (.ow (.lst (aS fs xs (b-1)))),_):=lD (no:=no) (ba:=ba) (oc:=oc) (fs:=fs) (rs:=rs) (xs:=xs) (b:=b-1) (by omega);have hc2:run T W (n+3) "chord" _=some (.ok (.ow (.lst (aS fs xs b))),_):=lD (W:=W) (n:=n) (no:=no) (ba:=ba) (oc:=oc) (fs:=fs) (rs:=rs) (xs:=xs) (b:=b) (by omega);have hln:=i9 (fs:=fs) (xs:=xs) (b:=b-1);have hln2:=i9 (fs:=fs) (xs:=xs) (b:=b);have hso:=pD (W:=W) (n:=n+2) H.h2 (by omega);rw[hln] at hso
 have hB:kK one other oc x fs xs b=(cA (fs.length+1) (cX (aS fs xs (b-1)))).filter (uX one other oc x (aS fs xs (b-1)) (aS fs xs b)):=by(unfold kK;rw[oP (Q:=nJ one other oc x (aS fs xs (b-1)) (aS fs xs b))];intro v w;rfl)
 generalize aS fs xs b=hs at *
 generalize aS fs xs (b-1)=ah at *
 obtain⟨L,hL⟩:∃L,L=cA (fs.length+1) (cX ah):=⟨_,rfl⟩
 have hLm:∀is∈L,∃v w:Nat,is=[(v:Int),(w:Int)]/\v<hs.length/\w<hs.length/\cX ah v w=true:=λis his=>by(rw[hL] at his;obtain⟨v,w,h1,h2,h3,_,h4⟩:=mS his;exact⟨v,w,h1,by omega,by omega,h4⟩)
 have hLl:L.length<=1000:=by rw[hL];exact lC (by omega)
 rw[<- hL] at hso hB;have iM:aD .of [.val (.ow (.lst (aF L)))] [.sh (.ins "Never" ["one","other","way"] [.int one,.int other,.str x]),.sh (aA no ba oc fs rs),~~~xs,.sh (.int b),.sh (.int oc),.o (.lst ah),.o (.lst hs),.o (.lst []),.un,.un]=some (aF L,none):=AK rfl
 obtain⟨t8,t9,e,h8,h9⟩:=J3 (iv:=8) (iw:=9) (body:=exs T.pins (run T W (n+3)) W iI) (λa t t2=>[.sh (.ins "Never" ["one","other","way"] [.int one,.int other,.str x]),.sh (aA no ba oc fs rs),~~~xs,.sh (.int b),.sh (.int oc),.o (.lst ah),.o (.lst hs),.o (.lst a),t,t2]) (uX one other oc x ah hs) L hLl
  (λa t t2 d d2 ht ht2=>by simp only[fA,aZ ht,aZ ht2])
  (λis his=>by obtain⟨v,w,h,_⟩:=hLm is his;exact⟨v,w,h⟩)
  (λa v w hm hal=>by
   obtain⟨v',w',h1,hv,hw,hso2⟩:=hLm _ hm;have hvv:v'=v:=by have:=(List.cons.inj h1).1;omega
   have hww:w'=w:=by have:=(List.cons.inj (List.cons.inj h1).2).1;omega
   subst hvv hww;obtain⟨i1,i2,j1,j2,a1,a2,a3,a4,g1,g2,g3,g4,q1,q2⟩:=WZ H hv hw hso2;have hsm:aJ ((aF a).length+1)=true:=cG (by rw[gT];omega);have et:aF (a++[[(v':Int),(w':Int)]])=aF a++[.tup [.int v',.int w']]:=by rw[y8];rfl
   have en:uX one other oc x ah hs [(v':Int),(w':Int)]=(decide (d6 oc i1 i2=one)&&decide (d6 oc j1 j2=other)&&mR x (j1-i1) (j2-i2)):=by(unfold uX nJ;simp only[Int.toNat_natCast,g1,g2,g3,g4];rfl)
   have hmv:=JV (W:=W) (n:=n+2) (a:=j1-i1) (b:=j2-i2) hx (by omega) (by omega);rw[en];unfold iI;clear h1 hv hw hso2 hm hal hLm hLl iM hB hL hso hc1 hc2 hln hln2 H g1 g2 g3 g4 q1 q2 hl en hx;by_cases c1:d6 oc i1 i2=one
   ·have c1':decide (d6 oc i1 i2=one)=true:=Zn c1;by_cases c2:d6 oc j1 j2=other
    ·have c2':decide (d6 oc j1 j2=other)=true:=Zn c2;rw[c1',c2',Bool.true_and,Bool.true_and]
     generalize mR x (j1-i1) (j2-i2)=q at *
     clear c1 c2;cases q
     ·walk_at "!fZ eP fX eC"
      all_goals (try simp only[List.append_nil])
     ·walk_at "!fZ eP fX eC"
    ·have c2':decide (d6 oc j1 j2=other)=false:=Zm c2;rw[c1',c2',Bool.true_and,Bool.false_and];clear c1 c2
     walk_at "!fZ eP fX eC"
     all_goals (try simp only[List.append_nil])
   ·have c1':decide (d6 oc i1 i2=one)=false:=Zm c1;rw[c1',Bool.false_and,Bool.false_and];clear c1
    walk_at "!fZ eP fX eC"
    all_goals (try simp only[List.append_nil])) .un .un rfl rfl
 rw[hB];clear hl h8 h9 hB hLm hLl hL hln hln2 H hx
 walk_at "!fZ eP fX eC"
def zQ:run T W (n+1) "rule_of" [.sh (.tup [.str "never",a,b,c])]=some (.ok (.sh (.ins "Never" ["one","other","way"] [a,b,c])),[.sh (.tup [.str "never",a,b,c])]):=by
 rw[bO gU rfl rfl];unfold dJ
 walk_at "!lS"
abbrev vP(a c:List Int):Prop:=HT.bU c a=false
def fU(h:x<y\/x=y/\vP a c):vP (x::a) (y::c):=by
 show HT.bU (y::c) (x::a)=false;rw[HT.d8];rcases h with h | ⟨rfl,h⟩
 ·rw[Zp (by omega)];exact Zm (by omega)
 ·rw[Zo rfl];exact h
def tQ:(dD c).Pairwise vP:=by
 cases c
 ·exact .nil
 ·exact List.pairwise_singleton _ _
def PN:(twoD c a b).Pairwise vP:=by
 cases c
 ·exact .nil
 ·exact List.pairwise_singleton _ _
def RS:(iV n sel).Pairwise vP:=by
 unfold iV;refine List.pairwise_map.mpr ((List.pairwise_lt_range.filter sel).imp λ{a b} h=>fU (.inl (by omega)))
def uR:(cA n P).Pairwise vP:=by
 unfold cA;refine List.pairwise_flatMap.mpr ⟨λv _=>?_,List.pairwise_lt_range.imp λ{a b} h x hx y hy=>?_⟩
 ·unfold eV;exact List.pairwise_map.mpr ((List.pairwise_lt_range.filter _).imp λ{a b} h=>fU (.inr ⟨rfl,fU (.inl (by omega))⟩))
 ·obtain⟨j,_,rfl⟩:=zo.mp hx;obtain⟨k,_,rfl⟩:=zo.mp hy;exact fU (.inl (by omega))
def L4:(dZ be sp ba oc fs xs b).Pairwise vP:=by
 unfold dZ;split
 ·exact uR
 ·exact .nil
def BP(h:is∈dD c):is.length<=2/\∀v∈is,0<=v/\v<=n:=by
 cases c
 ·cases h
 ·rw[ze.mp h];exact⟨by decide,λ_ z=>nomatch z⟩
def Y9(h:is∈iV (n+1) s):is.length<=2/\∀v∈is,0<=v/\v<=(n:Int):=by
 obtain⟨j,hj,rfl⟩:=zo.mp h
 have:=List.mem_range.mp (List.mem_filter.mp hj).1
 refine⟨by simp,λv hv=>?_⟩;rw[ze.mp hv];omega
def A7(h:is∈cA (n+1) P):is.length<=2/\∀v∈is,0<=v/\v<=(n:Int):=by
 obtain⟨v,w,rfl,h1,h2,_⟩:=mS h;simp only[List.mem_cons,List.not_mem_nil,or_false,forall_eq_or_imp,forall_eq,Zk,List.length_nil];omega
def YV(h:is∈dZ be sp ba oc fs xs b):is.length<=2/\∀v∈is,0<=v/\v<=(fs.length:Int):=by
 unfold dZ at h;split at h
 ·exact A7 h
 ·cases h
def aDb{v w:Nat}(h1:(v:Int)<=n)(h2:(w:Int)<=n)(h:is∈twoD c (v:Int) (w:Int)):is.length<=2/\∀v∈is,0<=v/\v<=n:=by
 cases c
 ·cases h
 ·rw[ze.mp h];simp only[List.mem_cons,List.not_mem_nil,or_false,forall_eq_or_imp,forall_eq,Zk,List.length_nil];omega
abbrev Br:=List Int->Nat->List (List Int)
abbrev RP:=D×D×Br
noncomputable def JK(o h:D)(xs:List Int)(b:Nat):List Sl:=[.sh o,.sh h,~~~xs,.sh (.int b)]
structure RX(no ba oc:Int)(fs:List (Int×Int×Bool))(rs:List D)(m:Nat)(p:RP):Prop where
 ob:∃c ns ds f q,p.2.1=.ins c ns ds/\fK c ns "broken" dP=some f/\T.pins f=[true,true,true,q] /\
  ∀(W n:Nat) (xs:List Int) (b:Nat),b<xs.length->(∀x∈xs,0<=x/\x<no)->run T W (n+4) f (JK (.ins c ns ds) (aA no ba oc fs rs) xs b)=some (.ok (.ow (.lst (aF (p.2.2 xs b)))),JK (.ins c ns ds) (aA no ba oc fs rs) xs b)
 ru:∀(W n:Nat),run T W (n+1) "rule_of" [.sh p.1]=some (.ok (.sh p.2.1),[.sh p.1])
 inn:∀xs b is,is∈p.2.2 xs b->is.length<=1000
 len:∀xs b,(p.2.2 xs b).length<=1000
 srt:∀xs b,(p.2.2 xs b).Pairwise vP
 vo:∀xs b is,is∈p.2.2 xs b->is.length<=2/\∀v∈is,0<=v/\v<=(fs.length:Int)
section
variable{m:Nat}
def YB(ho:HouseOk no ba oc fs)(h3':0<=b):RX no ba oc fs rs m (.tup [.str "span",.int a,.int b],.ins "Span" ["beat","spans"] [.int a,.int b],λxs b'=>dZ a b ba oc fs xs (b':Int)):=by
 have l2:=ho.l2;have o1:=ho.o1;have o2:=ho.o2;have b1:=ho.b1;have l20:fs.length<=20:=by omega
 exact⟨⟨_,_,_,_,true,rfl,xW,z9,λW n xs b' _ _=>EM l20 h3' (by omega) (by omega)⟩,λW n=>DL,λxs b is h=>N3 h,λxs b'=>M3 l20,λxs b=>L4,λxs b is h=>YV h⟩
def WO:RX no ba oc fs rs m (.tup [.str "leap",.int a],.ins "Leap" ["most"] [.int a],λxs b'=>dD (oX a xs b')) :=
 ⟨⟨_,_,_,_,false,rfl,wJ,zO,λW n xs b' hb _=>D4 (n:=n+3) hb⟩,λW n=>A5,λxs b is h=>yA h,λxs b'=>tY,λxs b=>tQ,λxs b is h=>BP h⟩
def XR(ho:HouseOk no ba oc fs):RX no ba oc fs rs m (.tup [.str "back",.int a,.int b],.ins "Back" ["leap","most"] [.int a,.int b],λxs b'=>dD (kA a b xs b')):=by
 have n2:=ho.n2;exact⟨⟨_,_,_,_,false,rfl,yE,zS,λW n xs b' hb hx=>EI (n:=n+3) hb λx hm'=>⟨(hx x hm').1,by have:=(hx x hm').2;omega⟩⟩,λW n=>BF,λxs b is h=>yA h,λxs b'=>tY,λxs b=>tQ,λxs b is h=>BP h⟩
def PZ{k:Nat}(h2:k<=3):RX no ba oc fs rs m (.tup [.str "again",.int k],.ins "Again" ["most"] [.int k],λxs b'=>dD (jN k xs b')) :=
 ⟨⟨_,_,_,_,false,rfl,wB,xQ,λW n xs b' hb _=>DJ (n:=n+3) hb (by omega)⟩,λW n=>AE,λxs b is h=>yA h,λxs b'=>tY,λxs b=>tQ,λxs b is h=>BP h⟩
def QJ(ho:HouseOk no ba oc fs):RX no ba oc fs rs m (.tup [.str "range",.int a,.int b],.ins "Range" ["low","high"] [.int a,.int b],λxs b'=>jB a b fs xs (b':Int)):=by
 have l2:=ho.l2;have l9:fs.length<=900:=by omega
 exact⟨⟨_,_,_,_,true,rfl,vY,xH,λW n xs b' _ _=>CU l9⟩,λW n=>AF,λxs b is h=>ZY h,λxs b'=>CW (by omega),λxs b=>RS,λxs b is h=>Y9 h⟩
def BK{v w:Nat}(h1:(v:Int)<=fs.length)(h2:(w:Int)<=fs.length):RX no ba oc fs rs m (.tup [.str "above",.int v,.int w],.ins "Above" ["one","other"] [.int v,.int w],λxs b'=>nP fs xs (b':Int) v w) :=
 ⟨⟨_,_,_,_,true,rfl,uT,xU,λW n xs b' _ _=>DG (n:=n+1) (by omega) (by omega)⟩,λW n=>zW,λxs b is h=>twoD_in h,λxs b'=>twoD_len,λxs b=>PN,λxs b is h=>aDb h1 h2 h⟩
def QB{a b:Int}{x:PySem.Str}(ho:HouseOk no ba oc fs)(h5:x="like"\/x="against"\/x="aside"\/x="any"):RX no ba oc fs rs m (.tup [.str "never",.int a,.int b,.str x],.ins "Never" ["one","other","way"] [.int a,.int b,.str x],λxs b'=>kK a b oc x fs xs (b':Int)):=by
 have l2:=ho.l2;have o1:=ho.o1;have l20:fs.length<=20:=by omega
 exact⟨⟨_,_,_,_,true,rfl,v9,wR,λW n xs b' hb hx=>DP l20 (by omega) h5 (aE8 ho hx hb)⟩,λW n=>zQ,λxs b is h=>yZ h,λxs b'=>lC (by omega),λxs b=>uR,λxs b is h=>A7 h⟩
end
def UB(h:U[i]?=some (.ow (.lst ds) p l)):aD (.enum lo) [.slot i] U=some (bZ lo ds,some i):=by simp only[aD,h]
section
variable{ps:List RP}
def uD(hrs:ps.map (·.1)=rs)(hp:∀p∈ps,RX no ba oc fs rs m p)(hl:rs.length<=8):run T W (n+2) "rules_of" [.sh (aA no ba oc fs rs)]=some (.ok (.ow (.lst (ps.map (·.2.1)))),[.sh (aA no ba oc fs rs)]):=by
 rw[bO GW rfl rfl];unfold kF;have hl':ps.length<=8:=by rw[<- hrs,List.length_map] at hl;exact hl
 have hi:aD .of [.val (.sh (.tup rs))] [.sh (aA no ba oc fs rs)]=some (rs,none):=F7 rfl
 obtain⟨acc,Ui,e,⟨t1,rfl,ht1,rfl⟩,_⟩:=gX (tests:=cR T.pins (run T W (n+1)) []) (elt:=ev T.pins (run T W (n+1)) false kP) (bind:=aT true [1]) (ds:=rs)
  (λj acc U=>∃(t1:Sl),U=[.un,t1]/\bE t1=true/\acc=(ps.take j).map (·.2.1))
  (λj d hd acc U hU=>by
   obtain⟨t1,rfl,ht1,rfl⟩:=hU
   obtain⟨p,hpj,rfl⟩:∃p,ps[j]?=some p/\p.1=d:=by
    rw[<- hrs,Zh] at hd
    cases q:ps[j]? with
    |none=>rw[q] at hd;cases hd
    |some p=>rw[q] at hd;exact⟨p,rfl,Option.some.inj hd⟩
   have hw:=(hp p (zj hpj)).ru W n;refine⟨_,true,_,by simp only[fA,aZ ht1]<;>rfl,jT,λ_=>?_,λz=>nomatch z⟩;refine⟨.sh p.2.1,[.un,.sh p.1], ?_,_,rfl,rfl,by rw[List.take_succ,hpj,List.map_append];rfl⟩;unfold kP
   walk_at "!")
  [] [.un,.un] ⟨_,rfl,rfl,rfl⟩
 rw[show rs.length=ps.length by rw[<- hrs,List.length_map],List.take_length] at e;have hsm:aJ (ps.map (·.2.1)).length=true:=cG (by simp;omega)
 walk_at "!"
 rw[cZ hi]
 walk_at "!"
 all_goals (rw[J6 rfl];walk_at "!")
noncomputable def LJ(ps:List RP)(xs:List Int)(b:Nat):Nat:=(ps.map λp=>(p.2.2 xs b).length).sum
theorem CV:∀(ps:List RP),(∀p∈ps,(p.2.2 xs b).length<=1000)->LJ ps xs b<=1000*ps.length
 |[],_=>by simp[LJ]
 |p::ps,h=>by
  have h1:=h p zh;have h2:=CV ps λq hq=>h q (Ze _ hq)
  unfold LJ at h2 ⊢;rw[Zs,List.sum_cons,Zk];omega
noncomputable def qQ(xs:List Int)(b:Nat)(i:Nat)(p:RP):List D:=(aF (p.2.2 xs b)).map λd=>.tup [.int b,.int i,d]
noncomputable def dR(xs:List Int)(b:Nat):Nat->List RP->List D
 |_,[]=>[]
 |i,p::ps=>qQ xs b i p++dR xs b (i+1) ps
theorem E9:∀(ps:List RP) (i:Nat),dR xs b i (ps++[q])=dR xs b i ps++qQ xs b (i+ps.length) q
 |[],i=>by simp[dR]
 |p::ps,i=>by(rw[List.cons_append,dR,E9 ps (i+1),dR,List.append_assoc,Zk,show i+1+ps.length=i+(ps.length+1) by omega])
theorem wW:∀(ps:List RP) (i:Nat),(dR xs b i ps).length=LJ ps xs b
 |[],i=>rfl
 |p::ps,i=>by(rw[dR,Za,wW ps];unfold LJ qQ;rw[List.length_map,gT,Zs,List.sum_cons])
def sV{b:Nat}(hp:∀p∈ps,RX no ba oc fs rs m p)(hl:ps.length<=8)(hb:b<xs.length)(hx:∀x∈xs,0<=x/\x<no) :
  run T W (n+5) "breaks_at" [.sh (aA no ba oc fs rs),.p (.lst (ps.map (·.2.1))),~~~xs,.sh (.int b)]=some (.ok (.ow (.lst (dR xs b 0 ps))),[.sh (aA no ba oc fs rs),.p (.lst (ps.map (·.2.1))),~~~xs,.sh (.int b)]):=by
 rw[bO D2 rfl rfl];unfold jJ;have hi:aD (.enum 0) [.slot 1] [.sh (aA no ba oc fs rs),.p (.lst (ps.map (·.2.1))),~~~xs,.sh (.int b),.o (.lst []),.un,.un,.un]=some (bZ 0 (ps.map (·.2.1)),some 1):=UB rfl
 obtain⟨U1,e1,t5,t6,t7,rfl,h5,h6,h7⟩:=b4 (bind:=aT false [5,6]) (body:=exs T.pins (run T W (n+4)) W jZ)
  (λpre U=>∃(t5 t6 t7:Sl),U=[.sh (aA no ba oc fs rs),.un,~~~xs,.sh (.int b),.o (.lst (dR xs b 0 (ps.take pre.length))),t5,t6,t7]/\bE t5=true/\bE t6=true/\bE t7=true)
  (ds:=bZ 0 (ps.map (·.2.1))) (λpre d post hds U hU=>by
   obtain⟨t5,t6,t7,rfl,h5,h6,h7⟩:=hU
   have hlen:pre.length<ps.length:=by
    have:=congrArg List.length hds
    rw[fI,List.length_map,Za,Zk] at this;omega
   obtain⟨p,hpj⟩:∃p,ps[pre.length]?=some p:=⟨_,Zb hlen⟩
   have hd:d=.tup [.int pre.length,p.2.1]:=by(have q:=mT (lo:=0) (ds:=ps.map (·.2.1)) (i:=pre.length) (d:=p.2.1) (by rw[Zh,hpj];rfl);rw[hds,List.getElem?_append_right (Zq _),Nat.sub_self,Int.zero_add] at q;exact Option.some.inj q)
   subst hd;refine⟨_,by simp only[fA,aZ h5,aZ h6]<;>rfl, ?_⟩;have hrx:=hp p (zj hpj);have hlen1:=hrx.len xs b;have hbr:=CV (ps.take pre.length) λq hq=>(hp q (List.mem_of_mem_take hq)).len xs b
   rw[<- wW _ 0,List.length_take] at hbr
   have hN:dR xs b 0 (ps.take (pre++[D.tup [D.int pre.length,p.2.1]]).length)=dR xs b 0 (ps.take pre.length)++(aF (p.2.2 xs b)).map λd=>.tup [.int b,.int pre.length,d]:=by
    rw[Za,Zk,List.length_nil,List.take_succ,hpj]
    have:=E9 (xs:=xs) (b:=b) (q:=p) (ps.take pre.length) 0
    rw[List.length_take,Nat.min_eq_left (Nat.le_of_lt hlen),Nat.zero_add] at this;exact this
   rw[hN];obtain⟨c,ns,ds,f,q,ho,hmt,hpi,hrun⟩:=hrx.ob;have hr:=hrun W n xs b hb hx;unfold JK at hr;rw[ho]
   generalize p.2.2 xs b=Z at *
   generalize dR xs b 0 (ps.take pre.length)=L at *
   generalize (pre.length:Int)=pl at *
   have iM:aD .of [.val (.ow (.lst (aF Z)))] [.sh (aA no ba oc fs rs),.un,~~~xs,.sh (.int b),.o (.lst L),.sh (.int pl),.sh (.ins c ns ds),t7]=some (aF Z,none):=AK rfl
   obtain⟨U2,e2,t7',rfl,h7'⟩:=b4 (bind:=aT true [7]) (body:=exs T.pins (run T W (n+4)) W jU)
    (λpr U=>∃(t7:Sl),U=[.sh (aA no ba oc fs rs),.un,~~~xs,.sh (.int b),.o (.lst (L++pr.map λd=>D.tup [.int b,.int pl,d])),.sh (.int pl),.sh (.ins c ns ds),t7]/\bE t7=true)
    (ds:=aF Z) (λpr d po hd' U hU=>by
     obtain⟨t7,rfl,h7⟩:=hU;refine⟨_,by simp only[fA,aZ h7]<;>rfl, ?_⟩
     have hz:pr.length<=1000:=by
      have:=congrArg List.length hd'
      rw[gT,Za] at this;omega
     rw[List.map_append,<- List.append_assoc];have hsm:aJ ((L++pr.map λd=>D.tup [.int b,.int pl,d]).length+1)=true:=cG (by rw[Za,List.length_map];omega)
     generalize (L++pr.map λd=>D.tup [.int b,.int pl,d])=L2 at *
     refine⟨[.sh (aA no ba oc fs rs),.un,~~~xs,.sh (.int b),.o (.lst (L2++[.tup [.int b,.int pl,d]])),.sh (.int pl),.sh (.ins c ns ds),.sh d], ?_,_,rfl,rfl⟩;unfold jU
     walk_at "!")
    (U:=[.sh (aA no ba oc fs rs),.un,~~~xs,.sh (.int b),.o (.lst L),.sh (.int pl),.sh (.ins c ns ds),t7]) ⟨_,by simp,h7⟩
   refine⟨[.sh (aA no ba oc fs rs),.un,~~~xs,.sh (.int b),.o (.lst (L++(aF Z).map λd=>D.tup [.int b,.int pl,d])),.sh (.int pl),.sh (.ins c ns ds),t7'], ?_,_,_,_,rfl,rfl,rfl,h7'⟩;unfold jZ
   generalize (L++(aF Z).map λd=>D.tup [.int b,.int pl,d])=L3 at *
   cases q<;>walk_at "!")
  (U:=[.sh (aA no ba oc fs rs),.un,~~~xs,.sh (.int b),.o (.lst []),.un,.un,.un]) ⟨_,_,_,rfl,rfl,rfl,rfl⟩
 rw[fI,List.length_map,List.take_length] at e1
 generalize dR xs b 0 ps=L at *
 walk_at "!"
 simp only[aK,List.set_cons_zero,List.set_cons_succ,e1,cJ.restore,cQ,zt,zr,Option.map_some]
 walk_at "!"
end
def IZ{k:Nat}(h:k<=1000):aD .rng [.val (.sh (.int k))] U=some (rg k,none):=by
 refine Eq.trans (mV (n:=(k:Int)) rfl (by omega) (by omega)) ?_;rw[Int.toNat_natCast]
def oI{bind:D->Env->Option Env}(val:D->D)(J:Env->Prop)
  (step:∀d∈ds,∀U,J U->∃U1 v U2,bind d U=some U1/\elt U1=some (.ok v,U2)/\v.d=val d/\J U2) (h:J U) :
  ∃U',d7 (cR P C []) elt bind ds [] U=some (.ok (ds.map val),U')/\J U':=by
 obtain⟨acc,U',e,⟨rfl,hJ⟩,_⟩:=gX (tests:=cR P C []) (λj acc U=>acc=(ds.take j).map val/\J U)
  (λj d hd acc U hz=>by
   obtain⟨ha,hJ⟩:=hz;obtain⟨U1,v,U2,h1,h2,h3,h4⟩:=step d (zj hd) U hJ;refine⟨U1,true,U1,h1,jT,λ_=>⟨v,U2,h2, ?_,h4⟩,λz=>nomatch z⟩;rw[ha,h3,List.take_add_one,hd]
   simp) [] U ⟨by simp,h⟩
 refine⟨U', ?_,hJ⟩;rw[e,List.take_length]
section
variable{ps:List RP}
noncomputable def cM(ps:List RP)(xs:List Int)(n:Nat):List D:=(List.range n).flatMap λb=>dR xs b 0 ps
def mQ:cM ps xs (n+1)=cM ps xs n++dR xs n 0 ps:=by
 unfold cM;rw[List.range_succ,List.flatMap_append];simp
def MO(hp:∀p∈ps,RX no ba oc fs rs m p)(hl:ps.length<=8):(dR xs b 0 ps).length<=8000:=by
 rw[wW]
 have:=CV ps λq hq=>(hp q hq).len xs b
 omega
theorem xC(hp:∀p∈ps,RX no ba oc fs rs m p)(hl:ps.length<=8):∀n:Nat,(cM ps xs n).length<=8000*n
 | 0=>by simp[cM]
 |n+1=>by(rw[mQ,Za];have h1:=xC (xs:=xs) hp hl n;have h2:=MO (xs:=xs) (b:=n) hp hl;omega)
noncomputable def gJ(b i:Nat)(is:List Int):D:=.tup [.int b,.int i,.tup (is.map D.int)]
theorem EU:∀(qs:List RP) (i:Nat),(∀p∈qs,RX no ba oc fs rs m p)->d∈dR xs b i qs->∃j is,d=gJ b j is/\is.length<=1000
 |q::qs,i,hp,h=>by
  rw[dR] at h;rcases zp.mp h with h | h
  ·obtain⟨d',h1,rfl⟩:=zo.mp h;obtain⟨is,h2,rfl⟩:=zo.mp h1;exact⟨i,is,rfl,(hp q zh).inn xs b is h2⟩
  ·exact EU qs _ (λp hp'=>hp p (Ze _ hp')) h
def BO(hp:∀p∈ps,RX no ba oc fs rs m p)(h:d∈cM ps xs n):∃b j is,d=gJ b j is/\is.length<=1000:=by
 obtain⟨b,_,h⟩:=List.mem_flatMap.mp h;exact⟨b,EU ps 0 hp h⟩
def X0:bC 19 (gJ b j is)=true:=by simp[bC,gJ]
def UY(hp:∀p∈ps,RX no ba oc fs rs m p):bC 20 (.lst (cM ps xs n))=true:=by
 show(cM ps xs n).all (bC 19)=true;rw[List.all_eq_true];intro d hd;obtain⟨b,j,is,rfl,_⟩:=BO hp hd;exact X0
def aC0(h:(rg n)=pre++d::post):d=.int pre.length/\pre.length<n:=by
 have hl:=congrArg List.length h;rw[List.length_map,List.length_range,Za,Zk] at hl;have h2:(rg n)[pre.length]?=some d:=by rw[h,List.getElem?_append_right (Zq _),Nat.sub_self];rfl
 rw[Zh,List.getElem?_range (by omega)] at h2;exact⟨(Option.some.inj h2).symm,by omega⟩
def v8(hrs:ps.map (·.1)=rs)(hp:∀p∈ps,RX no ba oc fs rs m p)(hl:rs.length<=8)(hx:∀x∈xs,0<=x/\x<no)(lx:xs.length<=80) :
  run T W (n+6) "breaks" [.sh (aA no ba oc fs rs),~~~xs]=some (.ok (.ow (.lst (cM ps xs xs.length))),[.sh (aA no ba oc fs rs),~~~xs]):=by
 have hl':ps.length<=8:=by rw[<- hrs,List.length_map] at hl;exact hl
 rw[bO QV rfl rfl];unfold mH;have h1:=uD (W:=W) (n:=n+3) hrs hp hl;have hi:aD .rng [.val (.sh (.int xs.length))] [.sh (aA no ba oc fs rs),~~~xs,.o (.lst (ps.map (·.2.1))),.o (.lst []),.un]=some (rg xs.length,none):=IZ (by omega)
 obtain⟨U',e,t4,rfl,_⟩:=b4 (bind:=aT true [4]) (body:=exs T.pins (run T W (n+5)) W nD)
  (λpre U=>∃t4,U=[.sh (aA no ba oc fs rs),~~~xs,.o (.lst (ps.map (·.2.1))),.o (.lst (cM ps xs pre.length)),t4]/\bE t4=true)
  (ds:=rg xs.length) (λpre d post hds U hU=>by
   obtain⟨t4,rfl,h4⟩:=hU;obtain⟨rfl,hb⟩:=aC0 hds;refine⟨_,by simp only[fA,aZ h4]<;>rfl, ?_⟩;have hbk:=sV (W:=W) (n:=n) hp hl' hb hx;have z1:=xC (xs:=xs) hp hl' pre.length;have z2:=MO (xs:=xs) (b:=pre.length) hp hl';have hsm:aJ ((cM ps xs pre.length).length+(dR xs pre.length 0 ps).length)=true:=cG (by omega);refine⟨[.sh (aA no ba oc fs rs),~~~xs,.o (.lst (ps.map (·.2.1))),.o (.lst (cM ps xs pre.length++dR xs pre.length 0 ps)),.sh (.int pre.length)], ?_,_,by rw[Za,Zg,mQ],rfl⟩;unfold nD
   generalize cM ps xs pre.length=A at *
   generalize dR xs pre.length 0 ps=B at *
   walk_at "!%")
  (U:=[.sh (aA no ba oc fs rs),~~~xs,.o (.lst (ps.map (·.2.1))),.o (.lst []),.un]) ⟨_,rfl,rfl⟩
 rw[List.length_map,List.length_range] at e
 generalize cM ps xs xs.length=A at *
 walk_at "!%"
end
noncomputable def K9:List D->D
 |[]=>.non
 |d::_=>d
def ER{bind:D->Env->Option Env}(f:D->List D)(I:Env->Prop)(h:∀d∈ds,∀U,I U->∃U1,bind d U=some U1/\∃U2,(f d=[]/\body U1=some (.nx,U2)\/∃x r,f d=x::r/\body U1=some (.rt (.sh x),U2))/\I U2) :
  ∀{U:Env},I U->∃U',(ds.flatMap f=[]/\cB bind body ds U=some (.nx,U')\/∃x r,ds.flatMap f=x::r/\cB bind body ds U=some (.rt (.sh x),U'))/\I U':=by
 induction ds with
 |nil=>exact λhU=>⟨_,.inl ⟨rfl,rfl⟩,hU⟩
 |cons d ds ih =>
  intro U hU;obtain⟨U1,e1,U2,e2,h2⟩:=h d (by simp) U hU;rcases e2 with ⟨c,e2⟩ | ⟨x,r,c,e2⟩
  ·obtain⟨U',e3,h3⟩:=ih (λd' hd'=>h d' (by simp[hd'])) h2;refine⟨U', ?_,h3⟩;rcases e3 with ⟨c3,e3⟩ | ⟨x,r,c3,e3⟩
   ·exact .inl ⟨by rw[List.flatMap_cons,c,c3];rfl,by simp only[cB,e1,e2,e3]⟩
   ·exact .inr ⟨x,r,by rw[List.flatMap_cons,c,c3];rfl,by simp only[cB,e1,e2,e3]⟩
  ·exact⟨U2,.inr ⟨x,r++ds.flatMap f,by rw[List.flatMap_cons,c];rfl,by simp only[cB,e1,e2]⟩,h2⟩
section
variable{ps:List RP}
def GY(hrs:ps.map (·.1)=rs)(hp:∀p∈ps,RX no ba oc fs rs m p)(hl:rs.length<=8)(hx:∀x∈xs,0<=x/\x<no)(lx:xs.length<=80) :
  run T W (n+6) "first_break" [.sh (aA no ba oc fs rs),~~~xs]=some (.ok (.sh (K9 (cM ps xs xs.length))),[.sh (aA no ba oc fs rs),~~~xs]):=by
 have hl':ps.length<=8:=by rw[<- hrs,List.length_map] at hl;exact hl
 rw[bO AG rfl rfl];unfold hV;have h1:=uD (W:=W) (n:=n+3) hrs hp hl;have hi:aD .rng [.val (.sh (.int xs.length))] [.sh (aA no ba oc fs rs),~~~xs,.o (.lst (ps.map (·.2.1))),.un,.un]=some (rg xs.length,none):=IZ (by omega)
 obtain⟨U',e,t3,t4,rfl,_,_⟩:=ER (bind:=aT true [3]) (body:=exs T.pins (run T W (n+5)) W iS) (λd=>match d with | .int b=>dR xs b.toNat 0 ps | _=>[])
  (λU=>∃t3 t4,U=[.sh (aA no ba oc fs rs),~~~xs,.o (.lst (ps.map (·.2.1))),t3,t4]/\bE t3=true/\bE t4=true)
  (ds:=rg xs.length) (λd hd U hU=>by
   obtain⟨t3,t4,rfl,h3,h4⟩:=hU;obtain⟨b,hb,rfl⟩:=zo.mp hd;have hb:=List.mem_range.mp hb;refine⟨_,by simp only[fA,aZ h3]<;>rfl, ?_⟩;have hbk:=sV (W:=W) (n:=n) hp hl' hb hx;show ∃U2,(dR xs b 0 ps=[]/\_\/∃x r,dR xs b 0 ps=x::r/\_)/\_
   generalize dR xs b 0 ps=L at *
   unfold iS
   cases L with
   |nil =>
    refine⟨[.sh (aA no ba oc fs rs),~~~xs,.o (.lst (ps.map (·.2.1))),.sh (.int b),.o (.lst [])],.inl ⟨rfl, ?_⟩,_,_,rfl,rfl,rfl⟩;have c:decide ((0:Int)<((0:Nat):Int))=false:=rfl
    walk_at "!%"
   |cons x L =>
    refine⟨[.sh (aA no ba oc fs rs),~~~xs,.o (.lst (ps.map (·.2.1))),.sh (.int b),.o (.lst (x::L))],.inr ⟨x,L,rfl, ?_⟩,_,_,rfl,rfl,rfl⟩;have c:decide ((((x::L).length:Nat):Int) > 0)=true:=Zn (by rw[Zk];omega);have hat:L2.cP (x::L) 0=some x:=by rw[aBK];rfl
    generalize x::L=LL at *
    walk_at "!%")
  (U:=[.sh (aA no ba oc fs rs),~~~xs,.o (.lst (ps.map (·.2.1))),.un,.un]) ⟨_,_,rfl,rfl,rfl⟩
 have hal:(rg xs.length).flatMap (λd=>match d with | .int b=>dR xs b.toNat 0 ps | _=>[])=cM ps xs xs.length:=by(rw[List.flatMap_map];rfl)
 rw[hal] at e;rcases e with ⟨c,e⟩ | ⟨x,r,c,e⟩
 ·rw[c];show _=some (Out.ok (RV.sh D.non),_)
  walk_at "!%"
 ·rw[c];show _=some (Out.ok (RV.sh x),_)
  walk_at "!%"
def aDS{L:List D}(h:∀d∈L,∃es,d=.tup es):bV .Is (K9 L) .non=some L.isEmpty:=by
 cases L with
 |nil=>rfl
 |cons d L =>
  obtain⟨es,rfl⟩:=h d zh;rfl
def BM(hrs:ps.map (·.1)=rs)(hp:∀p∈ps,RX no ba oc fs rs m p)(hl:rs.length<=8)(hx:∀x∈xs,0<=x/\x<no)(lx:xs.length<=80) :
  run T W (n+7) "is_let_by" [.sh (aA no ba oc fs rs),~~~xs]=some (.ok (.sh (.bl (cM ps xs xs.length).isEmpty)),[.sh (aA no ba oc fs rs),~~~xs]):=by
 have h1:=GY (W:=W) (n:=n) hrs hp hl hx lx
 have h2:=aDS (L:=cM ps xs xs.length) λd hd=>by(obtain⟨b,j,is,rfl,_⟩:=BO hp hd;exact⟨_,rfl⟩)
 rw[bO DZ rfl rfl];unfold jF
 generalize K9 (cM ps xs xs.length)=hh at *
 generalize (cM ps xs xs.length).isEmpty=bb at *
 walk_at "!%"
end
def CG:run T W (n+1) "is_whole" [.sh (.int i)]=some (.ok (.sh (.bl true)),[.sh (.int i)]):=by
 rw[bO G8 rfl rfl];unfold j9
 walk_at "!"
def L5(h1:a<=i)(h2:i<=b):run T W (n+2) "is_within" [.sh (.int i),.sh (.int a),.sh (.int b)]=some (.ok (.sh (.bl true)),[.sh (.int i),.sh (.int a),.sh (.int b)]):=by
 rw[bO EL rfl rfl];unfold jD;have c1:decide (a<=i)=true:=Zn h1;have c2:decide (i<=b)=true:=Zn h2
 walk_at "!CG"
theorem r8:∀{j:Nat} {l:List S} {U:Env},exs P C W (l.take j) U=some (.nx,U')->exs P C W l U=exs P C W (l.drop j) U'
 | 0,l,U,h=>by
  rw[List.take_zero,xP] at h;cases h;rfl
 |j+1,[],U,h=>by
  rw[List.take_nil,xP] at h;cases h;rfl
 |j+1,s::l,U,h=>by
  rw[List.take_succ_cons,dW] at h;rw[dW,List.drop_succ_cons]
  generalize ex P C W s U=r at *
  obtain _ | ⟨fl,U1⟩:=r
  ·cases h
  ·cases fl with
   |nx=>exact r8 h
   |_=>cases h
noncomputable def eZ:List (Int×Int)->Int->List Int->List (Int×Int)
 |kv,_,[]=>kv
 |kv,i,v::r=>eZ (fN kv v i) (i+1) r
noncomputable def nm(os:List Int):List (Int×Int):=eZ [(0,0)] 1 os
theorem rW:∀(a:List Int) (kv:List (Int×Int)) (i:Int),eZ kv i (a++[v])=fN (eZ kv i a) v (i+a.length)
 |[],kv,i=>by simp[eZ]
 |u::a,kv,i=>by(simp only[List.cons_append,eZ,rW a];congr 1;simp only[Zk];omega)
def Q3:(fN kv a b).length<=kv.length+1:=by unfold fN;split<;>simp
theorem rQ:∀(a:List Int) (kv:List (Int×Int)) (i:Int),(eZ kv i a).length<=kv.length+a.length
 |[],kv,i=>by simp[eZ]
 |u::a,kv,i=>by(have h1:=rQ a (fN kv u i) (i+1);have h2:=Q3 (kv:=kv) (a:=u) (b:=i);simp only[eZ,Zk];omega)
noncomputable def lk(kv:List (Int×Int))(v:Int):Int:=(bF kv v).getD 0
noncomputable def IJ(kv:List (Int×Int))(x:PySem.Str)(d:D):List D->D
 |[.int v,.int w]=>if(x == "above")=true then .tup [.str "above",.int (lk kv v),.int (lk kv w)] else d
 |_=>d
noncomputable def fW(kv:List (Int×Int)):D->D
 |.tup (.str x::r)=>IJ kv x (.tup (.str x::r)) r
 |d=>d
inductive Shp(ma:Int):D->Prop
 |oth (x:PySem.Str) (r:List D) (hx:(x == "above")=false):Shp ma (.tup (.str x::r))
 |abv (v w:Int) (h1:0<=v) (h2:v<=ma) (h3:0<=w) (h4:w<=ma):Shp ma (.tup [.str "above",.int v,.int w])
def wL{x:PySem.Str}(hx:(x == "above")=false):fW kv (.tup (.str x::r))=.tup (.str x::r):=by
 show IJ kv x _ r=_;unfold IJ;split
 ·rw[hx];simp
 ·rfl
def xX:fW kv (.tup [.str "above",.int v,.int w])=.tup [.str "above",.int (lk kv v),.int (lk kv w)]:=by
 simp only[fW,IJ];rw[Zo (by decide +kernel)]
def qI(h:RuleD no ba oc ma d):Shp ma d:=by
 cases h with
 |above v w h1 h2 h3=>exact .abv _ _ (by omega) h1 (by omega) h2
 |span a b _ _ _ _=>exact .oth _ _ pH
 |leap a _ _=>exact .oth _ _ pB
 |back a b _ _ _ _=>exact .oth _ _ pE
 |again a _ _=>exact .oth _ _ nV
 |range a b _ _ _=>exact .oth _ _ n0
 |never a b x _ _ _ _ _=>exact .oth _ _ nZ
def Lk(kv:List (Int×Int))(ma mb:Int):Prop:=∀v:Int,0<=v->v<=ma->bF kv v=some (lk kv v)/\0<=lk kv v/\lk kv v<=mb
def nK(h:bF kv v=some x):fH (some (.dct kv)) (.int v)=some (.sh (.int x)):=by
 show((bF kv v).map D.int).map _=_;rw[h];rfl
def uS{x:PySem.Str}(hx:(x == "above")=false):bV .NotEq (.str x) (.str "above")=some true:=by
 rw[Q5 rfl rfl];simp only[dN,hx];rfl
def qY:bV .NotEq (.str "above") (.str "above")=some false:=IT rfl
def B6{d:D}(h:Shp ma d)(k:Lk kv ma mb) :
  run T W (n+1) "renamed" [.sh d,.p (.dct kv)]=some (.ok (.sh (fW kv d)),[.sh d,.p (.dct kv)]):=by
 rw[bO yM rfl rfl];unfold jO
 cases h with
 |oth x r hx =>
  have e:=uS hx
  have e0:fH (some (.tup (.str x::r))) (.int 0)=some (.sh (.str x)):=by
   have:kR (.str x::r) ((0:Nat):Int)=some (.str x):=L2.fE rfl
   show(kR (.str x::r) ((0:Nat):Int)).map _=_;rw[this];rfl
  rw[wL hx]
  walk_at "!"
 |abv v w h1 h2 h3 h4 =>
  have e:=qY;have k1:=nK (k v h1 h2).1;have k2:=nK (k w h3 h4).1;rw[xX]
  walk_at "!"
def pY(h:(List.range m).map f=pre++d::post):pre.length<m/\d=f pre.length:=by
 have hl:pre.length<m:=by
  have:=congrArg List.length h
  simp at this;omega
 have e:=congrArg (·[pre.length]?) h;simp only[Zh,List.getElem?_range hl,Option.map_some,List.getElem?_append_right (Zq _),Nat.sub_self,zt] at e;exact⟨hl,(Option.some.inj e).symm⟩
noncomputable def dM(fs:List (Int×Int×Bool))(os:List Int):List (Int×Int×Bool):=os.map λv=>fs.getD (v-1).toNat (0,0,false)
def SA{fs:List (Int×Int×Bool)}{v:Int}(h1:1<=v)(h2:v<=fs.length):fH (some (.tup (fs.map dF))) (.int (v-1))=some (.sh (dF (fs.getD (v-1).toNat (0,0,false)))):=by
 have hv:v-1=((v-1).toNat:Int):=by omega
 have hl:(v-1).toNat<fs.length:=by omega
 rw[hv,Int.toNat_natCast];show(kR _ _).map _=_
 have:kR (fs.map dF) ((v-1).toNat:Int)=some (dF (fs.getD (v-1).toNat (0,0,false))):=by
  apply L2.fE
  rw[Zh,List.getD_eq_getElem?_getD,Zb hl];rfl
 rw[this];rfl
def E8(h:bZ lo xs=pre++d::post):pre.length<xs.length/\d=.tup [.int (lo+(pre.length:Int)),xs.getD pre.length .non]:=pY h
def yV{os:List Int}(h:j<os.length):(os.map D.int).getD j .non=.int os[j]:=by
 rw[List.getD_eq_getElem?_getD,Zh,Zb h];rfl
def uH :
  run T W (n+1) "with_parts" [.sh (aA no ba oc fs rs),.p (.lst (gs.map dF)),.p (.lst ss)]=some (.ok (.sh (aA no ba oc gs ss)),[.sh (aA no ba oc fs rs),.p (.lst (gs.map dF)),.p (.lst ss)]):=by
 rw[bO B8 rfl rfl];unfold iN aA
 walk_at "!"
def VI{os:List Int}(h:j<os.length):fH (some (.lst (os.map D.int))) (.int j)=some (.sh (.int os[j])):=by
 have:kR (os.map D.int) (j:Int)=some (.int os[j]):=L2.fE (by rw[Zh,Zb h];rfl)
 show(kR _ _).map _=_;rw[this];rfl
inductive Ord:Nat->List Int->Prop
 |nil:Ord 0 []
 |ins {j n:Nat} {os:List Int} (h:Ord j os) (hn:n<=j):Ord (j+1) (os.take n++((j:Int)+1)::os.drop n)
def Ord.len(h:Ord j os):os.length=j:=by
 induction h with
 |nil=>rfl
 |ins h hn ih=>rw[Za,Zk,List.length_take,List.length_drop];omega
def aCZ(h:Ord 1 os):os=[1]:=by
 cases h with
 |ins h hn=>cases h;simp
def aAi(h:Ord 2 os):os=[2,1]\/os=[1,2]:=by
 cases h with
 | @ins j n os h hn =>
  rw[aCZ h]
  have:n=0\/n=1:=by omega
  rcases this with rfl | rfl<;>simp
def aGA(h:Ord 3 os):os=[3,2,1]\/os=[2,3,1]\/os=[2,1,3]\/os=[3,1,2]\/os=[1,3,2]\/os=[1,2,3]:=by
 cases h with
 | @ins j n os h hn =>
  have:n=0\/n=1\/n=2:=by omega
  rcases aAi h with rfl | rfl<;>rcases this with rfl | rfl | rfl<;>simp
def HD{W n m:Nat}(hm:m<=100):∃s' os,run T W (n+2) "L_order" [.p (.lst [.int k,.int s]),.sh (.int m)]=some (.ok (.ow (.lst (os.map D.int))),[.p (.lst [.int k,.int s']),.sh (.int m)])/\Ord m os:=by
 rw[bO KC rfl rfl];unfold lE
 have hi:aD .rng [.slot 1] [.p (.lst [.int k,.int s]),.sh (.int m),.o (.lst []),.un]=some (rg m,none):=by(refine Eq.trans (mV (n:=(m:Int)) rfl (by omega) (by omega)) ?_;rw[Int.toNat_natCast])
 obtain⟨U1,e1,s',os,t3,rfl,ht3,ho⟩:=b4 (bind:=aT true [3]) (body:=exs T.pins (run T W (n+1)) W l3)
  (λpre U=>∃s' os t3,U=[.p (.lst [.int k,.int s']),.sh (.int m),.o (.lst (os.map D.int)),t3]/\bE t3=true/\Ord pre.length os)
  (ds:=rg m) (λpre d post hds U hU=>by
   obtain⟨s',os,t3,rfl,ht3,ho⟩:=hU;obtain⟨hl,rfl⟩:=pY hds;refine⟨_,by simp only[fA,aZ ht3]<;>rfl, ?_⟩;have hol:=ho.len;obtain⟨j,hj⟩:∃j,j=pre.length:=⟨_,rfl⟩
   rw[<- hj] at hl hol ho ⊢;have g1:0<(j:Int)+1:=by omega
   have g2:(j:Int)+1<nofun:=by omega
   have v1:=bA (k:=k) (s:=s') g1;have v2:=a8 (k:=k) (s:=s') g1;have v3:aP k s' ((j:Int)+1)<=1000000:=by omega
   have hsm:aJ ((os.map D.int).length+1)=true:=d5 (by rw[List.length_map];omega);have hn:=Ord.ins (n:=(aP k s' ((j:Int)+1)).toNat) ho (by omega);rw[Za,Zg,<- hj];unfold l3;clear hds hi ht3 hl v2 ho hol hj
   walk_at "!bQ"
   refine⟨_,rfl,aE k s' ((j:Int)+1),_,.sh (.int j), ?_,rfl,hn⟩
   simp only[RV.d,List.map_append,Zs,List.map_take,List.map_drop])
  (U:=[.p (.lst [.int k,.int s]),.sh (.int m),.o (.lst []),.un]) ⟨_,[],_,rfl,rfl,.nil⟩
 rw[List.length_map,List.length_range] at ho;refine⟨s',os, ?_,ho⟩
 walk_at "!bQ"
def L1(hl:os.length<=100)(hos:∀v∈os,1<=v/\v<=fs.length)(hr:∀d∈rs,Shp ma d)(hrl:rs.length<=100)(hk:Lk (nm os) ma mb) :
  run T W (n+2) "exchanged" [.sh (aA no ba oc fs rs),.p (.lst (os.map D.int))]=some (.ok (.sh (aA no ba oc (dM fs os) (rs.map (fW (nm os))))),[.sh (aA no ba oc fs rs),.p (.lst (os.map D.int))]):=by
 rw[bO D5 rfl rfl];unfold jM;have hi:aD (.enum 1) [.slot 1] [.sh (aA no ba oc fs rs),.p (.lst (os.map D.int)),.o (.dct [(0,0)]),.un,.un,.un]=some (bZ 1 (os.map D.int),some 1):=UB rfl
 obtain⟨U1,e1,t3,t4,rfl,ht3,ht4⟩:=b4 (bind:=aT false [3,4]) (body:=exs T.pins (run T W (n+1)) W j6)
  (λpre U=>∃t3 t4,U=[.sh (aA no ba oc fs rs),.un,.o (.dct (eZ [(0,0)] 1 (os.take pre.length))),t3,t4,.un]/\bE t3=true/\bE t4=true)
  (ds:=bZ 1 (os.map D.int)) (λpre d post hds U hU=>by
   obtain⟨t3,t4,rfl,ht3,ht4⟩:=hU;obtain⟨hpl,rfl⟩:=E8 hds;rw[List.length_map] at hpl;rw[yV hpl];refine⟨_,by simp only[fA,aZ ht3,aZ ht4]<;>rfl, ?_⟩
   have hz:aJ ((eZ [(0,0)] 1 (os.take pre.length)).length+1)=true:=d5 (by
    have:=rQ (os.take pre.length) [(0,0)] 1
    rw[List.length_take] at this;simp at this
    omega)
   have hn:eZ [(0,0)] 1 (os.take (pre++[D.tup [.int (1+(pre.length:Int)),.int os[pre.length]]]).length)=fN (eZ [(0,0)] 1 (os.take pre.length)) os[pre.length] (1+(pre.length:Int)):=by(rw[Za,Zg,List.take_add_one,Zb hpl];show eZ _ _ (_++[_])=_;rw[rW,List.length_take,Nat.min_eq_left (by omega)])
   unfold j6;rw[hn];clear hn hds hi hos hr hk hl hrl ht3 ht4
   walk_at "!"
   exact⟨_,rfl,_,_,rfl,rfl,rfl⟩)
  (U:=[.sh (aA no ba oc fs rs),.un,.o (.dct [(0,0)]),.un,.un,.un]) ⟨_,_,rfl,rfl,rfl⟩
 have hel:(bZ 1 (os.map D.int)).length=os.length:=by simp[bZ]
 rw[hel,List.take_length] at e1
 obtain⟨Ui,e2,u2,rfl,hu2⟩:=oI (P:=T.pins) (C:=run T W (n+1)) (elt:=ev T.pins (run T W (n+1)) false jR) (bind:=aT true [2]) (ds:=os.map D.int)
  (λd=>match d with | .int v=>dF (fs.getD (v-1).toNat (0,0,false)) | d=>d) (λU=>∃u2,U=[.sh (aA no ba oc fs rs),.un,u2]/\bE u2=true)
  (λd hd U hU=>by
   obtain⟨u2,rfl,hu2⟩:=hU;obtain⟨v,hv,rfl⟩:=zo.mp hd;have hx:=SA (hos v hv).1 (hos v hv).2;refine⟨_,.sh (dF (fs.getD (v-1).toNat (0,0,false))),[.sh (aA no ba oc fs rs),.un,.sh (.int v)],by simp only[fA,aZ hu2]<;>rfl, ?_,rfl,_,rfl,rfl⟩;unfold jR;clear hd hv hos hr hk hl hrl e1 hi ht3 ht4 hu2
   walk_at "!") (U:=[.sh (aA no ba oc fs rs),.un,.un]) ⟨_,rfl,rfl⟩
 have hm:(os.map D.int).map (λd=>match d with | .int v=>dF (fs.getD (v-1).toNat (0,0,false)) | d=>d)=(dM fs os).map dF:=by(unfold dM;rw[List.map_map,List.map_map];rfl)
 rw[hm] at e2
 obtain⟨Uj,e3,u3,rfl,hu3⟩:=oI (P:=T.pins) (C:=run T W (n+1)) (elt:=ev T.pins (run T W (n+1)) false j5) (bind:=aT true [2]) (ds:=rs)
  (fW (nm os)) (λU=>∃u2,U=[.p (.dct (nm os)),.un,u2]/\bE u2=true)
  (λd hd U hU=>by
   obtain⟨u2,rfl,hu2⟩:=hU;have hx:=B6 (W:=W) (n:=n) (hr d hd) hk;refine⟨_,.sh (fW (nm os) d),[.p (.dct (nm os)),.un,.sh d],by simp only[fA,aZ hu2]<;>rfl, ?_,rfl,_,rfl,rfl⟩;unfold j5;clear hd hos hr hk hl hrl e1 e2 hi ht3 ht4 hu2
   walk_at "!") (U:=[.p (.dct (nm os)),.un,.un]) ⟨_,rfl,rfl⟩
 have hp:=uH (W:=W) (n:=n) (no:=no) (ba:=ba) (oc:=oc) (fs:=fs) (gs:=dM fs os) (rs:=rs) (ss:=rs.map (fW (nm os)));have z1:aJ ((dM fs os).map dF).length=true:=d5 (by simp[dM];omega);have z2:aJ (rs.map (fW (nm os))).length=true:=d5 (by rw[List.length_map];omega);have hnm:eZ [(0,0)] 1 os=nm os:=rfl;rw[hnm] at e1;clear hos hr hk hl hrl hel hm ht3 ht4 hu2 hu3
 walk_at "!"
 simp only[aK,List.set_cons_zero,List.set_cons_succ,e1,cJ.restore,cQ,zt,zr,Option.map_some]
 walk_at "!"
 rw[EZ (F4 rfl)];simp only[aK,List.set_cons_zero,List.set_cons_succ]
 walk_at "!"
 simp only[gZ,cQ,zt,zr,List.set_cons_zero,List.set_cons_succ,Option.map_some]
 walk_at "!"
 rw[cZ (F7 rfl)]
 walk_at "!"
def oB{bind:D->Env->Option Env}(keep:D->Bool)(val:D->D)(J:Env->Prop)
  (step:∀d∈ds,∀U,J U->∃U1 U2,bind d U=some U1/\tests U1=some (.ok (.sh (.bl (keep d))),U2)/\(keep d=true->∃v U3,elt U2=some (.ok v,U3)/\v.d=val d/\J U3)/\(keep d=false->J U2)) (h:J U) :
  ∃U',d7 tests elt bind ds [] U=some (.ok ((ds.filter keep).map val),U')/\J U':=by
 obtain⟨acc,U',e,⟨rfl,hJ⟩,_⟩:=gX (λj acc U=>acc=((ds.take j).filter keep).map val/\J U)
  (λj d hd acc U hz=>by
   obtain⟨ha,hJ⟩:=hz;obtain⟨U1,U2,h1,h2,h3,h4⟩:=step d (zj hd) U hJ;refine⟨U1,keep d,U2,h1,h2,λhk=>?_,λhk=>⟨?_,h4 hk⟩⟩
   ·obtain⟨v,U3,h5,h6,h7⟩:=h3 hk;refine⟨v,U3,h5, ?_,h7⟩;rw[ha,h6,List.take_add_one,hd];simp[List.filter_append,hk]
   ·rw[ha,List.take_add_one,hd]
    simp[List.filter_append,hk]) [] U ⟨by simp,h⟩
 refine⟨U', ?_,hJ⟩;rw[e,List.take_length]
noncomputable def iE(m:Nat)(v:Int):List Int:=((List.range (m+1)).map λ(j:Nat)=>(j:Int)).filter λx=>!decide (x=v)
noncomputable def lf(m:Nat)(v:Int):List Int:=((List.range m).map λ(j:Nat)=>1+(j:Int)).filter λx=>!decide (x=v)
noncomputable def WB(m:Nat)(v:Int):Bool:=decide (eZ [] 0 (iE m v)=nm (lf m v))&&(decide ((iE m v).filter (λx=>decide (0<x))=lf m v)&&((lf m v).all (λx=>decide (1<=x)&&decide (x<=m))&&((List.range (m+1)).all (λ(a:Nat)=>decide ((a:Int)=v)||(decide (bF (nm (lf m v)) a=some (lk (nm (lf m v)) a))&&(decide (0<=lk (nm (lf m v)) a)&&decide (lk (nm (lf m v)) a<=m))))&&decide (bF (nm (lf m v)) v=none))))
structure WF(m:Nat)(v:Int):Prop where
 a:eZ [] 0 (iE m v)=nm (lf m v)
 b:(iE m v).filter (λx=>decide (0<x))=lf m v
 c:∀x∈lf m v,1<=x/\x<=(m:Int)
 d:∀a:Int,0<=a->a<=m->a≠v->bF (nm (lf m v)) a=some (lk (nm (lf m v)) a)/\0<=lk (nm (lf m v)) a/\lk (nm (lf m v)) a<=m
 e:bF (nm (lf m v)) v=none
def US(h:WB m v=true):WF m v:=by
 simp only[WB,ZB,decide_eq_true_eq,List.all_eq_true] at h;obtain⟨h1,h2,h3,h4,h5⟩:=h;refine⟨h1,h2,h3,λa a1 a2 a3=>?_,h5⟩;have z:=h4 a.toNat (List.mem_range.mpr (by omega));have e:((a.toNat:Nat):Int)=a:=by omega
 rw[e,Bool.or_eq_true] at z;rcases z with z | z
 ·exact absurd (of_decide_eq_true z) a3
 ·simp only[ZB,decide_eq_true_eq] at z;exact z
def wf{m:Nat}{v:Int}(h1:1<=v)(h2:v<=m)(h3:2<=m)(h4:m<=3):WF m v:=by
 have hm:m=2\/m=3:=by omega
 rcases hm with rfl | rfl
 ·have hv:v=1\/v=2:=by omega
  rcases hv with rfl | rfl<;>exact US (by decide)
 ·have hv:v=1\/v=2\/v=3:=by omega
  rcases hv with rfl | rfl | rfl<;>exact US (by decide)
noncomputable def GN(v:Int)(x:PySem.Str):List D->Bool
 |[.int a,.int b]=>(x == "above")&&(a==v||b==v)
 |_=>false
noncomputable def iD(v:Int):D->Bool
 |.tup (.str x::r)=>GN v x r
 |_=>false
def FP{x:PySem.Str}(hx:(x == "above")=false):iD v (.tup (.str x::r))=false:=by
 show GN v x r=false;unfold GN;split
 ·rw[hx];rfl
 ·rfl
def xE:iD v (.tup [.str "above",.int a,.int b])=(a==v||b==v):=by
 simp only[iD,GN];rw[show(("above":PySem.Str) == "above")=true from by decide +kernel,Bool.true_and]
def aDx{x:PySem.Str}(hx:(x == "above")=false):bV .Eq (.str x) (.str "above")=some false:=by
 rw[aAL rfl rfl];simp only[dN,hx]
def YA:bV .Eq (.str "above") (.str "above")=some true:=TF rfl
def GX{d:D}(h:Shp ma d):run T W (n+1) "names" [.sh d,.sh (.int v)]=some (.ok (.sh (.bl (iD v d))),[.sh d,.sh (.int v)]):=by
 rw[bO VS rfl rfl];unfold o6
 cases h with
 |oth x r hx =>
  have e:=aDx hx
  have e0:fH (some (.tup (.str x::r))) (.int 0)=some (.sh (.str x)):=by
   have:kR (.str x::r) ((0:Nat):Int)=some (.str x):=L2.fE rfl
   show(kR (.str x::r) ((0:Nat):Int)).map _=_;rw[this];rfl
  rw[FP hx]
  walk_at "!"
 |abv a b h1 h2 h3 h4 =>
  have e:=YA;have e1:MV (some (.tup [.str "above",.int a,.int b])) (some (.int 1)) none=some (.sh (.tup [.int a,.int b])):=rfl
  have e2:bV .In (.int v) (.tup [.int a,.int b])=some (a==v||b==v):=by(show some (sS _ _)=_;simp only[sS,List.any_cons,List.any_nil,dN,Bool.or_false])
  rw[xE]
  walk_at "!"
def Shp.ne(h:Shp ma d)(k:iD v d=false):(∃x r,d=.tup (.str x::r)/\(x == "above")=false)\/∃a b,d=.tup [.str "above",.int a,.int b]/\0<=a/\a<=ma/\0<=b/\b<=ma/\a≠v/\b≠v:=by
 cases h with
 |oth x r hx=>exact .inl ⟨x,r,rfl,hx⟩
 |abv a b h1 h2 h3 h4 =>
  rw[xE,Bool.or_eq_false_iff] at k;exact .inr ⟨a,b,rfl,h1,h2,h3,h4,by simpa using k.1,by simpa using k.2⟩
def RF{d:D}(w:WF m v)(h:Shp m d)(k:iD v d=false):run T W (n+1) "renamed" [.sh d,.p (.dct (nm (lf m v)))]=some (.ok (.sh (fW (nm (lf m v)) d)),[.sh d,.p (.dct (nm (lf m v)))]):=by
 rw[bO yM rfl rfl];unfold jO;rcases h.ne k with ⟨x,r,rfl,hx⟩ | ⟨a,b,rfl,h1,h2,h3,h4,h5,h6⟩
 ·have e:=uS hx
  have e0:fH (some (.tup (.str x::r))) (.int 0)=some (.sh (.str x)):=by
   have:kR (.str x::r) ((0:Nat):Int)=some (.str x):=L2.fE rfl
   show(kR (.str x::r) ((0:Nat):Int)).map _=_;rw[this];rfl
  rw[wL hx]
  walk_at "!"
 ·have e:=qY;have k1:=nK (w.d a h1 h2 h5).1;have k2:=nK (w.d b h3 h4 h6).1;rw[xX]
  walk_at "!"
def TZ:bV .NotEq (.int i) (.int j)=some (!decide (i=j)):=by
 rw[Q5 rfl rfl];rfl
def uA{l:List Int}(h:∀x,q (.int x)=p x):(l.map D.int).filter q=(l.filter p).map D.int:=by
 rw[List.filter_map];congr 1;exact List.filter_congr λx _=>h x
noncomputable def neq(v:Int):D->Bool
 |.int x=>!decide (x=v)
 |_=>false
noncomputable def pos:D->Bool
 |.int x=>decide (0<x)
 |_=>false
noncomputable def UN(fs:List (Int×Int×Bool)):D->D
 |.int v=>dF (fs.getD (v-1).toNat (0,0,false))
 |d=>d
def YI:(os.map D.int).map (UN fs)=(dM fs os).map dF:=by
 unfold dM;rw[List.map_map,List.map_map];rfl
def B0{fs:List (Int×Int×Bool)}{rs:List D}(w:WF fs.length v)(h1:1<=v)(h2:v<=fs.length)(hm:2<=fs.length)(hm3:fs.length<=3)(hr:∀d∈rs,Shp (fs.length:Int) d)(hrl:rs.length<=100) :
  run T W (n+3) "without" [.sh (aA no ba oc fs rs),.sh (.int v)]=some (.ok (.sh (aA no ba oc (dM fs (lf fs.length v)) ((rs.filter λd=>!iD v d).map (fW (nm (lf fs.length v)))))),[.sh (aA no ba oc fs rs),.sh (.int v)]):=by
 rw[bO LZ rfl rfl];unfold kZ;obtain⟨m,hmm⟩:∃m,fs.length=m:=⟨_,rfl⟩
 rw[hmm] at w h2 hm hm3 hr ⊢;have i3:fH (some (aA no ba oc fs rs)) (.int 3)=some (.sh (.tup (fs.map dF))):=rfl;have i4:fH (some (aA no ba oc fs rs)) (.int 4)=some (.sh (.tup rs)):=rfl;have hl:((fs.map dF).length:Int)=(m:Int):=by rw[List.length_map,hmm]
 have hw:=L5 (W:=W) (n:=n) (i:=v) (a:=1) (b:=m) h1 h2;have hne:bV .Eq (.int m) (.int 1)=some false:=by rw[TB];exact congrArg some (Zm (by omega))
 have nG:∀U,aD .rng [.val (.sh (.int ((m:Int)+1)))] U=some (rg (m+1),none):=λU=>by(refine Eq.trans (mV (n:=(m:Int)+1) rfl (by omega) (by omega)) ?_;rw[show((m:Int)+1).toNat=m+1 by omega])
 obtain⟨Ua,ea,t2,rfl,ht2⟩:=oB (tests:=cR T.pins (run T W (n+2)) [.cmp .NotEq (.var 2) (.var 0)]) (elt:=ev T.pins (run T W (n+2)) false mC) (bind:=aT true [2]) (ds:=rg (m+1))
  (neq v) id (λU=>∃t2,U=[.sh (.int v),.un,t2]/\bE t2=true)
  (λd hd U hU=>by
   obtain⟨t2,rfl,ht2⟩:=hU;obtain⟨j,hj,rfl⟩:=zo.mp hd;have hc:=TZ (i:=(j:Int)) (j:=v);refine⟨[.sh (.int v),.un,.sh (.int j)],[.sh (.int v),.un,.sh (.int j)],by simp only[fA,aZ ht2]<;>rfl, ?_,λ_=>⟨.sh (.int j),[.sh (.int v),.un,.sh (.int j)], ?_,rfl,_,rfl,rfl⟩,λ_=>⟨_,rfl,rfl⟩⟩
   ·show(_:aR RV)=some (Out.ok (RV.sh (.bl (!decide ((j:Int)=v)))),_);clear hd hj ht2 w hr i3 i4 hl hw hne nG h1 h2;cases hb:!decide ((j:Int)=v)<;>rw[hb] at hc<;>walk_at "!"
   ·unfold mC
    walk_at "!") (U:=[.sh (.int v),.un,.un]) ⟨_,rfl,rfl⟩
 have hfa:((rg (m+1)).filter (neq v)).map id=(iE m v).map D.int:=by
  rw[List.map_id]
  have:(rg (m+1))=((List.range (m+1)).map λ(j:Nat)=>(j:Int)).map D.int:=by rw[List.map_map];rfl
  rw[this];exact uA λx=>rfl
 rw[hfa] at ea
 have hll:(iE m v).length<=100:=by(unfold iE;refine Zr (List.length_filter_le _ _) ?_;simp;omega)
 obtain⟨U1,e1,u6,u3,rfl,hu6,hu3⟩:=b4 (bind:=aT false [6,3]) (body:=exs T.pins (run T W (n+2)) W l4)
  (λpre U=>∃u6 u3,U=[.sh (aA no ba oc fs rs),.sh (.int v),.sh (.int m),u3,.un,.o (.dct (eZ [] 0 ((iE m v).take pre.length))),u6,.un]/\bE u6=true/\bE u3=true)
  (ds:=bZ 0 ((iE m v).map D.int)) (λpre d post hds U hU=>by
   obtain⟨u6,u3,rfl,hu6,hu3⟩:=hU;obtain⟨hpl,rfl⟩:=E8 hds;rw[List.length_map] at hpl;rw[yV hpl];refine⟨_,by simp only[fA,aZ hu6,aZ hu3]<;>rfl, ?_⟩
   have hz:aJ ((eZ [] 0 ((iE m v).take pre.length)).length+1)=true:=d5 (by
    have:=rQ ((iE m v).take pre.length) [] 0
    rw[List.length_take] at this;simp at this
    omega)
   have hn:eZ [] 0 ((iE m v).take (pre++[D.tup [.int (0+(pre.length:Int)),.int (iE m v)[pre.length]]]).length)=fN (eZ [] 0 ((iE m v).take pre.length)) (iE m v)[pre.length] (0+(pre.length:Int)):=by(rw[Za,Zg,List.take_add_one,Zb hpl];show eZ _ _ (_++[_])=_;rw[rW,List.length_take,Nat.min_eq_left (by omega)])
   unfold l4;rw[hn]
   walk_at "!"
   exact⟨_,rfl,_,_,rfl,rfl,rfl⟩)
  (U:=[.sh (aA no ba oc fs rs),.sh (.int v),.sh (.int m),.un,.un,.o (.dct []),.un,.un]) ⟨_,_,rfl,rfl,rfl⟩
 have hel:(bZ 0 ((iE m v).map D.int)).length=(iE m v).length:=by simp[bZ]
 rw[hel,List.take_length,w.a] at e1
 obtain⟨Ub,eb,t3,rfl,ht3⟩:=oB (tests:=cR T.pins (run T W (n+2)) [.cmp .Gt (.var 2) (.con (.int 0))]) (elt:=ev T.pins (run T W (n+2)) false lP) (bind:=aT true [2]) (ds:=(iE m v).map D.int)
  pos (UN fs) (λU=>∃t2,U=[.sh (aA no ba oc fs rs),.un,t2]/\bE t2=true)
  (λd hd U hU=>by
   obtain⟨t2,rfl,ht2⟩:=hU;obtain⟨j,hj,rfl⟩:=zo.mp hd;have hc:bV .Gt (.int j) (.int 0)=some (decide (0<j)):=Z4;refine⟨[.sh (aA no ba oc fs rs),.un,.sh (.int j)],[.sh (aA no ba oc fs rs),.un,.sh (.int j)],by simp only[fA,aZ ht2]<;>rfl, ?_,λhp=>⟨.sh (UN fs (.int j)),[.sh (aA no ba oc fs rs),.un,.sh (.int j)], ?_,rfl,_,rfl,rfl⟩,λ_=>⟨_,rfl,rfl⟩⟩
   ·show(_:aR RV)=some (Out.ok (RV.sh (.bl (decide (0<j)))),_);cases hb:decide (0<j)<;>rw[hb] at hc<;>walk_at "!"
   ·have hin:j∈lf m v:=by rw[<- w.b];exact List.mem_filter.mpr ⟨hj,hp⟩
    have hx:=SA (fs:=fs) (w.c j hin).1 (by rw[hmm];exact(w.c j hin).2);show _=some (Out.ok (RV.sh (dF (fs.getD (j-1).toNat (0,0,false)))),_);unfold lP;clear hd hj ht2 w hr i4 hl hw hne nG h1 h2 ea e1 hfa hc hin hp
    walk_at "!") (U:=[.sh (aA no ba oc fs rs),.un,.un]) ⟨_,rfl,rfl⟩
 have hfb:(((iE m v).map D.int).filter pos).map (UN fs)=(dM fs (lf m v)).map dF:=by(rw[uA (p:=λx=>decide (0<x)) (λx=>rfl),w.b,YI])
 rw[hfb] at eb
 obtain⟨Uc,ec,t4,rfl,ht4⟩:=oB (tests:=cR T.pins (run T W (n+2)) [.not (.call "names" [.var 3,.var 1])]) (elt:=ev T.pins (run T W (n+2)) false lT) (bind:=aT true [3]) (ds:=rs)
  (λd=>!iD v d) (fW (nm (lf m v))) (λU=>∃t2,U=[.p (.dct (nm (lf m v))),.sh (.int v),.un,t2]/\bE t2=true)
  (λd hd U hU=>by
   obtain⟨t2,rfl,ht2⟩:=hU;have hna:=GX (W:=W) (n:=n+1) (v:=v) (hr d hd);refine⟨[.p (.dct (nm (lf m v))),.sh (.int v),.un,.sh d],[.p (.dct (nm (lf m v))),.sh (.int v),.un,.sh d],by simp only[fA,aZ ht2]<;>rfl, ?_,λhp=>⟨.sh (fW (nm (lf m v)) d),[.p (.dct (nm (lf m v))),.sh (.int v),.un,.sh d], ?_,rfl,_,rfl,rfl⟩,λ_=>⟨_,rfl,rfl⟩⟩
   ·clear hd ht2 w hr i3 i4 hl hw hne nG h1 h2 ea e1 eb hfa hfb;cases hb:iD v d<;>rw[hb] at hna<;>walk_at "!"<;>rfl
   ·have hx:=RF (W:=W) (n:=n+1) w (hr d hd) (by simpa using hp);unfold lT;clear hd ht2 w hr i3 i4 hl hw hne nG h1 h2 ea e1 eb hfa hfb hna hp
    walk_at "!") (U:=[.p (.dct (nm (lf m v))),.sh (.int v),.un,.un]) ⟨_,rfl,rfl⟩
 have hp:=uH (W:=W) (n:=n+1) (no:=no) (ba:=ba) (oc:=oc) (fs:=fs) (gs:=dM fs (lf m v)) (rs:=rs) (ss:=(rs.filter λd=>!iD v d).map (fW (nm (lf m v))));have hlf:(lf m v).length<=100:=by rw[<- w.b];exact Zr (List.length_filter_le _ _) hll
 have z0:aJ ((iE m v).map D.int).length=true:=d5 (by rw[List.length_map];omega);have z1:aJ ((dM fs (lf m v)).map dF).length=true:=d5 (by simp[dM];omega);have z2:aJ ((rs.filter λd=>!iD v d).map (fW (nm (lf m v)))).length=true:=d5 (by rw[List.length_map];exact Zr (List.length_filter_le _ _) (by omega));have iM:aD (.enum 0) [.slot 4] [.sh (aA no ba oc fs rs),.sh (.int v),.sh (.int m),.un,.o (.lst ((iE m v).map D.int)),.o (.dct []),.un,.un]=some (bZ 0 ((iE m v).map D.int),some 4):=by simp only[aD,zt,zr]
 clear hr hrl hel ht2 ht3 ht4 hu3 hu6 w h1 h2 hm hm3 hfa hfb hlf hll hmm
 walk_at "!"
 rw[cZ (nG _)]
 walk_at "!"
 simp only[aK,List.set_cons_zero,List.set_cons_succ,e1,cJ.restore,cQ,zt,zr,Option.map_some]
 walk_at "!"
 rw[EZ (F4 rfl)];simp only[aK,List.set_cons_zero,List.set_cons_succ]
 walk_at "!"
 simp only[gZ,cQ,zt,zr,List.set_cons_zero,List.set_cons_succ,Option.map_some]
 walk_at "!"
 rw[cZ (F7 rfl)]
 walk_at "!"
noncomputable def f7(kv:List (Int×Int))(is:List Int):Bool:=is.all λv=>(bF kv v).isSome
noncomputable def mW(kv:List (Int×Int))(is:List Int):List Int:=iQ (is.map (lk kv))
noncomputable def zF(os:List Int)(j:Int):Int:=(0::os).getD j.toNat 0
noncomputable def B1(n:Nat):List (List Int):=iV n λ_=>true
noncomputable def B2(n:Nat):List (List Int):=cA n λ_ _=>true
noncomputable def tB(os:List Int)(v:Nat):Bool:=match bF (nm os) v with
 |none=>true
 |some j=>decide (0<=j)&&(decide (j<=os.length)&&decide (zF os j=v))
noncomputable def CB(m:Nat)(os:List Int):Bool:=decide ((B1 (os.length+1)).Perm (((B1 (m+1)).filter (f7 (nm os))).map (mW (nm os))))&&(decide ((B2 (os.length+1)).Perm (((B2 (m+1)).filter (f7 (nm os))).map (mW (nm os)))) &&
 ((List.range (m+1)).all (tB os)&&(os.all (λv=>decide (1<=v)&&decide (v<=m))&&(decide (1<=os.length)&&decide (os.length<=3)))))
structure CF(m:Nat)(os:List Int):Prop where
 p1:(B1 (os.length+1)).Perm (((B1 (m+1)).filter (f7 (nm os))).map (mW (nm os)))
 p2:(B2 (os.length+1)).Perm (((B2 (m+1)).filter (f7 (nm os))).map (mW (nm os)))
 t:∀v:Nat,v<=m->∀j,bF (nm os) v=some j->0<=j/\j<=os.length/\zF os j=v
 o:∀v∈os,1<=v/\v<=(m:Int)
 l1:1<=os.length
 l2:os.length<=3
def wD(h:CB m os=true):CF m os:=by
 simp only[CB,ZB,decide_eq_true_eq,List.all_eq_true] at h;obtain⟨h1,h2,h3,h4,h5,h6⟩:=h;refine⟨h1,h2,λv hv j hj=>?_,h4,h5,h6⟩
 have:=h3 v (List.mem_range.mpr (by omega))
 unfold tB at this;rw[hj] at this;simpa only[ZB,decide_eq_true_eq] using this
def BH{B B':List (List Int)}(h1:B'.Perm ((B.filter ok).map nn))(h2:∀is∈B,ok is=true->F' (nn is)=F is):(B'.filter F').Perm (((B.filter F).filter ok).map nn):=by
 refine(h1.filter F').trans (.of_eq ?_);rw[List.filter_map,List.filter_filter,List.filter_filter];congr 1;refine List.filter_congr λis his=>?_
 cases q:ok is with
 |false=>rw[Bool.and_false,Bool.false_and]
 |true=>rw[Bool.and_true,Bool.true_and];exact h2 is his q
section
variable{os:List Int}
theorem CF.lk(c:CF m os)(hv:v<=m)(h:(bF (nm os) v).isSome=true):bF (nm os) v=some (lk (nm os) v)/\0<=Mx.lk (nm os) v/\Mx.lk (nm os) v<=os.length/\zF os (Mx.lk (nm os) v)=v:=by
 obtain⟨j,hj⟩:=Option.isSome_iff_exists.mp h
 have:Mx.lk (nm os) v=j:=by unfold Mx.lk;rw[hj];rfl
 rw[this];exact⟨hj,c.t v hv j hj⟩
noncomputable def R1(S:Nat->Bool):List Int->Bool
 |[v]=>S v.toNat
 |_=>false
noncomputable def R2(A:Nat->Nat->Bool):List Int->Bool
 |[v,w]=>A v.toNat w.toNat
 |_=>false
def MD{S:Nat->Bool}:iV n S=(B1 n).filter (R1 S):=by
 unfold B1 iV;rw[List.filter_map,List.filter_filter];congr 1;refine List.filter_congr λj _=>?_
 show S j=(S (j:Int).toNat&&true);rw[Int.toNat_natCast,Bool.and_true]
def EY:cA n A=(B2 n).filter (R2 A):=(oP (P:=λ_ _=>true) (Q:=A) (R:=R2 A) λv w=>by show A (v:Int).toNat (w:Int).toNat=A v w;rw[Int.toNat_natCast,Int.toNat_natCast]).symm
def R6(c:CF m os){S S':Nat->Bool}(h:∀j:Int,0<=j->j<=os.length->S' j.toNat=S (zF os j).toNat):(iV (os.length+1) S').Perm (((iV (m+1) S).filter (f7 (nm os))).map (mW (nm os))):=by
 rw[MD,MD];refine BH c.p1 λis his ok=>?_
 obtain⟨v,hv,rfl⟩:=zo.mp his;have hv:=List.mem_range.mp (List.mem_filter.mp hv).1;simp only[f7,Zj,List.all_nil,Bool.and_true] at ok;obtain⟨_,a,b,e⟩:=c.lk (by omega) ok;show S' (Mx.lk (nm os) v).toNat=S (v:Int).toNat;rw[h _ a b,e]
def zL(c:CF m os){A A':Nat->Nat->Bool}(sy:∀v w,A v w=A w v)(h:∀j k:Int,0<=j->j<=os.length->0<=k->k<=os.length->A' j.toNat k.toNat=A (zF os j).toNat (zF os k).toNat):(cA (os.length+1) A').Perm (((cA (m+1) A).filter (f7 (nm os))).map (mW (nm os))):=by
 rw[EY,EY];refine BH c.p2 λis his ok=>?_
 obtain⟨v,w,rfl,hv,hw,_⟩:=mS his;simp only[f7,Zj,List.all_nil,Bool.and_true,ZB] at ok;obtain⟨_,a,b,e⟩:=c.lk (by omega) ok.1;obtain⟨_,a',b',e'⟩:=c.lk (v:=w) (by omega) ok.2;show R2 A' (if Mx.lk (nm os) w<Mx.lk (nm os) v then [Mx.lk (nm os) w,Mx.lk (nm os) v] else [Mx.lk (nm os) v,Mx.lk (nm os) w])=A (v:Int).toNat (w:Int).toNat;split
 ·show A' _ _=_;rw[h _ _ a' b' a b,e,e',sy]
 ·show A' _ _=_;rw[h _ _ a b a' b',e,e']
def eS{b j:Int}(c:CF fs.length os)(h0:0<=j)(hj:j<=os.length):(aS (dM fs os) xs b).getD j.toNat .non=(aS fs xs b).getD (zF os j).toNat .non:=by
 obtain⟨k,rfl⟩:=Int.eq_ofNat_of_zero_le h0;unfold zF;rw[Int.toNat_natCast]
 cases k with
 |zero=>rfl
 |succ k =>
  have hk:k<os.length:=by omega
  have:=c.o os[k] (List.getElem_mem hk)
  have e:(os[k]).toNat=(os[k]-1).toNat+1:=by omega
  rw[List.getD_cons_succ,List.getD_eq_getElem?_getD (l:=os),Zb hk];show((dA xs b _)::(dM fs os).map (dA xs b)).getD (k+1) .non=((dA xs b _)::fs.map (dA xs b)).getD (os[k]).toNat .non;rw[e,List.getD_cons_succ,List.getD_cons_succ,List.getD_eq_getElem?_getD,List.getD_eq_getElem?_getD,Zh,Zh];unfold dM;have hq:(os[k]-1).toNat<fs.length:=by omega
  rw[Zh,Zb hk,Zb hq,Option.map_some,List.getD_eq_getElem?_getD,Zb hq];rfl
def MQ(ho:HouseOk no ba oc fs)(c:CF fs.length os):HouseOk no ba oc (dM fs os):=by
 have e:(dM fs os).length=os.length:=List.length_map _;refine⟨ho.n1,ho.n2,ho.b1,ho.b2,ho.o1,ho.o2,by rw[e];exact c.l1,by rw[e];exact c.l2,λf hf=>?_⟩;obtain⟨v,hv,rfl⟩:=zo.mp hf
 have:=c.o v hv
 refine ho.f _ ?_;rw[List.getD_eq_getElem?_getD,Zb (show(v-1).toNat<fs.length by omega)];exact List.getElem_mem _
end
noncomputable def rS:D->Bool
 |.tup (.str x::_)=>x == "above"
 |_=>false
def R8:rS (.tup (.str "above" :: r))=true:=by
 show(("above":PySem.Str) == "above")=true
 decide +kernel
noncomputable def nw(kv:List (Int×Int))(d:D)(is:List Int):List Int:=if rS d=true then is.map (lk kv) else mW kv is
def aAZ{x:PySem.Str}(h:(x == "above")=false):nw kv (.tup (.str x::r))=mW kv:=by
 funext is
 unfold nw;rw[show rS (.tup (.str x::r))=false from h,Zp (by decide)]
def aN(kv:List (Int×Int))(p p':RP):Prop:=∀xs b,(p'.2.2 xs b).Perm (((p.2.2 xs b).filter (f7 kv)).map (nw kv p.1))
def sZ:d6 oc a b=d6 oc b a:=by
 unfold d6 gG;congr 1
 split<;>split<;>omega
def QA:mR x a b=mR x b a:=by
 unfold mR;rw[Int.mul_comm,show(decide (a=0)==decide (b=0))=(decide (b=0)==decide (a=0)) from by cases decide (a=0)<;>cases decide (b=0)<;>rfl]
section
variable{os:List Int}
def xN:(dD c).Perm (((dD c).filter (f7 kv)).map (mW kv)):=by cases c<;>exact .refl _
def QI(c:CF fs.length os){xs:List Int}:(dZ a s ba oc (dM fs os) xs b).Perm (((dZ a s ba oc fs xs b).filter (f7 (nm os))).map (mW (nm os))):=by
 unfold dZ;split
 ·rw[show(dM fs os).length=os.length from List.length_map _];refine zL c (λv w=>?_) λj k h1 h2 h3 h4=>?_
  ·unfold cX q0;rw[sZ,Bool.and_comm (!sP _)]
  ·unfold cX q0;rw[eS c h1 h2,eS c h3 h4]
 ·exact .refl _
def KL(c:CF fs.length os):(jB lo hi (dM fs os) xs b).Perm (((jB lo hi fs xs b).filter (f7 (nm os))).map (mW (nm os))):=by
 unfold jB;rw[show(dM fs os).length=os.length from List.length_map _];exact R6 c λj h1 h2=>by rw[eS c h1 h2]
def JU(c:CF fs.length os){xs:List Int}:(kK a e oc x (dM fs os) xs b).Perm (((kK a e oc x fs xs b).filter (f7 (nm os))).map (mW (nm os))):=by
 unfold kK;rw[show(dM fs os).length=os.length from List.length_map _];refine zL c (λv w=>?_) λj k h1 h2 h3 h4=>?_
 ·unfold cX nJ;rw[sZ,sZ (a:=jW ((aS fs xs b).getD v .non)),QA,Bool.and_comm (!sP _)]
 ·unfold cX nJ;rw[eS c h1 h2,eS c h3 h4,eS c h1 h2,eS c h3 h4]
def PH(kv:List (Int×Int))(d:D):Prop:=∀a b:Int,d=.tup [.str "above",.int a,.int b]->(bF kv a).isSome=true/\(bF kv b).isSome=true
def aB0(no ba oc:Int)(fs:List (Int×Int×Bool))(os:List Int)(rs rs':List D)(keep:D->Bool)(d:D):Prop:=∃p:RP,p.1=d/\RX no ba oc fs rs 0 p/\(keep d=true->∃p':RP,p'.1=fW (nm os) d/\RX no ba oc (dM fs os) rs' 0 p'/\aN (nm os) p p')
def jX(ho:HouseOk no ba oc fs)(c:CF fs.length os){keep:D->Bool}{x:PySem.Str}{br:List (Int×Int×Bool)->Br}(hx:(x == "above")=false)(R:∀fs rs,HouseOk no ba oc fs->RX no ba oc fs rs 0 (.tup (.str x::r),o,br fs))
  (M:∀xs b,(br (dM fs os) xs b).Perm (((br fs xs b).filter (f7 (nm os))).map (mW (nm os)))):aB0 no ba oc fs os rs rs' keep (.tup (.str x::r)) :=
 ⟨_,rfl,R _ _ ho,λ_=>⟨_,(wL hx).symm,R _ _ (MQ ho c),λxs b=>by rw[aAZ hx];exact M xs b⟩⟩
def VJ(ho:HouseOk no ba oc fs)(c:CF fs.length os)(h:RuleD no ba oc (fs.length:Int) d)(hk:keep d=true->PH (nm os) d):aB0 no ba oc fs os rs rs' keep d:=by
 cases h with
 |span a b h1 h2 h3 h4=>exact jX ho c (br:=λfs xs b'=>dZ a b ba oc fs xs (b':Int)) pH (λfs rs ho=>YB ho h3) λxs b=>QI c
 |leap a h1 h2=>exact jX ho c (br:=λfs xs b'=>dD (oX a xs b')) pB (λfs rs ho=>WO) λxs b=>xN
 |back a b h1 h2 h3 h4=>exact jX ho c (br:=λfs xs b'=>dD (kA a b xs b')) pE (λfs rs ho=>XR ho) λxs b=>xN
 |again a h1 h2 =>
  obtain⟨k,rfl⟩:∃k:Nat,a=(k:Int):=⟨a.toNat,by omega⟩
  exact jX ho c (br:=λfs xs b'=>dD (jN k xs b')) nV (λfs rs ho=>PZ (by omega)) λxs b=>xN
 |never a b x h1 h2 h3 h4 h5=>exact jX ho c (br:=λfs xs b'=>kK a b oc x fs xs (b':Int)) nZ (λfs rs ho=>QB ho h5) λxs b=>JU c
 |range a b h1 h2 h3=>exact jX ho c (br:=λfs xs b'=>jB a b fs xs (b':Int)) n0 (λfs rs ho=>QJ ho) λxs b=>KL c
 |above v w h1 h2 h3 =>
  refine⟨_,rfl,BK h1 h2,λhk'=>?_⟩;obtain⟨k1,k2⟩:=hk hk' _ _ rfl;obtain⟨_,a,b,e⟩:=c.lk (by omega) k1;obtain⟨_,a',b',e'⟩:=c.lk (v:=w) (by omega) k2;have hl:(dM fs os).length=os.length:=List.length_map _;obtain⟨j,hj⟩:=Int.eq_ofNat_of_zero_le a;obtain⟨k,hk⟩:=Int.eq_ofNat_of_zero_le a';refine⟨_, ?_,BK (v:=j) (w:=k) (by omega) (by omega),λxs z=>?_⟩
  ·rw[xX,hj,hk]
  show(nP (dM fs os) xs (z:Int) j k).Perm (((nP fs xs (z:Int) v w).filter (f7 (nm os))).map (nw (nm os) (.tup [.str "above",.int v,.int w])));have q1:=eS (xs:=xs) (b:=(z:Int)) c a b;have q2:=eS (xs:=xs) (b:=(z:Int)) c a' b';rw[e,hj,Int.toNat_natCast,Int.toNat_natCast] at q1;rw[e',hk,Int.toNat_natCast,Int.toNat_natCast] at q2;unfold nP;rw[q1,q2]
  cases kH ((aS fs xs z).getD v .non) ((aS fs xs z).getD w .non) with
  |false=>exact .refl _
  |true =>
   refine .of_eq ?_;show [[(j:Int),(k:Int)]]=([[(v:Int),(w:Int)]].filter (f7 (nm os))).map _;rw[List.filter_cons_of_pos (by simp only[f7,Zj,List.all_nil,k1,k2,Bool.and_true]),List.filter_nil,Zs,List.map_nil];unfold nw;rw[Zo R8,<- hj,<- hk];rfl
inductive AL(kv:List (Int×Int))(keep:D->Bool):List RP->List RP->Prop
 |nil:AL kv keep [] []
 |keep {p p':RP} {ps ps':List RP} (hk:keep p.1=true) (h:aN kv p p') (t:AL kv keep ps ps'):AL kv keep (p::ps) (p'::ps')
 |drop {p:RP} {ps ps':List RP} (hk:keep p.1=false) (t:AL kv keep ps ps'):AL kv keep (p::ps) ps'
theorem T9(ho:HouseOk no ba oc fs)(c:CF fs.length os):∀ds:List D,(∀d∈ds,RuleD no ba oc (fs.length:Int) d)->(∀d∈ds,keep d=true->PH (nm os) d) ->
  ∃ps ps':List RP,(ps.map (·.1)=ds/\ps'.map (·.1)=(ds.filter keep).map (fW (nm os)))/\((∀p∈ps,RX no ba oc fs rs 0 p)/\∀p∈ps',RX no ba oc (dM fs os) rs' 0 p)/\AL (nm os) keep ps ps'
 |[],_,_=>⟨[],[],⟨rfl,rfl⟩,⟨λ_ z=>(nomatch z),λ_ z=>(nomatch z)⟩,.nil⟩
 |d::ds,h,hk=>by
  obtain⟨ps,ps',⟨a1,a2⟩,⟨b1,b2⟩,t⟩:=T9 ho c ds (λx hx=>h x (Ze _ hx)) λx hx=>hk x (Ze _ hx)
  obtain⟨p,rfl,q1,q2⟩:=VJ ho c (h d zh) (hk d zh)
  cases q:keep p.1 with
  |false=>exact⟨p::ps,ps',⟨by rw[Zs,a1],by rw[List.filter_cons_of_neg (by rw[q];decide),a2]⟩,⟨List.forall_mem_cons.mpr ⟨q1,b1⟩,b2⟩,.drop q t⟩
  |true =>
   obtain⟨p',e,q3,q4⟩:=q2 q;exact⟨p::ps,p'::ps',⟨by rw[Zs,a1],by rw[List.filter_cons_of_pos q,Zs,Zs,a2,e]⟩,⟨List.forall_mem_cons.mpr ⟨q1,b1⟩,List.forall_mem_cons.mpr ⟨q3,b2⟩⟩,.keep q q4 t⟩
end
noncomputable def bN(keep:D->Bool):Nat->Nat->List D->List (Int×Int)
 |_,_,[]=>[]
 |k,j,d::r=>if keep d=true then((k:Int),(j:Int))::bN keep (k+1) (j+1) r else bN keep (k+1) j r
section
variable{keep:D->Bool}
theorem qA:∀(ds:List D) (k j:Nat),bN keep k j (ds++[d])=bN keep k j ds++(if keep d=true then [(((k+ds.length:Nat):Int),((j+(bN keep k j ds).length:Nat):Int))] else [])
 |[],k,j=>by
  show(if keep d=true then _ else _)=_
  split<;>simp[bN]
 |e::ds,k,j=>by
  rw[List.cons_append,bN,bN];split
  ·rw[qA ds,List.cons_append,Zk,Zk,show k+1+ds.length=k+(ds.length+1) by omega,show j+1+(bN keep (k+1) (j+1) ds).length=j+((bN keep (k+1) (j+1) ds).length+1) by omega]
  ·rw[qA ds,Zk,show k+1+ds.length=k+(ds.length+1) by omega]
theorem oM:∀(ds:List D) (k j:Nat),∀q∈bN keep k j ds,(k:Int)<=q.1/\q.1<((k+ds.length:Nat):Int)
 |[],_,_,_,h=>nomatch h
 |d::ds,k,j,q,h=>by
  rw[bN] at h;rw[Zk];split at h
  ·rcases List.mem_cons.mp h with rfl | h
   ·simp only;omega
   ·have:=oM ds _ _ q h;omega
  ·have:=oM ds _ _ q h;omega
theorem tG:∀(ds:List D) (k j:Nat),(bN keep k j ds).length<=ds.length
 |[],_,_=>Zq _
 |d::ds,k,j=>by
  rw[bN];split
  ·have:=tG ds (k+1) (j+1);simp only[Zk];omega
  ·have:=tG ds (k+1) j;simp only[Zk];omega
def VC(h:∀q∈kv,q.1≠i):bF kv i=none:=by
 unfold bF;rw[List.find?_eq_none.mpr λq hq=>by simpa using h q hq];rfl
def VU(h:∀q∈kv,q.1≠i):fN kv i x=kv++[(i,x)]:=by
 unfold fN;rw[Zp];simp only[List.any_eq_true,decide_eq_true_eq,not_exists,not_and];exact λq hq=>h q hq
def iR(nums:List (Int×Int))(keep:D->Bool):Nat->Nat->List D->Prop
 |_,_,[]=>True
 |k,j,d::r=>if keep d=true then bF nums k=some (j:Int)/\iR nums keep (k+1) (j+1) r else bF nums k=none/\iR nums keep (k+1) j r
theorem u9:∀(ds:List D) (k j:Nat) (front:List (Int×Int)),(∀q∈front,q.1<(k:Int))->iR (front++bN keep k j ds) keep k j ds
 |[],_,_,_,_=>trivial
 |d::ds,k,j,front,h=>by
  unfold iR;rw[bN];split
  ·refine⟨?_, ?_⟩
   ·unfold bF;rw[List.find?_append,List.find?_eq_none.mpr λq hq=>by have:=h q hq;simp;omega];simp
   ·have:=u9 ds (k+1) (j+1) (front++[((k:Int),(j:Int))]) λq hq=>by
     rcases zp.mp hq with hq | hq
     ·have:=h q hq;omega
     ·rw[ze.mp hq];simp only;omega
    rwa[List.append_assoc] at this
  ·refine⟨VC λq hq=>?_,u9 ds (k+1) j front λq hq=>by have:=h q hq;omega⟩;rcases zp.mp hq with hq | hq
   ·have:=h q hq;omega
   ·have:=oM ds _ _ q hq;omega
end
noncomputable def eL(kv nums:List (Int×Int))(rs:List D):D->List D
 |.tup [.int b,.int k,.tup vs]=>if((bF nums k).isSome&&f7 kv ((dH vs).getD []))=true then [.tup [.int b,.int (lk nums k),.tup ((nw kv (rs.getD k.toNat .non) ((dH vs).getD [])).map D.int)]] else []
 |_=>[]
section
variable{m b:Nat}
def oH:eL kv nums rs (gJ b k is)=if((bF nums k).isSome&&f7 kv is)=true then [.tup [.int b,.int (lk nums k),.tup ((nw kv (rs.getD k .non) is).map D.int)]] else []:=by
 show(if((bF nums k).isSome&&f7 kv ((dH (is.map D.int)).getD []))=true then _ else _)=_;rw[jS,Option.getD_some,Int.toNat_natCast]
def rD:qQ xs b k p=(p.2.2 xs b).map (gJ b k):=by
 unfold qQ aF;rw[List.map_map];rfl
theorem FI:∀l:List J,l.flatMap (λx=>if p x=true then [f x] else [])=(l.filter p).map f
 |[]=>rfl
 |a::l=>by
  rw[List.flatMap_cons,FI l,List.filter_cons]
  split<;>rfl
def QS{k j:Nat}(h:aN kv p p')(hn:bF nums k=some (j:Int))(hr:rs.getD k .non=p.1):((qQ xs b k p).flatMap (eL kv nums rs)).Perm (qQ xs b j p'):=by
 rw[rD,rD,List.flatMap_map];have e:lk nums k=(j:Int):=by unfold lk;rw[hn];rfl
 have:(λis=>eL kv nums rs (gJ b k is))=λis=>if f7 kv is=true then [gJ b j (nw kv p.1 is)] else []:=by
  funext is
  rw[oH,hn,e,hr];rfl
 rw[this,FI]
 have:=((h xs b).map (gJ b j)).symm
 rw[List.map_map] at this;exact this
def YX{k:Nat}(hn:bF nums k=none):(qQ xs b k p).flatMap (eL kv nums rs)=[]:=by
 rw[rD,List.flatMap_map,List.flatMap_eq_nil_iff];intro is _;rw[oH,hn];rfl
def K3(h:AL kv keep ps ps'):∀{k j:Nat},iR nums keep k j (ps.map (·.1))->rs.drop k=ps.map (·.1)->((dR xs b k ps).flatMap (eL kv nums rs)).Perm (dR xs b j ps'):=by
 have hd:∀{k:Nat} {d:D} {r:List D},rs.drop k=d::r->rs.getD k .non=d/\rs.drop (k+1)=r:=λ{k d r} e=>by(have h1:rs[k]?=some d:=List.head?_drop.symm.trans (congrArg List.head? e);exact⟨by rw[List.getD_eq_getElem?_getD,h1];rfl,by rw[<- List.tail_drop,e];rfl⟩)
 induction h with
 |nil=>exact λ_ _=>.refl _
 |keep hk h t ih =>
  intro k j hn hr;obtain⟨h1,h2⟩:=hd hr;rw[Zs,iR,Zo hk] at hn;rw[dR,dR,List.flatMap_append];exact(QS h hn.1 h1).append (ih hn.2 h2)
 |drop hk t ih =>
  intro k j hn hr;obtain⟨h1,h2⟩:=hd hr;rw[Zs,iR,Zp (by rw[hk];decide)] at hn;rw[dR,List.flatMap_append,YX hn.1];exact ih hn.2 h2
def C5(h:AL kv keep ps ps')(hr:ps.map (·.1)=rs)(n:Nat):((cM ps xs n).flatMap (eL kv (bN keep 0 0 rs) rs)).Perm (cM ps' xs n):=by
 have hn:iR (bN keep 0 0 rs) keep 0 0 (ps.map (·.1)):=by rw[hr];exact u9 rs 0 0 [] λ_ z=>nomatch z
 induction n with
 |zero=>exact .refl _
 |succ n ih =>
  rw[mQ,mQ,List.flatMap_append];exact ih.append (K3 h hn hr.symm)
def MK:kD (gJ b k is)=(b:Int)::(k:Int)::is:=by
 show((dH (is.map D.int)).map λns=>(b:Int)::(k:Int)::ns).getD []=_;rw[jS];rfl
def XW:(fV (gJ b k is)).isSome=true:=by
 show((dH (is.map D.int)).map λns=>(b:Int)::(k:Int)::ns).isSome=true;rw[jS];rfl
def wH{c k l:Nat}(h:vP ((b:Int)::(k:Int)::is) ((c:Int)::(l:Int)::js)):mL (gJ b k is) (gJ c l js):=by
 show HT.bU (kD _) (kD _)=false;rw[MK,MK];exact h
theorem nH:∀(ps:List RP) (i:Nat),(∀p∈ps,RX no ba oc fs rs m p)->(dR xs b i ps).Pairwise mL/\∀d∈dR xs b i ps,∃j is,d=gJ b j is/\i<=j/\j<i+ps.length/\is.length<=2/\∀v∈is,0<=v/\v<=(fs.length:Int)
 |[],_,_=>⟨.nil,λ_ z=>nomatch z⟩
 |p::ps,i,h=>by
  obtain⟨h1,h2⟩:=nH ps (i+1) λq hq=>h q (Ze _ hq)
  have hp:=h p zh;rw[dR,rD,Zk];refine⟨List.pairwise_append.mpr ⟨List.pairwise_map.mpr ((hp.srt xs b).imp λz=>wH (fU (.inr ⟨rfl,fU (.inr ⟨rfl,z⟩)⟩))),h1,λd hd e he=>?_⟩,λd hd=>?_⟩
  ·obtain⟨is,_,rfl⟩:=zo.mp hd;obtain⟨j,js,rfl,hj,_⟩:=h2 e he;exact wH (fU (.inr ⟨rfl,fU (.inl (by omega))⟩))
  ·rcases zp.mp hd with hd | hd
   ·obtain⟨is,hi,rfl⟩:=zo.mp hd;exact⟨i,is,rfl,by omega,by omega,hp.vo xs b is hi⟩
   ·obtain⟨j,js,e,q1,q2,q3⟩:=h2 d hd;exact⟨j,js,e,by omega,by omega,q3⟩
def tF{ps:List RP}(h:∀p∈ps,RX no ba oc fs rs m p)(n:Nat):(cM ps xs n).Pairwise mL/\∀d∈cM ps xs n,∃b j is,d=gJ b j is/\j<ps.length/\is.length<=2/\∀v∈is,0<=v/\v<=(fs.length:Int):=by
 refine⟨List.pairwise_flatMap.mpr ⟨λb _=>(nH ps 0 h).1,List.pairwise_lt_range.imp λ{a c} z x hx y hy=>?_⟩,λd hd=>?_⟩
 ·obtain⟨_,_,rfl,_⟩:=(nH ps 0 h).2 x hx;obtain⟨_,_,rfl,_⟩:=(nH ps 0 h).2 y hy;exact wH (fU (.inl (by omega)))
 ·obtain⟨b,_,hd⟩:=List.mem_flatMap.mp hd;obtain⟨j,is,e,_,q,v⟩:=(nH ps 0 h).2 d hd;exact⟨b,j,is,e,by omega,v⟩
def XE(h:AL kv keep ps ps')(hr:ps.map (·.1)=rs)(hp:∀p∈ps',RX no ba oc fs' rs' m p)(n:Nat) :
  (((cM ps xs n).flatMap (eL kv (bN keep 0 0 rs) rs)).all λd=>(fV d).isSome)=true/\jK ((cM ps xs n).flatMap (eL kv (bN keep 0 0 rs) rs))=cM ps' xs n:=by
 have pm:=C5 (xs:=xs) h hr n
 have ht:(((cM ps xs n).flatMap (eL kv (bN keep 0 0 rs) rs)).all λd=>(fV d).isSome)=true:=by(rw[List.all_eq_true];intro d hd;obtain⟨b,j,is,rfl,_⟩:=(tF hp n).2 d (pm.mem_iff.mp hd);exact XW)
 exact⟨ht,(C4 ht pm.symm (tF hp n).1).symm⟩
end
noncomputable def vB(kv:List (Int×Int)):D->D
 |.int v=>.bl (bF kv v).isSome
 |d=>d
noncomputable def vN(kv:List (Int×Int)):D->D
 |.int v=>.int (lk kv v)
 |d=>d
section
variable{fs:List (Int×Int×Bool)}
def aAV{is:List Int}:∃t,d7 (cR T.pins C []) (ev T.pins C false fL) (aT true [2]) (is.map D.int) [] [.p (.dct kv),.un,.un]=some (.ok (is.map λv=>.bl (bF kv v).isSome),[.p (.dct kv),.un,t]):=by
 obtain⟨U',e,t,rfl,_⟩:=oI (P:=T.pins) (elt:=ev T.pins C false fL) (bind:=aT true [2]) (ds:=is.map D.int) (vB kv) (λU=>∃t,U=[.p (.dct kv),.un,t]/\bE t=true)
  (λd hd U hU=>by
   obtain⟨t,rfl,ht⟩:=hU;obtain⟨v,_,rfl⟩:=zo.mp hd;have hc:bV .In (.int v) (.dct kv)=some (bF kv v).isSome:=rfl;refine⟨_,.sh (.bl (bF kv v).isSome),[.p (.dct kv),.un,.sh (.int v)],by simp only[fA,aZ ht]<;>rfl, ?_,rfl,_,rfl,rfl⟩;unfold fL
   generalize (bF kv v).isSome=c at *
   walk_at "!dB %") (U:=[.p (.dct kv),.un,.un]) ⟨_,rfl,rfl⟩
 rw[List.map_map] at e;exact⟨t,e⟩
def aB6(h:f7 kv is=true):∃t,d7 (cR T.pins C []) (ev T.pins C false fS) (aT true [2]) (is.map D.int) [] [.p (.dct kv),.un,.un]=some (.ok ((is.map (lk kv)).map D.int),[.p (.dct kv),.un,t]):=by
 obtain⟨U',e,t,rfl,_⟩:=oI (P:=T.pins) (elt:=ev T.pins C false fS) (bind:=aT true [2]) (ds:=is.map D.int) (vN kv) (λU=>∃t,U=[.p (.dct kv),.un,t]/\bE t=true)
  (λd hd U hU=>by
   obtain⟨t,rfl,ht⟩:=hU;obtain⟨v,hv,rfl⟩:=zo.mp hd
   have hc:fH (some (.dct kv)) (.int v)=some (.sh (.int (lk kv v))):=by
    obtain⟨j,hj⟩:=Option.isSome_iff_exists.mp (List.all_eq_true.mp h v hv)
    have:lk kv v=j:=by unfold lk;rw[hj];rfl
    rw[this];exact nK hj
   refine⟨_,.sh (.int (lk kv v)),[.p (.dct kv),.un,.sh (.int v)],by simp only[fA,aZ ht]<;>rfl, ?_,rfl,_,rfl,rfl⟩;unfold fS
   generalize lk kv v=c at *
   walk_at "!dB %") (U:=[.p (.dct kv),.un,.un]) ⟨_,rfl,rfl⟩
 rw[List.map_map] at e;rw[List.map_map];exact⟨t,e⟩
def ZL(h:Shp ma d):∃x,fH (some d) (.int 0)=some (.sh (.str x))/\bV .NotEq (.str x) (.str "above")=some (!rS d):=by
 cases h with
 |oth x r hx =>
  refine⟨x, ?_, ?_⟩
  ·have:kR (.str x::r) ((0:Nat):Int)=some (.str x):=L2.fE rfl
   show(kR (.str x::r) ((0:Nat):Int)).map _=_;rw[this];rfl
  ·rw[uS hx,show rS (.tup (.str x::r))=false from hx];rfl
 |abv v w _ _ _ _=>exact⟨_,rfl,by rw[qY,R8];rfl⟩
def JZ{W n b k:Nat}(hk:k<rs.length)(hr:∀d∈rs,Shp ma d)(hi:is.length<=2)(ha:acc.length<=900000)(h8:bE t8=true) :
  ∃t8',exs T.pins (run T W n) W fR [.sh (aA no ba oc fs rs),.un,.p (.dct kv),.p (.dct nums),.o (.lst acc),.sh (.int b),.sh (.int k),.sh (.tup (is.map D.int)),t8] =
   some (.nx,[.sh (aA no ba oc fs rs),.un,.p (.dct kv),.p (.dct nums),.o (.lst (acc++eL kv nums rs (gJ b k is))),.sh (.int b),.sh (.int k),.sh (.tup (is.map D.int)),t8'])/\bE t8'=true:=by
 unfold fR;have hc:bV .In (.int k) (.dct nums)=some (bF nums k).isSome:=rfl;rw[oH];obtain⟨t,e⟩:=aAV (C:=run T W n);have hal:=dB (Z:=is) (p:=λv=>(bF kv v).isSome);rw[show(is.all λv=>(bF kv v).isSome)=f7 kv is from rfl] at hal;have s1:aJ (is.map λv=>D.bl (bF kv v).isSome).length=true:=cG (by simp;omega)
 generalize hL:(is.map λv=>D.bl (bF kv v).isSome)=L at *
 cases hq:(bF nums k).isSome with
 |false =>
  rw[hq] at hc;refine⟨t8, ?_,h8⟩;rw[Bool.false_and,Zp (by decide),List.append_nil]
  walk_at "!dB %"
 |true =>
  rw[hq] at hc;obtain⟨j,hj⟩:=Option.isSome_iff_exists.mp hq;have hl:lk nums k=j:=by unfold lk;rw[hj];rfl
  cases ho:f7 kv is with
  |false =>
   rw[ho] at hal;refine⟨t8, ?_,h8⟩;rw[Bool.and_false,Zp (by decide),List.append_nil]
   walk_at "!dB %"
   rw[cZ (vT rfl)]
   walk_at "!dB %"
  |true =>
   rw[ho] at hal;obtain⟨t',e'⟩:=aB6 (C:=run T W n) ho;have hix:=nK hj;have hrk:fH (some (.tup rs)) (.int k)=some (.sh (rs.getD k .non)):=UD (by rw[show L2.cP rs (k:Int)=rs[k]? from nN,List.getD_eq_getElem?_getD,Zb hk];rfl);have hm:rs.getD k .non∈rs:=by rw[List.getD_eq_getElem?_getD,Zb hk];exact List.getElem_mem hk
   obtain⟨x,w1,w2⟩:=ZL (hr _ hm);have s2:aJ (((is.map (lk kv)).map D.int)).length=true:=cG (by simp;omega);have s3:aJ (acc.length+1)=true:=cG (by omega);have hs:=R5 (ns:=is.map (lk kv)) (by simp;omega);have s4:aJ (((iQ (is.map (lk kv))).map D.int)).length=true:=cG (by rw[List.length_map,(oZ _).length_eq];simp;omega);rw[hl,Bool.true_and,Zo rfl];unfold nw
   cases hb:rS (rs.getD k .non) with
   |false =>
    rw[hb] at w2;rw[Zp (by decide)];unfold mW;refine⟨.ow (.lst ((iQ (is.map (lk kv))).map D.int)) false false, ?_,rfl⟩
    generalize (is.map (lk kv)).map D.int=N at *
    generalize (iQ (is.map (lk kv))).map D.int=N2 at *
    generalize rs.getD k .non=R at *
    walk_at "!dB %"
    rw[cZ (vT rfl)]
    walk_at "!dB %"
    rw[cZ (vT rfl)]
    walk_at "!dB %"
   |true =>
    rw[hb] at w2;rw[Zo rfl];refine⟨.ow (.lst ((is.map (lk kv)).map D.int)) false false, ?_,rfl⟩
    generalize (is.map (lk kv)).map D.int=N at *
    generalize rs.getD k .non=R at *
    walk_at "!dB %"
    rw[cZ (vT rfl)]
    walk_at "!dB %"
    rw[cZ (vT rfl)]
    walk_at "!dB %"
end
section
variable{kv nums:List (Int×Int)}{rs:List D}
def QO:(eL kv nums rs d).length<=1:=by
 unfold eL;split
 ·split<;>simp
 ·simp
theorem B3:∀A:List D,(A.flatMap (eL kv nums rs)).length<=A.length
 |[]=>Zq _
 |d::A=>by(have h1:=B3 A;have h2:=QO (kv:=kv) (nums:=nums) (rs:=rs) (d:=d);rw[List.flatMap_cons,Za,Zk];omega)
def K8{W n:Nat}(hA:∀d∈A,∃b k is,d=gJ b k is/\k<rs.length/\is.length<=2)(hz:A.length<=900000)(hr:∀d∈rs,Shp ma d)(ht:((A.flatMap (eL kv nums rs)).all λd=>(fV d).isSome)=true) :
  run T W (n+1) "L_told_anew" [.sh (aA no ba oc fs rs),.p (.lst A),.p (.dct kv),.p (.dct nums)]=some (.ok (.ow (.lst (jK (A.flatMap (eL kv nums rs))))),[.sh (aA no ba oc fs rs),.p (.lst A),.p (.dct kv),.p (.dct nums)]):=by
 rw[bO zT rfl rfl];unfold hW;have hi:aD .of [.slot 1] [.sh (aA no ba oc fs rs),.p (.lst A),.p (.dct kv),.p (.dct nums),.o (.lst []),.un,.un,.un,.un]=some (A,some 1):=F4 rfl
 obtain⟨U1,e1,t5,t6,t7,t8,rfl,_⟩:=b4 (bind:=aT false [5,6,7]) (body:=exs T.pins (run T W n) W fR)
  (λpre U=>∃t5 t6 t7 t8,U=[.sh (aA no ba oc fs rs),.un,.p (.dct kv),.p (.dct nums),.o (.lst (pre.flatMap (eL kv nums rs))),t5,t6,t7,t8]/\bE t5=true/\bE t6=true/\bE t7=true/\bE t8=true)
  (ds:=A) (λpre d post hds U hU=>by
   obtain⟨t5,t6,t7,t8,rfl,h5,h6,h7,h8⟩:=hU;obtain⟨b,k,is,rfl,hk,iM⟩:=hA d (by rw[hds];simp)
   have hp:(pre.flatMap (eL kv nums rs)).length<=900000:=by
    have h1:=B3 (kv:=kv) (nums:=nums) (rs:=rs) pre
    have:=congrArg List.length hds
    rw[Za] at this;omega
   obtain⟨t8',e,h8'⟩:=JZ hk hr iM hp h8
   refine⟨_,by simp only[gJ,rN,rH,vF,GU,NI,zt,zr,aZ h5,aZ h6,aZ h7,List.set_cons_zero,List.set_cons_succ]<;>rfl,_,e,_,_,_,_,by rw[List.flatMap_append,List.flatMap_cons,List.flatMap_nil,List.append_nil],rfl,rfl,rfl,h8'⟩)
  (U:=[.sh (aA no ba oc fs rs),.un,.p (.dct kv),.p (.dct nums),.o (.lst []),.un,.un,.un,.un]) ⟨_,_,_,_,rfl,rfl,rfl,rfl,rfl⟩
 have hs:=J2 ht
 generalize A.flatMap (eL kv nums rs)=B at *
 generalize jK B=S at *
 walk_at "!%"
 simp only[aK,List.set_cons_zero,List.set_cons_succ,e1,cJ.restore,cQ,zt,zr,Option.map_some]
 walk_at "!%"
def sH(hl:os.length<=100):run T W (n+1) "L_places" [.p (.lst (os.map D.int))]=some (.ok (.ow (.dct (nm os))),[.p (.lst (os.map D.int))]):=by
 rw[bO GZ rfl rfl];unfold kG;have hi:∀U,aD .rng [.val (.sh (.int os.length))] U=some (rg os.length,none):=λU=>IZ (by omega)
 have hlm:((os.map D.int).length:Int)=(os.length:Int):=by rw[List.length_map]
 obtain⟨U1,e1,t2,rfl,_⟩:=b4 (bind:=aT true [2]) (body:=exs T.pins (run T W n) W kM)
  (λpre U=>∃t2,U=[.p (.lst (os.map D.int)),.o (.dct (eZ [(0,0)] 1 (os.take pre.length))),t2]/\bE t2=true)
  (ds:=rg os.length) (λpre d post hds U hU=>by
   obtain⟨t2,rfl,h2⟩:=hU;obtain⟨hpl,rfl⟩:=pY hds;refine⟨_,by simp only[fA,aZ h2]<;>rfl, ?_⟩
   have hz:aJ ((eZ [(0,0)] 1 (os.take pre.length)).length+1)=true:=d5 (by
    have:=rQ (os.take pre.length) [(0,0)] 1
    rw[List.length_take] at this;simp at this
    omega)
   have hx:=VI hpl
   have hn:eZ [(0,0)] 1 (os.take (pre++[D.int pre.length]).length)=fN (eZ [(0,0)] 1 (os.take pre.length)) os[pre.length] ((pre.length:Int)+1):=by(rw[Za,Zg,List.take_add_one,Zb hpl];show eZ _ _ (_++[_])=_;rw[rW,List.length_take,Nat.min_eq_left (by omega),Int.add_comm])
   unfold kM;rw[hn]
   walk_at "!"
   exact⟨_,rfl,_,rfl,rfl⟩)
  (U:=[.p (.lst (os.map D.int)),.o (.dct [(0,0)]),.un]) ⟨_,rfl,rfl⟩
 rw[List.length_map,List.length_range,List.take_length,show eZ [(0,0)] 1 os=nm os from rfl] at e1
 walk_at "!"
end
theorem aBO:∀(ds:List D) (k j i:Nat),iR nums (λ_=>true) k j ds->i<ds.length->(bF nums ((k+i:Nat):Int)).isSome=true
 |d::ds,k,j,0,h,_=>by
  rw[iR,Zo rfl] at h;rw[Nat.add_zero,h.1];rfl
 |d::ds,k,j,i+1,h,hi=>by
  rw[iR,Zo rfl] at h
  have:=aBO ds (k+1) (j+1) i h.2 (by simpa using hi)
  rwa[show k+(i+1)=k+1+i by omega]
noncomputable def aDp(m:Nat)(os:List Int):Bool:=(List.range (m+1)).all λ(v:Nat)=>(bF (nm os) v).isSome
def aAz(h:Ord m os)(h1:1<=m)(h3:m<=3):CF m os/\aDp m os=true:=by
 have hm:m=1\/m=2\/m=3:=by omega
 rcases hm with rfl | rfl | rfl
 ·obtain rfl:=aCZ h;exact⟨wD (by decide),by decide⟩
 ·rcases aAi h with rfl | rfl<;>exact⟨wD (by decide),by decide⟩
 ·rcases aGA h with rfl | rfl | rfl | rfl | rfl | rfl<;>exact⟨wD (by decide),by decide⟩
def aDX{m:Nat}{v:Int}(h1:1<=v)(h2:v<=m)(h3:2<=m)(h4:m<=3):CF m (lf m v):=by
 have hm:m=2\/m=3:=by omega
 rcases hm with rfl | rfl
 ·have hv:v=1\/v=2:=by omega
  rcases hv with rfl | rfl<;>exact wD (by decide)
 ·have hv:v=1\/v=2\/v=3:=by omega
  rcases hv with rfl | rfl | rfl<;>exact wD (by decide)
structure Told(W:Nat)(no ba oc:Int)(fs:List (Int×Int×Bool))(rs:List D)(os:List Int)(keep:D->Bool)(xs:List Int)(A B:List D):Prop where
 a:run T W 29 "breaks" [.sh (aA no ba oc fs rs),~~~xs]=some (.ok (.ow (.lst A)),[.sh (aA no ba oc fs rs),~~~xs])
 al:run T W 29 "is_let_by" [.sh (aA no ba oc fs rs),~~~xs]=some (.ok (.sh (.bl A.isEmpty)),[.sh (aA no ba oc fs rs),~~~xs])
 b:run T W 29 "breaks" [.sh (aA no ba oc (dM fs os) ((rs.filter keep).map (fW (nm os)))),~~~xs]=some (.ok (.ow (.lst B)),[.sh (aA no ba oc (dM fs os) ((rs.filter keep).map (fW (nm os)))),~~~xs])
 bl:run T W 29 "is_let_by" [.sh (aA no ba oc (dM fs os) ((rs.filter keep).map (fW (nm os)))),~~~xs]=some (.ok (.sh (.bl B.isEmpty)),[.sh (aA no ba oc (dM fs os) ((rs.filter keep).map (fW (nm os)))),~~~xs])
 t:run T W 29 "L_told_anew" [.sh (aA no ba oc fs rs),.p (.lst A),.p (.dct (nm os)),.p (.dct (bN keep 0 0 rs))]=some (.ok (.ow (.lst B)),[.sh (aA no ba oc fs rs),.p (.lst A),.p (.dct (nm os)),.p (.dct (bN keep 0 0 rs))])
 ne:bV .NotEq (.lst B) (.lst B)=some false
 le:A.isEmpty=true->B.isEmpty=true
 eq:aDp fs.length os=true->(∀d,keep d=true)->B.isEmpty=A.isEmpty
def FT(ho:HouseOk no ba oc fs)(c:CF fs.length os)(hR:∀d∈rs,RuleD no ba oc (fs.length:Int) d)(hk:∀d∈rs,keep d=true->PH (nm os) d)(h8:rs.length<=8)(hx:∀x∈xs,0<=x/\x<no)(lx:xs.length<=80) :
  ∃A B,Told W no ba oc fs rs os keep xs A B:=by
 obtain⟨ps,ps',⟨a1,a2⟩,⟨b1,b2⟩,t⟩:=T9 (rs':=(rs.filter keep).map (fW (nm os))) ho c rs hR hk;have hl2:((rs.filter keep).map (fW (nm os))).length<=8:=by rw[List.length_map];exact Zr (List.length_filter_le _ _) h8
 have hl:ps.length=rs.length:=by rw[<- a1,List.length_map]
 obtain⟨q1,q2⟩:=XE t a1 b2 xs.length;have pm:=C5 (xs:=xs) t a1 xs.length;have hA:=(tF (xs:=xs) b1 xs.length).2;have hz:=xC (xs:=xs) b1 (by omega) xs.length
 have ts:=K8 (W:=W) (n:=28) (no:=no) (ba:=ba) (oc:=oc) (fs:=fs) (kv:=nm os) (nums:=bN keep 0 0 rs) (rs:=rs) (ma:=(fs.length:Int)) (A:=cM ps xs xs.length) (λd hd=>by
  obtain⟨b,j,is,e,h1,h2,_⟩:=hA d hd
  exact⟨b,j,is,e,by omega,h2⟩) (by omega) (λd hd=>qI (hR d hd)) q1
 rw[q2] at ts;refine⟨_,_,v8 (n:=23) a1 b1 h8 hx lx,BM (n:=22) a1 b1 h8 hx lx,v8 (n:=23) a2 b2 hl2 hx lx,BM (n:=22) a2 b2 hl2 hx lx,ts,IT (UY b2),λh=>?_,λhs hT=>?_⟩
 ·rw[List.isEmpty_iff] at h ⊢;rw[h] at pm;exact List.perm_nil.mp pm.symm
 ·have hn:iR (bN keep 0 0 rs) (λ_=>true) 0 0 rs:=by
   have e:keep=λ_=>true:=funext hT
   subst e
   exact u9 rs 0 0 [] λ_ z=>nomatch z
  cases q:cM ps xs xs.length with
  |nil =>
   rw[q] at pm;rw[List.perm_nil.mp pm.symm]
  |cons d L =>
   obtain⟨b,j,is,rfl,h1,_,h2⟩:=hA d (by rw[q];exact zh);have hj:=aBO rs 0 0 j hn (by omega);rw[Nat.zero_add] at hj
   have hv:f7 (nm os) is=true:=List.all_eq_true.mpr λv hv=>by
    obtain⟨v1,v2⟩:=h2 v hv
    have:=List.all_eq_true.mp hs v.toNat (List.mem_range.mpr (by omega))
    rwa[Int.toNat_of_nonneg v1] at this
   rw[q,List.flatMap_cons,oH,hj,hv,Bool.and_true,Zo rfl,List.singleton_append] at pm
   cases w:cM ps' xs xs.length with
   |nil=>rw[w] at pm;exact absurd (List.perm_nil.mp pm) (by simp)
   |cons _ _=>rfl
def DF{rs:List D}(h:rs[i]?=some d):bN keep 0 0 (rs.take (i+1))=if keep d=true then fN (bN keep 0 0 (rs.take i)) (i:Int) ((bN keep 0 0 (rs.take i)).length:Int) else bN keep 0 0 (rs.take i):=by
 have hi:=(Zc.mp h).1;rw[List.take_add_one,h];show bN keep 0 0 (rs.take i++[d])=_;rw[qA,List.length_take,Nat.min_eq_left (by omega),Nat.zero_add,Nat.zero_add];split
 ·exact(VU λq hq=>by
   have:=oM (rs.take i) 0 0 q hq
   rw[List.length_take] at this
   omega).symm
 ·exact List.append_nil _
theorem xY:∀(ds:List D) (k j:Nat),(bN (λ_=>true) k j ds).length=ds.length
 |[],_,_=>rfl
 |d::ds,k,j=>by rw[bN,Zo rfl,Zk,xY ds,Zk]
section
variable{W:Nat}
def aEa{s0 t2 t3 t4 t6 t7 t8 t9 t10 t11:Sl}(h6:bE t6=true)(h8:rs.length<=8):∃t6',cB (aT true [6]) (exs T.pins (run T W 29) W oK) (rg rs.length) [s0,.sh (aA no ba oc fs rs),t2,t3,t4,.o (.dct []),t6,t7,t8,t9,t10,t11] =
  some (.nx,[s0,.sh (aA no ba oc fs rs),t2,t3,t4,.o (.dct (bN (λ_=>true) 0 0 rs)),t6',t7,t8,t9,t10,t11])/\bE t6'=true:=by
 obtain⟨U',e,t6',rfl,h6'⟩:=b4 (bind:=aT true [6]) (body:=exs T.pins (run T W 29) W oK)
  (λpre U=>∃t6,U=[s0,.sh (aA no ba oc fs rs),t2,t3,t4,.o (.dct (bN (λ_=>true) 0 0 (rs.take pre.length))),t6,t7,t8,t9,t10,t11]/\bE t6=true)
  (ds:=rg rs.length) (λpre d post hds U hU=>by
   obtain⟨t6,rfl,h6⟩:=hU;obtain⟨hpl,rfl⟩:=pY hds;refine⟨_,by simp only[fA,aZ h6]<;>rfl, ?_⟩;have hn:=DF (keep:=λ_=>true) (Zb hpl);rw[Zo rfl,xY,List.length_take,Nat.min_eq_left (by omega)] at hn;have hz:aJ ((bN (λ_=>true) 0 0 (rs.take pre.length)).length+1)=true:=d5 (by rw[xY,List.length_take];omega);rw[Za,Zg,hn];unfold oK
   generalize bN (λ_=>true) 0 0 (rs.take pre.length)=N at *
   walk_at "!"
   exact⟨_,rfl,_,rfl,rfl⟩)
  (U:=[s0,.sh (aA no ba oc fs rs),t2,t3,t4,.o (.dct []),t6,t7,t8,t9,t10,t11]) ⟨_,rfl,h6⟩
 rw[List.length_map,List.length_range,List.take_length] at e;exact⟨t6',e,h6'⟩
def aDO(h6:bE t6=true)(h11:bE t11=true)(h8:rs.length<=8)(hr:∀d∈rs,Shp ma d):∃t6' t11',cB (aT true [6]) (exs T.pins (run T W 29) W oO) (rg rs.length) [s0,.sh (aA no ba oc fs rs),t2,t3,t4,.o (.dct []),t6,t7,t8,.sh (.int v),t10,t11] =
  some (.nx,[s0,.sh (aA no ba oc fs rs),t2,t3,t4,.o (.dct (bN (λd=>!iD v d) 0 0 rs)),t6',t7,t8,.sh (.int v),t10,t11'])/\bE t6'=true/\bE t11'=true:=by
 obtain⟨U',e,t6',t11',rfl,h6',h11'⟩:=b4 (bind:=aT true [6]) (body:=exs T.pins (run T W 29) W oO)
  (λpre U=>∃t6 t11,U=[s0,.sh (aA no ba oc fs rs),t2,t3,t4,.o (.dct (bN (λd=>!iD v d) 0 0 (rs.take pre.length))),t6,t7,t8,.sh (.int v),t10,t11]/\bE t6=true/\bE t11=true)
  (ds:=rg rs.length) (λpre d post hds U hU=>by
   obtain⟨t6,t11,rfl,h6,h11⟩:=hU;obtain⟨hpl,rfl⟩:=pY hds;refine⟨_,by simp only[fA,aZ h6]<;>rfl, ?_⟩;have hg:=Zb hpl;have hm:=zj hg;have hrk:fH (some (.tup rs)) (.int pre.length)=some (.sh rs[pre.length]):=UD (by rw[show L2.cP rs (pre.length:Int)=rs[pre.length]? from nN,hg]);have hsh:=hr _ hm
   generalize rs[pre.length]=d at *
   have hn:=DF (keep:=λd=>!iD v d) hg
   have hz:aJ ((bN (λd=>!iD v d) 0 0 (rs.take pre.length)).length+1)=true:=d5 (by
    have:=tG (keep:=λd=>!iD v d) (rs.take pre.length) 0 0
    rw[List.length_take] at this
    omega)
   rw[Za,Zg,hn];unfold oO
   generalize bN (λd=>!iD v d) 0 0 (rs.take pre.length)=N at *
   have hst:=aZ (U:=[s0,.sh (aA no ba oc fs rs),t2,t3,t4,.o (.dct N),.sh (.int pre.length),t7,t8,.sh (.int v),t10,t11]) (i:=11) (d:=d) h11;refine⟨[s0,.sh (aA no ba oc fs rs),t2,t3,t4,.o (.dct (if(!iD v d)=true then fN N (pre.length:Int) (N.length:Int) else N)),.sh (.int pre.length),t7,t8,.sh (.int v),t10,.sh d], ?_,_,_,rfl,rfl,rfl⟩
   cases hsh with
   |oth x r hx =>
    have e:=uS hx
    have e0:fH (some (.tup (.str x::r))) (.int 0)=some (.sh (.str x)):=by
     have:kR (.str x::r) ((0:Nat):Int)=some (.str x):=L2.fE rfl
     show(kR (.str x::r) ((0:Nat):Int)).map _=_;rw[this];rfl
    rw[FP hx,Bool.not_false,Zo rfl]
    walk_at "!"
   |abv a b h1 h2 h3 h4 =>
    have e:=qY;have e1:MV (some (.tup [.str "above",.int a,.int b])) (some (.int 1)) none=some (.sh (.tup [.int a,.int b])):=rfl
    have e2:bV .NotIn (.int v) (.tup [.int a,.int b])=some (!(a==v||b==v)):=by(show some (!sS _ _)=_;simp only[sS,List.any_cons,List.any_nil,dN,Bool.or_false])
    rw[xE]
    cases q:(!(a==v||b==v)) with
    |false =>
     rw[q] at e2;rw[Zp (by decide)]
     walk_at "!"
    |true =>
     rw[q] at e2;rw[Zo rfl]
     walk_at "!")
  (U:=[s0,.sh (aA no ba oc fs rs),t2,t3,t4,.o (.dct []),t6,t7,t8,.sh (.int v),t10,t11]) ⟨_,_,rfl,h6,h11⟩
 rw[List.length_map,List.length_range,List.take_length] at e;exact⟨t6',t11',e,h6',h11'⟩
def L7:∃t,d7 (cR T.pins C [.cmp .NotEq (.var 2) (.var 0)]) (ev T.pins C false o5) (aT true [2]) ((List.range m).map λ(j:Nat)=>.int (1+(j:Int))) [] [.sh (.int v),.un,.un]=some (.ok ((lf m v).map D.int),[.sh (.int v),.un,t]):=by
 obtain⟨Ua,ea,t2,rfl,ht2⟩:=oB (tests:=cR T.pins C [.cmp .NotEq (.var 2) (.var 0)]) (elt:=ev T.pins C false o5) (bind:=aT true [2]) (ds:=(List.range m).map λ(j:Nat)=>.int (1+(j:Int)))
  (neq v) id (λU=>∃t2,U=[.sh (.int v),.un,t2]/\bE t2=true)
  (λd hd U hU=>by
   obtain⟨t2,rfl,ht2⟩:=hU;obtain⟨j,hj,rfl⟩:=zo.mp hd;have hc:=TZ (i:=1+(j:Int)) (j:=v);refine⟨[.sh (.int v),.un,.sh (.int (1+(j:Int)))],[.sh (.int v),.un,.sh (.int (1+(j:Int)))],by simp only[fA,aZ ht2]<;>rfl, ?_,λ_=>⟨.sh (.int (1+(j:Int))),[.sh (.int v),.un,.sh (.int (1+(j:Int)))], ?_,rfl,_,rfl,rfl⟩,λ_=>⟨_,rfl,rfl⟩⟩
   ·show(_:aR RV)=some (Out.ok (RV.sh (.bl (!decide (1+(j:Int)=v)))),_);cases hb:!decide (1+(j:Int)=v)<;>rw[hb] at hc<;>walk_at "!"
   ·unfold o5
    walk_at "!") (U:=[.sh (.int v),.un,.un]) ⟨_,rfl,rfl⟩
 have hfa:(((List.range m).map λ(j:Nat)=>D.int (1+(j:Int))).filter (neq v)).map id=(lf m v).map D.int:=by
  rw[List.map_id]
  have:((List.range m).map λ(j:Nat)=>D.int (1+(j:Int)))=((List.range m).map λ(j:Nat)=>1+(j:Int)).map D.int:=by rw[List.map_map];rfl
  rw[this];exact uA λx=>rfl
 rw[hfa] at ea;exact⟨t2,ea⟩
end
def NT(ho:HouseOk no ba oc fs)(hO:Ord fs.length os)(hR:∀d∈rs,RuleD no ba oc (fs.length:Int) d)(h8:rs.length<=8)(hx:∀x∈xs,0<=x/\x<no)(lx:xs.length<=80) :
  ∃A B H,run T W 29 "exchanged" [.sh (aA no ba oc fs rs),.p (.lst (os.map D.int))]=some (.ok (.sh H),[.sh (aA no ba oc fs rs),.p (.lst (os.map D.int))])/\H=aA no ba oc (dM fs os) ((rs.filter λ_=>true).map (fW (nm os)))/\Told W no ba oc fs rs os (λ_=>true) xs A B/\B.isEmpty=A.isEmpty:=by
 obtain⟨c,hs⟩:=aAz hO ho.l1 ho.l2
 have hl:∀v:Int,0<=v->v<=(fs.length:Int)->(bF (nm os) v).isSome=true:=λv h1 h2=>by
  have:=List.all_eq_true.mp hs v.toNat (List.mem_range.mpr (by omega))
  rwa[Int.toNat_of_nonneg h1] at this
 have hk:Lk (nm os) fs.length fs.length:=λv h1 h2=>by(obtain⟨k,rfl⟩:=Int.eq_ofNat_of_zero_le h1;have hol:=hO.len;obtain⟨a,b,d,_⟩:=c.lk (by omega) (hl _ h1 h2);exact⟨a,b,by omega⟩)
 obtain⟨A,B,t⟩:=FT (keep:=λ_=>true) ho c hR (λd hd _ a b e=>by
  have hh:=qI (hR d hd);rw[e] at hh
  cases hh with
  |oth _ _ h=>exact absurd h (by decide +kernel)
  |abv _ _ h1 h2 h3 h4=>exact⟨hl _ h1 h2,hl _ h3 h4⟩) h8 hx lx
 have x1:=L1 (W:=W) (n:=27) (no:=no) (ba:=ba) (oc:=oc) (by have:=c.l2;omega) c.o (λd hd=>qI (hR d hd)) (by omega) hk;refine⟨A,B,_,x1, ?_,t,t.eq hs λ_=>rfl⟩;rw[List.filter_eq_self.mpr λ_ _=>rfl]
def aBG{no ba oc v:Int}(ho:HouseOk no ba oc fs)(h1:1<=v)(h2:v<=fs.length)(hm:2<=fs.length)(hR:∀d∈rs,RuleD no ba oc (fs.length:Int) d)(h8:rs.length<=8)(hx:∀x∈xs,0<=x/\x<no)(lx:xs.length<=80) :
  ∃A B H,run T W 29 "without" [.sh (aA no ba oc fs rs),.sh (.int v)]=some (.ok (.sh H),[.sh (aA no ba oc fs rs),.sh (.int v)])/\H=aA no ba oc (dM fs (lf fs.length v)) ((rs.filter λd=>!iD v d).map (fW (nm (lf fs.length v))))/\Told W no ba oc fs rs (lf fs.length v) (λd=>!iD v d) xs A B:=by
 have w:=wf h1 h2 hm ho.l2;have hsh:=λd hd=>qI (hR d hd)
 obtain⟨A,B,t⟩:=FT (keep:=λd=>!iD v d) ho (aDX h1 h2 hm ho.l2) hR (λd hd hk a b e=>by
  rcases(hsh d hd).ne (by simpa using hk) with ⟨x,r,rfl,hx⟩ | ⟨a',b',rfl,q1,q2,q3,q4,q5,q6⟩
  ·cases e;exact absurd hx (by decide +kernel)
  ·cases e
   exact⟨by rw[(w.d a q1 q2 q5).1];rfl,by rw[(w.d b q3 q4 q6).1];rfl⟩) h8 hx lx
 exact⟨A,B,_,B0 (n:=26) w h1 h2 hm ho.l2 hsh (by omega),rfl,t⟩
def law_spec(W:Nat)(ns:List Int)(hn:ns.length<=63):∃as',run T W 30 "law" [.sh (.lst (ns.map .int))]=some (.ok (.sh (.bl true)),as'):=by
 rw[bO UI rfl rfl];have hp1:=CQ (W:=W) (n:=28) (ns:=ns) (k:=1) hn (by omega);have hp2:=CQ (W:=W) (n:=28) (ns:=ns) (k:=2) hn (by omega);replace hp1:run T W 29 "L_pen" [.sh (.lst (ns.map .int)),.sh (.int 1)]=some (.ok (.ow (.lst [.int (gF ns 1).1,.int (gF ns 1).2])),[.sh (.lst (ns.map .int)),.sh (.int 1)]):=hp1;replace hp2:run T W 29 "L_pen" [.sh (.lst (ns.map .int)),.sh (.int 2)]=some (.ok (.ow (.lst [.int (gF ns 2).1,.int (gF ns 2).2])),[.sh (.lst (ns.map .int)),.sh (.int 2)]):=hp2
 generalize (gF ns 1).1=p1 at *
 generalize (gF ns 1).2=p2 at *
 generalize (gF ns 2).1=p3 at *
 generalize (gF ns 2).2=p4 at *
 obtain⟨sh,no,ba,oc,fs,rs,eh,ho,h8,hR⟩:=GB (W:=W) (n:=26) (k:=p1) (s:=p2);replace eh:run T W 29 "L_house" [.p (.lst [.int p1,.int p2])]=some (.ok (.sh (aA no ba oc fs rs)),[.p (.lst [.int p1,.int sh])]):=eh;obtain⟨sl,xs,el,hxl,hxs⟩:=KR (W:=W) (n:=27) (k:=p3) (s:=p4) (no:=no) (mo:=20) (by have:=ho.n1;omega) (by have:=ho.n2;omega) (by decide) (by decide);replace el:run T W 29 "L_line" [.p (.lst [.int p3,.int p4]),.sh (.int no),.sh (.int 20)]=some (.ok (.ow (.lst (xs.map D.int))),[.p (.lst [.int p3,.int sl]),.sh (.int no),.sh (.int 20)]):=el;have lx:xs.length<=80:=by omega
 obtain⟨so,os,eo,hO⟩:=HD (W:=W) (n:=27) (m:=fs.length) (k:=p3) (s:=sl) (by have:=ho.l2;omega);replace eo:run T W 29 "L_order" [.p (.lst [.int p3,.int sl]),.sh (.int fs.length)]=some (.ok (.ow (.lst (os.map D.int))),[.p (.lst [.int p3,.int so]),.sh (.int fs.length)]):=eo;obtain⟨A,B,H1,ex1,eH1,t1,hBA⟩:=NT (W:=W) ho hO hR h8 hxs lx;have i3:fH (some (aA no ba oc fs rs)) (.int 3)=some (.sh (.tup (fs.map dF))):=rfl;have hol:=hO.len;have l1:=ho.l1;have l2:=ho.l2;have pl1:=sH (W:=W) (n:=28) (os:=os) (by omega);replace pl1:run T W 29 "L_places" [.p (.lst (os.map D.int))]=some (.ok (.ow (.dct (nm os))),[.p (.lst (os.map D.int))]):=pl1;have hi:∀U,aD .rng [.val (.sh (.int rs.length))] U=some (rg rs.length,none):=λU=>IZ (by omega)
 obtain⟨t6,e0,h6⟩:=aEa (no:=no) (ba:=ba) (oc:=oc) (fs:=fs) (W:=W) (s0:=.sh (.lst (ns.map .int))) (t2:=.o (.lst [.int p3,.int sl])) (t3:=.o (.lst (xs.map D.int))) (t4:=.o (.lst A)) (t6:=.un) (t7:=.un) (t8:=.un) (t9:=.un) (t10:=.un) (t11:=.un) rfl h8;obtain⟨a1,a2,b1,b2,tt,ne1,_,_⟩:=t1;rw[<- eH1] at b1 b2;rw[hBA] at b2;have nb:bV .NotEq (.bl A.isEmpty) (.bl A.isEmpty)=some false:=IT rfl;have qb:bV .Eq (.bl A.isEmpty) (.bl A.isEmpty)=some true:=TF rfl;have lf':=λ(v:Int) (h1:1<=v) (h2:v<=fs.length) (h3:2<=fs.length)=>aBG (W:=W) (v:=v) ho h1 h2 h3 hR h8 hxs lx
 have l11:=λ(v dr:Int) (K:List (Int×Int)) (H:D)=>aDO (no:=no) (ba:=ba) (oc:=oc) (fs:=fs) (W:=W) (s0:=.sh (.lst (ns.map .int))) (t2:=.o (.lst [.int p3,.int dr])) (t3:=.o (.lst (xs.map D.int))) (t4:=.o (.lst A)) (t6:=t6) (t7:=.o (.lst (os.map D.int))) (t8:=.sh H) (v:=v) (t10:=.o (.dct K)) (t11:=.un) h6 rfl h8 λd hd=>qI (hR d hd)
 show ∃as',JH [.sh (.lst (ns.map .int))] (exs T.pins (run T W 29) W fD.body [.sh (.lst (ns.map .int)),.un,.un,.un,.un,.un,.un,.un,.un,.un,.un,.un])=_
 have hA:exs T.pins (run T W 29) W (fD.body.take 6) [.sh (.lst (ns.map .int)),.un,.un,.un,.un,.un,.un,.un,.un,.un,.un,.un]=some (.nx,[.sh (.lst (ns.map .int)),.sh (aA no ba oc fs rs),.o (.lst [.int p3,.int sl]),.o (.lst (xs.map D.int)),.o (.lst A),.o (.dct (bN (λ_=>true) 0 0 rs)),t6,.un,.un,.un,.un,.un]):=by
  unfold fD;clear hO hR ho h8 hxs hxl lx hol l1 l2 hn h6 eH1 hBA ex1 a2 b1 b2 tt ne1 nb qb lf' l11 eo pl1
  generalize bN (λ_=>true) 0 0 rs=N at *
  walk_at "!%"
 rw[r8 hA];clear hA
 have hB:∀(H0:D) (N K:List (Int×Int)),run T W 29 "exchanged" [.sh H0,.p (.lst (os.map D.int))]=some (.ok (.sh H1),[.sh H0,.p (.lst (os.map D.int))])->fH (some H0) (.int 3)=some (.sh (.tup (fs.map dF))) ->
   run T W 29 "L_places" [.p (.lst (os.map D.int))]=some (.ok (.ow (.dct K)),[.p (.lst (os.map D.int))])->run T W 29 "L_told_anew" [.sh H0,.p (.lst A),.p (.dct K),.p (.dct N)]=some (.ok (.ow (.lst B)),[.sh H0,.p (.lst A),.p (.dct K),.p (.dct N)]) ->
   exs T.pins (run T W 29) W ((fD.body.drop 6).take 3) [.sh (.lst (ns.map .int)),.sh H0,.o (.lst [.int p3,.int sl]),.o (.lst (xs.map D.int)),.o (.lst A),.o (.dct N),t6,.un,.un,.un,.un,.un]=some (.nx,[.sh (.lst (ns.map .int)),.sh H0,.o (.lst [.int p3,.int so]),.o (.lst (xs.map D.int)),.o (.lst A),.o (.dct N),t6,.o (.lst (os.map D.int)),.sh H1,.un,.un,.un]):=by
  intro H0 N K x1 x2 x3 x4;unfold fD;clear hO hR ho h8 hxs hxl lx hol l1 l2 hn h6 eH1 hBA ex1 a1 a2 b2 tt nb qb lf' l11 pl1 e0 hp1 hp2 eh el i3 hi
  walk_at "!%"
 rw[r8 (hB _ _ _ ex1 i3 pl1 tt)];clear hB;by_cases hm:fs.length=1
 ·have hd:decide ((fs.length:Int)=1)=true:=Zn (by omega)
  generalize A.isEmpty=w at *
  clear hO hR ho h8 hxs hxl lx hol l1 l2 hn h6 hm eH1 hBA lf' l11 e0 hp1 hp2 eh el eo pl1 tt ex1 a1 b1 ne1 hi
  generalize bN (λ_=>true) 0 0 rs=N at *
  generalize aA no ba oc fs rs=H0 at *
  unfold fD
  walk_at "!%"
  exact⟨_,rfl⟩
 ·have hd:decide ((fs.length:Int)=1)=false:=Zm (by omega)
  have hC:∀(H0:D) (N:List (Int×Int)),fH (some H0) (.int 3)=some (.sh (.tup (fs.map dF)))->run T W 29 "is_let_by" [.sh H0,~~~xs]=some (.ok (.sh (.bl A.isEmpty)),[.sh H0,~~~xs])->exs T.pins (run T W 29) W (((fD.body.drop 6).drop 3).take 1) [.sh (.lst (ns.map .int)),.sh H0,.o (.lst [.int p3,.int so]),.o (.lst (xs.map D.int)),.o (.lst A),.o (.dct N),t6,.o (.lst (os.map D.int)),.sh H1,.un,.un,.un]=some (.nx,[.sh (.lst (ns.map .int)),.sh H0,.o (.lst [.int p3,.int so]),.o (.lst (xs.map D.int)),.o (.lst A),.o (.dct N),t6,.o (.lst (os.map D.int)),.sh H1,.un,.un,.un]):=by
   intro H0 N x1 x2;unfold fD
   generalize A.isEmpty=w at *
   clear hO hR ho h8 hxs hxl lx hol l1 l2 hn h6 eH1 hBA ex1 a1 a2 b1 tt ne1 lf' l11 pl1 e0 hp1 hp2 eh el eo i3 hi hm
   walk_at "!%"
  rw[r8 (hC _ _ i3 a2)];clear hC nb qb b1 b2 ne1 tt pl1 ex1 eH1;have g1:(0:Int)<(fs.length:Int):=by omega
  have g2:(fs.length:Int)<nofun:=by omega
  have dr:=bQ (W:=W) (n:=28) (k:=p3) (s:=so) g1 g2;have v1:=bA (k:=p3) (s:=so) g1;have v2:=a8 (k:=p3) (s:=so) g1;replace dr:run T W 29 "L_draw" [.p (.lst [.int p3,.int so]),.sh (.int fs.length)]=some (.ok (.sh (.int (aP p3 so (fs.length:Int)))),[.p (.lst [.int p3,.int (aE p3 so (fs.length:Int))]),.sh (.int fs.length)]):=dr;obtain⟨v,hv⟩:∃v,1+aP p3 so (fs.length:Int)=v:=⟨_,rfl⟩
  obtain⟨A',B',H2,ex2,eH2,t2⟩:=lf' v (by omega) (by omega) (by omega);obtain⟨c1,_,d1,d2,tu,ne2,le2,_⟩:=t2
  have hAA:A=A':=by(rw[a1] at c1;simpa using c1)
  subst hAA;rw[<- eH2] at d1 d2
  have hlf:(lf fs.length v).length<=100:=by(unfold lf;refine Zr (List.length_filter_le _ _) ?_;simp;omega)
  have pl2:=sH (W:=W) (n:=28) (os:=lf fs.length v) hlf;replace pl2:run T W 29 "L_places" [.p (.lst ((lf fs.length v).map D.int))]=some (.ok (.ow (.dct (nm (lf fs.length v)))),[.p (.lst ((lf fs.length v).map D.int))]):=pl2;have sml:aJ ((lf fs.length v).map D.int).length=true:=d5 (by rw[List.length_map];omega);obtain⟨tc,ec⟩:=L7 (C:=run T W 29) (m:=fs.length) (v:=v)
  have iM:∀U,aD .rng [.val (.sh (.int 1)),.val (.sh (.int ((fs.length:Int)+1)))] U=some ((List.range fs.length).map λ(j:Nat)=>.int (1+(j:Int)),none):=λU=>by(refine Eq.trans (S8 (m:=1) (n:=(fs.length:Int)+1) rfl rfl (by omega) (by omega)) ?_;rw[show((fs.length:Int)+1-1).toNat=fs.length by omega])
  obtain⟨t6',t11',e9,h6',_⟩:=l11 v (aE p3 so (fs.length:Int)) (nm (lf fs.length v)) H1
  have fin:(B'.isEmpty || !A.isEmpty)=true:=by
   cases q:A.isEmpty with
   |false=>rw[Bool.not_false,Bool.or_true]
   |true=>rw[le2 q];rfl
  generalize A.isEmpty=w at *
  generalize B'.isEmpty=w' at *
  unfold fD;clear hO hR ho h8 hxs hxl lx hol l1 l2 hn h6 h6' hm eH2 hBA v1 v2 g1 g2 hlf c1 le2 l11 lf' hp1 hp2 eh el eo e0 a1
  generalize bN (λ_=>true) 0 0 rs=N at *
  generalize bN (λd=>!iD v d) 0 0 rs=N' at *
  generalize nm (lf fs.length v)=K' at *
  generalize (lf fs.length v).map D.int=L' at *
  generalize aP p3 so (fs.length:Int)=dv at *
  generalize aE p3 so (fs.length:Int)=ds at *
  walk_at "!%"
  rw[cZ (iM _)]
  cases w' with
  |true=>walk_at "!%";exact⟨_,rfl⟩
  |false =>
   rw[Bool.false_or] at fin
   walk_at "!%"
   exact⟨_,rfl⟩
end Mx
namespace PySem.W.Fast
def tw10138606032670270797:=True
def tw10170576843484060948:=True
def tw10170937333603040640:=True
def tw10545966871009726709:=True
def tw10587486519513605361:=True
def tw10587617234194547357:=True
def tw10716317410601902150:=True
def tw10724679849286551422:=True
def tw10801861742457696493:=True
def tw10808882461419843565:=True
def tw10821564706217626397:=True
def tw10829212948567692879:=True
def tw10888259976055373121:=True
def tw10912214969091627988:=True
def tw11009243849936670057:=True
def tw11035405098486020697:=True
def tw11116359342312326274:=True
def tw11179720061242251260:=True
def tw11184042304674273615:=True
def tw11258887956412066828:=True
def tw11472582957299135760:=True
def tw11589313392752051450:=True
def tw11612500261349374189:=True
def tw11618792810843594811:=True
def tw11680397783628328471:=True
def tw1173901766145728843:=True
def tw1175528871495530873:=True
def tw11766661461474270019:=True
def tw11783660031529579982:=True
def tw11787349565219049538:=True
def tw11826168457249326017:=True
def tw12003963487316262019:=True
def tw12099039882521005383:=True
def tw12102423763043052736:=True
def tw12110079164457252301:=True
def tw12278972358171012466:=True
def tw12313525229543771863:=True
def tw1232112431612176275:=True
def tw123864633022899180:=True
def tw12392736612691521418:=True
def tw12402455924796996108:=True
def tw12417936762480270079:=True
def tw1246903312924236544:=True
def tw12520448461091749289:=True
def tw12671793673282497292:=True
def tw12676534258957219574:=True
def tw12772852285453733299:=True
def tw12821424368635878498:=True
def tw12987915773524953879:=True
def tw13016863076129353181:=True
def tw13060723352273158691:=True
def tw13137055663067985047:=True
def tw13292431756321724013:=True
def tw13359782482783874907:=True
def tw133630331566240895:=True
def tw13373783764012963693:=True
def tw1341383589838596489:=True
def tw13503385147088658068:=True
def tw13600754971006849494:=True
def tw13616560206377831502:=True
def tw13670862519098628391:=True
def tw1369287291325536652:=True
def tw13815395604075265420:=True
def tw13843282095332995244:=True
def tw13930819202566814080:=True
def tw14014326512317465948:=True
def tw14038351945517775626:=True
def tw14057666957523838144:=True
def tw14294893166991154655:=True
def tw14383008427677889824:=True
def tw14386324600777481060:=True
def tw14434797939821749965:=True
def tw14434842576611420529:=True
def tw14449131823072340702:=True
def tw14494912153340482261:=True
def tw14507946693582740699:=True
def tw14518596745431954325:=True
def tw14534797840024161831:=True
def tw14561402867883524365:=True
def tw14580535591648984817:=True
def tw14611520461831645466:=True
def tw14704775838553143593:=True
def tw14713149006001824309:=True
def tw14730193985246502329:=True
def tw14752042787012544676:=True
def tw14780415997892288953:=True
def tw14864185840546033556:=True
def tw14889155493535460256:=True
def tw148937692068626672:=True
def tw15101156324206744869:=True
def tw15118062099189594900:=True
def tw15219748000507929739:=True
def tw15262524625875149053:=True
def tw15599348313247367766:=True
def tw1572932172757204277:=True
def tw15839855363340894395:=True
def tw15912584627616756876:=True
def tw1595031160750903681:=True
def tw16013566575555486023:=True
def tw16033407756781001415:=True
def tw16034152872947002759:=True
def tw16080199172173404110:=True
def tw16157072040330727200:=True
def tw16250064940425365344:=True
def tw16290087108368957131:=True
def tw16385833527287248804:=True
def tw16454560320719769465:=True
def tw16489840690175038602:=True
def tw16501494994778159299:=True
def tw1651992514364902200:=True
def tw16567269397923295708:=True
def tw16572449049803002710:=True
def tw16586513991027039145:=True
def tw16642970040308041268:=True
def tw16696956728438406581:=True
def tw16698237743763454894:=True
def tw16703511665171847534:=True
def tw16714555833473013694:=True
def tw1675928328166477960:=True
def tw16770325875943610463:=True
def tw16900421769010169444:=True
def tw16903393305003848451:=True
def tw17020702055185213347:=True
def tw17116691866615838146:=True
def tw17145144727541949648:=True
def tw17200531331193482000:=True
def tw17285000969095680877:=True
def tw17312850418771926888:=True
def tw17354167179734416111:=True
def tw17358182508527033091:=True
def tw17443289721693129932:=True
def tw17448491942802003780:=True
def tw17460408273287761937:=True
def tw17530215540829316094:=True
def tw17602072771461466941:=True
def tw17616989801782829036:=True
def tw17627374818476100326:=True
def tw17677543190483161701:=True
def tw17721449805808970338:=True
def tw17839164464364651153:=True
def tw17866859065852907596:=True
def tw17868443961286765807:=True
def tw1789036339873235705:=True
def tw1813921387057940310:=True
def tw18151584254782522731:=True
def tw18210937391885441779:=True
def tw18259646494388666384:=True
def tw1826187621730283548:=True
def tw18335151121652565330:=True
def tw18345211314800597478:=True
def tw18355270811420245834:=True
def tw18401428454901572255:=True
def tw1850289084281448906:=True
def tw1937917480909036043:=True
def tw2016137730028230335:=True
def tw2227002912948201589:=True
def tw2300782611893034557:=True
def tw2323177839366360795:=True
def tw235392485739710302:=True
def tw2443736568115408645:=True
def tw2580151769120777324:=True
def tw2585077244392879793:=True
def tw2660107304196157513:=True
def tw2665318650225834393:=True
def tw2680611278504718102:=True
def tw2739507652850975971:=True
def tw2771313320591026004:=True
def tw2842746171448871528:=True
def tw2869768721846234069:=True
def tw2948794897379944729:=True
def tw2980809556615923929:=True
def tw3035255776662761998:=True
def tw3158738706117237134:=True
def tw3302930754696862012:=True
def tw3392962708949351205:=True
def tw3410040380832890633:=True
def tw3603850375119014777:=True
def tw3680779236499651617:=True
def tw3759579295503651764:=True
def tw3936322465832426531:=True
def tw3977128138064479663:=True
def tw4087177680987880813:=True
def tw4093227034545297286:=True
def tw4117576872786598026:=True
def tw4167082493411319429:=True
def tw4269963028399773597:=True
def tw4284103910303622314:=True
def tw432026686447355295:=True
def tw4350585050095724347:=True
def tw438678788526151083:=True
def tw4456065325962491600:=True
def tw4490527925790395749:=True
def tw4532570731252130300:=True
def tw4549865502164738875:=True
def tw4617968855513572985:=True
def tw465402226070996693:=True
def tw4778842598332351134:=True
def tw4855538813511250235:=True
def tw4869308116166292914:=True
def tw4884916347826240425:=True
def tw5002588197717467520:=True
def tw5122382708223515879:=True
def tw5152325946939717233:=True
def tw51942403776973221:=True
def tw5263523597560544109:=True
def tw5437644328202364233:=True
def tw5530363530480198485:=True
def tw5671330310965022012:=True
def tw5703660883218667350:=True
def tw5744598858178171965:=True
def tw5747494057851116604:=True
def tw5792486800604879266:=True
def tw5801806589098985422:=True
def tw5869775027235441788:=True
def tw5885287192259126324:=True
def tw5889174563973368576:=True
def tw5893443362617465943:=True
def tw5941923158217363740:=True
def tw5966469706616200960:=True
def tw6101394844364180104:=True
def tw613365012481559850:=True
def tw6285347568168360042:=True
def tw6292597307469670306:=True
def tw6307312618946020459:=True
def tw6317770028420709659:=True
def tw6320205787750752015:=True
def tw6491064927945101590:=True
def tw6618501022791289092:=True
def tw663157787102837684:=True
def tw6640399152158947053:=True
def tw6670598618878078212:=True
def tw6697649347368957169:=True
def tw6698704135601068421:=True
def tw6715518431120963637:=True
def tw6765163871051360081:=True
def tw6799702170526528276:=True
def tw6825373109335188701:=True
def tw6829343617998618505:=True
def tw6847395826380442209:=True
def tw6865108067074015922:=True
def tw6984290875206827000:=True
def tw707807038974941815:=True
def tw7080425748950239448:=True
def tw7103229047346056984:=True
def tw7109821296122096871:=True
def tw7133684165204046138:=True
def tw7150510640656158032:=True
def tw7153359003910204078:=True
def tw7281940542874107414:=True
def tw733113618793247572:=True
def tw7453399261171668218:=True
def tw7519740041501716184:=True
def tw7545722960665159101:=True
def tw7599927926881275292:=True
def tw7628905045200577423:=True
def tw7819549338284838566:=True
def tw7869243137953706206:=True
def tw7881387604198508404:=True
def tw7896370622867668654:=True
def tw7940169013015305611:=True
def tw7998595409821221005:=True
def tw8185327708653158591:=True
def tw8273499466141205059:=True
def tw8308686022452624865:=True
def tw8315382981273183860:=True
def tw8482158014631198581:=True
def tw8502247757298051344:=True
def tw8584704948005545903:=True
def tw8587714932691128672:=True
def tw8607494775526446833:=True
def tw8670241000769382943:=True
def tw8676663727398040090:=True
def tw8677748763046586116:=True
def tw8757573707604515060:=True
def tw8758758153876018870:=True
def tw888556284557140535:=True
def tw8895932706530159075:=True
def tw8930318599034519139:=True
def tw8936233170591657113:=True
def tw9065772161968039352:=True
def tw9116014302726586181:=True
def tw9211914200003896304:=True
def tw9285176772444117312:=True
def tw9372424077327497927:=True
def tw9402160575116521746:=True
def tw9428525916292902148:=True
def tw944664080912554726:=True
def tw9518359041458202182:=True
def tw9560756892059674401:=True
def tw9582757004940945210:=True
def tw9590608453551174575:=True
def tw967063909883246667:=True
def tw967877762762276779:=True
def tw9725633712968984261:=True
def tw9754647825814634537:=True
def tw9805327403477384741:=True
def tw9837996493642505194:=True
def tw9856113560219155516:=True
end PySem.W.Fast
open PySem PySem.W PyProof.Rows
set_option maxRecDepth 100000 in
set_option maxHeartbeats 0 in
theorem PySem.Challenge.cw_canonwright_k59_whole_voices_exchanged_o_holds : PySem.Challenge.rw_canonwright_k59_whole_voices_exchanged_o.Holds := by
 w_on;o_law;k_head;(case hw=>w_witness2)
 k_fill
 refine CI.PL (l:=PySem.Challenge.rw_canonwright_k59_whole_voices_exchanged_o) (T:=Tx.T) (L:=Tx.L) (st:=Tx.top 57) (fn:=Tx.fD) (W:=1000000) (n:=30) (x:="law") (p:="_law_script") (f:="law") rfl rfl ⟨rfl,by decide,by decide,rfl⟩ rfl Tx.UI Tx.J5 (by decide +kernel) (λw h Y=>PySem.W.kIn_of Y) ?factF ?mathM
 case mathM=>exact Mx.law_spec _
 case factF =>
  intro w mg h KX G;have K_Span:CI.ClsAt (L2.cH KX) "Span":=by refine' CI.l8 ?a ?pg ?hd ?po ?sa ?mk ?kp;(case a | pg | hd | po | sa | mk | kp=>dsimp only[L2.cH];k_is)
  have K_Leap:CI.ClsAt (L2.cH KX) "Leap":=by refine' CI.l8 ?a ?pg ?hd ?po ?sa ?mk ?kp;(case a | pg | hd | po | sa | mk | kp=>dsimp only[L2.cH];k_is)
  have K_Back:CI.ClsAt (L2.cH KX) "Back":=by refine' CI.l8 ?a ?pg ?hd ?po ?sa ?mk ?kp;(case a | pg | hd | po | sa | mk | kp=>dsimp only[L2.cH];k_is)
  have K_Again:CI.ClsAt (L2.cH KX) "Again":=by refine' CI.l8 ?a ?pg ?hd ?po ?sa ?mk ?kp;(case a | pg | hd | po | sa | mk | kp=>dsimp only[L2.cH];k_is)
  have K_Range:CI.ClsAt (L2.cH KX) "Range":=by refine' CI.l8 ?a ?pg ?hd ?po ?sa ?mk ?kp;(case a | pg | hd | po | sa | mk | kp=>dsimp only[L2.cH];k_is)
  have K_Above:CI.ClsAt (L2.cH KX) "Above":=by refine' CI.l8 ?a ?pg ?hd ?po ?sa ?mk ?kp;(case a | pg | hd | po | sa | mk | kp=>dsimp only[L2.cH];k_is)
  have K_Never:CI.ClsAt (L2.cH KX) "Never":=by refine' CI.l8 ?a ?pg ?hd ?po ?sa ?mk ?kp;(case a | pg | hd | po | sa | mk | kp=>dsimp only[L2.cH];k_is)
  have D_law:CI.DefAt (L2.cH KX) "law" (Tx.top 57):=by refine' CI.bR ?a ?l ?c ?k;(case a | l | c | k=>dsimp only[L2.cH];k_is)
  have C_LEADER:CI.tU (L2.cH KX) mg Tx.T (CI.bK Tx.L) ("LEADER",.con (.tup [(.int 0),(.int 0),(.bl false)])):=by
   refine' CI.E7 KX G ?a ?l ?c ?z
   (case a | l=>dsimp only[L2.cH];k_is)
   (case c=>first | rfl | decide +kernel)
   (case z=>rfl)
  have C_BY_THE_LINE:CI.tU (L2.cH KX) mg Tx.T (CI.bK Tx.L) ("BY_THE_LINE",.con (.tup [])):=by
   refine' CI.E7 KX G ?a ?l ?c ?z
   (case a | l=>dsimp only[L2.cH];k_is)
   (case c=>first | rfl | decide +kernel)
   (case z=>rfl)
  refine⟨D_law, ?_⟩;unfold Tx.L
  iterate 8 refine CI.fc (by refine' CI.ZN KX G ?a;(case a=>k_is)) ?_
  refine CI.fc (C_LEADER) ?_;refine CI.fc (C_BY_THE_LINE) ?_;refine CI.fc (CI.bB KX G (by refine' CI.bR ?a ?l ?c ?k;(case a | l | c | k=>k_is)) Tx.ED rfl) ?_;refine CI.fc (CI.bB KX G (by refine' CI.bR ?a ?l ?c ?k;(case a | l | c | k=>k_is)) Tx.BC rfl) ?_;refine CI.fc (CI.bB KX G (by refine' CI.bR ?a ?l ?c ?k;(case a | l | c | k=>k_is)) Tx.z8 rfl) ?_;refine CI.fc (CI.bB KX G (by refine' CI.bR ?a ?l ?c ?k;(case a | l | c | k=>k_is)) Tx.IF rfl) ?_;refine CI.fc (CI.bB KX G (by refine' CI.bR ?a ?l ?c ?k;(case a | l | c | k=>k_is)) Tx.BJ rfl) ?_;refine CI.fc (CI.bB KX G (by refine' CI.bR ?a ?l ?c ?k;(case a | l | c | k=>k_is)) Tx.RL rfl) ?_;refine CI.fc (CI.bB KX G (by refine' CI.bR ?a ?l ?c ?k;(case a | l | c | k=>k_is)) Tx.HZ rfl) ?_;refine CI.fc (CI.bB KX G (by refine' CI.bR ?a ?l ?c ?k;(case a | l | c | k=>k_is)) Tx.RR rfl) ?_;refine CI.fc (CI.bB KX G (by refine' CI.bR ?a ?l ?c ?k;(case a | l | c | k=>k_is)) Tx.K7 rfl) ?_;refine CI.fc (CI.bB KX G (by refine' CI.bR ?a ?l ?c ?k;(case a | l | c | k=>k_is)) Tx.U5 rfl) ?_;refine CI.fc (CI.bB KX G (by refine' CI.bR ?a ?l ?c ?k;(case a | l | c | k=>k_is)) Tx.WR rfl) ?_;refine CI.fc (CI.bB KX G (by refine' CI.bR ?a ?l ?c ?k;(case a | l | c | k=>k_is)) Tx.O8 rfl) ?_;refine CI.fc (CI.bB KX G (by refine' CI.bR ?a ?l ?c ?k;(case a | l | c | k=>k_is)) Tx.r9 rfl) ?_;refine CI.fc (CI.bB KX G (by refine' CI.bR ?a ?l ?c ?k;(case a | l | c | k=>k_is)) Tx.JA rfl) ?_;refine CI.fc (CI.bB KX G (by refine' CI.bR ?a ?l ?c ?k;(case a | l | c | k=>k_is)) Tx.GA rfl) ?_;refine CI.fc (CI.bB KX G (by refine' CI.bR ?a ?l ?c ?k;(case a | l | c | k=>k_is)) Tx.D1 rfl) ?_;refine CI.fc (CI.bB KX G (by refine' CI.bR ?a ?l ?c ?k;(case a | l | c | k=>k_is)) Tx.A3 rfl) ?_;refine CI.fc (CI.bB KX G (by refine' CI.bR ?a ?l ?c ?k;(case a | l | c | k=>k_is)) Tx.M5 rfl) ?_;refine CI.fc (CI.bB KX G (by refine' CI.bR ?a ?l ?c ?k;(case a | l | c | k=>k_is)) Tx.x8 rfl) ?_;refine CI.fc (CI.bB KX G (by refine' CI.bR ?a ?l ?c ?k;(case a | l | c | k=>k_is)) Tx.C1 rfl) ?_;refine CI.fc (CI.bB KX G (by refine' CI.bR ?a ?l ?c ?k;(case a | l | c | k=>k_is)) Tx.ON rfl) ?_;refine CI.fc (CI.bB KX G (by refine' CI.bR ?a ?l ?c ?k;(case a | l | c | k=>k_is)) Tx.M4 rfl) ?_;refine CI.fc (CI.bB KX G (by refine' CI.bR ?a ?l ?c ?k;(case a | l | c | k=>k_is)) Tx.MS rfl) ?_;refine CI.fc (CI.bB KX G (by refine' CI.bR ?a ?l ?c ?k;(case a | l | c | k=>k_is)) Tx.HY rfl) ?_;refine CI.fc (CI.bB KX G (by refine' CI.bR ?a ?l ?c ?k;(case a | l | c | k=>k_is)) Tx.LI rfl) ?_;refine CI.fc (CI.bB KX G (by refine' CI.bR ?a ?l ?c ?k;(case a | l | c | k=>k_is)) Tx.II rfl) ?_;refine CI.fc (CI.bB KX G (by refine' CI.bR ?a ?l ?c ?k;(case a | l | c | k=>k_is)) Tx.xO rfl) ?_;refine CI.fc (CI.bB KX G (by refine' CI.bR ?a ?l ?c ?k;(case a | l | c | k=>k_is)) Tx.D7 rfl) ?_;refine CI.fc (CI.bB KX G D_law Tx.J5 rfl) ?_;refine CI.fc (CI.lZ KX G K_Span (by refine' CI.dX ?a ?b ?i ?l ?c ?k;(case a | b | i | l | c | k=>(try dsimp only[L2.cH]);k_is)) Tx.Q8 (by(repeat refine CI.fc (by refine' CI.oR ?a ?b;(case a | b=>(try dsimp only[L2.cH]);k_is)) ?_);exact λ_ h=>nomatch h)) ?_;refine CI.fc (CI.lZ KX G K_Leap (by refine' CI.dX ?a ?b ?i ?l ?c ?k;(case a | b | i | l | c | k=>(try dsimp only[L2.cH]);k_is)) Tx.PQ (by(repeat refine CI.fc (by refine' CI.oR ?a ?b;(case a | b=>(try dsimp only[L2.cH]);k_is)) ?_);exact λ_ h=>nomatch h)) ?_;refine CI.fc (CI.lZ KX G K_Back (by refine' CI.dX ?a ?b ?i ?l ?c ?k;(case a | b | i | l | c | k=>(try dsimp only[L2.cH]);k_is)) Tx.OC (by(repeat refine CI.fc (by refine' CI.oR ?a ?b;(case a | b=>(try dsimp only[L2.cH]);k_is)) ?_);exact λ_ h=>nomatch h)) ?_;refine CI.fc (CI.lZ KX G K_Again (by refine' CI.dX ?a ?b ?i ?l ?c ?k;(case a | b | i | l | c | k=>(try dsimp only[L2.cH]);k_is)) Tx.MT (by(repeat refine CI.fc (by refine' CI.oR ?a ?b;(case a | b=>(try dsimp only[L2.cH]);k_is)) ?_);exact λ_ h=>nomatch h)) ?_;refine CI.fc (CI.lZ KX G K_Range (by refine' CI.dX ?a ?b ?i ?l ?c ?k;(case a | b | i | l | c | k=>(try dsimp only[L2.cH]);k_is)) Tx.LO (by(repeat refine CI.fc (by refine' CI.oR ?a ?b;(case a | b=>(try dsimp only[L2.cH]);k_is)) ?_);exact λ_ h=>nomatch h)) ?_;refine CI.fc (CI.lZ KX G K_Above (by refine' CI.dX ?a ?b ?i ?l ?c ?k;(case a | b | i | l | c | k=>(try dsimp only[L2.cH]);k_is)) Tx.KS (by(repeat refine CI.fc (by refine' CI.oR ?a ?b;(case a | b=>(try dsimp only[L2.cH]);k_is)) ?_);exact λ_ h=>nomatch h)) ?_;refine CI.fc (CI.lZ KX G K_Never (by refine' CI.dX ?a ?b ?i ?l ?c ?k;(case a | b | i | l | c | k=>(try dsimp only[L2.cH]);k_is)) Tx.J4 (by(repeat refine CI.fc (by refine' CI.oR ?a ?b;(case a | b=>(try dsimp only[L2.cH]);k_is)) ?_);exact λ_ h=>nomatch h)) ?_;refine List.forall_mem_cons.mpr ⟨⟨"broken",rfl,by unfold Tx.dP;exact CI.fc (CI.jH K_Span (by refine' CI.dX ?a ?b ?i ?l ?c ?k;(case a | b | i | l | c | k=>(try dsimp only[L2.cH]);k_is)) Tx.wY rfl) (CI.fc (CI.jH K_Leap (by refine' CI.dX ?a ?b ?i ?l ?c ?k;(case a | b | i | l | c | k=>(try dsimp only[L2.cH]);k_is)) Tx.wV rfl) (CI.fc (CI.jH K_Back (by refine' CI.dX ?a ?b ?i ?l ?c ?k;(case a | b | i | l | c | k=>(try dsimp only[L2.cH]);k_is)) Tx.wI rfl) (CI.fc (CI.jH K_Again (by refine' CI.dX ?a ?b ?i ?l ?c ?k;(case a | b | i | l | c | k=>(try dsimp only[L2.cH]);k_is)) Tx.vX rfl) (CI.fc (CI.jH K_Range (by refine' CI.dX ?a ?b ?i ?l ?c ?k;(case a | b | i | l | c | k=>(try dsimp only[L2.cH]);k_is)) Tx.uM rfl) (CI.fc (CI.jH K_Above (by refine' CI.dX ?a ?b ?i ?l ?c ?k;(case a | b | i | l | c | k=>(try dsimp only[L2.cH]);k_is)) Tx.vZ rfl) (CI.fc (CI.jH K_Never (by refine' CI.dX ?a ?b ?i ?l ?c ?k;(case a | b | i | l | c | k=>(try dsimp only[L2.cH]);k_is)) Tx.wC rfl) (λ_ h=>nomatch h)))))))⟩, ?_⟩;refine List.forall_mem_cons.mpr ⟨⟨"forbids",rfl,by unfold Tx.eQ;exact CI.fc (CI.jH K_Span (by refine' CI.dX ?a ?b ?i ?l ?c ?k;(case a | b | i | l | c | k=>(try dsimp only[L2.cH]);k_is)) Tx.uJ rfl) (CI.fc (CI.jH K_Range (by refine' CI.dX ?a ?b ?i ?l ?c ?k;(case a | b | i | l | c | k=>(try dsimp only[L2.cH]);k_is)) Tx.tK rfl) (λ_ h=>nomatch h))⟩, ?_⟩
  iterate 10 refine CI.fc (by refine' CI.aA1 KX G ?a;(case a=>k_is)) ?_
  exact λ_ h=>nomatch h
